import PyProof.Rows.All
import Wide.All
import OpenK.AllK
import Wide.FinOn
import Lean
import PyProof.EqAt
import PyProof.EqKinds
import PyProof.TupleCall
import PyProof.EqLayable
import PyProof.P3In
import PyProof.Draws
import PyProof.EnumMake
import PyProof.CompFree
import PyProof.CompUse
import KE.KRevIter
import PyProof.DictIter
import PyProof.ZipIter
import PyProof.ListMulRoad
import PyProof.ConsumeWalk
import PyProof.ListRange
import PyProof.Rows.Range3
import PyProof.DictItems
import KE.KDictList
import PyProof.DictCalls
import PyProof.DictCopy
import PyProof.DictList
import PyProof.DictUpdate
import PyProof.DictRoads
import PyProof.DictRoadsH
import PyProof.TupleKey
import KE.KSortTup
import KE.KSortAsk
import PyProof.DictKinds
import PyProof.DictValues
import PyProof.DictWalks
import PyProof.Rows.DictUnroll
import PyProof.DictRoadsH
import PySem.Challenge.RW_callmatch_k45_doubled_costs
set_option Elab.async false
set_option linter.all false
set_option maxRecDepth 100000
set_option genSizeOfSpec false
set_option compiler.extract_closed false
set_option maxHeartbeats 4000000
local macro_rules | `(tactic| trivial) => `(tactic| first | exact .inl rfl | exact .inr (.inl rfl) | exact .inr (.inr rfl) | exact .inr rfl | assumption)
set_option hygiene false
local macro_rules | `(tactic| show B) => `(tactic| (simp only [VV]))
local macro_rules | `(@A) => `((hr.mono (by decide)))
local macro_rules | `(tactic| show C) => `(tactic| (refine c8 ?_ ?_))
local macro_rules | `(@B) => `((by decide))
local macro_rules | `(tactic| show E) => `(tactic| (subst hN; left))
local macro_rules | `(@C) => `((model X.prog X.w))
local macro_rules | `(@D) => `((by omega))
local macro_rules | `(tactic| show F) => `(tactic| (refine ⟨π,α,δ,h,_,R,S,f,fun d h1 α1 H1 v1 f1 e1 R1 q1=>?_⟩))
local macro_rules | `(@E) => `((Or.inl rfl))
local macro_rules | `(@F) => `((dC (.int 1)))
local macro_rules | `(tactic| show G) => `(tactic| (rw [if_neg (show ¬ ((Value.ref d == Value.none)=true) from Bool.false_ne_true)]; refine wpAny_bind (wpAny_pure ?_); refine wpAny_bind (wpAny_dictEntries hod hdd ?_); rw [if_neg (by simp)]; refine wpAny_bind (wpAny_pure ?_); refine wpAny_bind (wpAny_dictEpoch hod hdd ?_); rw [if_neg (by simp)]))
local macro_rules | `(@G) => `((Nat.le_refl _))
local macro_rules | `(tactic| show H) => `(tactic| (obtain ⟨π,α,δ,h,Q',R,S,f,k⟩:=zz0))
local macro_rules | `(tactic| show I) => `(tactic| (show wpAny _ _ (newExc (.type "StopIteration") [] >>= _) _ _ _; refine wpAny_bind ?_; simp only [newExc,newTuple]; refine wpAny_bind (wpAny_newObj_type ?_ (by size_fits)); refine wpAny_bind (m:=firstArgMember _ _) (wpAny_of_eq (a:=Value.none) (by first | rfl | (simp only [firstArgMember];rfl)) ?_); refine wpAny_newObj_type ?_ (by size_fits); simp only [raiseNew]))
local macro_rules | `(@H) => `((dC (.int 0)))
local macro_rules | `(tactic| show J) => `(tactic| (intro pins s σ H Q I h))
local macro_rules | `(tactic| show K) => `(tactic| (intro X hP hw hK hc i pins s σ H E I hf st hg; subst hP hw hK))
local macro_rules | `(tactic| show L) => `(tactic| (refine d9 ?_; refine l7 ?_))
local macro_rules | `(tactic| show M) => `(tactic| (refine d9 ?_))
local macro_rules | `(@I) => `((model prog w))
local macro_rules | `(@J) => `((s.heap.objs.size + 1))
local macro_rules | `(tactic| show N) => `(tactic| (simp only [VS]; left))
local macro_rules | `(@K) => `((d8 c9 (sv 2) b9))
local macro_rules | `(@L) => `((Str.ofString "step"))
local macro_rules | `(@M) => `((Addr×Obj))
local macro_rules | `(@N) => `((by simp))
local macro_rules | `(@O) => `((Str.ofString "call"))
local macro_rules | `(tactic| show O) => `(tactic| (intro pins s σ H x y v u Q I rx ry h))
local macro_rules | `(@P) => `((by right))
local macro_rules | `(tactic| show P) => `(tactic| (refine wpAny_bind (wpAny_pure ?_)))
local macro_rules | `(@Q) => `((Str.ofString "within"))
local macro_rules | `(@R) => `((dC (.int 2)))
local macro_rules | `(@S) => `((Str.ofString "start"))
local macro_rules | `(@T) => `((Str.ofString "short"))
local macro_rules | `(@U) => `((Str.ofString "begin"))
local macro_rules | `(@V) => `((Str.ofString "along"))
local macro_rules | `(@W) => `((Ext.refl ..))
local macro_rules | `(@X) => `((.lst xs))
local macro_rules | `(tactic| show Q) => `(tactic| (refine wpAny_bind ?_))
local macro_rules | `(@Y) => `((Str.ofString "over"))
local macro_rules | `(@Z) => `((upd H s.heap.objs.size (.lst [])))
local macro_rules | `(@Aa) => `((Str.ofString "out"))
local macro_rules | `(@Ab) => `((d8 c9 (sv 3) b9))
local macro_rules | `(@Ac) => `((Str.ofString "in"))
local macro_rules | `(@Ad) => `((Str.ofString "at"))
local macro_rules | `(@Ae) => `((((sIx items.size 0 lo:Nat):Int) == 0 && (1:Int) == 1 && (sIx items.size items.size hi - sIx items.size 0 lo) == items.size))
local macro_rules | `(@Af) => `((chE mo nf ps))
local macro_rules | `(tactic| show R) => `(tactic| (obtain ⟨π,α,h,d,e,Q',R,r1,r2,f,k⟩:=zz0))
local macro_rules | `(@Ag) => `((x == ("__debug__":Str)))
local macro_rules | `(tactic| show S) => `(tactic| (refine ⟨π,α,δ,h,_,R,S,f,fun x h1 α1 H1 v1 f1 e1 R1 q1=>?_⟩))
local macro_rules | `(@Ah) => `((d8 c9 (sv 1) b9))
local macro_rules | `(@Ai) => `((o8 X N' scope s0 H0 fp))
local macro_rules | `(@Aj) => `((.ref s.heap.objs.size))
local macro_rules | `(@Ak) => `((Ky×Nat))
local macro_rules | `(@Al) => `((List Key×D))
local macro_rules | `(tactic| show U) => `(tactic| (obtain ⟨a,us1,rfl,h1⟩:=z6 h; obtain ⟨b,us2,rfl,h2⟩:=z6 h1; obtain ⟨c,us3,rfl,h3⟩:=z6 h2))
local macro_rules | `(tactic| show V) => `(tactic| (show (if 0 <= f/\0 <= d then (C[f.toNat]?).bind fun F=>if d < F.facts then some (Clm.within f.toNat d.toNat 0 d.toNat 0) else none else none)=_))
local macro_rules | `(@Am) => `((dC (.int 3)))
local macro_rules | `(tactic| show W) => `(tactic| (refine ⟨π,α,δ,h,_,R,S,f,fun ds h1 α1 H1 vs f1 e1 R1 q1 l1=>?_⟩))
local macro_rules | `(@An) => `((Option Value))
local macro_rules | `(tactic| show X) => `(tactic| (rw [q] at h))
local macro_rules | `(tactic| show Y) => `(tactic| (rw [hp] at e1; cases e1))
local macro_rules | `(@Ao) => `((starEach es X.env))
local macro_rules | `(@Ap) => `((M7 (K5 tg kc ke) (kN [g,b]) (.ref (h0.length + (9 + y.length)))))
local macro_rules | `(@Aq) => `((apos.endLine == cpos.line))
local macro_rules | `(tactic| show Z) => `(tactic| (obtain ⟨St,si,st⟩:=s π' sub; refine ⟨St,⟨si.keep,si.priv,fun α H h i d R st ok hi=>?_,fun α H h R st ok=>?_⟩,st⟩))
local macro_rules | `(@Ar) => `((.dT kvs))
local macro_rules | `(@As) => `((List Key×V))
local macro_rules | `(@At) => `((b7 (b8 3) f9))
local macro_rules | `(@Au) => `((b6 (sv 3) c7))
local macro_rules | `(@Av) => `((.Call (.Name x p) (e :: es) [] pos))
local macro_rules | `(@Aw) => `((s9 F3 rfl T.b_len PySem.boot_len (b6 (sv 0) c7)))
local macro_rules | `(tactic| show Aa) => `(tactic| (intro pins s σ H xs us Q I r h))
local macro_rules | `(tactic| show Ab) => `(tactic| (intro pins s σ H D I h))
local macro_rules | `(@Ax) => `((.ref a))
local macro_rules | `(tactic| show Ac) => `(tactic| (obtain ⟨π,α,h,ds,Q',R,rs,f,k⟩:=zz0))
local macro_rules | `(@Ay) => `((d8 c9 (sv 4) b9))
local macro_rules | `(tactic| show Ad) => `(tactic| (simp only [d1,VV]))
local macro_rules | `(@Az) => `((z5 hr.units))
local macro_rules | `(tactic| show Ae) => `(tactic| (obtain ⟨t,rfl⟩:=rx))
local macro_rules | `(@AA) => `((dC .non))
local macro_rules | `(@AB) => `((dUn (p5 "Queue" "heap") (b8 0)))
local macro_rules | `(tactic| show Af) => `(tactic| (obtain ⟨us,hq,rs⟩:=si.get α H h R st ok))
local macro_rules | `(tactic| show Ag) => `(tactic| (obtain ⟨o,e,c,d⟩:=st; exact ⟨o,e,fun v z=>by rw [d] at z;cases z⟩))
local macro_rules | `(tactic| show Ah) => `(tactic| (obtain rfl:u=Value.ref a:=rx))
local macro_rules | `(@AC) => `((.ref it))
local macro_rules | `(tactic| show Ai) => `(tactic| (obtain ⟨x,H1,I1,r1,q1⟩:=zz0))
local macro_rules | `(@AD) => `((ha pins s σ H _ I h))
local macro_rules | `(tactic| show Aj) => `(tactic| (obtain ⟨hs,rfl,_⟩:=a.ex; rw [w9]))
local macro_rules | `(@AE) => `((.ref C_Search))
local macro_rules | `(@AF) => `((pEq false))
local macro_rules | `(tactic| show Ak) => `(tactic| (refine ⟨⟨by right,by right,by decide⟩,?_⟩))
local macro_rules | `(@AG) => `((kvs.any fun kv=>decide (kv.1=k)))
local macro_rules | `(@AH) => `((.inl rfl))
local macro_rules | `(@AI) => `((.ListComp elt [⟨tg,iter,ifs,0⟩] scope cpos))
local macro_rules | `(tactic| show Al) => `(tactic| (subst ey; obtain ⟨z,hd,vs,rel,dd⟩:=Z1 I.hok e))
local macro_rules | `(tactic| show Am) => `(tactic| (refine y1 ?_ (d9 (l7 n5)) m5))
local macro_rules | `(@AJ) => `((s.I ++ [(x.2.1,x.1)]))
local macro_rules | `(@AK) => `((keywordEach [] X.env))
local macro_rules | `(@AL) => `((.ListComp elt [⟨tg,iter,ifs,0⟩] scope pos))
local macro_rules | `(@AM) => `((gpL c ky I0.length n E))
local macro_rules | `(@AN) => `((y4 X.env.cells scope.names []))
local macro_rules | `(@AO) => `((en.map nD))
local macro_rules | `(@AP) => `((ns.map D.int))
local macro_rules | `(@AQ) => `((List Key×Addr×Value))
local macro_rules | `(@AR) => `((EP X pins σ Q))
local macro_rules | `(@AS) => `((.ref C))
local macro_rules | `(tactic| show An) => `(tactic| (rw [show E6 f v ((k,x) :: r)=(if k=f then (k,v) :: r else (k,x) :: E6 f v r) from rfl]))
local macro_rules | `(tactic| show Ao) => `(tactic| (obtain ⟨p,us,e1,e2,e3⟩:=R.dT hh; rw [st] at e1; cases e1))
local macro_rules | `(@AT) => `((dC (.int 4)))
local macro_rules | `(@AU) => `((s1.ca g b ++ [⟨c + E.cost,ky,k,n,E⟩]))
local macro_rules | `(@AV) => `((he pins s σ H _ I h))
local macro_rules | `(@AW) => `((b6 (sv 0) (b6 b9 c7)))
local macro_rules | `(@AX) => `((HT.sIx xs.length xs.length hi - HT.sIx xs.length 0 lo))
local macro_rules | `(tactic| show Ap) => `(tactic| (refine fin _ _ ?_ ⟨_,_,_,_,_,_,_,rfl⟩; unfold K6; rw [dq]; unfold stp; dsimp only))
local macro_rules | `(tactic| show Aq) => `(tactic| (refine ⟨π,α1,δ,h1,_,R1,S.mono e1,f1,fun y h2 α2 H2 v2 f2 e2 R2 q2=>?_⟩))
local macro_rules | `(@AY) => `((Clm.within ky.f ky.a E.q e.toNat (x + E.cost + x')))
local macro_rules | `(@AZ) => `((s.heap.push { cls:=.type "dict",data:=.dict #[] }))
local macro_rules | `(@Ba) => `((some (.builtin "object.__setattr__")))
local macro_rules | `(@Bb) => `((ha pos pins s σ H _ I h))
local macro_rules | `(@Bc) => `((F9 F (B6 s n x) x.1 x.2.1 s.I.length))
local macro_rules | `(@Bd) => `((Clm.within f1 a1 E.q e.toNat (c1 + E.cost + c')))
local macro_rules | `(@Be) => `((wpAny_pure ⟨_,rfl,wpAny_pure h⟩))
set_option hygiene true
noncomputable section
section
open PySem PySem.Spec PyProof.Rows
abbrev ZZ:=@List.getElem?_eq_getElem
abbrev ZY:=@List.getElem?_eq_some_iff
abbrev ZX:=@List.mem_singleton
abbrev ZW:=@List.length_append
abbrev ZV:=@Nat.le_refl
abbrev ZU:=@Heap.get?_push_of_some
abbrev ZT:=@List.mem_of_getElem?
abbrev ZS:=@List.length_map
abbrev ZR:=@Bool.false_ne_true
abbrev ZQ:=@List.getD_eq_getElem?_getD
abbrev ZP:=@List.getElem?_map
abbrev ZO:=@List.mem_cons_self
abbrev ZN:=@List.getElem?_append_left
abbrev ZM:=@List.mem_cons_of_mem
abbrev ZL:=@List.length_singleton
abbrev ZK:=@List.mem_append
abbrev ZJ:=@List.mem_append_right
abbrev ZI:=@Heap.get?_push_size
abbrev ZH:=@List.getElem?_set_self
abbrev ZG:=@List.mem_map
abbrev ZF:=@List.size_toArray
abbrev ZE:=@Heap.lt_size
abbrev ZD:=@Nat.lt_of_lt_of_le
abbrev ZC:=@Bool.and_eq_true
abbrev ZB:=@Int.toNat_natCast
abbrev ZA:=@List.getElem?_append_right
abbrev Zz:=@List.map_append
abbrev Zy:=@List.mem_append_left
abbrev Zx:=@List.getElem?_set_ne
abbrev Zw:=@List.length_cons
abbrev Zv:=@List.length_range
abbrev Zu:=@Nat.le_trans
abbrev Zt:=@List.append_assoc
abbrev Zs:=@List.map_cons
abbrev Zr:=@List.append_nil
abbrev Zq:=@List.getElem_mem
abbrev Zp:=@Nat.ne_of_lt
abbrev Zo:=@List.mem_range
abbrev Zn:=@List.set_append_right
abbrev Zm:=@List.getElem?_eq_none
abbrev Zl:=@PySem.AutoSeq1.wpAny_loadPart'
abbrev Zk:=@PySem.mem_of_lookup
abbrev Zj:=@List.nil_append
abbrev Zi:=@List.mem_filter
abbrev Zh:=@List.any_eq_true
abbrev Zg:=@List.map_congr_left
abbrev Zf:=@List.getElem?_range
abbrev Ze:=@Nat.lt_irrefl
abbrev Zd:=@List.map_map
abbrev Zc:=@List.nodup_cons
abbrev Zb:=@List.mem_flatMap
abbrev Za:=@Option.isSome_iff_exists
abbrev YZ:=@List.any_cons
abbrev YY:=@List.replicate_succ
abbrev YX:=@Int.toNat_of_nonneg
abbrev YW:=@Option.map_eq_some_iff
abbrev YV:=@Nat.sub_self
abbrev YU:=@Nat.le_add_right
abbrev YT:=@List.getElem_map
abbrev YS:=@Heap.size_push
abbrev YR:=@PySem.F.slot_dict_get
abbrev YQ:=@PyProof.Rows.boot_int
abbrev YO:=@List.mem_iff_getElem
abbrev YN:=@Int.zero_add
abbrev YM:=@List.length_take
abbrev YL:=@Nat.zero_le
abbrev YK:=@Nat.le_succ
abbrev YJ:=@Calls.spliced_cons
abbrev YI:=@List.length_set
abbrev YH:=@List.flatten_cons
abbrev YG:=@List.set_set
end
namespace L2
open PySem PySem.Spec PyProof.Rows
abbrev Key:=Sum Int Str
def X7:Key->Value->Bool
 |.inl k,v=>Value.isInt k v
 |.inr x,v=>Value.isStrOf x v
def c2r(w:World):Key->Int
 |.inl k=>hashInt k
 |.inr x=>hashStr w x
theorem t9:∀ {k:Key} {v:Value},X7 k v=true->(∃ i t,k=Sum.inl i/\v=Value.int i t)\/(∃ x t,k=Sum.inr x/\v=Value.str x t)
 |.inl i,v,h=>by
  obtain ⟨t,e⟩:=Value.isInt_shape (k:=i) (v:=v) h;exact .inl ⟨i,t,rfl,e⟩
 |.inr x,v,h=>by
  obtain ⟨t,e⟩:=Value.isStrOf_shape (x:=x) (v:=v) h;exact .inr ⟨x,t,rfl,e⟩
theorem a6Y(i:Int)(t:Tok):X7 (.inl i) (.int i t)=true:=by simp [X7,Value.isInt]
theorem a6u(x:Str)(t:Tok):X7 (.inr x) (.str x t)=true:=by simp [X7,Value.isStrOf]
theorem b8p(a b:Int):decide ((Sum.inl a:Key)=Sum.inl b)=(a == b):=by
 by_cases e:a=b
 ·subst e;simp
 ·have h:¬ (Sum.inl a:Key)=Sum.inl b:=λ q=>e (Sum.inl.inj q);rw [decide_eq_false h];exact (beq_eq_false_iff_ne.mpr e).symm
theorem b6y(a b:Str):decide ((Sum.inr a:Key)=Sum.inr b)=decide (a=b):=by
 by_cases e:a=b
 ·subst e;simp
 ·have h:¬ (Sum.inr a:Key)=Sum.inr b:=λ q=>e (Sum.inr.inj q);rw [decide_eq_false h,decide_eq_false e]
theorem b9H(a:Int)(b:Str):decide ((Sum.inl a:Key)=Sum.inr b)=false:=decide_eq_false (λ q=>nomatch q)
theorem b8o(a:Str)(b:Int):decide ((Sum.inr a:Key)=Sum.inl b)=false:=decide_eq_false (λ q=>nomatch q)
def j8(prog:Program)(w:World):PySem.KeyKind prog w Key where
 is:=X7
 hash:=c2r w
 inj:=λ v a b ha hb=>by
  rcases t9 ha with ⟨i,t,rfl,rfl⟩ | ⟨x,t,rfl,rfl⟩
  ·rcases t9 hb with ⟨j,u,rfl,e⟩ | ⟨y,u,rfl,e⟩
   ·injection e with e1 _;rw [e1]
   ·exact nomatch e
  ·rcases t9 hb with ⟨j,u,rfl,e⟩ | ⟨y,u,rfl,e⟩
   ·exact nomatch e
   ·injection e with e1 _;rw [e1]
 byValue:=λ k v h=>by
  rcases t9 h with ⟨i,t,rfl,rfl⟩ | ⟨x,t,rfl,rfl⟩ <;> rfl
 pyHash:=λ hv h=>by
  rcases t9 hv with ⟨i,t,rfl,rfl⟩ | ⟨x,t,rfl,rfl⟩
  ·exact wpAny_pyHash_int h
  ·exact wpAny_pyHash_str h
 eqBool:=λ hu hv h=>by
  rcases t9 hu with ⟨i,t,rfl,rfl⟩ | ⟨x,t,rfl,rfl⟩
  ·rcases t9 hv with ⟨j,u,rfl,rfl⟩ | ⟨y,u,rfl,rfl⟩
   ·rw [b8p] at h;exact wpAny_eqBool_int h
   ·rw [b9H] at h;exact SeqAt.EqAt.int_str i t y u _ _ _ _ h
  ·rcases t9 hv with ⟨j,u,rfl,rfl⟩ | ⟨y,u,rfl,rfl⟩
   ·rw [b8o] at h;exact SeqAt.EqAt.str_int x t j u _ _ _ _ h
   ·rw [b6y] at h;exact wpAny_eqBool_str h
 «strs»:=λ k x t v h=>by
  rcases t9 h with ⟨i,u,rfl,e⟩ | ⟨y,u,rfl,e⟩
  ·exact nomatch e
  ·injection e with e1 _
   subst e1
   cases v <;> rfl
theorem a3r(prog:Program)(w:World)(i:Int)(t:Tok):(j8 prog w).is (.inl i) (.int i t)=true:=a6Y i t
theorem a3x(prog:Program)(w:World)(x:Str)(t:Tok):(j8 prog w).is (.inr x) (.str x t)=true:=a6u x t
end L2
namespace L2
open PySem PySem.Spec PyProof.Rows
inductive V where
 |non | bl (b:Bool) | int (i:Int) | str (x:Str) | byt (b:Array UInt8) | flt (b:UInt64) | ref (a:Addr) | ty (n:String)
 deriving DecidableEq
def RelV:V->Value->Prop
 |.non,u=>u=Value.none
 |.bl b,u=>u=Value.bool b
 |.int i,u=>∃ t,u=Value.int i t
 |.str x,u=>∃ t,u=Value.str x t
 |.byt b,u=>∃ t,u=Value.bytes b t
 |.flt b,u=>∃ t,u=Value.float b t
 |.ref a,u=>u=Value.ref a
 |.ty n,u=>u=Value.type n
abbrev Vals:List V->List Value->Prop:=Paired RelV
theorem Vals.length{xs:List V}{us:List Value}(r:Vals xs us):xs.length=us.length:=Paired.length r
theorem Vals.get:∀ {xs:List V} {us:List Value} {i:Nat} {x:V},Vals xs us->xs[i]?=some x->∃ u,us[i]?=some u/\RelV x u
 |_,_,_,_,.nil,e=>by simp at e
 |_,_,0,_,.cons r _,e=>by simp at e;subst e;exact ⟨_,rfl,r⟩
 |_,_,i + 1,x,.cons _ t,e=>by
  obtain ⟨u,h1,h2⟩:=Vals.get (i:=i) (x:=x) t (by simpa using e);exact ⟨u,by simpa using h1,h2⟩
theorem Vals.set{x:V}{u:Value}(r:RelV x u):∀ {xs:List V} {us:List Value} (i:Nat),Vals xs us->Vals (xs.set i x) (us.set i u)
 |_,_,_,.nil=>.nil
 |_,_,0,.cons _ t=>.cons r t
 |_,_,i + 1,.cons q t=>.cons q (Vals.set r i t)
theorem Vals.append:∀ {xs ys:List V} {us ws:List Value},Vals xs us->Vals ys ws->Vals (xs ++ ys) (us ++ ws)
 |_,_,_,_,.nil,s=>s
 |_,_,_,_,.cons r t,s=>.cons r (Vals.append t s)
theorem Vals.take:∀ {xs:List V} {us:List Value} (n:Nat),Vals xs us->Vals (xs.take n) (us.take n)
 |_,_,0,_=>.nil
 |_,_,_ + 1,.nil=>.nil
 |_,_,n + 1,.cons r t=>.cons r (Vals.take n t)
theorem Vals.drop:∀ {xs:List V} {us:List Value} (n:Nat),Vals xs us->Vals (xs.drop n) (us.drop n)
 |_,_,0,r=>r
 |_,_,_ + 1,.nil=>.nil
 |_,_,n + 1,.cons _ t=>Vals.drop n t
def RelO:Option V->Option Value->Prop
 |some v,some u=>RelV v u
 |none,none=>True
 |_,_=>False
def KV{κ:Type}:List (κ×V)->List (κ×Value)->Prop:=Paired λ (p:κ×V) (q:κ×Value)=>p.1=q.1/\RelV p.2 q.2
def kV:Key->V
 |.inl i=>.int i
 |.inr x=>.str x
inductive HO where
 |lst (xs:List V)
 |tup (xs:List V)
 |dK (kvs:List (Key×V)) | dT (kvs:List @As)
 |set (S:Int->Bool) (n:Nat)
 |ins (C dx:Addr) (fs:List (Str×V))
 |own (x:Addr)
 |xd (fs:List (Str×V))
 |met (f x:Addr)
 |rng (lo hi:Int)
 |frz (o:Obj) (u:HO)
 |tbl (ps:Array Value)
 |ext (φ:Heap->Prop)
abbrev Hp:=Addr->Option HO
def upd(H:Hp)(a:Addr)(o:HO):Hp:=λ b=>if b=a then some o else H b
theorem j3{H:Hp}{a:Addr}{o:HO}:upd H a o a=some o:=by unfold upd;rw [if_pos rfl]
theorem k9{H:Hp}{a b:Addr}{o:HO}(h:b ≠ a):upd H a o b=H b:=by unfold upd;rw [if_neg h]
theorem a5B{H:Hp}{a b:Addr}{o u:HO}(h:H a=some o)(h':H b=some u)(d:o ≠ u):a ≠ b:=by
 intro e;subst e;rw [h] at h';exact d (Option.some.inj h')
theorem A2{H:Hp}{a b:Addr}{o:HO}(h:H a=some o)(h':H b=none):a ≠ b:=by
 intro e;subst e;rw [h] at h';cases h'
section
variable (P:Program) (w:World)
def ObjOk(H:Hp)(h:Heap)(a:Addr):HO->Prop
 |.lst xs=>xs.length <= sizeLine/\∃ (its:List Value) (n:Nat),Vals xs its/\h.get? a=some { cls:=.type "list",data:=.seq its.toArray n }
 |.tup xs=>xs.length <= sizeLine/\∃ its:List Value,Vals xs its/\IsTup h a its.toArray
 |.dK kvs=>kvs.length <= sizeLine/\(a == sysModules)=false/\∃ vs,KV kvs vs/\h.DictOf (j8 P w) a vs
 |.dT kvs=>kvs.length <= sizeLine/\(a == sysModules)=false/\∃ xs:List @AQ,
   Paired (λ (p:List Key×V) (q:List Key×Addr×Value)=>p.1=q.1/\H q.2.1=some (.tup (p.1.map kV))/\RelV p.2 q.2.2) kvs xs /\
   ∃ o es ep,h.get? a=some o/\o.ExactDict/\o.data = .dict es ep/\es.toList=xs.map (entryOfKey (tupleKind (j8 P w)))/\(xs.map (·.1)).Nodup
 |.set S n=>h.SetOf (intKind P w) a S n
 |.ins C dx fs=>H dx=some (.own a)/\fs.length <= 1000/\dx ≠ a/\h.get? a=some (PySem.W.instObj C dx) /\
   ∃ mA,h.Ns1 dx mA/\(∀ f,RelO (fs.lookup f) (mA f))/\PySem.Within mA (fs.map (·.1))
 |.own _=>∃ o,h.get? a=some o
 |.xd fs=>∃ mA,h.Ns1 a mA/\∀ f,RelO (fs.lookup f) (mA f)
 |.rng lo hi=>∃ t u v,h.get? a=some { cls:=.type "range",data:=.fields #[.int lo t,.int hi u,.int 1 v] }
 |.frz o u=>h.get? a=some o/\ObjOk H h a u
 |.tbl ps=>h.get? a=some { cls:=.none,data:=.fields ps }
 |.met f x=>h.get? a=some (PySem.W.methodObj (.ref f) (.ref x))
 |.ext φ=>φ h/\(∃ o,h.get? a=some o)/\∀ h1 h2:Heap,φ h1->(∀ o,h1.get? a=some o->h2.get? a=some o)->φ h2
def HOk(H:Hp)(h:Heap):Prop:=∀ a o,H a=some o->ObjOk P w H h a o
end
section
variable {P:Program} {w:World} {H H':Hp} {h h':Heap} {a:Addr} {o:HO}
theorem ObjOk.lt(x:ObjOk P w H h a o):a < h.objs.size:=by
 cases o with
 |lst xs=>obtain ⟨_,_,_,_,e⟩:=x;exact ZE e
 |tup xs=>obtain ⟨_,_,_,p⟩:=x;exact p.lt
 |dK kvs=>obtain ⟨_,_,_,_,o,_,_,e,_⟩:=x;exact ZE e
 |dT kvs=>obtain ⟨_,_,_,_,o,_,_,e,_⟩:=x;exact ZE e
 |set S n=>obtain ⟨o,_,_,_,e,_⟩:=x;exact ZE e
 |ins C dx fs=>obtain ⟨_,_,_,e,_⟩:=x;exact ZE e
 |own y=>obtain ⟨_,e⟩:=x;exact ZE e
 |xd fs=>obtain ⟨_,⟨_,_,_,e,_⟩,_⟩:=x;exact ZE e
 |rng lo hi=>obtain ⟨_,_,_,e⟩:=x;exact ZE e
 |frz ob u=>obtain ⟨e,_⟩:=x;exact ZE e
 |tbl ps=>exact ZE (show h.get? a=some _ from x)
 |met f y=>exact ZE (show h.get? a=some _ from x)
 |ext φ=>obtain ⟨_,⟨_,e⟩,_⟩:=x;exact ZE e
theorem Paired.mapP{α β:Type}{F G:α->β->Prop}{l₁:List α}{l₂:List β}(h:Paired F l₁ l₂)(f:∀ a b,F a b->G a b):Paired G l₁ l₂:=by
 induction h with
 |nil=>exact .nil
 |cons r _ ih=>exact .cons (f _ _ r) ih
theorem ObjOk.stay(x:ObjOk P w H h a o)(k:∀ b u,(b=a\/H b=some (.own a))->h.get? b=some u->h'.get? b=some u)
  (ho:∀ b,H b=some (.own a)->H' b=some (.own a)) (ht:∀ b xs,H b=some (.tup xs)->H' b=some (.tup xs)):ObjOk P w H' h' a o:=by
 induction o with
 |lst xs=>obtain ⟨z,its,n,r,e⟩:=x;exact ⟨z,its,n,r,k _ _ @AH e⟩
 |tup xs=>obtain ⟨z,its,r,ob,e,c⟩:=x;exact ⟨z,its,r,ob,k _ _ @AH e,c⟩
 |dK kvs=>obtain ⟨z,y,vs,r,ob,es,ep,e,c⟩:=x;exact ⟨z,y,vs,r,ob,es,ep,k _ _ @AH e,c⟩
 |dT kvs =>
  obtain ⟨z,y,xs,r,ob,es,ep,e,c⟩:=x;exact ⟨z,y,xs,Paired.mapP r λ p q z=>⟨z.1,ht _ _ z.2.1,z.2.2⟩,ob,es,ep,k _ _ @AH e,c⟩
 |set S n=>obtain ⟨ob,es,ep,t,e,c⟩:=x;exact ⟨ob,es,ep,t,k _ _ @AH e,c⟩
 |ins C dx fs =>
  obtain ⟨d,z,ne,e,mA,⟨od,es,ep,e2,c⟩,r⟩:=x;exact ⟨ho _ d,z,ne,k _ _ @AH e,mA,⟨od,es,ep,k _ _ (.inr d) e2,c⟩,r⟩
 |own y=>obtain ⟨ob,e⟩:=x;exact ⟨ob,k _ _ @AH e⟩
 |xd fs=>obtain ⟨mA,⟨od,es,ep,e,c⟩,r⟩:=x;exact ⟨mA,⟨od,es,ep,k _ _ @AH e,c⟩,r⟩
 |rng lo hi=>obtain ⟨t,u,v,e⟩:=x;exact ⟨t,u,v,k _ _ @AH e⟩
 |frz ob u ih=>obtain ⟨e,q⟩:=x;exact ⟨k _ _ @AH e,ih q⟩
 |tbl ps =>
  have e:h.get? a=some { cls:=.none,data:=.fields ps }:=x;show h'.get? a=some { cls:=.none,data:=.fields ps };exact k a _ @AH e
 |met f y =>
  have e:h.get? a=some (PySem.W.methodObj (.ref f) (.ref y)):=x;show h'.get? a=some (PySem.W.methodObj (.ref f) (.ref y));exact k a _ @AH e
 |ext φ=>obtain ⟨p,⟨o,e⟩,st⟩:=x;exact ⟨st _ _ p λ o q=>k _ _ @AH q,⟨o,k _ _ @AH e⟩,st⟩
theorem HOk.lt(x:HOk P w H h)(e:H a=some o):a < h.objs.size:=(x a o e).lt
theorem HOk.fresh(x:HOk P w H h)(e:h.objs.size <= a):H a=none:=by
 cases q:H a with
 |none=>rfl
 |some u=>exact absurd (ZD (x.lt q) e) (Ze _)
theorem HOk.kept(x:HOk P w H h)(k:∀ b u,h.get? b=some u->h'.get? b=some u):HOk P w H h':=λ a o e =>
 (x a o e).stay (λ b u _ q=>k b u q) (λ _ q=>q) λ _ _ q=>q
theorem HOk.laid(x:HOk P w H h)(k:∀ b u,h.get? b=some u->h'.get? b=some u)(hp:h.objs.size <= a)(new:ObjOk P w (upd H a o) h' a o):HOk P w (upd H a o) h':=λ b u e=>by
 have hn:=x.fresh hp
 by_cases hb:b=a
 ·subst hb;rw [j3] at e;cases e;exact new
 ·rw [k9 hb] at e;exact (x b u e).stay (λ c v _ q=>k c v q) (λ c q=>by rw [k9 (A2 q hn)];exact q) λ c xs q=>by rw [k9 (A2 q hn)];exact q
end
def Rd(H:Hp)(a:Addr)(u:HO):Prop:=H a=some u\/∃ o,H a=some (.frz o u)
theorem Rd.ok{P:Program}{w:World}{H:Hp}{h:Heap}{a:Addr}{u:HO}(r:Rd H a u)(x:HOk P w H h):ObjOk P w H h a u:=by
 rcases r with r | ⟨o,r⟩
 ·exact x a u r
 ·obtain ⟨_,q⟩:=x a _ r;exact q
def Mut:Option HO->Prop
 |some (.lst _)=>True
 |some (.dK _)=>True
 |some (.dT _)=>True
 |some (.set _ _)=>True
 |some (.ins _ _ _)=>True
 |some (.ext _)=>True
 |_=>False
section
variable {P:Program} {w:World} {H:Hp} {h h':Heap} {x e:Addr} {o':HO}
theorem HOk.write(ok:HOk P w H h)(mu:Mut (H x))(he:e=x\/H e=some (.own x))(k:∀ b u,b ≠ e->h.get? b=some u->h'.get? b=some u)(heo:∃ u,h'.get? e=some u)
  (new:ObjOk P w (upd H x o') h' x o'):HOk P w (upd H x o') h':=λ b u q=>by
 have nown:∀ c y,H c=some (.own y)->c ≠ x:=λ c y r z=>by subst z;rw [r] at mu;exact mu
 have ntup:∀ c xs,H c=some (.tup xs)->c ≠ x:=λ c xs r z=>by subst z;rw [r] at mu;exact mu
 by_cases hb:b=x
 ·subst hb;rw [j3] at q;cases q;exact new
 ·rw [k9 hb] at q
  by_cases hbe:b=e
  ·have q':H b=some (.own x):=by
    rcases he with z | z
    ·exact absurd (hbe.trans z) hb
    ·rw [hbe];exact z
   rw [q] at q';cases q'
   obtain ⟨v,hv⟩:=heo;exact ⟨v,by rw [hbe];exact hv⟩
  ·refine (ok b u q).stay (λ c v hc r=>k c v ?_ r) (λ c r=>by rw [k9 (nown c b r)];exact r) λ c xs r=>by rw [k9 (ntup c xs r)];exact r
   rcases hc with rfl | hc
   ·exact hbe
   ·rintro rfl
    rcases he with z | z
    ·exact nown c b hc z
    ·rw [hc] at z;cases z;exact hb rfl
end
structure Un(fs ex:List Addr)(H H':Hp)(h h':Heap):Prop where
 keep:∀ b o,h.get? b=some o->H b=none->b ∉ fs->b ∉ ex->h'.get? b=some o
 slot:∀ b o,h.get? b=some o->H b=none->b ∈ fs->b ∉ ex->∃ sl,h'.get? b=some { o with slots:=sl }
 free:∀ b o,h.get? b=some o->H b=none->b ∉ ex->H' b=none
 there:∀ b o,h.get? b=some o->b ∉ ex->∃ o',h'.get? b=some o'
 tups:∀ b xs,H b=some (.tup xs)->H' b=some (.tup xs)
 frzs:∀ b o u,H b=some (.frz o u)->H' b=some (.frz o u)
 tbls:∀ b ps,H b=some (.tbl ps)->∃ more,H' b=some (.tbl (ps ++ more))
section
variable {fs fs' ex ex':List Addr} {H H1 H2:Hp} {h h1 h2 h':Heap} {a x e:Addr} {o:HO}
theorem Un.any(u:Un fs ex H H1 h h1){b:Addr}{ob:Obj}(q:h.get? b=some ob)(n:H b=none)(hx:b ∉ ex):∃ sl,h1.get? b=some { ob with slots:=sl }:=by
 by_cases hb:b ∈ fs
 ·exact u.slot b ob q n hb hx
 ·exact ⟨ob.slots,u.keep b ob q n hb hx⟩
theorem Un.kept(k:∀ b u,h.get? b=some u->h'.get? b=some u):Un fs ex H H h h' :=
 ⟨λ b ob q _ _ _=>k b ob q,λ b ob q _ _ _=>⟨ob.slots,k b ob q⟩,λ _ _ _ n _=>n,λ b ob q _=>⟨ob,k b ob q⟩,λ _ _ q=>q,λ _ _ _ q=>q,λ _ ps q=>⟨#[],by rw [q];simp⟩⟩
theorem Un.refl:Un fs ex H H h h:=Un.kept λ _ _ q=>q
theorem Un.laid(k:∀ b u,h.get? b=some u->h'.get? b=some u)(hp:h.objs.size <= a)(hn:H a=none):Un fs ex H (upd H a o) h h' where
 keep:=λ b u q _ _ _=>k b u q
 slot:=λ b u q _ _ _=>⟨u.slots,k b u q⟩
 free:=λ b u q n _=>by rw [k9 (Zp (ZD (ZE q) hp))];exact n
 there:=λ b u q _=>⟨u,k b u q⟩
 tups:=λ b xs q=>by rw [k9 (A2 q hn)];exact q
 frzs:=λ b u xs q=>by rw [k9 (A2 q hn)];exact q
 tbls:=λ b ps q=>⟨#[],by rw [k9 (A2 q hn),q];simp⟩
theorem Un.write(mu:Mut (H x))(he:e=x\/H e=some (.own x))(k:∀ b u,b ≠ e->h.get? b=some u->h'.get? b=some u)(heo:∃ u,h'.get? e=some u):Un fs ex H (upd H x o) h h':=by
 have hx:∀ b,H b=none->b ≠ x:=λ b n z=>by subst z;rw [n] at mu;exact mu
 have hb:∀ b,H b=none->b ≠ e:=λ b n z=>by
  subst z
  rcases he with r | r
  ·exact hx b n r
  ·rw [n] at r;cases r
 have hm:∀ b u,H b=some u->¬ Mut (some u)->b ≠ x:=λ b u q nm z=>by subst z;rw [q] at mu;exact nm mu
 refine ⟨λ b u q n _ _=>k b u (hb b n) q,λ b u q n _ _=>⟨u.slots,k b u (hb b n) q⟩,λ b u q n _=>by rw [k9 (hx b n)];exact n,λ b u q _=>?_,
  λ b xs q=>by rw [k9 (hm b _ q λ z=>z)];exact q,λ b u xs q=>by rw [k9 (hm b _ q λ z=>z)];exact q,λ b ps q=>⟨#[],by rw [k9 (hm b _ q λ z=>z),q];simp⟩⟩
 by_cases hbe:b=e
 ·subst hbe;exact heo
 ·exact ⟨u,k b u hbe q⟩
end
def trk(h:Heap)(H:Hp):List Addr:=(List.range h.objs.size).filter λ a=>(H a).isSome
def a2q(h:Heap)(H:Hp):Heap:=PySem.W.hideAll h (trk h H)
theorem a6s(h:Heap)(H:Hp):(a2q h H).objs.size=h.objs.size:=PySem.W.hideAll_size _ _
theorem b1h{h:Heap}{H:Hp}{b:Addr}{o:Obj}(e:h.get? b=some o)(n:H b=none):(a2q h H).get? b=some o :=
 PySem.W.hideAll_get _ e λ hm=>by
  have q:(H b).isSome=true:=(Zi.mp hm).2;rw [n] at q;simp at q
theorem b5n{h:Heap}{H:Hp}{b:Addr}{o:Obj}(e:(a2q h H).get? b=some o):h.get? b=some o/\H b=none:=by
 have e':h.get? b=some o:=PySem.W.of_hideAll (trk h H) e;refine ⟨e',?_⟩
 cases q:H b with
 |none=>rfl
 |some x =>
  have hm:b ∈ trk h H:=Zi.mpr ⟨List.mem_range.mpr (ZE e'),by simp [q]⟩;have z:(a2q h H).get? b=none:=PySem.W.hideAll_none (trk h H) hm;rw [z] at e;cases e
end L2
namespace L2
open PySem PySem.Spec PyProof.Rows
structure Mod(K:PySem.W.Frag)(mg:Str->Option Value)(base:Heap):Prop where
 kin:K.In base
 glob:base.Ns mainGlobals mg
 blt:∃ mb,base.Ns builtinsNs mb/\∀ x:Str,x ≠ "__name__"->mb x=bootBuiltins x
 nolimit:base.NoLimit
set_option genInjectivity false in
structure Cx where
 prog:Program
 w:World
 K:PySem.W.Frag
 mg:Str->Option Value
 base:Heap
 A:Around
 N:List Str
 s₀:Shared
 H₀:Hp
 env:Env
 outer:List Env
 stack:List Env
 ex:List Addr
 fn:Str->Bool
 calm:Bool
 pn:List @M
 xe:Value->Shared->Prop
 ex9:Value->Option Addr->Hp->Prop:=λ _ _ _=>False
def frs(l:List Env):List Addr:=l.filterMap (·.frame)
abbrev Cx.fs(X:Cx):List Addr:=frs X.outer
def Vis(sc:Scope)(x:Str):Prop:=sc.names.lookup x=some .local\/sc.names.lookup x=some .cell\/sc.names.lookup x=some .free
def Loc(sc:Scope)(x:Str):Prop:=sc.names.lookup x=some .local\/sc.names.lookup x=some .cell
def c3e(env:Env)(h:Heap)(m:Str->Option Value)(x:Str)(u:Value):Prop :=
 (env.kindOf x=some .local/\m x=some u)\/((env.kindOf x=some .cell\/env.kindOf x=some .free)/\∃ c,env.cells.lookup x=some c/\h.IsCell c (some u))
structure Cx.Ok(X:Cx):Prop where
 mod:Mod X.K X.mg X.base
 kind:X.env.scope.kind = .function
 glob:X.env.globals=mainGlobals
 blt:X.env.builtins=builtinsNs
 above:X.s₀.heap.objs.size <= X.env.locals
 inj:∀ x y c,X.env.cells.lookup x=some c->X.env.cells.lookup y=some c->x=y
 has:∀ x,(X.env.kindOf x=some .cell\/X.env.kindOf x=some .free)->∃ c,X.env.cells.lookup x=some c
 cab:∀ x c,X.fn x=true->X.env.cells.lookup x=some c->X.s₀.heap.objs.size <= c
 hd:X.calm=true->X.A.handled=none
 frames:X.A.frames=some X.stack
 stk:X.stack=X.outer\/(X.stack=X.env :: X.outer/\X.env.frame=some X.env.locals)
 exf:∀ b ∈ X.ex,b ≠ X.env.locals/\∀ x c,X.env.cells.lookup x=some c->c ≠ b
 bs:∀ b o,X.base.get? b=some o->X.s₀.heap.get? b=some o/\X.H₀ b=none
 bsz:X.base.objs.size <= X.s₀.heap.objs.size
 noex:∀ b o,X.base.get? b=some o->b ∉ X.ex
 exfs:∀ b ∈ X.ex,b ∉ X.fs
 funs:X.s₀.heap.FunFrames X.base X.outer
 frf:∀ b ∈ X.fs,X.H₀ b=none
structure Inv(X:Cx)(pins:List (Addr×Obj))(σ:List (Option V))(H:Hp)(s:Shared):Prop where
 ok:X.Ok
 os:s.os=X.s₀.os
 bare:AllBare s.gens
 base:Un X.fs X.ex X.H₀ H X.s₀.heap s.heap
 loc:∃ m,s.heap.Ns X.env.locals m/\∀ (i:Nat) (x:Str) (v:V),X.N[i]?=some x->σ[i]?=some (some v)->Vis X.env.scope x->∃ u,RelV v u/\c3e X.env s.heap m x u
 cell:∀ x c,X.env.cells.lookup x=some c->∃ v,s.heap.IsCell c v
 free:H X.env.locals=none
 freeC:∀ x c,X.env.cells.lookup x=some c->H c=none
 pin:∀ p ∈ X.pn ++ pins,s.heap.get? p.1=some p.2/\H p.1=none/\p.1 ≠ X.env.locals/\p.1 ∉ X.fs/\∀ v,p.2.data ≠ .cell v
 hok:HOk X.prog X.w H s.heap
 len:σ.length=X.N.length
section
variable {X:Cx} {pins:List (Addr×Obj)} {σ:List (Option V)} {H H':Hp} {s:Shared} {h':Heap}
theorem Cx.Ok.nofr(ok:X.Ok){b:Addr}{o:Obj}(e:X.base.get? b=some o):b ∉ X.fs:=λ hb=>by
 have:=(ok.funs.mem hb).1
 rw [e] at this;cases this
theorem Inv.bs(I:Inv X pins σ H s):∀ b o,X.base.get? b=some o->s.heap.get? b=some o/\H b=none:=λ b o e =>
 ⟨I.base.keep b o (I.ok.bs b o e).1 (I.ok.bs b o e).2 (I.ok.nofr e) (I.ok.noex b o e),I.base.free b o (I.ok.bs b o e).1 (I.ok.bs b o e).2 (I.ok.noex b o e)⟩
theorem Inv.bk(I:Inv X pins σ H s):∀ b o,X.base.get? b=some o->s.heap.get? b=some o:=λ b o e=>(I.bs b o e).1
theorem Inv.mod(I:Inv X pins σ H s):Mod X.K X.mg X.base:=I.ok.mod
theorem Inv.kIn(I:Inv X pins σ H s):X.K.In s.heap:=I.ok.mod.kin.keeps I.bk
theorem Inv.lt(I:Inv X pins σ H s):X.env.locals < s.heap.objs.size:=let ⟨_,hn,_⟩:=I.loc;hn.lt
theorem Inv.sz(I:Inv X pins σ H s):X.s₀.heap.objs.size <= s.heap.objs.size:=Zu I.ok.above (Nat.le_of_lt I.lt)
theorem Inv.nofs(I:Inv X pins σ H s){a:Addr}(h:s.heap.objs.size <= a):a ∉ X.fs:=λ hb=>by
 obtain ⟨_,o,ho,_⟩:=I.ok.funs.mem hb;exact absurd (ZD (ZE ho) (Zu I.sz h)) (Ze _)
theorem Inv.cne(I:Inv X pins σ H s):∀ x c,X.env.cells.lookup x=some c->c ≠ X.env.locals:=λ x c e z=>by
 obtain ⟨v,o,ho,hd⟩:=I.cell x c e;obtain ⟨m,⟨o',es,ep,ho',hd',_⟩,_⟩:=I.loc;rw [z,ho'] at ho;cases ho;rw [hd'] at hd;cases hd
theorem Inv.funs(I:Inv X pins σ H s):s.heap.FunFrames X.base X.outer:=by
 have all:∀ (l:List Env),(∀ b ∈ frs l,b ∈ X.fs)->X.s₀.heap.FunFrames X.base l->s.heap.FunFrames X.base l:=by
  intro l
  induction l with
  |nil=>intro _ _;trivial
  |cons env r ih =>
   intro hs hl;obtain ⟨hk,⟨L,o,hf,hn,ho,hd⟩,hr⟩:=hl;have hL:L ∈ X.fs:=hs L (by unfold frs;rw [List.filterMap_cons,hf];exact ZO);obtain ⟨sl,e⟩:=I.base.slot L o ho (I.ok.frf L hL) hL λ z=>I.ok.exfs L z hL;exact ⟨hk,⟨L,_,hf,hn,e,hd⟩,ih (λ b hb=>hs b (by unfold frs;rw [List.filterMap_cons,hf];exact ZM _ hb)) hr⟩
 exact all X.outer (λ _ hb=>hb) I.ok.funs
theorem Inv.stack(I:Inv X pins σ H s):s.heap.FunFrames X.base X.stack:=by
 rcases I.ok.stk with e | ⟨e,hf⟩
 ·rw [e];exact I.funs
 ·rw [e];obtain ⟨m,hn,_⟩:=I.loc;refine .cons (by rw [I.ok.kind];decide) hf hn ?_ I.funs;exact Heap.get?_none_of_le (Zu I.ok.bsz I.ok.above)
theorem Inv.stkSub(I:Inv X pins σ H s):∀ b ∈ frs X.stack,b ∈ X.env.locals :: X.fs:=λ b hb=>by
 rcases I.ok.stk with e | ⟨e,hf⟩
 ·rw [e] at hb;exact ZM _ hb
 ·rw [e] at hb;unfold frs at hb;rw [List.filterMap_cons,hf] at hb;exact hb
theorem Inv.stkFree(I:Inv X pins σ H s):∀ b ∈ frs X.stack,H b=none:=λ b hb=>by
 rcases List.mem_cons.mp (I.stkSub b hb) with e | hb
 ·rw [e];exact I.free
 ·obtain ⟨_,o,ho,_⟩:=I.ok.funs.mem hb;exact I.base.free b o ho (I.ok.frf b hb) λ z=>I.ok.exfs b z hb
theorem Inv.step{g':Array GenState}{t':Nat}{d':Drawn}{ch:List Addr}(I:Inv X pins σ H s)
  (hch:∀ b ∈ ch,(b ∈ X.ex\/X.s₀.heap.objs.size <= b)/\b ≠ X.env.locals/\(∀ x c,X.env.cells.lookup x=some c->c ≠ b)/\∀ p ∈ X.pn ++ pins,p.1 ≠ b)
  (keep:∀ b o,b ≠ X.env.locals->b ∉ X.fs->b ∉ ch->s.heap.get? b=some o->H b=none->h'.get? b=some o)
  (slot:∀ b o,b ≠ X.env.locals->b ∈ X.fs->b ∉ ch->s.heap.get? b=some o->H b=none->∃ sl,h'.get? b=some { o with slots:=sl }) (free:∀ b o,b ∉ ch->s.heap.get? b=some o->H b=none->H' b=none)
  (there:∀ b o,b ∉ ch->s.heap.get? b=some o->∃ o',h'.get? b=some o')
  (tups:∀ b xs,H b=some (.tup xs)->H' b=some (.tup xs)) (frzs:∀ b o u,H b=some (.frz o u)->H' b=some (.frz o u)) (tbls:∀ b ps,H b=some (.tbl ps)->∃ more,H' b=some (.tbl (ps ++ more)))
  (ns:∀ m,s.heap.Ns X.env.locals m->h'.Ns X.env.locals m) (hok:HOk X.prog X.w H' h') (hg:AllBare g') :
  Inv X pins σ H' { s with heap:=h',gens:=g',drawn:=d',toks:=t' }:=by
 have neL:∀ b o,X.s₀.heap.get? b=some o->b ≠ X.env.locals:=λ b o e=>Zp (ZD (ZE e) I.ok.above)
 have neC:∀ b o,X.s₀.heap.get? b=some o->b ∉ X.ex->b ∉ ch:=λ b o e hx hb=>by
  rcases (hch b hb).1 with z | z
  ·exact hx z
  ·exact absurd (ZD (ZE e) z) (Ze _)
 have cellK:∀ x c,X.env.cells.lookup x=some c->∀ v,s.heap.IsCell c v->h'.IsCell c v:=λ x c e v zz0=>by
  obtain ⟨o,ho,hd⟩:=zz0;have nch:c ∉ ch:=λ z=>(hch c z).2.2.1 x c e rfl
  by_cases hc:c ∈ X.fs
  ·obtain ⟨sl,q⟩:=slot c o (I.cne x c e) hc nch ho (I.freeC x c e);exact ⟨_,q,hd⟩
  ·exact ⟨o,keep c o (I.cne x c e) hc nch ho (I.freeC x c e),hd⟩
 refine ⟨I.ok,I.os,hg,⟨λ b o e n hb hx=>?_,λ b o e n hb hx=>?_,λ b o e n hx=>?_,λ b o e hx=>?_,λ b xs e=>tups b xs (I.base.tups b xs e),λ b o xs e=>frzs b o xs (I.base.frzs b o xs e),λ b ps e=>?_⟩,?_,λ x c e=>?_,?_,λ x c e=>?_,λ p hp=>?_,hok,I.len⟩
 ·exact keep b o (neL b o e) hb (neC b o e hx) (I.base.keep b o e n hb hx) (I.base.free b o e n hx)
 ·obtain ⟨sl,e1⟩:=I.base.slot b o e n hb hx;obtain ⟨sl',e2⟩:=slot b _ (neL b o e) hb (neC b o e hx) e1 (I.base.free b o e n hx);exact ⟨sl',e2⟩
 ·obtain ⟨o',e1⟩:=I.base.there b o e hx;exact free b o' (neC b o e hx) e1 (I.base.free b o e n hx)
 ·obtain ⟨o',e1⟩:=I.base.there b o e hx;exact there b o' (neC b o e hx) e1
 ·obtain ⟨m1,e1⟩:=I.base.tbls b ps e;obtain ⟨m2,e2⟩:=tbls b _ e1;exact ⟨m1 ++ m2,by rw [e2,Array.append_assoc]⟩
 ·obtain ⟨m,hn,hl⟩:=I.loc;refine ⟨m,ns m hn,λ i x v e1 e2 e3=>?_⟩;obtain ⟨u,r,l⟩:=hl i x v e1 e2 e3;refine ⟨u,r,?_⟩
  rcases l with l | ⟨k,c,e,z⟩
  ·exact .inl l
  ·exact .inr ⟨k,c,e,cellK x c e _ z⟩
 ·obtain ⟨v,z⟩:=I.cell x c e;exact ⟨v,cellK x c e v z⟩
 ·obtain ⟨m,⟨o,_,_,ho,_⟩,_⟩:=I.loc;exact free _ o (λ z=>(hch _ z).2.1 rfl) ho I.free
 ·obtain ⟨v,o,ho,hd⟩:=I.cell x c e;exact free c o (λ z=>(hch c z).2.2.1 x c e rfl) ho (I.freeC x c e)
 ·obtain ⟨e,n,ne,nf,d⟩:=I.pin p hp;have nch:p.1 ∉ ch:=λ z=>(hch p.1 z).2.2.2 p hp rfl;exact ⟨keep p.1 p.2 ne nf nch e n,free p.1 p.2 nch e n,ne,nf,d⟩
theorem Inv.un{t':Nat}(I:Inv X pins σ H s)(u:Un X.fs [] H H' s.heap h')(hok:HOk X.prog X.w H' h'):Inv X pins σ H' { s with heap:=h',toks:=t' }:=by
 obtain ⟨m,⟨o,es,ep,ho,r⟩,_⟩:=id I.loc;obtain ⟨sl,hL⟩:=u.any ho I.free @N
 exact I.step (g':=s.gens) (d':=s.drawn) (ch:=[]) (λ _ z=>nomatch z) (λ b o _ hb _ e n=>u.keep b o e n hb @N) (λ b o _ hb _ e n=>u.slot b o e n hb @N) (λ b o _ e n=>u.free b o e n @N) (λ b o _ e=>u.there b o e @N) u.tups u.frzs u.tbls (λ m' hm=>by
  obtain ⟨o',es',ep',ho',r'⟩:=hm;rw [ho] at ho';cases ho'
  exact ⟨_,es',ep',hL,r'⟩) hok I.bare
theorem Inv.call{g':Array GenState}{t':Nat}{d':Drawn}{ch:List Addr}(I:Inv X pins σ H s)(u:Un (frs X.stack) ch H H' s.heap h')(hok:HOk X.prog X.w H' h')(hg:AllBare g')
  (hch:∀ b ∈ ch,(b ∈ X.ex\/X.s₀.heap.objs.size <= b)/\b ≠ X.env.locals/\(∀ x c,X.env.cells.lookup x=some c->c ≠ b)/\∀ p ∈ X.pn ++ pins,p.1 ≠ b) :
  Inv X pins σ H' { s with heap:=h',gens:=g',drawn:=d',toks:=t' }:=by
 obtain ⟨m,⟨o,es,ep,ho,r⟩,_⟩:=id I.loc;obtain ⟨sl,hL⟩:=u.any ho I.free λ z=>(hch _ z).2.1 rfl
 exact I.step (ch:=ch) hch (λ b o hL hb hc e n=>u.keep b o e n (λ z=>(List.mem_cons.mp (I.stkSub b z)).elim hL hb) hc) (λ b o _ _ hc e n=>u.any e n hc) (λ b o hc e n=>u.free b o e n hc) (λ b o hc e=>u.there b o e hc) u.tups u.frzs u.tbls (λ m' hm=>by
  obtain ⟨o',es',ep',ho',r'⟩:=hm;rw [ho] at ho';cases ho'
  exact ⟨_,es',ep',hL,r'⟩) hok hg
theorem Inv.turned{t':Nat}{it:Addr}(I:Inv X pins σ H s)(k:∀ b o,b ≠ it->s.heap.get? b=some o->h'.get? b=some o)(hn:H it=none)(hL:it ≠ X.env.locals)
  (h1:it ∈ X.ex\/X.s₀.heap.objs.size <= it) (h2:∀ x c,X.env.cells.lookup x=some c->c ≠ it) (h3:∀ p ∈ X.pn ++ pins,p.1 ≠ it):Inv X pins σ H { s with heap:=h',toks:=t' }:=by
 have nit:∀ b u,H b=some u->b ≠ it:=λ b u e z=>by rw [z,hn] at e;cases e
 refine I.step (g':=s.gens) (d':=s.drawn) (ch:=[it]) (λ b hb=>?_) (λ b o _ _ hc e _=>k b o (λ z=>hc (by simp [z])) e) (λ b o _ _ hc e _=>⟨o.slots,k b o (λ z=>hc (by simp [z])) e⟩) (λ _ _ _ _ n=>n)
  (λ b o hc e=>⟨o,k b o (λ z=>hc (by simp [z])) e⟩) (λ _ _ e=>e) (λ _ _ _ e=>e) (λ b ps e=>⟨#[],by rw [e];simp⟩) (λ m hm=>?_) (λ b u e=>?_) I.bare
 ·have e:b=it:=by simpa using hb
  subst e;exact ⟨h1,hL,h2,h3⟩
 ·obtain ⟨o,es,ep,ho,r⟩:=hm;exact ⟨o,es,ep,k _ o (Ne.symm hL) ho,r⟩
 ·refine (I.hok b u e).stay (λ c v hc q=>k c v ?_ q) (λ _ q=>q) λ _ _ q=>q
  rcases hc with z | z
  ·rw [z];exact nit b u e
  ·exact nit c _ z
theorem Inv.tok(I:Inv X pins σ H s)(t:Nat):Inv X pins σ H { s with toks:=t }:=I.un (h':=s.heap) (t':=t) Un.refl I.hok
theorem Inv.kept{t':Nat}(I:Inv X pins σ H s)(k:∀ b u,s.heap.get? b=some u->h'.get? b=some u):Inv X pins σ H { s with heap:=h',toks:=t' }:=I.un (Un.kept k) (I.hok.kept k)
theorem Inv.laid{a:Addr}{o:HO}{t':Nat}(I:Inv X pins σ H s)(k:∀ b u,s.heap.get? b=some u->h'.get? b=some u)(hp:s.heap.objs.size <= a)(new:ObjOk X.prog X.w (upd H a o) h' a o) :
  Inv X pins σ (upd H a o) { s with heap:=h',toks:=t' }:=I.un (Un.laid k hp (I.hok.fresh hp)) (I.hok.laid k hp new)
theorem Inv.write{x e:Addr}{o:HO}{t':Nat}(I:Inv X pins σ H s)(mu:Mut (H x))(he:e=x\/H e=some (.own x))(k:∀ b u,b ≠ e->s.heap.get? b=some u->h'.get? b=some u)(heo:∃ u,h'.get? e=some u)
  (new:ObjOk X.prog X.w (upd H x o) h' x o):Inv X pins σ (upd H x o) { s with heap:=h',toks:=t' }:=I.un (Un.write mu he k heo) (I.hok.write mu he k heo new)
theorem Inv.pins_of{pins':List @M}(I:Inv X pins σ H s)(h:∀ p ∈ pins',s.heap.get? p.1=some p.2/\H p.1=none/\p.1 ≠ X.env.locals/\p.1 ∉ X.fs/\∀ v,p.2.data ≠ .cell v):Inv X pins' σ H s :=
 ⟨I.ok,I.os,I.bare,I.base,I.loc,I.cell,I.free,I.freeC,λ p hp=>(ZK.mp hp).elim (λ z=>I.pin p (Zy _ z)) (h p),I.hok,I.len⟩
theorem a3b{N:List Str}(hN:N.Nodup){i j:Nat}{x:Str}(a:N[i]?=some x)(b:N[j]?=some x):i=j:=by
 obtain ⟨h1,e1⟩:=ZY.mp a;obtain ⟨h2,e2⟩:=ZY.mp b;exact (List.getElem_inj hN).mp (e1.trans e2.symm)
theorem a1F{M:Model}{A:Around}{E:Value->Shared->Prop}{i:Nat}{x:Str}{v:V}{u:Value}{Q:Unit->Shared->Prop}(I:Inv X pins σ H s)(hN:X.N.Nodup)(hi:X.N[i]?=some x)(hx:Loc X.env.scope x)(r:RelV v u)
  (h:∀ s',Inv X pins (σ.set i (some v)) H s'->(∃ a,Heap.SameBut a s.heap s'.heap/\(a=X.env.locals\/X.env.cells.lookup x=some a))->Q () s') (hf:X.fn x=true\/X.env.scope.names.lookup x=some .local:=by trivial):wpAny M A (storeName X.env x u) Q E s:=by
 obtain ⟨m,hn,hl⟩:=id I.loc;have hcls:(X.env.scope.kind == .class || (X.env.scope.kind == .module && X.env.locals != X.env.globals))=false:=by rw [I.ok.kind];rfl
 have hiσ:i < σ.length:=by rw [I.len];exact (ZY.mp hi).1
 have cne:=I.cne
 have tracked:∀ {a:Addr} {h':Heap},(∃ o,s.heap.get? a=some o/\H a=none)->Heap.SameBut a s.heap h'->HOk X.prog X.w H h':=λ {a h'} ha hs b ob e=>by
  obtain ⟨_,_,hfree⟩:=ha;refine (I.hok b ob e).stay (λ c w' hc q=>(hs.2 c ?_).trans q) (λ _ q=>q) λ _ _ q=>q
  rintro rfl
  rcases hc with rfl | hc
  ·rw [hfree] at e;cases e
  ·rw [hfree] at hc;cases hc
 rcases hx with hk | hk
 ·refine wpAny_storeName_local hk hn (λ h' hn' hs=>?_) hcls;obtain ⟨oL,_,_,hoL,_⟩:=id hn;refine h _ ⟨I.ok,I.os,I.bare,⟨λ b o e n hb hx=>?_,λ b o e n hb hx=>?_,I.base.free,λ b o e hx=>?_,I.base.tups,I.base.frzs,I.base.tbls⟩,⟨_,hn',λ j y v' e1 e2 e3=>?_⟩,λ y c e=>?_,I.free,I.freeC,λ p hp=>?_,tracked ⟨oL,hoL,I.free⟩ hs,by simpa using I.len⟩ ⟨_,hs,.inl rfl⟩
  ·exact (hs.2 b (Zp (ZD (ZE e) I.ok.above))).trans (I.base.keep b o e n hb hx)
  ·obtain ⟨sl,e1⟩:=I.base.slot b o e n hb hx;exact ⟨sl,(hs.2 b (Zp (ZD (ZE e) I.ok.above))).trans e1⟩
  ·obtain ⟨o',e1⟩:=I.base.there b o e hx;exact ⟨o',(hs.2 b (Zp (ZD (ZE e) I.ok.above))).trans e1⟩
  ·by_cases hj:j=i
   ·subst hj;rw [hi] at e1;cases e1;rw [ZH hiσ] at e2;cases e2;exact ⟨u,r,.inl ⟨hk,by simp⟩⟩
   ·rw [Zx (Ne.symm hj)] at e2;obtain ⟨u',r',q⟩:=hl j y v' e1 e2 e3;refine ⟨u',r',?_⟩
    rcases q with ⟨k,e⟩ | ⟨k,c,e,z⟩
    ·refine .inl ⟨k,?_⟩
     have:y ≠ x:=λ e=>hj (a3b hN e1 (e ▸ hi))
     simp [this,e]
    ·exact .inr ⟨k,c,e,z.sameBut hs (cne y c e)⟩
  ·obtain ⟨w',z⟩:=I.cell y c e;exact ⟨w',z.sameBut hs (cne y c e)⟩
  ·obtain ⟨e,n,ne,nf,d⟩:=I.pin p hp;exact ⟨(hs.2 p.1 ne).trans e,n,ne,nf,d⟩
 ·have hfn:X.fn x=true:=by
   rcases hf with z | z
   ·exact z
   ·rw [z] at hk;cases hk
  obtain ⟨c,hc⟩:=I.ok.has x (.inl hk);obtain ⟨w',z⟩:=I.cell x c hc;refine wpAny_storeName_cell I.ok.kind hk hc z (λ h' hc' hs=>?_);obtain ⟨oc,hoc,hocd⟩:=id z;refine h { s with heap:=h' } ⟨I.ok,I.os,I.bare,⟨λ b o e n hb hx=>?_,λ b o e n hb hx=>?_,I.base.free,λ b o e hx=>?_,I.base.tups,I.base.frzs,I.base.tbls⟩,⟨m,hn.sameBut hs (Ne.symm (cne x c hc)),λ j y v' e1 e2 e3=>?_⟩,λ y c' e=>?_,I.free,I.freeC,λ p hp=>?_,tracked ⟨oc,hoc,I.freeC x c hc⟩ hs,by simpa using I.len⟩ ⟨c,hs,.inr hc⟩
  ·exact (hs.2 b (Zp (ZD (ZE e) (I.ok.cab x c hfn hc)))).trans (I.base.keep b o e n hb hx)
  ·obtain ⟨sl,e1⟩:=I.base.slot b o e n hb hx;exact ⟨sl,(hs.2 b (Zp (ZD (ZE e) (I.ok.cab x c hfn hc)))).trans e1⟩
  ·obtain ⟨o',e1⟩:=I.base.there b o e hx;exact ⟨o',(hs.2 b (Zp (ZD (ZE e) (I.ok.cab x c hfn hc)))).trans e1⟩
  ·by_cases hj:j=i
   ·subst hj;rw [hi] at e1;cases e1;rw [ZH hiσ] at e2;cases e2;exact ⟨u,r,.inr ⟨.inl hk,c,hc,hc'⟩⟩
   ·rw [Zx (Ne.symm hj)] at e2;obtain ⟨u',r',q⟩:=hl j y v' e1 e2 e3;refine ⟨u',r',?_⟩
    rcases q with q | ⟨k,c',e,z'⟩
    ·exact .inl q
    ·refine .inr ⟨k,c',e,z'.sameBut hs ?_⟩
     rintro rfl
     exact hj (a3b hN e1 (I.ok.inj _ _ _ e hc ▸ hi))
  ·by_cases hcc:c'=c
   ·subst hcc;exact ⟨_,hc'⟩
   ·obtain ⟨w2,z2⟩:=I.cell y c' e;exact ⟨w2,z2.sameBut hs hcc⟩
  ·obtain ⟨e,n,ne,nf,d⟩:=I.pin p hp;refine ⟨(hs.2 p.1 ?_).trans e,n,ne,nf,d⟩;intro q;rw [q,hoc] at e;have q':oc=p.2:=Option.some.inj e;exact d w' (by rw [<- q'];exact hocd)
theorem a3f{M:Model}{A:Around}{E:Value->Shared->Prop}{i:Nat}{x:Str}{v:V}{u:Value}{Q:Unit->Shared->Prop}(I:Inv X pins σ H s)(hN:X.N.Nodup)(hi:X.N[i]?=some x)(hx:Loc X.env.scope x)(r:RelV v u)
  (h:∀ s',Inv X pins (σ.set i (some v)) H s'->Q () s') (hf:X.fn x=true\/X.env.scope.names.lookup x=some .local:=by trivial):wpAny M A (storeName X.env x u) Q E s :=
 a1F I hN hi hx r (λ s' I' _=>h s' I') hf
theorem Inv.call'{s':Shared}{ch:List Addr}(I:Inv X pins σ H s)(ho:s'.os=s.os)(u:Un (frs X.stack) ch H H' s.heap s'.heap)(hok:HOk X.prog X.w H' s'.heap)(hg:AllBare s'.gens)
  (hch:∀ b ∈ ch,(b ∈ X.ex\/X.s₀.heap.objs.size <= b)/\b ≠ X.env.locals/\(∀ x c,X.env.cells.lookup x=some c->c ≠ b)/\∀ p ∈ X.pn ++ pins,p.1 ≠ b):Inv X pins σ H' s':=by
 obtain ⟨h',g',d',t',o'⟩:=s';have e:o'=s.os:=ho;subst e;exact I.call (g':=g') (t':=t') (d':=d') u hok hg hch
end
abbrev XK:=Value->Option Addr->Hp->Prop
abbrev St:=List (Option V)
abbrev VK:=V->Hp->Prop
abbrev TE:=St->Hp->VK->Prop
abbrev TT:=St->Hp->(Bool->Hp->Prop)->Prop
abbrev TA:=St->Hp->(List V->Hp->Prop)->Prop
structure a0O where
 nx:St->Hp->Prop
 rt:VK
 bk:St->Hp->Prop:=λ _ _=>False
 ct:St->Hp->Prop:=λ _ _=>False
abbrev TS:=a0O->St->Hp->Prop
def EP(X:Cx)(pins:List @M)(σ:St)(Q:VK)(u:Value)(s':Shared):Prop:=∃ v H',Inv X pins σ H' s'/\RelV v u/\Q v H'
def TP(X:Cx)(pins:List @M)(σ:St)(Q:Bool->Hp->Prop)(b:Bool)(s':Shared):Prop:=∃ H',Inv X pins σ H' s'/\Q b H'
def AP(X:Cx)(pins:List @M)(σ:St)(Q:List V->Hp->Prop)(us:List Value)(s':Shared):Prop:=∃ vs H',Inv X pins σ H' s'/\Vals vs us/\Q vs H'
def SP(X:Cx)(pins:List @M)(D:a0O)(f:Flow)(s':Shared):Prop :=
 match f with
 |.next=>∃ σ' H',Inv X pins σ' H' s'/\D.nx σ' H'
 |.brk=>∃ σ' H',Inv X pins σ' H' s'/\D.bk σ' H'
 |.cont=>∃ σ' H',Inv X pins σ' H' s'/\D.ct σ' H'
 |.ret u=>∃ v σ' H',Inv X pins σ' H' s'/\RelV v u/\D.rt v H'
def PE(X:Cx)(e:Expr)(t:TE):Prop :=
 ∀ (pins:List @M) (s:Shared) (σ:St) (H:Hp) (Q:VK),Inv X pins σ H s->t σ H Q->wpAny @C X.A (eval e X.env) @AR X.xe s
def PT(X:Cx)(e:Expr)(t:TT):Prop :=
 ∀ (pins:List @M) (s:Shared) (σ:St) (H:Hp) (Q:Bool->Hp->Prop),Inv X pins σ H s->t σ H Q->wpAny @C X.A (isTrue e X.env (eval e X.env)) (TP X pins σ Q) X.xe s
def PW(X:Cx)(e:Expr)(t:TT):Prop :=
 ∀ (whole:Sem Value) (pins:List @M) (s:Shared) (σ:St) (H:Hp) (Q:Bool->Hp->Prop),Inv X pins σ H s->t σ H Q->wpAny @C X.A (isTrue e X.env whole) (TP X pins σ Q) X.xe s
theorem PW.pt{X:Cx}{e:Expr}{t:TT}(h:PW X e t):PT X e t:=h _
def PA(X:Cx)(es:List Expr)(t:TA):Prop :=
 ∀ (pos:Pos) (pins:List @M) (s:Shared) (σ:St) (H:Hp) (Q:List V->Hp->Prop),Inv X pins σ H s->t σ H Q->wpAny @C X.A (spliced (backTo pos @Ao)) (AP X pins σ Q) X.xe s
def PS(X:Cx)(st:Stmt)(t:TS):Prop :=
 ∀ (pins:List @M) (s:Shared) (σ:St) (H:Hp) (D:a0O),Inv X pins σ H s->t D σ H->wpAny @C X.A (exec st X.env) (SP X pins D) X.xe s
def PSs(X:Cx)(st:List Stmt)(t:TS):Prop :=
 ∀ (pins:List @M) (s:Shared) (σ:St) (H:Hp) (D:a0O),Inv X pins σ H s->t D σ H->wpAny @C X.A (execs st X.env) (SP X pins D) X.xe s
theorem thn{α:Type}{t:Sem α}{Q Q':α->Shared->Prop}{M:Model}{A:Around}{E:Value->Shared->Prop}{s:Shared}(h:wpAny M A t Q E s)(hQ:∀ a s,Q a s->Q' a s):wpAny M A t Q' E s:=wpAny_mono h hQ λ _ _ x=>x
end L2
namespace L2
open PySem PySem.Spec PyProof.Rows
section
variable {X:Cx}
def c2n(i:Nat):TE:=λ σ H Q=>∃ v,σ[i]?=some (some v)/\Q v H
def tC(v:V):TE:=λ _ H Q=>Q v H
theorem b8T{i:Nat}{x:Str}{pos:Pos}(hN:X.N[i]?=some x)(hv:Vis X.env.scope x)(hd:@Ag=false:=by decide)(hcd:(x == ("__classdict__":Str))=false:=by decide):PE X (.Name x pos) (c2n i):=by
 show J;obtain ⟨v,e,h⟩:=h;obtain ⟨m,hn,hl⟩:=I.loc;obtain ⟨u,r,l⟩:=hl i x v hN e hv;have fin:EP X pins σ Q u s:=⟨v,H,I,r,h⟩
 rcases l with ⟨hk,hm⟩ | ⟨hk,c,hc,hcell⟩
 ·exact wpAny_Name (wpAny_loadName_local I.ok.kind hk hn hm fin) hd
 ·rcases hk with hk | hk
  ·exact wpAny_Name (wpAny_loadName_cell I.ok.kind hk hc hcell fin) hd
  ·exact wpAny_Name (wpAny_loadName_free I.ok.kind hk hc hcell fin hcd) hd
theorem b6L{i j pos}:PE X (.Constant (.int i) j pos) (tC (.int i)):=λ _ _ _ H _ I h=>wpAny_Constant_int ⟨.int i,H,I.tok _,⟨_,rfl⟩,h⟩
theorem c0o{b j pos}:PE X (.Constant (.bool b) j pos) (tC (.bl b)):=λ _ _ _ H _ I h=>Constant_bool ⟨.bl b,H,I,rfl,h⟩
theorem b8Z{j pos}:PE X (.Constant .none j pos) (tC .non):=λ _ _ _ H _ I h=>Constant_none ⟨.non,H,I,rfl,h⟩
theorem b8k{x j pos}:PE X (.Constant (.str x) j pos) (tC (.str x)):=λ _ _ _ H _ I h=>Calls.Constant_str ⟨.str x,H,I.tok _,⟨_,rfl⟩,h⟩
def Gl(X:Cx)(x:Str):Prop:=X.env.kindOf x=some .globalImplicit
theorem a0n{E:Value->Shared->Prop}{pins:List @M}{s:Shared}{σ:St}{H:Hp}{x:Str}{u:Value}{pos:Pos}{Q:Value->Shared->Prop}(I:Inv X pins σ H s)(hg:Gl X x)(hm:X.mg x=some u)(h:Q u s)
  (hd:@Ag=false:=by decide):wpAny @C X.A (eval (.Name x pos) X.env) Q E s :=
 Calls.Name_function_global I.ok.kind hg (Calls.loadGlobal_global (by rw [I.ok.glob];exact I.mod.glob.keeps I.bk) hm h) hd
theorem W8{E:Value->Shared->Prop}{pins:List @M}{s:Shared}{σ:St}{H:Hp}{x:Str}{u:Value}{pos:Pos}{Q:Value->Shared->Prop}(I:Inv X pins σ H s)(hg:Gl X x)(hm:X.mg x=none)(hv:bootBuiltins x=some u)(h:Q u s)
  (hn:x ≠ "__name__":=by decide) (hd:@Ag=false:=by decide):wpAny @C X.A (eval (.Name x pos) X.env) Q E s:=by
 obtain ⟨mb,h1,h2⟩:=I.mod.blt;exact Calls.Name_function_global I.ok.kind hg (Calls.loadGlobal_builtin (by rw [I.ok.glob];exact I.mod.glob.keeps I.bk) hm (by rw [I.ok.blt];exact h1.keeps I.bk) ((h2 x hn).trans hv) h) hd
theorem a2i{x:Str}{v:V}{u:Value}{pos:Pos}(hg:Gl X x)(hm:X.mg x=none)(hv:bootBuiltins x=some u)(r:RelV v u)(hn:x ≠ "__name__":=by decide)(hd:@Ag=false:=by decide):PE X (.Name x pos) (tC v) :=
 λ _ _ _ H _ I h=>W8 I hg hm hv ⟨v,H,I,r,h⟩ hn hd
variable {a b:Expr} {ta tb:TE} {pos:Pos}
variable {tA tB':TT} {rest:List Expr}
def c2U(t u:TT):TT:=λ σ H Q=>t σ H λ c H1=>if c=true then u σ H1 Q else Q false H1
def tOr(t u:TT):TT:=λ σ H Q=>t σ H λ c H1=>if c=true then Q true H1 else u σ H1 Q
def c2x(t:TT):TT:=λ σ H Q=>t σ H λ c H1=>Q (!c) H1
theorem b2O(ha:PT X a tA):PW X (.BoolOp .And [a] pos) tA:=by
 intro wh pins s σ H Q I h;refine isTrue_and (thn (ha pins s σ H Q I h) λ c s1 e=>?_)
 cases c with
 |true=>exact isTrue_and_nil e
 |false=>exact e
theorem b8g(ha:PT X a tA):PW X (.BoolOp .Or [a] pos) tA:=by
 intro wh pins s σ H Q I h;refine isTrue_or (thn (ha pins s σ H Q I h) λ c s1 e=>?_)
 cases c with
 |false=>exact isTrue_or_nil e
 |true=>exact e
theorem b8J(ha:PT X a tA)(hb:PW X (.BoolOp .And (b :: rest) pos) tB'):PW X (.BoolOp .And (a :: b :: rest) pos) (c2U tA tB'):=by
 intro wh pins s σ H Q I h;refine isTrue_and (thn @AD λ c s1 zz0=>?_);obtain ⟨H1,I1,q1⟩:=zz0
 cases c with
 |true=>exact hb wh pins s1 σ H1 Q I1 q1
 |false=>exact ⟨H1,I1,q1⟩
theorem c1t(ha:PT X a tA)(hb:PW X (.BoolOp .Or (b :: rest) pos) tB'):PW X (.BoolOp .Or (a :: b :: rest) pos) (tOr tA tB'):=by
 intro wh pins s σ H Q I h;refine isTrue_or (thn @AD λ c s1 zz0=>?_);obtain ⟨H1,I1,q1⟩:=zz0
 cases c with
 |true=>exact ⟨H1,I1,q1⟩
 |false=>exact hb wh pins s1 σ H1 Q I1 q1
theorem b7E(ha:PT X a tA):PT X (.UnaryOp .Not a pos) (c2x tA):=by
 show J;exact isTrue_not (ha pins s σ H (λ c H1=>Q (!c) H1) I h)
def c0k(ta tb:TE):TE:=λ σ H Q=>ta σ H λ x H1=>∃ c,x = .bl c/\if c=true then tb σ H1 Q else Q (.bl false) H1
def c0B(ta:TE):TE:=λ σ H Q=>ta σ H λ x H1=>∃ c,x = .bl c/\Q (.bl (!c)) H1
theorem b9p{op}{t:TE}(h:PE X a t):PE X (.BoolOp op [a] pos) t:=λ pins s σ H Q I hw=>BoolOp_one (h pins s σ H Q I hw)
theorem b6F(ha:PE X a ta)(hb:PE X (.BoolOp .And (b :: rest) pos) tb):PE X (.BoolOp .And (a :: b :: rest) pos) (c0k ta tb):=by
 show J;refine BoolOp_and (thn @AD λ v s1 zz0=>?_);show Ai;obtain ⟨c,rfl,q1⟩:=q1;cases r1;refine wpAny_truthy_bool ?_
 cases c with
 |true=>exact hb pins s1 σ H1 Q I1 q1
 |false=>exact ⟨.bl false,H1,I1,rfl,q1⟩
theorem b8q(ha:PE X a ta):PE X (.UnaryOp .Not a pos) (c0B ta):=by
 show J;refine UnaryOp_ (thn @AD λ v s1 zz0=>?_);show Ai;obtain ⟨c,rfl,q1⟩:=q1;cases r1;exact not_of (wpAny_truthy_bool ⟨.bl (!c),H1,I1,rfl,q1⟩)
def tIf(t:TT)(ta tb:TE):TE:=λ σ H Q=>t σ H λ c H1=>if c=true then ta σ H1 Q else tb σ H1 Q
theorem b0G{c:Expr}(hc:PT X c tA)(ha:PE X a ta)(hb:PE X b tb):PE X (.IfExp c a b pos) (tIf tA ta tb):=by
 show J;refine wpAny_IfExp (thn (hc pins s σ H _ I h) λ d s1 zz0=>?_);obtain ⟨H1,I1,q1⟩:=zz0
 cases d with
 |true=>exact ha pins s1 σ H1 Q I1 q1
 |false=>exact hb pins s1 σ H1 Q I1 q1
end
end L2
namespace L2
open PySem PySem.Spec PyProof.Rows
def SqL(K:PySem.W.Frag)(H:Hp)(a:Addr)(xs:List V):Prop :=
 Rd H a @X \/
  ∃ (o:Obj) (its:Array Value) (n:Nat),K.lookup a=some o/\o.cls = .type "list"/\o.dict=none/\o.data = .seq its n/\its.size <= sizeLine/\Vals xs its.toList
def SqT(K:PySem.W.Frag)(H:Hp)(a:Addr)(xs:List V):Prop :=
 Rd H a (.tup xs) \/
  ∃ (o:Obj) (its:Array Value) (n:Nat),K.lookup a=some o/\o.cls = .type "tuple"/\o.data = .seq its n/\its.size <= sizeLine/\Vals xs its.toList
def c2s:Value->Option V
 |.none=>some .non
 |.bool b=>some (.bl b)
 |.int i _=>some (.int i)
 |.str x _=>some (.str x)
 |.bytes b _=>some (.byt b)
 |.float b _=>some (.flt b)
 |.ref a=>some @Ax
 |.type n=>some (.ty n)
 |_=>none
theorem RelV.abs{x:V}{u:Value}(r:RelV x u):c2s u=some x:=by
 cases x with
 |non=>cases r;rfl
 |bl _=>cases r;rfl
 |int _=>obtain ⟨t,rfl⟩:=r;rfl
 |str _=>obtain ⟨t,rfl⟩:=r;rfl
 |byt _=>obtain ⟨t,rfl⟩:=r;rfl
 |flt _=>obtain ⟨t,rfl⟩:=r;rfl
 |ref _=>cases r;rfl
 |ty _=>cases r;rfl
theorem RelV.inj{x y:V}{u:Value}(r:RelV x u)(q:RelV y u):x=y:=Option.some.inj (r.abs.symm.trans q.abs)
theorem Vals.inj{xs ys:List V}{us:List Value}(h:Vals xs us)(h':Vals ys us):xs=ys:=by
 induction h generalizing ys with
 |nil=>cases h';rfl
 |cons r _ ih =>
  cases h' with
  |cons r' t'=>rw [r.inj r',ih t']
section
variable {X:Cx} {pins:List (Addr×Obj)} {σ:St} {H:Hp} {s:Shared} {a:Addr} {xs ys:List V}
theorem SqL.of{K:PySem.W.Frag}(h:H a=some @X):SqL K H a xs:=.inl (.inl h)
theorem Inv.list(I:Inv X pins σ H s)(h:SqL X.K H a xs):∃ its:List Value,Vals xs its/\PlainL s.heap a its.toArray/\xs.length <= sizeLine:=by
 rcases h with h | ⟨o,its,n,hk,hc,hd,hs,hz,r⟩
 ·obtain ⟨z,its,n,r,e⟩:=h.ok I.hok;exact ⟨its,r,⟨_,n,e,rfl,rfl,rfl⟩,z⟩
 ·refine ⟨its.toList,r,⟨o,n,I.kIn a o hk,hc,hd,by simpa using hs⟩,?_⟩;have e:=r.length;simp only [Array.length_toList] at e;omega
theorem Inv.tuple(I:Inv X pins σ H s)(h:SqT X.K H a xs):∃ its:List Value,Vals xs its/\IsTup s.heap a its.toArray/\xs.length <= sizeLine:=by
 rcases h with h | ⟨o,its,n,hk,hc,hs,hz,r⟩
 ·obtain ⟨z,its,r,p⟩:=h.ok I.hok;exact ⟨its,r,p,z⟩
 ·refine ⟨its.toList,r,⟨o,I.kIn a o hk,hc,n,by simpa using hs⟩,?_⟩;have e:=r.length;simp only [Array.length_toList] at e;omega
theorem Inv.list_inj(I:Inv X pins σ H s)(h:SqL X.K H a xs)(h':SqL X.K H a ys):xs=ys:=by
 obtain ⟨its,r,⟨o,n,e,_,_,d⟩,_⟩:=I.list h;obtain ⟨its',r',⟨o',n',e',_,_,d'⟩,_⟩:=I.list h';rw [e] at e';cases e'
 rw [d] at d'
 injection d' with d1 _
 have:its=its':=by simpa using congrArg Array.toList d1
 subst this;exact r.inj r'
theorem Inv.tuple_inj(I:Inv X pins σ H s)(h:SqT X.K H a xs)(h':SqT X.K H a ys):xs=ys:=by
 obtain ⟨its,r,⟨o,e,_,n,d⟩,_⟩:=I.tuple h;obtain ⟨its',r',⟨o',e',_,n',d'⟩,_⟩:=I.tuple h';rw [e] at e';cases e'
 rw [d] at d'
 injection d' with d1 _
 have:its=its':=by simpa using congrArg Array.toList d1
 subst this;exact r.inj r'
end
abbrev Cx.wish(X:Cx)(E:Value->Shared->Prop):Cx:={ X with xe:=E }
abbrev Cx.nox(X:Cx):Cx:=X.wish λ _ _=>False
theorem Cx.Ok.wish{X:Cx}(ok:X.Ok)(E:Value->Shared->Prop):(X.wish E).Ok :=
 ⟨ok.mod,ok.kind,ok.glob,ok.blt,ok.above,ok.inj,ok.has,ok.cab,ok.hd,ok.frames,ok.stk,ok.exf,ok.bs,ok.bsz,ok.noex,ok.exfs,ok.funs,ok.frf⟩
theorem Cx.Ok.unwish{X:Cx}{E:Value->Shared->Prop}(ok:(X.wish E).Ok):X.Ok :=
 ⟨ok.mod,ok.kind,ok.glob,ok.blt,ok.above,ok.inj,ok.has,ok.cab,ok.hd,ok.frames,ok.stk,ok.exf,ok.bs,ok.bsz,ok.noex,ok.exfs,ok.funs,ok.frf⟩
section
variable {X:Cx} {pins:List (Addr×Obj)} {σ:St} {H:Hp} {s:Shared} {E:Value->Shared->Prop}
theorem Inv.wish(I:Inv X pins σ H s)(E:Value->Shared->Prop):Inv (X.wish E) pins σ H s:=⟨I.ok.wish E,I.os,I.bare,I.base,I.loc,I.cell,I.free,I.freeC,I.pin,I.hok,I.len⟩
theorem Inv.unwish(I:Inv (X.wish E) pins σ H s):Inv X pins σ H s:=⟨I.ok.unwish,I.os,I.bare,I.base,I.loc,I.cell,I.free,I.freeC,I.pin,I.hok,I.len⟩
theorem SP.unwish{D:a0O}{f:Flow}{s':Shared}(h:SP (X.wish E) pins D f s'):SP X pins D f s':=by
 cases f with
 |next=>obtain ⟨σ',H',I,q⟩:=h;exact ⟨σ',H',I.unwish,q⟩
 |brk=>obtain ⟨σ',H',I,q⟩:=h;exact ⟨σ',H',I.unwish,q⟩
 |cont=>obtain ⟨σ',H',I,q⟩:=h;exact ⟨σ',H',I.unwish,q⟩
 |ret u=>obtain ⟨v,σ',H',I,r,q⟩:=h;exact ⟨v,σ',H',I.unwish,r,q⟩
theorem PSs.nox{st:List Stmt}{t:TS}(h:PSs X.nox st t):PSs X st t:=λ pins s σ H D I hw =>
 wpAny_mono (h pins s σ H D (I.wish _) hw) (λ _ _ q=>q.unwish) λ _ _ z=>False.elim z
end
section
variable {X:Cx} {st:Stmt} {rest:List Stmt} {t u:TS} {e:Expr} {te:TE} {pos:Pos}
def c0W:TS:=λ D σ H=>D.nx σ H
def c1N(t u:TS):TS:=λ D σ H=>t { D with nx:=u D } σ H
theorem b3N:PSs X [] c0W:=λ _ _ σ H _ I h=>wpAny_execs_nil ⟨σ,H,I,h⟩
theorem a7Z(h1:PS X st t)(h2:PSs X rest u):PSs X (st :: rest) (c1N t u):=by
 show Ab;refine wpAny_execs_cons (thn (h1 pins s σ H { D with nx:=u D } I h) λ f s1 q=>?_)
 cases f with
 |next =>
  obtain ⟨σ',H',I',q⟩:=q;exact h2 pins s1 σ' H' D I' q
 |ret v=>exact q
 |brk=>exact q
 |cont=>exact q
theorem b2x(h1:PS X st t):PSs X [st] t:=by
 show Ab;refine wpAny_execs_cons (thn (h1 pins s σ H D I h) λ f s1 q=>?_)
 cases f with
 |next=>exact wpAny_execs_nil q
 |ret v=>exact q
 |brk=>exact q
 |cont=>exact q
theorem Inv.quiet{pins:List @M}{σ:St}{H:Hp}{s:Shared}(I:Inv X pins σ H s):interactive X.env=false:=by simp [interactive,I.ok.kind]
def c0L(te:TE):TS:=λ D σ H=>te σ H λ _ H1=>D.nx σ H1
theorem b2t(he:PE X e te)(hs:swapsWith e none pos.line X.env=pure false:=by rfl):PS X (.Expr e pos) (c0L te):=by
 show Ab;exact wpAny_Expr_any (thn @AV λ v s1 ⟨x,H1,I1,r1,q1⟩=>⟨σ,H1,I1,q1⟩) I.quiet hs
def c2G(te:TE):TS:=λ D σ H=>te σ H D.rt
theorem b6T(he:PE X e te):PS X (.Return (some e) pos) (c2G te):=by
 show Ab;exact wpAny_Return_some (thn @AV λ v s1 ⟨x,H1,I1,r1,q1⟩=>⟨x,σ,H1,I1,r1,q1⟩)
def c2R(c:TT)(t u:TS):TS:=λ D σ H=>c σ H λ b H1=>if b=true then t D σ H1 else u D σ H1
theorem c0w{c:Expr}{a b:List Stmt}{tc:TT}(hc:PT X c tc)(ha:PSs X a t)(hb:PSs X b u):PS X (.If c a b pos) (c2R tc t u):=by
 show Ab;refine wpAny_If (thn (hc pins s σ H _ I h) λ d s1 zz0=>?_);obtain ⟨H1,I1,q1⟩:=zz0
 cases d with
 |true=>exact ha pins s1 σ H1 D I1 q1
 |false=>exact hb pins s1 σ H1 D I1 q1
def b9F:TS:=λ _ _ _=>False
theorem a9S:PS X st b9F:=λ _ _ _ _ _ _ h=>h.elim
end
abbrev TG:=V->St->Hp->(St->Hp->Prop)->Prop
abbrev TGs:=List V->St->Hp->(St->Hp->Prop)->Prop
def PG(X:Cx)(target:Expr)(t:TG):Prop :=
 ∀ (pins:List @M) (s:Shared) (σ:St) (H:Hp) (v:V) (u:Value) (Q:St->Hp->Prop),Inv X pins σ H s->RelV v u->t v σ H Q ->
  wpAny @C X.A (assign target X.env u) (λ _ s'=>∃ σ' H',Inv X pins σ' H' s'/\Q σ' H') X.xe s
def PGs(X:Cx)(ts:List Expr)(t:TGs):Prop :=
 ∀ (pins:List @M) (s:Shared) (σ:St) (H:Hp) (vs:List V) (us:List Value) (Q:St->Hp->Prop),Inv X pins σ H s->Vals vs us->t vs σ H Q ->
  wpAny @C X.A (assignInOrder ((assignEach ts X.env).map (·.2)) us) (λ _ s'=>∃ σ' H',Inv X pins σ' H' s'/\Q σ' H') X.xe s
abbrev b6E:=V->V->V->Hp->(Hp->Prop)->Prop
def c1A(X:Cx)(t:b6E):Prop :=
 ∀ (pins:List @M) (s:Shared) (σ:St) (H:Hp) (o i v:V) (ov iv u:Value) (Q:Hp->Prop),Inv X pins σ H s->RelV o ov->RelV i iv->RelV v u->t o i v H Q ->
  wpAny @C X.A (setItem ov iv u) (λ _ s'=>∃ H',Inv X pins σ H' s'/\Q H') X.xe s
section
variable {X:Cx} {pos:Pos}
def a3s(i:Nat):TG:=λ v σ H Q=>Q (σ.set i (some v)) H
theorem b3t{i:Nat}{x:Str}(hN:X.N.Nodup)(hi:X.N[i]?=some x)(hx:Loc X.env.scope x)(hf:X.fn x=true\/X.env.scope.names.lookup x=some .local:=by trivial):PG X (.Name x pos) (a3s i):=by
 intro pins s σ H v u Q I r h;exact wpAny_assign_Name (a3f I hN hi hx r (λ s' I'=>⟨_,H,I',h⟩) hf)
def c2H:TGs:=λ vs σ H Q=>vs=[]/\Q σ H
def c0l(t:TG)(u:TGs):TGs:=λ vs σ H Q=>∃ v r,vs=v :: r/\t v σ H λ σ' H'=>u r σ' H' Q
theorem b2M:PGs X [] c2H:=by
 intro pins s σ H vs us Q I r h;obtain ⟨e,h⟩:=h;subst e;cases r;exact assignInOrder_nil ⟨σ,H,I,h⟩
theorem a7V{e:Expr}{es:List Expr}{t:TG}{u:TGs}(h1:PG X e t)(h2:PGs X es u)
  (hs:(assignEach (e :: es) X.env).map (·.2)=assign e X.env :: (assignEach es X.env).map (·.2):=by rfl):PGs X (e :: es) (c0l t u):=by
 intro pins s σ H vs us Q I r h;obtain ⟨v,vr,e1,h⟩:=h;subst e1
 cases r with
 |cons r rr =>
  rw [hs];refine assignInOrder_cons (thn (h1 pins s σ H _ _ _ I r h) λ _ s1 zz0=>?_);obtain ⟨σ1,H1,I1,q1⟩:=zz0;exact h2 pins s1 σ1 H1 _ _ Q I1 rr q1
def c2T(K:PySem.W.Frag)(n:Nat)(t:TGs):TG:=λ v σ H Q=>∃ a xs,v = .ref a/\SqT K H a xs/\xs.length=n/\t xs σ H Q
theorem b7L{es:List Expr}{k:Nat}{t:TGs}{n:Nat}(hc:X.calm=true)(h:PGs X es t)
  (hn:(assignEach es X.env).length=n:=by rfl) (hst:(assignEach es X.env).findIdx? (·.1)=none:=by rfl):PG X (.Tuple es k pos) (c2T X.K n t):=by
 intro pins s σ H v u Q I r hw;obtain ⟨a,xs,e1,hq,hl,hw⟩:=hw;subst e1;cases r;obtain ⟨its,rv,ht,hz⟩:=I.tuple hq;refine assign_Tuple_tuple (I.ok.hd hc) ht (by simp [hn,<- hl,rv.length]) hst λ h' hx=>?_;have I1:Inv X pins σ H { s with heap:=h' }:=I.kept (t':=s.toks) λ b o e=>hx b o (Zp (ZE e)) e;exact h pins _ σ H xs _ Q I1 (by simpa using rv) hw
def c3d(to ti:TE)(t:b6E):TG:=λ v σ H Q=>to σ H λ o H1=>ti σ H1 λ i H2=>t o i v H2 λ H3=>Q σ H3
theorem b7v{o i:Expr}{to ti:TE}{t:b6E}(ho:PE X o to)(hi:PE X i ti)(hs:c1A X t)
  (ha:∀ v,assign (.Subscript o i pos) X.env v=(do
   let ov <- holding [v] (eval o X.env)
   let iv <- holding [v,ov] (eval i X.env)
   standAt pos
   holding [v,ov,iv] (setItem ov iv v)
   release [v,ov,iv] []):=by intro _;rfl):PG X (.Subscript o i pos) (c3d to ti t):=by
 intro pins s σ H v u Q I r h;rw [ha];refine wpAny_bind (wpAny_holding (thn (ho pins s σ H _ I h) λ ov s1 zz0=>?_));show Ai;refine wpAny_bind (wpAny_holding (thn (hi pins s1 σ H1 _ I1 q1) λ iv s2 zz0=>?_));obtain ⟨y,H2,I2,r2,q2⟩:=zz0;refine wpAny_bind (wpAny_standAt (wpAny_bind (wpAny_holding (thn (hs pins s2 σ H2 x y v ov iv u _ I2 r1 r2 r q2) λ _ s3 zz0=>?_))));obtain ⟨H3,I3,q3⟩:=zz0;exact wpAny_release ⟨σ,H3,I3,q3⟩
def b1f(te:TE)(g:TG):TS:=λ D σ H=>te σ H λ x H1=>g x σ H1 D.nx
theorem b9u{tg e:Expr}{te:TE}{g:TG}(he:PE X e te)(hg:PG X tg g)(hs:swapsWithSole [tg] e pos.line X.env=pure false:=by rfl)(hw:swappedStores [tg] e X.env=pure none:=by rfl)
  (h1:(assignEach [tg] X.env).map (·.2)=[assign tg X.env]:=by rfl):PS X (.Assign [tg] e pos) (b1f te g):=by
 show Ab;refine wpAny_Assign_stores (thn @AV λ v s1 ⟨x,H1,I1,r1,q1⟩=>?_) hs hw;rw [h1];exact thn (hg pins s1 σ H1 x v _ I1 r1 q1) λ _ s2 q=>q
theorem b9j{i:Nat}{x:Str}{e:Expr}{te:TE}{pos':Pos}(hN:X.N.Nodup)(hi:X.N[i]?=some x)(hx:Loc X.env.scope x)(he:PE X e te)(hs:swapsWith e (some (.Name x pos')) pos.line X.env=pure false:=by rfl)(hf:X.fn x=true\/X.env.scope.names.lookup x=some .local:=by trivial) :
  PS X (.Assign [.Name x pos'] e pos) (b1f te (a3s i)):=by
 show Ab;refine wpAny_Assign_Name (thn @AV λ v s1 zz0=>?_) hs;obtain ⟨y,H1,I1,r1,q1⟩:=zz0;exact a3f I1 hN hi hx r1 (λ s2 I2=>⟨_,H1,I2,q1⟩) hf
end
section
variable {X:Cx} {pos:Pos}
def b7G(c:TT)(tb:TS):TS:=λ D σ H=>∃ W:Nat->St->Hp->Prop,(∃ m,W m σ H)/\∀ m σ H,W m σ H ->
 c σ H λ b H1=>if b=true then ∃ N:St->Hp->Prop,(∀ σ' H',N σ' H'->∃ m',m' < m/\W m' σ' H')/\tb { D with nx:=N,ct:=N,bk:=D.nx } σ H1 else D.nx σ H1
theorem a8r{c:Expr}{body:List Stmt}{tc:TT}{tb:TS}(hp:PassesOwn @C X.A X.env X.xe)(hc:PT X c tc)(hb:PSs X body tb):PS X (.While c body [] pos) (b7G tc tb):=by
 show Ab;obtain ⟨W,⟨m0,w0⟩,turn⟩:=h;refine wpAny_While (codeAny_whileLoop (λ n s'=>∃ σ' H',Inv X pins σ' H' s'/\W n σ' H') ?_ m0 ⟨σ,H,I,w0⟩)
 rintro n s1 ⟨σ1,H1,I1,w1⟩
 refine wpAny_passesOwn hp (thn (hc pins s1 σ1 H1 _ I1 (turn n σ1 H1 w1)) λ b s2 zz0=>?_);obtain ⟨H2,I2,q2⟩:=zz0
 cases b with
 |true =>
  obtain ⟨N,hN,q2⟩:=q2;rw [if_pos rfl];refine wpAny_passesOwn hp (thn (hb pins s2 σ1 H2 _ I2 q2) λ f s3 q3=>?_)
  cases f with
  |next =>
   obtain ⟨σ3,H3,I3,n3⟩:=q3;obtain ⟨m',hm,w3⟩:=hN σ3 H3 n3;exact ⟨m',hm,σ3,H3,I3,w3⟩
  |cont =>
   obtain ⟨σ3,H3,I3,n3⟩:=q3;obtain ⟨m',hm,w3⟩:=hN σ3 H3 n3;exact ⟨m',hm,σ3,H3,I3,w3⟩
  |brk=>exact q3
  |ret v=>exact q3
 |false =>
  rw [if_neg ZR];exact wpAny_execs_nil ⟨σ1,H2,I2,q2⟩
end
structure It where
 go:Nat->Hp->Prop
 yld:Nat->Hp->V->Hp->Prop
 stop:Nat->Hp->Prop
def B7(X:Cx)(pins:List @M)(H:Hp)(b:Addr):Prop :=
 H b=none/\b ≠ X.env.locals/\b ∉ X.fs/\(b ∈ X.ex\/X.s₀.heap.objs.size <= b)/\(∀ x c,X.env.cells.lookup x=some c->c ≠ b)/\∀ p ∈ X.pn ++ pins,p.1 ≠ b
theorem Inv.fpOk{X:Cx}{pins:List @M}{σ:St}{H H':Hp}{s:Shared}{b:Addr}(I:Inv X pins σ H s)(hb:s.heap.objs.size <= b)(hn:H' b=none):B7 X pins H' b:=by
 refine ⟨hn,Nat.ne_of_gt (ZD I.lt hb),I.nofs hb,.inr (Zu I.sz hb),λ x c e z=>?_,λ p hp z=>?_⟩
 ·obtain ⟨v,q⟩:=I.cell x c e;exact absurd (ZD q.lt (by rw [z];exact hb)) (Ze _)
 ·exact absurd (ZD (ZE (I.pin p hp).1) (by rw [z];exact hb)) (Ze _)
structure a2z(P:Program)(w:World)(K:PySem.W.Frag)(tg:Expr)(J:It)(fp:List Addr)(it:Addr)(tn:Nat->Heap->Prop):Prop where
 mem:it ∈ fp
 obj:∀ i h,tn i h->∀ b ∈ fp,∃ o,h.get? b=some o/\∀ v,o.data ≠ .cell v
 keep:∀ i h h',tn i h->(∀ b ∈ fp,∀ o,h.get? b=some o->h'.get? b=some o)->tn i h'
 item:∀ (X:Cx),X.prog=P->X.w=w->X.K=K->X.calm=true->∀ (i:Nat) (pins:List @M) (s:Shared) (σ:St) (H:Hp) (E:Value->Shared->Prop),Inv X pins σ H s->(∀ b ∈ fp,B7 X pins H b)->tn i s.heap->J.go i H ->
  wpAny (model P w) X.A (pyNext @AC) (λ r s1=>∃ u,r=some u /\
   wpAny (model P w) X.A (letOwnedTupleGo tg @AC u) (λ _ s2=>∃ x H',Inv X pins σ H' s2/\RelV x u/\J.yld i H x H'/\tn (i + 1) s2.heap/\∀ b ∈ fp,H' b=none) E s1) E s
 done:∀ (X:Cx),X.prog=P->X.w=w->X.K=K->X.calm=true->∀ (i:Nat) (pins:List @M) (s:Shared) (σ:St) (H:Hp) (E:Value->Shared->Prop),Inv X pins σ H s->(∀ b ∈ fp,B7 X pins H b)->tn i s.heap->J.stop i H ->
  wpAny (model P w) X.A (pyNext @AC) (λ r s1=>r=none/\Inv X pins σ H s1) E s
 self:∀ (A:Around) (i:Nat) (s:Shared) (Q:Value->Shared->Prop) (E:Value->Shared->Prop),tn i s.heap->Q @AC s->wpAny (model P w) A (pyIter @AC) Q E s
abbrev TI:=St->Hp->(It->Hp->Prop)->Prop
def PIE(X:Cx)(pins:List @M)(σ:St)(tg:Expr)(R:It->Hp->Prop)(itv:Value)(s2:Shared):Prop :=
 ∃ (it:Addr) (fp:List Addr) (tn:Nat->Heap->Prop) (J:It) (H':Hp),itv = .ref it/\Inv X pins σ H' s2/\a2z X.prog X.w X.K tg J fp it tn/\tn 0 s2.heap/\(∀ b ∈ fp,B7 X pins H' b)/\R J H'
def PI(X:Cx)(tg iter:Expr)(wi:TI):Prop :=
 ∀ (pins:List @M) (s:Shared) (σ:St) (H:Hp) (R:It->Hp->Prop),Inv X pins σ H s->wi σ H R ->
  wpAny @C X.A (eval iter X.env) (λ v s1=>wpAny @C X.A (pyIter v) (PIE X pins σ tg R) X.xe s1) X.xe s
theorem a5k{M:Model}{A:Around}{E:Value->Shared->Prop}{s:Shared}{tg:Expr}{it:Addr}{u:Value}{o:Obj}{n:String}{vs:Array Value}{Q:Unit->Shared->Prop}(ho:s.heap.get? it=some o)(hc:o.cls = .type n)(hd:o.data = .fields vs)
  (hn:["enumerate","zip","dict_itemiterator","dict_reverseitemiterator","odict_iterator","itertools.zip_longest","itertools.pairwise"].contains n=false) (hQ:Q () s):wpAny M A (letOwnedTupleGo tg @AC u) Q E s:=by
 unfold letOwnedTupleGo
 cases tg <;> first
  |exact wpAny_pure hQ
  |(cases u <;> first
    |exact wpAny_pure hQ
    |(refine wpAny_bind (wpAny_load ho ?_)
      rw [hc,hd];show wpAny M A (if (["enumerate","zip","dict_itemiterator","dict_reverseitemiterator","odict_iterator","itertools.zip_longest","itertools.pairwise"].contains n && vs[0]? == some (rawInt _))=true then _ else _) Q E s;rw [if_neg (by intro h;rw [hn,Bool.false_and] at h;cases h)];exact wpAny_pure hQ))
def Itl(K:PySem.W.Frag)(a:Addr):It :=
 ⟨λ i H=>∃ xs x,SqL K H a xs/\xs[i]?=some x,λ i H x H'=>H'=H/\∀ xs,SqL K H a xs->xs[i]?=some x,λ i H=>∃ xs,SqL K H a xs/\xs.length <= i⟩
def Itt(K:PySem.W.Frag)(a:Addr):It :=
 ⟨λ i H=>∃ xs x,SqT K H a xs/\xs[i]?=some x,λ i H x H'=>H'=H/\∀ xs,SqT K H a xs->xs[i]?=some x,λ i H=>∃ xs,SqT K H a xs/\xs.length <= i⟩
def Itr(lo:Int)(n:Nat):It:=⟨λ i _=>i < n,λ i H x H'=>H'=H/\x = .int (lo + i),λ i _=>n <= i⟩
theorem a6p{P:Program}{w:World}{K:PySem.W.Frag}{tg:Expr}(a it:Addr):a2z P w K tg (Itl K a) [it] it (λ i h=>h.IsListIter it a i) where
 mem:=by simp
 obj:=λ i h st b hb=>by
  have e:b=it:=by simpa using hb
  subst e;show Ag
 keep:=λ i h h' st k=>st.at λ o e=>k it @N o e
 item:=by
  show K;obtain ⟨xs,x,hq,hx⟩:=hg;obtain ⟨its,rv,p,hz⟩:=I.list hq;obtain ⟨u,hu,ru⟩:=rv.get hx;obtain ⟨f0,f1,f2,f3,f4,f5⟩:=hf it @N;refine wpAny_pyNext_list_item st p.isList (x:=u) (by simpa using hu) λ h' st' sb=>?_;have I1:Inv X pins σ H { s with heap:=h' }:=I.turned (t':=s.toks) (λ b o hb e=>(sb.2 b hb).trans e) f0 f1 f3 f4 f5;obtain ⟨o,e,c,d⟩:=id st';exact ⟨u,rfl,a5k (s:={ s with heap:=h' }) e c d @B ⟨x,H,I1,ru,⟨rfl,λ ys hy=>by rw [I.list_inj hy hq];exact hx⟩,st',λ b hb=>(hf b hb).1⟩⟩
 done:=by
  show K;obtain ⟨xs,hq,hx⟩:=hg;obtain ⟨its,rv,p,hz⟩:=I.list hq;obtain ⟨f0,f1,f2,f3,f4,f5⟩:=hf it @N;have hl:=rv.length;exact wpAny_pyNext_list_end (I.ok.hd hc) st p.isList (by simp;omega) λ h' eb=>⟨rfl,I.turned (t':=s.toks) (λ b o hb e=>eb b o hb e) f0 f1 f3 f4 f5⟩
 self:=λ _ _ _ _ _ st h=>wpAny_pyIter_listiter st h
theorem a4m{P:Program}{w:World}{K:PySem.W.Frag}{tg:Expr}(a it:Addr):a2z P w K tg (Itt K a) [it] it (λ i h=>h.IsTupleIter it a i) where
 mem:=by simp
 obj:=λ i h st b hb=>by
  have e:b=it:=by simpa using hb
  subst e;show Ag
 keep:=λ i h h' st k=>st.at λ o e=>k it @N o e
 item:=by
  show K;obtain ⟨xs,x,hq,hx⟩:=hg;obtain ⟨its,rv,p,hz⟩:=I.tuple hq;obtain ⟨u,hu,ru⟩:=rv.get hx;obtain ⟨f0,f1,f2,f3,f4,f5⟩:=hf it @N;refine wpAny_pyNext_tuple_item st (show s.heap.IsTuple a its.toArray from p) (x:=u) (by simpa using hu) λ h' st' sb=>?_;have I1:Inv X pins σ H { s with heap:=h' }:=I.turned (t':=s.toks) (λ b o hb e=>(sb.2 b hb).trans e) f0 f1 f3 f4 f5;obtain ⟨o,e,c,d⟩:=id st';exact ⟨u,rfl,a5k (s:={ s with heap:=h' }) e c d @B ⟨x,H,I1,ru,⟨rfl,λ ys hy=>by rw [I.tuple_inj hy hq];exact hx⟩,st',λ b hb=>(hf b hb).1⟩⟩
 done:=by
  show K;obtain ⟨xs,hq,hx⟩:=hg;obtain ⟨its,rv,p,hz⟩:=I.tuple hq;obtain ⟨f0,f1,f2,f3,f4,f5⟩:=hf it @N;have hl:=rv.length;exact wpAny_pyNext_tuple_end (I.ok.hd hc) st (show s.heap.IsTuple a its.toArray from p) (by simp;omega) λ h' eb=>⟨rfl,I.turned (t':=s.toks) (λ b o hb e=>eb b o hb e) f0 f1 f3 f4 f5⟩
 self:=λ _ _ _ _ _ st h=>wpAny_pyIter_tupleiter st h
theorem a4D{P:Program}{w:World}{K:PySem.W.Frag}{tg:Expr}(it:Addr)(lo:Int)(n:Nat):a2z P w K tg (Itr lo n) [it] it (λ i h=>IsRangeIter h it (lo + (i:Nat) * 1) ((n:Int) - (i:Nat)) 1) where
 mem:=by simp
 obj:=λ i h st b hb=>by
  have e:b=it:=by simpa using hb
  subst e
  exact ⟨_,st,λ v z=>by
   have z':Data.fields _=Data.cell v:=z
   cases z'⟩
 keep:=λ i h h' st k=>k it @N _ st
 item:=by
  show K;obtain ⟨f0,f1,f2,f3,f4,f5⟩:=hf it @N;have W:=Walks.range (prog:=X.prog) (w:=X.w) (I.ok.hd hc) it lo 1 n;refine W.item i s _ _ hg st λ v h' tk hv st' kk=>?_;obtain ⟨t,rfl⟩:=hv;have I1:Inv X pins σ H { s with heap:=h',toks:=tk }:=I.turned (λ b o hb e=>kk b o (by simpa using hb) e) f0 f1 f3 f4 f5;refine ⟨_,rfl,a5k (s:={ s with heap:=h',toks:=tk }) (n:= "range_iterator") st' rfl rfl @B ⟨.int (lo + i),H,I1,⟨t,?_⟩,⟨rfl,rfl⟩,st',λ b hb=>(hf b hb).1⟩⟩;rw [Int.mul_one]
 done:=by
  show K;obtain ⟨f0,f1,f2,f3,f4,f5⟩:=hf it @N;exact wpAny_pyNext_range_end (I.ok.hd hc) st (by have:n <= i:=hg;omega) λ h' eb=>⟨rfl,I.turned (t':=s.toks) (λ b o hb e=>eb b o hb e) f0 f1 f3 f4 f5⟩
 self:=λ _ _ _ _ _ st h=>wpAny_pyIter_rangeiter st h
end L2
namespace L2
open PySem PySem.Spec PyProof.Rows
section
variable {X:Cx} {tg:Expr}
theorem a8h{pins:List @M}{σ:St}{H:Hp}{s:Shared}{R:It->Hp->Prop}{E:Value->Shared->Prop}{lo hi:Int}{t u v:Tok}{tk:Nat}(I:Inv X pins σ H s)(h1:-(2 ^ 62) <= lo)(h2:lo < 2 ^ 62)(h3:-(2 ^ 62) <= hi)(h4:hi < 2 ^ 62)
  (q:R (Itr lo (hi - lo).toNat) H):wpAny @C X.A (pyIter @Aj) (PIE X pins σ tg R) E { s with heap:=s.heap.push { cls:=.type "range",data:=.fields #[.int lo t,.int hi u,.int 1 v] },toks:=tk }:=by
 refine wpAny_pyIter_range (IsRange.new ..) (small_one h1 h2 h3 h4) ?_;have I1:Inv X pins σ H { s with heap:=s.heap.push { cls:=.type "range",data:=.fields #[.int lo t,.int hi u,.int 1 v] },toks:=tk }:=I.kept λ b o e=>ZU _ e
 refine ⟨(s.heap.push { cls:=.type "range",data:=.fields #[.int lo t,.int hi u,.int 1 v] }).objs.size,[(s.heap.push { cls:=.type "range",data:=.fields #[.int lo t,.int hi u,.int 1 v] }).objs.size],_,_,H,rfl,
  I1.kept (t':=tk) λ b o e=>ZU _ e,a4D _ lo (hi - lo).toNat,?_,λ b hb=>?_,q⟩
 ·have e1:lo + ((0:Nat):Int) * 1=lo:=by simp
  have e2:(((hi - lo).toNat:Nat):Int) - ((0:Nat):Int)=Builtin.Range.rangeSize lo hi 1:=by rw [rangeSize_one];split <;> omega
  show IsRangeIter _ _ (lo + ((0:Nat):Int) * 1) ((((hi - lo).toNat:Nat):Int) - ((0:Nat):Int)) 1;rw [e1,e2];exact ZI _ rfl
 ·have e:b=(s.heap.push { cls:=.type "range",data:=.fields #[.int lo t,.int hi u,.int 1 v] }).objs.size:=by simpa using hb
  subst e;exact I1.fpOk @G (I1.hok.fresh @G)
def c0d(ta:TA):TI:=λ σ H R=>ta σ H λ vs H1=>∃ j:Int,vs=[.int j]/\-(2 ^ 62) <= j/\j < 2 ^ 62/\R (Itr 0 j.toNat) H1
theorem a6q{a:Expr}{ta:TA}{p pos:Pos}(hg:Gl X "range")(hm:X.mg "range" = none)(ha:PA X [a] ta)(hs:starEach [a] X.env=[(false,eval a X.env)]:=by rfl):PI X tg (.Call (.Name "range" p) [a] [] pos) (c0d ta):=by
 intro pins s σ H R I h;refine Call_ (W8 I hg hm boot_range (PyProof.Rows.callWith_type1 (thn @Bb λ us s1 ⟨vs,H1,I1,r1,q1⟩=>?_) hs rfl));obtain ⟨j,e,q1,q2,q⟩:=q1;subst e
 cases r1 with
 |cons r rr =>
  cases rr;obtain ⟨t,rfl⟩:=r;exact call_range_1 (a8h I1 @D @D q1 q2 (by simpa using q))
def c3a(wi:TI)(g:TG)(tb:TS):TS:=λ D σ H=>wi σ H λ J H1=>∃ W:Nat->Nat->St->Hp->Prop,(∃ m,W 0 m σ H1)/\∀ i m σ H,W i m σ H ->
 (J.stop i H/\D.nx σ H)\/(J.go i H/\∃ N:St->Hp->Prop,(∀ σ' H',N σ' H'->∃ m',m' < m/\W (i + 1) m' σ' H')/\∀ x H',J.yld i H x H'->g x σ H' λ σ2 H2=>tb { D with nx:=N,ct:=N,bk:=D.nx } σ2 H2)
def U5(fp:List Addr)(h:Heap):List @M:=fp.filterMap λ b=>(h.get? b).map λ o=>(b,o)
theorem J4{fp:List Addr}{h:Heap}{b:Addr}{o:Obj}(hb:b ∈ fp)(e:h.get? b=some o):(b,o) ∈ U5 fp h:=List.mem_filterMap.mpr ⟨b,hb,by rw [e];rfl⟩
theorem a7d{fp:List Addr}{h:Heap}{p:Addr×Obj}(hp:p ∈ U5 fp h):p.1 ∈ fp/\h.get? p.1=some p.2:=by
 obtain ⟨b,hb,e⟩:=List.mem_filterMap.mp hp
 cases q:h.get? b with
 |none=>rw [q] at e;cases e
 |some o =>
  rw [q] at e;have e':(b,o)=p:=Option.some.inj e;subst e';exact ⟨hb,q⟩
theorem Inv.pinned{pins:List @M}{σ:St}{H:Hp}{s:Shared}{fp:List Addr}(I:Inv X pins σ H s)(hf:∀ b ∈ fp,B7 X pins H b)(ho:∀ b ∈ fp,∃ o,s.heap.get? b=some o/\∀ v,o.data ≠ .cell v):Inv X (pins ++ U5 fp s.heap) σ H s :=
 I.pins_of λ p hp=>(ZK.mp hp).elim (λ z=>I.pin p (ZJ _ z)) λ z=>by
  obtain ⟨hb,e⟩:=a7d z;obtain ⟨f0,f1,f2,_⟩:=hf p.1 hb;obtain ⟨o,e',d⟩:=ho p.1 hb;rw [e] at e';cases e'
  exact ⟨e,f0,f1,f2,d⟩
theorem Inv.unpinned{pins pl:List @M}{σ:St}{H:Hp}{s:Shared}(I:Inv X (pins ++ pl) σ H s):Inv X pins σ H s:=I.pins_of λ p hp=>I.pin p (ZJ _ (Zy _ hp))
theorem b9g{iter:Expr}{body:List Stmt}{wi:TI}{g:TG}{tb:TS}{pos:Pos}(hp:PassesOwn @C X.A X.env X.xe)(hc:X.calm=true)(hi:PI X tg iter wi)(hg:PG X tg g)(hb:PSs X body tb)
  (hs:∀ x,foldedSetIterable iter X.env x=pure x:=by intro _;rfl):PS X (.For tg iter body [] pos) (c3a wi g tb):=by
 show Ab;refine wpAny_For (thn (hi pins s σ H _ I h) λ v s1 h1=>thn h1 λ itv s2 h2=>?_) hs;obtain ⟨it,fp,tn,J,H2,e,I2,T,st2,f2,W,⟨m0,w0⟩,turn⟩:=h2;subst e;have stat:∀ {H':Hp},(∀ b ∈ fp,H' b=none)->∀ b ∈ fp,B7 X pins H' b:=λ hn b hb=>⟨hn b hb,(f2 b hb).2⟩
 refine codeAny_forLoop_any (λ n s'=>∃ i σ' H',Inv X pins σ' H' s'/\tn i s'.heap/\(∀ b ∈ fp,H' b=none)/\W i n σ' H') ?_ m0 ⟨0,σ,H2,I2,st2,λ b hb=>(f2 b hb).1,w0⟩
 rintro n s3 ⟨i,σ3,H3,I3,st3,fr3,w3⟩
 rcases turn i n σ3 H3 w3 with ⟨stop,qn⟩ | ⟨go,N,hN,step⟩
 ·refine wpAny_passesOwn hp (thn (T.done X rfl rfl rfl hc i pins s3 σ3 H3 X.xe I3 (stat fr3) st3 stop) λ r s4 zz0=>?_);obtain ⟨hr,I4⟩:=zz0;subst hr;exact wpAny_execs_nil ⟨σ3,H3,I4,qn⟩
 ·refine wpAny_passesOwn hp (thn (T.item X rfl rfl rfl hc i pins s3 σ3 H3 X.xe I3 (stat fr3) st3 go) λ r s4 zz0=>?_);obtain ⟨u,hr,h4⟩:=zz0;subst hr;refine wpAny_passesOwn hp (thn h4 λ _ s5 zz0=>?_);obtain ⟨x,H5,I5,r5,y5,st5,fr5⟩:=zz0;have I5':=I5.pinned (stat fr5) (T.obj _ _ st5);refine wpAny_passesOwn hp (thn (hg _ s5 σ3 H5 x u _ I5' r5 (step x H5 y5)) λ _ s6 zz0=>?_);obtain ⟨σ6,H6,I6,q6⟩:=zz0;refine wpAny_passesOwn hp (thn (hb _ s6 σ6 H6 _ I6 q6) λ f s7 q7=>?_)
  have again:∀ {σ7:St} {H7:Hp},Inv X (pins ++ U5 fp s5.heap) σ7 H7 s7->N σ7 H7->∃ m,m < n/\∃ i σ' H',Inv X pins σ' H' s7/\tn i s7.heap/\(∀ b ∈ fp,H' b=none)/\W i m σ' H':=λ {σ7 H7} I7 n7=>by
   obtain ⟨m',hm,w7⟩:=hN σ7 H7 n7;refine ⟨m',hm,i + 1,σ7,H7,I7.unpinned,T.keep _ _ _ st5 λ b hb o e=>(I7.pin (b,o) (ZJ _ (ZJ _ (J4 hb e)))).1,λ b hb=>?_,w7⟩;obtain ⟨o,e,d⟩:=T.obj _ _ st5 b hb;exact (I7.pin (b,o) (ZJ _ (ZJ _ (J4 hb e)))).2.1
  cases f with
  |next=>obtain ⟨σ7,H7,I7,n7⟩:=q7;exact again I7 n7
  |cont=>obtain ⟨σ7,H7,I7,n7⟩:=q7;exact again I7 n7
  |brk=>obtain ⟨σ7,H7,I7,q7⟩:=q7;exact ⟨σ7,H7,I7.unpinned,q7⟩
  |ret v=>obtain ⟨x7,σ7,H7,I7,r7,q7⟩:=q7;exact ⟨x7,σ7,H7,I7.unpinned,r7,q7⟩
end
end L2
namespace L2
open PySem PySem.Spec PyProof.Rows
abbrev R2:=V->V->Hp->VK->Prop
def OpR(X:Cx)(f:Value->Value->Sem Value)(r:R2):Prop :=
 ∀ (pins:List @M) (s:Shared) (σ:St) (H:Hp) (x y:V) (v u:Value) (Q:VK),Inv X pins σ H s->RelV x v->RelV y u->r x y H Q ->
  wpAny @C X.A (f v u) @AR X.xe s
def UnR(X:Cx)(f:Value->Sem Value)(r:V->Hp->VK->Prop):Prop :=
 ∀ (pins:List @M) (s:Shared) (σ:St) (H:Hp) (x:V) (v:Value) (Q:VK),Inv X pins σ H s->RelV x v->r x H Q ->
  wpAny @C X.A (f v) @AR X.xe s
def CallR(X:Cx)(f:Value)(r:List V->Hp->VK->Prop):Prop :=
 ∀ (pins:List @M) (s:Shared) (σ:St) (H:Hp) (xs:List V) (us:List Value) (Q:VK),Inv X pins σ H s->Vals xs us->r xs H Q ->
  wpAny @C X.A (call f us) @AR X.xe s
def c3h(X:Cx)(r:V->Hp->(Bool->Hp->Prop)->Prop):Prop :=
 ∀ (pins:List @M) (s:Shared) (σ:St) (H:Hp) (x:V) (v:Value) (Q:Bool->Hp->Prop),Inv X pins σ H s->RelV x v->r x H Q ->
  wpAny @C X.A (truthy v) (TP X pins σ Q) X.xe s
def tOp(r:R2)(ta tb:TE):TE:=λ σ H Q=>ta σ H λ x H1=>tb σ H1 λ y H2=>r x y H2 Q
def tUn(r:V->Hp->VK->Prop)(ta:TE):TE:=λ σ H Q=>ta σ H λ x H1=>r x H1 Q
def rI(C:Int->Int->Prop)(g:Int->Int->V):R2:=λ x y H Q=>∃ i j,x = .int i/\y = .int j/\C i j/\Q (g i j) H
def rI0(g:Int->Int->V):R2:=λ x y H Q=>∃ i j,x = .int i/\y = .int j/\Q (g i j) H
def rU(g:Int->V):V->Hp->VK->Prop:=λ x H Q=>∃ i,x = .int i/\Q (g i) H
section
variable {X:Cx} {a b c:Expr} {ta tb tc:TE} {pos:Pos}
theorem b8m(ha:PE X a ta)(hb:PE X b tb){pins:List @M}{s:Shared}{σ:St}{H:Hp}{R:V->V->Hp->Prop}(I:Inv X pins σ H s)
  (h:ta σ H λ x H1=>tb σ H1 λ y H2=>R x y H2) {Q:Value->Shared->Prop} {f:Value->Value->Sem Value}
  (hf:∀ v u s2 x y H2,Inv X pins σ H2 s2->RelV x v->RelV y u->R x y H2->wpAny @C X.A (f v u) Q X.xe s2) :
  wpAny @C X.A (eval a X.env) (λ v s₁=>wpAny @C X.A (eval b X.env) (λ u s₂=>wpAny @C X.A (f v u) Q X.xe s₂) X.xe s₁) X.xe s:=by
 refine thn @AD λ v s1 zz0=>?_;show Ai;refine thn (hb pins s1 σ H1 _ I1 q1) λ u s2 zz0=>?_;obtain ⟨y,H2,I2,r2,q2⟩:=zz0;exact hf v u s2 x y H2 I2 r1 r2 q2
theorem c0A{op:Operator}{r:R2}(ho:OpR X (binaryOp op) r)(ha:PE X a ta)(hb:PE X b tb):PE X (.BinOp a op b pos) (tOp r ta tb):=by
 show J;exact wpAny_BinOp (b8m ha hb I h λ v u s2 x y H2 I2 rx ry q=>ho pins s2 σ H2 x y v u Q I2 rx ry q)
theorem c0F{op:UnaryOp}{r:V->Hp->VK->Prop}(ho:UnR X (unaryOp op) r)(ha:PE X a ta):PE X (.UnaryOp op a pos) (tUn r ta):=by
 show J;exact UnaryOp_ (thn @AD λ v s1 ⟨x,H1,I1,r1,q1⟩=>ho pins s1 σ H1 x v Q I1 r1 q1)
theorem opI{f:Value->Value->Sem Value}{C:Int->Int->Prop}{g:Int->Int->Int}
  (rule:∀ (i j:Int) (t u:Tok) (s:Shared) (Q:Value->Shared->Prop) (E:Value->Shared->Prop),C i j->Q (.int (g i j) s.toks) { s with toks:=s.toks + 1 }->wpAny @C X.A (f (.int i t) (.int j u)) Q E s) :
  OpR X f (rI C λ i j=>.int (g i j)):=by
 show O;obtain ⟨i,j,rfl,rfl,hc,q⟩:=h;show Ae;obtain ⟨t',rfl⟩:=ry;exact rule i j t t' s _ _ hc ⟨.int (g i j),H,I.tok _,⟨_,rfl⟩,q⟩
theorem b4e{f:Value->Value->Sem Value}{g:Int->Int->Int}
  (rule:∀ (i j:Int) (t u:Tok) (s:Shared) (Q:Value->Shared->Prop) (E:Value->Shared->Prop),Q (.int (g i j) s.toks) { s with toks:=s.toks + 1 }->wpAny @C X.A (f (.int i t) (.int j u)) Q E s) :
  OpR X f (rI0 λ i j=>.int (g i j)):=by
 show O;obtain ⟨i,j,rfl,rfl,q⟩:=h;show Ae;obtain ⟨t',rfl⟩:=ry;exact rule i j t t' s _ _ ⟨.int (g i j),H,I.tok _,⟨_,rfl⟩,q⟩
theorem b8M{f:Value->Value->Sem Value}{g:Int->Int->Bool}
  (rule:∀ (i j:Int) (t u:Tok) (s:Shared) (Q:Value->Shared->Prop) (E:Value->Shared->Prop),Q (.bool (g i j)) s->wpAny @C X.A (f (.int i t) (.int j u)) Q E s) :
  OpR X f (rI0 λ i j=>.bl (g i j)):=by
 show O;obtain ⟨i,j,rfl,rfl,q⟩:=h;show Ae;obtain ⟨t',rfl⟩:=ry;exact rule i j t t' s _ _ ⟨.bl (g i j),H,I,rfl,q⟩
def b3u(i j:Int):Prop:=0 <= j/\j <= 1000000/\i.natAbs < 2 ^ 64
theorem a4i(k:Nat):(0:Int) <= 2 ^ k:=by
 rw [two_pow_cast];exact Int.natCast_nonneg _
theorem op_add:OpR X (binaryOp .Add) (rI0 λ i j=>.int (i + j)):=b4e λ _ _ _ _ _ _ _ q=>add_int q
theorem b7O:OpR X (binaryOp .Sub) (rI0 λ i j=>.int (i - j)):=b4e λ _ _ _ _ _ _ _ q=>sub_int q
theorem b8a:OpR X (binaryOp .Mod) (rI (λ _ j=>0 < j) λ i j=>.int (i % j)):=opI λ i j _ _ _ _ _ hc q=>by
 have h1:(0:Int) < j:=hc;exact mod_int' @D (by rw [Int.fmod_eq_emod_of_nonneg i @D];exact q)
theorem b8W:OpR X (binaryOp .Pow) (rI b3u λ i j=>.int (i ^ j.toNat)):=opI λ _ _ _ _ _ _ _ hc q=>pow_int_small hc.1 hc.2.1 hc.2.2 q
theorem b6V:OpR X (binaryOp .LShift) (rI b3u λ i j=>.int (i * 2 ^ j.toNat)):=opI λ _ _ _ _ _ _ _ hc q=>lshift_int_small hc.1 hc.2.1 hc.2.2 q
theorem b8D:OpR X (binaryOp .RShift) (rI (λ _ j=>0 <= j) λ i j=>.int (i / 2 ^ j.toNat)):=opI λ i j _ _ _ _ _ hc q =>
 rshift_int hc (by rw [Int.fdiv_eq_ediv_of_nonneg i (a4i _)];exact q)
theorem b7g:OpR X (binaryOp .BitAnd) (rI0 λ i j=>.int (Builtin.bitAnd i j)):=b4e λ _ _ _ _ _ _ _ q=>and_int q
theorem b3W:OpR X (inplaceOp .Add) (rI0 λ i j=>.int (i + j)):=b4e λ _ _ _ _ _ _ _ q=>iadd_int q
theorem unI{f:Value->Sem Value}{g:Int->Int}
  (rule:∀ (i:Int) (t:Tok) (s:Shared) (Q:Value->Shared->Prop) (E:Value->Shared->Prop),Q (.int (g i) s.toks) { s with toks:=s.toks + 1 }->wpAny @C X.A (f (.int i t)) Q E s) :
  UnR X f (rU λ i=>.int (g i)):=by
 intro pins s σ H x v Q I rx h;obtain ⟨i,rfl,q⟩:=h;show Ae;exact rule i t s _ _ ⟨.int (g i),H,I.tok _,⟨_,rfl⟩,q⟩
theorem b8w:UnR X (unaryOp .USub) (rU λ i=>.int (-i)):=unI λ _ _ _ _ _ q=>neg_int q
end
section
variable {X:Cx} {a b c:Expr} {ta tb tc:TE} {pos:Pos}
theorem a9q{pins:List @M}{σ:St}{H:Hp}{s:Shared}{Q:VK}{k k':Bool}(I:Inv X pins σ H s)(q:Q (.bl k) H)(e:k=k'):EP X pins σ Q (.bool k') s:=by
 subst e;exact ⟨.bl k,H,I,rfl,q⟩
theorem c0Q:OpR X (compareOp .Lt) (rI0 λ i j=>.bl (decide (i < j))):=b8M λ _ _ _ _ _ _ _ q=>lt_int q
theorem c1q:OpR X (compareOp .LtE) (rI0 λ i j=>.bl (decide (i <= j))):=b8M λ _ _ _ _ _ _ _ q=>le_int q
theorem c0Z:OpR X (compareOp .Gt) (rI0 λ i j=>.bl (decide (j < i))):=b8M λ _ _ _ _ _ _ _ q=>gt_int q
theorem b6v:OpR X (compareOp .Is) (λ x y H Q=>y = .non/\Q (.bl (decide (x = .non))) H):=by
 show O;obtain ⟨rfl,q⟩:=h;cases ry;refine is_none_gen (a9q I q ?_)
 cases x <;> first
  |(cases rx;rfl)
  |(obtain ⟨t,rfl⟩:=rx;rfl)
theorem b2Y:OpR X (compareOp .IsNot) (λ x y H Q=>y = .non/\Q (.bl (!decide (x = .non))) H):=by
 show O;obtain ⟨rfl,q⟩:=h;cases ry;refine isnot_none_gen (a9q I q ?_)
 cases x <;> first
  |(cases rx;rfl)
  |(obtain ⟨t,rfl⟩:=rx;rfl)
theorem OpR.or{f:Value->Value->Sem Value}{r r':R2}(h:OpR X f r)(h':OpR X f r'):OpR X f (λ x y H Q=>r x y H Q\/r' x y H Q):=by
 intro pins s σ H x y v u Q I rx ry q
 rcases q with q | q
 ·exact h pins s σ H x y v u Q I rx ry q
 ·exact h' pins s σ H x y v u Q I rx ry q
theorem a8J(b:Expr){op:CmpOp}(h:op ≠ .In:=by decide)(h2:op ≠ .NotIn:=by decide):behindInMarks op b=false:=by
 have e1:(op == CmpOp.In)=false:=by cases op <;> first | rfl | exact absurd rfl h
 have e2:(op == CmpOp.NotIn)=false:=by cases op <;> first | rfl | exact absurd rfl h2
 cases b with
 |Set elts k p =>
  show (k == 0 && (op == .In || op == .NotIn) && elts.all (constantsAlone 8))=false;rw [e1,e2]
  cases k == 0 <;> rfl
 |_=>rfl
theorem b5v{op:CmpOp}{r:R2}(ho:OpR X (compareOp op) r)(ha:PE X a ta)(hb:PE X b tb)(hm:behindInMarks op b=false):PE X (.Compare a [op] [b] pos) (tOp r ta tb):=by
 show J;exact wpAny_Compare1 (b8m ha hb I h λ v u s2 x y H2 I2 rx ry q=>ho pins s2 σ H2 x y v u Q I2 rx ry q) hm
def b5M(t:TE):TT:=λ σ H Q=>t σ H λ x H'=>∃ k,x = .bl k/\Q k H'
theorem b4p{op:CmpOp}{r:R2}(ho:OpR X (compareOp op) r)(ha:PE X a ta)(hb:PE X b tb)(hm:behindInMarks op b=false):PT X (.Compare a [op] [b] pos) (b5M (tOp r ta tb)):=by
 show J
 refine wpAny_isTrue_Compare1 (thn @AD λ v s1 ⟨x,H1,I1,r1,q1⟩=>thn (hb pins s1 σ H1 _ I1 q1) λ u s2 ⟨y,H2,I2,r2,q2⟩ =>
  thn (ho pins s2 σ H2 x y v u _ I2 r1 r2 q2) λ c s3 ⟨z,H3,I3,r3,k,e,q3⟩=>?_) hm
 subst e;cases r3;exact wpAny_truthy_bool ⟨H3,I3,q3⟩
def a8d(r r':R2)(ta tb tc:TE):TE:=λ σ H Q=>ta σ H λ x H1=>tb σ H1 λ y H2=>r x y H2 λ z H3=>∃ k,z = .bl k /\
 (if k=true then tc σ H3 λ w' H4=>r' y w' H4 Q else Q (.bl false) H3)
theorem a8c{op op':CmpOp}{r r':R2}(ho:OpR X (compareOp op) r)(ho':OpR X (compareOp op') r')(ha:PE X a ta)(hb:PE X b tb)(hc:PE X c tc)
  (hm:lastMarks [op,op'] [b,c]=false:=by with_unfolding_all rfl):PT X (.Compare a [op,op'] [b,c] pos) (b5M (a8d r r' ta tb tc)):=by
 show J
 refine isTrue_chain (thn @AD λ v s1 ⟨x,H1,I1,r1,q1⟩=>test_link (thn (hb pins s1 σ H1 _ I1 q1) λ u s2 ⟨y,H2,I2,r2,q2⟩ =>
  thn (ho pins s2 σ H2 x y v u _ I2 r1 r2 q2) λ d s3 ⟨z,H3,I3,r3,k,e,q3⟩=>?_)) hm
 subst e;cases r3;refine wpAny_truthy_bool ?_
 cases k with
 |false =>
  obtain ⟨k',e',q'⟩:=q3
  cases e'
  exact ite_ff ⟨H3,I3,q'⟩
 |true =>
  refine ite_tt (test_last (thn (hc pins s3 σ H3 _ I3 q3) λ w' s4 ⟨z',H4,I4,r4,q4⟩=>thn (ho' pins s4 σ H4 y z' u w' _ I4 r2 r4 q4) λ d' s5 zz0=>?_));obtain ⟨z2,H5,I5,r5,k2,e2,q5⟩:=zz0;subst e2;cases r5;exact wpAny_truthy_bool ⟨H5,I5,q5⟩
def b6I(K:PySem.W.Frag)(x:V)(H:Hp)(k:Bool):Prop :=
 match x with
 |.non=>k=false
 |.bl b=>k=b
 |.int i=>k=(i != 0)
 |.str y=>y.length <= sizeLine/\k=((y.length:Int) != 0)
 |.byt y=>y.size <= sizeLine/\k=((y.size:Int) != 0)
 |.ref p=>(∃ xs,SqL K H p xs/\k = !xs.isEmpty)\/(∃ xs,SqT K H p xs/\k = !xs.isEmpty)\/∃ kvs,H p=some (.dK kvs)/\k = !kvs.isEmpty
 |_=>False
theorem a4s{κ:Type}{kvs:List (κ×V)}{vs:List (κ×Value)}(r:KV kvs vs):(!vs.isEmpty) = !kvs.isEmpty:=by
 cases r <;> rfl
theorem a1b{xs:List V}{its:List Value}(r:Vals xs its):(!its.toArray.isEmpty) = !xs.isEmpty:=by
 cases r <;> simp
theorem U9:(sizeLine:Nat) < 2 ^ 63:=by rw [sizeLine_eq];decide
theorem b6t:c3h X (λ x H Q=>∃ k,b6I X.K x H k/\Q k H):=by
 intro pins s σ H x v Q I rx h;obtain ⟨k,e,q⟩:=h;have hl:=U9;have hs:sizeLine=16777216:=sizeLine_eq
 cases x with
 |non =>
  cases rx;have e':k=false:=e;subst e';exact truthy_none ⟨H,I,q⟩
 |bl b =>
  cases rx;have e':k=b:=e;subst e';exact wpAny_truthy_bool ⟨H,I,q⟩
 |int i =>
  show Ae;have e':k=(i != 0):=e;subst e';exact PySem.P.truthy_int ⟨H,I,q⟩
 |str y =>
  show Ae;obtain ⟨hy,e'⟩:y.length <= sizeLine/\k=((y.length:Int) != 0):=e;subst e';exact PySem.P.truthy_str @D ⟨H,I.tok _,q⟩
 |byt y =>
  show Ae;obtain ⟨hy,e'⟩:y.size <= sizeLine/\k=((y.size:Int) != 0):=e;subst e';exact PySem.W.truthy_bytes @D ⟨H,I.tok _,q⟩
 |ref p =>
  cases rx;have e':(∃ xs,SqL X.K H p xs/\k = !xs.isEmpty)\/(∃ xs,SqT X.K H p xs/\k = !xs.isEmpty)\/∃ kvs,H p=some (.dK kvs)/\k = !kvs.isEmpty:=e
  rcases e' with ⟨xs,hx,e'⟩ | ⟨xs,hx,e'⟩ | ⟨kvs,hx,e'⟩
  ·subst e';obtain ⟨its,r,pl,hz⟩:=I.list hx;have hlen:=r.length;exact wpAny_truthy_list pl.isList (by simp only [List.size_toArray];omega) ⟨H,I.tok _,by rw [a1b r];exact q⟩
  ·subst e';obtain ⟨its,r,pl,hz⟩:=I.tuple hx;have hlen:=r.length;exact truthy_tuple pl (by simp only [List.size_toArray];omega) ⟨H,I.tok _,by rw [a1b r];exact q⟩
  ·subst e';obtain ⟨hz,hS,vs,r,m⟩:kvs.length <= sizeLine/\(p == sysModules)=false/\∃ vs,KV kvs vs/\s.heap.DictOf (j8 X.prog X.w) p vs:=I.hok p _ hx;have hlen:kvs.length=vs.length:=Paired.length r;exact wpAny_truthy_dict hS m @D ⟨H,I.tok _,by rw [a4s r];exact q⟩
 |_=>exact (show False from e).elim
theorem a9L(ha:PE X a ta)(he:∀ whole,isTrue a X.env whole=(do let v <- whole;standAt a.pos;holding [v] (truthy v))) :
  PT X a (λ σ H Q=>ta σ H λ x H'=>∃ k,b6I X.K x H' k/\Q k H'):=by
 show J;exact isTrue_plain (thn @AD λ v s1 ⟨x,H1,I1,r1,q1⟩=>b6t pins s1 σ H1 x v Q I1 r1 q1) (he _)
theorem op_add_str:OpR X (binaryOp .Add) (λ x y H Q=>∃ i j,x = .str i/\y = .str j/\i.length + j.length <= sizeLine/\Q (.str (i ++ j)) H):=by
 show O;obtain ⟨i,j,rfl,rfl,hz,q⟩:=h;show Ae;obtain ⟨t',rfl⟩:=ry;exact add_str (λ t' tk=>⟨.str (i ++ j),H,I.tok _,⟨_,rfl⟩,q⟩) hz
theorem T3{x:V}{us:List Value}(r:Vals [x] us):∃ u,us=[u]/\RelV x u:=by
 cases r with
 |cons r1 r2=>cases r2;exact ⟨_,rfl,r1⟩
theorem a9u{x y:V}{us:List Value}(r:Vals [x,y] us):∃ u w',us=[u,w']/\RelV x u/\RelV y w':=by
 cases r with
 |cons r1 r2 =>
  cases r2 with
  |cons r3 r4=>cases r4;exact ⟨_,_,rfl,r1,r3⟩
theorem a6B(hc:X.calm=true):CallR X (.builtin "max") (λ xs H Q=>∃ i j,xs=[.int i,.int j]/\Q (.int (if j > i then j else i)) H):=by
 show Aa;obtain ⟨i,j,rfl,q⟩:=h;obtain ⟨u,w',rfl,⟨t,rfl⟩,⟨t',rfl⟩⟩:=a9u r;refine max_two_ints (I.ok.hd hc) λ h' tk k=>⟨_,H,I.kept k,?_,q⟩
 by_cases hj:j > i
 ·rw [if_pos hj,if_pos hj];exact ⟨_,rfl⟩
 ·rw [if_neg hj,if_neg hj];exact ⟨_,rfl⟩
theorem a6N(hc:X.calm=true):CallR X (.builtin "min") (λ xs H Q=>∃ i j,xs=[.int i,.int j]/\Q (.int (if j < i then j else i)) H):=by
 show Aa;obtain ⟨i,j,rfl,q⟩:=h;obtain ⟨u,w',rfl,⟨t,rfl⟩,⟨t',rfl⟩⟩:=a9u r;refine min_two_ints (I.ok.hd hc) λ h' tk k=>⟨_,H,I.kept k,?_,q⟩
 by_cases hj:j < i
 ·rw [if_pos hj,if_pos hj];exact ⟨_,rfl⟩
 ·rw [if_neg hj,if_neg hj];exact ⟨_,rfl⟩
theorem a6V:CallR X (.type "int") (λ xs H Q=>(∃ i,xs=[.int i]/\Q (.int i) H)\/∃ k,xs=[.bl k]/\Q (.int (if k then 1 else 0)) H):=by
 show Aa
 rcases h with ⟨i,rfl,q⟩ | ⟨k,rfl,q⟩
 ·obtain ⟨u,rfl,t,rfl⟩:=T3 r;exact call_int_int ⟨.int i,H,I,⟨_,rfl⟩,q⟩
 ·obtain ⟨u,rfl,r1⟩:=T3 r;cases r1;exact call_int_bool ⟨.int (if k then 1 else 0),H,I.tok _,⟨_,rfl⟩,q⟩
def c2Y(K:PySem.W.Frag)(x:V)(H:Hp)(n:Nat):Prop :=
 match x with
 |.str y=>y.length <= sizeLine/\n=y.length
 |.byt y=>y.size <= sizeLine/\n=y.size
 |.ref p=>(∃ xs,SqL K H p xs/\n=xs.length)\/∃ xs,SqT K H p xs/\n=xs.length
 |_=>False
theorem a7D:CallR X (.builtin "len") (λ xs H Q=>∃ x n,xs=[x]/\c2Y X.K x H n/\Q (.int n) H):=by
 show Aa;obtain ⟨x,n,rfl,e,q⟩:=h;obtain ⟨u,rfl,rx⟩:=T3 r;have hl:=U9;have hs:sizeLine=16777216:=sizeLine_eq
 cases x with
 |str y =>
  show Ae;obtain ⟨hy,e'⟩:y.length <= sizeLine/\n=y.length:=e;subst e';exact len_str @D ⟨.int _,H,I.tok _,⟨_,rfl⟩,q⟩
 |byt y =>
  show Ae;obtain ⟨hy,e'⟩:y.size <= sizeLine/\n=y.size:=e;subst e';exact PySem.W.len_bytes @D ⟨.int _,H,I.tok _,⟨_,rfl⟩,q⟩
 |ref p =>
  cases rx;have e':(∃ xs,SqL X.K H p xs/\n=xs.length)\/∃ xs,SqT X.K H p xs/\n=xs.length:=e
  rcases e' with ⟨xs,hx,e'⟩ | ⟨xs,hx,e'⟩
  ·subst e';obtain ⟨its,r',pl,hz⟩:=I.list hx;have hlen:=r'.length;exact Calls.call_len_list pl.isList (by simp only [List.size_toArray];omega) ⟨.int xs.length,H,I.tok _,⟨_,by simp only [List.size_toArray];rw [hlen]⟩,q⟩
  ·subst e';obtain ⟨its,r',pl,hz⟩:=I.tuple hx;have hlen:=r'.length;exact len_tuple pl (by simp only [List.size_toArray];omega) ⟨.int xs.length,H,I.tok _,⟨_,by simp only [List.size_toArray];rw [hlen]⟩,q⟩
 |_=>exact (show False from e).elim
end
end L2
namespace L2
open PySem PySem.Spec PyProof.Rows
structure ObjM(h:Heap)(x dx C:Addr)(mA:Str->Option Value):Prop where
 obj:h.get? x=some (PySem.W.instObj C dx)
 ns:h.Ns1 dx mA
 ne:dx ≠ x
theorem a6X{h:Heap}{dx:Addr}{mA:Str->Option Value}(n:h.Ns1 dx mA):∃ od,h.get? dx=some od/\∀ name,PySem.W.lookIn name od=some (mA name):=by
 obtain ⟨o,es,ep,ho,hd,hk,_,hm⟩:=n;refine ⟨o,ho,λ name=>?_⟩;have e:=hm name;unfold nsFind findBy at e;rw [<- Array.find?_toList] at e;unfold PySem.W.lookIn;rw [hd];dsimp only;split
 ·rename_i y q;rw [q] at e;exact congrArg some e
 ·rename_i q;rw [q] at e
  have a:es.toList.any (·.refKey)=false:=by
   rw [List.any_eq_false];intro y hy;obtain ⟨z,t,hkey⟩:=hk y (Array.mem_toList_iff.mp hy)
   simp [DictEntry.refKey,hkey]
  have a':¬ es.toList.any (·.refKey)=true:=by rw [a];exact ZR
  rw [if_neg a'];exact congrArg some e
theorem ObjM.look{h:Heap}{x dx C:Addr}{mA:Str->Option Value}(I:ObjM h x dx C mA):∃ od,PySem.W.InstAt h x (PySem.W.instObj C dx) C (some od)/\∀ name,PySem.W.lookIn name od=some (mA name) :=
 let ⟨od,ho,hl⟩:=a6X I.ns
 ⟨od,⟨I.obj,rfl,rfl,ho⟩,hl⟩
section
variable {prog:Program} {w:World} {A:Around} {E:Value->Shared->Prop} {s:Shared} {K:PySem.W.Frag} {x dx C f:Addr} {mA:Str->Option Value} {name:Str} {v:Value}
theorem b4B{expr:Bool}{Q:Value->Shared->Prop}(X:K.In s.heap)(I:ObjM s.heap x dx C mA)(hg:PySem.W.plainGet K C name=true)(hh:PySem.W.hasDictIn K C=true)
  (ha:PySem.W.findIn K @AS name=some none) (hv:mA name=some v) (hv':PySem.W.handedIn v=true) (h:Q v { s with toks:=s.toks + 1 }) :
  wpAny @I A (getAttr (.ref x) name expr) Q E s:=by
 obtain ⟨od,J,hl⟩:=I.look;exact PySem.W.get_value X J (PySem.W.plainGet_of hg).1 (PySem.W.findObj_own hh ha rfl (by rw [hl,hv])) hv' h
theorem a8Q{pl:Sem Bool}{Q:Value×List Value->Shared->Prop}(X:K.In s.heap)(I:ObjM s.heap x dx C mA)(hg:PySem.W.plainGet K C name=true)
  (hf:PySem.W.findIn K @AS name=some (some (.ref f))) (ht:PySem.W.isFn K (.ref f)=true) (hv:mA name=none) (h:Q (.ref f,[.ref x]) s) :
  wpAny @I A (getMethod (.ref x) name pl) Q E s:=by
 obtain ⟨od,J,hl⟩:=I.look;exact PySem.W.method_fn X J (PySem.W.plainGet_of hg).1 (PySem.W.plainGet_of hg).2 hf (beq_iff_eq.mp ht) (by show (PySem.W.lookIn name od).map (·.isSome)=some false;rw [hl,hv];rfl) h
theorem b3i{ns:List Str}{Q:Unit->Shared->Prop}(X:K.In s.heap)(I:ObjM s.heap x dx C mA)
  (hs:PySem.W.findIn K @AS "__setattr__" = some @Ba) (hp:PySem.W.plainOver K C=true) (ht:PySem.W.takerIn K C name=some none) (hh:PySem.W.hasDictIn K C=true)
  (hw:PySem.Within mA ns) (hsz:ns.length <= sizeLine)
  (h:∀ h',ObjM h' x dx C (λ y=>if y=name then some v else mA y)->Heap.SameBut dx s.heap h'->Q () { s with heap:=h',toks:=s.toks + 2 }) :
  wpAny @I A (setAttr (.ref x) name v) Q E s:=by
 obtain ⟨od,J,hl⟩:=I.look;refine PySem.W.set_plain X J hs (PySem.W.osa_open (s:={ s with toks:=s.toks + 1 }) (r:=none) X J hp ht λ b=>?_);obtain ⟨cd,hc,hd'⟩:=PySem.W.any_some hh;have hx:s.heap.get? x=some ⟨.ref C,some dx,.plain,#[]⟩:=I.obj;refine wpAny_bind (wpAny_pure (wpAny_bind (wpAny_bind (wpAny_loadPart hx (wpAny_bind (PySem.W.Looks.here (s:={ s with toks:=s.toks + 1 }) (PySem.W.looks_clsIn X hc) ?_))))));rw [hd'];refine wpAny_pure (a:=some dx) (wpAny_bind (wpAny_pure (wpAny_bind ?_)));refine wpAny_nsSet1 (s:={ s with toks:=s.toks + 1 }) I.ns λ h' hn2 hs2=>?_;obtain ⟨oD,esD,epD,hoD,hdD,hcD⟩:=hn2.count (PySem.Within.cons name v hw);refine wpAny_bind (wpAny_lookBehind hoD (by rw [hdD];exact pastItsLine_dict (Zu hcD (by rw [Zw];omega))) ?_);exact wpAny_pure (h _ ⟨(hs2.2 _ (Ne.symm I.ne)).trans I.obj,hn2,I.ne⟩ hs2)
theorem a8I{R:Result->Shared->Prop}{vs:List Value}{kw:List (Str×Value)}(X:K.In s.heap)(hm:PySem.W.makesIn K C=true)
  (hi:PySem.W.findIn K @AS "__init__" = some (some (.ref f))) (hf:PySem.W.typeIn K (.ref f)=some (.type "function"))
  (h:codeAny @I (A.under (.builtin "type.__call__" ⟨.ref C :: vs,kw⟩)) (.call (.ref f) ⟨.ref @J :: vs,kw⟩) (PySem.W.InitBack @J R)
   { s with heap:=(s.heap.push PySem.W.emptyDict).push (PySem.W.instObj C s.heap.objs.size) }) :
  codeAny @I A (.call @AS ⟨vs,kw⟩) R s:=by
 obtain ⟨hh,g,d,t,os⟩:=s;exact PySem.W.make_core (PySem.W.makes_of X hm) (PySem.W.looks_findIn X hi) (λ self=>PySem.W.bind_fn X self hf) @AH h
end
def E6(f:Str)(v:V):List (Str×V)->List (Str×V)
 |[]=>[(f,v)]
 |(g,x) :: r=>if g=f then (g,v) :: r else (g,x) :: E6 f v r
theorem X6(f g:Str)(v:V):∀ fs:List (Str×V),(E6 f v fs).lookup g=if g=f then some v else fs.lookup g
 |[]=>by
  show List.lookup g [(f,v)]=_
  by_cases h:g=f
  ·have hb:(g == f)=true:=beq_iff_eq.mpr h;simp only [List.lookup,hb,if_pos h]
  ·have hb:(g == f)=false:=beq_eq_false_iff_ne.mpr h;simp only [List.lookup,hb,if_neg h]
 |(k,x) :: r=>by
  have ih:=X6 f g v r;show An
  by_cases hk:k=f
  ·rw [if_pos hk]
   by_cases h:g=k
   ·have hb:(g == k)=true:=beq_iff_eq.mpr h;simp only [List.lookup,hb,if_pos (h.trans hk)]
   ·have hb:(g == k)=false:=beq_eq_false_iff_ne.mpr h;simp only [List.lookup,hb,if_neg (λ e:g=f=>h (e.trans hk.symm))]
  ·rw [if_neg hk]
   by_cases h:g=k
   ·have hb:(g == k)=true:=beq_iff_eq.mpr h;simp only [List.lookup,hb,if_neg (λ e:g=f=>hk (h.symm.trans e))]
   ·have hb:(g == k)=false:=beq_eq_false_iff_ne.mpr h;simp only [List.lookup,hb];exact ih
theorem V0(f:Str)(v:V):∀ fs:List (Str×V),f ∈ (E6 f v fs).map (·.1)/\∀ g,g ∈ fs.map (·.1)->g ∈ (E6 f v fs).map (·.1)
 |[]=>⟨by simp [E6],λ g h=>by simp at h⟩
 |(k,x) :: r=>by
  obtain ⟨i1,i2⟩:=V0 f v r;show An
  by_cases hk:k=f
  ·rw [if_pos hk];subst hk;exact ⟨by simp,λ g h=>by simpa using h⟩
  ·rw [if_neg hk];refine ⟨?_,λ g h=>?_⟩
   ·rw [Zs];exact ZM _ i1
   ·rw [Zs] at h ⊢
    rcases List.mem_cons.mp h with e | e
    ·exact List.mem_cons.mpr (.inl e)
    ·exact ZM _ (i2 g e)
theorem Y1(f:Str)(v:V):∀ fs:List (Str×V),(E6 f v fs).length <= fs.length + 1
 |[]=>by simp [E6]
 |(k,x) :: r=>by
  have ih:=Y1 f v r;show An
  by_cases hk:k=f
  ·rw [if_pos hk,Zw,Zw];omega
  ·rw [if_neg hk,Zw,Zw];omega
theorem RelO.some_of{v:V}{o:Option Value}(r:RelO (some v) o):∃ u,o=some u/\RelV v u:=by
 cases o with
 |none=>exact (show False from r).elim
 |some u=>exact ⟨u,rfl,r⟩
theorem RelO.none_of{o:Option Value}(r:RelO none o):o=none:=by
 cases o with
 |none=>rfl
 |some u=>exact (show False from r).elim
theorem a6S{v:V}{u:Value}(r:RelV v u):PySem.W.handedIn u=true:=by
 cases v with
 |non=>cases (show u=Value.none from r);rfl
 |bl b=>cases (show u=Value.bool b from r);rfl
 |int i=>obtain ⟨t,e⟩:=(show ∃ t,u=Value.int i t from r);cases e;rfl
 |str x=>obtain ⟨t,e⟩:=(show ∃ t,u=Value.str x t from r);cases e;rfl
 |byt b=>obtain ⟨t,e⟩:=(show ∃ t,u=Value.bytes b t from r);cases e;rfl
 |flt b=>obtain ⟨t,e⟩:=(show ∃ t,u=Value.float b t from r);cases e;rfl
 |ref a=>cases (show u=Value.ref a from r);rfl
 |ty n=>cases (show u=Value.type n from r);rfl
section
variable {P:Program} {w:World} {H H':Hp} {h h':Heap} {a C dx:Addr} {fs fs':List (Str×V)}
theorem a0i(hok:HOk P w H h)(e:H a=some (.ins C dx fs)):∃ mA,ObjM h a dx C mA/\(∀ f,RelO (fs.lookup f) (mA f))/\PySem.Within mA (fs.map (·.1))/\fs.length <= 1000/\H dx=some (.own a):=by
 obtain ⟨d,z,ne,ob,mA,n,r,q⟩:=(show ObjOk P w H h a (.ins C dx fs) from hok a _ e)
 exact ⟨mA,⟨ob,n,ne⟩,r,q,z,d⟩
end
structure Cls(K:PySem.W.Frag)(C:Addr):Prop where
 pg:PySem.W.plainGet K C Str.empty=true
 hd:PySem.W.hasDictIn K C=true
 po:PySem.W.plainOver K C=true
 sa:PySem.W.findIn K @AS "__setattr__" = some @Ba
theorem Cls.get{K:PySem.W.Frag}{C:Addr}(c:Cls K C)(f:Str):PySem.W.plainGet K C f=true:=c.pg
def NoAttr(K:PySem.W.Frag)(C:Addr)(f:Str):Prop:=PySem.W.findIn K @AS f=some none
theorem NoAttr.taker{K:PySem.W.Frag}{C:Addr}{f:Str}(n:NoAttr K C f):PySem.W.takerIn K C f=some none:=by
 unfold PySem.W.takerIn;rw [show PySem.W.findIn K @AS f=some none from n];rfl
structure b0v(K:PySem.W.Frag)(C:Addr)(m:Str)(f:Addr):Prop where
 at_:PySem.W.findIn K @AS m=some (some (.ref f))
 fn:PySem.W.isFn K (.ref f)=true
 kp:PySem.W.keepIn K (.ref f)=true
section
variable {X:Cx} {pins:List (Addr×Obj)} {σ:St} {H:Hp} {s:Shared} {a C dx:Addr} {fs:List (Str×V)} {f:Str} {v:V} {A:Around} {E:Value->Shared->Prop}
theorem a0G{b:Bool}{Q:Value->Shared->Prop}(I:Inv X pins σ H s)(e:H a=some (.ins C dx fs))(c:Cls X.K C)(n:NoAttr X.K C f)(l:fs.lookup f=some v)
  (h:∀ u s',Inv X pins σ H s'->RelV v u->Q u s'):wpAny @C A (getAttr @Ax f b) Q E s:=by
 obtain ⟨mA,O,r,_,_,_⟩:=a0i I.hok e;obtain ⟨u,hu,ru⟩:=RelO.some_of (v:=v) (o:=mA f) (by rw [<- l];exact r f);exact b4B I.kIn O (c.get f) c.hd n hu (a6S ru) (h u _ (I.tok _) ru)
theorem P6{m:Str}{g:Addr}{pl:Sem Bool}{Q:Value×List Value->Shared->Prop}(I:Inv X pins σ H s)(e:H a=some (.ins C dx fs))(c:Cls X.K C)(k:b0v X.K C m g)(l:fs.lookup m=none)
  (h:Q (.ref g,[.ref a]) s):wpAny @C A (getMethod @Ax m pl) Q E s:=by
 obtain ⟨mA,O,r,_,_,_⟩:=a0i I.hok e;have hn:mA m=none:=RelO.none_of (by rw [<- l];exact r m);exact a8Q I.kIn O (c.get m) k.at_ k.fn hn h
theorem a0B{y:V}{u:Value}{Q:Unit->Shared->Prop}(I:Inv X pins σ H s)(e:H a=some (.ins C dx fs))(c:Cls X.K C)(n:NoAttr X.K C f)(hl:fs.length < 1000)(ry:RelV y u)
  (h:∀ s',Inv X pins σ (upd H a (.ins C dx (E6 f y fs))) s'->Q () s'):wpAny @C A (setAttr @Ax f u) Q E s:=by
 obtain ⟨mA,O,r,wi,_,ho⟩:=a0i I.hok e;have hz:(fs.map (·.1)).length <= sizeLine:=by rw [ZS,sizeLine_eq];omega
 refine b3i I.kIn O c.sa c.po n.taker c.hd wi hz λ h' O' sb=>h _ ?_;have hd:∃ o,h'.get? dx=some o:=let ⟨o,_,_,e',_⟩:=O'.ns;⟨o,e'⟩
 refine I.write (x:=a) (e:=dx) (by rw [e];exact True.intro) (.inr ho) (λ b q hb z=>(sb.2 b hb).trans z) hd ?_;refine ⟨by rw [k9 O.ne];exact ho,?_,O.ne,O'.obj,_,O'.ns,λ g=>?_,λ g hg=>?_⟩
 ·have:=Y1 f y fs;omega
 ·show RelO ((E6 f y fs).lookup g) (if g=f then some u else mA g);rw [X6]
  by_cases q:g=f
  ·rw [if_pos q,if_pos q];exact ry
  ·rw [if_neg q,if_neg q];exact r g
 ·by_cases q:g=f
  ·rw [q];exact (V0 f y fs).1
  ·refine (V0 f y fs).2 g (wi g λ z=>hg ?_);show (if g=f then some u else mA g)=none;rw [if_neg q];exact z
theorem Inv.made(I:Inv X pins σ H s):Inv X pins σ (upd (upd H s.heap.objs.size (.own @J)) @J (.ins C s.heap.objs.size []))
  { s with heap:=(s.heap.push PySem.W.emptyDict).push (PySem.W.instObj C s.heap.objs.size) }:=by
 have e1:(s.heap.push PySem.W.emptyDict).get? s.heap.objs.size=some PySem.W.emptyDict:=ZI s.heap rfl
 have e2:((s.heap.push PySem.W.emptyDict).push (PySem.W.instObj C s.heap.objs.size)).get? @J=some (PySem.W.instObj C s.heap.objs.size):=by
  have:=ZI (s.heap.push PySem.W.emptyDict) (o:=PySem.W.instObj C s.heap.objs.size) rfl
  rwa [YS] at this
 have e3:(s.heap.push PySem.W.emptyDict).Ns s.heap.objs.size (λ _=>none):=⟨PySem.W.emptyDict,#[],_,e1,rfl,(λ e he=>absurd he @N),λ _=>rfl⟩
 have I1:=I.laid (a:=s.heap.objs.size) (o:=.own @J) (h':=s.heap.push PySem.W.emptyDict) (t':=s.toks) (λ b u q=>ZU _ q) @G ⟨_,e1⟩;refine I1.laid (a:=s.heap.objs.size + 1) (o:=.ins C s.heap.objs.size []) (t':=s.toks) (λ b u q=>ZU _ q) (Nat.le_of_eq (YS _ _)) ?_;have ne:s.heap.objs.size ≠ s.heap.objs.size + 1:=Zp (Nat.lt_succ_self _);refine ⟨by rw [k9 ne,j3],YL _,ne,e2,λ _=>none,(Heap.Ns1.of_empty e3).at λ o q=>ZU _ q,λ _=>True.intro,λ y hy=>absurd rfl hy⟩
theorem b5h{prog:Program}{w:World}{env:Env}{e:Expr}{f:Str}{pos:Pos}{s:Shared}{Q:Value->Shared->Prop}(hb:attributeBase e f env (eval e env)=eval e env)
  (h:wpAny @I A (eval e env) (λ o s₁=>wpAny @I A (getAttr o f true) Q E s₁) E s):wpAny @I A (eval (.Attribute e f pos) env) Q E s :=
 Attribute_any_ h (by rw [arm_eval_Attribute,hb])
end
def c2N(K:PySem.W.Frag)(ta:TE)(f:Str):TE:=λ σ H Q=>ta σ H λ x H1=>∃ a C dx fs v,x = .ref a/\H1 a=some (.ins C dx fs)/\Cls K C/\NoAttr K C f/\fs.lookup f=some v/\Q v H1
def c2Z(K:PySem.W.Frag)(ta tv:TE)(f:Str):TS:=λ D σ H=>tv σ H λ y H1=>ta σ H1 λ x H2=>∃ a C dx fs,x = .ref a/\H2 a=some (.ins C dx fs)/\Cls K C/\NoAttr K C f/\fs.length < 1000 /\
 D.nx σ (upd H2 a (.ins C dx (E6 f y fs)))
def c2M(X:Cx)(op:Operator)(rd:V->V->Hp->VK->Prop):Prop :=
 ∀ (pins:List @M) (s:Shared) (σ:St) (H:Hp) (x y:V) (u v:Value) (Q:VK),Inv X pins σ H s->RelV x u->RelV y v->rd x y H Q->wpAny @C X.A (inplaceOp op u v) @AR X.xe s
def b4M(K:PySem.W.Frag)(ta tv:TE)(rd:V->V->Hp->VK->Prop)(f:Str):TS:=λ D σ H=>ta σ H λ x H1=>∃ a C dx fs v,x = .ref a/\H1 a=some (.ins C dx fs)/\Cls K C/\NoAttr K C f/\fs.lookup f=some v /\
 tv σ H1 λ y H2=>rd v y H2 λ z H3=>∃ dx' fs',H3 a=some (.ins C dx' fs')/\fs'.length < 1000/\D.nx σ (upd H3 a (.ins C dx' (E6 f z fs')))
section
variable {X:Cx} {o e value:Expr} {f:Str} {pos pos' tpos:Pos} {ta tv:TE}
theorem b8Q(he:PE X e ta)(hb:attributeBase e f X.env (eval e X.env)=eval e X.env):PE X (.Attribute e f pos) (c2N X.K ta f):=by
 show J;refine b5h hb (thn @AV λ u s1 zz0=>?_);obtain ⟨x,H1,I1,rx,a,C,dx,fs,v,ex,ea,c,n,l,q⟩:=zz0;subst ex
 show Ah
 exact a0G I1 ea c n l λ u' s2 I2 ru=>⟨v,H1,I2,ru,q⟩
theorem b7F(ha:PE X o ta)(hv:PE X value tv)(hs:swapsWith value (some (.Attribute o f pos')) pos.line X.env=pure false):PS X (.Assign [.Attribute o f pos'] value pos) (c2Z X.K ta tv f):=by
 show Ab;refine plainObj_wpAny_Assign_Attribute (thn (hv pins s σ H _ I h) λ u s1 ⟨y,H1,I1,ry,q⟩=>thn (ha pins s1 σ H1 _ I1 q) λ ov s2 zz0=>?_) hs;obtain ⟨x,H2,I2,rx,a,C,dx,fs,ex,ea,c,n,l,q2⟩:=zz0;subst ex
 obtain rfl:ov=Value.ref a:=rx
 exact a0B I2 ea c n l ry λ s3 I3=>⟨σ,_,I3,q2⟩
theorem a6t{op:Operator}{rd:V->V->Hp->VK->Prop}(ha:PE X o ta)(hv:PE X value tv)(hop:c2M X op rd):PS X (.AugAssign (.Attribute o f tpos) op value pos) (b4M X.K ta tv rd f):=by
 show Ab;refine wpAny_AugAssign_AttributeAny (thn @AD λ ov s1 zz0=>?_);obtain ⟨x,H1,I1,rx,a,C,dx,fs,v,ex,ea,c,n,l,q⟩:=zz0;subst ex
 obtain rfl:ov=Value.ref a:=rx
 refine a0G I1 ea c n l λ u s2 I2 ru=>thn (hv pins s2 σ H1 _ I2 q) λ w3 s3 ⟨y,H2,I3,ry,q3⟩=>thn (hop pins s3 σ H2 v y u w3 _ I3 ru ry q3) λ w4 s4 zz0=>?_;obtain ⟨z,H3,I4,rz,dx',fs',ea',l',q4⟩:=zz0;exact a0B I4 ea' c n l' rz λ s5 I5=>⟨σ,_,I5,q4⟩
theorem b5D{pl:Sem Bool}{m:Str}{apos:Pos}{args:List Expr}{pins:List @M}{s:Shared}{σ:St}{H:Hp}{Q:Value->Shared->Prop}{te:TE}(he:PE X e te)(I:Inv X pins σ H s)
  (h:te σ H λ x H1=>∃ a C dx fs g,x = .ref a/\H1 a=some (.ins C dx fs)/\Cls X.K C/\b0v X.K C m g/\fs.lookup m=none /\
   ∀ s1,Inv X pins σ H1 s1->wpAny @C X.A (callWith pos (.ref g) [.ref a] (backTo pos (starEach args X.env)) (backToKw pos @AK)) Q X.xe s1)
  (ht:eval (.Call (.Attribute e m apos) args [] pos) X.env=(do
   let ov <- eval e X.env
   standAt apos.atName
   let (f,first) <- holding [ov] (getMethod ov m pl)
   callWith pos f first (backTo pos (starEach args X.env)) (backToKw pos @AK))) :
  wpAny @C X.A (eval (.Call (.Attribute e m apos) args [] pos) X.env) Q X.xe s:=by
 refine PySem.W.methodCall_KW (pl:=pl) (thn @AV λ u s1 ⟨x,H1,I1,rx,a,C,dx,fs,g,ex,ea,c,k,l,q⟩=>?_) ht;subst ex
 show Ah
 exact P6 I1 ea c k l (q s1 I1)
end
section
variable {X:Cx} {pins:List (Addr×Obj)} {σ:St} {H:Hp} {s:Shared} {A:Around} {E:Value->Shared->Prop} {Q:Value->Shared->Prop} {c:Value} {b:Bool}
inductive Q5(K:PySem.W.Frag)(H:Hp):V->Value->Prop where
 |non:Q5 K H .non (.type "NoneType")
 |bl (x:Bool):Q5 K H (.bl x) (.type "bool")
 |int (i:Int):Q5 K H (.int i) (.type "int")
 |str (x:Str):Q5 K H (.str x) (.type "str")
 |flt (x:UInt64):Q5 K H (.flt x) (.type "float")
 |lst {a:Addr} {xs:List V} (e:H a=some @X):Q5 K H @Ax (.type "list")
 |frz {a:Addr} {o:Obj} {xs:List V} (e:H a=some (.frz o @X)):Q5 K H @Ax (.type "list")
 |tup {a:Addr} {xs:List V} (e:H a=some (.tup xs)):Q5 K H @Ax (.type "tuple")
 |dK {a:Addr} {kvs:List (Key×V)} (e:H a=some (.dK kvs)):Q5 K H @Ax (.type "dict")
 |dT {a:Addr} {kvs:List @As} (e:H a=some @Ar):Q5 K H @Ax (.type "dict")
 |ins {a C dx:Addr} {fs:List (Str×V)} (e:H a=some (.ins C dx fs)) (cl:Cls K C) (ha:PySem.W.findIn K @AS "__class__" = some (some (.builtin "object.__class__")))
   (hn:PySem.W.specialIn K (.builtin "object.__class__") "__get__" = some (some (.builtin "getset_descriptor.__get__"))) (htk:PySem.W.takesIn K (.builtin "object.__class__")=some true)
   (hm:PySem.W.mroIn K C (.type "object")=some true):Q5 K H @Ax @AS
theorem a7o{x:V}{u t:Value}(I:Inv X pins σ H s)(rx:RelV x u)(ty:Q5 X.K H x t)(e:PySem.W.kitOne X.K t c=some b)(h:∀ tk,Q (.bool b) { s with toks:=tk }) :
  wpAny @C A (call (.builtin "isinstance") [u,c]) Q E s:=by
 cases ty with
 |non=>cases (show u=Value.none from rx);exact PySem.W.kia_one PySem.W.kitx_none I.kIn True.intro e (λ z=>nomatch z) h
 |bl y=>cases (show u=Value.bool y from rx);exact PySem.W.kia_one PySem.W.kitx_bool I.kIn True.intro e (λ z=>nomatch z) h
 |int i=>obtain ⟨t,q⟩:=(show ∃ t,u=Value.int i t from rx);cases q;exact PySem.W.kia_one PySem.W.kitx_int I.kIn True.intro e (λ z=>nomatch z) h
 |str y=>obtain ⟨t,q⟩:=(show ∃ t,u=Value.str y t from rx);cases q;exact PySem.W.kia_one PySem.W.kitx_str I.kIn True.intro e (λ z=>nomatch z) h
 |flt y=>obtain ⟨t,q⟩:=(show ∃ t,u=Value.float y t from rx);cases q;exact PySem.W.kia_one PySem.W.kitx_float I.kIn True.intro e (λ z=>nomatch z) h
 |@lst a xs ea =>
  cases (show u=Value.ref a from rx)
  obtain ⟨_,_,n,_,h1⟩:=(show ObjOk X.prog X.w H s.heap a @X from I.hok a _ ea)
  exact PySem.W.kia_one PySem.W.kitx_list I.kIn ⟨_,h1,rfl⟩ e (λ z=>nomatch z) h
 |@frz a ob xs ea =>
  cases (show u=Value.ref a from rx)
  obtain ⟨_,_,_,n,_,h1⟩:=(show ObjOk X.prog X.w H s.heap a (.frz ob @X) from I.hok a _ ea)
  exact PySem.W.kia_one PySem.W.kitx_list I.kIn ⟨_,h1,rfl⟩ e (λ z=>nomatch z) h
 |@tup a xs ea =>
  cases (show u=Value.ref a from rx)
  obtain ⟨_,_,_,p⟩:=(show ObjOk X.prog X.w H s.heap a (.tup xs) from I.hok a _ ea)
  obtain ⟨o,h1,h2,_⟩:=p;exact PySem.W.kia_one PySem.W.kitx_tuple I.kIn ⟨o,h1,h2⟩ e (λ z=>nomatch z) h
 |@dK a kvs ea =>
  cases (show u=Value.ref a from rx)
  obtain ⟨_,_,vs,_,p⟩:=(show ObjOk X.prog X.w H s.heap a (.dK kvs) from I.hok a _ ea)
  obtain ⟨o,es,ep,h1,h2,_⟩:=p;exact PySem.W.kia_one PySem.W.kitx_dict I.kIn ⟨o,h1,h2.1⟩ e (λ z=>nomatch z) h
 |@dT a kvs ea =>
  cases (show u=Value.ref a from rx)
  obtain ⟨_,_,xs,_,o,es,ep,h1,h2,_⟩:=(show ObjOk X.prog X.w H s.heap a @Ar from I.hok a _ ea)
  exact PySem.W.kia_one PySem.W.kitx_dict I.kIn ⟨o,h1,h2.1⟩ e (λ z=>nomatch z) h
 |@ins a C dx fs ea cl ha hn htk hm =>
  cases (show u=Value.ref a from rx)
  obtain ⟨mA,O,_⟩:=a0i I.hok ea;obtain ⟨od,J,_⟩:=O.look;exact PySem.W.kia_one (PySem.W.kitx_own (cl.get _) cl.hd ha hn htk hm) I.kIn J e (λ z=>nomatch z) h
end
end L2
namespace L2
open PySem PySem.Spec PyProof.Rows
structure Room(k:Nat)(A:Around):Prop where
 hd:A.handled=none
 dp:A.depth + 3 * k + 5 < recursionLimit
 un:A.units + 16 * k + 200 < cLine
theorem Room.mono{j k:Nat}{A:Around}(r:Room k A)(h:j <= k):Room j A:=⟨r.hd,by have:=r.dp;omega,by have:=r.un;omega⟩
theorem Room.deeper{k:Nat}{A:Around}(r:Room (k + 1) A)(env:Env):Room k (A.deeper env) :=
 ⟨r.hd,by have:=r.dp;show A.depth + 1 + 3 * k + 5 < _;omega,by have:=r.un;show A.units + 3 + 16 * k + 200 < _;omega⟩
theorem a4C{A:Around}{C:Addr}{us:List Value}{kw:List (Str×Value)}:(A.under (.builtin "type.__call__" ⟨.ref C :: us,kw⟩)).depth=A.depth + 1:=by
 first | rfl | simp [Around.under,Code.weight,Code.isCreation,Code.isGuard,Code.isCaller,Code.frames,Code.isFrame,guardIds]
theorem a4z{A:Around}{C:Addr}{us:List Value}{kw:List (Str×Value)}:(A.under (.builtin "type.__call__" ⟨.ref C :: us,kw⟩)).units=A.units + 1:=by
 first | rfl | simp [Around.under,Code.cUnits,Code.frames,Code.isFrame]
theorem Room.make{k:Nat}{A:Around}(r:Room (k + 1) A)(C:Addr)(us:List Value)(kw:List (Str×Value)):Room k (A.under (.builtin "type.__call__" ⟨.ref C :: us,kw⟩)) :=
 ⟨r.hd,by have:=r.dp;rw [a4C];omega,by have:=r.un;rw [a4z];omega⟩
theorem Room.depth{k:Nat}{A:Around}(r:Room k A):A.depth < recursionLimit:=by have:=r.dp;omega
theorem Room.units{k:Nat}{A:Around}(r:Room k A):A.units + 64 < cLine:=by have:=r.un;omega
theorem Room.units0{k:Nat}{A:Around}(r:Room k A):A.units < cLine:=by have:=r.un;omega
def b6M:TA:=λ _ H Q=>Q [] H
def c0y(ta:TE)(tr:TA):TA:=λ σ H Q=>ta σ H λ x H1=>tr σ H1 λ xs H2=>Q (x :: xs) H2
section
variable {X:Cx} {e:Expr} {es:List Expr} {te:TE} {t:TA} {pos:Pos}
theorem a8W:PA X [] b6M:=λ _ _ _ _ H Q I h=>Calls.spliced_nil ⟨[],H,I,.nil,h⟩
theorem a2P(ha:PE X e te)(hr:PA X es t)(hs:starEach (e :: es) X.env=(false,eval e X.env) :: starEach es X.env:=by rfl):PA X (e :: es) (c0y te t):=by
 intro pos pins s σ H Q I h;rw [hs];show wpAny _ _ (spliced ((false,eval e X.env) :: backTo pos @Ao)) _ _ s;refine YJ (thn @AD λ u s1 zz0=>?_);show Ai;exact thn (hr pos pins s1 σ H1 _ I1 q1) λ us s2 ⟨xs,H2,I2,r2,q2⟩=>⟨x :: xs,H2,I2,.cons r1 r2,q2⟩
def c3f(t:TA):TE:=λ σ H Q=>t σ H λ xs H1=>xs.length <= sizeLine/\∀ p,H1 p=none->Q (.ref p) (upd H1 p (.tup xs))
def c2B(t:TA):TE:=λ σ H Q=>t σ H λ xs H1=>xs.length <= sizeLine/\∀ p,H1 p=none->Q (.ref p) (upd H1 p @X)
theorem b6J{x1}(h:PA X es t):PE X (.Tuple es x1 pos) (c3f t):=by
 intro pins s σ H Q I hq;refine wpAny_Tuple_spliced (thn (h pos pins s σ H _ I hq) λ us s1 ⟨xs,H1,I1,r,z,q⟩=>⟨by rw [<- r.length];exact z,?_⟩);have hf:H1 s1.heap.objs.size=none:=I1.hok.fresh @G;refine ⟨.ref s1.heap.objs.size,upd H1 s1.heap.objs.size (.tup xs),I1.laid (t':=s1.toks) (λ b u e=>ZU _ e) @G ?_,rfl,q _ hf⟩;exact ⟨z,us,r,⟨_,ZI _ rfl,rfl,_,rfl⟩⟩
theorem b9x(h:PA X es t):PE X (.List es pos) (c2B t):=by
 intro pins s σ H Q I hq;refine wpAny_List_spliced (thn (h pos pins s σ H _ I hq) λ us s1 ⟨xs,H1,I1,r,z,q⟩=>⟨by rw [<- r.length];exact z,?_⟩);have hf:H1 s1.heap.objs.size=none:=I1.hok.fresh @G;refine ⟨.ref s1.heap.objs.size,upd H1 s1.heap.objs.size @X,I1.laid (t':=s1.toks) (λ b u e=>ZU _ e) @G ?_,rfl,q _ hf⟩;exact ⟨z,us,0,r,ZI _ rfl⟩
end
abbrev Sp:=List V->Hp->VK->XK->Prop
abbrev CXT:=List Env->Hp->Shared->XK->Value->Shared->Prop
structure Env0(P:Program)(w:World)(K:PySem.W.Frag)(mg:Str->Option Value)(base:Heap)(A:Around)(outer:List Env)(s:Shared)(H:Hp):Prop where
 frames:A.frames=some outer
 mod:Mod K mg base
 bs:∀ b o,base.get? b=some o->s.heap.get? b=some o/\H b=none
 bsz:base.objs.size <= s.heap.objs.size
 funs:s.heap.FunFrames base outer
 frf:∀ b ∈ frs outer,H b=none
 hok:HOk P w H s.heap
 bare:AllBare s.gens
def CE(outer:List Env)(P:Program)(w:World)(H:Hp)(s:Shared)(Q:VK)(u:Value)(s':Shared):Prop :=
 ∃ v H',s'.os=s.os/\AllBare s'.gens/\Un (frs outer) [] H H' s.heap s'.heap/\HOk P w H' s'.heap/\RelV v u/\Q v H'
def CR(CX:CXT)(outer:List Env)(P:Program)(w:World)(H:Hp)(s:Shared)(Q:VK)(E:XK)(r:Result)(s':Shared):Prop :=
 match r with
 |.ok (.ret u)=>CE outer P w H s Q u s'
 |.ok _=>False
 |.error e=>CX outer H s E e s'
structure n8(P:Program)(w:World)(K:PySem.W.Frag)(mg:Str->Option Value)(base:Heap)(CX:CXT)(k:Nat)(f:Addr)(fd:FuncData)(ps:List Str)(sp:Sp):Prop where
 len:∀ vs H Q E,sp vs H Q E->vs.length=ps.length
 run:∀ (A:Around) (outer:List Env) (s:Shared) (H:Hp) (args:Args) (us:List Value) (vs:List V) (Q:VK) (E:XK),Room k A->Env0 P w K mg base A outer s H->BindsTo s fd args (ps.zip us)->Vals vs us->sp vs H Q E ->
  codeAny (model P w) A (.call (.ref f) args) (CR CX outer P w H s Q E) s
theorem Env0.make{P:Program}{w:World}{K:PySem.W.Frag}{mg:Str->Option Value}{base:Heap}{A:Around}{outer:List Env}{s:Shared}{H:Hp}(e:Env0 P w K mg base A outer s H)(C:Addr)(us:List Value)(kw:List (Str×Value)) :
  Env0 P w K mg base (A.under (.builtin "type.__call__" ⟨.ref C :: us,kw⟩)) outer s H:=⟨by first | exact e.frames | (simpa [Around.under,Code.envs,Code.isFrame,pushEnvs] using e.frames),e.mod,e.bs,e.bsz,e.funs,e.frf,e.hok,e.bare⟩
section
variable {X:Cx} {pins:List (Addr×Obj)} {σ:St} {H:Hp} {s s':Shared}
theorem Inv.env0(I:Inv X pins σ H s):Env0 X.prog X.w X.K X.mg X.base X.A X.stack s H :=
 ⟨I.ok.frames,I.ok.mod,I.bs,Zu I.ok.bsz I.sz,I.stack,I.stkFree,I.hok,I.bare⟩
theorem Inv.after{Q:VK}{u:Value}(I:Inv X pins σ H s)(h:CE X.stack X.prog X.w H s Q u s'):EP X pins σ Q u s':=by
 obtain ⟨v,H',os,bare,un,hok,r,q⟩:=h;obtain ⟨hh,g,d,t,os'⟩:=s'
 obtain rfl:os'=s.os:=os
 exact ⟨v,H',I.call (h':=hh) (g':=g) (d':=d) (t':=t) (ch:=[]) un hok bare (λ b z=>absurd z @N),r,q⟩
end
def b6a(sp:Sp)(dvs:List V)(E:XK)(t:TA):TE:=λ σ H Q=>t σ H λ vs H1=>sp (vs ++ dvs) H1 Q E
def a5Q(C:Addr)(m:Str)(sp:Sp)(dvs:List V)(E:XK)(ta:TE)(t:TA):TE:=λ σ H Q=>ta σ H λ x H1=>∃ a dx fs,x = .ref a/\H1 a=some (.ins C dx fs)/\fs.lookup m=none /\
 t σ H1 λ vs H2=>sp (x :: (vs ++ dvs)) H2 Q E
def b0h(C:Addr)(sp:Sp)(dvs:List V)(E:XK)(t:TA):TE:=λ σ H Q=>t σ H λ vs H1=>∀ x dx,H1 x=none->H1 dx=none->dx ≠ x ->
 sp (.ref x :: (vs ++ dvs)) (upd (upd H1 dx (.own x)) x (.ins C dx [])) (λ v H2=>v = .non/\Q (.ref x) H2) E
def Binds(K:PySem.W.Frag)(fd:FuncData)(ps:List Str)(ds:List Value):Prop :=
 ∀ (s:Shared) (us:List Value),K.In s.heap->(us ++ ds).length=ps.length->BindsTo s fd ⟨us,[]⟩ (ps.zip (us ++ ds))
theorem Binds.all{K:PySem.W.Frag}{fd:FuncData}{ps:List Str}(h:∀ us:List Value,us.length=ps.length->bindArgs fd ⟨us,[]⟩=pure (ps.zip us)):Binds K fd ps []:=λ s us _ hl=>by
 rw [Zr] at hl ⊢;exact .of_eq (h us hl)
def L4(CX:CXT)(X:Cx)(E:XK):Prop:=∀ (pins:List @M) (σ:St) (H:Hp) (s:Shared) (e:Value) (s':Shared),Inv X pins σ H s->CX X.stack H s E e s'->X.xe e s'
section
variable {X:Cx} {CX:CXT} {k:Nat} {f C:Addr} {fd:FuncData} {ps:List Str} {sp:Sp} {dvs:List V} {ds:List Value} {E:XK} {x m:Str} {p pos apos:Pos} {e o:Expr} {es:List Expr} {ta:TE} {t:TA}
theorem a4g{pins:List @M}{σ:St}{H:Hp}{s:Shared}{Q:VK}{us:List Value}{vs:List V}(F:n8 X.prog X.w X.K X.mg X.base CX k f fd ps sp)(hr:Room k X.A)(hb:Binds X.K fd ps ds)(hd:Vals dvs ds)(hx:L4 CX X E)
  (I:Inv X pins σ H s) (r:Vals vs us) (h:sp (vs ++ dvs) H Q E):wpAny @C X.A (call (.ref f) us) @AR X.xe s:=by
 have r2:Vals (vs ++ dvs) (us ++ ds):=r.append hd;have hl:(us ++ ds).length=ps.length:=by rw [<- r2.length];exact F.len _ _ _ _ h
 refine wpAny_call (codeAny_mono (F.run X.A X.stack s H ⟨us,[]⟩ (us ++ ds) (vs ++ dvs) Q E hr I.env0 (hb s us I.kIn hl) r2 h) λ r s' hq=>?_)
 cases r with
 |error e=>exact hx pins σ H s e s' I hq
 |ok fl =>
  cases fl with
  |ret u=>exact I.after hq
  |next=>exact False.elim hq
  |brk=>exact False.elim hq
  |cont=>exact False.elim hq
theorem b2V(F:n8 X.prog X.w X.K X.mg X.base CX k f fd ps sp)(hr:Room k X.A)(hg:Gl X x)(hm:X.mg x=some (.ref f))(hk:PySem.W.keepIn X.K (.ref f)=true)(hb:Binds X.K fd ps ds)(hd:Vals dvs ds)(hx:L4 CX X E)
  (ha:PA X (e :: es) t) (hdb:@Ag=false:=by decide) (he:starEach (e :: es) X.env=(false,eval e X.env) :: starEach es X.env:=by rfl) (hpl:(backTo pos @Ao).any (·.1)=false:=by rfl) :
  PE X @Av (b6a sp dvs E t):=by
 show J;refine wpAny_Call_Name_kw (a0n I hg hm ?_ hdb);refine PySem.W.callWith_K (h₀:=X.base) I.ok.mod.kin hk (thn @Bb λ us s1 ⟨vs,H1,I1,r,q⟩=>⟨I1.kIn,?_⟩) he hpl;exact a4g F hr hb hd hx I1 r q
theorem b3O{pl:Sem Bool}(he:PE X o ta)(c:Cls X.K C)(hm:b0v X.K C m f)(F:n8 X.prog X.w X.K X.mg X.base CX k f fd ps sp)(hr:Room k X.A)(hb:Binds X.K fd ps ds)(hd:Vals dvs ds)(hx:L4 CX X E)(ha:PA X (e :: es) t)
  (hst:starEach (e :: es) X.env=(false,eval e X.env) :: starEach es X.env:=by rfl) (hpl:(backTo pos @Ao).any (·.1)=false:=by rfl)
  (ht:eval (.Call (.Attribute o m apos) (e :: es) [] pos) X.env=(do
   let ov <- eval o X.env
   standAt apos.atName
   let (f,first) <- holding [ov] (getMethod ov m pl)
   callWith pos f first (backTo pos (starEach (e :: es) X.env)) (backToKw pos @AK)):=by rfl) :
  PE X (.Call (.Attribute o m apos) (e :: es) [] pos) (a5Q C m sp dvs E ta t):=by
 show J;refine PySem.W.methodCall_KW (pl:=pl) (thn @AV λ u s1 ⟨x,H1,I1,rx,a,dx,fs,ex,ea,l,q⟩=>?_) ht;subst ex
 show Ah
 refine P6 I1 ea c hm l ?_;refine PySem.W.callWith_K (first:=[.ref a]) (h₀:=X.base) I.ok.mod.kin hm.kp (thn (ha pos pins s1 σ H1 _ I1 q) λ us s2 ⟨vs,H2,I2,r,q2⟩=>⟨I2.kIn,?_⟩) hst hpl;exact a4g (us:=.ref a :: us) (vs:=.ref a :: vs) F hr hb hd hx I2 (.cons rfl r) q2
theorem a9N{pl:Sem Bool}(he:PE X o ta)(c:Cls X.K C)(hm:b0v X.K C m f)(F:n8 X.prog X.w X.K X.mg X.base CX k f fd ps sp)(hr:Room k X.A)(hb:Binds X.K fd ps ds)(hd:Vals dvs ds)(hx:L4 CX X E)
  (ht:eval (.Call (.Attribute o m apos) [] [] pos) X.env=(do
   let ov <- eval o X.env
   standAt apos.atName
   let (f,first) <- holding [ov] (getMethod ov m pl)
   callWith pos f first (backTo pos (starEach [] X.env)) (backToKw pos @AK)):=by rfl) :
  PE X (.Call (.Attribute o m apos) [] [] pos) (a5Q C m sp dvs E ta b6M):=by
 show J;refine PySem.W.methodCall_KW (pl:=pl) (thn @AV λ u s1 ⟨x,H1,I1,rx,a,dx,fs,ex,ea,l,q⟩=>?_) ht;subst ex
 show Ah
 refine P6 I1 ea c hm l ?_;exact PySem.W.callWith_K0 (first:=[.ref a]) I1.kIn hm.kp (a4g (us:=[.ref a]) (vs:=[.ref a]) F hr hb hd hx I1 (.cons rfl .nil) q)
structure Mk(K:PySem.W.Frag)(C f:Addr):Prop where
 makes:PySem.W.makesIn K C=true
 init:PySem.W.findIn K @AS "__init__" = some (some (.ref f))
 fn:PySem.W.isFn K (.ref f)=true
 kp:PySem.W.keepIn K @AS=true
theorem a3X{pins:List @M}{σ:St}{H:Hp}{s:Shared}{Q:VK}{us:List Value}{vs:List V}(M:Mk X.K C f)(F:n8 X.prog X.w X.K X.mg X.base CX k f fd ps sp)(hr:Room (k + 1) X.A)(hb:Binds X.K fd ps ds)(hd:Vals dvs ds)
  (hx:L4 CX X E) (I:Inv X pins σ H s) (r:Vals vs us)
  (h:∀ x dx,H x=none->H dx=none->dx ≠ x->sp (.ref x :: (vs ++ dvs)) (upd (upd H dx (.own x)) x (.ins C dx [])) (λ v H2=>v = .non/\Q (.ref x) H2) E) :
  wpAny @C X.A (call @AS us) @AR X.xe s:=by
 have hq:=h @J s.heap.objs.size (I.hok.fresh (YK _)) (I.hok.fresh @G) (Zp (Nat.lt_succ_self _));have I2:=Inv.made (C:=C) I;have r2:Vals (V.ref @J :: (vs ++ dvs)) (Value.ref @J :: (us ++ ds)):=.cons rfl (r.append hd)
 have hl:(Value.ref @J :: us ++ ds).length=ps.length:=by
  have e:=r2.length;rw [F.len _ _ _ _ hq] at e;exact e.symm
 refine wpAny_call (a8I (f:=f) I.kIn M.makes M.init (beq_iff_eq.mp M.fn) (codeAny_mono (F.run _ X.stack _ _ ⟨Value.ref @J :: us,[]⟩ (Value.ref @J :: (us ++ ds)) _ _ E (hr.make C us [])
  (I2.env0.make C us []) (hb _ (Value.ref @J :: us) I2.kIn hl) r2 hq) λ r s' hq'=>?_))
 cases r with
 |error e=>exact hx pins σ _ _ e s' I2 hq'
 |ok fl =>
  cases fl with
  |ret u =>
   obtain ⟨v,H',I3,rv,ev,q3⟩:=I2.after hq';subst ev;exact ⟨rv,⟨V.ref @J,H',I3,rfl,q3⟩⟩
  |next=>exact False.elim hq'
  |brk=>exact False.elim hq'
  |cont=>exact False.elim hq'
theorem b3k(M:Mk X.K C f)(F:n8 X.prog X.w X.K X.mg X.base CX k f fd ps sp)(hr:Room (k + 1) X.A)(hg:Gl X x)(hm:X.mg x=some @AS)(hb:Binds X.K fd ps ds)(hd:Vals dvs ds)(hx:L4 CX X E)
  (ha:PA X (e :: es) t) (hdb:@Ag=false:=by decide) (he:starEach (e :: es) X.env=(false,eval e X.env) :: starEach es X.env:=by rfl) (hpl:(backTo pos @Ao).any (·.1)=false:=by rfl) :
  PE X @Av (b0h C sp dvs E t):=by
 show J;refine wpAny_Call_Name_kw (a0n I hg hm ?_ hdb);refine PySem.W.callWith_K (h₀:=X.base) I.ok.mod.kin M.kp (thn @Bb λ us s1 ⟨vs,H1,I1,r,q⟩=>⟨I1.kIn,?_⟩) he hpl;exact a3X M F hr hb hd hx I1 r q
theorem a8L(M:Mk X.K C f)(F:n8 X.prog X.w X.K X.mg X.base CX k f fd ps sp)(hr:Room (k + 1) X.A)(hg:Gl X x)(hm:X.mg x=some @AS)(hb:Binds X.K fd ps ds)(hd:Vals dvs ds)(hx:L4 CX X E)
  (hdb:@Ag=false:=by decide):PE X (.Call (.Name x p) [] [] pos) (b0h C sp dvs E b6M):=by
 show J;refine wpAny_Call_Name_kw (a0n I hg hm ?_ hdb);exact PySem.W.callWith_K0 I.kIn M.kp (a3X (us:=[]) M F hr hb hd hx I .nil h)
end
section
variable {X:Cx} {CX:CXT} {k:Nat} {f C:Addr} {fd:FuncData} {ps ks:List Str} {sp:Sp} {E:XK} {x m:Str} {p pos apos kpos:Pos} {e o:Expr} {es:List Expr} {kws:List Keyword} {te ta:TE} {t tk:TA} {nm:Option Str}
variable {g:List Value->List Value->List Value} {gV:List V->List V->List V}
end
structure i9(N P:List Str)(sc:Scope):Prop where
 kind:sc.kind = .function
 co:sc.isCoroutine=false
 gen:sc.isGenerator=false
 nd:N.Nodup
 pre:N.take P.length=P
 par:∀ x ∈ P,sc.names.lookup x=some .local\/sc.names.lookup x=some .cell
 nofree:∀ y ∈ sc.names,y.2 ≠ .free
theorem a1u{kindOf:Str->Option NameKind}{x:Str}:∀ {binds:List (Str×Value)} {m:Str->Option Value},(∀ v,(x,v) ∉ binds)->bindL kindOf binds m x=m x
 |[],_,_=>rfl
 |(n,v) :: r,m,h=>by
  unfold bindL;rw [a1u λ w hw=>h w (ZM _ hw)];split
  ·have:x ≠ n:=by rintro rfl;exact h v ZO
   simp [this]
  ·rfl
theorem a1N{kindOf:Str->Option NameKind}{x:Str}:∀ {binds:List (Str×Value)} {m:Str->Option Value},(∀ v,(x,v) ∉ binds)->bindC kindOf binds m x=m x
 |[],_,_=>rfl
 |(n,v) :: r,m,h=>by
  unfold bindC;rw [a1N λ w hw=>h w (ZM _ hw)];split
  ·rfl
  ·have:x ≠ n:=by rintro rfl;exact h v ZO
   simp [this]
theorem a1H{kindOf:Str->Option NameKind}{x:Str}{v:Value}:∀ {P:List Str} {vs:List Value} {i:Nat} {m:Str->Option Value},P.Nodup->P[i]?=some x->vs[i]?=some v->kindOf x=some .local ->
  bindL kindOf (P.zip vs) m x=some v
 |[],_,_,_,_,h,_,_=>by simp at h
 |_ :: _,[],_,_,_,_,h,_=>by simp at h
 |p :: P,w :: vs,0,m,nd,h1,h2,hk=>by
  simp at h1 h2;subst h1;subst h2;show bindL kindOf ((p,w) :: P.zip vs) m p=_;unfold bindL;rw [a1u λ v hv=>(Zc.mp nd).1 (List.of_mem_zip hv).1,if_pos hk]
  simp
 |p :: P,w :: vs,i + 1,m,nd,h1,h2,hk=>by
  show bindL kindOf ((p,w) :: P.zip vs) m x=_;unfold bindL;exact a1H (i:=i) (Zc.mp nd).2 (by simpa using h1) (by simpa using h2) hk
theorem a1t{kindOf:Str->Option NameKind}{x:Str}{v:Value}:∀ {P:List Str} {vs:List Value} {i:Nat} {m:Str->Option Value},P.Nodup->P[i]?=some x->vs[i]?=some v->kindOf x ≠ some .local ->
  bindC kindOf (P.zip vs) m x=some v
 |[],_,_,_,_,h,_,_=>by simp at h
 |_ :: _,[],_,_,_,_,h,_=>by simp at h
 |p :: P,w :: vs,0,m,nd,h1,h2,hk=>by
  simp at h1 h2;subst h1;subst h2;show bindC kindOf ((p,w) :: P.zip vs) m p=_;unfold bindC;rw [a1N λ v hv=>(Zc.mp nd).1 (List.of_mem_zip hv).1,if_neg hk]
  simp
 |p :: P,w :: vs,i + 1,m,nd,h1,h2,hk=>by
  show bindC kindOf ((p,w) :: P.zip vs) m x=_;unfold bindC;exact a1t (i:=i) (Zc.mp nd).2 (by simpa using h1) (by simpa using h2) hk
def start(N:List Str)(vs:List V):St:=vs.map some ++ List.replicate (N.length - vs.length) none
def a3o(CX:CXT)(P:Program)(w:World)(K:PySem.W.Frag)(mg:Str->Option Value)(base:Heap)(N:List Str)(qual:Str)(scope:Scope)(f:Addr)(cd:Value)(A:Around)(outer:List Env)(s:Shared)(H:Hp)(E:XK):Cx where
 prog:=P
 w:=w
 K:=K
 mg:=mg
 base:=base
 A:=A.deeper (envOfC qual scope s.heap.objs.size f cd)
 N:=N
 s₀:=s
 H₀:=H
 env:=envOfC qual scope s.heap.objs.size f cd
 outer:=outer
 stack:=envOfC qual scope s.heap.objs.size f cd :: outer
 ex:=[]
 calm:=true
 fn:=λ _=>true
 pn:=[]
 xe:=λ e s'=>wpAny (model P w) (A.deeper (envOfC qual scope s.heap.objs.size f cd)) (leaving (envOfC qual scope s.heap.objs.size f cd) e) (λ _ s''=>CX outer H s E e s'') (λ e' s''=>CX outer H s E e' s'') s'
theorem a3R{sc:Scope}{n:Nat}{x:Str}(h:sc.names.lookup x=some .cell):∃ c,(cellsFrom n sc.names []).lookup x=some c:=by
 have q:=PySem.W.cellsFrom_some sc.names n [] (.inl h);exact Za.mp q
theorem a7e{CX:CXT}{P:Program}{w:World}{K:PySem.W.Frag}{mg:Str->Option Value}{base:Heap}{N ps:List Str}{qual:Str}{scope:Scope}{f:Addr}{cd:Value}{A:Around}{outer:List Env}{s s1:Shared}{H:Hp}{E:XK}{us:List Value}{vs:List V}
  (S:i9 N ps scope) (hd:A.handled=none) (e0:Env0 P w K mg base A outer s H) (hl:vs.length=ps.length) (r:Vals vs us)
  (x:InCallC s s.heap.objs.size (bindL (envOfC qual scope s.heap.objs.size f cd).kindOf (ps.zip us) λ _=>none) (cellsFrom @J scope.names []) (bindC (envOfC qual scope s.heap.objs.size f cd).kindOf (ps.zip us) λ _=>none) s1) :
  Inv (a3o CX P w K mg base N qual scope f cd A outer s H E) [] (start N vs) H s1:=by
 have hpl:ps.length <= N.length:=by have:=congrArg List.length S.pre;rw [YM] at this;omega
 obtain ⟨h1,tk,rfl,hk⟩:=x.done;have noA:∀ b:Addr,b ∉ (a3o CX P w K mg base N qual scope f cd A outer s H E).ex:=λ b z=>absurd (show b ∈ ([]:List Addr) from z) @N
 refine ⟨⟨e0.mod,S.kind,rfl,rfl,ZV _,λ y z c h1 h2=>?_,λ y hy=>?_,λ y c _ h=>?_,λ _=>hd,Around.frames_deeper e0.frames,.inr ⟨rfl,rfl⟩,λ b z=>absurd z (noA b),e0.bs,e0.bsz,λ b _ _=>noA b,λ b z=>absurd z (noA b),e0.funs,e0.frf⟩,
  rfl,e0.bare,Un.kept hk,⟨_,x.toInCall.ns,λ i y v h1 h2 h3=>?_⟩,λ y c h=>⟨_,x.cell y c h⟩,e0.hok.fresh @G,λ y c h=>?_,λ p hp=>absurd (show p ∈ ([]:List @M) from hp) @N,e0.hok.kept hk,?_⟩
 ·exact name_of_addr x.apart (Zk h1) (Zk h2)
 ·have hy:scope.names.lookup y=some .cell\/scope.names.lookup y=some .free:=hy
  rcases hy with hy | hy
  ·exact a3R hy
  ·exact absurd rfl (S.nofree _ (Zk hy))
 ·exact Nat.le_of_lt (x.above y c (Zk h))
 ·have hi:i < vs.length:=by
   unfold start at h2
   by_cases hi:i < vs.length
   ·exact hi
   ·rw [ZA (by simpa using hi)] at h2;rw [List.getElem?_replicate] at h2
    split at h2 <;> cases h2
  have ha:vs[i]?=some v:=by
   unfold start at h2;rw [ZN (by simpa using hi),ZP] at h2
   cases e:vs[i]? with
   |none=>rw [e] at h2;cases h2
   |some a=>rw [e] at h2;cases h2;rfl
  obtain ⟨u,hu,rv⟩:=r.get ha
  have hp:ps[i]?=some y:=by
   rw [<- S.pre,List.getElem?_take_of_lt @D];exact h1
  have ndP:ps.Nodup:=by rw [<- S.pre];exact S.nd.sublist (List.take_sublist _ _)
  refine ⟨u,rv,?_⟩
  rcases S.par y (List.mem_of_getElem? hp) with k | k
  ·exact .inl ⟨k,a1H ndP hp hu k⟩
  ·obtain ⟨c,e⟩:=a3R (n:=s.heap.objs.size + 1) k;refine .inr ⟨.inl k,c,e,?_⟩;have q:=x.cell y c e;rw [a1t ndP hp hu (by show scope.names.lookup y ≠ _;rw [k];decide)] at q;exact q
 ·exact e0.hok.fresh (Nat.le_of_lt (x.above y c (Zk h)))
 ·unfold start;show _=N.length;rw [ZW,ZS,List.length_replicate];omega
theorem c1z{CX:CXT}{P:Program}{w:World}{K:PySem.W.Frag}{mg:Str->Option Value}{base:Heap}{k:Nat}{f:Addr}{name qual:Str}{params:Arguments}{body:List Stmt}{scope:Scope}{dV kV doc pm cdv ct oc:Value}{an od:Option Addr}
  {osl:Array @An} {N ps:List Str} {sp:Sp} (lk:K.lookup f=some ⟨oc,od,.func (PySem.W.fnOf name qual params body scope dV kV doc pm an cdv ct),osl⟩) (hcd:PySem.W.codeIn K cdv qual=true) (S:i9 N ps scope)
  (len:∀ vs H Q E,sp vs H Q E->vs.length=ps.length)
  (hbody:∀ (A:Around) (outer:List Env) (s:Shared) (H:Hp) (vs:List V) (Q:VK) (E:XK),Room k (A.deeper (envOfC qual scope s.heap.objs.size f cdv))->sp vs H Q E ->
   ∃ t,PSs (a3o CX P w K mg base N qual scope f cdv A outer s H E) body t/\t { nx:=λ _ H'=>Q .non H',rt:=Q } (start N vs) H) :
  n8 P w K mg base CX (k + 1) f (PySem.W.fnOf name qual params body scope dV kV doc pm an cdv ct) ps sp:=by
 refine ⟨len,λ A outer s H args us vs Q E hr e0 hb r hsp=>?_⟩;have hl:=len _ _ _ _ hsp;have KX:K.In s.heap:=e0.mod.kin.keeps λ b o e=>(e0.bs b o e).1;have lim:s.heap.NoLimit:=e0.mod.nolimit.keeps λ b o e=>(e0.bs b o e).1
 have hkind:∀ y ∈ ps.zip us,scope.names.lookup y.1=some .local\/(scope.names.lookup y.1=some .cell/\((cellsFrom @J scope.names []).lookup y.1).isSome=true):=λ zz0 hy=>by
  obtain ⟨n,v⟩:=zz0
  rcases S.par n (List.of_mem_zip hy).1 with q | q
  ·exact .inl q
  ·exact .inr ⟨q,PySem.W.cellsFrom_some _ _ _ (.inl q)⟩
 refine codeAny_call_function hr.depth (KX _ _ lk) rfl S.co S.gen rfl (PySem.W.codeRec_of KX hcd) (hb _ _ _ _ ?_);refine wpAny_newFunctionEnv_cells S.kind hkind λ env he s1 x=>?_;subst he;refine ⟨lim.keeps x.toInCall.keep,codeAny_func ?_⟩;obtain ⟨t,ht,hq⟩:=hbody A outer s H vs Q E (hr.deeper _) hsp;have I:Inv (a3o CX P w K mg base N qual scope f cdv A outer s H E) [] (start N vs) H s1:=a7e S hr.hd e0 hl r x;refine wpAny_mono (ht [] s1 (start N vs) H _ I hq) (λ fl s' hs=>?_) λ e s' hs=>hs
 have fin:∀ {σ':St} {H':Hp} {v:V} {u:Value},Inv (a3o CX P w K mg base N qual scope f cdv A outer s H E) [] σ' H' s'->RelV v u->Q v H'->CE outer P w H s Q u s' :=
  λ {σ' H' v u} J rv q=>⟨v,H',J.os,J.bare,J.base,J.hok,rv,q⟩
 cases fl with
 |ret u =>
  obtain ⟨v,σ',H',J,rv,q⟩:=hs;exact fin J rv q
 |next =>
  obtain ⟨σ',H',J,q⟩:=hs;exact fin (v:=V.non) (u:=Value.none) J rfl q
 |brk =>
  obtain ⟨_,_,_,q⟩:=hs;exact False.elim q
 |cont =>
  obtain ⟨_,_,_,q⟩:=hs;exact False.elim q
end L2
namespace L2
open PySem PySem.Spec PyProof.Rows
section
variable {X:Cx} {x:Str} {p pos:Pos} {e:Expr} {es:List Expr} {t:TA} {id T:String} {r:List V->Hp->VK->Prop}
def tCB(r:List V->Hp->VK->Prop)(t:TA):TE:=λ σ H Q=>t σ H λ vs H1=>r vs H1 Q
theorem a3q(hc:CallR X (.builtin id) r)(hg:Gl X x)(hm:X.mg x=none)(hv:bootBuiltins x=some (.builtin id))(ha:PA X (e :: es) t)(hn:x ≠ "__name__":=by decide)(hdb:@Ag=false:=by decide)
  (he:starEach (e :: es) X.env=(false,eval e X.env) :: starEach es X.env:=by rfl) (hpl:(backTo pos @Ao).any (·.1)=false:=by rfl):PE X @Av (tCB r t):=by
 show J;refine wpAny_Call_Name_kw (W8 I hg hm hv ?_ hn hdb);exact PyProof.Rows.callWith_builtin1 (thn @Bb λ us s1 ⟨vs,H1,I1,r1,q1⟩=>hc pins s1 σ H1 vs us Q I1 r1 q1) he hpl
theorem a1E(hc:CallR X (.type T) r)(hg:Gl X x)(hm:X.mg x=none)(hv:bootBuiltins x=some (.type T))(ha:PA X (e :: es) t)(hn:x ≠ "__name__":=by decide)(hdb:@Ag=false:=by decide)
  (he:starEach (e :: es) X.env=(false,eval e X.env) :: starEach es X.env:=by rfl) (hpl:(backTo pos @Ao).any (·.1)=false:=by rfl):PE X @Av (tCB r t):=by
 show J;refine wpAny_Call_Name_kw (W8 I hg hm hv ?_ hn hdb);exact PyProof.Rows.callWith_type1 (thn @Bb λ us s1 ⟨vs,H1,I1,r1,q1⟩=>hc pins s1 σ H1 vs us Q I1 r1 q1) he hpl
end
end L2
namespace L2
open PySem PySem.Spec PyProof.Rows
section
variable {κ:Type} [DecidableEq κ]
def E4(kvs:List (κ×V))(k:κ):Option V:=(kvs.find? λ kv=>decide (kv.1=k)).map (·.2)
def K3(kvs:List (κ×V))(k:κ)(v:V):List (κ×V) :=
 if @AG=true then kvs.map (λ kv=>if kv.1=k then (kv.1,v) else kv) else kvs ++ [(k,v)]
theorem S7{p:κ×V}{r:List (κ×V)}{k:κ}(e:p.1=k):E4 (p :: r) k=some p.2:=by simp [E4,List.find?_cons,e]
theorem S5{p:κ×V}{r:List (κ×V)}{k:κ}(e:¬ p.1=k):E4 (p :: r) k=E4 r k:=by simp [E4,List.find?_cons,e]
theorem a3U(k:κ):∀ kvs:List (κ×V),@AG=(E4 kvs k).isSome
 |[]=>rfl
 |p :: r=>by
  rw [YZ]
  by_cases e:p.1=k
  ·simp only [S7 e,decide_eq_true e,Bool.true_or,Option.isSome_some]
  ·rw [S5 e,decide_eq_false e,Bool.false_or];exact a3U k r
theorem L3(kvs:List (κ×V))(k:κ)(v:V):(K3 kvs k v).length <= kvs.length + 1:=by
 unfold K3;split
 ·rw [ZS];omega
 ·rw [ZW,Zw,List.length_nil];omega
theorem RelO.isSome_eq{o:Option V}{u:Option Value}(r:RelO o u):o.isSome=u.isSome:=by
 cases o with
 |none=>cases u with
  |none=>rfl
  |some _=>exact (show False from r).elim
 |some _=>cases u with
  |none=>exact (show False from r).elim
  |some _=>rfl
theorem RelO.getD{o:Option V}{u:Option Value}{d:V}{d':Value}(r:RelO o u)(rd:RelV d d'):RelV (o.getD d) (u.getD d'):=by
 cases o with
 |none=>cases u with
  |none=>exact rd
  |some _=>exact (show False from r).elim
 |some _=>cases u with
  |none=>exact (show False from r).elim
  |some _=>exact r
theorem KV.val{kvs:List (κ×V)}{vs:List (κ×Value)}(r:KV kvs vs)(k:κ):RelO (E4 kvs k) (valueAt vs k):=by
 unfold KV at r
 induction r with
 |nil=>exact True.intro
 |@cons p q ps qs h t ih =>
  obtain ⟨h1,h2⟩:=h
  by_cases e:p.1=k
  ·have e':q.1=k:=h1.symm.trans e;have b:valueAt (q :: qs) k=some q.2:=by simp [valueAt,List.find?_cons,e']
   rw [S7 e,b];exact h2
  ·have e':¬ q.1=k:=λ z=>e (h1.trans z);have b:valueAt (q :: qs) k=valueAt qs k:=by simp [valueAt,List.find?_cons,e']
   rw [S5 e,b];exact ih
theorem KV.any{kvs:List (κ×V)}{vs:List (κ×Value)}(r:KV kvs vs)(k:κ):@AG=vs.any λ kv=>decide (kv.1=k):=by
 unfold KV at r
 induction r with
 |nil=>rfl
 |cons h t ih=>rw [YZ,YZ,ih,h.1]
theorem KV.repl{kvs:List (κ×V)}{vs:List (κ×Value)}(r:KV kvs vs)(k:κ){y:V}{u:Value}(ry:RelV y u) :
  KV (kvs.map λ kv=>if kv.1=k then (kv.1,y) else kv) (vs.map λ kv=>if kv.1=k then (kv.1,u) else kv):=by
 unfold KV at r ⊢
 induction r with
 |nil=>exact .nil
 |@cons p q ps qs h t ih =>
  rw [Zs,Zs];refine .cons ?_ ih;obtain ⟨h1,h2⟩:=h
  by_cases e:p.1=k
  ·rw [if_pos e,if_pos (h1.symm.trans e)];exact ⟨h1,ry⟩
  ·rw [if_neg e,if_neg (λ z=>e (h1.trans z))];exact ⟨h1,h2⟩
theorem KV.put{kvs:List (κ×V)}{vs:List (κ×Value)}(r:KV kvs vs)(k:κ){y:V}{u:Value}(ry:RelV y u):KV (K3 kvs k y) (stored vs k u):=by
 unfold K3 stored;rw [r.any k]
 by_cases e:(vs.any λ kv=>decide (kv.1=k))=true
 ·rw [if_pos e,if_pos e];exact r.repl k ry
 ·rw [if_neg e,if_neg e];exact Paired.snoc r ⟨rfl,ry⟩
theorem KV.length{kvs:List (κ×V)}{vs:List (κ×Value)}(r:KV kvs vs):kvs.length=vs.length:=Paired.length r
end
theorem Y5{P:Program}{w:World}{k:Key}{u:Value}(r:RelV (kV k) u):(j8 P w).is k u=true:=by
 cases k with
 |inl i=>obtain ⟨t,e⟩:=(show ∃ t,u=Value.int i t from r);subst e;exact a3r P w i t
 |inr x=>obtain ⟨t,e⟩:=(show ∃ t,u=Value.str x t from r);subst e;exact a3x P w x t
theorem a1W{P:Program}{w:World}:∀ {ks:List Key} {us:List Value},Vals (ks.map kV) us->ItemsAre (j8 P w) ks us
 |[],_,r=>by rw [List.map_nil] at r;cases r;exact .nil
 |k :: ks,_,r=>by
  rw [Zs] at r
  cases r with
  |cons h t=>exact .cons (Y5 h) (a1W t)
abbrev KT(H:Hp):List @As->List @AQ->Prop:=Paired λ p q=>p.1=q.1/\H q.2.1=some (.tup (p.1.map kV))/\RelV p.2 q.2.2
theorem KT.val{H:Hp}{kvs:List @As}{xs:List @AQ}(r:KT H kvs xs)(k:List Key):RelO (E4 kvs k) ((atKey xs k).map (·.2)):=by
 induction r with
 |nil=>exact True.intro
 |@cons p q ps qs h t ih =>
  obtain ⟨h1,_,h2⟩:=h
  by_cases e:p.1=k
  ·have e':q.1=k:=h1.symm.trans e;have b:atKey (q :: qs) k=some q.2:=by simp [atKey,List.find?_cons,e']
   rw [S7 e,b];exact h2
  ·have e':¬ q.1=k:=λ z=>e (h1.trans z);have b:atKey (q :: qs) k=atKey qs k:=by simp [atKey,List.find?_cons,e']
   rw [S5 e,b];exact ih
theorem KT.repl{H:Hp}{kvs:List @As}{xs:List @AQ}(r:KT H kvs xs)(k:List Key){y:V}{u:Value}(ry:RelV y u) :
  KT H (kvs.map λ kv=>if kv.1=k then (kv.1,y) else kv) (xs.map (putAt k u)):=by
 induction r with
 |nil=>exact .nil
 |@cons p q ps qs h t ih =>
  rw [Zs,Zs];refine .cons ?_ ih;obtain ⟨h1,h2,h3⟩:=h;unfold putAt
  by_cases e:p.1=k
  ·rw [if_pos e,if_pos (h1.symm.trans e)];exact ⟨h1,h2,ry⟩
  ·rw [if_neg e,if_neg (λ z=>e (h1.trans z))];exact ⟨h1,h2,h3⟩
theorem KT.put{H:Hp}{kvs:List @As}{xs:List @AQ}(r:KT H kvs xs)(k:List Key){b:Addr}{y:V}{u:Value}(hb:H b=some (.tup (k.map kV)))(ry:RelV y u) :
  KT H (K3 kvs k y) (storedH xs k b u):=by
 have e:@AG=(atKey xs k).isSome:=by
  rw [a3U,(r.val k).isSome_eq,Option.isSome_map]
 unfold K3 storedH;rw [e]
 by_cases q:(atKey xs k).isSome=true
 ·rw [if_pos q,if_pos q];exact r.repl k ry
 ·rw [if_neg q,if_neg q];exact Paired.snoc r ⟨rfl,hb,ry⟩
theorem KT.keeps{H H':Hp}{kvs:List @As}{xs:List @AQ}(r:KT H kvs xs)(ht:∀ b ys,H b=some (.tup ys)->H' b=some (.tup ys)):KT H' kvs xs :=
 Paired.mapP r λ _ _ z=>⟨z.1,ht _ _ z.2.1,z.2.2⟩
section
variable {P:Program} {w:World} {H:Hp} {h:Heap} {a:Addr}
theorem a7M{u:HO}(ok:HOk P w H h)(e:Rd H a u):ObjOk P w H h a u:=e.ok ok
theorem Z1{kvs:List (Key×V)}(ok:HOk P w H h)(e:Rd H a (.dK kvs)):kvs.length <= sizeLine/\(a == sysModules)=false/\∃ vs,KV kvs vs/\h.DictOf (j8 P w) a vs :=
 show ObjOk P w H h a (.dK kvs) from a7M ok e
theorem c0t{kvs:List (Key×V)}(ok:HOk P w H h)(e:H a=some (.dK kvs)):kvs.length <= sizeLine/\(a == sysModules)=false/\∃ vs,KV kvs vs/\h.DictOf (j8 P w) a vs:=Z1 ok (.inl e)
theorem J3{ks:List Key}(ok:HOk P w H h)(e:H a=some (.tup (ks.map kV))):(tupleKind (j8 P w)).is h ks a:=by
 obtain ⟨_,its,r,o,h1,h2,n,h3⟩:=(show ObjOk P w H h a (.tup (ks.map kV)) from ok a _ e)
 exact ⟨o,its.toArray,n,h1,h2,h3,by simpa using a1W r⟩
theorem X3{kvs:List @As}(ok:HOk P w H h)(e:Rd H a @Ar):kvs.length <= sizeLine/\(a == sysModules)=false /\
  ∃ xs,KT H kvs xs/\h.DictOfH (tupleKind (j8 P w)) a xs:=by
 obtain ⟨z,y,xs,r,o,es,ep,h1,h2,h3,h4,h5⟩:=(show ObjOk P w H h a @Ar from a7M ok e)
 refine ⟨z,y,xs,r,o,es,ep,h1,h2,h3,h4,λ x hx=>?_,h5⟩
 have all:∀ {l:List @As} {m:List @AQ},KT H l m->∀ x ∈ m,(tupleKind (j8 P w)).is h x.1 x.2.1:=by
  intro l m q
  induction q with
  |nil=>intro x hx;exact nomatch hx
  |@cons p q ps qs hq t ih =>
   intro x hx
   rcases List.mem_cons.mp hx with e | hx
   ·subst e;exact J3 ok (by rw [<- hq.1];exact hq.2.1)
   ·exact ih x hx
 exact all r x hx
theorem b6h{kvs:List @As}(ok:HOk P w H h)(e:H a=some @Ar):kvs.length <= sizeLine/\(a == sysModules)=false /\
  ∃ xs,KT H kvs xs/\h.DictOfH (tupleKind (j8 P w)) a xs:=X3 ok (.inl e)
end
def Z8(H:Hp)(a:Addr)(y:V)(r:Option V):Prop :=
 (∃ kvs k,Rd H a (.dK kvs)/\y=kV k/\r=E4 kvs k)\/∃ kvs k b,Rd H a @Ar/\y = .ref b/\H b=some (.tup (k.map kV))/\r=E4 kvs k
def DPut(H:Hp)(a:Addr)(y v:V)(H':Hp):Prop :=
 (∃ kvs k,H a=some (.dK kvs)/\y=kV k/\kvs.length < sizeLine/\H'=upd H a (.dK (K3 kvs k v))) \/
 ∃ kvs k b,H a=some @Ar/\y = .ref b/\H b=some (.tup (k.map kV))/\kvs.length < sizeLine/\H'=upd H a (.dT (K3 kvs k v))
theorem DPut.t{H:Hp}{a b:Addr}{kvs:List @As}{k:List Key}{v:V}(e:H a=some @Ar)(eb:H b=some (.tup (k.map kV)))(hl:kvs.length < sizeLine) :
  DPut H a (.ref b) v (upd H a (.dT (K3 kvs k v))):=.inr ⟨kvs,k,b,e,rfl,eb,hl,rfl⟩
section
variable {X:Cx} {pins:List (Addr×Obj)} {σ:St} {H:Hp} {s:Shared} {a:Addr} {y v:V} {u r:Value} {o:Option V} {A:Around} {E:Value->Shared->Prop}
theorem Inv.big(I:Inv X pins σ H s):sysModules < s.heap.objs.size:=by
 have h:mainGlobals < s.heap.objs.size:=(I.mod.glob.keeps I.bk).lt;exact Nat.lt_trans @B h
theorem a7q{Q:Value->Shared->Prop}(hu:A.units + 1 < cLine)(I:Inv X pins σ H s)(g:Z8 H a y (some v))(ry:RelV y u)(h:∀ w' s',Inv X pins σ H s'->RelV v w'->Q w' s') :
  wpAny @C A (getItem @Ax u) Q E s:=by
 rcases g with ⟨kvs,k,e,ey,l⟩ | ⟨kvs,k,b,e,ey,eb,l⟩
 ·show Al;obtain ⟨w',hw,rw'⟩:=RelO.some_of (v:=v) (o:=valueAt vs k) (by rw [l];exact rel.val k);exact wpAny_getItem_of (Y5 ry) dd.mapOf hw (h w' _ (I.tok _) rw')
 ·subst ey
  cases (show u=Value.ref b from ry)
  obtain ⟨z,hd,xs,rel,dd⟩:=X3 I.hok e;obtain ⟨w',hw,rw'⟩:=RelO.some_of (v:=v) (o:=(atKey xs k).map (·.2)) (by rw [l];exact rel.val k);obtain ⟨p,hp,hp2⟩:=YW.mp hw;refine wpAny_getItem_heap (tupleKind_room_in1 hu) (J3 I.hok eb) dd hp ?_;rw [hp2];exact h w' _ (I.tok _) rw'
theorem c2C{Q:Value->Shared->Prop}(hu:A.units + 1 < cLine)(I:Inv X pins σ H s)(g:Z8 H a y o)(ry:RelV y u)(h:∀ s',Inv X pins σ H s'->Q (.bool o.isSome) s') :
  wpAny @C A (compareOp .In u @Ax) Q E s:=by
 rcases g with ⟨kvs,k,e,ey,l⟩ | ⟨kvs,k,b,e,ey,eb,l⟩
 ·show Al;refine wpAny_in_of (Y5 ry) hd dd.mapOf ?_;rw [<- (rel.val k).isSome_eq,<- l];exact h _ (I.tok _)
 ·subst ey
  cases (show u=Value.ref b from ry)
  obtain ⟨z,hd,xs,rel,dd⟩:=X3 I.hok e;refine wpAny_in_heap (tupleKind_room_in1 hu) (J3 I.hok eb) hd dd ?_;have q:=(rel.val k).isSome_eq;rw [Option.isSome_map] at q;rw [<- q,<- l];exact h _ (I.tok _)
theorem b3v{Q:Value->Shared->Prop}(hu:A.units + 1 < cLine)(I:Inv X pins σ H s)(g:Z8 H a y o)(ry:RelV y u)(h:∀ s',Inv X pins σ H s'->Q (.bool (!o.isSome)) s') :
  wpAny @C A (compareOp .NotIn u @Ax) Q E s:=by
 rcases g with ⟨kvs,k,e,ey,l⟩ | ⟨kvs,k,b,e,ey,eb,l⟩
 ·show Al;refine wpAny_notIn_of (Y5 ry) hd dd.mapOf ?_;rw [<- (rel.val k).isSome_eq,<- l];exact h _ (I.tok _)
 ·subst ey
  cases (show u=Value.ref b from ry)
  obtain ⟨z,hd,xs,rel,dd⟩:=X3 I.hok e;refine wpAny_notIn_heap (tupleKind_room_in1 hu) (J3 I.hok eb) hd dd ?_;have q:=(rel.val k).isSome_eq;rw [Option.isSome_map] at q;rw [<- q,<- l];exact h _ (I.tok _)
theorem a2Q{h':Heap}{t':Nat}{ob:HO}(I:Inv X pins σ H s)(mu:Mut (H a))(hs:Heap.SameBut a s.heap h')(he:∃ q,h'.get? a=some q)(new:ObjOk X.prog X.w (upd H a ob) h' a ob) :
  Inv X pins σ (upd H a ob) { s with heap:=h',toks:=t' } :=
 I.write (x:=a) (e:=a) mu @AH (λ b q hb z=>(hs.2 b hb).trans z) he new
theorem b7i{P:Program}{w:World}{H':Hp}{h':Heap}{kvs:List (Key×V)}{vs:List (Key×Value)}(z:kvs.length <= sizeLine)(hd:(a == sysModules)=false)(rel:KV kvs vs)(dd:h'.DictOf (j8 P w) a vs) :
  ObjOk P w H' h' a (.dK kvs):=⟨z,hd,vs,rel,dd⟩
theorem a7j{H':Hp}{Q:Unit->Shared->Prop}(hu:A.units + 1 < cLine)(I:Inv X pins σ H s)(g:DPut H a y v H')(ry:RelV y u)(rv:RelV v r)(h:∀ s',Inv X pins σ H' s'->Q () s') :
  wpAny @C A (setItem @Ax u r) Q E s:=by
 rcases g with ⟨kvs,k,e,ey,l,eH⟩ | ⟨kvs,k,b,e,ey,eb,l,eH⟩
 ·subst ey eH;obtain ⟨z,hd,vs,rel,dd⟩:=c0t I.hok e;have hz:vs.length <= sizeLine:=by rw [<- rel.length];exact z
  have hl:(K3 kvs k v).length <= sizeLine:=by have:=L3 kvs k v;omega
  refine wpAny_setItem_pairs (hsz:=hz) (Y5 ry) dd λ h' dd' hs=>h _ ?_;have he:∃ q,h'.get? a=some q:=let ⟨q,_,_,hq,_⟩:=dd';⟨q,hq⟩
  exact a2Q I (by rw [e];exact True.intro) hs he (b7i hl hd (rel.put k rv) dd')
 ·subst ey eH
  cases (show u=Value.ref b from ry)
  obtain ⟨z,hd,xs,rel,dd⟩:=b6h I.hok e;have hz:xs.length <= sizeLine:=by rw [<- Paired.length rel];exact z
  have hl:(K3 kvs k v).length <= sizeLine:=by have:=L3 kvs k v;omega
  refine wpAny_setItem_heap (hsz:=hz) (tupleKind_room_in1 hu) (J3 I.hok eb) dd λ h' dd' hs=>h _ ?_;obtain ⟨q,es,ep,hq,h2,h3,h4,_,h5⟩:=dd';refine a2Q I (by rw [e];exact True.intro) hs ⟨q,hq⟩ ⟨hl,hd,_,(rel.put k eb rv).keeps λ c ys ec=>?_,q,es,ep,hq,h2,h3,h4,h5⟩;rw [k9 (a5B ec e (λ z=>nomatch z))];exact ec
end
section
variable {X:Cx} {pins:List (Addr×Obj)} {σ:St} {H:Hp} {s:Shared} {a:Addr} {kvs:List (Key×V)} {k:Key} {u:Value} {A:Around} {E:Value->Shared->Prop}
end
def a8z(i:Expr):Prop:=∀ ov iv,subscripted i false ov iv=operate [ov,iv] (getItem ov iv)
theorem a6k{prog:Program}{w:World}{A:Around}{E:Value->Shared->Prop}{s:Shared}{env:Env}{value slice:Expr}{pos:Pos}{T id:String}{Q:Value->Shared->Prop}
  (hl:typeLookup (.type T) "__getitem__" = pure (some (.builtin id))) (hs:a8z slice)
  (h:wpAny @I A (eval value env) (λ o s₁=>wpAny @I A (eval slice env) (λ i s₂=>s₂.TypeIs o T/\wpAny @I A (getItem o i) Q E s₂) E s₁) E s) :
  wpAny @I A (eval (.Subscript value slice pos) env) Q E s:=by
 refine Subscript_ (wpAny_mono h (λ o s₁ h₁=>wpAny_mono h₁ (λ i s₂ h₂=>?_) λ _ _ x=>x) λ _ _ x=>x);obtain ⟨hT,h₂⟩:=h₂;unfold subscriptTail;show Q;rw [getitemInPython_of_ne hT.not_modules];refine wpAny_bind (wpAny_specialOf hT hl ?_)
 have fin:wpAny @I A (subscripted slice false o i) (λ r s₃=>wpAny @I A (letTemporaryGo value o r >>= λ _=>pure r) Q E s₃) E s₂:=by
  rw [hs o i];exact wpAny_operating (wpAny_mono h₂ (λ r s₃ h₃=>wpAny_bind (wpAny_letTemporaryGo (wpAny_pure h₃))) λ _ _ x=>x)
 first
  |exact wpAny_pure (wpAny_bind fin)
  |exact wpAny_bind (wpAny_pure (wpAny_bind fin))
  |exact wpAny_bind fin
theorem a3l{X:Cx}{pins:List @M}{σ:St}{H:Hp}{s:Shared}{a:Addr}{y:V}{o:Option V}(I:Inv X pins σ H s)(g:Z8 H a y o):s.TypeIs @Ax "dict":=by
 rcases g with ⟨kvs,k,e,_,_⟩ | ⟨kvs,k,b,e,_,_,_⟩
 ·obtain ⟨_,_,vs,_,dd⟩:=Z1 I.hok e;exact dd.typeIs
 ·obtain ⟨_,_,xs,_,dd⟩:=X3 I.hok e;exact dd.typeIs
def c1D(td ty:TE):TE:=λ σ H Q=>td σ H λ x H1=>ty σ H1 λ y H2=>∃ a v,x = .ref a/\Z8 H2 a y (some v)/\Q v H2
def c0E(td ty tv:TE):TS:=λ D σ H=>tv σ H λ v H1=>td σ H1 λ x H2=>ty σ H2 λ y H3=>∃ a H4,x = .ref a/\DPut H3 a y v H4/\D.nx σ H4
section
variable {X:Cx} {o i e value:Expr} {pos pos' tpos:Pos} {td ty tv:TE}
theorem b3z(hu:X.A.units + 1 < cLine)(ho:PE X o td)(hi:PE X i ty)(hs:a8z i):PE X (.Subscript o i pos) (c1D td ty):=by
 show J;refine a6k PySem.F.slot_dict_getitem.lookup hs (thn (ho pins s σ H _ I h) λ u s1 ⟨x,H1,I1,rx,q1⟩=>thn (hi pins s1 σ H1 _ I1 q1) λ iv s2 zz0=>?_);obtain ⟨y,H2,I2,ry,a,v,ex,g,q2⟩:=zz0;subst ex
 show Ah
 exact ⟨a3l I2 g,a7q hu I2 g ry λ w' s3 I3 rw'=>⟨v,H2,I3,rw',q2⟩⟩
theorem b3x(hu:X.A.units + 1 < cLine)(ho:PE X o td)(hi:PE X i ty)(hv:PE X value tv)(hs:swapsWith value (some (.Subscript o i pos')) pos.line X.env=pure false) :
  PS X (.Assign [.Subscript o i pos'] value pos) (c0E td ty tv):=by
 show Ab;refine wpAny_Assign_Subscript (thn (hv pins s σ H _ I h) λ r s1 ⟨v,H1,I1,rv,q1⟩=>thn (ho pins s1 σ H1 _ I1 q1) λ u s2 ⟨x,H2,I2,rx,q2⟩=>thn (hi pins s2 σ H2 _ I2 q2) λ iv s3 zz0=>?_) hs;obtain ⟨y,H3,I3,ry,a,H4,ex,g,q3⟩:=zz0;subst ex
 show Ah
 exact a7j hu I3 g ry rv λ s4 I4=>⟨σ,H4,I4,q3⟩
end
theorem a9U{P:Program}{w:World}{H:Hp}(h:Heap)(hb:sysModules < h.objs.size):ObjOk P w H (h.push { cls:=.type "dict",data:=.dict #[] }) h.objs.size (.dT []) :=
 ⟨Nat.zero_le _,beq_eq_false_iff_ne.mpr (Ne.symm (Zp hb)),[],.nil,_,#[],0,ZI _ rfl,⟨rfl,rfl,rfl⟩,rfl,rfl,List.nodup_nil⟩
def b9B:TE:=λ _ H Q=>∀ p,H p=none->Q (.ref p) (upd H p (.dT []))
section
variable {X:Cx} {pos:Pos}
theorem a7N:PE X (.Dict [] [] pos) b9B:=λ pins s σ H Q I h =>
 wpAny_Dict_empty ⟨.ref s.heap.objs.size,_,I.laid (a:=s.heap.objs.size) (o:=.dT []) (t':=s.toks) (λ _ _ q=>ZU _ q) @G (a9U s.heap I.big),rfl,h _ (I.hok.fresh @G)⟩
end
structure M1(X:Cx)(o:Expr)(m:Str)(apos:Pos)(e:Expr)(cpos:Pos):Prop where
 base:attributeBase o m X.env (eval o X.env)=eval o X.env
 few:((backTo cpos (starEach [e] X.env)).all (λ x=>!x.1) && (backToKw cpos @AK).all (λ x=>x.1.isSome)
  && decide (([e]:List Expr).length + ([]:List Keyword).length + (if ([]:List Keyword).isEmpty then 0 else 1) < 30))=true
 line:@Aq=true
 trees:backTo cpos (starEach [e] X.env)=[(false,eval e X.env)]
structure M2(X:Cx)(o:Expr)(m:Str)(apos:Pos)(e f:Expr)(cpos:Pos):Prop where
 base:attributeBase o m X.env (eval o X.env)=eval o X.env
 few:((backTo cpos (starEach [e,f] X.env)).all (λ x=>!x.1) && (backToKw cpos @AK).all (λ x=>x.1.isSome)
  && decide (([e,f]:List Expr).length + ([]:List Keyword).length + (if ([]:List Keyword).isEmpty then 0 else 1) < 30))=true
 line:@Aq=true
 trees:backTo cpos (starEach [e,f] X.env)=[(false,eval e X.env),(false,eval f X.env)]
def IsD(H:Hp)(a:Addr):Prop:=(∃ kvs,Rd H a (.dK kvs))\/∃ kvs,Rd H a @Ar
theorem a4x{X:Cx}{pins:List @M}{σ:St}{H:Hp}{s:Shared}{a:Addr}(I:Inv X pins σ H s)(d:IsD H a) :
  s.TypeIs @Ax "dict"/\(∀ b,Value.ref a = .ref b->∃ ob,s.heap.get? b=some ob/\ob.dict=none)/\(a == sysModules)=false:=by
 rcases d with ⟨kvs,e⟩ | ⟨kvs,e⟩
 ·obtain ⟨_,hd,vs,_,dd⟩:=Z1 I.hok e;refine ⟨dd.typeIs,λ b q=>?_,hd⟩;cases q;obtain ⟨ob,_,_,h1,h2,_⟩:=dd;exact ⟨ob,h1,h2.2.1⟩
 ·obtain ⟨_,hd,xs,_,dd⟩:=X3 I.hok e;refine ⟨dd.typeIs,λ b q=>?_,hd⟩;cases q;obtain ⟨ob,_,_,h1,h2,_⟩:=dd;exact ⟨ob,h1,h2.2.1⟩
section
variable {X:Cx} {pins:List (Addr×Obj)} {σ:St} {H:Hp} {s:Shared} {a:Addr} {y d:V} {u r:Value} {o:Option V} {A:Around} {E:Value->Shared->Prop}
theorem b9A{Q:Value->Shared->Prop}(hu:A.units + 1 < cLine)(I:Inv X pins σ H s)(g:Z8 H a y o)(ry:RelV y u)(h:∀ w' s',Inv X pins σ H s'->RelV (o.getD .non) w'->Q w' s') :
  wpAny @C A (call (.builtin "dict.get") [.ref a,u]) Q E s:=by
 rcases g with ⟨kvs,k,e,ey,l⟩ | ⟨kvs,k,b,e,ey,eb,l⟩
 ·show Al;refine call_meetsIn YR dd.typeIs PySem.F.entry_dict_get (PySem.F.args_dict_get_2 _ _) (meets_dict_get (j8 X.prog X.w) a (Y5 ry) hd) ⟨_,dd.mapOf,h _ _ (I.tok _) ?_⟩;rw [l];exact (rel.val k).getD rfl
 ·subst ey
  cases (show u=Value.ref b from ry)
  obtain ⟨z,hd,xs,rel,dd⟩:=X3 I.hok e;refine call_meetsIn YR dd.typeIs PySem.F.entry_dict_get (PySem.F.args_dict_get_2 _ _) (meetsH_dict_get (tupleKind (j8 X.prog X.w)) a b hd) ⟨tupleKind_room_in1 hu,k,xs,J3 I.hok eb,dd,h _ _ (I.tok _) ?_⟩;rw [l];exact (rel.val k).getD rfl
theorem b7r{Q:Value->Shared->Prop}(hu:A.units + 1 < cLine)(I:Inv X pins σ H s)(g:Z8 H a y o)(ry:RelV y u)(rd:RelV d r)(h:∀ w' s',Inv X pins σ H s'->RelV (o.getD d) w'->Q w' s') :
  wpAny @C A (call (.builtin "dict.get") [.ref a,u,r]) Q E s:=by
 rcases g with ⟨kvs,k,e,ey,l⟩ | ⟨kvs,k,b,e,ey,eb,l⟩
 ·show Al;refine call_meetsIn YR dd.typeIs PySem.F.entry_dict_get (PySem.F.args_dict_get_3 _ _ _) (meets_dict_get_default (j8 X.prog X.w) a (Y5 ry) hd r) ⟨_,dd.mapOf,h _ _ (I.tok _) ?_⟩;rw [l];exact (rel.val k).getD rd
 ·subst ey
  cases (show u=Value.ref b from ry)
  obtain ⟨z,hd,xs,rel,dd⟩:=X3 I.hok e;refine call_meetsIn YR dd.typeIs PySem.F.entry_dict_get (PySem.F.args_dict_get_3 _ _ _) (meetsH_dict_get_default (tupleKind (j8 X.prog X.w)) a b hd r) ⟨tupleKind_room_in1 hu,k,xs,J3 I.hok eb,dd,h _ _ (I.tok _) ?_⟩;rw [l];exact (rel.val k).getD rd
end
def b9h(td ty:TE):TE:=λ σ H Q=>td σ H λ x H1=>∃ a,x = .ref a/\IsD H1 a/\ty σ H1 λ y H2=>∃ o,Z8 H2 a y o/\Q (o.getD .non) H2
def b6w(td ty tx:TE):TE:=λ σ H Q=>td σ H λ x H1=>∃ a,x = .ref a/\IsD H1 a/\ty σ H1 λ y H2=>tx σ H2 λ z H3=>∃ o,Z8 H3 a y o/\Q (o.getD z) H3
section
variable {X:Cx} {o e f:Expr} {apos cpos:Pos} {td ty tx:TE}
theorem a7L(hu:X.A.units + 1 < cLine)(ho:PE X o td)(he:PE X e ty)(m:M1 X o "get" apos e cpos):PE X (.Call (.Attribute o "get" apos) [e] [] cpos) (b9h td ty):=by
 show J;refine wpAny_Call_method m.base m.few m.line PySem.F.plainAttrs_dict YR PySem.F.type_dict_get (thn (ho pins s σ H _ I h) λ u s1 zz0=>?_);obtain ⟨x,H1,I1,rx,a,ex,d,q1⟩:=zz0;subst ex
 show Ah
 obtain ⟨t1,t2,_⟩:=a4x I1 d;refine ⟨t1,t2,?_⟩;rw [m.trees];refine Calls.callWith_builtin rfl (Calls.evalArgs_plain (YJ (thn (he pins s1 σ H1 _ I1 q1) λ iv s2 ⟨y,H2,I2,ry,ov,g,q2⟩=>Calls.spliced_nil ?_)));exact b9A hu I2 g ry λ w' s3 I3 rw'=>⟨_,H2,I3,rw',q2⟩
theorem a8m(hu:X.A.units + 1 < cLine)(ho:PE X o td)(he:PE X e ty)(hf:PE X f tx)(m:M2 X o "get" apos e f cpos):PE X (.Call (.Attribute o "get" apos) [e,f] [] cpos) (b6w td ty tx):=by
 show J;refine wpAny_Call_method m.base m.few m.line PySem.F.plainAttrs_dict YR PySem.F.type_dict_get (thn (ho pins s σ H _ I h) λ u s1 zz0=>?_);obtain ⟨x,H1,I1,rx,a,ex,d,q1⟩:=zz0;subst ex
 show Ah
 obtain ⟨t1,t2,_⟩:=a4x I1 d;refine ⟨t1,t2,?_⟩;rw [m.trees]
 refine Calls.callWith_builtin rfl (Calls.evalArgs_plain (YJ (thn (he pins s1 σ H1 _ I1 q1) λ iv s2 ⟨y,H2,I2,ry,q2⟩ =>
  YJ (thn (hf pins s2 σ H2 _ I2 q2) λ fv s3 ⟨z,H3,I3,rz,ov,g,q3⟩=>Calls.spliced_nil ?_))))
 exact b7r hu I3 g ry rz λ w' s4 I4 rw'=>⟨_,H3,I4,rw',q3⟩
end
section
variable {X:Cx} {pins:List (Addr×Obj)} {σ:St} {H:Hp} {s:Shared} {a:Addr} {kvs:List (Key×V)} {A:Around} {E:Value->Shared->Prop}
end
section
variable {X:Cx} {pins:List (Addr×Obj)} {σ:St} {H:Hp} {s:Shared} {a:Addr} {y:V} {u:Value} {A:Around} {E:Value->Shared->Prop}
end
end L2
namespace HT
open PySem PyProof.Rows
def lexLt:List Int->List Int->Bool
 |[],[]=>false
 |[],_ :: _=>true
 |_ :: _,[]=>false
 |x :: xs,y :: ys=>if x=y then lexLt xs ys else decide (x < y)
theorem lexLt_cons(x y:Int)(xs ys:List Int):lexLt (x :: xs) (y :: ys)=if x=y then lexLt xs ys else decide (x < y):=rfl
theorem lexLt_nil_nil:lexLt [] []=false:=rfl
theorem a1c(y:Int)(ys:List Int):lexLt [] (y :: ys)=true:=rfl
theorem a0u(x:Int)(xs:List Int):lexLt (x :: xs) []=false:=rfl
theorem b1B(A:Around)(s:Shared)(a:Int)(t:Tok)(c:Int)(u:Tok):∃ e,SeqAt.EqAt A s (.int a t) (.int c u) e/\(e=true ↔ a=c) :=
 ⟨(a == c),SeqAt.EqAt.int_int a t c u,by simp⟩
theorem a9e(A:Around)(s:Shared)(a:Int)(t:Tok)(c:Int)(u:Tok)(prog:Program)(w:World)(E:Value->Shared->Prop)(Q:Value->Shared->Prop)(h:Q (.bool (decide (a < c))) s) :
  wpAny @I A (richCompare .Lt (.int a t) (.int c u)) Q E s :=
 (PyProof.Rows.lt_int h:wpAny @I A (compareOp .Lt (.int a t) (.int c u)) Q E s)
section
open PySem.SeqAt
open PySem.AutoSeq1 (wpAny_loadPart')
open PySem.MeetsSeq PySem.MeetsSeq2 PySem.MeetsSeq3
theorem a1s(l b:Addr)(items items2:Array Value)(n n2:Nat)(dd dd2:Option Addr)(sl sl2:Array @An)(ns ms:List Int)(hi:IntsAre items.toList ns)(hj:IntsAre items2.toList ms) :
  Meets (Builtin.«tuple.__lt__» ⟨[.ref l,.ref b],[]⟩)
   (λ _ R s=>s.heap.get? l=some { cls:=.type "tuple",dict:=dd,data:=.seq items n,slots:=sl }/\s.heap.get? b=some { cls:=.type "tuple",dict:=dd2,data:=.seq items2 n2,slots:=sl2 } /\
    R (.ok (.ret (.bool (lexLt ns ms)))) s) :=
 .of_wp λ prog w A R s h=>by
  obtain ⟨hp,g,d,tk,os⟩:=s;obtain ⟨hl,hb,h⟩:=h;have f2:=AutoSeq1.sub_tuple_tuple;have z1:items.size=ns.length:=by rw [<- hi.length];simp
  have z2:items2.size=ms.length:=by rw [<- hj.length];simp
  wp_walk using wpAny_loadPart' hl,wpAny_loadPart' hb,wpAny_forIn_list _ (λ rest b s'=>b.1=none/\s'=⟨hp,g,d,tk,os⟩/\∃ (vs ws:List Value) (ns' ms':List Int),rest=vs.zip ws /\
   IntsAre vs ns'/\IntsAre ws ms'/\ns'.length + items2.size=ms'.length + items.size/\R (.ok (.ret (.bool (lexLt ns' ms')))) ⟨hp,g,d,tk,os⟩) _
  case turn =>
   rintro ⟨y,x⟩ rest b s' ⟨hb',rfl,vs,ws,ns',ms',hz,hvi,hwi,hlen,hR⟩
   cases hvi with
   |nil=>rw [List.zip_nil_left] at hz;cases hz
   |cons a t hvi' =>
    cases hwi with
    |nil=>rw [List.zip_nil_right] at hz;cases hz
    |cons c u hwi' =>
     rw [List.zip_cons_cons] at hz
     injection hz with hyx hrest
     injection hyx with hy hx
     subst hy hx;rw [lexLt_cons] at hR;simp only [List.length_cons] at hlen;obtain ⟨e,he,hiff⟩:=b1B A.in1 ⟨hp,g,d,tk,os⟩ a t c u;refine wpAny_bind (he prog w _ _ ?_)
     cases e with
     |true =>
      rw [if_pos (hiff.mp rfl)] at hR
      wp_walk
      exact ⟨rfl,rfl,_,_,_,_,hrest,hvi',hwi',by omega,hR⟩
     |false =>
      rw [if_neg (λ q=>absurd (hiff.mpr q) ZR)] at hR;have hri:=a9e A.in1 ⟨hp,g,d,tk,os⟩ a t c u prog w
      wp_walk using hri
      exact ⟨_,rfl,by simpa using hR⟩
  case fin =>
   rintro ⟨b1,b2⟩ s' ⟨hb',rfl,vs,ws,ns',ms',hz,hvi,hwi,hlen,hR⟩
   simp only at hb'
   subst hb'
   have hv:lexLt ns' ms'=decide (items.size < items2.size):=by
    cases hvi with
    |nil =>
     cases hwi with
     |nil =>
      simp only [List.length_nil] at hlen;rw [lexLt_nil_nil];exact (decide_eq_false @D).symm
     |cons c u hw =>
      simp only [List.length_nil,List.length_cons] at hlen;rw [a1c];exact (decide_eq_true @D).symm
    |cons a t hv =>
     cases hwi with
     |nil =>
      simp only [List.length_nil,List.length_cons] at hlen;rw [a0u];exact (decide_eq_false @D).symm
     |cons c u hw =>
      rw [List.zip_cons_cons] at hz;cases hz
   rw [hv] at hR
   wp_walk
   exact ⟨_,rfl,by simpa [Builtin.Tuple.tupleCompareSizes] using hR⟩
  case h =>
   exact ⟨rfl,rfl,items.toList,items2.toList,ns,ms,rfl,hi,hj,by omega,h⟩
end
section
variable {prog:Program} {w:World} {A:Around} {E:Value->Shared->Prop} {s:Shared}
theorem lt_tupInts{l b:Addr}{items items2:Array Value}{ns ms:List Int}{Q:Value->Shared->Prop}(hl:IsTup s.heap l items)(hb:IsTup s.heap b items2)(hi:IntsAre items.toList ns)(hj:IntsAre items2.toList ms)
  (hu:A.units < cLine) (h:Q (.bool (lexLt ns ms)) s):wpAny @I A (compareOp .Lt (.ref l) (.ref b)) Q E s:=by
 obtain ⟨⟨cls,dd,data,sl⟩,ho,hc,n,hd⟩:=id hl;obtain ⟨⟨cls2,dd2,data2,sl2⟩,ho2,hc2,n2,hd2⟩:=id hb
 simp only at hc hd hc2 hd2
 subst hc hd hc2 hd2
 exact richCompare_meets_room (op:=.Lt) ⟨_,ho,rfl⟩ ⟨_,ho2,rfl⟩ PySem.F.slot_tuple_lt PySem.F.entry_tuple_lt (PySem.F.args_tuple_lt_2 _ _) (a1s l b items items2 n n2 dd dd2 sl sl2 ns ms hi hj)
  ⟨ho,ho2,show Value.bool (lexLt ns ms) ≠ Value.notImplemented/\Q (.bool (lexLt ns ms)) s from ⟨(λ x=>nomatch x),h⟩⟩ hu
theorem cat_tup{t b:Addr}{vs ws:List Value}{Q:Value->Shared->Prop}(ht:IsTup s.heap t vs.toArray)(hb:IsTup s.heap b ws.toArray)(hv:vs ≠ [])
  (h1:ws=[]->Q (.ref t) s) (h2:ws ≠ []->Q @Aj { s with heap:=s.heap.push { cls:=.type "tuple",data:=.seq (vs ++ ws).toArray } })
  (hsz:vs.length + ws.length <= sizeLine):wpAny @I A (binaryOp .Add (.ref t) (.ref b)) Q E s:=by
 obtain ⟨⟨cls,dd,data,sl⟩,ho,hc,n,hd⟩:=id ht;obtain ⟨⟨cls2,dd2,data2,sl2⟩,ho2,hc2,n2,hd2⟩:=id hb
 simp only at hc hd hc2 hd2
 subst hc hd hc2 hd2;have e:vs.toArray ++ ws.toArray=(vs ++ ws).toArray:=by simp
 by_cases hw:ws=[]
 ·exact concat_meets ⟨_,ho,rfl⟩ ⟨_,ho2,rfl⟩ noFill_tuple_add seq_tuple_add PySem.F.slot_tuple_add PySem.F.entry_tuple_add (PySem.F.args_tuple_add_2 _ _)
   (tuple_addW1 t b vs.toArray ws.toArray n n2 dd dd2 sl sl2 (by simpa using hv) (by simp [hw])) ⟨ho,ho2,h1 hw⟩
 ·refine concat_meets ⟨_,ho,rfl⟩ ⟨_,ho2,rfl⟩ noFill_tuple_add seq_tuple_add PySem.F.slot_tuple_add PySem.F.entry_tuple_add (PySem.F.args_tuple_add_2 _ _)
   (tuple_addW2 t b vs.toArray ws.toArray n n2 dd dd2 sl sl2 (by simpa using hv) (by simpa using hw) (by rw [ZF,ZF];exact hsz)) ⟨ho,ho2,?_⟩
  rw [e];exact h2 hw
def sIx(n d:Nat):Option Int->Nat
 |none=>d
 |some v=>if v < 0 then (v + (n:Int)).toNat else min v.toNat n
theorem b7J(n d:Nat)(hd:d <= n)(o:Option Int):sIx n d o <= n:=by
 cases o with
 |none=>exact hd
 |some v =>
  show (if v < 0 then (v + (n:Int)).toNat else min v.toNat n) <= n
  by_cases hv:v < 0
  ·rw [if_pos hv];omega
  ·rw [if_neg hv];exact Nat.min_le_right _ _
theorem a5U(v:Int)(n d:Nat):(if v < 0 then max (v + (n:Int)) 0 else min v (n:Int))=((sIx n d (some v):Nat):Int):=by
 show (if v < 0 then max (v + (n:Int)) 0 else min v (n:Int))=(((if v < 0 then (v + (n:Int)).toNat else min v.toNat n):Nat):Int)
 by_cases hv:v < 0
 ·simp only [if_pos hv];omega
 ·simp only [if_neg hv];omega
theorem a4f(lo hi:Option Int)(n:Nat):Builtin.Slice.sliceAdjust lo hi 1 (n:Int)=(((sIx n 0 lo:Nat):Int),((sIx n n hi:Nat):Int)):=by
 have h1:¬ ((1:Int) < 0):=by omega
 unfold Builtin.Slice.sliceAdjust;simp only [h1,if_false];refine Prod.ext ?_ ?_
 ·cases lo with
  |none=>rfl
  |some v=>exact a5U v n 0
 ·cases hi with
  |none=>rfl
  |some v=>exact a5U v n n
theorem a4E(i j:Nat):Builtin.Slice.slicePlaces (i:Int) (j:Int) 1=j - i:=by
 unfold Builtin.Slice.slicePlaces;have h1:(1:Int) > 0:=by omega
 simp only [h1,if_true,Int.ediv_one]
 split <;> omega
theorem a1a{v:Value}{o:Option Int}{Q:Option Int->Shared->Prop}(p:IsPart v o)(h:Q o s):wpAny @I A (Builtin.Slice.slicePartIndex v) Q E s:=by
 cases p with
 |none=>exact slicePart_none h
 |int i t=>exact slicePart_int h
theorem G6{sl:Addr}{vl vu:Value}{lo hi:Option Int}{n:Nat}{Q:Int×Int×Nat->Shared->Prop}(hs:s.heap.IsSliceOf sl vl vu .none)(pl:IsPart vl lo)(pu:IsPart vu hi)
  (h:Q (((sIx n 0 lo:Nat):Int),1,sIx n n hi - sIx n 0 lo) s):wpAny @I A (Builtin.Slice.sliceApplied (.ref sl) (pure (n:Int))) Q E s:=by
 obtain ⟨os,hos,hcs,hds⟩:=id hs;unfold Builtin.Slice.sliceApplied Builtin.Slice.sliceFields;refine wpAny_bind (wpAny_bind (wpAny_field hos hds (x:=vl) rfl (wpAny_bind (wpAny_field hos hds (x:=vu) rfl (wpAny_bind (wpAny_field hos hds (x:=.none) rfl (wpAny_pure ?_)))))));refine wpAny_bind (slicePart_none ?_);show wpAny _ _ (if ((1:Int) == 0)=true then _ else _) _ _ s;rw [if_neg @B];refine wpAny_bind (a1a pl (wpAny_bind (a1a pu (wpAny_bind (wpAny_pure ?_)))));show wpAny _ _ (match Builtin.Slice.sliceAdjust lo hi 1 (n:Int) with | (lo,hi)=>pure (lo,(1:Int),Builtin.Slice.slicePlaces lo hi 1)) _ _ s;rw [a4f lo hi n];show wpAny _ _ (pure (((sIx n 0 lo:Nat):Int),(1:Int),Builtin.Slice.slicePlaces ((sIx n 0 lo:Nat):Int) ((sIx n n hi:Nat):Int) 1)) _ _ s;rw [a4E];exact wpAny_pure h
theorem b1l(xs:Array Value)(i k:Nat):((List.range k).filterMap λ (m:Nat)=>xs[((i:Int) + (m:Int) * 1).toNat]?).toArray=((xs.toList.drop i).take k).toArray:=by
 have e:(λ (m:Nat)=>xs[((i:Int) + (m:Int) * 1).toNat]?)=λ m=>xs[i + m]?:=by
  funext m
  have:((i:Int) + (m:Int) * 1).toNat=i + m:=by omega
  rw [this]
 rw [e]
 have:=pick_run xs i k
 rw [List.filterMap_map] at this;have e2:((λ x=>xs[x]?) ∘ λ x=>i + x)=λ m=>xs[i + m]?:=rfl;rw [e2] at this;rw [this]
theorem getItem_tuple_cut{t sl:Addr}{items:Array Value}{vl vu:Value}{lo hi:Option Int}{Q:Value->Shared->Prop}(ht:IsTup s.heap t items)(hs:s.heap.IsSliceOf sl vl vu .none)(pl:IsPart vl lo)(pu:IsPart vu hi)
  (hw:¬ (sIx items.size 0 lo=0/\sIx items.size items.size hi=items.size))
  (h:Q @Aj { s with heap:=s.heap.push { cls:=.type "tuple",data:=.seq ((items.toList.drop (sIx items.size 0 lo)).take (sIx items.size items.size hi - sIx items.size 0 lo)).toArray } })
  (hsz:items.size <= sizeLine):wpAny @I A (getItem (.ref t) (.ref sl)) Q E s:=by
 have htake:sizeOk (.seq ((items.toList.drop (sIx items.size 0 lo)).take (sIx items.size items.size hi - sIx items.size 0 lo)).toArray):=by
  show ((items.toList.drop (sIx items.size 0 lo)).take (sIx items.size items.size hi - sIx items.size 0 lo)).toArray.size <= sizeLine;rw [ZF,YM,List.length_drop,Array.length_toList];omega
 have hj:sIx items.size items.size hi <= items.size:=b7J _ _ @G hi;obtain ⟨os,hos,hcs,hds⟩:=id hs;have hTs:s.TypeIs (.ref sl) "slice":=⟨os,hos,hcs⟩
 unfold getItem
 try with_reducible refine wpAny_holding ?_
 first | refine wpAny_bind (wpAny_pure ?_) | skip
 refine wpAny_bind (wpAny_sequenceKey ht.typeIs @B ?_)
 refine wpAny_bind (wpAny_callSpecial?_slot (name:=Str.ofString "__getitem__") ht.typeIs PyProof.Rows.slot_tuple_getitem
  (wpAny_call_entry PyProof.Rows.slot_tuple_getitem ht.typeIs entry_tuple_getitem ?_ (args_tuple_getitem _ _)))
 show wpAny _ _ (Builtin.Tuple.tupleItemsOf (.ref t) >>= _) _ _ s;refine wpAny_bind (tupleItemsOf_ ht ?_);refine wpAny_bind (wpAny_typeOf hTs ?_);rw [if_pos @B];refine wpAny_bind (G6 hs pl pu ?_)
 have hno:¬ (@Ae=true):=by
  intro q;rw [ZC,ZC] at q;have q1:((sIx items.size 0 lo:Nat):Int)=0:=eq_of_beq q.1.1;have q2:sIx items.size items.size hi - sIx items.size 0 lo=items.size:=eq_of_beq q.2;exact hw ⟨by omega,by omega⟩
 show wpAny _ _ (if @Ae=true then _ else _) _ _ s;rw [if_neg hno,b1l]
 first
  |exact wpAny_bind (m:=Builtin.Tuple.tupleExact _) (wpAny_newObj_type @Be htake)
  |exact wpAny_bind (m:=Builtin.Tuple.tupleExact _) (wpAny_newObj_type (wpAny_bind (wpAny_pure @Be)) htake)
  |exact wpAny_bind (wpAny_bind (m:=Builtin.Tuple.tupleExact _) (wpAny_newObj_type (wpAny_pure @Be) htake))
  |exact wpAny_bind (wpAny_bind (m:=Builtin.Tuple.tupleExact _) (wpAny_newObj_type @Be htake))
end
end HT
namespace L2
open PySem PySem.Spec PyProof.Rows
abbrev TO:=St->Hp->(Option Int->Hp->Prop)->Prop
def PO(X:Cx)(e:Option Expr)(t:TO):Prop :=
 ∀ (pins:List @M) (s:Shared) (σ:St) (H:Hp) (Q:Option Int->Hp->Prop),Inv X pins σ H s->t σ H Q ->
  wpAny @C X.A (evalPart e X.env) (λ u s'=>∃ o H',Inv X pins σ H' s'/\IsPart u o/\Q o H') X.xe s
def b5m:TO:=λ _ H Q=>Q none H
def c0V(t:TE):TO:=λ σ H Q=>t σ H λ x H1=>∃ i,x = .int i/\Q (some i) H1
theorem P9{ns:List Int}:∀ {us:List Value},Vals (ns.map V.int) us->IntsAre us ns:=by
 induction ns with
 |nil=>intro us r;rw [List.map_nil] at r;cases r;exact .nil
 |cons n ns ih =>
  intro us r;rw [Zs] at r
  cases r with
  |cons r1 r2 =>
   obtain ⟨t,e⟩:=r1;subst e;exact .cons n t (ih r2)
section
variable {X:Cx} {e:Expr} {te:TE} {lo hi:Option Expr} {tl th:TO} {pos p2:Pos}
theorem b3m:PO X none b5m:=by
 show J;rw [evalPart_none];exact wpAny_pure ⟨none,H,I,.none,h⟩
theorem b3S(h:PE X e te):PO X (some e) (c0V te):=by
 intro pins s σ H Q I hw;rw [evalPart_some];refine thn (h pins s σ H _ I hw) λ u s1 zz0=>?_;show Ai;obtain ⟨i,rfl,q⟩:=q1;obtain ⟨t,rfl⟩:=r1;exact ⟨some i,H1,I1,.int i t,q⟩
def SlR(X:Cx)(r:V->Option Int->Option Int->Hp->VK->Prop):Prop :=
 ∀ (pins:List @M) (s:Shared) (σ:St) (H:Hp) (x:V) (v vl vu:Value) (lo hi:Option Int) (sl:Addr) (Q:VK),Inv X pins σ H s->RelV x v->s.heap.IsSliceOf sl vl vu .none->IsPart vl lo->IsPart vu hi->r x lo hi H Q ->
  ∃ T id,typeLookup (.type T) "__getitem__" = pure (some (.builtin id))/\s.TypeIs v T/\wpAny @C X.A (getItem v (.ref sl)) @AR X.xe s
theorem SlR.or{r r':V->Option Int->Option Int->Hp->VK->Prop}(h:SlR X r)(h':SlR X r'):SlR X (λ x lo hi H Q=>r x lo hi H Q\/r' x lo hi H Q):=by
 intro pins s σ H x v vl vu lo hi sl Q I rx hs pl pu q
 rcases q with q | q
 ·exact h pins s σ H x v vl vu lo hi sl Q I rx hs pl pu q
 ·exact h' pins s σ H x v vl vu lo hi sl Q I rx hs pl pu q
def tSl(r:V->Option Int->Option Int->Hp->VK->Prop)(te:TE)(tl th:TO):TE:=λ σ H Q=>te σ H λ x H1=>tl σ H1 λ l H2=>th σ H2 λ u H3=>r x l u H3 Q
theorem b0w{r:V->Option Int->Option Int->Hp->VK->Prop}(hr:SlR X r)(he:PE X e te)(hl:PO X lo tl)(hu:PO X hi th):PE X (.Subscript e (.Slice lo hi none p2) pos) (tSl r te tl th):=by
 show J;refine Subscript_ (thn @AV λ v s1 zz0=>?_);show Ai;refine wpAny_Slice (thn (hl pins s1 σ H1 _ I1 q1) λ vl s2 ⟨l,H2,I2,pl,q2⟩=>thn (hu pins s2 σ H2 _ I2 q2) λ vu s3 zz0=>?_);obtain ⟨u,H3,I3,pu,q3⟩:=zz0;rw [evalPart_none];refine wpAny_pure ?_;have I4:Inv X pins σ H3 { s3 with heap:=s3.heap.push { cls:=.type "slice",data:=.fields #[vl,vu,.none] } }:=I3.kept (t':=s3.toks) λ b ob q=>ZU _ q;obtain ⟨T,id,hT,ht,hg⟩:=hr pins { s3 with heap:=s3.heap.push { cls:=.type "slice",data:=.fields #[vl,vu,.none] } } σ H3 x v vl vu l u s3.heap.objs.size Q I4 r1 (Heap.IsSliceOf.new ..) pl pu q3;show wpAny @C X.A (subscriptTail e (.Slice lo hi none p2) v (.ref s3.heap.objs.size)) @AR X.xe { s3 with heap:=s3.heap.push { cls:=.type "slice",data:=.fields #[vl,vu,.none] } };exact tail_any (ops:=[.ref s3.heap.objs.size,v]) ht hT hg (by with_unfolding_all rfl)
def R0(xs:List V)(lo hi:Option Int):List V:=(xs.drop (HT.sIx xs.length 0 lo)).take @AX
theorem Y3(xs:List V)(lo hi:Option Int):(R0 xs lo hi).length <= xs.length:=by
 unfold R0;rw [YM,List.length_drop];omega
def c3g(K:PySem.W.Frag):V->Option Int->Option Int->Hp->VK->Prop:=λ x lo hi H Q=>∃ a xs,x = .ref a/\SqT K H a xs /\
 ¬ (HT.sIx xs.length 0 lo=0/\HT.sIx xs.length xs.length hi=xs.length)/\∀ p,H p=none->Q (.ref p) (upd H p (.tup (R0 xs lo hi)))
theorem b7y:SlR X (c3g X.K):=by
 intro pins s σ H x v vl vu lo hi sl Q I rx hs pl pu h;obtain ⟨a,xs,rfl,hx,hw,q⟩:=h;cases rx;obtain ⟨its,r,ht,hz⟩:=I.tuple hx;have hlen:its.toArray.size=xs.length:=by rw [ZF];exact r.length.symm
 refine ⟨"tuple",_,PyProof.Rows.slot_tuple_getitem.lookup,ht.typeIs,?_⟩;refine HT.getItem_tuple_cut ht hs pl pu (by rw [hlen];exact hw) ?_ (by rw [hlen];exact hz);rw [hlen];refine ⟨.ref s.heap.objs.size,_,I.laid (t':=s.toks) (o:=.tup (R0 xs lo hi)) (λ b ob q=>ZU _ q) @G ?_,rfl,q _ (I.hok.fresh @G)⟩;exact ⟨Nat.le_trans (Y3 xs lo hi) hz,_,(r.drop (HT.sIx xs.length 0 lo)).take @AX,IsTup.new _ _⟩
def c2S(K:PySem.W.Frag):R2:=λ x y H Q=>∃ a b ns ms,x = .ref a/\y = .ref b/\SqT K H a (ns.map V.int)/\SqT K H b (ms.map V.int)/\Q (.bl (HT.lexLt ns ms)) H
theorem b8i(hu:X.A.units < cLine):OpR X (compareOp .Lt) (c2S X.K):=by
 show O;obtain ⟨a,b,ns,ms,rfl,rfl,ha,hb,q⟩:=h;cases rx;cases ry;obtain ⟨its,r1,p1,_⟩:=I.tuple ha;obtain ⟨its2,r2,p2,_⟩:=I.tuple hb;have i1:IntsAre its.toArray.toList ns:=P9 r1;have i2:IntsAre its2.toArray.toList ms:=P9 r2;exact HT.lt_tupInts p1 p2 i1 i2 hu ⟨.bl (HT.lexLt ns ms),H,I,rfl,q⟩
def c1v(K:PySem.W.Frag):R2:=λ x y H Q=>∃ a b xs ys,x = .ref a/\y = .ref b/\SqT K H a xs/\SqT K H b ys/\xs ≠ []/\xs.length + ys.length <= sizeLine /\
 (ys=[]->Q @Ax H)/\(ys ≠ []->∀ p,H p=none->Q (.ref p) (upd H p (.tup (xs ++ ys))))
theorem Vals.nil_iff{xs:List V}{us:List Value}(r:Vals xs us):us=[] ↔ xs=[]:=by
 cases r with
 |nil=>simp
 |cons _ _=>simp
theorem b3h:OpR X (binaryOp .Add) (c1v X.K):=by
 show O;obtain ⟨a,b,xs,ys,rfl,rfl,ha,hb,hx,hz,q1,q2⟩:=h;cases rx;cases ry;obtain ⟨its,r1,p1,_⟩:=I.tuple ha;obtain ⟨its2,r2,p2,_⟩:=I.tuple hb;refine HT.cat_tup p1 p2 (λ z=>hx (r1.nil_iff.mp z)) (λ z=>⟨.ref a,H,I,rfl,q1 (r2.nil_iff.mp z)⟩) (λ z=>?_) (by rw [<- r1.length,<- r2.length];exact hz);refine ⟨.ref s.heap.objs.size,_,I.laid (t':=s.toks) (o:=.tup (xs ++ ys)) (λ b ob q=>ZU _ q) @G ?_,rfl,q2 (λ w=>z (r2.nil_iff.mpr w)) _ (I.hok.fresh @G)⟩;exact ⟨by rw [ZW];exact hz,_,r1.append r2,IsTup.new _ _⟩
end
end L2
namespace L2
open PySem PySem.Spec PyProof.Rows
def ixN(n:Nat)(i:Int):Option Nat:=if 0 <= i then (if i < n then some i.toNat else none) else if -(n:Int) <= i then some (i + n).toNat else none
def atI{α:Type}(xs:List α)(i:Int):Option α:=(ixN xs.length i).bind λ j=>xs[j]?
theorem a4Y{n:Nat}{i:Int}{j:Nat}(h:ixN n i=some j):seqIndex? i n=some j/\j < n/\-(n:Int) <= i/\i < n:=by
 unfold ixN at h
 by_cases h0:0 <= i
 ·rw [if_pos h0] at h
  by_cases h1:i < n
  ·rw [if_pos h1] at h;have e:i.toNat=j:=Option.some.inj h;exact ⟨by rw [seqIndex_of h0 h1,e],by omega,by omega,h1⟩
  ·rw [if_neg h1] at h;cases h
 ·rw [if_neg h0] at h
  by_cases h1:-(n:Int) <= i
  ·rw [if_pos h1] at h;have e:(i + n).toNat=j:=Option.some.inj h;exact ⟨by rw [seqIndex_neg @D h1,e],by omega,h1,by omega⟩
  ·rw [if_neg h1] at h;cases h
theorem a2p{α:Type}{xs:List α}{i:Int}{v:α}(h:atI xs i=some v):∃ j,seqIndex? i xs.length=some j/\xs[j]?=some v/\j < xs.length/\-(xs.length:Int) <= i/\i < xs.length:=by
 unfold atI at h
 cases e:ixN xs.length i with
 |none=>rw [e] at h;cases h
 |some j =>
  rw [e] at h;obtain ⟨h1,h2,h3,h4⟩:=a4Y e;exact ⟨j,h1,h,h2,h3,h4⟩
def a4V(b:Expr):Prop:=∀ o i,subscripted b false o i=operate [o,i] (getItem o i)
def IxR(X:Cx)(r:R2):Prop :=
 ∀ (value slice:Expr) (pins:List @M) (s:Shared) (σ:St) (H:Hp) (x y:V) (v u:Value) (Q:VK),Inv X pins σ H s->RelV x v->RelV y u->r x y H Q ->
  subscripted slice false v u=operate [v,u] (getItem v u)->wpAny @C X.A (subscriptTail value slice v u) @AR X.xe s
def MtR(X:Cx)(id:String)(r:V->List V->Hp->VK->Prop):Prop :=
 ∀ (pins:List @M) (s:Shared) (σ:St) (H:Hp) (x:V) (xs:List V) (v:Value) (us:List Value) (Q:VK),Inv X pins σ H s->RelV x v->Vals xs us->r x xs H Q ->
  wpAny @C X.A (call (.builtin id) (v :: us)) @AR X.xe s
section
variable {X:Cx} {a b:Expr} {ta tb:TE} {pos:Pos}
theorem IxR.or{r r':R2}(h:IxR X r)(h':IxR X r'):IxR X (λ x y H Q=>r x y H Q\/r' x y H Q):=by
 intro value slice pins s σ H x y v u Q I rx ry q hs
 rcases q with q | q
 ·exact h value slice pins s σ H x y v u Q I rx ry q hs
 ·exact h' value slice pins s σ H x y v u Q I rx ry q hs
theorem c1L{r:R2}(hr:IxR X r)(ha:PE X a ta)(hb:PE X b tb)(hs:a4V b):PE X (.Subscript a b pos) (tOp r ta tb):=by
 show J;exact Subscript_ (b8m ha hb I h λ v u s2 x y H2 I2 rx ry q=>hr a b pins s2 σ H2 x y v u Q I2 rx ry q (hs _ _))
def c1P(K:PySem.W.Frag):R2:=λ x y H Q=>∃ p xs i v,x = .ref p/\y = .int i/\SqL K H p xs/\atI xs i=some v/\Q v H
def c0a(K:PySem.W.Frag):R2:=λ x y H Q=>∃ p xs i v,x = .ref p/\y = .int i/\SqT K H p xs/\atI xs i=some v/\Q v H
def c1c:R2:=λ x y H Q=>∃ z i c,x = .str z/\y = .int i/\z.length <= sizeLine/\atI z.cps.toList i=some c/\Q (.str ⟨#[c]⟩) H
theorem ix_list:IxR X (c1P X.K):=by
 intro value slice pins s σ H x y v u Q I rx ry h hs;obtain ⟨p,xs,i,z,rfl,rfl,hq,he,q⟩:=h;cases rx;obtain ⟨t,rfl⟩:=ry;obtain ⟨its,r,pl,hz⟩:=I.list hq;obtain ⟨j,h1,h2,h3,h4,h5⟩:=a2p he;obtain ⟨w,ew,rw'⟩:=r.get h2;have hl:=r.length;have hn:=U9;have fin:EP X pins σ Q w s:=⟨z,H,I,rw',q⟩
 by_cases h0:0 <= i
 ·have hj:i.toNat=j:=by
   rw [seqIndex_of h0 h5] at h1;exact Option.some.inj h1
  exact item_listR pl.isList h0 @D (by rw [hj];simpa using ew) fin hs
 ·have hj:(i + (its.toArray.size:Int)).toNat=j:=by
   rw [seqIndex_neg @D h4] at h1;rw [ZF,<- hl];exact Option.some.inj h1
  exact subscriptTail_builtinR (x:=w) pl.isList.typeIs slot_list_getitem.lookup
   (wpAny_getItem_list_neg (Q:=λ r s'=>r=w/\EP X pins σ Q r s') pl.isList @D (by rw [ZF] <;> omega) @D (by rw [hj];simpa using ew) ⟨rfl,fin⟩) hs
theorem ix_tup:IxR X (c0a X.K):=by
 intro value slice pins s σ H x y v u Q I rx ry h hs;obtain ⟨p,xs,i,z,rfl,rfl,hq,he,q⟩:=h;cases rx;obtain ⟨t,rfl⟩:=ry;obtain ⟨its,r,pl,hz⟩:=I.tuple hq;obtain ⟨j,h1,h2,h3,h4,h5⟩:=a2p he;obtain ⟨w,ew,rw'⟩:=r.get h2;have hl:=r.length;have hn:=U9;have fin:EP X pins σ Q w s:=⟨z,H,I,rw',q⟩
 exact subscriptTail_builtinR (x:=w) pl.typeIs slot_tuple_getitem.lookup
  (getItem_tuple (j:=j) (Q:=λ r s'=>r=w/\EP X pins σ Q r s') pl @D @D (by rw [ZF,<- hl];exact h1) (by simpa using ew) ⟨rfl,fin⟩) hs
theorem b9G:IxR X c1c:=by
 intro value slice pins s σ H x y v u Q I rx ry h hs;obtain ⟨z,i,c,rfl,rfl,hz,he,q⟩:=h;show Ae;obtain ⟨t',rfl⟩:=ry;obtain ⟨j,h1,h2,h3,h4,h5⟩:=a2p he;have hl:z.cps.toList.length=z.length:=by simp [Str.length]
 rw [hl] at h1 h4 h5;have hn:=U9
 exact tail_any (typeIs_str s z t) slot_str_getitem.lookup (getItem_str (c:=c) (by
  have e1:decide (i < -(2 ^ 63:Int))=false:=decide_eq_false @D;have e2:decide (i ≥ 2 ^ 63)=false:=decide_eq_false @D;rw [e1,e2,Bool.or_false]) (by rw [h1];simpa using h2) ⟨.str ⟨#[c]⟩,H,I.tok _,⟨_,rfl⟩,q⟩) hs
def rIx(K:PySem.W.Frag):R2:=λ x y H Q=>c1P K x y H Q\/c0a K x y H Q\/c1c x y H Q
theorem b8l:IxR X (rIx X.K):=ix_list.or (ix_tup.or b9G)
theorem a4y(its:List Value)(n j:Nat)(u:Value):Obj.mapSeq (·.setIfInBounds j u) { cls:=.type "list",data:=.seq its.toArray n }={ cls:=.type "list",data:=.seq (its.set j u).toArray n }:=by
 simp [Obj.mapSeq]
theorem Inv.lst{pins:List @M}{σ:St}{H:Hp}{s:Shared}{p:Addr}{xs:List V}(I:Inv X pins σ H s)(h:H p=some @X) :
  ∃ (its:List Value) (n:Nat),Vals xs its/\s.heap.get? p=some { cls:=.type "list",data:=.seq its.toArray n }/\xs.length <= sizeLine:=by
 obtain ⟨z,its,n,r,e⟩:=I.hok p _ h;exact ⟨its,n,r,e,z⟩
theorem Inv.lstUpd{pins:List @M}{σ:St}{H:Hp}{s:Shared}{p:Addr}{xs ys:List V}{its its':List Value}{n n':Nat}{f:Obj->Obj}(I:Inv X pins σ H s)(h:H p=some @X)
  (ho:s.heap.get? p=some { cls:=.type "list",data:=.seq its.toArray n }) (hf:f { cls:=.type "list",data:=.seq its.toArray n }={ cls:=.type "list",data:=.seq its'.toArray n' }) (r:Vals ys its') (hz:ys.length <= sizeLine) (t:Nat) :
  Inv X pins σ (upd H p (.lst ys)) { s with heap:=s.heap.update p f,toks:=t }:=by
 have e:(s.heap.update p f).get? p=some { cls:=.type "list",data:=.seq its'.toArray n' }:=by
  rw [Heap.get?_update_self f ho (by rw [hf] <;> rfl),hf]
 refine I.write (x:=p) (e:=p) (by rw [h];trivial) @AH (λ b u hb q=>(Heap.get?_update_other _ _ (Ne.symm hb)).trans q) ⟨_,e⟩ ?_;exact ⟨hz,its',n',r,e⟩
def b5H:V->V->V->Hp->(Hp->Prop)->Prop:=λ o i v H Q=>∃ p xs k j,o = .ref p/\i = .int k/\H p=some @X/\ixN xs.length k=some j/\Q (upd H p (.lst (xs.set j v)))
theorem a8F:c1A X b5H:=by
 intro pins s σ H o i v ov iv u Q I ro ri rv h;obtain ⟨p,xs,k,j,rfl,rfl,hp,hj,q⟩:=h;cases ro;obtain ⟨t,rfl⟩:=ri;obtain ⟨its,n,r,ho,hz⟩:=I.lst hp;obtain ⟨h1,h2,h3,h4⟩:=a4Y hj;have hl:=r.length;have hn:=U9
 have I':Inv X pins σ (upd H p (.lst (xs.set j v))) { s with heap:=s.heap.update p (Obj.mapSeq (·.setIfInBounds j u)) } :=
  I.lstUpd hp ho (a4y its n j u) (r.set rv j) (by rw [YI];exact hz) s.toks
 by_cases h0:0 <= k
 ·have hk:k.toNat=j:=by
   rw [seqIndex_of h0 h4] at h1;exact Option.some.inj h1
  exact PySem.W.ki_setAt ho h0 @D (by rw [ZF,<- hl];exact h4) (by rw [hk];exact ⟨_,I',q⟩)
 ·have hk:(k + (its.toArray.size:Int)).toNat=j:=by
   rw [seqIndex_neg @D h3] at h1;rw [ZF,<- hl];exact Option.some.inj h1
  exact PySem.W.ki_setBack ho @D (by rw [ZF,<- hl];exact h3) @D (by rw [hk];exact ⟨_,I',q⟩)
theorem a2x(lo hi:Option Int)(n:Nat):(sliceBounds lo hi none n).1=((HT.sIx n 0 lo:Nat):Int)/\(sliceBounds lo hi none n).2.1=((HT.sIx n n hi:Nat):Int)/\(sliceBounds lo hi none n).2.2=1:=by
 refine ⟨?_,?_,rfl⟩
 ·cases lo with
  |none=>simp [sliceBounds,HT.sIx]
  |some i =>
   simp only [sliceBounds,HT.sIx,Option.getD_none,show (1:Int) > 0 by decide,if_true]
   by_cases h:i < 0
   ·simp only [h,if_true] <;> omega
   ·simp only [h,if_false] <;> omega
 ·cases hi with
  |none=>simp [sliceBounds,HT.sIx]
  |some i =>
   simp only [sliceBounds,HT.sIx,Option.getD_none,show (1:Int) > 0 by decide,if_true]
   by_cases h:i < 0
   ·simp only [h,if_true] <;> omega
   ·simp only [h,if_false] <;> omega
theorem a1q(its:List Value)(lo hi:Option Int):slicePick its.toArray lo hi none=((its.drop (HT.sIx its.length 0 lo)).take (HT.sIx its.length its.length hi - HT.sIx its.length 0 lo)).toArray:=by
 obtain ⟨h1,h2,h3⟩:=a2x lo hi its.toArray.size;unfold slicePick;rw [h1,h2,h3];simp only [sliceRange_one,pick_run,List.size_toArray] <;> rfl
def c2Q(K:PySem.W.Frag):V->Option Int->Option Int->Hp->VK->Prop:=λ x lo hi H Q=>∃ a xs,x = .ref a/\SqL K H a xs/\∀ p,H p=none->Q (.ref p) (upd H p (.lst (R0 xs lo hi)))
theorem b5g:SlR X (c2Q X.K):=by
 intro pins s σ H x v vl vu lo hi sl Q I rx hs pl pu h;obtain ⟨a,xs,rfl,hx,q⟩:=h;cases rx;obtain ⟨its,r,ht,hz⟩:=I.list hx;have hlen:=r.length;refine ⟨"list",_,slot_list_getitem.lookup,ht.isList.typeIs,?_⟩;refine wpAny_getItem_list_slice ht.isList hs pl pu .none @N ?_ (by rw [ZF] <;> omega);rw [a1q,<- hlen];refine ⟨.ref s.heap.objs.size,_,I.laid (t':=s.toks) (o:=.lst (R0 xs lo hi)) (λ b ob q=>ZU _ q) @G ?_,rfl,q _ (I.hok.fresh @G)⟩;exact ⟨Nat.le_trans (Y3 xs lo hi) hz,_,0,(r.drop (HT.sIx xs.length 0 lo)).take @AX,ZI _ rfl⟩
def O7:V->Bool
 |.non=>true
 |.bl _=>true
 |.int _=>true
 |.str _=>true
 |_=>false
def eqV:V->V->Bool
 |.non,.non=>true
 |.bl a,.bl b=>a == b
 |.bl a,.int b=>(if a then 1 else 0) == b
 |.int a,.bl b=>a == (if b then 1 else 0)
 |.int a,.int b=>a == b
 |.str a,.str b=>a == b
 |_,_=>false
theorem b8G{A:Around}{s:Shared}{y x:V}{u v:Value}(ry:RelV y u)(rx:RelV x v)(fy:O7 y=true)(fx:O7 x=true):SeqAt.EqAt A s u v (eqV y x):=by
 cases y with
 |non =>
  cases ry
  cases x with
  |non=>cases rx;exact SeqAt.EqAt.same _
  |bl b=>cases rx;exact SeqAt.EqAt.none_bool b
  |int b=>obtain ⟨t,rfl⟩:=rx;exact SeqAt.EqAt.none_int b t
  |str b=>obtain ⟨t,rfl⟩:=rx;exact SeqAt.EqAt.none_str b t
  |_=>exact absurd (show false=true from fx) ZR
 |bl a =>
  cases ry
  cases x with
  |non=>cases rx;exact SeqAt.EqAt.bool_none a
  |bl b=>cases rx;exact SeqAt.EqAt.bool_bool a b
  |int b=>obtain ⟨t,rfl⟩:=rx;exact SeqAt.EqAt.bool_int a b t
  |str b=>obtain ⟨t,rfl⟩:=rx;exact SeqAt.EqAt.bool_str a b t
  |_=>exact absurd (show false=true from fx) ZR
 |int a =>
  obtain ⟨t',rfl⟩:=ry
  cases x with
  |non=>cases rx;exact SeqAt.EqAt.int_none a t'
  |bl b=>cases rx;exact SeqAt.EqAt.int_bool a t' b
  |int b=>obtain ⟨t,rfl⟩:=rx;exact SeqAt.EqAt.int_int a t' b t
  |str b=>obtain ⟨t,rfl⟩:=rx;exact SeqAt.EqAt.int_str a t' b t
  |_=>exact absurd (show false=true from fx) ZR
 |str a =>
  obtain ⟨t',rfl⟩:=ry
  cases x with
  |non=>cases rx;exact SeqAt.EqAt.str_none a t'
  |bl b=>cases rx;exact SeqAt.EqAt.str_bool a t' b
  |int b=>obtain ⟨t,rfl⟩:=rx;exact SeqAt.EqAt.str_int a t' b t
  |str b=>obtain ⟨t,rfl⟩:=rx;exact SeqAt.EqAt.str_str a t' b t
  |_=>exact absurd (show false=true from fx) ZR
 |_=>exact absurd (show false=true from fy) ZR
def eqU(x:V)(u:Value):Bool:=match u with
 |.none=>eqV .non x
 |.bool b=>eqV (.bl b) x
 |.int i _=>eqV (.int i) x
 |.str z _=>eqV (.str z) x
 |_=>false
theorem a9v{x y:V}{u:Value}(r:RelV y u)(f:O7 y=true):eqU x u=eqV y x:=by
 cases y with
 |non=>cases r;rfl
 |bl b=>cases r;rfl
 |int i=>obtain ⟨t,rfl⟩:=r;rfl
 |str z=>obtain ⟨t,rfl⟩:=r;rfl
 |_=>exact absurd (show false=true from f) ZR
theorem a2e{x:V}:∀ {xs:List V} {us:List Value},Vals xs us->xs.all O7=true->us.any (eqU x)=xs.any λ y=>eqV y x
 |_,_,.nil,_=>rfl
 |y :: xs,u :: us,.cons r t,f=>by
  rw [List.all_cons,ZC] at f;rw [YZ,YZ,a9v r f.1,a2e t f.2]
theorem a0N{A:Around}{s:Shared}{x:V}{v:Value}(rx:RelV x v)(fx:O7 x=true):∀ {xs:List V} {us:List Value},Vals xs us->xs.all O7=true->∀ u ∈ us,SeqAt.EqAt A s u v (eqU x u)
 |_,_,.nil,_=>λ u hu=>by cases hu
 |y :: xs,u :: us,.cons r t,f=>λ u' hu=>by
  rw [List.all_cons,ZC] at f
  rcases List.mem_cons.mp hu with rfl | hu
  ·rw [a9v r f.1];exact b8G r rx f.1 fx
  ·exact a0N rx fx t f.2 u' hu
def inV(x:V)(xs:List V):Bool:=xs.any λ y=>eqV y x
def rIn(K:PySem.W.Frag)(neg:Bool):R2:=λ x y H Q=>∃ p xs,y = .ref p/\(SqL K H p xs\/SqT K H p xs)/\O7 x=true/\xs.all O7=true/\Q (.bl (if neg then !inV x xs else inV x xs)) H
theorem a6L:OpR X (compareOp .In) (rIn X.K false):=by
 show O;obtain ⟨p,xs,rfl,hq,fx,fs,q⟩:=h;cases ry
 rcases hq with hq | hq
 ·obtain ⟨its,r,pl,hz⟩:=I.list hq;refine SeqAt.in_listAt (eqU x) pl.isList (λ w hw=>a0N rx fx r fs w (by simpa using hw)) ⟨.bl _,H,I,rfl,?_⟩;rw [show its.toArray.any (eqU x)=its.any (eqU x) by simp,a2e r fs];exact q
 ·obtain ⟨its,r,pl,hz⟩:=I.tuple hq;refine SeqAt.in_tupleAt (eqU x) pl (λ w hw=>a0N rx fx r fs w (by simpa using hw)) ⟨.bl _,H,I,rfl,?_⟩;rw [show its.toArray.any (eqU x)=its.any (eqU x) by simp,a2e r fs];exact q
theorem a2D:CallR X (.type "list") (λ xs H Q=>∃ p ys,xs=[.ref p]/\(SqL X.K H p ys\/SqT X.K H p ys)/\∀ l,H l=none->Q (.ref l) (upd H l (.lst ys))):=by
 show Aa;obtain ⟨p,ys,rfl,hq,q⟩:=h;obtain ⟨u,rfl,rx⟩:=T3 r;cases rx
 have fin:∀ (its:List Value),Vals ys its->ys.length <= sizeLine->∀ (h':Heap) (c':Nat),(∀ b o',s.heap.get? b=some o'->h'.get? b=some o') ->
   h'.get? s.heap.objs.size=some { cls:=.type "list",dict:=none,data:=.seq its.toArray c',slots:=#[] }->EP X pins σ Q @Aj { s with heap:=h' }:=λ its r' hz h' c' kp e =>
  ⟨.ref s.heap.objs.size,_,I.laid (t':=s.toks) kp @G (show ObjOk X.prog X.w _ h' _ (.lst ys) from ⟨hz,its,c',r',e⟩),rfl,q _ (I.hok.fresh @G)⟩
 rcases hq with hq | hq
 ·obtain ⟨its,r',pl,hz⟩:=I.list hq;have hlen:=r'.length;obtain ⟨o,ho,hc,n,hd⟩:=pl.isList;exact call_list_seq p @AH ho hc hd (λ h' c' kp e=>fin its r' hz h' c' kp e) (by simp only [List.size_toArray] <;> omega)
 ·obtain ⟨its,r',pl,hz⟩:=I.tuple hq;have hlen:=r'.length;obtain ⟨o,ho,hc,n,hd⟩:=pl;exact call_list_seq p (.inr rfl) ho hc hd (λ h' c' kp e=>fin its r' hz h' c' kp e) (by simp only [List.size_toArray] <;> omega)
theorem a1m:CallR X (.type "tuple") (λ xs H Q=>∃ p ys,xs=[.ref p]/\((SqL X.K H p ys/\∀ l,H l=none->Q (.ref l) (upd H l (.tup ys)))\/(SqT X.K H p ys/\Q (.ref p) H))):=by
 show Aa;obtain ⟨p,ys,rfl,h⟩:=h;obtain ⟨u,rfl,rx⟩:=T3 r;cases rx
 rcases h with ⟨hq,q⟩ | ⟨hq,q⟩
 ·obtain ⟨its,r',pl,hz⟩:=I.list hq;have hlen:=r'.length;refine call_tuple_list pl.isList (λ h' kp=>?_) (by simp only [List.size_toArray] <;> omega);have I1:Inv X pins σ H { s with heap:=h' }:=I.kept (t':=s.toks) kp
  have I2:Inv X pins σ (upd H h'.objs.size (.tup ys)) { s with heap:=h'.push { cls:=.type "tuple",data:=.seq its.toArray } } :=
   I1.laid (t':=s.toks) (λ b o e=>ZU _ e) @G (show ObjOk X.prog X.w _ _ _ (.tup ys) from ⟨hz,its,r',IsTup.new _ _⟩)
  exact ⟨.ref h'.objs.size,_,I2,rfl,q _ (I1.hok.fresh @G)⟩
 ·obtain ⟨its,r',pl,hz⟩:=I.tuple hq;exact call_tuple_same pl ⟨.ref p,H,I,rfl,q⟩
def tyV(K:PySem.W.Frag)(T:String)(x:V)(H:Hp):Prop:=match x with
 |.str _=>T = "str"
 |.int _=>T = "int"
 |.ref p=>(T = "list"/\∃ xs,SqL K H p xs)\/(T = "tuple"/\∃ o,K.lookup p=some o/\o.cls = .type "tuple"/\o.dict=none) \/
   (T = "dict"/\((∃ kvs,H p=some (.dK kvs))\/∃ kvs,H p=some @Ar))\/(T = "set"/\∃ S n,H p=some (.set S n))
 |_=>False
theorem a8s{pins:List @M}{σ:St}{H:Hp}{s:Shared}{T:String}{x:V}{v:Value}(I:Inv X pins σ H s)(r:RelV x v)(ty:tyV X.K T x H) :
  s.TypeIs v T/\∀ a,v = .ref a->∃ ob,s.heap.get? a=some ob/\ob.dict=none:=by
 cases x with
 |str z =>
  obtain ⟨t,rfl⟩:=r
  cases (show T = "str" from ty)
  exact ⟨typeIs_str s z t,λ _ e=>nomatch e⟩
 |int i =>
  obtain ⟨t,rfl⟩:=r
  cases (show T = "int" from ty)
  exact ⟨typeIs_int s i t,λ _ e=>nomatch e⟩
 |ref p =>
  cases r
  rcases ty with ⟨rfl,xs,hq⟩ | ⟨rfl,o,hk,hc,hd⟩ | ⟨rfl,hk⟩ | ⟨rfl,S,n,hk⟩
  ·obtain ⟨its,_,pl,_⟩:=I.list hq;refine ⟨pl.isList.typeIs,λ a e=>?_⟩;cases e;obtain ⟨o,n,e,c,hd,_⟩:=pl;exact ⟨o,e,hd⟩
  ·refine ⟨⟨o,I.kIn p o hk,hc⟩,λ a e=>?_⟩;cases e;exact ⟨o,I.kIn _ o hk,hd⟩
  ·have z:∃ o,s.heap.get? p=some o/\o.ExactDict:=by
    rcases hk with ⟨kvs,hk⟩ | ⟨kvs,hk⟩
    ·obtain ⟨_,_,_,_,o,_,_,e,ex,_⟩:=I.hok p _ hk;exact ⟨o,e,ex⟩
    ·obtain ⟨_,_,_,_,o,_,_,e,ex,_⟩:=I.hok p _ hk;exact ⟨o,e,ex⟩
   obtain ⟨o,e,ex⟩:=z;refine ⟨⟨o,e,ex.1⟩,λ a e2=>?_⟩;cases e2;exact ⟨o,e,ex.2.1⟩
  ·obtain ⟨o,_,_,_,e,ex,_⟩:=I.hok p _ hk;refine ⟨⟨o,e,ex.1⟩,λ a e2=>?_⟩;cases e2;exact ⟨o,e,ex.2.1⟩
 |_=>exact False.elim ty
def c2I(K:PySem.W.Frag)(T:String)(r:V->List V->Hp->VK->Prop)(to:TE):TE:=λ σ H Q=>to σ H λ x H1=>tyV K T x H1/\r x [] H1 Q
def tBM(K:PySem.W.Frag)(T:String)(r:V->List V->Hp->VK->Prop)(to:TE)(t:TA):TE:=λ σ H Q=>to σ H λ x H1=>tyV K T x H1/\t σ H1 λ xs H2=>r x xs H2 Q
variable {o e:Expr} {es:List Expr} {to:TE} {t:TA} {name:Str} {apos cpos:Pos} {T id:String} {r:V->List V->Hp->VK->Prop}
theorem a2h(pa:PlainAttrs T)(slot:Slot T name id)(hty:typeOf (.builtin id)=pure (.type "method_descriptor"))(hm:MtR X id r)(ho:PE X o to)
  (hbase:attributeBase o name X.env (eval o X.env)=eval o X.env:=by rfl) (hline:@Aq=true:=by rfl):PE X (.Call (.Attribute o name apos) [] [] cpos) (c2I X.K T r to):=by
 show J;refine wpAny_Call_method0_late hbase hline (thn (ho pins s σ H _ I h) λ v s1 zz0=>?_);obtain ⟨x,H1,I1,r1,ty,q1⟩:=zz0;obtain ⟨h1,h2⟩:=a8s I1 r1 ty;exact ⟨T,id,pa,slot,hty,h1,h2,Calls.callWith_builtin rfl (PySem.evalArgs_none (hm pins s1 σ H1 x [] v [] Q I1 r1 .nil q1))⟩
theorem c1y(pa:PlainAttrs T)(slot:Slot T name id)(hty:typeOf (.builtin id)=pure (.type "method_descriptor"))(hm:MtR X id r)(ho:PE X o to)(ha:PA X (e :: es) t)
  (hbase:attributeBase o name X.env (eval o X.env)=eval o X.env:=by rfl)
  (hfew:((backTo cpos (starEach (e :: es) X.env)).all (λ x=>!x.1) && (backToKw cpos @AK).all (λ x=>x.1.isSome)
   && decide ((e :: es).length + ([]:List Keyword).length + (if ([]:List Keyword).isEmpty then 0 else 1) < 30))=true:=by rfl)
  (hline:@Aq=true:=by rfl) (hs:starEach (e :: es) X.env=(false,eval e X.env) :: starEach es X.env:=by rfl) (hplain:(backTo cpos @Ao).any (·.1)=false:=by rfl) :
  PE X (.Call (.Attribute o name apos) (e :: es) [] cpos) (tBM X.K T r to t):=by
 show J;refine wpAny_Call_method_late hbase hfew hline rfl (thn (ho pins s σ H _ I h) λ v s1 zz0=>?_);obtain ⟨x,H1,I1,r1,ty,q1⟩:=zz0;obtain ⟨h1,h2⟩:=a8s I1 r1 ty;refine ⟨T,id,pa,slot,hty,h1,h2,?_⟩;have hA:=ha cpos pins s1 σ H1 _ I1 q1;rw [hs] at hA ⊢;refine Calls.callWith_builtin (by show (false || (backTo cpos (starEach es X.env)).any (·.1))=false;rw [hplain] <;> rfl) (Calls.evalArgs_plain ?_);exact thn hA λ us s2 ⟨vs,H2,I2,r2,q2⟩=>hm pins s2 σ H2 x vs v us Q I2 r1 r2 q2
end
end L2
namespace L2
open PySem PySem.Spec PyProof.Rows
def MtM(X:Cx)(id:String)(r:V->List V->Hp->VK->Prop):Prop :=
 ∀ (pins:List @M) (s:Shared) (σ:St) (H:Hp) (x:V) (xs:List V) (v:Value) (us:List Value) (Q:VK),Inv X pins σ H s->RelV x v->Vals xs us->r x xs H Q ->
  wpAny @C X.A (call (.builtin id) (v :: us)) @AR X.xe s
theorem Vals.one{x:V}{us:List Value}(h:Vals [x] us):∃ u,us=[u]/\RelV x u:=by
 cases h with
 |cons r t=>cases t;exact ⟨_,rfl,r⟩
theorem Vals.zero:∀ {us:List Value},Vals [] us->us=[]
 |_,.nil=>rfl
theorem Vals.dropLast{xs:List V}{us:List Value}(h:Vals xs us):Vals xs.dropLast us.dropLast:=by
 induction h with
 |nil=>exact .nil
 |cons r t ih =>
  cases t with
  |nil=>exact .nil
  |cons q t'=>exact .cons r ih
theorem Vals.rep{xs:List V}{us:List Value}(h:Vals xs us):∀ k:Nat,Vals (List.replicate k xs).flatten (List.replicate k us).flatten
 |0=>.nil
 |k + 1=>by
  rw [YY,YY,YH,YH];exact Vals.append h (Vals.rep h k)
theorem a4n{α:Type}(l:List α):l.eraseIdx (l.length - 1)=l.dropLast:=by
 induction l with
 |nil=>rfl
 |cons a r ih =>
  cases r with
  |nil=>rfl
  |cons b r =>
   have e:(a :: b :: r).length - 1=((b :: r).length - 1) + 1:=by
    have h1:(a :: b :: r).length=r.length + 2:=rfl;have h2:(b :: r).length=r.length + 1:=rfl;omega
   rw [e,List.eraseIdx_cons_succ,ih]
   all_goals rfl
theorem W9(its:List Value):∀ (k:Nat) (acc:List Value),
  List.foldl (λ x1 x2=>x1 ++ x2) acc.toArray (List.replicate k its.toArray)=(acc ++ (List.replicate k its).flatten).toArray
 |0,acc=>by simp
 |k + 1,acc=>by
  have e:acc.toArray ++ its.toArray=(acc ++ its).toArray:=by simp
  have e2:(acc ++ its) ++ (List.replicate k its).flatten=acc ++ (List.replicate (k + 1) its).flatten:=by
   rw [YY,YH,Zt]
  rw [<- e2,<- W9 its k (acc ++ its),<- e,YY,List.foldl_cons]
section
variable {X:Cx} {pins:List (Addr×Obj)} {σ:St} {H:Hp} {s:Shared} {l b:Addr} {xs ys zs:List V}
theorem Inv.lset{its its':List Value}{n:Nat}{f:Array Value->Array Value}{t':Nat}(I:Inv X pins σ H s)(hH:H l=some @X)
  (e:s.heap.get? l=some { cls:=.type "list",data:=.seq its.toArray n }) (hf:f its.toArray=its'.toArray) (hv:Vals ys its') (hz:ys.length <= sizeLine) :
  Inv X pins σ (upd H l (.lst ys)) { s with heap:=s.heap.update l (Obj.mapSeq f),toks:=t' }:=by
 have q:=PySem.IsL.update e f;rw [hf] at q;refine I.write (x:=l) (e:=l) (by rw [hH];exact trivial) @AH (λ b' u hb hu=>(Heap.get?_update_other s.heap (Obj.mapSeq f) (Ne.symm hb)).trans hu) ⟨_,q⟩ ?_;exact ⟨hz,its',_,hv,q⟩
theorem Inv.lnew{its:List Value}{t':Nat}(I:Inv X pins σ H s)(hv:Vals ys its)(hz:ys.length <= sizeLine) :
  Inv X pins σ (upd H s.heap.objs.size (.lst ys)) { s with heap:=s.heap.push { cls:=.type "list",data:=.seq its.toArray },toks:=t' } :=
 I.laid (λ _ _ q=>ZU _ q) @G ⟨hz,its,0,hv,ZI _ rfl⟩
theorem Inv.fresh(I:Inv X pins σ H s):H s.heap.objs.size=none:=I.hok.fresh @G
theorem Inv.lstM(I:Inv X pins σ H s)(hH:H l=some @X):xs.length <= sizeLine/\∃ (its:List Value) (n:Nat),Vals xs its/\xs.length=its.length/\s.heap.get? l=some { cls:=.type "list",data:=.seq its.toArray n }:=by
 obtain ⟨z,its,n,r,e⟩:=I.hok l _ hH;exact ⟨z,its,n,r,r.length,e⟩
theorem a2Z{n:Nat}(h:n <= sizeLine):Builtin.List.listTooLong n=false:=by
 unfold Builtin.List.listTooLong;exact decide_eq_false @D
end
section
variable {X:Cx}
def b4x:V->List V->Hp->VK->Prop:=λ x vs H Q=>∃ l xs y,x = .ref l/\vs=[y]/\H l=some @X/\xs.length < sizeLine/\Q .non (upd H l (.lst (xs ++ [y])))
theorem a7b:MtM X "list.append" b4x:=by
 intro pins s σ H x vs v us Q I rx rv h;obtain ⟨l,xs,y,rfl,rfl,hH,hz,q⟩:=h;cases rx;obtain ⟨u,rfl,ru⟩:=rv.one;obtain ⟨z,its,n,r,hl,e⟩:=I.lstM hH;refine call_meets F.slot_list_append ⟨_,e,rfl⟩ F.entry_list_append (F.args_list_append_2 _ _) (PySem.list_append l its.toArray n u (by rw [ZF];omega)) ⟨e,?_⟩;refine ⟨.non,_,I.lset (its':=its ++ [u]) hH e (by simp) (r.append (.cons ru .nil)) ?_,rfl,q⟩;rw [ZW,ZL];omega
def b5l:V->List V->Hp->VK->Prop:=λ x vs H Q=>∃ l b xs zs,x = .ref l/\vs=[.ref b]/\H l=some @X/\H b=some (.lst zs)/\xs.length + zs.length <= sizeLine/\Q .non (upd H l (.lst (xs ++ zs)))
theorem b9Q:MtM X "list.extend" b5l:=by
 intro pins s σ H x vs v us Q I rx rv h;obtain ⟨l,b,xs,zs,rfl,rfl,hH,hB,hz,q⟩:=h;cases rx;obtain ⟨u,rfl,ru⟩:=rv.one;cases ru;obtain ⟨z,its,n,r,hl,e⟩:=I.lstM hH;obtain ⟨z2,its2,n2,r2,hl2,e2⟩:=I.lstM hB;have hsz:its.toArray.size + its2.toArray.size <= sizeLine:=by rw [ZF,ZF];omega
 have hlong:¬ (!its.toArray.isEmpty && Builtin.List.listTooLong (its.toArray.size + its2.toArray.size))=true:=by
  rw [a2Z hsz,Bool.and_false];exact ZR
 refine call_meets F.slot_list_extend ⟨_,e,rfl⟩ F.entry_list_extend (F.args_list_extend_2 _ _)
  (AutoSeq1.list_extend_list_list_0 l its.toArray n b its2.toArray n2 hlong (by rw [ZF];omega) @D) ⟨e,e2,?_⟩
 refine ⟨.non,_,I.lset (its':=its ++ its2) hH e (by simp) (r.append r2) ?_,rfl,q⟩;rw [ZW];omega
def c2A:V->List V->Hp->VK->Prop:=λ x vs H Q=>∃ l xs y,x = .ref l/\vs=[]/\H l=some @X/\xs[xs.length - 1]?=some y/\Q y (upd H l (.lst xs.dropLast))
theorem b9s:MtM X "list.pop" c2A:=by
 intro pins s σ H x vs v us Q I rx rv h;obtain ⟨l,xs,y,rfl,rfl,hH,hy,q⟩:=h;cases rx;have hus:=rv.zero;subst hus;obtain ⟨z,its,n,r,hl,e⟩:=I.lstM hH;obtain ⟨u,hu,ru⟩:=r.get hy
 have hy':its.toArray[its.toArray.size - 1]?=some u:=by
  show its.toArray[its.length - 1]?=some u;rw [<- Array.getElem?_toList,<- hl];exact hu
 refine call_meets F.slot_list_pop ⟨_,e,rfl⟩ F.entry_list_pop (F.args_list_pop_1 _) (MeetsSeq.list_pop_last l its.toArray n u hy' (by rw [ZF];omega)) ⟨e,?_⟩;refine ⟨y,_,I.lset (its':=its.dropLast) hH e ?_ r.dropLast ?_,ru,q⟩
 ·show its.toArray.eraseIdxIfInBounds (its.toArray.size - 1)=its.dropLast.toArray;rw [ZF,List.eraseIdxIfInBounds_toArray,a4n]
 ·rw [List.length_dropLast];omega
def c2w:R2:=λ x y H Q=>∃ l b xs zs,x = .ref l/\y = .ref b/\H l=some @X/\H b=some (.lst zs)/\xs.length + zs.length <= sizeLine/\∀ p,H p=none->Q (.ref p) (upd H p (.lst (xs ++ zs)))
theorem op_cat:OpR X (binaryOp .Add) c2w:=by
 show O;obtain ⟨l,b,xs,zs,rfl,rfl,hH,hB,hz,q⟩:=h;cases rx;cases ry;obtain ⟨z,its,n,r,hl,e⟩:=I.lstM hH;obtain ⟨z2,its2,n2,r2,hl2,e2⟩:=I.lstM hB;refine PySem.P.add_list e e2 ?_ (by rw [ZF,ZF];omega);have ea:its.toArray ++ its2.toArray=(its ++ its2).toArray:=by simp
 rw [ea];exact ⟨.ref _,_,I.lnew (t':=s.toks) (r.append r2) (by rw [ZW];omega),rfl,q _ I.fresh⟩
def c2o:R2:=λ x y H Q=>∃ l k xs,x = .ref l/\y = .int k/\H l=some @X/\-(2 ^ 63) <= k/\k < 2 ^ 63/\xs.length * k.toNat <= sizeLine /\
 ∀ p,H p=none->Q (.ref p) (upd H p (.lst (List.replicate k.toNat xs).flatten))
theorem a0p{α:Type}(xs:List α)(k:Nat):(List.replicate k xs).flatten.length=k * xs.length:=by
 induction k with
 |zero=>simp
 |succ k ih=>rw [YY,YH,ZW,ih,Nat.succ_mul,Nat.add_comm]
theorem b6u:OpR X (binaryOp .Mult) c2o:=by
 show O;obtain ⟨l,k,xs,rfl,rfl,hH,h1,h2,hz,q⟩:=h;cases rx;obtain ⟨t,rfl⟩:=ry;obtain ⟨z,its,n,r,hl,e⟩:=I.lstM hH;have hlen:its.toArray.size * k.toNat <= sizeLine:=by rw [ZF,<- hl];exact hz
 have hcap:¬ its.toArray.size * k.toNat > (2 ^ 63 - 1) / 8:=by
  have:(sizeLine:Nat) <= (2 ^ 63 - 1) / 8:=by decide
  omega
 have hfit:¬ (!Builtin.List.listFitsIndex k)=true:=by
  rw [fitsIndex_both h1 h2];exact ZR
 have hlong:¬ Builtin.List.listTooLong (its.toArray.size * k.toNat)=true:=by
  rw [a2Z hlen];exact ZR
 have hnew:List.foldl (λ x1 x2=>x1 ++ x2) #[] (List.replicate (if its.toArray.isEmpty=true then 0 else k.toNat) its.toArray)=(List.replicate k.toNat its).flatten.toArray:=by
  have f0:∀ m:Nat,List.foldl (λ x1 x2=>x1 ++ x2) #[] (List.replicate m its.toArray)=(List.replicate m its).flatten.toArray:=λ m=>by
   have:=W9 its m []
   rw [Zj] at this;exact this
  rw [f0]
  cases its with
  |nil=>simp
  |cons a r'=>rw [if_neg @N]
 refine wpAny_binaryOp_repeat_ref (T:= "list") (U:= "int") @B ⟨_,e,rfl⟩ (λ s'=>typeIs_int s' k t) noFill_list_mul F.fills_int_mul F.slot_int_rmul repeat_list F.slot_int_index.lookup
  (call_meets F.slot_int_rmul (typeIs_int s k t) F.entry_int_rmul (F.args_int_rmul_2 _ _) (int___rmul___int_list k t l its.toArray n)
   ⟨e,rfl,⟨_,e,rfl⟩,call_meets F.slot_list_mul ⟨_,e,rfl⟩ F.entry_list_mul (F.args_list_mul_2 _ _) (AutoListH.list___mul___list_int_3 l its.toArray n k t hfit hcap hlong) ⟨e,?_⟩⟩)
 rw [hnew];exact ⟨.ref _,_,I.lnew (t':=s.toks) (r.rep k.toNat) (by rw [a0p,Nat.mul_comm];exact hz),rfl,q _ I.fresh⟩
end
section
variable {prog:Program} {w:World} {A:Around} {E:Value->Shared->Prop} {s:Shared}
end
section
variable {X:Cx}
end
end L2
namespace Att
open PySem PySem.W PySem.Calls PyProof.Rows
theorem Z6{P:Params}{h:Heap}:∀ (ns:List Int) (vs:List Value),WellAll P h vs (ns.map WData.int)->IntsAre vs ns:=by
 intro ns
 induction ns with
 |nil =>
  intro vs w;rw [List.map_nil] at w;cases w;exact .nil
 |cons n ns ih =>
  intro vs w;rw [Zs] at w
  cases w with
  |cons a b =>
   cases a;exact .cons _ _ (ih _ b)
theorem a7l{l:OpenLaw}{n:Nat}(hn:l.most=some n){P:Params}{h:Heap}{args:List WData}{vals:List Value}
  (hpre:l.row.toRowW.claim.pre args=true) (hwl:WellAll P h vals args) :
  ∃ a vs ns,vals=[Value.ref a]/\args=[WData.list (ns.map WData.int)]/\h.get? a=some { cls:=.type "list",data:=.seq vs.toArray }/\IntsAre vs ns/\ns.length <= n:=by
 have hsh:WShape.hasAll [] args [.list .int]=true:=(pre_splitW hpre).1;have hc:l.pre.holds [] { args:=args }=true:=(pre_splitW hpre).2;obtain ⟨d,r,rfl,h1,h2⟩:=hasAllW_cons hsh
 obtain rfl:=hasAllW_nil h2
 obtain ⟨xs,rfl,h3⟩:=hasW_list h1;obtain ⟨ns,rfl⟩:=items_int h3
 have hlen:ns.length <= n:=by
  unfold OpenLaw.pre at hc
  have h4:(WTm.not (.lt (.lit (.int (n:Int))) (.len (.arg 0)))).holds [] { args:=[.list (ns.map .int)] }=true:=by
   have h4:=(holds_andW hc).1;rw [hn] at h4;exact h4
  have h5:=condW_of h4 (w_not (w_lt w_lit (w_len_list (w_arg rfl))));rw [ZS] at h5;refine Nat.le_of_not_lt λ q=>?_;have q':(n:Int) < ((ns.length:Nat):Int):=by omega
  first
   |(rw [decide_eq_true q'] at h5;exact absurd h5 @B)
   |(simp at h5;omega)
 cases hwl with
 |cons w1 w2 =>
  cases w2
  cases w1 with
  |list ho hall=>exact ⟨_,_,ns,rfl,rfl,ho,Z6 ns _ hall,hlen⟩
theorem a6A(l:OpenLaw)(args:List WData):l.row.toRowW.claim.post args (.bool true) args=true :=
 postW_of (r:=l.row.toRowW) (X:=(true == true))
  (show WShape.has [] (.bool true) .bool=true by first | rfl | decide | simp [WShape.has,WShape.arms,WShape.armsAll])
  (show (WTm.eq .res (.lit (.bool true))).value [] { args:=args,res:=some (.bool true),after:=args }=some (.bool (true == true)) from w_eq_bool (w_res rfl) w_lit) rfl
section
variable {prog:Program} {w:World} {A:Around} {E:Value->Shared->Prop} {s:Shared} {K:Frag}
end
end Att
namespace L2
open PySem PySem.Spec PyProof.Rows
theorem a2a:∀ {vs:List Value} {ns:List Int},IntsAre vs ns->Vals (ns.map V.int) vs
 |_,_,.nil=>.nil
 |_,_,.cons n t h=>.cons ⟨t,rfl⟩ (a2a h)
def c0u(H:Hp):Prop:=∀ b,H b=none\/∃ o xs,H b=some (.frz o @X)
theorem law_call{P:Program}{w:World}{K:PySem.W.Frag}{mg mb:Str->Option Value}{CX:CXT}{k:Nat}{fa a:Addr}{fd:FuncData}{x:Str}{sp:Sp}{s₁:Shared}{vs:List Value}{ns:List Int}
  (KX:K.In s₁.heap) (hns:s₁.heap.Ns mainGlobals mg) (hb:s₁.heap.Ns builtinsNs mb) (hbb:∀ x:Str,x ≠ "__name__"->mb x=bootBuiltins x) (hlim:s₁.heap.NoLimit) (hg:s₁.gens = #[])
  (ha:s₁.heap.get? a=some { cls:=.type "list",data:=.seq vs.toArray }) (hi:IntsAre vs ns) (hl:ns.length <= sizeLine) (hr:Room k callerA)
  (F:∀ base:Heap,K.In base->base.Ns mainGlobals mg->n8 P w K mg base CX k fa fd [x] sp) (hbind:∀ (s:Shared) (u:Value),BindsTo s fd ⟨[u],[]⟩ [(x,u)])
  (hsp:∀ H:Hp,c0u H->SqL K H a (ns.map V.int)->sp [.ref a] H (λ v _=>v = .bl true) λ _ _ _=>False)
  (hCX:∀ H e s',CX [] H s₁ (λ _ _ _=>False) e s'->False) :
  codeAny (model P w) callerA (.call (.ref fa) ⟨[.ref a],[]⟩) (λ r s'=>r = .ok (.ret (.bool true))/\OldK s₁.heap s'.heap/\s'.os=s₁.os/\AllBare s'.gens) s₁:=by
 have rv:=a2a hi;have lenV:=hi.length
 have core:∀ H:Hp,c0u H->SqL K H a (ns.map V.int)->HOk P w H s₁.heap->(∀ b,H b ≠ none->b=a)->(H a ≠ none->K.lookup a=none) ->
   codeAny (model P w) callerA (.call (.ref fa) ⟨[.ref a],[]⟩) (λ r s'=>r = .ok (.ret (.bool true))/\OldK s₁.heap s'.heap/\s'.os=s₁.os/\AllBare s'.gens) s₁:=by
  intro H hO hS hok hA hK;have base_of:∀ {b:Addr} {o:Obj},s₁.heap.get? b=some o->H b=none->(a2q s₁.heap H).get? b=some o:=λ e n=>b1h e n
  have noA:∀ {b:Addr} {o:Obj} {es:Array DictEntry} {ep:Nat},s₁.heap.get? b=some o->o.data = .dict es ep->H b=none:=λ {b o es ep} e d=>by
   cases q:H b with
   |none=>rfl
   |some u =>
    have e':b=a:=hA b (by rw [q];simp);subst e';rw [ha] at e;cases e;have d':Data.seq vs.toArray _=Data.dict es ep:=d
    cases d'
  have nsK:∀ {b:Addr} {m:Str->Option Value},s₁.heap.Ns b m->(a2q s₁.heap H).Ns b m:=λ {b m} ⟨o,es,ep,e,d,r⟩=>⟨o,es,ep,base_of e (noA e d),d,r⟩
  have hKb:K.In (a2q s₁.heap H):=λ b o e=>base_of (KX b o e) (by
   cases q:H b with
   |none=>rfl
   |some u =>
    have e':b=a:=hA b (by rw [q];simp);subst e';rw [hK (by rw [q];simp)] at e;cases e)
  have hM:Mod K mg (a2q s₁.heap H):=⟨hKb,nsK hns,⟨mb,nsK hb,hbb⟩,let ⟨mc,h1,h2⟩:=hlim;⟨mc,nsK h1,h2⟩⟩
  have e0:Env0 P w K mg (a2q s₁.heap H) callerA [] s₁ H:=⟨rfl,hM,λ b o e=>b5n e,Nat.le_of_eq (a6s _ _),trivial,λ b hb=>absurd (show b ∈ ([]:List Addr) from hb) @N,hok,.of_eq hg⟩
  refine codeAny_mono ((F _ hKb (nsK hns)).run callerA [] s₁ H ⟨[.ref a],[]⟩ [.ref a] [.ref a] _ _ hr e0 (hbind s₁ @Ax) (.cons rfl .nil) (hsp H hO hS)) λ r s' h=>?_
  cases r with
  |error e=>exact (hCX H e s' h).elim
  |ok fl =>
   cases fl with
   |next=>exact False.elim h
   |brk=>exact False.elim h
   |cont=>exact False.elim h
   |ret u =>
    obtain ⟨v,H',os,bare,un,hok',r',q⟩:=h;have q':v = .bl true:=q;subst q'
    obtain rfl:u=Value.bool true:=r'
    refine ⟨rfl,OldK.of_keep λ b o e=>?_,os,bare⟩
    cases q:H b with
    |none=>exact un.keep b o e q (by intro z;exact absurd (show b ∈ ([]:List Addr) from z) @N) @N
    |some u =>
     rcases hO b with z | ⟨ob,xs,z⟩
     ·rw [q] at z;cases z
     ·have z2:=un.frzs b ob _ z;obtain ⟨e1,_⟩:=hok b _ z;obtain ⟨e2,_⟩:=hok' b _ z2;rw [e] at e1;cases e1;exact e2
 cases hk:K.lookup a with
 |some o =>
  have e:=KX a o hk;rw [ha] at e;cases e;refine core (λ _=>none) (λ _=>.inl rfl) (.inr ⟨_,vs.toArray,_,hk,rfl,rfl,rfl,by rw [ZF,lenV];exact hl,by simpa using rv⟩) (λ b u z=>by have z':(none:Option HO)=some u:=z;cases z') (λ b z=>absurd rfl z) λ z=>absurd rfl z
 |none =>
  refine core (λ b=>if b=a then some (.frz { cls:=.type "list",data:=.seq vs.toArray } (.lst (ns.map V.int))) else none) (λ b=>?_) (.inl (.inr ⟨{ cls:=.type "list",data:=.seq vs.toArray },if_pos rfl⟩)) (λ b u z=>?_) (λ b z=>?_) λ _=>hk
  ·by_cases hb:b=a
   ·exact .inr ⟨_,_,if_pos hb⟩
   ·exact .inl (if_neg hb)
  ·by_cases hb:b=a
   ·have z':=(if_pos hb).symm.trans z
    cases z'
    subst hb;exact ⟨ha,by rw [ZS];exact hl,vs,_,rv,ha⟩
   ·have z':=(if_neg hb).symm.trans z
    cases z'
  ·by_cases hb:b=a
   ·exact hb
   ·exact absurd (if_neg hb) z
end L2
namespace L2
open PySem PySem.Spec PyProof.Rows
end L2
namespace L2
open PySem PySem.Spec PyProof.Rows
def k7(s:Stmt):Arguments:=match s with
 |.FunctionDef _ a _ _ _ _ _ _ _ _=>a
 |_=>{ posonlyargs:=[],args:=[],vararg:=none,kwonlyargs:=[],kw_defaults:=[],kwarg:=none,defaults:=[] }
def j7(s:Stmt):List Stmt:=match s with
 |.FunctionDef _ _ b _ _ _ _ _ _ _=>b
 |_=>[]
def d7(s:Stmt):Scope:=match s with
 |.FunctionDef _ _ _ _ _ _ sc _ _ _=>sc
 |_=>{ kind:=.function,names:=[],isGenerator:=false,isCoroutine:=false }
abbrev CX0:CXT:=λ _ _ _ _ _ _=>False
abbrev E0:XK:=λ _ _ _=>False
theorem a3B{X:Cx}:L4 CX0 X E0:=λ _ _ _ _ _ _ _ h=>h.elim
structure Fun(K:PySem.W.Frag)(x qual:Str)(st:Stmt)(f:Addr)(fd:FuncData):Prop where
 ex:∃ (oc:Value) (od:Option Addr) (dV kV doc pm:Value) (an:Option Addr) (cdv ct:Value) (osl:Array @An),
  fd=PySem.W.fnOf x qual (k7 st) (j7 st) (d7 st) dV kV doc pm an cdv ct/\K.lookup f=some ⟨oc,od,.func fd,osl⟩/\PySem.W.codeIn K cdv qual=true
 kp:PySem.W.keepIn K (.ref f)=true
section
variable {P:Program} {w:World} {K:PySem.W.Frag} {mg:Str->Option Value} {base:Heap}
theorem Fun.ok{x qual:Str}{st:Stmt}{f:Addr}{fd:FuncData}{N ps:List Str}{k:Nat}{sp:Sp}(F:Fun K x qual st f fd)(S:i9 N ps (d7 st))(len:∀ vs H Q E,sp vs H Q E->vs.length=ps.length)
  (hbody:∀ (cdv:Value) (A:Around) (outer:List Env) (s:Shared) (H:Hp) (vs:List V) (Q:VK) (E:XK),Room k (A.deeper (envOfC qual (d7 st) s.heap.objs.size f cdv))->sp vs H Q E ->
   ∃ t,PSs (a3o CX0 P w K mg base N qual (d7 st) f cdv A outer s H E).nox (j7 st) t/\t { nx:=λ _ H'=>Q .non H',rt:=Q } (start N vs) H):n8 P w K mg base CX0 (k + 1) f fd ps sp:=by
 obtain ⟨oc,od,dV,kV,doc,pm,an,cdv,ct,osl,rfl,lk,hcd⟩:=F.ex;refine c1z lk hcd S len λ A outer s H vs Q E hr hsp=>?_;obtain ⟨t,h,q⟩:=hbody cdv A outer s H vs Q E hr hsp;exact ⟨t,h.nox,q⟩
theorem z8{x qual:Str}{st:Stmt}{f:Addr}{oc:Value}{od an:Option Addr}{osl:Array @An}{dV kV doc pm cdv ct:Value}(l:K.lookup f=some ⟨oc,od,.func (PySem.W.fnOf x qual (k7 st) (j7 st) (d7 st) dV kV doc pm an cdv ct),osl⟩)
  (c:PySem.W.codeIn K cdv qual=true) (k:PySem.W.keepIn K (.ref f)=true):Fun K x qual st f (PySem.W.fnOf x qual (k7 st) (j7 st) (d7 st) dV kV doc pm an cdv ct):=⟨⟨oc,od,dV,kV,doc,pm,an,cdv,ct,osl,rfl,l,c⟩,k⟩
end
section
variable {X:Cx}
end
theorem a0v{A B:Prop}(h:B):if false=true then A else B:=by
 rw [if_neg ZR];exact h
theorem a1r{A B:Prop}(h:A):if true=true then A else B:=by
 rw [if_pos rfl];exact h
end L2
namespace L2
open PySem PySem.Spec PyProof.Rows
theorem E3{env:Env}:∀ {names:List (Str×NameKind)} {x:Str},
  (names.map λ (n,k)=>if (k == NameKind.free && env.scope.kind == .function && env.kindOf n == some .cell) then (n,NameKind.cell) else (n,k)).lookup x
   = (names.lookup x).map λ k=>if (k == NameKind.free && env.scope.kind == .function && env.kindOf x == some .cell) then NameKind.cell else k
 |[],_=>rfl
 |(n,k) :: r,x=>by
  have ih:=@E3 env r x;show List.lookup x ((if (k == NameKind.free && env.scope.kind == .function && env.kindOf n == some .cell)=true then (n,NameKind.cell) else (n,k)) :: _)=_
  cases hx:x == n with
  |true =>
   have e:x=n:=beq_iff_eq.mp hx;subst e
   by_cases hc:(k == NameKind.free && env.scope.kind == .function && env.kindOf x == some .cell)=true
   ·rw [if_pos hc];simp only [List.lookup_cons,hx,Option.map_some];rw [if_pos hc]
   ·rw [if_neg hc];simp only [List.lookup_cons,hx,Option.map_some];rw [if_neg hc]
  |false =>
   by_cases hc:(k == NameKind.free && env.scope.kind == .function && env.kindOf n == some .cell)=true
   ·rw [if_pos hc];simp only [List.lookup_cons,hx];exact ih
   ·rw [if_neg hc];simp only [List.lookup_cons,hx];exact ih
theorem a2Y{scope:Scope}{env:Env}{x:Str}(h:scope.names.lookup x=some .free):(relabel scope env).names.lookup x=some .cell\/(relabel scope env).names.lookup x=some .free:=by
 have e:(relabel scope env).names.lookup x=_:=E3 (env:=env) (names:=scope.names) (x:=x);rw [e,h,Option.map_some];split
 ·exact .inl rfl
 ·exact .inr rfl
theorem a2T{scope:Scope}{env:Env}{x:Str}(h:(relabel scope env).names.lookup x=some .cell\/(relabel scope env).names.lookup x=some .free):scope.names.lookup x=some .cell\/scope.names.lookup x=some .free:=by
 have e:(relabel scope env).names.lookup x=_:=E3 (env:=env) (names:=scope.names) (x:=x);rw [e] at h
 cases q:scope.names.lookup x with
 |none=>rw [q] at h;simp at h
 |some k =>
  rw [q,Option.map_some] at h
  by_cases hc:(k == NameKind.free && env.scope.kind == .function && env.kindOf x == some .cell)=true
  ·have:(k == NameKind.free)=true:=by
    rw [ZC,ZC] at hc;exact hc.1.1
   have:k = .free:=by simpa using this
   subst this;exact .inr rfl
  ·rw [if_neg hc] at h
   rcases h with h | h
   ·exact .inl h
   ·exact .inr h
def y4(cells:List (Str×Addr)):List (Str×NameKind)->List (Str×Addr)->List (Str×Addr)
 |[],acc=>acc
 |(n,k) :: r,acc=>if k == .free then y4 cells r ((n,(cells.lookup n).getD 0) :: acc) else y4 cells r acc
theorem O6{scope:Scope}{env:Env}(h:∀ n,(n,NameKind.free) ∈ scope.names->(env.cells.lookup n).isSome=true):closureFor scope env=pure (y4 env.cells scope.names []):=by
 have all:∀ (names:List (Str×NameKind)) (acc:List (Str×Addr)),(∀ n,(n,NameKind.free) ∈ names->(env.cells.lookup n).isSome=true) ->
   (forIn names acc λ x cs=>(if x.2 == NameKind.free then do let c <- cellOf env x.1;pure (ForInStep.yield ((x.1,c) :: cs)) else pure (ForInStep.yield cs):Sem (ForInStep (List (Str×Addr)))))=pure (y4 env.cells names acc):=by
  intro names
  induction names with
  |nil=>intro acc _;rfl
  |cons p r ih =>
   intro acc hp;obtain ⟨n,k⟩:=p;rw [List.forIn_cons]
   by_cases hk:(k == NameKind.free)=true
   ·have ek:k = .free:=by simpa using hk
    obtain ⟨c,hc⟩:=Za.mp (hp n (by rw [ek];exact ZO));have e1:cellOf env n=pure c:=by unfold cellOf;rw [hc]
    dsimp only;rw [if_pos hk,e1]
    have e2:y4 env.cells ((n,k) :: r) acc=y4 env.cells r ((n,c) :: acc):=by
     show (if k == .free then _ else _)=_;rw [if_pos hk,hc];rfl
    rw [e2,<- ih ((n,c) :: acc) λ m hm=>hp m (ZM _ hm)];rfl
   ·dsimp only;rw [if_neg hk]
    have e2:y4 env.cells ((n,k) :: r) acc=y4 env.cells r acc:=by
     show (if k == .free then _ else _)=_;rw [if_neg hk]
    rw [e2,<- ih acc λ m hm=>hp m (ZM _ hm)];rfl
 have q:=all scope.names [] h;unfold closureFor;show ((forIn scope.names [] λ x cs=>(if x.2 == NameKind.free then do let c <- cellOf env x.1;pure (ForInStep.yield ((x.1,c) :: cs)) else pure (ForInStep.yield cs):Sem (ForInStep (List (Str×Addr))))) >>= λ cs=>pure cs)=_;rw [q];rfl
theorem W5{cells:List (Str×Addr)}:∀ {names:List (Str×NameKind)} {acc:List (Str×Addr)} {n:Str} {c:Addr},(n,c) ∈ y4 cells names acc->(n,c) ∈ acc\/((n,NameKind.free) ∈ names/\(cells.lookup n).getD 0=c)
 |[],_,_,_,h=>.inl h
 |(m,k) :: r,acc,n,c,h=>by
  have h:(n,c) ∈ (if k == .free then y4 cells r ((m,(cells.lookup m).getD 0) :: acc) else y4 cells r acc):=h
  by_cases hk:(k == NameKind.free)=true
  ·rw [if_pos hk] at h;have ek:k = .free:=by simpa using hk
   rcases W5 h with q | ⟨q1,q2⟩
   ·rcases List.mem_cons.mp q with q | q
    ·cases q;exact .inr ⟨by rw [ek];exact ZO,rfl⟩
    ·exact .inl q
   ·exact .inr ⟨List.mem_cons_of_mem _ q1,q2⟩
  ·rw [if_neg hk] at h
   rcases W5 h with q | ⟨q1,q2⟩
   ·exact .inl q
   ·exact .inr ⟨List.mem_cons_of_mem _ q1,q2⟩
theorem W2{cells:List (Str×Addr)}:∀ {names:List (Str×NameKind)} {acc:List (Str×Addr)} {n:Str},((n,NameKind.free) ∈ names\/∃ c,(n,c) ∈ acc)->∃ c,(n,c) ∈ y4 cells names acc
 |[],_,_,h=>h.elim (λ z=>nomatch z) id
 |(m,k) :: r,acc,n,h=>by
  show ∃ c,(n,c) ∈ (if k == .free then y4 cells r ((m,(cells.lookup m).getD 0) :: acc) else y4 cells r acc)
  by_cases hk:(k == NameKind.free)=true
  ·rw [if_pos hk];refine W2 ?_
   rcases h with h | ⟨c,h⟩
   ·rcases List.mem_cons.mp h with h | h
    ·cases h;exact .inr ⟨_,ZO⟩
    ·exact .inl h
   ·exact .inr ⟨c,ZM _ h⟩
  ·rw [if_neg hk];refine W2 ?_
   rcases h with h | ⟨c,h⟩
   ·rcases List.mem_cons.mp h with h | h
    ·cases h;exact absurd rfl hk
    ·exact .inl h
   ·exact .inr ⟨c,h⟩
theorem F2{α:Type}{n:Str}{c:α}:∀ {l:List (Str×α)},(n,c) ∈ l->(∀ d,(n,d) ∈ l->d=c)->l.lookup n=some c
 |[],h,_=>nomatch h
 |(m,d) :: r,h,all=>by
  rw [List.lookup_cons]
  cases hb:n == m with
  |true =>
   have e:n=m:=beq_iff_eq.mp hb;subst e;rw [all d ZO]
  |false =>
   rcases List.mem_cons.mp h with q | q
   ·cases q;simp at hb
   ·exact F2 q λ d' hd=>all d' (ZM _ hd)
theorem r9:∀ (names:List (Str×NameKind)) (n:Nat) (acc:List (Str×Addr)),cellsFrom n names acc=cellsFrom n names [] ++ acc
 |[],_,_=>rfl
 |(x,k) :: r,n,acc=>by
  unfold cellsFrom;split
  ·rw [r9 r (n + 1) ((x,n) :: acc),r9 r (n + 1) [(x,n)],Zt];rfl
  ·exact r9 r n acc
theorem D5:∀ {names:List (Str×NameKind)} {n:Nat} {x:Str} {c:Addr},(x,c) ∈ cellsFrom n names []->(x,NameKind.cell) ∈ names
 |[],_,_,_,h=>nomatch h
 |(y,k) :: r,n,x,c,h=>by
  unfold cellsFrom at h
  split at h
  ·rename_i hk;have ek:k = .cell:=by simpa using hk
   rw [r9] at h
   rcases List.mem_append.mp h with q | q
   ·exact ZM _ (D5 q)
   ·cases List.mem_singleton.mp q
    rw [ek];exact ZO
  ·exact ZM _ (D5 h)
theorem T8{α:Type}{n:Str}{c d:α}:∀ {l:List (Str×α)},(l.map (·.1)).Nodup->l.lookup n=some c->(n,d) ∈ l->d=c
 |[],_,_,h=>nomatch h
 |(m,e) :: r,hn,hl,hm=>by
  have hn:(m :: r.map (·.1)).Nodup:=hn;obtain ⟨h1,h2⟩:=Zc.mp hn;rw [List.lookup_cons] at hl
  cases hb:n == m with
  |true =>
   rw [hb] at hl;have e1:n=m:=beq_iff_eq.mp hb;subst e1
   rcases List.mem_cons.mp hm with q | q
   ·cases q;cases hl;rfl
   ·exact absurd (ZG.mpr ⟨(n,d),q,rfl⟩) h1
  |false =>
   rw [hb] at hl
   rcases List.mem_cons.mp hm with q | q
   ·cases q;simp at hb
   ·exact T8 h2 hl q
def o8(X:Cx)(N':List Str)(scope:Scope)(s:Shared)(H:Hp)(fp:List Addr):Cx :=
 { X with N:=N',s₀:=s,H₀:=H,env:=compEnvC scope (cellsFrom @J scope.names @AN) s.heap.objs.size X.env,outer:=X.stack,ex:=fp,fn:=λ x=>scope.names.lookup x == some .cell,pn:=[],xe:=λ _ _=>False }
def M5(js:List (Option Nat))(σ:St):St:=js.map λ j=>match j with
 |some j=>(σ[j]?).getD none
 |none=>none
def frB(X:Cx)(scope:Scope):Bool:=scope.names.all λ p=>p.2 != .free || X.env.kindOf p.1 == some .cell || X.env.kindOf p.1 == some .free
def atB(X:Cx)(N':List Str)(js:List (Option Nat))(scope:Scope):Bool:=(js.zip N').all λ p=>match p.1 with
 |none=>true
 |some j=>X.N[j]? == some p.2 && scope.names.lookup p.2 == some .free
structure CompOk(X:Cx)(N':List Str)(js:List (Option Nat))(scope:Scope):Prop where
 kind:scope.kind = .function
 nd:(scope.names.map (·.1)).Nodup
 frb:frB X scope=true
 len:js.length=N'.length
 atb:atB X N' js scope=true
theorem CompOk.fr{X:Cx}{N':List Str}{js:List (Option Nat)}{scope:Scope}(C:CompOk X N' js scope):∀ n,(n,NameKind.free) ∈ scope.names->X.env.kindOf n=some .cell\/X.env.kindOf n=some .free:=λ n hn=>by
 have h:=List.all_eq_true.mp C.frb (n,.free) hn;simp only [Bool.or_eq_true,bne_iff_ne,ne_eq,not_true_eq_false,false_or,beq_iff_eq] at h;exact h
theorem CompOk.at_{X:Cx}{N':List Str}{js:List (Option Nat)}{scope:Scope}(C:CompOk X N' js scope):∀ (i j:Nat),js[i]?=some (some j)->∃ x,N'[i]?=some x/\X.N[j]?=some x/\scope.names.lookup x=some .free:=λ i j hj=>by
 have hi:i < js.length:=(ZY.mp hj).1;have hi':i < N'.length:=by rw [<- C.len];exact hi
 have hz:(js.zip N')[i]?=some (some j,N'[i]):=by
  rw [List.getElem?_zip_eq_some];exact ⟨hj,by simp [hi']⟩
 have h:=List.all_eq_true.mp C.atb _ (ZT hz);simp only [Bool.and_eq_true,beq_iff_eq] at h;exact ⟨N'[i],by simp [hi'],h.1,h.2⟩
section
variable {X:Cx} {pins:List (Addr×Obj)} {σ:St} {H:Hp} {s:Shared} {N':List Str} {js:List (Option Nat)} {scope:Scope} {fp:List Addr}
theorem a4p(I:Inv X pins σ H s)(C:CompOk X N' js scope)(hf:∀ b ∈ fp,B7 X pins H b)(ho:∀ b ∈ fp,∃ o,s.heap.get? b=some o) :
  Inv (o8 X N' scope s H fp) [] (M5 js σ) H { s with heap:=pushCells @AZ scope.names }:=by
 have keep:∀ b o,s.heap.get? b=some o->(pushCells @AZ scope.names).get? b=some o:=λ b o e=>pushCells_keeps _ _ b o (ZU _ e);have new:=cellsFrom_ok scope.names @AZ @J [] ⟨λ _ _ hm=>(nomatch hm),List.Pairwise.nil⟩ (by rw [YS];exact ZV _);rw [YS] at new
 have old:∀ n c,(n,c) ∈ y4 X.env.cells scope.names []->X.env.cells.lookup n=some c:=λ n c h=>by
  rcases W5 h with q | ⟨q1,q2⟩
  ·exact nomatch q
  ·obtain ⟨d,hd⟩:=I.ok.has n (C.fr n q1);rw [hd] at q2;rw [hd];exact congrArg some q2
 have oldlt:∀ n c,X.env.cells.lookup n=some c->c < s.heap.objs.size:=λ n c h=>by
  obtain ⟨v,q⟩:=I.cell n c h;exact q.lt
 have mem:∀ n c,(o8 X N' scope s H fp).env.cells.lookup n=some c->(n,c) ∈ cellsFrom @J scope.names []\/X.env.cells.lookup n=some c:=λ n c h=>by
  have h:(cellsFrom @J scope.names @AN).lookup n=some c:=h;rw [r9] at h
  rcases List.mem_append.mp (PySem.mem_of_lookup h) with q | q
  ·exact .inl q
  ·exact .inr (old n c q)
 have lt:∀ b ∈ fp,b < s.heap.objs.size:=λ b hb=>let ⟨_,e⟩:=ho b hb;ZE e
 have fre:∀ x c,scope.names.lookup x=some .free->X.env.cells.lookup x=some c->(o8 X N' scope s H fp).env.cells.lookup x=some c:=λ x c hx hc=>by
  show (cellsFrom @J scope.names @AN).lookup x=some c;have hm:=Zk hx;obtain ⟨d,hd⟩:=W2 (cells:=X.env.cells) (acc:=[]) (.inl hm);have ed:∀ d',(x,d') ∈ y4 X.env.cells scope.names []->d'=c:=λ d' h'=>Option.some.inj ((old x d' h').symm.trans hc);refine F2 ?_ λ d' h'=>?_
  ·rw [r9,<- ed d hd];exact ZJ _ hd
  ·rw [r9] at h'
   rcases List.mem_append.mp h' with q | q
   ·exact absurd (T8 C.nd hx (D5 q)) @B
   ·exact ed d' q
 refine ⟨⟨I.ok.mod,C.kind,I.ok.glob,I.ok.blt,ZV _,λ x y c h1 h2=>?_,λ x hx=>?_,λ x c hx h=>?_,I.ok.hd,I.ok.frames,.inl rfl,λ b hb=>⟨Nat.ne_of_lt (lt b hb),λ x c h z=>?_⟩,λ b o e=>I.bs b o e,Zu I.ok.bsz I.sz,λ b o e hb=>?_,λ b hb z=>?_,I.stack,I.stkFree⟩,
  rfl,I.bare,Un.kept keep,⟨_,(Heap.Ns.new s.heap (.type "dict")).keeps (pushCells_keeps _ _),λ i x v h1 h2 h3=>?_⟩,λ x c h=>?_,I.hok.fresh @G,λ x c h=>?_,λ p hp=>absurd (show p ∈ ([]:List @M) from hp) @N,I.hok.kept keep,?_⟩
 ·rcases mem x c h1 with p1 | p1 <;> rcases mem y c h2 with p2 | p2
  ·exact name_of_addr new.apart p1 p2
  ·exact absurd (ZD (oldlt y c p2) (Zu (YK _) (new.empty x c p1).2)) (Ze _)
  ·exact absurd (ZD (oldlt x c p1) (Zu (YK _) (new.empty y c p2).2)) (Ze _)
  ·exact I.ok.inj x y c p1 p2
 ·rcases a2T (scope:=scope) (env:=X.env) hx with q | q
  ·exact Za.mp (PySem.W.cellsFrom_some scope.names _ _ (.inl q))
  ·obtain ⟨c,hc⟩:=I.ok.has x (C.fr x (Zk q));exact ⟨c,fre x c q hc⟩
 ·have hx:scope.names.lookup x=some .cell:=by simpa [o8] using hx
  rcases mem x c h with q | q
  ·exact Zu (YK _) (new.empty x c q).2
  ·
   have e:(cellsFrom @J scope.names @AN).lookup x=some c:=h;rw [r9,List.lookup_append] at e;obtain ⟨d,hd⟩:=Za.mp (PySem.W.cellsFrom_some scope.names @J [] (.inl hx));rw [hd] at e;cases e;exact Zu (YK _) (new.empty x _ (Zk hd)).2
 ·rcases mem x c h with q | q
  ·have:=(new.empty x c q).2
   rw [z] at this;exact absurd (ZD (lt b hb) (Zu (YK _) this)) (Ze _)
  ·exact (hf b hb).2.2.2.2.1 x c q z
 ·obtain ⟨_,_,_,h1,_⟩:=hf b hb
  rcases h1 with h1 | h1
  ·exact I.ok.noex b o e h1
  ·exact absurd (ZD (ZE (I.ok.bs b o e).1) h1) (Ze _)
 ·obtain ⟨_,h1,h2,_⟩:=hf b hb;exact (List.mem_cons.mp (I.stkSub b z)).elim h1 h2
 ·
  obtain ⟨j,hj,hv⟩:∃ j,js[i]?=some (some j)/\(σ[j]?).getD none=some v:=by
   have h2:(js.map λ j=>match j with | some j=>(σ[j]?).getD none | none=>none)[i]?=some (some v):=h2;rw [ZP] at h2
   cases e:js[i]? with
   |none=>rw [e] at h2;cases h2
   |some o =>
    rw [e] at h2
    cases o with
    |none=>cases h2
    |some j=>exact ⟨j,rfl,Option.some.inj h2⟩
  obtain ⟨y,e1,e2,e3⟩:=C.at_ i j hj;have exy:y=x:=Option.some.inj (e1.symm.trans (show N'[i]?=some x from h1));rw [exy] at e2 e3
  have hs:σ[j]?=some (some v):=by
   cases e:σ[j]? with
   |none=>rw [e] at hv;cases hv
   |some o=>rw [e] at hv;exact congrArg some hv
  have kx:=C.fr x (Zk e3);obtain ⟨m,hn,hl⟩:=I.loc;obtain ⟨u,r,l⟩:=hl j x v e2 hs (kx.elim (λ z=>.inr (.inl z)) λ z=>.inr (.inr z));refine ⟨u,r,.inr ⟨a2Y e3,?_⟩⟩
  rcases l with ⟨k,_⟩ | ⟨_,c,hc,hcell⟩
  ·rcases kx with z | z
   ·rw [z] at k;cases k
   ·rw [z] at k;cases k
  ·exact ⟨c,fre x c e3 hc,hcell.keeps keep⟩
 ·rcases mem x c h with q | q
  ·exact ⟨none,(new.empty x c q).1⟩
  ·obtain ⟨v,z⟩:=I.cell x c q;exact ⟨v,z.keeps keep⟩
 ·rcases mem x c h with q | q
  ·exact I.hok.fresh (Zu (YK _) (new.empty x c q).2)
  ·exact I.freeC x c q
 ·show (M5 js σ).length=N'.length;unfold M5;rw [ZS,C.len]
theorem a8B{M:Model}{A:Around}{E:Value->Shared->Prop}{env:Env}{cl:List (Str×Addr)}{Q:Env->Shared->Prop}
  (h:Q (newEnv scope s.heap.objs.size env.globals (cellsFrom @J scope.names cl) env.qual none .none (some env) builtinsNs) { s with heap:=pushCells @AZ scope.names }) :
  wpAny M A (newFunctionEnv scope env.globals cl [] env.qual none .none (some env)) Q E s:=by
 simp only [newFunctionEnv,Option.isSome_some,if_true];refine wpAny_bind (wpAny_alloc ?_);refine wpAny_bind (wpAny_layCells _ (λ name kind cells=>by cases hkc:kind == NameKind.cell <;> simp [hkc]) _ _ _ _ ?_);rw [show ({ s with heap:=s.heap.push { cls:=.type "dict",data:=.dict #[] } }:Shared).heap.objs.size=s.heap.objs.size + 1 from YS ..];simp only [List.forIn_nil];exact wpAny_bind (wpAny_pure (wpAny_pure h))
def PF(X:Cx)(ifs:List Expr)(t:TT):Prop :=
 ∀ (pins:List @M) (s:Shared) (σ:St) (H:Hp) (Q:Bool->Hp->Prop),Inv X pins σ H s->t σ H Q ->
  wpAny @C X.A (forIn ifs true λ c r=>if r=true then do let ok <- isTrue c X.env (eval c X.env);pure (ForInStep.yield ok) else pure (ForInStep.yield r)) (TP X pins σ Q) X.xe s
def c1I:TT:=λ _ H Q=>Q true H
theorem b8I:PF X [] c1I:=λ _ _ _ H _ I h=>wpAny_tests_nil ⟨H,I,h⟩
theorem b7H{c:Expr}{t:TT}(h:PT X c t):PF X [c] t:=λ pins s σ H Q I q=>wpAny_tests_one (h pins s σ H Q I q)
theorem a2F{prog:Program}{w:World}{A:Around}{R:Result->Shared->Prop}{s:Shared}{elt target iter:Expr}{ifs:List Expr}{scope:Scope}{pos:Pos}{it acc:Value}{env:Env}(I:Nat->Shared->Prop)
  (turn:∀ n s,I n s->wpAny @I A (pyNext it) (λ r s₁=>match r with
   |none=>R (.ok .next) s₁
   |some v=>wpAny @I A (letOwnedTupleGo target it v) (λ _ s₀=>wpAny @I A (assign target env v) (λ _ s₂ =>
     wpAny @I A (forIn ifs true λ c r=>if r=true then do let ok <- isTrue c env (eval c env);pure (ForInStep.yield ok) else pure (ForInStep.yield r)) (λ ok s₃ =>
      if ok=true then wpAny @I A (eval elt env) (λ x s₄ =>
       wpAny @I A (call (.builtin "list.append") [acc,x]) (λ _ s₅=>∃ m,m < n/\I m s₅) (notedBy @I A env λ e s'=>R (.error e) s') s₄) (notedBy @I A env λ e s'=>R (.error e) s') s₃
      else ∃ m,m < n/\I m s₃) (notedBy @I A env λ e s'=>R (.error e) s') s₂) (notedBy @I A env λ e s'=>R (.error e) s') s₀) (notedBy @I A env λ e s'=>R (.error e) s') s₁) (notedBy @I A env λ e s'=>R (.error e) s') s)
  (n:Nat) (h:I n s):codeAny @I A (.compLoop (.ListComp elt [⟨target,iter,ifs,0⟩] scope pos) 0 it acc env) R s:=by
 refine codeAny_loop rfl I (λ n s hI=>?_) n h;show wpAny _ A ((compTurn (.ListComp elt [⟨target,iter,ifs,0⟩] scope pos) 0 it acc env).onRaise (λ x=>do noteFrame x env;theTreesLotGoes x)) _ _ s;refine wpAny_noted ?_;rw [compTurn_list];refine wpAny_bind (wpAny_standAt (wpAny_bind (wpAny_mono (turn n s hI) (λ r s₁ h₁=>?_) λ _ _ h'=>h')))
 cases r with
 |none=>exact wpAny_pure h₁
 |some v =>
  refine wpAny_bind (wpAny_mono h₁ (λ _ s₀ h₀=>?_) λ _ _ h'=>h');refine wpAny_bind (wpAny_mono h₀ (λ _ s₂ h₂=>wpAny_bind (wpAny_mono h₂ (λ ok s₃ h₃=>?_) λ _ _ h'=>h')) λ _ _ h'=>h')
  cases ok with
  |false=>exact wpAny_pure ⟨rfl,h₃⟩
  |true =>
   exact wpAny_bind (wpAny_bind (wpAny_mono h₃ (λ x s₄ h₄=>wpAny_bind (wpAny_mono h₄ (λ _ s₅ h₅=>wpAny_pure (wpAny_pure ⟨rfl,h₅⟩)) λ _ _ h'=>h')) λ _ _ h'=>h'))
def a7G(J:It)(g:TG)(tf:TT)(te:TE)(D:Addr)(σ0:St)(H1:Hp)(Q:Hp->Prop):Prop :=
 ∃ W:Nat->Nat->St->Hp->Prop,(∃ m,W 0 m σ0 (upd H1 D (.lst [])))/\∀ i m σ H,W i m σ H ->
  (J.stop i H/\Q H)\/(J.go i H/\∀ x H2,J.yld i H x H2->g x σ H2 λ σ2 H3=>tf σ2 H3 λ b H4 =>
   if b=true then te σ2 H4 λ y H5=>∃ zs,H5 D=some (.lst zs)/\zs.length < sizeLine/\∃ m',m' < m/\W (i + 1) m' σ2 (upd H5 D (.lst (zs ++ [y])))
   else ∃ m',m' < m/\W (i + 1) m' σ2 H4)
def b0m(js:List (Option Nat))(wi:TI)(g:Shared->Hp->List Addr->TG)(tf:Shared->Hp->List Addr->TT)(te:Shared->Hp->List Addr->TE):TE:=λ σ H Q=>wi σ H λ J H1=>∀ (D:Addr),H1 D=none->∀ (s0:Shared) (H0:Hp) (fp:List Addr),a7G J (g s0 H0 fp) (tf s0 H0 fp) (te s0 H0 fp) D (M5 js σ) H1 λ H'=>Q (.ref D) H'
theorem a3c{tg iter elt:Expr}{ifs:List Expr}{pos:Pos}{J:It}{it:Addr}{tn:Nat->Heap->Prop}{g:Shared->Hp->TG}{tf:Shared->Hp->TT}{te:Shared->Hp->TE}{E:Value->Shared->Prop}{RR:Value->Addr->Result->Shared->Prop}{Q:Addr->Hp->Prop}
  (hc:X.calm=true) (C:CompOk X N' js scope) (I:Inv X pins σ H s) (T:a2z X.prog X.w X.K tg J fp it tn) (st:tn 0 s.heap) (hf:∀ b ∈ fp,B7 X pins H b)
  (body:∀ (s0:Shared) (H0:Hp),PG @Ai tg (g s0 H0)/\PF @Ai ifs (tf s0 H0)/\PE @Ai elt (te s0 H0))
  (h:∀ D,H D=none->∀ (s0:Shared) (H0:Hp),a7G J (g s0 H0) (tf s0 H0) (te s0 H0) D (M5 js σ) H (Q D))
  (hRR:∀ (D C:Addr) (H':Hp) (s':Shared) (m:Str->Option Value),s'.heap.Ns C m->s.heap.objs.size <= C->(∀ p ∈ X.pn ++ pins,p.1 ≠ C)->H' C=none->C ≠ X.env.locals->(∀ x c,X.env.cells.lookup x=some c->c ≠ C)->(X.s₀.heap.objs.size <= C)->Inv X pins σ H' s'->Q D H'->RR (.ref D) C (.ok .next) s') :
  wpAny @C X.A (newList []) (λ acc s₃=>wpAny @C X.A (newFunctionEnv scope X.env.globals @AN [] X.env.qual none .none (some X.env)) (λ cenv s₄ =>
   codeAny @C X.A (.compStart @AL 0 @AC acc { cenv with scope:=relabel scope X.env }) (RR acc cenv.locals) s₄) E s₃) E s:=by
 have hfr:H s.heap.objs.size=none:=I.hok.fresh @G
 have I1:Inv X pins σ @Z { s with heap:=s.heap.push { cls:=.type "list",dict:=none,data:=.seq ([]:List Value).toArray } } :=
  I.laid (t':=s.toks) (λ b u e=>ZU _ e) @G ⟨Nat.zero_le _,[],_,.nil,ZI _ rfl⟩
 refine wpAny_newObj_type (a8B ?_);have st1:tn 0 (s.heap.push { cls:=.type "list",dict:=none,data:=.seq ([]:List Value).toArray }):=T.keep _ _ _ st λ b hb o e=>ZU _ e;have lt:∀ b ∈ fp,b < s.heap.objs.size:=λ b hb=>let ⟨_,e,_⟩:=T.obj _ _ st b hb;ZE e
 have hf1:∀ b ∈ fp,B7 X pins @Z b:=λ b hb=>⟨by rw [k9 (Zp (lt b hb))];exact (hf b hb).1,(hf b hb).2⟩
 have I2:=a4p (fp:=fp) I1 C hf1 (λ b hb=>let ⟨o,e,_⟩:=T.obj _ _ st1 b hb;⟨o,e⟩);have st2:tn 0 (pushCells ((s.heap.push { cls:=.type "list",dict:=none,data:=.seq ([]:List Value).toArray }).push { cls:=.type "dict",data:=.dict #[] }) scope.names):=T.keep _ _ _ st1 λ b hb o e=>pushCells_keeps _ _ b o (ZU _ e);obtain ⟨W,⟨m0,w0⟩,turn⟩:=h _ hfr { s with heap:=s.heap.push { cls:=.type "list",dict:=none,data:=.seq ([]:List Value).toArray } } @Z;obtain ⟨bg,bf,be⟩:=body { s with heap:=s.heap.push { cls:=.type "list",dict:=none,data:=.seq ([]:List Value).toArray } } @Z;generalize hs1:({ s with heap:=s.heap.push { cls:=.type "list",dict:=none,data:=.seq ([]:List Value).toArray } }:Shared)=s1 at I1 I2 st2 bg bf be turn ⊢;have es1:s1.heap=s.heap.push { cls:=.type "list",dict:=none,data:=.seq ([]:List Value).toArray }:=by rw [<- hs1]
 have sz1:s1.heap.objs.size=s.heap.objs.size + 1:=by rw [es1,YS]
 rw [<- es1] at st2
 have stat:∀ {H':Hp},(∀ b ∈ fp,H' b=none)->∀ b ∈ fp,B7 (o8 X N' scope s1 @Z fp) [] H' b:=λ hn b hb=>by
  refine ⟨hn b hb,(I2.ok.exf b hb).1,?_,.inl hb,(I2.ok.exf b hb).2,λ p hp=>absurd (show p ∈ ([]:List @M) from hp) (by simp)⟩;exact I2.ok.exfs b hb
 have outE:∀ {α:Type} {t:Sem α} {QQ:α->Shared->Prop} {E':Value->Shared->Prop} {s':Shared},wpAny @C X.A t QQ (λ _ _=>False) s'->wpAny @C X.A t QQ E' s':=λ q=>wpAny_mono q (λ _ _ z=>z) λ _ _ z=>z.elim
 have loop:∀ s2:Shared,s2={ s1 with heap:=pushCells (s1.heap.push { cls:=.type "dict",data:=.dict #[] }) scope.names } ->
   codeAny @C X.A (.compLoop @AL 0 @AC @Aj (o8 X N' scope s1 @Z fp).env) (RR @Aj s1.heap.objs.size) s2:=by
  rintro s2 rfl
  refine a2F (λ n s'=>∃ i σ' H',Inv (o8 X N' scope s1 @Z fp) [] σ' H' s'/\tn i s'.heap/\(∀ b ∈ fp,H' b=none)/\W i n σ' H') ?_ m0 ⟨0,_,_,I2,st2,λ b hb=>(hf1 b hb).1,w0⟩
  rintro n s3 ⟨i,σ3,H3,I3,st3,fr3,w3⟩
  rcases turn i n σ3 H3 w3 with ⟨stop,q⟩ | ⟨go,step⟩
  ·refine outE (thn (T.done (o8 X N' scope s1 @Z fp) rfl rfl rfl hc i [] s3 σ3 H3 (λ _ _=>False) I3 (stat fr3) st3 stop) λ r s4 zz0=>?_);obtain ⟨hr,I4⟩:=zz0;subst hr;have u4:Un (frs X.stack) fp @Z H3 s1.heap s4.heap:=I4.base
   have IX:Inv X pins σ H3 s4:=I1.call' I4.os u4 I4.hok I4.bare λ b hb=>by
    obtain ⟨_,f1,_,f3,f4,f5⟩:=hf1 b hb;exact ⟨f3,f1,f4,f5⟩
   obtain ⟨m,hn,_⟩:=I4.loc;have cle:s.heap.objs.size <= s1.heap.objs.size:=by rw [sz1];exact YK _
   have clt:∀ b,b < s1.heap.objs.size->b ≠ s1.heap.objs.size:=λ b hb=>Zp hb;refine hRR _ s1.heap.objs.size H3 s4 m hn cle (λ p hp=>clt _ (ZE (I1.pin p hp).1)) I4.free (Ne.symm (clt _ I1.lt)) (λ x c e=>?_) (Zu I.sz cle) IX q;obtain ⟨v,z⟩:=I1.cell x c e;exact clt _ z.lt
  ·refine outE (thn (T.item (o8 X N' scope s1 @Z fp) rfl rfl rfl hc i [] s3 σ3 H3 (λ _ _=>False) I3 (stat fr3) st3 go) λ r s4 zz0=>?_);obtain ⟨u,hr,h4⟩:=zz0;subst hr;refine outE (thn h4 λ _ s5 zz0=>?_);obtain ⟨x,H5,I5,r5,y5,st5,fr5⟩:=zz0;have I5':=I5.pinned (stat fr5) (T.obj _ _ st5);refine outE (thn (bg _ s5 σ3 H5 x u _ I5' r5 (step x H5 y5)) λ _ s6 zz0=>?_);obtain ⟨σ6,H6,I6,q6⟩:=zz0;refine outE (thn (bf _ s6 σ6 H6 _ I6 q6) λ ok s7 zz0=>?_);obtain ⟨H7,I7,q7⟩:=zz0
   have again:∀ {s8:Shared} {σ8:St} {H8:Hp} {m':Nat},Inv (o8 X N' scope s1 @Z fp) ([] ++ U5 fp s5.heap) σ8 H8 s8->m' < n->W (i + 1) m' σ8 H8 ->
     ∃ m,m < n/\∃ i σ' H',Inv (o8 X N' scope s1 @Z fp) [] σ' H' s8/\tn i s8.heap/\(∀ b ∈ fp,H' b=none)/\W i m σ' H':=λ {s8 σ8 H8 m'} I8 hm w8=>by
    refine ⟨m',hm,i + 1,σ8,H8,I8.unpinned,T.keep _ _ _ st5 λ b hb o e=>(I8.pin (b,o) (ZJ _ (ZJ _ (J4 hb e)))).1,λ b hb=>?_,w8⟩;obtain ⟨o,e,d⟩:=T.obj _ _ st5 b hb;exact (I8.pin (b,o) (ZJ _ (ZJ _ (J4 hb e)))).2.1
   cases ok with
   |false =>
    rw [if_neg ZR] at q7 ⊢;obtain ⟨m',hm,w8⟩:=q7;exact again I7 hm w8
   |true =>
    rw [if_pos rfl] at q7 ⊢;refine outE (thn (be _ s7 σ6 H7 _ I7 q7) λ y s8 zz0=>?_);obtain ⟨v,H8,I8,r8,zs,hz,hlen,m',hm,w8⟩:=zz0;obtain ⟨hzl,its,k,rv,e8⟩:=I8.hok _ _ hz;refine outE (PyProof.Rows.append_at (hsz:=by rw [ZF,<- rv.length];exact hzl) e8 λ h9 sb e9=>?_);rw [List.push_toArray] at e9
    have I9:Inv (o8 X N' scope s1 @Z fp) ([] ++ U5 fp s5.heap) σ6 (upd H8 s.heap.objs.size (.lst (zs ++ [v]))) { s8 with heap:=h9 } :=
     I8.write (t':=s8.toks) (by rw [hz];trivial) @AH (λ b o hb e=>(sb.2 b hb).trans e) ⟨_,e9⟩ ⟨by rw [ZW,ZL];exact hlen,its ++ [y],k + 1,rv.append (.cons r8 .nil),e9⟩
    exact again I9 hm w8
 show codeAny @C X.A (.compStart @AL 0 @AC @Aj (o8 X N' scope s1 @Z fp).env) (RR @Aj s1.heap.objs.size) { s1 with heap:=pushCells (s1.heap.push { cls:=.type "dict",data:=.dict #[] }) scope.names };exact codeAny_compStart_list (loop _ rfl) (T.self X.A 0 _ _ _ st2 (loop _ rfl))
theorem C4{α:Type}{n:Str}{c:α}:∀ {l:List (Str×α)},(l.map (·.1)).Nodup->(n,c) ∈ l->l.lookup n=some c
 |[],_,h=>nomatch h
 |(m,e) :: r,hn,hm=>by
  have hn:(m :: r.map (·.1)).Nodup:=hn;obtain ⟨h1,h2⟩:=Zc.mp hn;rw [List.lookup_cons]
  rcases List.mem_cons.mp hm with q | q
  ·cases q;simp
  ·have hne:(n == m)=false:=by
    cases hb:n == m with
    |false=>rfl
    |true=>exact absurd (ZG.mpr ⟨(n,c),q,beq_iff_eq.mp hb⟩) h1
   rw [hne];exact C4 h2 q
variable {tg iter elt:Expr} {ifs:List Expr} {pos:Pos} {wi:TI} {g:Shared->Hp->List Addr->TG} {tf:Shared->Hp->List Addr->TT} {te:Shared->Hp->List Addr->TE}
theorem b2F(hc:X.calm=true)(C:CompOk X N' js scope)(hi:PI X tg iter wi)
  (body:∀ (s0:Shared) (H0:Hp) (fp:List Addr),PG @Ai tg (g s0 H0 fp)/\PF @Ai ifs (tf s0 H0 fp)/\PE @Ai elt (te s0 H0 fp))
  (hs:∀ x,foldedSetIterable iter X.env x=pure x:=by intro _;rfl):PE X @AL (b0m js wi g tf te):=by
 show J;rw [eval_ListComp];have hcl:closureFor scope X.env=pure @AN:=O6 λ n hn=>Za.mpr (I.ok.has n (C.fr n hn));refine wpAny_comprehension_free (use:=none) rfl hs hcl C.kind (λ x hx hl=>C4 C.nd (by rw [<- hl];exact hx)) (thn (hi pins s σ H _ I h) λ v s1 h1=>thn h1 λ itv s2 h2=>?_);obtain ⟨it,fp,tn,J,H2,e,I2,T,st2,f2,q⟩:=h2;subst e;refine a3c (RR:=λ acc C=>compPost @C X.A X.xe none @AR acc C) hc C I2 T st2 f2 (g:=λ s0 H0=>g s0 H0 fp) (tf:=λ s0 H0=>tf s0 H0 fp) (te:=λ s0 H0=>te s0 H0 fp) (λ s0 H0=>body s0 H0 fp) (Q:=λ D H'=>Q (.ref D) H') (λ D hD s0 H0=>q D hD s0 H0 fp) ?_;intro D Ca H' s' m hn hle hp hC hL hcel hs0 I' q';exact ⟨m,hn,λ h' hs'=>⟨.ref D,H',I'.turned (t':=s'.toks) (it:=Ca) (λ b o hb e=>(hs'.2 b hb).trans e) hC hL (.inr hs0) hcel hp,rfl,q'⟩⟩
theorem b3b{i:Nat}{x:Str}{px cpos:Pos}(hc:X.calm=true)(C:CompOk X N' js scope)(hi:PI X tg iter wi)
  (body:∀ (s0:Shared) (H0:Hp) (fp:List Addr),PG @Ai tg (g s0 H0 fp)/\PF @Ai ifs (tf s0 H0 fp)/\PE @Ai elt (te s0 H0 fp))
  (hN:X.N.Nodup) (hix:X.N[i]?=some x) (hx:Loc X.env.scope x)
  (hsw:swapsWith @AI (some (.Name x px)) pos.line X.env=pure true:=by rfl) (hf:X.fn x=true\/X.env.scope.names.lookup x=some .local:=by trivial)
  (hs:∀ x,foldedSetIterable iter X.env x=pure x:=by intro _;rfl):PS X (.Assign [.Name x px] @AI pos) (b1f (b0m js wi g tf te) (a3s i)):=by
 intro pins s σ H D0 I h;rw [exec_Assign_Name_used _ _ _ _ hsw];refine wpAny_bind (wpAny_standAt (wpAny_bind ?_));show wpAny _ X.A (do let _ <- comprehension @AI scope X.env _ (newList []) false (eval iter X.env) (some (assign (.Name x px) X.env))) _ _ s;have hcl:closureFor scope X.env=pure @AN:=O6 λ n hn=>Za.mpr (I.ok.has n (C.fr n hn))
 refine wpAny_bind (wpAny_mono (wpAny_comprehension_free (use:=some (assign (.Name x px) X.env)) (Q:=λ _ s'=>SP X pins D0 .next s') rfl hs hcl C.kind (λ x hx hl=>C4 C.nd (by rw [<- hl];exact hx)) (thn (hi pins s σ H _ I h) λ v s1 h1=>thn h1 λ itv s2 h2=>?_))
  (λ _ s' hq=>wpAny_pure (wpAny_pure hq)) λ _ _ e=>e)
 obtain ⟨it,fp,tn,J,H2,e,I2,T,st2,f2,q⟩:=h2;subst e;refine a3c (RR:=λ acc C=>compPost @C X.A X.xe (some (assign (.Name x px) X.env)) (λ _ s'=>SP X pins D0 .next s') acc C) hc C I2 T st2 f2 (g:=λ s0 H0=>g s0 H0 fp) (tf:=λ s0 H0=>tf s0 H0 fp) (te:=λ s0 H0=>te s0 H0 fp) (λ s0 H0=>body s0 H0 fp) (Q:=λ D H'=>D0.nx (σ.set i (some (.ref D))) H') (λ D hD s0 H0=>q D hD s0 H0 fp) ?_;intro D Ca H' s' m hn hle hp hC hL hcel hs0 I' q';show wpAny _ X.A (assign (.Name x px) X.env (.ref D)) _ _ _;refine wpAny_assign_Name (a1F I' hN hix hx (v:=.ref D) rfl (λ s'' I'' hsb=>?_) hf);obtain ⟨a,sb,ha⟩:=hsb
 have nCa:Ca ≠ a:=by
  rcases ha with z | z
  ·rw [z];exact hL
  ·exact λ w=>hcel x a z w.symm
 exact ⟨m,hn.sameBut sb nCa,λ h' hs'=>⟨σ.set i (some (.ref D)),H',I''.turned (t':=s''.toks) (it:=Ca) (λ b o hb e=>(hs'.2 b hb).trans e) hC hL (.inr hs0) hcel hp,q'⟩⟩
end
end L2
namespace L2
open PySem PySem.Spec PyProof.Rows
section
variable {prog:Program} {w:World} {A:Around} {E:Value->Shared->Prop} {s:Shared}
theorem Q7{it l:Addr}{i:Nat}{items:Array Value}{x:Value}{Q:Value->Shared->Prop}(hit:s.heap.IsTupleIter it l i)
  (hl:s.heap.IsTuple l items) (hx:items[i]?=some x)
  (hQ:∀ h',h'.IsTupleIter it l (i + 1)->Heap.SameBut it s.heap h'->Q x { s with heap:=h' }) :
  wpAny @I A (Builtin.SmallTypes.nextOf @AC) Q E s:=by
 obtain ⟨o,ho,hc,hd⟩:=id hit;obtain ⟨ol,hol,_,nl,hdl⟩:=hl;unfold Builtin.SmallTypes.nextOf
 refine wpAny_bind (wpAny_callSpecial?_slot (name:=Str.ofString "__next__") hit.typeIs F.slot_tuple_iterator_next
  (wpAny_call_entry F.slot_tuple_iterator_next hit.typeIs F.entry_tuple_iterator_next ?_ (F.args_tuple_iterator_next_1 _)))
 show wpAny _ _ (field @AC 0 >>= _) _ _ s;refine wpAny_bind (wpAny_field ho hd (x:=.ref l) rfl ?_);show wpAny _ _ (if (Value.ref l == Value.none)=true then _ else _) _ _ s;rw [if_neg (show ¬ ((Value.ref l == Value.none)=true) from ZR)];show wpAny _ _ (field @AC 1 >>= _) _ _ s;refine wpAny_bind (wpAny_field ho hd (x:=.int i 0) rfl ?_);show wpAny _ _ (seqItems? (.ref l) >>= _) _ _ s;refine wpAny_bind (wpAny_seqItems hol hdl ?_);simp only [Int.toNat_natCast,hx];refine wpAny_bind (wpAny_setField ho hd @N (wpAny_pure ⟨x,rfl,wpAny_pure (hQ _ ?_ (Heap.SameBut.update ..))⟩))
 exact ⟨_,Heap.get?_update_self _ ho (Obj.isFreed_of_fields (Obj.data_mapFields hd _)),(Obj.cls_mapFields ..).trans hc,by
  rw [Obj.data_mapFields hd];simp [rawInt]⟩
theorem W6{it l:Addr}{i:Nat}{items:Array Value}{Q:Value->Shared->Prop}(hh:A.handled=none)
  (hit:s.heap.IsTupleIter it l i) (hl:s.heap.IsTuple l items) (hx:items[i]?=none)
  (hE:∀ h' e,Heap.ExtBut it s.heap h'->(∃ o,h'.get? e=some o/\o.cls = .type "StopIteration")->E (.ref e) { s with heap:=h' }) :
  wpAny @I A (Builtin.SmallTypes.nextOf @AC) Q E s:=by
 obtain ⟨o,ho,hc,hd⟩:=id hit;obtain ⟨ol,hol,_,nl,hdl⟩:=hl;unfold Builtin.SmallTypes.nextOf
 refine wpAny_bind (wpAny_callSpecial?_slot (name:=Str.ofString "__next__") hit.typeIs F.slot_tuple_iterator_next
  (wpAny_call_entry F.slot_tuple_iterator_next hit.typeIs F.entry_tuple_iterator_next ?_ (F.args_tuple_iterator_next_1 _)))
 show wpAny _ _ (field @AC 0 >>= _) _ _ s;refine wpAny_bind (wpAny_field ho hd (x:=.ref l) rfl ?_);show wpAny _ _ (if (Value.ref l == Value.none)=true then _ else _) _ _ s;rw [if_neg (show ¬ ((Value.ref l == Value.none)=true) from ZR)];show wpAny _ _ (field @AC 1 >>= _) _ _ s;refine wpAny_bind (wpAny_field ho hd (x:=.int i 0) rfl ?_);show wpAny _ _ (seqItems? (.ref l) >>= _) _ _ s;refine wpAny_bind (wpAny_seqItems hol hdl ?_);simp only [Int.toNat_natCast,hx];refine wpAny_bind (wpAny_rule (wpAny_bind (wpAny_setField ho hd @N ?_)));show I;refine wpAny_bind (wpAny_handled ?_)
 first | rw [show A.in1.handled=none from hh] | rw [hh]
 refine wpAny_bind (wpAny_pure (wpAny_throw ?_));exact hE _ _ (((Heap.SameBut.update ..).extBut.push _).push _) ⟨_,ZI _ rfl,rfl⟩
end
theorem a4a{prog:Program}{w:World}{A:Around}(hh:A.handled=none)(it l:Addr)(hne:l ≠ it)(items:Array Value) :
  Draws prog w A it [it,l] items.size (λ i v=>items[i]?=some v) (λ i h=>h.IsTupleIter it l i/\h.IsTuple l items) where
 live:=λ _ _ st=>let ⟨o,ho,_⟩:=st.1;⟨o,ho⟩
 frame:=λ _ _ _ st hk=>⟨st.1.at λ o e=>hk it @N o e,let ⟨o,ho,r⟩:=st.2;⟨o,hk l @N o ho,r⟩⟩
 item:=λ i s Q E hi st hQ=>by
  refine Q7 st.1 st.2 (x:=items[i]) (by simp [hi]) λ h' hit hs=>?_;exact hQ _ h' s.toks (by simp [hi]) ⟨hit,st.2.extBut hs.extBut hne⟩ hs
 done:=λ s Q E st hE=>W6 hh st.1 st.2 @N hE
theorem M3(l:Addr)(items:Array Value)(n:Nat)(dct:Option Addr)(sl:Array @An) :
  Meets (Builtin.«enumerate.__new__» ⟨[.type "enumerate",.ref l],[]⟩) (λ _ R s=>s.heap.get? l=some { cls:=.type "tuple",dict:=dct,data:=.seq items n,slots:=sl } /\
   R (.ok (.ret (.ref (s.heap.push { cls:=.type "tuple_iterator",data:=.fields #[.ref l,.int 0 0] }).objs.size)))
    { s with heap:=(s.heap.push { cls:=.type "tuple_iterator",data:=.fields #[.ref l,.int 0 0] }).push { cls:=.type "enumerate",data:=.fields #[.none,.bool false,.ref s.heap.objs.size,rawInt 0,.none,.none] } }) :=
 .of_wp λ prog w A R s h=>by
  obtain ⟨hp,g,d,tk,os⟩:=s;obtain ⟨hl,h⟩:=h;have hsub:=sub_enumerate;have hL:Heap.IsTuple (Shared.heap ⟨hp,g,d,tk,os⟩) l items:=⟨_,hl,rfl,n,rfl⟩
  wp_walk using Zl hl
  refine wpAny_stack_any λ st=>wpAny_pure ?_;split
  ·rename_i c _ _ _ _ _
   cases (c == Value.type "enumerate")
   ·wp_walk using Zl hl,wpAny_pyIter_tuple hL
    exact ⟨_,rfl,h⟩
   ·wp_walk using Zl hl,wpAny_pyIter_tuple hL
    exact ⟨_,rfl,h⟩
  ·wp_walk using Zl hl,wpAny_pyIter_tuple hL
   exact ⟨_,rfl,h⟩
theorem M0{prog:Program}{w:World}{A:Around}{E:Value->Shared->Prop}{s:Shared}{l:Addr}{items:Array Value}{Q:Value->Shared->Prop}(hL:s.heap.IsTuple l items)
  (h:∀ h',IsEnum h' @J s.heap.objs.size 0 .none->h'.IsTupleIter s.heap.objs.size l 0->h'.objs.size=s.heap.objs.size + 2 ->
   (∀ b o,s.heap.get? b=some o->h'.get? b=some o)->Q (.ref @J) { s with heap:=h' }) :
  wpAny @I A (call (.type "enumerate") [.ref l]) Q E s:=by
 obtain ⟨⟨c,dct,dt,sl⟩,hl,hc,n,hd⟩:=hL
 replace hc:c = .type "tuple":=hc
 replace hd:dt = .seq items n:=hd
 subst hc hd
 refine callType_new F.called_enumerate @B (F.typeCall_enumerate_1 _) (F.newCall_enumerate_1 _) (λ obj=>F.args_object_init_2 obj _) F.entry_enumerate_new
  (M3 l items n dct sl) ⟨hl,?_⟩
 have hz:(s.heap.push { cls:=.type "tuple_iterator",data:=.fields #[.ref l,.int 0 0] }).objs.size=s.heap.objs.size + 1:=YS ..;show _/\_;rw [hz]
 have he:IsEnum ((s.heap.push { cls:=.type "tuple_iterator",data:=.fields #[.ref l,.int 0 0] }).push
   { cls:=.type "enumerate",data:=.fields #[.none,.bool false,.ref s.heap.objs.size,rawInt 0,.none,.none] }) @J s.heap.objs.size 0 .none:=by
  have:=ZI (s.heap.push { cls:=.type "tuple_iterator",data:=.fields #[.ref l,.int 0 0] })
   (o:={ cls:=.type "enumerate",data:=.fields #[.none,.bool false,.ref s.heap.objs.size,rawInt 0,.none,.none] }) rfl
  rw [hz] at this;exact this
 refine ⟨⟨_,he,rfl⟩,h _ he ⟨_,ZU _ (ZI _ rfl),rfl,rfl⟩ (by rw [YS,hz]) λ b o x=>ZU _ (ZU _ x)⟩
section
variable {X:Cx} {pins:List (Addr×Obj)} {σ:St} {H:Hp} {s:Shared} {h':Heap}
theorem Inv.turned2{t':Nat}{e it:Addr}(I:Inv X pins σ H s)(k:∀ b o,b ≠ e->b ≠ it->s.heap.get? b=some o->h'.get? b=some o)(fe:B7 X pins H e)(fi:B7 X pins H it):Inv X pins σ H { s with heap:=h',toks:=t' }:=by
 have ne1:∀ b,b ∉ [e,it]->b ≠ e/\b ≠ it:=λ b hb=>⟨λ z=>hb (by simp [z]),λ z=>hb (by simp [z])⟩
 have nit:∀ b u,H b=some u->b ≠ e/\b ≠ it:=λ b u q=>⟨λ z=>(by rw [z,fe.1] at q;cases q),λ z=>(by rw [z,fi.1] at q;cases q)⟩
 refine I.step (g':=s.gens) (d':=s.drawn) (ch:=[e,it]) (λ b hb=>?_) (λ b o _ _ hc q _=>k b o (ne1 b hc).1 (ne1 b hc).2 q) (λ b o _ _ hc q _=>⟨o.slots,k b o (ne1 b hc).1 (ne1 b hc).2 q⟩) (λ _ _ _ _ n=>n)
  (λ b o hc q=>⟨o,k b o (ne1 b hc).1 (ne1 b hc).2 q⟩) (λ _ _ q=>q) (λ _ _ _ q=>q) (λ b ps q=>⟨#[],by rw [q];simp⟩) (λ m hm=>?_) (λ b u q=>?_) I.bare
 ·rcases List.mem_cons.mp hb with z | z
  ·subst z;exact ⟨fe.2.2.2.1,fe.2.1,fe.2.2.2.2.1,fe.2.2.2.2.2⟩
  ·have z:=ZX.mp z;subst z;exact ⟨fi.2.2.2.1,fi.2.1,fi.2.2.2.2.1,fi.2.2.2.2.2⟩
 ·obtain ⟨o,es,ep,ho,r⟩:=hm;exact ⟨o,es,ep,k _ o (Ne.symm fe.2.1) (Ne.symm fi.2.1) ho,r⟩
 ·refine (I.hok b u q).stay (λ c v hc z=>?_) (λ _ z=>z) λ _ _ z=>z
  rcases hc with y | y
  ·rw [y];rw [y] at z;exact k b v (nit b u q).1 (nit b u q).2 z
  ·exact k c v (nit c _ y).1 (nit c _ y).2 z
end
structure a0q(P:Program)(w:World)(K:PySem.W.Frag)(a it:Addr)(Sq:Hp->List V->Prop)(IsIt:Nat->Heap->Prop):Prop where
 at_:∀ i h h',IsIt i h->(∀ o,h.get? it=some o->h'.get? it=some o)->IsIt i h'
 live:∀ i h,IsIt i h->∃ o,h.get? it=some o/\∀ v,o.data ≠ .cell v
 drw:∀ (X:Cx),X.prog=P->X.w=w->X.K=K->X.calm=true->∀ (i:Nat) (pins:List @M) (s:Shared) (σ:St) (H:Hp) (xs:List V),Inv X pins σ H s->IsIt i s.heap->Sq H xs ->
  ∃ its:List Value,Vals xs its/\(∃ oa,s.heap.get? a=some oa/\oa.cls ≠ .type "enumerate")/\∃ St:Nat->Heap->Prop,Draws P w X.A.in1 it [it,a] its.length (λ i v=>its[i]?=some v) St/\St i s.heap/\∀ j h',St j h'->IsIt j h'
 inj:∀ (X:Cx),X.prog=P->X.w=w->X.K=K->∀ (pins:List @M) (s:Shared) (σ:St) (H:Hp) (xs ys:List V),Inv X pins σ H s->Sq H xs->Sq H ys->xs=ys
def Ite(Sq:Hp->List V->Prop):It :=
 ⟨λ i H=>∃ xs x,Sq H xs/\xs[i]?=some x,λ i H x H'=>∃ T v,x = .ref T/\H T=none/\H'=upd H T (.tup [.int (i:Nat),v])/\∀ xs,Sq H xs->xs[i]?=some v,λ i H=>∃ xs,Sq H xs/\xs.length=i⟩
theorem Y9{A:Around}(h:A.handled=none):A.in1.handled=none:=h
theorem b0z{P:Program}{w:World}{K:PySem.W.Frag}(a it:Addr):a0q P w K a it (λ H xs=>SqL K H a xs) (λ i h=>h.IsListIter it a i) where
 at_:=λ i h h' st k=>st.at k
 live:=λ i h st=>by
  show Ag
 drw:=by
  intro X hP hw hK hc i pins s σ H xs I hit hq;subst hP hw hK;obtain ⟨its,rv,p,hz⟩:=I.list hq;obtain ⟨oa,e1,c1,r1⟩:=id p.isList
  have hne:a ≠ it:=λ z=>by
   obtain ⟨o,e,c,_⟩:=hit;rw [<- z,e1] at e;cases e;rw [c1] at c;injection c with c;exact absurd c @B
  refine ⟨its,rv,⟨oa,e1,λ z=>(by rw [c1] at z;injection z with z;exact absurd z @B)⟩,(λ i h=>h.IsListIter it a i/\h.IsList a its.toArray),?_,⟨hit,p.isList⟩,λ j h' st=>st.1⟩;have D:=Draws.list (prog:=X.prog) (w:=X.w) (A:=X.A.in1) (Y9 (I.ok.hd hc)) it a hne its.toArray
  simpa using D
 inj:=by
  intro X hP hw hK pins s σ H xs ys I h1 h2;subst hP hw hK;exact I.list_inj h1 h2
theorem b5q{P:Program}{w:World}{K:PySem.W.Frag}(a it:Addr):a0q P w K a it (λ H xs=>SqT K H a xs) (λ i h=>h.IsTupleIter it a i) where
 at_:=λ i h h' st k=>st.at k
 live:=λ i h st=>by
  show Ag
 drw:=by
  intro X hP hw hK hc i pins s σ H xs I hit hq;subst hP hw hK;obtain ⟨its,rv,p,hz⟩:=I.tuple hq;obtain ⟨oa,e1,c1,r1⟩:=id p
  have hne:a ≠ it:=λ z=>by
   obtain ⟨o,e,c,_⟩:=hit;rw [<- z,e1] at e;cases e;rw [c1] at c;injection c with c;exact absurd c @B
  refine ⟨its,rv,⟨oa,e1,λ z=>(by rw [c1] at z;injection z with z;exact absurd z @B)⟩,(λ i h=>h.IsTupleIter it a i/\h.IsTuple a its.toArray),?_,⟨hit,p⟩,λ j h' st=>st.1⟩;have D:=a4a (prog:=X.prog) (w:=X.w) (A:=X.A.in1) (Y9 (I.ok.hd hc)) it a hne its.toArray
  simpa using D
 inj:=by
  intro X hP hw hK pins s σ H xs ys I h1 h2;subst hP hw hK;exact I.tuple_inj h1 h2
theorem a6C{P:Program}{w:World}{K:PySem.W.Frag}{a it:Addr}{Sq:Hp->List V->Prop}{IsIt:Nat->Heap->Prop}(S:a0q P w K a it Sq IsIt)(e:Addr)(hei:e ≠ it){es:List Expr}{x1}{pos:Pos} :
  a2z P w K (.Tuple es x1 pos) (Ite Sq) [e,it] e (λ i h=>(∃ old,IsEnum h e it ((i:Nat):Int) old)/\IsIt i h) where
 mem:=by simp
 obj:=λ i h st b hb=>by
  obtain ⟨⟨old,he⟩,hit⟩:=st
  rcases List.mem_cons.mp hb with z | z
  ·subst z;exact ⟨_,he,λ v z=>by cases z⟩
  ·have z:=ZX.mp z;subst z;exact S.live i h hit
 keep:=λ i h h' st k=>by
  obtain ⟨⟨old,he⟩,hit⟩:=st;exact ⟨⟨old,k e (by simp) _ he⟩,S.at_ i h h' hit λ o q=>k it @N o q⟩
 item:=by
  intro X hP hw hK hc i pins s σ H E I hf st hg;obtain ⟨⟨old,he⟩,hit⟩:=st;obtain ⟨xs,x,hq,hx⟩:=hg;obtain ⟨its,rv,⟨oa,ea,ca⟩,St,D,st0,fromSt⟩:=S.drw X hP hw hK hc i pins s σ H xs I hit hq;obtain ⟨u,hu,ru⟩:=rv.get hx;have hlt:i < its.length:=(ZY.mp hu).1
  have hef:e ∉ [it,a]:=λ z=>by
   rcases List.mem_cons.mp z with z | z
   ·exact hei z
   ·have z:=ZX.mp z;have he':s.heap.get? e=some _:=he;rw [z,ea] at he';cases he';exact ca rfl
  refine wpAny_pyNext_enum_itemD D he st0 hlt hei hef λ y h1 tk hy heo hst1 htup hsz hk=>?_;have ey:y=u:=Option.some.inj (hy.symm.trans hu);subst ey;refine ⟨_,rfl,wpAny_letOwnedTupleGo_enum heo λ h2 he2 sb2=>?_⟩;have fe:=hf e @N;have fi:=hf it @N;have hT:H s.heap.objs.size=none:=I.hok.fresh @G
  have Im:Inv X pins σ (upd H s.heap.objs.size (.tup [.int (i:Nat),x])) { s with heap:=s.heap.push { cls:=.type "tuple",data:=.seq #[.int i tk,y] } } :=
   I.laid (t':=s.toks) (λ b v q=>ZU _ q) @G ⟨by show 2 <= sizeLine;decide,[.int i tk,y],.cons ⟨tk,rfl⟩ (.cons ru .nil),⟨_,ZI _ rfl,rfl,_,rfl⟩⟩
  have lt:∀ b o,s.heap.get? b=some o->b ≠ s.heap.objs.size:=λ b o q=>Zp (ZE q);have ne:e ≠ s.heap.objs.size:=lt e _ he
  have ni:it ≠ s.heap.objs.size:=by
   obtain ⟨o,q,_⟩:=S.live i _ hit;exact lt it o q
  have up:∀ b,b ≠ s.heap.objs.size->(upd H s.heap.objs.size (.tup [.int (i:Nat),x])) b=H b:=λ b hb=>k9 hb;have fe':B7 X pins (upd H s.heap.objs.size (.tup [.int (i:Nat),x])) e:=⟨by rw [up e ne];exact fe.1,fe.2⟩
  have fi':B7 X pins (upd H s.heap.objs.size (.tup [.int (i:Nat),x])) it:=⟨by rw [up it ni];exact fi.1,fi.2⟩
  have I2:Inv X pins σ (upd H s.heap.objs.size (.tup [.int (i:Nat),x])) { s with heap:=h2,toks:=tk + 1 } :=
   Im.turned2 (t':=tk + 1) (h':=h2) (λ b o hbe hbi q=>by
    have q:(s.heap.push { cls:=.type "tuple",data:=.seq #[.int i tk,y] }).get? b=some o:=q;refine (sb2.2 b hbe).trans ?_
    rcases Heap.get?_push_cases q with ⟨hb,ho⟩ | q'
    ·subst hb;subst ho;exact htup
    ·exact hk b o hbe hbi q') fe' fi'
  refine ⟨.ref s.heap.objs.size,_,I2,rfl,⟨_,x,rfl,hT,rfl,λ ys hy=>by rw [S.inj X hP hw hK pins s σ H ys xs I hy hq];exact hx⟩,⟨⟨y,?_⟩,?_⟩,λ b hb=>?_⟩
  ·have ec:((i + 1:Nat):Int)=(i:Int) + 1:=by push_cast;rfl
   rw [ec];exact he2
  ·exact S.at_ _ _ _ (fromSt _ _ hst1) λ o q=>(sb2.2 it (Ne.symm hei)).trans q
  ·rcases List.mem_cons.mp hb with z | z
   ·subst z;exact fe'.1
   ·have z:=ZX.mp z;subst z;exact fi'.1
 done:=by
  intro X hP hw hK hc i pins s σ H E I hf st hg;obtain ⟨⟨old,he⟩,hit⟩:=st;obtain ⟨xs,hq,hx⟩:=hg;obtain ⟨its,rv,⟨oa,ea,ca⟩,St,D,st0,fromSt⟩:=S.drw X hP hw hK hc i pins s σ H xs I hit hq;have hl:=rv.length;have ei:its.length=i:=by omega
  rw [<- ei] at st0;obtain ⟨f0,f1,f2,f3,f4,f5⟩:=hf it @N;exact wpAny_pyNext_enum_endD D he st0 λ h1 eb=>⟨rfl,I.turned (t':=s.toks) (λ b o hb q=>eb b o hb q) f0 f1 f3 f4 f5⟩
 self:=λ _ _ _ _ _ st h=>wpAny_pyIter_enum st.1.choose_spec h
section
variable {X:Cx}
theorem a3V{pins:List @M}{σ:St}{H:Hp}{s:Shared}{h':Heap}{a:Addr}{Sq:Hp->List V->Prop}{IsIt:Nat->Heap->Prop}{R:It->Hp->Prop}{tg:Expr}(htg:∃ es x1 pos,tg = .Tuple es x1 pos)(I:Inv X pins σ H s)(S:a0q X.prog X.w X.K a s.heap.objs.size Sq IsIt)
  (he:IsEnum h' @J s.heap.objs.size 0 .none) (hit:IsIt 0 h') (hk:∀ b o,s.heap.get? b=some o->h'.get? b=some o) (q:R (Ite Sq) H) {E:Value->Shared->Prop} :
  wpAny @C X.A (pyIter (.ref @J)) (PIE X pins σ tg R) E { s with heap:=h' }:=by
 obtain ⟨es,x1,pos,rfl⟩:=htg;refine wpAny_pyIter_enum (s:={ s with heap:=h' }) he ?_;refine ⟨s.heap.objs.size + 1,[s.heap.objs.size + 1,s.heap.objs.size],_,_,H,rfl,I.kept (t':=s.toks) hk,a6C S @J (Nat.succ_ne_self _),⟨⟨_,he⟩,hit⟩,λ b hb=>?_,q⟩
 rcases List.mem_cons.mp hb with z | z
 ·subst z;exact I.fpOk (YK _) (I.hok.fresh (YK _))
 ·have z:=ZX.mp z;subst z;exact I.fpOk @G (I.hok.fresh @G)
end
end L2
namespace HT
open PySem PySem.Spec PyProof.Rows
section
variable {prog:Program} {w:World} {A:Around} {E:Value->Shared->Prop} {s:Shared}
theorem getItem_tuple_all{t sl:Addr}{items:Array Value}{vl vu:Value}{lo hi:Option Int}{Q:Value->Shared->Prop}(ht:IsTup s.heap t items)(hs:s.heap.IsSliceOf sl vl vu .none)(pl:IsPart vl lo)(pu:IsPart vu hi)
  (hw:sIx items.size 0 lo=0/\sIx items.size items.size hi=items.size) (h:Q (.ref t) s):wpAny @I A (getItem (.ref t) (.ref sl)) Q E s:=by
 obtain ⟨os,hos,hcs,hds⟩:=id hs;have hTs:s.TypeIs (.ref sl) "slice":=⟨os,hos,hcs⟩
 unfold getItem
 try with_reducible refine wpAny_holding ?_
 first | refine wpAny_bind (wpAny_pure ?_) | skip
 refine wpAny_bind (wpAny_sequenceKey ht.typeIs @B ?_)
 refine wpAny_bind (wpAny_callSpecial?_slot (name:=Str.ofString "__getitem__") ht.typeIs PyProof.Rows.slot_tuple_getitem
  (wpAny_call_entry PyProof.Rows.slot_tuple_getitem ht.typeIs entry_tuple_getitem ?_ (args_tuple_getitem _ _)))
 show wpAny _ _ (Builtin.Tuple.tupleItemsOf (.ref t) >>= _) _ _ s;refine wpAny_bind (tupleItemsOf_ ht ?_);refine wpAny_bind (wpAny_typeOf hTs ?_);rw [if_pos @B];refine wpAny_bind (G6 hs pl pu ?_)
 have hyes:@Ae=true:=by
  rw [hw.1,hw.2];simp
 show wpAny _ _ (if @Ae=true then _ else _) _ _ s;rw [if_pos hyes];refine wpAny_bind (m:=Builtin.Tuple.tupleIsExact _) ?_;unfold Builtin.Tuple.tupleIsExact;refine wpAny_bind (wpAny_typeOf ht.typeIs (wpAny_pure ?_));rw [if_pos @B];exact wpAny_bind (wpAny_rule (wpAny_bind (wpAny_pure @Be)))
end
end HT
namespace L2
open PySem PySem.Spec PyProof.Rows
section
variable {X:Cx}
end
end L2
namespace L2
open PySem PySem.Spec PyProof.Rows
mutual
inductive Is(H:Hp):V->PyData->Prop
 |non:Is H .non .none
 |bl (b:Bool):Is H (.bl b) (.bool b)
 |int (i:Int):Is H (.int i) (.int i)
 |str (x:Str):Is H (.str x) (.str x)
 |lst {a:Addr} {xs:List V} {ds:List PyData}:H a=some @X->Iss H xs ds->Is H @Ax (.list ds)
 |tup {a:Addr} {xs:List V} {ds:List PyData}:H a=some (.tup xs)->Iss H xs ds->Is H @Ax (.tuple ds)
inductive Iss(H:Hp):List V->List PyData->Prop
 |nil:Iss H [] []
 |cons {x:V} {d:PyData} {xs:List V} {ds:List PyData}:Is H x d->Iss H xs ds->Iss H (x :: xs) (d :: ds)
end
theorem Iss.get{H:Hp}:∀ {xs:List V} {ds:List PyData} {i:Nat} {d:PyData},Iss H xs ds->ds[i]?=some d->∃ x,xs[i]?=some x/\Is H x d
 |_,_,_,_,.nil,e=>by simp at e
 |_,_,0,_,.cons r _,e=>by simp at e;subst e;exact ⟨_,rfl,r⟩
 |_,_,i + 1,d,.cons _ t,e=>by
  obtain ⟨u,h1,h2⟩:=Iss.get (i:=i) (d:=d) t (by simpa using e);exact ⟨u,by simpa using h1,h2⟩
section
variable {X:Cx} {pins:List (Addr×Obj)} {σ:St} {H:Hp} {s:Shared}
theorem a1p(hc:X.calm=true):CallR X (.builtin "sum") (λ xs H Q=>∃ (l:Addr) (ns:List Int),xs=[.ref l]/\SqL X.K H l (ns.map V.int)/\Q (.int ns.sum) H):=by
 show Aa;obtain ⟨l,ns,rfl,hq,q⟩:=h;obtain ⟨u,rfl,ru⟩:=T3 r;cases ru;obtain ⟨its,rv,p,hz⟩:=I.list hq;have hi:IntsAre its ns:=P9 rv;obtain ⟨ys,e⟩:=hi.allInts.items;have en:ys.toList.map (·.1)=ns:=by rw [<- nums_intItems,<- e];simpa using hi.numsOf
 refine sum_intListG (xs:=ys) (I.ok.hd hc) (by rw [<- e];exact p.isList) λ h' tk t' hk=>⟨.int ns.sum,H,I.kept hk,⟨t',?_⟩,q⟩
 rw [preSum_eq,List.take_of_length_le @N,en]
theorem b4c:MtR X "int.bit_length" (λ x vs H Q=>∃ i,x = .int i/\vs=[]/\Q (.int (Builtin.Int.intBits i:Nat)) H):=by
 intro pins s σ H x xs v us Q I rx r h;obtain ⟨i,rfl,rfl,q⟩:=h;show Ae;cases r;exact PyProof.Rows.call_int_bit_length ⟨.int (Builtin.Int.intBits i:Nat),H,I.tok _,⟨_,rfl⟩,q⟩
end
end L2
namespace L2
open PySem PySem.Spec PyProof.Rows
structure Cal(P:Program)(w:World)(K:PySem.W.Frag)(mg:Str->Option Value)(base:Heap)(k:Nat)(x:Str)(ps:List Str)(sp:Sp):Prop where
 ex:∃ (f:Addr) (fd:FuncData),n8 P w K mg base CX0 k f fd ps sp/\mg x=some (.ref f)/\PySem.W.keepIn K (.ref f)=true/\Binds K fd ps []
section
variable {X:Cx} {k:Nat} {ps:List Str} {sp:Sp} {x:Str} {p pos:Pos} {e:Expr} {es:List Expr} {t:TA}
theorem b8E(c:Cal X.prog X.w X.K X.mg X.base k x ps sp)(hr:Room k X.A)(hg:Gl X x)(ha:PA X (e :: es) t)(hdb:@Ag=false:=by decide)
  (he:starEach (e :: es) X.env=(false,eval e X.env) :: starEach es X.env:=by rfl) (hpl:(backTo pos @Ao).any (·.1)=false:=by rfl):PE X @Av (b6a sp [] E0 t):=by
 obtain ⟨f,fd,F,hm,hk,hb⟩:=c.ex;exact b2V F hr hg hm hk hb .nil a3B ha hdb he hpl
end
end L2
namespace L2
open PySem PySem.Spec PyProof.Rows
section
variable {X:Cx}
end
end L2
namespace L2
open PySem PySem.Spec PyProof.Rows
section
variable {X:Cx} {e st:Expr} {te:TE} {lo hi:Option Expr} {tl th ts:TO} {pos p2:Pos}
end
end L2
namespace L2
open PySem PySem.Spec PyProof.Rows
section
variable {X:Cx}
end
end L2
namespace L2
open PySem PySem.Spec PyProof.Rows
section
variable {prog:Program} {w:World} {A:Around} {E:Value->Shared->Prop} {s:Shared}
theorem a3M{it l:Addr}{items:Array Value}(hne:l ≠ it):∀ (n i:Nat) (s:Shared) (Q:List Value->Shared->Prop),s.heap.IsListIter it l i->s.heap.IsList l items->i + n <= items.size ->
  (∀ h',h'.IsListIter it l (i + n)->Heap.SameBut it s.heap h'->Q ((items.toList.drop i).take n) { s with heap:=h' })->wpAny @I A (draw @AC n) Q E s
 |0,i,s,Q,hit,_,_,hQ=>wpAny_pure (by simpa using hQ s.heap hit (Heap.SameBut.refl ..))
 |n + 1,i,s,Q,hit,hl,hle,hQ=>by
  have hlt:i < items.size:=by omega
  show wpAny _ _ (pyNext @AC >>= λ r=>_) Q E s;refine wpAny_bind (wpAny_pyNext_list_item hit hl (x:=items[i]) (by simp [hlt]) λ h1 hit1 hs1=>wpAny_bind (wpAny_holding (a3M hne n (i + 1) _ _ hit1 (hl.extBut hs1.extBut hne) @D λ h2 hit2 hs2=>wpAny_pure ?_)));have q:=hQ h2 (by rw [Nat.add_comm n 1,<- Nat.add_assoc];exact hit2) (hs1.trans hs2);have e:items.toList.drop i=items[i] :: items.toList.drop (i + 1):=by simp [List.drop_eq_getElem_cons,hlt]
  rw [e,List.take_succ_cons] at q;exact q
theorem a7i{l:Addr}{items:Array Value}{Q:List Value->Shared->Prop}(hh:A.handled=none)(hl:s.heap.IsList l items)
  (hQ:∀ h',Heap.ExtBut s.heap.objs.size s.heap h'->Q items.toList { s with heap:=h' }):wpAny @I A (unpackItems (.ref l) items.size none) Q E s:=by
 have hlt:l ≠ s.heap.objs.size:=by
  obtain ⟨o,ho,_⟩:=hl;exact Zp (ZE ho)
 unfold unpackItems notIterableAtAll;refine wpAny_bind (wpAny_bind (wpAny_specialOf hl.typeIs slot_list_iter.lookup (wpAny_pure ?_)));simp only [Bool.false_eq_true,if_false];refine wpAny_bind (wpAny_holding (wpAny_pyIter_list hl (wpAny_bind (wpAny_holding (a3M hlt items.size 0 _ _ ⟨_,ZI _ rfl,rfl,rfl⟩ (hl.push _) @D λ h1 hit1 hs1=>?_)))));rw [show List.take items.size (List.drop 0 items.toList)=items.toList by rw [List.drop_zero];exact List.take_of_length_le @N,if_neg @N];refine wpAny_bind (wpAny_holding (wpAny_pyNext_list_end hh hit1 ((hl.push _).extBut hs1.extBut hlt) @N λ h2 he2=>?_));simp only [Option.isSome_none,Bool.false_eq_true,if_false];exact wpAny_pure (hQ h2 λ b o hb e=>he2 b o hb (hs1.extBut b o hb (ZU _ e)))
end
section
variable {X:Cx} {pos:Pos}
def c0r(K:PySem.W.Frag)(n:Nat)(t:TGs):TG:=λ v σ H Q=>∃ a xs,v = .ref a/\SqL K H a xs/\xs.length=n/\t xs σ H Q
theorem b4E{es:List Expr}{k:Nat}{t:TGs}{n:Nat}(hc:X.calm=true)(h:PGs X es t)
  (hn:(assignEach es X.env).length=n:=by rfl) (hst:(assignEach es X.env).findIdx? (·.1)=none:=by rfl):PG X (.Tuple es k pos) (c0r X.K n t):=by
 intro pins s σ H v u Q I r hw;obtain ⟨a,xs,e1,hq,hl,hw⟩:=hw;subst e1;cases r;obtain ⟨its,rv,pl,hz⟩:=I.list hq;rw [assign_Tuple];refine wpAny_bind (wpAny_standAt ?_);unfold unpack;have e:(assignEach es X.env).length=its.toArray.size:=by simp [hn,<- hl,rv.length]
 rw [e,hst];refine wpAny_bind (wpAny_holding (a7i (I.ok.hd hc) pl.isList λ h' hx=>?_));have I1:Inv X pins σ H { s with heap:=h' }:=I.kept (t':=s.toks) λ b o e=>hx b o (Zp (ZE e)) e;exact h pins _ σ H xs _ Q I1 (by simpa using rv) hw
end
end L2
namespace L2
open PySem PySem.Spec PyProof.Rows
section
variable {prog:Program} {w:World} {A:Around} {E:Value->Shared->Prop} {s:Shared}
end
end L2
namespace L2
open PySem PySem.Spec PyProof.Rows
section
variable {X:Cx}
theorem a0t:∀ {bs:List Bool} {its:List Value},Vals (bs.map V.bl) its->its=bs.map Value.bool
 |[],_,r=>by rw [List.map_nil] at r;cases r;rfl
 |b :: bs,_,r=>by
  rw [Zs] at r
  cases r with
  |cons h t=>rw [a0t t,(show _=Value.bool b from h)];rfl
end
end L2
namespace L2
open PySem PySem.Spec PyProof.Rows
theorem KT.get{H:Hp}:∀ {kvs:List @As} {xs:List @AQ} {i:Nat} {q:List Key×Addr×Value},KT H kvs xs->xs[i]?=some q->∃ p,kvs[i]?=some p/\H q.2.1=some (.tup (p.1.map kV))
 |_,_,_,_,.nil,e=>by simp at e
 |_,_,0,_,.cons r _,e=>by simp at e;subst e;exact ⟨_,rfl,r.2.1⟩
 |_,_,i + 1,q,.cons _ t,e=>by
  obtain ⟨p,h1,h2⟩:=KT.get (i:=i) (q:=q) t (by simpa using e);exact ⟨p,by simpa using h1,h2⟩
section
variable {X:Cx} {tg:Expr}
end
section
variable {X:Cx}
end
end L2
namespace L2
open PySem
end L2
namespace L2
open PySem PySem.Spec PyProof.Rows
section
variable {prog:Program} {w:World} {A:Around} {E:Value->Shared->Prop} {s:Shared}
end
end L2
namespace L2
open PySem PySem.Spec PyProof.Rows
section
variable {prog:Program} {w:World} {A:Around} {E:Value->Shared->Prop} {s:Shared}
end
end L2
namespace L2
open PySem PySem.Spec PyProof.Rows
section
variable {X:Cx}
end
def a6a(P:Program)(w:World)(K:PySem.W.Frag)(a:Addr)(kvs:List (Key×V)):Prop:=∃ (o:Obj) (es:Array DictEntry) (ep:Nat) (vs:List (Key×Value)),K.lookup a=some o/\o.ExactDict/\o.data = .dict es ep/\KeysOf (j8 P w) es/\Pairs (j8 P w) es.toList vs/\(vs.map (·.1)).Nodup/\KV kvs vs
def c1b(kvs:List (Key×V))(ty:TE):TE:=λ σ H Q=>ty σ H λ y H1=>∃ k v,y=kV k/\E4 kvs k=some v/\Q v H1
theorem b3d{X:Cx}{x:Str}{a:Addr}{kvs:List (Key×V)}{i:Expr}{ty:TE}{p pos:Pos}(hg:Gl X x)(hm:X.mg x=some @Ax)(hk:a6a X.prog X.w X.K a kvs)(hi:PE X i ty)(hs:a8z i)(hd:@Ag=false:=by decide):PE X (.Subscript (.Name x p) i pos) (c1b kvs ty):=by
 show J;obtain ⟨o,es,ep,vs,h1,h2,h3,h4,h5,h6,h7⟩:=hk;refine a6k PySem.F.slot_dict_getitem.lookup hs (a0n I hg hm (thn (hi pins s σ H _ I h) λ iv s2 ⟨y,H2,I2,ry,k,v,ey,hv,q2⟩=>?_) hd);subst ey;have dd:s2.heap.DictOf (j8 X.prog X.w) a vs:=⟨o,es,ep,I2.kIn a o h1,h2,h3,h4,h5,h6⟩
 obtain ⟨w',hw,rw'⟩:=RelO.some_of (v:=v) (o:=valueAt vs k) (by rw [<- hv];exact h7.val k);exact ⟨dd.typeIs,wpAny_getItem_of (Y5 ry) dd.mapOf hw ⟨v,H2,I2.tok _,rw',q2⟩⟩
end L2
namespace L2
open PySem
theorem a0W(l:Addr)(items:Array Value)(n:Nat)(dct:Option Addr)(sl:Array @An)(x:Int)(u:Tok)(h1:2 <= x)(h2:x < 100)(hne:items.isEmpty=false)(hs:items.size <= 100)(hz:(List.foldl (λ x1 x2=>x1 ++ x2) #[] (List.replicate x.toNat items)).size <= sizeLine) :
  Meets (Builtin.«tuple.__mul__» ⟨[.ref l,.int x u],[]⟩) (λ _ R s=>s.heap.get? l=some { cls:=.type "tuple",dict:=dct,data:=.seq items n,slots:=sl } /\
   R (.ok (.ret @Aj)) { s with heap:=s.heap.push { cls:=.type "tuple",data:=.seq (List.foldl (λ x1 x2=>x1 ++ x2) #[] (List.replicate x.toNat items)) } }) :=
 .of_wp λ prog w A R s h=>by
  obtain ⟨hp,g,d,tk,os⟩:=s;obtain ⟨hl,h⟩:=h
  have c1:(decide (x < -(2 ^ 63)) || decide (x ≥ 2 ^ 63))=false:=by
   rw [decide_eq_false @D,decide_eq_false @D];rfl
  have c2:(items.isEmpty || x == 1)=false:=by
   rw [hne,Bool.false_or];exact beq_eq_false_iff_ne.mpr @D
  have c3:(decide (x <= 0) || items.isEmpty)=false:=by
   rw [hne,Bool.or_false];exact decide_eq_false @D
  have hm:(items.size:Int) * x <= 10000:=by
   have a1:(items.size:Int) <= 100:=by omega
   have:=Int.mul_le_mul a1 (show x <= 100 by omega) @D @D
   omega
  have c4:¬ ((items.size:Int) * x > (2 ^ 63 - 1) / 8):=by omega
  have c5:Builtin.Tuple.tupleTooMany ((items.size:Int) * x)=false:=by
   unfold Builtin.Tuple.tupleTooMany
   exact decide_eq_false (by have:=(show (10000:Int) <= (sizeLine:Int) by decide);omega)
  wp_walk
  rw [if_neg (by rw [c1];exact ZR)]
  wp_walk using Zl hl
  rw [if_neg (by rw [c2];exact ZR)];show wpAny _ _ (if (decide (x <= 0) || items.isEmpty)=true then _ else _) _ _ _;rw [if_neg (by rw [c3];exact ZR)];show wpAny _ _ (if (items.size:Int) * x > (2 ^ 63 - 1) / 8 then _ else _) _ _ _;rw [if_neg c4];show wpAny _ _ (if Builtin.Tuple.tupleTooMany ((items.size:Int) * x)=true then _ else _) _ _ _;rw [if_neg (by rw [c5];exact ZR)]
  wp_walk
  exact ⟨_,rfl,h⟩
theorem a1k(l:Addr)(items:Array Value)(n:Nat)(dct:Option Addr)(sl:Array @An)(u:Tok) :
  Meets (Builtin.«tuple.__mul__» ⟨[.ref l,.int 1 u],[]⟩) (λ _ R s=>s.heap.get? l=some { cls:=.type "tuple",dict:=dct,data:=.seq items n,slots:=sl }/\R (.ok (.ret (.ref l))) s) :=
 .of_wp λ prog w A R s h=>by
  obtain ⟨hp,g,d,tk,os⟩:=s;obtain ⟨hl,h⟩:=h;have c1:(decide ((1:Int) < -(2 ^ 63)) || decide ((1:Int) ≥ 2 ^ 63))=false:=by decide
  have c2:(items.isEmpty || (1:Int) == 1)=true:=by simp
  wp_walk using Zl hl
  exact ⟨_,rfl,h⟩
theorem a0Y(a:Int)(t:Tok)(l:Addr)(items:Array Value)(n:Nat)(dct:Option Addr)(sl:Array @An) :
  Meets (Builtin.«int.__rmul__» ⟨[.int a t,.ref l],[]⟩) (λ _ R s=>s.heap.get? l=some { cls:=.type "tuple",dict:=dct,data:=.seq items n,slots:=sl }/\R (.ok (.ret Value.notImplemented)) s) :=
 .of_wp λ prog w A R s h=>by obtain ⟨hp,g,d,tk,os⟩:=s;obtain ⟨hl,h⟩:=h;wp_walk using Zl hl;exact ⟨_,rfl,h⟩
theorem V3:fillsNumberSlot (.type "tuple") "mul" = pure false :=
 fillsNumberSlot_seq (id:= "tuple.__mul__") (r:=some (.builtin "tuple.__rmul__")) F.slot_tuple_mul.lookup (by decide +kernel) F.slot_tuple_rmul.lookup (by decide +kernel)
theorem a2y:seqRepeat? (.type "tuple")=pure (some (.builtin "tuple.__mul__")):=by
 unfold seqRepeat?;rw [seqSlot_of (T:= "tuple") (name:= "__mul__") (id:= "tuple.__mul__") F.slot_tuple_mul.lookup (by decide +kernel),seqSlot_of (T:= "tuple") (name:= "__rmul__") (id:= "tuple.__rmul__") F.slot_tuple_rmul.lookup (by decide +kernel)];rfl
end L2
namespace L2
open PySem PySem.Spec PyProof.Rows
section
variable {X:Cx}
def c0K(K:PySem.W.Frag):R2:=λ x y H Q=>∃ a k xs,x = .ref a/\y = .int k/\SqT K H a xs/\xs ≠ []/\xs.length <= 10/\1 <= k/\k < 100/\(k=1->Q @Ax H)/\(2 <= k->∀ p,H p=none->Q (.ref p) (upd H p (.tup (List.replicate k.toNat xs).flatten)))
theorem op_repT:OpR X (binaryOp .Mult) (c0K X.K):=by
 show O;obtain ⟨a,k,xs,rfl,rfl,ha,hx,hl,h1,h2,q1,q2⟩:=h;cases rx;obtain ⟨t,rfl⟩:=ry;obtain ⟨its,r1,p1,_⟩:=I.tuple ha;obtain ⟨⟨cls,dd,data,sl⟩,ho,hc,n,hd⟩:=id p1
 simp only at hc hd
 subst hc hd;have hlen:=r1.length
 refine wpAny_binaryOp_repeat_ref (T:= "tuple") (U:= "int") @B ⟨_,ho,rfl⟩ (λ s'=>typeIs_int s' k t) V3 F.fills_int_mul F.slot_int_rmul a2y F.slot_int_index.lookup
  (call_meets F.slot_int_rmul (typeIs_int s k t) F.entry_int_rmul (F.args_int_rmul_2 _ _) (a0Y k t a its.toArray n dd sl) ⟨ho,rfl,⟨_,ho,rfl⟩,?_⟩)
 by_cases e:k=1
 ·subst e;exact call_meets F.slot_tuple_mul ⟨_,ho,rfl⟩ F.entry_tuple_mul (F.args_tuple_mul_2 _ _) (a1k a its.toArray n dd sl t) ⟨ho,⟨.ref a,H,I,rfl,q1 rfl⟩⟩
 ·have hk:2 <= k:=by omega
  have hne:its.toArray.isEmpty=false:=by
   cases its with
   |nil=>exact absurd (List.length_eq_zero_iff.mp hlen) hx
   |cons b r=>rfl
  have hnew:List.foldl (λ x1 x2=>x1 ++ x2) #[] (List.replicate k.toNat its.toArray)=(List.replicate k.toNat its).flatten.toArray:=by
   have:=W9 its k.toNat []
   rw [Zj] at this;exact this
  have hzz:(List.replicate k.toNat its).flatten.length <= 1000:=by
   rw [a0p,<- hlen]
   have:k.toNat * xs.length <= 99 * 10:=Nat.mul_le_mul @D hl
   omega
  have hz:(List.foldl (λ x1 x2=>x1 ++ x2) #[] (List.replicate k.toNat its.toArray)).size <= sizeLine:=by
   rw [hnew,ZF];exact Zu hzz @B
  refine call_meets F.slot_tuple_mul ⟨_,ho,rfl⟩ F.entry_tuple_mul (F.args_tuple_mul_2 _ _) (a0W a its.toArray n dd sl k t hk h2 hne (by rw [ZF];omega) hz) ⟨ho,?_⟩;rw [hnew];refine ⟨.ref s.heap.objs.size,_,I.laid (t':=s.toks) (o:=.tup (List.replicate k.toNat xs).flatten) (λ b ob q=>ZU _ q) @G ?_,rfl,q2 hk _ (I.hok.fresh @G)⟩;refine ⟨?_,_,r1.rep k.toNat,IsTup.new _ _⟩;rw [a0p,hlen,<- a0p its k.toNat];exact Zu hzz @B
end
end L2
namespace DL
open PySem PySem.Spec L2
inductive D where
 |non | bl (b:Bool) | int (i:Int) | str (x:Str) | tup (xs:List D) | lst (xs:List D) | scr (xs:List D) | ref (i:Nat)
 |exc (cn:Str) (fs:List (Str×Int))
inductive O where
 |lst (xs:List D) | dT (z:Option Obj) (kvs:List @Al) | dK (kvs:List (Key×D)) | ins (cn:Str) (fs:List (Str×D))
structure KP where
 K:PySem.W.Frag
 π:List Addr
def VT(K:KP)(α:List Addr)(H:Hp)(a:Addr)(us:List V):Prop:=a ∉ α/\a ∉ K.π/\H a=some (.tup us)
def VS(K:KP)(α:List Addr)(H:Hp)(a:Addr)(us:List V):Prop :=
 (a ∉ α/\a ∉ K.π/\Rd H a (.lst us))\/∃ (o:Obj) (its:Array Value) (n:Nat),K.K.lookup a=some o/\o.cls = .type "list"/\o.dict=none/\o.data = .seq its n/\its.size <= sizeLine/\Vals us its.toList
def VL(K:KP)(α:List Addr)(H:Hp)(a:Addr)(us:List V):Prop:=a ∉ α/\a ∉ K.π/\H a=some (.lst us)
def VE(K:KP)(α:List Addr)(H:Hp)(a:Addr)(o:HO):Prop:=a ∉ α/\a ∉ K.π/\H a=some o
def b9X(fs:List (Str×Int))(dx:Addr)(h:Heap):Prop:=∃ mA,h.Ns1 dx mA/\PySem.Within mA (fs.map (·.1))/\∀ f,RelO ((fs.lookup f).map V.int) (mA f)
def c2E(C:Addr)(dx:Option Addr)(a:Addr)(h:Heap):Prop:=∃ o vs,h.get? a=some o/\o.cls = .ref C/\o.dict=dx/\o.data = .fields vs
def XQ(K:KP)(α:List Addr)(H:Hp)(dx:Option Addr)(fs:List (Str×Int)):Prop:=(dx=none/\fs=[])\/∃ d,dx=some d/\VE K α H d (.ext (b9X fs d))
theorem XQ.map{K K':KP}{α α':List Addr}{H H':Hp}{dx:Option Addr}{fs:List (Str×Int)}(hE:∀ a o,VE K α H a o->VE K' α' H' a o)(h:XQ K α H dx fs):XQ K' α' H' dx fs:=h.imp id λ ⟨d,e,v⟩=>⟨d,e,hE _ _ v⟩
theorem VT.sq{K:KP}{α:List Addr}{H:Hp}{a:Addr}{us:List V}(h:VT K α H a us):SqT K.K H a us:=.inl (.inl h.2.2)
theorem VS.sq{K:KP}{α:List Addr}{H:Hp}{a:Addr}{us:List V}(h:VS K α H a us):SqL K.K H a us:=by
 rcases h with ⟨_,_,h⟩ | h
 ·exact .inl h
 ·exact .inr h
theorem VL.sq{K:KP}{α:List Addr}{H:Hp}{a:Addr}{us:List V}(h:VL K α H a us):SqL K.K H a us:=SqL.of h.2.2
mutual
inductive RelD(K:KP)(α:List Addr)(H:Hp):D->V->Prop
 |non:RelD K α H .non .non
 |bl (b:Bool):RelD K α H (.bl b) (.bl b)
 |int (i:Int):RelD K α H (.int i) (.int i)
 |str (x:Str):RelD K α H (.str x) (.str x)
 |tup {a:Addr} {us:List V} {ds:List D}:VT K α H a us->RelDs K α H ds us->RelD K α H (.tup ds) @Ax
 |lst {a:Addr} {us:List V} {ds:List D}:VL K α H a us->RelDs K α H ds us->RelD K α H (.lst ds) @Ax
 |scr {a:Addr} {us:List V} {ds:List D}:VS K α H a us->RelDs K α H ds us->RelD K α H (.scr ds) @Ax
 |ref {i:Nat} {a:Addr}:α[i]?=some a->RelD K α H (.ref i) @Ax
 |exc {a C:Addr} {dx:Option Addr} {cn:Str} {fs:List (Str×Int)}:PySem.W.nsIn K.K mainGlobals cn=some (some @AS)->VE K α H a (.ext (c2E C dx a))->XQ K α H dx fs->RelD K α H (.exc cn fs) @Ax
inductive RelDs(K:KP)(α:List Addr)(H:Hp):List D->List V->Prop
 |nil:RelDs K α H [] []
 |cons {d:D} {u:V} {ds:List D} {us:List V}:RelD K α H d u->RelDs K α H ds us->RelDs K α H (d :: ds) (u :: us)
end
theorem RelD.map{K K':KP}{α α':List Addr}{H H':Hp}(hK:K'.K=K.K)(hT:∀ a us,VT K α H a us->VT K' α' H' a us)(hL:∀ a us,VL K α H a us->VL K' α' H' a us)(hS:∀ a us,VS K α H a us->VS K' α' H' a us)(hE:∀ a o,VE K α H a o->VE K' α' H' a o)
  (hR:∀ (i:Nat) (a:Addr),α[i]?=some a->α'[i]?=some a) {d:D} {v:V} (r:RelD K α H d v):RelD K' α' H' d v :=
 RelD.rec (motive_1:=λ d v _=>RelD K' α' H' d v) (motive_2:=λ ds us _=>RelDs K' α' H' ds us) .non .bl .int .str (λ t _ r=>.tup (hT _ _ t) r) (λ t _ r=>.lst (hL _ _ t) r) (λ t _ r=>.scr (hS _ _ t) r) (λ h=>.ref (hR _ _ h)) (λ n t r=>.exc (by rw [hK];exact n) (hE _ _ t) (r.map hE)) .nil (λ _ _ r t=>.cons r t) r
theorem RelDs.map{K K':KP}{α α':List Addr}{H H':Hp}(hK:K'.K=K.K)(hT:∀ a us,VT K α H a us->VT K' α' H' a us)(hL:∀ a us,VL K α H a us->VL K' α' H' a us)(hS:∀ a us,VS K α H a us->VS K' α' H' a us)(hE:∀ a o,VE K α H a o->VE K' α' H' a o)
  (hR:∀ (i:Nat) (a:Addr),α[i]?=some a->α'[i]?=some a) {ds:List D} {us:List V} (r:RelDs K α H ds us):RelDs K' α' H' ds us:=by
 induction ds generalizing us with
 |nil=>cases r;exact .nil
 |cons d ds ih=>cases r with | cons h t=>exact .cons (h.map hK hT hL hS hE hR) (ih t)
structure Ext(α:List Addr)(H:Hp)(α':List Addr)(H':Hp):Prop where
 pre:∃ β,α'=α ++ β/\∀ p ∈ β,H p=none
 keep:∀ b o,H b=some o->b ∉ α->H' b=some o
 dom:∀ b,H' b=none->H b=none
theorem Ext.refl(α:List Addr)(H:Hp):Ext α H α H:=⟨⟨[],by simp,λ p h=>nomatch h⟩,λ _ _ h _=>h,λ _ h=>h⟩
theorem Ext.out{α α':List Addr}{H H':Hp}(e:Ext α H α' H'){a:Addr}{o:HO}(h:a ∉ α)(ho:H a=some o):a ∉ α':=by
 obtain ⟨⟨β,rfl,hb⟩,_⟩:=e;intro z
 rcases List.mem_append.mp z with z | z
 ·exact h z
 ·rw [hb a z] at ho;cases ho
theorem Ext.trans{α α' α'':List Addr}{H H' H'':Hp}(e:Ext α H α' H')(f:Ext α' H' α'' H''):Ext α H α'' H'':=by
 refine ⟨?_,λ b o h n=>f.keep b o (e.keep b o h n) (e.out n h),λ b h=>e.dom b (f.dom b h)⟩;obtain ⟨⟨β,rfl,hb⟩,k,d⟩:=e;obtain ⟨⟨γ,rfl,hc⟩,_⟩:=f;refine ⟨β ++ γ,by simp,λ p hp=>?_⟩
 rcases List.mem_append.mp hp with z | z
 ·exact hb p z
 ·exact d p (hc p z)
theorem Ext.get{α α':List Addr}{H H':Hp}(e:Ext α H α' H'){i:Nat}{a:Addr}(h:α[i]?=some a):α'[i]?=some a:=by
 obtain ⟨⟨β,rfl,_⟩,_⟩:=e;have hi:i < α.length:=(ZY.mp h).1;rw [ZN hi];exact h
theorem Ext.new{α:List Addr}{H:Hp}{p:Addr}{o:HO}(h:H p=none):Ext α H α (upd H p o) :=
 ⟨⟨[],by simp,λ p h=>nomatch h⟩,λ b u e _=>by rw [k9 (A2 e h)];exact e,λ b e=>by
  by_cases z:b=p
  ·subst z;rw [j3] at e;cases e
  ·rw [k9 z] at e;exact e⟩
theorem Ext.newT{α:List Addr}{H:Hp}{p:Addr}{o:HO}(h:H p=none):Ext α H (α ++ [p]) (upd H p o) :=
 ⟨⟨[p],rfl,λ q hq=>by rw [ZX.mp hq];exact h⟩,(Ext.new h).keep (α:=α),(Ext.new (α:=α) h).dom⟩
theorem Ext.write{α:List Addr}{H:Hp}{p:Addr}{o:HO}(h:p ∈ α):Ext α H α (upd H p o) :=
 ⟨⟨[],by simp,λ p h=>nomatch h⟩,λ b u e n=>by rw [k9 (λ (z:b=p)=>n (by rw [z];exact h))];exact e,λ b e=>by
  by_cases z:b=p
  ·subst z;rw [j3] at e;cases e
  ·rw [k9 z] at e;exact e⟩
theorem VT.mono{K:KP}{α α':List Addr}{H H':Hp}(e:Ext α H α' H'){a:Addr}{us:List V}(h:VT K α H a us):VT K α' H' a us:=⟨e.out h.1 h.2.2,h.2.1,e.keep _ _ h.2.2 h.1⟩
theorem VS.mono{K:KP}{α α':List Addr}{H H':Hp}(e:Ext α H α' H'){a:Addr}{us:List V}(h:VS K α H a us):VS K α' H' a us:=by
 rcases h with ⟨n,m,h | ⟨o,h⟩⟩ | h
 ·exact .inl ⟨e.out n h,m,.inl (e.keep _ _ h n)⟩
 ·exact .inl ⟨e.out n h,m,.inr ⟨o,e.keep _ _ h n⟩⟩
 ·exact .inr h
theorem VL.mono{K:KP}{α α':List Addr}{H H':Hp}(e:Ext α H α' H'){a:Addr}{us:List V}(h:VL K α H a us):VL K α' H' a us:=⟨e.out h.1 h.2.2,h.2.1,e.keep _ _ h.2.2 h.1⟩
theorem VE.mono{K:KP}{α α':List Addr}{H H':Hp}(e:Ext α H α' H'){a:Addr}{u:HO}(h:VE K α H a u):VE K α' H' a u:=⟨e.out h.1 h.2.2,h.2.1,e.keep _ _ h.2.2 h.1⟩
theorem RelD.mono{K:KP}{α α':List Addr}{H H':Hp}(e:Ext α H α' H'){d:D}{v:V}(r:RelD K α H d v):RelD K α' H' d v:=r.map rfl (λ _ _ t=>t.mono e) (λ _ _ t=>t.mono e) (λ _ _ t=>t.mono e) (λ _ _ t=>t.mono e) (λ _ _ h=>e.get h)
theorem RelDs.mono{K:KP}{α α':List Addr}{H H':Hp}(e:Ext α H α' H'){ds:List D}{us:List V}(r:RelDs K α H ds us):RelDs K α' H' ds us:=r.map rfl (λ _ _ t=>t.mono e) (λ _ _ t=>t.mono e) (λ _ _ t=>t.mono e) (λ _ _ t=>t.mono e) (λ _ _ h=>e.get h)
section
variable {K:KP} {α α':List Addr} {H H':Hp}
theorem RelDs.length:∀ {ds:List D} {us:List V},RelDs K α H ds us->ds.length=us.length
 |_,_,.nil=>rfl
 |_,_,.cons _ t=>by rw [Zw,Zw,RelDs.length t]
theorem RelDs.get:∀ {ds:List D} {us:List V} {i:Nat} {d:D},RelDs K α H ds us->ds[i]?=some d->∃ u,us[i]?=some u/\RelD K α H d u
 |_,_,_,_,.nil,e=>by simp at e
 |_,_,0,_,.cons r _,e=>by simp at e;subst e;exact ⟨_,rfl,r⟩
 |_,_,i + 1,d,.cons _ t,e=>by
  obtain ⟨u,h1,h2⟩:=RelDs.get (i:=i) (d:=d) t (by simpa using e);exact ⟨u,by simpa using h1,h2⟩
theorem RelDs.append:∀ {ds es:List D} {us ws:List V},RelDs K α H ds us->RelDs K α H es ws->RelDs K α H (ds ++ es) (us ++ ws)
 |_,_,_,_,.nil,s=>s
 |_,_,_,_,.cons r t,s=>.cons r (RelDs.append t s)
theorem RelDs.take:∀ {ds:List D} {us:List V} (n:Nat),RelDs K α H ds us->RelDs K α H (ds.take n) (us.take n)
 |_,_,0,_=>.nil
 |_,_,_ + 1,.nil=>.nil
 |_,_,n + 1,.cons r t=>.cons r (RelDs.take n t)
theorem RelDs.drop:∀ {ds:List D} {us:List V} (n:Nat),RelDs K α H ds us->RelDs K α H (ds.drop n) (us.drop n)
 |_,_,0,r=>r
 |_,_,_ + 1,.nil=>.nil
 |_,_,n + 1,.cons _ t=>RelDs.drop n t
theorem RelDs.set{d:D}{u:V}(r:RelD K α H d u):∀ {ds:List D} {us:List V} (i:Nat),RelDs K α H ds us->RelDs K α H (ds.set i d) (us.set i u)
 |_,_,_,.nil=>.nil
 |_,_,0,.cons _ t=>.cons r t
 |_,_,i + 1,.cons q t=>.cons q (RelDs.set r i t)
theorem RelDs.dropLast{ds:List D}{us:List V}(r:RelDs K α H ds us):RelDs K α H ds.dropLast us.dropLast:=by
 rw [List.dropLast_eq_take,List.dropLast_eq_take,r.length];exact r.take _
theorem RelDs.snoc{ds:List D}{us:List V}{d:D}{u:V}(r:RelDs K α H ds us)(h:RelD K α H d u):RelDs K α H (ds ++ [d]) (us ++ [u]):=r.append (.cons h .nil)
theorem RelDs.ints:∀ ns:List Int,RelDs K α H @AP (ns.map V.int)
 |[]=>.nil
 |n :: r=>.cons (.int n) (RelDs.ints r)
theorem RelDs.ints_inv{ns:List Int}{us:List V}(r:RelDs K α H @AP us):us=ns.map V.int:=by
 induction ns generalizing us with
 |nil=>cases r;rfl
 |cons n ns ih=>cases r with | cons h t=>cases h;rw [ih t];rfl
theorem RelDs.bls_inv{bs:List Bool}{us:List V}(r:RelDs K α H (bs.map D.bl) us):us=bs.map V.bl:=by
 induction bs generalizing us with
 |nil=>cases r;rfl
 |cons n ns ih=>cases r with | cons h t=>cases h;rw [ih t];rfl
theorem RelDs.inv1{d:D}{us:List V}(h:RelDs K α H [d] us):∃ u,us=[u]/\RelD K α H d u:=by
 cases h with
 |cons r t=>cases t;exact ⟨_,rfl,r⟩
theorem RelDs.inv2{d e:D}{us:List V}(h:RelDs K α H [d,e] us):∃ u v,us=[u,v]/\RelD K α H d u/\RelD K α H e v:=by
 cases h with
 |cons r t =>
  obtain ⟨v,rfl,q⟩:=t.inv1;exact ⟨_,_,rfl,r,q⟩
end
inductive RelKV(K:KP)(α:List Addr)(H:Hp){κ:Type}:List (κ×D)->List (κ×V)->Prop
 |nil:RelKV K α H [] []
 |cons {k:κ} {d:D} {u:V} {ds:List (κ×D)} {us:List (κ×V)}:RelD K α H d u->RelKV K α H ds us->RelKV K α H ((k,d) :: ds) ((k,u) :: us)
theorem RelKV.mono{K:KP}{α α':List Addr}{H H':Hp}{κ:Type}(e:Ext α H α' H'){ds:List (κ×D)}{us:List (κ×V)}(r:RelKV K α H ds us):RelKV K α' H' ds us:=by
 induction r with
 |nil=>exact .nil
 |cons h t ih=>exact .cons (h.mono e) ih
def c1J:Option Obj->HO->HO
 |none,u=>u
 |some o,u=>.frz o u
inductive RelO'(K:KP)(α:List Addr)(H:Hp)(p:Addr):O->Prop
 |lst {xs:List D} {us:List V}:H p=some (.lst us)->RelDs K α H xs us->RelO' K α H p @X
 |dT {z:Option Obj} {kvs:List @Al} {us:List @As}:H p=some (c1J z (.dT us))->RelKV K α H kvs us->RelO' K α H p (.dT z kvs)
 |dK {kvs:List (Key×D)} {us:List (Key×V)}:H p=some (.dK us)->RelKV K α H kvs us->RelO' K α H p (.dK kvs)
 |ins {C dx:Addr} {cn:Str} {fs:List (Str×D)} {us:List (Str×V)}:PySem.W.nsIn K.K mainGlobals cn=some (some @AS)->H p=some (.ins C dx us)->RelKV K α H fs us->RelO' K α H p (.ins cn fs)
def NoT(o:Option HO):Prop:=o ≠ none/\∀ us,o ≠ some (.tup us)
structure HRel(K:KP)(α:List Addr)(H:Hp)(h:List O):Prop where
 len:α.length=h.length
 nd:α.Nodup
 dis:∀ p ∈ K.π,p ∉ α/\NoT (H p)
 obj:∀ (i:Nat) (o:O),h[i]?=some o->∃ p,α[i]?=some p/\RelO' K α H p o
theorem NoT.ext{α α':List Addr}{H H':Hp}{p:Addr}(h:NoT (H p))(e:Ext α H α' H')(n:p ∉ α):NoT (H' p):=by
 cases q:H p with
 |none=>exact absurd q h.1
 |some o =>
  rw [e.keep p o q n];show X;exact h
theorem RelO'.mono{K:KP}{α α':List Addr}{H H':Hp}(e:Ext α H α' H'){p:Addr}{o:O}(r:RelO' K α H p o)(k:H' p=H p):RelO' K α' H' p o:=by
 cases r with
 |lst h t=>exact .lst (k.trans h) (t.mono e)
 |dT h t=>exact .dT (k.trans h) (t.mono e)
 |dK h t=>exact .dK (k.trans h) (t.mono e)
 |ins n h t=>exact .ins n (k.trans h) (t.mono e)
section
variable {K:KP} {α α':List Addr} {H H':Hp} {h:List O}
theorem HRel.some_(R:HRel K α H h){p:Addr}(hp:p ∈ α):∃ o,H p=some o:=by
 obtain ⟨i,hi,rfl⟩:=List.getElem_of_mem hp;have hh:i < h.length:=by rw [<- R.len];exact hi
 obtain ⟨q,e,r⟩:=R.obj i h[i] (ZZ hh);rw [ZZ hi] at e;cases e;generalize h[i]=o at r
 cases r with
 |lst h t=>exact ⟨_,h⟩
 |dT h t=>exact ⟨_,h⟩
 |dK h t=>exact ⟨_,h⟩
 |ins n h t=>exact ⟨_,h⟩
theorem HRel.out(R:HRel K α H h){p:Addr}(hp:H p=none):p ∉ α:=λ z=>by
 obtain ⟨o,e⟩:=R.some_ z;rw [hp] at e;cases e
theorem HRel.same(R:HRel K α H h)(e:Ext α H α H')(k:∀ p ∈ α,H' p=H p):HRel K α H' h :=
 ⟨R.len,R.nd,λ p hp=>⟨(R.dis p hp).1,(R.dis p hp).2.ext e (R.dis p hp).1⟩,λ i o q=>by
  obtain ⟨p,ep,r⟩:=R.obj i o q;exact ⟨p,ep,r.mono e (k p (ZT ep))⟩⟩
theorem HRel.new(R:HRel K α H h){p:Addr}{o:HO}(hp:H p=none):HRel K α (upd H p o) h :=
 R.same (Ext.new hp) λ q hq=>k9 λ z=>R.out hp (z ▸ hq)
theorem HRel.newT(R:HRel K α H h){p:Addr}{o:HO}{u:O}(hp:H p=none)(r:RelO' K (α ++ [p]) (upd H p o) p u):HRel K (α ++ [p]) (upd H p o) (h ++ [u]):=by
 have np:=R.out hp;refine ⟨by simp [R.len],?_,λ q hq=>⟨λ z=>?_,(R.dis q hq).2.ext (Ext.new (α:=α) hp) (R.dis q hq).1⟩,λ i v q=>?_⟩
 ·rw [List.nodup_append];exact ⟨R.nd,by simp,λ a ha b hb=>by rw [ZX.mp hb];exact λ z=>np (z ▸ ha)⟩
 ·rcases List.mem_append.mp z with z | z
  ·exact (R.dis q hq).1 z
  ·rw [ZX.mp z] at hq;exact (R.dis p hq).2.1 hp
 ·by_cases hi:i < h.length
  ·rw [ZN hi] at q;obtain ⟨a,ea,ra⟩:=R.obj i v q;refine ⟨a,(Ext.newT (o:=o) hp).get ea,ra.mono (Ext.newT hp) (k9 λ z=>np (z ▸ ZT ea))⟩
  ·have hi':i=h.length:=by
    have:=(ZY.mp q).1
    rw [ZW,ZL] at this;omega
   subst hi';rw [ZA @G] at q
   simp at q;subst q;exact ⟨p,by rw [ZA (by rw [R.len];exact ZV _),R.len];simp,r⟩
theorem HRel.write(R:HRel K α H h){p:Addr}{i:Nat}{o:HO}{u:O}(hp:α[i]?=some p)(r:RelO' K α (upd H p o) p u):HRel K α (upd H p o) (h.set i u):=by
 have hm:=ZT hp;refine ⟨by simp [R.len],R.nd,λ q hq=>⟨(R.dis q hq).1,(R.dis q hq).2.ext (Ext.write (H:=H) (o:=o) hm) (R.dis q hq).1⟩,λ j v q=>?_⟩
 by_cases e:i=j
 ·subst e
  have hi:i < h.length:=by
   have:=(ZY.mp q).1
   simpa using this
  rw [ZH hi] at q;cases q;exact ⟨p,hp,r⟩
 ·rw [Zx e] at q;obtain ⟨a,ea,ra⟩:=R.obj j v q;refine ⟨a,ea,ra.mono (Ext.write hm) (k9 λ z=>e ?_)⟩;subst z;exact (List.getElem?_inj (ZY.mp hp).1 R.nd).mp (hp.trans ea.symm)
theorem HRel.lst(R:HRel K α H h){i:Nat}{xs:List D}(e:h[i]?=some @X):∃ p us,α[i]?=some p/\H p=some (.lst us)/\RelDs K α H xs us:=by
 obtain ⟨p,ep,r⟩:=R.obj i _ e
 cases r with
 |lst h t=>exact ⟨p,_,ep,h,t⟩
theorem HRel.dT(R:HRel K α H h){i:Nat}{z:Option Obj}{xs:List @Al}(e:h[i]?=some (.dT z xs)):∃ p us,α[i]?=some p/\H p=some (c1J z (.dT us))/\RelKV K α H xs us:=by
 obtain ⟨p,ep,r⟩:=R.obj i _ e
 cases r with
 |dT h t=>exact ⟨p,_,ep,h,t⟩
theorem HRel.dK(R:HRel K α H h){i:Nat}{xs:List (Key×D)}(e:h[i]?=some (.dK xs)):∃ p us,α[i]?=some p/\H p=some (.dK us)/\RelKV K α H xs us:=by
 obtain ⟨p,ep,r⟩:=R.obj i _ e
 cases r with
 |dK h t=>exact ⟨p,_,ep,h,t⟩
theorem HRel.ins(R:HRel K α H h){i:Nat}{cn:Str}{xs:List (Str×D)}(e:h[i]?=some (.ins cn xs)):∃ p C dx us,PySem.W.nsIn K.K mainGlobals cn=some (some @AS)/\α[i]?=some p/\H p=some (.ins C dx us)/\RelKV K α H xs us:=by
 obtain ⟨p,ep,r⟩:=R.obj i _ e
 cases r with
 |ins n h t=>exact ⟨p,_,_,_,n,ep,h,t⟩
end
theorem HRel.outP{K:KP}{α:List Addr}{H:Hp}{h:List O}(R:HRel K α H h){p:Addr}(hp:H p=none):p ∉ K.π:=λ z=>(R.dis p z).2.1 hp
structure Z4(D:Addr)(H H':Hp):Prop where
 same:∀ b,b ≠ D->H' b=H b
theorem VT.priv{K:KP}{α:List Addr}{H H':Hp}{D a:Addr}{us:List V}(e:Z4 D H H')(hD:D ∈ K.π)(h:VT K α H a us):VT K α H' a us :=
 ⟨h.1,h.2.1,(e.same a λ z=>h.2.1 (z ▸ hD)).trans h.2.2⟩
theorem VS.priv{K:KP}{α:List Addr}{H H':Hp}{D a:Addr}{us:List V}(e:Z4 D H H')(hD:D ∈ K.π)(h:VS K α H a us):VS K α H' a us:=by
 rcases h with ⟨n,m,h⟩ | h
 ·have z:a ≠ D:=λ z=>m (z ▸ hD);refine .inl ⟨n,m,?_⟩;unfold Rd at h ⊢;rw [e.same a z];exact h
 ·exact .inr h
theorem VL.priv{K:KP}{α:List Addr}{H H':Hp}{D a:Addr}{us:List V}(e:Z4 D H H')(hD:D ∈ K.π)(h:VL K α H a us):VL K α H' a us :=
 ⟨h.1,h.2.1,(e.same a λ z=>h.2.1 (z ▸ hD)).trans h.2.2⟩
theorem VE.priv{K:KP}{α:List Addr}{H H':Hp}{D a:Addr}{u:HO}(e:Z4 D H H')(hD:D ∈ K.π)(h:VE K α H a u):VE K α H' a u :=
 ⟨h.1,h.2.1,(e.same a λ z=>h.2.1 (z ▸ hD)).trans h.2.2⟩
theorem RelD.priv{K:KP}{α:List Addr}{H H':Hp}{D':Addr}(e:Z4 D' H H')(hD:D' ∈ K.π){d:D}{v:V}(r:RelD K α H d v):RelD K α H' d v:=r.map rfl (λ _ _ t=>t.priv e hD) (λ _ _ t=>t.priv e hD) (λ _ _ t=>t.priv e hD) (λ _ _ t=>t.priv e hD) (λ _ _ h=>h)
theorem RelDs.priv{K:KP}{α:List Addr}{H H':Hp}{D':Addr}(e:Z4 D' H H')(hD:D' ∈ K.π){ds:List D}{us:List V}(r:RelDs K α H ds us):RelDs K α H' ds us:=r.map rfl (λ _ _ t=>t.priv e hD) (λ _ _ t=>t.priv e hD) (λ _ _ t=>t.priv e hD) (λ _ _ t=>t.priv e hD) (λ _ _ h=>h)
theorem RelKV.priv{K:KP}{α:List Addr}{H H':Hp}{D':Addr}{κ:Type}(e:Z4 D' H H')(hD:D' ∈ K.π){ds:List (κ×D)}{us:List (κ×V)}(r:RelKV K α H ds us):RelKV K α H' ds us:=by
 induction r with
 |nil=>exact .nil
 |cons h t ih=>exact .cons (h.priv e hD) ih
theorem HRel.priv{K:KP}{α:List Addr}{H H':Hp}{h:List O}{D':Addr}(e:Z4 D' H H')(hD:D' ∈ K.π)(hs:NoT (H' D'))(R:HRel K α H h):HRel K α H' h :=
 ⟨R.len,R.nd,λ p hp=>⟨(R.dis p hp).1,by
  by_cases z:p=D'
  ·rw [z];exact hs
  ·rw [e.same p z];exact (R.dis p hp).2⟩,λ i o q=>by
  obtain ⟨p,ep,r⟩:=R.obj i o q;have z:p ≠ D':=λ z=>(R.dis D' hD).1 (z ▸ ZT ep);refine ⟨p,ep,?_⟩
  cases r with
  |lst h t=>exact .lst ((e.same p z).trans h) (t.priv e hD)
  |dT h t=>exact .dT ((e.same p z).trans h) (t.priv e hD)
  |dK h t=>exact .dK ((e.same p z).trans h) (t.priv e hD)
  |ins n h t=>exact .ins n ((e.same p z).trans h) (t.priv e hD)⟩
theorem VT.more{K:PySem.W.Frag}{π π':List Addr}{α:List Addr}{H:Hp}{a:Addr}{us:List V}(s:∀ p ∈ π',p ∈ π\/H p=none)(h:VT ⟨K,π⟩ α H a us):VT ⟨K,π'⟩ α H a us :=
 ⟨h.1,λ z=>(s a z).elim h.2.1 (λ w=>by rw [h.2.2] at w;exact nomatch w),h.2.2⟩
theorem VS.more{K:PySem.W.Frag}{π π':List Addr}{α:List Addr}{H:Hp}{a:Addr}{us:List V}(s:∀ p ∈ π',p ∈ π\/H p=none)(h:VS ⟨K,π⟩ α H a us):VS ⟨K,π'⟩ α H a us:=by
 rcases h with ⟨n,m,h⟩ | h
 ·refine .inl ⟨n,λ z=>?_,h⟩
  rcases s a z with z | z
  ·exact m z
  ·rcases h with h | ⟨o,h⟩ <;> rw [z] at h <;> cases h
 ·exact .inr h
theorem VL.more{K:PySem.W.Frag}{π π':List Addr}{α:List Addr}{H:Hp}{a:Addr}{us:List V}(s:∀ p ∈ π',p ∈ π\/H p=none)(h:VL ⟨K,π⟩ α H a us):VL ⟨K,π'⟩ α H a us :=
 ⟨h.1,λ z=>(s a z).elim h.2.1 (λ w=>by rw [h.2.2] at w;exact nomatch w),h.2.2⟩
theorem VE.more{K:PySem.W.Frag}{π π':List Addr}{α:List Addr}{H:Hp}{a:Addr}{u:HO}(s:∀ p ∈ π',p ∈ π\/H p=none)(h:VE ⟨K,π⟩ α H a u):VE ⟨K,π'⟩ α H a u :=
 ⟨h.1,λ z=>(s a z).elim h.2.1 (λ w=>by rw [h.2.2] at w;exact nomatch w),h.2.2⟩
theorem RelD.more{K:PySem.W.Frag}{π π':List Addr}{α:List Addr}{H:Hp}(s:∀ p ∈ π',p ∈ π\/H p=none){d:D}{v:V}(r:RelD ⟨K,π⟩ α H d v):RelD ⟨K,π'⟩ α H d v:=r.map (K:=⟨K,π⟩) (K':=⟨K,π'⟩) rfl (λ _ _ t=>t.more s) (λ _ _ t=>t.more s) (λ _ _ t=>t.more s) (λ _ _ t=>t.more s) (λ _ _ h=>h)
theorem RelDs.more{K:PySem.W.Frag}{π π':List Addr}{α:List Addr}{H:Hp}(s:∀ p ∈ π',p ∈ π\/H p=none){ds:List D}{us:List V}(r:RelDs ⟨K,π⟩ α H ds us):RelDs ⟨K,π'⟩ α H ds us:=r.map (K:=⟨K,π⟩) (K':=⟨K,π'⟩) rfl (λ _ _ t=>t.more s) (λ _ _ t=>t.more s) (λ _ _ t=>t.more s) (λ _ _ t=>t.more s) (λ _ _ h=>h)
theorem RelKV.more{K:PySem.W.Frag}{π π':List Addr}{α:List Addr}{H:Hp}{κ:Type}(s:∀ p ∈ π',p ∈ π\/H p=none){ds:List (κ×D)}{us:List (κ×V)}(r:RelKV ⟨K,π⟩ α H ds us):RelKV ⟨K,π'⟩ α H ds us:=by
 induction r with
 |nil=>exact .nil
 |cons h t ih=>exact .cons (h.more s) ih
theorem HRel.more{K:PySem.W.Frag}{π π':List Addr}{α:List Addr}{H:Hp}{h:List O}(s:∀ p ∈ π',p ∈ π\/H p=none)(d:∀ p ∈ π',p ∉ α/\NoT (H p))(R:HRel ⟨K,π⟩ α H h):HRel ⟨K,π'⟩ α H h :=
 ⟨R.len,R.nd,d,λ i o q=>by
  obtain ⟨p,ep,r⟩:=R.obj i o q;refine ⟨p,ep,?_⟩
  cases r with
  |lst h t=>exact .lst h (t.more s)
  |dT h t=>exact .dT h (t.more s)
  |dK h t=>exact .dK h (t.more s)
  |ins n h t=>exact .ins n h (t.more s)⟩
abbrev Sl:=List (Option D)
abbrev Hh:=List O
abbrev DK:=D->Hh->Prop
abbrev DE:=Sl->Hh->DK->Prop
abbrev DT:=Sl->Hh->(Bool->Hh->Prop)->Prop
abbrev DA:=Sl->Hh->(List D->Hh->Prop)->Prop
abbrev DX:=Str->List (Str×Int)->Hh->Prop
structure G3 where
 nx:Sl->Hh->Prop
 rt:DK
 bk:Sl->Hh->Prop:=λ _ _=>False
 ct:Sl->Hh->Prop:=λ _ _=>False
 ex:DX:=λ _ _ _=>False
abbrev DS:=G3->Sl->Hh->Prop
abbrev DG:=D->Sl->Hh->(Sl->Hh->Prop)->Prop
abbrev DGs:=List D->Sl->Hh->(Sl->Hh->Prop)->Prop
structure RelS(K:KP)(α:List Addr)(H:Hp)(δ:Sl)(σ:St):Prop where
 len:δ.length=σ.length
 get:∀ (i:Nat) (d:D),δ[i]?=some (some d)->∃ v,σ[i]?=some (some v)/\RelD K α H d v
theorem RelS.mono{K:KP}{α α':List Addr}{H H':Hp}{δ:Sl}{σ:St}(e:Ext α H α' H')(r:RelS K α H δ σ):RelS K α' H' δ σ :=
 ⟨r.len,λ i d q=>let ⟨v,h1,h2⟩:=r.get i d q;⟨v,h1,h2.mono e⟩⟩
theorem RelS.set{K:KP}{α:List Addr}{H:Hp}{δ:Sl}{σ:St}{d:D}{v:V}(r:RelS K α H δ σ)(i:Nat)(h:RelD K α H d v):RelS K α H (δ.set i (some d)) (σ.set i (some v)):=by
 refine ⟨by simp [r.len],λ j e q=>?_⟩
 by_cases z:i=j
 ·subst z
  have hi:i < δ.length:=by
   have:=(ZY.mp q).1
   simpa using this
  rw [ZH hi] at q;cases q;exact ⟨v,ZH (by rw [<- r.len];exact hi),h⟩
 ·rw [Zx z] at q;obtain ⟨w,h1,h2⟩:=r.get j e q;exact ⟨w,by rw [Zx z];exact h1,h2⟩
inductive LE(K:PySem.W.Frag)(f:DE)(σ:St)(H:Hp)(Q:VK):Prop
 |mk (π:List Addr) (α:List Addr) (δ:Sl) (h:Hh) (Q':DK):HRel ⟨K,π⟩ α H h->RelS ⟨K,π⟩ α H δ σ->f δ h Q'->(∀ d h' α' H' v,Q' d h'->Ext α H α' H'->HRel ⟨K,π⟩ α' H' h'->RelD ⟨K,π⟩ α' H' d v->Q v H')->LE K f σ H Q
inductive LT(K:PySem.W.Frag)(f:DT)(σ:St)(H:Hp)(Q:Bool->Hp->Prop):Prop
 |mk (π:List Addr) (α:List Addr) (δ:Sl) (h:Hh) (Q':Bool->Hh->Prop):HRel ⟨K,π⟩ α H h->RelS ⟨K,π⟩ α H δ σ->f δ h Q'->(∀ b h' α' H',Q' b h'->Ext α H α' H'->HRel ⟨K,π⟩ α' H' h'->Q b H')->LT K f σ H Q
inductive LA(K:PySem.W.Frag)(n:Nat)(f:DA)(σ:St)(H:Hp)(Q:List V->Hp->Prop):Prop
 |mk (π:List Addr) (α:List Addr) (δ:Sl) (h:Hh) (Q':List D->Hh->Prop):HRel ⟨K,π⟩ α H h->RelS ⟨K,π⟩ α H δ σ->f δ h Q'->(∀ ds h' α' H' vs,Q' ds h'->Ext α H α' H'->HRel ⟨K,π⟩ α' H' h'->RelDs ⟨K,π⟩ α' H' ds vs->ds.length=n->Q vs H')->LA K n f σ H Q
structure EndsOk(K:KP)(Ex:XK)(α:List Addr)(H:Hp)(E:G3)(F:a0O):Prop where
 nx:∀ δ' h' α' H' σ',E.nx δ' h'->Ext α H α' H'->HRel K α' H' h'->RelS K α' H' δ' σ'->F.nx σ' H'
 rt:∀ d h' α' H' v,E.rt d h'->Ext α H α' H'->HRel K α' H' h'->RelD K α' H' d v->F.rt v H'
 bk:∀ δ' h' α' H' σ',E.bk δ' h'->Ext α H α' H'->HRel K α' H' h'->RelS K α' H' δ' σ'->F.bk σ' H'
 ct:∀ δ' h' α' H' σ',E.ct δ' h'->Ext α H α' H'->HRel K α' H' h'->RelS K α' H' δ' σ'->F.ct σ' H'
 ex:∀ cn fs h' α' H' C dx,E.ex cn fs h'->Ext α H α' H'->HRel K α' H' h'->PySem.W.nsIn K.K mainGlobals cn=some (some @AS)->XQ K α' H' dx fs->Ex @AS dx H'
theorem EndsOk.mono{K:KP}{Ex:XK}{α α':List Addr}{H H':Hp}{E:G3}{F:a0O}(x:EndsOk K Ex α H E F)(e:Ext α H α' H'):EndsOk K Ex α' H' E F :=
 ⟨λ _ _ _ _ _ a b c d=>x.nx _ _ _ _ _ a (e.trans b) c d,λ _ _ _ _ _ a b c d=>x.rt _ _ _ _ _ a (e.trans b) c d,λ _ _ _ _ _ a b c d=>x.bk _ _ _ _ _ a (e.trans b) c d,λ _ _ _ _ _ a b c d=>x.ct _ _ _ _ _ a (e.trans b) c d,λ _ _ _ _ _ _ _ a b c d=>x.ex _ _ _ _ _ _ _ a (e.trans b) c d⟩
inductive LS(K:PySem.W.Frag)(Ex:XK)(f:DS)(F:a0O)(σ:St)(H:Hp):Prop
 |mk (π:List Addr) (α:List Addr) (δ:Sl) (h:Hh) (E:G3):HRel ⟨K,π⟩ α H h->RelS ⟨K,π⟩ α H δ σ->f E δ h->EndsOk ⟨K,π⟩ Ex α H E F->LS K Ex f F σ H
inductive LG(K:PySem.W.Frag)(f:DG)(v:V)(σ:St)(H:Hp)(Q:St->Hp->Prop):Prop
 |mk (π:List Addr) (α:List Addr) (δ:Sl) (h:Hh) (d:D) (Q':Sl->Hh->Prop):HRel ⟨K,π⟩ α H h->RelS ⟨K,π⟩ α H δ σ->RelD ⟨K,π⟩ α H d v->f d δ h Q'->(∀ δ' h' α' H' σ',Q' δ' h'->Ext α H α' H'->HRel ⟨K,π⟩ α' H' h'->RelS ⟨K,π⟩ α' H' δ' σ'->Q σ' H')->LG K f v σ H Q
inductive LGs(K:PySem.W.Frag)(f:DGs)(vs:List V)(σ:St)(H:Hp)(Q:St->Hp->Prop):Prop
 |mk (π:List Addr) (α:List Addr) (δ:Sl) (h:Hh) (ds:List D) (Q':Sl->Hh->Prop):HRel ⟨K,π⟩ α H h->RelS ⟨K,π⟩ α H δ σ->RelDs ⟨K,π⟩ α H ds vs->f ds δ h Q'->(∀ δ' h' α' H' σ',Q' δ' h'->Ext α H α' H'->HRel ⟨K,π⟩ α' H' h'->RelS ⟨K,π⟩ α' H' δ' σ'->Q σ' H')->LGs K f vs σ H Q
theorem HRel.under{K:PySem.W.Frag}{π α:List Addr}{H:Hp}{h:Hh}{p:Addr}{o:HO}(R:HRel ⟨K,π⟩ α H h)(hp:H p=none)(ho:∀ us,o ≠ .tup us:=by intro _ z;cases z):HRel ⟨K,p :: π⟩ α (upd H p o) h:=by
 have s:∀ q ∈ p :: π,q ∈ π\/H q=none:=λ q hq=>by
  rcases List.mem_cons.mp hq with rfl | z
  ·exact .inr hp
  ·exact .inl z
 refine ⟨R.len,R.nd,λ q hq=>?_,λ i ob e=>?_⟩
 ·rcases List.mem_cons.mp hq with rfl | z
  ·exact ⟨R.out hp,by rw [j3];exact ⟨(λ z=>by cases z),λ us z=>ho us (Option.some.inj z)⟩⟩
  ·exact ⟨(R.dis q z).1,(R.dis q z).2.ext (Ext.new (α:=α) hp) (R.dis q z).1⟩
 ·obtain ⟨a,ea,r⟩:=R.obj i ob e;refine ⟨a,ea,?_⟩;have k:upd H p o a=H a:=k9 λ z=>R.out hp (z ▸ ZT ea);have e2:Ext α H α (upd H p o):=Ext.new hp
  cases r with
  |lst h t=>exact .lst (k.trans h) ((t.more s).mono e2)
  |dT h t=>exact .dT (k.trans h) ((t.more s).mono e2)
  |dK h t=>exact .dK (k.trans h) ((t.more s).mono e2)
  |ins n h t=>exact .ins n (k.trans h) ((t.more s).mono e2)
theorem HRel.less{K:PySem.W.Frag}{π α:List Addr}{H:Hp}{h:Hh}{p:Addr}(R:HRel ⟨K,p :: π⟩ α H h):HRel ⟨K,π⟩ α H h :=
 R.more (λ q hq=>.inl (ZM _ hq)) λ q hq=>R.dis q (ZM _ hq)
theorem RelS.more{K:PySem.W.Frag}{π π' α:List Addr}{H:Hp}{δ:Sl}{σ:L2.St}(s:∀ p ∈ π',p ∈ π\/H p=none)(S:RelS ⟨K,π⟩ α H δ σ):RelS ⟨K,π'⟩ α H δ σ :=
 ⟨S.len,λ i d q=>let ⟨v,a,b⟩:=S.get i d q;⟨v,a,b.more s⟩⟩
theorem RelS.priv{K:KP}{α:List Addr}{H H':Hp}{δ:Sl}{σ:L2.St}{D':Addr}(e:Z4 D' H H')(hD:D' ∈ K.π)(S:RelS K α H δ σ):RelS K α H' δ σ :=
 ⟨S.len,λ i d q=>let ⟨v,a,b⟩:=S.get i d q;⟨v,a,b.priv e hD⟩⟩
theorem Ext.grow{α α':List Addr}{H H':Hp}{p:Addr}{o:HO}(e:Ext α H α' H')(hp:H p=none):Ext α H α' (upd H' p o) :=
 ⟨e.pre,λ b u q n=>by rw [k9 (A2 q hp)];exact e.keep b u q n,λ b q=>by
  by_cases z:b=p
  ·subst z;exact hp
  ·rw [k9 z] at q;exact e.dom b q⟩
theorem VT.adopt{K:PySem.W.Frag}{π α:List Addr}{H:Hp}{p a:Addr}{us:List V}(h:VT ⟨K,p :: π⟩ α H a us):VT ⟨K,π⟩ (α ++ [p]) H a us :=
 ⟨λ z=>(ZK.mp z).elim h.1 λ z=>h.2.1 (by rw [ZX.mp z];exact ZO),λ z=>h.2.1 (ZM _ z),h.2.2⟩
theorem VS.adopt{K:PySem.W.Frag}{π α:List Addr}{H:Hp}{p a:Addr}{us:List V}(h:VS ⟨K,p :: π⟩ α H a us):VS ⟨K,π⟩ (α ++ [p]) H a us:=by
 rcases h with ⟨n,m,h⟩ | h
 ·refine .inl ⟨λ z=>?_,λ z=>m (ZM _ z),h⟩
  rcases List.mem_append.mp z with z | z
  ·exact n z
  ·exact m (by rw [ZX.mp z];exact ZO)
 ·exact .inr h
theorem VL.adopt{K:PySem.W.Frag}{π α:List Addr}{H:Hp}{p a:Addr}{us:List V}(h:VL ⟨K,p :: π⟩ α H a us):VL ⟨K,π⟩ (α ++ [p]) H a us :=
 ⟨λ z=>(ZK.mp z).elim h.1 λ z=>h.2.1 (by rw [ZX.mp z];exact ZO),λ z=>h.2.1 (ZM _ z),h.2.2⟩
theorem VE.adopt{K:PySem.W.Frag}{π α:List Addr}{H:Hp}{p a:Addr}{u:HO}(h:VE ⟨K,p :: π⟩ α H a u):VE ⟨K,π⟩ (α ++ [p]) H a u :=
 ⟨λ z=>(ZK.mp z).elim h.1 λ z=>h.2.1 (by rw [ZX.mp z];exact ZO),λ z=>h.2.1 (ZM _ z),h.2.2⟩
theorem a2U{α:List Addr}{p a:Addr}{i:Nat}(h:α[i]?=some a):(α ++ [p])[i]?=some a:=by
 rw [ZN (ZY.mp h).1];exact h
theorem RelD.adopt{K:PySem.W.Frag}{π α:List Addr}{H:Hp}{p:Addr}{d:D}{v:V}(r:RelD ⟨K,p :: π⟩ α H d v):RelD ⟨K,π⟩ (α ++ [p]) H d v:=r.map (K:=⟨K,p :: π⟩) (K':=⟨K,π⟩) (α':=α ++ [p]) (H':=H) rfl (λ _ _ t=>t.adopt) (λ _ _ t=>t.adopt) (λ _ _ t=>t.adopt) (λ _ _ t=>t.adopt) (λ _ _ h=>a2U h)
theorem RelDs.adopt{K:PySem.W.Frag}{π α:List Addr}{H:Hp}{p:Addr}{ds:List D}{us:List V}(r:RelDs ⟨K,p :: π⟩ α H ds us):RelDs ⟨K,π⟩ (α ++ [p]) H ds us:=r.map (K:=⟨K,p :: π⟩) (K':=⟨K,π⟩) (α':=α ++ [p]) (H':=H) rfl (λ _ _ t=>t.adopt) (λ _ _ t=>t.adopt) (λ _ _ t=>t.adopt) (λ _ _ t=>t.adopt) (λ _ _ h=>a2U h)
theorem RelKV.adopt{K:PySem.W.Frag}{π α:List Addr}{H:Hp}{p:Addr}{κ:Type}{ds:List (κ×D)}{us:List (κ×V)}(r:RelKV ⟨K,p :: π⟩ α H ds us):RelKV ⟨K,π⟩ (α ++ [p]) H ds us:=by
 induction r with
 |nil=>exact .nil
 |cons h t ih=>exact .cons h.adopt ih
theorem HRel.adopt{K:PySem.W.Frag}{π α:List Addr}{H:Hp}{h:Hh}{p:Addr}{u:O}(R:HRel ⟨K,p :: π⟩ α H h)(np:p ∉ π)(r:RelO' ⟨K,π⟩ (α ++ [p]) H p u):HRel ⟨K,π⟩ (α ++ [p]) H (h ++ [u]):=by
 have hp:=R.dis p ZO;refine ⟨by simp [R.len],?_,λ q hq=>⟨λ z=>?_,(R.dis q (ZM _ hq)).2⟩,λ i v q=>?_⟩
 ·rw [List.nodup_append];exact ⟨R.nd,by simp,λ a ha b hb=>by rw [ZX.mp hb];exact λ z=>hp.1 (z ▸ ha)⟩
 ·rcases List.mem_append.mp z with z | z
  ·exact (R.dis q (ZM _ hq)).1 z
  ·rw [ZX.mp z] at hq;exact np hq
 ·by_cases hi:i < h.length
  ·rw [ZN hi] at q;obtain ⟨a,ea,ra⟩:=R.obj i v q;refine ⟨a,a2U ea,?_⟩
   cases ra with
   |lst h t=>exact .lst h t.adopt
   |dT h t=>exact .dT h t.adopt
   |dK h t=>exact .dK h t.adopt
   |ins n h t=>exact .ins n h t.adopt
  ·have hi':i=h.length:=by
    have:=(ZY.mp q).1
    rw [ZW,ZL] at this;omega
   subst hi';rw [ZA @G] at q
   simp at q;subst q;exact ⟨p,by rw [ZA (by rw [R.len];exact ZV _),R.len];simp,r⟩
theorem Ext.adopt{α α':List Addr}{H H':Hp}{p:Addr}(e:Ext α H α' H')(hp:H p=none):Ext α H (α' ++ [p]) H':=by
 refine ⟨?_,e.keep,e.dom⟩;obtain ⟨⟨β,rfl,hb⟩,_⟩:=e
 exact ⟨β ++ [p],by simp,λ q hq=>by
  rcases List.mem_append.mp hq with z | z
  ·exact hb q z
  ·rw [ZX.mp z];exact hp⟩
section
variable (X:Cx)
def SE(e:Expr)(f:DE):Prop:=PE X e (LE X.K f)
def ST(e:Expr)(f:DT):Prop:=PT X e (LT X.K f)
def SW(e:Expr)(f:DT):Prop:=PW X e (LT X.K f)
def SA(es:List Expr)(n:Nat)(f:DA):Prop:=PA X es (LA X.K n f)
def SS(s:Stmt)(f:DS):Prop:=PS X s (LS X.K X.ex9 f)
def SSs(ss:List Stmt)(f:DS):Prop:=PSs X ss (LS X.K X.ex9 f)
def SG(t:Expr)(f:DG):Prop:=PG X t (LG X.K f)
def SGs(ts:List Expr)(f:DGs):Prop:=PGs X ts (LGs X.K f)
end
section
variable {X:Cx}
theorem PE.imp{e:Expr}{t t':TE}(h:PE X e t)(k:∀ σ H Q,t' σ H Q->t σ H Q):PE X e t':=λ pins s σ H Q I q=>h pins s σ H Q I (k σ H Q q)
theorem PT.imp{e:Expr}{t t':TT}(h:PT X e t)(k:∀ σ H Q,t' σ H Q->t σ H Q):PT X e t':=λ pins s σ H Q I q=>h pins s σ H Q I (k σ H Q q)
theorem PW.imp{e:Expr}{t t':TT}(h:PW X e t)(k:∀ σ H Q,t' σ H Q->t σ H Q):PW X e t':=λ wh pins s σ H Q I q=>h wh pins s σ H Q I (k σ H Q q)
theorem PA.imp{es:List Expr}{t t':TA}(h:PA X es t)(k:∀ σ H Q,t' σ H Q->t σ H Q):PA X es t':=λ pos pins s σ H Q I q=>h pos pins s σ H Q I (k σ H Q q)
theorem PS.imp{e:Stmt}{t t':TS}(h:PS X e t)(k:∀ F σ H,t' F σ H->t F σ H):PS X e t':=λ pins s σ H F I q=>h pins s σ H F I (k F σ H q)
theorem PSs.imp{e:List Stmt}{t t':TS}(h:PSs X e t)(k:∀ F σ H,t' F σ H->t F σ H):PSs X e t':=λ pins s σ H F I q=>h pins s σ H F I (k F σ H q)
theorem PG.imp{e:Expr}{t t':TG}(h:PG X e t)(k:∀ v σ H Q,t' v σ H Q->t v σ H Q):PG X e t':=λ pins s σ H v u Q I r q=>h pins s σ H v u Q I r (k v σ H Q q)
theorem PGs.imp{e:List Expr}{t t':TGs}(h:PGs X e t)(k:∀ v σ H Q,t' v σ H Q->t v σ H Q):PGs X e t':=λ pins s σ H v u Q I r q=>h pins s σ H v u Q I r (k v σ H Q q)
end
end DL
namespace DL
open PySem PySem.Spec L2
def b8(i:Nat):DE:=λ δ h Q=>match δ[i]? with | some (some d)=>Q d h | _=>False
def dC(d:D):DE:=λ _ h Q=>Q d h
abbrev P1:=D->Hh->DK->Prop
abbrev P2:=D->D->Hh->DK->Prop
abbrev PN:=List D->Hh->DK->Prop
def dUn(p:P1)(a:DE):DE:=λ δ h Q=>a δ h λ x h1=>p x h1 Q
def dOp(p:P2)(a b:DE):DE:=λ δ h Q=>a δ h λ x h1=>b δ h1 λ y h2=>p x y h2 Q
inductive r1(K:PySem.W.Frag)(p:P1)(x:V)(H:Hp)(Q:VK):Prop
 |mk (π:List Addr) (α:List Addr) (h:Hh) (d:D) (Q':DK):HRel ⟨K,π⟩ α H h->RelD ⟨K,π⟩ α H d x->p d h Q'->(∀ d h' α' H' v,Q' d h'->Ext α H α' H'->HRel ⟨K,π⟩ α' H' h'->RelD ⟨K,π⟩ α' H' d v->Q v H')->r1 K p x H Q
inductive r2(K:PySem.W.Frag)(p:P2)(x y:V)(H:Hp)(Q:VK):Prop
 |mk (π:List Addr) (α:List Addr) (h:Hh) (d e:D) (Q':DK):HRel ⟨K,π⟩ α H h->RelD ⟨K,π⟩ α H d x->RelD ⟨K,π⟩ α H e y->p d e h Q'->(∀ d h' α' H' v,Q' d h'->Ext α H α' H'->HRel ⟨K,π⟩ α' H' h'->RelD ⟨K,π⟩ α' H' d v->Q v H')->r2 K p x y H Q
inductive rN(K:PySem.W.Frag)(p:PN)(xs:List V)(H:Hp)(Q:VK):Prop
 |mk (π:List Addr) (α:List Addr) (h:Hh) (ds:List D) (Q':DK):HRel ⟨K,π⟩ α H h->RelDs ⟨K,π⟩ α H ds xs->p ds h Q'->(∀ d h' α' H' v,Q' d h'->Ext α H α' H'->HRel ⟨K,π⟩ α' H' h'->RelD ⟨K,π⟩ α' H' d v->Q v H')->rN K p xs H Q
section
variable {K:PySem.W.Frag} {σ:L2.St} {H:Hp} {Q:VK}
theorem b4X{p:P1}{fa:DE}(g:LE K (dUn p fa) σ H Q):LE K fa σ H λ x H1=>r1 K p x H1 Q:=by
 obtain ⟨π,α,δ,h,Q',R,S,f,k⟩:=g;exact ⟨π,α,δ,h,_,R,S,f,λ x h1 α1 H1 v1 f1 e1 R1 q1=>⟨π,α1,h1,x,Q',R1,q1,f1,λ d h' α' H' v a b c d'=>k d h' α' H' v a (e1.trans b) c d'⟩⟩
theorem a0d{p:P2}{fa fb:DE}(g:LE K (dOp p fa fb) σ H Q):LE K fa σ H λ x H1=>LE K fb σ H1 λ y H2=>r2 K p x y H2 Q:=by
 obtain ⟨π,α,δ,h,Q',R,S,f,k⟩:=g;show S;show Aq;exact ⟨π,α2,h2,x,y,Q',R2,q1.mono e2,q2,f2,λ d h' α' H' v a b c d'=>k d h' α' H' v a (e1.trans (e2.trans b)) c d'⟩
end
theorem OpR.imp{X:Cx}{f:Value->Value->Sem Value}{r r':R2}(h:OpR X f r)(k:∀ x y H Q,r' x y H Q->r x y H Q):OpR X f r':=λ pins s σ H x y v u Q I rx ry q=>h pins s σ H x y v u Q I rx ry (k x y H Q q)
theorem UnR.imp{X:Cx}{f:Value->Sem Value}{r r':V->Hp->VK->Prop}(h:UnR X f r)(k:∀ x H Q,r' x H Q->r x H Q):UnR X f r':=λ pins s σ H x v Q I rx q=>h pins s σ H x v Q I rx (k x H Q q)
theorem IxR.imp{X:Cx}{r r':R2}(h:IxR X r)(k:∀ x y H Q,r' x y H Q->r x y H Q):IxR X r':=λ va sl pins s σ H x y v u Q I rx ry q=>h va sl pins s σ H x y v u Q I rx ry (k x y H Q q)
theorem CallR.imp{X:Cx}{f:Value}{r r':List V->Hp->VK->Prop}(h:CallR X f r)(k:∀ x H Q,r' x H Q->r x H Q):CallR X f r':=λ pins s σ H xs us Q I rx q=>h pins s σ H xs us Q I rx (k xs H Q q)
def A6(h:Hh):D->Option (List D)
 |.lst xs=>some xs
 |.scr xs=>some xs
 |.ref i=>match h[i]? with | some (.lst xs)=>some xs | _=>none
 |_=>none
section
variable {K:KP} {α:List Addr} {H:Hp} {h:Hh}
theorem M9(R:HRel K α H h):∀ {d:D} {v:V} {xs:List D},RelD K α H d v->A6 h d=some xs->∃ p us,v = .ref p/\SqL K.K H p us/\RelDs K α H xs us
 |_,_,_,.lst t r,e=>by cases e;exact ⟨_,_,rfl,t.sq,r⟩
 |_,_,_,.scr t r,e=>by cases e;exact ⟨_,_,rfl,t.sq,r⟩
 |_,_,xs,.ref (i:=i) hp,e=>by
  have e:(match h[i]? with | some (.lst xs)=>some xs | _=>none)=some xs:=e
  cases q:h[i]? with
  |none=>rw [q] at e;cases e
  |some o =>
   rw [q] at e
   cases o with
   |lst ys =>
    cases e;obtain ⟨p,us,e1,e2,e3⟩:=R.lst q;show Y;exact ⟨_,us,rfl,SqL.of e2,e3⟩
   |_=>cases e
 |_,_,_,.non,e=>nomatch e
 |_,_,_,.bl _,e=>nomatch e
 |_,_,_,.int _,e=>nomatch e
 |_,_,_,.str _,e=>nomatch e
 |_,_,_,.tup _ _,e=>nomatch e
theorem b9m{d:List D}{v:V}(r:RelD K α H (.tup d) v):∃ p us,v = .ref p/\SqT K.K H p us/\RelDs K α H d us:=by
 cases r with
 |tup t r=>exact ⟨_,_,rfl,t.sq,r⟩
end
section
variable {X:Cx} {a b c e:Expr} {fa fb fc:DE} {pos:Pos}
theorem sv(i:Nat){x:Str}{pos:Pos}(hN:X.N[i]?=some x:=by rfl)(hv:Vis X.env.scope x:=by trivial)(hd:@Ag=false:=by decide)
  (hcd:(x == ("__classdict__":Str))=false:=by decide):SE X (.Name x pos) (b8 i):=PE.imp (b8T hN hv hd hcd) λ σ H Q ⟨π,α,δ,h,Q',R,S,f,k⟩=>by
 unfold b8 at f
 split at f
 ·rename_i d e;obtain ⟨v,h1,h2⟩:=S.get i d e;exact ⟨v,h1,k d h α H v f @W R h2⟩
 ·exact f.elim
theorem a0k{v:V}{d:D}(r:∀ π α H,RelD ⟨X.K,π⟩ α H d v)(h:PE X e (tC v)):SE X e (dC d):=PE.imp h λ σ H Q ⟨π,α,δ,h,Q',R,S,f,k⟩=>k d h α H v f @W R (r π α H)
theorem b9{i j pos}:SE X (.Constant (.int i) j pos) (dC (.int i)):=a0k (λ _ _ _=>.int i) b6L
theorem a9x{i j pos}:SE X (.Constant (.bool i) j pos) (dC (.bl i)):=a0k (λ _ _ _=>.bl i) c0o
theorem n5{j pos}:SE X (.Constant .none j pos) @AA:=a0k (λ _ _ _=>.non) b8Z
theorem m7{i j pos}:SE X (.Constant (.str i) j pos) (dC (.str i)):=a0k (λ _ _ _=>.str i) b8k
theorem i7{op:Operator}{p:P2}(ho:OpR X (binaryOp op) (r2 X.K p))(ha:SE X a fa)(hb:SE X b fb):SE X (.BinOp a op b pos) (dOp p fa fb):=PE.imp (c0A ho ha hb) λ _ _ _ g=>a0d g
theorem a5p{op:UnaryOp}{p:P1}(ho:UnR X (unaryOp op) (r1 X.K p))(ha:SE X a fa):SE X (.UnaryOp op a pos) (dUn p fa):=PE.imp (c0F ho ha) λ _ _ _ g=>b4X g
theorem d8{p:P2}(ho:IxR X (r2 X.K p))(ha:SE X a fa)(hb:SE X b fb)(hs:a4V b:=by exact λ _ _=>rfl):SE X (.Subscript a b pos) (dOp p fa fb):=PE.imp (c1L ho ha hb hs) λ _ _ _ g=>a0d g
theorem P0{op:CmpOp}{p:P2}(ho:OpR X (compareOp op) (r2 X.K p))(ha:SE X a fa)(hb:SE X b fb)(hm:behindInMarks op b=false:=by exact a8J _):SE X (.Compare a [op] [b] pos) (dOp p fa fb):=PE.imp (b5v ho ha hb hm) λ _ _ _ g=>a0d g
def o9(f:DE):DT:=λ δ h Q=>f δ h λ d h'=>match d with | .bl b=>Q b h' | _=>False
theorem a3m{K:PySem.W.Frag}{f:DE}{σ:L2.St}{H:Hp}{Q:Bool->Hp->Prop}(g:LT K (o9 f) σ H Q):LE K f σ H λ x H'=>∃ k,x = .bl k/\Q k H':=by
 obtain ⟨π,α,δ,h,Q',R,S,f,k⟩:=g;show F
 cases q1 with
 |bl b=>exact ⟨b,rfl,k b h1 α1 H1 f1 e1 R1⟩
 |_=>exact f1.elim
theorem j6{op:CmpOp}{p:P2}(ho:OpR X (compareOp op) (r2 X.K p))(ha:SE X a fa)(hb:SE X b fb)(hm:behindInMarks op b=false:=by exact a8J _):ST X (.Compare a [op] [b] pos) (o9 (dOp p fa fb)):=PT.imp (b4p ho ha hb hm) λ _ _ _ g=>by
 obtain ⟨π,α,δ,h,Q',R,S,f,k⟩:=a3m g;exact a0d (Q:=λ x H'=>∃ k,x = .bl k/\_) ⟨π,α,δ,h,Q',R,S,f,k⟩
def W0(p q:P2)(a b c:DE):DE:=λ δ h Q=>a δ h λ x h1=>b δ h1 λ y h2=>p x y h2 λ z h3=>match z with
 |.bl k=>if k=true then c δ h3 λ w h4=>q y w h4 Q else Q (.bl false) h3
 |_=>False
theorem a4w{K:PySem.W.Frag}{p q:P2}{σ:L2.St}{H:Hp}{Q:VK}(g:LE K (W0 p q fa fb fc) σ H Q):a8d (r2 K p) (r2 K q) (LE K fa) (LE K fb) (LE K fc) σ H Q:=by
 obtain ⟨π,α,δ,h,Q',R,S,f,k⟩:=g;show S;show Aq;refine ⟨π,α2,h2,x,y,_,R2,q1.mono e2,q2,f2,λ z h3 α3 H3 v3 f3 e3 R3 q3=>?_⟩
 cases q3 with
 |bl b =>
  refine ⟨b,rfl,?_⟩
  cases b with
  |false=>exact a0v (k _ _ _ _ _ (by simpa using f3) (e1.trans (e2.trans e3)) R3 (.bl false))
  |true =>
   have f3:fc δ h3 λ w h4=>q y w h4 Q':=by simpa using f3
   refine a1r ⟨π,α3,δ,h3,_,R3,S.mono (e1.trans (e2.trans e3)),f3,λ w h4 α4 H4 v4 f4 e4 R4 q4=>?_⟩;exact ⟨π,α4,h4,y,w,Q',R4,q2.mono (e3.trans e4),q4,f4,λ d h' α' H' v a b c d'=>k d h' α' H' v a (e1.trans (e2.trans (e3.trans (e4.trans b)))) c d'⟩
 |_=>exact f3.elim
theorem S4{op op':CmpOp}{p q:P2}(ho:OpR X (compareOp op) (r2 X.K p))(ho':OpR X (compareOp op') (r2 X.K q))(ha:SE X a fa)(hb:SE X b fb)(hc:SE X c fc)
  (hm:lastMarks [op,op'] [b,c]=false:=by with_unfolding_all rfl):ST X (.Compare a [op,op'] [b,c] pos) (o9 (W0 p q fa fb fc)):=PT.imp (a8c ho ho' ha hb hc hm) λ _ _ _ g=>by
 obtain ⟨π,α,δ,h,Q',R,S,f,k⟩:=a3m g;exact a4w (Q:=λ x H'=>∃ k,x = .bl k/\_) ⟨π,α,δ,h,Q',R,S,f,k⟩
def trD(h:Hh):D->Option Bool
 |.non=>some false
 |.bl b=>some b
 |.int i=>some (i != 0)
 |.str x=>if x.length <= 16777216 then some ((x.length:Int) != 0) else none
 |.tup xs=>some (!xs.isEmpty)
 |.lst xs=>some (!xs.isEmpty)
 |.scr xs=>some (!xs.isEmpty)
 |.ref i=>match h[i]? with | some (.lst xs)=>some (!xs.isEmpty) | _=>none
 |.exc _ _=>none
def dTr(f:DE):DT:=λ δ h Q=>f δ h λ d h'=>match trD h' d with | some b=>Q b h' | none=>False
theorem E9{K:KP}{α:List Addr}{H:Hp}{ds:List D}{us:List V}(r:RelDs K α H ds us):ds.isEmpty=us.isEmpty:=by cases r <;> rfl
theorem c0e{K:KP}{α:List Addr}{H:Hp}{h:Hh}(R:HRel K α H h){d:D}{v:V}{k:Bool}(r:RelD K α H d v)(e:trD h d=some k):b6I K.K v H k:=by
 cases r with
 |non=>cases e;exact rfl
 |bl b=>cases e;exact rfl
 |int i=>cases e;exact rfl
 |str x =>
  have e:(if x.length <= 16777216 then some ((x.length:Int) != 0) else none)=some k:=e
  split at e
  ·rename_i hl;cases e;exact ⟨by rw [sizeLine_eq];exact hl,rfl⟩
  ·cases e
 |tup t r=>cases e;exact .inr (.inl ⟨_,t.sq,by rw [E9 r]⟩)
 |lst t r=>cases e;exact .inl ⟨_,t.sq,by rw [E9 r]⟩
 |scr t r=>cases e;exact .inl ⟨_,t.sq,by rw [E9 r]⟩
 |exc _ _ _=>cases e
 |@ref i a hp =>
  have e:(match h[i]? with | some (.lst xs)=>some (!xs.isEmpty) | _=>none)=some k:=e
  cases q:h[i]? with
  |none=>rw [q] at e;cases e
  |some o =>
   rw [q] at e
   cases o with
   |lst ys =>
    cases e;obtain ⟨p,us,e1,e2,e3⟩:=R.lst q;show Y;exact .inl ⟨us,SqL.of e2,by rw [E9 e3]⟩
   |_=>cases e
theorem y6(ha:SE X a fa)(he:∀ whole,isTrue a X.env whole=(do let v <- whole;standAt a.pos;holding [v] (truthy v)):=by intro _;rfl):ST X a (dTr fa):=PT.imp (a9L ha he) λ σ H Q zz0=>by
 show H;show F
 cases q:trD h1 d with
 |none=>rw [q] at f1;exact f1.elim
 |some b=>rw [q] at f1;exact ⟨b,c0e R1 q1 q,k b h1 α1 H1 f1 e1 R1⟩
def a4j(t u:DT):DT:=λ δ h Q=>t δ h λ c h1=>if c=true then u δ h1 Q else Q false h1
def dOr(t u:DT):DT:=λ δ h Q=>t δ h λ c h1=>if c=true then Q true h1 else u δ h1 Q
def b4j(t:DT):DT:=λ δ h Q=>t δ h λ c h1=>Q (!c) h1
variable {ga gb:DT} {rest:List Expr}
theorem N4(ha:ST X a ga):SW X (.BoolOp .And [a] pos) ga:=b2O ha
theorem P7(ha:ST X a ga):SW X (.BoolOp .Or [a] pos) ga:=b8g ha
theorem V2(ha:ST X a ga)(hb:SW X (.BoolOp .And (b :: rest) pos) gb):SW X (.BoolOp .And (a :: b :: rest) pos) (a4j ga gb):=PW.imp (b8J ha hb) λ σ H Q zz0=>by
 show H;refine ⟨π,α,δ,h,_,R,S,f,λ c h1 α1 H1 f1 e1 R1=>?_⟩
 cases c with
 |true=>exact a1r ⟨π,α1,δ,h1,Q',R1,S.mono e1,by simpa using f1,λ b h' α' H' a e c=>k b h' α' H' a (e1.trans e) c⟩
 |false=>exact a0v (k false h1 α1 H1 (by simpa using f1) e1 R1)
theorem R8(ha:ST X a ga)(hb:SW X (.BoolOp .Or (b :: rest) pos) gb):SW X (.BoolOp .Or (a :: b :: rest) pos) (dOr ga gb):=PW.imp (c1t ha hb) λ σ H Q zz0=>by
 show H;refine ⟨π,α,δ,h,_,R,S,f,λ c h1 α1 H1 f1 e1 R1=>?_⟩
 cases c with
 |true=>exact a1r (k true h1 α1 H1 (by simpa using f1) e1 R1)
 |false=>exact a0v ⟨π,α1,δ,h1,Q',R1,S.mono e1,by simpa using f1,λ b h' α' H' a e c=>k b h' α' H' a (e1.trans e) c⟩
theorem X0(h:SW X e ga):ST X e ga:=PW.pt h
theorem a4t(ha:ST X a ga):ST X (.UnaryOp .Not a pos) (b4j ga):=PT.imp (b7E ha) λ σ H Q ⟨π,α,δ,h,Q',R,S,f,k⟩=>⟨π,α,δ,h,_,R,S,f,λ c h1 α1 H1 f1 e1 R1=>k (!c) h1 α1 H1 f1 e1 R1⟩
def a9B(a b:DE):DE:=λ δ h Q=>a δ h λ x h1=>match x with | .bl k=>if k=true then b δ h1 Q else Q (.bl false) h1 | _=>False
def c4h(a b:DE):DE:=λ δ h Q=>a δ h λ x h1=>match x with | .bl k=>if k=true then Q (.bl true) h1 else b δ h1 Q | _=>False
def a7S(a:DE):DE:=λ δ h Q=>a δ h λ x h1=>match x with | .bl b=>Q (.bl (!b)) h1 | _=>False
theorem b0R{op}(h:SE X a fa):SE X (.BoolOp op [a] pos) fa:=b9p h
theorem b0Y(ha:SE X a fa)(hb:SE X (.BoolOp .And (b :: rest) pos) fb):SE X (.BoolOp .And (a :: b :: rest) pos) (a9B fa fb):=PE.imp (b6F ha hb) λ σ H Q zz0=>by
 show H;show S
 cases q1 with
 |bl c =>
  refine ⟨c,rfl,?_⟩
  cases c with
  |true=>exact a1r ⟨π,α1,δ,h1,Q',R1,S.mono e1,by simpa using f1,λ d h' α' H' v a e c d'=>k d h' α' H' v a (e1.trans e) c d'⟩
  |false=>exact a0v (k _ h1 α1 H1 _ (by simpa using f1) e1 R1 (.bl false))
 |_=>exact f1.elim
theorem a8D(ha:SE X a fa):SE X (.UnaryOp .Not a pos) (a7S fa):=PE.imp (b8q ha) λ σ H Q zz0=>by
 show H;show S
 cases q1 with
 |bl c=>exact ⟨c,rfl,k _ h1 α1 H1 _ f1 e1 R1 (.bl (!c))⟩
 |_=>exact f1.elim
def dIf(t:DT)(a b:DE):DE:=λ δ h Q=>t δ h λ c h1=>if c=true then a δ h1 Q else b δ h1 Q
theorem a0z(hc:ST X c ga)(ha:SE X a fa)(hb:SE X b fb):SE X (.IfExp c a b pos) (dIf ga fa fb):=PE.imp (b0G hc ha hb) λ σ H Q zz0=>by
 show H;refine ⟨π,α,δ,h,_,R,S,f,λ c h1 α1 H1 f1 e1 R1=>?_⟩
 cases c with
 |true=>exact a1r ⟨π,α1,δ,h1,Q',R1,S.mono e1,by simpa using f1,λ d h' α' H' v a e c d'=>k d h' α' H' v a (e1.trans e) c d'⟩
 |false=>exact a0v ⟨π,α1,δ,h1,Q',R1,S.mono e1,by simpa using f1,λ d h' α' H' v a e c d'=>k d h' α' H' v a (e1.trans e) c d'⟩
def f9:DA:=λ _ h Q=>Q [] h
def b7(a:DE)(r:DA):DA:=λ δ h Q=>a δ h λ x h1=>r δ h1 λ xs h2=>Q (x :: xs) h2
variable {es:List Expr} {n:Nat} {fs:DA}
theorem c7:SA X [] 0 f9:=PA.imp a8W λ σ H Q ⟨π,α,δ,h,Q',R,S,f,k⟩=>k [] h α H [] f @W R .nil rfl
theorem b6(ha:SE X e fa)(hr:SA X es n fs)(hs:starEach (e :: es) X.env=(false,eval e X.env) :: starEach es X.env:=by rfl):SA X (e :: es) (n + 1) (b7 fa fs):=PA.imp (a2P ha hr hs) λ σ H Q zz0=>by
 show H;show S;refine ⟨π,α1,δ,h1,_,R1,S.mono e1,f1,λ ds h2 α2 H2 vs f2 e2 R2 q2 l2=>?_⟩;exact k (x :: ds) h2 α2 H2 (v1 :: vs) f2 (e1.trans e2) R2 (.cons (q1.mono e2) q2) (by rw [Zw,l2])
def v7(f:DA):DE:=λ δ h Q=>f δ h λ ds h1=>Q (.tup ds) h1
theorem l9{x1}(hf:SA X es n fs)(hn:n <= sizeLine:=by decide):SE X (.Tuple es x1 pos) (v7 fs):=PE.imp (b6J hf) λ σ H Q zz0=>by
 show H;refine ⟨π,α,δ,h,_,R,S,f,λ ds h1 α1 H1 vs f1 e1 R1 q1 l1=>⟨by rw [<- q1.length,l1];exact hn,λ p hp=>?_⟩⟩;have e2:Ext α1 H1 α1 (upd H1 p (.tup vs)):=Ext.new hp;exact k (.tup ds) h1 α1 _ _ f1 (e1.trans e2) (R1.new hp) (.tup ⟨R1.out hp,R1.outP hp,j3⟩ (q1.mono e2))
abbrev DN:=Sl->Hh->(List D->Hh->Prop)->Prop
inductive LN(K:PySem.W.Frag)(f:DN)(σ:St)(H:Hp)(Q:VK):Prop
 |mk (π:List Addr) (α:List Addr) (δ:Sl) (h:Hh) (Q':List D->Hh->Prop):HRel ⟨K,π⟩ α H h->RelS ⟨K,π⟩ α H δ σ->f δ h Q'->(∀ ds h' α' H' us p,Q' ds h'->Ext α H α' H'->HRel ⟨K,p :: π⟩ α' H' h'->RelDs ⟨K,p :: π⟩ α' H' ds us->H' p=some (.lst us)->H p=none->p ∉ π->Q (.ref p) H')->LN K f σ H Q
theorem LN.last{K:PySem.W.Frag}{π α α':List Addr}{H H':Hp}{h h':Hh}{Q:VK}{Q':List D->Hh->Prop}(k:∀ ds h' α' H' us p,Q' ds h'->Ext α H α' H'->HRel ⟨K,p :: π⟩ α' H' h'->RelDs ⟨K,p :: π⟩ α' H' ds us->H' p=some (.lst us)->H p=none->p ∉ π->Q (.ref p) H')
  {ds:List D} {us:List V} {p:Addr} (f:Q' ds h') (e:Ext α H α' H') (R:HRel ⟨K,π⟩ α' H' h') (r:RelDs ⟨K,π⟩ α' H' ds us) (hp:H' p=none):Q (.ref p) (upd H' p (.lst us)):=by
 have e2:Ext α' H' α' (upd H' p (.lst us)):=Ext.new hp;refine k ds h' α' _ us p f (e.trans e2) (R.under hp) ((r.more λ q hq=>?_).mono e2) j3 (e.dom p hp) (R.outP hp)
 rcases List.mem_cons.mp hq with rfl | z
 ·exact .inr hp
 ·exact .inl z
def SN(X:Cx)(e:Expr)(f:DN):Prop:=PE X e (LN X.K f)
def dV(f:DN):DE:=λ δ h Q=>f δ h λ ds h'=>Q (.lst ds) h'
def dTk(f:DN):DE:=λ δ h Q=>f δ h λ ds h'=>Q (.ref h'.length) (h' ++ [.lst ds])
variable {fn:DN}
theorem T5(hf:SN X e fn):SE X e (dV fn):=PE.imp hf λ σ H Q zz0=>by
 show H;refine ⟨π,α,δ,h,_,R,S,f,λ ds h1 α1 H1 us p f1 e1 R1 q1 hus hp np=>?_⟩;exact k (.lst ds) h1 α1 _ _ f1 e1 R1.less (.lst ⟨(R1.dis p ZO).1,np,hus⟩ (q1.more λ q hq=>.inl (ZM _ hq)))
theorem a4P(hf:SN X e fn):SE X e (dTk fn):=PE.imp hf λ σ H Q zz0=>by
 show H;refine ⟨π,α,δ,h,_,R,S,f,λ ds h1 α1 H1 us p f1 e1 R1 q1 hus hp np=>?_⟩;refine k (.ref h1.length) (h1 ++ [.lst ds]) (α1 ++ [p]) _ _ f1 (e1.adopt hp) (R1.adopt np (.lst hus q1.adopt)) (.ref ?_);rw [<- R1.len];simp
theorem F4(hf:SA X es n fs)(hn:n <= sizeLine:=by decide):SN X (.List es pos) fs:=PE.imp (b9x hf) λ σ H Q zz0=>by
 show H;refine ⟨π,α,δ,h,_,R,S,f,λ ds h1 α1 H1 vs f1 e1 R1 q1 l1=>⟨by rw [<- q1.length,l1];exact hn,λ p hp=>?_⟩⟩;exact LN.last (h:=h) k f1 e1 R1 q1 hp
end
end DL
namespace DL
open PySem PySem.Spec L2
section
variable {X:Cx}
def pI(C:Int->Int->Prop)(g:Int->Int->Int):P2:=λ x y h Q=>match x,y with | .int i,.int j=>C i j/\Q (.int (g i j)) h | _,_=>False
def pI0(g:Int->Int->Int):P2:=λ x y h Q=>match x,y with | .int i,.int j=>Q (.int (g i j)) h | _,_=>False
def pB0(g:Int->Int->Bool):P2:=λ x y h Q=>match x,y with | .int i,.int j=>Q (.bl (g i j)) h | _,_=>False
theorem a1v{f:Value->Value->Sem Value}{C:Int->Int->Prop}{g:Int->Int->Int}(h:OpR X f (rI C λ i j=>.int (g i j))):OpR X f (r2 X.K (pI C g)):=OpR.imp h λ x y H Q zz0=>by
 show R
 cases r1 with
 |int i =>
  cases r2 with
  |int j=>exact ⟨i,j,rfl,rfl,f.1,k _ h α H _ f.2 @W R (.int _)⟩
  |_=>exact f.elim
 |_=>exact f.elim
theorem a4u{f:Value->Value->Sem Value}{g:Int->Int->Int}(h:OpR X f (rI0 λ i j=>.int (g i j))):OpR X f (r2 X.K (pI0 g)):=OpR.imp h λ x y H Q zz0=>by
 show R
 cases r1 with
 |int i =>
  cases r2 with
  |int j=>exact ⟨i,j,rfl,rfl,k _ h α H _ f @W R (.int _)⟩
  |_=>exact f.elim
 |_=>exact f.elim
theorem a4I{f:Value->Value->Sem Value}{g:Int->Int->Bool}(h:OpR X f (rI0 λ i j=>.bl (g i j))):OpR X f (r2 X.K (pB0 g)):=OpR.imp h λ x y H Q zz0=>by
 show R
 cases r1 with
 |int i =>
  cases r2 with
  |int j=>exact ⟨i,j,rfl,rfl,k _ h α H _ f @W R (.bl _)⟩
  |_=>exact f.elim
 |_=>exact f.elim
abbrev Z2:P2:=pI0 λ i j=>i - j
abbrev a6R:P2:=pI (λ _ j=>0 < j/\j < 2 ^ 100) λ i j=>i / j
abbrev O0:P2:=pI (λ _ j=>0 < j) λ i j=>i % j
abbrev b7u:P2:=pI b3u λ i j=>i ^ j.toNat
abbrev a6Z:P2:=pI b3u λ i j=>i * 2 ^ j.toNat
abbrev b9w:P2:=pI (λ _ j=>0 <= j) λ i j=>i / 2 ^ j.toNat
abbrev a8b:P2:=pI0 λ i j=>Builtin.bitAnd i j
abbrev a1n:P2:=pB0 λ i j=>decide (i < j)
abbrev pLe:P2:=pB0 λ i j=>decide (i <= j)
abbrev pGt:P2:=pB0 λ i j=>decide (j < i)
theorem E1:OpR X (binaryOp .Sub) (r2 X.K Z2):=a4u b7O
theorem a9m:OpR X (binaryOp .FloorDiv) (rI (λ _ j=>0 < j/\j < 2 ^ 100) λ i j=>.int (i / j)):=opI λ i j _ _ _ _ _ hc q=>by
 have e:i.fdiv j=i / j:=Int.fdiv_eq_ediv_of_nonneg i @D;refine PyProof.Rows.floordiv_int @D (by rw [e];exact q) (.inl (PyProof.noPylong_of_log2 ?_));have h1:j.natAbs ≠ 0:=by omega
 rw [Nat.log2_lt h1]
 have h2:j.natAbs < 2 ^ 100:=by
  have:=hc.2
  omega
 exact ZD h2 (Nat.pow_le_pow_right @B @B)
theorem a0F:OpR X (binaryOp .FloorDiv) (r2 X.K a6R):=a1v a9m
theorem z9:OpR X (binaryOp .Mod) (r2 X.K O0):=a1v b8a
theorem a7F:OpR X (binaryOp .Pow) (r2 X.K b7u):=a1v b8W
theorem a1j:OpR X (binaryOp .LShift) (r2 X.K a6Z):=a1v b6V
theorem a7W:OpR X (binaryOp .RShift) (r2 X.K b9w):=a1v b8D
theorem a5u:OpR X (binaryOp .BitAnd) (r2 X.K a8b):=a4u b7g
theorem a5t:OpR X (compareOp .LtE) (r2 X.K pLe):=a4I c1q
theorem a9c:OpR X (compareOp .Gt) (r2 X.K pGt):=a4I c0Z
theorem J6:OpR X (compareOp .Lt) (r2 X.K a1n):=a4I c0Q
theorem b4F:OpR X (inplaceOp .Add) (r2 X.K (pI0 λ i j=>i + j)):=a4u b3W
def c0U:P2:=λ x y h Q=>match x,y with
 |.int i,.int j=>Q (.int (i + j)) h
 |.str a,.str b=>a.length + b.length <= 16777216/\Q (.str (a ++ b)) h
 |.tup a,.tup b=>a ≠ []/\a.length + b.length <= 16777216/\Q (.tup (a ++ b)) h
 |_,_=>False
theorem b9y:OpR X (binaryOp .Add) (r2 X.K c0U):=OpR.imp (op_add.or (op_add_str.or b3h)) λ x y H Q zz0=>by
 show R
 cases r1 with
 |int i =>
  cases r2 with
  |int j=>exact .inl ⟨i,j,rfl,rfl,k _ h α H _ f @W R (.int _)⟩
  |_=>exact f.elim
 |str i =>
  cases r2 with
  |str j=>exact .inr (.inl ⟨i,j,rfl,rfl,by rw [sizeLine_eq];exact f.1,k _ h α H _ f.2 @W R (.str _)⟩)
  |_=>exact f.elim
 |@tup a us ds t r =>
  cases r2 with
  |@tup a' us' ds' t' r' =>
   obtain ⟨f1,f2,f3⟩:=f;have l1:=r.length;have l2:=r'.length;refine .inr (.inr ⟨a,a',us,us',rfl,rfl,t.sq,t'.sq,?_,by rw [sizeLine_eq,<- l1,<- l2];exact f2,λ z=>?_,λ z p hp=>?_⟩)
   ·intro z;subst z
    cases r;exact f1 rfl
   ·subst z
    cases r'
    rw [Zr] at f3;exact k _ h α H _ f3 @W R (.tup t r)
   ·have e2:Ext α H α (upd H p (.tup (us ++ us'))):=Ext.new hp;exact k _ h α _ _ f3 e2 (R.new hp) (.tup ⟨R.out hp,R.outP hp,j3⟩ ((r.append r').mono e2))
  |_=>exact f.elim
 |_=>exact f.elim
def b0F:P1:=λ x h Q=>match x with | .int i=>Q (.int (-i)) h | _=>False
theorem a2L:UnR X (unaryOp .USub) (r1 X.K b0F):=UnR.imp b8w λ x H Q zz0=>by
 obtain ⟨π,α,h,d,Q',R,r1,f,k⟩:=zz0
 cases r1 with
 |int i=>exact ⟨i,rfl,k _ h α H _ f @W R (.int _)⟩
 |_=>exact f.elim
def K0:D->Bool | .non=>true | _=>false
def pIs(neg:Bool):P2:=λ x y h Q=>match y with | .non=>Q (.bl (if neg then !K0 x else K0 x)) h | _=>False
theorem a1G{K:KP}{α:List Addr}{H:Hp}{d:D}{v:V}(r:RelD K α H d v):decide (v = .non)=K0 d:=by cases r <;> rfl
theorem M6:OpR X (compareOp .Is) (r2 X.K (pIs false)):=OpR.imp b6v λ x y H Q zz0=>by
 show R
 cases r2 with
 |non =>
  refine ⟨rfl,k _ h α H _ f @W R ?_⟩;rw [a1G r1];exact .bl _
 |_=>exact f.elim
theorem a0R:OpR X (compareOp .IsNot) (r2 X.K (pIs true)):=OpR.imp b2Y λ x y H Q zz0=>by
 show R
 cases r2 with
 |non =>
  refine ⟨rfl,k _ h α H _ f @W R ?_⟩;rw [a1G r1];exact .bl _
 |_=>exact f.elim
theorem a0e{K:KP}{α:List Addr}{H:Hp}{ds:List D}{us:List V}{i:Int}{d:D}(r:RelDs K α H ds us)(e:atI ds i=some d):∃ u,atI us i=some u/\RelD K α H d u:=by
 unfold atI at e ⊢;rw [<- r.length]
 cases q:ixN ds.length i with
 |none=>rw [q] at e;cases e
 |some j =>
  rw [q] at e;exact r.get e
def F0(h:Hh):D->Option (List D)
 |.lst xs=>some xs
 |.scr xs=>some xs
 |.tup xs=>some xs
 |.ref i=>match h[i]? with | some (.lst xs)=>some xs | _=>none
 |_=>none
theorem a0A{K:KP}{α:List Addr}{H:Hp}{h:Hh}(R:HRel K α H h){d:D}{v:V}{xs:List D}(r:RelD K α H d v)(e:F0 h d=some xs):∃ p us,v = .ref p/\(SqL K.K H p us\/SqT K.K H p us)/\RelDs K α H xs us:=by
 by_cases z:∃ ys,d = .tup ys
 ·obtain ⟨ys,rfl⟩:=z;cases e;obtain ⟨p,us,a,b,c⟩:=b9m r;exact ⟨p,us,a,.inr b,c⟩
 ·have e':A6 h d=some xs:=by
   cases d with
   |tup ys=>exact absurd ⟨ys,rfl⟩ z
   |lst ys=>exact e
   |scr ys=>exact e
   |ref i=>exact e
   |_=>cases e
  obtain ⟨p,us,a,b,c⟩:=M9 R r e';exact ⟨p,us,a,.inl b,c⟩
def b1k(x:Str)(i:Int):Option D:=if x.length <= 16777216 then (atI x.cps.toList i).map λ c=>.str ⟨#[c]⟩ else none
def ixD(h:Hh)(x y:D):Option D:=match y with
 |.int i=>match x with
  |.tup xs=>atI xs i
  |.lst xs=>atI xs i
  |.scr xs=>atI xs i
  |.ref j=>match h[j]? with | some (.lst xs)=>atI xs i | _=>none
  |.str s=>b1k s i
  |_=>none
 |_=>none
def pIx:P2:=λ x y h Q=>match ixD h x y with | some d=>Q d h | none=>False
theorem c9:IxR X (r2 X.K pIx):=IxR.imp b8l λ x y H Q zz0=>by
 show R;unfold pIx at f
 cases q:ixD h d e with
 |none=>rw [q] at f;exact f.elim
 |some z =>
  rw [q] at f
  cases r2 with
  |int i =>
   cases r1 with
   |@tup a us ds t r =>
    obtain ⟨u,e1,e2⟩:=a0e r q;exact .inr (.inl ⟨_,us,i,u,rfl,rfl,t.sq,e1,k _ h α H _ f @W R e2⟩)
   |@lst a us ds t r =>
    obtain ⟨u,e1,e2⟩:=a0e r q;exact .inl ⟨_,us,i,u,rfl,rfl,t.sq,e1,k _ h α H _ f @W R e2⟩
   |@scr a us ds t r =>
    obtain ⟨u,e1,e2⟩:=a0e r q;exact .inl ⟨_,us,i,u,rfl,rfl,t.sq,e1,k _ h α H _ f @W R e2⟩
   |@ref j a hp =>
    have q:(match h[j]? with | some (.lst xs)=>atI xs i | _=>none)=some z:=q
    cases w:h[j]? with
    |none=>rw [w] at q;cases q
    |some o =>
     rw [w] at q
     cases o with
     |lst ys =>
      obtain ⟨p,us,e1,e2,e3⟩:=R.lst w;show Y;obtain ⟨u,e4,e5⟩:=a0e e3 q;exact .inl ⟨_,us,i,u,rfl,rfl,SqL.of e2,e4,k _ h α H _ f @W R e5⟩
     |_=>cases q
   |str s =>
    have q:b1k s i=some z:=q;unfold b1k at q
    split at q
    ·rename_i hl
     cases w:atI s.cps.toList i with
     |none=>rw [w] at q;cases q
     |some c =>
      rw [w] at q;cases q;exact .inr (.inr ⟨s,i,c,rfl,rfl,by rw [sizeLine_eq];exact hl,w,k _ h α H _ f @W R (.str _)⟩)
    ·cases q
   |_=>cases q
  |_=>cases q
end
def a3N(xs:List D)(lo hi:Option Int):List D:=(xs.drop (HT.sIx xs.length 0 lo)).take @AX
theorem a2O{K:KP}{α:List Addr}{H:Hp}{ds:List D}{us:List V}(r:RelDs K α H ds us)(lo hi:Option Int):RelDs K α H (a3N ds lo hi) (R0 us lo hi):=by
 unfold a3N R0;rw [r.length];exact (r.drop _).take _
abbrev DO:=Sl->Hh->(Option Int->Hh->Prop)->Prop
def a0f:DO:=λ _ h Q=>Q none h
def a6e(f:DE):DO:=λ δ h Q=>f δ h λ d h1=>match d with | .int i=>Q (some i) h1 | _=>False
inductive LO(K:PySem.W.Frag)(f:DO)(σ:St)(H:Hp)(Q:Option Int->Hp->Prop):Prop
 |mk (π:List Addr) (α:List Addr) (δ:Sl) (h:Hh) (Q':Option Int->Hh->Prop):HRel ⟨K,π⟩ α H h->RelS ⟨K,π⟩ α H δ σ->f δ h Q'->(∀ i h' α' H',Q' i h'->Ext α H α' H'->HRel ⟨K,π⟩ α' H' h'->Q i H')->LO K f σ H Q
def SO(X:Cx)(e:Option Expr)(f:DO):Prop:=PO X e (LO X.K f)
section
variable {X:Cx} {e:Expr} {fe:DE} {lo hi:Option Expr} {fl fh:DO} {pos p2:Pos}
theorem PO.imp{o:Option Expr}{t t':TO}(h:PO X o t)(k:∀ σ H Q,t' σ H Q->t σ H Q):PO X o t':=λ pins s σ H Q I q=>h pins s σ H Q I (k σ H Q q)
theorem a2W:SO X none a0f:=PO.imp b3m λ σ H Q ⟨π,α,δ,h,Q',R,S,f,k⟩=>k none h α H f @W R
theorem a2s(h:SE X e fe):SO X (some e) (a6e fe):=PO.imp (b3S h) λ σ H Q zz0=>by
 show H;show F
 cases q1 with
 |int i=>exact ⟨i,rfl,k (some i) h1 α1 H1 f1 e1 R1⟩
 |_=>exact f1.elim
def c2O(K:PySem.W.Frag):V->Option Int->Option Int->Hp->VK->Prop:=λ x lo hi H Q=>∃ a xs,x = .ref a/\SqT K H a xs/\(R0 xs lo hi=xs->Q @Ax H)/\∀ p,H p=none->Q (.ref p) (upd H p (.tup (R0 xs lo hi)))
theorem sl_tupD:SlR X (c2O X.K):=by
 intro pins s σ H x v vl vu lo hi sl Q I rx hs pl pu h;obtain ⟨a,xs,rfl,hx,q1,q2⟩:=h
 by_cases hw:HT.sIx xs.length 0 lo=0/\HT.sIx xs.length xs.length hi=xs.length
 ·cases rx;obtain ⟨its,r,ht,hz⟩:=I.tuple hx;have hlen:its.toArray.size=xs.length:=by rw [ZF];exact r.length.symm
  refine ⟨"tuple",_,PyProof.Rows.slot_tuple_getitem.lookup,ht.typeIs,?_⟩
  have ec:R0 xs lo hi=xs:=by
   unfold R0;rw [hw.1,hw.2,List.drop_zero,Nat.sub_zero,List.take_length]
  exact HT.getItem_tuple_all ht hs pl pu (by rw [hlen];exact hw) ⟨.ref a,H,I,rfl,q1 ec⟩
 ·exact b7y pins s σ H @Ax v vl vu lo hi sl Q I rx hs pl pu ⟨a,xs,rfl,hx,hw,λ p hp=>q2 p hp⟩
def c4j(fe:DE)(fl fh:DO):DN:=λ δ h Q=>fe δ h λ d h1=>fl δ h1 λ l h2=>fh δ h2 λ u h3=>match A6 h3 d with | some xs=>Q (a3N xs l u) h3 | none=>False
end
end DL
namespace DL
open PySem PySem.Spec L2
def f8(i:Nat):DG:=λ d δ h Q=>Q (δ.set i (some d)) h
def a0Z:DGs:=λ ds δ h Q=>match ds with | []=>Q δ h | _=>False
def A7(t:DG)(u:DGs):DGs:=λ ds δ h Q=>match ds with | d :: r=>t d δ h λ δ' h'=>u r δ' h' Q | []=>False
def a6D(n:Nat)(t:DGs):DG:=λ d δ h Q=>match d with | .tup xs=>xs.length=n/\t xs δ h Q | _=>False
def b1j(n:Nat)(t:DGs):DG:=λ d δ h Q=>match A6 h d with | some xs=>xs.length=n/\t xs δ h Q | none=>False
section
variable {X:Cx} {pos:Pos}
theorem j9{i:Nat}{x:Str}(hN:X.N.Nodup)(hi:X.N[i]?=some x)(hx:Loc X.env.scope x)(hf:X.fn x=true\/X.env.scope.names.lookup x=some .local:=by trivial):SG X (.Name x pos) (f8 i):=PG.imp (b3t hN hi hx hf) λ v σ H Q ⟨π,α,δ,h,d,Q',R,S,r,f,k⟩ =>
 k _ h α H _ f @W R (S.set i r)
theorem S6:SGs X [] a0Z:=PGs.imp b2M λ vs σ H Q zz0=>by
 obtain ⟨π,α,δ,h,ds,Q',R,S,r,f,k⟩:=zz0
 cases r with
 |nil=>exact ⟨rfl,k δ h α H σ f @W R S⟩
 |cons _ _=>exact f.elim
theorem y7{e:Expr}{es:List Expr}{t:DG}{u:DGs}(h1:SG X e t)(h2:SGs X es u)(hs:(assignEach (e :: es) X.env).map (·.2)=assign e X.env :: (assignEach es X.env).map (·.2):=by rfl):SGs X (e :: es) (A7 t u):=PGs.imp (a7V h1 h2 hs) λ vs σ H Q zz0=>by
 obtain ⟨π,α,δ,h,ds,Q',R,S,r,f,k⟩:=zz0
 cases r with
 |nil=>exact f.elim
 |@cons d v ds us rd rs =>
  refine ⟨v,us,rfl,π,α,δ,h,d,_,R,S,rd,f,λ δ1 h1 α1 H1 σ1 f1 e1 R1 S1=>?_⟩;exact ⟨π,α1,δ1,h1,ds,Q',R1,S1,rs.mono e1,f1,λ δ' h' α' H' σ' a b c d'=>k δ' h' α' H' σ' a (e1.trans b) c d'⟩
theorem a2d{es:List Expr}{j:Nat}{t:DGs}{n:Nat}(hc:X.calm=true)(h:SGs X es t)(hn:(assignEach es X.env).length=n:=by rfl)(hst:(assignEach es X.env).findIdx? (·.1)=none:=by rfl):SG X (.Tuple es j pos) (a6D n t):=PG.imp (b7L hc h hn hst) λ v σ H Q zz0=>by
 obtain ⟨π,α,δ,h,d,Q',R,S,r,f,k⟩:=zz0
 cases r with
 |@tup a us ds t rs=>exact ⟨a,us,rfl,t.sq,by rw [<- rs.length];exact f.1,π,α,δ,h,ds,Q',R,S,rs,f.2,k⟩
 |_=>exact f.elim
theorem b4I{es:List Expr}{j:Nat}{t:DGs}{n:Nat}(hc:X.calm=true)(h:SGs X es t)(hn:(assignEach es X.env).length=n:=by rfl)(hst:(assignEach es X.env).findIdx? (·.1)=none:=by rfl):SG X (.Tuple es j pos) (b1j n t):=PG.imp (b4E hc h hn hst) λ v σ H Q zz0=>by
 obtain ⟨π,α,δ,h,d,Q',R,S,r,f,k⟩:=zz0;unfold b1j at f
 cases w:A6 h d with
 |none=>rw [w] at f;exact f.elim
 |some xs =>
  rw [w] at f;obtain ⟨p,us,rfl,b,c⟩:=M9 R r w;exact ⟨p,us,rfl,b,by rw [<- c.length];exact f.1,π,α,δ,h,xs,Q',R,S,c,f.2,k⟩
def b2r(o i v:D)(h:Hh)(Q:Hh->Prop):Prop:=match o,i with
 |.ref j,.int k=>match h[j]? with
  |some (.lst xs)=>match ixN xs.length k with
   |some m=>Q (h.set j (.lst (xs.set m v)))
   |none=>False
  |_=>False
 |_,_=>False
def a0x(fo fi:DE):DG:=λ v δ h Q=>fo δ h λ o h1=>fi δ h1 λ i h2=>b2r o i v h2 λ h3=>Q δ h3
theorem a8G{K:PySem.W.Frag}{π α:List Addr}{H:Hp}{h:Hh}{o i v:D}{ov iv vv:V}{Q':Hh->Prop}{Q:Hp->Prop}(R:HRel ⟨K,π⟩ α H h)(ro:RelD ⟨K,π⟩ α H o ov)(ri:RelD ⟨K,π⟩ α H i iv)(rv:RelD ⟨K,π⟩ α H v vv)(f:b2r o i v h Q')
  (k:∀ h' H',Q' h'->Ext α H α H'->HRel ⟨K,π⟩ α H' h'->Q H'):b5H ov iv vv H Q:=by
 unfold b2r at f
 cases ro with
 |@ref j a hp =>
  cases ri with
  |int n =>
   dsimp only at f
   cases w:h[j]? with
   |none=>rw [w] at f;exact f.elim
   |some ob =>
    rw [w] at f
    cases ob with
    |lst xs =>
     dsimp only at f;obtain ⟨p,us,e1,e2,e3⟩:=R.lst w;show Y
     cases q:ixN xs.length n with
     |none=>rw [q] at f;exact f.elim
     |some m =>
      rw [q] at f;have e4:Ext α H α (upd H a (.lst (us.set m vv))):=Ext.write (ZT hp);refine ⟨a,us,n,m,rfl,rfl,e2,by rw [<- e3.length];exact q,k _ _ f e4 (R.write hp (.lst j3 ((RelDs.set rv m e3).mono e4)))⟩
    |_=>exact f.elim
  |_=>exact f.elim
 |_=>exact f.elim
theorem N5{o i:Expr}{fo fi:DE}(ho:SE X o fo)(hi:SE X i fi)
  (ha:∀ v,assign (.Subscript o i pos) X.env v=(do
   let ov <- holding [v] (eval o X.env)
   let iv <- holding [v,ov] (eval i X.env)
   standAt pos
   holding [v,ov,iv] (setItem ov iv v)
   release [v,ov,iv] []):=by intro _;rfl):SG X (.Subscript o i pos) (a0x fo fi):=PG.imp (b7v ho hi a8F ha) λ v σ H Q ⟨π,α,δ,h,d,Q',R,S,r,f,k⟩=>by
 refine ⟨π,α,δ,h,_,R,S,f,λ o h1 α1 H1 v1 f1 e1 R1 q1=>?_⟩;refine ⟨π,α1,δ,h1,_,R1,S.mono e1,f1,λ i h2 α2 H2 v2 f2 e2 R2 q2=>?_⟩;exact a8G R2 (q1.mono e2) q2 (r.mono (e1.trans e2)) f2 λ h3 H3 f3 e3 R3=>k δ h3 α2 H3 σ f3 (e1.trans (e2.trans e3)) R3 (S.mono (e1.trans (e2.trans e3)))
end
def p7:DS:=λ E δ h=>E.nx δ h
def i6(f g:DS):DS:=λ E δ h=>f { E with nx:=g E } δ h
def b1t:DS:=λ _ _ _=>False
def c2P:DS:=λ E δ h=>E.bk δ h
def c4b:DS:=λ E δ h=>E.ct δ h
def y8(f:DE):DS:=λ E δ h=>f δ h λ _ h1=>E.nx δ h1
def p8(f:DE):DS:=λ E δ h=>f δ h E.rt
def c3U:DS:=λ E _ h=>E.rt .non h
def x0(t:DT)(f g:DS):DS:=λ E δ h=>t δ h λ c h1=>if c=true then f E δ h1 else g E δ h1
def k8(f:DE)(g:DG):DS:=λ E δ h=>f δ h λ x h1=>g x δ h1 E.nx
def c4e(i:Nat)(f:DE)(p:P2):DS:=λ E δ h=>match δ[i]? with | some (some x)=>f δ h λ y h1=>p x y h1 λ z h2=>E.nx (δ.set i (some z)) h2 | _=>False
section
variable {X:Cx} {s:Stmt} {ss:List Stmt} {f g:DS} {e:Expr} {fe:DE} {pos:Pos}
theorem a9X{K:PySem.W.Frag}{Ex:XK}{F:a0O}{σ:L2.St}{H:Hp}(w:LS K Ex (i6 f g) F σ H):c1N (LS K Ex f) (LS K Ex g) F σ H:=by
 obtain ⟨π,α,δ,h,E,R,S,q,k⟩:=w;exact ⟨π,α,δ,h,{ E with nx:=g E },R,S,q,⟨λ δ' h' α' H' σ' a b c d=>⟨π,α',δ',h',E,c,d,a,k.mono b⟩,k.rt,k.bk,k.ct,k.ex⟩⟩
theorem m5:SSs X [] p7:=PSs.imp b3N λ F σ H ⟨π,α,δ,h,E,R,S,q,k⟩=>k.nx δ h α H σ q @W R S
theorem d9(h:SS X s f):SSs X [s] f:=b2x h
theorem c8(h1:SS X s f)(h2:SSs X ss g):SSs X (s :: ss) (i6 f g):=PSs.imp (a7Z h1 h2) λ _ _ _ w=>a9X w
theorem b4z:SS X s b1t:=PS.imp a9S λ F σ H ⟨π,α,δ,h,E,R,S,q,k⟩=>q.elim
theorem t7(he:SE X e fe)(hs:swapsWith e none pos.line X.env=pure false:=by rfl):SS X (.Expr e pos) (y8 fe):=PS.imp (b2t he hs) λ F σ H ⟨π,α,δ,h,E,R,S,q,k⟩ =>
 ⟨π,α,δ,h,_,R,S,q,λ d h1 α1 H1 v1 f1 e1 R1 q1=>k.nx δ h1 α1 H1 σ f1 e1 R1 (S.mono e1)⟩
theorem l7(he:SE X e fe):SS X (.Return (some e) pos) (p8 fe):=PS.imp (b6T he) λ F σ H ⟨π,α,δ,h,E,R,S,q,k⟩=>⟨π,α,δ,h,_,R,S,q,λ d h1 α1 H1 v1 f1 e1 R1 q1=>k.rt d h1 α1 H1 v1 f1 e1 R1 q1⟩
theorem y1{c:Expr}{a b:List Stmt}{t:DT}(hc:ST X c t)(ha:SSs X a f)(hb:SSs X b g):SS X (.If c a b pos) (x0 t f g):=PS.imp (c0w hc ha hb) λ F σ H zz0=>by
 obtain ⟨π,α,δ,h,E,R,S,q,k⟩:=zz0;refine ⟨π,α,δ,h,_,R,S,q,λ c h1 α1 H1 f1 e1 R1=>?_⟩
 cases c with
 |true=>exact a1r ⟨π,α1,δ,h1,E,R1,S.mono e1,by simpa using f1,k.mono e1⟩
 |false=>exact a0v ⟨π,α1,δ,h1,E,R1,S.mono e1,by simpa using f1,k.mono e1⟩
theorem a7K{K:PySem.W.Frag}{Ex:XK}{tg:DG}{F:a0O}{σ:L2.St}{H:Hp}(w:LS K Ex (k8 fe tg) F σ H):b1f (LE K fe) (LG K tg) F σ H:=by
 obtain ⟨π,α,δ,h,E,R,S,q,k⟩:=w;refine ⟨π,α,δ,h,_,R,S,q,λ d h1 α1 H1 v1 f1 e1 R1 q1=>?_⟩;exact ⟨π,α1,δ,h1,d,E.nx,R1,S.mono e1,q1,f1,λ δ' h' α' H' σ' a b c d'=>k.nx δ' h' α' H' σ' a (e1.trans b) c d'⟩
theorem a0I{tg:Expr}{t:DG}(he:SE X e fe)(hg:SG X tg t)(hs:swapsWithSole [tg] e pos.line X.env=pure false:=by rfl)(hw:swappedStores [tg] e X.env=pure none:=by rfl)
  (h1:(assignEach [tg] X.env).map (·.2)=[assign tg X.env]:=by rfl):SS X (.Assign [tg] e pos) (k8 fe t):=PS.imp (b9u he hg hs hw h1) λ _ _ _ w=>a7K w
theorem a7c{K:PySem.W.Frag}{Ex:XK}{i:Nat}{F:a0O}{σ:L2.St}{H:Hp}(w:LS K Ex (k8 fe (f8 i)) F σ H):b1f (LE K fe) (a3s i) F σ H:=by
 obtain ⟨π,α,δ,h,E,R,S,q,k⟩:=w;exact ⟨π,α,δ,h,_,R,S,q,λ d h1 α1 H1 v1 f1 e1 R1 q1=>k.nx _ h1 α1 H1 _ f1 e1 R1 ((S.mono e1).set i q1)⟩
theorem j4{i:Nat}{x:Str}{pos':Pos}(hN:X.N.Nodup)(hi:X.N[i]?=some x)(hx:Loc X.env.scope x)(he:SE X e fe)(hs:swapsWith e (some (.Name x pos')) pos.line X.env=pure false:=by rfl)(hf:X.fn x=true\/X.env.scope.names.lookup x=some .local:=by trivial) :
  SS X (.Assign [.Name x pos'] e pos) (k8 fe (f8 i)):=PS.imp (b9j hN hi hx he hs hf) λ _ _ _ w=>a7c w
def c3t(fo fi fe:DE)(p:P2):DS:=λ E δ h=>fo δ h λ o h1=>fi δ h1 λ i h2=>match o,i with
 |.ref j,.int n=>0 <= n/\match h2[j]? with
  |some (.lst xs)=>match xs[n.toNat]? with
   |some x=>fe δ h2 λ y h3=>p x y h3 λ z h4=>b2r o i z h4 λ h5=>E.nx δ h5
   |none=>False
  |_=>False
 |_,_=>False
end
def whN(t:DT)(b:DS)(E:G3):Nat->Sl->Hh->Prop
 |0,_,_=>False
 |n + 1,δ,h=>t δ h λ c h1=>if c=true then b { E with nx:=whN t b E n,ct:=whN t b E n,bk:=E.nx } δ h1 else E.nx δ h1
def W3(t:DT)(b:DS):DS:=λ E δ h=>∃ n,whN t b E n δ h
theorem a0s{X:Cx}{c:Expr}{body:List Stmt}{t:DT}{b:DS}{pos:Pos}(hp:PassesOwn @C X.A X.env X.xe)(hc:ST X c t)(hb:SSs X body b):SS X (.While c body [] pos) (W3 t b):=PS.imp (a8r hp hc hb) λ F σ H zz0=>by
 obtain ⟨π,α,δ,h,E,R,S,q,k⟩:=zz0;obtain ⟨n,q⟩:=q;refine ⟨λ m σ' H'=>∃ α' δ' h',Ext α H α' H'/\HRel ⟨X.K,π⟩ α' H' h'/\RelS ⟨X.K,π⟩ α' H' δ' σ'/\whN t b E m δ' h',⟨n,α,δ,h,Ext.refl ..,R,S,q⟩,?_⟩
 rintro m σ' H' ⟨α',δ',h',e',R',S',q'⟩
 cases m with
 |zero=>exact q'.elim
 |succ m =>
  refine ⟨π,α',δ',h',_,R',S',q',λ c h1 α1 H1 f1 e1 R1=>?_⟩
  cases c with
  |false=>exact a0v (k.nx δ' h1 α1 H1 σ' (by simpa using f1) (e'.trans e1) R1 (S'.mono e1))
  |true =>
   refine a1r ⟨λ σ2 H2=>∃ α2 δ2 h2,Ext α H α2 H2/\HRel ⟨X.K,π⟩ α2 H2 h2/\RelS ⟨X.K,π⟩ α2 H2 δ2 σ2/\whN t b E m δ2 h2,λ σ2 H2 z=>⟨m,Nat.lt_succ_self m,z⟩,?_⟩;have f1:b { E with nx:=whN t b E m,ct:=whN t b E m,bk:=E.nx } δ' h1:=by simpa using f1
   have k1:=k.mono (e'.trans e1);exact ⟨π,α1,δ',h1,_,R1,S'.mono e1,f1,⟨λ δ2 h2 α2 H2 σ2 a b c d=>⟨α2,δ2,h2,e'.trans (e1.trans b),c,d,a⟩,k1.rt,k1.nx,λ δ2 h2 α2 H2 σ2 a b c d=>⟨α2,δ2,h2,e'.trans (e1.trans b),c,d,a⟩,k1.ex⟩⟩
structure Src where
 items:List D
 w:List (Nat×O)
def Src.ok(S:Src)(h:Hh):Prop:=∀ p ∈ S.w,h[p.1]?=some p.2
theorem Src.ok_nil{xs:List D}{h:Hh}:(Src.mk xs []).ok h:=λ p hp=>nomatch hp
abbrev DI:=Sl->Hh->(Src->Hh->Prop)->Prop
structure c2J(K:KP)(J:It)(S:Src)(St:List Addr->Hp->Prop):Prop where
 keep:∀ α H α' H',St α H->Ext α H α' H'->St α' H'
 priv:∀ α H H' D,St α H->Z4 D H H'->D ∈ K.π->St α H'
 item:∀ α H h i d,HRel K α H h->St α H->S.ok h->S.items[i]?=some d->J.go i H/\∀ x H',J.yld i H x H'->Ext α H α H'/\HRel K α H' h/\RelD K α H' d x
 stop:∀ α H h,HRel K α H h->St α H->S.ok h->J.stop S.items.length H
def ItA(K:PySem.W.Frag)(π:List Addr)(α:List Addr)(H:Hp)(J:It)(S:Src):Prop:=∀ π',(∀ p ∈ π',p ∈ π\/H p=none)->∃ St,c2J ⟨K,π'⟩ J S St/\St α H
inductive LI(K:PySem.W.Frag)(f:DI)(σ:St)(H:Hp)(R:It->Hp->Prop):Prop
 |mk (π:List Addr) (α:List Addr) (δ:Sl) (h:Hh) (Q':Src->Hh->Prop):HRel ⟨K,π⟩ α H h->RelS ⟨K,π⟩ α H δ σ->f δ h Q'->(∀ S h' α' H' J,Q' S h'->Ext α H α' H'->HRel ⟨K,π⟩ α' H' h'->ItA K π α' H' J S->S.ok h'->R J H')->LI K f σ H R
def SI(X:Cx)(tg iter:Expr)(f:DI):Prop:=PI X tg iter (LI X.K f)
def a4d(S:Src)(t:DG)(b:DS)(E:G3):List D->Sl->Hh->Prop
 |[],δ,h=>S.ok h/\E.nx δ h
 |x :: r,δ,h=>S.ok h/\t x δ h λ δ2 h2=>b { E with nx:=a4d S t b E r,ct:=a4d S t b E r,bk:=E.nx } δ2 h2
def Q1(s:DI)(t:DG)(b:DS):DS:=λ E δ h=>s δ h λ S h1=>a4d S t b E S.items δ h1
theorem F1{X:Cx}{tg iter:Expr}{body:List Stmt}{s:DI}{t:DG}{b:DS}{pos:Pos}(hp:PassesOwn @C X.A X.env X.xe)(hc:X.calm=true)(hi:SI X tg iter s)(hg:SG X tg t)(hb:SSs X body b)
  (hs:∀ x,foldedSetIterable iter X.env x=pure x:=by intro _;rfl):SS X (.For tg iter body [] pos) (Q1 s t b):=PS.imp (b9g hp hc hi hg hb hs) λ F σ H ⟨π,α,δ,h,E,R,S,q,k⟩=>by
 refine ⟨π,α,δ,h,_,R,S,q,λ Sr h1 α1 H1 J f1 e1 R1 ia ok1=>?_⟩;obtain ⟨St,io,st1⟩:=ia π (λ p z=>.inl z);refine ⟨λ i m σ' H'=>m=Sr.items.length - i/\i <= Sr.items.length/\∃ α' δ' h',Ext α H α' H'/\HRel ⟨X.K,π⟩ α' H' h'/\RelS ⟨X.K,π⟩ α' H' δ' σ'/\St α' H'/\a4d Sr t b E (Sr.items.drop i) δ' h',⟨_,rfl,YL _,α1,δ,h1,e1,R1,S.mono e1,st1,f1⟩,?_⟩
 rintro i m σ' H' ⟨rfl,hi,α',δ',h',e',R',S',st',q'⟩
 by_cases hlt:i < Sr.items.length
 ·rw [List.drop_eq_getElem_cons hlt] at q';obtain ⟨okh,q'⟩:=q';obtain ⟨go,yl⟩:=io.item α' H' h' i Sr.items[i] R' st' okh (ZZ hlt);refine .inr ⟨go,λ σ2 H2=>∃ α2 δ2 h2,Ext α H α2 H2/\HRel ⟨X.K,π⟩ α2 H2 h2/\RelS ⟨X.K,π⟩ α2 H2 δ2 σ2/\St α2 H2/\a4d Sr t b E (Sr.items.drop (i + 1)) δ2 h2,λ σ2 H2 z=>⟨_,by omega,rfl,hlt,z⟩,λ x H2 y2=>?_⟩;obtain ⟨e2,R2,r2⟩:=yl x H2 y2;refine ⟨π,α',δ',h',Sr.items[i],_,R2,S'.mono e2,r2,q',λ δ3 h3 α3 H3 σ3 f3 e3 R3 S3=>?_⟩;have e4:=e'.trans (e2.trans e3);have k3:=k.mono e4;have st3:=io.keep _ _ _ _ st' (e2.trans e3);exact ⟨π,α3,δ3,h3,_,R3,S3,f3,⟨λ δ5 h5 α5 H5 σ5 a b c d=>⟨α5,δ5,h5,e4.trans b,c,d,io.keep _ _ _ _ st3 b,a⟩,k3.rt,k3.nx,λ δ5 h5 α5 H5 σ5 a b c d=>⟨α5,δ5,h5,e4.trans b,c,d,io.keep _ _ _ _ st3 b,a⟩,k3.ex⟩⟩
 ·have ei:i=Sr.items.length:=by omega
  subst ei;rw [List.drop_length] at q';exact .inl ⟨io.stop α' H' h' R' st' q'.1,k.nx δ' h' α' H' σ' q'.2 e' R' S'⟩
def a0J(js:List (Option Nat))(δ:Sl):Sl:=js.map λ j=>match j with
 |some j=>(δ[j]?).getD none
 |none=>none
def L9(S:Src)(t:DG)(tf:DT)(te:DE):List D->List D->Sl->Hh->(List D->Hh->Prop)->Prop
 |[],acc,_,h,Q=>S.ok h/\Q acc h
 |x :: r,acc,δ,h,Q=>S.ok h/\t x δ h λ δ2 h2=>tf δ2 h2 λ b h3=>if b=true then te δ2 h3 λ y h4=>L9 S t tf te r (acc ++ [y]) δ2 h4 Q else L9 S t tf te r acc δ2 h3 Q
def B3(js:List (Option Nat))(s:DI)(t:DG)(tf:DT)(te:DE):DN:=λ δ h Q=>s δ h λ S h1=>S.items.length <= 16777216/\L9 S t tf te S.items [] (a0J js δ) h1 Q
theorem a6v{K:KP}{α:List Addr}{H:Hp}{δ:Sl}{σ:L2.St}(S:RelS K α H δ σ)(js:List (Option Nat)):RelS K α H (a0J js δ) (M5 js σ):=by
 refine ⟨by unfold a0J M5;simp,λ i d e=>?_⟩;unfold a0J at e;rw [ZP] at e;unfold M5;rw [ZP]
 cases q:js[i]? with
 |none=>rw [q] at e;cases e
 |some j =>
  rw [q] at e
  cases j with
  |none=>cases e
  |some j =>
   have e:(δ[j]?).getD none=some d:=Option.some.inj e
   cases w:δ[j]? with
   |none=>rw [w] at e;cases e
   |some z =>
    rw [w] at e;have e:z=some d:=e;subst e;obtain ⟨v,h1,h2⟩:=S.get j d w;exact ⟨v,by show some ((σ[j]?).getD none)=_;rw [h1];rfl,h2⟩
theorem a2c{K:PySem.W.Frag}{js:List (Option Nat)}{s:DI}{t:DG}{tf:DT}{te:DE}{σ:L2.St}{H:Hp}{Q:VK}(w:LN K (B3 js s t tf te) σ H Q) :
  b0m js (LI K s) (λ _ _ _=>LG K t) (λ _ _ _=>LT K tf) (λ _ _ _=>LE K te) σ H Q:=by
 obtain ⟨π,α,δ,h,Q',R,S,q,k⟩:=w;refine ⟨π,α,δ,h,_,R,S,q,λ Sr h1 α1 H1 J f1 e1 R1 ia ok1=>λ Da hD s0 H0 fp=>?_⟩;obtain ⟨hlen,f1⟩:=f1
 have sub:∀ p ∈ Da :: π,p ∈ π\/H1 p=none:=λ p hp=>by
  rcases List.mem_cons.mp hp with rfl | z
  ·exact .inr hD
  ·exact .inl z
 obtain ⟨St,io,st1⟩:=ia (Da :: π) sub;have eN:Ext α1 H1 α1 (upd H1 Da (.lst [])):=Ext.new hD;have hin:Da ∈ (KP.mk K (Da :: π)).π:=ZO
 refine ⟨λ i m σ' H'=>m=Sr.items.length - i/\i <= Sr.items.length/\∃ α' δ' h' acc us,Ext α1 H1 α' H'/\HRel ⟨K,Da :: π⟩ α' H' h'/\RelS ⟨K,Da :: π⟩ α' H' δ' σ'/\St α' H'/\H' Da=some (.lst us)/\RelDs ⟨K,Da :: π⟩ α' H' acc us/\acc.length <= i /\
   L9 Sr t tf te (Sr.items.drop i) acc δ' h' Q',⟨_,rfl,YL _,α1,a0J js δ,h1,[],[],eN,R1.under hD,(a6v ((S.mono e1).more sub) js).mono eN,io.keep _ _ _ _ st1 eN,j3,.nil,ZV _,f1⟩,?_⟩
 rintro i m σ' H' ⟨rfl,hi,α',δ',h',acc,us,e',R',S',st',hus,ra,la,q'⟩
 have nD:Da ∉ α':=(R'.dis Da hin).1
 by_cases hlt:i < Sr.items.length
 ·rw [List.drop_eq_getElem_cons hlt] at q';obtain ⟨okh,q'⟩:=q';obtain ⟨go,yl⟩:=io.item α' H' h' i Sr.items[i] R' st' okh (ZZ hlt);refine .inr ⟨go,λ x H2 y2=>?_⟩;obtain ⟨e2,R2,r2⟩:=yl x H2 y2;refine ⟨Da :: π,α',δ',h',Sr.items[i],_,R2,S'.mono e2,r2,q',λ δ3 h3 α3 H3 σ3 f3 e3 R3 S3=>?_⟩;refine ⟨Da :: π,α3,δ3,h3,_,R3,S3,f3,λ b h4 α4 H4 f4 e4 R4=>?_⟩;have e24:=e2.trans (e3.trans e4)
  cases b with
  |false =>
   refine a0v ⟨_,by omega,rfl,hlt,α4,δ3,h4,acc,us,e'.trans e24,R4,S3.mono e4,io.keep _ _ _ _ st' e24,e24.keep _ _ hus nD,ra.mono e24,by omega,by simpa using f4⟩
  |true =>
   have f4:te δ3 h4 λ y h5=>L9 Sr t tf te (Sr.items.drop (i + 1)) (acc ++ [y]) δ3 h5 Q':=by simpa using f4
   refine a1r ⟨Da :: π,α4,δ3,h4,_,R4,S3.mono e4,f4,λ y h5 α5 H5 v5 f5 e5 R5 q5=>?_⟩;have e25:=e24.trans e5;have h5D:H5 Da=some (.lst us):=e25.keep _ _ hus nD;have pv:Z4 Da H5 (upd H5 Da (.lst (us ++ [v5]))):=⟨λ b hb=>k9 hb⟩
   have ra5:=ra.mono e25;refine ⟨us,h5D,by rw [<- ra5.length,sizeLine_eq];omega,_,by omega,rfl,hlt,α5,δ3,h5,acc ++ [y],us ++ [v5],(e'.trans e25).grow hD,R5.priv pv hin (by rw [j3];exact ⟨(λ z=>by cases z),λ _ z=>by cases z⟩),(S3.mono (e4.trans e5)).priv pv hin,io.priv _ _ _ _ (io.keep _ _ _ _ st' e25) pv hin,j3,(ra5.snoc q5).priv pv hin,by rw [List.length_append,List.length_singleton];omega,f5⟩
 ·have ei:i=Sr.items.length:=by omega
  subst ei;rw [List.drop_length] at q';exact .inl ⟨io.stop α' H' h' R' st' q'.1,k _ h' α' H' us Da q'.2 (e1.trans e') R' ra hus (e1.dom Da hD) (R1.outP hD)⟩
def D9:DT:=λ _ h Q=>Q true h
section
variable {X:Cx} {pins:List (Addr×Obj)} {σ:L2.St} {H:Hp} {s:Shared} {N':List Str} {js:List (Option Nat)} {scope:Scope}
def SF(X:Cx)(es:List Expr)(t:DT):Prop:=PF X es (LT X.K t)
theorem PF.imp{es:List Expr}{t t':TT}(h:PF X es t)(k:∀ σ H Q,t' σ H Q->t σ H Q):PF X es t':=λ pins s σ H Q I q=>h pins s σ H Q I (k σ H Q q)
theorem C9:SF X [] D9:=PF.imp b8I λ σ H Q ⟨π,α,δ,h,Q',R,S,f,k⟩=>k true h α H f @W R
theorem a4o{c:Expr}{t:DT}(h:ST X c t):SF X [c] t:=b7H h
variable {tg iter elt:Expr} {ifs:List Expr} {pos:Pos} {sr:DI} {g:DG} {tf:DT} {te:DE}
theorem C1(hc:X.calm=true)(C:CompOk X N' js scope)(hi:SI X tg iter sr)
  (body:∀ (s0:Shared) (H0:Hp) (fp:List Addr),SG @Ai tg g/\SF @Ai ifs tf/\SE @Ai elt te)
  (hs:∀ x,foldedSetIterable iter X.env x=pure x:=by intro _;rfl):SN X @AL (B3 js sr g tf te) :=
 PE.imp (b2F hc C hi (g:=λ _ _ _=>LG X.K g) (tf:=λ _ _ _=>LT X.K tf) (te:=λ _ _ _=>LE X.K te) body hs) λ _ _ _ w=>a2c w
theorem S9{i:Nat}{x:Str}{px cpos:Pos}(hc:X.calm=true)(C:CompOk X N' js scope)(hi:SI X tg iter sr)
  (body:∀ (s0:Shared) (H0:Hp) (fp:List Addr),SG @Ai tg g/\SF @Ai ifs tf/\SE @Ai elt te)
  (hN:X.N.Nodup) (hix:X.N[i]?=some x) (hx:Loc X.env.scope x)
  (hsw:swapsWith @AI (some (.Name x px)) pos.line X.env=pure true:=by rfl) (hf:X.fn x=true\/X.env.scope.names.lookup x=some .local:=by trivial)
  (hs:∀ x,foldedSetIterable iter X.env x=pure x:=by intro _;rfl):SS X (.Assign [.Name x px] @AI pos) (k8 (dV (B3 js sr g tf te)) (f8 i)) :=
 PS.imp (b3b hc C hi (g:=λ _ _ _=>LG X.K g) (tf:=λ _ _ _=>LT X.K tf) (te:=λ _ _ _=>LE X.K te) body hN hix hx hsw hf hs) λ F σ H w=>by
  obtain ⟨π,α,δ,h,E,R,S,q,k⟩:=w;exact a2c (Q:=λ x H1=>a3s i x σ H1 F.nx) ⟨π,α,δ,h,_,R,S,q,λ ds h1 α1 H1 us p f1 e1 R1 q1 hus hp np=>k.nx _ h1 α1 H1 _ f1 e1 R1.less (((S.mono e1)).set i (.lst ⟨(R1.dis p ZO).1,np,hus⟩ (q1.more λ q hq=>.inl (ZM _ hq))))⟩
end
end DL
namespace DL
open PySem PySem.Spec L2
mutual
inductive IsP(h:Hh):D->PyData->Prop
 |non:IsP h .non .none
 |bl (b:Bool):IsP h (.bl b) (.bool b)
 |int (i:Int):IsP h (.int i) (.int i)
 |str (x:Str):IsP h (.str x) (.str x)
 |tup {ds:List D} {ps:List PyData}:a4G h ds ps->IsP h (.tup ds) (.tuple ps)
 |lst {ds:List D} {ps:List PyData}:a4G h ds ps->IsP h (.lst ds) (.list ps)
 |ref {i:Nat} {ds:List D} {ps:List PyData}:h[i]?=some (.lst ds)->a4G h ds ps->IsP h (.ref i) (.list ps)
inductive a4G(h:Hh):List D->List PyData->Prop
 |nil:a4G h [] []
 |cons {d:D} {p:PyData} {ds:List D} {ps:List PyData}:IsP h d p->a4G h ds ps->a4G h (d :: ds) (p :: ps)
end
section
variable {X:Cx} {pins:List (Addr×Obj)} {σ:L2.St} {H:Hp} {s:Shared} {π α:List Addr} {h:Hh}
theorem IsP.reads(I:Inv X pins σ H s)(R:HRel ⟨X.K,π⟩ α H h){d:D}{p:PyData}(e:IsP h d p):∀ {v:V} {u:Value},RelD ⟨X.K,π⟩ α H d v->RelV v u->∃ as,Reads s.heap u p as:=by
 refine IsP.rec (motive_1:=λ d p _=>∀ {v:V} {u:Value},RelD ⟨X.K,π⟩ α H d v->RelV v u->∃ as,Reads s.heap u p as) (motive_2:=λ ds ps _=>∀ {vs:List V} {us:List Value},RelDs ⟨X.K,π⟩ α H ds vs->Vals vs us->∃ as,ReadsAll s.heap us ps as) ?_ ?_ ?_ ?_ ?_ ?_ ?_ ?_ ?_ e
 ·intro v u q r;cases q;cases r;exact ⟨_,.none⟩
 ·intro b v u q r;cases q;cases r;exact ⟨_,.bool b⟩
 ·intro i v u q r;cases q;obtain ⟨t,rfl⟩:=r;exact ⟨_,.int i t⟩
 ·intro x v u q r;cases q;obtain ⟨t,rfl⟩:=r;exact ⟨_,.str x t⟩
 ·intro ds ps _ ih v u q0 r
  cases q0 with
  |tup t rr =>
   cases r;obtain ⟨its,rv,⟨o,q,c,n,d⟩,_⟩:=I.tuple t.sq;obtain ⟨as,ra⟩:=ih rr rv;exact ⟨_,.tuple q c d (by simpa using ra)⟩
 ·intro ds ps _ ih v u q0 r
  cases q0 with
  |lst t rr =>
   cases r;obtain ⟨its,rv,⟨o,n,q,c,_,d⟩,_⟩:=I.list t.sq;obtain ⟨as,ra⟩:=ih rr rv;exact ⟨_,.list q c d (by simpa using ra)⟩
 ·intro i ds ps hh _ ih v u q0 r
  cases q0 with
  |ref hp =>
   cases r;obtain ⟨a,us,e1,e2,e3⟩:=R.lst hh;show Y;obtain ⟨its,rv,⟨o,n,q,c,_,d⟩,_⟩:=I.list (SqL.of (K:=X.K) e2);obtain ⟨as,ra⟩:=ih e3 rv;exact ⟨_,.list q c d (by simpa using ra)⟩
 ·intro vs us q r;cases q;cases r;exact ⟨_,.nil⟩
 ·intro d ds p ps _ _ ih iht vs us q r
  cases q with
  |cons rr rs =>
   cases r with
   |cons r1 r2 =>
    obtain ⟨as,ra⟩:=ih rr r1;obtain ⟨bs,rb⟩:=iht rs r2;exact ⟨_,.cons ra rb⟩
end
def eqS:D->D->Option Bool
 |.int i,.int j=>some (i == j)
 |.str a,.str b=>if PyData.strOk a && PyData.strOk b then some (a == b) else none
 |.bl a,.bl b=>some (a == b)
 |.non,.non=>some true
 |.int _,.str b=>if PyData.strOk b then some false else none
 |.str a,.int _=>if PyData.strOk a then some false else none
 |.non,.int _=>some false
 |.int _,.non=>some false
 |.non,.tup _=>none
 |_,_=>none
def pEq(neg:Bool):P2:=λ x y h Q=>match eqS x y with
 |some b=>Q (.bl (if neg then !b else b)) h
 |none=>∃ a b,IsP h x a/\IsP h y b/\SeqAt.shaped a=true/\SeqAt.shaped b=true/\Q (.bl (if neg then !PyData.eqv a b else PyData.eqv a b)) h
theorem b8s{h:Hh}{x y:D}{b:Bool}(e:eqS x y=some b):∃ p q,IsP h x p/\IsP h y q/\SeqAt.shaped p=true/\SeqAt.shaped q=true/\PyData.eqv p q=b:=by
 have si:∀ i:Int,SeqAt.shaped (.int i)=true:=λ i=>by simp [SeqAt.shaped,PyData.canLay0,PyData.depth]
 have sn:SeqAt.shaped .none=true:=by simp [SeqAt.shaped,PyData.canLay0,PyData.depth]
 have sb:∀ b:Bool,SeqAt.shaped (.bool b)=true:=λ i=>by simp [SeqAt.shaped,PyData.canLay0,PyData.depth]
 have ss:∀ x:Str,PyData.strOk x=true->SeqAt.shaped (.str x)=true:=λ x hx=>by simp [SeqAt.shaped,PyData.canLay0,PyData.depth,hx]
 cases x with
 |int i =>
  cases y with
  |int j=>cases e;exact ⟨_,_,.int _,.int _,si _,si _,rfl⟩
  |str t =>
   have e:(if PyData.strOk t=true then some false else none)=some b:=e
   by_cases q:PyData.strOk t=true
   ·rw [if_pos q] at e;cases e;exact ⟨_,_,.int _,.str _,si _,ss _ q,rfl⟩
   ·rw [if_neg q] at e;cases e
  |non=>cases e;exact ⟨_,_,.int _,.non,si _,sn,rfl⟩
  |_=>cases e
 |str a =>
  cases y with
  |int j =>
   have e:(if PyData.strOk a=true then some false else none)=some b:=e
   by_cases q:PyData.strOk a=true
   ·rw [if_pos q] at e;cases e;exact ⟨_,_,.str _,.int _,ss _ q,si _,rfl⟩
   ·rw [if_neg q] at e;cases e
  |str t =>
   have e:(if (PyData.strOk a && PyData.strOk t)=true then some (a == t) else none)=some b:=e
   by_cases q:(PyData.strOk a && PyData.strOk t)=true
   ·rw [if_pos q] at e;rw [ZC] at q
    cases e;exact ⟨_,_,.str _,.str _,ss _ q.1,ss _ q.2,rfl⟩
   ·rw [if_neg q] at e;cases e
  |_=>cases e
 |bl a =>
  cases y with
  |bl c=>cases e;exact ⟨_,_,.bl _,.bl _,sb _,sb _,rfl⟩
  |_=>cases e
 |non =>
  cases y with
  |non=>cases e;exact ⟨_,_,.non,.non,sn,sn,rfl⟩
  |int j=>cases e;exact ⟨_,_,.non,.int _,sn,si _,rfl⟩
  |_=>cases e
 |_=>cases e
section
variable {X:Cx}
theorem a5G{neg:Bool}{x y:D}{h:Hh}{Q:DK}(f:pEq neg x y h Q):∃ a b,IsP h x a/\IsP h y b/\SeqAt.shaped a=true/\SeqAt.shaped b=true/\Q (.bl (if neg then !PyData.eqv a b else PyData.eqv a b)) h:=by
 unfold pEq at f
 cases q:eqS x y with
 |none=>rw [q] at f;exact f
 |some b =>
  rw [q] at f;obtain ⟨p,q,a,b',c,d,e⟩:=b8s (h:=h) q;exact ⟨p,q,a,b',c,d,by rw [e];exact f⟩
theorem z5(hu:X.A.units + 64 < cLine):OpR X (compareOp .Eq) (r2 X.K @AF):=by
 intro pins s σ H x y v u Q I rx ry ⟨π,α,h,d,e,Q',R,r1,r2,f,k⟩;obtain ⟨a,b,ia,ib,sa,sb,q⟩:=a5G f;obtain ⟨as,ra⟩:=ia.reads I R r1 rx;obtain ⟨bs,rb⟩:=ib.reads I R r2 ry;exact SeqAt.compareEq_shaped ra rb sa sb hu ⟨.bl (PyData.eqv a b),H,I,rfl,k _ h α H _ q @W R (.bl _)⟩
theorem Y0(hu:X.A.units + 64 < cLine):OpR X (compareOp .NotEq) (r2 X.K (pEq true)):=by
 intro pins s σ H x y v u Q I rx ry ⟨π,α,h,d,e,Q',R,r1,r2,f,k⟩;obtain ⟨a,b,ia,ib,sa,sb,q⟩:=a5G f;obtain ⟨as,ra⟩:=ia.reads I R r1 rx;obtain ⟨bs,rb⟩:=ib.reads I R r2 ry;exact SeqAt.compareNe_shaped ra rb sa sb hu ⟨.bl (!PyData.eqv a b),H,I,rfl,k _ h α H _ q @W R (.bl _)⟩
end
structure c1C(K:KP)(Sq:Hp->List V->Prop)(xs:List D)(w:List (Nat×O))(St:List Addr->Hp->Prop):Prop where
 keep:∀ α H α' H',St α H->Ext α H α' H'->St α' H'
 priv:∀ α H H' D,St α H->Z4 D H H'->D ∈ K.π->St α H'
 get:∀ α H h,HRel K α H h->St α H->(∀ p ∈ w,h[p.1]?=some p.2)->∃ us,Sq H us/\RelDs K α H xs us
def a8n(K:PySem.W.Frag)(π α:List Addr)(H:Hp)(Sq:Hp->List V->Prop)(xs:List D)(w:List (Nat×O)):Prop:=∀ π',(∀ p ∈ π',p ∈ π\/H p=none)->∃ St,c1C ⟨K,π'⟩ Sq xs w St/\St α H
def D6(h:Hh):D->Option Src
 |.tup xs=>some ⟨xs,[]⟩
 |.lst xs=>some ⟨xs,[]⟩
 |.scr xs=>some ⟨xs,[]⟩
 |.ref i=>match h[i]? with | some (.lst xs)=>some ⟨xs,[(i,.lst xs)]⟩ | _=>none
 |_=>none
theorem a1Q{K:PySem.W.Frag}{π α:List Addr}{H:Hp}{h:Hh}(R:HRel ⟨K,π⟩ α H h){d:D}{v:V}{S:Src}(r:RelD ⟨K,π⟩ α H d v)(e:D6 h d=some S) :
  ∃ a,v = .ref a/\S.ok h/\(((∃ us,SqL K H a us)/\a8n K π α H (λ H us=>SqL K H a us) S.items S.w)\/((∃ us,SqT K H a us)/\a8n K π α H (λ H us=>SqT K H a us) S.items S.w)):=by
 cases r with
 |@tup a us ds t rs =>
  cases e;exact ⟨a,rfl,Src.ok_nil,.inr ⟨⟨us,t.sq⟩,λ π' s=>⟨λ α H=>VT ⟨K,π'⟩ α H a us/\RelDs ⟨K,π'⟩ α H ds us,⟨λ α H α' H' st e=>⟨st.1.mono e,st.2.mono e⟩,λ α H H' D st e hD=>⟨st.1.priv e hD,st.2.priv e hD⟩,λ α H h R st _=>⟨us,st.1.sq,st.2⟩⟩,t.more s,rs.more s⟩⟩⟩
 |@lst a us ds t rs =>
  cases e;exact ⟨a,rfl,Src.ok_nil,.inl ⟨⟨us,t.sq⟩,λ π' s=>⟨λ α H=>VL ⟨K,π'⟩ α H a us/\RelDs ⟨K,π'⟩ α H ds us,⟨λ α H α' H' st e=>⟨st.1.mono e,st.2.mono e⟩,λ α H H' D st e hD=>⟨st.1.priv e hD,st.2.priv e hD⟩,λ α H h R st _=>⟨us,st.1.sq,st.2⟩⟩,t.more s,rs.more s⟩⟩⟩
 |@scr a us ds t rs =>
  cases e;exact ⟨a,rfl,Src.ok_nil,.inl ⟨⟨us,t.sq⟩,λ π' s=>⟨λ α H=>VS ⟨K,π'⟩ α H a us/\RelDs ⟨K,π'⟩ α H ds us,⟨λ α H α' H' st e=>⟨st.1.mono e,st.2.mono e⟩,λ α H H' D st e hD=>⟨st.1.priv e hD,st.2.priv e hD⟩,λ α H h R st _=>⟨us,st.1.sq,st.2⟩⟩,t.more s,rs.more s⟩⟩⟩
 |@ref i a hp =>
  have e:(match h[i]? with | some (.lst xs)=>some (Src.mk xs [(i,.lst xs)]) | _=>none)=some S:=e
  cases q:h[i]? with
  |none=>rw [q] at e;cases e
  |some o =>
   rw [q] at e
   cases o with
   |lst xs =>
    cases e;obtain ⟨p,us,e1,e2,e3⟩:=R.lst q;show Y;refine ⟨a,rfl,λ z hz=>by rw [ZX.mp hz];exact q,.inl ⟨⟨us,SqL.of e2⟩,λ π' s=>⟨λ α H=>α[i]?=some a,⟨λ α H α' H' st e=>e.get st,λ α H H' D st e hD=>st,λ α H h R st w=>?_⟩,hp⟩⟩⟩;obtain ⟨p,us,e1,e2,e3⟩:=R.lst (w (i,.lst xs) (ZX.mpr rfl));rw [st] at e1;cases e1;exact ⟨us,SqL.of e2,e3⟩
   |_=>cases e
 |_=>cases e
theorem b4n{K:PySem.W.Frag}{π α:List Addr}{H:Hp}{a:Addr}{S:Src}(s:a8n K π α H (λ H us=>SqL K H a us) S.items S.w):ItA K π α H (Itl K a) S:=λ π' sub=>by
 show Z
 ·show Af;obtain ⟨u,hu,ru⟩:=rs.get hi;refine ⟨⟨us,u,hq,hu⟩,λ x H' ⟨e1,e2⟩=>?_⟩;subst e1
  have:=(e2 us hq).symm.trans hu
  cases this;exact ⟨Ext.refl ..,R,ru⟩
 ·show Af;exact ⟨us,hq,by rw [<- rs.length];exact ZV _⟩
theorem b8y{K:PySem.W.Frag}{π α:List Addr}{H:Hp}{a:Addr}{S:Src}(s:a8n K π α H (λ H us=>SqT K H a us) S.items S.w):ItA K π α H (Itt K a) S:=λ π' sub=>by
 show Z
 ·show Af;obtain ⟨u,hu,ru⟩:=rs.get hi;refine ⟨⟨us,u,hq,hu⟩,λ x H' ⟨e1,e2⟩=>?_⟩;subst e1
  have:=(e2 us hq).symm.trans hu
  cases this;exact ⟨Ext.refl ..,R,ru⟩
 ·show Af;exact ⟨us,hq,by rw [<- rs.length];exact ZV _⟩
def G7:Int->List D->List D
 |_,[]=>[]
 |n,x :: r=>.tup [.int n,x] :: G7 (n + 1) r
theorem V8:∀ (n:Int) (xs:List D) (i:Nat),(G7 n xs)[i]?=(xs[i]?).map λ x=>.tup [.int (n + i),x]
 |n,[],i=>by simp [G7]
 |n,x :: r,0=>by simp [G7]
 |n,x :: r,i + 1=>by
  have:=V8 (n + 1) r i
  simp only [G7,List.getElem?_cons_succ,this]
  congr 1;funext y;congr 3;push_cast;omega
theorem J5:∀ (n:Int) (xs:List D),(G7 n xs).length=xs.length
 |_,[]=>rfl
 |n,x :: r=>by simp [G7,J5 (n + 1) r]
theorem a5y{K:PySem.W.Frag}{π α:List Addr}{H:Hp}{Sq:Hp->List V->Prop}{S:Src}(s:a8n K π α H Sq S.items S.w):ItA K π α H (Ite Sq) ⟨G7 0 S.items,S.w⟩:=λ π' sub=>by
 show Z
 ·rw [V8] at hi
  cases q:S.items[i]? with
  |none=>rw [q] at hi;cases hi
  |some y =>
   rw [q] at hi;cases hi;show Af;obtain ⟨u,hu,ru⟩:=rs.get q;refine ⟨⟨us,u,hq,hu⟩,λ x H' ⟨T,v,e0,hT,e1,e2⟩=>?_⟩;subst e0 e1
   have:=(e2 us hq).symm.trans hu
   obtain rfl:=Option.some.inj this
   have e3:Ext α H α (upd H T (.tup [.int (i:Nat),v])):=Ext.new hT;refine ⟨e3,R.new hT,.tup ⟨R.out hT,R.outP hT,j3⟩ (.cons ?_ (.cons (ru.mono e3) .nil))⟩;rw [YN];exact .int _
 ·show Af;exact ⟨us,hq,by rw [J5,rs.length]⟩
def z0(lo:Int):Nat->List D
 |0=>[]
 |n + 1=>.int lo :: z0 (lo + 1) n
theorem P8:∀ (lo:Int) (n i:Nat),(z0 lo n)[i]?=if i < n then some (.int (lo + i)) else none
 |lo,0,i=>by simp [z0]
 |lo,n + 1,0=>by simp [z0]
 |lo,n + 1,i + 1=>by
  have:=P8 (lo + 1) n i
  simp only [z0,List.getElem?_cons_succ,this,Nat.add_lt_add_iff_right];have e:lo + 1 + (i:Int)=lo + ((i + 1:Nat):Int):=by push_cast;omega
  rw [e]
theorem u5:∀ (lo:Int) (n:Nat),(z0 lo n).length=n
 |_,0=>rfl
 |lo,n + 1=>by simp [z0,u5 (lo + 1) n]
theorem b1d{K:PySem.W.Frag}{π α:List Addr}{H:Hp}{lo:Int}{n:Nat}:ItA K π α H (Itr lo n) ⟨z0 lo n,[]⟩:=λ π' sub=>by
 refine ⟨λ _ _=>True,⟨λ _ _ _ _ _ _=>trivial,λ _ _ _ _ _ _ _=>trivial,λ α H h i d R st ok hi=>?_,λ α H h R st ok=>?_⟩,trivial⟩
 ·have hi:(z0 lo n)[i]?=some d:=hi;rw [P8] at hi
  split at hi
  ·rename_i hlt;cases hi;exact ⟨hlt,λ x H' ⟨e1,e2⟩=>by subst e1 e2;exact ⟨Ext.refl ..,R,.int _⟩⟩
  ·cases hi
 ·show n <= (z0 lo n).length;rw [u5];exact ZV _
def O9(f:DE):DI:=λ δ h Q=>f δ h λ d h1=>match D6 h1 d with | some S=>Q S h1 | none=>False
def a4k(f:DA):DI:=λ δ h Q=>f δ h λ ds h1=>match ds with | [d]=>(match D6 h1 d with | some S=>Q ⟨G7 0 S.items,S.w⟩ h1 | none=>False) | _=>False
def u9(f:DA):DI:=λ δ h Q=>f δ h λ ds h1=>match ds with
 |[.int j]=>(-(2 ^ 62) <= j/\j < 2 ^ 62)/\Q ⟨z0 0 j.toNat,[]⟩ h1
 |[.int i,.int j]=>(-(2 ^ 62) <= i/\i < 2 ^ 62/\-(2 ^ 62) <= j/\j < 2 ^ 62)/\Q ⟨z0 i (j - i).toNat,[]⟩ h1
 |_=>False
section
variable {X:Cx} {tg:Expr}
theorem PI.imp{e:Expr}{t t':TI}(h:PI X tg e t)(k:∀ σ H Q,t' σ H Q->t σ H Q):PI X tg e t':=λ pins s σ H Q I q=>h pins s σ H Q I (k σ H Q q)
def c2L(K:PySem.W.Frag)(tl:TE):TI:=λ σ H R=>tl σ H λ x H1=>∃ a,x = .ref a/\(((∃ xs,SqL K H1 a xs)/\R (Itl K a) H1)\/((∃ xs,SqT K H1 a xs)/\R (Itt K a) H1))
theorem b6C{l:Expr}{tl:TE}(hl:PE X l tl):PI X tg l (c2L X.K tl):=by
 intro pins s σ H R I h;refine thn (hl pins s σ H _ I h) λ v s1 zz0=>?_;show Ai;obtain ⟨a,e,⟨⟨xs,hq⟩,q⟩ | ⟨⟨xs,hq⟩,q⟩⟩:=q1
 ·subst e;cases r1;obtain ⟨its,rv,p,hz⟩:=I1.list hq;refine wpAny_pyIter_list p.isList ?_;refine ⟨s1.heap.objs.size,[s1.heap.objs.size],_,_,H1,rfl,I1.kept (t':=s1.toks) λ b o e=>ZU _ e,a6p a _,⟨_,ZI _ rfl,rfl,rfl⟩,λ b hb=>?_,q⟩;have e:b=s1.heap.objs.size:=by simpa using hb
  subst e;exact I1.fpOk @G (I1.hok.fresh @G)
 ·subst e;cases r1;obtain ⟨its,rv,p,hz⟩:=I1.tuple hq;refine wpAny_pyIter_tuple (show s1.heap.IsTuple a its.toArray from p) ?_;refine ⟨s1.heap.objs.size,[s1.heap.objs.size],_,_,H1,rfl,I1.kept (t':=s1.toks) λ b o e=>ZU _ e,a4m a _,⟨_,ZI _ rfl,rfl,rfl⟩,λ b hb=>?_,q⟩;have e:b=s1.heap.objs.size:=by simpa using hb
  subst e;exact I1.fpOk @G (I1.hok.fresh @G)
theorem J7{l:Expr}{f:DE}(hl:SE X l f):SI X tg l (O9 f):=PI.imp (b6C hl) λ σ H Q zz0=>by
 show H;show F
 cases q:D6 h1 d with
 |none=>rw [q] at f1;exact f1.elim
 |some Sr =>
  rw [q] at f1;obtain ⟨a,rfl,ok,⟨hu,sa⟩ | ⟨hu,sa⟩⟩:=a1Q R1 q1 q
  ·exact ⟨a,rfl,.inl ⟨hu,k Sr h1 α1 H1 _ f1 e1 R1 (b4n sa) ok⟩⟩
  ·exact ⟨a,rfl,.inr ⟨hu,k Sr h1 α1 H1 _ f1 e1 R1 (b8y sa) ok⟩⟩
def b9k(K:PySem.W.Frag)(ta:TA):TI:=λ σ H R=>ta σ H λ vs H1=>∃ a,vs=[.ref a]/\(((∃ xs,SqL K H1 a xs)/\R (Ite λ H xs=>SqL K H a xs) H1)\/((∃ xs,SqT K H1 a xs)/\R (Ite λ H xs=>SqT K H a xs) H1))
theorem a9O{a:Expr}{ta:TA}{p pos:Pos}(hg:Gl X "enumerate")(hm:X.mg "enumerate" = none)(ha:PA X [a] ta)(htg:∃ es x1 pos,tg = .Tuple es x1 pos:=by exact ⟨_,_,_,rfl⟩)(hs:starEach [a] X.env=[(false,eval a X.env)]:=by rfl):PI X tg (.Call (.Name "enumerate" p) [a] [] pos) (b9k X.K ta):=by
 intro pins s σ H R I h;refine PyProof.Rows.Call_ (W8 I hg hm PyProof.Rows.boot_enumerate (PyProof.Rows.callWith_type1 (thn @Bb λ us s1 ⟨vs,H1,I1,r1,q1⟩=>?_) hs rfl));obtain ⟨a,e,⟨⟨xs,hq⟩,q⟩ | ⟨⟨xs,hq⟩,q⟩⟩:=q1
 ·subst e;obtain ⟨u,rfl,ru⟩:=T3 r1;cases ru;obtain ⟨its,rv,p,hz⟩:=I1.list hq;exact call_enumerate_list p.isList λ h' he hit _ hk=>a3V htg I1 (b0z a _) he hit hk q
 ·subst e;obtain ⟨u,rfl,ru⟩:=T3 r1;cases ru;obtain ⟨its,rv,p,hz⟩:=I1.tuple hq;exact M0 (show s1.heap.IsTuple a its.toArray from p) λ h' he hit _ hk=>a3V htg I1 (b5q a _) he hit hk q
theorem a6g{a:Expr}{n:Nat}{fs:DA}{p pos:Pos}(hg:Gl X "enumerate")(hm:X.mg "enumerate" = none)(ha:SA X [a] n fs)(htg:∃ es x1 pos,tg = .Tuple es x1 pos:=by exact ⟨_,_,_,rfl⟩)(hs:starEach [a] X.env=[(false,eval a X.env)]:=by rfl):SI X tg (.Call (.Name "enumerate" p) [a] [] pos) (a4k fs):=PI.imp (a9O hg hm ha htg hs) λ σ H Q zz0=>by
 show H;show W
 split at f1
 ·rename_i d;obtain ⟨v,rfl,q3⟩:=q1.inv1
  cases q:D6 h1 d with
  |none=>rw [q] at f1;exact f1.elim
  |some Sr =>
   rw [q] at f1;obtain ⟨a,rfl,ok,⟨hu,sa⟩ | ⟨hu,sa⟩⟩:=a1Q R1 q3 q
   ·exact ⟨a,rfl,.inl ⟨hu,k ⟨G7 0 Sr.items,Sr.w⟩ h1 α1 H1 _ f1 e1 R1 (a5y sa) ok⟩⟩
   ·exact ⟨a,rfl,.inr ⟨hu,k ⟨G7 0 Sr.items,Sr.w⟩ h1 α1 H1 _ f1 e1 R1 (a5y sa) ok⟩⟩
 ·exact f1.elim
theorem q8{a:Expr}{n:Nat}{fs:DA}{p pos:Pos}(hg:Gl X "range")(hm:X.mg "range" = none)(ha:SA X [a] n fs)(hs:starEach [a] X.env=[(false,eval a X.env)]:=by rfl)(hn:n=1:=by rfl):SI X tg (.Call (.Name "range" p) [a] [] pos) (u9 fs):=PI.imp (a6q hg hm ha hs) λ σ H Q zz0=>by
 show H;show W
 split at f1
 ·obtain ⟨v,rfl,q3⟩:=q1.inv1
  cases q3 with
  |int=>exact ⟨_,rfl,f1.1.1,f1.1.2,k _ h1 α1 H1 _ f1.2 e1 R1 b1d Src.ok_nil⟩
 ·subst hn;cases l1
 ·exact f1.elim
end
end DL
namespace DL
open PySem PySem.Spec L2
def dCB(p:PN)(f:DA):DE:=λ δ h Q=>f δ h λ ds h1=>p ds h1 Q
theorem a5V{K:PySem.W.Frag}{p:PN}{n:Nat}{f:DA}{σ:L2.St}{H:Hp}{Q:VK}(g:LE K (dCB p f) σ H Q):LA K n f σ H λ vs H1=>rN K p vs H1 Q:=by
 obtain ⟨π,α,δ,h,Q',R,S,f,k⟩:=g;exact ⟨π,α,δ,h,_,R,S,f,λ ds h1 α1 H1 vs f1 e1 R1 q1 l1=>⟨π,α1,h1,ds,Q',R1,q1,f1,λ d h' α' H' v a b c d'=>k d h' α' H' v a (e1.trans b) c d'⟩⟩
section
variable {X:Cx} {x:Str} {p pos:Pos} {e:Expr} {es:List Expr} {n:Nat} {f:DA} {id T:String} {r:PN}
theorem s9(hc:CallR X (.builtin id) (rN X.K r))(hg:Gl X x)(hm:X.mg x=none)(hv:bootBuiltins x=some (.builtin id))(ha:SA X (e :: es) n f)(hn:x ≠ "__name__":=by decide)(hdb:@Ag=false:=by decide)
  (he:starEach (e :: es) X.env=(false,eval e X.env) :: starEach es X.env:=by rfl) (hpl:(backTo pos @Ao).any (·.1)=false:=by rfl):SE X @Av (dCB r f) :=
 PE.imp (a3q hc hg hm hv ha hn hdb he hpl) λ _ _ _ g=>a5V g
theorem v8(hc:CallR X (.type T) (rN X.K r))(hg:Gl X x)(hm:X.mg x=none)(hv:bootBuiltins x=some (.type T))(ha:SA X (e :: es) n f)(hn:x ≠ "__name__":=by decide)(hdb:@Ag=false:=by decide)
  (he:starEach (e :: es) X.env=(false,eval e X.env) :: starEach es X.env:=by rfl) (hpl:(backTo pos @Ao).any (·.1)=false:=by rfl):SE X @Av (dCB r f) :=
 PE.imp (a1E hc hg hm hv ha hn hdb he hpl) λ _ _ _ g=>a5V g
def a4v(h:Hh):D->Option Nat
 |.str x=>if x.length <= 16777216 then some x.length else none
 |d=>(F0 h d).map List.length
def Z9:PN:=λ ds h Q=>match ds with | [d]=>(match a4v h d with | some n=>Q (.int n) h | none=>False) | _=>False
theorem F3:CallR X (.builtin "len") (rN X.K Z9):=CallR.imp a7D λ xs H Q zz0=>by
 show Ac;unfold Z9 at f
 split at f
 ·rename_i d;obtain ⟨v,rfl,rd⟩:=rs.inv1
  cases q:a4v h d with
  |none=>rw [q] at f;exact f.elim
  |some n =>
   rw [q] at f;refine ⟨v,n,rfl,?_,k _ h α H _ f @W R (.int _)⟩
   by_cases z:∃ x,d = .str x
   ·obtain ⟨x,rfl⟩:=z;cases rd;have q:(if x.length <= 16777216 then some x.length else none)=some n:=q
    split at q
    ·rename_i hl;cases q;exact ⟨by rw [sizeLine_eq];exact hl,rfl⟩
    ·cases q
   ·have q':(F0 h d).map List.length=some n:=by
     cases d with
     |str x=>exact absurd ⟨x,rfl⟩ z
     |_=>exact q
    cases w:F0 h d with
    |none=>rw [w] at q';cases q'
    |some ys =>
     rw [w] at q'
     cases q'
     obtain ⟨p,us,rfl,b,c⟩:=a0A R rd w
     rcases b with b | b
     ·exact .inl ⟨us,b,c.length⟩
     ·exact .inr ⟨us,b,c.length⟩
 ·exact f.elim
def P3:PN:=λ ds h Q=>match ds with | [d]=>(match F0 h d with | some xs=>Q (.tup xs) h | none=>False) | _=>False
theorem L1:CallR X (.type "tuple") (rN X.K P3):=CallR.imp a1m λ xs H Q zz0=>by
 show Ac;unfold P3 at f
 split at f
 ·rename_i d;obtain ⟨v,rfl,rd⟩:=rs.inv1
  cases w:F0 h d with
  |none=>rw [w] at f;exact f.elim
  |some ys =>
   rw [w] at f
   by_cases z:∃ x,d = .tup x
   ·obtain ⟨x,rfl⟩:=z;cases w
    cases rd with
    |tup t r=>exact ⟨_,_,rfl,.inr ⟨t.sq,k _ h α H _ f @W R (.tup t r)⟩⟩
   ·have w':A6 h d=some ys:=by
     cases d with
     |tup x=>exact absurd ⟨x,rfl⟩ z
     |lst x=>exact w
     |scr x=>exact w
     |ref x=>exact w
     |_=>cases w
    obtain ⟨p,us,rfl,b,c⟩:=M9 R rd w';refine ⟨p,us,rfl,.inl ⟨b,λ l hl=>?_⟩⟩;have e2:Ext α H α (upd H l (.tup us)):=Ext.new hl;exact k _ h α _ _ f e2 (R.new hl) (.tup ⟨R.out hl,R.outP hl,j3⟩ (c.mono e2))
 ·exact f.elim
def a5h(f:DA):DN:=λ δ h Q=>f δ h λ ds h1=>match ds with | [d]=>(match F0 h1 d with | some xs=>Q xs h1 | none=>False) | _=>False
theorem b4J(hg:Gl X "list")(hm:X.mg "list" = none)(ha:SA X (e :: es) n f)(he:starEach (e :: es) X.env=(false,eval e X.env) :: starEach es X.env:=by rfl)(hpl:(backTo pos @Ao).any (·.1)=false:=by rfl) :
  SN X (.Call (.Name "list" p) (e :: es) [] pos) (a5h f):=PE.imp (a1E a2D hg hm PyProof.Rows.boot_list ha @B @B he hpl) λ σ H Q ⟨π,α,δ,h,Q',R,S,f,k⟩=>by
 show W
 split at f1
 ·rename_i d;obtain ⟨v,rfl,rd⟩:=q1.inv1
  cases w:F0 h1 d with
  |none=>rw [w] at f1;exact f1.elim
  |some ys =>
   rw [w] at f1;obtain ⟨p,us,rfl,b,c⟩:=a0A R1 rd w;exact ⟨p,us,rfl,b,λ l hl=>LN.last (h:=h) k f1 e1 R1 c hl⟩
 ·exact f1.elim
def a4U:PN:=λ ds h Q=>match ds with | [.int i]=>Q (.int i) h | [.bl b]=>Q (.int (if b then 1 else 0)) h | _=>False
theorem a0M:CallR X (.type "int") (rN X.K a4U):=CallR.imp a6V λ xs H Q zz0=>by
 show Ac;unfold a4U at f
 split at f
 ·obtain ⟨v,rfl,rd⟩:=rs.inv1;cases rd;exact .inl ⟨_,rfl,k _ h α H _ f @W R (.int _)⟩
 ·obtain ⟨v,rfl,rd⟩:=rs.inv1;cases rd;exact .inr ⟨_,rfl,k _ h α H _ f @W R (.int _)⟩
 ·exact f.elim
def b2N:PN:=λ ds h Q=>match ds with | [.int i,.int j]=>Q (.int (if j < i then j else i)) h | _=>False
def b8C:PN:=λ ds h Q=>match ds with | [.int i,.int j]=>Q (.int (if j > i then j else i)) h | _=>False
def c4i:PN:=λ ds h Q=>match ds with | [.int i]=>Q (.int (if i < 0 then -i else i)) h | _=>False
theorem a8k(hc:X.calm=true):CallR X (.builtin "min") (rN X.K b2N):=CallR.imp (a6N hc) λ xs H Q zz0=>by
 show Ac;unfold b2N at f
 split at f
 ·obtain ⟨v,w,rfl,rd,re⟩:=rs.inv2
  cases rd;cases re;exact ⟨_,_,rfl,k _ h α H _ f @W R (.int _)⟩
 ·exact f.elim
theorem b6o(hc:X.calm=true):CallR X (.builtin "max") (rN X.K b8C):=CallR.imp (a6B hc) λ xs H Q zz0=>by
 show Ac;unfold b8C at f
 split at f
 ·obtain ⟨v,w,rfl,rd,re⟩:=rs.inv2
  cases rd;cases re;exact ⟨_,_,rfl,k _ h α H _ f @W R (.int _)⟩
 ·exact f.elim
def c0H:PN:=λ ds h Q=>∃ (d:D) (ns:List Int),ds=[d]/\A6 h d=some @AP/\Q (.int ns.sum) h
theorem b7B(hc:X.calm=true):CallR X (.builtin "sum") (rN X.K c0H):=CallR.imp (a1p hc) λ xs H Q zz0=>by
 show Ac;obtain ⟨d,ns,rfl,w,f⟩:=f;obtain ⟨v,rfl,rd⟩:=rs.inv1;obtain ⟨p,us,rfl,b,c⟩:=M9 R rd w
 cases c.ints_inv
 exact ⟨p,ns,rfl,b,k _ h α H _ f @W R (.int _)⟩
end
section
variable {X:Cx} {o e:Expr} {fo fe:DE} {fs:DA} {n:Nat} {apos cpos:Pos}
def b5P(fo:DE):DE:=λ δ h Q=>fo δ h λ d h1=>match d with | .int i=>Q (.int (Builtin.Int.intBits i:Nat)) h1 | _=>False
theorem b2Z(ho:SE X o fo)(hbase:attributeBase o "bit_length" X.env (eval o X.env)=eval o X.env:=by rfl)(hline:@Aq=true:=by rfl):SE X (.Call (.Attribute o "bit_length" apos) [] [] cpos) (b5P fo) :=
 PE.imp (a2h PySem.F.plainAttrs_int PySem.F.slot_int_bit_length PySem.F.type_int_bit_length b4c ho hbase hline) λ σ H Q zz0=>by
  show H;show F
  cases q1 with
  |int i=>exact ⟨rfl,i,rfl,rfl,k _ h1 α1 H1 _ f1 e1 R1 (.int _)⟩
  |_=>exact f1.elim
def C0(fo:DE)(fs:DA):DE:=λ δ h Q=>fo δ h λ d h1=>match d with
 |.ref i=>(match h1[i]? with
  |some (.lst _)=>fs δ h1 λ ds h2=>(match ds,h2[i]? with
   |[v],some (.lst ys)=>ys.length < 16777216/\Q .non (h2.set i (.lst (ys ++ [v])))
   |_,_=>False)
  |_=>False)
 |_=>False
theorem b0d{K:PySem.W.Frag}{π α:List Addr}{H:Hp}{h:Hh}(R:HRel ⟨K,π⟩ α H h){i:Nat}{a:Addr}{xs:List D}(hp:α[i]?=some a)(w:h[i]?=some @X):∃ us,H a=some (.lst us)/\RelDs ⟨K,π⟩ α H xs us:=by
 obtain ⟨p,us,e1,e2,e3⟩:=R.lst w;show Y;exact ⟨us,e2,e3⟩
theorem y9(ho:SE X o fo)(ha:SA X [e] n fs)(hbase:attributeBase o "append" X.env (eval o X.env)=eval o X.env:=by rfl)
  (hfew:((backTo cpos (starEach [e] X.env)).all (λ x=>!x.1) && (backToKw cpos @AK).all (λ x=>x.1.isSome)
   && decide ([e].length + ([]:List Keyword).length + (if ([]:List Keyword).isEmpty then 0 else 1) < 30))=true:=by rfl)
  (hline:@Aq=true:=by rfl) (hs:starEach [e] X.env=(false,eval e X.env) :: starEach [] X.env:=by rfl) (hplain:(backTo cpos (starEach [] X.env)).any (·.1)=false:=by rfl) :
  SE X (.Call (.Attribute o "append" apos) [e] [] cpos) (C0 fo fs) :=
 PE.imp (c1y PySem.F.plainAttrs_list PySem.F.slot_list_append PySem.F.type_list_append a7b ho ha hbase hfew hline hs hplain) λ σ H Q zz0=>by
  show H;show F
  cases q1 with
  |@ref i a hp =>
   dsimp only at f1
   cases w:h1[i]? with
   |none=>rw [w] at f1;exact f1.elim
   |some ob =>
    rw [w] at f1
    cases ob with
    |lst xs =>
     obtain ⟨us,e2,e3⟩:=b0d R1 hp w;refine ⟨.inl ⟨rfl,us,SqL.of e2⟩,π,α1,δ,h1,_,R1,S.mono e1,f1,λ ds h2 α2 H2 vs f2 e2 R2 q2 l2=>?_⟩
     split at f2
     ·rename_i v ys w2;obtain ⟨u,rfl,q9⟩:=q2.inv1;have hp2:=e2.get hp;obtain ⟨us2,g2,g3⟩:=b0d R2 hp2 w2;have e4:Ext α2 H2 α2 (upd H2 a (.lst (us2 ++ [u]))):=Ext.write (ZT hp2);exact ⟨a,us2,u,rfl,rfl,g2,by rw [<- g3.length,sizeLine_eq];exact f2.1,k _ _ α2 _ _ f2.2 (e1.trans (e2.trans e4)) (R2.write hp2 (.lst j3 ((g3.snoc q9).mono e4))) .non⟩
     ·exact f2.elim
    |_=>exact f1.elim
  |_=>exact f1.elim
def c1h(fo:DE):DE:=λ δ h Q=>fo δ h λ d h1=>match d with
 |.ref i=>(match h1[i]? with
  |some (.lst xs)=>(match xs[xs.length - 1]? with | some y=>Q y (h1.set i (.lst xs.dropLast)) | none=>False)
  |_=>False)
 |_=>False
theorem b8n(ho:SE X o fo)(hbase:attributeBase o "pop" X.env (eval o X.env)=eval o X.env:=by rfl)(hline:@Aq=true:=by rfl):SE X (.Call (.Attribute o "pop" apos) [] [] cpos) (c1h fo) :=
 PE.imp (a2h PySem.F.plainAttrs_list PySem.F.slot_list_pop PySem.F.type_list_pop b9s ho hbase hline) λ σ H Q zz0=>by
  show H;show F
  cases q1 with
  |@ref i a hp =>
   dsimp only at f1
   cases w:h1[i]? with
   |none=>rw [w] at f1;exact f1.elim
   |some ob =>
    rw [w] at f1
    cases ob with
    |lst xs =>
     dsimp only at f1;obtain ⟨us,e2,e3⟩:=b0d R1 hp w
     cases y:xs[xs.length - 1]? with
     |none=>rw [y] at f1;exact f1.elim
     |some z =>
      rw [y] at f1;obtain ⟨u,g1,g2⟩:=e3.get y;have e4:Ext α1 H1 α1 (upd H1 a (.lst us.dropLast)):=Ext.write (ZT hp);exact ⟨.inl ⟨rfl,us,SqL.of e2⟩,a,us,u,rfl,rfl,e2,by rw [<- e3.length];exact g1,k _ _ α1 _ _ f1 (e1.trans e4) (R1.write hp (.lst j3 (e3.dropLast.mono e4))) (g2.mono e4)⟩
    |_=>exact f1.elim
  |_=>exact f1.elim
def c2t(fo:DE):DE:=λ δ h Q=>fo δ h λ d h1=>match d with
 |.ref i=>(match h1[i]? with | some (.lst _)=>Q .non (h1.set i (.lst [])) | _=>False)
 |_=>False
end
abbrev DSp:=List D->Hh->DK->Prop
inductive spD(K:PySem.W.Frag)(n:Nat)(g:DSp)(vs:List V)(H:Hp)(Q:VK)(X9:XK):Prop
 |mk (π:List Addr) (α:List Addr) (h:Hh) (ds:List D) (Q':DK):HRel ⟨K,π⟩ α H h->RelDs ⟨K,π⟩ α H ds vs->ds.length=n->g ds h Q'->(∀ d h' α' H' v,Q' d h'->Ext α H α' H'->HRel ⟨K,π⟩ α' H' h'->RelD ⟨K,π⟩ α' H' d v->Q v H')->spD K n g vs H Q X9
def o7(g:DSp)(f:DA):DE:=λ δ h Q=>f δ h λ ds h1=>g ds h1 Q
section
variable {X:Cx} {k m:Nat} {ps:List Str} {g:DSp} {x:Str} {p pos:Pos} {e:Expr} {es:List Expr} {n:Nat} {f:DA}
theorem j1(c:Cal X.prog X.w X.K X.mg X.base k x ps (spD X.K m g))(hr:Room k X.A)(hg:Gl X x)(ha:SA X (e :: es) n f)(hn:n=m:=by rfl)(hdb:@Ag=false:=by decide)
  (he:starEach (e :: es) X.env=(false,eval e X.env) :: starEach es X.env:=by rfl) (hpl:(backTo pos @Ao).any (·.1)=false:=by rfl):SE X @Av (o7 g f) :=
 PE.imp (b8E c hr hg ha hdb he hpl) λ σ H Q zz0=>by
  show H;show W;show spD X.K m g (vs ++ []) H1 Q E0;rw [Zr];exact ⟨π,α1,h1,ds,Q',R1,q1,l1.trans hn,f1,λ d h' α' H' v a b c d'=>k d h' α' H' v a (e1.trans b) c d'⟩
end
def j2(n:Nat)(b:DS):DSp:=λ ds h Q=>b { nx:=λ _ h'=>Q .non h',rt:=Q } (ds.map some ++ List.replicate (n - ds.length) none) h
theorem a0L{K:KP}{α:List Addr}{H:Hp}{ds:List D}{vs:List V}{N:List Str}(r:RelDs K α H ds vs):RelS K α H (ds.map some ++ List.replicate (N.length - ds.length) none) (L2.start N vs):=by
 refine ⟨by unfold L2.start;simp [r.length],λ i d e=>?_⟩
 by_cases hi:i < ds.length
 ·rw [ZN (by simpa using hi),ZP] at e
  cases q:ds[i]? with
  |none=>rw [q] at e;cases e
  |some z =>
   rw [q] at e;cases e;obtain ⟨u,h1,h2⟩:=r.get q;refine ⟨u,?_,h2⟩;unfold L2.start;rw [ZN (by rw [ZS,<- r.length];exact hi),ZP,h1];rfl
 ·rw [ZA (by simpa using hi),List.getElem?_replicate] at e
  split at e <;> cases e
section
variable {P:Program} {w:World} {K:PySem.W.Frag} {mg:Str->Option Value} {base:Heap}
theorem m9{x qual:Str}{st:Stmt}{f:Addr}{fd:FuncData}{N ps:List Str}{k:Nat}{b:DS}{g:DSp}(F:Fun K x qual st f fd)(S:i9 N ps (d7 st))
  (hb:∀ (cdv:Value) (A:Around) (outer:List Env) (s:Shared) (H:Hp) (E:XK),Room k (A.deeper (PyProof.Rows.envOfC qual (d7 st) s.heap.objs.size f cdv))->SSs (a3o CX0 P w K mg base N qual (d7 st) f cdv A outer s H E).nox (j7 st) b)
  (hg:∀ ds h Q,g ds h Q->j2 N.length b ds h Q):n8 P w K mg base CX0 (k + 1) f fd ps (spD K ps.length g):=by
 refine F.ok S (λ vs H Q E h=>?_) λ cdv A outer s H vs Q E hr h=>?_
 ·obtain ⟨π,α,h,ds,Q',R,r,l,_⟩:=h;rw [<- r.length,l]
 ·obtain ⟨π,α,h,ds,Q',R,r,l,q,kk⟩:=h;refine ⟨_,hb cdv A outer s H E hr,π,α,_,h,{ nx:=λ _ h'=>Q' .non h',rt:=Q' },R,a0L r,hg ds h Q' q,⟨λ _ h' α' H' σ' a b c _=>kk .non h' α' H' .non a b c .non,λ d h' α' H' v a b c d'=>kk d h' α' H' v a b c d',λ _ _ _ _ _ a _ _ _=>a.elim,λ _ _ _ _ _ a _ _ _=>a.elim,λ _ _ _ _ _ _ _ a _ _ _=>a.elim⟩⟩
end
end DL
namespace DL
open PySem PySem.Spec L2
def lsP(h:Hh):D->Option (List D)
 |.lst xs=>some xs
 |.ref i=>match h[i]? with | some (.lst xs)=>some xs | _=>none
 |_=>none
theorem a4R{K:KP}{α:List Addr}{H:Hp}{h:Hh}(R:HRel K α H h){d:D}{v:V}{xs:List D}(r:RelD K α H d v)(e:lsP h d=some xs):∃ p us,v = .ref p/\H p=some (.lst us)/\RelDs K α H xs us:=by
 cases r with
 |lst t r=>cases e;exact ⟨_,_,rfl,t.2.2,r⟩
 |@ref i a hp =>
  have e:(match h[i]? with | some (.lst xs)=>some xs | _=>none)=some xs:=e
  cases q:h[i]? with
  |none=>rw [q] at e;cases e
  |some o =>
   rw [q] at e
   cases o with
   |lst ys =>
    cases e;obtain ⟨p,us,e1,e2,e3⟩:=R.lst q;show Y;exact ⟨_,us,rfl,e2,e3⟩
   |_=>cases e
 |_=>cases e
def n4:P2:=λ x y h Q=>match lsP h x,lsP h y with
 |some xs,some ys=>xs.length + ys.length <= 16777216/\Q (.lst (xs ++ ys)) h
 |_,_=>c0U x y h Q
section
variable {X:Cx}
theorem j5:OpR X (binaryOp .Add) (r2 X.K n4):=OpR.imp (op_cat.or b9y) λ x y H Q zz0=>by
 show R;unfold n4 at f
 cases w:lsP h d with
 |none=>rw [w] at f;exact .inr ⟨π,α,h,d,e,Q',R,r1,r2,f,k⟩
 |some xs =>
  cases w':lsP h e with
  |none=>rw [w,w'] at f;exact .inr ⟨π,α,h,d,e,Q',R,r1,r2,f,k⟩
  |some ys =>
   rw [w,w'] at f;obtain ⟨p,us,rfl,b,c⟩:=a4R R r1 w;obtain ⟨p',us',rfl,b',c'⟩:=a4R R r2 w';refine .inl ⟨p,p',us,us',rfl,rfl,b,b',by rw [<- c.length,<- c'.length,sizeLine_eq];exact f.1,λ l hl=>?_⟩;have e2:Ext α H α (upd H l (.lst (us ++ us'))):=Ext.new hl;exact k _ h α _ _ f.2 e2 (R.new hl) (.lst ⟨R.out hl,R.outP hl,j3⟩ ((c.append c').mono e2))
def c3A(fa fb:DE):DN:=λ δ h Q=>fa δ h λ x h1=>fb δ h1 λ y h2=>match lsP h2 x,lsP h2 y with
 |some xs,some ys=>xs.length + ys.length <= 16777216/\Q (xs ++ ys) h2
 |_,_=>False
theorem a2k{K:KP}{α:List Addr}{H:Hp}{ds:List D}{us:List V}(r:RelDs K α H ds us):∀ n:Nat,RelDs K α H (List.replicate n ds).flatten (List.replicate n us).flatten
 |0=>.nil
 |n + 1=>by rw [YY,YY,YH,YH];exact r.append (a2k r n)
def c3m(fa fb:DE):DN:=λ δ h Q=>fa δ h λ x h1=>fb δ h1 λ y h2=>match lsP h2 x,y with
 |some xs,.int n=>(-(2 ^ 63) <= n/\n < 2 ^ 63/\xs.length * n.toNat <= 16777216)/\Q (List.replicate n.toNat xs).flatten h2
 |_,_=>False
theorem op_mulB:OpR X (binaryOp .Mult) (rI IntMulOk λ i j=>.int (i * j)):=opI λ _ _ _ _ _ _ _ hc q=>PyProof.Rows.mul_int q hc
def S0:P2:=pI IntMulOk λ i j=>i * j
theorem A5:OpR X (binaryOp .Mult) (r2 X.K S0):=a1v op_mulB
def b4l:P2:=λ x y h Q=>match x,y with
 |.int i,.int j=>IntMulOk i j/\Q (.int (i * j)) h
 |.tup xs,.int n=>(xs ≠ []/\xs.length <= 10/\1 <= n/\n < 100)/\Q (.tup (List.replicate n.toNat xs).flatten) h
 |x,.int n=>(match lsP h x with | some xs=>(-(2 ^ 63) <= n/\n < 2 ^ 63/\xs.length * n.toNat <= 16777216)/\Q (.lst (List.replicate n.toNat xs).flatten) h | none=>False)
 |_,_=>False
theorem a9M:OpR X (binaryOp .Mult) (r2 X.K b4l):=OpR.imp (op_mulB.or (op_repT.or b6u)) λ x y H Q zz0=>by
 show R;unfold b4l at f
 split at f
 ·cases r1;cases r2;exact .inl ⟨_,_,rfl,rfl,f.1,k _ h α H _ f.2 @W R (.int _)⟩
 ·rename_i xs n;cases r2
  cases r1 with
  |@tup a us ds t r =>
   obtain ⟨⟨f1,f2,f3,f4⟩,f5⟩:=f;refine .inr (.inl ⟨a,_,us,rfl,rfl,t.sq,?_,by rw [<- r.length];exact f2,f3,f4,λ z=>?_,λ z p hp=>?_⟩)
   ·intro z;subst z;cases r;exact f1 rfl
   ·subst z;rw [show ∀ zs:List D,(List.replicate (1:Int).toNat zs).flatten=zs from λ zs=>by simp] at f5;exact k _ h α H _ f5 @W R (.tup t r)
   ·have e2:Ext α H α (upd H p (.tup (List.replicate n.toNat us).flatten)):=Ext.new hp;exact k _ h α _ _ f5 e2 (R.new hp) (.tup ⟨R.out hp,R.outP hp,j3⟩ ((a2k r _).mono e2))
 ·rename_i n _ _;cases r2
  split at f
  ·rename_i xs w;obtain ⟨p,us,rfl,b,c⟩:=a4R R r1 w;refine .inr (.inr ⟨p,_,us,rfl,rfl,b,f.1.1,f.1.2.1,by rw [<- c.length,sizeLine_eq];exact f.1.2.2,λ l hl=>?_⟩);have e2:Ext α H α (upd H l (.lst (List.replicate n.toNat us).flatten)):=Ext.new hl;exact k _ h α _ _ f.2 e2 (R.new hl) (.lst ⟨R.out hl,R.outP hl,j3⟩ ((a2k c _).mono e2))
  ·exact f.elim
 ·exact f.elim
def dSl(fe:DE)(fl fh:DO):DE:=λ δ h Q=>fe δ h λ d h1=>fl δ h1 λ l h2=>fh δ h2 λ u h3=>match d with
 |.tup xs=>Q (.tup (a3N xs l u)) h3
 |d=>match A6 h3 d with | some xs=>Q (.lst (a3N xs l u)) h3 | none=>False
theorem b0y{e:Expr}{fe:DE}{lo hi:Option Expr}{fl fh:DO}{pos p2:Pos}(he:SE X e fe)(hl:SO X lo fl)(hu:SO X hi fh):SE X (.Subscript e (.Slice lo hi none p2) pos) (dSl fe fl fh):=PE.imp (b0w (sl_tupD.or b5g) he hl hu) λ σ H Q zz0=>by
 show H;show F;refine ⟨π,α1,δ,h1,_,R1,S.mono e1,f1,λ l h2 α2 H2 f2 e2 R2=>?_⟩;refine ⟨π,α2,δ,h2,_,R2,S.mono (e1.trans e2),f2,λ u h3 α3 H3 f3 e3 R3=>?_⟩;have q3:=(q1.mono e2).mono e3
 split at f3
 ·cases q3 with
  |@tup a us ds t r =>
   refine .inl ⟨a,us,rfl,t.sq,λ z=>?_,λ p hp=>?_⟩
   ·have c:=a2O r l u;rw [z] at c;exact k _ h3 α3 H3 _ f3 (e1.trans (e2.trans e3)) R3 (.tup t c)
   ·have e4:Ext α3 H3 α3 (upd H3 p (.tup (R0 us l u))):=Ext.new hp;exact k _ h3 α3 _ _ f3 (e1.trans (e2.trans (e3.trans e4))) (R3.new hp) (.tup ⟨R3.out hp,R3.outP hp,j3⟩ ((a2O r l u).mono e4))
 ·split at f3
  ·rename_i xs w;obtain ⟨p,us,rfl,b,c⟩:=M9 R3 q3 w;refine .inr ⟨p,us,rfl,b,λ l' hl=>?_⟩;have e4:Ext α3 H3 α3 (upd H3 l' (.lst (R0 us l u))):=Ext.new hl;exact k _ h3 α3 _ _ f3 (e1.trans (e2.trans (e3.trans e4))) (R3.new hl) (.lst ⟨R3.out hl,R3.outP hl,j3⟩ ((a2O c l u).mono e4))
  ·exact f3.elim
def c2i(fo:DE)(fs:DA):DE:=λ δ h Q=>fo δ h λ d h1=>match d with
 |.ref i=>(match h1[i]? with
  |some (.lst _)=>fs δ h1 λ ds h2=>(match ds,h2[i]? with
   |[v],some (.lst ys)=>(match lsP h2 v with | some zs=>ys.length + zs.length <= 16777216/\Q .non (h2.set i (.lst (ys ++ zs))) | none=>False)
   |_,_=>False)
  |_=>False)
 |_=>False
def K9(h:Hh):D->Option String
 |.non=>some "NoneType"
 |.bl _=>some "bool"
 |.int _=>some "int"
 |.str _=>some "str"
 |.tup _=>some "tuple"
 |.lst _=>some "list"
 |.ref i=>match h[i]? with | some (.lst _)=>some "list" | some (.dT none _)=>some "dict" | some (.dK _)=>some "dict" | _=>none
 |_=>none
def k6(t T:String):Bool:=t == T || (t == "bool" && T == "int")
theorem b7f{K:PySem.W.Frag}{t T:String}(ht:t ∈ ["NoneType","bool","int","str","tuple","list","dict"])(hT:T ∈ ["bool","int","str","tuple","list","dict"]):PySem.W.kitOne K (.type t) (.type T)=some (k6 t T):=by
 simp only [List.mem_cons,List.not_mem_nil,or_false] at ht hT
 rcases ht with rfl | rfl | rfl | rfl | rfl | rfl | rfl <;> rcases hT with rfl | rfl | rfl | rfl | rfl | rfl <;> rfl
def a0m(T:String)(fa:DE):DE:=λ δ h Q=>fa δ h λ d h1=>match K9 h1 d with | some t=>Q (.bl (k6 t T)) h1 | none=>False
theorem b3D{h:Hh}{d:D}{t:String}(e:K9 h d=some t):t ∈ ["NoneType","bool","int","str","tuple","list","dict"]:=by
 unfold K9 at e
 split at e
 all_goals first | (cases e;done) | (cases e;decide) | skip
 split at e
 all_goals first | (cases e;done) | (cases e;decide)
theorem a2w{T:String}:CallR X (.builtin "isinstance") (λ xs H Q=>∃ x t b,xs=[x,.ty T]/\(Q5 X.K H x t\/(t = .type "tuple"/\∃ a us,x = .ref a/\SqT X.K H a us))/\PySem.W.kitOne X.K t (.type T)=some b/\Q (.bl b) H):=by
 show Aa;obtain ⟨x,t,b,rfl,ty,e,q⟩:=h;obtain ⟨u,w',rfl,ru,rw'⟩:=a9u r
 cases rw'
 rcases ty with ty | ⟨rfl,a,us,rfl,hq⟩
 ·exact a7o I ru ty e λ tk=>⟨.bl b,H,I.tok _,rfl,q⟩
 ·cases ru;obtain ⟨its,rv,⟨o,h1,h2,_⟩,_⟩:=I.tuple hq;exact PySem.W.kia_one PySem.W.kitx_tuple I.kIn ⟨o,h1,h2⟩ e (λ z=>nomatch z) λ tk=>⟨.bl b,H,I.tok _,rfl,q⟩
theorem b3C{K:PySem.W.Frag}{π α:List Addr}{H:Hp}{h:Hh}{d:D}{v:V}{t:String}(R:HRel ⟨K,π⟩ α H h)(r:RelD ⟨K,π⟩ α H d v)(e:K9 h d=some t):Q5 K H v (.type t)\/(Value.type t = .type "tuple"/\∃ a us,v = .ref a/\SqT K H a us):=by
 cases r with
 |non=>cases e;exact .inl .non
 |bl b=>cases e;exact .inl (.bl b)
 |int i=>cases e;exact .inl (.int i)
 |str x=>cases e;exact .inl (.str x)
 |tup t r=>cases e;exact .inr ⟨rfl,_,_,rfl,t.sq⟩
 |lst t r=>cases e;exact .inl (.lst t.2.2)
 |scr t r=>cases e
 |exc _ _ _=>cases e
 |@ref i a hp =>
  have e:(match h[i]? with | some (.lst _)=>some "list" | some (.dT none _)=>some "dict" | some (.dK _)=>some "dict" | _=>none)=some t:=e
  cases q:h[i]? with
  |none=>rw [q] at e;cases e
  |some o =>
   rw [q] at e
   cases o with
   |lst ys =>
    cases e;obtain ⟨us,e2,e3⟩:=b0d R hp q;exact .inl (.lst e2)
   |dT z ys =>
    cases z with
    |none =>
     cases e;obtain ⟨p,us,e1,e2,e3⟩:=R.dT q;show Y;exact .inl (.dT e2)
    |some o=>cases e
   |dK ys =>
    cases e;obtain ⟨p,us,e1,e2,e3⟩:=R.dK q;show Y;exact .inl (.dK e2)
   |ins C fs=>cases e
theorem U8{T:String}{a:Expr}{fa:DE}{x:Str}{p p2 pos:Pos}(hT:T ∈ ["bool","int","str","tuple","list","dict"])(hg:Gl X "isinstance")(hm:X.mg "isinstance" = none)(ha:SE X a fa)(ht:PE X (.Name x p2) (tC (.ty T)))
  (he:starEach [a,.Name x p2] X.env=(false,eval a X.env) :: starEach [.Name x p2] X.env:=by rfl) (he2:starEach [.Name x p2] X.env=(false,eval (.Name x p2) X.env) :: starEach [] X.env:=by rfl) (hpl:(backTo pos (starEach [.Name x p2] X.env)).any (·.1)=false:=by rfl) :
  SE X (.Call (.Name "isinstance" p) [a,.Name x p2] [] pos) (a0m T fa):=PE.imp (a3q a2w hg hm PyProof.Rows.boot_isinstance (a2P ha (a2P ht a8W he2) he) @B @B he hpl) λ σ H Q ⟨π,α,δ,h,Q',R,S,f,k⟩=>by
 show F
 split at f1
 ·rename_i t w;exact ⟨v1,.type t,_,rfl,b3C R1 q1 w,b7f (b3D w) hT,k _ h1 α1 H1 _ f1 e1 R1 (.bl _)⟩
 ·exact f1.elim
def a1O:D->Bool
 |.non=>true
 |.bl _=>true
 |.int _=>true
 |.str _=>true
 |_=>false
def eqF:D->D->Bool
 |.non,.non=>true
 |.bl a,.bl b=>a == b
 |.bl a,.int b=>(if a then 1 else 0) == b
 |.int a,.bl b=>a == (if b then 1 else 0)
 |.int a,.int b=>a == b
 |.str a,.str b=>a == b
 |_,_=>false
def inF(x:D)(xs:List D):Bool:=xs.any λ y=>eqF y x
theorem a3D{K:KP}{α:List Addr}{H:Hp}{d:D}{v:V}(r:RelD K α H d v):O7 v=a1O d:=by cases r <;> rfl
theorem a1K{K:KP}{α:List Addr}{H:Hp}:∀ {ds:List D} {vs:List V},RelDs K α H ds vs->vs.all O7=ds.all a1O
 |_,_,.nil=>rfl
 |_,_,.cons r t=>by rw [List.all_cons,List.all_cons,a3D r,a1K t]
theorem b4m{K:KP}{α:List Addr}{H:Hp}{d e:D}{v u:V}(r:RelD K α H d v)(s:RelD K α H e u):eqV v u=eqF d e:=by
 cases r <;> cases s <;> rfl
theorem a4X{K:KP}{α:List Addr}{H:Hp}{d:D}{v:V}(r:RelD K α H d v):∀ {ds:List D} {vs:List V},RelDs K α H ds vs->inV v vs=inF d ds
 |_,_,.nil=>rfl
 |_,_,.cons s t=>by
  have:=a4X r t
  unfold inV inF at this ⊢;rw [YZ,YZ,this,b4m s r]
def pIn(neg:Bool):P2:=λ x y h Q=>match F0 h y with
 |some xs=>(a1O x && xs.all a1O)=true/\Q (.bl (if neg then !inF x xs else inF x xs)) h
 |none=>False
theorem c1u{neg:Bool}{x y:V}{H:Hp}{Q:VK}(g:r2 X.K (pIn neg) x y H Q):rIn X.K neg x y H Q:=by
 obtain ⟨π,α,h,d,e,Q',R,r1,r2,f,k⟩:=g;unfold pIn at f
 split at f
 ·rename_i xs w;obtain ⟨p,us,rfl,b,c⟩:=a0A R r2 w;obtain ⟨f1,f2⟩:=f;rw [ZC] at f1;refine ⟨p,us,rfl,b,by rw [a3D r1];exact f1.1,by rw [a1K c];exact f1.2,k _ h α H _ f2 @W R ?_⟩;rw [a4X r1 c];exact .bl _
 ·exact f.elim
theorem b5z:OpR X (compareOp .In) (r2 X.K (pIn false)):=OpR.imp a6L λ _ _ _ _ g=>c1u g
end
end DL
namespace DL
open PySem PySem.Spec L2
section
variable {X:Cx}
def a4h:List D->Option (List Int)
 |[]=>some []
 |.int i :: r=>(a4h r).map (i :: ·)
 |_ :: _=>none
def pLt:P2:=λ x y h Q=>match x,y with
 |.int i,.int j=>Q (.bl (decide (i < j))) h
 |.tup a,.tup b=>(match a4h a,a4h b with | some ns,some ms=>Q (.bl (HT.lexLt ns ms)) h | _,_=>False)
 |.str a,.str b=>Q (.bl (decide (a.cps.toList < b.cps.toList))) h
 |_,_=>False
def a3k:D->Option Key
 |.int i=>some (.inl i)
 |.str x=>some (.inr x)
 |_=>none
def lkG(kvs:List (Key×Int))(k:Key):Option Int:=(kvs.find? λ kv=>decide (kv.1=k)).map (·.2)
def b7o(kvs:List (Key×Int))(fi:DE):DE:=λ δ h Q=>fi δ h λ d h1=>match (a3k d).bind λ k=>lkG kvs k with | some v=>Q (.int v) h1 | none=>False
theorem b3B{K:KP}{α:List Addr}{H:Hp}{d:D}{v:V}{k:Key}(r:RelD K α H d v)(e:a3k d=some k):v=kV k:=by
 cases r <;> cases e <;> rfl
theorem a3Y(kvs:List (Key×Int))(k:Key):E4 (kvs.map λ p=>(p.1,V.int p.2)) k=(lkG kvs k).map V.int:=by
 unfold E4 lkG;rw [List.find?_map];rw [Option.map_map,Option.map_map];rfl
theorem a5H{x:Str}{kvs:List (Key×Int)}{i:Expr}{fi:DE}{p pos:Pos}(hg:Gl X x)(hk:∃ a,X.mg x=some @Ax/\a6a X.prog X.w X.K a (kvs.map λ p=>(p.1,V.int p.2)))(hi:SE X i fi)(hs:a8z i:=by exact λ _ _=>rfl)(hd:@Ag=false:=by decide) :
  SE X (.Subscript (.Name x p) i pos) (b7o kvs fi):=let ⟨_,hm,hk⟩:=hk;PE.imp (b3d hg hm hk hi hs hd) λ σ H Q ⟨π,α,δ,h,Q',R,S,f,k⟩=>by
 show F
 cases w:a3k d with
 |none=>rw [w] at f1;exact f1.elim
 |some kk =>
  rw [w] at f1;have f1:(match lkG kvs kk with | some v=>Q' (.int v) h1 | none=>False):=f1
  cases w2:lkG kvs kk with
  |none=>rw [w2] at f1;exact f1.elim
  |some v =>
   rw [w2] at f1;exact ⟨kk,.int v,b3B q1 w,by rw [a3Y,w2];rfl,k _ h1 α1 H1 _ f1 e1 R1 (.int _)⟩
def c2h(f:DA):DI:=λ δ h Q=>f δ h λ ds h1=>match ds with | [d]=>(match d with | .tup _=>False | d=>match D6 h1 d with | some S=>Q ⟨G7 1 S.items,S.w⟩ h1 | none=>False) | _=>False
end
end DL
namespace Att
open PySem PySem.W PySem.Calls PyProof.Rows
theorem Y6:∀ (ns:List Int) (x:Int),x ∈ ns->Builtin.Int.intBits x <= WData.weightAll (ns.map WData.int)
 |n :: r,x,h=>by
  rw [Zs];show _ <= WData.weight (.int n) + 1 + WData.weightAll (r.map WData.int)
  rcases List.mem_cons.mp h with rfl | h
  ·have e:WData.weight (.int x)=Builtin.Int.intBits x:=rfl;rw [e];omega
  ·have:=Y6 r x h
   omega
theorem a7f{ns:List Int}(h:WData.layableAll [WData.list (ns.map WData.int)]=true):∀ x ∈ ns,Builtin.Int.intBits x <= 1048576:=λ x hx=>by
 have h:(WData.layable (.list (ns.map WData.int)) && true)=true:=h;rw [Bool.and_true] at h;unfold WData.layable at h;rw [ZC] at h;have h2:WData.weight (.list (ns.map WData.int)) <= 2 ^ 20:=of_decide_eq_true h.2;exact Zu (Y6 ns x hx) h2
theorem attach_call2{l:OpenLaw}{n:Nat}{q:Program}{loose:List Str}{XP:(Str->Option Value)->Heap->Prop}{YP:World->Heap->Prop}{d:DefRec}
  (hn:l.most=some n) (hdf:d.params.defaults=[])
  (call:∀ (w:World) (s₀ s₁:Shared) (mg mb:Str->Option Value) (fa:Addr) (o:Obj) (pm cd doc:Value) (a:Addr) (vs:List Value) (ns:List Int),
   Ground q loose [] XP w s₀ mg mb s₁.heap->YP w s₁.heap ->
   s₁.heap.get? fa=some o->o.data = .func (docDef d.name d.params d.body d.scope pm cd doc)->s₁.heap.CodeRec cd d.name->mg d.name=some (.ref fa) ->
   s₁.heap.get? a=some { cls:=.type "list",data:=.seq vs.toArray }->IntsAre vs ns->ns.length <= n->(∀ x ∈ ns,Builtin.Int.intBits x <= 1048576)->s₁.gens = #[] ->
   codeAny (model l.prog w) callerA (.call (.ref fa) ⟨[.ref a],[]⟩) (λ r s'=>r = .ok (.ret (.bool true))/\OldK s₁.heap s'.heap/\s'.os=s₁.os/\AllBare s'.gens) s₁) :
  WalkO q loose XP YP l.row.toRowW d [] (λ f vs=>PySem.call f vs):=by
 intro w s₀ s₁ mg mb G Y fa o pm cd doc dV kV ho hd hcd hD hmg hg args vals as hpre hlay hrd hwl hlo
 obtain rfl:dV = .none:=Dflts.none hD hdf
 obtain rfl:kV = .none:=Dflts.noKw hD
 obtain ⟨a,vs,ns,rfl,rfl,hobj,hints,hlen⟩:=a7l hn hpre hwl;refine enter_call (codeAny_mono (call w s₀ s₁ mg mb fa o pm cd doc a vs ns G Y ho (fd_plain hd) hcd hmg hobj hints hlen (a7f hlay) hg) λ r s' hq=>?_);obtain ⟨rfl,h2,h3,h4⟩:=hq;exact ⟨.inl ⟨.bool true,.bool true,[],rfl,λ _=>rfl,.bool true,a6A l _,λ _=>⟨List.Pairwise.nil,λ _ hm=>(nomatch hm)⟩⟩,h2,h3,h4⟩
end Att
namespace DL
open PySem PySem.Spec L2 PySem.W PyProof.Rows
theorem walkD{l:OpenLaw}{n k:Nat}{q:Program}{loose:List Str}{XP:(Str->Option Value)->Heap->Prop}{YP:World->Heap->Prop}{d:DefRec}{K:Params->PySem.W.Frag}{S:DSp}{x:Str}
  (hn:l.most=some n) (hn2:n <= sizeLine) (hdf:d.params.defaults=[]) (hr:Room k callerA)
  (hY:∀ (w:World) (h:Heap),YP w h->(K w.params).In h)
  (F:∀ (w:World) (mg:Str->Option Value) (fa:Addr) (h:Heap),(K w.params).In h->h.Ns mainGlobals mg->mg d.name=some (.ref fa) ->
   ∃ fd:FuncData,(∀ (s:Shared) (u:Value),BindsTo s fd ⟨[u],[]⟩ [(x,u)]) /\
    ∀ base:Heap,(K w.params).In base->base.Ns mainGlobals mg->n8 l.prog w (K w.params) mg base CX0 k fa fd [x] (spD (K w.params) 1 S))
  (hS:∀ ns:List Int,ns.length <= n->(∀ x ∈ ns,Builtin.Int.intBits x <= 1048576)->S [.scr @AP] [] (λ v _=>v = .bl true)) :
  WalkO q loose XP YP l.row.toRowW d [] (λ f vs=>PySem.call f vs):=by
 refine Att.attach_call2 hn hdf λ w s₀ s₁ mg mb fa o pm cd doc a vs ns G Y ho hd hcd hmg hobj hints hlen hbits hg=>?_;have KX:=hY w _ Y;obtain ⟨fd,hb,hF⟩:=F w mg fa _ KX G.T.g hmg;refine L2.law_call KX G.T.g G.T.b G.T.builtins G.T.nolimit hg hobj hints (Zu hlen hn2) hr hF hb (λ H hO hS'=>?_) λ H e s' z=>z;refine ⟨[],[],[],[.scr @AP],_,⟨rfl,List.nodup_nil,λ p hp=>(nomatch hp),λ i o e=>?_⟩,.cons (.scr (a:=a) (us:=ns.map V.int) ?_ (RelDs.ints ns)) .nil,rfl,hS ns hlen hbits,λ d h' α' H' v a b c r=>?_⟩
 ·simp at e
 ·rcases hS' with h | h
  ·exact .inl ⟨λ z=>(nomatch z),λ z=>(nomatch z),h⟩
  ·exact .inr h
 ·have a:d = .bl true:=a;subst a
  cases r;rfl
end DL
namespace DL
open PySem PySem.Spec L2
mutual
def nrD:D->Bool
 |.tup xs=>G0 xs
 |.lst xs=>G0 xs
 |.scr xs=>G0 xs
 |.ref _=>false
 |_=>true
def G0:List D->Bool
 |[]=>true
 |d :: ds=>nrD d && G0 ds
end
def nrO:O->Bool
 |.lst xs=>G0 xs
 |.dT _ kvs=>G0 (kvs.map (·.2))
 |.dK kvs=>G0 (kvs.map (·.2))
 |.ins _ fs=>G0 (fs.map (·.2))
mutual
inductive Vw(n:Nat)(h:Hh):D->D->Prop
 |nr {d:D}:nrD d=true->Vw n h d d
 |old {i:Nat}:i < n->Vw n h (.ref i) (.ref i)
 |opn {i:Nat} {xs ys:List D}:n <= i->h[i]?=some @X->Vws n h xs ys->Vw n h (.ref i) (.lst ys)
 |tup {xs ys:List D}:Vws n h xs ys->Vw n h (.tup xs) (.tup ys)
 |lst {xs ys:List D}:Vws n h xs ys->Vw n h @X (.lst ys)
inductive Vws(n:Nat)(h:Hh):List D->List D->Prop
 |nil:Vws n h [] []
 |cons {d e:D} {ds es:List D}:Vw n h d e->Vws n h ds es->Vws n h (d :: ds) (e :: es)
end
section
variable {K:PySem.W.Frag} {π α β:List Addr} {H H':Hp} {h:Hh}
theorem VT.less{a:Addr}{us:List V}(t:VT ⟨K,π⟩ (α ++ β) H a us):VT ⟨K,π⟩ α H a us:=⟨λ z=>t.1 (Zy _ z),t.2⟩
theorem VS.less{a:Addr}{us:List V}(t:VS ⟨K,π⟩ (α ++ β) H a us):VS ⟨K,π⟩ α H a us:=by
 rcases t with ⟨n,m,t⟩ | t
 ·exact .inl ⟨λ z=>n (Zy _ z),m,t⟩
 ·exact .inr t
theorem VL.less{a:Addr}{us:List V}(t:VL ⟨K,π⟩ (α ++ β) H a us):VL ⟨K,π⟩ α H a us:=⟨λ z=>t.1 (Zy _ z),t.2⟩
theorem VE.less{a:Addr}{u:HO}(t:VE ⟨K,π⟩ (α ++ β) H a u):VE ⟨K,π⟩ α H a u:=⟨λ z=>t.1 (Zy _ z),t.2⟩
theorem T9{x:D}{r:List D}(e:G0 (x :: r)=true):nrD x=true/\G0 r=true:=by
 have e:(nrD _ && G0 _)=true:=e;rw [ZC] at e;exact e
theorem RelD.nr{d:D}{v:V}(e:nrD d=true)(r:RelD ⟨K,π⟩ (α ++ β) H d v):RelD ⟨K,π⟩ α H d v :=
 RelD.rec (motive_1:=λ d v _=>nrD d=true->RelD ⟨K,π⟩ α H d v) (motive_2:=λ ds us _=>G0 ds=true->RelDs ⟨K,π⟩ α H ds us) (λ _=>.non) (λ b _=>.bl b) (λ i _=>.int i) (λ x _=>.str x) (λ t _ h e=>.tup t.less (h e)) (λ t _ h e=>.lst t.less (h e)) (λ t _ h e=>.scr t.less (h e)) (λ _ e=>nomatch e) (λ n t r _=>.exc n t.less (r.map λ _ _ z=>z.less)) (λ _=>.nil) (λ _ _ h t e=>.cons (h (T9 e).1) (t (T9 e).2)) r e
theorem RelDs.nr{ds:List D}{vs:List V}(e:G0 ds=true)(r:RelDs ⟨K,π⟩ (α ++ β) H ds vs):RelDs ⟨K,π⟩ α H ds vs:=by
 induction ds generalizing vs with
 |nil=>cases r;exact .nil
 |cons d ds ih=>cases r with | cons h t=>exact .cons (h.nr (T9 e).1) (ih (T9 e).2 t)
mutual
def rfD(n:Nat):D->Bool
 |.tup xs=>a3g n xs
 |.lst xs=>a3g n xs
 |.scr xs=>a3g n xs
 |.ref i=>decide (i < n)
 |_=>true
def a3g(n:Nat):List D->Bool
 |[]=>true
 |x :: r=>rfD n x && a3g n r
end
theorem RelD.rf{d:D}{v:V}(r:RelD ⟨K,π⟩ α H d v):rfD α.length d=true :=
 RelD.rec (motive_1:=λ d _ _=>rfD α.length d=true) (motive_2:=λ ds _ _=>a3g α.length ds=true) rfl (λ _=>rfl) (λ _=>rfl) (λ _=>rfl) (λ _ _ h=>h) (λ _ _ h=>h) (λ _ _ h=>h) (λ h=>decide_eq_true (ZY.mp h).1) (λ _ _ _=>rfl) rfl (λ _ _ h t=>Bool.and_eq_true_iff.mpr ⟨h,t⟩) r
theorem RelDs.rf{ds:List D}{vs:List V}(r:RelDs ⟨K,π⟩ α H ds vs):a3g α.length ds=true:=by
 induction ds generalizing vs with
 |nil=>rfl
 |cons d ds ih=>cases r with | cons h t=>exact Bool.and_eq_true_iff.mpr ⟨h.rf,ih t⟩
theorem RelD.old2{d:D}{v:V}(e:rfD α.length d=true)(r:RelD ⟨K,π⟩ (α ++ β) H d v):RelD ⟨K,π⟩ α H d v :=
 RelD.rec (motive_1:=λ d v _=>rfD α.length d=true->RelD ⟨K,π⟩ α H d v) (motive_2:=λ ds us _=>a3g α.length ds=true->RelDs ⟨K,π⟩ α H ds us) (λ _=>.non) (λ b _=>.bl b) (λ i _=>.int i) (λ x _=>.str x) (λ t _ h e=>.tup t.less (h e)) (λ t _ h e=>.lst t.less (h e)) (λ t _ h e=>.scr t.less (h e)) (λ h1 e=>.ref (by rw [ZN (of_decide_eq_true e)] at h1;exact h1)) (λ n t r _=>.exc n t.less (r.map λ _ _ z=>z.less)) (λ _=>.nil) (λ _ _ h t e=>.cons (h (Bool.and_eq_true_iff.mp e).1) (t (Bool.and_eq_true_iff.mp e).2)) r e
theorem RelDs.old2{ds:List D}{vs:List V}(e:a3g α.length ds=true)(r:RelDs ⟨K,π⟩ (α ++ β) H ds vs):RelDs ⟨K,π⟩ α H ds vs:=by
 induction ds generalizing vs with
 |nil=>cases r;exact .nil
 |cons d ds ih=>cases r with | cons h t=>exact .cons (h.old2 (Bool.and_eq_true_iff.mp e).1) (ih (Bool.and_eq_true_iff.mp e).2 t)
theorem RelD.old{d:D}{v v0:V}(r0:RelD ⟨K,π⟩ α H d v0)(r:RelD ⟨K,π⟩ (α ++ β) H' d v):RelD ⟨K,π⟩ α H' d v:=r.old2 r0.rf
theorem RelDs.old{ds:List D}{vs vs0:List V}(r0:RelDs ⟨K,π⟩ α H ds vs0)(r:RelDs ⟨K,π⟩ (α ++ β) H' ds vs):RelDs ⟨K,π⟩ α H' ds vs:=r.old2 r0.rf
theorem RelKV.old{κ:Type}{ds:List (κ×D)}{vs vs0:List (κ×V)}(r0:RelKV ⟨K,π⟩ α H ds vs0)(r:RelKV ⟨K,π⟩ (α ++ β) H' ds vs):RelKV ⟨K,π⟩ α H' ds vs:=by
 induction r0 generalizing vs with
 |nil=>cases r;exact .nil
 |cons r0 _ ih=>cases r with | cons r t=>exact .cons (RelD.old r0 r) (ih t)
theorem RelKV.nr{κ:Type}{ds:List (κ×D)}{vs:List (κ×V)}(e:G0 (ds.map (·.2))=true)(r:RelKV ⟨K,π⟩ (α ++ β) H ds vs):RelKV ⟨K,π⟩ α H ds vs:=by
 induction r with
 |nil=>exact .nil
 |cons r _ ih =>
  have e:(nrD _ && G0 _)=true:=e;rw [ZC] at e;exact .cons (RelD.nr e.1 r) (ih e.2)
theorem RelO'.nr{p:Addr}{o:O}(e:nrO o=true)(r:RelO' ⟨K,π⟩ (α ++ β) H p o):RelO' ⟨K,π⟩ α H p o:=by
 cases r with
 |lst h t=>exact .lst h (t.nr e)
 |dT h t=>exact .dT h (t.nr e)
 |dK h t=>exact .dK h (t.nr e)
 |ins n h t=>exact .ins n h (t.nr e)
theorem RelO'.old{p p0:Addr}{o:O}(r0:RelO' ⟨K,π⟩ α H p0 o)(r:RelO' ⟨K,π⟩ (α ++ β) H' p o):RelO' ⟨K,π⟩ α H' p o:=by
 cases r0 with
 |lst h0 t0=>cases r with | lst h t=>exact .lst h (t0.old t)
 |dT h0 t0=>cases r with | dT h t=>exact .dT h (t0.old t)
 |dK h0 t0=>cases r with | dK h t=>exact .dK h (t0.old t)
 |ins n0 h0 t0=>cases r with | ins n h t=>exact .ins n h (t0.old t)
theorem Vw.rel(R:HRel ⟨K,π⟩ (α ++ β) H h){n:Nat}(hn:α.length=n){d e:D}{v:V}(w:Vw n h d e)(r:RelD ⟨K,π⟩ (α ++ β) H d v):RelD ⟨K,π⟩ α H e v:=by
 refine Vw.rec (motive_1:=λ d e _=>∀ v,RelD ⟨K,π⟩ (α ++ β) H d v->RelD ⟨K,π⟩ α H e v) (motive_2:=λ ds es _=>∀ vs,RelDs ⟨K,π⟩ (α ++ β) H ds vs->RelDs ⟨K,π⟩ α H es vs) (λ e v r=>r.nr e) ?_ ?_ ?_ ?_ ?_ ?_ w v r
 ·intro i hi v r
  cases r with
  |ref hp=>exact .ref (by rw [ZN @D] at hp;exact hp)
 ·intro i xs ys hi e _ ih v r
  cases r with
  |ref hp =>
  obtain ⟨us,e2,e3⟩:=b0d R hp e;have hm:=ZT hp;refine .lst ⟨λ z=>?_,λ z=>(R.dis _ z).1 hm,e2⟩ (ih _ e3);obtain ⟨j,hj,ej⟩:=List.getElem_of_mem z;subst ej;have q:(α ++ β)[j]?=some α[j]:=by rw [ZN hj,ZZ hj]
  have:=(List.getElem?_inj (ZY.mp hp).1 R.nd).mp (hp.trans q.symm)
  omega
 ·intro xs ys _ ih v r
  cases r with
  |tup q r=>exact .tup q.less (ih _ r)
 ·intro xs ys _ ih v r
  cases r with
  |lst q r=>exact .lst q.less (ih _ r)
 ·intro vs r
  cases r;exact .nil
 ·intro d e ds es _ _ h1 h2 vs r
  cases r with
  |cons r s=>exact .cons (h1 _ r) (h2 _ s)
end
def Dr(h:Hh)(Q:DK):DK:=λ d h'=>∃ h2 g d',h'=h2 ++ g/\h2.length=h.length/\(∀ (i:Nat) (o:O),h2[i]?=some o->h[i]?=some o\/nrO o=true)/\Vw h.length h' d d'/\Q d' h2
theorem Dr.rel{K:PySem.W.Frag}{π α α':List Addr}{H H':Hp}{h h':Hh}{Q:DK}{d:D}{v:V}(R:HRel ⟨K,π⟩ α H h)(e:Ext α H α' H')(R':HRel ⟨K,π⟩ α' H' h')(r:RelD ⟨K,π⟩ α' H' d v)(q:Dr h Q d h') :
  ∃ d' h2,Q d' h2/\Ext α H α H'/\HRel ⟨K,π⟩ α H' h2/\RelD ⟨K,π⟩ α H' d' v:=by
 obtain ⟨h2,g,d',rfl,hl,ho,vw,q⟩:=q;obtain ⟨⟨β,rfl,hb⟩,ek,ed⟩:=e;have hn:=R.len;refine ⟨d',h2,q,⟨⟨[],by simp,λ p hp=>nomatch hp⟩,ek,ed⟩,⟨by omega,?_,λ p hp=>?_,λ i o eo=>?_⟩,vw.rel R' hn r⟩
 ·exact R.nd
 ·exact ⟨λ z=>(R'.dis p hp).1 (Zy _ z),(R'.dis p hp).2⟩
 ·have hi:i < h2.length:=(ZY.mp eo).1;obtain ⟨p,ep,ro⟩:=R'.obj i o (by rw [ZN hi];exact eo);refine ⟨p,by rw [ZN @D] at ep;exact ep,?_⟩
  rcases ho i o eo with z | z
  ·obtain ⟨p0,_,r0⟩:=R.obj i o z;exact r0.old ro
  ·exact ro.nr z
theorem b8P{P:Program}{w:World}{K:PySem.W.Frag}{mg:Str->Option Value}{base:Heap}{x qual:Str}{st:Stmt}{f:Addr}{fd:FuncData}{N ps:List Str}{k:Nat}{b:DS}{g:DSp}(F:Fun K x qual st f fd)(S:i9 N ps (d7 st))
  (hb:∀ (cdv:Value) (A:Around) (outer:List Env) (s:Shared) (H:Hp) (E:XK),Room k (A.deeper (PyProof.Rows.envOfC qual (d7 st) s.heap.objs.size f cdv))->SSs (a3o CX0 P w K mg base N qual (d7 st) f cdv A outer s H E).nox (j7 st) b)
  (hg:∀ ds h Q,g ds h Q->j2 N.length b ds h (Dr h Q)):n8 P w K mg base CX0 (k + 1) f fd ps (spD K ps.length g):=by
 refine F.ok S (λ vs H Q E h=>?_) λ cdv A outer s H vs Q E hr h=>?_
 ·obtain ⟨π,α,h,ds,Q',R,r,l,_⟩:=h;rw [<- r.length,l]
 ·obtain ⟨π,α,h,ds,Q',R,r,l,q,kk⟩:=h;refine ⟨_,hb cdv A outer s H E hr,π,α,_,h,{ nx:=λ _ h'=>Dr h Q' .non h',rt:=Dr h Q' },R,a0L r,hg ds h Q' q,⟨λ _ h' α' H' σ' a b c _=>?_,λ d h' α' H' v a b c d'=>?_,λ _ _ _ _ _ a _ _ _=>a.elim,λ _ _ _ _ _ a _ _ _=>a.elim,λ _ _ _ _ _ _ _ a _ _ _=>a.elim⟩⟩
  ·obtain ⟨d',h2,q,e,R2,r2⟩:=a.rel R b c .non;exact kk d' h2 α H' .non q e R2 r2
  ·obtain ⟨d',h2,q,e,R2,r2⟩:=a.rel R b c d';exact kk d' h2 α H' v q e R2 r2
theorem Q6{τ:Type}{g:τ->D}(hg:∀ x,nrD (g x)=true):∀ xs:List τ,G0 (xs.map g)=true
 |[]=>rfl
 |x :: r=>by
  show (nrD (g x) && G0 (r.map g))=true;rw [hg x,Q6 hg r];rfl
theorem Vws.of{n:Nat}{h:Hh}:∀ {xs:List D},G0 xs=true->Vws n h xs xs
 |[],_=>.nil
 |x :: r,e=>by
  have e:(nrD x && G0 r)=true:=e;rw [ZC] at e;exact .cons (.nr e.1) (Vws.of e.2)
end DL
namespace DL
open PySem L2
theorem atN{α:Type}(xs:List α)(i:Nat):atI xs (i:Int)=xs[i]?:=by
 unfold atI ixN
 by_cases h:i < xs.length
 ·rw [if_pos @D,if_pos @D];simp
 ·rw [if_pos @D,if_neg @D]
  simp;omega
theorem a9g{α:Type}{xs:List α}{i:Int}(h0:0 <= i):atI xs i=xs[i.toNat]?:=by
 have:=atN xs i.toNat
 rwa [YX h0] at this
theorem c0M{α:Type}(a:α)(l:List α):atI (a :: l) 0=some a:=atN _ 0
theorem c1l{α:Type}(a b:α)(l:List α):atI (a :: b :: l) 1=some b:=atN _ 1
theorem c1e{α:Type}(a b c:α)(l:List α):atI (a :: b :: c :: l) 2=some c:=atN _ 2
theorem c0h{α:Type}(a b c d:α)(l:List α):atI (a :: b :: c :: d :: l) 3=some d:=atN _ 3
theorem c3j{α:Type}(a:α):atI [a] 0=some a:=rfl
theorem c3y{α:Type}(a b:α):atI [a,b] 0=some a:=rfl
theorem c4a{α:Type}(a b:α):atI [a,b] 1=some b:=rfl
theorem c3R{α:Type}(a b c:α):atI [a,b,c] 0=some a:=rfl
theorem c3o{α:Type}(a b c:α):atI [a,b,c] 1=some b:=rfl
theorem c3C{α:Type}(a b c:α):atI [a,b,c] 2=some c:=rfl
theorem c3k{α:Type}(a b c d:α):atI [a,b,c,d] 0=some a:=rfl
theorem c3D{α:Type}(a b c d:α):atI [a,b,c,d] 1=some b:=rfl
theorem c3S{α:Type}(a b c d:α):atI [a,b,c,d] 2=some c:=rfl
theorem c3q{α:Type}(a b c d:α):atI [a,b,c,d] 3=some d:=rfl
theorem c3i{α:Type}(a b c d e:α):atI [a,b,c,d,e] 0=some a:=rfl
theorem c3O{α:Type}(a b c d e:α):atI [a,b,c,d,e] 1=some b:=rfl
theorem c3B{α:Type}(a b c d e:α):atI [a,b,c,d,e] 2=some c:=rfl
theorem c3s{α:Type}(a b c d e:α):atI [a,b,c,d,e] 3=some d:=rfl
theorem c3K{α:Type}(a b c d e:α):atI [a,b,c,d,e] 4=some e:=rfl
theorem c3w{α:Type}(a b c d e f:α):atI [a,b,c,d,e,f] 0=some a:=rfl
theorem c3G{α:Type}(a b c d e f:α):atI [a,b,c,d,e,f] 1=some b:=rfl
theorem c3V{α:Type}(a b c d e f:α):atI [a,b,c,d,e,f] 2=some c:=rfl
theorem c3x{α:Type}(a b c d e f:α):atI [a,b,c,d,e,f] 3=some d:=rfl
theorem c3Z{α:Type}(a b c d e f:α):atI [a,b,c,d,e,f] 4=some e:=rfl
theorem c3H{α:Type}(a b c d e f:α):atI [a,b,c,d,e,f] 5=some f:=rfl
theorem c3M{α:Type}(a b c d e f g:α):atI [a,b,c,d,e,f,g] 0=some a:=rfl
theorem c3l{α:Type}(a b c d e f g:α):atI [a,b,c,d,e,f,g] 1=some b:=rfl
theorem c3Y{α:Type}(a b c d e f g:α):atI [a,b,c,d,e,f,g] 2=some c:=rfl
theorem c3P{α:Type}(a b c d e f g:α):atI [a,b,c,d,e,f,g] 3=some d:=rfl
theorem c3N{α:Type}(a b c d e f g:α):atI [a,b,c,d,e,f,g] 4=some e:=rfl
theorem c3X{α:Type}(a b c d e f g:α):atI [a,b,c,d,e,f,g] 5=some f:=rfl
theorem c3p{α:Type}(a b c d e f g:α):atI [a,b,c,d,e,f,g] 6=some g:=rfl
theorem c3J{α:Type}(a b c d e f g i:α):atI [a,b,c,d,e,f,g,i] 0=some a:=rfl
theorem c3u{α:Type}(a b c d e f g i:α):atI [a,b,c,d,e,f,g,i] 1=some b:=rfl
theorem c3Q{α:Type}(a b c d e f g i:α):atI [a,b,c,d,e,f,g,i] 2=some c:=rfl
theorem c3z{α:Type}(a b c d e f g i:α):atI [a,b,c,d,e,f,g,i] 3=some d:=rfl
theorem c3F{α:Type}(a b c d e f g i:α):atI [a,b,c,d,e,f,g,i] 4=some e:=rfl
theorem c3L{α:Type}(a b c d e f g i:α):atI [a,b,c,d,e,f,g,i] 5=some f:=rfl
theorem c3r{α:Type}(a b c d e f g i:α):atI [a,b,c,d,e,f,g,i] 6=some g:=rfl
theorem c3T{α:Type}(a b c d e f g i:α):atI [a,b,c,d,e,f,g,i] 7=some i:=rfl
theorem F7{h:Hh}{d:D}{xs:List D}(e:A6 h d=some xs)(k:Int):ixD h d (.int k)=atI xs k:=by
 cases d with
 |lst ys=>cases e;rfl
 |scr ys=>cases e;rfl
 |ref i =>
  have e:(match h[i]? with | some (.lst xs)=>some xs | _=>none)=some xs:=e;show (match h[i]? with | some (.lst xs)=>atI xs k | _=>none)=atI xs k
  cases q:h[i]? with
  |none=>rw [q] at e;cases e
  |some o =>
   rw [q] at e
   cases o with
   |lst ys=>cases e;rfl
   |_=>cases e
 |_=>cases e
theorem b9C{h:Hh}{d:D}{xs:List D}(e:A6 h d=some xs):F0 h d=some xs:=by
 cases d with
 |lst ys=>exact e
 |scr ys=>exact e
 |ref i=>exact e
 |_=>cases e
theorem B8{h:Hh}{d:D}{xs:List D}(e:A6 h d=some xs):a4v h d=some xs.length:=by
 have s:=b9C e
 cases d with
 |lst ys=>cases e;rfl
 |scr ys=>cases e;rfl
 |ref i=>show (F0 h (.ref i)).map List.length=_;rw [s];rfl
 |_=>cases e
theorem b8H{h:Hh}{d:D}{xs:List D}(e:A6 h d=some xs):∃ w,D6 h d=some ⟨xs,w⟩/\(Src.mk xs w).ok h/\∀ p ∈ w,∃ i,d = .ref i/\p=(i,.lst xs):=by
 cases d with
 |lst ys=>cases e;exact ⟨[],rfl,Src.ok_nil,λ p hp=>nomatch hp⟩
 |scr ys=>cases e;exact ⟨[],rfl,Src.ok_nil,λ p hp=>nomatch hp⟩
 |ref i =>
  have e:(match h[i]? with | some (.lst xs)=>some xs | _=>none)=some xs:=e
  cases q:h[i]? with
  |none=>rw [q] at e;cases e
  |some o =>
   rw [q] at e
   cases o with
   |lst ys =>
    cases e;refine ⟨[(i,.lst xs)],?_,λ p hp=>?_,λ p hp=>⟨i,rfl,ZX.mp hp⟩⟩
    ·show (match h[i]? with | some (.lst xs)=>some (Src.mk xs [(i,.lst xs)]) | _=>none)=_;rw [q]
    ·rw [ZX.mp hp];exact q
   |_=>cases e
 |_=>cases e
def Pre(h h':Hh):Prop:=∀ (i:Nat) (o:O),h[i]?=some o->h'[i]?=some o
theorem Pre.app(h g:Hh):Pre h (h ++ g):=λ i o e=>by
 rw [ZN (ZY.mp e).1];exact e
theorem Pre.ls{h h':Hh}(p:Pre h h'){d:D}{xs:List D}(e:A6 h d=some xs):A6 h' d=some xs:=by
 cases d with
 |ref i =>
  have e:(match h[i]? with | some (.lst xs)=>some xs | _=>none)=some xs:=e;show (match h'[i]? with | some (.lst xs)=>some xs | _=>none)=some xs
  cases q:h[i]? with
  |none=>rw [q] at e;cases e
  |some o=>rw [q] at e;rw [p i o q];exact e
 |_=>exact e
theorem b7q(h:Hh)(xs:List D):A6 (h ++ [.lst xs]) (.ref h.length)=some xs:=by
 show (match (h ++ [O.lst xs])[h.length]? with | some (.lst xs)=>some xs | _=>none)=some xs;rw [ZA @G];simp
theorem b2R(h:Hh)(o:O):(h ++ [o])[h.length]?=some o:=by
 rw [ZA @G];simp
theorem b2W(h:Hh)(o u:O):(h ++ [o]).set h.length u=h ++ [u]:=by
 rw [Zn _ _ @G];simp
theorem u0{τ:Type}{S:Src}{t:DG}{b:DS}{E:G3}(P:List τ->Sl->Hh->Prop){g:τ->D}{ys:List τ}{δ:Sl}{h:Hh}(h0:P [] δ h)(ok:∀ p δ h,P p δ h->S.ok h)
  (hs:∀ (p:List τ) (y:τ) (r:List τ) (δ:Sl) (h:Hh) (N:Sl->Hh->Prop),ys=p ++ y :: r->P p δ h->(∀ δ h,P (p ++ [y]) δ h->N δ h)->t (g y) δ h λ δ2 h2=>b { E with nx:=N,ct:=N,bk:=E.nx } δ2 h2)
  (hd:∀ δ h,P ys δ h->E.nx δ h):a4d S t b E (ys.map g) δ h:=by
 have go:∀ (r p:List τ) δ h,ys=p ++ r->P p δ h->a4d S t b E (r.map g) δ h:=by
  intro r
  induction r with
  |nil=>intro p δ h e q;rw [Zr] at e;subst e;exact ⟨ok _ _ _ q,hd _ _ q⟩
  |cons y r ih =>
   intro p δ h e q;exact ⟨ok _ _ _ q,hs p y r δ h _ e q λ δ3 h3 p3=>ih (p ++ [y]) δ3 h3 (by rw [e];simp) p3⟩
 exact go ys [] δ h rfl h0
theorem D3{τ:Type}{S:Src}{t:DG}{tf:DT}{te:DE}(P:List τ->List D->Sl->Hh->Prop){g:τ->D}{ys:List τ}{δ:Sl}{h:Hh}{Q:List D->Hh->Prop}(h0:P [] [] δ h)(ok:∀ p a δ h,P p a δ h->S.ok h)
  (hs:∀ (p:List τ) (y:τ) (r:List τ) (acc:List D) (δ:Sl) (h:Hh) (N:List D->Sl->Hh->Prop),ys=p ++ y :: r->P p acc δ h->(∀ a δ h,P (p ++ [y]) a δ h->N a δ h) ->
   t (g y) δ h λ δ2 h2=>tf δ2 h2 λ b h3=>if b=true then te δ2 h3 λ z h4=>N (acc ++ [z]) δ2 h4 else N acc δ2 h3)
  (hd:∀ a δ h,P ys a δ h->Q a h):L9 S t tf te (ys.map g) [] δ h Q:=by
 have go:∀ (r p:List τ) a δ h,ys=p ++ r->P p a δ h->L9 S t tf te (r.map g) a δ h Q:=by
  intro r
  induction r with
  |nil=>intro p a δ h e q;rw [Zr] at e;subst e;exact ⟨ok _ _ _ _ q,hd _ _ _ q⟩
  |cons y r ih =>
   intro p a δ h e q;exact ⟨ok _ _ _ _ q,hs p y r a δ h (λ a δ h=>L9 S t tf te (r.map g) a δ h Q) e q λ a3 δ3 h3 p3=>ih (p ++ [y]) a3 δ3 h3 (by rw [e];simp) p3⟩
 exact go ys [] [] δ h rfl h0
theorem b0u{τ:Type}{S:Src}{tf:DT}{te:DE}{g:τ->D}{ys:List τ}{h:Hh}{fr:Sl}{Q:List D->Hh->Prop}(c:τ->Bool)(v:τ->D)(ok:S.ok h)(o:Option D)
  (htf:∀ y ∈ ys,∀ K:Bool->Hh->Prop,K (c y) h->tf (some (g y) :: fr) h K) (hte:∀ y ∈ ys,c y=true->∀ K:DK,K (v y) h->te (some (g y) :: fr) h K)
  (hd:Q ((ys.filter c).map v) h):L9 S (f8 0) tf te (ys.map g) [] (o :: fr) h Q:=by
 refine D3 (λ p a δ h'=>h'=h/\(∃ o,δ=o :: fr)/\a=(p.filter c).map v) ⟨rfl,⟨o,rfl⟩,rfl⟩ (λ p a δ h' q=>by rw [q.1];exact ok) ?_ ?_
 ·rintro p y r acc δ h' N e ⟨rfl,⟨o,rfl⟩,rfl⟩ hN
  have hy:y ∈ ys:=by rw [e];simp
  refine htf y hy _ ?_
  cases hc:c y with
  |true =>
   refine a1r (hte y hy hc _ (hN _ _ _ ⟨rfl,⟨_,rfl⟩,?_⟩))
   simp [List.filter_append,hc]
  |false =>
   refine a0v (hN _ _ _ ⟨rfl,⟨_,rfl⟩,?_⟩)
   simp [List.filter_append,hc]
 ·rintro a δ h' ⟨rfl,_,rfl⟩
  exact hd
theorem a4A{τ:Type}{S:Src}{te:DE}{g:τ->D}{ys:List τ}{h:Hh}{fr:Sl}{Q:List D->Hh->Prop}(v:τ->D)(ok:S.ok h)(o:Option D)
  (hte:∀ y ∈ ys,∀ K:DK,K (v y) h->te (some (g y) :: fr) h K) (hd:Q (ys.map v) h):L9 S (f8 0) D9 te (ys.map g) [] (o :: fr) h Q :=
 b0u (λ _=>true) v ok o (λ _ _ K k=>k) (λ y hy _=>hte y hy) ((show ys.filter (λ _=>true)=ys by simp).symm ▸ hd)
theorem u8(lo:Int):∀ n:Nat,z0 lo n=(List.range n).map λ i=>D.int (lo + (i:Nat)):=by
 intro n
 apply List.ext_getElem?
 intro i;rw [P8]
 by_cases h:i < n <;> simp [h]
theorem a1w{τ:Type}(lo:Int)(g:τ->D)(ys:List τ):G7 lo (ys.map g)=ys.zipIdx.map λ p=>.tup [.int (lo + (p.2:Nat)),g p.1]:=by
 apply List.ext_getElem?
 intro i;rw [V8]
 simp [List.getElem?_zipIdx]
 cases ys[i]? <;> simp
theorem c2e:K0 .non=true:=rfl
theorem c3b(b:Bool):K0 (.bl b)=false:=rfl
theorem c1Z(b:Int):K0 (.int b)=false:=rfl
theorem c1Y(b:Str):K0 (.str b)=false:=rfl
theorem c2j(b:List D):K0 (.tup b)=false:=rfl
theorem c1W(b:List D):K0 (.lst b)=false:=rfl
theorem c1U(b:Nat):K0 (.ref b)=false:=rfl
theorem c0m(h:Hh)(xs:List D):A6 h @X=some xs:=rfl
theorem b9R(h:Hh)(xs:List D):F0 h @X=some xs:=rfl
theorem b6n(h:Hh)(xs:List D):D6 h @X=some ⟨xs,[]⟩:=rfl
theorem c1k(h:Hh)(xs:List D):a4v h @X=some xs.length:=rfl
theorem c2m(h:Hh)(xs:List D)(i:Int):ixD h @X (.int i)=atI xs i:=rfl
theorem c1Q(h:Hh)(xs:List D):trD h @X=some (!xs.isEmpty):=rfl
theorem c0O(h:Hh)(xs:List D):A6 h (.scr xs)=some xs:=rfl
theorem b9L(h:Hh)(xs:List D):F0 h (.scr xs)=some xs:=rfl
theorem b8e(h:Hh)(xs:List D):D6 h (.scr xs)=some ⟨xs,[]⟩:=rfl
theorem c0C(h:Hh)(xs:List D):a4v h (.scr xs)=some xs.length:=rfl
theorem c1S(h:Hh)(xs:List D)(i:Int):ixD h (.scr xs) (.int i)=atI xs i:=rfl
theorem c2l(h:Hh)(xs:List D):trD h (.scr xs)=some (!xs.isEmpty):=rfl
theorem c2c(h:Hh)(xs:List D):lsP h @X=some xs:=rfl
theorem c2f(h:Hh)(xs:List D):lsP h (.tup xs)=none:=rfl
theorem c1X(h:Hh)(x:Int):lsP h (.int x)=none:=rfl
theorem c2b(h:Hh)(x:Str):lsP h (.str x)=none:=rfl
theorem b9W(h:Hh)(xs:List D):F0 h (.tup xs)=some xs:=rfl
theorem b9q(h:Hh)(xs:List D):D6 h (.tup xs)=some ⟨xs,[]⟩:=rfl
theorem c1n(h:Hh)(xs:List D):a4v h (.tup xs)=some xs.length:=rfl
theorem c1R(h:Hh)(xs:List D)(i:Int):ixD h (.tup xs) (.int i)=atI xs i:=rfl
theorem c2d(h:Hh)(xs:List D):trD h (.tup xs)=some (!xs.isEmpty):=rfl
theorem c2k(h:Hh):trD h .non=some false:=rfl
theorem c2W(h:Hh)(b:Bool):trD h (.bl b)=some b:=rfl
theorem c2g(h:Hh)(i:Int):trD h (.int i)=some (i != 0):=rfl
theorem b9J(h:Hh) :K9 h (.non)=some "NoneType":=rfl
theorem c0D(h:Hh)(x:Bool):K9 h (.bl x)=some "bool":=rfl
theorem b9P(h:Hh)(x:Int):K9 h (.int x)=some "int":=rfl
theorem b9O(h:Hh)(x:Str):K9 h (.str x)=some "str":=rfl
theorem b9T(h:Hh)(x:List D):K9 h (.tup x)=some "tuple":=rfl
theorem b9V(h:Hh)(x:List D):K9 h (.lst x)=some "list":=rfl
theorem a6l:k6 "NoneType" "bool" = false:=rfl
theorem a6w:k6 "NoneType" "int" = false:=rfl
theorem a7m:k6 "NoneType" "str" = false:=rfl
theorem a4B:k6 "NoneType" "tuple" = false:=rfl
theorem a5K:k6 "NoneType" "list" = false:=rfl
theorem a5O:k6 "NoneType" "dict" = false:=rfl
theorem b2b:k6 "bool" "bool" = true:=rfl
theorem b3K:k6 "bool" "int" = true:=rfl
theorem b4A:k6 "bool" "str" = false:=rfl
theorem a9Z:k6 "bool" "tuple" = false:=rfl
theorem b2l:k6 "bool" "list" = false:=rfl
theorem b2p:k6 "bool" "dict" = false:=rfl
theorem b2U:k6 "int" "bool" = false:=rfl
theorem b5w:k6 "int" "int" = true:=rfl
theorem b6f:k6 "int" "str" = false:=rfl
theorem b1H:k6 "int" "tuple" = false:=rfl
theorem b2s:k6 "int" "list" = false:=rfl
theorem b4Z:k6 "int" "dict" = false:=rfl
theorem b4g:k6 "str" "bool" = false:=rfl
theorem b5V:k6 "str" "int" = false:=rfl
theorem b5S:k6 "str" "str" = true:=rfl
theorem b1M:k6 "str" "tuple" = false:=rfl
theorem b4P:k6 "str" "list" = false:=rfl
theorem b3V:k6 "str" "dict" = false:=rfl
theorem b1q:k6 "tuple" "bool" = false:=rfl
theorem b1F:k6 "tuple" "int" = false:=rfl
theorem b1Y:k6 "tuple" "str" = false:=rfl
theorem a7s:k6 "tuple" "tuple" = true:=rfl
theorem a7Q:k6 "tuple" "list" = false:=rfl
theorem b0e:k6 "tuple" "dict" = false:=rfl
theorem b1P:k6 "list" "bool" = false:=rfl
theorem b4s:k6 "list" "int" = false:=rfl
theorem b3X:k6 "list" "str" = false:=rfl
theorem a9R:k6 "list" "tuple" = false:=rfl
theorem b2o:k6 "list" "list" = true:=rfl
theorem b1N:k6 "list" "dict" = false:=rfl
theorem b1D:k6 "dict" "bool" = false:=rfl
theorem b4k:k6 "dict" "int" = false:=rfl
theorem b5r:k6 "dict" "str" = false:=rfl
theorem b0B:k6 "dict" "tuple" = false:=rfl
theorem b1U:k6 "dict" "list" = false:=rfl
theorem b1I:k6 "dict" "dict" = true:=rfl
theorem p9{h:Hh}{i:Nat}{xs:List D}(e:h[i]?=some @X):A6 h (.ref i)=some xs:=by show (match h[i]? with | some (.lst xs)=>some xs | _=>none)=_;rw [e]
theorem a1h{h:Hh}{i:Nat}{xs:List D}(e:h[i]?=some @X):D6 h (.ref i)=some ⟨xs,[(i,.lst xs)]⟩:=by show (match h[i]? with | some (.lst xs)=>some (Src.mk xs [(i,.lst xs)]) | _=>none)=_;rw [e]
theorem c4c(n:Nat):ixN (n + 1) 0=some 0:=by unfold ixN;rw [if_pos @B,if_pos @D];rfl
theorem c2p:ixN 1 0=some 0:=rfl
theorem N6{n i:Nat}(h:i < n):ixN n (i:Int)=some i:=by unfold ixN;rw [if_pos @D,if_pos @D];simp
theorem b6s{h:Hh}{i:Nat}{o:O}(e:h[i]?=some o):h.set i o=h:=by
 apply List.ext_getElem?
 intro j
 by_cases z:i=j
 ·subst z;rw [ZH (ZY.mp e).1,e]
 ·rw [Zx z]
theorem M4{n d:Nat}{p r:List Nat}(e:List.range n=p ++ d :: r):d=p.length/\d < n:=by
 have h9:p.length < n:=by
  have:p.length < (List.range n).length:=by rw [e];simp
  simpa using this
 have h8:(List.range n)[p.length]?=some d:=by rw [e];simp
 rw [Zf h9] at h8
 cases h8;exact ⟨rfl,h9⟩
theorem G8{f g:DS}{E:G3}{δ:Sl}{h:Hh}(k:∀ N:Sl->Hh->Prop,N=g E->f { E with nx:=N } δ h):i6 f g E δ h:=k _ rfl
theorem a7k(a b:Nat):((a:Int) == (b:Int))=decide (a=b):=by rw [Bool.eq_iff_iff];simp;omega
theorem a9t(a b:Nat):((a:Int) == (b:Int) - 1)=decide (a + 1=b):=by rw [Bool.eq_iff_iff];simp;omega
theorem u6{t:DT}{a b:DS}{E:G3}{δ:Sl}{h:Hh}(k:∀ A B:Sl->Hh->Prop,A=a E->B=b E->t δ h λ c h1=>if c=true then A δ h1 else B δ h1):x0 t a b E δ h:=k _ _ rfl rfl
theorem b6P{c:Bool}{A B:Prop}(h1:c=true->A)(h2:c=false->B):if c=true then A else B:=by
 cases c with
 |true=>exact a1r (h1 rfl)
 |false=>exact a0v (h2 rfl)
theorem a4S{i j:Int}(h:-(2 ^ 64) < i/\i < 2 ^ 64):IntMulOk i j:=.of_left (intBits_le_64 h.1 h.2)
theorem c0s{i j:Int}(h:-(2 ^ 64) < j/\j < 2 ^ 64):IntMulOk i j:=.of_right (intBits_le_64 h.1 h.2)
end DL
namespace CM
open PySem L2 DL
theorem c1V:PyData.strOk @L=true:=by decide +kernel
theorem b3G:(@L == @L)=true:=by decide +kernel
theorem b3T:(@L == @O)=false:=by decide +kernel
theorem b6D:(@L == @Ac)=false:=by decide +kernel
theorem b2D:(@L == @Y)=false:=by decide +kernel
theorem b1Z:(@L == @U)=false:=by decide +kernel
theorem b1V:(@L == @S)=false:=by decide +kernel
theorem b2d:(@L == @T)=false:=by decide +kernel
theorem b2m:(@L == @V)=false:=by decide +kernel
theorem a9K:(@L == @Q)=false:=by decide +kernel
theorem b7K:(@L == @Ad)=false:=by decide +kernel
theorem b6c:(@L == @Aa)=false:=by decide +kernel
theorem c2a:PyData.strOk @O=true:=by decide +kernel
theorem b3H:(@O == @L)=false:=by decide +kernel
theorem b3a:(@O == @O)=true:=by decide +kernel
theorem b6N:(@O == @Ac)=false:=by decide +kernel
theorem b3L:(@O == @Y)=false:=by decide +kernel
theorem b1O:(@O == @U)=false:=by decide +kernel
theorem b1S:(@O == @S)=false:=by decide +kernel
theorem b1G:(@O == @T)=false:=by decide +kernel
theorem b2n:(@O == @V)=false:=by decide +kernel
theorem b0j:(@O == @Q)=false:=by decide +kernel
theorem b9l:(@O == @Ad)=false:=by decide +kernel
theorem b5y:(@O == @Aa)=false:=by decide +kernel
theorem c3W:PyData.strOk @Ac=true:=by decide +kernel
theorem b7Q:(@Ac == @L)=false:=by decide +kernel
theorem b9c:(@Ac == @O)=false:=by decide +kernel
theorem c0G:(@Ac == @Ac)=true:=by decide +kernel
theorem b7D:(@Ac == @Y)=false:=by decide +kernel
theorem b6d:(@Ac == @U)=false:=by decide +kernel
theorem b6k:(@Ac == @S)=false:=by decide +kernel
theorem b5C:(@Ac == @T)=false:=by decide +kernel
theorem b5Q:(@Ac == @V)=false:=by decide +kernel
theorem b4G:(@Ac == @Q)=false:=by decide +kernel
theorem c0i:(@Ac == @Ad)=false:=by decide +kernel
theorem b9N:(@Ac == @Aa)=false:=by decide +kernel
theorem c1T:PyData.strOk @Y=true:=by decide +kernel
theorem b4h:(@Y == @L)=false:=by decide +kernel
theorem b3Q:(@Y == @O)=false:=by decide +kernel
theorem b8v:(@Y == @Ac)=false:=by decide +kernel
theorem b4v:(@Y == @Y)=true:=by decide +kernel
theorem b1R:(@Y == @U)=false:=by decide +kernel
theorem b2e:(@Y == @S)=false:=by decide +kernel
theorem b1T:(@Y == @T)=false:=by decide +kernel
theorem b1X:(@Y == @V)=false:=by decide +kernel
theorem a8x:(@Y == @Q)=false:=by decide +kernel
theorem b9i:(@Y == @Ad)=false:=by decide +kernel
theorem b5E:(@Y == @Aa)=false:=by decide +kernel
theorem c1s:PyData.strOk @U=true:=by decide +kernel
theorem b1L:(@U == @L)=false:=by decide +kernel
theorem b1W:(@U == @O)=false:=by decide +kernel
theorem b6m:(@U == @Ac)=false:=by decide +kernel
theorem b1K:(@U == @Y)=false:=by decide +kernel
theorem a7A:(@U == @U)=true:=by decide +kernel
theorem a7J:(@U == @S)=false:=by decide +kernel
theorem a9z:(@U == @T)=false:=by decide +kernel
theorem a8R:(@U == @V)=false:=by decide +kernel
theorem a7x:(@U == @Q)=false:=by decide +kernel
theorem b5A:(@U == @Ad)=false:=by decide +kernel
theorem b3o:(@U == @Aa)=false:=by decide +kernel
theorem c1F:PyData.strOk @S=true:=by decide +kernel
theorem b2h:(@S == @L)=false:=by decide +kernel
theorem b2k:(@S == @O)=false:=by decide +kernel
theorem b5F:(@S == @Ac)=false:=by decide +kernel
theorem b2g:(@S == @Y)=false:=by decide +kernel
theorem b0b:(@S == @U)=false:=by decide +kernel
theorem a9h:(@S == @S)=true:=by decide +kernel
theorem b0I:(@S == @T)=false:=by decide +kernel
theorem a9b:(@S == @V)=false:=by decide +kernel
theorem a7z:(@S == @Q)=false:=by decide +kernel
theorem b6e:(@S == @Ad)=false:=by decide +kernel
theorem b2X:(@S == @Aa)=false:=by decide +kernel
theorem c1p:PyData.strOk @T=true:=by decide +kernel
theorem b2c:(@T == @L)=false:=by decide +kernel
theorem b1J:(@T == @O)=false:=by decide +kernel
theorem b5I:(@T == @Ac)=false:=by decide +kernel
theorem b1Q:(@T == @Y)=false:=by decide +kernel
theorem b0Z:(@T == @U)=false:=by decide +kernel
theorem b1m:(@T == @S)=false:=by decide +kernel
theorem b1e:(@T == @T)=true:=by decide +kernel
theorem b0p:(@T == @V)=false:=by decide +kernel
theorem a7y:(@T == @Q)=false:=by decide +kernel
theorem b5x:(@T == @Ad)=false:=by decide +kernel
theorem b3F:(@T == @Aa)=false:=by decide +kernel
theorem c0b:PyData.strOk @V=true:=by decide +kernel
theorem b2j:(@V == @L)=false:=by decide +kernel
theorem b1E:(@V == @O)=false:=by decide +kernel
theorem b6g:(@V == @Ac)=false:=by decide +kernel
theorem b2f:(@V == @Y)=false:=by decide +kernel
theorem a7X:(@V == @U)=false:=by decide +kernel
theorem a8Z:(@V == @S)=false:=by decide +kernel
theorem a8K:(@V == @T)=false:=by decide +kernel
theorem a8H:(@V == @V)=true:=by decide +kernel
theorem a7u:(@V == @Q)=false:=by decide +kernel
theorem b5O:(@V == @Ad)=false:=by decide +kernel
theorem b3j:(@V == @Aa)=false:=by decide +kernel
theorem b9S:PyData.strOk @Q=true:=by decide +kernel
theorem b1n:(@Q == @L)=false:=by decide +kernel
theorem a8o:(@Q == @O)=false:=by decide +kernel
theorem b2P:(@Q == @Ac)=false:=by decide +kernel
theorem b0a:(@Q == @Y)=false:=by decide +kernel
theorem a7t:(@Q == @U)=false:=by decide +kernel
theorem a7r:(@Q == @S)=false:=by decide +kernel
theorem a7w:(@Q == @T)=false:=by decide +kernel
theorem a7v:(@Q == @V)=false:=by decide +kernel
theorem a6E:(@Q == @Q)=true:=by decide +kernel
theorem b2Q:(@Q == @Ad)=false:=by decide +kernel
theorem b2a:(@Q == @Aa)=false:=by decide +kernel
theorem c4d:PyData.strOk @Ad=true:=by decide +kernel
theorem b6S:(@Ad == @L)=false:=by decide +kernel
theorem b7A:(@Ad == @O)=false:=by decide +kernel
theorem c0f:(@Ad == @Ac)=false:=by decide +kernel
theorem b6A:(@Ad == @Y)=false:=by decide +kernel
theorem b5G:(@Ad == @U)=false:=by decide +kernel
theorem b5Y:(@Ad == @S)=false:=by decide +kernel
theorem b5Z:(@Ad == @T)=false:=by decide +kernel
theorem b6b:(@Ad == @V)=false:=by decide +kernel
theorem b2S:(@Ad == @Q)=false:=by decide +kernel
theorem c0J:(@Ad == @Ad)=true:=by decide +kernel
theorem b9U:(@Ad == @Aa)=false:=by decide +kernel
theorem c2K:PyData.strOk @Aa=true:=by decide +kernel
theorem b5B:(@Aa == @L)=false:=by decide +kernel
theorem b6l:(@Aa == @O)=false:=by decide +kernel
theorem b9M:(@Aa == @Ac)=false:=by decide +kernel
theorem b5J:(@Aa == @Y)=false:=by decide +kernel
theorem b4O:(@Aa == @U)=false:=by decide +kernel
theorem b4a:(@Aa == @S)=false:=by decide +kernel
theorem b5a:(@Aa == @T)=false:=by decide +kernel
theorem b3M:(@Aa == @V)=false:=by decide +kernel
theorem b2i:(@Aa == @Q)=false:=by decide +kernel
theorem b9K:(@Aa == @Ad)=false:=by decide +kernel
theorem b8V:(@Aa == @Aa)=true:=by decide +kernel
end CM
namespace CM
open PySem L2 DL
inductive c3c where
 |step (t:List Nat) | call (g:Nat) (into back over:List Nat)
structure Edge where
 p:Nat
 q:Nat
 cost:Nat
 k:c3c
structure Fn where
 places:Nat
 facts:Nat
 edges:List Edge
abbrev f7:=List Fn
inductive Mv where | step | over | inn
 deriving DecidableEq
def Mv.w:Mv->Str | .step=> "step" | .over=> "over" | .inn=> "in"
inductive Clm where
 |within (f a p d c:Nat) | at (f p d c:Nat)
inductive Row where
 |begin (f d:Int) | mv (w:Mv) (k n e:Int) | short (k n j e:Int) | start (d:Int) | along (k j:Int)
abbrev nD(n:Nat):D:=.int (n:Int)
def tD(t:List Nat):D:=.tup (t.map nD)
def eD(e:Edge):D:=match e.k with
 |.step t=>.tup [.str "step",nD e.p,nD e.q,nD e.cost,tD t]
 |.call g i b o=>.tup [.str "call",nD e.p,nD e.q,nD e.cost,nD g,tD i,tD b,tD o]
def clD:Clm->D
 |.within f a p d c=>.tup [.str "within",nD f,nD a,nD p,nD d,nD c]
 |.at f p d c=>.tup [.str "at",nD f,nD p,nD d,nD c]
def rD:Row->D
 |.begin f d=>.tup [.str "begin",.int f,.int d]
 |.mv w k n e=>.tup [.str w.w,.int k,.int n,.int e]
 |.short k n j e=>.tup [.str "short",.int k,.int n,.int j,.int e]
 |.start d=>.tup [.str "start",.int d]
 |.along k j=>.tup [.str "along",.int k,.int j]
def oD{α:Type}(f:α->D):Option α->D | none=>.non | some a=>f a
def Edge.word(e:Edge):Str:=match e.k with | .step _=> "step" | .call _ _ _ _=> "call"
def Edge.isStep(e:Edge):Bool:=match e.k with | .step _=>true | .call _ _ _ _=>false
theorem b8B(h:Hh)(e:Edge):ixD h (eD e) (.int 0)=some (.str e.word):=by
 unfold eD Edge.word;cases e.k <;> exact c0M ..
theorem c2u(h:Hh)(e:Edge):ixD h (eD e) (.int 1)=some (nD e.p):=by
 unfold eD;cases e.k <;> exact c1l ..
theorem b3r(h:Hh)(e:Edge):ixD h (eD e) (.int 2)=some (nD e.q):=by
 unfold eD;cases e.k <;> exact c1e ..
theorem b4q(h:Hh)(e:Edge):ixD h (eD e) (.int 3)=some (nD e.cost):=by
 unfold eD;cases e.k <;> exact c0h ..
theorem b7M(e:Edge):K0 (eD e)=false:=by unfold eD;cases e.k <;> rfl
theorem b5e(c:Clm):K0 (clD c)=false:=by cases c <;> rfl
def tOk(t:List Nat)(n m:Nat):Prop:=t.length=n/\∀ x ∈ t,x < 2 ^ m
def eOk(C:f7)(F:Fn)(e:Edge):Prop:=e.p < F.places/\e.q < F.places/\1 <= e.cost/\e.cost <= 10 ^ 18/\match e.k with
 |.step t=>tOk t F.facts F.facts
 |.call g i b o=>∃ G,C[g]?=some G/\tOk i F.facts G.facts/\tOk b G.facts F.facts/\tOk o F.facts F.facts
structure WF(C:f7):Prop where
 one:1 <= C.length
 six:C.length <= 6
 fn:∀ (f:Nat) (F:Fn),C[f]?=some F->1 <= F.places/\F.places <= 10/\1 <= F.facts/\F.facts <= 6/\F.edges.length <= 100/\∀ e ∈ F.edges,eOk C F e
def ChD(h:Hh)(d:D)(C:f7):Prop:=∃ fs,A6 h d=some fs/\fs.length=C.length/\∀ (i:Nat) (F:Fn),C[i]?=some F->∃ e,fs[i]?=some (.tup [nD F.places,nD F.facts,e])/\A6 h e=some (F.edges.map eD)
theorem ChD.mono{h h':Hh}{d:D}{C:f7}(p:Pre h h')(c:ChD h d C):ChD h' d C:=by
 obtain ⟨fs,h1,h2,h3⟩:=c;exact ⟨fs,p.ls h1,h2,λ i F e=>let ⟨x,a,b⟩:=h3 i F e;⟨x,a,p.ls b⟩⟩
theorem ChD.fn{h:Hh}{d:D}{C:f7}(c:ChD h d C){f:Nat}{F:Fn}(e:C[f]?=some F):∃ x,ixD h d (nD f)=some (.tup [nD F.places,nD F.facts,x])/\A6 h x=some (F.edges.map eD):=by
 obtain ⟨fs,h1,h2,h3⟩:=c;obtain ⟨x,a,b⟩:=h3 f F e;exact ⟨x,by rw [F7 h1,atN];exact a,b⟩
theorem ChD.len{h:Hh}{d:D}{C:f7}(c:ChD h d C):a4v h d=some C.length:=by
 obtain ⟨fs,h1,h2,h3⟩:=c;rw [B8 h1,h2]
def fD(F:Fn):D:=.tup [nD F.places,nD F.facts,.lst (F.edges.map eD)]
def cD(C:f7):D:=.lst (C.map fD)
theorem ChD.of(h:Hh)(C:f7):ChD h (cD C) C:=⟨C.map fD,rfl,by simp,λ i F e=>⟨.lst (F.edges.map eD),by rw [ZP,e];rfl,rfl⟩⟩
theorem c1o(x:Nat):Builtin.bitAnd (x:Int) 1=((x % 2:Nat):Int):=by
 unfold Builtin.bitAnd;rw [decide_eq_true (show (0:Int) <= (x:Int) by omega),decide_eq_true (show (0:Int) <= 1 by decide)];show (((x:Int).toNat &&& (1:Int).toNat:Nat):Int)=_;have e1:((x:Int).toNat)=x:=by omega
 have e2:((1:Int).toNat)=1:=rfl;rw [e1,e2,Nat.and_one_is_mod]
theorem b2C(m d:Nat):(m:Int) / 2 ^ d=((m / 2 ^ d:Nat):Int):=by
 have e:(2:Int) ^ d=((2 ^ d:Nat):Int):=by simp
 rw [e];exact (Int.natCast_ediv m (2 ^ d)).symm
theorem c2y(m d:Nat):Builtin.bitAnd ((m:Int) / 2 ^ d) 1=if m.testBit d then 1 else 0:=by
 rw [b2C,c1o,Nat.testBit_eq_decide_div_mod_eq]
 have:=Nat.mod_two_eq_zero_or_one (m / 2 ^ d)
 rcases this with h | h <;> simp [h]
theorem c0q(m d:Nat):(Builtin.bitAnd ((m:Int) / 2 ^ d) 1 != 0)=m.testBit d:=by
 rw [c2y];cases m.testBit d <;> rfl
theorem a2f(t:List Nat):nrD (tD t)=true:=Q6 (λ _=>rfl) t
theorem b8X(e:Edge):nrD (eD e)=true:=by
 unfold eD
 cases e.k with
 |step t=>show (true && (true && (true && (true && (nrD (tD t) && true)))))=true;rw [a2f];rfl
 |call g i b o=>show (true && (true && (true && (true && (true && (nrD (tD i) && (nrD (tD b) && (nrD (tD o) && true))))))))=true;rw [a2f,a2f,a2f];rfl
def l8(m:Nat):List Nat:=(List.range (Builtin.Int.intBits (m:Int))).filter λ d=>m.testBit d
theorem a5e{m n:Nat}(h:m < 2 ^ n):Builtin.Int.intBits (m:Int) <= n:=intBits_le_iff.mpr (by simpa using h)
theorem a9f{m e:Nat}(h:Builtin.Int.intBits (m:Int) <= e):m.testBit e=false:=by
 have:=intBits_le_iff.mp h
 exact Nat.testBit_lt_two_pow (by simpa using this)
theorem mem_facts{m e:Nat}:e ∈ l8 m ↔ m.testBit e=true:=by
 unfold l8;rw [Zi,Zo];refine ⟨λ q=>q.2,λ q=>⟨?_,q⟩⟩
 rcases Nat.lt_or_ge e (Builtin.Int.intBits (m:Int)) with x | x
 ·exact x
 ·rw [a9f x] at q;cases q
def br(t:List Nat)(d:Nat)(e:Int):Bool:=decide (0 <= e) && (t.getD d 0).testBit e.toNat
theorem a6G(m:Nat)(e:Int):inF (.int e) ((l8 m).map nD)=(decide (0 <= e) && m.testBit e.toNat):=by
 rw [Bool.eq_iff_iff];unfold inF;rw [List.any_map,Zh,ZC,decide_eq_true_iff]
 constructor
 ·rintro ⟨x,hx,he⟩
  have he:(x:Int)=e:=by simpa [eqF] using he
  subst he;exact ⟨by omega,by simpa using mem_facts.mp hx⟩
 ·rintro ⟨h0,hb⟩
  exact ⟨e.toNat,mem_facts.mpr hb,by simp [eqF];omega⟩
theorem a1T(ns:List Nat):(ns.map nD).all a1O=true:=by
 rw [List.all_map];simp [a1O,List.all_eq_true]
theorem tOk.get{t:List Nat}{n m d:Nat}(h:tOk t n m)(hd:d < n):t[d]?=some (t.getD d 0)/\t.getD d 0 < 2 ^ m:=by
 obtain ⟨h1,h2⟩:=h;have hl:d < t.length:=by omega
 rw [ZQ,ZZ hl];exact ⟨rfl,h2 _ (Zq hl)⟩
theorem a5v(h:Hh){t:List Nat}{n m d:Nat}(ht:tOk t n m)(hd:d < n):ixD h (tD t) (nD d)=some (nD (t.getD d 0)):=by
 show atI (t.map nD) (d:Int)=_;rw [atN,ZP,(ht.get hd).1];rfl
theorem a3p{x m:Nat}(hx:x < 2 ^ m)(hm:m <= 6):x < 64:=ZD hx (Nat.pow_le_pow_right (n:=2) @B hm)
def E5(C:f7)(f:Nat)(n:Int):Option Edge:=if 0 <= n then (C[f]?).bind λ F=>F.edges[n.toNat]? else none
def Edge.tab(e:Edge)(w:Mv):List Nat:=match w,e.k with
 |.step,.step t=>t
 |.inn,.call _ i _ _=>i
 |.over,.call _ _ _ o=>o
 |_,_=>[]
def m4(C:f7)(f p d:Nat)(w:Mv)(n e:Int):Option Edge:=(E5 C f n).bind λ E=>if (E.isStep == (w == .step))=true/\E.p=p/\br (E.tab w) d e=true then some E else none
def i8(cs:List Clm)(k:Int):Option Clm:=if 0 <= k then cs[k.toNat]? else none
def i5(C:f7)(st:Nat)(cs:List Clm):Row->Option Clm
 |.begin f d=>if 0 <= f/\0 <= d then (C[f.toNat]?).bind λ F=>if d < F.facts then some (.within f.toNat d.toNat 0 d.toNat 0) else none else none
 |.start d=>if 0 <= d then (C[0]?).bind λ F=>if d < F.facts/\st.testBit d.toNat=true then some (.at 0 0 d.toNat 0) else none else none
 |.mv .inn k n e=>match i8 cs k with
  |some (.at f p d c)=>(m4 C f p d .inn n e).bind λ E=>match E.k with | .call g _ _ _=>some (.at g 0 e.toNat (c + E.cost)) | _=>none
  |_=>none
 |.mv w k n e=>match i8 cs k with
  |some (.within f a p d c)=>(m4 C f p d w n e).map λ E=>.within f a E.q e.toNat (c + E.cost)
  |_=>none
 |.short k n j e=>match i8 cs k,i8 cs j with
  |some (.within f a p d c),some (.within g b x y c')=>(m4 C f p d .inn n b).bind λ E=>match E.k with
   |.call g' _ bk _=>(C[g']?).bind λ G=>if g'=g/\x + 1=G.places/\br bk y e=true then some (.within f a E.q e.toNat (c + E.cost + c')) else none
   |_=>none
  |_,_=>none
 |.along k j=>match i8 cs k,i8 cs j with
  |some (.at f p a c),some (.within g b q d c')=>if p=0/\g=f/\b=a then some (.at f q d (c + c')) else none
  |_,_=>none
theorem A4{C:f7}{f p d:Nat}{w:Mv}{n e:Int}{E:Edge}(ht:m4 C f p d w n e=some E):E5 C f n=some E/\(E.isStep == (w == .step))=true/\E.p=p/\br (E.tab w) d e=true/\0 <= e:=by
 unfold m4 at ht
 cases q3:E5 C f n with
 |none=>rw [q3] at ht;cases ht
 |some E' =>
  rw [q3] at ht;have ht:(if (E'.isStep == (w == .step))=true/\E'.p=p/\br (E'.tab w) d e=true then some E' else none)=some E:=ht
  split at ht
  ·rename_i z;cases ht;refine ⟨rfl,z.1,z.2.1,z.2.2,?_⟩
   have:=z.2.2
   unfold br at this;rw [ZC] at this;exact of_decide_eq_true this.1
  ·cases ht
theorem A3{C:f7}{f:Nat}{n:Int}{E:Edge}(h:E5 C f n=some E):∃ F,0 <= n/\C[f]?=some F/\F.edges[n.toNat]?=some E:=by
 unfold E5 at h
 split at h
 ·rename_i h0
  cases q:C[f]? with
  |none=>rw [q] at h;cases h
  |some F=>rw [q] at h;exact ⟨F,h0,rfl,h⟩
 ·cases h
theorem L6{C:f7}(wf:WF C){f p d:Nat}{n e:Int}{E:Edge}(ht:m4 C f p d .inn n e=some E):∃ F g i b o G,C[f]?=some F/\E.k = .call g i b o/\C[g]?=some G/\tOk i F.facts G.facts/\tOk b G.facts F.facts/\tOk o F.facts F.facts/\E.q < F.places/\E.p=p/\br i d e=true/\0 <= e:=by
 obtain ⟨h1,h2,h3,h4,h5⟩:=A4 ht;obtain ⟨F,h0,hF,hE⟩:=A3 h1;obtain ⟨o1,o2,o3,o4,o5⟩:=(wf.fn f F hF).2.2.2.2.2 E (ZT hE);obtain ⟨p',q',c',k'⟩:=E
 cases k' with
 |step t=>cases h2
 |call g i b o =>
  obtain ⟨G,hG,t1,t2,t3⟩:=o5;exact ⟨F,g,i,b,o,G,hF,rfl,hG,t1,t2,t3,o2,h3,h4,h5⟩
def a0a(C:f7):Clm->Prop
 |.within f a p d _=>∃ F,C[f]?=some F/\a < F.facts/\p < F.places/\d < F.facts
 |.at f p d _=>∃ F,C[f]?=some F/\p < F.places/\d < F.facts
theorem z4{C:f7}{cs:List Clm}(ok:∀ c ∈ cs,a0a C c){k:Int}{c:Clm}(h:i8 cs k=some c):a0a C c:=by
 unfold i8 at h
 split at h
 ·exact ok c (ZT h)
 ·cases h
def n9(C:f7)(st:Nat):List Row->List Clm->Option (List Clm)
 |[],cs=>some cs
 |r :: rs,cs=>(i5 C st cs r).bind λ c=>n9 C st rs (cs ++ [c])
theorem T4{C:f7}(wf:WF C){st:Nat}{cs:List Clm}{r:Row}{c:Clm}(ok:∀ c ∈ cs,a0a C c)(h:i5 C st cs r=some c):a0a C c:=by
 have bt:∀ {t:List Nat} {n m d:Nat} {e:Int},tOk t n m->d < n->br t d e=true->e.toNat < m:=λ {t n m d e} ht hd hb=>by
  unfold br at hb;rw [ZC] at hb;have hx:=(ht.get hd).2
  rcases Nat.lt_or_ge e.toNat m with z | z
  ·exact z
  ·rw [Nat.testBit_lt_two_pow (ZD hx (Nat.pow_le_pow_right @B z))] at hb;exact absurd hb.2 ZR
 cases r with
 |begin f d =>
  have h:(if 0 <= f/\0 <= d then (C[f.toNat]?).bind λ F=>if d < F.facts then some (Clm.within f.toNat d.toNat 0 d.toNat 0) else none else none)=some c:=h
  split at h
  ·rename_i z
   cases q:C[f.toNat]? with
   |none=>rw [q] at h;cases h
   |some F =>
    show X;have h:(if d < F.facts then some (Clm.within f.toNat d.toNat 0 d.toNat 0) else none)=some c:=h
    split at h
    ·cases h;exact ⟨F,q,by omega,(wf.fn _ F q).1,by omega⟩
    ·cases h
  ·cases h
 |start d =>
  have h:(if 0 <= d then (C[0]?).bind λ F=>if d < F.facts/\st.testBit d.toNat=true then some (Clm.at 0 0 d.toNat 0) else none else none)=some c:=h
  split at h
  ·cases q:C[0]? with
   |none=>rw [q] at h;cases h
   |some F =>
    show X;have h:(if d < F.facts/\st.testBit d.toNat=true then some (Clm.at 0 0 d.toNat 0) else none)=some c:=h
    split at h
    ·rename_i z z2
     cases h;exact ⟨F,q,(wf.fn _ F q).1,by omega⟩
    ·cases h
  ·cases h
 |mv w k n e =>
  cases w with
  |inn =>
   have h:(match i8 cs k with
    |some (.at f p d c)=>(m4 C f p d .inn n e).bind λ E=>match E.k with | .call g _ _ _=>some (Clm.at g 0 e.toNat (c + E.cost)) | _=>none
    |_=>none)=some c:=h
   cases q:i8 cs k with
   |none=>rw [q] at h;cases h
   |some x =>
    show X
    cases x with
    |within f a p d x=>cases h
    |«at» f p d x =>
     obtain ⟨F,hF,o1,o2⟩:=z4 ok q;dsimp only at h
     cases ht:m4 C f p d .inn n e with
     |none=>rw [ht] at h;cases h
     |some E =>
      rw [ht] at h;obtain ⟨F',g,i,b,o,G,hF',hk',hG,t1,t2,t3,_,_,hb,_⟩:=L6 wf ht;rw [hF] at hF';cases hF'
      have h:(match E.k with | .call g _ _ _=>some (Clm.at g 0 e.toNat (x + E.cost)) | _=>none)=some c:=h;rw [hk'] at h;cases h;exact ⟨G,hG,(wf.fn g G hG).1,bt t1 o2 hb⟩
  |step =>
   have h:(match i8 cs k with | some (.within f a p d c)=>(m4 C f p d .step n e).map λ E=>Clm.within f a E.q e.toNat (c + E.cost) | _=>none)=some c:=h
   cases q:i8 cs k with
   |none=>rw [q] at h;cases h
   |some x =>
    show X
    cases x with
    |«at» f p d x=>cases h
    |within f a p d x =>
     obtain ⟨F,hF,o1,o2,o3⟩:=z4 ok q;dsimp only at h
     cases ht:m4 C f p d .step n e with
     |none=>rw [ht] at h;cases h
     |some E =>
      rw [ht] at h;cases h;obtain ⟨h1,h2,h3,h4,h5⟩:=A4 ht;obtain ⟨F',_,hF',hE⟩:=A3 h1;rw [hF] at hF';cases hF'
      obtain ⟨e1,e2,e3,e4,e5⟩:=(wf.fn f F hF).2.2.2.2.2 E (ZT hE);obtain ⟨ep,eq,ec,ek⟩:=E
      cases ek with
      |step t=>exact ⟨F,hF,o1,e2,bt e5 o3 h4⟩
      |call g i b o=>cases h2
  |over =>
   have h:(match i8 cs k with | some (.within f a p d c)=>(m4 C f p d .over n e).map λ E=>Clm.within f a E.q e.toNat (c + E.cost) | _=>none)=some c:=h
   cases q:i8 cs k with
   |none=>rw [q] at h;cases h
   |some x =>
    show X
    cases x with
    |«at» f p d x=>cases h
    |within f a p d x =>
     obtain ⟨F,hF,o1,o2,o3⟩:=z4 ok q;dsimp only at h
     cases ht:m4 C f p d .over n e with
     |none=>rw [ht] at h;cases h
     |some E =>
      rw [ht] at h;cases h;obtain ⟨h1,h2,h3,h4,h5⟩:=A4 ht;obtain ⟨F',_,hF',hE⟩:=A3 h1;rw [hF] at hF';cases hF'
      obtain ⟨e1,e2,e3,e4,e5⟩:=(wf.fn f F hF).2.2.2.2.2 E (ZT hE);obtain ⟨ep,eq,ec,ek⟩:=E
      cases ek with
      |step t=>cases h2
      |call g i b o =>
       obtain ⟨G,hG,t1,t2,t3⟩:=e5;exact ⟨F,hF,o1,e2,bt t3 o3 h4⟩
 |short k n j e =>
  have h:(match i8 cs k,i8 cs j with
   |some (.within f a p d c),some (.within g b x y c')=>(m4 C f p d .inn n b).bind λ E=>match E.k with
    |.call g' _ bk _=>(C[g']?).bind λ G=>if g'=g/\x + 1=G.places/\br bk y e=true then some (Clm.within f a E.q e.toNat (c + E.cost + c')) else none
    |_=>none
   |_,_=>none)=some c:=h
  cases q:i8 cs k with
  |none=>rw [q] at h;cases h
  |some x1 =>
   cases q2:i8 cs j with
   |none=>rw [q,q2] at h;cases x1 <;> cases h
   |some x2 =>
    rw [q,q2] at h
    cases x1 with
    |«at» f p d x=>cases h
    |within f a p d x =>
     cases x2 with
     |«at» f p d x=>cases h
     |within g b px y x' =>
      obtain ⟨F,hF,o1,o2,o3⟩:=z4 ok q;obtain ⟨G,hG,p1,p2,p3⟩:=z4 ok q2;dsimp only at h
      cases ht:m4 C f p d .inn n b with
      |none=>rw [ht] at h;cases h
      |some E =>
       rw [ht] at h;obtain ⟨F',g',i,bk,o,G',hF',hk',hG',t1,t2,t3,eq,_,hb,_⟩:=L6 wf ht;rw [hF] at hF';cases hF'
       have h:(match E.k with
        |.call g' _ bk _=>(C[g']?).bind λ G=>if g'=g/\px + 1=G.places/\br bk y e=true then some (Clm.within f a E.q e.toNat (x + E.cost + x')) else none
        |_=>none)=some c:=h
       rw [hk'] at h;have h:((C[g']?).bind λ G=>if g'=g/\px + 1=G.places/\br bk y e=true then some (Clm.within f a E.q e.toNat (x + E.cost + x')) else none)=some c:=h;rw [hG'] at h;have h:(if g'=g/\px + 1=G'.places/\br bk y e=true then some (Clm.within f a E.q e.toNat (x + E.cost + x')) else none)=some c:=h
       by_cases z:g'=g/\px + 1=G'.places/\br bk y e=true
       ·rw [if_pos z] at h;have h9:=Option.some.inj h;obtain ⟨z1,z2,z3⟩:=z;subst z1;rw [hG] at hG';cases hG'
        rw [<- h9];exact ⟨F,hF,o1,eq,bt t2 p3 z3⟩
       ·rw [if_neg z] at h;cases h
 |along k j =>
  have h:(match i8 cs k,i8 cs j with | some (.at f p a c),some (.within g b q d c')=>if p=0/\g=f/\b=a then some (Clm.at f q d (c + c')) else none | _,_=>none)=some c:=h
  cases q:i8 cs k with
  |none=>rw [q] at h;cases h
  |some x1 =>
   cases q2:i8 cs j with
   |none=>rw [q,q2] at h;cases x1 <;> cases h
   |some x2 =>
    rw [q,q2] at h
    cases x1 with
    |within f a p d x=>cases h
    |«at» f p d x =>
     cases x2 with
     |«at» f p d x=>cases h
     |within g b px y x' =>
      obtain ⟨G,hG,p1,p2,p3⟩:=z4 ok q2;have h:(if p=0/\g=f/\b=d then some (Clm.at f px y (x + x')) else none)=some c:=h
      split at h
      ·rename_i z;obtain ⟨z1,z2,z3⟩:=z;subst z2;cases h;exact ⟨G,hG,p2,p3⟩
      ·cases h
theorem O4{C:f7}{st:Nat}:∀ {rs:List Row} {cs ds:List Clm},n9 C st rs cs=some ds->ds.length=cs.length + rs.length
 |[],cs,ds,h=>by cases h;simp
 |r :: rs,cs,ds,h=>by
  have h:((i5 C st cs r).bind λ c=>n9 C st rs (cs ++ [c]))=some ds:=h
  cases q:i5 C st cs r with
  |none=>rw [q] at h;cases h
  |some c =>
   show X
   have:=O4 (rs:=rs) h
   rw [this];simp;omega
end CM
namespace CM
open PySem L2 DL
def Pd(h:Hh)(d:D)(p:PyData)(n:Nat):Prop:=IsP h d p/\p.canLay0=true/\p.depth <= n
def Pds(h:Hh)(ds:List D)(ps:List PyData)(n:Nat):Prop:=a4G h ds ps/\PyData.canLayAll0 ps=true/\PyData.depthAll ps <= n
theorem Pd.int{h:Hh}{n:Nat}(i:Int):Pd h (.int i) (.int i) n:=⟨.int i,rfl,YL _⟩
theorem Pd.str{h:Hh}{n:Nat}{x:Str}(e:PyData.strOk x=true):Pd h (.str x) (.str x) n:=⟨.str x,e,YL _⟩
theorem Pds.nil{h:Hh}{n:Nat}:Pds h [] [] n:=⟨.nil,rfl,YL _⟩
theorem Pds.cons{h:Hh}{n:Nat}{d:D}{p:PyData}{ds:List D}{ps:List PyData}(a:Pd h d p n)(b:Pds h ds ps n):Pds h (d :: ds) (p :: ps) n :=
 ⟨.cons a.1 b.1,by show (p.canLay0 && PyData.canLayAll0 ps)=true;rw [a.2.1,b.2.1];rfl,by show max p.depth (PyData.depthAll ps) <= n;exact Nat.max_le.mpr ⟨a.2.2,b.2.2⟩⟩
theorem Pds.map{τ:Type}{h:Hh}{n:Nat}{f:τ->D}{g:τ->PyData}:∀ {xs:List τ},(∀ x,Pd h (f x) (g x) n)->Pds h (xs.map f) (xs.map g) n
 |[],_=>.nil
 |x :: xs,k=>.cons (k x) (Pds.map k)
theorem Pds.get{h:Hh}{n:Nat}:∀ {ds:List D} {ps:List PyData},ds.length=ps.length->(∀ (i:Nat) (d:D) (p:PyData),ds[i]?=some d->ps[i]?=some p->Pd h d p n)->Pds h ds ps n
 |[],[],_,_=>.nil
 |d :: ds,p :: ps,e,k=>.cons (k 0 d p rfl rfl) (Pds.get (by simpa using e) λ i a b h1 h2=>k (i + 1) a b (by simpa using h1) (by simpa using h2))
end CM
namespace DL
open PySem PySem.Spec L2
section
variable {K:KP} {α:List Addr} {H:Hp}
theorem RelKV.look{f:Str}:∀ {ds:List (Str×D)} {us:List (Str×V)} {d:D},RelKV K α H ds us->ds.lookup f=some d->∃ u,us.lookup f=some u/\RelD K α H d u
 |_,_,_,.nil,e=>nomatch e
 |_,_,d,.cons (k:=g) r t,e=>by
  rw [List.lookup_cons] at e ⊢
  cases q:f == g with
  |true=>rw [q] at e;cases e;exact ⟨_,rfl,r⟩
  |false=>rw [q] at e;exact RelKV.look t e
theorem RelKV.lookN{f:Str}:∀ {ds:List (Str×D)} {us:List (Str×V)},RelKV K α H ds us->ds.lookup f=none->us.lookup f=none
 |_,_,.nil,_=>rfl
 |_,_,.cons (k:=g) r t,e=>by
  rw [List.lookup_cons] at e ⊢
  cases q:f == g with
  |true=>rw [q] at e;cases e
  |false=>rw [q] at e;exact RelKV.lookN t e
def putA(f:Str)(v:D):List (Str×D)->List (Str×D)
 |[]=>[(f,v)]
 |(g,x) :: r=>if g=f then (g,v) :: r else (g,x) :: putA f v r
theorem RelKV.putA{f:Str}{d:D}{u:V}(h:RelD K α H d u):∀ {ds:List (Str×D)} {us:List (Str×V)},RelKV K α H ds us->RelKV K α H (putA f d ds) (E6 f u us)
 |_,_,.nil=>.cons h .nil
 |_,_,.cons (k:=g) (d:=d') (u:=u') (ds:=ds) (us:=us) r t=>by
  show RelKV K α H (if g=f then (g,d) :: ds else (g,d') :: DL.putA f d ds) (if g=f then (g,u) :: us else (g,u') :: E6 f u us)
  by_cases q:g=f
  ·rw [if_pos q,if_pos q];exact .cons h t
  ·rw [if_neg q,if_neg q];exact .cons r (RelKV.putA h t)
theorem RelKV.len{κ:Type}:∀ {ds:List (κ×D)} {us:List (κ×V)},RelKV K α H ds us->ds.length=us.length
 |_,_,.nil=>rfl
 |_,_,.cons r t=>by rw [Zw,Zw,RelKV.len t]
end
def a2S(cn:Str)(h:Hh):D->Option (List (Str×D))
 |.ref i=>match h[i]? with | some (.ins c fs)=>if c=cn then some fs else none | _=>none
 |_=>none
theorem t8{cn:Str}{h:Hh}{i:Nat}{fs:List (Str×D)}(e:h[i]?=some (.ins cn fs)):a2S cn h (.ref i)=some fs:=by
 show (match h[i]? with | some (.ins c fs)=>if c=cn then some fs else none | _=>none)=_;rw [e];exact if_pos rfl
theorem a8A{cn:Str}{h:Hh}{d:D}{fs:List (Str×D)}(e:a2S cn h d=some fs):∃ i,d = .ref i/\h[i]?=some (.ins cn fs):=by
 cases d with
 |ref i =>
  have e:(match h[i]? with | some (.ins c fs)=>if c=cn then some fs else none | _=>none)=some fs:=e
  cases q:h[i]? with
  |none=>rw [q] at e;cases e
  |some o =>
   rw [q] at e
   cases o with
   |ins c gs =>
    have e:(if c=cn then some gs else none)=some fs:=e
    by_cases z:c=cn
    ·rw [if_pos z] at e;cases e;subst z;exact ⟨i,rfl,q⟩
    ·rw [if_neg z] at e;cases e
   |_=>cases e
 |_=>cases e
theorem a2X{K:KP}{α:List Addr}{H:Hp}{h:Hh}{cn:Str}{d:D}{v:V}{fs:List (Str×D)}(R:HRel K α H h)(r:RelD K α H d v)(e:a2S cn h d=some fs) :
  ∃ i p C dx us,d = .ref i/\v = .ref p/\PySem.W.nsIn K.K mainGlobals cn=some (some @AS)/\α[i]?=some p/\H p=some (.ins C dx us)/\RelKV K α H fs us:=by
 obtain ⟨i,rfl,q⟩:=a8A e
 cases r with
 |ref hp =>
  obtain ⟨p,C,dx,us,n,e1,e2,e3⟩:=R.ins q;show Y;exact ⟨i,_,C,dx,us,rfl,rfl,n,hp,e2,e3⟩
structure V5(K:PySem.W.Frag)(cn f:Str):Prop where
 ex:∃ C,PySem.W.nsIn K mainGlobals cn=some (some @AS)/\Cls K C/\NoAttr K C f
def p5(cn f:Str):P1:=λ d h Q=>match a2S cn h d with | some fs=>(match fs.lookup f with | some v=>Q v h | none=>False) | none=>False
def b4o(cn f:Str)(o v:D)(h:Hh)(Q:Hh->Prop):Prop:=match o with
 |.ref i=>match h[i]? with | some (.ins c fs)=>(c=cn/\fs.length < 1000)/\Q (h.set i (.ins cn (putA f v fs))) | _=>False
 |_=>False
def K8(cn f:Str)(fo fv:DE):DS:=λ E δ h=>fv δ h λ y h1=>fo δ h1 λ x h2=>b4o cn f x y h2 λ h3=>E.nx δ h3
def b6j(cn f:Str)(fo fv:DE)(p:P2):DS:=λ E δ h=>fo δ h λ x h1=>match a2S cn h1 x with
 |some fs=>match fs.lookup f with
  |some v=>fv δ h1 λ y h2=>p v y h2 λ z h3=>b4o cn f x z h3 λ h4=>E.nx δ h4
  |none=>False
 |none=>False
theorem a1S{K:PySem.W.Frag}{π α:List Addr}{H:Hp}{h:Hh}{cn f:Str}{o v:D}{ov vv:V}{Q':Hh->Prop}(R:HRel ⟨K,π⟩ α H h)(ro:RelD ⟨K,π⟩ α H o ov)(rv:RelD ⟨K,π⟩ α H v vv)(g:b4o cn f o v h Q') :
  ∃ p C dx us,ov = .ref p/\PySem.W.nsIn K mainGlobals cn=some (some @AS)/\H p=some (.ins C dx us)/\us.length < 1000/\∃ h',Q' h'/\Ext α H α (upd H p (.ins C dx (E6 f vv us)))/\HRel ⟨K,π⟩ α (upd H p (.ins C dx (E6 f vv us))) h':=by
 unfold b4o at g
 cases ro with
 |@ref i a hp =>
  dsimp only at g
  cases w:h[i]? with
  |none=>rw [w] at g;exact g.elim
  |some ob =>
   rw [w] at g
   cases ob with
   |ins c fs =>
    obtain ⟨⟨rfl,hl⟩,g⟩:=g;obtain ⟨p,C,dx,us,n,e1,e2,e3⟩:=R.ins w;show Y;have e4:Ext α H α (upd H a (.ins C dx (E6 f vv us))):=Ext.write (ZT hp);exact ⟨a,C,dx,us,rfl,n,e2,by rw [<- e3.len];exact hl,_,g,e4,R.write hp (.ins n j3 ((RelKV.putA rv e3).mono e4))⟩
   |_=>exact g.elim
 |_=>exact g.elim
section
variable {X:Cx} {cn f:Str} {a value:Expr} {fa fv:DE} {pos pos' tpos:Pos}
theorem m8(c:V5 X.K cn f)(ha:SE X a fa)(hb:attributeBase a f X.env (eval a X.env)=eval a X.env:=by rfl):SE X (.Attribute a f pos) (dUn (p5 cn f) fa):=PE.imp (b8Q ha hb) λ σ H Q ⟨π,α,δ,h,Q',R,S,g,k⟩=>by
 obtain ⟨C,hns,cl,na⟩:=c.ex;refine ⟨π,α,δ,h,_,R,S,g,λ d h1 α1 H1 v1 f1 e1 R1 q1=>?_⟩;unfold p5 at f1
 cases w:a2S cn h1 d with
 |none=>rw [w] at f1;exact f1.elim
 |some fs =>
  rw [w] at f1;dsimp only at f1
  cases l:fs.lookup f with
  |none=>rw [l] at f1;exact f1.elim
  |some v =>
   rw [l] at f1;obtain ⟨i,p,C',dx,us,rfl,rfl,n,hp,e2,e3⟩:=a2X R1 q1 w;rw [hns] at n;cases n;obtain ⟨u,l1,r1⟩:=e3.look l;exact ⟨p,C,dx,us,u,rfl,e2,cl,na,l1,k v h1 α1 H1 u f1 e1 R1 r1⟩
theorem O3(c:V5 X.K cn f)(ha:SE X a fa)(hv:SE X value fv)(hs:swapsWith value (some (.Attribute a f pos')) pos.line X.env=pure false:=by rfl):SS X (.Assign [.Attribute a f pos'] value pos) (K8 cn f fa fv):=PS.imp (b7F ha hv hs) λ F σ H ⟨π,α,δ,h,E,R,S,q,k⟩=>by
 obtain ⟨C,hns,cl,na⟩:=c.ex;refine ⟨π,α,δ,h,_,R,S,q,λ y h1 α1 H1 v1 f1 e1 R1 q1=>?_⟩;refine ⟨π,α1,δ,h1,_,R1,S.mono e1,f1,λ x h2 α2 H2 v2 f2 e2 R2 q2=>?_⟩;obtain ⟨p,C',dx,us,rfl,n,e3,hl,h3,f3,e4,R3⟩:=a1S R2 q2 (q1.mono e2) f2;rw [hns] at n;cases n;exact ⟨p,C,dx,us,rfl,e3,cl,na,hl,k.nx δ h3 α2 _ σ f3 (e1.trans (e2.trans e4)) R3 (S.mono (e1.trans (e2.trans e4)))⟩
theorem b0E{op:Operator}{p:P2}(c:V5 X.K cn f)(ha:SE X a fa)(hv:SE X value fv)(ho:OpR X (inplaceOp op) (r2 X.K p)):SS X (.AugAssign (.Attribute a f tpos) op value pos) (b6j cn f fa fv p) :=
 PS.imp (a6t (rd:=r2 X.K p) ha hv (λ pins s σ H x y u v Q I rx ry q=>ho pins s σ H x y u v Q I rx ry q)) λ F σ H ⟨π,α,δ,h,E,R,S,q,k⟩=>by
 obtain ⟨C,hns,cl,na⟩:=c.ex;refine ⟨π,α,δ,h,_,R,S,q,λ x h1 α1 H1 v1 f1 e1 R1 q1=>?_⟩
 cases w:a2S cn h1 x with
 |none=>rw [w] at f1;exact f1.elim
 |some fs =>
  rw [w] at f1;dsimp only at f1
  cases l:fs.lookup f with
  |none=>rw [l] at f1;exact f1.elim
  |some v =>
   rw [l] at f1;obtain ⟨i,p',C',dx,us,rfl,rfl,n,hp,e2,e3⟩:=a2X R1 q1 w;rw [hns] at n;cases n;obtain ⟨u,l1,r1⟩:=e3.look l;refine ⟨p',C,dx,us,u,rfl,e2,cl,na,l1,?_⟩;refine ⟨π,α1,δ,h1,_,R1,S.mono e1,f1,λ y h2 α2 H2 v2 f2 e4 R2 q2=>?_⟩;refine ⟨π,α2,h2,v,y,_,R2,r1.mono e4,q2,f2,λ z h3 α3 H3 v3 f3 e5 R3 q3=>?_⟩;obtain ⟨p2,C2,dx',us',ep,n2,e6,hl,h4,f4,e7,R4⟩:=a1S R3 (.ref ((e4.trans e5).get hp)) q3 f3;cases ep;rw [hns] at n2;cases n2;exact ⟨dx',us',e6,hl,k.nx δ h4 α3 _ σ f4 (e1.trans (e4.trans (e5.trans e7))) R4 (S.mono (e1.trans (e4.trans (e5.trans e7))))⟩
end
structure C5(P:Program)(w:World)(K:PySem.W.Frag)(mg:Str->Option Value)(base:Heap)(k:Nat)(cn m:Str)(ps:List Str)(sp:Sp):Prop where
 ex:∃ (C f:Addr) (fd:FuncData),PySem.W.nsIn K mainGlobals cn=some (some @AS)/\Cls K C/\b0v K C m f/\n8 P w K mg base CX0 k f fd ps sp/\Binds K fd ps []
def a2I(cn m:Str)(h:Hh)(d:D):Prop:=match a2S cn h d with | some fs=>fs.lookup m=none | none=>False
def B2(cn m:Str)(g:DSp)(fo:DE)(f:DA):DE:=λ δ h Q=>fo δ h λ x h1=>a2I cn m h1 x/\f δ h1 λ ds h2=>g (x :: ds) h2 Q
section
variable {X:Cx} {k l:Nat} {ps:List Str} {g:DSp} {cn m:Str} {o e:Expr} {es:List Expr} {fo:DE} {f:DA} {n:Nat} {pos apos:Pos}
theorem a1M{C:Addr}{σ:L2.St}{H:Hp}{Q:VK}(hns:PySem.W.nsIn X.K mainGlobals cn=some (some @AS))(hl:l=n + 1)(w:LE X.K (B2 cn m g fo f) σ H Q):a5Q C m (spD X.K l g) [] E0 (LE X.K fo) (LA X.K n f) σ H Q:=by
 obtain ⟨π,α,δ,h,Q',R,S,q,k⟩:=w;refine ⟨π,α,δ,h,_,R,S,q,λ x h1 α1 H1 v1 f1 e1 R1 q1=>?_⟩;obtain ⟨hm,f1⟩:=f1;unfold a2I at hm
 cases w:a2S cn h1 x with
 |none=>rw [w] at hm;exact hm.elim
 |some fs =>
  rw [w] at hm;dsimp only at hm;obtain ⟨i,p',C',dx,us,rfl,rfl,n',hp,e2,e3⟩:=a2X R1 q1 w;rw [hns] at n';cases n'
  refine ⟨p',dx,us,rfl,e2,e3.lookN hm,π,α1,δ,h1,_,R1,S.mono e1,f1,λ ds h2 α2 H2 vs f2 e4 R2 q2 l2=>?_⟩;rw [Zr];exact ⟨π,α2,h2,.ref i :: ds,Q',R2,.cons (.ref (e4.get hp)) q2,by rw [Zw,l2,hl],f2,λ d h' α' H' v a b c d'=>k d h' α' H' v a (e1.trans (e4.trans b)) c d'⟩
theorem B9{pl:Sem Bool}(c:C5 X.prog X.w X.K X.mg X.base k cn m ps (spD X.K l g))(hr:Room k X.A)(ho:SE X o fo)(ha:SA X (e :: es) n f)(hl:l=n + 1:=by rfl)
  (hst:starEach (e :: es) X.env=(false,eval e X.env) :: starEach es X.env:=by rfl) (hpl:(backTo pos @Ao).any (·.1)=false:=by rfl)
  (ht:eval (.Call (.Attribute o m apos) (e :: es) [] pos) X.env=(do
   let ov <- eval o X.env
   standAt apos.atName
   let (f,first) <- holding [ov] (getMethod ov m pl)
   callWith pos f first (backTo pos (starEach (e :: es) X.env)) (backToKw pos @AK)):=by rfl) :
  SE X (.Call (.Attribute o m apos) (e :: es) [] pos) (B2 cn m g fo f):=by
 obtain ⟨C,fa,fd,hns,cl,hm,F,hb⟩:=c.ex;exact PE.imp (b3O (pl:=pl) ho cl hm F hr hb .nil a3B ha hst hpl ht) λ σ H Q w=>a1M hns hl w
theorem L8{pl:Sem Bool}(c:C5 X.prog X.w X.K X.mg X.base k cn m ps (spD X.K 1 g))(hr:Room k X.A)(ho:SE X o fo)
  (ht:eval (.Call (.Attribute o m apos) [] [] pos) X.env=(do
   let ov <- eval o X.env
   standAt apos.atName
   let (f,first) <- holding [ov] (getMethod ov m pl)
   callWith pos f first (backTo pos (starEach [] X.env)) (backToKw pos @AK)):=by rfl) :
  SE X (.Call (.Attribute o m apos) [] [] pos) (B2 cn m g fo f9):=by
 obtain ⟨C,fa,fd,hns,cl,hm,F,hb⟩:=c.ex;refine PE.imp (a9N (pl:=pl) ho cl hm F hr hb .nil a3B ht) λ σ H Q w=>?_;have w':=a1M (l:=1) (n:=0) hns rfl w;unfold a5Q at w' ⊢;obtain ⟨π,α,δ,h,Q',R,S,q,k⟩:=w';refine ⟨π,α,δ,h,Q',R,S,q,λ d h' α' H' v a b c d'=>?_⟩;obtain ⟨p,dx,us,e1,e2,e3,π2,α2,δ2,h2,Q2,R2,S2,q2,k2⟩:=k d h' α' H' v a b c d';exact ⟨p,dx,us,e1,e2,e3,k2 [] h2 α2 H' [] q2 @W R2 .nil rfl⟩
end
structure X5(P:Program)(w:World)(K:PySem.W.Frag)(mg:Str->Option Value)(base:Heap)(k:Nat)(cn:Str)(ps:List Str)(sp:Sp):Prop where
 ex:∃ (C f:Addr) (fd:FuncData),mg cn=some @AS/\PySem.W.nsIn K mainGlobals cn=some (some @AS)/\Mk K C f/\n8 P w K mg base CX0 k f fd ps sp/\Binds K fd ps []
def a1x(cn:Str)(g:DSp)(f:DA):DE:=λ δ h Q=>f δ h λ ds h1=>g (.ref h1.length :: ds) (h1 ++ [.ins cn []]) λ v h2=>v = .non/\Q (.ref h1.length) h2
section
variable {X:Cx} {k l:Nat} {ps:List Str} {g:DSp} {cn:Str} {e:Expr} {es:List Expr} {f:DA} {n:Nat} {p pos:Pos}
theorem a1C{C:Addr}{σ:L2.St}{H:Hp}{Q:VK}(hns:PySem.W.nsIn X.K mainGlobals cn=some (some @AS))(hl:l=n + 1)(w:LE X.K (a1x cn g f) σ H Q):b0h C (spD X.K l g) [] E0 (LA X.K n f) σ H Q:=by
 obtain ⟨π,α,δ,h,Q',R,S,q,k⟩:=w;refine ⟨π,α,δ,h,_,R,S,q,λ ds h1 α1 H1 vs f1 e1 R1 q1 l1=>λ x dx hx hdx hne=>?_⟩;rw [Zr];have hx':upd H1 dx (.own x) x=none:=by rw [k9 (Ne.symm hne)];exact hx
 have e2:Ext α1 H1 (α1 ++ [x]) (upd (upd H1 dx (.own x)) x (.ins C dx [])):=(Ext.new hdx).trans (Ext.newT hx');have gx:(α1 ++ [x])[h1.length]?=some x:=by rw [<- R1.len];simp
 refine ⟨π,α1 ++ [x],h1 ++ [.ins cn []],.ref h1.length :: ds,_,(R1.new hdx).newT hx' (.ins hns j3 .nil),.cons (.ref gx) (q1.mono e2),by rw [Zw,l1,hl],f1,λ d h' α' H' v a b c d'=>?_⟩;obtain ⟨rfl,a⟩:=a
 cases d'
 exact ⟨rfl,k _ h' α' H' _ a (e1.trans (e2.trans b)) c (.ref (b.get gx))⟩
theorem b4W(c:X5 X.prog X.w X.K X.mg X.base k cn ps (spD X.K l g))(hr:Room (k + 1) X.A)(hg:Gl X cn)(ha:SA X (e :: es) n f)(hl:l=n + 1:=by rfl)(hdb:(cn == ("__debug__":Str))=false:=by decide)
  (he:starEach (e :: es) X.env=(false,eval e X.env) :: starEach es X.env:=by rfl) (hpl:(backTo pos @Ao).any (·.1)=false:=by rfl):SE X (.Call (.Name cn p) (e :: es) [] pos) (a1x cn g f):=by
 obtain ⟨C,fa,fd,hm,hns,M,F,hb⟩:=c.ex;exact PE.imp (b3k M F hr hg hm hb .nil a3B ha hdb he hpl) λ σ H Q w=>a1C hns hl w
theorem a4b(c:X5 X.prog X.w X.K X.mg X.base k cn ps (spD X.K 1 g))(hr:Room (k + 1) X.A)(hg:Gl X cn)(hdb:(cn == ("__debug__":Str))=false:=by decide):SE X (.Call (.Name cn p) [] [] pos) (a1x cn g f9):=by
 obtain ⟨C,fa,fd,hm,hns,M,F,hb⟩:=c.ex;refine PE.imp (a8L M F hr hg hm hb .nil a3B hdb) λ σ H Q w=>?_;obtain ⟨π,α,δ,h,Q',R,S,q,k⟩:=a1C (l:=1) (n:=0) hns rfl w;exact k [] h α H [] q @W R .nil rfl
end
end DL
namespace DL
open PySem PySem.Spec L2
def a0U:List D->Option (List Int)
 |[]=>some []
 |.int i :: r=>match a0U r with | some ns=>some (i :: ns) | none=>none
 |_=>none
theorem W1{K:KP}{α:List Addr}{H:Hp}:∀ {ds:List D} {us:List V} {ns:List Int},RelDs K α H ds us->a0U ds=some ns->us=ns.map V.int
 |[],_,_,r,e=>by cases r;cases e;rfl
 |d :: ds,_,_,r,e=>by
  cases r with
  |cons h t =>
   cases h with
   |int i =>
    have e:(match a0U ds with | some ns=>some (i :: ns) | none=>none)=some _:=e
    cases q:a0U ds with
    |none=>rw [q] at e;cases e
    |some ms=>rw [q] at e;cases e;rw [W1 t q];rfl
   |_=>cases e
def b7b:P2:=λ x y h Q=>match x,y with
 |.tup xs,.tup ys=>(match a0U xs,a0U ys with | some ns,some ms=>Q (.bl (HT.lexLt ns ms)) h | _,_=>False)
 |_,_=>False
def c3E:P2:=λ x y h Q=>match x,y with
 |.str i,.str j=>i.length + j.length <= 16777216/\Q (.str (i ++ j)) h
 |_,_=>False
def c4f:PN:=λ ds h Q=>match ds with | [.int i]=>i.natAbs.log2 < 1920/\Q (.str (toString i)) h | _=>False
section
variable {X:Cx} {o e:Expr} {fo fe:DE} {cpos apos:Pos}
theorem b8A(hu:X.A.units < cLine):OpR X (compareOp .Lt) (r2 X.K b7b):=OpR.imp (b8i hu) λ x y H Q ⟨π,α,h,d,e,Q',R,r1,r2,f,k⟩=>by
 unfold b7b at f
 cases r1 with
 |tup t1 s1 =>
  cases r2 with
  |tup t2 s2 =>
   dsimp only at f
   split at f
   ·rename_i ns ms w1 w2;have e1:=W1 s1 w1;have e2:=W1 s2 w2;subst e1;subst e2;exact ⟨_,_,ns,ms,rfl,rfl,t1.sq,t2.sq,k _ h α H _ f @W R (.bl _)⟩
   ·exact f.elim
  |_=>exact f.elim
 |_=>exact f.elim
def c2q(fo:DE)(fs:DA):DE:=λ δ h Q=>fo δ h λ d h1=>match d with
 |.ref i=>(match h1[i]? with
  |some (.lst _)=>fs δ h1 λ ds h2=>(match ds,h2[i]? with
   |[.int n],some (.lst xs)=>(0 <= n/\n < 2 ^ 62)/\(match xs[n.toNat]? with | some y=>Q y (h2.set i (.lst (xs.eraseIdx n.toNat))) | none=>False)
   |_,_=>False)
  |_=>False)
 |_=>False
end
end DL
namespace DL
open PySem PySem.Spec L2
def c1i(x:Str)(n:Nat):Str:=if n=0 then Str.empty else if n=1\/x.length=0 then x else { cps:=List.foldl (λ x1 x2=>x1 ++ x2) #[] (List.replicate n x.cps) }
def c3v:P2:=λ x y h Q=>match x,y with
 |.str i,.int n=>(0 <= n/\n <= 1000/\i.length <= 1000/\(c1i i n.toNat).length <= 16777216)/\Q (.str (c1i i n.toNat)) h
 |_,_=>False
end DL
namespace L2
open PySem PySem.Spec PyProof.Rows
section
variable {X:Cx}
end
end L2
namespace DL
open PySem PySem.Spec L2
section
variable {X:Cx} {a b:Expr} {p p2 pos pos2:Pos} {n:Nat} {f:DA}
end
end DL
namespace L2
open PySem PySem.Spec PyProof.Rows
def Itq(lo c:Int)(n:Nat):It:=⟨λ i _=>i < n,λ i H x H'=>H'=H/\x = .int (lo + i * c),λ i _=>n <= i⟩
theorem a6F{P:Program}{w:World}{K:PySem.W.Frag}{tg:Expr}(it:Addr)(lo c:Int)(n:Nat):a2z P w K tg (Itq lo c n) [it] it (λ i h=>IsRangeIter h it (lo + (i:Nat) * c) ((n:Int) - (i:Nat)) c) where
 mem:=by simp
 obj:=λ i h st b hb=>by
  have e:b=it:=by simpa using hb
  subst e
  exact ⟨_,st,λ v z=>by
   have z':Data.fields _=Data.cell v:=z
   cases z'⟩
 keep:=λ i h h' st k=>k it @N _ st
 item:=by
  show K;obtain ⟨f0,f1,f2,f3,f4,f5⟩:=hf it @N;have W:=Walks.range (prog:=X.prog) (w:=X.w) (I.ok.hd hc) it lo c n;refine W.item i s _ _ hg st λ v h' tk hv st' kk=>?_;obtain ⟨t,rfl⟩:=hv;have I1:Inv X pins σ H { s with heap:=h',toks:=tk }:=I.turned (λ b o hb e=>kk b o (by simpa using hb) e) f0 f1 f3 f4 f5;exact ⟨_,rfl,a5k (s:={ s with heap:=h',toks:=tk }) (n:= "range_iterator") st' rfl rfl @B ⟨.int (lo + i * c),H,I1,⟨t,rfl⟩,⟨rfl,rfl⟩,st',λ b hb=>(hf b hb).1⟩⟩
 done:=by
  show K;obtain ⟨f0,f1,f2,f3,f4,f5⟩:=hf it @N;exact wpAny_pyNext_range_end (I.ok.hd hc) st (by have:n <= i:=hg;omega) λ h' eb=>⟨rfl,I.turned (t':=s.toks) (λ b o hb e=>eb b o hb e) f0 f1 f3 f4 f5⟩
 self:=λ _ _ _ _ _ st h=>wpAny_pyIter_rangeiter st h
section
variable {X:Cx} {tg:Expr}
end
end L2
namespace DL
open PySem PySem.Spec L2
def Y8(i c:Int)(n:Nat):List D:=(List.range n).map λ k=>D.int (i + (k:Nat) * c)
theorem b2v{K:PySem.W.Frag}{π α:List Addr}{H:Hp}{lo c:Int}{n:Nat}:ItA K π α H (Itq lo c n) ⟨Y8 lo c n,[]⟩:=λ π' sub=>by
 refine ⟨λ _ _=>True,⟨λ _ _ _ _ _ _=>trivial,λ _ _ _ _ _ _ _=>trivial,λ α H h i d R st ok hi=>?_,λ α H h R st ok=>?_⟩,trivial⟩
 ·have hi:(Y8 lo c n)[i]?=some d:=hi;unfold Y8 at hi;rw [ZP] at hi
  by_cases hlt:i < n
  ·rw [Zf hlt] at hi;cases hi;exact ⟨hlt,λ x H' ⟨e1,e2⟩=>by subst e1 e2;exact ⟨Ext.refl ..,R,.int _⟩⟩
  ·rw [Zm (by rw [Zv];omega)] at hi;cases hi
 ·show n <= (Y8 lo c n).length;unfold Y8;rw [ZS,Zv];exact ZV _
section
variable {X:Cx} {tg:Expr} {a b c:Expr} {p p2 pos pos2:Pos} {n:Nat}
theorem c2z{K:KP}{α:List Addr}{H:Hp}{a b c:D}{vs:List V}(h:RelDs K α H [a,b,c] vs):∃ x y z,vs=[x,y,z]/\RelD K α H a x/\RelD K α H b y/\RelD K α H c z:=by
 cases h with
 |cons r1 h =>
  cases h with
  |cons r2 h =>
   cases h with
   |cons r3 h=>cases h;exact ⟨_,_,_,rfl,r1,r2,r3⟩
end
end DL
namespace L2
open PySem PySem.Spec PyProof.Rows
structure a0T(i j:Int):Prop where
 j0:-1 <= j
 ji:j <= i
 i1:i <= 1000000
def K1(i j:Int):Nat:=(i - j).toNat
theorem a3Q{i j:Int}(k:a0T i j):Builtin.Range.rangeSize i j (-1)=((K1 i j:Nat):Int):=by
 obtain ⟨a1,a2,a3⟩:=k;unfold Builtin.Range.rangeSize K1;rw [if_neg (show ¬ (-1:Int) > 0 by decide)];split
 ·rw [show (-(-1):Int)=1 by decide,Int.ediv_one];omega
 ·omega
theorem a4Q{i j:Int}(k:a0T i j):Builtin.Range.small i j (-1)=true:=by
 have hs:=a3Q k;obtain ⟨a1,a2,a3⟩:=k;have hb:((K1 i j:Nat):Int) <= 1000001:=by unfold K1;omega
 unfold Builtin.Range.small;rw [hs];simp only [Builtin.Range.rangeFitsLong,Bool.and_eq_true,Bool.or_eq_true,decide_eq_true_eq,beq_iff_eq];rw [if_neg (show ¬ (-1:Int) > 0 by decide)];refine ⟨⟨⟨⟨⟨by omega,by omega⟩,by omega,by omega⟩,by omega,by omega⟩,by omega,by omega⟩,.inr ?_⟩;rw [decide_eq_true (show (-2 ^ 63:Int) <= j + (-1 + 1) by omega),decide_eq_true (show j + (-1 + 1) < 2 ^ 63 by omega)];rfl
section
variable {X:Cx} {tg:Expr}
theorem b2z{pins:List @M}{σ:St}{H:Hp}{s:Shared}{R:It->Hp->Prop}{E:Value->Shared->Prop}{lo hi:Int}{t u v:Tok}{tk:Nat}(I:Inv X pins σ H s)(k:a0T lo hi)
  (q:R (Itq lo (-1) (K1 lo hi)) H):wpAny @C X.A (pyIter @Aj) (PIE X pins σ tg R) E { s with heap:=s.heap.push { cls:=.type "range",data:=.fields #[.int lo t,.int hi u,.int (-1) v] },toks:=tk }:=by
 refine wpAny_pyIter_range (IsRange.new ..) (a4Q k) ?_;have I1:Inv X pins σ H { s with heap:=s.heap.push { cls:=.type "range",data:=.fields #[.int lo t,.int hi u,.int (-1) v] },toks:=tk }:=I.kept λ b o e=>ZU _ e
 refine ⟨(s.heap.push { cls:=.type "range",data:=.fields #[.int lo t,.int hi u,.int (-1) v] }).objs.size,[(s.heap.push { cls:=.type "range",data:=.fields #[.int lo t,.int hi u,.int (-1) v] }).objs.size],_,_,H,rfl,
  I1.kept (t':=tk) λ b o e=>ZU _ e,a6F _ lo (-1) (K1 lo hi),?_,λ b hb=>?_,q⟩
 ·have e1:lo + ((0:Nat):Int) * (-1)=lo:=by simp
  have e2:((K1 lo hi:Nat):Int) - ((0:Nat):Int)=Builtin.Range.rangeSize lo hi (-1):=by rw [a3Q k];omega
  show IsRangeIter _ _ (lo + ((0:Nat):Int) * (-1)) (((K1 lo hi:Nat):Int) - ((0:Nat):Int)) (-1);rw [e1,e2];exact ZI _ rfl
 ·have e:b=(s.heap.push { cls:=.type "range",data:=.fields #[.int lo t,.int hi u,.int (-1) v] }).objs.size:=by simpa using hb
  subst e;exact I1.fpOk @G (I1.hok.fresh @G)
def c0j(ta:TA):TI:=λ σ H R=>ta σ H λ vs H1=>∃ i j:Int,vs=[.int i,.int j,.int (-1)]/\a0T i j/\R (Itq i (-1) (K1 i j)) H1
theorem a6P{a b c:Expr}{ta:TA}{p pos:Pos}(hg:Gl X "range")(hm:X.mg "range" = none)(ha:PA X [a,b,c] ta)(hs:starEach [a,b,c] X.env=[(false,eval a X.env),(false,eval b X.env),(false,eval c X.env)]:=by rfl)(hs2:starEach [b,c] X.env=[(false,eval b X.env),(false,eval c X.env)]:=by rfl) :
  PI X tg (.Call (.Name "range" p) [a,b,c] [] pos) (c0j ta):=by
 intro pins s σ H R I h;refine Call_ (W8 I hg hm boot_range (PyProof.Rows.callWith_type1 (thn @Bb λ us s1 ⟨vs,H1,I1,r1,q1⟩=>?_) (by rw [hs,hs2]) (by rw [hs2];rfl)));obtain ⟨i,j,e,k,q⟩:=q1;subst e
 cases r1 with
 |cons r rr =>
  cases rr with
  |cons r' rr =>
   cases rr with
   |cons r'' rr =>
    cases rr;obtain ⟨t,rfl⟩:=r;obtain ⟨t',rfl⟩:=r';obtain ⟨t'',rfl⟩:=r'';exact call_range_3 @B (b2z I1 k q) (.inl (PyProof.noPylong_small @B))
end
end L2
namespace DL
open PySem PySem.Spec L2
def a4r(f:DA):DI:=λ δ h Q=>f δ h λ ds h1=>match ds with
 |[.int i,.int j,.int c]=>c = -1/\a0T i j/\Q ⟨Y8 i (-1) (K1 i j),[]⟩ h1
 |_=>False
theorem a1X{X:Cx}{tg a b c:Expr}{p pos:Pos}{n:Nat}{fs:DA}(hg:Gl X "range")(hm:X.mg "range" = none)(ha:SA X [a,b,c] n fs)(hs:starEach [a,b,c] X.env=[(false,eval a X.env),(false,eval b X.env),(false,eval c X.env)]:=by rfl)(hs2:starEach [b,c] X.env=[(false,eval b X.env),(false,eval c X.env)]:=by rfl):SI X tg (.Call (.Name "range" p) [a,b,c] [] pos) (a4r fs):=PI.imp (a6P hg hm ha hs hs2) λ σ H Q zz0=>by
 show H;show W
 split at f1
 ·obtain ⟨v,v',v'',rfl,q3,q4,q5⟩:=c2z q1;cases q3;cases q4;cases q5;obtain ⟨rfl,f2,f3⟩:=f1;exact ⟨_,_,rfl,f2,k _ h1 α1 H1 _ f3 e1 R1 b2v Src.ok_nil⟩
 ·exact f1.elim
end DL
namespace CM
open PySem L2 DL
inductive Mo where
 |go (w:Mv) (k e:Nat) | out (e:Nat)
structure a1o where
 f:Nat
 p:Nat
 d:Nat
 cost:Nat
 op:List (Nat×Nat)
def c1f(C:f7):Nat->List (Nat×Nat)->Prop
 |_,[]=>True
 |f,x :: r=>∃ G E i b o,C[x.1]?=some G/\G.edges[x.2]?=some E/\E.k = .call f i b o/\c1f C x.1 r
def sOk(C:f7)(s:a1o):Prop:=∃ F,C[s.f]?=some F/\s.p < F.places/\s.d < F.facts/\c1f C s.f s.op
inductive Nx(C:f7):a1o->Mo->a1o->Prop
 |go {s:a1o} {w:Mv} {k e:Nat} {E:Edge}:w ≠ .inn->m4 C s.f s.p s.d w (k:Int) (e:Int)=some E->Nx C s (.go w k e) ⟨s.f,E.q,e,s.cost + E.cost,s.op⟩
 |inn {s:a1o} {k e:Nat} {E:Edge} {g:Nat} {i b o:List Nat}:m4 C s.f s.p s.d .inn (k:Int) (e:Int)=some E->E.k = .call g i b o->Nx C s (.go .inn k e) ⟨g,0,e,s.cost + E.cost,(s.f,k) :: s.op⟩
 |out {s:a1o} {x:Nat×Nat} {r:List (Nat×Nat)} {e:Nat} {F G:Fn} {E:Edge} {g:Nat} {i b o:List Nat}:s.op=x :: r->C[s.f]?=some F->s.p + 1=F.places->C[x.1]?=some G->G.edges[x.2]?=some E->E.k = .call g i b o->br b s.d (e:Int)=true->Nx C s (.out e) ⟨x.1,E.q,e,s.cost,r⟩
structure Way(C:f7)(fact:Nat)(ms:List Mo)(ss:List a1o):Prop where
 len:ss.length=ms.length + 1
 one:ss[0]?=some ⟨0,0,fact,0,[]⟩
 ok:∀ s ∈ ss,sOk C s
 nx:∀ (i:Nat) (m:Mo) (s s':a1o),ms[i]?=some m->ss[i]?=some s->ss[i + 1]?=some s'->Nx C s m s'
theorem Way.take{C:f7}{fact:Nat}{ms:List Mo}{ss:List a1o}(W:Way C fact ms ss){n:Nat}(hn:n <= ms.length):Way C fact (ms.take n) (ss.take (n + 1)):=by
 refine ⟨by rw [YM,YM,W.len];omega,?_,λ x hx=>W.ok x (List.mem_of_mem_take hx),λ i m a b h1 h2 h3=>?_⟩
 ·rw [List.getElem?_take,if_pos @D];exact W.one
 ·rw [List.getElem?_take] at h1 h2 h3
  split at h1
  ·split at h2
   ·split at h3
    ·exact W.nx i m a b h1 h2 h3
    ·cases h3
   ·cases h2
  ·cases h1
theorem Way.get{C:f7}{fact:Nat}{ms:List Mo}{ss:List a1o}(W:Way C fact ms ss){i:Nat}(h:i <= ms.length):∃ s,ss[i]?=some s/\sOk C s:=by
 have hl:i < ss.length:=by rw [W.len];omega
 exact ⟨_,ZZ hl,W.ok _ (Zq hl)⟩
end CM
namespace CM
open PySem L2 DL
def put(ms:List Nat)(p:Nat×Nat):List Nat:=ms.set p.1 (ms.getD p.1 0 ||| 2 ^ p.2)
end CM
namespace CM
open PySem L2 DL
structure Ord(lt:Nat->Nat->Bool):Prop where
 as:∀ a b,lt a b=true->lt b a=false
 tr:∀ a b c,lt a b=false->lt b c=false->lt a c=false
 eq:∀ a b,lt a b=false->lt b a=false->a=b
def at0(xs:List Nat)(i:Nat):Nat:=xs.getD i 0
theorem D1(xs:List Nat)(i j v:Nat)(hi:i < xs.length):at0 (xs.set i v) j=if i=j then v else at0 xs j:=by
 unfold at0;rw [ZQ,List.getElem?_set,ZQ]
 by_cases h:i=j
 ·subst h;simp [hi]
 ·simp [h]
def HP(lt:Nat->Nat->Bool)(xs:List Nat):Prop:=∀ i,0 < i->i < xs.length->lt (at0 xs i) (at0 xs ((i - 1) / 2))=false
def UpH(lt:Nat->Nat->Bool)(zs:List Nat)(k:Nat):Prop:=k < zs.length/\(∀ i,0 < i->i < zs.length->i ≠ k->lt (at0 zs i) (at0 zs ((i - 1) / 2))=false)/\∀ i,i < zs.length->0 < i->(i - 1) / 2=k->0 < k->lt (at0 zs i) (at0 zs ((k - 1) / 2))=false
def DnH(lt:Nat->Nat->Bool)(zs:List Nat)(k:Nat):Prop:=k < zs.length/\(∀ i,0 < i->i < zs.length->(i - 1) / 2 ≠ k->lt (at0 zs i) (at0 zs ((i - 1) / 2))=false)/\∀ i,i < zs.length->0 < i->(i - 1) / 2=k->0 < k->lt (at0 zs i) (at0 zs ((k - 1) / 2))=false
def Z3(zs:List Nat)(k j:Nat):List Nat:=(zs.set k (at0 zs j)).set j (at0 zs k)
theorem F5(zs:List Nat)(k j:Nat):(Z3 zs k j).length=zs.length:=by unfold Z3;simp
theorem a5A{zs:List Nat}{k j:Nat}(hk:k < zs.length)(hj:j < zs.length)(i:Nat):at0 (Z3 zs k j) i=if j=i then at0 zs k else if k=i then at0 zs j else at0 zs i:=by
 unfold Z3;rw [D1 _ _ _ _ (by simpa using hj),D1 _ _ _ _ hk]
theorem A8{zs:List Nat}{k:Nat}(hk:k < zs.length):zs[k]=at0 zs k:=by unfold at0;rw [ZQ,ZZ hk];rfl
theorem a1B{zs:List Nat}{k j:Nat}(hk:k < zs.length)(hj:j < zs.length)(hkj:k ≠ j):(Z3 zs k j).Perm zs:=by
 rw [List.perm_iff_count];intro a;unfold Z3;have h1:j < (zs.set k (at0 zs j)).length:=by simpa using hj
 rw [List.count_set h1,List.count_set hk,List.getElem_set_ne hkj,A8 hk,A8 hj];have p1:zs[k]=a->0 < zs.count a:=λ e=>List.count_pos_iff.mpr (e ▸ Zq hk);rw [A8 hk] at p1;generalize at0 zs k=x at *;generalize at0 zs j=y at *;generalize zs.count a=n at *
 by_cases e1:x=a <;> by_cases e2:y=a
 ·have:=p1 e1;simp [e1,e2];omega
 ·have:=p1 e1;simp [e1,e2];omega
 ·simp [e1,e2]
 ·simp [e1,e2]
section
variable {lt:Nat->Nat->Bool}
theorem UpH.step(O:Ord lt){zs:List Nat}{k:Nat}(u:UpH lt zs k)(h0:0 < k)(hl:lt (at0 zs k) (at0 zs ((k - 1) / 2))=true):UpH lt (Z3 zs k ((k - 1) / 2)) ((k - 1) / 2):=by
 obtain ⟨hk,u1,u2⟩:=u;have hp:(k - 1) / 2 < k:=by omega
 have at_:=a5A hk (Nat.lt_trans hp hk);refine ⟨by rw [F5];omega,λ i hi hl' hne=>?_,λ i hi hi0 hip hp0=>?_⟩
 ·rw [F5] at hl';rw [at_,at_,if_neg (Ne.symm hne)]
  by_cases e1:k=i
  ·subst e1;rw [if_pos rfl,if_pos rfl];exact O.as _ _ hl
  ·rw [if_neg e1]
   by_cases e2:(k - 1) / 2=(i - 1) / 2
   ·rw [if_pos e2]
    have:=u1 i hi hl' (Ne.symm e1)
    rw [<- e2] at this;exact O.tr _ _ _ this (O.as _ _ hl)
   ·rw [if_neg e2]
    by_cases e3:k=(i - 1) / 2
    ·rw [if_pos e3];exact u2 i hl' hi e3.symm h0
    ·rw [if_neg e3];exact u1 i hi hl' (Ne.symm e1)
 ·rw [F5] at hi;have hpp:((k - 1) / 2 - 1) / 2 < (k - 1) / 2:=by omega
  rw [at_,at_,if_neg (show ¬ (k - 1) / 2=i by omega),if_neg (show ¬ (k - 1) / 2=((k - 1) / 2 - 1) / 2 by omega),if_neg (show ¬ k=((k - 1) / 2 - 1) / 2 by omega)];have hpar:=u1 ((k - 1) / 2) hp0 @D @D
  by_cases e1:k=i
  ·rw [if_pos e1];exact hpar
  ·rw [if_neg e1]
   have:=u1 i hi0 hi (Ne.symm e1)
   rw [hip] at this;exact O.tr _ _ _ this hpar
theorem UpH.done{zs:List Nat}{k:Nat}(u:UpH lt zs k)(h:k=0\/lt (at0 zs k) (at0 zs ((k - 1) / 2))=false):HP lt zs:=by
 intro i hi hl
 by_cases e:i=k
 ·subst e
  rcases h with h | h
  ·omega
  ·exact h
 ·exact u.2.1 i hi hl e
def lsb(lt:Nat->Nat->Bool)(xs:List Nat)(k:Nat):Nat:=if 2 * k + 2 < xs.length/\lt (at0 xs (2 * k + 2)) (at0 xs (2 * k + 1))=true then 2 * k + 2 else 2 * k + 1
theorem b1p(xs:List Nat)(k:Nat):lsb lt xs k=2 * k + 1\/lsb lt xs k=2 * k + 2:=by unfold lsb;split <;> simp
theorem b0H(O:Ord lt){xs:List Nat}{k i:Nat}(h0:0 < i)(hp:(i - 1) / 2=k)(hi:i < xs.length):lt (at0 xs i) (at0 xs (lsb lt xs k))=false:=by
 have irr:∀ a,lt a a=false:=λ a=>by cases h:lt a a with | false=>rfl | true=>exact h.symm.trans (O.as a a h)
 have:i=2 * k + 1\/i=2 * k + 2:=by omega
 unfold lsb
 rcases this with rfl | rfl
 ·split
  ·rename_i h;exact O.as _ _ h.2
  ·exact irr _
 ·split
  ·exact irr _
  ·rename_i h
   cases q:lt (at0 xs (2 * k + 2)) (at0 xs (2 * k + 1)) with
   |false=>rfl
   |true=>exact absurd ⟨hi,q⟩ h
theorem b7h{xs:List Nat}{k i:Nat}(h0:0 < i)(hp:(i - 1) / 2=k)(hi:i < xs.length):lsb lt xs k < xs.length:=by
 unfold lsb;split
 ·rename_i h;exact h.1
 ·omega
theorem DnH.step(O:Ord lt){zs:List Nat}{k:Nat}(u:DnH lt zs k)(hj:lsb lt zs k < zs.length)(hl:lt (at0 zs (lsb lt zs k)) (at0 zs k)=true):DnH lt (Z3 zs k (lsb lt zs k)) (lsb lt zs k):=by
 obtain ⟨hk,u1,u2⟩:=u;have hor:=b1p (lt:=lt) zs k;have le:∀ i,0 < i->(i - 1) / 2=k->i < zs.length->lt (at0 zs i) (at0 zs (lsb lt zs k))=false:=λ i a b c=>b0H O a b c;generalize lsb lt zs k=j at *;have at_:=a5A hk hj;refine ⟨by rw [F5];omega,λ i hi hl' hne=>?_,λ i hi hi0 hip hp0=>?_⟩
 ·rw [F5] at hl';rw [at_,at_,if_neg (Ne.symm hne)]
  by_cases e1:j=i
  ·subst e1;rw [if_pos rfl,if_pos (show k=(j - 1) / 2 by omega)];exact O.as _ _ hl
  ·rw [if_neg e1]
   by_cases e2:k=(i - 1) / 2
   ·rw [if_pos e2,if_neg (show ¬ k=i by omega)];exact le i hi e2.symm hl'
   ·rw [if_neg e2]
    by_cases e3:k=i
    ·subst e3;rw [if_pos rfl];exact u2 j hj @D @D hi
    ·rw [if_neg e3];exact u1 i hi hl' (Ne.symm e2)
 ·rw [F5] at hi;rw [at_,at_,if_neg (show ¬ j=i by omega),if_neg (show ¬ k=i by omega),if_neg (show ¬ j=(j - 1) / 2 by omega),if_pos (show k=(j - 1) / 2 by omega)]
  have:=u1 i hi0 hi @D
  rw [hip] at this;exact this
theorem DnH.done(O:Ord lt){zs:List Nat}{k:Nat}(u:DnH lt zs k)(h:zs.length <= lsb lt zs k\/lt (at0 zs (lsb lt zs k)) (at0 zs k)=false):HP lt zs:=by
 intro i hi hl
 by_cases e:(i - 1) / 2=k
 ·have h1:=b7h (lt:=lt) hi e hl
  rcases h with h | h
  ·omega
  ·rw [e];exact O.tr _ _ _ (b0H O hi e hl) h
 ·exact u.2.1 i hi hl e
theorem HP.root(O:Ord lt){xs:List Nat}(h:HP lt xs):∀ i,i < xs.length->lt (at0 xs i) (at0 xs 0)=false:=by
 have irr:∀ a,lt a a=false:=λ a=>by cases h:lt a a with | false=>rfl | true=>exact h.symm.trans (O.as a a h)
 intro i
 induction i using Nat.strongRecOn with
 |_ i ih =>
  intro hi
  by_cases z:i=0
  ·subst z;exact irr _
  ·exact O.tr _ _ _ (h i @D hi) (ih ((i - 1) / 2) @D @D)
theorem HP.up{xs:List Nat}(h:HP lt xs)(v:Nat):UpH lt (xs ++ [v]) xs.length:=by
 have at1:∀ i,i < xs.length->at0 (xs ++ [v]) i=at0 xs i:=λ i hi=>by
  unfold at0;rw [ZQ,ZQ,ZN hi]
 refine ⟨by simp,λ i hi hl hne=>?_,λ i hi hi0 hip hp0=>?_⟩
 ·have:i < xs.length:=by simp at hl;omega
  rw [at1 i this,at1 _ @D];exact h i hi this
 ·simp at hi;omega
theorem HP.dn{xs:List Nat}(h:HP lt xs)(v:Nat)(h1:1 < xs.length):DnH lt (xs.dropLast.set 0 v) 0:=by
 have hl:(xs.dropLast.set 0 v).length=xs.length - 1:=by simp
 have at1:∀ i,0 < i->i < xs.length - 1->at0 (xs.dropLast.set 0 v) i=at0 xs i:=λ i h0 hi=>by
  rw [D1 _ _ _ _ (by rw [List.length_dropLast];omega),if_neg @D];unfold at0;rw [ZQ,ZQ,List.getElem?_dropLast,if_pos hi]
 refine ⟨by rw [hl];omega,λ i hi hi' hne=>?_,λ i hi hi0 hip hp0=>by omega⟩;rw [hl] at hi';rw [at1 i hi hi',at1 _ @D @D];exact h i hi @D
theorem a6J{x v:Nat}{r zs:List Nat}(p:zs.Perm ((x :: r ++ [v]).dropLast.set 0 v)):(x :: zs).Perm (x :: r ++ [v]):=by
 rw [List.dropLast_concat] at p;exact (List.Perm.cons x p).trans ((List.perm_append_singleton v r).symm.cons x)
end
end CM
namespace DL
open PySem L2
theorem T7{t:DT}{b:DS}{E:G3}(P:Nat->Sl->Hh->Prop){m:Nat}{δ:Sl}{h:Hh}(h0:P m δ h)(step:∀ m δ h (N:Sl->Hh->Prop),P m δ h->(∀ m' δ' h',m' < m->P m' δ' h'->N δ' h')->t δ h λ c h1=>if c=true then b { E with nx:=N,ct:=N,bk:=E.nx } δ h1 else E.nx δ h1):W3 t b E δ h:=by
 refine ⟨m + 1,?_⟩
 have key:∀ n m δ h,m < n->P m δ h->whN t b E n δ h:=by
  intro n
  induction n with
  |zero=>intro m δ h hm;omega
  |succ n ih =>
   intro m δ h hm hp;exact step m δ h _ hp λ m' δ' h' hm' hp'=>ih m' δ' h' @D hp'
 exact key _ m δ h (Nat.lt_succ_self _) h0
theorem a3u{h:Hh}{j:Nat}{o:O}(e:h[j]?=some o):h.set j o=h:=by
 obtain ⟨hl,e⟩:=ZY.mp e;rw [<- e,List.set_getElem_self]
end DL
namespace CM
open PySem L2 DL
def okT(t:D):Prop:=nrD t=true/\∃ p,∀ h,Pd h t p 3
abbrev Tb:=List (Int×D)
def cst(T:Tb)(n:Nat):Int:=(T.getD n (0,.non)).1
def thg(T:Tb)(n:Nat):D:=(T.getD n (0,.non)).2
def hD(T:Tb)(n:Nat):D:=.tup [.int (cst T n),nD n,thg T n]
def sD(T:Tb)(n:Nat):D:=.tup [.int (cst T n),thg T n]
def ltT(T:Tb)(a b:Nat):Bool:=HT.lexLt [cst T a,(a:Int)] [cst T b,(b:Int)]
theorem a6d{T:Tb}{a b:Nat}:ltT T a b=true ↔ cst T a < cst T b\/(cst T a=cst T b/\a < b):=by
 unfold ltT;rw [HT.lexLt_cons,HT.lexLt_cons,HT.lexLt_nil_nil]
 by_cases e:cst T a=cst T b
 ·rw [if_pos e]
  by_cases e2:(a:Int)=b
  ·rw [if_pos e2];simp;omega
  ·rw [if_neg e2,decide_eq_true_iff];omega
 ·rw [if_neg e,decide_eq_true_iff];omega
theorem a0r{T:Tb}{a b:Nat}:ltT T a b=false ↔ ¬ (cst T a < cst T b\/(cst T a=cst T b/\a < b)):=by rw [<- a6d,Bool.not_eq_true]
theorem b2H(T:Tb):Ord (ltT T) :=
 ⟨λ a b h=>by rw [a6d] at h;rw [a0r];omega,λ a b c h1 h2=>by rw [a0r] at *;omega,λ a b h1 h2=>by rw [a0r] at *;omega⟩
theorem a3C{T:Tb}{x:Int×D}{n:Nat}(h:n < T.length):(T ++ [x]).getD n (0,.non)=T.getD n (0,.non):=by
 rw [ZQ,ZQ,ZN h]
theorem a9J(T:Tb)(x:Int×D):(T ++ [x]).getD T.length (0,.non)=x:=by
 rw [ZQ,ZA @G,YV];rfl
theorem a2M{T:Tb}{x:Int×D}{n:Nat}(h:n < T.length):cst (T ++ [x]) n=cst T n:=by unfold cst;rw [a3C h]
theorem b5j{T:Tb}{x:Int×D}{n:Nat}(h:n < T.length):thg (T ++ [x]) n=thg T n:=by unfold thg;rw [a3C h]
theorem b7X(T:Tb)(c:Int)(t:D):hD (T ++ [(c,t)]) T.length = .tup [.int c,nD T.length,t]:=by unfold hD cst thg;rw [a9J]
theorem b7z{T:Tb}{x:Int×D}{xs:List Nat}(h:∀ n ∈ xs,n < T.length):xs.map (hD (T ++ [x]))=xs.map (hD T):=Zg λ n hn=>by unfold hD;rw [a2M (h n hn),b5j (h n hn)]
theorem a2l{xs:List Nat}{i:Nat}(h:i < xs.length):at0 xs i ∈ xs:=by rw [<- A8 h];exact Zq h
theorem HP.app{T:Tb}{x:Int×D}{xs:List Nat}(h:HP (ltT T) xs)(hl:∀ n ∈ xs,n < T.length):HP (ltT (T ++ [x])) xs:=λ i h0 hi=>by
 have:=h i h0 hi
 unfold ltT at this ⊢;rw [a2M (hl _ (a2l hi)),a2M (hl _ (a2l @D))];exact this
structure QInv(T:Tb)(hs ss:List Nat):Prop where
 perm:hs.Perm ss
 hp:HP (ltT T) hs
 inc:ss.Pairwise (· < ·)
 lt:∀ n ∈ ss,n < T.length
 ok:∀ x ∈ T,okT x.2
 len:ss.length <= T.length
theorem QInv.put{T:Tb}{hs ss hs':List Nat}{c:Int}{t:D}(q:QInv T hs ss)(ht:okT t)(p:hs'.Perm (hs ++ [T.length]))(h:HP (ltT (T ++ [(c,t)])) hs'):QInv (T ++ [(c,t)]) hs' (ss ++ [T.length]):=by
 refine ⟨p.trans (q.perm.append_right _),h,?_,λ n hn=>?_,λ x hx=>?_,by simp;exact q.len⟩
 ·rw [List.pairwise_append];exact ⟨q.inc,by simp,λ a ha b hb=>by rw [ZX.mp hb];exact q.lt a ha⟩
 ·rw [ZW,ZL]
  rcases List.mem_append.mp hn with z | z
  ·have:=q.lt n z;omega
  ·rw [ZX.mp z];omega
 ·rcases List.mem_append.mp hx with z | z
  ·exact q.ok x z
  ·rw [ZX.mp z];exact ht
theorem QInv.take{T:Tb}{hs ss hs':List Nat}(q:QInv T hs ss){a:Nat}(ha:a < ss.length)(e:ss[a]=at0 hs 0)(p:(at0 hs 0 :: hs').Perm hs)(h:HP (ltT T) hs'):QInv T hs' (ss.eraseIdx a):=by
 have p2:(ss[a] :: ss.eraseIdx a).Perm ss:=by
  rw [List.eraseIdx_eq_take_drop_succ];refine List.perm_middle.symm.trans (.of_eq ?_);rw [List.getElem_cons_drop,List.take_append_drop]
 rw [<- e] at p;have sub:=List.eraseIdx_sublist ss a;exact ⟨(p.trans (q.perm.trans p2.symm)).cons_inv,h,q.inc.sublist sub,λ n hn=>q.lt n (sub.subset hn),q.ok,Zu sub.length_le q.len⟩
def qO(j n:Nat):O:=.ins "Queue" [("heap",.ref j),("puts",nD n)]
theorem K7{h:Hh}{i j n:Nat}{Q:DK}(e:h[i]?=some (qO j n)):p5 "Queue" "heap" (.ref i) h Q=Q (.ref j) h:=by
 unfold p5;rw [t8 e];rfl
theorem b8z{h:Hh}{i j n:Nat}{Q:DK}(e:h[i]?=some (qO j n)):p5 "Queue" "puts" (.ref i) h Q=Q (nD n) h:=by
 unfold p5;rw [t8 e];rfl
theorem b5R{h:Hh}{i j n:Nat}{m:Str}(e:h[i]?=some (qO j n))(l:([(Str.ofString "heap",D.ref j),(Str.ofString "puts",nD n)]:List (Str×D)).lookup m=none):a2I "Queue" m h (.ref i):=by
 unfold a2I;rw [t8 e];exact l
end CM
namespace L2
open PySem PySem.Spec PyProof.Rows
section
variable {X:Cx} {pins:List (Addr×Obj)} {σ:St} {H:Hp} {s:Shared}
theorem Inv.thaw{a:Addr}{o:Obj}{u:HO}(I:Inv X pins σ H s)(e:H a=some (.frz o u))(h0:∀ o u,X.H₀ a ≠ some (.frz o u)):Inv X pins σ (upd H a u) s:=by
 have ne:∀ b,H b ≠ some (.frz o u)->upd H a u b=H b:=λ b h=>k9 λ z=>h (by rw [z];exact e);have nn:∀ b,H b=none->upd H a u b=none:=λ b h=>by rw [ne b (by rw [h];exact λ z=>nomatch z)];exact h
 refine ⟨I.ok,I.os,I.bare,⟨I.base.keep,I.base.slot,λ b ob q n hx=>nn b (I.base.free b ob q n hx),I.base.there,λ b xs q=>?_,λ b ob v q=>?_,λ b ps q=>?_⟩,I.loc,I.cell,nn _ I.free,λ x c q=>nn _ (I.freeC x c q),λ p hp=>?_,λ b ob q=>?_,I.len⟩
 ·have:=I.base.tups b xs q
  rw [ne b (by rw [this];exact λ z=>nomatch z)];exact this
 ·have:=I.base.frzs b ob v q
  by_cases c:b=a
  ·rw [c] at q;exact absurd q (h0 _ _)
  ·rw [k9 c];exact this
 ·obtain ⟨m,hm⟩:=I.base.tbls b ps q;exact ⟨m,by rw [ne b (by rw [hm];exact λ z=>nomatch z)];exact hm⟩
 ·obtain ⟨h1,h2,h3⟩:=I.pin p hp;exact ⟨h1,nn _ h2,h3⟩
 ·have go:∀ b ob,H b=some ob->ObjOk X.prog X.w (upd H a u) s.heap b ob:=λ b ob q=>(I.hok b ob q).stay (λ _ _ _ z=>z) (λ c z=>by rw [ne c (by rw [z];exact λ y=>nomatch y)];exact z) λ c xs z=>by rw [ne c (by rw [z];exact λ y=>nomatch y)];exact z
  by_cases c:b=a
  ·subst c;rw [j3] at q;cases q;exact (show ObjOk X.prog X.w (upd H b u) s.heap b (.frz o u) from go b _ e).2
  ·rw [k9 c] at q;exact go b ob q
end
end L2
namespace L2
open PySem PySem.Spec PyProof.Rows
def Itk(a:Addr)(o:Obj)(ks:List (List Key)):It :=
 ⟨λ i H=>(∃ us:List @As,H a=some (.frz o (.dT us))/\us.map (·.1)=ks)/\i < ks.length,λ i H x H'=>H'=H/\∃ b k,ks[i]?=some k/\x = .ref b/\H b=some (.tup (k.map kV)),λ i H=>(∃ us:List @As,H a=some (.frz o (.dT us))/\us.map (·.1)=ks)/\ks.length <= i⟩
section
variable {X:Cx} {tg:Expr}
end
end L2
namespace L2
open PySem PySem.Spec PyProof.Rows
section
variable {X:Cx}
theorem b8O(hu:X.A.units + 1 < cLine):OpR X (compareOp .In) (λ x y H Q=>∃ a o,y = .ref a/\Z8 H a x o/\Q (.bl o.isSome) H):=by
 show O;obtain ⟨a,o,rfl,g,q⟩:=h;cases ry;exact c2C hu I g rx λ s' I'=>⟨.bl _,H,I',rfl,q⟩
theorem b4b(hu:X.A.units + 1 < cLine):OpR X (compareOp .NotIn) (λ x y H Q=>∃ a o,y = .ref a/\Z8 H a x o/\Q (.bl (!o.isSome)) H):=by
 show O;obtain ⟨a,o,rfl,g,q⟩:=h;cases ry;exact b3v hu I g rx λ s' I'=>⟨.bl _,H,I',rfl,q⟩
end
end L2
namespace DL
open PySem PySem.Spec L2
def kD:Key->D
 |.inl i=>.int i
 |.inr x=>.str x
def L5(k:List Key):D:=.tup (k.map kD)
def C7(kvs:List @Al)(k:List Key):Option D:=(kvs.find? λ kv=>decide (kv.1=k)).map (·.2)
def M7(kvs:List @Al)(k:List Key)(v:D):List @Al :=
 if @AG=true then kvs.map (λ kv=>if kv.1=k then (kv.1,v) else kv) else kvs ++ [(k,v)]
section
variable {K:KP} {α:List Addr} {H:Hp} {h:Hh}
theorem b9f{k:Key}{v:V}(r:RelD K α H (kD k) v):v=kV k:=by
 cases k with
 |inl i=>cases r;rfl
 |inr x=>cases r;rfl
theorem a6f:∀ {ks:List Key} {us:List V},RelDs K α H (ks.map kD) us->us=ks.map kV
 |[],_,.nil=>rfl
 |k :: ks,_,.cons r t=>by rw [b9f r,a6f t];rfl
theorem c1M(k:Key):RelD K α H (kD k) (kV k):=by
 cases k with
 |inl i=>exact .int i
 |inr x=>exact .str x
theorem a9i:∀ ks:List Key,RelDs K α H (ks.map kD) (ks.map kV)
 |[]=>.nil
 |k :: ks=>.cons (c1M k) (a9i ks)
theorem a4e{ks:List Key}{v:V}(r:RelD K α H (L5 ks) v):∃ b,v = .ref b/\H b=some (.tup (ks.map kV)):=by
 unfold L5 at r
 cases r with
 |tup t r=>exact ⟨_,rfl,by rw [t.2.2,a6f r]⟩
theorem a8a(R:HRel K α H h){ks:List Key}{b:Addr}(e:H b=some (.tup (ks.map kV))):RelD K α H (L5 ks) (.ref b):=by
 refine .tup ⟨λ z=>?_,λ z=>(R.dis b z).2.2 _ e,e⟩ (a9i ks);obtain ⟨i,hi,rfl⟩:=YO.mp z;have hl:i < h.length:=by rw [<- R.len];exact hi
 obtain ⟨ob,hob⟩:∃ ob,h[i]?=some ob:=⟨_,ZZ hl⟩
 obtain ⟨p,ep,r⟩:=R.obj i _ hob;rw [ZZ hi] at ep;cases ep
 cases r with
 |lst q _=>rw [e] at q;cases q
 |@dT z _ _ q _=>rw [e] at q;cases z <;> cases q
 |dK q _=>rw [e] at q;cases q
 |ins _ q _=>rw [e] at q;cases q
theorem RelKV.val{κ:Type} [DecidableEq κ]{kvs:List (κ×D)}{us:List (κ×V)}(r:RelKV K α H kvs us)(k:κ):((kvs.find? λ kv=>decide (kv.1=k)).map (·.2)=none/\E4 us k=none)\/∃ d v,(kvs.find? λ kv=>decide (kv.1=k)).map (·.2)=some d/\E4 us k=some v/\RelD K α H d v:=by
 induction r with
 |nil=>exact .inl ⟨rfl,rfl⟩
 |@cons k' d u ds us hr t ih =>
  by_cases c:k'=k
  ·exact .inr ⟨d,u,by rw [List.find?_cons_of_pos (by simpa using c)];rfl,S7 (p:=(k',u)) c,hr⟩
  ·rw [List.find?_cons_of_neg (by simpa using c),S5 (p:=(k',u)) c];exact ih
theorem RelKV.put{kvs:List @Al}{us:List @As}(r:RelKV K α H kvs us)(k:List Key){d:D}{v:V}(rd:RelD K α H d v):RelKV K α H (M7 kvs k d) (K3 us k v):=by
 have any:∀ {kvs:List @Al} {us:List @As},RelKV K α H kvs us->@AG=(us.any λ kv=>decide (kv.1=k)):=λ r=>by
  induction r with
  |nil=>rfl
  |cons _ _ ih=>rw [YZ,YZ,ih]
 unfold M7 K3;rw [any r]
 by_cases c:(us.any λ kv=>decide (kv.1=k))=true
 ·rw [if_pos c,if_pos c];clear c any
  induction r with
  |nil=>exact .nil
  |@cons k' d' u' ds us hr t ih =>
   rw [Zs,Zs]
   by_cases c:k'=k
   ·rw [if_pos c,if_pos c];exact .cons rd ih
   ·rw [if_neg c,if_neg c];exact .cons hr ih
 ·rw [if_neg c,if_neg c];clear c any
  induction r with
  |nil=>exact .cons rd .nil
  |cons hr t ih=>exact .cons hr ih
theorem HRel.rdT(R:HRel K α H h){i:Nat}{a:Addr}{z:Option Obj}{kvs:List @Al}(hp:α[i]?=some a)(e:h[i]?=some (.dT z kvs)):∃ us,Rd H a (.dT us)/\RelKV K α H kvs us:=by
 obtain ⟨p,us,e1,e2,e3⟩:=R.dT e;show Y;refine ⟨us,?_,e3⟩
 cases z with
 |none=>exact .inl e2
 |some o=>exact .inr ⟨o,e2⟩
end
def getD(d k:D)(h:Hh)(Q:Option D->Prop):Prop:=match d with
 |.ref i=>match h[i]? with
  |some (.dT _ kvs)=>∃ ks,k=L5 ks/\Q (C7 kvs ks)
  |_=>False
 |_=>False
theorem L0{K:KP}{α:List Addr}{H:Hp}{h:Hh}{d k:D}{v u:V}{Q:Option D->Prop}(R:HRel K α H h)(r1:RelD K α H d v)(r2:RelD K α H k u)(f:getD d k h Q) :
  ∃ a o od,v = .ref a/\IsD H a/\Z8 H a u o/\Q od/\((od=none/\o=none)\/∃ x y,od=some x/\o=some y/\RelD K α H x y):=by
 unfold getD at f
 cases r1 with
 |@ref i a hp =>
  dsimp only at f
  cases q:h[i]? with
  |none=>rw [q] at f;exact f.elim
  |some ob =>
   rw [q] at f
   cases ob with
   |dT z kvs =>
    obtain ⟨ks,rfl,f⟩:=f;obtain ⟨b,rfl,hb⟩:=a4e r2;obtain ⟨us,rd,rel⟩:=R.rdT hp q;refine ⟨a,E4 us ks,C7 kvs ks,rfl,.inr ⟨us,rd⟩,.inr ⟨us,ks,b,rd,rfl,hb,rfl⟩,f,?_⟩
    rcases rel.val ks with ⟨h1,h2⟩ | ⟨x,y,h1,h2,h3⟩
    ·exact .inl ⟨h1,h2⟩
    ·exact .inr ⟨x,y,h1,h2,h3⟩
   |_=>exact f.elim
 |_=>exact f.elim
def b9z(neg:Bool):P2:=λ x y h Q=>getD y x h λ o=>Q (.bl (if neg then !o.isSome else o.isSome)) h
def a9F(fd fk:DE):DE:=λ δ h Q=>fd δ h λ d h1=>fk δ h1 λ k h2=>getD d k h2 λ o=>∃ v,o=some v/\Q v h2
def a9k(d:D)(h:Hh):Prop:=∃ i z kvs,d = .ref i/\h[i]?=some (.dT z kvs)
def a4T(fd fk:DE):DE:=λ δ h Q=>fd δ h λ d h1=>a9k d h1/\fk δ h1 λ k h2=>getD d k h2 λ o=>Q (o.getD .non) h2
def a2E(fd fk fx:DE):DE:=λ δ h Q=>fd δ h λ d h1=>a9k d h1/\fk δ h1 λ k h2=>fx δ h2 λ x h3=>getD d k h3 λ o=>Q (o.getD x) h3
section
variable {X:Cx} {o i e f:Expr} {fd fk fx:DE} {pos apos cpos:Pos}
theorem c2F(hu:X.A.units + 64 < cLine):OpR X (compareOp .In) (r2 X.K (b9z false)):=OpR.imp (b8O @D) λ x y H Q ⟨π,α,h,d,e,Q',R,r1,r2,f,k⟩=>by
 obtain ⟨a,o,od,rfl,_,g,q,rel⟩:=L0 R r2 r1 f;refine ⟨a,o,rfl,g,k _ h α H _ q @W R ?_⟩
 rcases rel with ⟨rfl,rfl⟩ | ⟨x,y,rfl,rfl,_⟩ <;> exact .bl _
theorem b4S(hu:X.A.units + 64 < cLine):OpR X (compareOp .NotIn) (r2 X.K (b9z true)):=OpR.imp (b4b @D) λ x y H Q ⟨π,α,h,d,e,Q',R,r1,r2,f,k⟩=>by
 obtain ⟨a,o,od,rfl,_,g,q,rel⟩:=L0 R r2 r1 f;refine ⟨a,o,rfl,g,k _ h α H _ q @W R ?_⟩
 rcases rel with ⟨rfl,rfl⟩ | ⟨x,y,rfl,rfl,_⟩ <;> exact .bl _
theorem a5i(hu:X.A.units + 64 < cLine)(ho:SE X o fd)(hi:SE X i fk)(hs:a8z i:=by exact λ _ _=>rfl):SE X (.Subscript o i pos) (a9F fd fk):=PE.imp (b3z @D ho hi hs) λ σ H Q zz=>by
 obtain ⟨π,α,δ,h,Q',R,S,f,k⟩:=zz;show F;show Aq;obtain ⟨a,o,od,rfl,_,g,⟨v,rfl,q⟩,rel⟩:=L0 R2 (q1.mono e2) q2 f2
 rcases rel with ⟨z,_⟩ | ⟨x,y,z,rfl,r⟩
 ·cases z
 ·cases z;exact ⟨a,y,rfl,g,k _ h2 α2 H2 _ q (e1.trans e2) R2 r⟩
theorem a2B{K:KP}{α:List Addr}{H:Hp}{h:Hh}{d:D}{v:V}(R:HRel K α H h)(r:RelD K α H d v)(q:a9k d h):∃ a,v = .ref a/\IsD H a:=by
 obtain ⟨i,z,kvs,rfl,e⟩:=q
 cases r with
 |ref hp =>
  obtain ⟨us,rd,_⟩:=R.rdT hp e;exact ⟨_,rfl,.inr ⟨us,rd⟩⟩
theorem a3F(hu:X.A.units + 64 < cLine)(ho:SE X o fd)(he:SE X e fk)(m:M1 X o "get" apos e cpos):SE X (.Call (.Attribute o "get" apos) [e] [] cpos) (a4T fd fk):=PE.imp (a7L @D ho he m) λ σ H Q zz=>by
 obtain ⟨π,α,δ,h,Q',R,S,f,k⟩:=zz;show F;obtain ⟨a,rfl,isd⟩:=a2B R1 q1 f1.1;refine ⟨a,rfl,isd,π,α1,δ,h1,_,R1,S.mono e1,f1.2,λ y h2 α2 H2 v2 f2 e2 R2 q2=>?_⟩;obtain ⟨a',o,od,ea,_,g,q,rel⟩:=L0 R2 (q1.mono e2) q2 f2;cases ea;refine ⟨o,g,k _ h2 α2 H2 _ q (e1.trans e2) R2 ?_⟩
 rcases rel with ⟨rfl,rfl⟩ | ⟨x,y,rfl,rfl,r⟩
 ·exact .non
 ·exact r
theorem a0D(hu:X.A.units + 64 < cLine)(ho:SE X o fd)(he:SE X e fk)(hf:SE X f fx)(m:M2 X o "get" apos e f cpos):SE X (.Call (.Attribute o "get" apos) [e,f] [] cpos) (a2E fd fk fx):=PE.imp (a8m @D ho he hf m) λ σ H Q zz=>by
 obtain ⟨π,α,δ,h,Q',R,S,f,k⟩:=zz;show F;obtain ⟨a,rfl,isd⟩:=a2B R1 q1 f1.1;refine ⟨a,rfl,isd,π,α1,δ,h1,_,R1,S.mono e1,f1.2,λ y h2 α2 H2 v2 f2 e2 R2 q2=>?_⟩;refine ⟨π,α2,δ,h2,_,R2,S.mono (e1.trans e2),f2,λ x h3 α3 H3 v3 f3 e3 R3 q3=>?_⟩;obtain ⟨a',o,od,ea,_,g,q,rel⟩:=L0 R3 ((q1.mono e2).mono e3) (q2.mono e3) f3;cases ea;refine ⟨o,g,k _ h3 α3 H3 _ q (e1.trans (e2.trans e3)) R3 ?_⟩
 rcases rel with ⟨rfl,rfl⟩ | ⟨x,y,rfl,rfl,r⟩
 ·exact q3
 ·exact r
end
def a1g:DE:=λ _ h Q=>Q (.ref h.length) (h ++ [.dT none []])
def b5c(d k v:D)(h:Hh)(Q:Hh->Prop):Prop:=match d with
 |.ref i=>match h[i]? with
  |some (.dT none kvs)=>∃ ks,k=L5 ks/\kvs.length < 16777216/\Q (h.set i (.dT none (M7 kvs ks v)))
  |_=>False
 |_=>False
def a1U(fd fk fv:DE):DS:=λ E δ h=>fv δ h λ v h1=>fd δ h1 λ d h2=>fk δ h2 λ k h3=>b5c d k v h3 λ h4=>E.nx δ h4
section
variable {X:Cx} {o i value:Expr} {fd fk fv:DE} {pos pos':Pos}
theorem N0:SE X (.Dict [] [] pos) a1g:=PE.imp a7N λ σ H Q zz=>by
 obtain ⟨π,α,δ,h,Q',R,S,f,k⟩:=zz;intro p hp;have e:Ext α H (α ++ [p]) (upd H p (.dT [])):=Ext.newT hp;refine k _ _ (α ++ [p]) _ _ f e (R.newT hp (.dT (z:=none) j3 .nil)) (.ref ?_);rw [<- R.len];simp
theorem b0i{K:KP}{α:List Addr}{H:Hp}{h:Hh}{d k x:D}{v u y:V}{Q:Hh->Prop}(R:HRel K α H h)(r1:RelD K α H d v)(r2:RelD K α H k u)(r3:RelD K α H x y)(f:b5c d k x h Q) :
  ∃ a H' h',v = .ref a/\DPut H a u y H'/\Q h'/\Ext α H α H'/\HRel K α H' h':=by
 unfold b5c at f
 cases r1 with
 |@ref i a hp =>
  dsimp only at f
  cases q:h[i]? with
  |none=>rw [q] at f;exact f.elim
  |some ob =>
   rw [q] at f
   cases ob with
   |dT z kvs =>
    cases z with
    |some o=>exact f.elim
    |none =>
     obtain ⟨ks,rfl,hl,f⟩:=f;obtain ⟨b,rfl,hb⟩:=a4e r2;obtain ⟨p,us,e1,e2,e3⟩:=R.dT q;show Y;have e2:H a=some (.dT us):=e2;have e:Ext α H α (upd H a (.dT (K3 us ks y))):=Ext.write (ZT hp)
     have ll:∀ {kvs:List @Al} {us:List @As},RelKV K α H kvs us->kvs.length=us.length:=λ r=>by
      induction r with
      |nil=>rfl
      |cons _ _ ih=>rw [Zw,Zw,ih]
     exact ⟨a,_,_,rfl,DPut.t e2 hb (by rw [sizeLine_eq,<- ll e3];exact hl),f,e,R.write hp (.dT (z:=none) j3 ((e3.put ks r3).mono e))⟩
   |_=>exact f.elim
 |_=>exact f.elim
theorem a1f(hu:X.A.units + 64 < cLine)(ho:SE X o fd)(hi:SE X i fk)(hv:SE X value fv)(hs:swapsWith value (some (.Subscript o i pos')) pos.line X.env=pure false:=by rfl) :
  SS X (.Assign [.Subscript o i pos'] value pos) (a1U fd fk fv):=PS.imp (b3x @D ho hi hv hs) λ F σ H zz=>by
 obtain ⟨π,α,δ,h,E,R,S,f,k⟩:=zz;show S;refine ⟨π,α1,δ,h1,_,R1,S.mono e1,f1,λ d h2 α2 H2 v2 f2 e2 R2 q2=>?_⟩;refine ⟨π,α2,δ,h2,_,R2,S.mono (e1.trans e2),f2,λ y h3 α3 H3 v3 f3 e3 R3 q3=>?_⟩;obtain ⟨a,H',h',rfl,g,q,e4,R4⟩:=b0i R3 (q2.mono e3) q3 ((q1.mono e2).mono e3) f3;have e:=e1.trans (e2.trans e3);exact ⟨a,H',rfl,g,k.nx δ h' α3 H' σ q (e.trans e4) R4 ((S.mono e).mono e4)⟩
end
def c2V(f:DE):DI:=λ δ h Q=>f δ h λ d h1=>match d with
 |.ref i=>match h1[i]? with
  |some (.dT none kvs)=>∀ o,Q ⟨kvs.map λ kv=>L5 kv.1,[(i,.dT (some o) kvs)]⟩ (h1.set i (.dT (some o) kvs))
  |_=>False
 |_=>False
theorem RelKV.keys{K:KP}{α:List Addr}{H:Hp}{κ:Type}{kvs:List (κ×D)}{us:List (κ×V)}(r:RelKV K α H kvs us):us.map (·.1)=kvs.map (·.1):=by
 induction r with
 |nil=>rfl
 |cons _ _ ih=>rw [Zs,Zs,ih]
section
variable {X:Cx} {tg:Expr}
end
def thaw(h0:Hh)(h:Hh)(Q:Hh->Prop):Prop:=∃ i o kvs kvs0,h0[i]?=some (.dT none kvs0)/\h[i]?=some (.dT (some o) kvs)/\Q (h.set i (.dT none kvs))
def thE(h0:Hh)(E:G3):G3:={ nx:=λ δ h=>thaw h0 h λ h'=>E.nx δ h',rt:=λ d h=>thaw h0 h λ h'=>E.rt d h',bk:=λ δ h=>thaw h0 h λ h'=>E.bk δ h',ct:=λ δ h=>thaw h0 h λ h'=>E.ct δ h',ex:=λ _ _ _=>False }
def thH(H:Hp)(H':Hp)(Q:Hp->Prop):Prop:=∃ a o u us,H' a=some (.frz o u)/\H a=some (.dT us)/\Q (upd H' a u)
theorem N8{K:KP}{α α':List Addr}{H H':Hp}{h h':Hh}{Q:Hh->Prop}{Q':Hp->Prop}(R:HRel K α H h)(e:Ext α H α' H')(R':HRel K α' H' h')(f:thaw h h' Q)(k:∀ h2 H2,Q h2->Ext α' H' α' H2->HRel K α' H2 h2->Q' H2):thH H H' Q':=by
 obtain ⟨i,o,kvs,kvs0,e0,e1,q⟩:=f;obtain ⟨a,us0,a1,a2,_⟩:=R.dT e0;obtain ⟨a',us,b1,b2,b3⟩:=R'.dT e1;rw [e.get a1] at b1;cases b1;have x:Ext α' H' α' (upd H' a (.dT us)):=Ext.write (ZT (e.get a1));exact ⟨a,o,.dT us,us0,b2,a2,k _ _ q x (R'.write (e.get a1) (.dT (z:=none) j3 (b3.mono x)))⟩
theorem thH.thaw{X:Cx}{pins:List @M}{σ σ':L2.St}{H H':Hp}{s s':Shared}{Q:Hp->Prop}(I:Inv X pins σ H s)(I':Inv X pins σ' H' s')(f:thH H H' Q):∃ H2,Inv X pins σ' H2 s'/\Q H2:=by
 obtain ⟨a,o,u,us,h1,h2,q⟩:=f;refine ⟨_,I'.thaw h1 λ o' u' y=>?_,q⟩
 have:=I.base.frzs a o' u' y
 rw [h2] at this;cases this
end DL
namespace PySem
section
variable {prog:Program} {w:World} {K:Type} [DecidableEq K] {knd:HeapKind prog w K} {A:Around} {E:Value->Shared->Prop} {s:Shared}
theorem a3n{d a:Addr}{xs:List (K×Addr×Value)}{k:K}{v:Value}{Q:Value->Shared->Prop}(hu:knd.room A)(hkey:knd.is s.heap k a)(hm:s.heap.DictOfH knd d xs)(hsz:xs.length <= sizeLine)
  (h1:∀ p,atKey xs k=some p->Q p.2 { s with toks:=s.toks + knd.draws k })
  (h2:atKey xs k=none->∀ h',h'.DictOfH knd d (storedH xs k a v)->Heap.SameBut d s.heap h'->Q v { s with heap:=h',toks:=s.toks + knd.draws k }) :
  wpAny @I A (dictSetDefault d @Ax v) Q E s:=by
 obtain ⟨o,es,ep,ho,hc,hd,he,his,hn⟩:=hm;unfold dictSetDefault
 try with_reducible refine wpAny_holding ?_
 refine wpAny_bind (knd.pyHash hu hkey ?_);refine wpAny_bind (wpAny_dictFind_heap (s:={ s with toks:=s.toks + knd.draws k }) hu hkey ho hd he his hn ?_ ?_)
 ·intro hno;have hnot:k ∉ xs.map (·.1):=not_mem_keys_of_get hno
  refine wpAny_bind (wpAny_rule (wpAny_bind (wpAny_updateDictKeys (hz:=by have e:=size_of_entries he;omega) (s:={ s with toks:=s.toks + knd.draws k }) ho hd (wpAny_pure (h2 (atKey_none_of_get hno) _ ⟨_,_,ep + 1,Heap.get?_update_self _ ho (Obj.isFreed_of_dict (Obj.data_mapDictKeys hd _)),
   hc.mapDictKeys _,Obj.data_mapDictKeys hd _,?_,?_,?_⟩ (Heap.SameBut.update ..))))))
  ·rw [storedH_new (atKey_none_of_get hno)]
   simp [he,entryOfKey]
  ·rw [storedH_new (atKey_none_of_get hno)];intro x hx
   rcases List.mem_append.mp hx with hx | hx
   ·exact knd.keeps (his x hx) ho hd (Heap.SameBut.update ..)
   ·simp only [List.mem_singleton] at hx;subst hx;exact knd.keeps hkey ho hd (Heap.SameBut.update ..)
  ·rw [storedH_new (atKey_none_of_get hno)];rw [Zz,List.nodup_append];refine ⟨hn,by simp,?_⟩;intro x hx y hy;simp only [List.map_cons,List.map_nil,List.mem_singleton] at hy;subst hy;exact λ e=>hnot (e ▸ hx)
 ·intro j p hj;refine wpAny_bind (wpAny_dictEntries (s:={ s with toks:=s.toks + knd.draws k }) ho hd ?_);have e1:es[j]?=some (entryOfKey knd (k,p)):=by rw [entry_at he j,hj];rfl
  rw [e1];exact wpAny_bind (wpAny_rule (wpAny_pure (h1 p (atKey_of_get hn hj))))
theorem a1l(knd:HeapKind prog w K)(d a:Addr)(hd:(d == sysModules)=false)(v:Value) :
  MeetsIn prog w (Builtin.«dict.setdefault» ⟨[.ref d,.ref a,v],[]⟩) (λ A R s=>knd.room A.in1/\∃ k xs,knd.is s.heap k a/\s.heap.DictOfH knd d xs/\xs.length <= sizeLine /\
   (∀ p,atKey xs k=some p->R (.ok (.ret p.2)) { s with toks:=s.toks + knd.draws k }) /\
   (atKey xs k=none->∀ h',h'.DictOfH knd d (storedH xs k a v)->Heap.SameBut d s.heap h'->R (.ok (.ret v)) { s with heap:=h',toks:=s.toks + knd.draws k })) :=
 .of_wp λ A R s ⟨hu,k,xs,hkey,hm,hz,h1,h2⟩=>by
  unfold Builtin.«dict.setdefault»;show Q;unfold Builtin.Dict.keyAndDefault;refine wpAny_bind (wpAny_notOrdered_dict hm.typeIs ?_);show wpAny _ _ (pure (d,Value.ref a,some v)) _ _ s;refine wpAny_pure ?_;show wpAny _ _ (if (d == sysModules)=true then _ else (dictSetDefault d @Ax v >>= _)) _ _ s;rw [if_neg (by rw [hd];exact ZR)];exact wpAny_bind (a3n hu hkey hm hz (λ p hp=>wpAny_pure ⟨p.2,rfl,h1 p hp⟩) λ hn h' hm' hs'=>wpAny_pure ⟨v,rfl,h2 hn h' hm' hs'⟩)
end
end PySem
namespace L2
open PySem PySem.Spec PyProof.Rows
section
variable {X:Cx} {pins:List (Addr×Obj)} {σ:St} {H:Hp} {s:Shared} {a b:Addr} {kvs:List (List Key×V)} {k:List Key} {v:V} {u r:Value} {A:Around} {E:Value->Shared->Prop}
theorem a6Q{Q:Value->Shared->Prop}(hu:A.units + 1 < cLine)(I:Inv X pins σ H s)(e:H a=some @Ar)(eb:H b=some (.tup (k.map kV)))(rv:RelV v r)(l:kvs.length < sizeLine)
  (h1:∀ v0,E4 kvs k=some v0->∀ w' s',Inv X pins σ H s'->RelV v0 w'->Q w' s') (h2:E4 kvs k=none->∀ s',Inv X pins σ (upd H a (.dT (K3 kvs k v))) s'->Q r s') :
  wpAny @C A (call (.builtin "dict.setdefault") [.ref a,.ref b,r]) Q E s:=by
 obtain ⟨z,hd,xs,rel,dd⟩:=b6h I.hok e;have hz:xs.length <= sizeLine:=by rw [<- Paired.length rel];exact z
 have hl:(K3 kvs k v).length <= sizeLine:=by have:=L3 kvs k v;omega
 have rv':=rel.val k;refine call_meetsIn PySem.F.slot_dict_setdefault dd.typeIs PySem.F.entry_dict_setdefault (PySem.F.args_dict_setdefault_3 _ _ _) (a1l (tupleKind (j8 X.prog X.w)) a b hd r) ⟨tupleKind_room_in1 hu,k,xs,J3 I.hok eb,dd,hz,λ p hp=>?_,λ hn h' dd' hs=>?_⟩
 ·cases q:E4 kvs k with
  |none=>rw [q,hp] at rv';cases rv'
  |some v0 =>
   obtain ⟨w2,e2,r2⟩:=RelO.some_of (v:=v0) (o:=(atKey xs k).map (·.2)) (by rw [<- q];exact rel.val k);rw [hp] at e2;cases e2;exact h1 v0 q _ _ (I.tok _) r2
 ·have q:E4 kvs k=none:=by
   cases q:E4 kvs k with
   |none=>rfl
   |some v0=>rw [q,hn] at rv';cases rv'
  obtain ⟨q',es,ep,hq,g2,g3,g4,_,g5⟩:=dd';refine h2 q _ (a2Q I (by rw [e];exact True.intro) hs ⟨q',hq⟩ ⟨hl,hd,_,(rel.put k eb rv).keeps λ c ys ec=>?_,q',es,ep,hq,g2,g3,g4,g5⟩);rw [k9 (a5B ec e (λ z=>nomatch z))];exact ec
end
def b8t(td ty tx:TE):TE:=λ σ H Q=>td σ H λ x H1=>∃ a,x = .ref a/\IsD H1 a/\ty σ H1 λ y H2=>tx σ H2 λ z H3=>∃ kvs k b,H3 a=some @Ar/\y = .ref b/\H3 b=some (.tup (k.map kV))/\kvs.length < sizeLine /\
 (∀ v,E4 kvs k=some v->Q v H3)/\(E4 kvs k=none->Q z (upd H3 a (.dT (K3 kvs k z))))
theorem b1y{X:Cx}{o e f:Expr}{apos cpos:Pos}{td ty tx:TE}(hu:X.A.units + 1 < cLine)(ho:PE X o td)(he:PE X e ty)(hf:PE X f tx)(m:M2 X o "setdefault" apos e f cpos):PE X (.Call (.Attribute o "setdefault" apos) [e,f] [] cpos) (b8t td ty tx):=by
 show J;refine wpAny_Call_method m.base m.few m.line PySem.F.plainAttrs_dict PySem.F.slot_dict_setdefault PySem.F.type_dict_setdefault (thn (ho pins s σ H _ I h) λ u s1 zz0=>?_);obtain ⟨x,H1,I1,rx,a,ex,d,q1⟩:=zz0;subst ex
 show Ah
 obtain ⟨t1,t2,_⟩:=a4x I1 d;refine ⟨t1,t2,?_⟩;rw [m.trees]
 refine Calls.callWith_builtin rfl (Calls.evalArgs_plain (YJ (thn (he pins s1 σ H1 _ I1 q1) λ iv s2 ⟨y,H2,I2,ry,q2⟩ =>
  YJ (thn (hf pins s2 σ H2 _ I2 q2) λ fv s3 ⟨z,H3,I3,rz,kvs,k,b,ea,ey,eb,l,g1,g2⟩=>Calls.spliced_nil ?_))))
 subst ey
 obtain rfl:iv=Value.ref b:=ry
 exact a6Q hu I3 ea eb rz l (λ v0 hv w' s' I' rw'=>⟨v0,H3,I',rw',g1 v0 hv⟩) (λ hn s' I'=>⟨z,_,I',rz,g2 hn⟩)
end L2
namespace DL
open PySem PySem.Spec L2
def b9e(d k x:D)(h:Hh)(Q:DK):Prop:=match d with
 |.ref i=>match h[i]? with
  |some (.dT none kvs)=>∃ ks,k=L5 ks/\kvs.length < 16777216/\(match C7 kvs ks with | some v=>Q v h | none=>Q x (h.set i (.dT none (M7 kvs ks x))))
  |_=>False
 |_=>False
def b0O(fd fk fx:DE):DE:=λ δ h Q=>fd δ h λ d h1=>a9k d h1/\fk δ h1 λ k h2=>fx δ h2 λ x h3=>b9e d k x h3 Q
theorem a6c{X:Cx}{o e f:Expr}{fd fk fx:DE}{apos cpos:Pos}(hu:X.A.units + 64 < cLine)(ho:SE X o fd)(he:SE X e fk)(hf:SE X f fx)(m:M2 X o "setdefault" apos e f cpos):SE X (.Call (.Attribute o "setdefault" apos) [e,f] [] cpos) (b0O fd fk fx):=PE.imp (b1y @D ho he hf m) λ σ H Q zz=>by
 obtain ⟨π,α,δ,h,Q',R,S,f,k⟩:=zz;show F;obtain ⟨isd,f1⟩:=f1;obtain ⟨a0,rfl,ia⟩:=a2B R1 q1 isd;refine ⟨a0,rfl,ia,π,α1,δ,h1,_,R1,S.mono e1,f1,λ y h2 α2 H2 v2 f2 e2 R2 q2=>?_⟩;refine ⟨π,α2,δ,h2,_,R2,S.mono (e1.trans e2),f2,λ x h3 α3 H3 v3 f3 e3 R3 q3=>?_⟩;unfold b9e at f3;have q1':=(q1.mono e2).mono e3
 cases q1' with
 |@ref i _ hp =>
  dsimp only at f3
  cases q:h3[i]? with
  |none=>rw [q] at f3;exact f3.elim
  |some ob =>
   rw [q] at f3
   cases ob with
   |dT z kvs =>
    cases z with
    |some o=>exact f3.elim
    |none =>
     obtain ⟨ks,rfl,hl,f3⟩:=f3;obtain ⟨b,rfl,hb⟩:=a4e (q2.mono e3);obtain ⟨p,us,z1,z2,z3⟩:=R3.dT q;rw [hp] at z1;cases z1;have z2:H3 a0=some (.dT us):=z2;have ee:Ext α3 H3 α3 (upd H3 a0 (.dT (K3 us ks v3))):=Ext.write (ZT hp)
     have ll:∀ {kvs:List @Al} {us:List @As},RelKV ⟨X.K,π⟩ α3 H3 kvs us->kvs.length=us.length:=λ r=>by
      induction r with
      |nil=>rfl
      |cons _ _ ih=>rw [Zw,Zw,ih]
     refine ⟨us,ks,b,z2,rfl,hb,by rw [sizeLine_eq,<- ll z3];exact hl,λ v0 hv=>?_,λ hn=>?_⟩
     ·rcases z3.val ks with ⟨g1,g2⟩ | ⟨x',y',g1,g2,g3⟩
      ·rw [g2] at hv;cases hv
      ·rw [g2] at hv;cases hv
       have:C7 kvs ks=some x':=g1
       rw [this] at f3;exact k _ _ α3 _ _ f3 (e1.trans (e2.trans e3)) R3 g3
     ·rcases z3.val ks with ⟨g1,g2⟩ | ⟨x',y',g1,g2,g3⟩
      ·have:C7 kvs ks=none:=g1
       rw [this] at f3;exact k _ _ α3 _ _ f3 (e1.trans (e2.trans (e3.trans ee))) (R3.write hp (.dT (z:=none) j3 ((z3.put ks q3).mono ee))) (q3.mono ee)
      ·rw [g2] at hn;cases hn
   |_=>exact f3.elim
 |_=>exact f3.elim
end DL
namespace L2
open PySem PySem.Spec PyProof.Rows
section
variable {prog:Program} {w:World} {A:Around} {E:Value->Shared->Prop} {s:Shared}
theorem a4L{d:Addr}{Q:Value->Shared->Prop}(hd:(d == sysModules)=false)(hT:s.TypeIs (.ref d) "dict")(hQ:Q @Aj { s with heap:=s.heap.push { cls:=.type "dict_items",data:=.fields #[.ref d] } }) :
  wpAny @I A (call (.builtin "dict.items") [.ref d]) Q E s:=by
 refine wpAny_call_entry F.slot_dict_items hT F.entry_dict_items ?_ (F.args_dict_items_1 _);unfold Builtin.«dict.items»;show Q;unfold Builtin.Dict.noArgs;refine wpAny_bind (wpAny_notOrdered_dict hT ?_);show wpAny _ _ (pure d) _ _ s;refine wpAny_pure ?_;show wpAny _ _ (Builtin.Dict.showsAll d >>= _) _ _ s;unfold Builtin.Dict.showsAll;rw [if_neg (by rw [hd];exact ZR)];show P;exact wpAny_bind (wpAny_newObj_type (wpAny_pure ⟨_,rfl,hQ⟩))
theorem a4F{v d:Addr}{o:Obj}{es:Array DictEntry}{ep:Nat}{Q:Value->Shared->Prop}(hv:s.heap.IsItemsView v d)(ho:s.heap.get? d=some o)(hdat:o.data = .dict es ep)
  (hQ:Q @Aj { s with heap:=s.heap.push { cls:=.type "dict_itemiterator",data:=.fields #[.none,.bool false,.ref d,.int 0 0,.int es.size 0,.int ep 0,.none,.none] } }) :
  wpAny @I A (pyIter (.ref v)) Q E s:=by
 obtain ⟨ov,hov,hcv,hdv⟩:=id hv;refine wpAny_pyIter_slot hv.typeIs F.slot_dict_items_iter (wpAny_call_entry F.slot_dict_items_iter hv.typeIs F.entry_dict_items_iter ?_ (F.args_dict_items_iter_1 _));unfold Builtin.«dict_items.__iter__»;show P;show Q;unfold Builtin.Dict_items.dictOf;refine wpAny_bind (wpAny_field hov hdv (x:=.ref d) rfl (wpAny_pure ?_));show Q;unfold Builtin.Dict_items.newIterator;refine wpAny_bind (wpAny_dictEntries ho hdat ?_);refine wpAny_bind (wpAny_dictEpoch ho hdat ?_);have hown:Builtin.Dict_items.ownsTuple "dict_itemiterator" = true:=by decide
 simp only [hown,if_true]
 refine wpAny_newObj_type (wpAny_pure ⟨_,rfl,"dict_itemiterator",_,⟨_,ZI _ rfl,rfl⟩,F.slot_dict_itemiterator_next.lookup,?_⟩)
  (by simp only [sizeOk,Builtin.Dict_items.ownedTupleFields,List.size_toArray,List.length_append,List.length_cons,List.length_nil,sizeLine_eq];omega)
 simpa [rawInt,Builtin.Dict_items.ownedTupleFields] using hQ
theorem Z7{it d:Addr}{i ep:Nat}{od:Obj}{es:Array DictEntry}{ok ov:Value}{Q:Option Value->Shared->Prop}(hit:IsItemIter s.heap it d i es.size ep ok ov)(hod:s.heap.get? d=some od)(hdd:od.data = .dict es ep)(hlt:i < es.size)
  (hQ:∀ h',IsItemIterOut h' it d (i + 1) es.size ep es[i].key es[i].val s.heap.objs.size->h'.get? s.heap.objs.size=some { cls:=.type "tuple",data:=.seq #[es[i].key,es[i].val] }->h'.objs.size=s.heap.objs.size + 1 ->
   (∀ b o,b ≠ it->s.heap.get? b=some o->h'.get? b=some o)->Q (some @Aj) { s with heap:=h' }):wpAny @I A (pyNext @AC) Q E s:=by
 obtain ⟨hp,g,dr,tk,os⟩:=s;have hT:Shared.TypeIs ⟨hp,g,dr,tk,os⟩ @AC "dict_itemiterator":=⟨_,hit,rfl⟩
 unfold pyNext;refine wpAny_bind (wpAny_attempt (wpAny_callSpecial?_slot (name:=Str.ofString "__next__") hT F.slot_dict_itemiterator_next (wpAny_call_entry F.slot_dict_itemiterator_next hT F.entry_dict_itemiterator_next ?_ (F.args_dict_itemiterator_next_1 _))));show P;show Q;show Q
 first | refine wpAny_bind (wpAny_typeNameOfWhole_itemiter hT (wpAny_pure ?_)) | refine wpAny_bind (wpAny_typeNameOf_itemiter hT (wpAny_pure ?_))
 refine wpAny_bind (wpAny_fieldsOf hit rfl ?_);have hown:Builtin.Dict_items.ownsTuple "dict_itemiterator" = true:=by decide
 simp only [hown,if_true];show wpAny _ _ (if (Value.ref d == Value.none)=true then _ else _) _ _ _;show G;refine wpAny_pure ?_;simp only [show ¬ ((i:Int) < 0) from by omega,if_false,Int.toNat_natCast,Array.getElem?_eq_getElem hlt];show Q
 first | refine wpAny_bind (wpAny_typeNameOfWhole_itemiter hT (wpAny_pure ?_)) | refine wpAny_bind (wpAny_typeNameOf_itemiter hT (wpAny_pure ?_))
 refine wpAny_bind (wpAny_isOneOf_itemiter hT ?_);show wpAny _ _ (setField @AC 3 (rawInt ((i:Int) + 1)) >>= _) _ _ ⟨hp,g,dr,tk,os⟩;refine wpAny_bind (wpAny_setField_rec hit @N λ h₁ he₁ hs₁=>?_)
 replace hs₁:Heap.SameBut it hp h₁:=hs₁
 replace he₁:IsItemIter h₁ it d (i + 1) es.size ep ok ov:=by
  have e:((i + 1:Nat):Int)=(i:Int) + 1:=by omega
  unfold IsItemIter;rw [e];simpa [rawInt] using he₁
 have hT₁:Shared.TypeIs ⟨h₁,g,dr,tk,os⟩ @AC "dict_itemiterator":=⟨_,he₁,rfl⟩
 refine wpAny_bind (wpAny_holding ?_);refine wpAny_bind (wpAny_isOneOf_itemiter hT₁ ?_);refine wpAny_bind (wpAny_isOneOf_itemiter hT₁ ?_);show wpAny _ _ (Builtin.Dict_items.pairFromOwner @AC 6 es[i].key es[i].val) _ _ ⟨h₁,g,dr,tk,os⟩;unfold Builtin.Dict_items.pairFromOwner;refine wpAny_bind (wpAny_newTuple ?_);have he₂:IsItemIter (h₁.push { cls:=.type "tuple",data:=.seq #[es[i].key,es[i].val] }) it d (i + 1) es.size ep ok ov:=ZU _ he₁;generalize hh₂:h₁.push { cls:=.type "tuple",data:=.seq #[es[i].key,es[i].val] }=h₂ at he₂;have hz₁:h₁.objs.size=hp.objs.size:=hs₁.1;have hil:it < hp.objs.size:=ZE hit;have ht₂:h₂.get? hp.objs.size=some { cls:=.type "tuple",data:=.seq #[es[i].key,es[i].val] }:=by rw [<- hh₂,<- hz₁];exact ZI _ rfl
 have hz₂:h₂.objs.size=hp.objs.size + 1:=by rw [<- hh₂,YS,hz₁]
 have hk₂:∀ b o,b ≠ it->hp.get? b=some o->h₂.get? b=some o:=λ b o hb e=>by rw [<- hh₂];exact ZU _ (hs₁.extBut b o hb e)
 show wpAny _ _ (Builtin.Dict_items.ownedTupleIsFree @AC >>= _) _ _ ⟨h₂,g,dr,tk,os⟩;rw [hz₁];clear hh₂ he₁ hs₁ hT₁ hz₁ h₁;show Q;unfold Builtin.Dict_items.ownedTupleIsFree;refine wpAny_bind (wpAny_field he₂ rfl (x:=.none) rfl (wpAny_pure ?_));simp only [if_true];refine wpAny_bind (wpAny_field he₂ rfl (x:=ok) rfl ?_);refine wpAny_bind (wpAny_field he₂ rfl (x:=ov) rfl ?_);refine wpAny_bind (wpAny_setField_rec he₂ @N λ h₃ he₃ hs₃=>?_)
 replace hs₃:Heap.SameBut it h₂ h₃:=hs₃
 replace he₃:IsItemIter h₃ it d (i + 1) es.size ep es[i].key ov:=he₃
 refine wpAny_bind (wpAny_setField_rec he₃ @N λ h₄ he₄ hs₄=>?_)
 replace hs₄:Heap.SameBut it h₃ h₄:=hs₄
 replace he₄:IsItemIter h₄ it d (i + 1) es.size ep es[i].key es[i].val:=he₄
 refine wpAny_bind (wpAny_setField_rec he₄ @N λ h₅ he₅ hs₅=>?_)
 replace hs₅:Heap.SameBut it h₄ h₅:=hs₅
 replace he₅:IsItemIterOut h₅ it d (i + 1) es.size ep es[i].key es[i].val hp.objs.size:=he₅
 refine wpAny_bind (wpAny_setField_rec he₅ @N λ h₆ he₆ hs₆=>?_)
 replace hs₆:Heap.SameBut it h₅ h₆:=hs₆
 replace he₆:IsItemIterOut h₆ it d (i + 1) es.size ep es[i].key es[i].val hp.objs.size:=he₆
 refine wpAny_bind (wpAny_letGo (wpAny_pure (wpAny_pure ⟨_,rfl,wpAny_pure (hQ h₆ he₆ ?_ ?_ ?_)⟩)))
 ·exact hs₆.extBut _ _ (Nat.ne_of_gt hil) (hs₅.extBut _ _ (Nat.ne_of_gt hil) (hs₄.extBut _ _ (Nat.ne_of_gt hil) (hs₃.extBut _ _ (Nat.ne_of_gt hil) ht₂)))
 ·show h₆.objs.size=hp.objs.size + 1;rw [hs₆.1,hs₅.1,hs₄.1,hs₃.1,hz₂]
 ·exact λ b o hb e=>hs₆.extBut b o hb (hs₅.extBut b o hb (hs₄.extBut b o hb (hs₃.extBut b o hb (hk₂ b o hb e))))
theorem a1e{it d:Addr}{i ep:Nat}{od:Obj}{es:Array DictEntry}{ok ov:Value}{Q:Option Value->Shared->Prop}(hh:A.handled=none)(hit:IsItemIter s.heap it d i es.size ep ok ov)(hod:s.heap.get? d=some od)(hdd:od.data = .dict es ep)(hge:es.size <= i)
  (hQ:∀ h',Heap.ExtBut it s.heap h'->Q none { s with heap:=h' }):wpAny @I A (pyNext @AC) Q E s:=by
 have hT:s.TypeIs @AC "dict_itemiterator":=⟨_,hit,rfl⟩
 unfold pyNext;refine wpAny_bind (wpAny_attempt (wpAny_callSpecial?_slot (name:=Str.ofString "__next__") hT F.slot_dict_itemiterator_next (wpAny_call_entry F.slot_dict_itemiterator_next hT F.entry_dict_itemiterator_next ?_ (F.args_dict_itemiterator_next_1 _))));show P;show Q;show Q
 first | refine wpAny_bind (wpAny_typeNameOfWhole_itemiter hT (wpAny_pure ?_)) | refine wpAny_bind (wpAny_typeNameOf_itemiter hT (wpAny_pure ?_))
 refine wpAny_bind (wpAny_fieldsOf hit rfl ?_);have hown:Builtin.Dict_items.ownsTuple "dict_itemiterator" = true:=by decide
 simp only [hown,if_true];show wpAny _ _ (if (Value.ref d == Value.none)=true then _ else _) _ _ s;show G;refine wpAny_pure ?_;simp only [show ¬ ((i:Int) < 0) from by omega,if_false,Int.toNat_natCast,Array.getElem?_eq_none hge];show Q
 first | refine wpAny_bind (wpAny_typeNameOfWhole_itemiter hT (wpAny_pure ?_)) | refine wpAny_bind (wpAny_typeNameOf_itemiter hT (wpAny_pure ?_))
 show wpAny _ _ (setField @AC 2 .none >>= _) _ _ s;refine wpAny_bind (wpAny_setField hit rfl @N ?_);show I;refine wpAny_bind (wpAny_handled ?_);rw [show A.in1.handled=none from hh];refine wpAny_bind (wpAny_pure (wpAny_throw ?_));refine wpAny_bind (wpAny_isInstance (T:= "StopIteration") (b:=true) ⟨_,ZI _ rfl,rfl⟩ isSubtype_stop ?_);exact wpAny_pure (hQ _ (((Heap.SameBut.update ..).extBut.push _).push _))
end
end L2
namespace L2
open PySem PySem.Spec PyProof.Rows
def Iti(a:Addr)(o:Obj)(ks:List (List Key)):It :=
 ⟨(Itk a o ks).go,λ i H x H'=>∃ T b us p,x = .ref T/\H T=none/\H'=upd H T (.tup [.ref b,p.2])/\H a=some (.frz o (.dT us))/\us[i]?=some p/\H b=some (.tup (p.1.map kV)),(Itk a o ks).stop⟩
theorem a0h{α β:Type}{R:α->β->Prop}{xs:List α}{ys:List β}(p:Paired R xs ys):∀ {i:Nat} {y:β},ys[i]?=some y->∃ x,xs[i]?=some x/\R x y:=by
 induction p with
 |nil=>intro i y e;simp at e
 |cons r _ ih =>
  intro i y e
  cases i with
  |zero=>simp at e;subst e;exact ⟨_,rfl,r⟩
  |succ i =>
   obtain ⟨x,h1,h2⟩:=ih (i:=i) (y:=y) (by simpa using e);exact ⟨x,by simpa using h1,h2⟩
theorem a0b{P:Program}{w:World}{H:Hp}{h:Heap}{a:Addr}{o:Obj}{es:Array DictEntry}{ep:Nat}{kvs:List @As}(hd:o.data = .dict es ep)(ok:HOk P w H h)(e:H a=some (.frz o @Ar)) :
  h.get? a=some o/\es.size=kvs.length/\∀ (i:Nat) (hi:i < es.size),∃ b p,kvs[i]?=some p/\es[i].key = .ref b/\H b=some (.tup (p.1.map kV))/\RelV p.2 es[i].val:=by
 obtain ⟨ho,z,y,xs,rel,o',es',ep',h1,h2,h3,h4,h5⟩:=(show ObjOk P w H h a (.frz o @Ar) from ok a _ e)
 rw [ho] at h1;cases h1;rw [hd] at h3;cases h3;have hs:es.size=xs.length:=by rw [<- Array.length_toList,h4,ZS]
 refine ⟨ho,by rw [hs,Paired.length rel],λ i hi=>?_⟩;have hix:i < xs.length:=by omega
 obtain ⟨p,e1,_,e2,e3⟩:=a0h rel (ZZ hix);have q:es[i]?=some (entryOfKey (tupleKind (j8 P w)) xs[i]):=by rw [<- Array.getElem?_toList,h4,ZP,ZZ hix];rfl
 rw [Array.getElem?_eq_getElem hi] at q;refine ⟨xs[i].2.1,p,e1,?_,e2,?_⟩
 ·rw [Option.some.inj q];rfl
 ·rw [Option.some.inj q];exact e3
theorem a4J{P:Program}{w:World}{K:PySem.W.Frag}{es0:List Expr}{x1}{pos:Pos}(a it:Addr){o:Obj}{es:Array DictEntry}{ep:Nat}(ks:List (List Key))(hd:o.data = .dict es ep) :
  a2z P w K (.Tuple es0 x1 pos) (Iti a o ks) [it] it (λ i h=>∃ ok ov,IsItemIter h it a i es.size ep ok ov) where
 mem:=by simp
 obj:=λ i h st b hb=>by
  have e:b=it:=by simpa using hb
  subst e;obtain ⟨ok,ov,st⟩:=st;exact ⟨_,st,λ v z=>by cases z⟩
 keep:=λ i h h' st k=>by
  obtain ⟨ok,ov,st⟩:=st;exact ⟨ok,ov,k it @N _ st⟩
 item:=by
  show K;obtain ⟨⟨us,hH,rfl⟩,hi⟩:=hg;obtain ⟨ok,ov,st⟩:=st;obtain ⟨ho,hs,hk⟩:=a0b hd I.hok hH;rw [ZS] at hi;have hlt:i < es.size:=by omega
  obtain ⟨b,p,e1,e2,e3,e4⟩:=hk i hlt;have fe:=hf it @N;refine Z7 st ho hd hlt λ h1 hout htup hsz hkeep=>?_;refine ⟨_,rfl,wpAny_letOwnedTupleGo_items hout λ h2 he2 sb2=>?_⟩
  have Im:Inv X pins σ (upd H s.heap.objs.size (.tup [.ref b,p.2])) { s with heap:=s.heap.push { cls:=.type "tuple",data:=.seq #[es[i].key,es[i].val] } } :=
   I.laid (t':=s.toks) (λ b v q=>ZU _ q) @G ⟨by show 2 <= sizeLine;decide,[es[i].key,es[i].val],.cons e2 (.cons e4 .nil),⟨_,ZI _ rfl,rfl,_,rfl⟩⟩
  have ne:it ≠ s.heap.objs.size:=Zp (ZE st);have fr:upd H s.heap.objs.size (.tup [.ref b,p.2]) it=none:=by rw [k9 ne];exact fe.1
  have I2:Inv X pins σ (upd H s.heap.objs.size (.tup [.ref b,p.2])) { s with heap:=h2,toks:=s.toks } :=
   Im.turned (t':=s.toks) (h':=h2) (λ c u hc q=>by
    have q:(s.heap.push { cls:=.type "tuple",data:=.seq #[es[i].key,es[i].val] }).get? c=some u:=q;refine (sb2.2 c hc).trans ?_
    rcases Heap.get?_push_cases q with ⟨hb,ho⟩ | q'
    ·subst hb;subst ho;exact htup
    ·exact hkeep c u hc q') fr fe.2.1 fe.2.2.2.1 fe.2.2.2.2.1 fe.2.2.2.2.2
  exact ⟨.ref s.heap.objs.size,_,I2,rfl,⟨_,b,us,p,rfl,I.hok.fresh @G,rfl,hH,e1,e3⟩,⟨_,_,he2⟩,λ c hc=>by rw [ZX.mp hc];exact fr⟩
 done:=by
  show K;obtain ⟨⟨us,hH,rfl⟩,hi⟩:=hg;obtain ⟨ok,ov,st⟩:=st;obtain ⟨ho,hs,hk⟩:=a0b hd I.hok hH;rw [ZS] at hi;obtain ⟨f0,f1,f2,f3,f4,f5⟩:=hf it @N;exact a1e (I.ok.hd hc) st ho hd @D λ h' eb=>⟨rfl,I.turned (t':=s.toks) (λ b o hb e=>eb b o hb e) f0 f1 f3 f4 f5⟩
 self:=λ A i s Q E st h=>by
  obtain ⟨ok,ov,st⟩:=st;exact PySem.W.kcp_self st h
def D8(v a:Addr)(h:Heap):Prop:=h.IsItemsView v a
section
variable {X:Cx}
theorem b1x:MtR X "dict.items" (λ x vs H Q=>∃ a kvs,x = .ref a/\vs=[]/\H a=some @Ar/\∀ v,H v=none->Q (.ref v) (upd H v (.ext (D8 v a)))):=by
 intro pins s σ H x xs v us Q I rx r h;obtain ⟨a,kvs,rfl,rfl,hH,q⟩:=h;cases rx;cases r;obtain ⟨z,hd,ys,rel,o,es,ep,h1,h2,h3,h4,h5⟩:=(show ObjOk X.prog X.w H s.heap a @Ar from I.hok a _ hH)
 refine a4L hd ⟨o,h1,h2.1⟩ ?_;exact ⟨.ref s.heap.objs.size,_,I.laid (t':=s.toks) (λ b u q=>ZU _ q) @G (show ObjOk X.prog X.w _ _ _ (.ext (D8 s.heap.objs.size a)) from ⟨⟨_,ZI _ rfl,rfl,rfl⟩,⟨_,ZI _ rfl⟩,λ _ _ p k=>by obtain ⟨o,z,r⟩:=p;exact ⟨o,k _ z,r⟩⟩),rfl,q _ (I.hok.fresh @G)⟩
end
end L2
namespace L2
open PySem PySem.Spec PyProof.Rows
section
variable {X:Cx} {tg:Expr}
def b6O(K:PySem.W.Frag)(tl:TE):TI:=λ σ H R=>tl σ H λ x H1=>∃ a kvs,x = .ref a/\H1 a=some @Ar/\∀ v,H1 v=none->∀ o,R (Iti a o (kvs.map (·.1))) (upd (upd H1 v (.ext (D8 v a))) a (.frz o @Ar))
theorem a9C{l:Expr}{tl:TE}{apos cpos:Pos}(hl:PE X l tl)(htg:∃ es x1 pos,tg = .Tuple es x1 pos:=by exact ⟨_,_,_,rfl⟩)(hbase:attributeBase l "items" X.env (eval l X.env)=eval l X.env:=by rfl)(hline:@Aq=true:=by rfl) :
  PI X tg (.Call (.Attribute l "items" apos) [] [] cpos) (b6O X.K tl):=by
 intro pins s σ H R I h;obtain ⟨es0,x1,pos,rfl⟩:=htg
 have w:=a2h (X:=X) (o:=l) (to:=λ σ H Q=>∃ Q0:VK,tl σ H Q0/\∀ x H1,Q0 x H1->Q x H1) PySem.F.plainAttrs_dict PySem.F.slot_dict_items PySem.F.type_dict_items b1x (by
  show J;obtain ⟨Q0,h,k⟩:=h;refine thn (hl pins s σ H _ I h) λ v s1 z=>?_;obtain ⟨x,H1,I1,r1,q⟩:=z;exact ⟨x,H1,I1,r1,k _ _ q⟩) hbase hline pins s σ H (λ y H2=>∃ a v H1 kvs,y = .ref v/\H1 v=none/\H1 a=some @Ar/\H2=upd H1 v (.ext (D8 v a))/\∀ o,R (Iti a o (kvs.map (·.1))) (upd H2 a (.frz o @Ar))) I ?_
 ·refine thn w λ v s1 z=>?_;obtain ⟨y,H2,I2,r2,a,v',H1,kvs,rfl,hv,hH,rfl,q⟩:=z;cases r2;have hva:a ≠ v':=λ z=>by rw [z,hv] at hH;cases hH
  have hH2:upd H1 v' (.ext (D8 v' a)) a=some @Ar:=by rw [k9 hva];exact hH
  obtain ⟨hvw,_,_⟩:=(show ObjOk X.prog X.w _ s1.heap v' (.ext (D8 v' a)) from I2.hok v' _ j3)
  obtain ⟨z,hd,xs,rel,o,es,ep,h1,h2,h3,h4,h5⟩:=(show ObjOk X.prog X.w _ s1.heap a @Ar from I2.hok a _ hH2)
  refine a4F hvw h1 h3 ?_;generalize upd H1 v' (.ext (D8 v' a))=H2 at I2 hH2 rel q;have hne:∀ b ys,H2 b=some (.tup ys)->(upd H2 a (.frz o @Ar)) b=some (.tup ys):=λ b ys eb=>by rw [k9 (a5B eb hH2 (λ z=>nomatch z))];exact eb
  have I3:=I2.write (x:=a) (e:=a) (o:=.frz o @Ar) (t':=s1.toks) (h':=s1.heap.push { cls:=.type "dict_itemiterator",data:=.fields #[.none,.bool false,.ref a,.int 0 0,.int es.size 0,.int ep 0,.none,.none] }) (by rw [hH2];exact True.intro) (.inl rfl) (λ b u _ q=>ZU _ q) ⟨_,ZU _ h1⟩
   ⟨Heap.get?_push_of_some _ h1,z,hd,xs,KT.keeps rel hne,o,es,ep,ZU _ h1,h2,h3,h4,h5⟩
  refine ⟨s1.heap.objs.size,[s1.heap.objs.size],_,_,_,rfl,I3,a4J a _ (kvs.map (·.1)) h3,⟨_,_,ZI _ rfl⟩,λ b hb=>?_,q o⟩;have e:b=s1.heap.objs.size:=by simpa using hb
  subst e;have hne2:s1.heap.objs.size ≠ a:=Nat.ne_of_gt (ZE h1);exact I2.fpOk @G (by rw [k9 hne2];exact I2.hok.fresh @G)
 ·refine ⟨_,h,λ x H1 z=>?_⟩;obtain ⟨a,kvs,rfl,hH,q⟩:=z;exact ⟨.inr (.inr (.inl ⟨rfl,.inr ⟨kvs,hH⟩⟩)),a,kvs,rfl,rfl,hH,λ v hv=>⟨a,v,H1,kvs,rfl,hv,hH,rfl,λ o=>q v hv o⟩⟩
end
end L2
namespace DL
open PySem PySem.Spec L2
def itD(kv:List Key×D):D:=.tup [L5 kv.1,kv.2]
def a5o(f:DE):DI:=λ δ h Q=>f δ h λ d h1=>match d with
 |.ref i=>match h1[i]? with
  |some (.dT none kvs)=>∀ o,Q ⟨kvs.map itD,[(i,.dT (some o) kvs)]⟩ (h1.set i (.dT (some o) kvs))
  |_=>False
 |_=>False
theorem RelKV.get{K:KP}{α:List Addr}{H:Hp}{κ:Type}{kvs:List (κ×D)}{us:List (κ×V)}(r:RelKV K α H kvs us):∀ {i:Nat} {p:κ×V},us[i]?=some p->∃ d,kvs[i]?=some (p.1,d)/\RelD K α H d p.2:=by
 induction r with
 |nil=>intro i p e;simp at e
 |cons r _ ih =>
  intro i p e
  cases i with
  |zero=>simp at e;subst e;exact ⟨_,rfl,r⟩
  |succ i =>
   obtain ⟨d,h1,h2⟩:=ih (i:=i) (p:=p) (by simpa using e);exact ⟨d,by simpa using h1,h2⟩
theorem a8P{K:PySem.W.Frag}{π α:List Addr}{H:Hp}{i:Nat}{a:Addr}{o:Obj}{kvs:List @Al}(hp:α[i]?=some a):ItA K π α H (Iti a o (kvs.map (·.1))) ⟨kvs.map itD,[(i,.dT (some o) kvs)]⟩:=λ π' sub=>by
 refine ⟨λ α _=>α[i]?=some a,⟨λ α H α' H' st e=>e.get st,λ α H H' D st _ _=>st,λ α H h j d R st ok hj=>?_,λ α H h R st ok=>?_⟩,hp⟩
 ·have hh:h[i]?=some (.dT (some o) kvs):=ok (i,.dT (some o) kvs) ZO;show Ao;have hj:(kvs.map itD)[j]?=some d:=hj;rw [ZP] at hj
  cases q:kvs[j]? with
  |none=>rw [q] at hj;cases hj
  |some kv =>
   rw [q] at hj;cases hj;refine ⟨⟨⟨us,e2,e3.keys⟩,by rw [ZS];exact (ZY.mp q).1⟩,λ x H' y=>?_⟩;obtain ⟨T,b,us',pr,rfl,hT,rfl,h4,h5,h6⟩:=y;have e2:H a=some (.frz o (.dT us)):=e2;rw [e2] at h4;cases h4;obtain ⟨dd,g1,g2⟩:=e3.get h5;rw [q] at g1;cases g1;have e:Ext α H α (upd H T (.tup [.ref b,pr.2])):=Ext.new hT;exact ⟨e,R.new hT,.tup ⟨R.out hT,R.outP hT,j3⟩ (.cons ((a8a R h6).mono e) (.cons (g2.mono e) .nil))⟩
 ·have hh:h[i]?=some (.dT (some o) kvs):=ok (i,.dT (some o) kvs) ZO;show Ao;exact ⟨⟨us,e2,e3.keys⟩,by rw [ZS];show kvs.length <= (kvs.map itD).length;rw [ZS];exact ZV _⟩
section
variable {X:Cx} {tg:Expr}
theorem a8E{l:Expr}{f:DE}{apos cpos:Pos}(hl:SE X l f)(htg:∃ es x1 pos,tg = .Tuple es x1 pos:=by exact ⟨_,_,_,rfl⟩)(hbase:attributeBase l "items" X.env (eval l X.env)=eval l X.env:=by rfl)(hline:@Aq=true:=by rfl) :
  SI X tg (.Call (.Attribute l "items" apos) [] [] cpos) (a5o f):=PI.imp (a9C hl htg hbase hline) λ σ H Q zz0=>by
 show H;show F
 cases q1 with
 |@ref i a hp =>
  dsimp only at f1
  cases q:h1[i]? with
  |none=>rw [q] at f1;exact f1.elim
  |some ob =>
   rw [q] at f1
   cases ob with
   |dT z kvs =>
    cases z with
    |some o=>exact f1.elim
    |none =>
     obtain ⟨p,us,e2,e3,e4⟩:=R1.dT q;rw [hp] at e2;cases e2;have e3:H1 a=some (.dT us):=e3;refine ⟨a,us,rfl,e3,λ v hv o=>?_⟩;have ev:Ext α1 H1 α1 (upd H1 v (.ext (D8 v a))):=Ext.new hv;have Rv:HRel ⟨X.K,π⟩ α1 (upd H1 v (.ext (D8 v a))) h1:=R1.new hv;have e:Ext α1 (upd H1 v (.ext (D8 v a))) α1 (upd (upd H1 v (.ext (D8 v a))) a (.frz o (.dT us))):=Ext.write (ZT hp);rw [e4.keys];refine k _ _ α1 _ _ (f1 o) (e1.trans (ev.trans e)) (Rv.write hp (.dT (z:=some o) j3 ((e4.mono ev).mono e))) (a8P hp) λ p hp'=>?_;rw [ZX.mp hp',ZH (ZY.mp q).1]
   |_=>exact f1.elim
 |_=>exact f1.elim
end
def b0s(s:DI)(t:DG)(b:DS):DS:=λ E δ h=>Q1 s t b (thE h E) δ h
theorem b6r{X:Cx}{tg iter:Expr}{body:List Stmt}{sr:DI}{t:DG}{b:DS}{pos:Pos}(hp:PassesOwn @C X.A X.env X.xe)(hc:X.calm=true)(hi:SI X tg iter sr)(hg:SG X tg t)(hb:SSs X body b)
  (hs:∀ x,foldedSetIterable iter X.env x=pure x:=by intro _;rfl):SS X (.For tg iter body [] pos) (b0s sr t b):=by
 intro pins s σ H D I zz;obtain ⟨π,α,δ,h,E,R,S,q,k⟩:=zz
 have w:=F1 (pos:=pos) hp hc hi hg hb hs pins s σ H { nx:=λ σ' H'=>thH H H' λ H2=>D.nx σ' H2,rt:=λ v H'=>thH H H' λ H2=>D.rt v H2,bk:=λ σ' H'=>thH H H' λ H2=>D.bk σ' H2,ct:=λ σ' H'=>thH H H' λ H2=>D.ct σ' H2 } I
  ⟨π,α,δ,h,thE h E,R,S,q,⟨λ δ' h' α' H' σ' a e R' S'=>N8 R e R' a λ h2 H2 z x R2=>k.nx δ' h2 α' H2 σ' z (e.trans x) R2 (S'.mono x),λ d h' α' H' v a e R' r=>N8 R e R' a λ h2 H2 z x R2=>k.rt d h2 α' H2 v z (e.trans x) R2 (r.mono x),
   λ δ' h' α' H' σ' a e R' S'=>N8 R e R' a λ h2 H2 z x R2=>k.bk δ' h2 α' H2 σ' z (e.trans x) R2 (S'.mono x),λ δ' h' α' H' σ' a e R' S'=>N8 R e R' a λ h2 H2 z x R2=>k.ct δ' h2 α' H2 σ' z (e.trans x) R2 (S'.mono x),λ _ _ _ _ _ _ _ a _ _ _=>a.elim⟩⟩
 refine thn w λ fl s' z=>?_
 cases fl with
 |ret u =>
  obtain ⟨v,σ',H',I',r,z⟩:=z;obtain ⟨H2,I2,z⟩:=thH.thaw I I' z;exact ⟨v,σ',H2,I2,r,z⟩
 |_ =>
  obtain ⟨σ',H',I',z⟩:=z;obtain ⟨H2,I2,z⟩:=thH.thaw I I' z;exact ⟨σ',H2,I2,z⟩
end DL
namespace L2
open PySem PySem.Spec PyProof.Rows
section
variable {prog:Program} {w:World} {A:Around} {E:Value->Shared->Prop} {s:Shared}
end
section
variable {X:Cx}
end
end L2
namespace DL
open PySem PySem.Spec L2
def c3n:PN:=λ ds h Q=>∃ i z kvs,ds=[.ref i]/\h[i]?=some (.dT z kvs)/\Q (.int kvs.length) h
end DL
namespace L2
open PySem PySem.Spec PyProof.Rows
section
variable {prog:Program} {w:World} {A:Around}
end
section
variable {X:Cx}
end
end L2
namespace DL
open PySem PySem.Spec L2
def c2X(f:DA):DN:=λ δ h Q=>f δ h λ ds h1=>∃ i z kvs,ds=[.ref i]/\h1[i]?=some (.dT z kvs)/\Q (kvs.map λ kv=>L5 kv.1) h1
section
variable {X:Cx} {e:Expr} {es:List Expr} {n:Nat} {f:DA} {p pos:Pos}
end
end DL
namespace L2
open PySem PySem.Spec PyProof.Rows
section
variable {X:Cx} {pins:List (Addr×Obj)} {σ:St} {H:Hp} {s:Shared} {a b:Addr} {A:Around} {E:Value->Shared->Prop}
end
end L2
namespace L2
open PySem PySem.Spec PyProof.Rows
end L2
namespace DL
open PySem PySem.Spec L2
section
variable {X:Cx} {o e:Expr} {fd:DE} {fs:DA} {n:Nat} {apos cpos:Pos} {es:List Expr}
end
end DL
namespace SR
open PySem PyProof.Rows
section
variable {prog:Program} {w:World} {A:Around} {E:Value->Shared->Prop} {s:Shared} {a₀:List Keyed} {κ:SortKind}
def Of(a₀:List Keyed)(xs:Array Keyed):Prop:=∀ x ∈ xs,x ∈ a₀
theorem Of.ext{xs:Array Keyed}{i j:Nat}(h:Of a₀ xs):Of a₀ (xs.extract i j):=λ y hy=>by
 obtain ⟨k,hk,e⟩:=Array.mem_extract_iff_getElem.mp hy;exact h y (e ▸ Array.getElem_mem _)
section
variable {β γ:Type} {st:SortSt} {enc:Array Keyed->Nat->Nat->Nat->Nat->Nat->β} {RY RD:Array Keyed->Nat->Nat->Prop} {g i j z u v:Nat} {o:Array Keyed}
end
end
end SR
namespace SR
open PySem PyProof.Rows
section
variable {prog:Program} {w:World} {A:Around} {E:Value->Shared->Prop} {s:Shared} {a₀:List Keyed} {κ:SortKind} {N:Nat}
end
end SR
namespace SR
open PySem PyProof.Rows PySem.W
section
variable {prog:Program} {w:World} {A:Around} {E:Value->Shared->Prop} {s:Shared}
end
end SR
namespace SR
open PySem PyProof.Rows PySem.W
section
variable {prog:Program} {w:World} {A:Around} {E:Value->Shared->Prop} {s:Shared}
end
end SR
namespace L2
open PySem PySem.Spec PyProof.Rows
section
variable {X:Cx}
end
end L2
namespace DL
open PySem PySem.Spec L2
section
variable {X:Cx} {e:Expr} {es:List Expr} {n:Nat} {f:DA} {p pos:Pos}
end
end DL
namespace L2
open PySem PySem.Spec PyProof.Rows
section
variable {prog:Program} {w:World} {A:Around} {E:Value->Shared->Prop} {s:Shared}
end
section
variable {X:Cx}
end
end L2
namespace DL
open PySem PySem.Spec L2
def hI:Key->Int
 |.inl i=>hashInt i
 |.inr _=>0
def hashK(k:List Key):Int:=reduceHash (Builtin.Tuple.tupleHashOf (k.map hI))
def IKs(k:List Key):Prop:=∃ r:List Int,k=r.map Sum.inl
theorem hash_eq{P:Program}{w:World}{k:List Key}(h:IKs k):tupleKeyHash (j8 P w) k=hashK k:=by
 obtain ⟨r,rfl⟩:=h;unfold tupleKeyHash hashK;rw [Zd,Zd];rfl
section
variable {X:Cx} {e:Expr} {es:List Expr} {n:Nat} {f:DA} {p pos:Pos}
end
end DL
namespace L2
open PySem PySem.Spec PyProof.Rows
section
variable {P P':Program} {w w':World}
theorem a6r{ks:List Key}{vs:List Value}(h:ItemsAre (j8 P w) ks vs):ItemsAre (j8 P' w') ks vs:=by
 induction h with
 |nil=>exact .nil
 |cons h _ ih=>exact .cons h ih
theorem b3w{h:Heap}{ks:List Key}{a:Addr}(x:IsTupleKey (j8 P w) h ks a):IsTupleKey (j8 P' w') h ks a:=by
 obtain ⟨o,its,n,ho,hc,hd,hi⟩:=x;exact ⟨o,its,n,ho,hc,hd,a6r hi⟩
end
structure DT(h:Heap)(a:Addr)(xs:List (List Key×Addr×Value)):Prop where
 sys:(a == sysModules)=false
 at_:∃ o es ep,h.get? a=some o/\o.ExactDict/\o.data = .dict es ep/\∀ P w,es.toList=xs.map (entryOfKey (tupleKind (j8 P w)))
 keys:∀ P w,∀ x ∈ xs,IsTupleKey (j8 P w) h x.1 x.2.1
 nod:(xs.map (·.1)).Nodup
section
variable {A:Around} {s:Shared} {a b:Addr} {xs ys:List (List Key×Addr×Value)}
theorem a4l{prog:Program}{w:World}{E:Value->Shared->Prop}{nm:String}{Q:Bool->Shared->Prop}(hu:A.units < cLine)(ha:DT s.heap a xs)(hb:DT s.heap b ys)(hl:xs.length=ys.length)
  (he:∀ x ∈ xs,∃ y ∈ ys,y.1=x.1/\SeqAt.EqAt A s x.2.2 y.2.2 true) (h:Q true s):wpAny @I A (Builtin.Dict.samePairs nm a b) Q E s:=by
 obtain ⟨oa,es,ep,hoa,_,hda,ea⟩:=ha.at_;obtain ⟨ob,es',ep',hob,_,hdb,eb⟩:=hb.at_;have ea:=ea prog w;have eb:=eb prog w;have la:es.size=xs.length:=by rw [<- Array.length_toList,ea,ZS]
 have lb:es'.size=ys.length:=by rw [<- Array.length_toList,eb,ZS]
 have rm:(tupleKind (j8 prog w)).room A:=hu;unfold Builtin.Dict.samePairs Builtin.Dict.showsAll;rw [if_neg (show ¬ (a == sysModules)=true by rw [ha.sys];exact ZR),if_neg (show ¬ (b == sysModules)=true by rw [hb.sys];exact ZR)];refine wpAny_bind (wpAny_pure (wpAny_bind (wpAny_pure ?_)));refine wpAny_bind (wpAny_dictEntries hoa hda ?_);dsimp only;refine wpAny_bind (wpAny_dictEntries hob hdb ?_);rw [if_neg (by rw [la,lb,hl];simp)];refine wpAny_bind (wpAny_dictEpoch hoa hda ?_);rw [Std.Legacy.Range.forIn_eq_forIn_range'];simp only [Std.Legacy.Range.size,Nat.sub_zero,Nat.add_sub_cancel,Nat.div_one];refine wpAny_bind (wpAny_forIn_list _ (λ rest q s'=>s'=s/\q=(none,())/\∀ i ∈ rest,i < es.size) _ ?_ ?_ _ _ ⟨rfl,rfl,λ i hi=>by simpa using hi⟩)
 ·rintro i rest q s' ⟨rfl,rfl,hr⟩
  have hi:=hr i ZO;have hx:i < xs.length:=la ▸ hi;refine wpAny_bind (wpAny_dictEntries hoa hda ?_);have e1:es[i]?=some (entryOfKey (tupleKind (j8 prog w)) xs[i]):=by rw [<- Array.getElem?_toList,ea,ZP,ZZ hx];rfl
  rw [e1];obtain ⟨y,hy,ek,ev⟩:=he xs[i] (Zq hx);have hkey:(tupleKind (j8 prog w)).is s'.heap xs[i].1 xs[i].2.1:=ha.keys prog w _ (Zq hx);refine wpAny_bind (wpAny_holding (wpAny_bind (wpAny_dictFind_heap rm hkey hob hdb eb (hb.keys prog w) hb.nod ?_ ?_)))
  ·intro hno;obtain ⟨j,hj,rfl⟩:=YO.mp hy;exact absurd (by rw [ZZ hj,<- ek]) (hno j ys[j].2)
  ·intro j p hj
   have hp:p=y.2:=by
    obtain ⟨m,hm,rfl⟩:=YO.mp hy;obtain ⟨hj',ej⟩:=ZY.mp hj;have nd:=List.pairwise_iff_getElem.mp hb.nod
    have key:m=j:=by
     rcases Nat.lt_trichotomy m j with z | z | z
     ·exact (nd m j (by simpa using hm) (by simpa using hj') z (by rw [YT,YT,ej];exact ek)).elim
     ·exact z
     ·exact (nd j m (by simpa using hj') (by simpa using hm) z (by rw [YT,YT,ej];exact ek.symm)).elim
    subst key;rw [ej]
   refine wpAny_bind (wpAny_dictEntries hob hdb ?_);have e2:es'[j]?=some (entryOfKey (tupleKind (j8 prog w)) (xs[i].1,p)):=by rw [<- Array.getElem?_toList,eb,ZP,hj];rfl
   rw [e2,hp];refine wpAny_holding (ev prog w _ _ ?_);simp only [Bool.not_true,Bool.false_eq_true,if_false];refine wpAny_bind (wpAny_dictEpoch hoa hda ?_);rw [if_neg @N];exact wpAny_pure ⟨rfl,rfl,λ i hi=>hr i (ZM _ hi)⟩
 ·rintro q s' ⟨rfl,rfl,_⟩
  exact wpAny_pure h
end
section
variable {X:Cx} {pins:List (Addr×Obj)} {σ:St} {H:Hp} {s:Shared} {a b:Addr} {A:Around}
def b4t(kvs:List @As):Prop:=∀ p ∈ kvs,DL.IKs p.1/\∃ n,p.2=V.int n
theorem b0D(I:Inv X pins σ H s){kvs:List @As}(e:Rd H a @Ar)(hi:b4t kvs):∃ xs,DT s.heap a xs/\Paired (λ (p:List Key×V) (q:List Key×Addr×Value)=>p.1=q.1/\RelV p.2 q.2.2) kvs xs:=by
 obtain ⟨z,hd,ys,rel,o,es,ep,h1,h2,h3,h4,h5⟩:=(show ObjOk X.prog X.w H s.heap a @Ar from a7M I.hok e)
 have at_:∀ y ∈ ys,∃ p ∈ kvs,p.1=y.1/\H y.2.1=some (.tup (p.1.map kV)):=λ y hy=>by
  obtain ⟨i,hi,rfl⟩:=YO.mp hy;obtain ⟨p,e1,e0,e2,_⟩:=a0h rel (ZZ hi);exact ⟨p,ZT e1,e0,e2⟩
 refine ⟨ys,⟨hd,⟨o,es,ep,h1,h2,h3,λ P w=>?_⟩,λ P w y hy=>?_,h5⟩,Paired.mapP rel λ p q r=>⟨r.1,r.2.2⟩⟩
 ·rw [h4];refine Zg λ y hy=>?_;obtain ⟨p,hp,e0,_⟩:=at_ y hy;have hk:=(hi p hp).1;rw [e0] at hk;show DictEntry.mk _ _ _=DictEntry.mk _ _ _;rw [show (tupleKind (j8 X.prog X.w)).hash y.1=DL.hashK y.1 from DL.hash_eq hk,show (tupleKind (j8 P w)).hash y.1=DL.hashK y.1 from DL.hash_eq hk]
 ·obtain ⟨p,hp,e0,e2⟩:=at_ y hy
  have:=J3 I.hok e2
  rw [e0] at this;exact b3w this
end
end L2
namespace DL
open PySem PySem.Spec L2
def b4D(kvs:List @Al):Prop:=∀ kv ∈ kvs,IKs kv.1/\∃ n,kv.2 = .int n
end DL
namespace DL
open PySem PySem.Spec L2
def c4g(i j:Nat)(fs:DA):DS:=λ E δ h=>fs δ h λ ds h1=>∃ a b,ds=[a,b]/\E.nx ((δ.set i (some a)).set j (some b)) h1
end DL
namespace L2
open PySem PySem.Spec PyProof.Rows
section
variable {X:Cx}
theorem a6O(bs:List Bool):((List.range bs.length).any λ i=>(bs[i]?).getD true)=bs.any id:=by
 rw [Bool.eq_iff_iff,Zh,Zh]
 constructor
 ·rintro ⟨i,hi,h⟩
  have hi:=Zo.mp hi;rw [ZZ hi] at h;exact ⟨_,Zq hi,h⟩
 ·rintro ⟨x,hx,h⟩
  obtain ⟨i,hi,rfl⟩:=List.getElem_of_mem hx;exact ⟨i,Zo.mpr hi,by rw [ZZ hi];exact h⟩
theorem a0Q(hc:X.calm=true):CallR X (.builtin "any") (λ xs H Q=>∃ (l:Addr) (bs:List Bool),xs=[.ref l]/\SqL X.K H l (bs.map V.bl)/\Q (.bl (bs.any id)) H):=by
 show Aa;obtain ⟨l,bs,rfl,hq,q⟩:=h;obtain ⟨u,rfl,ru⟩:=T3 r;cases ru;obtain ⟨its,rv,p,hz⟩:=I.list hq;have e:=a0t rv;subst e;have hlt:l < s.heap.objs.size:=let ⟨_,e,_⟩:=p.isList;ZE e
 refine call_any_walk (wpAny_pyIter_list p.isList ⟨s.heap.objs.size,[s.heap.objs.size,l],[s.heap.objs.size],(bs.map Value.bool).toArray.size,_,_,λ i=>(bs[i]?).getD true,rfl,Walks.list (A:=X.A.in1) (I.ok.hd hc) _ l (Zp hlt) _,⟨⟨_,ZI _ rfl,rfl,rfl⟩,p.isList.push _⟩,λ i v s' Q' E' hP hQ=>?_,λ h' tk hk=>?_⟩)
 ·have hP:(bs.map Value.bool)[i]?=some v:=by simpa using hP
  rw [ZP] at hP
  cases e:bs[i]? with
  |none=>rw [e] at hP;cases hP
  |some b =>
   rw [e] at hP;cases hP;have hQ:Q' ((bs[i]?).getD true) s':=hQ;rw [e] at hQ;exact wpAny_truthy_bool hQ
 ·have e:((List.range (bs.map Value.bool).toArray.size).any λ i=>(bs[i]?).getD true)=bs.any id:=by
   rw [ZF,ZS];exact a6O bs
  rw [e];refine ⟨.bl (bs.any id),H,I.kept (t':=tk) (λ b o q=>hk b o (λ z=>?_) (ZU _ q)),rfl,q⟩;rw [ZX.mp z] at q;exact Ze _ (ZE q)
theorem a7g{A:Around}{s:Shared}{a b:Addr}{xs ys:List @AQ}{prog:Program}{w:World}{E:Value->Shared->Prop}{Q:Value->Shared->Prop}(hu:A.units + 1 < cLine)(ha:DT s.heap a xs)(hb:DT s.heap b ys)(hl:xs.length=ys.length)(he:∀ x ∈ xs,∃ y ∈ ys,y.1=x.1/\SeqAt.EqAt A.in1 s x.2.2 y.2.2 true)(h:Q (.bool false) s):wpAny @I A (compareOp .NotEq @Ax (.ref b)) Q E s:=by
 obtain ⟨oa,_,_,hoa,hxa,_⟩:=ha.at_;obtain ⟨ob,_,_,hob,hxb,_⟩:=hb.at_;have ta:s.TypeIs @Ax "dict":=⟨oa,hoa,hxa.1⟩
 have tb:s.TypeIs (.ref b) "dict":=⟨ob,hob,hxb.1⟩
 refine wpAny_richCompare_same_room (op:=.NotEq) ta tb PySem.F.slot_dict_ne (wpAny_call_entry PySem.F.slot_dict_ne ta PySem.F.entry_dict_ne ?_ (PySem.F.args_dict_ne_2 _ _)) (Nat.lt_of_succ_lt hu);show Q;unfold Builtin.Dict.dictSlotArgs;refine wpAny_bind (wpAny_notOrdered_dict ta ?_);show wpAny _ _ (pure (Value.ref a,Value.ref b)) _ _ s;refine wpAny_pure ?_;refine wpAny_bind (wpAny_isInstance (T:= "dict") tb PySem.F.sub_dict_dict ?_);simp only [Bool.not_true,Bool.false_eq_true,if_false];refine wpAny_bind (wpAny_pure (wpAny_bind (wpAny_pure ?_)));refine wpAny_bind (a4l (show A.in1.units < cLine from hu) ha hb hl he ?_);exact wpAny_pure ⟨_,rfl,(λ x=>nomatch x),h⟩
theorem b0N(hu:X.A.units + 64 < cLine):OpR X (compareOp .NotEq) (λ x y H Q=>∃ a b us vs,x = .ref a/\y = .ref b/\Rd H a (.dT us)/\Rd H b (.dT vs)/\b4t us/\b4t vs/\us.length=vs.length/\(∀ p ∈ us,p ∈ vs)/\Q (.bl false) H):=by
 show O;obtain ⟨a,b,us,vs,rfl,rfl,d1,d2,i1,i2,hl,hm,q⟩:=h;cases rx;cases ry;obtain ⟨xs,e1,r1⟩:=b0D I d1 i1;obtain ⟨ys,e2,r2⟩:=b0D I d2 i2;refine a7g @D e1 e2 (by rw [<- Paired.length r1,<- Paired.length r2];exact hl) (λ x hx=>?_) ⟨.bl false,H,I,rfl,q⟩;obtain ⟨i,hix,rfl⟩:=YO.mp hx;obtain ⟨p,p1,p2,p3⟩:=a0h r1 (ZZ hix);obtain ⟨j,hj,ej⟩:=YO.mp (hm p (ZT p1));have hjy:j < ys.length:=by rw [<- Paired.length r2];exact hj
 obtain ⟨q,q1,q2,q3⟩:=a0h r2 (ZZ hjy);rw [ZZ hj] at q1
 have:=(Option.some.inj q1).symm.trans ej
 subst this;obtain ⟨n,en⟩:=(i1 q (ZT p1)).2;rw [en] at p3 q3;obtain ⟨t,et⟩:=p3;obtain ⟨u,eu⟩:=q3;refine ⟨ys[j],Zq hjy,q2.symm.trans p2,?_⟩;rw [et,eu]
 have:=SeqAt.EqAt.int_int (A:=X.A.in1) (s:=s) n t n u
 rwa [beq_self_eq_true] at this
end
end L2
namespace DL
open PySem PySem.Spec L2
def c0X:PN:=λ ds h Q=>∃ (d:D) (bs:List Bool),ds=[d]/\A6 h d=some (bs.map D.bl)/\Q (.bl (bs.any λ b=>b)) h
theorem b7w{X:Cx}(hc:X.calm=true):CallR X (.builtin "any") (rN X.K c0X):=CallR.imp (a0Q hc) λ xs H Q zz0=>by
 show Ac;obtain ⟨d,ns,rfl,w,f⟩:=f;obtain ⟨v,rfl,rd⟩:=rs.inv1;obtain ⟨p,us,rfl,b,c⟩:=M9 R rd w
 cases c.bls_inv
 exact ⟨p,ns,rfl,b,k _ h α H _ f @W R (.bl _)⟩
def a7I:P2:=λ x y h Q=>∃ i j z1 z2 kvs kws,x = .ref i/\y = .ref j/\h[i]?=some (.dT z1 kvs)/\h[j]?=some (.dT z2 kws)/\b4D kvs/\b4D kws/\kvs.length=kws.length/\(∀ kv ∈ kvs,kv ∈ kws)/\Q (.bl false) h
def vI:D->V | .int n=>.int n | _=>.non
theorem RelKV.intm{K:KP}{α:List Addr}{H:Hp}{kvs:List @Al}{us:List @As}(h:b4D kvs)(a:RelKV K α H kvs us):us=kvs.map (λ x=>(x.1,vI x.2))/\b4t us:=by
 induction a with
 |nil=>exact ⟨rfl,λ p hp=>(nomatch hp)⟩
 |@cons k d u ds us r1 t1 ih =>
  obtain ⟨e,i⟩:=ih (λ kv hkv=>h kv (ZM _ hkv));obtain ⟨h1,n,h2⟩:=h (k,d) ZO;dsimp only at h1 h2;subst h2;cases r1;refine ⟨by rw [e];rfl,λ p hp=>?_⟩
  rcases List.mem_cons.mp hp with rfl | hp
  ·exact ⟨h1,n,rfl⟩
  ·exact i p hp
theorem b1u{X:Cx}(hu:X.A.units + 64 < cLine):OpR X (compareOp .NotEq) (r2 X.K a7I):=OpR.imp (b0N hu) λ x y H Q ⟨π,α,h,d,e,Q',R,r1,r2,f,k⟩=>by
 obtain ⟨i,j,z1,z2,kvs,kws,rfl,rfl,e1,e2,n1,n2,hl,hm,q⟩:=f
 cases r1 with | ref p1=>cases r2 with | ref p2 =>
 obtain ⟨us1,rd1,rel1⟩:=R.rdT p1 e1;obtain ⟨us2,rd2,rel2⟩:=R.rdT p2 e2;obtain ⟨q1,i1⟩:=rel1.intm n1;obtain ⟨q2,i2⟩:=rel2.intm n2;refine ⟨_,_,us1,us2,rfl,rfl,rd1,rd2,i1,i2,by rw [q1,q2,ZS,ZS];exact hl,λ p hp=>?_,k _ h α H _ q @W R (.bl false)⟩;rw [q1] at hp;obtain ⟨kv,hkv,rfl⟩:=ZG.mp hp;rw [q2];exact ZG.mpr ⟨kv,hm kv hkv,rfl⟩
end DL
namespace L2
open PySem PySem.Spec PyProof.Rows
section
variable {prog:Program} {w:World} {A:Around} {E:Value->Shared->Prop} {s:Shared}
theorem a3w{d:Addr}{Q:Value->Shared->Prop}(hd:(d == sysModules)=false)(hT:s.TypeIs (.ref d) "dict")(hQ:Q @Aj { s with heap:=s.heap.push { cls:=.type "dict_values",data:=.fields #[.ref d] } }) :
  wpAny @I A (call (.builtin "dict.values") [.ref d]) Q E s:=by
 refine wpAny_call_entry F.slot_dict_values hT F.entry_dict_values ?_ (F.args_dict_values_1 _);unfold Builtin.«dict.values»;show Q;unfold Builtin.Dict.noArgs;refine wpAny_bind (wpAny_notOrdered_dict hT ?_);show wpAny _ _ (pure d) _ _ s;refine wpAny_pure ?_;show wpAny _ _ (Builtin.Dict.showsAll d >>= _) _ _ s;unfold Builtin.Dict.showsAll;rw [if_neg (by rw [hd];exact ZR)];show P;exact wpAny_bind (wpAny_newObj_type (wpAny_pure ⟨_,rfl,hQ⟩))
theorem a3E{v d:Addr}{o:Obj}{es:Array DictEntry}{ep:Nat}{Q:Value->Shared->Prop}(hv:s.heap.IsValuesView v d)(ho:s.heap.get? d=some o)(hdat:o.data = .dict es ep)
  (hQ:Q @Aj { s with heap:=s.heap.push { cls:=.type "dict_valueiterator",data:=.fields #[.ref d,.int 0 0,.int es.size 0,.int ep 0] } }) :
  wpAny @I A (pyIter (.ref v)) Q E s:=by
 obtain ⟨ov,hov,hcv,hdv⟩:=id hv;refine wpAny_pyIter_slot hv.typeIs F.slot_dict_values_iter (wpAny_call_entry F.slot_dict_values_iter hv.typeIs F.entry_dict_values_iter ?_ (F.args_dict_values_iter_1 _));unfold Builtin.«dict_values.__iter__»;show P;show Q;unfold Builtin.Dict_items.dictOf;refine wpAny_bind (wpAny_field hov hdv (x:=.ref d) rfl (wpAny_pure ?_));show Q;unfold Builtin.Dict_items.newIterator;refine wpAny_bind (wpAny_dictEntries ho hdat ?_);refine wpAny_bind (wpAny_dictEpoch ho hdat ?_);have hown:Builtin.Dict_items.ownsTuple "dict_valueiterator" = false:=by decide
 simp only [hown,Bool.false_eq_true,if_false];refine wpAny_newObj_type (wpAny_pure ⟨_,rfl,"dict_valueiterator",_,⟨_,ZI _ rfl,rfl⟩,F.slot_dict_valueiterator_next.lookup,?_⟩)
 simpa [rawInt] using hQ
theorem W7{it d:Addr}{i ep:Nat}{od:Obj}{es:Array DictEntry}{Q:Option Value->Shared->Prop}(hit:s.heap.IsValIter it d i es.size ep)(hod:s.heap.get? d=some od)(hdd:od.data = .dict es ep)(hlt:i < es.size)
  (hQ:∀ h',h'.IsValIter it d (i + 1) es.size ep->Heap.SameBut it s.heap h'->Q (some es[i].val) { s with heap:=h' }) :
  wpAny @I A (pyNext @AC) Q E s:=by
 obtain ⟨o,ho,hc,hd⟩:=id hit;unfold pyNext
 refine wpAny_bind (wpAny_attempt (wpAny_callSpecial?_slot (name:=Str.ofString "__next__") hit.typeIs F.slot_dict_valueiterator_next
  (wpAny_call_entry F.slot_dict_valueiterator_next hit.typeIs F.entry_dict_valueiterator_next ?_ (F.args_dict_valueiterator_next_1 _))))
 show P;show Q;show Q
 first | refine wpAny_bind (wpAny_typeNameOfWhole_valiter hit.typeIs (wpAny_pure ?_)) | refine wpAny_bind (wpAny_typeNameOf_valiter hit.typeIs (wpAny_pure ?_))
 refine wpAny_bind (wpAny_fieldsOf ho hd ?_);have hown:Builtin.Dict_items.ownsTuple "dict_valueiterator" = false:=by decide
 simp only [hown,Bool.false_eq_true,if_false];show wpAny _ _ (if (Value.ref d == Value.none)=true then _ else _) _ _ s;show G;refine wpAny_pure ?_;simp only [show ¬ ((i:Int) < 0) from by omega,if_false,Int.toNat_natCast,Array.getElem?_eq_getElem hlt];show Q
 first | refine wpAny_bind (wpAny_typeNameOfWhole_valiter hit.typeIs (wpAny_pure ?_)) | refine wpAny_bind (wpAny_typeNameOf_valiter hit.typeIs (wpAny_pure ?_))
 refine wpAny_bind (wpAny_isOneOf_valiter hit.typeIs ?_);show wpAny _ _ (setField @AC 1 (rawInt ((i:Int) + 1)) >>= _) _ _ s;refine wpAny_bind (wpAny_setField ho hd @N ?_)
 have hit':(s.heap.update it (Obj.mapFields (·.setIfInBounds 1 (rawInt ((i:Int) + 1))))).IsValIter it d (i + 1) es.size ep :=
  ⟨_,Heap.get?_update_self _ ho (Obj.isFreed_of_fields (Obj.data_mapFields hd _)),(Obj.cls_mapFields ..).trans hc,by rw [Obj.data_mapFields hd];simp [rawInt]⟩
 refine wpAny_bind (wpAny_holding ?_);refine wpAny_bind (wpAny_isOneOf_valiter (s:={ s with heap:=s.heap.update it (Obj.mapFields (·.setIfInBounds 1 (rawInt ((i:Int) + 1)))) }) hit'.typeIs ?_);refine wpAny_bind (wpAny_isOneOf_valiter (s:={ s with heap:=s.heap.update it (Obj.mapFields (·.setIfInBounds 1 (rawInt ((i:Int) + 1)))) }) hit'.typeIs ?_);show wpAny _ _ (pure es[i].val) _ _ _;exact wpAny_pure (wpAny_pure ⟨_,rfl,wpAny_pure (hQ _ hit' (Heap.SameBut.update ..))⟩)
theorem Z5{it d:Addr}{i ep:Nat}{od:Obj}{es:Array DictEntry}{Q:Option Value->Shared->Prop}(hh:A.handled=none)(hit:s.heap.IsValIter it d i es.size ep)(hod:s.heap.get? d=some od)(hdd:od.data = .dict es ep)(hge:es.size <= i)
  (hQ:∀ h',Heap.ExtBut it s.heap h'->Q none { s with heap:=h' }):wpAny @I A (pyNext @AC) Q E s:=by
 obtain ⟨o,ho,hc,hd⟩:=id hit;unfold pyNext
 refine wpAny_bind (wpAny_attempt (wpAny_callSpecial?_slot (name:=Str.ofString "__next__") hit.typeIs F.slot_dict_valueiterator_next
  (wpAny_call_entry F.slot_dict_valueiterator_next hit.typeIs F.entry_dict_valueiterator_next ?_ (F.args_dict_valueiterator_next_1 _))))
 show P;show Q;show Q
 first | refine wpAny_bind (wpAny_typeNameOfWhole_valiter hit.typeIs (wpAny_pure ?_)) | refine wpAny_bind (wpAny_typeNameOf_valiter hit.typeIs (wpAny_pure ?_))
 refine wpAny_bind (wpAny_fieldsOf ho hd ?_);have hown:Builtin.Dict_items.ownsTuple "dict_valueiterator" = false:=by decide
 simp only [hown,Bool.false_eq_true,if_false];show wpAny _ _ (if (Value.ref d == Value.none)=true then _ else _) _ _ s;show G;refine wpAny_pure ?_;simp only [show ¬ ((i:Int) < 0) from by omega,if_false,Int.toNat_natCast,Array.getElem?_eq_none hge];show Q
 first | refine wpAny_bind (wpAny_typeNameOfWhole_valiter hit.typeIs (wpAny_pure ?_)) | refine wpAny_bind (wpAny_typeNameOf_valiter hit.typeIs (wpAny_pure ?_))
 show wpAny _ _ (setField @AC 0 .none >>= _) _ _ s;refine wpAny_bind (wpAny_setField ho hd @N ?_);show I;refine wpAny_bind (wpAny_handled ?_);rw [show A.in1.handled=none from hh];refine wpAny_bind (wpAny_pure (wpAny_throw ?_));refine wpAny_bind (wpAny_isInstance (T:= "StopIteration") (b:=true) ⟨_,ZI _ rfl,rfl⟩ isSubtype_stop ?_);exact wpAny_pure (hQ _ (((Heap.SameBut.update ..).extBut.push _).push _))
end
def b3J(a:Addr)(o:Obj)(ks:List (List Key)):It :=
 ⟨(Itk a o ks).go,λ i H x H'=>∃ us p,x=p.2/\H'=H/\H a=some (.frz o (.dT us))/\us[i]?=some p,(Itk a o ks).stop⟩
theorem a3W{P:Program}{w:World}{K:PySem.W.Frag}{tg:Expr}(a it:Addr){o:Obj}{es:Array DictEntry}{ep:Nat}(ks:List (List Key))(hd:o.data = .dict es ep) :
  a2z P w K tg (b3J a o ks) [it] it (λ i h=>h.IsValIter it a i es.size ep) where
 mem:=by simp
 obj:=λ i h st b hb=>by
  have e:b=it:=by simpa using hb
  subst e;obtain ⟨ob,e,c,d⟩:=st;exact ⟨ob,e,λ v z=>by rw [d] at z;cases z⟩
 keep:=λ i h h' st k=>let ⟨ob,e,r⟩:=st;⟨ob,k it @N ob e,r⟩
 item:=by
  show K;obtain ⟨⟨us,hH,rfl⟩,hi⟩:=hg;obtain ⟨ho,hs,hk⟩:=a0b hd I.hok hH;rw [ZS] at hi;have hlt:i < es.size:=by omega
  obtain ⟨b,p,e1,e2,e3,e4⟩:=hk i hlt;obtain ⟨f0,f1,f2,f3,f4,f5⟩:=hf it @N;refine W7 st ho hd hlt λ h' st' sb=>?_;have I1:Inv X pins σ H { s with heap:=h' }:=I.turned (t':=s.toks) (λ b o hb e=>(sb.2 b hb).trans e) f0 f1 f3 f4 f5;exact ⟨_,rfl,letGo_valiter st' ⟨p.2,H,I1,e4,⟨us,p,rfl,rfl,hH,e1⟩,st',λ b hb=>(hf b hb).1⟩⟩
 done:=by
  show K;obtain ⟨⟨us,hH,rfl⟩,hi⟩:=hg;obtain ⟨ho,hs,hk⟩:=a0b hd I.hok hH;rw [ZS] at hi;obtain ⟨f0,f1,f2,f3,f4,f5⟩:=hf it @N;exact Z5 (I.ok.hd hc) st ho hd @D λ h' eb=>⟨rfl,I.turned (t':=s.toks) (λ b o hb e=>eb b o hb e) f0 f1 f3 f4 f5⟩
 self:=λ A i s Q E st h=>wpAny_pyIter_valiter st h
def vviewOf(v a:Addr)(h:Heap):Prop:=h.IsValuesView v a
section
variable {X:Cx} {tg:Expr}
theorem a6I:MtR X "dict.values" (λ x vs H Q=>∃ a kvs,x = .ref a/\vs=[]/\H a=some @Ar/\∀ v,H v=none->Q (.ref v) (upd H v (.ext (vviewOf v a)))):=by
 intro pins s σ H x xs v us Q I rx r h;obtain ⟨a,kvs,rfl,rfl,hH,q⟩:=h;cases rx;cases r;obtain ⟨z,hd,ys,rel,o,es,ep,h1,h2,h3,h4,h5⟩:=(show ObjOk X.prog X.w H s.heap a @Ar from I.hok a _ hH)
 refine a3w hd ⟨o,h1,h2.1⟩ ?_;exact ⟨.ref s.heap.objs.size,_,I.laid (t':=s.toks) (λ b u q=>ZU _ q) @G (show ObjOk X.prog X.w _ _ _ (.ext (vviewOf s.heap.objs.size a)) from ⟨⟨_,ZI _ rfl,rfl,rfl⟩,⟨_,ZI _ rfl⟩,λ _ _ p k=>by obtain ⟨o,z,r⟩:=p;exact ⟨o,k _ z,r⟩⟩),rfl,q _ (I.hok.fresh @G)⟩
def b3U(tl:TE):TI:=λ σ H R=>tl σ H λ x H1=>∃ a kvs,x = .ref a/\H1 a=some @Ar/\∀ v,H1 v=none->∀ o,R (b3J a o (kvs.map (·.1))) (upd (upd H1 v (.ext (vviewOf v a))) a (.frz o @Ar))
theorem a6x{l:Expr}{tl:TE}{apos cpos:Pos}(hl:PE X l tl)(hbase:attributeBase l "values" X.env (eval l X.env)=eval l X.env:=by rfl)(hline:@Aq=true:=by rfl) :
  PI X tg (.Call (.Attribute l "values" apos) [] [] cpos) (b3U tl):=by
 intro pins s σ H R I h
 have w:=a2h (X:=X) (o:=l) (to:=λ σ H Q=>∃ Q0:VK,tl σ H Q0/\∀ x H1,Q0 x H1->Q x H1) PySem.F.plainAttrs_dict PySem.F.slot_dict_values PySem.F.type_dict_values a6I (by
  show J;obtain ⟨Q0,h,k⟩:=h;refine thn (hl pins s σ H _ I h) λ v s1 z=>?_;obtain ⟨x,H1,I1,r1,q⟩:=z;exact ⟨x,H1,I1,r1,k _ _ q⟩) hbase hline pins s σ H (λ y H2=>∃ a v H1 kvs,y = .ref v/\H1 v=none/\H1 a=some @Ar/\H2=upd H1 v (.ext (vviewOf v a))/\∀ o,R (b3J a o (kvs.map (·.1))) (upd H2 a (.frz o @Ar))) I ?_
 ·refine thn w λ v s1 z=>?_;obtain ⟨y,H2,I2,r2,a,v',H1,kvs,rfl,hv,hH,rfl,q⟩:=z;cases r2;have hva:a ≠ v':=λ z=>by rw [z,hv] at hH;cases hH
  have hH2:upd H1 v' (.ext (vviewOf v' a)) a=some @Ar:=by rw [k9 hva];exact hH
  obtain ⟨hvw,_,_⟩:=(show ObjOk X.prog X.w _ s1.heap v' (.ext (vviewOf v' a)) from I2.hok v' _ j3)
  obtain ⟨z,hd,xs,rel,o,es,ep,h1,h2,h3,h4,h5⟩:=(show ObjOk X.prog X.w _ s1.heap a @Ar from I2.hok a _ hH2)
  refine a3E hvw h1 h3 ?_;generalize upd H1 v' (.ext (vviewOf v' a))=H2 at I2 hH2 rel q;have hne:∀ b ys,H2 b=some (.tup ys)->(upd H2 a (.frz o @Ar)) b=some (.tup ys):=λ b ys eb=>by rw [k9 (a5B eb hH2 (λ z=>nomatch z))];exact eb
  have I3:=I2.write (x:=a) (e:=a) (o:=.frz o @Ar) (t':=s1.toks) (h':=s1.heap.push { cls:=.type "dict_valueiterator",data:=.fields #[.ref a,.int 0 0,.int es.size 0,.int ep 0] }) (by rw [hH2];exact True.intro) (.inl rfl) (λ b u _ q=>ZU _ q) ⟨_,ZU _ h1⟩
   ⟨Heap.get?_push_of_some _ h1,z,hd,xs,KT.keeps rel hne,o,es,ep,ZU _ h1,h2,h3,h4,h5⟩
  refine ⟨s1.heap.objs.size,[s1.heap.objs.size],_,_,_,rfl,I3,a3W a _ (kvs.map (·.1)) h3,⟨_,ZI _ rfl,rfl,rfl⟩,λ b hb=>?_,q o⟩;have e:b=s1.heap.objs.size:=by simpa using hb
  subst e;have hne2:s1.heap.objs.size ≠ a:=Nat.ne_of_gt (ZE h1);exact I2.fpOk @G (by rw [k9 hne2];exact I2.hok.fresh @G)
 ·refine ⟨_,h,λ x H1 z=>?_⟩;obtain ⟨a,kvs,rfl,hH,q⟩:=z;exact ⟨.inr (.inr (.inl ⟨rfl,.inr ⟨kvs,hH⟩⟩)),a,kvs,rfl,rfl,hH,λ v hv=>⟨a,v,H1,kvs,rfl,hv,hH,rfl,λ o=>q v hv o⟩⟩
end
end L2
namespace DL
open PySem PySem.Spec L2
def b0M(f:DE):DI:=λ δ h Q=>f δ h λ d h1=>match d with
 |.ref i=>match h1[i]? with
  |some (.dT none kvs)=>∀ o,Q ⟨kvs.map (·.2),[(i,.dT (some o) kvs)]⟩ (h1.set i (.dT (some o) kvs))
  |_=>False
 |_=>False
theorem a6W{K:PySem.W.Frag}{π α:List Addr}{H:Hp}{i:Nat}{a:Addr}{o:Obj}{kvs:List @Al}(hp:α[i]?=some a):ItA K π α H (b3J a o (kvs.map (·.1))) ⟨kvs.map (·.2),[(i,.dT (some o) kvs)]⟩:=λ π' sub=>by
 refine ⟨λ α _=>α[i]?=some a,⟨λ α H α' H' st e=>e.get st,λ α H H' D st _ _=>st,λ α H h j d R st ok hj=>?_,λ α H h R st ok=>?_⟩,hp⟩
 ·have hh:h[i]?=some (.dT (some o) kvs):=ok (i,.dT (some o) kvs) ZO;show Ao;have hj:(kvs.map (·.2))[j]?=some d:=hj;rw [ZP] at hj
  cases q:kvs[j]? with
  |none=>rw [q] at hj;cases hj
  |some kv =>
   rw [q] at hj;cases hj;refine ⟨⟨⟨us,e2,e3.keys⟩,by rw [ZS];exact (ZY.mp q).1⟩,λ x H' y=>?_⟩;obtain ⟨us',pr,rfl,rfl,h4,h5⟩:=y;have e2:H' a=some (.frz o (.dT us)):=e2;rw [e2] at h4;cases h4;obtain ⟨dd,g1,g2⟩:=e3.get h5;rw [q] at g1;cases g1;exact ⟨Ext.refl ..,R,g2⟩
 ·have hh:h[i]?=some (.dT (some o) kvs):=ok (i,.dT (some o) kvs) ZO;show Ao;exact ⟨⟨us,e2,e3.keys⟩,by rw [ZS];show kvs.length <= (kvs.map (·.2)).length;rw [ZS];exact ZV _⟩
section
variable {X:Cx} {tg:Expr}
theorem a7h{l:Expr}{f:DE}{apos cpos:Pos}(hl:SE X l f)(hbase:attributeBase l "values" X.env (eval l X.env)=eval l X.env:=by rfl)(hline:@Aq=true:=by rfl) :
  SI X tg (.Call (.Attribute l "values" apos) [] [] cpos) (b0M f):=PI.imp (a6x hl hbase hline) λ σ H Q zz0=>by
 show H;show F
 cases q1 with
 |@ref i a hp =>
  dsimp only at f1
  cases q:h1[i]? with
  |none=>rw [q] at f1;exact f1.elim
  |some ob =>
   rw [q] at f1
   cases ob with
   |dT z kvs =>
    cases z with
    |some o=>exact f1.elim
    |none =>
     obtain ⟨p,us,e2,e3,e4⟩:=R1.dT q;rw [hp] at e2;cases e2;have e3:H1 a=some (.dT us):=e3;refine ⟨a,us,rfl,e3,λ v hv o=>?_⟩;have ev:Ext α1 H1 α1 (upd H1 v (.ext (vviewOf v a))):=Ext.new hv;have Rv:HRel ⟨X.K,π⟩ α1 (upd H1 v (.ext (vviewOf v a))) h1:=R1.new hv;have e:Ext α1 (upd H1 v (.ext (vviewOf v a))) α1 (upd (upd H1 v (.ext (vviewOf v a))) a (.frz o (.dT us))):=Ext.write (ZT hp);rw [e4.keys];refine k _ _ α1 _ _ (f1 o) (e1.trans (ev.trans e)) (Rv.write hp (.dT (z:=some o) j3 ((e4.mono ev).mono e))) (a6W hp) λ p hp'=>?_;rw [ZX.mp hp',ZH (ZY.mp q).1]
   |_=>exact f1.elim
 |_=>exact f1.elim
end
end DL
namespace CM
open PySem L2 DL
abbrev Kt:=List Nat
abbrev Ct:=List (Kt×Nat)
def kN(k:Kt):List Key:=k.map λ n:Nat=>.inl (n:Int)
def tbD(m:Ct):List @Al:=m.map λ x=>(kN x.1,nD x.2)
def tkD(k:Kt):D:=.tup (k.map nD)
def pkD(x:Kt×Nat):D:=.tup [tkD x.1,nD x.2]
def look(m:Ct)(k:Kt):Option Nat:=(m.find? λ x=>decide (x.1=k)).map (·.2)
def y3(m:Ct)(k:Kt)(v:Nat):Ct:=if (m.any λ x=>decide (x.1=k))=true then m.map (λ x=>if x.1=k then (x.1,v) else x) else m ++ [(k,v)]
theorem T1(k:Kt):L5 (kN k)=tkD k:=by unfold L5 kN tkD;rw [Zd];rfl
theorem a2A:∀ {a b:Kt},kN a=kN b->a=b
 |[],[],_=>rfl
 |[],_ :: _,h=>nomatch h
 |_ :: _,[],h=>nomatch h
 |x :: a,y :: b,h=>by
  have h:(Sum.inl (x:Int):Key) :: kN a=Sum.inl (y:Int) :: kN b:=h
  injection h with h1 h2
  injection h1 with h1
  rw [Int.ofNat.inj h1,a2A h2]
theorem b7U{a b:Kt}:kN a=kN b ↔ a=b:=⟨a2A,λ h=>by rw [h]⟩
theorem a8Y(a b:Kt):decide (kN a=kN b)=decide (a=b):=decide_eq_decide.mpr b7U
theorem b8L(m:Ct)(k:Kt):C7 (tbD m) (kN k)=(look m k).map nD:=by
 unfold C7 tbD look;rw [List.find?_map,Option.map_map,Option.map_map]
 have:((λ kv:List Key×D=>decide (kv.1=kN k)) ∘ λ x:Kt×Nat=>(kN x.1,nD x.2))=λ x=>decide (x.1=k):=by funext x;exact a8Y _ _
 rw [this];rfl
theorem b6U(m:Ct)(k:Kt)(v:Nat):M7 (tbD m) (kN k) (nD v)=tbD (y3 m k v):=by
 unfold M7 tbD y3;rw [List.any_map]
 have:((λ kv:List Key×D=>decide (kv.1=kN k)) ∘ λ x:Kt×Nat=>(kN x.1,nD x.2))=λ x=>decide (x.1=k):=by funext x;exact a8Y _ _
 rw [this]
 by_cases c:(m.any λ x=>decide (x.1=k))=true
 ·rw [if_pos c,if_pos c,Zd,Zd]
  congr 1;funext x
  show (if kN x.1=kN k then (kN x.1,nD v) else (kN x.1,nD x.2))=_
  by_cases e:x.1=k
  ·rw [if_pos (by rw [e])];show _=(λ x:Kt×Nat=>(kN x.1,nD x.2)) (if x.1=k then (x.1,v) else x);rw [if_pos e]
  ·rw [if_neg λ z=>e (a2A z)];show _=(λ x:Kt×Nat=>(kN x.1,nD x.2)) (if x.1=k then (x.1,v) else x);rw [if_neg e]
 ·rw [if_neg c,if_neg c,Zz];rfl
theorem a4N(m:Ct):(tbD m).length=m.length:=ZS ..
theorem P4{h:Hh}{i:Nat}{z:Option Obj}{m:Ct}{k:Kt}{Q:Option D->Prop}(e:h[i]?=some (.dT z (tbD m)))(q:Q ((look m k).map nD)):DL.getD (.ref i) (tkD k) h Q:=by
 show (match h[i]? with | some (.dT _ kvs)=>∃ ks,tkD k=L5 ks/\Q (C7 kvs ks) | _=>False);rw [e];exact ⟨kN k,(T1 k).symm,by rw [b8L];exact q⟩
theorem a0l{h:Hh}{i:Nat}{z:Option Obj}{m:Ct}(e:h[i]?=some (.dT z (tbD m))):a9k (.ref i) h:=⟨i,z,_,rfl,e⟩
theorem N7{h:Hh}{i:Nat}{m:Ct}{k:Kt}{v:Nat}{Q:Hh->Prop}(e:h[i]?=some (.dT none (tbD m)))(hl:m.length < 16777216)(q:Q (h.set i (.dT none (tbD (y3 m k v))))):b5c (.ref i) (tkD k) (nD v) h Q:=by
 show (match h[i]? with | some (.dT none kvs)=>∃ ks,tkD k=L5 ks/\kvs.length < 16777216/\Q (h.set i (.dT none (M7 kvs ks (nD v)))) | _=>False);rw [e];exact ⟨kN k,(T1 k).symm,by rw [a4N];exact hl,by rw [b6U];exact q⟩
def keys(m:Ct):List Kt:=m.map (·.1)
theorem v9(x:Kt×Nat)(m:Ct)(k:Kt):look (x :: m) k=if x.1=k then some x.2 else look m k:=by
 unfold look;rw [List.find?_cons]
 by_cases e:x.1=k
 ·rw [decide_eq_true e,if_pos e];rfl
 ·rw [decide_eq_false e,if_neg e]
theorem a8v{m:Ct}{k:Kt}{c:Nat}(h:look m k=some c):(k,c) ∈ m:=by
 induction m with
 |nil=>cases h
 |cons x m ih =>
  rw [v9] at h
  by_cases e:x.1=k
  ·rw [if_pos e] at h;cases h;subst e;exact ZO
  ·rw [if_neg e] at h;exact ZM _ (ih h)
theorem look_key{m:Ct}{k:Kt}:k ∈ keys m ↔ ∃ c,look m k=some c:=by
 constructor
 ·intro h
  induction m with
  |nil=>cases h
  |cons x m ih =>
   rw [v9]
   by_cases e:x.1=k
   ·rw [if_pos e];exact ⟨_,rfl⟩
   ·rw [if_neg e]
    rcases List.mem_cons.mp h with z | z
    ·exact absurd z.symm e
    ·exact ih z
 ·rintro ⟨c,h⟩;exact ZG.mpr ⟨_,a8v h,rfl⟩
theorem b0S(m:Ct)(k k':Kt)(v:Nat):look (m ++ [(k,v)]) k'=(look m k').or (if k=k' then some v else none):=by
 induction m with
 |nil=>rw [Zj,v9];rfl
 |cons x m ih =>
  rw [List.cons_append,v9,v9]
  by_cases e:x.1=k'
  ·rw [if_pos e,if_pos e];rfl
  ·rw [if_neg e,if_neg e];exact ih
theorem any_key{m:Ct}{k:Kt}:(m.any λ x=>decide (x.1=k))=true ↔ k ∈ keys m:=by
 rw [Zh]
 constructor
 ·rintro ⟨x,h,e⟩;exact ZG.mpr ⟨x,h,of_decide_eq_true e⟩
 ·intro h;obtain ⟨x,h,e⟩:=ZG.mp h;exact ⟨x,h,decide_eq_true e⟩
theorem a3i(k k':Kt)(v:Nat):∀ m:Ct,look (m.map λ x=>if x.1=k then (x.1,v) else x) k'=if k=k' then (look m k').map λ _=>v else look m k'
 |[]=>by split <;> rfl
 |x :: m=>by
  rw [Zs,v9,v9,a3i k k' v m]
  by_cases e:x.1=k
  ·rw [if_pos e]
   by_cases e2:k=k'
   ·rw [if_pos (by exact e.trans e2),if_pos e2,if_pos (e.trans e2)];rfl
   ·rw [if_neg (λ z=>e2 (e.symm.trans z)),if_neg e2,if_neg e2,if_neg (λ z=>e2 (e.symm.trans z))]
  ·rw [if_neg e]
   by_cases e2:x.1=k'
   ·rw [if_pos e2,if_neg (λ z=>e (e2.trans z.symm)),if_pos e2]
   ·rw [if_neg e2,if_neg e2]
theorem E2(m:Ct)(k k':Kt)(v:Nat):look (y3 m k v) k'=if k=k' then some v else look m k':=by
 unfold y3
 by_cases c:(m.any λ x=>decide (x.1=k))=true
 ·rw [if_pos c,a3i]
  by_cases e:k=k'
  ·rw [if_pos e,if_pos e];obtain ⟨w,hw⟩:=look_key.mp (any_key.mp c);rw [<- e,hw];rfl
  ·rw [if_neg e,if_neg e]
 ·rw [if_neg c,b0S]
  by_cases e:k=k'
  ·rw [if_pos e,if_pos e]
   have:look m k'=none:=by
    cases q:look m k' with
    |none=>rfl
    |some w=>exact absurd (any_key.mpr (look_key.mpr ⟨w,by rw [e];exact q⟩)) c
   rw [this];rfl
  ·rw [if_neg e,if_neg e];cases look m k' <;> rfl
theorem a7O(m:Ct)(k:Kt)(v:Nat):keys (y3 m k v)=if k ∈ keys m then keys m else keys m ++ [k]:=by
 unfold y3
 by_cases c:(m.any λ x=>decide (x.1=k))=true
 ·rw [if_pos c,if_pos (any_key.mp c)];unfold keys;rw [Zd]
  congr 1;funext x
  show (if x.1=k then (x.1,v) else x).1=x.1
  split <;> rfl
 ·rw [if_neg c,if_neg (λ z=>c (any_key.mpr z))];unfold keys;rw [Zz];rfl
theorem J9{α:Type}{l:List α}{a:α}(h:l.Nodup)(n:a ∉ l):(l ++ [a]).Nodup:=by
 rw [List.nodup_append];exact ⟨h,by simp,λ x hx y hy=>by rw [ZX.mp hy];exact λ z=>n (z ▸ hx)⟩
structure TOk(V:Kt->Prop)(m:Ct):Prop where
 nd:(keys m).Nodup
 all:∀ k ∈ keys m,V k
theorem TOk.put{V:Kt->Prop}{m:Ct}{k:Kt}{v:Nat}(h:TOk V m)(hk:V k):TOk V (y3 m k v):=by
 have e:=a7O m k v
 by_cases c:k ∈ keys m
 ·rw [if_pos c] at e;exact ⟨by rw [e];exact h.nd,by rw [e];exact h.all⟩
 ·rw [if_neg c] at e;refine ⟨by rw [e];exact J9 h.nd c,λ k' hk'=>?_⟩;rw [e] at hk'
  rcases List.mem_append.mp hk' with z | z
  ·exact h.all _ z
  ·rw [ZX.mp z];exact hk
theorem TOk.nil{V:Kt->Prop}:TOk V []:=⟨List.nodup_nil,λ _ h=>nomatch h⟩
def Met(m:Ct)(x:Kt×Nat):Prop:=∃ c,look m x.1=some c/\c <= x.2
def met(m:Ct)(x:Kt×Nat):Bool:=match look m x.1 with | some c=>decide (c <= x.2) | none=>false
theorem met_iff{m:Ct}{x:Kt×Nat}:met m x=true ↔ Met m x:=by
 unfold met Met
 cases look m x.1 with
 |none=>refine ⟨λ h=>?_,λ ⟨_,h,_⟩=>?_⟩ <;> cases h
 |some c=>exact ⟨λ h=>⟨c,rfl,of_decide_eq_true h⟩,λ ⟨c',h,h2⟩=>by cases h;exact decide_eq_true h2⟩
def Le(m m':Ct):Prop:=∀ k c,look m k=some c->∃ c',look m' k=some c'/\c' <= c
theorem Le.refl(m:Ct):Le m m:=λ _ c h=>⟨c,h,ZV _⟩
theorem Le.trans{a b c:Ct}(h:Le a b)(h':Le b c):Le a c:=λ k x e=>let ⟨y,e1,l1⟩:=h k x e;let ⟨z,e2,l2⟩:=h' k y e1;⟨z,e2,Zu l2 l1⟩
theorem a5w{m:Ct}{x:Kt×Nat}(h:¬ met m x=true){c:Nat}(e:look m x.1=some c):x.2 < c:=by
 rw [met_iff] at h;exact Nat.lt_of_not_le λ z=>h ⟨c,e,z⟩
theorem Le.put{m:Ct}{x:Kt×Nat}(h:¬ met m x=true):Le m (y3 m x.1 x.2):=λ k c e=>by
 rw [E2]
 by_cases z:x.1=k
 ·rw [if_pos z];exact ⟨x.2,rfl,Nat.le_of_lt (a5w h (z ▸ e))⟩
 ·rw [if_neg z];exact ⟨c,e,ZV _⟩
theorem Le.met{m m':Ct}(l:Le m m'){x:Kt×Nat}(h:Met m x):Met m' x:=let ⟨c,e,h⟩:=h;let ⟨c',e',h'⟩:=l _ _ e;⟨c',e',Zu h' h⟩
end CM
namespace CM
open PySem L2 DL
def U7(m:Nat):List Nat:=(List.range 6).filter λ d=>m.testBit d
theorem mem6{m e:Nat}:e ∈ U7 m ↔ e < 6/\m.testBit e=true:=by
 unfold U7;rw [Zi,Zo]
theorem a1J{m:Nat}(h:m < 64):l8 m=U7 m:=by
 unfold l8 U7;have hb:Builtin.Int.intBits (m:Int) <= 6:=a5e (n:=6) h
 have e:∀ n,n <= 6->(∀ e,n <= e->m.testBit e=false)->(List.range 6).filter (λ d=>m.testBit d)=(List.range n).filter (λ d=>m.testBit d):=by
  intro n hn hi;obtain ⟨j,hj⟩:∃ j,6=n + j:=⟨6 - n,by omega⟩
  rw [hj,List.range_add,List.filter_append]
  have:((List.range j).map (n + ·)).filter (λ d=>m.testBit d)=[]:=by
   rw [List.filter_eq_nil_iff];intro a ha;obtain ⟨x,_,rfl⟩:=ZG.mp ha;rw [hi _ (YU _ _)];exact ZR
  rw [this,Zr]
 exact (e _ hb λ e he=>a9f he).symm
theorem c2v(m:Nat):(U7 m).length <= 6:=by
 unfold U7
 have:=List.length_filter_le (λ d=>m.testBit d) (List.range 6)
 rwa [Zv] at this
def O1(E:Edge):List Nat:=match E.k with | .step t=>t | .call _ _ _ o=>o
def K4(C:f7)(k:Kt):Prop:=∃ f a p d F,k=[f,a,p,d]/\C[f]?=some F/\a < F.facts/\p < F.places/\d < F.facts
structure Up(m m':Ct):Prop where
 ex:∃ k c,look m k=some c/\(∀ k',k' ≠ k->look m' k'=look m k')/\∀ c',look m' k=some c'->c < c'
theorem Up.put{m:Ct}{k:Kt}{c v:Nat}(h:look m k=some c)(hv:c < v):Up m (y3 m k v) :=
 ⟨k,c,h,λ k' n=>by rw [E2,if_neg λ z=>n z.symm],λ c' e=>by rw [E2,if_pos rfl] at e;cases e;exact hv⟩
end CM
namespace CM
open PySem L2 DL
def a6T(m:Ct):Nat:=(m.map (·.2)).sum
def Dn(m m':Ct):Prop:=m.length < m'.length\/(m.length=m'.length/\a6T m' < a6T m)
theorem a5L{k:Kt}{v:Nat}:∀ {m:Ct} {c:Nat},(keys m).Nodup->look m k=some c->a6T (m.map λ x=>if x.1=k then (x.1,v) else x) + c=a6T m + v
 |[],c,_,h=>by cases h
 |x :: m,c,nd,h=>by
  have nd:(x.1 :: keys m).Nodup:=nd;rw [Zc] at nd;rw [v9] at h;unfold a6T;rw [Zs,Zs,List.sum_cons,Zs,List.sum_cons]
  by_cases e:x.1=k
  ·rw [if_pos e] at h;cases h;rw [if_pos e]
   have:(m.map λ x=>if x.1=k then (x.1,v) else x)=m:=by
    refine (Zg λ y hy=>?_).trans (List.map_id m);rw [if_neg λ z=>nd.1 (by rw [e,<- z];exact ZG.mpr ⟨y,hy,rfl⟩)];rfl
   rw [this];dsimp only;omega
  ·rw [if_neg e] at h ⊢;have ih:=a5L (v:=v) nd.2 h;unfold a6T at ih;omega
theorem Dn.put{m:Ct}{x:Kt×Nat}(nd:(keys m).Nodup)(h:¬ met m x=true):Dn m (y3 m x.1 x.2):=by
 unfold y3
 by_cases c:(m.any λ y=>decide (y.1=x.1))=true
 ·rw [if_pos c];obtain ⟨w,hw⟩:=look_key.mp (any_key.mp c);have s:=a5L (v:=x.2) nd hw;have l:=a5w h hw;exact .inr ⟨by rw [ZS],by omega⟩
 ·rw [if_neg c];exact .inl (by rw [ZW];exact Nat.lt_succ_self _)
end CM
namespace CM
open PySem L2 DL
theorem ltN{a b:Nat}(h:(a:Int) < (b:Int)):a < b:=Int.ofNat_lt.mp h
theorem c1G(r:Int):∃ a:Nat,1 + r % 3=(a:Int)/\1 <= a/\a <= 3:=by
 obtain ⟨a,ha⟩:=Int.eq_ofNat_of_zero_le (Int.emod_nonneg r (show (3:Int) ≠ 0 by decide));have hl:a < 3:=ltN (by rw [<- ha];exact Int.emod_lt_of_pos r @B);exact ⟨1 + a,by rw [ha];exact (Int.natCast_add 1 a).symm,YU ..,Nat.add_le_add_left (Nat.le_of_lt_succ hl) 1⟩
theorem a7T(m:Ct):(tbD m).map itD=m.map pkD:=by
 unfold tbD;rw [Zd];refine Zg λ x _=>?_;show D.tup [L5 (kN x.1),nD x.2]=D.tup [tkD x.1,nD x.2];rw [T1]
def fz(i:Nat)(o:Obj)(m:Ct)(h:Hh):Hh:=h.set i (.dT (some o) (tbD m))
theorem a8p{i:Nat}{o:Obj}{m:Ct}{h:Hh}{x:O}(e:h[i]?=some x):(fz i o m h)[i]?=some (.dT (some o) (tbD m)):=ZH (ZY.mp e).1
theorem b5K{i k:Nat}{o:Obj}{m:Ct}{h:Hh}(n:i ≠ k):(fz i o m h)[k]?=h[k]?:=Zx n
theorem b6Y{i k:Nat}{o:Obj}{m:Ct}{h:Hh}{x:O}(n:i ≠ k):(fz i o m h).set k x=fz i o m (h.set k x):=List.set_comm _ _ n
theorem a5F{i:Nat}{o:Obj}{m:Ct}{h h0:Hh}{kvs0:List @Al}{Q:Hh->Prop}(e0:h0[i]?=some (.dT none kvs0))(e:h[i]?=some (.dT none (tbD m)))(q:Q h):thaw h0 (fz i o m h) Q :=
 ⟨i,o,tbD m,kvs0,e0,a8p e,by unfold fz;rw [YG,b6s e];exact q⟩
theorem b3g{s:DI}{t:DG}{b:DS}{E:G3}{δ:Sl}{h:Hh}{i:Nat}{m:Ct}(g:Kt×Nat->D)
  (hs:∀ Q:Src->Hh->Prop,(∀ o,Q ⟨m.map g,[(i,.dT (some o) (tbD m))]⟩ (h.set i (.dT (some o) (tbD m))))->s δ h Q)
  (P:Ct->Sl->Hh->Prop) (h0:P [] δ h) (ok:∀ p δ h',P p δ h'->h'[i]?=some (.dT none (tbD m)))
  (step:∀ (p:Ct) (x:Kt×Nat) (r:Ct) (δ':Sl) (h':Hh) (o:Obj) (N X1:Sl->Hh->Prop) (R:DK) (X2:DX),m=p ++ x :: r->P p δ' h'->(∀ δ'' h'',P (p ++ [x]) δ'' h''->N δ'' (fz i o m h''))->(∀ d h'',h''[i]?=some (.dT none (tbD m))->E.rt d h''->R d (fz i o m h'')) ->
   t (g x) δ' (fz i o m h') λ δ2 h2=>b ⟨N,R,X1,N,X2⟩ δ2 h2)
  (done:∀ δ' h',P m δ' h'->E.nx δ' h'):b0s s t b E δ h:=by
 have e0:=ok _ _ _ h0;refine hs _ λ o=>?_;refine u0 (g:=g) (λ p δ' h'=>∃ h'',h'=fz i o m h''/\P p δ' h'') ⟨h,rfl,h0⟩ ?_ ?_ ?_
 ·rintro p δ' h' ⟨h'',rfl,q⟩ z hz
  rw [ZX.mp hz];exact a8p (ok _ _ _ q)
 ·rintro p x r δ' h' N e ⟨h'',rfl,q⟩ hN
  exact step p x r δ' h'' o N _ _ _ e q (λ δ3 h3 q3=>hN _ _ ⟨h3,rfl,q3⟩) λ d h3 e3 q3=>a5F e0 e3 q3
 ·rintro δ' h' ⟨h'',rfl,q⟩
  exact a5F e0 (ok _ _ _ q) (done _ _ q)
def Z(m:Ct)(k:Kt):Prop:=look m k=some 0
theorem Z.put{m:Ct}{k:Kt}(h:Z m k)(k':Kt):Z (y3 m k' 0) k:=by
 unfold Z;rw [E2];split
 ·rfl
 ·exact h
theorem a0g{i:Nat}{d:D}{δ:Sl}{h:Hh}{Q:Sl->Hh->Prop}(k:Q (δ.set i (some d)) h):f8 i d δ h Q:=k
theorem c2D{a b:Nat}{x y:D}{δ:Sl}{h:Hh}{K:Sl->Hh->Prop}(k:K ((δ.set a (some x)).set b (some y)) h):a6D 2 (A7 (f8 a) (A7 (f8 b) a0Z)) (.tup [x,y]) δ h K:=⟨rfl,k⟩
theorem a3L{α β:Type}{f:α->List β}{n:Nat}:∀ {l:List α},(∀ x,(f x).length <= n)->(l.flatMap f).length <= l.length * n
 |[],_=>YL _
 |x :: l,h=>by
  have:=a3L (l:=l) h
  have:=h x
  rw [List.flatMap_cons,ZW,Zw,Nat.succ_mul];omega
end CM
namespace CM
open PySem L2 DL
structure Ky where
 f:Nat
 a:Nat
 p:Nat
 d:Nat
def Ky.t(k:Ky):Kt:=[k.f,k.a,k.p,k.d]
theorem Ky.inj{k l:Ky}(h:k.t=l.t):k=l:=by
 obtain ⟨a,b,c,d⟩:=k;obtain ⟨a',b',c',d'⟩:=l;have h:[a,b,c,d]=[a',b',c',d']:=h
 injection h with h1 h
 injection h with h2 h
 injection h with h3 h
 injection h with h4 _
 rw [h1,h2,h3,h4]
def Ky.w(k:Ky)(c:Nat):Clm:=.within k.f k.a k.p k.d c
theorem Ky.w_inj{k l:Ky}{c c':Nat}(h:k.w c=l.w c'):k=l/\c=c':=by
 obtain ⟨a,b,x,d⟩:=k;obtain ⟨a',b',x',d'⟩:=l;have h:Clm.within a b x d c=Clm.within a' b' x' d' c':=h
 injection h with h1 h2 h3 h4 h5
 rw [h1,h2,h3,h4];exact ⟨rfl,h5⟩
abbrev Of:=Nat×Ky×Row
structure a0E where
 cost:Nat
 key:Ky
 k:Nat
 n:Nat
 E:Edge
structure En where
 cost:Nat
 d:Nat
 k:Nat
structure Se where
 T:List Of
 pd:List Nat
 L:Ct
 rs:List Row
 I:List @Ak
 ca:Nat->Nat->List a0E
 en:Nat->Nat->List En
def u7(I:List @Ak):List Clm:=I.map λ x=>x.1.w x.2
def offer(s:Se)(x:Of):Se:=if met s.L (x.2.1.t,x.1)=true then s else { s with T:=s.T ++ [x],pd:=s.pd ++ [s.T.length],L:=y3 s.L x.2.1.t x.1 }
def offs(s:Se)(l:List Of):Se:=l.foldl offer s
theorem A0{cs:List Clm}{k:Int}{c:Clm}(x:List Clm)(h:i8 cs k=some c):i8 (cs ++ x) k=some c:=by
 unfold i8 at h ⊢
 split at h
 ·rename_i z;rw [if_pos z];rw [ZN (ZY.mp h).1];exact h
 ·cases h
theorem a4q{C:f7}{st:Nat}{cs:List Clm}{r:Row}{c:Clm}(x:List Clm)(h:i5 C st cs r=some c):i5 C st (cs ++ x) r=some c:=by
 cases r with
 |begin f d=>exact h
 |start d=>exact h
 |mv w k n e =>
  cases w with
  |inn =>
   dsimp only [i5] at h ⊢
   cases q:i8 cs k with
   |none=>rw [q] at h;cases h
   |some y=>rw [A0 x q];show X;exact h
  |step =>
   dsimp only [i5] at h ⊢
   cases q:i8 cs k with
   |none=>rw [q] at h;cases h
   |some y=>rw [A0 x q];show X;exact h
  |over =>
   dsimp only [i5] at h ⊢
   cases q:i8 cs k with
   |none=>rw [q] at h;cases h
   |some y=>rw [A0 x q];show X;exact h
 |short k n j e =>
  dsimp only [i5] at h ⊢
  cases q:i8 cs k with
  |none=>rw [q] at h;cases h
  |some y =>
   rw [A0 x q];show X
   cases q':i8 cs j with
   |none=>rw [q'] at h;cases y <;> cases h
   |some z=>rw [A0 x q'];rw [q'] at h;exact h
 |along k j =>
  dsimp only [i5] at h ⊢
  cases q:i8 cs k with
  |none=>rw [q] at h;cases h
  |some y =>
   rw [A0 x q];show X
   cases q':i8 cs j with
   |none=>rw [q'] at h;cases y <;> cases h
   |some z=>rw [A0 x q'];rw [q'] at h;exact h
theorem X4{C:f7}{st:Nat}{r:Row}{c:Clm}:∀ {rs:List Row} {cs ds:List Clm},n9 C st rs cs=some ds->i5 C st ds r=some c->n9 C st (rs ++ [r]) cs=some (ds ++ [c])
 |[],cs,ds,h,k=>by
  cases h;show ((i5 C st cs r).bind λ c=>some (cs ++ [c]))=_;rw [k];rfl
 |r' :: rs,cs,ds,h,k=>by
  have h:((i5 C st cs r').bind λ c=>n9 C st rs (cs ++ [c]))=some ds:=h;show ((i5 C st cs r').bind λ c=>n9 C st (rs ++ [r]) (cs ++ [c]))=_
  cases q:i5 C st cs r' with
  |none=>rw [q] at h;cases h
  |some c'=>rw [q] at h;exact X4 (rs:=rs) h k
theorem G1{C:f7}(wf:WF C){st:Nat}:∀ {rs:List Row} {cs ds:List Clm},(∀ c ∈ cs,a0a C c)->n9 C st rs cs=some ds->∀ c ∈ ds,a0a C c
 |[],cs,ds,ok,h=>by cases h;exact ok
 |r :: rs,cs,ds,ok,h=>by
  have h:((i5 C st cs r).bind λ c=>n9 C st rs (cs ++ [c]))=some ds:=h
  cases q:i5 C st cs r with
  |none=>rw [q] at h;cases h
  |some c' =>
   show X
   exact G1 wf (rs:=rs) (λ c hc=>by
    rcases List.mem_append.mp hc with z | z
    ·exact ok c z
    ·rw [ZX.mp z];exact T4 wf ok q) h
structure Mid(C:f7)(s:Se):Prop where
 pap:n9 C 0 s.rs []=some (u7 s.I)
 nd:(s.I.map (·.1)).Nodup
 ti:∀ x ∈ s.I,look s.L x.1.t=some x.2
 tl:∀ k c,look s.L k=some c->∃ ky,k=ky.t/\((ky,c) ∈ s.I\/∃ n ∈ s.pd,∃ r,s.T[n]?=some (c,ky,r))
 tt:∀ (n:Nat) (x:Of),s.T[n]?=some x->Met s.L (x.2.1.t,x.1)
 td:∀ (n m:Nat) (x y:Of),s.T[n]?=some x->s.T[m]?=some y->x.2.1=y.2.1->x.1=y.1->n=m
 vl:∀ (n:Nat) (x:Of),s.T[n]?=some x->i5 C 0 (u7 s.I) x.2.2=some (x.2.1.w x.1)
 cu:∀ n ∈ s.pd,∀ x:Of,s.T[n]?=some x->∀ y ∈ s.I,y.2 <= x.1
 np:∀ n ∈ s.pd,∀ x:Of,s.T[n]?=some x->(x.2.1,x.1) ∉ s.I
 pl:∀ n ∈ s.pd,n < s.T.length
 pn:s.pd.Nodup
 lk:TOk (K4 C) s.L
def D2(C:f7)(s:Se)(x:Of):Prop:=i5 C 0 (u7 s.I) x.2.2=some (x.2.1.w x.1)/\∀ y ∈ s.I,y.2 <= x.1
structure Still(s s':Se):Prop where
 rs:s'.rs=s.rs
 I:s'.I=s.I
 ca:s'.ca=s.ca
 en:s'.en=s.en
 le:Le s.L s'.L
theorem Still.refl(s:Se):Still s s:=⟨rfl,rfl,rfl,rfl,Le.refl _⟩
theorem Still.trans{a b c:Se}(h:Still a b)(g:Still b c):Still a c:=⟨g.rs.trans h.rs,g.I.trans h.I,g.ca.trans h.ca,g.en.trans h.en,h.le.trans g.le⟩
theorem Mid.k4{C:f7}{s:Se}(wf:WF C)(m:Mid C s){x:Of}(o:i5 C 0 (u7 s.I) x.2.2=some (x.2.1.w x.1)):K4 C x.2.1.t:=by
 obtain ⟨F,h1,h2,h3,h4⟩:=T4 wf (G1 wf (cs:=[]) (λ c h=>nomatch h) m.pap) o;exact ⟨_,_,_,_,F,rfl,h1,h2,h3,h4⟩
theorem C3{α:Type}{l:List α}{x y:α}{n:Nat}(h:(l ++ [x])[n]?=some y):l[n]?=some y\/(n=l.length/\y=x):=by
 rcases Nat.lt_or_ge n l.length with z | z
 ·rw [ZN z] at h;exact .inl h
 ·rw [ZA z] at h
  have:n - l.length=0:=by
   rcases Nat.eq_zero_or_pos (n - l.length) with e | e
   ·exact e
   ·rw [Zm (by simp;omega)] at h;cases h
  rw [this] at h;exact .inr ⟨by omega,by cases h;rfl⟩
theorem H9{α:Type}{l:List α}{x y:α}{n:Nat}(h:l[n]?=some y):(l ++ [x])[n]?=some y:=by
 rw [ZN (ZY.mp h).1];exact h
theorem v6{α:Type}(l:List α)(x:α):(l ++ [x])[l.length]?=some x:=by
 rw [ZA @G,YV];rfl
theorem Mid.offer{C:f7}{s:Se}(wf:WF C)(m:Mid C s){x:Of}(o:D2 C s x):Mid C (offer s x)/\Still s (CM.offer s x)/\Met (CM.offer s x).L (x.2.1.t,x.1):=by
 unfold CM.offer
 by_cases c:met s.L (x.2.1.t,x.1)=true
 ·rw [if_pos c];exact ⟨m,Still.refl _,met_iff.mp c⟩
 ·rw [if_neg c];have le:Le s.L (y3 s.L x.2.1.t x.1):=Le.put (x:=(x.2.1.t,x.1)) c;have mt:Met (y3 s.L x.2.1.t x.1) (x.2.1.t,x.1):=⟨x.1,by rw [E2,if_pos rfl],ZV _⟩
  have nm:¬ Met s.L (x.2.1.t,x.1):=λ z=>c (met_iff.mpr z);refine ⟨⟨m.pap,m.nd,λ y hy=>?_,λ k c' h=>?_,λ n y h=>?_,λ n k y z hn hk e1 e2=>?_,λ n y h=>?_,λ n hn y h w hw=>?_,λ n hn y h=>?_,λ n hn=>?_,?_,m.lk.put (m.k4 wf o.1)⟩,⟨rfl,rfl,rfl,rfl,le⟩,mt⟩
  ·show look (y3 s.L x.2.1.t x.1) y.1.t=_;rw [E2]
   by_cases z:x.2.1.t=y.1.t
   ·exfalso
    exact nm ⟨y.2,by show look s.L x.2.1.t=_;rw [z];exact m.ti y hy,o.2 y hy⟩
   ·rw [if_neg z];exact m.ti y hy
  ·have h:look (y3 s.L x.2.1.t x.1) k=some c':=h;rw [E2] at h
   by_cases z:x.2.1.t=k
   ·rw [if_pos z] at h;cases h;exact ⟨x.2.1,z.symm,.inr ⟨s.T.length,ZJ _ (ZX.mpr rfl),x.2.2,v6 _ _⟩⟩
   ·rw [if_neg z] at h;obtain ⟨ky,e,w⟩:=m.tl k c' h;refine ⟨ky,e,w.imp id λ ⟨n,h1,r,h2⟩=>⟨n,Zy _ h1,r,H9 h2⟩⟩
  ·rcases C3 h with z | ⟨_,z⟩
   ·exact le.met (m.tt n y z)
   ·rw [z];exact mt
  ·rcases C3 hn with z1 | ⟨z1,z1'⟩ <;> rcases C3 hk with z2 | ⟨z2,z2'⟩
   ·exact m.td n k y z z1 z2 e1 e2
   ·exfalso;have:=m.tt n y z1;rw [e1,e2,z2'] at this;exact nm this
   ·exfalso;have:=m.tt k z z2;rw [<- e1,<- e2,z1'] at this;exact nm this
   ·rw [z1,z2]
  ·rcases C3 h with z | ⟨_,z⟩
   ·exact m.vl n y z
   ·rw [z];exact o.1
  ·rcases List.mem_append.mp hn with q | q
   ·rcases C3 h with z | ⟨z,_⟩
    ·exact m.cu n q y z w hw
    ·exfalso;have:=m.pl n q;omega
   ·rw [ZX.mp q] at h;have h:(s.T ++ [x])[s.T.length]?=some y:=h;rw [v6] at h;cases h;exact o.2 w hw
  ·rcases List.mem_append.mp hn with q | q
   ·rcases C3 h with z | ⟨z,_⟩
    ·exact m.np n q y z
    ·exfalso;have:=m.pl n q;omega
   ·rw [ZX.mp q] at h;have h:(s.T ++ [x])[s.T.length]?=some y:=h;rw [v6] at h;cases h;intro w;exact nm ⟨x.1,m.ti _ w,ZV _⟩
  ·show n < (s.T ++ [x]).length;rw [ZW,ZL]
   rcases List.mem_append.mp hn with q | q
   ·have:=m.pl n q;omega
   ·rw [ZX.mp q];omega
  ·exact J9 m.pn λ z=>Ze _ (m.pl _ z)
theorem Mid.offs{C:f7}(wf:WF C):∀ {l:List Of} {s:Se},Mid C s->(∀ x ∈ l,D2 C s x)->Mid C (offs s l)/\Still s (CM.offs s l)/\∀ x ∈ l,Met (CM.offs s l).L (x.2.1.t,x.1)
 |[],s,m,_=>⟨m,Still.refl _,λ _ h=>nomatch h⟩
 |x :: l,s,m,o=>by
  obtain ⟨m1,s1,t1⟩:=m.offer wf (o x ZO)
  obtain ⟨m2,s2,t2⟩:=Mid.offs wf (l:=l) m1 λ y hy=>by
   have:=o y (ZM _ hy)
   unfold D2 at this ⊢;rw [s1.I];exact this
  refine ⟨m2,s1.trans s2,λ y hy=>?_⟩
  rcases List.mem_cons.mp hy with z | z
  ·rw [z];exact s2.le.met t1
  ·exact t2 y z
def y0(s:Se)(n:Nat):Se:={ s with pd:=s.pd.erase n }
theorem Mid.stale{C:f7}{s:Se}(m:Mid C s){n:Nat}{x:Of}(e:s.T[n]?=some x)(ne:look s.L x.2.1.t ≠ some x.1):Mid C (y0 s n):=by
 have sub:∀ k,k ∈ s.pd.erase n->k ∈ s.pd:=λ k h=>List.mem_of_mem_erase h;refine ⟨m.pap,m.nd,m.ti,λ k c h=>?_,m.tt,m.td,m.vl,λ k hk=>m.cu k (sub k hk),λ k hk=>m.np k (sub k hk),λ k hk=>m.pl k (sub k hk),m.pn.erase _,m.lk⟩;obtain ⟨ky,e1,w⟩:=m.tl k c h;refine ⟨ky,e1,w.imp id λ ⟨j,h1,r,h2⟩=>⟨j,?_,r,h2⟩⟩;refine (List.Nodup.mem_erase_iff m.pn).mpr ⟨λ z=>?_,h1⟩;subst z;rw [e] at h2;cases h2;subst e1;exact ne h
def B6(s:Se)(n:Nat)(x:Of):Se:={ s with pd:=s.pd.erase n,rs:=s.rs ++ [x.2.2],I:=s.I ++ [(x.2.1,x.1)] }
theorem Mid.new{C:f7}{s:Se}(m:Mid C s){n:Nat}{x:Of}(hn:n ∈ s.pd)(e:s.T[n]?=some x)(el:look s.L x.2.1.t=some x.1):x.2.1 ∉ s.I.map (·.1):=λ z=>by
 obtain ⟨y,hy,ey⟩:=ZG.mp z
 have:=m.ti y hy
 rw [ey,el] at this;exact m.np n hn x e (by rw [<- ey,Option.some.inj this];exact hy)
theorem Mid.settle{C:f7}{s:Se}(m:Mid C s){n:Nat}{x:Of}(hn:n ∈ s.pd)(e:s.T[n]?=some x)(el:look s.L x.2.1.t=some x.1)(mn:∀ k ∈ s.pd,∀ y:Of,s.T[k]?=some y->x.1 <= y.1):Mid C (B6 s n x)/\∀ y ∈ (B6 s n x).I,y.2 <= x.1:=by
 have sub:∀ k,k ∈ s.pd.erase n->k ∈ s.pd:=λ k h=>List.mem_of_mem_erase h;have cl:u7 @AJ=u7 s.I ++ [x.2.1.w x.1]:=by unfold u7;rw [Zz];rfl
 refine ⟨⟨?_,?_,λ y hy=>?_,λ k c h=>?_,m.tt,m.td,λ k y h=>?_,λ k hk y h w hw=>?_,λ k hk y h w=>?_,λ k hk=>m.pl k (sub k hk),m.pn.erase _,m.lk⟩,λ y hy=>?_⟩
 ·show n9 C 0 (s.rs ++ [x.2.2]) []=some (u7 @AJ);rw [cl];exact X4 m.pap (m.vl n x e)
 ·show ((s.I ++ [(x.2.1,x.1)]).map (·.1)).Nodup;rw [Zz];exact J9 m.nd (m.new hn e el)
 ·rcases List.mem_append.mp hy with z | z
  ·exact m.ti y z
  ·rw [ZX.mp z];exact el
 ·obtain ⟨ky,e1,w⟩:=m.tl k c h;refine ⟨ky,e1,?_⟩
  rcases w with w | ⟨j,h1,r,h2⟩
  ·exact .inl (Zy _ w)
  ·by_cases z:j=n
   ·subst z;rw [e] at h2;cases h2;exact .inl (ZJ _ (ZX.mpr rfl))
   ·exact .inr ⟨j,(List.Nodup.mem_erase_iff m.pn).mpr ⟨z,h1⟩,r,h2⟩
 ·show i5 C 0 (u7 @AJ) y.2.2=_;rw [cl];exact a4q _ (m.vl k y h)
 ·rcases List.mem_append.mp hw with z | z
  ·exact m.cu k (sub k hk) y h w z
  ·rw [ZX.mp z];exact mn k (sub k hk) y h
 ·rcases List.mem_append.mp w with z | z
  ·exact m.np k (sub k hk) y h z
  ·have z:=ZX.mp z
   injection z with z1 z2
   have:=m.td k n y x h e z1 z2
   subst this;exact ((List.Nodup.mem_erase_iff m.pn).mp hk).1 rfl
 ·rcases List.mem_append.mp hy with z | z
  ·exact m.cu n hn x e y z
  ·rw [ZX.mp z];exact ZV _
end CM
namespace CM
open PySem L2 DL
def L7(F:Fn)(p:Nat):List (Edge×Nat):=F.edges.zipIdx.filter λ x=>decide (x.1.p=p)
theorem mem_fromE{F:Fn}{p:Nat}{E:Edge}{n:Nat}:(E,n) ∈ L7 F p ↔ F.edges[n]?=some E/\E.p=p:=by
 unfold L7;rw [Zi,decide_eq_true_iff,List.mem_zipIdx_iff_getElem?]
theorem a1D(F:Fn)(p:Nat):(L7 F p).length <= F.edges.length:=by
 have:=List.length_filter_le (λ x:Edge×Nat=>decide (x.1.p=p)) F.edges.zipIdx
 rwa [List.length_zipIdx] at this
def Y7(E:Edge):List Nat:=match E.k with | .step _=>[] | .call _ _ t _=>t
def cbL(c:a0E)(e:En):List Of:=(l8 ((Y7 c.E).getD e.d 0)).map λ x=>(c.cost + e.cost,⟨c.key.f,c.key.a,c.E.q,x⟩,.short c.k c.n e.k x)
def gpL(cost:Nat)(ky:Ky)(k n:Nat)(E:Edge):List Of:=(l8 ((O1 E).getD ky.d 0)).map λ e=>(cost + E.cost,⟨ky.f,ky.a,E.q,e⟩,.mv (if E.isStep=true then .step else .over) k n e)
def C8{α:Type}(f:Nat->Nat->List α)(g b:Nat)(v:List α):Nat->Nat->List α:=λ g' b'=>if g'=g/\b'=b then v else f g' b'
theorem B5{α:Type}{f:Nat->Nat->List α}{g b:Nat}{v:List α}:C8 f g b v g b=v:=if_pos ⟨rfl,rfl⟩
theorem J8{α:Type}{f:Nat->Nat->List α}{g b g' b':Nat}{v:List α}(h:¬ (g'=g/\b'=b)):C8 f g b v g' b'=f g' b':=if_neg h
def cte(s:Se)(cost:Nat)(ky:Ky)(k:Nat):Se:=offs { s with en:=C8 s.en ky.f ky.a (s.en ky.f ky.a ++ [⟨cost,ky.d,k⟩]) } ((s.ca ky.f ky.a).flatMap λ c=>cbL c ⟨cost,ky.d,k⟩)
def gi1(g:Nat)(c:a0E)(s:Se)(b:Nat):Se:=offs { s with ca:=C8 s.ca g b (s.ca g b ++ [c]) } ((s.en g b).flatMap (cbL c))
def a3e(E:Edge):Nat×List Nat:=match E.k with | .step _=>(0,[]) | .call g i _ _=>(g,i)
def gin(s:Se)(cost:Nat)(ky:Ky)(k n:Nat)(E:Edge):Se:=(l8 ((a3e E).2.getD ky.d 0)).foldl (gi1 (a3e E).1 ⟨cost + E.cost,ky,k,n,E⟩) s
def E8(cost:Nat)(ky:Ky)(k:Nat)(s:Se)(x:Edge×Nat):Se:=if x.1.isStep=true then offs s (gpL cost ky k x.2 x.1) else gin (offs s (gpL cost ky k x.2 x.1)) cost ky k x.2 x.1
def F9(F:Fn)(s:Se)(cost:Nat)(ky:Ky)(k:Nat):Se:=if ky.p + 1=F.places then cte s cost ky k else s
def J0(F:Fn)(s:Se)(n:Nat)(x:Of):Se:=(L7 F x.2.1.p).foldl (E8 x.1 x.2.1 s.I.length) @Bc
theorem a0y(s:Se)(l r:List Of):offs s (l ++ r)=offs (offs s l) r:=List.foldl_append
def CaOf(C:f7)(I:List @Ak)(g b:Nat)(x:a0E):Prop:=∃ ky c k n F E i t o,I[k]?=some (ky,c)/\C[ky.f]?=some F/\F.edges[n]?=some E/\E.p=ky.p/\E.k = .call g i t o/\b ∈ l8 (i.getD ky.d 0)/\x=⟨c + E.cost,ky,k,n,E⟩
def EnOf(C:f7)(I:List @Ak)(f a:Nat)(y:En):Prop:=∃ ky c k F,I[k]?=some (ky,c)/\ky.f=f/\ky.a=a/\C[f]?=some F/\ky.p + 1=F.places/\y=⟨c,ky.d,k⟩
structure Rec(C:f7)(s:Se):Prop where
 ca:∀ g b x,x ∈ s.ca g b ↔ CaOf C s.I g b x
 en:∀ f a y,y ∈ s.en f a ↔ EnOf C s.I f a y
 cl:∀ g b,(s.ca g b).length <= 600 * s.I.length
 el:∀ f a,(s.en f a).length <= s.I.length
theorem a0w{t:List Nat}{d e:Nat}(h:e ∈ l8 (t.getD d 0)):br t d (e:Int)=true:=by
 unfold br;rw [decide_eq_true (Int.natCast_nonneg e),Bool.true_and,ZB];exact mem_facts.mp h
theorem a0V{I:List @Ak}{k:Nat}{ky:Ky}{c:Nat}(h:I[k]?=some (ky,c)):i8 (u7 I) (k:Int)=some (ky.w c):=by
 unfold i8 u7;rw [if_pos (Int.natCast_nonneg k),ZB,ZP,h];rfl
theorem a5a{C:f7}{f n:Nat}{F:Fn}{E:Edge}(hF:C[f]?=some F)(hE:F.edges[n]?=some E):E5 C f (n:Int)=some E:=by
 unfold E5;rw [if_pos (Int.natCast_nonneg n),hF,ZB];exact hE
theorem a6o{C:f7}{I:List @Ak}{g b:Nat}{x:a0E}{y:En}(hx:CaOf C I g b x)(hy:EnOf C I g b y){z:Of}(hz:z ∈ cbL x y):i5 C 0 (u7 I) z.2.2=some (z.2.1.w z.1):=by
 obtain ⟨ky,c,k,n,F,E,i,t,o,e1,e2,e3,e4,e5,e6,rfl⟩:=hx;obtain ⟨kz,c',j,G,f1,f2,f3,f4,f5,rfl⟩:=hy;unfold cbL at hz;obtain ⟨e,he,rfl⟩:=ZG.mp hz;have bt:Y7 E=t:=by unfold Y7;rw [e5]
 rw [bt] at he
 have tk:m4 C ky.f ky.p ky.d .inn (n:Int) (b:Int)=some E:=by
  unfold m4;rw [a5a e2 e3];have st:E.isStep=false:=by unfold Edge.isStep;rw [e5]
  have tb:E.tab .inn=i:=by unfold Edge.tab;rw [e5]
  show (if (E.isStep == (Mv.inn == .step))=true/\E.p=ky.p/\br (E.tab .inn) ky.d (b:Int)=true then some E else none)=some E;rw [st,tb,if_pos ⟨rfl,e4,a0w e6⟩]
 show i5 C 0 (u7 I) (.short k n j e)=some (.within ky.f ky.a E.q e (c + E.cost + c'));dsimp only [i5];rw [a0V e1,a0V f1];show ((m4 C ky.f ky.p ky.d .inn (n:Int) (kz.a:Int)).bind _)=_;rw [f3,tk];show (match E.k with | .call g' _ bk _=>(C[g']?).bind λ G=>if g'=kz.f/\kz.p + 1=G.places/\br bk kz.d (e:Int)=true then some (Clm.within ky.f ky.a E.q (e:Int).toNat (c + E.cost + c')) else none | _=>none)=_;rw [e5];show ((C[g]?).bind _)=_;rw [f4];show (if g=kz.f/\kz.p + 1=G.places/\br t kz.d (e:Int)=true then some (Clm.within ky.f ky.a E.q (e:Int).toNat (c + E.cost + c')) else none)=_;rw [if_pos ⟨f2.symm,f5,a0w he⟩,ZB]
theorem b5N{C:f7}{I:List @Ak}{ky:Ky}{c k n:Nat}{F:Fn}{E:Edge}(e1:I[k]?=some (ky,c))(e2:C[ky.f]?=some F)(e3:F.edges[n]?=some E)(e4:E.p=ky.p){z:Of}(hz:z ∈ gpL c ky k n E):i5 C 0 (u7 I) z.2.2=some (z.2.1.w z.1):=by
 unfold gpL at hz;obtain ⟨e,he,rfl⟩:=ZG.mp hz
 have key:∀ w:Mv,w ≠ .inn->(E.isStep == (w == .step))=true->E.tab w=O1 E->i5 C 0 (u7 I) (.mv w k n e)=some (.within ky.f ky.a E.q e (c + E.cost)):=by
  intro w hw hs ht
  have tk:m4 C ky.f ky.p ky.d w (n:Int) (e:Int)=some E:=by
   unfold m4;rw [a5a e2 e3];show (if (E.isStep == (w == .step))=true/\E.p=ky.p/\br (E.tab w) ky.d (e:Int)=true then some E else none)=some E;rw [ht,if_pos ⟨hs,e4,a0w he⟩]
  have fin:(match i8 (u7 I) (k:Int) with | some (.within f a p d c)=>(m4 C f p d w (n:Int) (e:Int)).map λ E=>Clm.within f a E.q (e:Int).toNat (c + E.cost) | _=>none)=some (.within ky.f ky.a E.q e (c + E.cost)):=by
   rw [a0V e1];show (m4 C ky.f ky.p ky.d w (n:Int) (e:Int)).map _=_;rw [tk];show some (Clm.within ky.f ky.a E.q (e:Int).toNat (c + E.cost))=_;rw [ZB]
  cases w with
  |inn=>exact absurd rfl hw
  |step=>exact fin
  |over=>exact fin
 show i5 C 0 (u7 I) (.mv (if E.isStep=true then .step else .over) k n e)=some (.within ky.f ky.a E.q e (c + E.cost));obtain ⟨p,q,w,kd⟩:=E
 cases kd with
 |step t=>exact key .step @B rfl rfl
 |call g i b o=>exact key .over @B rfl rfl
structure Full(C:f7)(s:Se):Prop where
 mid:Mid C s
 rc:Rec C s
 ov:∀ (ky:Ky) (c:Nat) (F:Fn) (E:Edge) (n:Nat),(ky,c) ∈ s.I->C[ky.f]?=some F->F.edges[n]?=some E->E.p=ky.p->∀ e ∈ l8 ((O1 E).getD ky.d 0),Met s.L ([ky.f,ky.a,E.q,e],c + E.cost)
 sh:∀ g b x y,CaOf C s.I g b x->EnOf C s.I g b y->∀ z ∈ cbL x y,Met s.L (z.2.1.t,z.1)
 bg:∀ f F d,C[f]?=some F->d < F.facts->Met s.L ([f,d,0,d],0)
def U1(ky:Ky)(c k:Nat)(ps:List (Edge×Nat))(g b:Nat)(x:a0E):Prop:=∃ E n i t o,(E,n) ∈ ps/\E.k = .call g i t o/\b ∈ l8 (i.getD ky.d 0)/\x=⟨c + E.cost,ky,k,n,E⟩
structure Part(C:f7)(I0:List (Ky×Nat))(s0:Se)(ky:Ky)(c:Nat)(ps:List (Edge×Nat))(s:Se):Prop where
 mid:Mid C s
 eI:s.I=I0 ++ [(ky,c)]
 ers:s.rs=s0.rs
 een:s.en=s0.en
 le:Le s0.L s.L
 ca:∀ g b x,x ∈ s.ca g b ↔ CaOf C I0 g b x\/U1 ky c I0.length ps g b x
 cl:∀ g b,(s.ca g b).length <= 600 * I0.length + 6 * ps.length
 ov:∀ E n,(E,n) ∈ ps->∀ z ∈ gpL c ky I0.length n E,Met s.L (z.2.1.t,z.1)
 sh:∀ g b x y,U1 ky c I0.length ps g b x->y ∈ s.en g b->∀ z ∈ cbL x y,Met s.L (z.2.1.t,z.1)
theorem a1Z{m:Nat}(h:m < 64):(l8 m).length <= 6:=by rw [a1J h];exact c2v m
theorem a3S{C:f7}(wf:WF C){I0:List @Ak}{s0:Se}{ky:Ky}{c:Nat}{ps:List (Edge×Nat)}{F:Fn}{E:Edge}{n g:Nat}{i t o:List Nat}(hF:C[ky.f]?=some F)(hE:F.edges[n]?=some E)(hp:E.p=ky.p)(hk:E.k = .call g i t o)(top:∀ y ∈ I0 ++ [(ky,c)],y.2 <= c)(en:∀ f a y,y ∈ s0.en f a ↔ EnOf C (I0 ++ [(ky,c)]) f a y) :
  ∀ (bs q:List Nat) (s:Se),(∀ b ∈ bs,b ∈ l8 (i.getD ky.d 0)) ->
  (Mid C s/\s.I=I0 ++ [(ky,c)]/\s.rs=s0.rs/\s.en=s0.en/\Le s0.L s.L /\
   (∀ g' b' x,x ∈ s.ca g' b' ↔ CaOf C I0 g' b' x\/U1 ky c I0.length ps g' b' x\/(g'=g/\b' ∈ q/\x=⟨c + E.cost,ky,I0.length,n,E⟩)) /\
   (∀ g' b',(s.ca g' b').length <= 600 * I0.length + 6 * ps.length + q.length) /\
   (∀ b' y,b' ∈ q->y ∈ s.en g b'->∀ z ∈ cbL ⟨c + E.cost,ky,I0.length,n,E⟩ y,Met s.L (z.2.1.t,z.1))) ->
  let s':=bs.foldl (gi1 g ⟨c + E.cost,ky,I0.length,n,E⟩) s
  Le s.L s'.L/\Mid C s'/\s'.I=I0 ++ [(ky,c)]/\s'.rs=s0.rs/\s'.en=s0.en/\Le s0.L s'.L /\
   (∀ g' b' x,x ∈ s'.ca g' b' ↔ CaOf C I0 g' b' x\/U1 ky c I0.length ps g' b' x\/(g'=g/\b' ∈ q ++ bs/\x=⟨c + E.cost,ky,I0.length,n,E⟩)) /\
   (∀ g' b',(s'.ca g' b').length <= 600 * I0.length + 6 * ps.length + (q ++ bs).length) /\
   (∀ b' y,b' ∈ q ++ bs->y ∈ s'.en g b'->∀ z ∈ cbL ⟨c + E.cost,ky,I0.length,n,E⟩ y,Met s'.L (z.2.1.t,z.1))
 |[],q,s,_,h=>by rw [Zr];exact ⟨Le.refl _,h⟩
 |b :: bs,q,s,hb,⟨m,eI,ers,een,le,ca,cl,sh⟩=>by
  have new:CaOf C (I0 ++ [(ky,c)]) g b ⟨c + E.cost,ky,I0.length,n,E⟩:=⟨ky,c,I0.length,n,F,E,i,t,o,v6 _ _,hF,hE,hp,hk,hb b ZO,rfl⟩
  have m1:Mid C { s with ca:=C8 s.ca g b (s.ca g b ++ [⟨c + E.cost,ky,I0.length,n,E⟩]) }:=⟨m.pap,m.nd,m.ti,m.tl,m.tt,m.td,m.vl,m.cu,m.np,m.pl,m.pn,m.lk⟩
  obtain ⟨m2,st,mt⟩:=m1.offs wf (l:=(s.en g b).flatMap (cbL ⟨c + E.cost,ky,I0.length,n,E⟩)) λ z hz=>by
   obtain ⟨y,hy,hz⟩:=Zb.mp hz;rw [een] at hy;refine ⟨?_,λ w hw=>?_⟩
   ·show i5 C 0 (u7 s.I) _=_;rw [eI];exact a6o new ((en _ _ _).mp hy) hz
   ·have hw:w ∈ s.I:=hw;rw [eI] at hw
    have:=top w hw
    unfold cbL at hz;obtain ⟨e,_,rfl⟩:=ZG.mp hz;show w.2 <= c + E.cost + y.cost;omega
  have r:=a3S wf (ps:=ps) hF hE hp hk top en bs (q ++ [b]) (gi1 g ⟨c + E.cost,ky,I0.length,n,E⟩ s b) (λ b' h'=>hb b' (ZM _ h')) ⟨m2,st.I.trans eI,st.rs.trans ers,st.en.trans een,le.trans st.le,λ g' b' x=>?_,λ g' b'=>?_,λ b' y hb' hy z hz=>?_⟩
  ·rw [Zt] at r;exact ⟨st.le.trans r.1,r.2⟩
  ·have:(gi1 g ⟨c + E.cost,ky,I0.length,n,E⟩ s b).ca=_:=st.ca
   rw [this];show x ∈ C8 s.ca g b (s.ca g b ++ [_]) g' b' ↔ _
   by_cases z:g'=g/\b'=b
   ·obtain ⟨rfl,rfl⟩:=z;rw [B5,ZK,ca,ZX]
    constructor
    ·rintro ((h | h | h) | h)
     ·exact .inl h
     ·exact .inr (.inl h)
     ·exact .inr (.inr ⟨rfl,Zy _ h.2.1,h.2.2⟩)
     ·exact .inr (.inr ⟨rfl,ZJ _ (ZX.mpr rfl),h⟩)
    ·rintro (h | h | h)
     ·exact .inl (.inl h)
     ·exact .inl (.inr (.inl h))
     ·exact .inr h.2.2
   ·rw [J8 z,ca]
    constructor
    ·rintro (h | h | h)
     ·exact .inl h
     ·exact .inr (.inl h)
     ·exact .inr (.inr ⟨h.1,Zy _ h.2.1,h.2.2⟩)
    ·rintro (h | h | ⟨h1,h2,h3⟩)
     ·exact .inl h
     ·exact .inr (.inl h)
     ·rcases List.mem_append.mp h2 with w | w
      ·exact .inr (.inr ⟨h1,w,h3⟩)
      ·exact absurd ⟨h1,ZX.mp w⟩ z
  ·have:(gi1 g ⟨c + E.cost,ky,I0.length,n,E⟩ s b).ca=_:=st.ca
   rw [this];show (C8 s.ca g b (s.ca g b ++ [_]) g' b').length <= _;rw [ZW,ZL]
   by_cases z:g'=g/\b'=b
   ·obtain ⟨rfl,rfl⟩:=z;rw [B5,ZW,ZL]
    have:=cl g' b';omega
   ·rw [J8 z];have:=cl g' b';omega
  ·have een2:(gi1 g ⟨c + E.cost,ky,I0.length,n,E⟩ s b).en=s.en:=st.en;rw [een2] at hy
   rcases List.mem_append.mp hb' with w | w
   ·exact st.le.met (sh b' y w hy z hz)
   ·rw [ZX.mp w] at hy;exact mt z (Zb.mpr ⟨y,hy,hz⟩)
theorem Part.edge{C:f7}(wf:WF C){I0:List @Ak}{s0:Se}{ky:Ky}{c:Nat}{ps:List (Edge×Nat)}{s:Se}{F:Fn}{E:Edge}{n:Nat}(h:Part C I0 s0 ky c ps s)(hF:C[ky.f]?=some F)(hE:F.edges[n]?=some E)(hp:E.p=ky.p)(hd:ky.d < F.facts)(top:∀ y ∈ I0 ++ [(ky,c)],y.2 <= c)(en:∀ f a y,y ∈ s0.en f a ↔ EnOf C (I0 ++ [(ky,c)]) f a y) :
  Part C I0 s0 ky c (ps ++ [(E,n)]) (E8 c ky I0.length s (E,n)):=by
 obtain ⟨m,eI,ers,een,le,ca,cl,ov,sh⟩:=h
 obtain ⟨m2,st,mt⟩:=m.offs wf (l:=gpL c ky I0.length n E) λ z hz=>by
  refine ⟨?_,λ w hw=>?_⟩
  ·rw [eI];exact b5N (v6 _ _) hF hE hp hz
  ·rw [eI] at hw
   have:=top w hw
   unfold gpL at hz;obtain ⟨e,_,rfl⟩:=ZG.mp hz;show w.2 <= c + E.cost;omega
 have nc:∀ g b x,U1 ky c I0.length (ps ++ [(E,n)]) g b x ↔ U1 ky c I0.length ps g b x\/∃ i t o,E.k = .call g i t o/\b ∈ l8 (i.getD ky.d 0)/\x=⟨c + E.cost,ky,I0.length,n,E⟩:=by
  intro g b x
  constructor
  ·rintro ⟨E',n',i,t,o,h1,h2,h3,h4⟩
   rcases List.mem_append.mp h1 with w | w
   ·exact .inl ⟨E',n',i,t,o,w,h2,h3,h4⟩
   ·have w:=ZX.mp w
    injection w with w1 w2
    subst w1 w2;exact .inr ⟨i,t,o,h2,h3,h4⟩
  ·rintro (⟨E',n',i,t,o,h1,h2,h3,h4⟩ | ⟨i,t,o,h2,h3,h4⟩)
   ·exact ⟨E',n',i,t,o,Zy _ h1,h2,h3,h4⟩
   ·exact ⟨E,n,i,t,o,ZJ _ (ZX.mpr rfl),h2,h3,h4⟩
 cases hk:E.k with
 |step tt =>
  have is:E.isStep=true:=by unfold Edge.isStep;rw [hk]
  have e1:E8 c ky I0.length s (E,n)=offs s @AM:=if_pos is;rw [e1]
  have nn:∀ g b x,U1 ky c I0.length (ps ++ [(E,n)]) g b x ↔ U1 ky c I0.length ps g b x:=λ g b x=>by
   rw [nc];exact ⟨λ h=>h.elim id λ ⟨i,t,o,h,_⟩=>(by rw [hk] at h;cases h),.inl⟩
  refine ⟨m2,st.I.trans eI,st.rs.trans ers,st.en.trans een,le.trans st.le,λ g b x=>by rw [st.ca,ca,nn],λ g b=>by rw [st.ca];have:=cl g b;rw [ZW,ZL];omega,λ E' n' he z hz=>?_,λ g b x y hx hy z hz=>?_⟩
  ·rcases List.mem_append.mp he with w | w
   ·exact st.le.met (ov E' n' w z hz)
   ·have w:=ZX.mp w
    injection w with w1 w2
    subst w1 w2;exact mt z hz
  ·rw [st.en] at hy;exact st.le.met (sh g b x y ((nn g b x).mp hx) hy z hz)
 |call g i t o =>
  have is:¬ E.isStep=true:=by unfold Edge.isStep;rw [hk];exact ZR
  have it:a3e E=(g,i):=by unfold a3e;rw [hk]
  have e1:E8 c ky I0.length s (E,n)=(l8 (i.getD ky.d 0)).foldl (gi1 g ⟨c + E.cost,ky,I0.length,n,E⟩) (offs s @AM):=by
   unfold E8;rw [if_neg is];unfold gin;rw [it]
  rw [e1]
  obtain ⟨G,hG,ti,_,_⟩:∃ G,C[g]?=some G/\tOk i F.facts G.facts/\tOk t G.facts F.facts/\tOk o F.facts F.facts:=by
   have:=((wf.fn _ F hF).2.2.2.2.2 E (ZT hE)).2.2.2.2
   rw [hk] at this;exact this
  have fl:(l8 (i.getD ky.d 0)).length <= 6:=a1Z (a3p (ti.get hd).2 (wf.fn _ G hG).2.2.2.1)
  obtain ⟨le1,r1,r2,r3,r4,r5,r6,r7,r8⟩:=a3S wf hF hE hp hk top en (l8 (i.getD ky.d 0)) [] (offs s @AM) (λ _ h=>h) ⟨m2,st.I.trans eI,st.rs.trans ers,st.en.trans een,le.trans st.le,λ g' b' x=>by
   rw [st.ca,ca];exact ⟨λ h=>h.elim .inl λ h=>.inr (.inl h),λ h=>h.elim .inl λ h=>h.elim .inr λ h=>nomatch h.2.1⟩,λ g' b'=>by rw [st.ca];exact Zu (cl g' b') (YU _ _),λ _ _ h=>nomatch h⟩
  rw [Zj] at r6 r7 r8;refine ⟨r1,r2,r3,r4,r5,λ g' b' x=>?_,λ g' b'=>?_,λ E' n' he z hz=>?_,λ g' b' x y hx hy z hz=>?_⟩
  ·rw [r6,nc]
   constructor
   ·rintro (h | h | ⟨h1,h2,h3⟩)
    ·exact .inl h
    ·exact .inr (.inl h)
    ·exact .inr (.inr ⟨i,t,o,by rw [h1];exact hk,h2,h3⟩)
   ·rintro (h | h | ⟨i',t',o',h1,h2,h3⟩)
    ·exact .inl h
    ·exact .inr (.inl h)
    ·rw [hk] at h1;cases h1;exact .inr (.inr ⟨rfl,h2,h3⟩)
  ·have:=r7 g' b'
   rw [ZW,ZL];omega
  ·rcases List.mem_append.mp he with w | w
   ·exact (st.le.trans le1).met (ov E' n' w z hz)
   ·have w:=ZX.mp w
    injection w with w1 w2
    subst w1 w2;exact le1.met (mt z hz)
  ·rcases (nc g' b' x).mp hx with w | ⟨i',t',o',h1,h2,h3⟩
   ·have hy':y ∈ s.en g' b':=by rw [r4] at hy;rw [een];exact hy
    exact (st.le.trans le1).met (sh g' b' x y w hy' z hz)
   ·rw [hk] at h1;cases h1;subst h3;exact r8 b' y h2 hy z hz
theorem Part.edges{C:f7}(wf:WF C){I0:List @Ak}{s0:Se}{ky:Ky}{c:Nat}{F:Fn}(hF:C[ky.f]?=some F)(hd:ky.d < F.facts)(top:∀ y ∈ I0 ++ [(ky,c)],y.2 <= c)(en:∀ f a y,y ∈ s0.en f a ↔ EnOf C (I0 ++ [(ky,c)]) f a y) :
  ∀ {es ps:List (Edge×Nat)} {s:Se},(∀ E n,(E,n) ∈ es->F.edges[n]?=some E/\E.p=ky.p)->Part C I0 s0 ky c ps s->Part C I0 s0 ky c (ps ++ es) (es.foldl (E8 c ky I0.length) s)
 |[],ps,s,_,h=>by rw [Zr];exact h
 |(E,n) :: es,ps,s,he,h=>by
  obtain ⟨h1,h2⟩:=he E n ZO
  have:=Part.edges wf hF hd top en (es:=es) (λ E' n' h'=>he E' n' (ZM _ h')) (h.edge wf hF h1 h2 hd top en)
  rw [Zt] at this;exact this
theorem CaOf.mono{C:f7}{I:List @Ak}{z:Ky×Nat}{g b:Nat}{x:a0E}(h:CaOf C I g b x):CaOf C (I ++ [z]) g b x:=by
 obtain ⟨ky,c,k,n,F,E,i,t,o,e1,r⟩:=h;exact ⟨ky,c,k,n,F,E,i,t,o,H9 e1,r⟩
theorem EnOf.mono{C:f7}{I:List @Ak}{z:Ky×Nat}{f a:Nat}{y:En}(h:EnOf C I f a y):EnOf C (I ++ [z]) f a y:=by
 obtain ⟨ky,c,k,F,e1,r⟩:=h;exact ⟨ky,c,k,F,H9 e1,r⟩
theorem a5j{C:f7}(wf:WF C){s:Se}{n:Nat}{x:Of}{F:Fn}(fu:Full C s)(m:Mid C (B6 s n x))(top:∀ y ∈ (B6 s n x).I,y.2 <= x.1)(hF:C[x.2.1.f]?=some F) :
  let s1:=F9 F (B6 s n x) x.1 x.2.1 s.I.length
  Mid C s1/\s1.I=s.I ++ [(x.2.1,x.1)]/\s1.rs=s.rs ++ [x.2.2]/\s1.ca=s.ca/\Le s.L s1.L/\(∀ f a y,y ∈ s1.en f a ↔ EnOf C @AJ f a y)/\(∀ f a,(s1.en f a).length <= s.I.length + 1) /\
  (∀ g b c y,CaOf C s.I g b c->EnOf C @AJ g b y->∀ z ∈ cbL c y,Met s1.L (z.2.1.t,z.1)):=by
 have nw:∀ f a y,EnOf C @AJ f a y ↔ EnOf C s.I f a y\/(x.2.1.p + 1=F.places/\x.2.1.f=f/\x.2.1.a=a/\y=⟨x.1,x.2.1.d,s.I.length⟩):=by
  intro f a y
  constructor
  ·rintro ⟨ky,c,k,G,e1,e2,e3,e4,e5,e6⟩
   rcases C3 e1 with w | ⟨w1,w2⟩
   ·exact .inl ⟨ky,c,k,G,w,e2,e3,e4,e5,e6⟩
   ·injection w2 with w2 w3
    subst w2 w3 w1;rw [<- e2,hF] at e4;cases e4;exact .inr ⟨e5,e2,e3,e6⟩
  ·rintro (h | ⟨h1,h2,h3,h4⟩)
   ·exact h.mono
   ·exact ⟨x.2.1,x.1,s.I.length,F,v6 _ _,h2,h3,by rw [<- h2];exact hF,h1,h4⟩
 unfold F9
 by_cases ex:x.2.1.p + 1=F.places
 ·rw [if_pos ex];have m1:Mid C { B6 s n x with en:=C8 (B6 s n x).en x.2.1.f x.2.1.a ((B6 s n x).en x.2.1.f x.2.1.a ++ [⟨x.1,x.2.1.d,s.I.length⟩]) }:=⟨m.pap,m.nd,m.ti,m.tl,m.tt,m.td,m.vl,m.cu,m.np,m.pl,m.pn,m.lk⟩
  have eNew:EnOf C @AJ x.2.1.f x.2.1.a ⟨x.1,x.2.1.d,s.I.length⟩:=(nw _ _ _).mpr (.inr ⟨ex,rfl,rfl,rfl⟩)
  obtain ⟨m2,st,mt⟩:=m1.offs wf (l:=((B6 s n x).ca x.2.1.f x.2.1.a).flatMap λ c=>cbL c ⟨x.1,x.2.1.d,s.I.length⟩) λ z hz=>by
   obtain ⟨y,hy,hz⟩:=Zb.mp hz;refine ⟨a6o ((fu.rc.ca _ _ _).mp hy).mono eNew hz,λ w hw=>?_⟩
   have:=top w hw
   unfold cbL at hz;obtain ⟨e,_,rfl⟩:=ZG.mp hz;show w.2 <= y.cost + x.1;omega
  have een:(cte (B6 s n x) x.1 x.2.1 s.I.length).en=C8 s.en x.2.1.f x.2.1.a (s.en x.2.1.f x.2.1.a ++ [⟨x.1,x.2.1.d,s.I.length⟩]):=st.en;refine ⟨m2,st.I,st.rs,st.ca,st.le,λ f a y=>?_,λ f a=>?_,λ g b c y hc hy z hz=>?_⟩
  ·rw [een,nw]
   by_cases w:f=x.2.1.f/\a=x.2.1.a
   ·obtain ⟨rfl,rfl⟩:=w;rw [B5,ZK,fu.rc.en,ZX];exact ⟨λ h=>h.imp id λ h=>⟨ex,rfl,rfl,h⟩,λ h=>h.imp id λ h=>h.2.2.2⟩
   ·rw [J8 w,fu.rc.en];exact ⟨.inl,λ h=>h.elim id λ h=>absurd ⟨h.2.1.symm,h.2.2.1.symm⟩ w⟩
  ·rw [een]
   by_cases w:f=x.2.1.f/\a=x.2.1.a
   ·obtain ⟨rfl,rfl⟩:=w;rw [B5,ZW,ZL]
    have:=fu.rc.el x.2.1.f x.2.1.a;omega
   ·rw [J8 w];have:=fu.rc.el f a;omega
  ·rcases (nw g b y).mp hy with w | ⟨w1,w2,w3,w4⟩
   ·exact st.le.met (fu.sh g b c y hc w z hz)
   ·subst w2 w3 w4;exact mt z (Zb.mpr ⟨c,(fu.rc.ca _ _ _).mpr hc,hz⟩)
 ·rw [if_neg ex];refine ⟨m,rfl,rfl,rfl,Le.refl _,λ f a y=>?_,λ f a=>Nat.le_succ_of_le (fu.rc.el f a),λ g b c y hc hy z hz=>?_⟩
  ·show y ∈ s.en f a ↔ _;rw [fu.rc.en,nw];exact ⟨.inl,λ h=>h.elim id λ h=>absurd h.1 ex⟩
  ·rcases (nw g b y).mp hy with w | w
   ·exact fu.sh g b c y hc w z hz
   ·exact absurd w.1 ex
theorem Full.settle{C:f7}(wf:WF C){s:Se}{n:Nat}{x:Of}{F:Fn}(fu:Full C s)(hn:n ∈ s.pd)(e:s.T[n]?=some x)(el:look s.L x.2.1.t=some x.1)(mn:∀ k ∈ s.pd,∀ y:Of,s.T[k]?=some y->x.1 <= y.1)(hF:C[x.2.1.f]?=some F)(hd:x.2.1.d < F.facts) :
  Full C (J0 F s n x)/\(J0 F s n x).I=s.I ++ [(x.2.1,x.1)]:=by
 obtain ⟨m0,top⟩:=fu.mid.settle hn e el mn;obtain ⟨m1,a1,a2,a3,a4,a5,a6,a7⟩:=a5j wf fu m0 top hF
 have p0:Part C s.I @Bc x.2.1 x.1 [] @Bc:=by
  refine ⟨m1,a1,rfl,rfl,Le.refl _,λ g b y=>?_,λ g b=>?_,(λ _ _ h=>nomatch h),λ g b c y h=>by obtain ⟨_,_,_,_,_,h,_⟩:=h;cases h⟩
  ·rw [a3,fu.rc.ca];exact ⟨.inl,λ h=>h.elim id λ ⟨_,_,_,_,_,h,_⟩=>nomatch h⟩
  ·rw [a3];exact fu.rc.cl g b
 have P:=Part.edges wf hF hd top a5 (es:=L7 F x.2.1.p) (λ E k h=>mem_fromE.mp h) p0;rw [Zj] at P;have P:Part C s.I _ x.2.1 x.1 (L7 F x.2.1.p) (J0 F s n x):=P
 have caI:∀ g b y,CaOf C @AJ g b y ↔ CaOf C s.I g b y\/U1 x.2.1 x.1 s.I.length (L7 F x.2.1.p) g b y:=by
  intro g b y
  constructor
  ·rintro ⟨ky,c,k,j,G,E,i,t,o,e1,e2,e3,e4,e5,e6,e7⟩
   rcases C3 e1 with w | ⟨w1,w2⟩
   ·exact .inl ⟨ky,c,k,j,G,E,i,t,o,w,e2,e3,e4,e5,e6,e7⟩
   ·injection w2 with w2 w3
    subst w2 w3 w1;rw [hF] at e2;cases e2;exact .inr ⟨E,j,i,t,o,mem_fromE.mpr ⟨e3,e4⟩,e5,e6,e7⟩
  ·rintro (h | ⟨E,j,i,t,o,h1,h2,h3,h4⟩)
   ·exact h.mono
   ·obtain ⟨q1,q2⟩:=mem_fromE.mp h1;exact ⟨x.2.1,x.1,s.I.length,j,F,E,i,t,o,v6 _ _,hF,q1,q2,h2,h3,h4⟩
 have eI:(J0 F s n x).I=s.I ++ [(x.2.1,x.1)]:=P.eI;have le:Le s.L (J0 F s n x).L:=a4.trans P.le;have fl:(L7 F x.2.1.p).length <= 100:=Zu (a1D F _) (wf.fn _ F hF).2.2.2.2.1;refine ⟨⟨P.mid,⟨λ g b y=>?_,λ f a y=>?_,λ g b=>?_,λ f a=>?_⟩,λ ky c G E k hI hG hE hp z hz=>?_,λ g b c y hc hy z hz=>?_,λ f G d h1 h2=>le.met (fu.bg f G d h1 h2)⟩,eI⟩
 ·rw [eI,P.ca,caI]
 ·rw [eI,P.een,a5]
 ·have:=P.cl g b
  rw [eI,ZW,ZL];omega
 ·rw [eI,P.een,ZW,ZL];exact a6 f a
 ·rw [eI] at hI
  rcases List.mem_append.mp hI with w | w
  ·exact le.met (fu.ov ky c G E k w hG hE hp z hz)
  ·have w:=ZX.mp w
   injection w with w1 w2
   subst w1 w2;rw [hF] at hG;cases hG;exact P.ov E k (mem_fromE.mpr ⟨hE,hp⟩) (_,⟨_,_,E.q,z⟩,_) (ZG.mpr ⟨z,hz,rfl⟩)
 ·rw [eI] at hc hy
  rcases (caI g b c).mp hc with w | w
  ·exact P.le.met (a7 g b c y w hy z hz)
  ·exact P.sh g b c y w (by rw [P.een,a5];exact hy) z hz
end CM
namespace CM
open PySem L2 DL
def se0:Se:=⟨[],[],[],[],[],λ _ _=>[],λ _ _=>[]⟩
def a0P(x:Fn×Nat):List Of:=(List.range x.1.facts).map λ d=>(0,⟨x.2,d,0,d⟩,.begin x.2 d)
def a7a(C:f7):List Of:=C.zipIdx.flatMap a0P
theorem c0S(C:f7):Mid C se0:=by
 refine ⟨rfl,List.nodup_nil,λ _ h=>(nomatch h),λ k c h=>(nomatch h),λ n x h=>?_,λ n m x y h=>?_,λ n x h=>?_,λ n h=>(nomatch h),λ n h=>(nomatch h),λ n h=>(nomatch h),List.nodup_nil,TOk.nil⟩ <;> exact absurd h (by rw [show se0.T=[] from rfl,List.getElem?_nil];exact λ z=>nomatch z)
theorem b0C{C:f7}:∀ z ∈ a7a C,D2 C se0 z:=λ z hz=>by
 obtain ⟨x,hx,hz⟩:=Zb.mp hz;unfold a0P at hz;obtain ⟨d,hd,rfl⟩:=ZG.mp hz;have hd:=Zo.mp hd;have hx:=List.mem_zipIdx_iff_getElem?.mp hx;refine ⟨?_,λ _ h=>nomatch h⟩;show (if (0:Int) <= (x.2:Int)/\(0:Int) <= (d:Int) then (C[(x.2:Int).toNat]?).bind λ F=>if (d:Int) < F.facts then some (Clm.within (x.2:Int).toNat (d:Int).toNat 0 (d:Int).toNat 0) else none else none)=_;rw [if_pos ⟨Int.natCast_nonneg _,Int.natCast_nonneg _⟩,ZB,ZB,hx];show (if (d:Int) < x.1.facts then some (Clm.within x.2 d 0 d 0) else none)=_;rw [if_pos (Int.ofNat_lt.mpr hd)];rfl
theorem c0g{C:f7}(wf:WF C):Full C (offs se0 (a7a C))/\(offs se0 (a7a C)).I=[]:=by
 obtain ⟨m,st,mt⟩:=(c0S C).offs wf b0C;have eI:(offs se0 (a7a C)).I=[]:=st.I;refine ⟨⟨m,⟨λ g b x=>?_,λ f a y=>?_,λ g b=>?_,λ f a=>?_⟩,λ ky c F E n h=>?_,λ g b x y h=>?_,λ f F d hf hd=>?_⟩,eI⟩
 ·rw [st.ca,eI];exact ⟨λ h=>(nomatch h),λ ⟨_,_,k,_,_,_,_,_,_,h,_⟩=>by rw [List.getElem?_nil] at h;cases h⟩
 ·rw [st.en,eI];exact ⟨λ h=>(nomatch h),λ ⟨_,_,k,_,h,_⟩=>by rw [List.getElem?_nil] at h;cases h⟩
 ·rw [st.ca];exact YL _
 ·rw [st.en];exact YL _
 ·rw [eI] at h;cases h
 ·obtain ⟨_,_,k,_,_,_,_,_,_,h,_⟩:=h;rw [eI,List.getElem?_nil] at h;cases h
 ·exact mt (0,⟨f,d,0,d⟩,.begin f d) (Zb.mpr ⟨(F,f),List.mem_zipIdx_iff_getElem?.mpr hf,ZG.mpr ⟨d,Zo.mpr hd,rfl⟩⟩)
structure Done(C:f7)(rs:List Row)(I:List (Ky×Nat)):Prop where
 pap:n9 C 0 rs []=some (u7 I)
 nd:(I.map (·.1)).Nodup
 bg:∀ f F d,C[f]?=some F->d < F.facts->(⟨f,d,0,d⟩,0) ∈ I
 ov:∀ (ky:Ky) (c:Nat) (F:Fn) (E:Edge) (n:Nat),(ky,c) ∈ I->C[ky.f]?=some F->F.edges[n]?=some E->E.p=ky.p->∀ e ∈ l8 ((O1 E).getD ky.d 0),∃ c',(⟨ky.f,ky.a,E.q,e⟩,c') ∈ I/\c' <= c + E.cost
 sh:∀ (g b:Nat) (x:a0E) (y:En),CaOf C I g b x->EnOf C I g b y->∀ z ∈ cbL x y,∃ c',(z.2.1,c') ∈ I/\c' <= z.1
theorem Full.done{C:f7}{s:Se}(fu:Full C s)(h0:s.pd=[]):Done C s.rs s.I:=by
 have key:∀ (k:Ky) (c:Nat),Met s.L (k.t,c)->∃ c',(k,c') ∈ s.I/\c' <= c:=λ k c ⟨c',h1,h2⟩=>by
  obtain ⟨ky,e,w⟩:=fu.mid.tl _ _ h1;rw [Ky.inj e]
  rcases w with w | ⟨n,hn,_⟩
  ·exact ⟨c',w,h2⟩
  ·rw [h0] at hn;cases hn
 refine ⟨fu.mid.pap,fu.mid.nd,λ f F d h1 h2=>?_,λ ky c F E n h1 h2 h3 h4 e he=>key ⟨_,_,_,_⟩ _ (fu.ov ky c F E n h1 h2 h3 h4 e he),λ g b x y h1 h2 z hz=>key _ _ (fu.sh g b x y h1 h2 z hz)⟩;obtain ⟨c',h3,h4⟩:=key ⟨f,d,0,d⟩ 0 (fu.bg f F d h1 h2);rw [Nat.le_zero.mp h4] at h3;exact h3
theorem a2G{α:Type}{l:List α}(nd:l.Nodup){i j:Nat}(hi:i < l.length)(hj:j < l.length)(e:l[i]=l[j]):i=j:=by
 have h:=List.pairwise_iff_getElem.mp nd
 rcases Nat.lt_trichotomy i j with z | z | z
 ·exact absurd e (h i j hi hj z)
 ·exact z
 ·exact absurd e.symm (h j i hj hi z)
theorem b0o{α:Type} [DecidableEq α]:∀ (T:List α) (B:Nat) (f:Nat->α),T.length < B->(∀ i j,i < B->j < B->f i=f j->i=j)->∃ i,i < B/\f i ∉ T
 |[],B,f,h,_=>⟨0,by simpa using h,by simp⟩
 |a :: T,B,f,h,inj=>by
  by_cases z:∃ k,k < B/\f k=a
  ·obtain ⟨k,hk,ek⟩:=z;have h:T.length + 1 < B:=h
   obtain ⟨i,hi,ni⟩:=b0o T (B - 1) (λ i=>if i < k then f i else f (i + 1)) @D (λ i j hi hj e=>by
    have e:(if i < k then f i else f (i + 1))=if j < k then f j else f (j + 1):=e
    by_cases a1:i < k <;> by_cases a2:j < k
    ·rw [if_pos a1,if_pos a2] at e;exact inj i j @D @D e
    ·rw [if_pos a1,if_neg a2] at e;have:=inj i (j + 1) @D @D e;omega
    ·rw [if_neg a1,if_pos a2] at e;have:=inj (i + 1) j @D @D e;omega
    ·rw [if_neg a1,if_neg a2] at e;have:=inj (i + 1) (j + 1) @D @D e;omega)
   have ni:(if i < k then f i else f (i + 1)) ∉ T:=ni
   by_cases a1:i < k
   ·rw [if_pos a1] at ni;refine ⟨i,by omega,λ q=>?_⟩
    rcases List.mem_cons.mp q with q | q
    ·have:=inj i k @D hk (q.trans ek.symm);omega
    ·exact ni q
   ·rw [if_neg a1] at ni;refine ⟨i + 1,by omega,λ q=>?_⟩
    rcases List.mem_cons.mp q with q | q
    ·have:=inj (i + 1) k @D hk (q.trans ek.symm);omega
    ·exact ni q
  ·have h:T.length + 1 < B:=h;obtain ⟨i,hi,ni⟩:=b0o T B f @D inj;exact ⟨i,hi,λ q=>(List.mem_cons.mp q).elim (λ q=>z ⟨i,hi,q⟩) ni⟩
theorem few{B M:Nat}{f:Nat->Nat}(lt:∀ i,i < B->f i < M)(inj:∀ i j,i < B->j < B->f i=f j->i=j):B <= M:=by
 rcases Nat.lt_or_ge M B with z | z
 ·obtain ⟨i,hi,n⟩:=b0o (List.range M) B f (by rw [Zv];exact z) inj;exact absurd (Zo.mpr (lt i hi)) n
 ·exact z
def a5C:Kt->Nat
 |[f,a,p,d]=>((f * 6 + a) * 10 + p) * 6 + d
 |_=>0
theorem K4.lt{C:f7}(wf:WF C){k:Kt}(h:K4 C k):∃ f a p d,k=[f,a,p,d]/\f < 6/\a < 6/\p < 10/\d < 6:=by
 obtain ⟨f,a,p,d,F,e,hF,h1,h2,h3⟩:=h;have hf:=(ZY.mp hF).1;have h4:=wf.six;obtain ⟨_,h5,_,h6,_⟩:=wf.fn f F hF;exact ⟨f,a,p,d,e,by omega,by omega,by omega,by omega⟩
theorem a7U{C:f7}(wf:WF C){k:Kt}(h:K4 C k):a5C k < 2160:=by
 obtain ⟨f,a,p,d,rfl,h1,h2,h3,h4⟩:=h.lt wf;show ((f * 6 + a) * 10 + p) * 6 + d < 2160;omega
theorem a7n{C:f7}(wf:WF C){k l:Kt}(h:K4 C k)(h':K4 C l)(e:a5C k=a5C l):k=l:=by
 obtain ⟨f,a,p,d,rfl,h1,h2,h3,h4⟩:=h.lt wf;obtain ⟨f',a',p',d',rfl,g1,g2,g3,g4⟩:=h'.lt wf;have e:((f * 6 + a) * 10 + p) * 6 + d=((f' * 6 + a') * 10 + p') * 6 + d':=e;have e1:f=f':=by omega
 have e2:a=a':=by omega
 have e3:p=p':=by omega
 have e4:d=d':=by omega
 rw [e1,e2,e3,e4]
theorem a3z{C:f7}(wf:WF C){ks:List Kt}(nd:ks.Nodup)(all:∀ k ∈ ks,K4 C k):ks.length <= 2160:=by
 have g:∀ i,i < ks.length->ks.getD i [] ∈ ks:=λ i hi=>by
  rw [ZQ,ZZ hi];exact Zq hi
 refine few (f:=λ i=>a5C (ks.getD i [])) (λ i hi=>a7U wf (all _ (g i hi))) λ i j hi hj e=>?_;have e:=a7n wf (all _ (g i hi)) (all _ (g j hj)) e;rw [ZQ,ZQ,ZZ hi,ZZ hj] at e;exact a2G nd hi hj e
theorem Mid.Lfew{C:f7}{s:Se}(wf:WF C)(m:Mid C s):s.L.length <= 2160:=by
 have:=a3z wf m.lk.nd m.lk.all
 unfold keys at this
 rwa [ZS] at this
theorem Mid.kI{C:f7}{s:Se}(wf:WF C)(m:Mid C s){ky:Ky}{c:Nat}(h:(ky,c) ∈ s.I):K4 C ky.t:=by
 obtain ⟨F,h1,h2,h3,h4⟩:=G1 wf (cs:=[]) (λ c h=>nomatch h) m.pap (ky.w c) (ZG.mpr ⟨(ky,c),h,rfl⟩);exact ⟨_,_,_,_,F,rfl,h1,h2,h3,h4⟩
theorem Mid.Ifew{C:f7}{s:Se}(wf:WF C)(m:Mid C s):s.I.length <= 2160:=by
 have:((s.I.map (·.1)).map Ky.t).length <= 2160:=a3z wf (by
  unfold List.Nodup;rw [List.pairwise_map]
  exact List.Pairwise.imp (λ h e=>h (Ky.inj e)) m.nd) λ k hk=>by
   obtain ⟨ky,h1,rfl⟩:=ZG.mp hk;obtain ⟨x,h2,rfl⟩:=ZG.mp h1;exact m.kI wf (c:=x.2) h2
 rwa [ZS,ZS] at this
def kAt(I:List @Ak)(k:Int):Ky:=match I[k.toNat]? with | some x=>x.1 | none=>⟨0,0,0,0⟩
def A9(I:List @Ak):Row->Nat
 |.begin f d=>f.toNat * 6 + d.toNat
 |.mv w k n e=>100 + ((((((if w = .step then 0 else 1) * 6 + (kAt I k).f) * 100 + n.toNat) * 6 + (kAt I k).a) * 6 + (kAt I k).d) * 6 + e.toNat)
 |.short k n j e=>300000 + ((((((kAt I k).f * 100 + n.toNat) * 6 + (kAt I k).a) * 6 + (kAt I k).d) * 6 + (kAt I j).a) * 6 + (kAt I j).d) * 6 + e.toNat
 |_=>0
inductive T0(C:f7)(I:List (Ky×Nat)):Row->Prop
 |begin {f d:Nat}:f < 6->d < 6->T0 C I (.begin f d)
 |mv {w:Mv} {k n e:Nat} {ky:Ky} {c:Nat} {F:Fn} {E:Edge}:w ≠ .inn->I[k]?=some (ky,c)->C[ky.f]?=some F->F.edges[n]?=some E->E.p=ky.p->e < 6->n < 100->T0 C I (.mv w k n e)
 |short {k n j e:Nat} {ky kz:Ky} {c c':Nat} {F G:Fn} {E:Edge} {i t o:List Nat}:I[k]?=some (ky,c)->I[j]?=some (kz,c')->C[ky.f]?=some F->F.edges[n]?=some E->E.p=ky.p->E.k = .call kz.f i t o->C[kz.f]?=some G->kz.p + 1=G.places->e < 6->n < 100->T0 C I (.short k n j e)
theorem b1i{t:List Nat}{n m d:Nat}{e:Int}(ht:tOk t n m)(hd:d < n)(hb:br t d e=true):e.toNat < m:=by
 unfold br at hb;rw [ZC] at hb;have hx:=(ht.get hd).2
 rcases Nat.lt_or_ge e.toNat m with z | z
 ·exact z
 ·rw [Nat.testBit_lt_two_pow (ZD hx (Nat.pow_le_pow_right @B z))] at hb;exact absurd hb.2 ZR
theorem G9{I:List @Ak}{k:Int}{c:Clm}(h:i8 (u7 I) k=some c):∃ (j:Nat) (ky:Ky) (x:Nat),k=j/\I[j]?=some (ky,x)/\c=ky.w x:=by
 unfold i8 at h
 split at h
 ·rename_i z;unfold u7 at h;rw [ZP] at h
  cases q:I[k.toNat]? with
  |none=>rw [q] at h;cases h
  |some y =>
   show X;exact ⟨k.toNat,y.1,y.2,by omega,q,(Option.some.inj h).symm⟩
 ·cases h
theorem b6Z{C:f7}(wf:WF C){I:List @Ak}(ok:∀ c ∈ u7 I,a0a C c){r:Row}{f a p d c:Nat}(h:i5 C 0 (u7 I) r=some (.within f a p d c)):T0 C I r:=by
 have mvc:∀ (w:Mv) (k n e:Int),w ≠ .inn->(match i8 (u7 I) k with | some (.within f a p d c)=>(m4 C f p d w n e).map λ E=>Clm.within f a E.q e.toNat (c + E.cost) | _=>none)=some (.within f a p d c)->T0 C I (.mv w k n e):=by
  intro w k n e hw h
  cases q:i8 (u7 I) k with
  |none=>rw [q] at h;cases h
  |some y =>
   obtain ⟨j,ky,x,rfl,h1,rfl⟩:=G9 q;show X;have h:(m4 C ky.f ky.p ky.d w n e).map (λ E=>Clm.within ky.f ky.a E.q e.toNat (x + E.cost))=_:=h
   cases q2:m4 C ky.f ky.p ky.d w n e with
   |none=>rw [q2] at h;cases h
   |some E =>
    obtain ⟨t1,t2,t3,t4,t5⟩:=A4 q2;obtain ⟨F,f1,f2,f3⟩:=A3 t1;obtain ⟨F',g1,g2,g3,g4⟩:=ok _ (ZG.mpr ⟨(ky,x),ZT h1,rfl⟩);rw [f2] at g1;cases g1;obtain ⟨_,_,_,w4,w5,w6⟩:=wf.fn _ F f2;have eo:=w6 E (ZT f3);have nl:=(ZY.mp f3).1
    have el:e.toNat < 6:=by
     obtain ⟨_,_,_,_,ek⟩:=eo;obtain ⟨ep,eq,ec,kd⟩:=E
     cases kd with
     |step t =>
      cases w with
      |step=>have:=b1i ek g4 t4;omega
      |over=>cases t2
      |inn=>exact absurd rfl hw
     |call g i b o =>
      obtain ⟨G,_,_,_,o3⟩:=ek
      cases w with
      |step=>cases t2
      |over=>have:=b1i o3 g4 t4;omega
      |inn=>exact absurd rfl hw
    have en:n=((n.toNat:Nat):Int):=by omega
    have ee:e=((e.toNat:Nat):Int):=by omega
    rw [en,ee];exact .mv hw h1 f2 f3 t3 el @D
 cases r with
 |begin f' d' =>
  have h:(if 0 <= f'/\0 <= d' then (C[f'.toNat]?).bind λ F=>if d' < F.facts then some (Clm.within f'.toNat d'.toNat 0 d'.toNat 0) else none else none)=_:=h
  split at h
  ·rename_i z
   cases q:C[f'.toNat]? with
   |none=>rw [q] at h;cases h
   |some F =>
    show X;have h:(if d' < F.facts then some (Clm.within f'.toNat d'.toNat 0 d'.toNat 0) else none)=_:=h
    split at h
    ·have h6:=wf.six;have hl:=(ZY.mp q).1;have hf:=(wf.fn _ F q).2.2.2.1;have e1:f'=((f'.toNat:Nat):Int):=by omega
     have e2:d'=((d'.toNat:Nat):Int):=by omega
     rw [e1,e2];exact .begin @D @D
    ·cases h
  ·cases h
 |start d' =>
  have h:(if 0 <= d' then (C[0]?).bind λ F=>if d' < F.facts/\Nat.testBit 0 d'.toNat=true then some (Clm.at 0 0 d'.toNat 0) else none else none)=_:=h
  split at h
  ·cases q:C[0]? with
   |none=>rw [q] at h;cases h
   |some F =>
    show X;have h:(if d' < F.facts/\Nat.testBit 0 d'.toNat=true then some (Clm.at 0 0 d'.toNat 0) else none)=_:=h
    split at h <;> cases h
  ·cases h
 |mv w k n e =>
  cases w with
  |step=>exact mvc .step k n e (by decide) h
  |over=>exact mvc .over k n e (by decide) h
  |inn =>
   dsimp only [i5] at h
   cases q:i8 (u7 I) k with
   |none=>rw [q] at h;cases h
   |some y =>
    obtain ⟨j,ky,x,rfl,h1,rfl⟩:=G9 q;show X;cases h
 |short k n j e =>
  dsimp only [i5] at h
  cases q:i8 (u7 I) k with
  |none=>rw [q] at h;cases h
  |some y =>
   obtain ⟨k',ky,x,rfl,h1,rfl⟩:=G9 q;show X
   cases q':i8 (u7 I) j with
   |none=>rw [q'] at h;cases h
   |some y' =>
    obtain ⟨j',kz,x',rfl,h1',rfl⟩:=G9 q';rw [q'] at h;have h:((m4 C ky.f ky.p ky.d .inn n (kz.a:Int)).bind λ E=>match E.k with | .call g' _ bk _=>(C[g']?).bind λ G=>if g'=kz.f/\kz.p + 1=G.places/\br bk kz.d e=true then some @AY else none | _=>none)=_:=h
    cases q2:m4 C ky.f ky.p ky.d .inn n (kz.a:Int) with
    |none=>rw [q2] at h;cases h
    |some E =>
     rw [q2] at h;obtain ⟨F,g,i,b,o,G,a1,a2,a3,a4,a5,a6,a7,a8,a9,a10⟩:=L6 wf q2;obtain ⟨t1,_,_,_,_⟩:=A4 q2;obtain ⟨F',f1,f2,f3⟩:=A3 t1;rw [a1] at f2;cases f2;have h:(match E.k with | .call g' _ bk _=>(C[g']?).bind λ G=>if g'=kz.f/\kz.p + 1=G.places/\br bk kz.d e=true then some @AY else none | _=>none)=_:=h;rw [a2] at h;have h:((C[g]?).bind λ G=>if g=kz.f/\kz.p + 1=G.places/\br b kz.d e=true then some @AY else none)=_:=h;rw [a3] at h;have h:(if g=kz.f/\kz.p + 1=G.places/\br b kz.d e=true then some @AY else none)=_:=h
     split at h
     ·rename_i z;obtain ⟨z1,z2,z3⟩:=z;subst z1;obtain ⟨G',g1,g2,g3,g4⟩:=ok _ (ZG.mpr ⟨(kz,x'),ZT h1',rfl⟩);rw [a3] at g1;cases g1;obtain ⟨_,_,_,w4,w5,_⟩:=wf.fn _ F a1;have nl:=(ZY.mp f3).1;have el:=b1i a5 g4 z3
      have e0:0 <= e:=by
       unfold br at z3;rw [ZC] at z3;exact of_decide_eq_true z3.1
      have en:n=((n.toNat:Nat):Int):=by omega
      have ee:e=((e.toNat:Nat):Int):=by omega
      rw [en,ee];exact .short h1 h1' a1 f3 a8 a2 a3 z2 @D @D
     ·cases h
 |along k j =>
  dsimp only [i5] at h
  cases q:i8 (u7 I) k with
  |none=>rw [q] at h;cases h
  |some y =>
   obtain ⟨k',ky,x,rfl,h1,rfl⟩:=G9 q;show X
   cases q':i8 (u7 I) j <;> rw [q'] at h <;> cases h
theorem B0{I:List @Ak}{k:Nat}{ky:Ky}{c:Nat}(h:I[k]?=some (ky,c)):kAt I (k:Int)=ky:=by
 unfold kAt;rw [ZB,h]
theorem T2{I:List @Ak}(nd:(I.map (·.1)).Nodup){k j:Nat}{ky:Ky}{c c':Nat}(h:I[k]?=some (ky,c))(h':I[j]?=some (ky,c')):k=j:=by
 obtain ⟨l1,e1⟩:=ZY.mp h;obtain ⟨l2,e2⟩:=ZY.mp h';refine a2G nd (by rw [ZS];exact l1) (by rw [ZS];exact l2) ?_;rw [YT,YT,e1,e2]
theorem b1r{C:f7}(wf:WF C){I:List @Ak}(ok:∀ x ∈ I,K4 C x.1.t){r:Row}(h:T0 C I r):A9 I r < 5000000:=by
 have lt:∀ {k:Nat} {ky:Ky} {c:Nat},I[k]?=some (ky,c)->ky.f < 6/\ky.a < 6/\ky.d < 6:=λ {k ky c} h=>by
  obtain ⟨f,a,p,d,e,h1,h2,h3,h4⟩:=(ok _ (ZT h)).lt wf;have e:[ky.f,ky.a,ky.p,ky.d]=[f,a,p,d]:=e
  injection e with e1 e
  injection e with e2 e
  injection e with e3 e
  injection e with e4 _
  omega
 cases h with
 |begin h1 h2=>simp only [A9,Int.toNat_natCast];omega
 |mv h1 h2 h3 h4 h5 h6 h7 =>
  obtain ⟨l1,l2,l3⟩:=lt h2;simp only [A9,B0 h2,Int.toNat_natCast]
  split <;> omega
 |short h1 h2 h3 h4 h5 h6 h7 h8 h9 h10 =>
  obtain ⟨l1,l2,l3⟩:=lt h1;obtain ⟨l4,l5,l6⟩:=lt h2;simp only [A9,B0 h1,B0 h2,Int.toNat_natCast];omega
theorem a6y{C:f7}(wf:WF C){I:List @Ak}(nd:(I.map (·.1)).Nodup)(ok:∀ x ∈ I,K4 C x.1.t){r r':Row}(h:T0 C I r)(h':T0 C I r')(e:A9 I r=A9 I r'):r=r':=by
 have lt:∀ {k:Nat} {ky:Ky} {c:Nat},I[k]?=some (ky,c)->ky.f < 6/\ky.a < 6/\ky.d < 6:=λ {k ky c} h=>by
  obtain ⟨f,a,p,d,e,h1,h2,h3,h4⟩:=(ok _ (ZT h)).lt wf;have e:[ky.f,ky.a,ky.p,ky.d]=[f,a,p,d]:=e
  injection e with e1 e
  injection e with e2 e
  injection e with e3 e
  injection e with e4 _
  omega
 cases h with
 |@begin f d h1 h2 =>
  cases h' with
  |@begin f' d' g1 g2 =>
   simp only [A9,Int.toNat_natCast] at e;have e1:f=f':=by omega
   have e2:d=d':=by omega
   rw [e1,e2]
  |mv g1 g2=>simp only [A9,Int.toNat_natCast] at e;omega
  |short g1=>simp only [A9,Int.toNat_natCast] at e;omega
 |@mv w k n x ky c F E h1 h2 h3 h4 h5 h6 h7 =>
  obtain ⟨l1,l2,l3⟩:=lt h2
  cases h' with
  |begin g1 g2=>simp only [A9,Int.toNat_natCast] at e;omega
  |@mv w' k' n' x' ky' c' F' E' g1 g2 g3 g4 g5 g6 g7 =>
   obtain ⟨l4,l5,l6⟩:=lt g2;simp only [A9,B0 h2,B0 g2,Int.toNat_natCast] at e;have wb:∀ v:Mv,(if v = .step then 0 else 1) < 2:=λ v=>by split <;> decide
   have b1:=wb w;have b2:=wb w'
   have e0:(if w = .step then 0 else 1)=(if w' = .step then 0 else 1:Nat):=by
    generalize (if w = .step then 0 else 1:Nat)=u at *;generalize (if w' = .step then 0 else 1:Nat)=u' at *;omega
   have ew:w=w':=by
    cases w <;> cases w' <;> first | rfl | exact absurd e0 @B | exact absurd rfl h1 | exact absurd rfl g1
   subst ew;generalize (if w = .step then 0 else 1:Nat)=u at *;obtain ⟨f1,a1,p1,d1⟩:=ky;obtain ⟨f2,a2,p2,d2⟩:=ky';dsimp only at *;have e1:f1=f2:=by omega
   have e2:n=n':=by omega
   have e3:a1=a2:=by omega
   have e4:d1=d2:=by omega
   have e5:x=x':=by omega
   subst e1 e2 e3 e4 e5;rw [h3] at g3;cases g3;rw [h4] at g4;cases g4
   have:p1=p2:=by rw [<- h5,<- g5]
   subst this;rw [T2 nd h2 g2]
  |short g1 g2 =>
   simp only [A9,B0 h2,Int.toNat_natCast] at e
   split at e <;> omega
 |@short k n j x ky kz c c' F G E i t o h1 h2 h3 h4 h5 h6 h7 h8 h9 h10 =>
  obtain ⟨l1,l2,l3⟩:=lt h1;obtain ⟨l1',l2',l3'⟩:=lt h2
  cases h' with
  |begin g1 g2=>simp only [A9,Int.toNat_natCast] at e;omega
  |mv g1 g2 g3 g4 g5 g6 g7 =>
   obtain ⟨l4,l5,l6⟩:=lt g2;simp only [A9,B0 g2,Int.toNat_natCast] at e
   split at e <;> omega
  |@short k' n' j' x' ky' kz' c2 c2' F' G' E' i' t' o' g1 g2 g3 g4 g5 g6 g7 g8 g9 g10 =>
   obtain ⟨l4,l5,l6⟩:=lt g1;obtain ⟨l4',l5',l6'⟩:=lt g2;simp only [A9,B0 h1,B0 g1,B0 h2,B0 g2,Int.toNat_natCast] at e;obtain ⟨f1,a1,p1,d1⟩:=ky;obtain ⟨f2,a2,p2,d2⟩:=ky';obtain ⟨f3,a3,p3,d3⟩:=kz;obtain ⟨f4,a4,p4,d4⟩:=kz';dsimp only at *;have e1:f1=f2:=by omega
   have e2:n=n':=by omega
   have e3:a1=a2:=by omega
   have e4:d1=d2:=by omega
   have e5:a3=a4:=by omega
   have e6:d3=d4:=by omega
   have e7:x=x':=by omega
   subst e1 e2 e3 e4 e5 e6 e7;rw [h3] at g3;cases g3;rw [h4] at g4;cases g4;rw [h6] at g6;cases g6;rw [h7] at g7;cases g7
   have:p1=p2:=by rw [<- h5,<- g5]
   subst this
   have:p3=p4:=by omega
   subst this;rw [T2 nd h1 g1,T2 nd h2 g2]
theorem Mid.Tfew{C:f7}{s:Se}(wf:WF C)(m:Mid C s):s.T.length <= 5000000:=by
 have ok:=G1 wf (cs:=[]) (λ c h=>nomatch h) m.pap;have okI:∀ x ∈ s.I,K4 C x.1.t:=λ x hx=>m.kI wf (c:=x.2) hx;have g:∀ i (hi:i < s.T.length),T0 C s.I (s.T[i]).2.2:=λ i hi=>b6Z wf ok (m.vl i _ (ZZ hi));refine few (f:=λ i=>match s.T[i]? with | some x=>A9 s.I x.2.2 | none=>0) (λ i hi=>?_) λ i j hi hj e=>?_
 ·show (match s.T[i]? with | some x=>A9 s.I x.2.2 | none=>0) < _;rw [ZZ hi];exact b1r wf okI (g i hi)
 ·have e:(match s.T[i]? with | some x=>A9 s.I x.2.2 | none=>0)=(match s.T[j]? with | some x=>A9 s.I x.2.2 | none=>0):=e;rw [ZZ hi,ZZ hj] at e;have er:=a6y wf m.nd okI (g i hi) (g j hj) e;have v1:=m.vl i _ (ZZ hi);have v2:=m.vl j _ (ZZ hj);rw [er,v2] at v1;obtain ⟨k1,k2⟩:=Ky.w_inj (Option.some.inj v1);exact m.td i j _ _ (ZZ hi) (ZZ hj) k1.symm k2.symm
theorem Mid.Pfew{C:f7}{s:Se}(wf:WF C)(m:Mid C s):s.pd.length <= 5000000:=by
 refine few (f:=λ i=>s.pd.getD i 0) (λ i hi=>?_) λ i j hi hj e=>?_
 ·show s.pd.getD i 0 < _;rw [ZQ,ZZ hi];exact ZD (m.pl _ (Zq hi)) (m.Tfew wf)
 ·have e:s.pd.getD i 0=s.pd.getD j 0:=e;rw [ZQ,ZQ,ZZ hi,ZZ hj] at e;exact a2G m.pn hi hj e
end CM
namespace CM
open PySem L2 DL
theorem w9{h0 l:Hh}{j:Nat}:(h0 ++ l)[h0.length + j]?=l[j]?:=by
 rw [ZA (YU _ _),Nat.add_sub_cancel_left]
theorem B4{h0 l:Hh}{j:Nat}{o:O}:(h0 ++ l).set (h0.length + j) o=h0 ++ l.set j o:=by
 rw [Zn _ _ (YU _ _),Nat.add_sub_cancel_left]
def U6(T:List Of):Tb:=T.map λ x=>((x.1:Int),.tup [tkD x.2.1.t,rD x.2.2])
theorem U0(T:List Of):(U6 T).length=T.length:=ZS ..
theorem a3v(T:List Of)(x:Of):U6 (T ++ [x])=U6 T ++ [((x.1:Int),.tup [tkD x.2.1.t,rD x.2.2])]:=Zz
theorem a2V{T:List Of}{n:Nat}{x:Of}(e:T[n]?=some x):cst (U6 T) n=x.1:=by
 unfold cst U6;rw [ZQ,ZP,e];rfl
theorem b3Z{T:List Of}{n:Nat}{x:Of}(e:T[n]?=some x):thg (U6 T) n = .tup [tkD x.2.1.t,rD x.2.2]:=by
 unfold thg U6;rw [ZQ,ZP,e];rfl
def O2(c:a0E):D:=.tup [nD c.cost,tkD c.key.t,nD c.k,nD c.n,eD c.E]
def a6M(e:En):D:=.tup [nD e.cost,nD e.d,nD e.k]
def fnd(I:List @Ak):Ct:=I.zipIdx.map λ x=>(x.1.1.t,x.2)
abbrev Dyn:=List (Option (Bool×Nat×Nat)×List D)
def z7(y:Dyn):List O:=y.map λ x=>.lst x.2
structure Dy(n:Nat)(y:Dyn)(tg:Bool)(kvs:List (List Key×D))(f:Nat->Nat->List D):Prop where
 nd:(kvs.map (·.1)).Nodup
 all:∀ k ∈ kvs.map (·.1),∃ g b,k=kN [g,b]/\g < 6/\b < 6
 at_:∀ g b,(C7 kvs (kN [g,b])=none/\f g b=[])\/∃ i,C7 kvs (kN [g,b])=some (.ref (n + (9 + i)))/\y[i]?=some (some (tg,g,b),f g b)
def Z0:List Key->Nat
 |[.inl g,.inl b]=>g.toNat * 6 + b.toNat
 |_=>0
theorem Dy.few{n:Nat}{y:Dyn}{tg:Bool}{kvs:List @Al}{f:Nat->Nat->List D}(d:Dy n y tg kvs f):kvs.length <= 36:=by
 have g:∀ i (hi:i < kvs.length),∃ g b,kvs[i].1=kN [g,b]/\g < 6/\b < 6:=λ i hi=>d.all _ (ZG.mpr ⟨kvs[i],Zq hi,rfl⟩)
 have c:∀ g b:Nat,Z0 (kN [g,b])=g * 6 + b:=λ g b=>by
  show (g:Int).toNat * 6 + (b:Int).toNat=_;rw [ZB,ZB]
 refine CM.few (f:=λ i=>match kvs[i]? with | some x=>Z0 x.1 | none=>0) (λ i hi=>?_) λ i j hi hj e=>?_
 ·obtain ⟨a,b,e1,h1,h2⟩:=g i hi;show (match kvs[i]? with | some x=>Z0 x.1 | none=>0) < 36;rw [ZZ hi];show Z0 kvs[i].1 < 36;rw [e1,c];omega
 ·obtain ⟨a,b,e1,h1,h2⟩:=g i hi;obtain ⟨a',b',e1',h1',h2'⟩:=g j hj;have e:(match kvs[i]? with | some x=>Z0 x.1 | none=>0)=(match kvs[j]? with | some x=>Z0 x.1 | none=>0):=e;rw [ZZ hi,ZZ hj] at e;have e:Z0 kvs[i].1=Z0 kvs[j].1:=e;rw [e1,e1',c,c] at e;have x1:a=a':=by omega
  have x2:b=b':=by omega
  refine a2G d.nd (by rw [ZS];exact hi) (by rw [ZS];exact hj) ?_;rw [YT,YT,e1,e1',x1,x2]
def seO(n:Nat)(C:f7):O:=.ins "Search" [("chart",cD C),("offers",.ref (n + 1)),("rows",.ref (n + 5)),("found",.ref (n + 6)),("calls",.ref (n + 7)),("ends",.ref (n + 8))]
def ofO(n:Nat):O:=.ins "Offers" [("queue",.ref (n + 2)),("least",.ref (n + 4))]
def stH(n:Nat)(C:f7)(s:Se)(hs:List Nat)(kc ke:List @Al):List O :=
 [seO n C,ofO n,qO (n + 3) s.T.length,.lst (hs.map (hD (U6 s.T))),.dT none (tbD s.L),.lst (s.rs.map rD),.dT none (tbD (fnd s.I)),.dT none kc,.dT none ke]
structure N9 where
 kc:List @Al
 ke:List @Al
 y:Dyn
structure At(h0:Hh)(C:f7)(zr:N9)(s:Se)(h:Hh):Prop where
 ex:∃ hs,h=h0 ++ (stH h0.length C s hs zr.kc zr.ke ++ z7 zr.y)/\hs.Perm s.pd/\HP (ltT (U6 s.T)) hs/\Dy h0.length zr.y true zr.kc (λ g b=>(s.ca g b).map O2)/\Dy h0.length zr.y false zr.ke (λ f a=>(s.en f a).map a6M)
section
variable {h0 h:Hh} {C:f7} {zr:N9} {s:Se} {n:Nat} {Q:DK} {m:Str}
theorem At.se(a:At h0 C zr s h):h[h0.length]?=some (seO h0.length C):=by
 obtain ⟨hs,rfl,_⟩:=a.ex
 have:=w9 (h0:=h0) (l:=stH h0.length C s hs zr.kc zr.ke ++ z7 zr.y) (j:=0)
 rw [Nat.add_zero] at this;rw [this];rfl
theorem At.of(a:At h0 C zr s h):h[h0.length + 1]?=some (ofO h0.length):=by
 show Aj;rfl
theorem At.least(a:At h0 C zr s h):h[h0.length + 4]?=some (.dT none (tbD s.L)):=by
 show Aj;rfl
theorem At.rows(a:At h0 C zr s h):h[h0.length + 5]?=some (.lst (s.rs.map rD)):=by
 show Aj;rfl
theorem At.found(a:At h0 C zr s h):h[h0.length + 6]?=some (.dT none (tbD (fnd s.I))):=by
 show Aj;rfl
theorem V6(e:h[n]?=some (seO n C)):p5 "Search" "chart" (.ref n) h Q=Q (cD C) h:=by unfold p5;rw [t8 e];rfl
theorem D7(e:h[n]?=some (seO n C)):p5 "Search" "offers" (.ref n) h Q=Q (.ref (n + 1)) h:=by unfold p5;rw [t8 e];rfl
theorem a1d(e:h[n]?=some (seO n C)):p5 "Search" "rows" (.ref n) h Q=Q (.ref (n + 5)) h:=by unfold p5;rw [t8 e];rfl
theorem a1R(e:h[n]?=some (seO n C)):p5 "Search" "found" (.ref n) h Q=Q (.ref (n + 6)) h:=by unfold p5;rw [t8 e];rfl
theorem a1V(e:h[n]?=some (seO n C)):p5 "Search" "calls" (.ref n) h Q=Q (.ref (n + 7)) h:=by unfold p5;rw [t8 e];rfl
theorem a3P(e:h[n]?=some (seO n C)):p5 "Search" "ends" (.ref n) h Q=Q (.ref (n + 8)) h:=by unfold p5;rw [t8 e];rfl
theorem V1(e:h[n + 1]?=some (ofO n)):p5 "Offers" "queue" (.ref (n + 1)) h Q=Q (.ref (n + 2)) h:=by unfold p5;rw [t8 e];rfl
theorem V4(e:h[n + 1]?=some (ofO n)):p5 "Offers" "least" (.ref (n + 1)) h Q=Q (.ref (n + 4)) h:=by unfold p5;rw [t8 e];rfl
theorem P5(e:h[n]?=some (seO n C))(l:([(Str.ofString "chart",cD C),(Str.ofString "offers",.ref (n + 1)),(Str.ofString "rows",.ref (n + 5)),(Str.ofString "found",.ref (n + 6)),(Str.ofString "calls",.ref (n + 7)),(Str.ofString "ends",.ref (n + 8))]:List (Str×D)).lookup m=none):a2I "Search" m h (.ref n):=by
 unfold a2I;rw [t8 e];exact l
theorem a1i(e:h[n + 1]?=some (ofO n))(l:([(Str.ofString "queue",.ref (n + 2)),(Str.ofString "least",.ref (n + 4))]:List (Str×D)).lookup m=none):a2I "Offers" m h (.ref (n + 1)):=by
 unfold a2I;rw [t8 e];exact l
end
theorem a4O{C:f7}{s:Se}(f:Full C s){n:Nat}{x:Of}(e:s.T[n]?=some x)(ne:look s.L x.2.1.t ≠ some x.1):Full C (y0 s n):=⟨f.mid.stale e ne,⟨f.rc.ca,f.rc.en,f.rc.cl,f.rc.el⟩,f.ov,f.sh,f.bg⟩
theorem V7{C:f7}(wf:WF C){s:Se}(m:Mid C s):s.L.length < 16777216/\s.pd.length < 10000000/\∀ n ∈ s.pd,n < s.T.length:=⟨by have:=m.Lfew wf;omega,by have:=m.Pfew wf;omega,m.pl⟩
theorem W4{α:Type}(s:Se)(f:α->Of)(p:List α)(y:α):offs s ((p ++ [y]).map f)=offer (offs s (p.map f)) (f y):=by rw [Zz,a0y];rfl
theorem a2C{C:f7}(wf:WF C){s:Se}(m:Mid C s){α:Type}{f:α->Of}{l p:List α}{y:α}{r:List α}(e:l=p ++ y :: r)(ok:∀ x ∈ l.map f,D2 C s x):Mid C (offs s (p.map f)):=(m.offs wf λ x hx=>ok x (by rw [e,Zz];exact Zy _ hx)).1
section
variable {n:Nat} {y:Dyn} {tg:Bool} {kvs:List (List Key×D)} {f:Nat->Nat->List D}
theorem Dy.nil(n:Nat)(y:Dyn)(tg:Bool):Dy n y tg [] (λ _ _=>[]):=⟨List.nodup_nil,λ _ h=>(nomatch h),λ _ _=>.inl ⟨rfl,rfl⟩⟩
theorem Dy.app(d:Dy n y tg kvs f)(z:Option (Bool×Nat×Nat)×List D):Dy n (y ++ [z]) tg kvs f:=⟨d.nd,d.all,λ g b=>(d.at_ g b).imp id λ ⟨i,h1,h2⟩=>⟨i,h1,H9 h2⟩⟩
theorem Dy.congr{f':Nat->Nat->List D}(d:Dy n y tg kvs f)(e:∀ g b,f g b=f' g b):Dy n y tg kvs f':=by
 have:f=f':=by funext g b;exact e g b
 rw [<- this];exact d
theorem Dy.setO(d:Dy n y tg kvs f){i:Nat}{tg':Bool}{g b:Nat}{xs xs':List D}(e:y[i]?=some (some (tg',g,b),xs))(ne:tg' ≠ tg):Dy n (y.set i (some (tg',g,b),xs')) tg kvs f:=by
 refine ⟨d.nd,d.all,λ g' b'=>(d.at_ g' b').imp id λ ⟨j,h1,h2⟩=>⟨j,h1,?_⟩⟩
 have:i ≠ j:=λ z=>by
  subst z;rw [e] at h2
  injection h2 with h2
  injection h2 with h2 _
  injection h2 with h2
  injection h2 with h2 _
  exact ne h2
 rw [Zx this];exact h2
theorem Dy.set(d:Dy n y tg kvs f){i:Nat}{g b:Nat}{xs':List D}(hv:C7 kvs (kN [g,b])=some (.ref (n + (9 + i)))):Dy n (y.set i (some (tg,g,b),xs')) tg kvs (λ g' b'=>if g'=g/\b'=b then xs' else f g' b'):=by
 have e:y[i]?=some (some (tg,g,b),f g b):=by
  rcases d.at_ g b with ⟨h1,_⟩ | ⟨j,h1,h2⟩
  ·rw [h1] at hv;cases hv
  ·rw [h1] at hv
   injection hv with hv
   injection hv with hv
   have:j=i:=by omega
   rw [<- this];exact h2
 refine ⟨d.nd,d.all,λ g' b'=>?_⟩
 by_cases z:g'=g/\b'=b
 ·obtain ⟨rfl,rfl⟩:=z;refine .inr ⟨i,hv,?_⟩;rw [if_pos ⟨rfl,rfl⟩,ZH (ZY.mp e).1]
 ·rw [if_neg z];refine (d.at_ g' b').imp id λ ⟨j,h1,h2⟩=>⟨j,h1,?_⟩
  have:i ≠ j:=λ w=>by
   subst w;rw [e] at h2
   injection h2 with h2
   injection h2 with h2 _
   injection h2 with h2
   injection h2 with _ h2
   injection h2 with h3 h4
   exact z ⟨h3.symm,h4.symm⟩
  rw [Zx this];exact h2
theorem a9I(kvs:List @Al)(k k':List Key)(v:D):C7 (M7 kvs k v) k'=if k=k' then some v else C7 kvs k':=by
 unfold C7 M7
 by_cases c:@AG=true
 ·rw [if_pos c]
  induction kvs with
  |nil=>cases c
  |cons x r ih =>
   rw [Zs,List.find?_cons,List.find?_cons]
   by_cases e:x.1=k
   ·rw [if_pos e]
    by_cases e2:k=k'
    ·subst e2;rw [decide_eq_true (show (x.1,v).1=k from e),if_pos rfl];rfl
    ·rw [decide_eq_false (show ¬ (x.1,v).1=k' from λ z=>e2 (e.symm.trans z)),if_neg e2]
     by_cases c2:(r.any λ kv=>decide (kv.1=k))=true
     ·have:=ih c2;rw [if_neg e2] at this;exact this
     ·have:(r.map λ kv=>if kv.1=k then (kv.1,v) else kv)=r:=by
       refine (Zg λ kv hkv=>?_).trans (List.map_id r);rw [if_neg λ z=>c2 (Zh.mpr ⟨kv,hkv,decide_eq_true z⟩)];rfl
      rw [this]
   ·rw [if_neg e]
    have c2:(r.any λ kv=>decide (kv.1=k))=true:=by
     rw [YZ,decide_eq_false e,Bool.false_or] at c;exact c
    by_cases e3:x.1=k'
    ·rw [decide_eq_true e3,if_neg λ z=>e (e3.trans z.symm)]
    ·rw [decide_eq_false e3];exact ih c2
 ·rw [if_neg c];rw [List.find?_append]
  by_cases e:k=k'
  ·subst e;rw [if_pos rfl]
   have:(kvs.find? λ kv=>decide (kv.1=k))=none:=by
    rw [List.find?_eq_none];intro x hx;exact λ z=>c (Zh.mpr ⟨x,hx,z⟩)
   rw [this,Option.none_or,List.find?_cons,decide_eq_true rfl];rfl
  ·rw [if_neg e]
   cases q:kvs.find? λ kv=>decide (kv.1=k') with
   |some x=>rfl
   |none=>rw [Option.none_or,List.find?_cons,decide_eq_false e];rfl
theorem O5{k:List Key}(h:C7 kvs k=none):k ∉ kvs.map (·.1):=λ z=>by
 obtain ⟨x,hx,e⟩:=ZG.mp z;unfold C7 at h
 cases q:kvs.find? λ kv=>decide (kv.1=k) with
 |some y=>rw [q] at h;cases h
 |none =>
  rw [List.find?_eq_none] at q;exact q x hx (decide_eq_true e)
theorem a3J{k:List Key}{v:D}(h:C7 kvs k=none):M7 kvs k v=kvs ++ [(k,v)]:=by
 unfold M7;rw [if_neg];intro z;obtain ⟨x,hx,e⟩:=Zh.mp z;exact O5 h (ZG.mpr ⟨x,hx,of_decide_eq_true e⟩)
theorem Dy.put(d:Dy n y tg kvs f){g b:Nat}{xs:List D}(hn:C7 kvs (kN [g,b])=none)(hg:g < 6)(hb:b < 6):Dy n (y ++ [(some (tg,g,b),xs)]) tg (M7 kvs (kN [g,b]) (.ref (n + (9 + y.length)))) (λ g' b'=>if g'=g/\b'=b then xs else f g' b'):=by
 refine ⟨?_,λ k hk=>?_,λ g' b'=>?_⟩
 ·rw [a3J hn,Zz];exact J9 d.nd (O5 hn)
 ·rw [a3J hn,Zz] at hk
  rcases List.mem_append.mp hk with z | z
  ·exact d.all k z
  ·exact ⟨g,b,ZX.mp z,hg,hb⟩
 ·rw [a9I]
  by_cases z:g'=g/\b'=b
  ·obtain ⟨rfl,rfl⟩:=z;rw [if_pos rfl,if_pos ⟨rfl,rfl⟩];exact .inr ⟨y.length,rfl,v6 _ _⟩
  ·have:¬ kN [g,b]=kN [g',b']:=λ w=>by
    have w:=a2A w
    injection w with w1 w2
    injection w2 with w2 _
    exact z ⟨w1.symm,w2.symm⟩
   rw [if_neg this,if_neg z];exact (d.at_ g' b').imp id λ ⟨i,h1,h2⟩=>⟨i,h1,H9 h2⟩
end
def J2(a0 a1 a2 a3 a4 a5 a6:O)(kc ke:List @Al):List O:=[a0,a1,a2,a3,a4,a5,a6,.dT none kc,.dT none ke]
theorem U4(y:Dyn)(z:Option (Bool×Nat×Nat)×List D):z7 (y ++ [z])=z7 y ++ [.lst z.2]:=Zz
theorem a8u(y:Dyn)(i:Nat)(t:Option (Bool×Nat×Nat))(xs:List D):(z7 y).set i @X=z7 (y.set i (t,xs)):=by unfold z7;rw [List.map_set]
theorem a0K{a0 a1 a2 a3 a4 a5 a6:O}{kc ke:List @Al}{l:List O}{i:Nat}:(J2 a0 a1 a2 a3 a4 a5 a6 kc ke ++ l)[9 + i]?=l[i]?:=by
 rw [ZA (show (J2 a0 a1 a2 a3 a4 a5 a6 kc ke).length <= 9 + i from YU 9 i),show (J2 a0 a1 a2 a3 a4 a5 a6 kc ke).length=9 from rfl,Nat.add_sub_cancel_left]
theorem a3d{a0 a1 a2 a3 a4 a5 a6:O}{kc ke:List @Al}{l:List O}{i:Nat}{o:O}:(J2 a0 a1 a2 a3 a4 a5 a6 kc ke ++ l).set (9 + i) o=J2 a0 a1 a2 a3 a4 a5 a6 kc ke ++ l.set i o:=by
 rw [Zn _ _ (show (J2 a0 a1 a2 a3 a4 a5 a6 kc ke).length <= 9 + i from YU 9 i),show (J2 a0 a1 a2 a3 a4 a5 a6 kc ke).length=9 from rfl,Nat.add_sub_cancel_left]
def K5{α:Type}(tg:Bool)(a b:α):α:=match tg with | true=>a | false=>b
theorem a5l{h0:Hh}{a0 a1 a2 a3 a4 a5 a6:O}{kc ke:List @Al}{y:Dyn}(tg:Bool){f fo:Nat->Nat->List D}{g b:Nat}{Q:DK}(d:Dy h0.length y tg (K5 tg kc ke) f)(d2:Dy h0.length y (!tg) (K5 tg ke kc) fo)(hg:g < 6)(hb:b < 6)(hl:(f g b).length < 16777216)
  (q:∀ (i:Nat) (h3:Hh) (xs:List D),h3[i]?=some @X->xs.length < 16777216->(∀ v,∃ kc' ke' y',h3.set i (.lst (xs ++ [v]))=h0 ++ (J2 a0 a1 a2 a3 a4 a5 a6 kc' ke' ++ z7 y')/\Dy h0.length y' tg (K5 tg kc' ke') (λ g' b'=>if g'=g/\b'=b then f g b ++ [v] else f g' b')/\Dy h0.length y' (!tg) (K5 tg ke' kc') fo)->Q (.ref i) h3) :
  b9e (.ref (h0.length + K5 tg 7 8)) (.tup [nD g,nD b]) (.ref (h0 ++ (J2 a0 a1 a2 a3 a4 a5 a6 kc ke ++ z7 y)).length) (h0 ++ (J2 a0 a1 a2 a3 a4 a5 a6 kc ke ++ z7 y) ++ [.lst []]) Q:=by
 have ln:(h0 ++ (J2 a0 a1 a2 a3 a4 a5 a6 kc ke ++ z7 y)).length=h0.length + (9 + y.length):=by
  rw [ZW,ZW,show (J2 a0 a1 a2 a3 a4 a5 a6 kc ke).length=9 from rfl,show (z7 y).length=y.length from ZS ..]
 have e0:h0 ++ (J2 a0 a1 a2 a3 a4 a5 a6 kc ke ++ z7 y) ++ [O.lst []]=h0 ++ (J2 a0 a1 a2 a3 a4 a5 a6 kc ke ++ z7 (y ++ [(none,[])])):=by
  rw [U4,Zt,Zt]
 have ek:L5 (kN [g,b]) = .tup [nD g,nD b]:=T1 _;rw [ln,e0];have fw:=d.few;show (match (h0 ++ (J2 a0 a1 a2 a3 a4 a5 a6 kc ke ++ z7 (y ++ [(none,[])])))[h0.length + K5 tg 7 8]? with | some (.dT none kvs)=>∃ ks,.tup [nD g,nD b]=L5 ks/\kvs.length < 16777216/\(match C7 kvs ks with | some v=>Q v _ | none=>Q _ _) | _=>False);have e8:(h0 ++ (J2 a0 a1 a2 a3 a4 a5 a6 kc ke ++ z7 (y ++ [(none,[])])))[h0.length + K5 tg 7 8]?=some (.dT none (K5 tg kc ke)):=by rw [w9];cases tg <;> rfl
 rw [e8];refine ⟨kN [g,b],ek.symm,by omega,?_⟩
 rcases d.at_ g b with ⟨h1,h2⟩ | ⟨i,h1,h2⟩
 ·rw [h1];dsimp only;have s8:(h0 ++ (J2 a0 a1 a2 a3 a4 a5 a6 kc ke ++ z7 (y ++ [(none,[])]))).set (h0.length + K5 tg 7 8) (.dT none @Ap)=h0 ++ (J2 a0 a1 a2 a3 a4 a5 a6 (K5 tg @Ap kc) (K5 tg ke @Ap) ++ z7 (y ++ [(none,[])])):=by rw [B4];cases tg <;> rfl
  rw [s8];refine q _ _ [] ?_ @B λ v=>⟨K5 tg @Ap kc,K5 tg ke @Ap,y ++ [(some (tg,g,b),[v])],?_,?_,?_⟩
  ·rw [w9,a0K,U4,show y.length=(z7 y).length from (ZS ..).symm];exact v6 _ _
  ·rw [B4,a3d,U4,Zj,U4,Zn _ _ (by rw [show (z7 y).length=y.length from ZS ..];exact ZV _),show y.length - (z7 y).length=0 by rw [show (z7 y).length=y.length from ZS ..];exact YV _];rfl
  ·have:=d.put (xs:=[v]) h1 hg hb
   rw [h2,Zj]
   cases tg <;> exact this
  ·have:=d2.app (some (tg,g,b),[v])
   cases tg <;> exact this
 ·rw [h1];dsimp only;refine q _ _ (f g b) ?_ hl λ v=>⟨kc,ke,(y ++ [(none,[])]).set i (some (tg,g,b),f g b ++ [v]),?_,?_,?_⟩
  ·rw [w9,a0K];unfold z7;rw [ZP,H9 h2];rfl
  ·rw [B4,a3d,a8u]
  ·exact (d.app _).set h1
  ·exact (d2.app _).setO (H9 h2) (by cases tg <;> decide)
theorem At.dyn{h0 h:Hh}{C:f7}{zr:N9}{s:Se}(a:At h0 C zr s h){i:Nat}{t:Option (Bool×Nat×Nat)}{xs:List D}(e:zr.y[i]?=some (t,xs)):h[h0.length + (9 + i)]?=some @X:=by
 show Aj;show (J2 _ _ _ _ _ _ _ zr.kc zr.ke ++ z7 zr.y)[9 + i]?=_;rw [a0K];unfold z7;rw [ZP,e];rfl
theorem At.calls{h0 h:Hh}{C:f7}{zr:N9}{s:Se}(a:At h0 C zr s h):h[h0.length + 7]?=some (.dT none zr.kc):=by
 show Aj;rfl
theorem At.ends{h0 h:Hh}{C:f7}{zr:N9}{s:Se}(a:At h0 C zr s h):h[h0.length + 8]?=some (.dT none zr.ke):=by
 show Aj;rfl
theorem a6j{h:Hh}{i g b:Nat}{z:Option Obj}{kvs:List @Al}{Q:Option D->Prop}(e:h[i]?=some (.dT z kvs))(q:Q (C7 kvs (kN [g,b]))):DL.getD (.ref i) (.tup [nD g,nD b]) h Q:=by
 show (match h[i]? with | some (.dT _ kvs)=>∃ ks,D.tup [nD g,nD b]=L5 ks/\Q (C7 kvs ks) | _=>False);rw [e];exact ⟨kN [g,b],(T1 [g,b]).symm,q⟩
theorem a1y{α:Type}(s:Se)(F:α->List Of)(p:List α)(y:α):offs s ((p ++ [y]).flatMap F)=offs (offs s (p.flatMap F)) (F y):=by rw [List.flatMap_append,a0y,List.flatMap_singleton]
theorem a3Z{C:f7}(wf:WF C){s:Se}(m:Mid C s){α:Type}{F:α->List Of}{l p:List α}{y:α}{r:List α}(e:l=p ++ y :: r)(ok:∀ x ∈ l,∀ z ∈ F x,D2 C s z):Mid C (offs s (p.flatMap F))/\∀ z ∈ F y,D2 C (offs s (p.flatMap F)) z:=by
 obtain ⟨m1,s1,_⟩:=m.offs wf (l:=p.flatMap F) λ z hz=>by
  obtain ⟨x,hx,hz⟩:=Zb.mp hz;exact ok x (by rw [e];exact Zy _ hx) z hz
 refine ⟨m1,λ z hz=>?_⟩
 have:=ok y (by rw [e];exact ZJ _ ZO) z hz
 unfold D2 at this ⊢;rw [s1.I];exact this
theorem a5z{C:f7}(wf:WF C){g:Nat}{c:a0E}:∀ {p:List Nat} {s:Se},Mid C s->(∀ b ∈ p,∀ y ∈ s.en g b,∀ z ∈ cbL c y,D2 C s z)->Mid C (p.foldl (gi1 g c) s)/\(p.foldl (gi1 g c) s).I=s.I/\(p.foldl (gi1 g c) s).en=s.en/\∀ g' b',((p.foldl (gi1 g c) s).ca g' b').length <= (s.ca g' b').length + p.length
 |[],s,m,_=>⟨m,rfl,rfl,λ _ _=>ZV _⟩
 |b :: p,s,m,ok=>by
  have m1:Mid C { s with ca:=C8 s.ca g b (s.ca g b ++ [c]) }:=⟨m.pap,m.nd,m.ti,m.tl,m.tt,m.td,m.vl,m.cu,m.np,m.pl,m.pn,m.lk⟩
  obtain ⟨m2,st,_⟩:=m1.offs wf (l:=(s.en g b).flatMap (cbL c)) λ z hz=>by
   obtain ⟨y,hy,hz⟩:=Zb.mp hz;exact ok b ZO y hy z hz
  have eI:(gi1 g c s b).I=s.I:=st.I;have ee:(gi1 g c s b).en=s.en:=st.en
  obtain ⟨r1,r2,r3,r4⟩:=a5z wf (p:=p) (s:=gi1 g c s b) m2 λ b' hb y hy z hz=>by
   rw [ee] at hy
   have:=ok b' (ZM _ hb) y hy z hz
   unfold D2 at this ⊢;rw [eI];exact this
  refine ⟨r1,r2.trans eI,r3.trans ee,λ g' b'=>Zu (r4 g' b') ?_⟩;have ec:(gi1 g c s b).ca=C8 s.ca g b (s.ca g b ++ [c]):=st.ca;rw [ec,Zw]
  by_cases w:g'=g/\b'=b
  ·obtain ⟨rfl,rfl⟩:=w;rw [B5,ZW,ZL];omega
  ·rw [J8 w];omega
end CM
namespace CM
open PySem L2 DL
theorem tOk.six{t:List Nat}{n m:Nat}(h:tOk t n m)(hm:m <= 6):tOk t n 6:=⟨h.1,λ x hx=>ZD (h.2 x hx) (Nat.pow_le_pow_right @B hm)⟩
theorem a1P{C:f7}(wf:WF C){f n:Nat}{F:Fn}{E:Edge}{g:Nat}{i t o:List Nat}(hF:C[f]?=some F)(hE:F.edges[n]?=some E)(hk:E.k = .call g i t o):∃ G,C[g]?=some G/\tOk i F.facts G.facts/\tOk t G.facts F.facts/\G.facts <= 6/\F.facts <= 6/\g < 6:=by
 have h:=((wf.fn _ F hF).2.2.2.2.2 E (ZT hE)).2.2.2.2;rw [hk] at h;obtain ⟨G,h1,h2,h3,_⟩:=h;exact ⟨G,h1,h2,h3,(wf.fn _ G h1).2.2.2.1,(wf.fn _ F hF).2.2.2.1,by have:=(ZY.mp h1).1;have:=wf.six;omega⟩
theorem b0J{C:f7}(wf:WF C){s:Se}{n:Nat}{x:Of}{F:Fn}(fu:Full C s)(top:∀ y ∈ (B6 s n x).I,y.2 <= x.1)(hF:C[x.2.1.f]?=some F)(hd:x.2.1.d < F.facts)(ex:x.2.1.p + 1=F.places) :
  ∀ c ∈ (B6 s n x).ca x.2.1.f x.2.1.a,(∃ g i t o n2,c.E.k = .call g i t o/\tOk t n2 6/\x.2.1.d < n2)/\∀ z ∈ cbL c ⟨x.1,x.2.1.d,s.I.length⟩,D2 C (B6 s n x) z:=λ c hc=>by
 have hc:=(fu.rc.ca _ _ _).mp hc;have eNew:EnOf C @AJ x.2.1.f x.2.1.a ⟨x.1,x.2.1.d,s.I.length⟩:=⟨x.2.1,x.1,s.I.length,F,v6 _ _,rfl,rfl,hF,ex,rfl⟩
 refine ⟨?_,λ z hz=>⟨a6o hc.mono eNew hz,λ w hw=>?_⟩⟩
 ·obtain ⟨ky,c0,k,j,G,E,i,t,o,e1,e2,e3,e4,e5,e6,rfl⟩:=hc;obtain ⟨G2,h1,h2,h3,h4,h5,_⟩:=a1P wf e2 e3 e5;rw [hF] at h1;cases h1;exact ⟨_,i,t,o,F.facts,e5,h3.six h5,hd⟩
 ·have:=top w hw
  unfold cbL at hz;obtain ⟨e,_,rfl⟩:=ZG.mp hz;show w.2 <= c.cost + x.1;omega
theorem c0T{C:f7}{s:Se}(wf:WF C)(m:Mid C s){g b:Nat}{G:Fn}{y:En}(hG:C[g]?=some G)(h:EnOf C s.I g b y):y.d < G.facts:=by
 obtain ⟨ky,c,k,G',e1,e2,e3,e4,e5,rfl⟩:=h;rw [hG] at e4;cases e4;obtain ⟨f,a,p,d,F,e,hF,h1,h2,h3⟩:=m.kI wf (ZT e1);have e:[ky.f,ky.a,ky.p,ky.d]=[f,a,p,d]:=e
 injection e with e1 e
 injection e with e2' e
 injection e with e3' e
 injection e with e4' _
 rw [<- e1,e2,hG] at hF;cases hF;show ky.d < G.facts;rw [e4'];exact h3
theorem a9E{C:f7}(wf:WF C){I0:List @Ak}{s0:Se}{ky:Ky}{c:Nat}{ps:List (Edge×Nat)}{s:Se}{F:Fn}{E:Edge}{n:Nat}(P:Part C I0 s0 ky c ps s)(hF:C[ky.f]?=some F)(hE:F.edges[n]?=some E)(hp:E.p=ky.p)(hd:ky.d < F.facts)(top:∀ y ∈ I0 ++ [(ky,c)],y.2 <= c)(en:∀ f a y,y ∈ s0.en f a ↔ EnOf C (I0 ++ [(ky,c)]) f a y)(pl:ps.length <= 100) :
  (∀ z ∈ gpL c ky I0.length n E,D2 C s z)/\Mid C (offs s @AM)/\∀ g i t o,E.k = .call g i t o->∃ n2,tOk i F.facts 6/\tOk t n2 6/\g < 6/\(∀ b,∀ y ∈ (offs s @AM).en g b,y.d < n2)/\(∀ b ∈ l8 (i.getD ky.d 0),∀ y ∈ (offs s @AM).en g b,∀ z ∈ cbL ⟨c + E.cost,ky,I0.length,n,E⟩ y,D2 C (offs s @AM) z)/\∀ b,((offs s @AM).ca g b).length < 10000000:=by
 have og:∀ z ∈ gpL c ky I0.length n E,D2 C s z:=λ z hz=>by
  refine ⟨by rw [P.eI];exact b5N (v6 _ _) hF hE hp hz,λ w hw=>?_⟩;rw [P.eI] at hw
  have:=top w hw
  unfold gpL at hz;obtain ⟨e,_,rfl⟩:=ZG.mp hz;show w.2 <= c + E.cost;omega
 obtain ⟨m2,st,_⟩:=P.mid.offs wf og;refine ⟨og,m2,λ g i t o hk=>?_⟩;obtain ⟨G,h1,h2,h3,h4,h5,h6⟩:=a1P wf hF hE hk;have eI2:=st.I.trans P.eI;have een:(offs s @AM).en=s0.en:=st.en.trans P.een;refine ⟨G.facts,h2.six h4,h3.six h5,h6,λ b y hy=>?_,λ b hb y hy z hz=>?_,λ b=>?_⟩
 ·rw [een,en] at hy;refine c0T (b:=b) wf m2 h1 ?_;rw [eI2];exact hy
 ·rw [een,en] at hy;have new:CaOf C (I0 ++ [(ky,c)]) g b ⟨c + E.cost,ky,I0.length,n,E⟩:=⟨ky,c,I0.length,n,F,E,i,t,o,v6 _ _,hF,hE,hp,hk,hb,rfl⟩
  refine ⟨by rw [eI2];exact a6o new hy hz,λ w hw=>?_⟩;rw [eI2] at hw
  have:=top w hw
  unfold cbL at hz;obtain ⟨e,_,rfl⟩:=ZG.mp hz;show w.2 <= c + E.cost + y.cost;omega
 ·rw [st.ca];have h7:=P.cl g b;have h8:=m2.Ifew wf;rw [eI2,ZW,ZL] at h8;omega
theorem a9d(I:List @Ak)(x:Ky×Nat):fnd (I ++ [x])=fnd I ++ [(x.1.t,I.length)]:=by
 unfold fnd;rw [List.zipIdx_append,Zz]
 simp
theorem b5b{I:List @Ak}{ky:Ky}{c:Nat}(h:ky ∉ I.map (·.1)):y3 (fnd I) ky.t I.length=fnd (I ++ [(ky,c)]):=by
 rw [a9d];unfold y3;rw [if_neg];intro z;obtain ⟨y,hy,e⟩:=Zh.mp z;unfold fnd at hy;obtain ⟨w,hw,rfl⟩:=ZG.mp hy;have e:=of_decide_eq_true e
 have:=List.mem_zipIdx_iff_getElem?.mp hw
 exact h (ZG.mpr ⟨w.1,ZT this,Ky.inj e⟩)
theorem a5q(I:List @Ak):(fnd I).length=I.length:=by unfold fnd;rw [ZS,List.length_zipIdx]
theorem Mid.rlen{C:f7}{s:Se}(m:Mid C s):s.rs.length=s.I.length:=by
 have:=O4 m.pap
 unfold u7 at this;rw [ZS,List.length_nil] at this;omega
theorem Mid.kT{C:f7}{s:Se}(wf:WF C)(m:Mid C s){n:Nat}{x:Of}(e:s.T[n]?=some x):∃ F,C[x.2.1.f]?=some F/\x.2.1.a < F.facts/\x.2.1.p < F.places/\x.2.1.d < F.facts:=by
 obtain ⟨F,h1,h2,h3,h4⟩:=T4 wf (G1 wf (cs:=[]) (λ c h=>nomatch h) m.pap) (m.vl n x e);exact ⟨F,h1,h2,h3,h4⟩
theorem c1a{C:f7}(wf:WF C){s:Se}{n:Nat}{x:Of}{F:Fn}(fu:Full C s)(m0:Mid C (B6 s n x))(top:∀ y ∈ (B6 s n x).I,y.2 <= x.1)(hF:C[x.2.1.f]?=some F) :
  Part C s.I @Bc x.2.1 x.1 [] @Bc/\∀ f a y,y ∈ (F9 F (B6 s n x) x.1 x.2.1 s.I.length).en f a ↔ EnOf C @AJ f a y:=by
 obtain ⟨m1,a1,a2,a3,a4,a5,a6,a7⟩:=a5j wf fu m0 top hF;refine ⟨⟨m1,a1,rfl,rfl,Le.refl _,λ g b y=>?_,λ g b=>?_,(λ _ _ h=>nomatch h),λ g b c y h=>by obtain ⟨_,_,_,_,_,h,_⟩:=h;cases h⟩,a5⟩
 ·rw [a3,fu.rc.ca];exact ⟨.inl,λ h=>h.elim id λ ⟨_,_,_,_,_,h,_⟩=>nomatch h⟩
 ·rw [a3];exact fu.rc.cl g b
end CM
namespace CM
open PySem L2 DL
def E7(C:f7)(k:Ky):Bool:=match C[k.f]? with | some F=>decide (k.p + 1=F.places) | none=>false
def shN(C:f7)(f:Nat)(l:List @Ak):Ct:=(l.filter λ x=>decide (x.1.f=f) && E7 C x.1).map λ x=>([x.1.a,x.1.d],x.2)
def dcs(C:f7)(l:List @Ak):List O:=(List.range C.length).map λ f=>O.dT none (tbD (shN C f l))
theorem U3{C:f7}{l:List @Ak}{f:Nat}(h:f < C.length):(dcs C l)[f]?=some (.dT none (tbD (shN C f l))):=by
 unfold dcs;rw [ZP,Zf h];rfl
theorem b3c(C:f7):dcs C []=List.replicate C.length (.dT none []):=by
 show (List.range C.length).map (λ _=>O.dT none [])=_;rw [List.map_const',Zv]
theorem a0S(C:f7)(f:Nat)(l:List @Ak)(y:Ky×Nat):shN C f (l ++ [y])=if (decide (y.1.f=f) && E7 C y.1)=true then shN C f l ++ [([y.1.a,y.1.d],y.2)] else shN C f l:=by
 unfold shN;rw [List.filter_append,Zz,List.filter_cons]
 split <;> simp
theorem a8f{C:f7}{l:List @Ak}{y:Ky×Nat}(h:E7 C y.1=false):dcs C (l ++ [y])=dcs C l:=by
 unfold dcs;refine Zg λ f _=>?_;rw [a0S,h,Bool.and_false,if_neg ZR]
theorem b5o{C:f7}{l:List @Ak}{y:Ky×Nat}(h:E7 C y.1=true)(hf:y.1.f < C.length):(dcs C l).set y.1.f (.dT none (tbD (shN C y.1.f l ++ [([y.1.a,y.1.d],y.2)])))=dcs C (l ++ [y]):=by
 refine List.ext_getElem? λ f=>?_
 by_cases e:y.1.f=f
 ·subst e;rw [ZH (by unfold dcs;rw [ZS,Zv];exact hf),U3 hf,a0S,h,decide_eq_true rfl,Bool.and_self,if_pos rfl]
 ·rw [Zx e]
  by_cases hl:f < C.length
  ·rw [U3 hl,U3 hl,a0S,decide_eq_false e,Bool.false_and,if_neg ZR]
  ·have ln:∀ l,(dcs C l).length=C.length:=λ l=>by unfold dcs;rw [ZS,Zv]
   rw [Zm (by rw [ln];omega),Zm (by rw [ln];omega)]
theorem b7n{I:List @Ak}{p r:Ct}{x:Kt×Nat}(e:fnd I=p ++ x :: r):∃ y,I[p.length]?=some y/\x=(y.1.t,p.length)/\I.take (p.length + 1)=I.take p.length ++ [y]:=by
 have h:(fnd I)[p.length]?=some x:=by rw [e,ZA @G,YV];rfl
 unfold fnd at h;rw [ZP] at h
 cases q:I.zipIdx[p.length]? with
 |none=>rw [q] at h;cases h
 |some w =>
  show X;rw [List.getElem?_zipIdx] at q
  cases q2:I[p.length]? with
  |none=>rw [q2] at q;cases q
  |some y =>
   rw [q2] at q;cases q;refine ⟨y,rfl,?_,?_⟩
   ·cases h;rw [Nat.zero_add]
   ·rw [List.take_add_one,q2];rfl
theorem b2T{C:f7}{I:List @Ak}(nd:(I.map (·.1)).Nodup){n:Nat}{y:Ky×Nat}(e:I[n]?=some y)(h:E7 C y.1=true):∀ v,y3 (shN C y.1.f (I.take n)) [y.1.a,y.1.d] v=shN C y.1.f (I.take n) ++ [([y.1.a,y.1.d],v)]:=λ v=>by
 unfold y3;rw [if_neg];intro z;obtain ⟨w,hw,ew⟩:=Zh.mp z;have ew:=of_decide_eq_true ew;unfold shN at hw;obtain ⟨u,hu,rfl⟩:=ZG.mp hw;obtain ⟨hu1,hu2⟩:=Zi.mp hu;rw [ZC] at hu2;have e1:=of_decide_eq_true hu2.1;obtain ⟨m,hm,em⟩:=List.getElem_of_mem hu1;have hm2:m < n/\m < I.length:=by rw [YM] at hm;omega
 rw [List.getElem_take] at em
 have ea:u.1.a=y.1.a/\u.1.d=y.1.d:=by
  have ew:[u.1.a,u.1.d]=[y.1.a,y.1.d]:=ew
  injection ew with w1 w2
  injection w2 with w2 _
  exact ⟨w1,w2⟩
 have ep:u.1.p=y.1.p:=by
  have h1:=hu2.2;unfold E7 at h1 h;rw [e1] at h1
  cases q:C[y.1.f]? with
  |none=>rw [q] at h;cases h
  |some F =>
   rw [q] at h h1;have h:=of_decide_eq_true h;have h1:=of_decide_eq_true h1;omega
 have ek:u.1=y.1:=by
  obtain ⟨⟨a1,a2,a3,a4⟩,a5⟩:=u;obtain ⟨⟨b1,b2,b3,b4⟩,b5⟩:=y;dsimp only at *;rw [e1,ea.1,ea.2,ep]
 have:=T2 nd (k:=m) (j:=n) (ky:=y.1) (c:=u.2) (c':=y.2) (by rw [ZZ hm2.2,em,<- ek]) e
 omega
end CM
namespace CM
open PySem L2 DL
theorem a0H{C:f7}{st:Nat}{P:Clm->Prop}:∀ {rs:List Row} {cs ds:List Clm},(∀ c ∈ cs,P c)->(∀ (cs:List Clm) (r:Row) (c:Clm),(∀ x ∈ cs,P x)->i5 C st cs r=some c->P c)->n9 C st rs cs=some ds->∀ c ∈ ds,P c
 |[],cs,ds,ok,_,h=>by cases h;exact ok
 |r :: rs,cs,ds,ok,st',h=>by
  have h:((i5 C st cs r).bind λ c=>n9 C st rs (cs ++ [c]))=some ds:=h
  cases q:i5 C st cs r with
  |none=>rw [q] at h;cases h
  |some c' =>
   show X
   exact a0H (rs:=rs) (λ c hc=>by
    rcases List.mem_append.mp hc with z | z
    ·exact ok c z
    ·rw [ZX.mp z];exact st' cs r c' ok q) st' h
theorem V9{cs:List Clm}{k:Int}{c:Clm}(h:i8 cs k=some c):c ∈ cs:=by
 unfold i8 at h
 split at h
 ·exact ZT h
 ·cases h
theorem a4c{t:List Nat}{d:Nat}{e:Int}(h:br t d e=true):e.toNat ∈ l8 (t.getD d 0):=by
 unfold br at h;rw [ZC] at h;exact mem_facts.mpr h.2
inductive By(C:f7)(cs:List Clm):Nat->Nat->Nat->Nat->Nat->Prop
 |begin {f d:Nat} {F:Fn}:C[f]?=some F->d < F.facts->By C cs f d 0 d 0
 |over {f a p d c n e:Nat} {F:Fn} {E:Edge}:Clm.within f a p d c ∈ cs->C[f]?=some F->F.edges[n]?=some E->E.p=p->e ∈ l8 ((O1 E).getD d 0)->By C cs f a E.q e (c + E.cost)
 |short {f a p d c g b y c' n e:Nat} {F G:Fn} {E:Edge} {i t o:List Nat}:Clm.within f a p d c ∈ cs->Clm.within g b (G.places - 1) y c' ∈ cs->C[f]?=some F->F.edges[n]?=some E->E.p=p->E.k = .call g i t o->C[g]?=some G->b ∈ l8 (i.getD d 0)->e ∈ l8 (t.getD y 0)->By C cs f a E.q e (c + E.cost + c')
theorem c0I{C:f7}{cs:List Clm}{r:Row}{f a p d c:Nat}(h:i5 C 0 cs r=some (.within f a p d c)):By C cs f a p d c:=by
 have mvc:∀ (w:Mv) (k n e:Int),w ≠ .inn->(match i8 cs k with | some (.within f a p d c)=>(m4 C f p d w n e).map λ E=>Clm.within f a E.q e.toNat (c + E.cost) | _=>none)=some (.within f a p d c)->By C cs f a p d c:=by
  intro w k n e hw h
  cases q:i8 cs k with
  |none=>rw [q] at h;cases h
  |some y =>
   show X
   cases y with
   |«at» _ _ _ _=>cases h
   |within f1 a1 p1 d1 c1 =>
    have h:(m4 C f1 p1 d1 w n e).map (λ E=>Clm.within f1 a1 E.q e.toNat (c1 + E.cost))=_:=h
    cases q2:m4 C f1 p1 d1 w n e with
    |none=>rw [q2] at h;cases h
    |some E =>
     rw [q2] at h;have h:=Option.some.inj h
     injection h with h1 h2 h3 h4 h5
     subst h1 h2 h3 h4 h5;obtain ⟨t1,t2,t3,t4,t5⟩:=A4 q2;obtain ⟨F,f1',f2,f3⟩:=A3 t1
     have tab:E.tab w=O1 E:=by
      obtain ⟨ep,eq,ec,kd⟩:=E
      cases kd with
      |step t=>cases w with
       |step=>rfl
       |over=>cases t2
       |inn=>exact absurd rfl hw
      |call g i b o=>cases w with
       |step=>cases t2
       |over=>rfl
       |inn=>exact absurd rfl hw
     rw [tab] at t4;exact .over (V9 q) f2 f3 t3 (a4c t4)
 cases r with
 |begin f' d' =>
  have h:(if 0 <= f'/\0 <= d' then (C[f'.toNat]?).bind λ F=>if d' < F.facts then some (Clm.within f'.toNat d'.toNat 0 d'.toNat 0) else none else none)=_:=h
  split at h
  ·rename_i z
   cases q:C[f'.toNat]? with
   |none=>rw [q] at h;cases h
   |some F =>
    show X;have h:(if d' < F.facts then some (Clm.within f'.toNat d'.toNat 0 d'.toNat 0) else none)=_:=h
    split at h
    ·rename_i z2;have h:=Option.some.inj h
     injection h with h1 h2 h3 h4 h5
     subst h1 h2 h3 h4 h5;exact .begin q @D
    ·cases h
  ·cases h
 |start d' =>
  have h:(if 0 <= d' then (C[0]?).bind λ F=>if d' < F.facts/\Nat.testBit 0 d'.toNat=true then some (Clm.at 0 0 d'.toNat 0) else none else none)=_:=h
  split at h
  ·cases q:C[0]? with
   |none=>rw [q] at h;cases h
   |some F =>
    show X;have h:(if d' < F.facts/\Nat.testBit 0 d'.toNat=true then some (Clm.at 0 0 d'.toNat 0) else none)=_:=h
    split at h <;> cases h
  ·cases h
 |mv w k n e =>
  cases w with
  |step=>exact mvc .step k n e (by decide) h
  |over=>exact mvc .over k n e (by decide) h
  |inn =>
   dsimp only [i5] at h
   cases q:i8 cs k with
   |none=>rw [q] at h;cases h
   |some y =>
    show X
    cases y with
    |within _ _ _ _ _=>cases h
    |«at» f1 p1 d1 c1 =>
     have h:((m4 C f1 p1 d1 .inn n e).bind λ E=>match E.k with | .call g _ _ _=>some (Clm.at g 0 e.toNat (c1 + E.cost)) | _=>none)=_:=h
     cases q2:m4 C f1 p1 d1 .inn n e with
     |none=>rw [q2] at h;cases h
     |some E =>
      rw [q2] at h;have h:(match E.k with | .call g _ _ _=>some (Clm.at g 0 e.toNat (c1 + E.cost)) | _=>none)=_:=h
      cases hk:E.k <;> rw [hk] at h <;> cases h
 |short k n j e =>
  dsimp only [i5] at h
  cases q:i8 cs k with
  |none=>rw [q] at h;cases h
  |some y =>
   show X
   cases q':i8 cs j with
   |none=>rw [q'] at h;cases y <;> cases h
   |some y' =>
    rw [q'] at h
    cases y with
    |«at» _ _ _ _=>cases h
    |within f1 a1 p1 d1 c1 =>
     cases y' with
     |«at» _ _ _ _=>cases h
     |within g b x y c' =>
      have h:((m4 C f1 p1 d1 .inn n (b:Int)).bind λ E=>match E.k with | .call g' _ bk _=>(C[g']?).bind λ G=>if g'=g/\x + 1=G.places/\br bk y e=true then some @Bd else none | _=>none)=_:=h
      cases q2:m4 C f1 p1 d1 .inn n (b:Int) with
      |none=>rw [q2] at h;cases h
      |some E =>
       rw [q2] at h;obtain ⟨t1,t2,t3,t4,t5⟩:=A4 q2;obtain ⟨F,g1,g2,g3⟩:=A3 t1;have h:(match E.k with | .call g' _ bk _=>(C[g']?).bind λ G=>if g'=g/\x + 1=G.places/\br bk y e=true then some @Bd else none | _=>none)=_:=h
       cases hk:E.k with
       |step t=>rw [hk] at h;cases h
       |call g' i t o =>
        rw [hk] at h;have h:((C[g']?).bind λ G=>if g'=g/\x + 1=G.places/\br t y e=true then some @Bd else none)=_:=h
        cases qG:C[g']? with
        |none=>rw [qG] at h;cases h
        |some G =>
         rw [qG] at h;have h:(if g'=g/\x + 1=G.places/\br t y e=true then some @Bd else none)=_:=h
         split at h
         ·rename_i z;obtain ⟨z1,z2,z3⟩:=z;have h:=Option.some.inj h
          injection h with h1 h2 h3 h4 h5
          subst h1 h2 h3 h4 h5 z1;have tab:E.tab .inn=i:=by unfold Edge.tab;rw [hk]
          rw [tab] at t4;have b4:=a4c t4;rw [ZB] at b4;have ex:x=G.places - 1:=by omega
          subst ex;exact .short (V9 q) (V9 q') g2 g3 t3 hk qG b4 (a4c z3)
         ·cases h
 |along k j =>
  dsimp only [i5] at h
  cases q:i8 cs k with
  |none=>rw [q] at h;cases h
  |some y =>
   show X
   cases q':i8 cs j with
   |none=>rw [q'] at h;cases y <;> cases h
   |some y' =>
    rw [q'] at h
    cases y with
    |within _ _ _ _ _=>cases h
    |«at» f1 p1 a1 c1 =>
     cases y' with
     |«at» _ _ _ _=>cases h
     |within g b q2 d2 c' =>
      have h:(if p1=0/\g=f1/\b=a1 then some (Clm.at f1 q2 d2 (c1 + c')) else none)=_:=h
      split at h <;> cases h
theorem Done.ind{C:f7}{rs:List Row}{I:List @Ak}(dn:Done C rs I){P:Nat->Nat->Nat->Nat->Nat->Prop}(st:∀ (cs:List Clm),(∀ f a p d c,Clm.within f a p d c ∈ cs->P f a p d c)->∀ f a p d c,By C cs f a p d c->P f a p d c):∀ x ∈ I,P x.1.f x.1.a x.1.p x.1.d x.2:=by
 have:=a0H (P:=λ c=>match c with | .within f a p d c=>P f a p d c | .at ..=>True) (cs:=[]) (λ c h=>nomatch h) (λ cs r c ih h=>by
  cases c with
  |«at» _ _ _ _=>trivial
  |within f a p d c=>exact st cs (λ f a p d c hc=>ih _ hc) f a p d c (c0I h)) dn.pap
 intro x hx;exact this (x.1.w x.2) (ZG.mpr ⟨x,hx,rfl⟩)
end CM
namespace CM
open PySem L2 DL
structure Fp where
 c0:Nat
 c1:Nat
 c2:Nat
 c3:Nat
 en:List Nat
def idT(nf:Nat):List Nat:=(List.range nf).map λ d=>2 ^ d
def upT(nf:Nat):List Nat:=(List.range nf).map λ d=>if d + 1 < nf then 2 ^ (d + 1) else 0
def dnT(nf:Nat):List Nat:=(List.range nf).map λ d=>if 0 < d then 2 ^ (d - 1) else 0
def enT(nf:Nat)(en:List Nat):List Nat:=(List.range nf).map λ d=>en.getD d 0 * 2 ^ d
def noT(nf:Nat):List Nat:=List.replicate nf 0
def plc(mo:Bool):Nat:=if mo=true then 1 else 0
def inT(nf many f:Nat):List Nat:=if f + 1=many then upT nf else idT nf
def hoT(nf many f:Nat):List Nat:=if f + 1=many then dnT nf else idT nf
def eA(nf:Nat)(p:Fp):Edge:=⟨0,1,p.c3,.step (idT nf)⟩
def eB(mo:Bool)(nf many f:Nat)(p:Fp):Edge:=⟨plc mo,plc mo + 1,p.c0,.call ((f + 1) % many) (inT nf many f) (hoT nf many f) (noT nf)⟩
def eC(mo:Bool)(nf many f:Nat)(p:Fp):Edge:=⟨plc mo + 1,plc mo + 2,p.c1,.call ((f + 1) % many) (inT nf many f) (hoT nf many f) (noT nf)⟩
def eE(mo:Bool)(nf:Nat)(p:Fp):Edge:=⟨plc mo,plc mo + 2,p.c2,.step (enT nf p.en)⟩
def edE(mo:Bool)(nf many f:Nat)(p:Fp):List Edge:=(if mo=true then [eA nf p] else []) ++ [eB mo nf many f p,eC mo nf many f p,eE mo nf p]
def fnE(mo:Bool)(nf many f:Nat)(p:Fp):Fn:=⟨plc mo + 3,nf,edE mo nf many f p⟩
def chE(mo:Bool)(nf:Nat)(ps:List Fp):f7:=ps.zipIdx.map λ x=>fnE mo nf ps.length x.2 x.1
structure B7(nf:Nat)(p:Fp):Prop where
 a0:1 <= p.c0
 b0:p.c0 <= 10 ^ 18
 a1:1 <= p.c1
 b1:p.c1 <= 10 ^ 18
 a2:1 <= p.c2
 b2:p.c2 <= 10 ^ 18
 a3:1 <= p.c3
 b3:p.c3 <= 10 ^ 18
 el:p.en.length=nf
 e1:∀ e ∈ p.en,e=0\/e=1
theorem Q4{α β:Type}{f:Nat->Nat}{nf d:Nat}(h:d < nf):((List.range nf).map f).getD d 0=f d:=by
 rw [ZQ,ZP,Zf h];rfl
theorem a0j{d e:Nat}:e ∈ l8 (2 ^ d) ↔ e=d:=by
 rw [mem_facts,Nat.testBit_two_pow,decide_eq_true_iff];exact eq_comm
theorem U2{e:Nat}:¬ e ∈ l8 0:=by rw [mem_facts,Nat.zero_testBit];exact ZR
theorem a5I{nf d e:Nat}(h:d < nf):e ∈ l8 ((idT nf).getD d 0) ↔ e=d:=by
 unfold idT;rw [Q4 (α:=Nat) (β:=Nat) h];exact a0j
theorem c1j{nf d e:Nat}(h:d < nf):e ∈ l8 ((upT nf).getD d 0) ↔ d + 1 < nf/\e=d + 1:=by
 unfold upT;rw [Q4 (α:=Nat) (β:=Nat) h]
 by_cases z:d + 1 < nf
 ·rw [if_pos z,a0j];exact ⟨λ h=>⟨z,h⟩,λ h=>h.2⟩
 ·rw [if_neg z];exact ⟨λ h=>absurd h U2,λ h=>absurd h.1 z⟩
theorem c0c{nf d e:Nat}(h:d < nf):e ∈ l8 ((dnT nf).getD d 0) ↔ e + 1=d:=by
 unfold dnT;rw [Q4 (α:=Nat) (β:=Nat) h]
 by_cases z:0 < d
 ·rw [if_pos z,a0j];omega
 ·rw [if_neg z];exact ⟨λ h=>absurd h U2,λ h=>by omega⟩
theorem b5U{nf d e:Nat}:¬ e ∈ l8 ((noT nf).getD d 0):=by
 have:(noT nf).getD d 0=0:=by
  unfold noT;rw [ZQ,List.getElem?_replicate]
  split <;> rfl
 rw [this];exact U2
theorem b5T{nf d e:Nat}{p:Fp}(ok:B7 nf p)(h:d < nf):e ∈ l8 ((enT nf p.en).getD d 0) ↔ p.en.getD d 0=1/\e=d:=by
 unfold enT;rw [Q4 (α:=Nat) (β:=Nat) h]
 have:p.en.getD d 0=0\/p.en.getD d 0=1:=by
  have hl:d < p.en.length:=by rw [ok.el];exact h
  rw [ZQ,ZZ hl];exact ok.e1 _ (Zq hl)
 rcases this with z | z
 ·rw [z,Nat.zero_mul];exact ⟨λ h=>absurd h U2,λ h=>by omega⟩
 ·rw [z,Nat.one_mul,a0j];exact ⟨λ h=>⟨rfl,h⟩,λ h=>h.2⟩
theorem J1{mo:Bool}{nf:Nat}{ps:List Fp}{f:Nat}:(chE mo nf ps)[f]?=(ps[f]?).map (fnE mo nf ps.length f):=by
 unfold chE;rw [ZP,List.getElem?_zipIdx]
 cases ps[f]? with
 |none=>rfl
 |some p=>show some _=some _;rw [Nat.zero_add]
theorem a2m(mo:Bool)(nf:Nat)(ps:List Fp):(chE mo nf ps).length=ps.length:=by unfold chE;rw [ZS,List.length_zipIdx]
theorem b3l{nf:Nat}(h:nf <= 6){d:Nat}(hd:d < nf):2 ^ d < 2 ^ nf:=Nat.pow_lt_pow_right @B hd
theorem a0o{nf:Nat}{f:Nat->Nat}(h:∀ d,d < nf->f d < 2 ^ nf):tOk ((List.range nf).map f) nf nf:=⟨by rw [ZS,Zv],λ x hx=>by
 obtain ⟨d,hd,rfl⟩:=ZG.mp hx;exact h d (Zo.mp hd)⟩
theorem a8w{nf:Nat}(h:nf <= 6):tOk (idT nf) nf nf:=a0o λ d hd=>b3l h hd
theorem c1x{nf:Nat}(h:nf <= 6):tOk (upT nf) nf nf:=a0o λ d hd=>by
 split
 ·rename_i z;exact b3l h z
 ·exact Nat.two_pow_pos nf
theorem b9Y{nf:Nat}(h:nf <= 6):tOk (dnT nf) nf nf:=a0o λ d hd=>by
 split
 ·exact b3l h @D
 ·exact Nat.two_pow_pos nf
theorem c0z{nf:Nat}{p:Fp}(h:nf <= 6)(ok:B7 nf p):tOk (enT nf p.en) nf nf:=a0o λ d hd=>by
 have hl:d < p.en.length:=by rw [ok.el];exact hd
 have:p.en.getD d 0=0\/p.en.getD d 0=1:=by
  rw [ZQ,ZZ hl];exact ok.e1 _ (Zq hl)
 rcases this with z | z
 ·rw [z,Nat.zero_mul];exact Nat.two_pow_pos nf
 ·rw [z,Nat.one_mul];exact b3l h hd
theorem b6i(nf:Nat):tOk (noT nf) nf nf:=⟨List.length_replicate,λ x hx=>by rw [(List.mem_replicate.mp hx).2];exact Nat.two_pow_pos nf⟩
theorem b5X{nf many f:Nat}(h:nf <= 6):tOk (inT nf many f) nf nf:=by unfold inT;split;exact c1x h;exact a8w h
theorem b5W{nf many f:Nat}(h:nf <= 6):tOk (hoT nf many f) nf nf:=by unfold hoT;split;exact b9Y h;exact a8w h
theorem mem_edE{mo:Bool}{nf many f:Nat}{p:Fp}{E:Edge}:E ∈ edE mo nf many f p ↔ (mo=true/\E=eA nf p)\/E=eB mo nf many f p\/E=eC mo nf many f p\/E=eE mo nf p:=by
 unfold edE;rw [ZK]
 constructor
 ·rintro (h | h)
  ·by_cases z:mo=true
   ·rw [if_pos z] at h;exact .inl ⟨z,ZX.mp h⟩
   ·rw [if_neg z] at h;cases h
  ·simp only [List.mem_cons,List.not_mem_nil,or_false] at h;exact .inr h
 ·rintro (⟨z,h⟩ | h)
  ·rw [if_pos z];exact .inl (ZX.mpr h)
  ·right;simp only [List.mem_cons,List.not_mem_nil,or_false];exact h
theorem b7C{mo:Bool}{nf:Nat}{ps:List Fp}(h1:1 <= ps.length)(h6:ps.length <= 6)(n1:1 <= nf)(n6:nf <= 6)(ok:∀ p ∈ ps,B7 nf p):WF @Af:=by
 have pl:plc mo <= 1:=by unfold plc;split <;> omega
 refine ⟨by rw [a2m];exact h1,by rw [a2m];exact h6,λ f F hF=>?_⟩;rw [J1] at hF
 cases q:ps[f]? with
 |none=>rw [q] at hF;cases hF
 |some p =>
  rw [q] at hF;cases hF;have kp:=ok p (ZT q);obtain ⟨a0,b0,a1,b1,a2,b2,a3,b3,_,_⟩:=kp
  have cl:∃ G,(chE mo nf ps)[(f + 1) % ps.length]?=some G/\G.facts=nf:=by
   have hm:(f + 1) % ps.length < ps.length:=Nat.mod_lt _ h1;exact ⟨_,by rw [J1,ZZ hm];rfl,rfl⟩
  obtain ⟨G,hG,gf⟩:=cl;refine ⟨by show 1 <= plc mo + 3;omega,by show plc mo + 3 <= 10;omega,n1,n6,?_,λ E hE=>?_⟩
  ·show (edE mo nf ps.length f p).length <= 100;unfold edE;rw [ZW]
   split <;> simp
  ·rcases mem_edE.mp hE with ⟨z,rfl⟩ | rfl | rfl | rfl
   ·refine ⟨?_,?_,a3,b3,a8w n6⟩
    ·show 0 < plc mo + 3;omega
    ·show 1 < plc mo + 3;omega
   ·refine ⟨?_,?_,a0,b0,G,hG,?_,?_,b6i nf⟩
    ·show plc mo < plc mo + 3;omega
    ·show plc mo + 1 < plc mo + 3;omega
    ·rw [gf];exact b5X n6
    ·rw [gf];exact b5W n6
   ·refine ⟨?_,?_,a1,b1,G,hG,?_,?_,b6i nf⟩
    ·show plc mo + 1 < plc mo + 3;omega
    ·show plc mo + 2 < plc mo + 3;omega
    ·rw [gf];exact b5X n6
    ·rw [gf];exact b5W n6
   ·refine ⟨?_,?_,a2,b2,c0z n6 (ok p (ZT q))⟩
    ·show plc mo < plc mo + 3;omega
    ·show plc mo + 2 < plc mo + 3;omega
end CM
namespace CM
open PySem L2 DL
def ahd(mo:Bool)(p:Fp):Nat:=if mo=true then p.c3 else 0
def via(mo:Bool)(p:Fp)(b:Nat):Nat:=ahd mo p + p.c0 + p.c1 + 2 * b
def stp(mo:Bool)(p:Fp)(d:Nat)(b:Option Nat):Option Nat:=match b with
 |none=>if p.en.getD d 0=1 then some (ahd mo p + p.c2) else none
 |some b=>if p.en.getD d 0=1 then some (if via mo p b < ahd mo p + p.c2 then via mo p b else ahd mo p + p.c2) else some (via mo p b)
def fp0:Fp:=⟨0,0,0,0,[]⟩
section
variable (mo:Bool) (nf:Nat) (ps:List Fp)
def b5i(b0:Option Nat)(k:Nat):Nat->Option Nat
 |0=>stp mo (ps.getD (ps.length - 1) fp0) (nf - 1 - k) b0
 |j + 1=>stp mo (ps.getD (ps.length - 1 - (j + 1)) fp0) (nf - 1 - k) (b5i b0 k j)
def b7e:Nat->Option Nat
 |0=>none
 |k + 1=>b5i mo nf ps (b7e k) k (ps.length - 1)
def du(f d:Nat):Option Nat:=b5i mo nf ps (b7e mo nf ps (nf - 1 - d)) (nf - 1 - d) (ps.length - 1 - f)
def blo(f d:Nat):Option Nat:=if f + 1 < ps.length then du mo nf ps (f + 1) d else if d + 1 < nf then du mo nf ps 0 (d + 1) else none
end
section
variable {mo:Bool} {nf:Nat} {ps:List Fp}
theorem a4W{f d:Nat}{p:Fp}(hf:ps[f]?=some p)(hd:d < nf):du mo nf ps f d=stp mo p d (blo mo nf ps f d):=by
 have hl:=(ZY.mp hf).1;have eg:ps.getD f fp0=p:=by rw [ZQ,hf];rfl
 have ed:nf - 1 - (nf - 1 - d)=d:=by omega
 unfold blo du
 by_cases z:f + 1 < ps.length
 ·rw [if_pos z];obtain ⟨j,hj⟩:∃ j,ps.length - 1 - f=j + 1:=⟨ps.length - 1 - (f + 1),by omega⟩
  rw [hj,show ps.length - 1 - (f + 1)=j by omega];show stp mo (ps.getD (ps.length - 1 - (j + 1)) fp0) (nf - 1 - (nf - 1 - d)) _=_;rw [<- hj,show ps.length - 1 - (ps.length - 1 - f)=f by omega,eg,ed]
 ·rw [if_neg z,show ps.length - 1 - f=0 by omega];show stp mo (ps.getD (ps.length - 1) fp0) (nf - 1 - (nf - 1 - d)) _=_;rw [show ps.length - 1=f by omega,eg,ed]
  congr 1
  by_cases z2:d + 1 < nf
  ·rw [if_pos z2];obtain ⟨k,hk⟩:∃ k,nf - 1 - d=k + 1:=⟨nf - 1 - (d + 1),by omega⟩
   rw [hk,show nf - 1 - (d + 1)=k by omega];show b5i mo nf ps (b7e mo nf ps k) k (ps.length - 1)=_;rw [show ps.length - 1=f by omega];rfl
  ·rw [if_neg z2,show nf - 1 - d=0 by omega];rfl
theorem b3n(p:Fp)(d b:Nat):∃ v,stp mo p d (some b)=some v/\v <= via mo p b:=by
 unfold stp;dsimp only;split
 ·refine ⟨_,rfl,?_⟩
  split <;> omega
 ·exact ⟨_,rfl,ZV _⟩
theorem b5s{p:Fp}{d:Nat}(h:p.en.getD d 0=1)(b:Option Nat):∃ v,stp mo p d b=some v/\v <= ahd mo p + p.c2:=by
 unfold stp
 cases b with
 |none=>dsimp only;rw [if_pos h];exact ⟨_,rfl,ZV _⟩
 |some b =>
  dsimp only;rw [if_pos h];refine ⟨_,rfl,?_⟩
  split <;> omega
theorem b4K{p:Fp}{d v:Nat}{b:Option Nat}(h:stp mo p d b=some v):(p.en.getD d 0=1/\v=ahd mo p + p.c2)\/∃ b0,b=some b0/\v=via mo p b0:=by
 unfold stp at h
 cases b with
 |none =>
  dsimp only at h
  split at h
  ·rename_i z;exact .inl ⟨z,(Option.some.inj h).symm⟩
  ·cases h
 |some b =>
  dsimp only at h
  split at h
  ·rename_i z;have h:=Option.some.inj h
   split at h
   ·exact .inr ⟨b,rfl,h.symm⟩
   ·exact .inl ⟨z,h.symm⟩
  ·exact .inr ⟨b,rfl,(Option.some.inj h).symm⟩
def nxt(many f d:Nat):Nat:=if f + 1=many then d + 1 else d
theorem b0x{many f d b:Nat}(hd:d < nf):b ∈ l8 ((inT nf many f).getD d 0) ↔ b=nxt many f d/\(f + 1=many->d + 1 < nf):=by
 unfold inT nxt
 by_cases z:f + 1=many
 ·rw [if_pos z,if_pos z,c1j hd];exact ⟨λ h=>⟨h.2,λ _=>h.1⟩,λ h=>⟨h.2 z,h.1⟩⟩
 ·rw [if_neg z,if_neg z,a5I hd];exact ⟨λ h=>⟨h,λ w=>absurd w z⟩,λ h=>h.1⟩
theorem a5c{many f d e:Nat}(hd:nxt many f d < nf):e ∈ l8 ((hoT nf many f).getD (nxt many f d) 0) ↔ e=d:=by
 unfold hoT
 by_cases z:f + 1=many
 ·rw [if_pos z,c0c hd];unfold nxt;rw [if_pos z];omega
 ·rw [if_neg z,a5I hd];unfold nxt;rw [if_neg z]
theorem b7Y{f d:Nat}(hf:f < ps.length)(hd:f + 1=ps.length->d + 1 < nf):du mo nf ps ((f + 1) % ps.length) (nxt ps.length f d)=blo mo nf ps f d:=by
 unfold blo nxt
 by_cases z:f + 1 < ps.length
 ·rw [if_pos z,Nat.mod_eq_of_lt z,if_neg @D]
 ·have e:f + 1=ps.length:=by omega
  rw [if_neg z,if_pos (hd e),if_pos e,e,Nat.mod_self]
def Snd(mo:Bool)(nf:Nat)(ps:List Fp)(f a p d c:Nat):Prop:=a < nf/\d=a/\∃ q,ps[f]?=some q/\(p < plc mo\/(p=plc mo/\ahd mo q <= c)\/(p=plc mo + 1/\∃ b,blo mo nf ps f a=some b/\ahd mo q + q.c0 + b <= c)\/(p=plc mo + 2/\∃ v,du mo nf ps f a=some v/\v <= c))
theorem b3E{rs:List Row}{I:List @Ak}(ok:∀ p ∈ ps,B7 nf p)(dn:Done @Af rs I):∀ x ∈ I,Snd mo nf ps x.1.f x.1.a x.1.p x.1.d x.2:=by
 have fn:∀ {f:Nat} {F:Fn},(chE mo nf ps)[f]?=some F->∃ q,ps[f]?=some q/\F=fnE mo nf ps.length f q:=λ {f F} h=>by
  rw [J1] at h
  cases q:ps[f]? with
  |none=>rw [q] at h;cases h
  |some p=>rw [q] at h;exact ⟨p,rfl,(Option.some.inj h).symm⟩
 refine dn.ind λ cs ih f a p0 e cc h=>?_
 cases h with
 |begin hF hd =>
  obtain ⟨q,hq,rfl⟩:=fn hF;refine ⟨hd,rfl,q,hq,?_⟩;unfold plc ahd
  cases mo with
  |true=>exact .inl @B
  |false=>exact .inr (.inl ⟨rfl,ZV _⟩)
 |@over p d c n _ F E hb hF hE hp he =>
  obtain ⟨q,hq,rfl⟩:=fn hF;obtain ⟨ha,rfl,q',hq',ih⟩:=ih _ _ _ _ _ hb;rw [hq] at hq';cases hq'
  rcases mem_edE.mp (List.mem_of_getElem? hE) with ⟨z,rfl⟩ | rfl | rfl | rfl
  ·have he:=(a5I ha).mp he;subst he;refine ⟨ha,rfl,q,hq,.inr (.inl ⟨?_,?_⟩)⟩
   ·unfold plc;rw [if_pos z];rfl
   ·unfold ahd;rw [if_pos z];exact Nat.le_add_left _ _
  ·exact absurd he b5U
  ·exact absurd he b5U
  ·obtain ⟨e1,rfl⟩:=(b5T (ok q (ZT hq)) ha).mp he;have hp:plc mo=p:=hp;subst hp
   have hc:ahd mo q <= c:=by
    rcases ih with h | h | h | h
    ·omega
    ·exact h.2
    ·omega
    ·omega
   obtain ⟨v,h1,h2⟩:=b5s (mo:=mo) e1 (blo mo nf ps f e);refine ⟨ha,rfl,q,hq,.inr (.inr (.inr ⟨rfl,v,by rw [a4W hq ha];exact h1,?_⟩))⟩;show v <= c + q.c2;omega
 |@short p d c g b y c' n _ F G E i t o hb hs hF hE hp hk hG hbi het =>
  obtain ⟨q,hq,rfl⟩:=fn hF;obtain ⟨qG,hqG,rfl⟩:=fn hG;obtain ⟨ha,rfl,q',hq',ih1⟩:=ih _ _ _ _ _ hb;rw [hq] at hq';cases hq'
  obtain ⟨ha2,rfl,q2,hq2,ih2⟩:=ih _ _ _ _ _ hs;have fl:=(ZY.mp hq).1;have xp:(fnE mo nf ps.length g qG).places - 1=plc mo + 2:=rfl;rw [xp] at ih2
  obtain ⟨v',hv,lv⟩:∃ v,du mo nf ps g y=some v/\v <= c':=by
   rcases ih2 with h | h | h | h
   ·omega
   ·omega
   ·omega
   ·exact h.2
  have cal:g=(f + 1) % ps.length/\i=inT nf ps.length f/\t=hoT nf ps.length f/\(E=eB mo nf ps.length f q\/E=eC mo nf ps.length f q):=by
   rcases mem_edE.mp (List.mem_of_getElem? hE) with ⟨z,rfl⟩ | rfl | rfl | rfl
   ·cases hk
   ·cases hk;exact ⟨rfl,rfl,rfl,.inl rfl⟩
   ·cases hk;exact ⟨rfl,rfl,rfl,.inr rfl⟩
   ·cases hk
  obtain ⟨rfl,rfl,rfl,eE⟩:=cal;obtain ⟨rfl,hn⟩:=(b0x ha).mp hbi;have he:=(a5c ha2).mp het;subst he;rw [b7Y fl hn] at hv
  rcases eE with rfl | rfl
  ·have hp:plc mo=p:=hp;subst hp
   have hc:ahd mo q <= c:=by
    rcases ih1 with h | h | h | h
    ·omega
    ·exact h.2
    ·omega
    ·omega
   refine ⟨ha,rfl,q,hq,.inr (.inr (.inl ⟨rfl,v',hv,?_⟩))⟩;show ahd mo q + q.c0 + v' <= c + q.c0 + c';omega
  ·have hp:plc mo + 1=p:=hp;subst hp
   obtain ⟨b0,h1,h2⟩:∃ b,blo mo nf ps f e=some b/\ahd mo q + q.c0 + b <= c:=by
    rcases ih1 with h | h | h | h
    ·omega
    ·omega
    ·exact h.2
    ·omega
   rw [hv] at h1;cases h1;obtain ⟨v,h3,h4⟩:=b3n (mo:=mo) q e v';refine ⟨ha,rfl,q,hq,.inr (.inr (.inr ⟨rfl,v,by rw [a4W hq ha,hv];exact h3,?_⟩))⟩;show v <= c + q.c1 + c';unfold via at h4;omega
theorem a5Z{rs:List Row}{I:List @Ak}(ok:∀ p ∈ ps,B7 nf p)(n1:1 <= nf)(dn:Done @Af rs I):∀ (f d v:Nat),f < ps.length->d < nf->du mo nf ps f d=some v->∃ c,(⟨f,d,plc mo + 2,d⟩,c) ∈ I/\c <= v:=by
 have one:∀ (f d v:Nat),f < ps.length->d < nf->du mo nf ps f d=some v->(∀ b,blo mo nf ps f d=some b->∃ c,(⟨(f + 1) % ps.length,nxt ps.length f d,plc mo + 2,nxt ps.length f d⟩,c) ∈ I/\c <= b/\nxt ps.length f d < nf/\(f + 1=ps.length->d + 1 < nf))->∃ c,(⟨f,d,plc mo + 2,d⟩,c) ∈ I/\c <= v:=by
  intro f d v hf hd hv below;have hq:ps[f]?=some ps[f]:=ZZ hf;generalize ps[f]=q at hq;have kq:=ok q (ZT hq);have hF:(chE mo nf ps)[f]?=some (fnE mo nf ps.length f q):=by rw [J1,hq];rfl
  have ed:∀ {E:Edge},E ∈ edE mo nf ps.length f q->∃ n:Nat,(fnE mo nf ps.length f q).edges[n]?=some E:=λ h=>List.mem_iff_getElem?.mp h
  obtain ⟨c0,i0,l0⟩:∃ c,(⟨f,d,plc mo,d⟩,c) ∈ I/\c <= ahd mo q:=by
   have b0:=dn.bg f _ d hF hd;unfold plc ahd
   by_cases z:mo=true
   ·rw [if_pos z,if_pos z];obtain ⟨n,hn⟩:=ed (mem_edE.mpr (.inl ⟨z,rfl⟩));obtain ⟨c',h1,h2⟩:=dn.ov ⟨f,d,0,d⟩ 0 _ _ n b0 hF hn rfl d ((a5I hd).mpr rfl);exact ⟨c',h1,by rw [Nat.zero_add] at h2;exact h2⟩
   ·rw [if_neg z,if_neg z];exact ⟨0,b0,ZV _⟩
  rw [a4W hq hd] at hv
  rcases b4K hv with ⟨e1,rfl⟩ | ⟨b,hb,rfl⟩
  ·obtain ⟨n,hn⟩:=ed (mem_edE.mpr (.inr (.inr (.inr rfl))));obtain ⟨c',h1,h2⟩:=dn.ov ⟨f,d,plc mo,d⟩ c0 _ _ n i0 hF hn rfl d ((b5T kq hd).mpr ⟨e1,rfl⟩);have h2:c' <= c0 + q.c2:=h2;exact ⟨c',h1,by omega⟩
  ·obtain ⟨cb,ib,lb,hl,hn⟩:=below b hb;have hm:(f + 1) % ps.length < ps.length:=Nat.mod_lt _ @D;have hG:(chE mo nf ps)[(f + 1) % ps.length]?=some (fnE mo nf ps.length ((f + 1) % ps.length) ps[(f + 1) % ps.length]):=by rw [J1,ZZ hm];rfl
   have en:∃ k,EnOf @Af I ((f + 1) % ps.length) (nxt ps.length f d) ⟨cb,nxt ps.length f d,k⟩:=by
    obtain ⟨k,hk⟩:=List.mem_iff_getElem?.mp ib;exact ⟨k,_,cb,k,_,hk,rfl,rfl,hG,rfl,rfl⟩
   obtain ⟨kb,en⟩:=en
   have go:∀ (E:Edge) (p q' c:Nat),E ∈ edE mo nf ps.length f q->E.p=p->E.q=q'->E.k = .call ((f + 1) % ps.length) (inT nf ps.length f) (hoT nf ps.length f) (noT nf)->(⟨f,d,p,d⟩,c) ∈ I->∃ c',(⟨f,d,q',d⟩,c') ∈ I/\c' <= c + E.cost + cb:=by
    intro E p q' c hE hp hq' hk hi;obtain ⟨n,hn'⟩:=ed hE;obtain ⟨k,hk'⟩:=List.mem_iff_getElem?.mp hi;have ca:CaOf @Af I ((f + 1) % ps.length) (nxt ps.length f d) ⟨c + E.cost,⟨f,d,p,d⟩,k,n,E⟩:=⟨_,c,k,n,_,E,_,_,_,hk',hF,hn',hp,hk,(b0x hd).mpr ⟨rfl,hn⟩,rfl⟩
    have bt:Y7 E=hoT nf ps.length f:=by unfold Y7;rw [hk]
    obtain ⟨c',h1,h2⟩:=dn.sh _ _ _ _ ca en (c + E.cost + cb,⟨f,d,E.q,d⟩,.short k n kb d) (ZG.mpr ⟨d,by
     show d ∈ l8 ((Y7 E).getD (nxt ps.length f d) 0);rw [bt];exact (a5c hl).mpr rfl,rfl⟩)
    rw [hq'] at h1;exact ⟨c',h1,h2⟩
   obtain ⟨c1,i1,l1⟩:=go (eB mo nf ps.length f q) (plc mo) (plc mo + 1) c0 (mem_edE.mpr (.inr @AH)) rfl rfl rfl i0;obtain ⟨c2,i2,l2⟩:=go (eC mo nf ps.length f q) (plc mo + 1) (plc mo + 2) c1 (mem_edE.mpr (.inr (.inr @AH))) rfl rfl rfl i1;have l1:c1 <= c0 + q.c0 + cb:=l1;have l2:c2 <= c1 + q.c1 + cb:=l2;exact ⟨c2,i2,by unfold via;omega⟩
 have all:∀ (k:Nat),∀ (d:Nat),nf - 1 - d=k->d < nf->∀ (j f:Nat),ps.length - 1 - f=j->f < ps.length->∀ v,du mo nf ps f d=some v->∃ c,(⟨f,d,plc mo + 2,d⟩,c) ∈ I/\c <= v:=by
  intro k
  induction k with
  |zero =>
   intro d hk hd j
   induction j with
   |zero =>
    intro f hj hf v hv;refine one f d v hf hd hv λ b hb=>?_;unfold blo at hb;rw [if_neg @D,if_neg @D] at hb;cases hb
   |succ j ihj =>
    intro f hj hf v hv;refine one f d v hf hd hv λ b hb=>?_;unfold blo at hb;rw [if_pos @D] at hb;obtain ⟨c,h1,h2⟩:=ihj (f + 1) @D @D b hb;have en:nxt ps.length f d=d:=by unfold nxt;rw [if_neg @D]
    rw [en,Nat.mod_eq_of_lt @D];exact ⟨c,h1,h2,hd,λ z=>by omega⟩
  |succ k ihk =>
   intro d hk hd j
   induction j with
   |zero =>
    intro f hj hf v hv;refine one f d v hf hd hv λ b hb=>?_;unfold blo at hb;rw [if_neg @D,if_pos @D] at hb;obtain ⟨c,h1,h2⟩:=ihk (d + 1) @D @D (ps.length - 1 - 0) 0 rfl @D b hb;have ef:f + 1=ps.length:=by omega
    have en:nxt ps.length f d=d + 1:=by unfold nxt;rw [if_pos ef]
    rw [en,ef,Nat.mod_self];exact ⟨c,h1,h2,by omega,λ _=>by omega⟩
   |succ j ihj =>
    intro f hj hf v hv;refine one f d v hf hd hv λ b hb=>?_;unfold blo at hb;rw [if_pos @D] at hb;obtain ⟨c,h1,h2⟩:=ihj (f + 1) @D @D b hb;have en:nxt ps.length f d=d:=by unfold nxt;rw [if_neg @D]
    rw [en,Nat.mod_eq_of_lt @D];exact ⟨c,h1,h2,hd,λ z=>by omega⟩
 intro f d v hf hd hv;exact all _ d rfl hd _ f rfl hf v hv
theorem a5P{rs:List Row}{I:List @Ak}(ok:∀ p ∈ ps,B7 nf p)(n1:1 <= nf)(dn:Done @Af rs I){f a d c:Nat}(hf:f < ps.length):(⟨f,a,plc mo + 2,d⟩,c) ∈ I ↔ a < nf/\d=a/\du mo nf ps f a=some c:=by
 have sn:=b3E ok dn
 have key:∀ a c,(⟨f,a,plc mo + 2,a⟩,c) ∈ I->∃ v,du mo nf ps f a=some v/\v <= c:=λ a c h=>by
  obtain ⟨_,_,q,_,ih⟩:=sn _ h;dsimp only at ih
  rcases ih with h | h | h | h
  ·omega
  ·omega
  ·omega
  ·exact h.2
 have uni:∀ (k:Ky) (c c':Nat),(k,c) ∈ I->(k,c') ∈ I->c=c':=λ k c c' h h'=>by
  obtain ⟨i,hi⟩:=List.mem_iff_getElem?.mp h;obtain ⟨j,hj⟩:=List.mem_iff_getElem?.mp h'
  have:=T2 dn.nd hi hj
  subst this;rw [hi] at hj
  injection hj with hj
  injection hj
 constructor
 ·intro h;obtain ⟨ha,hd,_⟩:=sn _ h;dsimp only at ha hd;subst hd;obtain ⟨v,h1,h2⟩:=key _ _ h;obtain ⟨c',h3,h4⟩:=a5Z ok n1 dn f d v hf ha h1
  have:=uni _ _ _ h h3
  exact ⟨ha,rfl,by rw [h1];congr 1;omega⟩
 ·rintro ⟨ha,rfl,h⟩
  obtain ⟨c',h3,h4⟩:=a5Z ok n1 dn f d c hf ha h;obtain ⟨v,h1,h2⟩:=key _ _ h3;rw [h] at h1;cases h1
  have:c'=c:=by omega
  rw [<- this];exact h3
end
end CM
namespace CM
open PySem L2 DL
def dcE(g:Nat->Ct)(n:Nat):List O:=(List.range n).map λ f=>O.dT none (tbD (g f))
theorem a0c(g:Nat->Ct)(n:Nat):(dcE g n).length=n:=by unfold dcE;rw [ZS,Zv]
theorem Q3{g:Nat->Ct}{n f:Nat}(h:f < n):(dcE g n)[f]?=some (.dT none (tbD (g f))):=by
 unfold dcE;rw [ZP,Zf h];rfl
theorem b4d(n:Nat):dcE (λ _=>[]) n=List.replicate n (.dT none []):=by
 show (List.range n).map (λ _=>O.dT none [])=_;rw [List.map_const',Zv]
theorem D4{g g':Nat->Ct}{n:Nat}(h:∀ f,f < n->g f=g' f):dcE g n=dcE g' n:=by
 unfold dcE;exact Zg λ f hf=>by rw [h f (Zo.mp hf)]
theorem a2n{g:Nat->Ct}{n f:Nat}{m:Ct}(h:f < n):(dcE g n).set f (.dT none (tbD m))=dcE (λ f'=>if f'=f then m else g f') n:=by
 refine List.ext_getElem? λ i=>?_
 by_cases e:f=i
 ·subst e;rw [ZH (by rw [a0c];exact h),Q3 h,if_pos rfl]
 ·rw [Zx e]
  by_cases hi:i < n
  ·rw [Q3 hi,Q3 hi,if_neg (Ne.symm e)]
  ·rw [Zm (by rw [a0c];omega),Zm (by rw [a0c];omega)]
section
variable (mo:Bool) (nf:Nat) (ps:List Fp)
def K6(f d:Nat):Ct:=match du mo nf ps f d with | some v=>[([d,d],v)] | none=>[]
def C6(f:Nat)(l:List Nat):Ct:=l.flatMap (K6 mo nf ps f)
def dsL(k:Nat):List Nat:=(List.range k).map λ i=>nf - 1 - i
def Gd(k j f:Nat):Ct:=C6 mo nf ps f (dsL nf k ++ if ps.length <= f + j then [nf - 1 - k] else [])
end
section
variable {mo:Bool} {nf:Nat} {ps:List Fp}
theorem a6H(f:Nat)(l:List Nat)(d:Nat):C6 mo nf ps f (l ++ [d])=C6 mo nf ps f l ++ K6 mo nf ps f d:=by unfold C6;rw [List.flatMap_append,List.flatMap_singleton]
theorem mem_ent{f:Nat}{l:List Nat}{x:Kt×Nat}:x ∈ C6 mo nf ps f l ↔ ∃ d ∈ l,∃ v,du mo nf ps f d=some v/\x=([d,d],v):=by
 unfold C6;rw [Zb]
 constructor
 ·rintro ⟨d,hd,h⟩
  unfold K6 at h
  cases q:du mo nf ps f d with
  |none=>rw [q] at h;cases h
  |some v=>rw [q] at h;exact ⟨d,hd,v,q,ZX.mp h⟩
 ·rintro ⟨d,hd,v,q,rfl⟩
  refine ⟨d,hd,?_⟩;unfold K6;rw [q];exact ZX.mpr rfl
theorem G4{f:Nat}(d:Nat):∀ (l:List Nat),look (C6 mo nf ps f l) [d,d]=if d ∈ l then du mo nf ps f d else none
 |[]=>rfl
 |e :: l=>by
  have c:C6 mo nf ps f (e :: l)=K6 mo nf ps f e ++ C6 mo nf ps f l:=List.flatMap_cons;rw [c];unfold K6
  by_cases z:e=d
  ·subst z;rw [if_pos ZO]
   cases q:du mo nf ps f e with
   |none =>
    rw [Zj,G4 e l,q]
    split <;> rfl
   |some v=>rw [List.cons_append,v9,if_pos rfl]
  ·have m:d ∈ e :: l ↔ d ∈ l:=⟨λ h=>(List.mem_cons.mp h).elim (λ w=>absurd w.symm z) id,ZM _⟩
   have n:¬ ([e,e]:Kt)=[d,d]:=λ w=>by injection w with w;exact z w
   cases q:du mo nf ps f e with
   |none=>rw [Zj,G4 d l];simp only [m]
   |some v=>rw [List.cons_append,v9,if_neg n,Zj,G4 d l];simp only [m]
theorem mem_dsL{k d:Nat}:d ∈ dsL nf k ↔ ∃ i,i < k/\nf - 1 - i=d:=by
 unfold dsL;rw [ZG];exact ⟨λ ⟨i,h1,h2⟩=>⟨i,Zo.mp h1,h2⟩,λ ⟨i,h1,h2⟩=>⟨i,Zo.mpr h1,h2⟩⟩
theorem a7Y(k:Nat):dsL nf (k + 1)=dsL nf k ++ [nf - 1 - k]:=by unfold dsL;rw [List.range_succ,Zz];rfl
theorem b4r{k f:Nat}(h:f < ps.length):Gd mo nf ps k ps.length f=Gd mo nf ps (k + 1) 0 f:=by
 unfold Gd;rw [if_pos @D,if_neg @D,a7Y,Zr]
theorem a5M{m:Ct}{k:Kt}(h:look m k=none)(v:Nat):y3 m k v=m ++ [(k,v)]:=by
 unfold y3;rw [if_neg];intro z;obtain ⟨x,hx,e⟩:=Zh.mp z;unfold look at h
 cases q:m.find? λ x=>decide (x.1=k) with
 |some y=>rw [q] at h;cases h
 |none=>rw [List.find?_eq_none] at q;exact q x hx e
theorem b4U{m:Ct}{k:Kt}(h:look m k=none)(v v':Nat):y3 (m ++ [(k,v)]) k v'=m ++ [(k,v')]:=by
 have hn:∀ x ∈ m,x.1 ≠ k:=λ x hx e=>by
  unfold look at h
  cases q:m.find? λ x=>decide (x.1=k) with
  |some y=>rw [q] at h;cases h
  |none=>rw [List.find?_eq_none] at q;exact q x hx (decide_eq_true e)
 unfold y3;rw [if_pos (by rw [List.any_append,YZ];simp),Zz]
 congr 1
 ·refine (Zg λ x hx=>?_).trans (List.map_id m);rw [if_neg (hn x hx)];rfl
 ·show [if k=k then (k,v') else (k,v)]=_;rw [if_pos rfl]
theorem b4V{m:Ct}{k:Kt}(h:look m k=none)(v:Nat):look (m ++ [(k,v)]) k=some v:=by
 unfold look at h ⊢;rw [List.find?_append]
 cases q:m.find? λ x=>decide (x.1=k) with
 |some y=>rw [q] at h;cases h
 |none=>rw [Option.none_or,List.find?_cons,decide_eq_true rfl];rfl
theorem b4i{k j:Nat}(hk:k < nf)(hj:j < ps.length)(f':Nat)(hf:f' < ps.length):(if f'=ps.length - 1 - j then Gd mo nf ps k j f' ++ K6 mo nf ps f' (nf - 1 - k) else Gd mo nf ps k j f')=Gd mo nf ps k (j + 1) f':=by
 by_cases z:f'=ps.length - 1 - j
 ·rw [if_pos z];unfold Gd;rw [if_neg @D,if_pos @D,Zr,a6H]
 ·rw [if_neg z];unfold Gd
  by_cases w:ps.length <= f' + j
  ·rw [if_pos w,if_pos @D]
  ·rw [if_neg w,if_neg @D]
theorem b3Y{k j:Nat}(hk:k < nf)(hj:j < ps.length):look (Gd mo nf ps k j (ps.length - 1 - j)) [nf - 1 - k,nf - 1 - k]=none:=by
 unfold Gd;rw [if_neg @D,Zr,G4,if_neg];intro z;obtain ⟨i,h1,h2⟩:=mem_dsL.mp z;omega
theorem a9o{k j:Nat}(hk:k < nf)(hj:j < ps.length):(if ps.length - 1 - j + 1=ps.length then look (Gd mo nf ps k j 0) [nf - 1 - k + 1,nf - 1 - k + 1] else look (Gd mo nf ps k j (ps.length - 1 - j + 1)) [nf - 1 - k,nf - 1 - k])=blo mo nf ps (ps.length - 1 - j) (nf - 1 - k):=by
 unfold blo Gd
 by_cases z:ps.length - 1 - j + 1=ps.length
 ·rw [if_pos z,if_neg (show ¬ ps.length - 1 - j + 1 < ps.length by omega),if_neg @D,Zr,G4]
  by_cases w:nf - 1 - k + 1 < nf
  ·rw [if_pos w,if_pos (mem_dsL.mpr ⟨k - 1,by omega,by omega⟩)]
  ·rw [if_neg w,if_neg];intro u;obtain ⟨i,h1,h2⟩:=mem_dsL.mp u;omega
 ·rw [if_neg z,if_pos (show ps.length - 1 - j + 1 < ps.length by omega),if_pos @D,G4,if_pos (ZJ _ (ZX.mpr rfl))]
end
end CM
namespace CM
open PySem L2 DL
theorem a2N{α:Type} [DecidableEq α]:∀ {l m:List α},l.Nodup->(∀ x ∈ l,x ∈ m)->l.length <= m.length
 |[],_,_,_=>YL _
 |a :: l,m,nd,h=>by
  have ha:=h a ZO;obtain ⟨n1,n2⟩:=Zc.mp nd
  have:=a2N (l:=l) (m:=m.erase a) n2 λ x hx=>(List.mem_erase_of_ne (λ e:x=a=>n1 (e ▸ hx))).mpr (h x (ZM _ hx))
  rw [List.length_erase_of_mem ha] at this;have hp:=List.length_pos_of_mem ha;rw [Zw];omega
theorem b5t{h h':Hh}{i:Nat}{o:O}(p:Pre h h')(hi:h.length <= i):Pre h (h'.set i o):=λ j x e=>by
 have:=(ZY.mp e).1
 rw [Zx @D];exact p j x e
section
variable {mo:Bool} {nf:Nat} {ps:List Fp}
theorem b3p{I:List @Ak}{rs:List Row}(ok:∀ p ∈ ps,B7 nf p)(n1:1 <= nf)(dn:Done @Af rs I){f:Nat}(hf:f < ps.length){x:Kt×Nat}:x ∈ shN @Af f I ↔ ∃ d v,d < nf/\du mo nf ps f d=some v/\x=([d,d],v):=by
 have hF:(chE mo nf ps)[f]?=some (fnE mo nf ps.length f ps[f]):=by rw [J1,ZZ hf];rfl
 unfold shN;rw [ZG]
 constructor
 ·rintro ⟨y,hy,rfl⟩
  obtain ⟨h1,h2⟩:=Zi.mp hy;rw [ZC] at h2;obtain ⟨⟨yf,ya,yp,yd⟩,yc⟩:=y;have e1:yf=f:=of_decide_eq_true h2.1;subst e1;have h3:=h2.2;unfold E7 at h3;dsimp only at h3;rw [hF] at h3;have h3:yp + 1=plc mo + 3:=of_decide_eq_true h3;have h4:yp=plc mo + 2:=by omega
  subst h4;obtain ⟨a1,rfl,a2⟩:=(a5P ok n1 dn hf).mp h1;exact ⟨_,yc,a1,a2,rfl⟩
 ·rintro ⟨d,v,h1,h2,rfl⟩
  refine ⟨(⟨f,d,plc mo + 2,d⟩,v),Zi.mpr ⟨(a5P ok n1 dn hf).mpr ⟨h1,rfl,h2⟩,?_⟩,rfl⟩;rw [ZC];refine ⟨decide_eq_true rfl,?_⟩;unfold E7;dsimp only;rw [hF];exact decide_eq_true rfl
theorem b1C{I:List @Ak}{rs:List Row}(ok:∀ p ∈ ps,B7 nf p)(n1:1 <= nf)(dn:Done @Af rs I){f:Nat}(hf:f < ps.length):(shN @Af f I).length=(C6 mo nf ps f (dsL nf nf)).length/\∀ x ∈ shN @Af f I,x ∈ C6 mo nf ps f (dsL nf nf):=by
 have me:∀ x,x ∈ C6 mo nf ps f (dsL nf nf) ↔ ∃ d v,d < nf/\du mo nf ps f d=some v/\x=([d,d],v):=λ x=>by
  rw [mem_ent]
  constructor
  ·rintro ⟨d,hd,v,h1,h2⟩
   obtain ⟨i,hi,rfl⟩:=mem_dsL.mp hd;exact ⟨_,v,by omega,h1,h2⟩
  ·rintro ⟨d,v,hd,h1,h2⟩
   exact ⟨d,mem_dsL.mpr ⟨nf - 1 - d,by omega,by omega⟩,v,h1,h2⟩
 have ms:∀ x,x ∈ shN @Af f I ↔ _:=λ x=>b3p ok n1 dn hf
 have nd1:(shN @Af f I).Nodup:=by
  unfold shN List.Nodup;rw [List.pairwise_map];have nd:=dn.nd;unfold List.Nodup at nd;rw [List.pairwise_map] at nd;refine (nd.filter _).imp_of_mem λ {x y} hx hy ne e=>ne ?_;obtain ⟨_,h2⟩:=Zi.mp hx;obtain ⟨_,k2⟩:=Zi.mp hy;rw [ZC] at h2 k2;obtain ⟨⟨a1,a2,a3,a4⟩,a5⟩:=x;obtain ⟨⟨b1,b2,b3,b4⟩,b5⟩:=y;have f1:a1=f:=of_decide_eq_true h2.1;have f2:b1=f:=of_decide_eq_true k2.1;have h3:=h2.2;have k3:=k2.2;subst f1;subst f2;unfold E7 at h3 k3;dsimp only at h3 k3
  cases q:(chE mo nf ps)[b1]? with
  |none=>rw [q] at h3;cases h3
  |some F =>
   rw [q] at h3 k3;have h3:=of_decide_eq_true h3;have k3:=of_decide_eq_true k3
   injection e with e e5
   injection e with e2 e
   injection e with e4 _
   dsimp only at e2 e4 ⊢;rw [e2,e4,show a3=b3 by omega]
 have nd2:(C6 mo nf ps f (dsL nf nf)).Nodup:=by
  have gen:∀ l:List Nat,l.Nodup->(C6 mo nf ps f l).Nodup:=λ l=>by
   induction l with
   |nil=>intro _;exact List.nodup_nil
   |cons d l ih =>
    intro nd;obtain ⟨n1,n2⟩:=Zc.mp nd;have c:C6 mo nf ps f (d :: l)=K6 mo nf ps f d ++ C6 mo nf ps f l:=List.flatMap_cons;rw [c];unfold K6
    cases q:du mo nf ps f d with
    |none=>exact ih n2
    |some v =>
     refine Zc.mpr ⟨λ z=>?_,ih n2⟩;obtain ⟨e,he,v',_,h⟩:=mem_ent.mp z
     injection h with h _
     injection h with h _
     exact n1 (h ▸ he)
  refine gen _ ?_;unfold dsL List.Nodup;rw [List.pairwise_map]
  exact List.pairwise_iff_getElem.mpr λ i j hi hj hij=>by
   rw [List.getElem_range,List.getElem_range];rw [Zv] at hi hj;omega
 have sub:∀ x ∈ shN @Af f I,x ∈ C6 mo nf ps f (dsL nf nf):=λ x hx=>(me x).mpr ((ms x).mp hx);exact ⟨Nat.le_antisymm (a2N nd1 sub) (a2N nd2 λ x hx=>(ms x).mpr ((me x).mp hx)),sub⟩
end
theorem a5n(m:Ct):b4D (tbD m):=λ kv hkv=>by
 unfold tbD at hkv;obtain ⟨x,_,rfl⟩:=ZG.mp hkv;refine ⟨⟨x.1.map λ n:Nat=>(n:Int),?_⟩,_,rfl⟩;show kN x.1=_;unfold kN;rw [Zd];rfl
end CM
namespace K45
open PySem L2 DL CM
local macro_rules | `(tactic| right) => `(tactic| first | decide | omega)
local macro_rules | `(tactic| simp only [VS]) => `(tactic| simp only [List.map_cons, List.map_nil, List.cons_append, List.nil_append, List.length_cons, List.length_nil, List.replicate, Nat.reduceSub, Nat.reduceAdd, Nat.zero_add, Nat.sub_self])
local macro_rules | `(tactic| left) => do
  let n := Lean.mkIdent `N
  let h := Lean.mkIdent `hN
  `(tactic| ((try dsimp only); refine G8 fun $n $h => ?_))
def vvA : String := "k8 f8 b8 dC dOp dUn o9 dTr a4j dOr b4j a9B c4h a7S dIf x0 p8 c3U y8 p7 b1t dCB o7 b7 f9 v7 dV dTk a5h b5P a0m W0 a6e a0f dSl a0Z A7 a6D c4e c3t a0x C0 c2i c1h c2t Q1 O9 u9 a4k c2h B3 D9 c3A c3m c4j c2P c4b pI pI0 pB0 b0F pIs pIx pEq a1n Z9 P3 a4U b2N b8C c4i n4 c0U S0 pIn b7o K8 b6j B2 a1x p5 b7b c3E c4f c3v c2q a9F a4T a2E b9z a1g a1U c2V b0s a5o c2X c3n c4g b0O b0M c0X a7I a4r b1j reduceIte"
def vvB : String := "b2r a0J c2e c3b c1Z c1Y c2j c1W c1U eqS List.map_cons List.map_nil List.cons_append List.nil_append List.length_cons List.length_nil List.replicate List.getElem?_cons_zero List.getElem?_cons_succ List.set_cons_zero List.set_cons_succ Option.getD_some Option.getD_none List.getElem?_nil Bool.false_eq_true Bool.not_true Bool.not_false if_true if_false ite_true ite_false eq_self_iff_true decide_true decide_false Nat.reduceSub Nat.reduceAdd Nat.sub_zero Nat.sub_self Nat.zero_add Option.map_some Option.map_none Option.bind_some Option.bind_none c0m b9R b6n c1k c2m c1Q c0O b9L b8e c0C c1S c2l c2c c2f c1X c2b b9W b9q c1n c1R c2d c2k c2W c2g b9J c0D b9P b9O b9T b9V a6l a6w a7m a4B a5K a5O b2b b3K b4A a9Z b2l b2p b2U b5w b6f b1H b2s b4Z b4g b5V b5S b1M b4P b3V b1q b1F b1Y a7s a7Q b0e b1P b4s b3X a9R b2o b1N b1D b4k b5r b0B b1U b1I c2p c4c c3j c3y c4a c3R c3o c3C c3k c3D c3S c3q c3i c3O c3B c3s c3K c3w c3G c3V c3x c3Z c3H c3M c3l c3Y c3P c3N c3X c3p c3J c3u c3Q c3z c3F c3L c3r c3T c1V b3G b3T b6D b2D b1Z b1V b2d b2m a9K b7K b6c c2a b3H b3a b6N b3L b1O b1S b1G b2n b0j b9l b5y c3W b7Q b9c c0G b7D b6d b6k b5C b5Q b4G c0i b9N c1T b4h b3Q b8v b4v b1R b2e b1T b1X a8x b9i b5E c1s b1L b1W b6m b1K a7A a7J a9z a8R a7x b5A b3o c1F b2h b2k b5F b2g b0b a9h b0I a9b a7z b6e b2X c1p b2c b1J b5I b1Q b0Z b1m b1e b0p a7y b5x b3F c0b b2j b1E b6g b2f a7X a8Z a8K a8H a7u b5O b3j b9S b1n a8o b2P b0a a7t a7r a7w a7v a6E b2Q b2a c4d b6S b7A c0f b6A b5G b5Y b5Z b6b b2S c0J b9U c2K b5B b6l b9M b5J b4O b4a b5a b3M b2i b9K b8V Bool.and_self Bool.and_true b4o a2I"
local macro_rules | `(tactic| simp only [VV]) => do
  let as := ((vvA.splitOn " ")).toArray.map λ s => Lean.mkIdent s.toName
  let bs := ((vvB.splitOn " ")).toArray.map λ s => Lean.mkIdent s.toName
  `(tactic| simp only [$[↓$as:ident],*, $[$bs:ident],*])
local macro_rules | `(tactic| simp only [$xs,*, VV]) => do
  let as := ((vvA.splitOn " ")).toArray.map λ s => Lean.mkIdent s.toName
  let bs := ((vvB.splitOn " ")).toArray.map λ s => Lean.mkIdent s.toName
  `(tactic| simp only [$xs,*, $[↓$as:ident],*, $[$bs:ident],*])
local macro_rules | `(tactic| simp only [VV0]) => do
  let as := ((vvA.splitOn " ").filter (λ s => !(["p5"] : List String).contains s)).toArray.map λ s => Lean.mkIdent s.toName
  let bs := ((vvB.splitOn " ").filter (λ s => !(["p5"] : List String).contains s)).toArray.map λ s => Lean.mkIdent s.toName
  `(tactic| simp only [$[↓$as:ident],*, $[$bs:ident],*])
local macro_rules | `(tactic| simp only [$xs,*, VV0]) => do
  let as := ((vvA.splitOn " ").filter (λ s => !(["p5"] : List String).contains s)).toArray.map λ s => Lean.mkIdent s.toName
  let bs := ((vvB.splitOn " ").filter (λ s => !(["p5"] : List String).contains s)).toArray.map λ s => Lean.mkIdent s.toName
  `(tactic| simp only [$xs,*, $[↓$as:ident],*, $[$bs:ident],*])
local macro_rules | `(tactic| simp only [VV1]) => do
  let as := ((vvA.splitOn " ").filter (λ s => !(["a2I"] : List String).contains s)).toArray.map λ s => Lean.mkIdent s.toName
  let bs := ((vvB.splitOn " ").filter (λ s => !(["a2I"] : List String).contains s)).toArray.map λ s => Lean.mkIdent s.toName
  `(tactic| simp only [$[↓$as:ident],*, $[$bs:ident],*])
local macro_rules | `(tactic| simp only [$xs,*, VV1]) => do
  let as := ((vvA.splitOn " ").filter (λ s => !(["a2I"] : List String).contains s)).toArray.map λ s => Lean.mkIdent s.toName
  let bs := ((vvB.splitOn " ").filter (λ s => !(["a2I"] : List String).contains s)).toArray.map λ s => Lean.mkIdent s.toName
  `(tactic| simp only [$xs,*, $[↓$as:ident],*, $[$bs:ident],*])
local macro_rules | `(tactic| simp only [VV2]) => do
  let as := ((vvA.splitOn " ").filter (λ s => !(["pEq"] : List String).contains s)).toArray.map λ s => Lean.mkIdent s.toName
  let bs := ((vvB.splitOn " ").filter (λ s => !(["pEq"] : List String).contains s)).toArray.map λ s => Lean.mkIdent s.toName
  `(tactic| simp only [$[↓$as:ident],*, $[$bs:ident],*])
local macro_rules | `(tactic| simp only [$xs,*, VV2]) => do
  let as := ((vvA.splitOn " ").filter (λ s => !(["pEq"] : List String).contains s)).toArray.map λ s => Lean.mkIdent s.toName
  let bs := ((vvB.splitOn " ").filter (λ s => !(["pEq"] : List String).contains s)).toArray.map λ s => Lean.mkIdent s.toName
  `(tactic| simp only [$xs,*, $[↓$as:ident],*, $[$bs:ident],*])
local macro_rules | `(tactic| simp only [VV3]) => do
  let as := ((vvA.splitOn " ").filter (λ s => !(["a2I", "p5"] : List String).contains s)).toArray.map λ s => Lean.mkIdent s.toName
  let bs := ((vvB.splitOn " ").filter (λ s => !(["a2I", "p5"] : List String).contains s)).toArray.map λ s => Lean.mkIdent s.toName
  `(tactic| simp only [$[↓$as:ident],*, $[$bs:ident],*])
local macro_rules | `(tactic| simp only [$xs,*, VV3]) => do
  let as := ((vvA.splitOn " ").filter (λ s => !(["a2I", "p5"] : List String).contains s)).toArray.map λ s => Lean.mkIdent s.toName
  let bs := ((vvB.splitOn " ").filter (λ s => !(["a2I", "p5"] : List String).contains s)).toArray.map λ s => Lean.mkIdent s.toName
  `(tactic| simp only [$xs,*, $[↓$as:ident],*, $[$bs:ident],*])
def top(i:Nat):Stmt:=PySem.Challenge.pw_callmatch_k45_doubled_costs.main.body.getD i (.Pass ⟨0,0,0,0⟩)
def G5:Stmt->Nat->Stmt
 |.ClassDef _ _ _ body _ _ _ _ _ _ _,k=>body.getD k (.Pass ⟨0,0,0,0⟩)
 |s,_=>s
abbrev a9w:Stmt:=top 5
abbrev b0c:Stmt:=top 9
abbrev a9W:Stmt:=top 10
abbrev a7B:Stmt:=top 11
abbrev a9j:Stmt:=top 12
abbrev a9H:Stmt:=top 6
abbrev a9n:Stmt:=top 13
abbrev a8U:Stmt:=top 24
abbrev a9V:Stmt:=top 25
abbrev b1A:Stmt:=top 31
abbrev b1v:Stmt:=top 26
abbrev b0W:Stmt:=top 30
abbrev a8X:Stmt:=top 27
abbrev a8y:Stmt:=top 28
abbrev a8i:Stmt:=top 29
abbrev a9r:Stmt:=top 23
abbrev b0X:Stmt:=top 22
abbrev b0l:Stmt:=top 17
abbrev b0K:Stmt:=top 38
abbrev a2J:Stmt:=G5 (top 15) 0
abbrev a9y:Stmt:=top 18
abbrev a7E:Stmt:=top 20
abbrev b1o:Stmt:=top 19
abbrev a2j:Stmt:=G5 (top 15) 1
abbrev a2v:Stmt:=G5 (top 15) 2
abbrev a2u:Stmt:=G5 (top 16) 0
abbrev a2R:Stmt:=G5 (top 36) 0
abbrev a2o:Stmt:=G5 (top 16) 1
abbrev a2H:Stmt:=G5 (top 16) 2
abbrev a2t:Stmt:=G5 (top 36) 1
abbrev R7:Stmt:=G5 (top 36) 3
abbrev a2r:Stmt:=G5 (top 36) 6
abbrev Q9:Stmt:=G5 (top 36) 4
abbrev a2g:Stmt:=G5 (top 36) 5
abbrev Q8:Stmt:=G5 (top 36) 2
abbrev b0k:Stmt:=top 33
abbrev a7P:Stmt:=top 35
abbrev a8t:Stmt:=top 34
abbrev a9T:Stmt:=top 39
abbrev b0f:Stmt:=top 40
abbrev b0t:Stmt:=top 41
abbrev a9Q:Stmt:=top 42
abbrev a9a:Stmt:=top 43
abbrev R9:Stmt:=top 44
theorem b7t:i9 ["mask"] ["mask"] (d7 a9w):=⟨rfl,rfl,rfl,by decide +kernel,rfl,by decide +kernel,by decide +kernel⟩
theorem b8c:i9 ["chart","f"] ["chart","f"] (d7 b0c):=⟨rfl,rfl,rfl,by decide +kernel,rfl,by decide +kernel,by decide +kernel⟩
theorem b9a:i9 ["chart","start"] ["chart","start"] (d7 a9W):=⟨rfl,rfl,rfl,by decide +kernel,rfl,by decide +kernel,by decide +kernel⟩
theorem b8r:i9 ["chart","f","p"] ["chart","f","p"] (d7 a7B):=⟨rfl,rfl,rfl,by decide +kernel,rfl,by decide +kernel,by decide +kernel⟩
theorem b7c:i9 ["edge"] ["edge"] (d7 a9j):=⟨rfl,rfl,rfl,by decide +kernel,rfl,by decide +kernel,by decide +kernel⟩
theorem b7N:i9 ["table","d","e"] ["table","d","e"] (d7 a9H):=⟨rfl,rfl,rfl,by decide +kernel,rfl,by decide +kernel,by decide +kernel⟩
theorem sc_q27:i9 ["chart","here","move","edges","n","edge"] ["chart","here","move"] (d7 a9n):=⟨rfl,rfl,rfl,by decide +kernel,rfl,by decide +kernel,by decide +kernel⟩
theorem b8F:i9 ["ahead","k","sort"] ["ahead","k","sort"] (d7 a8U):=⟨rfl,rfl,rfl,by decide +kernel,rfl,by decide +kernel,by decide +kernel⟩
theorem sc_q21:i9 ["chart","row","f","d"] ["chart","row"] (d7 a9V):=⟨rfl,rfl,rfl,by decide +kernel,rfl,by decide +kernel,by decide +kernel⟩
theorem b9v:i9 ["row"] ["row"] (d7 b1A):=⟨rfl,rfl,rfl,by decide +kernel,rfl,by decide +kernel,by decide +kernel⟩
theorem sc_q41:i9 ["chart","start","row","d"] ["chart","start","row"] (d7 b1v):=⟨rfl,rfl,rfl,by decide +kernel,rfl,by decide +kernel,by decide +kernel⟩
theorem sc_q20:i9 ["ahead","row","base","moved","f"] ["ahead","row"] (d7 b0W):=⟨rfl,rfl,rfl,by decide +kernel,rfl,by decide +kernel,by decide +kernel⟩
theorem sc_q26:i9 ["chart","ahead","row","base","f","edge"] ["chart","ahead","row"] (d7 a8X):=⟨rfl,rfl,rfl,by decide +kernel,rfl,by decide +kernel,by decide +kernel⟩
theorem sc_q38:i9 ["chart","ahead","row","base","called","f","edge"] ["chart","ahead","row"] (d7 a8y):=⟨rfl,rfl,rfl,by decide +kernel,rfl,by decide +kernel,by decide +kernel⟩
theorem sc_q31:i9 ["chart","ahead","row","base","edge"] ["chart","ahead","row"] (d7 a8i):=⟨rfl,rfl,rfl,by decide +kernel,rfl,by decide +kernel,by decide +kernel⟩
theorem b9r:i9 ["chart","start","ahead","row"] ["chart","start","ahead","row"] (d7 a9r):=⟨rfl,rfl,rfl,by decide +kernel,rfl,by decide +kernel,by decide +kernel⟩
theorem sc_q25:i9 ["chart","start","rows","told","row","claim"] ["chart","start","rows"] (d7 b0X):=⟨rfl,rfl,rfl,by decide +kernel,rfl,by decide +kernel,by decide +kernel⟩
theorem b7S:i9 ["one","other"] ["one","other"] (d7 b0l):=⟨rfl,rfl,rfl,by decide +kernel,rfl,by decide +kernel,by decide +kernel⟩
theorem b7R:i9 ["_law_found"] ["_law_found"] (d7 b0K):=⟨rfl,rfl,rfl,by decide +kernel,rfl,by decide +kernel,by decide +kernel⟩
theorem c1B:i9 ["self"] ["self"] (d7 a2J):=⟨rfl,rfl,rfl,by decide +kernel,rfl,by decide +kernel,by decide +kernel⟩
theorem sc_q37:i9 ["heap","k","mover"] ["heap"] (d7 a9y):=⟨rfl,rfl,rfl,by decide +kernel,rfl,by decide +kernel,by decide +kernel⟩
theorem sc_q35:i9 ["heap","k","below"] ["heap","k"] (d7 a7E):=⟨rfl,rfl,rfl,by decide +kernel,rfl,by decide +kernel,by decide +kernel⟩
theorem sc_q40:i9 ["heap","k","mover","below"] ["heap"] (d7 b1o):=⟨rfl,rfl,rfl,by decide +kernel,rfl,by decide +kernel,by decide +kernel⟩
theorem c0p:i9 ["self","cost","thing"] ["self","cost","thing"] (d7 a2j):=⟨rfl,rfl,rfl,by decide +kernel,rfl,by decide +kernel,by decide +kernel⟩
theorem sc_q5:i9 ["self","first","last"] ["self"] (d7 a2v):=⟨rfl,rfl,rfl,by decide +kernel,rfl,by decide +kernel,by decide +kernel⟩
theorem c1m:i9 ["self"] ["self"] (d7 a2u):=⟨rfl,rfl,rfl,by decide +kernel,rfl,by decide +kernel,by decide +kernel⟩
theorem c1g:i9 ["self","chart"] ["self","chart"] (d7 a2R):=⟨rfl,rfl,rfl,by decide +kernel,rfl,by decide +kernel,by decide +kernel⟩
theorem b9Z:i9 ["self","cost","key","row"] ["self","cost","key","row"] (d7 a2o):=⟨rfl,rfl,rfl,by decide +kernel,rfl,by decide +kernel,by decide +kernel⟩
theorem sc_q2:i9 ["self","taken"] ["self"] (d7 a2H):=⟨rfl,rfl,rfl,by decide +kernel,rfl,by decide +kernel,by decide +kernel⟩
theorem sc_q7:i9 ["self","f","function","d"] ["self"] (d7 a2t):=⟨rfl,rfl,rfl,by decide +kernel,rfl,by decide +kernel,by decide +kernel⟩
theorem sc_q11:i9 ["self","cost","key","k","n","edge","sort","e"] ["self","cost","key","k","n","edge"] (d7 R7):=⟨rfl,rfl,rfl,by decide +kernel,rfl,by decide +kernel,by decide +kernel⟩
theorem sc_q8:i9 ["self","call","end","key","edge","e","row"] ["self","call","end"] (d7 a2r):=⟨rfl,rfl,rfl,by decide +kernel,rfl,by decide +kernel,by decide +kernel⟩
theorem sc_q10:i9 ["self","cost","key","k","n","edge","call","b","entered","end"] ["self","cost","key","k","n","edge"] (d7 Q9):=⟨rfl,rfl,rfl,by decide +kernel,rfl,by decide +kernel,by decide +kernel⟩
theorem sc_q9:i9 ["self","cost","key","k","end","entered","call"] ["self","cost","key","k"] (d7 a2g):=⟨rfl,rfl,rfl,by decide +kernel,rfl,by decide +kernel,by decide +kernel⟩
theorem sc_q12:i9 ["self","cost","key","row","k","n","edge"] ["self","cost","key","row"] (d7 Q8):=⟨rfl,rfl,rfl,by decide +kernel,rfl,by decide +kernel,by decide +kernel⟩
theorem sc_q32:i9 ["chart","search","settled"] ["chart"] (d7 b0k):=⟨rfl,rfl,rfl,by decide +kernel,rfl,by decide +kernel,by decide +kernel⟩
theorem sc_q19:i9 ["chart","inside","told","costs","key","k"] ["chart"] (d7 a7P):=⟨rfl,rfl,rfl,by decide +kernel,rfl,by decide +kernel,by decide +kernel⟩
theorem b7a:i9 ["chart","f"] ["chart","f"] (d7 a8t):=⟨rfl,rfl,rfl,by decide +kernel,rfl,by decide +kernel,by decide +kernel⟩
theorem b9E:i9 ["_law_cell_here","_law_k"] ["_law_cell_here","_law_k"] (d7 a9T):=⟨rfl,rfl,rfl,by decide +kernel,rfl,by decide +kernel,by decide +kernel⟩
theorem b8j:i9 ["_law_script","_law_k"] ["_law_script","_law_k"] (d7 b0f):=⟨rfl,rfl,rfl,by decide +kernel,rfl,by decide +kernel,by decide +kernel⟩
theorem b8K:i9 ["_law_cell_here"] ["_law_cell_here"] (d7 b0t):=⟨rfl,rfl,rfl,by decide +kernel,rfl,by decide +kernel,by decide +kernel⟩
theorem sc_q16:i9 ["_law_script","_law_f","_law_many","_law_facts","_law_more","_law_last","_law_costs","_law_into","_law_home","_law_ends","_law_d","_law_edges","_law_place","_law_none","_law_asked"] ["_law_script","_law_f","_law_many","_law_facts","_law_more"] (d7 a9Q):=⟨rfl,rfl,rfl,by decide +kernel,rfl,by decide +kernel,by decide +kernel⟩
theorem sc_q15:i9 ["_law_made","_law_many","_law_facts","_law_more","_law_due_here","_law_d","_law_f","_law_function_here","_law_ends","_law_costs","_law_ahead","_law_key","_law_below"] ["_law_made","_law_many","_law_facts","_law_more"] (d7 a9a):=⟨rfl,rfl,rfl,by decide +kernel,rfl,by decide +kernel,by decide +kernel⟩
theorem sc_q34:i9 ["_law_script","_law_many","_law_facts","_law_more","_law_made","_law_chart","_law_due_here","_law_k","_law_f","_law_found"] ["_law_script"] (d7 R9):=⟨rfl,rfl,rfl,by decide +kernel,rfl,by decide +kernel,by decide +kernel⟩
def k_MOVE_TABLES:List (Key×Int):=[(.inr "step",4),(.inr "in",5),(.inr "over",7)]
structure Txt(P:Program)(w:World)(K:PySem.W.Frag)(mg:Str->Option Value):Prop where
 b_any:mg "any" = none
 b_bool:mg "bool" = none
 b_dict:mg "dict" = none
 b_enumerate:mg "enumerate" = none
 b_int:mg "int" = none
 b_isinstance:mg "isinstance" = none
 b_len:mg "len" = none
 b_list:mg "list" = none
 b_max:mg "max" = none
 b_min:mg "min" = none
 b_range:mg "range" = none
 b_sum:mg "sum" = none
 b_tuple:mg "tuple" = none
 c_MOVE_TABLES:∃ a,mg "MOVE_TABLES" = some @Ax/\a6a P w K a (k_MOVE_TABLES.map λ p=>(p.1,V.int p.2))
 f_calls:V5 K "Search" "calls"
 f_chart:V5 K "Search" "chart"
 f_ends:V5 K "Search" "ends"
 f_found:V5 K "Search" "found"
 f_heap:V5 K "Queue" "heap"
 f_least:V5 K "Offers" "least"
 f_offers:V5 K "Search" "offers"
 f_puts:V5 K "Queue" "puts"
 f_queue:V5 K "Offers" "queue"
 f_rows:V5 K "Search" "rows"
section
variable {P:Program} {w:World} {K:PySem.W.Frag} {mg:Str->Option Value} {base:Heap}
def a3O:DS:=(p8 (dV (B3 [none,some 0] (u9 (b7 (b5P (b8 0)) f9)) (f8 0) (dTr (dOp a8b (dOp b9w (b8 1) (b8 0)) @F)) (b8 0))))
def O8:DSp:=λ ds h Q=>∃ m:Nat,ds=[nD m]/\m < 2 ^ 60/\Q (.lst ((l8 m).map nD)) h
theorem b4C:∀ ds h Q,O8 ds h Q->j2 1 a3O ds h Q:=by
 rintro ds h Q ⟨m,rfl,hm,q⟩
 have hb:=a5e hm;simp only [↓a3O,↓j2,↓i6,VV];refine ⟨⟨by right,by right⟩,by rw [u5];omega,?_⟩;rw [u8];refine b0u (λ d=>m.testBit d) nD Src.ok_nil none (λ y hy K k=>?_) (λ y hy _ K k=>?_) ?_
 ·simp only [↓a3O,↓j2,↓i6,VV];refine ⟨by right,?_⟩;rw [show ((0:Int) + (y:Nat)).toNat=y by right,c0q];exact k
 ·simp only [↓a3O,↓j2,↓i6,VV];rw [YN];exact k
 ·rw [ZB];exact q
theorem b8R{f:Addr}{fd:FuncData}(F:Fun K "facts_in" "facts_in" a9w f fd)(T:Txt P w K mg):n8 P w K mg base CX0 1 f fd ["mask"] (spD K 1 O8) :=
 m9 (k:=0) (b:=a3O) F b7t (λ cdv A outer s H E hr=>by
  show L;refine T5 ?_;exact C1 rfl (N':= ["d","mask"]) (js:=[none,some 0]) ⟨rfl,by decide +kernel,rfl,rfl,rfl⟩ (q8 rfl T.b_range (b6 (b2Z (sv 0)) c7)) (λ s0 H0 fp=>⟨(j9 (i:=0) (show (["d","mask"]:List Str).Nodup by decide +kernel) rfl @E),(a4o (y6 (i7 a5u (i7 a7W (sv 1) (sv 0)) b9))),(sv 0)⟩)) b4C
def b0Q:DS:=(p8 (dOp Z2 (dOp pIx (dOp pIx (b8 0) (b8 1)) @H) @F))
def Y4:DSp:=λ ds h Q=>∃ (c:D) (C:f7) (f:Nat) (F:Fn),ds=[c,nD f]/\ChD h c C/\C[f]?=some F/\Q (.int ((F.places:Int) - 1)) h
theorem b4u:∀ ds h Q,Y4 ds h Q->j2 2 b0Q ds h Q:=by
 rintro ds h Q ⟨c,C,f,F,rfl,hc,hf,q⟩
 obtain ⟨x,e1,e2⟩:=hc.fn hf;simp only [e1,↓b0Q,↓j2,↓i6,VV];exact q
theorem b7k{f:Addr}{fd:FuncData}(F:Fun K "exit_of" "exit_of" b0c f fd)(T:Txt P w K mg):n8 P w K mg base CX0 1 f fd ["chart","f"] (spD K 2 Y4) :=
 m9 (k:=0) (b:=b0Q) F b8c (λ cdv A outer s H E hr=>by
  show L;exact i7 E1 (d8 c9 (d8 c9 (sv 0) (sv 1)) b9) b9) b4u
def a3K:DS:=(p8 (dV (B3 [none,some 1] (u9 (b7 (dOp pIx (dOp pIx (b8 0) @H) @F) f9)) (f8 0) (dTr (dOp a8b (dOp b9w (b8 1) (b8 0)) @F)) (b8 0))))
def a5b:DSp:=λ ds h Q=>∃ (c:D) (C:f7) (st:Nat) (F:Fn),ds=[c,nD st]/\ChD h c C/\C[0]?=some F/\F.facts <= 6/\Q (.lst (((List.range F.facts).filter λ d=>st.testBit d).map nD)) h
theorem b4L:∀ ds h Q,a5b ds h Q->j2 2 a3K ds h Q:=by
 rintro ds h Q ⟨c,C,st,F,rfl,hc,hf,h6,q⟩
 obtain ⟨x,e1,e2⟩:=hc.fn hf;have e1:ixD h c (.int 0)=some (.tup [nD F.places,nD F.facts,x]):=e1;simp only [e1,↓a3K,↓j2,↓i6,VV];refine ⟨⟨by right,by right⟩,by rw [u5];omega,?_⟩;rw [u8];refine b0u (λ d=>st.testBit d) nD Src.ok_nil none (λ y hy K k=>?_) (λ y hy _ K k=>?_) ?_
 ·simp only [↓a3K,↓j2,↓i6,VV];refine ⟨by right,?_⟩;rw [show ((0:Int) + (y:Nat)).toNat=y by right,c0q];exact k
 ·simp only [↓a3K,↓j2,↓i6,VV];rw [YN];exact k
 ·rw [ZB];exact q
theorem b6p{f:Addr}{fd:FuncData}(F:Fun K "start_facts" "start_facts" a9W f fd)(T:Txt P w K mg):n8 P w K mg base CX0 1 f fd ["chart","start"] (spD K 2 a5b) :=
 m9 (k:=0) (b:=a3K) F b9a (λ cdv A outer s H E hr=>by
  show L;refine T5 ?_;exact C1 rfl (N':= ["d","start"]) (js:=[none,some 1]) ⟨rfl,by decide +kernel,rfl,rfl,rfl⟩ (q8 rfl T.b_range (b6 (d8 c9 (d8 c9 (sv 0) b9) b9) c7)) (λ s0 H0 fp=>⟨(j9 (i:=0) (show (["d","start"]:List Str).Nodup by decide +kernel) rfl @E),(a4o (y6 (i7 a5u (i7 a7W (sv 1) (sv 0)) b9))),(sv 0)⟩)) b4L
def a9D:DS:=(p8 (dV (B3 [none,none,some 2] (a4k (b7 (dOp pIx (dOp pIx (b8 0) (b8 1)) @R) f9)) (a6D 2 (A7 (f8 0) (A7 (f8 1) a0Z))) (o9 (dOp @AF (dOp pIx (b8 1) @F) (b8 2))) (v7 (b7 (b8 0) (b7 (b8 1) f9))))))
def neD(x:Edge×Nat):D:=.tup [nD x.2,eD x.1]
theorem a9p(C:f7){f:Nat}{F:Fn}(hf:C[f]?=some F):atI (C.map fD) (f:Int)=some (fD F):=by rw [atN,ZP,hf];rfl
def a6n:DSp:=λ ds h Q=>∃ (C:f7) (f p:Nat) (F:Fn),ds=[cD C,nD f,nD p]/\C[f]?=some F/\F.edges.length <= 100/\Q (.lst ((L7 F p).map neD)) h
theorem b5p:∀ ds h Q,a6n ds h Q->j2 3 a9D ds h Q:=by
 rintro ds h Q ⟨C,f,p,F,rfl,hf,hl,q⟩
 delta j2 a9D;simp only [VS];simp only [cD,a9p C hf,fD,VV];refine ⟨by rw [J5,ZS];omega,?_⟩;rw [a1w];refine D3 (λ pr acc δ h'=>(∃ x y,δ=[x,y,some (nD p)])/\acc=(pr.filter λ x=>decide (x.1.p=p)).map neD/\h'=h) ⟨⟨_,_,rfl⟩,rfl,rfl⟩ (λ _ _ _ _ _=>Src.ok_nil) ?_ ?_
 ·rintro pr x r acc δ h' N e ⟨⟨_,_,rfl⟩,rfl,rfl⟩ hN
  obtain ⟨E,k⟩:=x;simp only [c2u,VV];rw [a7k];refine ⟨trivial,?_⟩
  by_cases c:E.p=p
  ·simp only [c,VV];rw [YN];refine hN _ _ _ ⟨⟨_,_,rfl⟩,?_,rfl⟩;rw [List.filter_append,Zz,List.filter_cons,if_pos (decide_eq_true c)];rfl
  ·simp only [c,VV];refine hN _ _ _ ⟨⟨_,_,rfl⟩,?_,rfl⟩;rw [List.filter_append,List.filter_cons,if_neg (by rw [decide_eq_false c];exact ZR)];simp
 ·rintro acc δ h' ⟨_,rfl,rfl⟩
  exact q
theorem b9d{f:Addr}{fd:FuncData}(F:Fun K "edges_from" "edges_from" a7B f fd)(T:Txt P w K mg):n8 P w K mg base CX0 1 f fd ["chart","f","p"] (spD K 3 a6n) :=
 m9 (k:=0) (b:=a9D) F b8r (λ cdv A outer s H E hr=>by
  show L;refine T5 ?_;exact C1 rfl (N':= ["n","edge","p"]) (js:=[none,none,some 2]) ⟨rfl,by decide +kernel,rfl,rfl,rfl⟩ (a6g rfl T.b_enumerate (b6 (d8 c9 (d8 c9 (sv 0) (sv 1)) b9) c7)) (λ s0 H0 fp=>⟨(a2d rfl (y7 (j9 (i:=0) (show (["n","edge","p"]:List Str).Nodup by decide +kernel) rfl @E) (y7 (j9 (i:=1) (show (["n","edge","p"]:List Str).Nodup by decide +kernel) rfl @E) S6))),(a4o (j6 @Az @Ah (sv 2))),(l9 (b6 (sv 0) (b6 (sv 1) c7)))⟩)) b5p
def a9G:DS:=(p8 (dOp pIx (b8 0) (b7o k_MOVE_TABLES (dIf (o9 (dOp @AF (dOp pIx (b8 0) @H) (dC (.str "step")))) (dC (.str "step")) (dC (.str "over"))))))
def a6i:DSp:=λ ds h Q=>∃ (E:Edge),ds=[eD E]/\Q (tD (O1 E)) h
theorem b3R:∀ ds h Q,a6i ds h Q->j2 1 a9G ds h Q:=by
 rintro ds h Q ⟨E,rfl,q⟩
 obtain ⟨p,q',c,k⟩:=E;delta j2 a9G;simp only [VS]
 cases k with
 |step t=>simp only [eD,a3k,lkG,k_MOVE_TABLES,VV];exact q
 |call g i b o=>simp only [eD,a3k,lkG,k_MOVE_TABLES,VV];exact q
theorem b7V{f:Addr}{fd:FuncData}(F:Fun K "table_past" "table_past" a9j f fd)(T:Txt P w K mg):n8 P w K mg base CX0 1 f fd ["edge"] (spD K 1 a6i) :=
 m9 (k:=0) (b:=a9G) F b7c (λ cdv A outer s H E hr=>by
  show L;exact d8 c9 (sv 0) (a5H (kvs:=k_MOVE_TABLES) rfl T.c_MOVE_TABLES (a0z (j6 @Az (d8 c9 (sv 0) b9) m7) m7 m7))) b3R
def a5f:DS:=(p8 (dOp (pIn false) (b8 2) (o7 O8 (b7 (dOp pIx (b8 0) (b8 1)) f9))))
def a1I:DSp:=λ ds h Q=>∃ (t:List Nat) (n m d:Nat) (e:Int),ds=[tD t,nD d,.int e]/\tOk t n m/\m <= 6/\d < n/\Q (.bl (br t d e)) h
theorem b2w:∀ ds h Q,a1I ds h Q->j2 3 a5f ds h Q:=by
 rintro ds h Q ⟨t,n,m,d,e,rfl,ht,hm,hd,q⟩
 have hx:=a3p (ht.get hd).2 hm;simp only [a5v h ht hd,↓a5f,↓j2,↓i6,VV];refine ⟨_,rfl,Nat.lt_trans hx @B,?_⟩;simp only [↓a5f,↓j2,↓i6,VV];refine ⟨by rw [a1T];rfl,?_⟩;rw [a6G];exact q
theorem b7Z{f:Addr}{fd:FuncData}(F:Fun K "brings" "brings" a9H f fd)(T:Txt P w K mg)(C_q30:Cal P w K mg base 1 "facts_in" ["mask"] (spD K 1 O8)):n8 P w K mg base CX0 2 f fd ["table","d","e"] (spD K 3 a1I) :=
 m9 (k:=1) (b:=a5f) F b7N (λ cdv A outer s H E hr=>by
  show L;exact P0 b5z (sv 2) (j1 C_q30 @A rfl (b6 (d8 c9 (sv 0) (sv 1)) c7)) rfl) b2w
def b0n:DS:=(i6 (k8 (dOp pIx (dOp pIx (b8 0) (dOp pIx (b8 1) @H)) @R) (f8 3))
  (i6 (k8 (dOp pIx (b8 2) @F) (f8 4))
  (i6 (x0 (b4j (o9 (W0 pLe a1n @H (b8 4) (dCB Z9 @At)))) (p8 @AA) p7)
  (i6 (k8 (dOp pIx (b8 3) (b8 4)) (f8 5))
  (i6 (x0 (dOr (o9 (dOp (pEq true) (dOp pIx (b8 5) @H) (dIf (o9 (dOp @AF (dOp pIx (b8 2) @H) (dC (.str "step")))) (dC (.str "step")) (dC (.str "call"))))) (o9 (dOp (pEq true) (dOp pIx (b8 5) @F) (dOp pIx (b8 1) @F)))) (p8 @AA) p7)
  (p8 (dIf (dTr (o7 a1I (b7 (dOp pIx (b8 5) (b7o k_MOVE_TABLES (dOp pIx (b8 2) @H))) (b7 (dOp pIx (b8 1) @R) (b7 (dOp pIx (b8 2) @R) f9))))) (b8 5) @AA)))))))
def Y2:DSp:=λ ds h Q=>∃ (c:D) (C:f7) (f p d:Nat) (F:Fn) (w:Mv) (n e:Int),ds=[c,.tup [nD f,nD p,nD d],.tup [.str w.w,.int n,.int e]]/\ChD h c C/\WF C/\C[f]?=some F/\d < F.facts/\Q (oD eD (m4 C f p d w n e)) h
theorem b3s:∀ ds h Q,Y2 ds h Q->j2 6 b0n ds h Q:=by
 rintro ds h Q ⟨c,C,f,p,d,F,w,n,e,rfl,hc,wf,hf,hd,q⟩
 obtain ⟨x,e1,e2⟩:=hc.fn hf;have hw:=wf.fn f F hf;delta j2 b0n;show N;simp only [e1,VV];show E;show B;show E
 by_cases h0:0 <= n
 ·by_cases h1:n < F.edges.length
  ·have hl:n.toNat < F.edges.length:=by right
   obtain ⟨E,hE⟩:∃ E,F.edges[n.toNat]?=some E:=⟨_,ZZ hl⟩
   have eE:E5 C f n=some E:=by unfold E5;rw [if_pos h0,hf];exact hE
   have ax:atI (F.edges.map eD) n=some (eD E):=by rw [a9g h0,ZP,hE];rfl
   obtain ⟨o1,o2,o3,o4,o5⟩:=hw.2.2.2.2.2 E (ZT hE);have tk:m4 C f p d w n e=if (E.isStep == (w == .step))=true/\E.p=p/\br (E.tab w) d e=true then some E else none:=by unfold m4;rw [eE];rfl
   rw [tk] at q;clear tk eE hE hl;simp only [B8 e2,List.length_map,h0,h1,VV];show E;simp only [F7 e2,ax,VV];clear ax e1 e2 h0 h1;show E;obtain ⟨ep,eq,ec,ek⟩:=E;have hpp:((ep:Int) == (p:Int))=decide (ep=p):=by first | exact a7k _ _ | exact a9t _ _ | exact beqS _ _
   cases w <;> cases ek
   case step.step t =>
    simp only [eD,Mv.w,hpp,VV]
    by_cases hp:ep=p
    ·subst hp;show B;subst hN;simp only [Mv.w,a3k,lkG,k_MOVE_TABLES,VV];refine ⟨t,_,_,d,e,rfl,o5,hw.2.2.2.1,hd,?_⟩
     by_cases hb:br t d e=true
     ·rw [if_pos ⟨rfl,rfl,hb⟩] at q;simp only [hb,VV];exact q
     ·rw [if_neg λ z=>hb z.2.2] at q;simp only [hb,VV];exact q
    ·rw [if_neg λ z=>hp z.2.1] at q;simp only [hp,VV];exact q
   case over.call g i b o =>
    simp only [eD,Mv.w,hpp,VV]
    by_cases hp:ep=p
    ·subst hp;show B;subst hN;obtain ⟨G,hG,t1,t2,t3⟩:=o5;simp only [Mv.w,a3k,lkG,k_MOVE_TABLES,VV];refine ⟨o,_,_,d,e,rfl,t3,hw.2.2.2.1,hd,?_⟩
     by_cases hb:br o d e=true
     ·rw [if_pos ⟨rfl,rfl,hb⟩] at q;simp only [hb,VV];exact q
     ·rw [if_neg λ z=>hb z.2.2] at q;simp only [hb,VV];exact q
    ·rw [if_neg λ z=>hp z.2.1] at q;simp only [hp,VV];exact q
   case inn.call g i b o =>
    simp only [eD,Mv.w,hpp,VV]
    by_cases hp:ep=p
    ·subst hp;show B;subst hN;obtain ⟨G,hG,t1,t2,t3⟩:=o5;simp only [Mv.w,a3k,lkG,k_MOVE_TABLES,VV];refine ⟨i,_,_,d,e,rfl,t1,(wf.fn g G hG).2.2.2.1,hd,?_⟩
     by_cases hb:br i d e=true
     ·rw [if_pos ⟨rfl,rfl,hb⟩] at q;simp only [hb,VV];exact q
     ·rw [if_neg λ z=>hb z.2.2] at q;simp only [hb,VV];exact q
    ·rw [if_neg λ z=>hp z.2.1] at q;simp only [hp,VV];exact q
   all_goals
    simp only [eD,Mv.w,VV];rw [if_neg λ z=>ZR z.1] at q;exact q
  ·have eE:m4 C f p d w n e=none:=by
    unfold m4 E5;rw [if_pos h0,hf];show (F.edges[n.toNat]?).bind _=none;rw [Zm @P];rfl
   rw [eE] at q;simp only [B8 e2,List.length_map,h0,h1,VV];exact q
 ·have eE:m4 C f p d w n e=none:=by unfold m4 E5;rw [if_neg h0];rfl
  rw [eE] at q;simp only [B8 e2,List.length_map,h0,VV];exact q
theorem b7P{f:Addr}{fd:FuncData}(F:Fun K "edge_taken" "edge_taken" a9n f fd)(T:Txt P w K mg)(C_q22:Cal P w K mg base 2 "brings" ["table","d","e"] (spD K 3 a1I)):n8 P w K mg base CX0 3 f fd ["chart","here","move"] (spD K 3 Y2) :=
 m9 (k:=2) (b:=b0n) F sc_q27 (λ cdv A outer s H E hr=>by
  show C
  ·refine j4 (i:=3) sc_q27.nd rfl @E ?_;exact d8 c9 (d8 c9 (sv 0) @Ah) b9
  show C
  ·exact j4 (i:=4) sc_q27.nd rfl @E @K
  show C
  ·show Am;exact a4t (S4 a5t J6 b9 (sv 4) (s9 F3 rfl T.b_len PySem.boot_len @Au))
  show C
  ·exact j4 (i:=5) sc_q27.nd rfl @E (d8 c9 (sv 3) (sv 4))
  show C
  ·show Am;exact X0 (R8 (j6 (Y0 hr.units) (d8 c9 (sv 5) b9) (a0z (j6 @Az @K m7) m7 m7)) (P7 (j6 (Y0 hr.units) (d8 c9 (sv 5) b9) @Ah)))
  show L;exact a0z (y6 (j1 C_q22 @A rfl (b6 (d8 c9 (sv 5) (a5H (kvs:=k_MOVE_TABLES) rfl T.c_MOVE_TABLES @K)) (b6 @Ah (b6 @K c7))))) (sv 5) n5) b3s
def a9s:DS:=(i6 (x0 (a4j (o9 (W0 pLe a1n @H (b8 1) (dCB Z9 (b7 (b8 0) f9)))) (o9 (dOp @AF (dOp pIx (dOp pIx (b8 0) (b8 1)) @H) (b8 2)))) (p8 (dOp pIx (b8 0) (b8 1))) p7)
  (p8 @AA))
def isW:Clm->Bool | .within _ _ _ _ _=>true | .at _ _ _ _=>false
def bw:Bool->Str | true=> "within" | false=> "at"
def u3(cs:List Clm)(k:Int)(w:Bool):Option Clm:=(i8 cs k).bind λ c=>if isW c=w then some c else none
def K2:DSp:=λ ds h Q=>∃ (a:D) (cs:List Clm) (k:Int) (w:Bool),ds=[a,.int k,.str (bw w)]/\A6 h a=some (cs.map clD)/\Q (oD clD (u3 cs k w)) h
theorem b4N:∀ ds h Q,K2 ds h Q->j2 3 a9s ds h Q:=by
 rintro ds h Q ⟨a,cs,k,w,rfl,ha,q⟩
 delta j2 a9s;show N
 by_cases h0:0 <= k
 ·by_cases h1:k < cs.length
  ·have hl:k.toNat < cs.length:=by right
   obtain ⟨c,hE⟩:∃ E,cs[k.toNat]?=some E:=⟨_,ZZ hl⟩
   have ax:atI (cs.map clD) k=some (clD c):=by rw [a9g h0,ZP,hE];rfl
   have eq:u3 cs k w=if isW c=w then some c else none:=by unfold u3 i8;rw [if_pos h0,hE];rfl
   rw [eq] at q
   cases c <;> cases w
   all_goals simp only [B8 ha,List.length_map,h0,h1,F7 ha,ax,clD,bw,VV]
   all_goals first | exact q | (subst hN;exact q)
  ·have eq:u3 cs k w=none:=by unfold u3 i8;rw [if_pos h0,Zm @P];rfl
   rw [eq] at q;simp only [B8 ha,List.length_map,h0,h1,VV];subst hN;exact q
 ·have eq:u3 cs k w=none:=by unfold u3 i8;rw [if_neg h0];rfl
  rw [eq] at q;simp only [B8 ha,List.length_map,h0,VV];subst hN;exact q
theorem S8{cs:List Clm}{k:Int}{c:Clm}(h:u3 cs k true=some c):∃ f a p d x,c = .within f a p d x/\i8 cs k=some (.within f a p d x):=by
 unfold u3 at h
 cases q:i8 cs k with
 |none=>rw [q] at h;cases h
 |some e =>
  show X
  cases e with
  |within f a p d x=>cases h;exact ⟨f,a,p,d,x,rfl,rfl⟩
  |«at» f p d x=>cases h
theorem a3G{cs:List Clm}{k:Int}{c:Clm}(h:u3 cs k false=some c):∃ f p d x,c = .at f p d x/\i8 cs k=some (.at f p d x):=by
 unfold u3 at h
 cases q:i8 cs k with
 |none=>rw [q] at h;cases h
 |some e =>
  show X
  cases e with
  |within f a p d x=>cases h
  |«at» f p d x=>cases h;exact ⟨f,p,d,x,rfl,rfl⟩
theorem M8{cs:List Clm}{k:Int}(h:u3 cs k true=none):∀ f a p d x,i8 cs k ≠ some (.within f a p d x):=λ f a p d x z=>by
 unfold u3 at h;rw [z] at h;cases h
theorem a1A{cs:List Clm}{k:Int}(h:u3 cs k false=none):∀ f p d x,i8 cs k ≠ some (.at f p d x):=λ f p d x z=>by
 unfold u3 at h;rw [z] at h;cases h
theorem b8f{f:Addr}{fd:FuncData}(F:Fun K "claim_ahead" "claim_ahead" a8U f fd)(T:Txt P w K mg):n8 P w K mg base CX0 1 f fd ["ahead","k","sort"] (spD K 3 K2) :=
 m9 (k:=0) (b:=a9s) F b8F (λ cdv A outer s H E hr=>by
  refine c8 ?_ (d9 (l7 n5));refine y1 ?_ (d9 (l7 (d8 c9 (sv 0) (sv 1)))) m5;exact X0 (V2 (S4 a5t J6 b9 (sv 1) @Aw) (N4 (j6 @Az (d8 c9 (d8 c9 (sv 0) (sv 1)) b9) (sv 2))))) b4N
def a8q:DS:=(i6 (k8 (dOp pIx (b8 1) @F) (f8 2))
  (i6 (k8 (dOp pIx (b8 1) @R) (f8 3))
  (i6 (x0 (a4j (o9 (W0 pLe a1n @H (b8 2) (dCB Z9 (b7 (b8 0) f9)))) (o9 (W0 pLe a1n @H (b8 3) (dOp pIx (dOp pIx (b8 0) (b8 2)) @F)))) (p8 (v7 (b7 (dC (.str "within")) (b7 (b8 2) (b7 (b8 3) (b7 @H (b7 (b8 3) (b7 @H f9)))))))) p7)
  (p8 @AA))))
def a5J:DSp:=λ ds h Q=>∃ (c:D) (C:f7) (cs:List Clm) (st:Nat) (f d:Int),ds=[c,rD (.begin f d)]/\ChD h c C/\Q (oD clD (i5 C st cs (.begin f d))) h
theorem b2B:∀ ds h Q,a5J ds h Q->j2 4 a8q ds h Q:=by
 rintro ds h Q ⟨c,C,cs,st,f,d,rfl,hc,q⟩
 delta j2 a8q;show N;simp only [rD,VV];show E;show B;show E
 by_cases h0:0 <= f
 ·by_cases h1:f < C.length
  ·have hl:f.toNat < C.length:=by right
   obtain ⟨F,hF⟩:∃ E,C[f.toNat]?=some E:=⟨_,ZZ hl⟩
   obtain ⟨x,e1,e2⟩:=hc.fn hF
   have e1:ixD h c (.int f)=some (.tup [nD F.places,nD F.facts,x]):=by
    rw [show nD f.toNat = .int f from congrArg D.int @P] at e1;exact e1
   by_cases h2:0 <= d
   ·by_cases h3:d < F.facts
    ·have eq:i5 C st cs (.begin f d)=some (.within f.toNat d.toNat 0 d.toNat 0):=by
      show V;rw [if_pos ⟨h0,h2⟩,hF];exact if_pos h3
     rw [eq] at q;simp only [hc.len,h0,h1,e1,h2,h3,VV];have q:Q (.tup [.str "within",.int ((f.toNat:Nat):Int),.int ((d.toNat:Nat):Int),nD 0,.int ((d.toNat:Nat):Int),nD 0]) h:=q;rw [YX h0,YX h2] at q;exact q
    ·have eq:i5 C st cs (.begin f d)=none:=by
      show V;rw [if_pos ⟨h0,h2⟩,hF];exact if_neg h3
     rw [eq] at q;simp only [hc.len,h0,h1,e1,h2,h3,VV];subst hN;exact q
   ·have eq:i5 C st cs (.begin f d)=none:=if_neg (λ z=>h2 z.2);rw [eq] at q;simp only [hc.len,h0,h1,e1,h2,VV];subst hN;exact q
  ·have eq:i5 C st cs (.begin f d)=none:=by
    show V;rw [Zm @P];split <;> rfl
   rw [eq] at q;simp only [hc.len,h0,h1,VV];subst hN;exact q
 ·have eq:i5 C st cs (.begin f d)=none:=if_neg (λ z=>h0 z.1);rw [eq] at q;simp only [hc.len,h0,VV];subst hN;exact q
theorem b6B{f:Addr}{fd:FuncData}(F:Fun K "begin_claim" "begin_claim" a9V f fd)(T:Txt P w K mg):n8 P w K mg base CX0 1 f fd ["chart","row"] (spD K 2 a5J) :=
 m9 (k:=0) (b:=a8q) F sc_q21 (λ cdv A outer s H E hr=>by
  show C
  ·exact j4 (i:=2) sc_q21.nd rfl @E @Ah
  show C
  ·exact j4 (i:=3) sc_q21.nd rfl @E @Ah
  refine c8 ?_ (d9 (l7 n5));refine y1 ?_ ?_ m5
  ·exact X0 (V2 (S4 a5t J6 b9 (sv 2) @Aw) (N4 (S4 a5t J6 b9 (sv 3) (d8 c9 (d8 c9 (sv 0) (sv 2)) b9))))
  show L;refine l9 (n:=6) ?_;exact b6 m7 (b6 (sv 2) (b6 (sv 3) (b6 b9 (b6 (sv 3) (b6 b9 c7)))))) b2B
def b5L:DS:=(p8 (v7 (b7 (dOp pIx (b8 0) @H) (b7 (dOp pIx (b8 0) @R) (b7 (dOp pIx (b8 0) @Am) f9)))))
def a2b:DSp:=λ ds h Q=>∃ (a b c d:D),ds=[.tup [a,b,c,d]]/\Q (.tup [a,c,d]) h
theorem b2A:∀ ds h Q,a2b ds h Q->j2 1 b5L ds h Q:=by
 rintro ds h Q ⟨a,b,c,d,rfl,q⟩
 exact q
theorem b7x{f:Addr}{fd:FuncData}(F:Fun K "move_of" "move_of" b1A f fd)(T:Txt P w K mg):n8 P w K mg base CX0 1 f fd ["row"] (spD K 1 a2b) :=
 m9 (k:=0) (b:=b5L) F b9v (λ cdv A outer s H E hr=>by
  show L;refine l9 (n:=3) ?_;refine b6 (d8 c9 (sv 0) b9) ?_;exact b6 (d8 c9 (sv 0) b9) (b6 (d8 c9 (sv 0) b9) c7)) b2A
def a5m:DS:=(i6 (k8 (dOp pIx (b8 2) @F) (f8 3))
  (p8 (dIf (o9 (dOp (pIn false) (b8 3) (o7 a5b (b7 (b8 0) (b7 (b8 1) f9))))) (v7 (b7 (dC (.str "at")) (b7 @H (b7 @H (b7 (b8 3) (b7 @H f9)))))) @AA)))
theorem a4K(n st:Nat)(e:Int):inF (.int e) (((List.range n).filter λ d=>st.testBit d).map nD)=(decide (0 <= e) && (decide (e < n) && st.testBit e.toNat)):=by
 rw [Bool.eq_iff_iff];unfold inF;rw [List.any_map,Zh,ZC,ZC,decide_eq_true_iff,decide_eq_true_iff]
 constructor
 ·rintro ⟨x,hx,he⟩
  have he:(x:Int)=e:=by simpa [eqF] using he
  subst he;rw [Zi,Zo] at hx;exact ⟨by right,by right,by simpa using hx.2⟩
 ·rintro ⟨h0,h1,hb⟩
  exact ⟨e.toNat,Zi.mpr ⟨List.mem_range.mpr @P,hb⟩,by simp [eqF];omega⟩
def a5r:DSp:=λ ds h Q=>∃ (c:D) (C:f7) (cs:List Clm) (st:Nat) (d:Int),ds=[c,nD st,rD (.start d)]/\ChD h c C/\WF C/\Q (oD clD (i5 C st cs (.start d))) h
theorem b3A:∀ ds h Q,a5r ds h Q->j2 4 a5m ds h Q:=by
 rintro ds h Q ⟨c,C,cs,st,d,rfl,hc,wf,q⟩
 obtain ⟨F,hF⟩:∃ E,C[0]?=some E:=⟨_,ZZ wf.one⟩
 simp only [rD,↓a5m,↓j2,↓i6,VV];refine ⟨c,C,st,F,rfl,hc,hF,(wf.fn 0 F hF).2.2.2.1,?_⟩;simp only [↓a5m,↓j2,↓i6,VV];refine ⟨by rw [a1T];rfl,?_⟩;rw [a4K]
 have eq:i5 C st cs (.start d)=if (decide (0 <= d) && (decide (d < F.facts) && st.testBit d.toNat))=true then some (.at 0 0 d.toNat 0) else none:=by
  show (if 0 <= d then (C[0]?).bind λ F=>if d < F.facts/\st.testBit d.toNat=true then some (Clm.at 0 0 d.toNat 0) else none else none)=_;rw [hF]
  by_cases h0:0 <= d
  ·by_cases h1:d < F.facts <;> simp [h0,h1]
  ·simp [h0]
 rw [eq] at q;refine b6P (λ z=>?_) (λ z=>?_)
 ·rw [if_pos z] at q;have h0:0 <= d:=by rw [ZC] at z;exact of_decide_eq_true z.1
  have q:Q (.tup [.str "at",nD 0,nD 0,.int ((d.toNat:Nat):Int),nD 0]) h:=q;rw [YX h0] at q;exact q
 ·rw [if_neg (by rw [z];exact ZR)] at q;exact q
theorem b9D{f:Addr}{fd:FuncData}(F:Fun K "start_claim" "start_claim" b1v f fd)(T:Txt P w K mg)(C_q42:Cal P w K mg base 1 "start_facts" ["chart","start"] (spD K 2 a5b)):n8 P w K mg base CX0 2 f fd ["chart","start","row"] (spD K 3 a5r) :=
 m9 (k:=1) (b:=a5m) F sc_q41 (λ cdv A outer s H E hr=>by
  show C
  ·exact j4 (i:=3) sc_q41.nd rfl @E @K
  show L;exact a0z (j6 b5z (sv 3) (j1 C_q42 @A rfl (b6 (sv 0) (b6 (sv 1) c7))) rfl) (l9 (b6 m7 (b6 b9 (b6 b9 (b6 (sv 3) (b6 b9 c7)))))) n5) b3A
def a9A:DS:=(i6 (k8 (o7 K2 (b7 (b8 0) (b7 (dOp pIx (b8 1) @F) (b7 (dC (.str "at")) f9)))) (f8 2))
  (i6 (k8 (o7 K2 (b7 (b8 0) (b7 (dOp pIx (b8 1) @R) (b7 (dC (.str "within")) f9)))) (f8 3))
  (i6 (x0 (dOr (o9 (dOp (pIs false) (b8 2) @AA)) (o9 (dOp (pIs false) (b8 3) @AA))) (p8 @AA) p7)
  (i6 (k8 (dOp pIx (b8 2) @F) (f8 4))
  (i6 (x0 (dOr (o9 (dOp (pEq true) (dOp pIx (b8 2) @R) @H)) (dOr (o9 (dOp (pEq true) (dOp pIx (b8 3) @F) (b8 4))) (o9 (dOp (pEq true) (dOp pIx (b8 3) @R) (dOp pIx (b8 2) @Am))))) (p8 @AA) p7)
  (p8 (v7 (b7 (dC (.str "at")) (b7 (b8 4) (b7 (dOp pIx (b8 3) @Am) (b7 (dOp pIx (b8 3) @AT) (b7 (dOp n4 (dOp pIx (b8 2) @AT) (dOp pIx (b8 3) (dC (.int 5)))) f9))))))))))))
def a5E:DSp:=λ ds h Q=>∃ (a:D) (C:f7) (cs:List Clm) (st:Nat) (k j:Int),ds=[a,rD (.along k j)]/\A6 h a=some (cs.map clD)/\Q (oD clD (i5 C st cs (.along k j))) h
theorem b3q:∀ ds h Q,a5E ds h Q->j2 5 a9A ds h Q:=by
 rintro ds h Q ⟨a,C,cs,st,k,j,rfl,ha,q⟩
 delta j2 a9A;show N;simp only [rD,VV];refine ⟨a,cs,k,false,rfl,ha,?_⟩;show E;show B;refine ⟨a,cs,j,true,rfl,ha,?_⟩;show E
 cases hb:u3 cs k false with
 |none =>
  have eq:i5 C st cs (.along k j)=none:=by
   have hn:=a1A hb;show (match i8 cs k,i8 cs j with | some (.at f p a c),some (.within g b q d c')=>_ | _,_=>none)=none
   cases q2:i8 cs k with
   |none=>rfl
   |some x =>
    cases x with
    |within f a p d c=>rfl
    |«at» f p d c=>exact absurd q2 (hn f p d c)
  rw [eq] at q;simp only [oD,VV];exact q
 |some b =>
  obtain ⟨f,p,d,x,rfl,hk⟩:=a3G hb
  cases hb2:u3 cs j true with
  |none =>
   have eq:i5 C st cs (.along k j)=none:=by
    have hn:=M8 hb2;show (match i8 cs k,i8 cs j with | some (.at f p a c),some (.within g b q d c')=>_ | _,_=>none)=none;rw [hk]
    cases q2:i8 cs j with
    |none=>rfl
    |some x =>
     cases x with
     |within f a p d c=>exact absurd q2 (hn f a p d c)
     |«at» f p d c=>rfl
   rw [eq] at q;simp only [oD,clD,VV];exact q
  |some b2 =>
   obtain ⟨g,b,q',d',x',rfl,hk2⟩:=S8 hb2
   have eq:i5 C st cs (.along k j)=if p=0/\g=f/\b=d then some (.at f q' d' (x + x')) else none:=by
    show (match i8 cs k,i8 cs j with | some (.at f p a c),some (.within g b q d c')=>_ | _,_=>none)=_;rw [hk,hk2]
   rw [eq] at q;have e1:((p:Int) == 0)=decide (p=0):=by rw [Bool.eq_iff_iff];simp
   have e2:((g:Int) == (f:Int))=decide (g=f):=by first | exact a7k _ _ | exact a9t _ _ | exact beqS _ _
   have e3:((b:Int) == (d:Int))=decide (b=d):=by first | exact a7k _ _ | exact a9t _ _ | exact beqS _ _
   simp only [oD,clD,VV];show E;show B;show E;simp only [e1,e2,e3,VV]
   by_cases h1:p=0
   ·by_cases h2:g=f
    ·by_cases h3:b=d
     ·rw [if_pos ⟨h1,h2,h3⟩] at q;simp only [h1,h2,h3,VV];subst hN;show B;have q:Q (.tup [.str "at",nD f,nD q',nD d',.int ((x + x':Nat):Int)]) h:=q;rw [Int.natCast_add] at q;exact q
     ·rw [if_neg (λ z=>h3 z.2.2)] at q;simp only [h1,h2,h3,VV];exact q
    ·rw [if_neg (λ z=>h2 z.2.1)] at q;simp only [h1,h2,VV];exact q
   ·rw [if_neg (λ z=>h1 z.1)] at q;simp only [h1,VV];exact q
theorem b9t{f:Addr}{fd:FuncData}(F:Fun K "along_claim" "along_claim" b0W f fd)(T:Txt P w K mg)(C_q23:Cal P w K mg base 1 "claim_ahead" ["ahead","k","sort"] (spD K 3 K2)):n8 P w K mg base CX0 2 f fd ["ahead","row"] (spD K 2 a5E) :=
 m9 (k:=1) (b:=a9A) F sc_q20 (λ cdv A outer s H E hr=>by
  show C
  ·refine j4 (i:=2) sc_q20.nd rfl @E ?_;exact j1 C_q23 @A rfl (b6 (sv 0) (b6 @Ah (b6 m7 c7)))
  show C
  ·refine j4 (i:=3) sc_q20.nd rfl @E ?_;exact j1 C_q23 @A rfl (b6 (sv 0) (b6 @Ah (b6 m7 c7)))
  show C
  ·show Am;exact X0 (R8 (j6 M6 (sv 2) n5) (P7 (j6 M6 (sv 3) n5)))
  show C
  ·exact j4 (i:=4) sc_q20.nd rfl @E @K
  show C
  ·show Am;exact X0 (R8 (j6 (Y0 hr.units) @K b9) (R8 (j6 (Y0 hr.units) @Ab (sv 4)) (P7 (j6 (Y0 hr.units) @Ab @K))))
  show L;refine l9 (n:=5) ?_;refine b6 m7 ?_;refine b6 (sv 4) ?_;refine b6 @Ab ?_;refine b6 @Ab ?_;refine b6 ?_ c7;exact i7 j5 @K @Ab) b3q
def a8C:DS:=(i6 (k8 (o7 K2 (b7 (b8 1) (b7 (dOp pIx (b8 2) @F) (b7 (dC (.str "within")) f9)))) (f8 3))
  (i6 (x0 (o9 (dOp (pIs false) (b8 3) @AA)) (p8 @AA) p7)
  (i6 (k8 (dOp pIx (b8 3) @F) (f8 4))
  (i6 (k8 (o7 Y2 (b7 (b8 0) (b7 (v7 (b7 (b8 4) (b7 (dOp pIx (b8 3) @Am) (b7 (dOp pIx (b8 3) @AT) f9)))) (b7 (o7 a2b (b7 (b8 2) f9)) f9)))) (f8 5))
  (i6 (x0 (o9 (dOp (pIs false) (b8 5) @AA)) (p8 @AA) p7)
  (p8 (v7 (b7 (dC (.str "within")) (b7 (b8 4) (b7 (dOp pIx (b8 3) @R) (b7 (dOp pIx (b8 5) @R) (b7 (dOp pIx (b8 2) @Am) (b7 (dOp n4 (dOp pIx (b8 3) (dC (.int 5))) (dOp pIx (b8 5) @Am)) f9)))))))))))))
def a6h:DSp:=λ ds h Q=>∃ (c a:D) (C:f7) (cs:List Clm) (st:Nat) (w:Mv) (k n e:Int),ds=[c,a,rD (.mv w k n e)]/\w ≠ .inn/\ChD h c C/\WF C/\A6 h a=some (cs.map clD)/\(∀ c ∈ cs,a0a C c)/\Q (oD clD (i5 C st cs (.mv w k n e))) h
theorem b3P:∀ ds h Q,a6h ds h Q->j2 6 a8C ds h Q:=by
 rintro ds h Q ⟨c,a,C,cs,st,w,k,n,e,rfl,nw,hc,wf,ha,ok,q⟩
 delta j2 a8C;show N;simp only [rD,VV];refine ⟨a,cs,k,true,rfl,ha,?_⟩;show E
 cases hb:u3 cs k true with
 |none =>
  have eq:i5 C st cs (.mv w k n e)=none:=by
   have hn:=M8 hb
   cases w with
   |inn=>exact absurd rfl nw
   |_ =>
    show (match i8 cs k with | some (.within f a p d c)=>_ | _=>none)=none
    cases q2:i8 cs k with
    |none=>rfl
    |some x =>
     cases x with
     |within f a p d c=>exact absurd q2 (hn f a p d c)
     |«at» f p d c=>rfl
  rw [eq] at q;simp only [oD,VV];exact q
 |some b =>
  obtain ⟨f,a',p,d,x,rfl,hk⟩:=S8 hb;obtain ⟨F,hF,o1,o2,o3⟩:=z4 ok hk;simp only [oD,clD,VV];show E;show B;show E;show B;refine ⟨_,_,_,_,rfl,c,C,f,p,d,F,w,n,e,rfl,hc,wf,hF,o3,?_⟩
  have eq:i5 C st cs (.mv w k n e)=(m4 C f p d w n e).map λ E=>.within f a' E.q e.toNat (x + E.cost):=by
   cases w with
   |inn=>exact absurd rfl nw
   |_ =>
    show (match i8 cs k with | some (.within f a p d c)=>_ | _=>none)=_;rw [hk]
  rw [eq] at q;show E
  cases ht:m4 C f p d w n e with
  |none=>rw [ht] at q;simp only [oD,VV];exact q
  |some E =>
   rw [ht] at q;simp only [oD,b7M,VV];subst hN;simp only [b3r,b4q,VV];have he:0 <= e:=(A4 ht).2.2.2.2;have q:Q (.tup [.str "within",nD f,nD a',nD E.q,.int ((e.toNat:Nat):Int),.int ((x + E.cost:Nat):Int)]) h:=q;rw [YX he,Int.natCast_add] at q;exact q
theorem b9I{f:Addr}{fd:FuncData}(F:Fun K "edge_claim" "edge_claim" a8X f fd)(T:Txt P w K mg)(C_q23:Cal P w K mg base 1 "claim_ahead" ["ahead","k","sort"] (spD K 3 K2))(C_q36:Cal P w K mg base 1 "move_of" ["row"] (spD K 1 a2b))(C_q27:Cal P w K mg base 3 "edge_taken" ["chart","here","move"] (spD K 3 Y2)):n8 P w K mg base CX0 4 f fd ["chart","ahead","row"] (spD K 3 a6h) :=
 m9 (k:=3) (b:=a8C) F sc_q26 (λ cdv A outer s H E hr=>by
  show C
  ·refine j4 (i:=3) sc_q26.nd rfl @E ?_;exact j1 C_q23 @A rfl (b6 (sv 1) (b6 @K (b6 m7 c7)))
  show C
  ·exact y1 (j6 M6 (sv 3) n5) (d9 (l7 n5)) m5
  show C
  ·exact j4 (i:=4) sc_q26.nd rfl @E @Ab
  show C
  ·refine j4 (i:=5) ?_ ?_ ?_ ?_
   ·exact sc_q26.nd
   ·exact rfl
   ·exact Or.inl rfl
   exact j1 C_q27 @A rfl (b6 (sv 0) (b6 (l9 (b6 (sv 4) (b6 @Ab (b6 @Ab c7)))) (b6 (j1 C_q36 @A rfl (b6 (sv 2) c7)) c7)))
  show C
  ·exact y1 (j6 M6 (sv 5) n5) (d9 (l7 n5)) m5
  show L;refine l9 (n:=6) ?_;refine b6 m7 ?_;refine b6 (sv 4) ?_;refine b6 @Ab ?_;refine b6 (d8 c9 (sv 5) b9) ?_;refine b6 @K ?_;refine b6 ?_ c7;exact i7 j5 @Ab (d8 c9 (sv 5) b9)) b3P
def b0q:DS:=(i6 (k8 (o7 K2 (b7 (b8 1) (b7 (dOp pIx (b8 2) @F) (b7 (dC (.str "within")) f9)))) (f8 3))
  (i6 (k8 (o7 K2 (b7 (b8 1) (b7 (dOp pIx (b8 2) @Am) (b7 (dC (.str "within")) f9)))) (f8 4))
  (i6 (x0 (dOr (o9 (dOp (pIs false) (b8 3) @AA)) (o9 (dOp (pIs false) (b8 4) @AA))) (p8 @AA) p7)
  (i6 (k8 (dOp pIx (b8 3) @F) (f8 5))
  (i6 (k8 (o7 Y2 (b7 (b8 0) (b7 (v7 (b7 (b8 5) (b7 (dOp pIx (b8 3) @Am) (b7 (dOp pIx (b8 3) @AT) f9)))) (b7 (v7 (b7 (dC (.str "in")) (b7 (dOp pIx (b8 2) @R) (b7 (dOp pIx (b8 4) @R) f9)))) f9)))) (f8 6))
  (i6 (x0 (dOr (o9 (dOp (pIs false) (b8 6) @AA)) (dOr (o9 (dOp (pEq true) (dOp pIx (b8 6) @AT) (dOp pIx (b8 4) @F))) (o9 (dOp (pEq true) (dOp pIx (b8 4) @Am) (o7 Y4 (b7 (b8 0) (b7 (dOp pIx (b8 4) @F) f9))))))) (p8 @AA) p7)
  (i6 (x0 (b4j (dTr (o7 a1I (b7 (dOp pIx (b8 6) (dC (.int 6))) (b7 (dOp pIx (b8 4) @AT) (b7 (dOp pIx (b8 2) @AT) f9)))))) (p8 @AA) p7)
  (p8 (v7 (b7 (dC (.str "within")) (b7 (b8 5) (b7 (dOp pIx (b8 3) @R) (b7 (dOp pIx (b8 6) @R) (b7 (dOp pIx (b8 2) @AT) (b7 (dOp n4 (dOp n4 (dOp pIx (b8 3) (dC (.int 5))) (dOp pIx (b8 6) @Am)) (dOp pIx (b8 4) (dC (.int 5)))) f9)))))))))))))))
def a5x:DSp:=λ ds h Q=>∃ (c a:D) (C:f7) (cs:List Clm) (st:Nat) (k n j e:Int),ds=[c,a,rD (.short k n j e)]/\ChD h c C/\WF C/\A6 h a=some (cs.map clD)/\(∀ c ∈ cs,a0a C c)/\Q (oD clD (i5 C st cs (.short k n j e))) h
theorem b4w:∀ ds h Q,a5x ds h Q->j2 7 b0q ds h Q:=by
 rintro ds h Q ⟨c,a,C,cs,st,k,n,j,e,rfl,hc,wf,ha,ok,q⟩
 delta j2 b0q;show N;simp only [rD,VV];refine ⟨a,cs,k,true,rfl,ha,?_⟩;show E;show B;refine ⟨a,cs,j,true,rfl,ha,?_⟩;show E
 cases hb:u3 cs k true with
 |none =>
  have eq:i5 C st cs (.short k n j e)=none:=by
   have hn:=M8 hb;show (match i8 cs k,i8 cs j with | some (.within f a p d c),some (.within g b x y c')=>_ | _,_=>none)=none
   cases q2:i8 cs k with
   |none=>rfl
   |some x =>
    cases x with
    |within f a p d c=>exact absurd q2 (hn f a p d c)
    |«at» f p d c=>rfl
  rw [eq] at q;simp only [oD,VV];exact q
 |some b =>
  obtain ⟨f,a',p,d,x,rfl,hk⟩:=S8 hb;obtain ⟨F,hF,o1,o2,o3⟩:=z4 ok hk
  cases hb2:u3 cs j true with
  |none =>
   have eq:i5 C st cs (.short k n j e)=none:=by
    have hn:=M8 hb2;show (match i8 cs k,i8 cs j with | some (.within f a p d c),some (.within g b x y c')=>_ | _,_=>none)=none;rw [hk]
    cases q2:i8 cs j with
    |none=>rfl
    |some x =>
     cases x with
     |within f a p d c=>exact absurd q2 (hn f a p d c)
     |«at» f p d c=>rfl
   rw [eq] at q;simp only [oD,clD,VV];exact q
  |some b2 =>
   obtain ⟨g,b,px,y,x',rfl,hk2⟩:=S8 hb2;obtain ⟨G,hG,p1,p2,p3⟩:=z4 ok hk2;simp only [oD,clD,VV];show E;show B;show E;show B;refine ⟨c,C,f,p,d,F,.inn,n,(b:Int),rfl,hc,wf,hF,o3,?_⟩;show E
   have eq:i5 C st cs (.short k n j e)=(m4 C f p d .inn n b).bind λ E=>match E.k with
     |.call g' _ bk _=>(C[g']?).bind λ G=>if g'=g/\px + 1=G.places/\br bk y e=true then some (.within f a' E.q e.toNat (x + E.cost + x')) else none
     |_=>none:=by
    show (match i8 cs k,i8 cs j with | some (.within f a p d c),some (.within g b x y c')=>_ | _,_=>none)=_;rw [hk,hk2] <;> rfl
   rw [eq] at q
   cases ht:m4 C f p d .inn n b with
   |none=>rw [ht] at q;simp only [oD,VV];exact q
   |some E =>
    rw [ht] at q;obtain ⟨F',g',i,bk,o,G',hF',hk',hG',t1,t2,t3,_,_,_,_⟩:=L6 wf ht;obtain ⟨ep,eq',ec,ek⟩:=E;dsimp only at hk';subst hk';rw [hF] at hF';cases hF'
    have q:Q (oD clD ((C[g']?).bind λ G=>if g'=g/\px + 1=G.places/\br bk y e=true then some (.within f a' eq' e.toNat (x + ec + x')) else none)) h:=q;rw [hG'] at q;have q:Q (oD clD (if g'=g/\px + 1=G'.places/\br bk y e=true then some (.within f a' eq' e.toNat (x + ec + x')) else none)) h:=q;have e1:((g':Int) == (g:Int))=decide (g'=g):=by first | exact a7k _ _ | exact a9t _ _ | exact beqS _ _
    simp only [oD,eD,e1,VV]
    by_cases h1:g'=g
    ·subst h1;rw [hG] at hG';cases hG'
     show B;refine ⟨c,C,g',G,rfl,hc,hG,?_⟩;have e2:((px:Int) == (G.places:Int) - 1)=decide (px + 1=G.places):=by first | exact a7k _ _ | exact a9t _ _ | exact beqS _ _
     simp only [e2,VV]
     by_cases h2:px + 1=G.places
     ·simp only [h2,VV];show E;show B;refine ⟨bk,_,_,y,e,rfl,t2,(wf.fn f F hF).2.2.2.1,p3,?_⟩
      by_cases h3:br bk y e=true
      ·rw [if_pos ⟨rfl,h2,h3⟩] at q;simp only [h3,VV];subst hN;show B;have he:0 <= e:=by unfold br at h3;rw [ZC] at h3;exact of_decide_eq_true h3.1
       have q:Q (.tup [.str "within",nD f,nD a',nD eq',.int ((e.toNat:Nat):Int),.int ((x + ec + x':Nat):Int)]) h:=q;rw [YX he,Int.natCast_add,Int.natCast_add] at q;exact q
      ·rw [if_neg (λ z=>h3 z.2.2)] at q;simp only [h3,VV];exact q
     ·rw [if_neg (λ z=>h2 z.2.1)] at q;simp only [h2,VV];exact q
    ·rw [if_neg (λ z=>h1 z.1)] at q;simp only [h1,VV];exact q
theorem b7p{f:Addr}{fd:FuncData}(F:Fun K "short_claim" "short_claim" a8y f fd)(T:Txt P w K mg)(C_q23:Cal P w K mg base 1 "claim_ahead" ["ahead","k","sort"] (spD K 3 K2))(C_q27:Cal P w K mg base 3 "edge_taken" ["chart","here","move"] (spD K 3 Y2))(C_q29:Cal P w K mg base 1 "exit_of" ["chart","f"] (spD K 2 Y4))(C_q22:Cal P w K mg base 2 "brings" ["table","d","e"] (spD K 3 a1I)):n8 P w K mg base CX0 4 f fd ["chart","ahead","row"] (spD K 3 a5x) :=
 m9 (k:=3) (b:=b0q) F sc_q38 (λ cdv A outer s H E hr=>by
  show C
  ·refine j4 (i:=3) sc_q38.nd rfl @E ?_;exact j1 C_q23 @A rfl (b6 (sv 1) (b6 @K (b6 m7 c7)))
  show C
  ·refine j4 (i:=4) sc_q38.nd rfl @E ?_;exact j1 C_q23 @A rfl (b6 (sv 1) (b6 @K (b6 m7 c7)))
  show C
  ·show Am;exact X0 (R8 (j6 M6 (sv 3) n5) (P7 (j6 M6 (sv 4) n5)))
  show C
  ·exact j4 (i:=5) sc_q38.nd rfl @E @Ab
  show C
  ·refine j4 (i:=6) ?_ ?_ ?_ ?_
   ·exact sc_q38.nd
   ·exact rfl
   ·exact Or.inl rfl
   exact j1 C_q27 @A rfl (b6 (sv 0) (b6 (l9 (b6 (sv 5) (b6 @Ab (b6 @Ab c7)))) (b6 (l9 (b6 m7 (b6 @K (b6 @Ay c7)))) c7)))
  show C
  ·show Am;exact X0 (R8 (j6 M6 (sv 6) n5) (R8 (j6 (Y0 hr.units) (d8 c9 (sv 6) b9) @Ay) (P7 (j6 (Y0 hr.units) @Ay (j1 C_q29 @A rfl (b6 (sv 0) (b6 @Ay c7)))))))
  show C
  ·show Am;exact a4t (y6 (j1 C_q22 @A rfl (b6 (d8 c9 (sv 6) b9) (b6 @Ay (b6 @K c7)))))
  show L;refine l9 (n:=6) ?_;refine b6 m7 ?_;refine b6 (sv 5) ?_;refine b6 @Ab ?_;refine b6 (d8 c9 (sv 6) b9) ?_;refine b6 @K ?_;refine b6 ?_ c7;exact i7 j5 (i7 j5 @Ab (d8 c9 (sv 6) b9)) @Ay) b4w
def a8l:DS:=(i6 (k8 (o7 K2 (b7 (b8 1) (b7 (dOp pIx (b8 2) @F) (b7 (dC (.str "at")) f9)))) (f8 3))
  (i6 (x0 (o9 (dOp (pIs false) (b8 3) @AA)) (p8 @AA) p7)
  (i6 (k8 (o7 Y2 (b7 (b8 0) (b7 (v7 (b7 (dOp pIx (b8 3) @F) (b7 (dOp pIx (b8 3) @R) (b7 (dOp pIx (b8 3) @Am) f9)))) (b7 (o7 a2b (b7 (b8 2) f9)) f9)))) (f8 4))
  (p8 (dIf (o9 (dOp (pIs false) (b8 4) @AA)) @AA (v7 (b7 (dC (.str "at")) (b7 (dOp pIx (b8 4) @AT) (b7 @H (b7 (dOp pIx (b8 2) @Am) (b7 (dOp n4 (dOp pIx (b8 3) @AT) (dOp pIx (b8 4) @Am)) f9)))))))))))
def a5g:DSp:=λ ds h Q=>∃ (c a:D) (C:f7) (cs:List Clm) (st:Nat) (k n e:Int),ds=[c,a,rD (.mv .inn k n e)]/\ChD h c C/\WF C/\A6 h a=some (cs.map clD)/\(∀ c ∈ cs,a0a C c)/\Q (oD clD (i5 C st cs (.mv .inn k n e))) h
theorem b5k:∀ ds h Q,a5g ds h Q->j2 5 a8l ds h Q:=by
 rintro ds h Q ⟨c,a,C,cs,st,k,n,e,rfl,hc,wf,ha,ok,q⟩
 delta j2 a8l;show N;simp only [rD,VV];refine ⟨a,cs,k,false,rfl,ha,?_⟩;show E
 cases hb:u3 cs k false with
 |none =>
  have eq:i5 C st cs (.mv .inn k n e)=none:=by
   have hn:=a1A hb;show (match i8 cs k with | some (.at f p d c)=>_ | _=>none)=none
   cases q2:i8 cs k with
   |none=>rfl
   |some x =>
    cases x with
    |within f a p d c=>rfl
    |«at» f p d c=>exact absurd q2 (hn f p d c)
  rw [eq] at q;simp only [oD,VV];exact q
 |some b =>
  obtain ⟨f,p,d,x,rfl,hk⟩:=a3G hb;obtain ⟨F,hF,o1,o2⟩:=z4 ok hk;simp only [oD,clD,VV];show E;show B;refine ⟨_,_,_,_,rfl,c,C,f,p,d,F,.inn,n,e,rfl,hc,wf,hF,o2,?_⟩
  have eq:i5 C st cs (.mv .inn k n e)=(m4 C f p d .inn n e).bind λ E=>match E.k with | .call g _ _ _=>some (.at g 0 e.toNat (x + E.cost)) | _=>none:=by
   show (match i8 cs k with | some (.at f p d c)=>_ | _=>none)=_;rw [hk] <;> rfl
  rw [eq] at q;subst hN
  cases ht:m4 C f p d .inn n e with
  |none=>rw [ht] at q;simp only [oD,VV];exact q
  |some E =>
   rw [ht] at q;obtain ⟨F',g,i,b,o,G,_,hk',_,_,_,_,_,_,_,he⟩:=L6 wf ht;obtain ⟨ep,eq',ec,ek⟩:=E;dsimp only at hk';subst hk';simp only [oD,eD,VV];have q:Q (.tup [.str "at",nD g,nD 0,.int ((e.toNat:Nat):Int),.int ((x + ec:Nat):Int)]) h:=q;rw [YX he,Int.natCast_add] at q;exact q
theorem b7j{f:Addr}{fd:FuncData}(F:Fun K "in_claim" "in_claim" a8i f fd)(T:Txt P w K mg)(C_q23:Cal P w K mg base 1 "claim_ahead" ["ahead","k","sort"] (spD K 3 K2))(C_q36:Cal P w K mg base 1 "move_of" ["row"] (spD K 1 a2b))(C_q27:Cal P w K mg base 3 "edge_taken" ["chart","here","move"] (spD K 3 Y2)):n8 P w K mg base CX0 4 f fd ["chart","ahead","row"] (spD K 3 a5g) :=
 m9 (k:=3) (b:=a8l) F sc_q31 (λ cdv A outer s H E hr=>by
  show C
  ·refine j4 (i:=3) sc_q31.nd rfl @E ?_;exact j1 C_q23 @A rfl (b6 (sv 1) (b6 @K (b6 m7 c7)))
  show C
  ·exact y1 (j6 M6 (sv 3) n5) (d9 (l7 n5)) m5
  show C
  ·refine j4 (i:=4) ?_ ?_ ?_ ?_
   ·exact sc_q31.nd
   ·exact rfl
   ·exact Or.inl rfl
   exact j1 C_q27 @A rfl (b6 (sv 0) (b6 (l9 (b6 @Ab (b6 @Ab (b6 @Ab c7)))) (b6 (j1 C_q36 @A rfl (b6 (sv 2) c7)) c7)))
  show L;exact a0z (j6 M6 (sv 4) n5) n5 (l9 (b6 m7 (b6 @Ay (b6 b9 (b6 @K (b6 (i7 j5 @Ab @Ay) c7))))))) b5k
def R6:DS:=(i6 (x0 (o9 (dOp @AF (dOp pIx (b8 3) @H) (dC (.str "begin")))) (p8 (o7 a5J (b7 (b8 0) @At))) p7)
  (i6 (x0 (o9 (dOp @AF (dOp pIx (b8 3) @H) (dC (.str "start")))) (p8 (o7 a5r (b7 (b8 0) (b7 (b8 1) @At)))) p7)
  (i6 (x0 (o9 (dOp @AF (dOp pIx (b8 3) @H) (dC (.str "short")))) (p8 (o7 a5x (b7 (b8 0) (b7 (b8 2) @At)))) p7)
  (i6 (x0 (o9 (dOp @AF (dOp pIx (b8 3) @H) (dC (.str "in")))) (p8 (o7 a5g (b7 (b8 0) (b7 (b8 2) @At)))) p7)
  (i6 (x0 (o9 (dOp @AF (dOp pIx (b8 3) @H) (dC (.str "along")))) (p8 (o7 a5E (b7 (b8 2) @At))) p7)
  (p8 (o7 a6h (b7 (b8 0) (b7 (b8 2) @At)))))))))
def a4Z:DSp:=λ ds h Q=>∃ (c a:D) (C:f7) (cs:List Clm) (st:Nat) (r:Row),ds=[c,nD st,a,rD r]/\ChD h c C/\WF C/\A6 h a=some (cs.map clD)/\(∀ c ∈ cs,a0a C c)/\Q (oD clD (i5 C st cs r)) h
theorem b2y:∀ ds h Q,a4Z ds h Q->j2 4 R6 ds h Q:=by
 rintro ds h Q ⟨c,a,C,cs,st,r,rfl,hc,wf,ha,ok,q⟩
 cases r with
 |begin f d=>delta j2 R6;show N;simp only [rD,VV];exact ⟨c,C,cs,st,f,d,rfl,hc,q⟩
 |start d=>delta j2 R6;show N;simp only [rD,VV];show E;show B;exact ⟨c,C,cs,st,d,rfl,hc,wf,q⟩
 |short k n j e=>delta j2 R6;show N;simp only [rD,VV];show E;show B;show E;show B;exact ⟨c,a,C,cs,st,k,n,j,e,rfl,hc,wf,ha,ok,q⟩
 |along k j=>delta j2 R6;show N;simp only [rD,VV];show E;show B;show E;show B;show E;show B;show E;show B;exact ⟨a,C,cs,st,k,j,rfl,ha,q⟩
 |mv w k n e =>
  cases w with
  |inn=>delta j2 R6;show N;simp only [rD,Mv.w,VV];show E;show B;show E;show B;show E;show B;exact ⟨c,a,C,cs,st,k,n,e,rfl,hc,wf,ha,ok,q⟩
  |step=>delta j2 R6;show N;simp only [rD,Mv.w,VV];show E;show B;show E;show B;show E;show B;show E;show B;subst hN;show B;exact ⟨c,a,C,cs,st,.step,k,n,e,rfl,by decide,hc,wf,ha,ok,q⟩
  |over=>delta j2 R6;show N;simp only [rD,Mv.w,VV];show E;show B;show E;show B;show E;show B;show E;show B;subst hN;show B;exact ⟨c,a,C,cs,st,.over,k,n,e,rfl,by decide,hc,wf,ha,ok,q⟩
theorem b8x{f:Addr}{fd:FuncData}(F:Fun K "claim_of" "claim_of" a9r f fd)(T:Txt P w K mg)(C_q21:Cal P w K mg base 1 "begin_claim" ["chart","row"] (spD K 2 a5J))(C_q41:Cal P w K mg base 2 "start_claim" ["chart","start","row"] (spD K 3 a5r))(C_q38:Cal P w K mg base 4 "short_claim" ["chart","ahead","row"] (spD K 3 a5x))(C_q31:Cal P w K mg base 4 "in_claim" ["chart","ahead","row"] (spD K 3 a5g))(C_q20:Cal P w K mg base 2 "along_claim" ["ahead","row"] (spD K 2 a5E))(C_q26:Cal P w K mg base 4 "edge_claim" ["chart","ahead","row"] (spD K 3 a6h)):n8 P w K mg base CX0 5 f fd ["chart","start","ahead","row"] (spD K 4 a4Z) :=
 m9 (k:=4) (b:=R6) F b9r (λ cdv A outer s H E hr=>by
  show C
  ·refine y1 (j6 @Az @Ab m7) ?_ m5;show M;exact l7 (j1 C_q21 @A rfl (b6 (sv 0) @Au))
  show C
  ·refine y1 (j6 @Az @Ab m7) ?_ m5;show L;exact j1 C_q41 @A rfl (b6 (sv 0) (b6 (sv 1) @Au))
  show C
  ·refine y1 (j6 @Az @Ab m7) ?_ m5;show L;exact j1 C_q38 @A rfl (b6 (sv 0) (b6 (sv 2) @Au))
  show C
  ·refine y1 (j6 @Az @Ab m7) ?_ m5;show L;exact j1 C_q31 @A rfl (b6 (sv 0) (b6 (sv 2) @Au))
  show C
  ·refine y1 (j6 @Az @Ab m7) ?_ m5;show M;exact l7 (j1 C_q20 @A rfl (b6 (sv 2) @Au))
  show L;exact j1 C_q26 @A rfl (b6 (sv 0) (b6 (sv 2) @Au))) b2y
def a1z:DS:=(i6 (k8 (dTk f9) (f8 3))
  (i6 (Q1 (O9 (b8 2)) (f8 4) (i6 (k8 (o7 a4Z (b7 (b8 0) (b7 (b8 1) (b7 (b8 3) (b7 (b8 4) f9))))) (f8 5))
  (i6 (x0 (o9 (dOp (pIs false) (b8 5) @AA)) b1t p7)
  (y8 (C0 (b8 3) (b7 (b8 5) f9))))))
  (p8 (b8 3))))
def a5R:DSp:=λ ds h Q=>∃ (c a:D) (C:f7) (rs:List Row) (st:Nat) (cs:List Clm),ds=[c,nD st,a]/\ChD h c C/\WF C/\A6 h a=some (rs.map rD)/\rs.length <= 100000/\n9 C st rs []=some cs/\Q (.ref h.length) (h ++ [.lst (cs.map clD)])
theorem b2K:∀ ds h Q,a5R ds h Q->j2 6 a1z ds h Q:=by
 rintro ds h Q ⟨c,a,C,rs,st,cs,rfl,hc,wf,ha,hl,hcs,q⟩
 have p0:Pre h (h ++ [.lst []]):=Pre.app _ _;obtain ⟨w,e1,e2,e3⟩:=b8H (p0.ls ha);simp only [e1,↓a1z,↓j2,↓i6,VV];refine u0 (λ p δ h'=>∃ (cl:List Clm) (x1 x2:Option D),δ=[some c,some (nD st),some a,some (.ref h.length),x1,x2]/\h'=h ++ [.lst (cl.map clD)]/\(∀ c ∈ cl,a0a C c)/\cl.length=p.length/\n9 C st (rs.drop p.length) cl=some cs) ⟨[],none,none,rfl,rfl,(λ c hc=>nomatch hc),rfl,hcs⟩ ?_ ?_ ?_
 ·rintro p δ h' ⟨cl,x1,x2,rfl,rfl,_⟩ z hz
  obtain ⟨i,e4,e5⟩:=e3 z hz;subst e4 e5
  have hi:i < h.length:=by
   rcases Nat.lt_or_ge i h.length with y | y
   ·exact y
   ·have ha':A6 h (.ref i)=some (rs.map rD):=ha
    have:(match h[i]? with | some (.lst xs)=>some xs | _=>none)=some (rs.map rD):=ha'
    rw [Zm y] at this;cases this
  have ok:=e2 _ hz;rw [ZN hi] at ok ⊢;exact ok
 ·rintro p r rest δ h' N e ⟨cl,x1,x2,rfl,rfl,ok,hlen,hall⟩ hN
  have p1:Pre h (h ++ [.lst (cl.map clD)]):=Pre.app _ _;have hd:rs.drop p.length=r :: rest:=by rw [e];simp
  rw [hd] at hall;have hall:((i5 C st cl r).bind λ c=>n9 C st rest (cl ++ [c]))=some cs:=hall;simp only [↓a1z,↓j2,↓i6,VV];refine ⟨c,.ref h.length,C,cl,st,r,rfl,hc.mono p1,wf,b7q _ _,ok,?_⟩
  cases hr:i5 C st cl r with
  |none=>rw [hr] at hall;cases hall
  |some k =>
   rw [hr] at hall;simp only [oD,b5e,b2R,b2W,↓a1z,↓j2,↓i6,VV];have hb:cl.length < rs.length:=by rw [hlen,e];simp
   refine ⟨by rw [ZS];omega,hN _ _ ⟨cl ++ [k],_,_,rfl,by rw [Zz];rfl,λ c hc'=>?_,by simp [hlen],?_⟩⟩
   ·rcases List.mem_append.mp hc' with z | z
    ·exact ok c z
    ·rw [ZX.mp z];exact T4 wf ok hr
   ·have hd2:rs.drop (p ++ [r]).length=rest:=by rw [e];simp
    rw [hd2];exact hall
 ·rintro δ h' ⟨cl,x1,x2,rfl,rfl,ok,hlen,hall⟩
  rw [List.drop_length] at hall;cases hall;simp only [↓a1z,↓j2,↓i6,VV];exact q
theorem b7I{f:Addr}{fd:FuncData}(F:Fun K "claims" "claims" b0X f fd)(T:Txt P w K mg)(C_q24:Cal P w K mg base 5 "claim_of" ["chart","start","ahead","row"] (spD K 4 a4Z)):n8 P w K mg base CX0 6 f fd ["chart","start","rows"] (spD K 3 a5R) :=
 m9 (k:=5) (b:=a1z) F sc_q25 (λ cdv A outer s H E hr=>by
  show C
  ·exact j4 (i:=3) sc_q25.nd rfl @E (a4P (F4 c7))
  refine c8 ?_ (d9 (l7 (sv 3)));refine F1 PassesOwn.never rfl (J7 (sv 2)) (j9 (i:=4) sc_q25.nd rfl @E) ?_;show C
  ·refine j4 (i:=5) sc_q25.nd rfl @E ?_;exact j1 C_q24 @A rfl (b6 (sv 0) (b6 (sv 1) (b6 (sv 3) (b6 (sv 4) c7))))
  refine c8 ?_ (d9 (t7 (y9 (sv 3) (b6 (sv 5) c7))));exact y1 (j6 M6 (sv 5) n5) (d9 b4z) m5) b2K
def a7H:DS:=(p8 (dOp b7b (dSl (b8 0) a0f (a6e @R)) (dSl (b8 1) a0f (a6e @R))))
def X8:DSp:=λ ds h Q=>∃ (c n:Int) (t:D) (c' n':Int) (t':D),ds=[.tup [.int c,.int n,t],.tup [.int c',.int n',t']]/\Q (.bl (HT.lexLt [c,n] [c',n'])) h
theorem b4Y:∀ ds h Q,X8 ds h Q->j2 2 a7H ds h Q:=by
 rintro ds h Q ⟨c,n,t,c',n',t',rfl,q⟩
 have hc:∀ a b c:D,a3N [a,b,c] none (some 2)=[a,b]:=λ _ _ _=>rfl;have i2:∀ a b:Int,a0U [.int a,.int b]=some [a,b]:=λ _ _=>rfl;simp only [hc,i2,↓a7H,↓j2,↓i6,VV];exact q
theorem b8d{f:Addr}{fd:FuncData}(F:Fun K "is_ahead" "is_ahead" b0l f fd)(T:Txt P w K mg):n8 P w K mg base CX0 1 f fd ["one","other"] (spD K 2 X8) :=
 m9 (k:=0) (b:=a7H) F b7S (λ cdv A outer s H E hr=>by
  show L;exact P0 (b8A hr.units0) (b0y (sv 0) a2W (a2s b9)) (b0y (sv 1) a2W (a2s b9))) b4Y
def b0g:DS:=(p8 (a9B (a0m "int" (b8 0)) (a7S (a0m "bool" (b8 0)))))
def a5N:DSp:=λ ds h Q=>∃ i:Int,ds=[.int i]/\Q (.bl true) h
theorem b4H:∀ ds h Q,a5N ds h Q->j2 1 b0g ds h Q:=by
 rintro ds h Q ⟨i,rfl,q⟩
 simp only [↓b0g,↓j2,↓i6,VV];exact q
theorem b7s{f:Addr}{fd:FuncData}(F:Fun K "_law_whole" "_law_whole" b0K f fd)(T:Txt P w K mg):n8 P w K mg base CX0 1 f fd ["_law_found"] (spD K 1 a5N) :=
 m9 (k:=0) (b:=b0g) F b7R (λ cdv A outer s H E hr=>by
  show L;exact b0Y (U8 @B rfl T.b_isinstance (sv 0) (a2i (v:=.ty "int") rfl T.b_int YQ rfl)) (b0R (a8D (U8 @B rfl T.b_isinstance (sv 0) (a2i (v:=.ty "bool") rfl T.b_bool PyProof.Rows.boot_bool rfl))))) b4H
def a8M:DS:=(i6 (K8 "Queue" "heap" (b8 0) (dTk f9))
  (K8 "Queue" "puts" (b8 0) @H))
def b1b:DSp:=λ ds h Q=>∃ i,ds=[.ref i]/\h[i]?=some (.ins "Queue" [])/\Q .non (h.set i (qO h.length 0) ++ [.lst []])
theorem b7W:∀ ds h Q,b1b ds h Q->j2 1 a8M ds h Q:=by
 rintro ds h Q ⟨i,rfl,e,q⟩
 have hi:i < h.length:=(ZY.mp e).1;have e1:(h ++ [O.lst []])[i]?=some (.ins "Queue" []):=by rw [ZN hi];exact e
 delta j2 a8M;show N;simp only [e1,VV];refine ⟨⟨trivial,by decide⟩,?_⟩;subst hN;have e2:((h ++ [O.lst []]).set i (.ins "Queue" (putA "heap" (.ref h.length) [])))[i]?=some (.ins "Queue" (putA "heap" (.ref h.length) [])):=ZH (by simp;omega);simp only [e2,VV];refine ⟨⟨trivial,show 1 < 1000 by decide⟩,?_⟩;rw [YG,List.set_append_left _ _ hi];exact q
theorem c0N{f:Addr}{fd:FuncData}(F:Fun K "__init__" "Queue.__init__" a2J f fd)(T:Txt P w K mg):n8 P w K mg base CX0 1 f fd ["self"] (spD K 1 b1b) :=
 m9 (k:=0) (b:=a8M) F c1B (λ cdv A outer s H E hr=>by
  exact c8 (O3 T.f_heap (sv 0) (a4P (F4 c7)))     (d9 (O3 T.f_puts (sv 0) b9))) b7W
def a8j:DS:=(i6 (k8 (dOp Z2 (dCB Z9 (b7 (b8 0) f9)) @F) (f8 1))
  (i6 (k8 (dOp pIx (b8 0) (b8 1)) (f8 2))
  (i6 (W3 (a4j (o9 (dOp pGt (b8 1) @H)) (dTr (o7 X8 (b7 (b8 2) (b7 (dOp pIx (b8 0) (dOp a6R (dOp Z2 (b8 1) @F) @R)) f9))))) (i6 (k8 (dOp pIx (b8 0) (dOp a6R (dOp Z2 (b8 1) @F) @R)) (a0x (b8 0) (b8 1)))
  (k8 (dOp a6R (dOp Z2 (b8 1) @F) @R) (f8 1))))
  (k8 (b8 2) (a0x (b8 0) (b8 1))))))
def a6m:DSp:=λ ds h Q=>∃ (j:Nat) (T:Tb) (xs:List Nat),ds=[.ref j]/\h[j]?=some (.lst (xs.map (hD T)))/\0 < xs.length/\xs.length <= 10000000/\UpH (ltT T) xs (xs.length - 1)/\∀ zs,zs.Perm xs->HP (ltT T) zs->Q .non (h.set j (.lst (zs.map (hD T))))
theorem T6(T:Tb)(xs:List Nat)(k:Nat)(hk:k < xs.length):atI (xs.map (hD T)) (k:Int)=some (hD T (at0 xs k)):=by rw [atN,ZP,ZZ hk,A8 hk];rfl
theorem a0X(T:Tb)(xs:List Nat)(k v:Nat):(xs.map (hD T)).set k (hD T v)=(xs.set k v).map (hD T):=by rw [List.map_set]
theorem b3e:∀ ds h Q,a6m ds h Q->j2 3 a8j ds h Q:=by
 rintro ds h Q ⟨j,T,xs,rfl,e,h0,hb,up,q⟩
 have hj:j < h.length:=(ZY.mp e).1;delta j2 a8j;show N;simp only [B8 (p9 e),List.length_map,VV];rw [show (xs.length:Int) - 1=((xs.length - 1:Nat):Int) by right];show E;simp only [F7 (p9 e),T6 T xs _ (show xs.length - 1 < xs.length by right),VV];show E;refine T7 (λ m δ h'=>∃ (v:Nat) (ys:List Nat),δ=[some (.ref j),some (nD m),some (hD T v)]/\h'=h.set j (.lst (ys.map (hD T)))/\m < ys.length/\ys.length=xs.length/\(ys.set m v).Perm xs/\UpH (ltT T) (ys.set m v) m) (m:=xs.length - 1) ⟨at0 xs (xs.length - 1),xs,rfl,(a3u e).symm,by right,rfl,?_,?_⟩ ?_
 ·rw [<- A8 (show xs.length - 1 < xs.length by right),List.set_getElem_self]
 ·rw [<- A8 (show xs.length - 1 < xs.length by right),List.set_getElem_self];exact up
 ·rintro m δ h' N1 ⟨v,ys,rfl,rfl,hk,hl,pm,u⟩ hN1
  have ej:(h.set j (O.lst (ys.map (hD T))))[j]?=some (.lst (ys.map (hD T))):=ZH hj
  have fin:HP (ltT T) (ys.set m v)->N [some (.ref j),some (nD m),some (hD T v)] (h.set j (O.lst (ys.map (hD T)))):=by
   intro hp;subst hN;simp only [ej,List.length_map,N6 hk,a0X,List.set_set,VV];exact q _ pm hp
  have zm:at0 (ys.set m v) m=v:=by rw [D1 _ _ _ _ hk,if_pos rfl]
  by_cases h0':0 < m
  ·have pe:((m:Int) - 1) / 2=(((m - 1) / 2:Nat):Int):=by right
   have hp:(m - 1) / 2 < ys.length:=by right
   have zp:at0 (ys.set m v) ((m - 1) / 2)=at0 ys ((m - 1) / 2):=by rw [D1 _ _ _ _ hk,if_neg @P]
   have d0:decide ((0:Int) < (m:Int))=true:=decide_eq_true @P;simp only [d0,pe,F7 (p9 ej),T6 T ys _ hp,VV];refine ⟨⟨by decide,by decide⟩,cst T v,v,thg T v,cst T (at0 ys ((m - 1) / 2)),at0 ys ((m - 1) / 2),thg T (at0 ys ((m - 1) / 2)),rfl,?_⟩;have el:HT.lexLt [cst T v,(v:Int)] [cst T (at0 ys ((m - 1) / 2)),((at0 ys ((m - 1) / 2):Nat):Int)]=ltT T v (at0 ys ((m - 1) / 2)):=rfl;rw [el]
   cases c:ltT T v (at0 ys ((m - 1) / 2)) with
   |false =>
    show B;exact fin (u.done (.inr (by rw [zm,zp];exact c)))
   |true =>
    have sw:Z3 (ys.set m v) m ((m - 1) / 2)=(ys.set m (at0 ys ((m - 1) / 2))).set ((m - 1) / 2) v:=by unfold Z3;rw [zm,zp,YG]
    have pm2:=(a1B (zs:=ys.set m v) (k:=m) (j:=(m - 1) / 2) (by simpa using hk) (by simpa using hp) @P).trans pm;have u2:=u.step (b2H T) h0' (by rw [zm,zp];exact c);rw [sw] at pm2 u2;show B
    (try dsimp only);refine G8 λ N2 hN2=>?_;simp only [pe,F7 (p9 ej),T6 T ys _ hp,ej,List.length_map,N6 hk,a0X,List.set_set,VV];refine ⟨⟨by decide,by decide⟩,?_⟩;subst hN2;simp only [pe,VV];refine ⟨⟨by decide,by decide⟩,?_⟩;exact hN1 ((m - 1) / 2) _ _ @P ⟨v,_,rfl,rfl,by simpa using hp,by simpa using hl,pm2,u2⟩
  ·have m0:m=0:=by right
   have d0:decide ((0:Int) < (m:Int))=false:=decide_eq_false @P;simp only [d0,VV];exact fin (u.done (.inl m0))
theorem b6x{f:Addr}{fd:FuncData}(F:Fun K "rise" "rise" a9y f fd)(T:Txt P w K mg)(C_q33:Cal P w K mg base 1 "is_ahead" ["one","other"] (spD K 2 X8)):n8 P w K mg base CX0 2 f fd ["heap"] (spD K 1 a6m) :=
 m9 (k:=1) (b:=a8j) F sc_q37 (λ cdv A outer s H E hr=>by
  show C
  ·exact j4 (i:=1) sc_q37.nd rfl @E (i7 E1 @Aw b9)
  show C
  ·exact j4 (i:=2) sc_q37.nd rfl @E (d8 c9 (sv 0) (sv 1))
  refine c8 ?_ (d9 (a0I (sv 2) (N5 (sv 0) (sv 1))));refine a0s PassesOwn.never ?_ ?_
  ·exact X0 (V2 (j6 a9c (sv 1) b9) (N4 (y6 (j1 C_q33 @A rfl (b6 (sv 2) (b6 (d8 c9 (sv 0) (i7 a0F (i7 E1 (sv 1) b9) b9)) c7))))))
  show C
  ·exact a0I (d8 c9 (sv 0) (i7 a0F (i7 E1 (sv 1) b9) b9)) (N5 (sv 0) (sv 1))
  show M;exact j4 (i:=1) sc_q37.nd rfl @E (i7 a0F (i7 E1 (sv 1) b9) b9)) b3e
def a7C:DS:=(i6 (k8 (dOp n4 (dOp S0 @R (b8 1)) @F) (f8 2))
  (i6 (x0 (a4j (o9 (dOp a1n (dOp n4 (b8 2) @F) (dCB Z9 (b7 (b8 0) f9)))) (dTr (o7 X8 (b7 (dOp pIx (b8 0) (dOp n4 (b8 2) @F)) (b7 (dOp pIx (b8 0) (b8 2)) f9))))) (p8 (dOp n4 (b8 2) @F)) p7)
  (p8 (b8 2))))
def a3T:DSp:=λ ds h Q=>∃ (j:Nat) (T:Tb) (xs:List Nat) (k:Nat),ds=[.ref j,nD k]/\h[j]?=some (.lst (xs.map (hD T)))/\k < 20000000/\Q (nD (lsb (ltT T) xs k)) h
theorem b3I:∀ ds h Q,a3T ds h Q->j2 3 a7C ds h Q:=by
 rintro ds h Q ⟨j,T,xs,k,rfl,e,hk,q⟩
 delta j2 a7C;show N;show B;refine ⟨a4S @P,?_⟩;rw [show (2:Int) * (k:Int) + 1=((2 * k + 1:Nat):Int) by right];show E;have e2:((2 * k + 1:Nat):Int) + 1=((2 * k + 2:Nat):Int):=by right
 simp only [B8 (p9 e),List.length_map,e2,VV]
 by_cases c1:2 * k + 2 < xs.length
 ·have d1:decide (((2 * k + 2:Nat):Int) < (xs.length:Int))=true:=decide_eq_true @P;simp only [d1,F7 (p9 e),T6 T xs _ c1,T6 T xs _ (show 2 * k + 1 < xs.length by right),VV];refine ⟨_,_,_,_,_,_,rfl,?_⟩;have el:HT.lexLt [cst T (at0 xs (2 * k + 2)),((at0 xs (2 * k + 2):Nat):Int)] [cst T (at0 xs (2 * k + 1)),((at0 xs (2 * k + 1):Nat):Int)]=ltT T (at0 xs (2 * k + 2)) (at0 xs (2 * k + 1)):=rfl;rw [el]
  cases c:ltT T (at0 xs (2 * k + 2)) (at0 xs (2 * k + 1)) with
  |true =>
   simp only [e2,VV];unfold lsb at q;rw [if_pos ⟨c1,c⟩] at q;exact q
  |false =>
   show B;subst hN;show B;unfold lsb at q;rw [if_neg λ z=>by rw [c] at z;cases z.2] at q;exact q
 ·have d1:decide (((2 * k + 2:Nat):Int) < (xs.length:Int))=false:=decide_eq_false @P;show Ad;subst hN;show B;unfold lsb at q;rw [if_neg λ z=>c1 z.1] at q;exact q
theorem b8h{f:Addr}{fd:FuncData}(F:Fun K "lesser_below" "lesser_below" a7E f fd)(T:Txt P w K mg)(C_q33:Cal P w K mg base 1 "is_ahead" ["one","other"] (spD K 2 X8)):n8 P w K mg base CX0 2 f fd ["heap","k"] (spD K 2 a3T) :=
 m9 (k:=1) (b:=a7C) F sc_q35 (λ cdv A outer s H E hr=>by
  show C
  ·exact j4 (i:=2) sc_q35.nd rfl @E (i7 j5 (i7 A5 b9 (sv 1)) b9)
  refine c8 ?_ (d9 (l7 (sv 2)));refine y1 ?_ (d9 (l7 (i7 j5 (sv 2) b9))) m5;exact X0 (V2 (j6 J6 (i7 j5 (sv 2) b9) @Aw) (N4 (y6 (j1 C_q33 @A rfl (b6 (d8 c9 (sv 0) (i7 j5 (sv 2) b9)) (b6 (d8 c9 (sv 0) (sv 2)) c7))))))) b3I
def a8S:DS:=(i6 (k8 @H (f8 1))
  (i6 (k8 (dOp pIx (b8 0) @H) (f8 2))
  (i6 (k8 (o7 a3T (b7 (b8 0) (b7 @H f9))) (f8 3))
  (i6 (W3 (a4j (o9 (dOp a1n (b8 3) (dCB Z9 (b7 (b8 0) f9)))) (dTr (o7 X8 (b7 (dOp pIx (b8 0) (b8 3)) (b7 (b8 2) f9))))) (i6 (k8 (dOp pIx (b8 0) (b8 3)) (a0x (b8 0) (b8 1)))
  (i6 (k8 (b8 3) (f8 1))
  (k8 (o7 a3T (b7 (b8 0) (b7 (b8 1) f9))) (f8 3)))))
  (k8 (b8 2) (a0x (b8 0) (b8 1)))))))
def a5X:DSp:=λ ds h Q=>∃ (j:Nat) (T:Tb) (xs:List Nat),ds=[.ref j]/\h[j]?=some (.lst (xs.map (hD T)))/\0 < xs.length/\xs.length <= 10000000/\DnH (ltT T) xs 0/\∀ zs,zs.Perm xs->HP (ltT T) zs->Q .non (h.set j (.lst (zs.map (hD T))))
theorem b5u{lt:Nat->Nat->Bool}{xs:List Nat}{k v:Nat}(hk:k < xs.length):lsb lt (xs.set k v) k=lsb lt xs k:=by
 have e1:at0 (xs.set k v) (2 * k + 2)=at0 xs (2 * k + 2):=by rw [D1 _ _ _ _ hk,if_neg @P]
 have e2:at0 (xs.set k v) (2 * k + 1)=at0 xs (2 * k + 1):=by rw [D1 _ _ _ _ hk,if_neg @P]
 unfold lsb;rw [YI,e1,e2]
theorem b5f:∀ ds h Q,a5X ds h Q->j2 4 a8S ds h Q:=by
 rintro ds h Q ⟨j,T,xs,rfl,e,h0,hb,dn,q⟩
 have hj:j < h.length:=(ZY.mp e).1;delta j2 a8S;show N;show B;show E;have ix0:atI (xs.map (hD T)) (0:Int)=some (hD T (at0 xs 0)):=T6 T xs 0 h0;simp only [F7 (p9 e),ix0,VV];show E;show B;refine ⟨j,T,xs,0,rfl,e,by right,?_⟩;show E;refine T7 (λ m δ h'=>∃ (k v:Nat) (ys:List Nat),m=xs.length - k/\δ=[some (.ref j),some (nD k),some (hD T v),some (nD (lsb (ltT T) ys k))]/\h'=h.set j (.lst (ys.map (hD T)))/\k < ys.length/\ys.length=xs.length/\(ys.set k v).Perm xs/\DnH (ltT T) (ys.set k v) k) (m:=xs.length) ⟨0,at0 xs 0,xs,rfl,rfl,(a3u e).symm,h0,rfl,?_,?_⟩ ?_
 ·rw [<- A8 h0,List.set_getElem_self]
 ·rw [<- A8 h0,List.set_getElem_self];exact dn
 ·rintro m δ h' N1 ⟨k,v,ys,rfl,rfl,rfl,hk,hl,pm,u⟩ hN1
  have ej:(h.set j (O.lst (ys.map (hD T))))[j]?=some (.lst (ys.map (hD T))):=ZH hj
  have fin:HP (ltT T) (ys.set k v)->N [some (.ref j),some (nD k),some (hD T v),some (nD (lsb (ltT T) ys k))] (h.set j (O.lst (ys.map (hD T)))):=by
   intro hp;subst hN;simp only [ej,List.length_map,N6 hk,a0X,List.set_set,VV];exact q _ pm hp
  have zm:at0 (ys.set k v) k=v:=by rw [D1 _ _ _ _ hk,if_pos rfl]
  have lb:=b5u (lt:=ltT T) (v:=v) hk;have hor:=b1p (lt:=ltT T) ys k;have done:=u.done (b2H T);have stp:=u.step (b2H T);rw [lb,zm] at done stp;generalize lsb (ltT T) ys k=b at *;have zb:at0 (ys.set k v) b=at0 ys b:=by rw [D1 _ _ _ _ hk,if_neg @P]
  rw [zb] at done stp;rw [YI] at done stp;simp only [B8 (p9 ej),List.length_map,VV]
  by_cases hb':b < ys.length
  ·have d0:decide ((b:Int) < (ys.length:Int))=true:=decide_eq_true @P;simp only [d0,F7 (p9 ej),T6 T ys _ hb',VV];refine ⟨_,_,_,_,_,_,rfl,?_⟩;have el:HT.lexLt [cst T (at0 ys b),((at0 ys b:Nat):Int)] [cst T v,(v:Int)]=ltT T (at0 ys b) v:=rfl;rw [el]
   cases c:ltT T (at0 ys b) v with
   |false =>
    show B;exact fin (done (.inr c))
   |true =>
    have sw:Z3 (ys.set k v) k b=(ys.set k (at0 ys b)).set b v:=by unfold Z3;rw [zm,zb,YG]
    have pm2:=(a1B (zs:=ys.set k v) (k:=k) (j:=b) (by simpa using hk) (by simpa using hb') @P).trans pm;have u2:=stp hb' c;rw [sw] at pm2 u2;show B
    (try dsimp only);refine G8 λ N2 hN2=>?_;simp only [F7 (p9 ej),T6 T ys _ hb',ej,List.length_map,N6 hk,a0X,List.set_set,VV];subst hN2
    (try dsimp only);refine G8 λ N2 hN2=>?_;show B;subst hN2;show B;refine ⟨j,T,ys.set k (at0 ys b),b,rfl,ZH hj,by right,?_⟩;exact hN1 (xs.length - b) _ _ @P ⟨b,v,_,rfl,rfl,rfl,by simpa using hb',by simpa using hl,pm2,u2⟩
  ·have d0:decide ((b:Int) < (ys.length:Int))=false:=decide_eq_false @P;simp only [d0,VV];exact fin (done (.inl @P))
theorem b8u{f:Addr}{fd:FuncData}(F:Fun K "sink" "sink" b1o f fd)(T:Txt P w K mg)(C_q35:Cal P w K mg base 2 "lesser_below" ["heap","k"] (spD K 2 a3T))(C_q33:Cal P w K mg base 1 "is_ahead" ["one","other"] (spD K 2 X8)):n8 P w K mg base CX0 3 f fd ["heap"] (spD K 1 a5X) :=
 m9 (k:=2) (b:=a8S) F sc_q40 (λ cdv A outer s H E hr=>by
  show C
  ·exact j4 (i:=1) sc_q40.nd rfl @E b9
  show C
  ·exact j4 (i:=2) sc_q40.nd rfl @E (d8 c9 (sv 0) b9)
  show C
  ·exact j4 (i:=3) sc_q40.nd rfl @E (j1 C_q35 @A rfl @AW)
  refine c8 ?_ (d9 (a0I (sv 2) (N5 (sv 0) (sv 1))));refine a0s PassesOwn.never ?_ ?_
  ·exact X0 (V2 (j6 J6 (sv 3) @Aw) (N4 (y6 (j1 C_q33 @A rfl (b6 (d8 c9 (sv 0) (sv 3)) (b6 (sv 2) c7))))))
  refine c8 (a0I (d8 c9 (sv 0) (sv 3)) (N5 (sv 0) (sv 1))) ?_;show C
  ·exact j4 (i:=1) sc_q40.nd rfl @E (sv 3)
  show M;exact j4 (i:=3) sc_q40.nd rfl @E (j1 C_q35 @A rfl (b6 (sv 0) (b6 (sv 1) c7)))) b5f
def b0L:DS:=(i6 (y8 (C0 @AB (b7 (v7 (b7 (b8 1) (b7 (dUn (p5 "Queue" "puts") (b8 0)) (b7 (b8 2) f9)))) f9)))
  (i6 (b6j "Queue" "puts" (b8 0) @F (pI0 λ i j=>i + j))
  (y8 (o7 a6m (b7 @AB f9)))))
def a8V:DSp:=λ ds h Q=>∃ (i j:Nat) (c:Int) (t:D) (T:Tb) (hs:List Nat),ds=[.ref i,.int c,t]/\h[i]?=some (qO j T.length)/\h[j]?=some (.lst (hs.map (hD T)))/\(∀ n ∈ hs,n < T.length)/\HP (ltT T) hs/\hs.length < 10000000 /\
 ∀ hs',hs'.Perm (hs ++ [T.length])->HP (ltT (T ++ [(c,t)])) hs'->Q .non ((h.set i (qO j (T.length + 1))).set j (.lst (hs'.map (hD (T ++ [(c,t)])))))
theorem b7m:∀ ds h Q,a8V ds h Q->j2 3 b0L ds h Q:=by
 rintro ds h Q ⟨i,j,c,t,T,hs,rfl,ei,ej,hl,hp,hb,q⟩
 have hi:i < h.length:=(ZY.mp ei).1;have hj:j < h.length:=(ZY.mp ej).1;have ne:i ≠ j:=λ z=>by subst z;rw [ei] at ej;cases ej
 have en:hs.map (hD T) ++ [.tup [.int c,nD T.length,t]]=(hs ++ [T.length]).map (hD (T ++ [(c,t)])):=by
  rw [Zz,b7z hl,List.map_singleton,b7X]
 delta j2 b0L;show N;simp only [K7 ei,b8z ei,ej,List.length_map,VV0];refine ⟨by right,?_⟩;rw [en];show E;have ei2:(h.set j (O.lst ((hs ++ [T.length]).map (hD (T ++ [(c,t)])))))[i]?=some (qO j T.length):=by rw [Zx (Ne.symm ne)];exact ei
 have ei3:=t8 ei2;have lk:([(Str.ofString "heap",D.ref j),(Str.ofString "puts",nD T.length)]:List (Str×D)).lookup (Str.ofString "puts")=some (nD T.length):=rfl;have ei4:(h.set j (O.lst ((hs ++ [T.length]).map (hD (T ++ [(c,t)])))))[i]?=some (.ins "Queue" [("heap",.ref j),("puts",nD T.length)]):=ei2
 have pa:putA (Str.ofString "puts") (nD (T.length + 1)) [(Str.ofString "heap",D.ref j),(Str.ofString "puts",nD T.length)]=[(Str.ofString "heap",D.ref j),(Str.ofString "puts",nD (T.length + 1))]:=by
  show (if _ then _ else _ :: (if _ then _ else _))=_;rw [if_neg (by decide +kernel),if_pos rfl]
 simp only [ei3,lk,ei4,VV];refine ⟨⟨trivial,by simp⟩,?_⟩;rw [show (T.length:Int) + 1=((T.length + 1:Nat):Int) by right,pa];subst hN;have e5:((h.set j (O.lst ((hs ++ [T.length]).map (hD (T ++ [(c,t)]))))).set i (.ins "Queue" [("heap",.ref j),("puts",nD (T.length + 1))]))[i]?=some (qO j (T.length + 1)):=ZH (by simpa using hi);simp only [K7 e5,VV0];refine ⟨j,T ++ [(c,t)],hs ++ [T.length],rfl,?_,by simp,by simp;omega,?_,λ zs p hz=>?_⟩
 ·rw [Zx ne,ZH hj]
 ·rw [show (hs ++ [T.length]).length - 1=hs.length by simp];exact (hp.app hl).up _
 ·rw [List.set_comm _ _ (Ne.symm ne),YG];exact q zs p hz
theorem c1K{f:Addr}{fd:FuncData}(F:Fun K "put" "Queue.put" a2j f fd)(T:Txt P w K mg)(C_q37:Cal P w K mg base 2 "rise" ["heap"] (spD K 1 a6m)):n8 P w K mg base CX0 3 f fd ["self","cost","thing"] (spD K 3 a8V) :=
 m9 (k:=2) (b:=b0L) F c0p (λ cdv A outer s H E hr=>by
  show C
  ·refine t7 ?_;exact y9 (m8 T.f_heap (sv 0)) (b6 (l9 (b6 (sv 1) (b6 (m8 T.f_puts (sv 0)) (b6 (sv 2) c7)))) c7)
  refine c8 (b0E T.f_puts (sv 0) b9 b4F) ?_;exact d9 (t7 (j1 C_q37 @A rfl (b6 (m8 T.f_heap (sv 0)) c7)))) b7m
def b1c:DS:=(i6 (x0 (o9 (dOp @AF (dCB Z9 (b7 @AB f9)) @H)) (p8 @AA) p7)
  (i6 (k8 (dOp pIx @AB @H) (f8 1))
  (i6 (k8 (c1h @AB) (f8 2))
  (i6 (x0 (o9 (dOp pGt (dCB Z9 (b7 @AB f9)) @H)) (i6 (k8 (b8 2) (a0x @AB @H))
  (y8 (o7 a5X (b7 @AB f9)))) p7)
  (p8 (v7 (b7 (dOp pIx (b8 1) @H) (b7 (dOp pIx (b8 1) @R) f9))))))))
def a3A:DSp:=λ ds h Q=>∃ (i j n:Nat) (T:Tb) (hs:List Nat),ds=[.ref i]/\h[i]?=some (qO j n)/\h[j]?=some (.lst (hs.map (hD T)))/\HP (ltT T) hs/\hs.length <= 10000000 /\
 (hs=[]->Q .non h)/\(0 < hs.length->∀ hs',(at0 hs 0 :: hs').Perm hs->HP (ltT T) hs'->Q (sD T (at0 hs 0)) (h.set j (.lst (hs'.map (hD T)))))
theorem b6K:∀ ds h Q,a3A ds h Q->j2 3 b1c ds h Q:=by
 rintro ds h Q ⟨i,j,n,T,hs,rfl,ei,ej,hp,hb,q0,q1⟩
 have hi:i < h.length:=(ZY.mp ei).1;have hj:j < h.length:=(ZY.mp ej).1;have ne:i ≠ j:=λ z=>by subst z;rw [ei] at ej;cases ej
 delta j2 b1c;show N;simp only [K7 ei,B8 (p9 ej),List.length_map,VV0]
 by_cases h0:hs=[]
 ·have d0:((hs.length:Int) == 0)=true:=by rw [h0];rfl
  simp only [d0,VV];exact q0 h0
 ·have hl:0 < hs.length:=List.length_pos_iff.mpr h0;have d0:((hs.length:Int) == 0)=false:=beq_eq_false_iff_ne.mpr @P;have q1:=q1 hl;simp only [d0,VV];show E;have ix0:atI (hs.map (hD T)) (0:Int)=some (hD T (at0 hs 0)):=T6 T hs 0 hl;simp only [K7 ei,F7 (p9 ej),ix0,VV0];show E
  have lst:(hs.map (hD T))[(hs.map (hD T)).length - 1]?=some (hD T (at0 hs (hs.length - 1))):=by
   rw [ZS,ZP,ZZ (show hs.length - 1 < hs.length by right),A8];rfl
  simp only [K7 ei,ej,lst,VV0];rw [<- List.map_dropLast];have ei2:(h.set j (O.lst (hs.dropLast.map (hD T))))[i]?=some (qO j n):=by rw [Zx (Ne.symm ne)];exact ei
  have ej2:(h.set j (O.lst (hs.dropLast.map (hD T))))[j]?=some (.lst (hs.dropLast.map (hD T))):=ZH hj;show E;simp only [K7 ei2,B8 (p9 ej2),List.length_map,List.length_dropLast,VV0]
  by_cases h1:1 < hs.length
  ·have d1:decide ((0:Int) < ((hs.length - 1:Nat):Int))=true:=decide_eq_true @P;show Ad
   (try dsimp only);refine G8 λ N2 hN2=>?_;have hd0:0 < hs.dropLast.length:=by rw [List.length_dropLast];omega
   have i0:=N6 hd0;rw [List.length_dropLast] at i0;have i0:ixN (hs.length - 1) (0:Int)=some 0:=i0;simp only [K7 ei2,ej2,List.length_map,List.length_dropLast,i0,a0X,List.set_set,VV0];have ei3:(h.set j (O.lst ((hs.dropLast.set 0 (at0 hs (hs.length - 1))).map (hD T))))[i]?=some (qO j n):=by rw [Zx (Ne.symm ne)];exact ei
   subst hN2;simp only [K7 ei3,VV0];refine ⟨j,T,_,rfl,ZH hj,by simp;omega,by simp;omega,hp.dn _ h1,λ zs p hz=>?_⟩;rw [YG];subst hN;show B;refine q1 zs ?_ hz
   obtain ⟨x,r,v,rfl⟩:∃ x r v,hs=x :: r ++ [v]:=by
    cases hs with
    |nil=>exact absurd rfl h0
    |cons x r =>
     have:r ≠ []:=by intro z;subst z;simp at h1
     exact ⟨x,r.dropLast,r.getLast this,by rw [List.cons_append,List.dropLast_concat_getLast]⟩
   have ev:at0 (x :: r ++ [v]) ((x :: r ++ [v]).length - 1)=v:=by
    unfold at0;rw [ZQ]
    simp
   rw [ev] at p;exact a6J p
  ·have d1:decide ((0:Int) < ((hs.length - 1:Nat):Int))=false:=decide_eq_false @P;show Ad;subst hN;show B;obtain ⟨x,rfl⟩:=List.length_eq_one_iff.mp (show hs.length=1 by right);exact q1 [] (.refl _) λ i _ h=>absurd h (Nat.not_lt_zero _)
theorem c0x{f:Addr}{fd:FuncData}(F:Fun K "take" "Queue.take" a2v f fd)(T:Txt P w K mg)(C_q40:Cal P w K mg base 3 "sink" ["heap"] (spD K 1 a5X)):n8 P w K mg base CX0 4 f fd ["self"] (spD K 1 a3A) :=
 m9 (k:=3) (b:=b1c) F sc_q5 (λ cdv A outer s H E hr=>by
  show C
  ·show Am;exact j6 @Az (s9 F3 rfl T.b_len PySem.boot_len (b6 (m8 T.f_heap (sv 0)) c7)) b9
  show C
  ·exact j4 (i:=1) sc_q5.nd rfl @E (d8 c9 (m8 T.f_heap (sv 0)) b9)
  show C
  ·exact j4 (i:=2) sc_q5.nd rfl @E (b8n (m8 T.f_heap (sv 0)))
  show C
  ·refine y1 ?_ ?_ m5
   ·exact j6 a9c (s9 F3 rfl T.b_len PySem.boot_len (b6 (m8 T.f_heap (sv 0)) c7)) b9
   refine c8 (a0I (sv 2) (N5 (m8 T.f_heap (sv 0)) b9)) ?_;exact d9 (t7 (j1 C_q40 @A rfl (b6 (m8 T.f_heap (sv 0)) c7)))
  show L;refine l9 (n:=2) ?_;exact b6 @Ah (b6 @Ah c7)) b6K
def b1g:DS:=(i6 (K8 "Offers" "queue" (b8 0) (a1x "Queue" b1b f9))
  (K8 "Offers" "least" (b8 0) a1g))
def a8N:DSp:=λ ds h Q=>∃ i,ds=[.ref i]/\h[i]?=some (.ins "Offers" [])/\Q .non (h.set i (.ins "Offers" [("queue",.ref h.length),("least",.ref (h.length + 2))]) ++ [qO (h.length + 1) 0,.lst [],.dT none []])
theorem b8N:∀ ds h Q,a8N ds h Q->j2 1 b1g ds h Q:=by
 rintro ds h Q ⟨i,rfl,e,q⟩
 have hi:i < h.length:=(ZY.mp e).1;delta j2 b1g;show N;show B;refine ⟨h.length,rfl,v6 _ _,rfl,?_⟩
 have e1:((h ++ [O.ins "Queue" []]).set h.length (qO (h ++ [O.ins "Queue" []]).length 0) ++ [O.lst []])=h ++ [qO (h.length + 1) 0,.lst []]:=by
  rw [Zn _ _ @G,YV,ZW,ZL];show (h ++ [qO (h.length + 1) 0]) ++ [O.lst []]=_;rw [Zt];rfl
 rw [e1];have e2:(h ++ [qO (h.length + 1) 0,.lst []])[i]?=some (.ins "Offers" []):=by rw [ZN hi];exact e
 simp only [e2,VV];refine ⟨⟨trivial,by decide⟩,?_⟩;subst hN;rw [List.set_append_left _ _ hi]
 have e3:(h.set i (O.ins "Offers" (putA "queue" (.ref h.length) [])) ++ [qO (h.length + 1) 0,.lst []] ++ [O.dT none []])[i]?=some (.ins "Offers" (putA "queue" (.ref h.length) [])):=by
  rw [ZN (by simp;omega),ZN (by simpa using hi),ZH hi]
 have l3:(h.set i (O.ins "Offers" (putA "queue" (.ref h.length) [])) ++ [qO (h.length + 1) 0,O.lst []]).length=h.length + 2:=by simp
 simp only [e3,l3,VV];refine ⟨⟨trivial,show 1 < 1000 by decide⟩,?_⟩;rw [Zt,List.set_append_left _ _ (by simpa using hi),YG];exact q
theorem c0P{f:Addr}{fd:FuncData}(F:Fun K "__init__" "Offers.__init__" a2u f fd)(T:Txt P w K mg)(M_Queue:X5 P w K mg base 1 "Queue" ["self"] (spD K 1 b1b)):n8 P w K mg base CX0 3 f fd ["self"] (spD K 1 a8N) :=
 m9 (k:=2) (b:=b1g) F c1m (λ cdv A outer s H E hr=>by
  exact c8 (O3 T.f_queue (sv 0) (a4b M_Queue @A rfl))     (d9 (O3 T.f_least (sv 0) N0))) b8N
def b1a:DS:=(i6 (K8 "Search" "chart" (b8 0) (b8 1))
  (i6 (K8 "Search" "offers" (b8 0) (a1x "Offers" a8N f9))
  (i6 (K8 "Search" "rows" (b8 0) (dTk f9))
  (i6 (K8 "Search" "found" (b8 0) a1g)
  (i6 (K8 "Search" "calls" (b8 0) a1g)
  (K8 "Search" "ends" (b8 0) a1g))))))
def b0U:DSp:=λ ds h Q=>∃ i C,ds=[.ref i,cD C]/\h[i]?=some (.ins "Search" [])/\Q .non (h.set i (.ins "Search" [("chart",cD C),("offers",.ref h.length),("rows",.ref (h.length + 4)),("found",.ref (h.length + 5)),("calls",.ref (h.length + 6)),("ends",.ref (h.length + 7))]) ++ [.ins "Offers" [("queue",.ref (h.length + 1)),("least",.ref (h.length + 3))],qO (h.length + 2) 0,.lst [],.dT none [],.lst [],.dT none [],.dT none [],.dT none []])
theorem b7T:∀ ds h Q,b0U ds h Q->j2 2 b1a ds h Q:=by
 rintro ds h Q ⟨i,C,rfl,e,q⟩
 have hi:i < h.length:=(ZY.mp e).1;have gs:∀ (o:O) (l:Hh),(h.set i o ++ l)[i]?=some o:=λ o l=>by rw [ZN (by simpa using hi),ZH hi]
 have st:∀ (o o':O) (l:Hh),(h.set i o ++ l).set i o'=h.set i o' ++ l:=λ o o' l=>by rw [List.set_append_left _ _ (by simpa using hi),YG]
 have ln:∀ (o:O) (l:Hh),(h.set i o ++ l).length=h.length + l.length:=λ o l=>by rw [ZW,YI]
 have sk:∀ (o x:O) (l:Hh),h.set i o ++ l ++ [x]=h.set i o ++ (l ++ [x]):=λ o x l=>Zt ..;delta j2 b1a;show N;simp only [e,VV];refine ⟨⟨trivial,by decide⟩,?_⟩;show E;show B;have a0:∀ o:O,h.set i o=h.set i o ++ []:=λ o=>(Zr _).symm;rw [a0,sk,ln];refine ⟨h.length,rfl,?_,rfl,?_⟩
 ·rw [ZA @N,YI,YV];rfl
 have e1:∀ (o:O),((h.set i o ++ ([] ++ [O.ins "Offers" []])).set h.length (O.ins "Offers" [("queue",.ref (h.set i o ++ ([] ++ [O.ins "Offers" []])).length),("least",.ref ((h.set i o ++ ([] ++ [O.ins "Offers" []])).length + 2))]) ++ [qO ((h.set i o ++ ([] ++ [O.ins "Offers" []])).length + 1) 0,.lst [],.dT none []])=h.set i o ++ [.ins "Offers" [("queue",.ref (h.length + 1)),("least",.ref (h.length + 3))],qO (h.length + 2) 0,.lst [],.dT none []]:=λ o=>by
  rw [Zn _ _ @N,YI,YV,ln,Zt];rfl
 rw [e1];simp only [gs,VV];refine ⟨⟨trivial,show 1 < 1000 by decide⟩,?_⟩;rw [st];show E;simp only [sk,gs,ln,st,VV];refine ⟨⟨trivial,show 2 < 1000 by decide⟩,?_⟩;show E;simp only [sk,gs,ln,st,VV];refine ⟨⟨trivial,show 3 < 1000 by decide⟩,?_⟩;show E;simp only [sk,gs,ln,st,VV];refine ⟨⟨trivial,show 4 < 1000 by decide⟩,?_⟩;subst hN;simp only [sk,gs,ln,st,VV];refine ⟨⟨trivial,show 5 < 1000 by decide⟩,?_⟩;exact q
theorem c0n{f:Addr}{fd:FuncData}(F:Fun K "__init__" "Search.__init__" a2R f fd)(T:Txt P w K mg)(M_Offers:X5 P w K mg base 3 "Offers" ["self"] (spD K 1 a8N)):n8 P w K mg base CX0 5 f fd ["self","chart"] (spD K 2 b0U) :=
 m9 (k:=4) (b:=b1a) F c1g (λ cdv A outer s H E hr=>by
  refine c8 (O3 T.f_chart (sv 0) (sv 1)) ?_;refine c8 (O3 T.f_offers (sv 0) (a4b M_Offers @A rfl)) ?_;refine c8 (O3 T.f_rows (sv 0) (a4P (F4 c7))) ?_;refine c8 (O3 T.f_found (sv 0) N0) ?_;exact c8 (O3 T.f_calls (sv 0) N0)     (d9 (O3 T.f_ends (sv 0) N0))) b7T
def a8T:DS:=(x0 (dOr (o9 (dOp (b9z true) (b8 2) (dUn (p5 "Offers" "least") (b8 0)))) (o9 (dOp a1n (b8 1) (a9F (dUn (p5 "Offers" "least") (b8 0)) (b8 2))))) (i6 (a1U (dUn (p5 "Offers" "least") (b8 0)) (b8 2) (b8 1))
  (y8 (B2 "Queue" "put" a8V (dUn (p5 "Offers" "queue") (b8 0)) (b7 (b8 1) (b7 (v7 (b7 (b8 2) @At)) f9))))) p7)
def a2K:DSp:=λ ds h Q=>∃ (h0:Hh) (C:f7) (zr:N9) (s:Se) (c:Nat) (k:Ky) (r:Row),ds=[.ref (h0.length + 1),nD c,tkD k.t,rD r]/\At h0 C zr s h/\s.L.length < 16777216/\s.pd.length < 10000000/\(∀ n ∈ s.pd,n < s.T.length)/\∀ h',At h0 C zr (offer s (c,k,r)) h'->Q .non h'
theorem b8Y:∀ ds h Q,a2K ds h Q->j2 4 a8T ds h Q:=by
 rintro ds h Q ⟨h0,C,zr,s,c,k,r,rfl,a,hL,hP,hl,q⟩
 delta j2 a8T;simp only [VS]
 (try dsimp only);refine u6 λ A1 B1 hA hB=>?_
 have put:¬ met s.L (k.t,c)=true->A1 [some (.ref (h0.length + 1)),some (nD c),some (tkD k.t),some (rD r)] h:=by
  intro nm;have eo:offer s (c,k,r)={ s with T:=s.T ++ [(c,k,r)],pd:=s.pd ++ [s.T.length],L:=y3 s.L k.t c }:=if_neg nm;subst hA;left;simp only [V4 a.of,VV0];refine N7 a.least hL ?_;obtain ⟨hs,rfl,pm,hp,dc,de⟩:=a.ex;rw [B4];have g:∀ (j:Nat) (o:O),(stH h0.length C { s with L:=y3 s.L k.t c } hs zr.kc zr.ke ++ z7 zr.y)[j]?=some o->(h0 ++ (stH h0.length C { s with L:=y3 s.L k.t c } hs zr.kc zr.ke ++ z7 zr.y))[h0.length + j]?=some o:=λ j o e=>by rw [w9];exact e
  have e1:=g 1 _ rfl;have e2:=g 2 _ rfl;have e3:=g 3 _ rfl;subst hN;have ee:(stH h0.length C s hs zr.kc zr.ke ++ z7 zr.y).set 4 (.dT none (tbD (y3 s.L k.t c)))=stH h0.length C { s with L:=y3 s.L k.t c } hs zr.kc zr.ke ++ z7 zr.y:=rfl;rw [ee];simp only [V1 e1,VV3];refine ⟨b5R e2 rfl,h0.length + 2,h0.length + 3,c,.tup [tkD k.t,rD r],U6 s.T,hs,rfl,by rw [U0];exact e2,e3,λ n hn=>by rw [U0];exact hl n (pm.mem_iff.mp hn),hp,by rw [pm.length_eq];exact hP,λ hs' p hz=>?_⟩;rw [B4,B4];refine q _ ⟨hs',?_,?_,?_,?_,?_⟩
  ·rw [eo,U0];show h0 ++ (stH h0.length C { s with L:=y3 s.L k.t c } hs zr.kc zr.ke ++ z7 zr.y |>.set 2 _ |>.set 3 _)=h0 ++ (stH h0.length C _ hs' zr.kc zr.ke ++ z7 zr.y);unfold stH;rw [a3v,ZW];rfl
  ·rw [eo];rw [U0] at p;exact p.trans (pm.append_right _)
  ·rw [eo];show HP (ltT (U6 (s.T ++ [(c,k,r)]))) hs';rw [a3v];exact hz
  ·rw [eo];exact dc
  ·rw [eo];exact de
 have stay:met s.L (k.t,c)=true->B1 [some (.ref (h0.length + 1)),some (nD c),some (tkD k.t),some (rD r)] h:=by
  intro m;subst hB;have eo:offer s (c,k,r)=s:=if_pos m;show B;exact q _ (by rw [eo];exact a)
 simp only [V4 a.of,VV0];refine P4 a.least ?_
 cases e:look s.L k.t with
 |none =>
  refine put ?_;unfold met;rw [e];exact ZR
 |some c' =>
  refine a0v (P4 a.least ?_);rw [e];refine ⟨_,rfl,?_⟩
  by_cases z:c < c'
  ·have d1:decide ((c:Int) < (c':Int))=true:=decide_eq_true (Int.ofNat_lt.mpr z);show Ad;refine put ?_;rw [met_iff]
   rintro ⟨c2,e2,h2⟩
   have e2:look s.L k.t=some c2:=e2;rw [e] at e2;cases e2;have h2:c' <= c:=h2;omega
  ·have d1:decide ((c:Int) < (c':Int))=false:=decide_eq_false @P;show Ad;exact stay (met_iff.mpr ⟨c',e,by right⟩)
theorem c1E{f:Addr}{fd:FuncData}(F:Fun K "offer" "Offers.offer" a2o f fd)(T:Txt P w K mg)(C_q4:C5 P w K mg base 3 "Queue" "put" ["self","cost","thing"] (spD K 3 a8V)):n8 P w K mg base CX0 4 f fd ["self","cost","key","row"] (spD K 4 a2K) :=
 m9 (k:=3) (b:=a8T) F b9Z (λ cdv A outer s H E hr=>by
  show M;refine y1 ?_ ?_ m5
  ·exact X0 (R8 (j6 (b4S hr.units) (sv 2) (m8 T.f_least (sv 0)) rfl) (P7 (j6 J6 (sv 1) (a5i hr.units (m8 T.f_least (sv 0)) (sv 2)))))
  refine c8 (a1f hr.units (m8 T.f_least (sv 0)) (sv 2) (sv 1)) ?_;show M;refine t7 ?_;exact B9 C_q4 @A (m8 T.f_queue (sv 0)) (b6 (sv 1) (b6 (l9 (b6 (sv 2) @Au)) c7))) b8Y
def b0r:DS:=(i6 (k8 (B2 "Queue" "take" a3A (dUn (p5 "Offers" "queue") (b8 0)) f9) (f8 1))
  (i6 (W3 (a4j (o9 (dOp (pIs true) (b8 1) @AA)) (o9 (dOp (pEq true) (dOp pIx (b8 1) @H) (a9F (dUn (p5 "Offers" "least") (b8 0)) (dOp pIx (dOp pIx (b8 1) @F) @H))))) (k8 (B2 "Queue" "take" a3A (dUn (p5 "Offers" "queue") (b8 0)) f9) (f8 1)))
  (p8 (dIf (o9 (dOp (pIs false) (b8 1) @AA)) @AA (v7 (b7 (dOp pIx (b8 1) @H) (b7 (dOp pIx (dOp pIx (b8 1) @F) @H) (b7 (dOp pIx (dOp pIx (b8 1) @F) @F) f9))))))))
theorem b2u{h0 h:Hh}{C:f7}{zr:N9}{s:Se}{Q:DK}(wf:WF C)(a:At h0 C zr s h)(m:Mid C s)(q0:s.pd=[]->Q .non h)
  (q1:∀ (n:Nat) (x:Of) (h':Hh),n ∈ s.pd->s.T[n]?=some x->(∀ k ∈ s.pd,∀ y:Of,s.T[k]?=some y->x.1 <= y.1)->At h0 C zr (y0 s n) h'->Q (.tup [nD x.1,.tup [tkD x.2.1.t,rD x.2.2]]) h'):a3A [.ref (h0.length + 2)] h Q:=by
 obtain ⟨hs,rfl,pm,hp,dc,de⟩:=a.ex;refine ⟨h0.length + 2,h0.length + 3,s.T.length,U6 s.T,hs,rfl,by rw [w9];rfl,by rw [w9];rfl,hp,by rw [pm.length_eq];have:=m.Pfew wf;omega,λ z=>q0 ?_,λ hl hs' p hz=>?_⟩
 ·rw [z] at pm;exact List.nil_perm.mp pm
 ·have hn:at0 hs 0 ∈ s.pd:=pm.mem_iff.mp (a2l hl);have hlt:=m.pl _ hn;have ex:s.T[at0 hs 0]?=some s.T[at0 hs 0]:=ZZ hlt;have es:sD (U6 s.T) (at0 hs 0) = .tup [nD s.T[at0 hs 0].1,.tup [tkD s.T[at0 hs 0].2.1.t,rD s.T[at0 hs 0].2.2]]:=by unfold sD;rw [a2V ex,b3Z ex]
  rw [es,B4];refine q1 (at0 hs 0) _ _ hn ex (λ k hk y' ey=>?_) ⟨hs',rfl,?_,hz,dc,de⟩
  ·obtain ⟨i,hi,e⟩:=List.getElem_of_mem (pm.mem_iff.mpr hk);have r:=hp.root (b2H _) i hi;rw [<- A8 hi,e,a0r,a2V ey,a2V ex] at r;omega
  ·have:=(p.trans pm).erase (at0 hs 0)
   rw [List.erase_cons_head] at this;exact this
def a6K:DSp:=λ ds h Q=>∃ (h0:Hh) (C:f7) (zr:N9) (s:Se),ds=[.ref (h0.length + 1)]/\WF C/\At h0 C zr s h/\Full C s/\(∀ s' h',Full C s'->s'.I=s.I->s'.pd=[]->At h0 C zr s' h'->Q .non h') /\
 (∀ (s':Se) (n:Nat) (x:Of) (h':Hh),Full C s'->s'.I=s.I->n ∈ s'.pd->s'.T[n]?=some x->look s'.L x.2.1.t=some x.1->(∀ k ∈ s'.pd,∀ y:Of,s'.T[k]?=some y->x.1 <= y.1)->At h0 C zr (y0 s' n) h'->Q (.tup [nD x.1,tkD x.2.1.t,rD x.2.2]) h')
theorem b8S:∀ ds h Q,a6K ds h Q->j2 2 b0r ds h Q:=by
 rintro ds h Q ⟨h0,C,zr,s,rfl,wf,a,fu,q0,q1⟩
 have tk:∀ (s':Se) (h':Hh) (K:DK),At h0 C zr s' h'->Full C s'->(s'.pd=[]->K .non h')->(∀ (n:Nat) (x:Of) (h':Hh),n ∈ s'.pd->s'.T[n]?=some x->(∀ k ∈ s'.pd,∀ y:Of,s'.T[k]?=some y->x.1 <= y.1)->At h0 C zr (y0 s' n) h'->K (.tup [nD x.1,.tup [tkD x.2.1.t,rD x.2.2]]) h')->a2I "Queue" "take" h' (.ref (h0.length + 2))/\a3A [.ref (h0.length + 2)] h' K:=λ s' h' K a' f' k0 k1=>by
  refine ⟨?_,b2u wf a' f'.mid k0 k1⟩;obtain ⟨hs,rfl,_⟩:=a'.ex;exact b5R (j:=h0.length + 3) (n:=s'.T.length) (by rw [w9];rfl) rfl
 delta j2 b0r;show N;simp only [V1 a.of,VV3]
 have main:∀ m δ h',(((∃ s',Full C s'/\s'.I=s.I/\s'.pd=[]/\δ=[some (.ref (h0.length + 1)),some .non]/\At h0 C zr s' h')\/(∃ (s':Se) (n:Nat) (x:Of),Full C s'/\s'.I=s.I/\m=s'.pd.length/\n ∈ s'.pd/\s'.T[n]?=some x/\(∀ k ∈ s'.pd,∀ y:Of,s'.T[k]?=some y->x.1 <= y.1)/\δ=[some (.ref (h0.length + 1)),some (.tup [nD x.1,.tup [tkD x.2.1.t,rD x.2.2]])]/\At h0 C zr (y0 s' n) h')))->N δ h':=by
  subst hN;intro m0 δ0 h1 p0;left;refine T7 (λ m δ h'=>(∃ s',Full C s'/\s'.I=s.I/\s'.pd=[]/\δ=[some (.ref (h0.length + 1)),some .non]/\At h0 C zr s' h')\/(∃ (s':Se) (n:Nat) (x:Of),Full C s'/\s'.I=s.I/\m=s'.pd.length/\n ∈ s'.pd/\s'.T[n]?=some x/\(∀ k ∈ s'.pd,∀ y:Of,s'.T[k]?=some y->x.1 <= y.1)/\δ=[some (.ref (h0.length + 1)),some (.tup [nD x.1,.tup [tkD x.2.1.t,rD x.2.2]])]/\At h0 C zr (y0 s' n) h')) (m:=m0) p0 ?_
  rintro m δ h' N1 (⟨s',f',eI,pd,rfl,a'⟩ | ⟨s',n,x,f',eI,rfl,hn,ex,mn,rfl,a'⟩) hN1
  ·show B;subst hN;show B;exact q0 s' h' f' eI pd a'
  ·obtain ⟨c',e1,e2⟩:=f'.mid.tt n x ex;simp only [V4 a'.of,VV3];refine P4 a'.least ?_;rw [show look (y0 s' n).L x.2.1.t=some c' from e1];refine ⟨_,rfl,?_⟩
   by_cases z:x.1=c'
   ·have d1:((x.1:Int) == (c':Int))=true:=by rw [z];exact beq_self_eq_true _
    show Ad;subst hN;show B;exact q1 s' n x h' f' eI hn ex (by rw [z];exact e1) mn a'
   ·have d1:((x.1:Int) == (c':Int))=false:=beq_eq_false_iff_ne.mpr @P;simp only [d1,V1 a'.of,VV3];have f2:=a4O f' ex (λ w=>z (Option.some.inj (w.symm.trans e1)))
    have l2:(y0 s' n).pd.length + 1=s'.pd.length:=by
     show (s'.pd.erase n).length + 1=_;rw [List.length_erase_of_mem hn]
     have:=List.length_pos_of_mem hn
     omega
    refine tk (y0 s' n) h' _ a' f2 (λ w=>?_) λ n2 x2 h2 hn2 ex2 mn2 a2=>?_
    ·exact hN1 0 _ _ @P (.inl ⟨y0 s' n,f2,eI,w,rfl,a'⟩)
    ·exact hN1 (y0 s' n).pd.length _ _ @P (.inr ⟨y0 s' n,n2,x2,f2,eI,rfl,hn2,ex2,mn2,rfl,a2⟩)
 exact tk s h _ a fu (λ w=>main 0 _ _ (.inl ⟨s,fu,rfl,w,rfl,a⟩)) λ n x h' hn ex mn a'=>main s.pd.length _ _ (.inr ⟨s,n,x,fu,rfl,rfl,hn,ex,mn,rfl,a'⟩)
theorem c1w{f:Addr}{fd:FuncData}(F:Fun K "settled" "Offers.settled" a2H f fd)(T:Txt P w K mg)(C_q5:C5 P w K mg base 4 "Queue" "take" ["self"] (spD K 1 a3A)):n8 P w K mg base CX0 5 f fd ["self"] (spD K 1 a6K) :=
 m9 (k:=4) (b:=b0r) F sc_q2 (λ cdv A outer s H E hr=>by
  show C
  ·exact j4 (i:=1) sc_q2.nd rfl @E (L8 C_q5 @A (m8 T.f_queue (sv 0)))
  show C
  ·refine a0s PassesOwn.never ?_ ?_
   ·exact X0 (V2 (j6 a0R (sv 1) n5) (N4 (j6 (Y0 hr.units) @Ah (a5i hr.units (m8 T.f_least (sv 0)) (d8 c9 @Ah b9)))))
   show M;exact j4 (i:=1) sc_q2.nd rfl @E (L8 C_q5 @A (m8 T.f_queue (sv 0)))
  show L;exact a0z (j6 M6 (sv 1) n5) n5 (l9 (b6 @Ah (b6 (d8 c9 @Ah b9) (b6 (d8 c9 @Ah b9) c7))))) b8S
def b0T:DS:=(Q1 (a4k (b7 (dUn (p5 "Search" "chart") (b8 0)) f9)) (a6D 2 (A7 (f8 1) (A7 (f8 2) a0Z))) (Q1 (u9 (b7 (dOp pIx (b8 2) @F) f9)) (f8 3) (y8 (B2 "Offers" "offer" a2K (dUn (p5 "Search" "offers") (b8 0)) (b7 @H (b7 (v7 (b7 (b8 1) (b7 (b8 3) (b7 @H @At)))) (b7 (v7 (b7 (dC (.str "begin")) (b7 (b8 1) @At))) f9)))))))
def b0A:DSp:=λ ds h Q=>∃ (h0:Hh) (C:f7) (zr:N9),ds=[.ref h0.length]/\WF C/\At h0 C zr se0 h/\∀ h',At h0 C zr (offs se0 (a7a C)) h'->Q .non h'
theorem b9n:∀ ds h Q,b0A ds h Q->j2 4 b0T ds h Q:=by
 rintro ds h Q ⟨h0,C,zr,rfl,wf,a,q⟩
 delta j2 b0T;simp only [VS];simp only [V6 a.se,cD,VV0];rw [a1w];refine u0 (λ p δ h'=>(∃ x1 x2 x3,δ=[some (.ref h0.length),x1,x2,x3])/\At h0 C zr (offs se0 (p.flatMap a0P)) h') ⟨⟨_,_,_,rfl⟩,a⟩ (λ _ _ _ _=>Src.ok_nil) ?_ ?_
 ·rintro p x r δ h' N1 e ⟨⟨_,_,_,rfl⟩,a'⟩ hN1
  obtain ⟨F,f⟩:=x;have hf:C[f]?=some F:=List.mem_zipIdx_iff_getElem?.mp (by rw [e];exact ZJ _ ZO);have hF:=wf.fn f F hf;simp only [fD,VV];refine ⟨trivial,⟨by right,by right⟩,?_⟩;rw [u8,ZB,YN]
  have ok:∀ x ∈ p.flatMap a0P ++ a0P (F,f),D2 C se0 x:=λ x hx=>by
   refine b0C x ?_;unfold a7a;rw [e,List.flatMap_append,List.flatMap_cons]
   rcases List.mem_append.mp hx with z | z
   ·exact Zy _ z
   ·exact ZJ _ (Zy _ z)
  obtain ⟨m1,s1,_⟩:=(c0S C).offs wf λ x hx=>ok x (Zy _ hx)
  have ok1:∀ x ∈ a0P (F,f),D2 C (offs se0 (p.flatMap a0P)) x:=λ x hx=>by
   have:=ok x (ZJ _ hx)
   unfold D2 at this ⊢;rw [s1.I];exact this
  have es:offs se0 ((p ++ [(F,f)]).flatMap a0P)=offs (offs se0 (p.flatMap a0P)) (a0P (F,f)):=by rw [List.flatMap_append,a0y,List.flatMap_singleton]
  rw [es] at hN1;generalize offs se0 (p.flatMap a0P)=s at *;refine u0 (λ p2 δ h2=>(∃ x3,δ=[some (.ref h0.length),some (nD f),some (.tup [nD F.places,nD F.facts,D.lst (F.edges.map eD)]),x3])/\At h0 C zr (offs s (p2.map λ d=>(0,⟨f,d,0,d⟩,.begin f d))) h2) ⟨⟨_,rfl⟩,a'⟩ (λ _ _ _ _=>Src.ok_nil) ?_ ?_
  ·rintro p2 d r2 δ h2 N2 e2 ⟨⟨_,rfl⟩,a2⟩ hN2
   simp only [D7 a2.se,VV3];obtain ⟨b1,b2,b3⟩:=V7 wf (a2C wf m1 e2 ok1);refine ⟨a1i a2.of rfl,h0,C,zr,_,0,⟨f,d,0,d⟩,.begin f d,?_,a2,b1,b2,b3,λ h3 a3=>hN2 _ _ ⟨⟨_,rfl⟩,?_⟩⟩
   ·rw [YN];rfl
   ·rw [W4];exact a3
  ·rintro δ h2 ⟨⟨_,rfl⟩,a2⟩
   exact hN1 _ _ ⟨⟨_,_,_,rfl⟩,a2⟩
 ·rintro δ h' ⟨_,a'⟩
  show B;exact q h' a'
theorem c0v{f:Addr}{fd:FuncData}(F:Fun K "begin" "Search.begin" a2t f fd)(T:Txt P w K mg)(C_q1:C5 P w K mg base 4 "Offers" "offer" ["self","cost","key","row"] (spD K 4 a2K)):n8 P w K mg base CX0 5 f fd ["self"] (spD K 1 b0A) :=
 m9 (k:=4) (b:=b0T) F sc_q7 (λ cdv A outer s H E hr=>by
  show M;refine F1 PassesOwn.never rfl (a6g rfl T.b_enumerate (b6 (m8 T.f_chart (sv 0)) c7)) ?_ ?_
  ·exact a2d rfl (y7 (j9 (i:=1) sc_q7.nd rfl @E) (y7 (j9 (i:=2) sc_q7.nd rfl @E) S6))
  show M;refine F1 PassesOwn.never rfl (q8 rfl T.b_range (b6 @K c7)) (j9 (i:=3) sc_q7.nd rfl @E) ?_;show M;refine t7 ?_;exact B9 C_q1 @A (m8 T.f_offers (sv 0)) (b6 b9 (b6 (l9 (b6 (sv 1) (b6 (sv 3) (b6 b9 @Au)))) (b6 (l9 (b6 m7 (b6 (sv 1) @Au))) c7)))) b9n
def a3h:DS:=(i6 (k8 (dIf (o9 (dOp @AF (dOp pIx (b8 5) @H) (dC (.str "step")))) (dC (.str "step")) (dC (.str "over"))) (f8 6))
  (Q1 (O9 (o7 O8 (b7 (dOp pIx (o7 a6i (b7 (b8 5) f9)) (dOp pIx (b8 2) @Am)) f9))) (f8 7) (y8 (B2 "Offers" "offer" a2K (dUn (p5 "Search" "offers") (b8 0)) (b7 (dOp n4 (b8 1) (dOp pIx (b8 5) @Am)) (b7 (v7 (b7 (dOp pIx (b8 2) @H) (b7 (dOp pIx (b8 2) @F) (b7 (dOp pIx (b8 5) @R) (b7 (b8 7) f9))))) (b7 (v7 (b7 (b8 6) (b7 (b8 3) (b7 (b8 4) (b7 (b8 7) f9))))) f9)))))))
theorem b2G{C:f7}(wf:WF C){F:Fn}{f:Nat}{E:Edge}(hF:C[f]?=some F)(he:E ∈ F.edges):tOk (O1 E) F.facts F.facts:=by
 have:=((wf.fn f F hF).2.2.2.2.2 E he).2.2.2.2
 unfold O1
 cases hk:E.k with
 |step t=>rw [hk] at this;exact this
 |call g i b o=>rw [hk] at this;obtain ⟨_,_,_,_,h⟩:=this;exact h
def a3j:DSp:=λ ds h Q=>∃ (h0:Hh) (C:f7) (zr:N9) (s:Se) (c k n:Nat) (ky:Ky) (F:Fn) (E:Edge),ds=[.ref h0.length,nD c,tkD ky.t,nD k,nD n,eD E]/\WF C/\At h0 C zr s h/\Mid C s/\C[ky.f]?=some F/\E ∈ F.edges/\ky.d < F.facts/\(∀ x ∈ gpL c ky k n E,D2 C s x)/\∀ h',At h0 C zr (offs s (gpL c ky k n E)) h'->Q .non h'
theorem b4R:∀ ds h Q,a3j ds h Q->j2 8 a3h ds h Q:=by
 rintro ds h Q ⟨h0,C,zr,s,c,k,n,ky,F,E,rfl,wf,a,m,hF,hE,hd,ok,q⟩
 have tk:=b2G wf hF hE;have f6:=(wf.fn _ F hF).2.2.2.1;have t0:∀ h,ixD h (tkD ky.t) (.int 0)=some (nD ky.f):=λ _=>rfl;have t1:∀ h,ixD h (tkD ky.t) (.int 1)=some (nD ky.a):=λ _=>rfl;have t3:∀ h,ixD h (tkD ky.t) (.int 3)=some (nD ky.d):=λ _=>rfl;have wd:(if E.isStep=true then Mv.step else Mv.over).w=if E.isStep=true then Str.ofString "step" else Str.ofString "over":=by split <;> rfl
 have k1:(Str.ofString "step" == Str.ofString "step")=true:=by decide +kernel
 have k2:(Str.ofString "call" == Str.ofString "step")=false:=by decide +kernel
 have k3:PyData.strOk @L=true:=by decide +kernel
 have k4:PyData.strOk @O=true:=by decide +kernel
 have ew:(E.word == Str.ofString "step")=E.isStep:=by
  unfold Edge.word Edge.isStep
  cases E.k with
  |step _=>exact k1
  |call _ _ _ _=>exact k2
 have es:PyData.strOk E.word=true:=by
  unfold Edge.word
  cases E.k with
  |step _=>exact k3
  |call _ _ _ _=>exact k4
 delta j2 a3h;show N
 have main:N [some (D.ref h0.length),some (nD c),some (tkD ky.t),some (nD k),some (nD n),some (eD E),some (D.str (if E.isStep=true then Mv.step else Mv.over).w),none] h:=by
  subst hN;simp only [t0,t1,t3,b3r,b4q,VV];refine ⟨E,rfl,?_⟩;dsimp only;rw [a5v h tk hd];refine ⟨(O1 E).getD ky.d 0,rfl,Nat.lt_trans (a3p (tk.get hd).2 f6) @B,?_⟩;show B;refine u0 (λ p δ h'=>(∃ x,δ=[some (D.ref h0.length),some (nD c),some (tkD ky.t),some (nD k),some (nD n),some (eD E),some (D.str (if E.isStep=true then Mv.step else Mv.over).w),x])/\At h0 C zr (offs s (p.map λ e=>(c + E.cost,⟨ky.f,ky.a,E.q,e⟩,.mv (if E.isStep=true then .step else .over) k n e))) h') ⟨⟨_,rfl⟩,a⟩ (λ _ _ _ _=>Src.ok_nil) ?_ ?_
  ·rintro p e r δ h' N1 ee ⟨⟨_,rfl⟩,a2⟩ hN1
   simp only [D7 a2.se,t0,t1,t3,b3r,b4q,VV3];obtain ⟨b1,b2,b3⟩:=V7 wf (a2C wf m ee ok);refine ⟨a1i a2.of rfl,h0,C,zr,_,c + E.cost,⟨ky.f,ky.a,E.q,e⟩,.mv (if E.isStep=true then .step else .over) k n e,rfl,a2,b1,b2,b3,λ h3 a3=>hN1 _ _ ⟨⟨_,rfl⟩,?_⟩⟩;rw [W4];exact a3
  ·rintro δ h2 ⟨⟨_,rfl⟩,a2⟩
   show B;exact q _ a2
 simp only [b8B,es,ew,VV]
 cases z:E.isStep with
 |true=>rw [z] at main;show B;exact main
 |false=>rw [z] at main;show B;exact main
theorem b7l{f:Addr}{fd:FuncData}(F:Fun K "go_past" "Search.go_past" R7 f fd)(T:Txt P w K mg)(C_q43:Cal P w K mg base 1 "table_past" ["edge"] (spD K 1 a6i))(C_q30:Cal P w K mg base 1 "facts_in" ["mask"] (spD K 1 O8))(C_q1:C5 P w K mg base 4 "Offers" "offer" ["self","cost","key","row"] (spD K 4 a2K)):n8 P w K mg base CX0 5 f fd ["self","cost","key","k","n","edge"] (spD K 6 a3j) :=
 m9 (k:=4) (b:=a3h) F sc_q11 (λ cdv A outer s H E hr=>by
  show C
  ·refine j4 (i:=6) sc_q11.nd rfl @E ?_;exact a0z (j6 @Az (d8 c9 (sv 5) b9) m7) m7 m7
  show M;refine F1 PassesOwn.never rfl ?_ (j9 (i:=7) sc_q11.nd rfl @E) ?_
  ·exact J7 (j1 C_q30 @A rfl (b6 (d8 c9 (j1 C_q43 @A rfl (b6 (sv 5) c7)) @K) c7))
  show M;refine t7 ?_;exact B9 C_q1 @A (m8 T.f_offers (sv 0)) (b6 (i7 j5 (sv 1) (d8 c9 (sv 5) b9)) (b6 (l9 (b6 @K (b6 @K (b6 (d8 c9 (sv 5) b9) (b6 (sv 7) c7))))) (b6 (l9 (b6 (sv 6) (b6 (sv 3) (b6 (sv 4) (b6 (sv 7) c7))))) c7)))) b4R
def b1w:DS:=(i6 (k8 (dOp pIx (b8 1) @F) (f8 3))
  (i6 (k8 (dOp pIx (b8 1) @AT) (f8 4))
  (Q1 (O9 (o7 O8 (b7 (dOp pIx (dOp pIx (b8 4) (dC (.int 6))) (dOp pIx (b8 2) @F)) f9))) (f8 5) (i6 (k8 (v7 (b7 (dC (.str "short")) (b7 (dOp pIx (b8 1) @R) (b7 (dOp pIx (b8 1) @Am) (b7 (dOp pIx (b8 2) @R) (b7 (b8 5) f9)))))) (f8 6))
  (y8 (B2 "Offers" "offer" a2K (dUn (p5 "Search" "offers") (b8 0)) (b7 (dOp n4 (dOp pIx (b8 1) @H) (dOp pIx (b8 2) @H)) (b7 (v7 (b7 (dOp pIx (b8 3) @H) (b7 (dOp pIx (b8 3) @F) (b7 (dOp pIx (b8 4) @R) (b7 (b8 5) f9))))) (b7 (b8 6) f9)))))))))
def a4M:DSp:=λ ds h Q=>∃ (h0:Hh) (C:f7) (zr:N9) (s:Se) (x:a0E) (y:En) (g:Nat) (i t o:List Nat) (n2:Nat),ds=[.ref h0.length,O2 x,a6M y]/\WF C/\At h0 C zr s h/\Mid C s/\x.E.k = .call g i t o/\tOk t n2 6/\y.d < n2/\(∀ z ∈ cbL x y,D2 C s z)/\∀ h',At h0 C zr (offs s (cbL x y)) h'->Q .non h'
theorem b6X:∀ ds h Q,a4M ds h Q->j2 7 b1w ds h Q:=by
 rintro ds h Q ⟨h0,C,zr,s,x,y,g,i,t,o,n2,rfl,wf,a,m,hk,ht,hd,ok,q⟩
 have bt:Y7 x.E=t:=by unfold Y7;rw [hk]
 have t0:∀ h,ixD h (tkD x.key.t) (.int 0)=some (nD x.key.f):=λ _=>rfl;have t1:∀ h,ixD h (tkD x.key.t) (.int 1)=some (nD x.key.a):=λ _=>rfl;have e6:∀ h,ixD h (eD x.E) (.int 6)=some (tD t):=λ h=>by unfold eD;rw [hk];rfl
 delta j2 b1w;show N;simp only [O2,VV];show E;show B;subst hN;simp only [a6M,e6,a5v h ht hd,VV];refine ⟨t.getD y.d 0,rfl,Nat.lt_trans (a3p (ht.get hd).2 @G) @B,?_⟩;show B;have eb:cbL x y=(l8 (t.getD y.d 0)).map λ e=>(x.cost + y.cost,⟨x.key.f,x.key.a,x.E.q,e⟩,.short x.k x.n y.k e):=by unfold cbL;rw [bt]
 rw [eb] at ok q;refine u0 (λ p δ h'=>(∃ x1 x2,δ=[some (D.ref h0.length),some (D.tup [nD x.cost,tkD x.key.t,nD x.k,nD x.n,eD x.E]),some (D.tup [nD y.cost,nD y.d,nD y.k]),some (tkD x.key.t),some (eD x.E),x1,x2])/\At h0 C zr (offs s (p.map λ e=>(x.cost + y.cost,⟨x.key.f,x.key.a,x.E.q,e⟩,.short x.k x.n y.k e))) h') ⟨⟨_,_,rfl⟩,a⟩ (λ _ _ _ _=>Src.ok_nil) ?_ ?_
 ·rintro p e r δ h' N1 ee ⟨⟨_,_,rfl⟩,a2⟩ hN1
  show B;left;show B;subst hN;simp only [D7 a2.se,t0,t1,b3r,VV3];obtain ⟨b1,b2,b3⟩:=V7 wf (a2C wf m ee ok);refine ⟨a1i a2.of rfl,h0,C,zr,_,x.cost + y.cost,⟨x.key.f,x.key.a,x.E.q,e⟩,.short x.k x.n y.k e,rfl,a2,b1,b2,b3,λ h3 a3=>hN1 _ _ ⟨⟨_,_,rfl⟩,?_⟩⟩;rw [W4];exact a3
 ·rintro δ h2 ⟨⟨_,_,rfl⟩,a2⟩
  show B;exact q _ a2
theorem c1d{f:Addr}{fd:FuncData}(F:Fun K "come_back" "Search.come_back" a2r f fd)(T:Txt P w K mg)(C_q30:Cal P w K mg base 1 "facts_in" ["mask"] (spD K 1 O8))(C_q1:C5 P w K mg base 4 "Offers" "offer" ["self","cost","key","row"] (spD K 4 a2K)):n8 P w K mg base CX0 5 f fd ["self","call","end"] (spD K 3 a4M) :=
 m9 (k:=4) (b:=b1w) F sc_q8 (λ cdv A outer s H E hr=>by
  show C
  ·exact j4 (i:=3) sc_q8.nd rfl @E @Ah
  show C
  ·exact j4 (i:=4) sc_q8.nd rfl @E @Ah
  show M;refine F1 PassesOwn.never rfl ?_ (j9 (i:=5) sc_q8.nd rfl @E) ?_
  ·exact J7 (j1 C_q30 @A rfl (b6 (d8 c9 @Ay @K) c7))
  show C
  ·refine j4 (i:=6) ?_ ?_ ?_ ?_
   ·exact sc_q8.nd
   ·exact rfl
   ·exact Or.inl rfl
   refine l9 (n:=5) ?_;refine b6 m7 ?_;refine b6 @Ah ?_;exact b6 @Ah (b6 @K (b6 (sv 5) c7))
  show M;refine t7 ?_;exact B9 C_q1 @A (m8 T.f_offers (sv 0)) (b6 (i7 j5 @Ah @K) (b6 (l9 (b6 @Ab (b6 @Ab (b6 @Ay (b6 (sv 5) c7))))) (b6 (sv 6) c7)))) b6X
def a3H:DS:=(i6 (k8 (v7 (b7 (dOp n4 (b8 1) (dOp pIx (b8 5) @Am)) (b7 (b8 2) (b7 (b8 3) (b7 (b8 4) (b7 (b8 5) f9)))))) (f8 6))
  (Q1 (O9 (o7 O8 (b7 (dOp pIx (dOp pIx (b8 5) (dC (.int 5))) (dOp pIx (b8 2) @Am)) f9))) (f8 7) (i6 (k8 (v7 (b7 (dOp pIx (b8 5) @AT) (b7 (b8 7) f9))) (f8 8))
  (i6 (y8 (C0 (b0O (dUn (p5 "Search" "calls") (b8 0)) (b8 8) (dTk f9)) (b7 (b8 6) f9)))
  (Q1 (O9 (a2E (dUn (p5 "Search" "ends") (b8 0)) (b8 8) (dV f9))) (f8 9) (y8 (B2 "Search" "come_back" a4M (b8 0) (b7 (b8 6) (b7 (b8 9) f9)))))))))
def a3t:DSp:=λ ds h Q=>∃ (h0:Hh) (C:f7) (zr:N9) (s:Se) (c k n:Nat) (ky:Ky) (E:Edge) (g:Nat) (i t o:List Nat) (n1 n2:Nat),ds=[.ref h0.length,nD c,tkD ky.t,nD k,nD n,eD E]/\WF C/\At h0 C zr s h/\Mid C s/\E.k = .call g i t o/\tOk i n1 6/\ky.d < n1/\tOk t n2 6/\g < 6/\(∀ b,∀ y ∈ s.en g b,y.d < n2)/\(∀ b ∈ l8 (i.getD ky.d 0),∀ y ∈ s.en g b,∀ z ∈ cbL ⟨c + E.cost,ky,k,n,E⟩ y,D2 C s z)/\(∀ b,(s.ca g b).length < 10000000)/\∀ zr' h',At h0 C zr' (gin s c ky k n E) h'->Q .non h'
theorem b4y:∀ ds h Q,a3t ds h Q->j2 10 a3H ds h Q:=by
 rintro ds h Q ⟨h0,C,zr,s,c,k,n,ky,E,g,i,t,o,n1,n2,rfl,wf,a,m,hk,ht,hd,ht2,hg,hy,ok,hl,q⟩
 have t3:∀ h,ixD h (tkD ky.t) (.int 3)=some (nD ky.d):=λ _=>rfl;have e4:∀ h,ixD h (eD E) (.int 4)=some (nD g):=λ h=>by unfold eD;rw [hk];rfl
 have e5:∀ h,ixD h (eD E) (.int 5)=some (tD i):=λ h=>by unfold eD;rw [hk];rfl
 have b64:i.getD ky.d 0 < 64:=a3p (ht.get hd).2 @G;have eg:gin s c ky k n E=(l8 (i.getD ky.d 0)).foldl (gi1 g ⟨c + E.cost,ky,k,n,E⟩) s:=by unfold gin a3e;rw [hk]
 rw [eg] at q;delta j2 a3H;show N;simp only [b4q,VV];subst hN;simp only [e5,t3,a5v h ht hd,VV];refine ⟨i.getD ky.d 0,rfl,Nat.lt_trans b64 @B,?_⟩;show B;refine u0 (λ p δ h'=>(∃ x1 x2 x3,δ=[some (.ref h0.length),some (nD c),some (tkD ky.t),some (nD k),some (nD n),some (eD E),some (O2 ⟨c + E.cost,ky,k,n,E⟩),x1,x2,x3])/\∃ zr',At h0 C zr' (p.foldl (gi1 g ⟨c + E.cost,ky,k,n,E⟩) s) h') ⟨⟨_,_,_,rfl⟩,zr,a⟩ (λ _ _ _ _=>Src.ok_nil) ?_ ?_
 ·rintro p b r δ h' N1 ee ⟨⟨_,_,_,rfl⟩,zr1,a1⟩ hN1
  have hb6:b < 6:=by
   have:b ∈ l8 (i.getD ky.d 0):=by rw [ee];exact ZJ _ ZO
   rw [a1J b64] at this;exact (mem6.mp this).1
  obtain ⟨m1,eI,een,lc⟩:=a5z wf (p:=p) m λ b' hb'=>ok b' (by rw [ee];exact Zy _ hb');have okb:=ok b (by rw [ee];exact ZJ _ ZO);rw [List.foldl_append] at hN1
  have pl:p.length <= 6:=by
   have h6:=a1Z b64;rw [ee,ZW] at h6;omega
  generalize p.foldl (gi1 g ⟨c + E.cost,ky,k,n,E⟩) s=s1 at *;show B;left;simp only [e4,VV];show E;simp only [a1V a1.se,VV0];refine ⟨⟨_,none,zr1.kc,rfl,a1.calls⟩,?_⟩;obtain ⟨hs,rfl,pm,hp,dc,de⟩:=a1.ex;refine a5l true (a0:=seO h0.length C) (a1:=ofO h0.length) dc de hg hb6 (by rw [ZS];have:=lc g b;have:=hl b;omega) λ j h3 xs e3 l3 nx=>?_;simp only [e3,VV];refine ⟨l3,?_⟩;obtain ⟨kc',ke',y',e6,d5,d6⟩:=nx (O2 ⟨c + E.cost,ky,k,n,E⟩)
  have a2:At h0 C ⟨kc',ke',y'⟩ { s1 with ca:=C8 s1.ca g b @AU } (h3.set j (.lst (xs ++ [O2 ⟨c + E.cost,ky,k,n,E⟩]))):=⟨hs,e6,pm,hp,d5.congr λ g' b'=>(by
   by_cases w:g'=g/\b'=b
   ·obtain ⟨rfl,rfl⟩:=w;show (if _ then _ else _)=(C8 s1.ca g' b' _ g' b').map O2;rw [if_pos ⟨rfl,rfl⟩,B5,Zz];rfl
   ·show (if _ then _ else _)=(C8 s1.ca g b _ g' b').map O2;rw [if_neg w,J8 w]),d6⟩
  have m2:Mid C { s1 with ca:=C8 s1.ca g b @AU }:=⟨m1.pap,m1.nd,m1.ti,m1.tl,m1.tt,m1.td,m1.vl,m1.cu,m1.np,m1.pl,m1.pn,m1.lk⟩
  have eg1:[b].foldl (gi1 g ⟨c + E.cost,ky,k,n,E⟩) s1=offs { s1 with ca:=C8 s1.ca g b @AU } ((s1.en g b).flatMap (cbL ⟨c + E.cost,ky,k,n,E⟩)):=rfl;rw [eg1] at hN1
  have ok2:∀ y ∈ s1.en g b,∀ z ∈ cbL ⟨c + E.cost,ky,k,n,E⟩ y,D2 C { s1 with ca:=C8 s1.ca g b @AU } z:=λ y hy' z hz=>by
   rw [een] at hy'
   have:=okb y hy' z hz
   unfold D2 at this ⊢;show i5 C 0 (u7 s1.I) _=_/\∀ y ∈ s1.I,_;rw [eI];exact this
  have yd:∀ y ∈ s1.en g b,y.d < n2:=λ y hy'=>hy b y (by rw [<- een];exact hy');have dcl:=d6.at_ g b;generalize h3.set j (.lst (xs ++ [O2 ⟨c + E.cost,ky,k,n,E⟩]))=h4 at *;generalize ({ s1 with ca:=C8 s1.ca g b @AU }:Se)=s2 at *;subst hN;simp only [a3P a2.se,VV0];refine ⟨⟨_,none,ke',rfl,a2.ends⟩,a6j a2.ends ?_⟩
  rcases dcl with ⟨h1,h2⟩ | ⟨l,h1,h2⟩
  ·have h1:C7 ke' (kN [g,b])=none:=h1
   have:s1.en g b=[]:=List.map_eq_nil_iff.mp h2
   rw [h1];show B;rw [this] at hN1;exact ⟨Src.ok_nil,hN1 _ _ ⟨⟨_,_,_,rfl⟩,_,a2⟩⟩
  ·have h1:C7 ke' (kN [g,b])=some (.ref (h0.length + (9 + l))):=h1;rw [h1];have e7:=a2.dyn h2;simp only [a1h e7,VV];refine u0 (λ p2 δ h'=>(∃ x3,δ=[some (.ref h0.length),some (nD c),some (tkD ky.t),some (nD k),some (nD n),some (eD E),some (O2 ⟨c + E.cost,ky,k,n,E⟩),some (nD b),some (.tup [nD g,nD b]),x3])/\At h0 C ⟨kc',ke',y'⟩ (offs s2 (p2.flatMap (cbL ⟨c + E.cost,ky,k,n,E⟩))) h') ⟨⟨_,rfl⟩,a2⟩ (λ p δ h' hp pr hpr=>?_) ?_ ?_
   ·rw [ZX.mp hpr];exact hp.2.dyn h2
   ·rintro p2 y r2 δ h' N3 ee2 ⟨⟨_,rfl⟩,a3⟩ hN3
    obtain ⟨m3,ok3⟩:=a3Z wf m2 ee2 ok2;simp only [VV1];refine ⟨P5 a3.se rfl,h0,C,⟨kc',ke',y'⟩,_,⟨c + E.cost,ky,k,n,E⟩,y,g,i,t,o,n2,rfl,wf,a3,m3,hk,ht2,yd y (by rw [ee2];exact ZJ _ ZO),ok3,λ h5 a5=>hN3 _ _ ⟨⟨_,rfl⟩,?_⟩⟩;rw [a1y];exact a5
   ·rintro δ h' ⟨⟨_,rfl⟩,a3⟩
    exact hN1 _ _ ⟨⟨_,_,_,rfl⟩,_,a3⟩
 ·rintro δ h' ⟨_,zr1,a1⟩
  show B;exact q _ _ a1
theorem b8b{f:Addr}{fd:FuncData}(F:Fun K "go_in" "Search.go_in" Q9 f fd)(T:Txt P w K mg)(C_q30:Cal P w K mg base 1 "facts_in" ["mask"] (spD K 1 O8))(C_q8:C5 P w K mg base 5 "Search" "come_back" ["self","call","end"] (spD K 3 a4M)):n8 P w K mg base CX0 6 f fd ["self","cost","key","k","n","edge"] (spD K 6 a3t) :=
 m9 (k:=5) (b:=a3H) F sc_q10 (λ cdv A outer s H E hr=>by
  show C
  ·refine j4 (i:=6) ?_ ?_ ?_ ?_
   ·exact sc_q10.nd
   ·exact rfl
   ·exact Or.inl rfl
   refine l9 (n:=5) ?_;exact b6 (i7 j5 (sv 1) (d8 c9 (sv 5) b9)) (b6 (sv 2) (b6 (sv 3) (b6 (sv 4) (b6 (sv 5) c7))))
  show M;refine F1 PassesOwn.never rfl ?_ (j9 (i:=7) sc_q10.nd rfl @E) ?_
  ·exact J7 (j1 C_q30 @A rfl (b6 (d8 c9 (d8 c9 (sv 5) b9) @K) c7))
  show C
  ·refine j4 (i:=8) sc_q10.nd rfl @E ?_;exact l9 (b6 (d8 c9 (sv 5) b9) (b6 (sv 7) c7))
  show C
  ·refine t7 ?_;exact y9 (a6c hr.units (m8 T.f_calls (sv 0)) (sv 8) (a4P (F4 c7)) ⟨rfl,rfl,rfl,rfl⟩) (b6 (sv 6) c7)
  show M;refine F1 PassesOwn.never rfl ?_ (j9 (i:=9) sc_q10.nd rfl @E) ?_
  ·exact J7 (a0D hr.units (m8 T.f_ends (sv 0)) (sv 8) (T5 (F4 c7)) ⟨rfl,rfl,rfl,rfl⟩)
  show M;refine t7 ?_;exact B9 C_q8 @A (sv 0) (b6 (sv 6) (b6 (sv 9) c7))) b4y
def b0V:DS:=(i6 (k8 (v7 (b7 (b8 1) (b7 (dOp pIx (b8 2) @Am) @At))) (f8 4))
  (i6 (k8 (v7 (b7 (dOp pIx (b8 2) @H) (b7 (dOp pIx (b8 2) @F) f9))) (f8 5))
  (i6 (y8 (C0 (b0O (dUn (p5 "Search" "ends") (b8 0)) (b8 5) (dTk f9)) (b7 (b8 4) f9)))
  (Q1 (O9 (a2E (dUn (p5 "Search" "calls") (b8 0)) (b8 5) (dV f9))) (f8 6) (y8 (B2 "Search" "come_back" a4M (b8 0) (b7 (b8 6) (b7 (b8 4) f9))))))))
def a8e:DSp:=λ ds h Q=>∃ (h0:Hh) (C:f7) (zr:N9) (s:Se) (c k:Nat) (ky:Ky),ds=[.ref h0.length,nD c,tkD ky.t,nD k]/\WF C/\At h0 C zr s h/\Mid C s/\ky.f < 6/\ky.a < 6/\(s.en ky.f ky.a).length < 16777216/\(∀ x ∈ s.ca ky.f ky.a,(∃ g i t o n2,x.E.k = .call g i t o/\tOk t n2 6/\ky.d < n2)/\∀ z ∈ cbL x ⟨c,ky.d,k⟩,D2 C s z)/\∀ zr' h',At h0 C zr' (cte s c ky k) h'->Q .non h'
theorem b8U:∀ ds h Q,a8e ds h Q->j2 7 b0V ds h Q:=by
 rintro ds h Q ⟨h0,C,zr,s,c,k,ky,rfl,wf,a,m,hf,ha,hl,ok,q⟩
 have t0:∀ h,ixD h (tkD ky.t) (.int 0)=some (nD ky.f):=λ _=>rfl;have t1:∀ h,ixD h (tkD ky.t) (.int 1)=some (nD ky.a):=λ _=>rfl;have t3:∀ h,ixD h (tkD ky.t) (.int 3)=some (nD ky.d):=λ _=>rfl;delta j2 b0V;show N;simp only [t3,VV];show E;simp only [t0,t1,VV];show E;simp only [a3P a.se,VV0];refine ⟨⟨_,none,zr.ke,rfl,a.ends⟩,?_⟩;obtain ⟨hs,rfl,pm,hp,dc,de⟩:=a.ex;refine a5l false (a0:=seO h0.length C) (a1:=ofO h0.length) de dc hf ha (by rw [ZS];exact hl) λ i h3 xs e3 l3 nx=>?_;simp only [e3,VV];refine ⟨l3,?_⟩;obtain ⟨kc',ke',y',e5,d5,d6⟩:=nx (a6M ⟨c,ky.d,k⟩)
 have a1:At h0 C ⟨kc',ke',y'⟩ { s with en:=C8 s.en ky.f ky.a (s.en ky.f ky.a ++ [⟨c,ky.d,k⟩]) } (h3.set i (.lst (xs ++ [.tup [nD c,nD ky.d,nD k]]))):=⟨hs,e5,pm,hp,d6,d5.congr λ g b=>by
  by_cases w:g=ky.f/\b=ky.a
  ·obtain ⟨rfl,rfl⟩:=w;show (if _ then _ else _)=(C8 s.en ky.f ky.a _ ky.f ky.a).map a6M;rw [if_pos ⟨rfl,rfl⟩,B5,Zz];rfl
  ·show (if _ then _ else _)=(C8 s.en ky.f ky.a _ g b).map a6M;rw [if_neg w,J8 w]⟩
 have m1:Mid C { s with en:=C8 s.en ky.f ky.a (s.en ky.f ky.a ++ [⟨c,ky.d,k⟩]) }:=⟨m.pap,m.nd,m.ti,m.tl,m.tt,m.td,m.vl,m.cu,m.np,m.pl,m.pn,m.lk⟩
 have ec:cte s c ky k=offs { s with en:=C8 s.en ky.f ky.a (s.en ky.f ky.a ++ [⟨c,ky.d,k⟩]) } ((s.ca ky.f ky.a).flatMap λ x=>cbL x ⟨c,ky.d,k⟩):=rfl;have ok1:∀ x ∈ s.ca ky.f ky.a,∀ z ∈ cbL x ⟨c,ky.d,k⟩,D2 C { s with en:=C8 s.en ky.f ky.a (s.en ky.f ky.a ++ [⟨c,ky.d,k⟩]) } z:=λ x hx z hz=>(ok x hx).2 z hz;have dcl:=d6.at_ ky.f ky.a;rw [ec] at q;generalize h3.set i (.lst (xs ++ [.tup [nD c,nD ky.d,nD k]]))=h4 at *;generalize ({ s with en:=C8 s.en ky.f ky.a (s.en ky.f ky.a ++ [⟨c,ky.d,k⟩]) }:Se)=s1 at *;subst hN;simp only [a1V a1.se,VV0];refine ⟨⟨_,none,kc',rfl,a1.calls⟩,a6j a1.calls ?_⟩
 rcases dcl with ⟨h1,h2⟩ | ⟨j,h1,h2⟩
 ·have h1:C7 kc' (kN [ky.f,ky.a])=none:=h1
  have:s.ca ky.f ky.a=[]:=List.map_eq_nil_iff.mp h2
  rw [h1];show B;rw [this] at q;exact ⟨Src.ok_nil,q _ _ a1⟩
 ·have h1:C7 kc' (kN [ky.f,ky.a])=some (.ref (h0.length + (9 + j))):=h1;rw [h1];have e4:=a1.dyn h2;simp only [a1h e4,VV];refine u0 (λ p δ h'=>(∃ x,δ=[some (D.ref h0.length),some (nD c),some (tkD ky.t),some (nD k),some (D.tup [nD c,nD ky.d,nD k]),some (D.tup [nD ky.f,nD ky.a]),x])/\At h0 C ⟨kc',ke',y'⟩ (offs s1 (p.flatMap λ x=>cbL x ⟨c,ky.d,k⟩)) h') ⟨⟨_,rfl⟩,a1⟩ (λ p δ h' hp pr hpr=>?_) ?_ ?_
  ·rw [ZX.mp hpr];exact hp.2.dyn h2
  ·rintro p x r δ h' N1 ee ⟨⟨_,rfl⟩,a2⟩ hN1
   obtain ⟨m2,ok2⟩:=a3Z wf m1 ee ok1;obtain ⟨g,i',t,o,n2,k1,k2,k3⟩:=(ok x (by rw [ee];exact ZJ _ ZO)).1;simp only [VV1];refine ⟨P5 a2.se rfl,h0,C,⟨kc',ke',y'⟩,_,x,⟨c,ky.d,k⟩,g,i',t,o,n2,rfl,wf,a2,m2,k1,k2,k3,ok2,λ h5 a5=>hN1 _ _ ⟨⟨_,rfl⟩,?_⟩⟩;rw [a1y];exact a5
  ·rintro δ h' ⟨_,a2⟩
   show B;exact q _ _ a2
theorem c0Y{f:Addr}{fd:FuncData}(F:Fun K "come_to_end" "Search.come_to_end" a2g f fd)(T:Txt P w K mg)(C_q8:C5 P w K mg base 5 "Search" "come_back" ["self","call","end"] (spD K 3 a4M)):n8 P w K mg base CX0 6 f fd ["self","cost","key","k"] (spD K 4 a8e) :=
 m9 (k:=5) (b:=b0V) F sc_q9 (λ cdv A outer s H E hr=>by
  show C
  ·refine j4 (i:=4) ?_ ?_ ?_ ?_
   ·exact sc_q9.nd
   ·exact rfl
   ·exact Or.inl rfl
   refine l9 (n:=3) ?_;exact b6 (sv 1) (b6 @K @Au)
  show C
  ·refine j4 (i:=5) ?_ ?_ ?_ ?_
   ·exact sc_q9.nd
   ·exact rfl
   ·exact Or.inl rfl
   refine l9 (n:=2) ?_;exact b6 @K (b6 @K c7)
  show C
  ·refine t7 ?_;exact y9 (a6c hr.units (m8 T.f_ends (sv 0)) (sv 5) (a4P (F4 c7)) ⟨rfl,rfl,rfl,rfl⟩) (b6 (sv 4) c7)
  show M;refine F1 PassesOwn.never rfl ?_ (j9 (i:=6) sc_q9.nd rfl @E) ?_
  ·exact J7 (a0D hr.units (m8 T.f_calls (sv 0)) (sv 5) (T5 (F4 c7)) ⟨rfl,rfl,rfl,rfl⟩)
  show M;refine t7 ?_;exact B9 C_q8 @A (sv 0) (b6 (sv 6) (b6 (sv 4) c7))) b8U
def a3I:DS:=(i6 (k8 (dCB Z9 (b7 (dUn (p5 "Search" "rows") (b8 0)) f9)) (f8 4))
  (i6 (y8 (C0 (dUn (p5 "Search" "rows") (b8 0)) @At))
  (i6 (a1U (dUn (p5 "Search" "found") (b8 0)) (b8 2) (b8 4))
  (i6 (x0 (o9 (dOp @AF (dOp pIx (b8 2) @R) (o7 Y4 (b7 (dUn (p5 "Search" "chart") (b8 0)) (b7 (dOp pIx (b8 2) @H) f9))))) (y8 (B2 "Search" "come_to_end" a8e (b8 0) (b7 (b8 1) (b7 (b8 2) (b7 (b8 4) f9))))) p7)
  (Q1 (O9 (o7 a6n (b7 (dUn (p5 "Search" "chart") (b8 0)) (b7 (dOp pIx (b8 2) @H) (b7 (dOp pIx (b8 2) @R) f9))))) (a6D 2 (A7 (f8 5) (A7 (f8 6) a0Z))) (i6 (y8 (B2 "Search" "go_past" a3j (b8 0) (b7 (b8 1) (b7 (b8 2) (b7 (b8 4) (b7 (b8 5) (b7 (b8 6) f9)))))))
  (x0 (o9 (dOp @AF (dOp pIx (b8 6) @H) (dC (.str "call")))) (y8 (B2 "Search" "go_in" a3t (b8 0) (b7 (b8 1) (b7 (b8 2) (b7 (b8 4) (b7 (b8 5) (b7 (b8 6) f9))))))) p7)))))))
def a3y:DSp:=λ ds h Q=>∃ (h0:Hh) (C:f7) (zr:N9) (s:Se) (n:Nat) (x:Of) (F:Fn),ds=[.ref h0.length,nD x.1,tkD x.2.1.t,rD x.2.2]/\WF C/\At h0 C zr (y0 s n) h/\Full C s/\n ∈ s.pd/\s.T[n]?=some x/\look s.L x.2.1.t=some x.1/\(∀ k ∈ s.pd,∀ y:Of,s.T[k]?=some y->x.1 <= y.1)/\C[x.2.1.f]?=some F/\x.2.1.a < F.facts/\x.2.1.d < F.facts/\∀ zr' h',At h0 C zr' (J0 F s n x) h'->Q .non h'
theorem b4f:∀ ds h Q,a3y ds h Q->j2 7 a3I ds h Q:=by
 rintro ds h Q ⟨h0,C,zr,s,n,x,F,rfl,wf,a,fu,hn,ex,el,mn,hF,ha,hd,q⟩
 obtain ⟨c,ky,r⟩:=x;dsimp only at *;obtain ⟨m0,top⟩:=fu.mid.settle hn ex el mn;have nw:=fu.mid.new hn ex el;have rl:=fu.mid.rlen;have il:=fu.mid.Ifew wf;have f6:ky.f < 6:=by have:=(ZY.mp hF).1;have:=wf.six;omega
 have F6:=wf.fn _ F hF;have t0:∀ h,ixD h (tkD ky.t) (.int 0)=some (nD ky.f):=λ _=>rfl;have t2:∀ h,ixD h (tkD ky.t) (.int 2)=some (nD ky.p):=λ _=>rfl;delta j2 a3I;show N;simp only [a1d a.se,B8 (p9 a.rows),List.length_map,VV0];rw [show (y0 s n).rs.length=s.I.length from rl];show E;simp only [a1d a.se,a.rows,List.length_map,VV0];refine ⟨by rw [show (y0 s n).rs.length=s.I.length from rl];omega,?_⟩
 have a1:At h0 C zr { y0 s n with rs:=s.rs ++ [r] } (h.set (h0.length + 5) (.lst ((y0 s n).rs.map rD ++ [rD r]))):=by
  obtain ⟨hs,rfl,pm,hp,dc,de⟩:=a.ex;refine ⟨hs,?_,pm,hp,dc,de⟩;rw [B4];show h0 ++ (stH h0.length C (y0 s n) hs zr.kc zr.ke ++ z7 zr.y |>.set 5 _)=_;unfold stH;show _=h0 ++ ([_,_,_,_,_,O.lst ((s.rs ++ [r]).map rD),_,_,_] ++ _);rw [Zz];rfl
 generalize h.set (h0.length + 5) (.lst ((y0 s n).rs.map rD ++ [rD r]))=h1 at *;show E;simp only [a1R a1.se,VV0];refine N7 a1.found (by rw [a5q];show s.I.length < _;omega) ?_
 have a2:At h0 C zr (B6 s n (c,ky,r)) (h1.set (h0.length + 6) (.dT none (tbD (y3 (fnd s.I) ky.t s.I.length)))):=by
  rw [b5b (c:=c) nw];obtain ⟨hs,rfl,pm,hp,dc,de⟩:=a1.ex;refine ⟨hs,?_,pm,hp,dc,de⟩;rw [B4];rfl
 have a2:At h0 C zr (B6 s n (c,ky,r)) (h1.set (h0.length + 6) (.dT none (tbD (y3 (fnd ({ y0 s n with rs:=s.rs ++ [r] }:Se).I) ky.t s.I.length)))):=a2;generalize h1.set (h0.length + 6) (.dT none (tbD (y3 (fnd ({ y0 s n with rs:=s.rs ++ [r] }:Se).I) ky.t s.I.length)))=h2 at *;show E
 have main:∀ zr2 h3,At h0 C zr2 (F9 F (B6 s n (c,ky,r)) c ky s.I.length) h3->N [some (.ref h0.length),some (nD c),some (tkD ky.t),some (rD r),some (nD s.I.length),none,none] h3:=by
  intro zr2 h3 a3;obtain ⟨p0,en0⟩:=c1a wf fu m0 top hF;dsimp only at p0 en0;have es:J0 F s n (c,ky,r)=(L7 F ky.p).foldl (E8 c ky s.I.length) (F9 F (B6 s n (c,ky,r)) c ky s.I.length):=rfl;rw [es] at q;generalize F9 F (B6 s n (c,ky,r)) c ky s.I.length=s1 at *;subst hN;simp only [V6 a3.se,t0,t2,VV0];refine ⟨C,ky.f,ky.p,F,rfl,hF,F6.2.2.2.2.1,?_⟩;show B;refine u0 (λ p δ h'=>(∃ x5 x6,δ=[some (.ref h0.length),some (nD c),some (tkD ky.t),some (rD r),some (nD s.I.length),x5,x6])/\∃ zr',At h0 C zr' (p.foldl (E8 c ky s.I.length) s1) h') ⟨⟨_,_,rfl⟩,zr2,a3⟩ (λ _ _ _ _=>Src.ok_nil) ?_ ?_
  ·rintro p x rr δ h' N1 ee ⟨⟨_,_,rfl⟩,zr3,a4⟩ hN1
   obtain ⟨E,j⟩:=x;have P:=Part.edges wf hF hd top en0 (es:=p) (λ E' n' h'=>mem_fromE.mp (by rw [ee];exact Zy _ h')) p0;rw [Zj] at P;obtain ⟨hE,hp⟩:=mem_fromE.mp (show (E,j) ∈ L7 F ky.p by rw [ee];exact ZJ _ ZO)
   have pl:p.length <= 100:=by
    have h1:=a1D F ky.p;rw [ee,ZW] at h1
    have:=F6.2.2.2.2.1
    omega
   obtain ⟨og,m2,oc⟩:=a9E wf P hF hE hp hd top en0 pl;rw [List.foldl_append] at hN1;have e1:[(E,j)].foldl (E8 c ky s.I.length) (p.foldl (E8 c ky s.I.length) s1)=E8 c ky s.I.length (p.foldl (E8 c ky s.I.length) s1) (E,j):=rfl;rw [e1] at hN1;have mP:=P.mid;clear e1 P;generalize p.foldl (E8 c ky s.I.length) s1=s2 at *;unfold E8 at hN1;dsimp only at hN1;simp only [neD,VV];refine ⟨trivial,?_⟩;left;simp only [VV1];refine ⟨P5 a4.se rfl,h0,C,zr3,s2,c,s.I.length,j,ky,F,E,rfl,wf,a4,mP,hF,ZT hE,hd,og,λ h5 a5=>?_⟩;subst hN
   (try dsimp only);refine u6 λ A1 B1 hA hB=>?_;have k1:(Str.ofString "step" == Str.ofString "call")=false:=by decide +kernel
   have k2:(Str.ofString "call" == Str.ofString "call")=true:=by decide +kernel
   have k3:PyData.strOk @L=true:=by decide +kernel
   have k4:PyData.strOk @O=true:=by decide +kernel
   have k5:PyData.strOk @L=true:=k3
   cases hk:E.k with
   |step tt =>
    have is:E.isStep=true:=by unfold Edge.isStep;rw [hk]
    have ew:E.word=Str.ofString "step":=by unfold Edge.word;rw [hk]
    rw [if_pos is] at hN1;simp only [b8B,ew,k1,k3,k4,VV];subst hB;show B;exact hN1 _ _ ⟨⟨_,_,rfl⟩,_,a5⟩
   |call g i t o =>
    have is:¬ E.isStep=true:=by unfold Edge.isStep;rw [hk];exact ZR
    have ew:E.word=Str.ofString "call":=by unfold Edge.word;rw [hk]
    obtain ⟨n2,o1,o2,o3,o4,o5,o6⟩:=oc g i t o hk;rw [if_neg is] at hN1;simp only [b8B,ew,k2,k3,k4,VV];subst hA;simp only [VV1];exact ⟨P5 a5.se rfl,h0,C,zr3,_,c,s.I.length,j,ky,E,g,i,t,o,F.facts,n2,rfl,wf,a5,m2,hk,o1,hd,o2,o3,o4,o5,o6,λ zr' h6 a6=>hN1 _ _ ⟨⟨_,_,rfl⟩,_,a6⟩⟩
  ·rintro δ h' ⟨_,zr3,a4⟩
   show B;exact q _ _ a4
 (try dsimp only);refine u6 λ A1 B1 hA hB=>?_;simp only [V6 a2.se,t0,t2,VV0];refine ⟨cD C,C,ky.f,F,rfl,ChD.of _ C,hF,?_⟩
 by_cases exi:ky.p + 1=F.places
 ·have d1:((ky.p:Int) == (F.places:Int) - 1)=true:=beq_iff_eq.mpr @P;show Ad;subst hA;simp only [VV1];refine ⟨P5 a2.se rfl,h0,C,zr,B6 s n (c,ky,r),c,s.I.length,ky,rfl,wf,a2,m0,f6,by right,?_,b0J wf fu top hF hd exi,λ zr' h' a3=>main zr' h' ?_⟩
  ·have:=fu.rc.el ky.f ky.a
   show (s.en ky.f ky.a).length < _;omega
  ·unfold F9;rw [if_pos exi];exact a3
 ·have d1:((ky.p:Int) == (F.places:Int) - 1)=false:=beq_eq_false_iff_ne.mpr @P;show Ad;subst hB;show B;refine main zr _ ?_;unfold F9;rw [if_neg exi];exact a2
theorem b9o{f:Addr}{fd:FuncData}(F:Fun K "settle" "Search.settle" Q8 f fd)(T:Txt P w K mg)(C_q29:Cal P w K mg base 1 "exit_of" ["chart","f"] (spD K 2 Y4))(C_q9:C5 P w K mg base 6 "Search" "come_to_end" ["self","cost","key","k"] (spD K 4 a8e))(C_q28:Cal P w K mg base 1 "edges_from" ["chart","f","p"] (spD K 3 a6n))(C_q11:C5 P w K mg base 5 "Search" "go_past" ["self","cost","key","k","n","edge"] (spD K 6 a3j))(C_q10:C5 P w K mg base 6 "Search" "go_in" ["self","cost","key","k","n","edge"] (spD K 6 a3t)):n8 P w K mg base CX0 7 f fd ["self","cost","key","row"] (spD K 4 a3y) :=
 m9 (k:=6) (b:=a3I) F sc_q12 (λ cdv A outer s H E hr=>by
  show C
  ·exact j4 (i:=4) sc_q12.nd rfl @E (s9 F3 rfl T.b_len PySem.boot_len (b6 (m8 T.f_rows (sv 0)) c7))
  refine c8 (t7 (y9 (m8 T.f_rows (sv 0)) @Au)) ?_;refine c8 (a1f hr.units (m8 T.f_found (sv 0)) (sv 2) (sv 4)) ?_;show C
  ·refine y1 ?_ ?_ m5
   ·exact j6 @Az @K (j1 C_q29 @A rfl (b6 (m8 T.f_chart (sv 0)) (b6 @K c7)))
   show M;refine t7 ?_;exact B9 C_q9 @A (sv 0) (b6 (sv 1) (b6 (sv 2) (b6 (sv 4) c7)))
  show M;refine F1 PassesOwn.never rfl ?_ ?_ ?_
  ·exact J7 (j1 C_q28 @A rfl (b6 (m8 T.f_chart (sv 0)) (b6 @K (b6 @K c7))))
  ·exact a2d rfl (y7 (j9 (i:=5) sc_q12.nd rfl @E) (y7 (j9 (i:=6) sc_q12.nd rfl @E) S6))
  show C
  ·refine t7 ?_;exact B9 C_q11 @A (sv 0) (b6 (sv 1) (b6 (sv 2) (b6 (sv 4) (b6 (sv 5) (b6 (sv 6) c7)))))
  show M;refine y1 (j6 @Az (d8 c9 (sv 6) b9) m7) ?_ m5;show M;refine t7 ?_;exact B9 C_q10 @A (sv 0) (b6 (sv 1) (b6 (sv 2) (b6 (sv 4) (b6 (sv 5) (b6 (sv 6) c7)))))) b4f
def a8O:DS:=(i6 (k8 (a1x "Search" b0U (b7 (b8 0) f9)) (f8 1))
  (i6 (y8 (B2 "Search" "begin" b0A (b8 1) f9))
  (i6 (k8 (B2 "Offers" "settled" a6K (dUn (p5 "Search" "offers") (b8 1)) f9) (f8 2))
  (i6 (W3 (o9 (dOp (pIs true) (b8 2) @AA)) (i6 (y8 (B2 "Search" "settle" a3y (b8 1) (b7 (dOp pIx (b8 2) @H) (b7 (dOp pIx (b8 2) @F) (b7 (dOp pIx (b8 2) @R) f9)))))
  (k8 (B2 "Offers" "settled" a6K (dUn (p5 "Search" "offers") (b8 1)) f9) (f8 2))))
  (p8 (v7 (b7 (dUn (p5 "Search" "rows") (b8 1)) (b7 (dUn (p5 "Search" "found") (b8 1)) f9))))))))
def a5d:DSp:=λ ds h Q=>∃ C,ds=[cD C]/\WF C/\∀ (rs:List Row) (I:List @Ak) (g:Hh) (i j:Nat),Done C rs I->rs.length=I.length->I.length <= 2160->(∀ x ∈ I,K4 C x.1.t)->(h ++ g)[i]?=some (.lst (rs.map rD))->(h ++ g)[j]?=some (.dT none (tbD (fnd I)))->h.length <= j->Q (.tup [.ref i,.ref j]) (h ++ g)
theorem b2I:∀ ds h Q,a5d ds h Q->j2 3 a8O ds h Q:=by
 rintro ds h Q ⟨C,rfl,wf,q⟩
 delta j2 a8O;show N;show B;refine ⟨h.length,C,rfl,v6 _ _,rfl,?_⟩
 have a0:At h C ⟨[],[],[]⟩ se0 ((h ++ [O.ins "Search" []]).set h.length (.ins "Search" [("chart",cD C),("offers",.ref (h ++ [O.ins "Search" []]).length),("rows",.ref ((h ++ [O.ins "Search" []]).length + 4)),("found",.ref ((h ++ [O.ins "Search" []]).length + 5)),("calls",.ref ((h ++ [O.ins "Search" []]).length + 6)),("ends",.ref ((h ++ [O.ins "Search" []]).length + 7))]) ++ [.ins "Offers" [("queue",.ref ((h ++ [O.ins "Search" []]).length + 1)),("least",.ref ((h ++ [O.ins "Search" []]).length + 3))],qO ((h ++ [O.ins "Search" []]).length + 2) 0,.lst [],.dT none [],.lst [],.dT none [],.dT none [],.dT none []]):=by
  refine ⟨[],?_,.refl _,λ i _ h=>absurd h (Nat.not_lt_zero _),Dy.nil _ _ _,Dy.nil _ _ _⟩;rw [Zn _ _ @G,YV,ZW,ZL,Zt];rfl
 generalize ((h ++ [O.ins "Search" []]).set h.length (.ins "Search" [("chart",cD C),("offers",.ref (h ++ [O.ins "Search" []]).length),("rows",.ref ((h ++ [O.ins "Search" []]).length + 4)),("found",.ref ((h ++ [O.ins "Search" []]).length + 5)),("calls",.ref ((h ++ [O.ins "Search" []]).length + 6)),("ends",.ref ((h ++ [O.ins "Search" []]).length + 7))]) ++ [.ins "Offers" [("queue",.ref ((h ++ [O.ins "Search" []]).length + 1)),("least",.ref ((h ++ [O.ins "Search" []]).length + 3))],qO ((h ++ [O.ins "Search" []]).length + 2) 0,.lst [],.dT none [],.lst [],.dT none [],.dT none [],.dT none []])=h1 at *;show E;simp only [VV1];refine ⟨P5 a0.se rfl,h,C,_,rfl,wf,a0,λ h2 a2=>?_⟩;obtain ⟨fu,e0⟩:=c0g wf;show E
 have main:∀ m δ h',((∃ zr s',Full C s'/\s'.pd=[]/\δ=[some (cD C),some (.ref h.length),some .non]/\At h C zr s' h')\/(∃ (zr:N9) (s':Se) (n:Nat) (x:Of),Full C s'/\m=2161 - s'.I.length/\n ∈ s'.pd/\s'.T[n]?=some x/\look s'.L x.2.1.t=some x.1/\(∀ k ∈ s'.pd,∀ y:Of,s'.T[k]?=some y->x.1 <= y.1)/\δ=[some (cD C),some (.ref h.length),some (.tup [nD x.1,tkD x.2.1.t,rD x.2.2])]/\At h C zr (y0 s' n) h'))->N δ h':=by
  intro m0 δ0 h3 p0;show E;refine T7 (λ m δ h'=>(∃ zr s',Full C s'/\s'.pd=[]/\δ=[some (cD C),some (.ref h.length),some .non]/\At h C zr s' h')\/(∃ (zr:N9) (s':Se) (n:Nat) (x:Of),Full C s'/\m=2161 - s'.I.length/\n ∈ s'.pd/\s'.T[n]?=some x/\look s'.L x.2.1.t=some x.1/\(∀ k ∈ s'.pd,∀ y:Of,s'.T[k]?=some y->x.1 <= y.1)/\δ=[some (cD C),some (.ref h.length),some (.tup [nD x.1,tkD x.2.1.t,rD x.2.2])]/\At h C zr (y0 s' n) h')) (m:=m0) p0 ?_
  rintro m δ h' N1 (⟨zr,s',f',pd,rfl,a'⟩ | ⟨zr,s',n,x,f',rfl,hn,ex,el,mn,rfl,a'⟩) hN1
  ·show B;subst hN;simp only [a1d a'.se,a1R a'.se,VV0];have r5:=a'.rows;have r6:=a'.found;obtain ⟨hs,rfl,_⟩:=a'.ex;exact q s'.rs s'.I _ _ _ (f'.done pd) f'.mid.rlen (f'.mid.Ifew wf) (λ x hx=>f'.mid.kI wf (c:=x.2) hx) r5 r6 (YU _ _)
  ·obtain ⟨F,hF,hA,hP,hD⟩:=f'.mid.kT wf ex;obtain ⟨f2,eI⟩:=f'.settle wf hn ex el mn hF hD;have il:=f2.mid.Ifew wf;rw [eI,ZW,ZL] at il;show B;left;simp only [VV1];refine ⟨P5 a'.se rfl,h,C,zr,s',n,x,F,rfl,wf,a',f',hn,ex,el,mn,hF,hA,hD,λ zr2 h4 a4=>?_⟩;subst hN;simp only [D7 a4.se,VV3];refine ⟨a1i a4.of rfl,h,C,zr2,_,rfl,wf,a4,f2,λ s3 h5 f3 i3 p3 a5=>?_,λ s3 n3 x3 h5 f3 i3 hn3 ex3 el3 mn3 a5=>?_⟩
   ·exact hN1 0 _ _ @P (.inl ⟨_,s3,f3,p3,rfl,a5⟩)
   ·exact hN1 (2161 - s3.I.length) _ _ (by rw [i3,eI,ZW,ZL];omega) (.inr ⟨_,s3,n3,x3,f3,rfl,hn3,ex3,el3,mn3,rfl,a5⟩)
 simp only [D7 a2.se,VV3];refine ⟨a1i a2.of rfl,h,C,_,_,rfl,wf,a2,fu,λ s3 h5 f3 i3 p3 a5=>main 0 _ _ (.inl ⟨_,s3,f3,p3,rfl,a5⟩),λ s3 n3 x3 h5 f3 i3 hn3 ex3 el3 mn3 a5=>main _ _ _ (.inr ⟨_,s3,n3,x3,f3,rfl,hn3,ex3,el3,mn3,rfl,a5⟩)⟩
theorem b6H{f:Addr}{fd:FuncData}(F:Fun K "inner" "inner" b0k f fd)(T:Txt P w K mg)(C_q7:C5 P w K mg base 5 "Search" "begin" ["self"] (spD K 1 b0A))(C_q2:C5 P w K mg base 5 "Offers" "settled" ["self"] (spD K 1 a6K))(C_q12:C5 P w K mg base 7 "Search" "settle" ["self","cost","key","row"] (spD K 4 a3y))(M_Search:X5 P w K mg base 5 "Search" ["self","chart"] (spD K 2 b0U)):n8 P w K mg base CX0 8 f fd ["chart"] (spD K 1 a5d) :=
 m9 (k:=7) (b:=a8O) F sc_q32 (λ cdv A outer s H E hr=>by
  show C
  ·exact j4 (i:=1) sc_q32.nd rfl @E (b4W M_Search @A rfl (b6 (sv 0) c7))
  refine c8 (t7 (L8 C_q7 @A (sv 1))) ?_;show C
  ·exact j4 (i:=2) sc_q32.nd rfl @E (L8 C_q2 @A (m8 T.f_offers (sv 1)))
  show C
  ·refine a0s PassesOwn.never (j6 a0R (sv 2) n5) ?_;show C
   ·refine t7 ?_;exact B9 C_q12 @A (sv 1) (b6 @K (b6 @K (b6 @K c7)))
   show M;exact j4 (i:=2) sc_q32.nd rfl @E (L8 C_q2 @A (m8 T.f_offers (sv 1)))
  show L;exact l9 (b6 (m8 T.f_rows (sv 1)) (b6 (m8 T.f_found (sv 1)) c7))) b2I
def a7R:DS:=(i6 (k8 (o7 a5d (b7 (b8 0) f9)) (f8 1))
  (i6 (k8 (o7 a5R (b7 (b8 0) (b7 @H (b7 (dOp pIx (b8 1) @H) f9)))) (f8 2))
  (i6 (k8 (dV (B3 [none] (O9 (b8 0)) (f8 0) D9 a1g)) (f8 3))
  (i6 (b0s (a5o (dOp pIx (b8 1) @F)) (a6D 2 (A7 (f8 4) (A7 (f8 5) a0Z))) (x0 (o9 (dOp @AF (dOp pIx (b8 4) @R) (o7 Y4 (b7 (b8 0) (b7 (dOp pIx (b8 4) @H) f9))))) (a1U (dOp pIx (b8 3) (dOp pIx (b8 4) @H)) (v7 (b7 (dOp pIx (b8 4) @F) (b7 (dOp pIx (b8 4) @Am) f9))) (dOp pIx (dOp pIx (b8 2) (b8 5)) (dC (.int 5)))) p7))
  (p8 (b8 3))))))
def a5D:DSp:=λ ds h Q=>∃ C,ds=[cD C]/\WF C/\∀ (rs:List Row) (I:List @Ak) (hb:Hh),Done C rs I->Pre h hb->(∀ x ∈ I,K4 C x.1.t)->I.length <= 2160->Q (.lst ((List.range C.length).map λ f=>.ref (hb.length + f))) (hb ++ dcs C I)
theorem b3f:∀ ds h Q,a5D ds h Q->j2 6 a7R ds h Q:=by
 rintro ds h Q ⟨C,rfl,wf,q⟩
 delta j2 a7R;show N;show B;refine ⟨C,rfl,wf,λ rs I g i j dn rl il kI e1 e2 hj=>?_⟩;show E;show B;refine ⟨cD C,.ref i,C,rs,0,u7 I,rfl,ChD.of _ C,wf,p9 e1,by right,dn.pap,?_⟩;show E;simp only [cD,VV];have c6:=wf.six;refine ⟨by rw [ZS];omega,?_⟩;have hb0:Pre h (h ++ g ++ [O.lst ((u7 I).map clD)]):=by rw [Zt];exact Pre.app _ _
 have et:(h ++ g ++ [O.lst ((u7 I).map clD)])[(h ++ g).length]?=some (.lst ((u7 I).map clD)):=v6 _ _;have ej:(h ++ g ++ [O.lst ((u7 I).map clD)])[j]?=some (.dT none (tbD (fnd I))):=H9 e2;have hjl:j < (h ++ g).length:=(ZY.mp e2).1;generalize (h ++ g).length=tl at *;generalize h ++ g ++ [O.lst ((u7 I).map clD)]=hb at *;refine D3 (λ p acc δ h'=>(∃ x,δ=[x])/\acc=(List.range p.length).map (λ f=>.ref (hb.length + f))/\h'=hb ++ List.replicate p.length (.dT none [])) ⟨⟨_,rfl⟩,rfl,by simp⟩ (λ _ _ _ _ _=>Src.ok_nil) ?_ ?_
 ·rintro p F r acc δ h' N1 e ⟨⟨_,rfl⟩,rfl,rfl⟩ hN1
  show B;rw [ZW,List.length_replicate];refine hN1 _ _ _ ⟨⟨_,rfl⟩,?_,?_⟩
  ·rw [ZW,ZL,List.range_succ,Zz];rfl
  ·rw [ZW,ZL,List.replicate_succ',Zt]
 ·rintro acc δ h' ⟨_,rfl,rfl⟩
  rw [<- b3c];have ln:∀ l,(dcs C l).length=C.length:=λ l=>by unfold dcs;rw [ZS,Zv]
  have jl:j < hb.length:=(ZY.mp ej).1;have gb:∀ {k:Nat} {o:O} (l),hb[k]?=some o->(hb ++ dcs C l)[k]?=some o:=λ l e=>by rw [ZN (ZY.mp e).1];exact e
  show E;refine b3g (i:=j) (m:=fnd I) pkD (λ Q' hk=>?_) (λ p δ h'=>(∃ x4 x5,δ=[some (cD C),some (.tup [.ref i,.ref j]),some (.ref tl),some (.lst ((List.range C.length).map λ f=>.ref (hb.length + f))),x4,x5])/\h'=hb ++ dcs C (I.take p.length)) ⟨⟨_,_,rfl⟩,rfl⟩ (λ p δ h' hp=>?_) ?_ ?_
  ·have e9:=gb [] ej;simp only [e9,VV];rw [a7T];exact hk
  ·rw [hp.2];exact gb _ ej
  ·rintro p x r δ h' o N1 X1 R X2 ee ⟨⟨_,_,rfl⟩,rfl⟩ hN1 hR
   obtain ⟨y,hy,rfl,tk⟩:=b7n ee;obtain ⟨f,a,q',d,F,ek,hF,_,_,_⟩:=kI y (ZT hy);obtain ⟨⟨yf,ya,yp,yd⟩,yc⟩:=y;have ek:[yf,ya,yp,yd]=[f,a,q',d]:=ek
   injection ek with k1 ek
   injection ek with k2 ek
   injection ek with k3 ek
   injection ek with k4 _
   subst k1 k2 k3 k4;have fl:yf < C.length:=(ZY.mp hF).1;have pl:(p ++ [(Ky.t ⟨yf,ya,yp,yd⟩,p.length)]).length=p.length + 1:=by simp
   have t0:∀ h,ixD h (tkD (Ky.t ⟨yf,ya,yp,yd⟩)) (.int 0)=some (nD yf):=λ _=>rfl;have t1:∀ h,ixD h (tkD (Ky.t ⟨yf,ya,yp,yd⟩)) (.int 1)=some (nD ya):=λ _=>rfl;have t2:∀ h,ixD h (tkD (Ky.t ⟨yf,ya,yp,yd⟩)) (.int 2)=some (nD yp):=λ _=>rfl;have t3:∀ h,ixD h (tkD (Ky.t ⟨yf,ya,yp,yd⟩)) (.int 3)=some (nD yd):=λ _=>rfl;refine c2D ?_
   (try dsimp only);refine u6 λ A1 B1 hA hB=>?_;simp only [t0,t2,VV];refine ⟨cD C,C,yf,F,rfl,ChD.of _ C,hF,?_⟩
   by_cases exi:yp + 1=F.places
   ·have d1:((yp:Int) == (F.places:Int) - 1)=true:=beq_iff_eq.mpr @P;have xb:E7 C ⟨yf,ya,yp,yd⟩=true:=by unfold E7;rw [hF];exact decide_eq_true exi
    show Ad;subst hA;have tlj:j ≠ tl:=Zp hjl;have et2:(fz j o (fnd I) (hb ++ dcs C (I.take p.length)))[tl]?=some (.lst ((u7 I).map clD)):=by rw [b5K tlj];exact gb _ et
    have ic:atI ((u7 I).map clD) (p.length:Int)=some (clD (.within yf ya yp yd yc)):=by
     rw [atN];unfold u7;rw [ZP,ZP,hy];rfl
    have id:atI ((List.range C.length).map λ f=>D.ref (hb.length + f)) (yf:Int)=some (.ref (hb.length + yf)):=by
     rw [atN,ZP,Zf fl];rfl
    simp only [F7 (p9 et2),ic,clD,t0,t1,t3,id,VV]
    have ed:(fz j o (fnd I) (hb ++ dcs C (I.take p.length)))[hb.length + yf]?=some (.dT none (tbD (shN C yf (I.take p.length)))):=by
     rw [b5K @P,w9];exact U3 fl
    refine N7 (k:=[ya,yd]) ed ?_ ?_
    ·unfold shN;rw [ZS];have h1:=List.length_filter_le (λ x:Ky×Nat=>decide (x.1.f=yf) && E7 C x.1) (I.take p.length);rw [YM] at h1;omega
    ·rw [b6Y @P,B4];have sn:=b2T dn.nd hy xb yc;dsimp only at sn;rw [sn,b5o (y:=(⟨yf,ya,yp,yd⟩,yc)) xb fl,<- tk];exact hN1 _ _ ⟨⟨_,_,rfl⟩,by rw [pl]⟩
   ·have d1:((yp:Int) == (F.places:Int) - 1)=false:=beq_eq_false_iff_ne.mpr @P;have xb:E7 C ⟨yf,ya,yp,yd⟩=false:=by unfold E7;rw [hF];exact decide_eq_false exi
    show Ad;subst hB;show B;refine hN1 _ _ ⟨⟨_,_,rfl⟩,?_⟩;rw [pl,tk,a8f xb]
  ·rintro δ h' ⟨⟨_,_,rfl⟩,rfl⟩
   subst hN;show B;rw [a5q,List.take_length];exact q rs I hb dn hb0 kI il
theorem b6q{f:Addr}{fd:FuncData}(F:Fun K "all_shorts" "all_shorts" a7P f fd)(T:Txt P w K mg)(C_q32:Cal P w K mg base 8 "inner" ["chart"] (spD K 1 a5d))(C_q25:Cal P w K mg base 6 "claims" ["chart","start","rows"] (spD K 3 a5R))(C_q29:Cal P w K mg base 1 "exit_of" ["chart","f"] (spD K 2 Y4)):n8 P w K mg base CX0 9 f fd ["chart"] (spD K 1 a5D) :=
 m9 (k:=8) (b:=a7R) F sc_q19 (λ cdv A outer s H E hr=>by
  show C
  ·exact j4 (i:=1) sc_q19.nd rfl @E (j1 C_q32 @A rfl (b6 (sv 0) c7))
  show C
  ·refine j4 (i:=2) sc_q19.nd rfl @E ?_;exact j1 C_q25 @A rfl (b6 (sv 0) (b6 b9 (b6 @Ah c7)))
  show C
  ·exact S9 (i:=3) (hN:=sc_q19.nd) (hix:=rfl) (hx:=@E) rfl (N':= ["function"]) (js:=[none]) ⟨rfl,by decide +kernel,rfl,rfl,rfl⟩ (J7 (sv 0)) (λ s0 H0 fp=>⟨(j9 (i:=0) (show (["function"]:List Str).Nodup by decide +kernel) rfl @E),C9,N0⟩)
  refine c8 ?_ (d9 (l7 (sv 3)));exact b6r PassesOwn.never rfl (a8E @Ah) (a2d rfl (y7 (j9 (i:=4) sc_q19.nd rfl @E) (y7 (j9 (i:=5) sc_q19.nd rfl @E) S6))) (d9 (y1 (j6 @Az @Ay (j1 C_q29 @A rfl (b6 (sv 0) (b6 @Ay c7)))) (d9 (a1f hr.units (d8 c9 (sv 3) @Ay) (l9 (b6 @Ay (b6 @Ay c7))) (d8 c9 (d8 c9 (sv 2) (sv 5)) b9))) m5))) b3f
def a9Y:DS:=(p8 (dOp pIx (o7 a5D (b7 (b8 0) f9)) (b8 1)))
def a5T:DSp:=λ ds h Q=>∃ C f F,ds=[cD C,nD f]/\WF C/\C[f]?=some F/\∀ (rs:List Row) (I:List @Ak) (hb:Hh),Done C rs I->Pre h hb->(∀ x ∈ I,K4 C x.1.t)->I.length <= 2160->Q (.ref (hb.length + f)) (hb ++ dcs C I)
theorem b2L:∀ ds h Q,a5T ds h Q->j2 2 a9Y ds h Q:=by
 rintro ds h Q ⟨C,f,F,rfl,wf,hF,q⟩
 delta j2 a9Y;simp only [VS];show B;refine ⟨C,rfl,wf,λ rs I hb dn pr kI il=>?_⟩
 have id:atI ((List.range C.length).map λ f=>D.ref (hb.length + f)) (f:Int)=some (.ref (hb.length + f)):=by
  rw [atN,ZP,Zf (ZY.mp hF).1];rfl
 simp only [id,VV];exact q rs I hb dn pr kI il
theorem b6R{f:Addr}{fd:FuncData}(F:Fun K "shorts" "shorts" a8t f fd)(T:Txt P w K mg)(C_q19:Cal P w K mg base 9 "all_shorts" ["chart"] (spD K 1 a5D)):n8 P w K mg base CX0 10 f fd ["chart","f"] (spD K 2 a5T) :=
 m9 (k:=9) (b:=a9Y) F b7a (λ cdv A outer s H E hr=>by
  show L;exact d8 c9 (j1 C_q19 @A rfl (b6 (sv 0) c7)) (sv 1)) b2L
def b0P:DS:=(p8 (dOp O0 (dOp n4 (dOp n4 (dOp S0 (dOp O0 (b8 0) (dOp b7u (dC (.int 10)) (dC (.int 40)))) (dC (.int 982451653))) (dOp S0 (dC (.int 104395303)) (b8 1))) (dC (.int 7919))) (dC (.int 2305843009213693951))))
def a1Y:DSp:=λ ds h Q=>∃ (c:Int) (k:Nat),ds=[.int c,nD k]/\k <= 1000/\∀ r:Nat,Q (nD r) h
theorem b2J:∀ ds h Q,a1Y ds h Q->j2 2 b0P ds h Q:=by
 rintro ds h Q ⟨c,k,rfl,hk,q⟩
 delta j2 b0P;simp only [VS];show B;refine ⟨⟨by decide,by decide,by decide⟩,by decide,c0s @B,a4S @B,by decide,?_⟩;have h0:=Int.emod_nonneg (c % 10 ^ Int.toNat 40 * 982451653 + 104395303 * (k:Int) + 7919) (show (2305843009213693951:Int) ≠ 0 by decide);obtain ⟨r,e⟩:=Int.eq_ofNat_of_zero_le h0;rw [e];exact q r
theorem b6G{f:Addr}{fd:FuncData}(F:Fun K "_law_number" "_law_number" a9T f fd)(T:Txt P w K mg):n8 P w K mg base CX0 1 f fd ["_law_cell_here","_law_k"] (spD K 2 a1Y) :=
 m9 (k:=0) (b:=b0P) F b9E (λ cdv A outer s H E hr=>by
  show L;exact i7 z9 (i7 j5 (i7 j5 (i7 A5 (i7 z9 (sv 0) (i7 a7F b9 b9)) b9) (i7 A5 b9 (sv 1))) b9) b9) b2J
def a9l:DS:=(i6 (x0 (o9 (dOp a1n (b8 1) (dCB Z9 (b7 (b8 0) f9)))) (p8 (dOp pIx (b8 0) (b8 1))) p7)
  (p8 (dOp n4 (dCB c0H (b7 (dSl (b8 0) a0f (a6e (dC (.int 6)))) f9)) (dOp S0 (dOp S0 (dC (.int 31)) (b8 1)) (b8 1)))))
def F8:DSp:=λ ds h Q=>∃ (ns:List Int) (k:Nat),ds=[.scr (ns.map .int),nD k]/\ns.length <= 63/\k <= 1000/\∀ r:Int,Q (.int r) h
theorem b5d:∀ ds h Q,F8 ds h Q->j2 2 a9l ds h Q:=by
 rintro ds h Q ⟨ns,k,rfl,hl,hk,q⟩
 delta j2 a9l;show N
 by_cases z:k < ns.length
 ·have e1:atI @AP (k:Int)=some (.int ns[k]):=by rw [atN,ZP,ZZ z];rfl
  have e2:((k:Int) < (ns.length:Int)):=by right
  simp only [List.length_map,e1,e2,VV];exact q _
 ·have e2:¬ ((k:Int) < (ns.length:Int)):=by right
  simp only [List.length_map,e2,VV];subst hN;show B
  obtain ⟨ms,ec⟩:∃ ms:List Int,a3N @AP none (some 6)=ms.map D.int:=by
   unfold a3N;exact ⟨_,by rw [<- List.map_drop,<- List.map_take]⟩
  rw [ec];refine ⟨.lst (ms.map D.int),ms,rfl,rfl,?_⟩;show B;exact ⟨a4S @P,a4S @P,q _⟩
theorem b6W{f:Addr}{fd:FuncData}(F:Fun K "_law_cell" "_law_cell" b0f f fd)(T:Txt P w K mg):n8 P w K mg base CX0 1 f fd ["_law_script","_law_k"] (spD K 2 F8) :=
 m9 (k:=0) (b:=a9l) F b8j (λ cdv A outer s H E hr=>by
  show C
  ·refine y1 ?_ (d9 (l7 (d8 c9 (sv 0) (sv 1)))) m5;exact j6 J6 (sv 1) @Aw
  show L;exact i7 j5 (s9 (b7B rfl) rfl T.b_sum PyProof.Rows.boot_sum (b6 (b0y (sv 0) a2W (a2s b9)) c7)) (i7 A5 (i7 A5 b9 (sv 1)) (sv 1))) b5d
def b1s:DS:=(p8 (dOp n4 @F (dOp pIx (dV (b7 (dOp O0 (dOp a6R (b8 0) @R) (dC (.int 9))) (b7 (dOp O0 (o7 a1Y (b7 (b8 0) (b7 @F f9))) (dOp b7u (dC (.int 10)) (dC (.int 18)))) f9))) (dOp O0 (b8 0) @R))))
def a5S:DSp:=λ ds h Q=>∃ c:Int,ds=[.int c]/\∀ r:Nat,1 <= r->r <= 10 ^ 18->Q (nD r) h
theorem b4T:∀ ds h Q,a5S ds h Q->j2 1 b1s ds h Q:=by
 rintro ds h Q ⟨c,rfl,q⟩
 delta j2 b1s;simp only [VS];show B;refine ⟨⟨by decide,by decide⟩,by decide,c,1,rfl,by decide,λ r=>?_⟩;show B;refine ⟨⟨by decide,by decide,by decide⟩,by decide,by decide,?_⟩;have h0:=Int.emod_nonneg (c / 2) (show (9:Int) ≠ 0 by decide);have h1:=Int.emod_lt_of_pos (c / 2) (show (0:Int) < 9 by decide);have e18:(10:Int) ^ Int.toNat 18=1000000000000000000:=by decide
 rw [e18];have e18':(10:Nat) ^ 18=1000000000000000000:=by decide
 rw [e18'] at q;have cm:c % 2=0\/c % 2=1:=by right
 rcases cm with e | e
 ·rw [e];show B
  have:=q (1 + (c / 2 % 9).toNat) @P @P
  rw [show nD (1 + (c / 2 % 9).toNat) = .int (1 + c / 2 % 9) from congrArg D.int @P] at this;exact this
 ·rw [e];show B
  have:=q (1 + r % 1000000000000000000) @P @P
  rw [show nD (1 + r % 1000000000000000000) = .int (1 + (r:Int) % 1000000000000000000) from congrArg D.int @P] at this;exact this
theorem b7d{f:Addr}{fd:FuncData}(F:Fun K "_law_cost" "_law_cost" b0t f fd)(T:Txt P w K mg)(C_q17:Cal P w K mg base 1 "_law_number" ["_law_cell_here","_law_k"] (spD K 2 a1Y)):n8 P w K mg base CX0 2 f fd ["_law_cell_here"] (spD K 1 a5S) :=
 m9 (k:=1) (b:=b1s) F b8K (λ cdv A outer s H E hr=>by
  show L;exact i7 j5 b9 (d8 c9 (T5 (F4 (b6 (i7 z9 (i7 a0F (sv 0) b9) b9) (b6 (i7 z9 (j1 C_q17 @A rfl @AW) (i7 a7F b9 b9)) c7)))) (i7 z9 (sv 0) b9))) b4T
def b1z:DS:=(i6 (k8 (dOp @AF (b8 1) (dOp Z2 (b8 2) @F)) (f8 5))
  (i6 (k8 (dV (B3 [none,some 0,some 1] (u9 (b7 @AT f9)) (f8 0) D9 (o7 a5S (b7 (o7 F8 (b7 (b8 1) (b7 (dOp n4 (dOp n4 (dC (.int 6)) (dOp S0 @AT (b8 2))) (b8 0)) f9))) f9)))) (f8 6))
  (i6 (k8 (dCB P3 (b7 (dV (B3 [none] (u9 @At) (f8 0) D9 (dOp a6Z @F (b8 0)))) f9)) (f8 7))
  (i6 (k8 (b8 7) (f8 8))
  (i6 (x0 (dTr (b8 5)) (i6 (k8 (dCB P3 (b7 (dV (B3 [none,some 3] (u9 @At) (f8 0) D9 (dOp a6Z (dCB a4U (b7 (dOp a1n (dOp n4 (b8 0) @F) (b8 1)) f9)) (dOp n4 (b8 0) @F)))) f9)) (f8 7))
  (k8 (dCB P3 (b7 (dV (B3 [none] (u9 @At) (f8 0) D9 (dOp a6Z (dCB a4U (b7 (dOp pGt (b8 0) @H) f9)) (dCB b8C (b7 (dOp Z2 (b8 0) @F) (b7 @H f9)))))) f9)) (f8 8))) p7)
  (i6 (k8 (dTk (B3 [none,some 5,some 3] (u9 @At) (f8 0) D9 (dCB a4U (b7 (a9B (b8 1) (dOp @AF (b8 0) (dOp Z2 (b8 2) @F))) f9)))) (f8 9))
  (i6 (Q1 (u9 @At) (f8 10) (x0 (o9 (dOp @AF (dOp O0 (dOp a6R (o7 a1Y (b7 (o7 F8 (b7 (b8 0) (b7 (dOp n4 (dC (.int 30)) (b8 1)) f9))) (b7 (b8 10) f9))) (dC (.int 7))) (dC (.int 5))) @F)) (k8 @F (a0x (b8 9) (b8 10))) p7))
  (i6 (k8 (dTk f9) (f8 11))
  (i6 (x0 (dTr (b8 4)) (y8 (C0 (b8 11) (b7 (v7 (b7 (dC (.str "step")) (b7 @H (b7 @F (b7 (dOp pIx (b8 6) @Am) (b7 (dCB P3 (b7 (dV (B3 [none] (u9 @At) (f8 0) D9 (dOp a6Z @F (b8 0)))) f9)) f9)))))) f9))) p7)
  (i6 (k8 (dCB a4U (b7 (b8 4) f9)) (f8 12))
  (i6 (k8 (dOp b4l (v7 (b7 @H f9)) (b8 3)) (f8 13))
  (i6 (k8 (dOp O0 (dOp n4 (b8 1) @F) (b8 2)) (f8 14))
  (i6 (y8 (C0 (b8 11) (b7 (v7 (b7 (dC (.str "call")) (b7 (b8 12) (b7 (dOp n4 (b8 12) @F) (b7 (dOp pIx (b8 6) @H) (b7 (b8 14) (b7 (b8 7) (b7 (b8 8) (b7 (b8 13) f9))))))))) f9)))
  (i6 (y8 (C0 (b8 11) (b7 (v7 (b7 (dC (.str "call")) (b7 (dOp n4 (b8 12) @F) (b7 (dOp n4 (b8 12) @R) (b7 (dOp pIx (b8 6) @F) (b7 (b8 14) (b7 (b8 7) (b7 (b8 8) (b7 (b8 13) f9))))))))) f9)))
  (i6 (y8 (C0 (b8 11) (b7 (v7 (b7 (dC (.str "step")) (b7 (b8 12) (b7 (dOp n4 (b8 12) @R) (b7 (dOp pIx (b8 6) @R) (b7 (dCB P3 (b7 (dV (B3 [none,some 9] (u9 @At) (f8 0) D9 (dOp a6Z (dOp pIx (b8 1) (b8 0)) (b8 0)))) f9)) f9)))))) f9)))
  (p8 (dV (b7 (v7 (b7 (dOp n4 (b8 12) @Am) (b7 (b8 3) (b7 (b8 11) f9)))) (b7 (b8 9) (b7 (b8 6) f9))))))))))))))))))))
theorem a8g(b y:Nat):((b:Int) * 2 ^ ((y:Nat):Int).toNat:Int)=((b * 2 ^ y:Nat):Int):=by rw [ZB,Int.natCast_mul,Int.natCast_pow];rfl
def a5W:DSp:=λ ds h Q=>∃ (ns:List Int) (f many nf:Nat) (mo:Bool),ds=[.scr (ns.map .int),nD f,nD many,nD nf,.bl mo]/\ns.length <= 63/\f < many/\many <= 6/\1 <= nf/\nf <= 6/\∀ p,B7 nf p->Q (.lst [fD (fnE mo nf many f p),.lst (p.en.map nD),.lst [nD p.c0,nD p.c1,nD p.c2,nD p.c3]]) h
theorem b3y:∀ ds h Q,a5W ds h Q->j2 15 b1z ds h (Dr h Q):=by
 rintro ds h Q ⟨ns,f,many,nf,mo,rfl,hl,hf,hm,n1,n6,q⟩
 delta j2 b1z;show N;show B;show E;show B;refine ⟨⟨by decide,by decide⟩,by decide,?_⟩;rw [u8];refine D3 (λ p acc δ h'=>h'=h/\(∃ o,δ=[o,some (.scr @AP),some (nD f)])/\∃ cs:List Nat,acc=cs.map nD/\cs.length=p.length/\∀ c ∈ cs,1 <= c/\c <= 10 ^ 18) ⟨rfl,⟨_,rfl⟩,[],rfl,rfl,λ _ h=>nomatch h⟩ (λ _ _ _ _ _=>Src.ok_nil) ?_ ?_
 ·rintro p y r acc δ h' N1 e ⟨rfl,⟨o,rfl⟩,cs,rfl,lc,oc⟩ hN1
  have hy:y < 4:=Zo.mp (by
   have:y ∈ List.range (Int.toNat 4):=by rw [e];exact ZJ _ ZO
   exact this)
  show B;refine ⟨a4S @B,ns,6 + 4 * f + y,?_,hl,by right,λ r1=>⟨r1,rfl,λ c a1 a2=>hN1 _ _ _ ⟨rfl,⟨_,rfl⟩,cs ++ [c],?_,by rw [ZW,ZW,lc];rfl,λ c' hc=>?_⟩⟩⟩
  ·rw [show (6:Int) + 4 * (f:Int) + (0 + (y:Int))=((6 + 4 * f + y:Nat):Int) by right]
  ·rw [Zz];rfl
  ·rcases List.mem_append.mp hc with z | z
   ·exact oc c' z
   ·rw [ZX.mp z];exact ⟨a1,a2⟩
 ·rintro acc δ h' ⟨rfl,_,cs,rfl,lc,oc⟩
  obtain ⟨c0,c1,c2,c3,rfl⟩:∃ c0 c1 c2 c3,cs=[c0,c1,c2,c3]:=by
   match cs,lc with
   |[a,b,c,d],_=>exact ⟨a,b,c,d,rfl⟩
  have o0:=oc c0 @N;have o1:=oc c1 @N;have o2:=oc c2 @N;have o3:=oc c3 @N;clear oc lc
  have lf:(((f:Int)) == (many:Int) - 1)=decide (f + 1=many):=by
   by_cases z:f + 1=many
   ·rw [decide_eq_true z];exact beq_iff_eq.mpr @P
   ·rw [decide_eq_false z];exact beq_eq_false_iff_ne.mpr @P
  rw [lf]
  have rg:∀ (hh:Hh) (v:Nat->D) (te:DE) (fr:Sl) (Q':List D->Hh->Prop),(∀ y,y < nf->∀ K:DK,K (v y) hh->te (some (nD y) :: fr) hh K)->Q' ((List.range nf).map v) hh->L9 ⟨z0 0 (nf:Int).toNat,[]⟩ (f8 0) D9 te (z0 0 (nf:Int).toNat) [] (none :: fr) hh Q':=by
   intro hh v te fr Q' hv hq;rw [u8,ZB];exact a4A v Src.ok_nil none (λ y hy K k=>by rw [YN];exact hv y (Zo.mp hy) K k) hq
  have rb:(z0 0 (nf:Int).toNat).length <= 16777216:=by rw [u5,ZB];omega
  show E;show B;refine ⟨⟨by right,by right⟩,rb,rg _ (λ d=>nD (2 ^ d)) _ _ _ (λ y hy K k=>?_) ?_⟩
  ·show B;show Ak
   have:=a8g 1 y
   rw [Nat.one_mul] at this;rw [show (1:Int)=((1:Nat):Int) from rfl,this];exact k
  ·have mt:∀ g:Nat->Nat,D.tup ((List.range nf).map λ d=>nD (g d))=tD ((List.range nf).map g):=λ g=>by unfold tD;rw [Zd];rfl
   rw [mt (λ d=>2 ^ d),show (List.range nf).map (λ d=>2 ^ d)=idT nf from rfl];show E;show B;show E
   have main:N [some (D.scr @AP),some (nD f),some (nD many),some (nD nf),some (D.bl mo),some (D.bl (decide (f + 1=many))),some (D.lst [nD c0,nD c1,nD c2,nD c3]),some (tD (inT nf many f)),some (tD (hoT nf many f)),none,none,none,none,none,none] h':=by
    show E;show B;refine ⟨⟨by right,by right⟩,rb,rg _ (λ d=>nD (if f + 1=many/\d + 1=nf then 1 else 0)) _ _ _ (λ y hy K k=>?_) ?_⟩
    ·show B
     by_cases z:f + 1=many
     ·rw [if_pos (decide_eq_true z)]
      by_cases w:y + 1=nf
      ·rw [if_pos ⟨z,w⟩] at k;rw [if_pos (beq_iff_eq.mpr (show (y:Int)=(nf:Int) - 1 by right))];exact k
      ·rw [if_neg λ u=>w u.2] at k;rw [if_neg (by rw [beq_eq_false_iff_ne.mpr (show (y:Int) ≠ (nf:Int) - 1 by right)];exact ZR)];exact k
     ·rw [if_neg λ u=>z u.1] at k;rw [if_neg (by rw [decide_eq_false z];exact ZR)];exact k
    ·rw [show ((List.range nf).map λ d=>nD (if f + 1=many/\d + 1=nf then 1 else 0))=((List.range nf).map λ d=>if f + 1=many/\d + 1=nf then 1 else 0).map nD by rw [Zd];rfl];have el:((List.range nf).map λ d=>if f + 1=many/\d + 1=nf then 1 else 0).length=nf:=by rw [ZS,Zv]
     have e1:∀ e ∈ (List.range nf).map λ d=>if f + 1=many/\d + 1=nf then 1 else 0,e=0\/e=1:=λ e he=>by
      obtain ⟨d,_,rfl⟩:=ZG.mp he;split
      ·exact .inr rfl
      ·exact .inl rfl
     generalize (List.range nf).map (λ d=>if f + 1=many/\d + 1=nf then 1 else 0)=en at *;show E;show B;refine ⟨⟨by right,by right⟩,?_⟩;rw [u8,ZB];refine u0 (λ p δ h2=>(∃ x,δ=[some (D.scr @AP),some (nD f),some (nD many),some (nD nf),some (D.bl mo),some (D.bl (decide (f + 1=many))),some (D.lst [nD c0,nD c1,nD c2,nD c3]),some (tD (inT nf many f)),some (tD (hoT nf many f)),some (D.ref h'.length),x,none,none,none,none])/\∃ en:List Nat,h2=h' ++ [.lst @AO]/\en.length=nf/\∀ e ∈ en,e=0\/e=1) ⟨⟨_,rfl⟩,en,rfl,el,e1⟩ (λ _ _ _ _=>Src.ok_nil) ?_ ?_
     ·clear el e1 en
      rintro p y r δ h2 N1 ee ⟨⟨_,rfl⟩,en,rfl,el,e1⟩ hN1
      have hy:y < nf:=Zo.mp (by rw [ee];exact ZJ _ ZO);refine a0g ?_
      (try dsimp only);refine u6 λ A1 B1 hA hB=>?_;show B;refine ⟨ns,30 + f,rfl,hl,by right,λ r1=>⟨r1,y,by rw [YN],by right,λ r2=>?_⟩⟩;show B;refine ⟨by decide,by decide,b6P (λ _=>?_) (λ _=>?_)⟩
      ·subst hA;have e3:(h' ++ [O.lst @AO])[h'.length]?=some (.lst @AO):=v6 _ _;have ix:ixN en.length (0 + (y:Int))=some y:=by rw [YN];exact N6 (by rw [el];exact hy)
       simp only [e3,List.length_map,ix,VV];refine hN1 _ _ ⟨⟨_,rfl⟩,en.set y 1,?_,by rw [YI];exact el,λ e he=>?_⟩
       ·rw [Zn _ _ @G,YV,List.map_set];rfl
       ·rcases List.mem_or_eq_of_mem_set he with z | z
        ·exact e1 e z
        ·exact .inr z
      ·subst hB;show B;exact hN1 _ _ ⟨⟨_,rfl⟩,en,rfl,el,e1⟩
     ·clear el e1 en
      rintro δ h2 ⟨⟨xd,rfl⟩,en,rfl,el,e1⟩
      have kp:B7 nf ⟨c0,c1,c2,c3,en⟩:=⟨o0.1,o0.2,o1.1,o1.2,o2.1,o2.2,o3.1,o3.2,el,e1⟩
      have q:=q _ kp;show E;show B;show E
      have main2:N [some (D.scr @AP),some (nD f),some (nD many),some (nD nf),some (D.bl mo),some (D.bl (decide (f + 1=many))),some (D.lst [nD c0,nD c1,nD c2,nD c3]),some (tD (inT nf many f)),some (tD (hoT nf many f)),some (D.ref h'.length),xd,some (D.ref (h' ++ [O.lst @AO]).length),none,none,none] (h' ++ [O.lst @AO] ++ [O.lst ((if mo=true then [eA nf ⟨c0,c1,c2,c3,en⟩] else []).map eD)]):=by
       generalize hes:(if mo=true then [eA nf ⟨c0,c1,c2,c3,en⟩] else []:List Edge)=es;have lh:es.length <= 1:=by rw [<- hes];split <;> simp
       have h1l:(h' ++ [O.lst @AO]).length=h'.length + 1:=by simp
       have e9:(h' ++ [O.lst @AO])[h'.length]?=some (.lst @AO):=v6 _ _;have gl:∀ xs:List D,((h' ++ [O.lst @AO]) ++ [O.lst xs])[(h' ++ [O.lst @AO]).length]?=some @X:=λ xs=>v6 _ _;have sl:∀ xs ys:List D,((h' ++ [O.lst @AO]) ++ [O.lst xs]).set (h' ++ [O.lst @AO]).length (.lst ys)=(h' ++ [O.lst @AO]) ++ [O.lst ys]:=λ xs ys=>by rw [Zn _ _ @G,YV];rfl
       have ge:∀ xs:List D,((h' ++ [O.lst @AO]) ++ [O.lst xs])[h'.length]?=some (.lst @AO):=λ xs=>H9 e9;generalize hh1:h' ++ [O.lst @AO]=h1 at *;have ep:(D.int (if mo=true then 1 else 0))=nD (plc mo):=by unfold plc;cases mo <;> rfl
       show E;show B;rw [ep];show E;show B
       have mu:∀ (hh:Hh) (K:DK),K (tD (noT nf)) hh->b4l (D.tup [D.int 0]) (nD nf) hh K:=by
        intro hh K k;refine ⟨⟨by simp,by decide,by right,by right⟩,?_⟩;rw [ZB,List.flatten_replicate_singleton]
        have:tD (noT nf)=D.tup (List.replicate nf (D.int 0)):=by unfold tD noT;rw [List.map_replicate];rfl
        rw [<- this];exact k
       refine mu _ _ ?_;show E;show B;refine ⟨by right,?_⟩;rw [show ((f:Int) + 1) % (many:Int)=(((f + 1) % many:Nat):Int) by rw [Int.natCast_emod];rfl];have ma:∀ (l:List Edge) (E:Edge),l.map eD ++ [eD E]=(l ++ [E]).map eD:=λ l E=>by rw [Zz];rfl
       show E;simp only [gl,sl,List.length_map,VV];refine ⟨by right,?_⟩;have x1:es.map eD ++ [D.tup [D.str @O,nD (plc mo),D.int ((plc mo:Int) + 1),nD c0,D.int (((f + 1) % many:Nat):Int),tD (inT nf many f),tD (hoT nf many f),tD (noT nf)]]=(es ++ [eB mo nf many f ⟨c0,c1,c2,c3,en⟩]).map eD:=ma es (eB mo nf many f ⟨c0,c1,c2,c3,en⟩);rw [x1];show E;simp only [gl,sl,List.length_map,VV];refine ⟨by rw [ZW,ZL];omega,?_⟩;have x2:(es ++ [eB mo nf many f ⟨c0,c1,c2,c3,en⟩]).map eD ++ [D.tup [D.str @O,D.int ((plc mo:Int) + 1),D.int ((plc mo:Int) + 2),nD c1,D.int (((f + 1) % many:Nat):Int),tD (inT nf many f),tD (hoT nf many f),tD (noT nf)]]=(es ++ [eB mo nf many f ⟨c0,c1,c2,c3,en⟩] ++ [eC mo nf many f ⟨c0,c1,c2,c3,en⟩]).map eD:=ma _ (eC mo nf many f ⟨c0,c1,c2,c3,en⟩);rw [x2];show E;simp only [gl,sl,List.length_map,VV];refine ⟨⟨by right,by right⟩,rb,rg _ (λ d=>nD (en.getD d 0 * 2 ^ d)) _ _ _ (λ y hy K k=>?_) ?_⟩
       ·have hyl:y < en.length:=by rw [el];exact hy
        have ge1:=ge ((es ++ [eB mo nf many f ⟨c0,c1,c2,c3,en⟩] ++ [eC mo nf many f ⟨c0,c1,c2,c3,en⟩]).map eD);have ay:atI @AO (y:Int)=some (nD (en.getD y 0)):=by rw [atN,ZP,ZZ hyl,ZQ,ZZ hyl];rfl
        have e01:en.getD y 0=0\/en.getD y 0=1:=by
         rw [ZQ,ZZ hyl];exact e1 _ (Zq hyl)
        simp only [F7 (p9 ge1),ay,VV];refine ⟨⟨by right,by right,?_⟩,?_⟩
        ·rcases e01 with z | z <;> rw [z] <;> decide
        ·rw [a8g];exact k
       ·have x3:D.tup ((List.range nf).map λ d=>nD (en.getD d 0 * 2 ^ d))=tD (enT nf en):=mt λ d=>en.getD d 0 * 2 ^ d;rw [x3];simp only [gl,sl,List.length_map,VV];refine ⟨by rw [ZW,ZW,ZL,ZL];omega,?_⟩
        have x4:(es ++ [eB mo nf many f ⟨c0,c1,c2,c3,en⟩] ++ [eC mo nf many f ⟨c0,c1,c2,c3,en⟩]).map eD ++ [D.tup [D.str @L,nD (plc mo),D.int ((plc mo:Int) + 2),nD c2,tD (enT nf en)]]=(edE mo nf many f ⟨c0,c1,c2,c3,en⟩).map eD:=by
         rw [show D.tup [D.str @L,nD (plc mo),D.int ((plc mo:Int) + 2),nD c2,tD (enT nf en)]=eD (eE mo nf ⟨c0,c1,c2,c3,en⟩) from rfl,ma];unfold edE;rw [hes,Zt,Zt];rfl
        rw [x4];have gl2:=gl ((edE mo nf many f ⟨c0,c1,c2,c3,en⟩).map eD);have ge2:=ge ((edE mo nf many f ⟨c0,c1,c2,c3,en⟩).map eD);subst hN;show B;have nn:∀ l:List Nat,G0 (l.map nD)=true:=λ l=>Q6 (λ _=>rfl) l;refine ⟨h',[.lst @AO,.lst ((edE mo nf many f ⟨c0,c1,c2,c3,en⟩).map eD)],_,?_,rfl,λ _ _ e=>.inl e,.lst (.cons (.tup (.cons (.nr rfl) (.cons (.nr rfl) (.cons (.opn @P gl2 (Vws.of (Q6 b8X _))) .nil)))) (.cons (.opn @G ge2 (Vws.of (nn en))) (.cons (.nr rfl) .nil))),q⟩;rw [<- hh1,Zt];rfl
      (try dsimp only);refine u6 λ A1 B1 hA hB=>?_
      cases hmo:mo with
      |true =>
       rw [hmo,if_pos rfl] at main2;have e9:(h' ++ [O.lst @AO] ++ [O.lst []])[(h' ++ [O.lst @AO]).length]?=some (.lst []):=v6 _ _;show B;subst hA;simp only [e9,VV];refine ⟨⟨by right,by right⟩,rb,rg _ (λ d=>nD (2 ^ d)) _ _ _ (λ y hy K k=>?_) ?_⟩
       ·show B;show Ak
        have:=a8g 1 y
        rw [Nat.one_mul] at this;rw [show (1:Int)=((1:Nat):Int) from rfl,this];exact k
       ·rw [mt (λ d=>2 ^ d),show (List.range nf).map (λ d=>2 ^ d)=idT nf from rfl];simp only [e9,VV];refine ⟨by decide,?_⟩;rw [Zn _ _ @G,YV];exact main2
      |false =>
       rw [hmo,if_neg ZR] at main2;show B;subst hB;show B;exact main2
   (try dsimp only);refine u6 λ A1 B1 hA hB=>?_
   by_cases z:f + 1=many
   ·have e1:inT nf many f=upT nf:=if_pos z;have e2:hoT nf many f=dnT nf:=if_pos z;rw [e1,e2,decide_eq_true z] at main;simp only [z,VV];subst hA;left;show B;refine ⟨⟨by right,by right⟩,rb,rg _ (λ d=>nD (if d + 1 < nf then 2 ^ (d + 1) else 0)) _ _ _ (λ y hy K k=>?_) ?_⟩
    ·show B
     by_cases w:y + 1 < nf
     ·rw [if_pos (decide_eq_true (show (y:Int) + 1 < nf by right))];show Ak
      have:=a8g 1 (y + 1)
      rw [Nat.one_mul] at this;rw [show (1:Int)=((1:Nat):Int) from rfl,show ((y:Int) + ((1:Nat):Int))=((y + 1:Nat):Int) from rfl,this];rw [if_pos w] at k;exact k
     ·rw [if_neg (by rw [decide_eq_false (show ¬ (y:Int) + 1 < nf by right)];exact ZR)];show Ak;rw [Int.zero_mul];rw [if_neg w] at k;exact k
    ·rw [mt (λ d=>if d + 1 < nf then 2 ^ (d + 1) else 0),show (List.range nf).map (λ d=>if d + 1 < nf then 2 ^ (d + 1) else 0)=upT nf from rfl];subst hN;show B;refine ⟨⟨by right,by right⟩,rb,rg _ (λ d=>nD (if 0 < d then 2 ^ (d - 1) else 0)) _ _ _ (λ y hy K k=>?_) ?_⟩
     ·show B
      by_cases w:0 < y
      ·rw [if_pos (decide_eq_true (show (0:Int) < (y:Int) by right)),if_neg (show ¬ (0:Int) > (y:Int) - 1 by right)];show Ak
       have:=a8g 1 (y - 1)
       rw [Nat.one_mul] at this;rw [show (y:Int) - 1=((y - 1:Nat):Int) by right,show (1:Int)=((1:Nat):Int) from rfl,this];rw [if_pos w] at k;exact k
      ·rw [if_neg (by rw [decide_eq_false (show ¬ (0:Int) < (y:Int) by right)];exact ZR)];refine ⟨⟨by split <;> omega,by split <;> omega,by decide⟩,?_⟩;rw [Int.zero_mul];rw [if_neg w] at k;exact k
     ·rw [mt (λ d=>if 0 < d then 2 ^ (d - 1) else 0),show (List.range nf).map (λ d=>if 0 < d then 2 ^ (d - 1) else 0)=dnT nf from rfl];exact main
   ·have e1:inT nf many f=idT nf:=if_neg z;have e2:hoT nf many f=idT nf:=if_neg z;rw [e1,e2,decide_eq_false z] at main;simp only [z,VV];subst hB;show B;exact main
theorem b6z{f:Addr}{fd:FuncData}(F:Fun K "_law_function" "_law_function" a9Q f fd)(T:Txt P w K mg)(C_q13:Cal P w K mg base 1 "_law_cell" ["_law_script","_law_k"] (spD K 2 F8))(C_q14:Cal P w K mg base 2 "_law_cost" ["_law_cell_here"] (spD K 1 a5S))(C_q17:Cal P w K mg base 1 "_law_number" ["_law_cell_here","_law_k"] (spD K 2 a1Y)):n8 P w K mg base CX0 3 f fd ["_law_script","_law_f","_law_many","_law_facts","_law_more"] (spD K 5 a5W) :=
 b8P (k:=2) (b:=b1z) F sc_q16 (λ cdv A outer s H E hr=>by
  show C
  ·exact j4 (i:=5) sc_q16.nd rfl (Or.inr rfl) (P0 @Az (sv 1) (i7 E1 (sv 2) b9))
  show C
  ·exact S9 (i:=6) (hN:=sc_q16.nd) (hix:=rfl) (hx:=@E) rfl (N':= ["_law_k","_law_script","_law_f"]) (js:=[none,some 0,some 1]) ⟨rfl,by decide +kernel,rfl,rfl,rfl⟩ (q8 rfl T.b_range (b6 b9 c7)) (λ s0 H0 fp=>⟨(j9 (i:=0) (show (["_law_k","_law_script","_law_f"]:List Str).Nodup by decide +kernel) rfl @E),C9,(j1 C_q14 @A rfl (b6 (j1 C_q13 @A rfl (b6 (sv 1) (b6 (i7 j5 (i7 j5 b9 (i7 A5 b9 (sv 2))) (sv 0)) c7))) c7))⟩)
  show C
  ·refine j4 (i:=7) sc_q16.nd rfl @E ?_;exact v8 L1 rfl T.b_tuple PyProof.Rows.boot_tuple (b6 (T5 (C1 rfl (N':= ["_law_d"]) (js:=[none]) ⟨rfl,by decide +kernel,rfl,rfl,rfl⟩ (q8 rfl T.b_range @Au) (λ s0 H0 fp=>⟨(j9 (i:=0) (show (["_law_d"]:List Str).Nodup by decide +kernel) rfl @E),C9,(i7 a1j b9 (sv 0))⟩))) c7)
  show C
  ·exact j4 (i:=8) sc_q16.nd rfl @E (sv 7)
  show C
  ·refine y1 (y6 (sv 5)) ?_ m5;show C
   ·refine j4 (i:=7) sc_q16.nd rfl @E ?_;exact v8 L1 rfl T.b_tuple PyProof.Rows.boot_tuple (b6 (T5 (C1 rfl (N':= ["_law_d","_law_facts"]) (js:=[none,some 3]) ⟨rfl,by decide +kernel,rfl,rfl,rfl⟩ (q8 rfl T.b_range @Au) (λ s0 H0 fp=>⟨(j9 (i:=0) (show (["_law_d","_law_facts"]:List Str).Nodup by decide +kernel) rfl @E),C9,(i7 a1j (v8 a0M rfl T.b_int YQ (b6 (P0 J6 (i7 j5 (sv 0) b9) (sv 1)) c7)) (i7 j5 (sv 0) b9))⟩))) c7)
   show M;refine j4 (i:=8) sc_q16.nd rfl @E ?_;exact v8 L1 rfl T.b_tuple PyProof.Rows.boot_tuple (b6 (T5 (C1 rfl (N':= ["_law_d"]) (js:=[none]) ⟨rfl,by decide +kernel,rfl,rfl,rfl⟩ (q8 rfl T.b_range @Au) (λ s0 H0 fp=>⟨(j9 (i:=0) (show (["_law_d"]:List Str).Nodup by decide +kernel) rfl @E),C9,(i7 a1j (v8 a0M rfl T.b_int YQ (b6 (P0 a9c (sv 0) b9) c7)) (s9 (b6o rfl) rfl T.b_max PyProof.Rows.boot_max (b6 (i7 E1 (sv 0) b9) (b6 b9 c7))))⟩))) c7)
  show C
  ·refine j4 (i:=9) sc_q16.nd rfl (Or.inr rfl) ?_;exact a4P (C1 rfl (N':= ["_law_d","_law_last","_law_facts"]) (js:=[none,some 5,some 3]) ⟨rfl,by decide +kernel,rfl,rfl,rfl⟩ (q8 rfl T.b_range @Au) (λ s0 H0 fp=>⟨(j9 (i:=0) (show (["_law_d","_law_last","_law_facts"]:List Str).Nodup by decide +kernel) rfl @E),C9,(v8 a0M rfl T.b_int YQ (b6 (b0Y (sv 1) (b0R (P0 @Az (sv 0) (i7 E1 (sv 2) b9)))) c7))⟩))
  show C
  ·refine F1 PassesOwn.never rfl (q8 rfl T.b_range @Au) (j9 (i:=10) sc_q16.nd rfl @E) ?_;show M;refine y1 ?_ (d9 (a0I b9 (N5 (sv 9) (sv 10)))) m5;exact j6 @Az (i7 z9 (i7 a0F (j1 C_q17 @A rfl (b6 (j1 C_q13 @A rfl (b6 (sv 0) (b6 (i7 j5 b9 (sv 1)) c7))) (b6 (sv 10) c7))) b9) b9) b9
  show C
  ·exact j4 (i:=11) sc_q16.nd rfl @E (a4P (F4 c7))
  show C
  ·refine y1 (y6 (sv 4)) ?_ m5;show M;refine t7 ?_;exact y9 (sv 11) (b6 (l9 (b6 m7 (b6 b9 (b6 b9 (b6 (d8 c9 (sv 6) b9) (b6 (v8 L1 rfl T.b_tuple PyProof.Rows.boot_tuple (b6 (T5 (C1 rfl (N':= ["_law_d"]) (js:=[none]) ⟨rfl,by decide +kernel,rfl,rfl,rfl⟩ (q8 rfl T.b_range @Au) (λ s0 H0 fp=>⟨(j9 (i:=0) (show (["_law_d"]:List Str).Nodup by decide +kernel) rfl @E),C9,(i7 a1j b9 (sv 0))⟩))) c7)) c7)))))) c7)
  show C
  ·exact j4 (i:=12) sc_q16.nd rfl @E (v8 a0M rfl T.b_int YQ (b6 (sv 4) c7))
  show C
  ·exact j4 (i:=13) sc_q16.nd rfl @E (i7 a9M (l9 (b6 b9 c7)) (sv 3))
  show C
  ·exact j4 (i:=14) sc_q16.nd rfl @E (i7 z9 (i7 j5 (sv 1) b9) (sv 2))
  show C
  ·refine t7 ?_;exact y9 (sv 11) (b6 (l9 (b6 m7 (b6 (sv 12) (b6 (i7 j5 (sv 12) b9) (b6 (d8 c9 (sv 6) b9) (b6 (sv 14) (b6 (sv 7) (b6 (sv 8) (b6 (sv 13) c7))))))))) c7)
  show C
  ·refine t7 ?_;exact y9 (sv 11) (b6 (l9 (b6 m7 (b6 (i7 j5 (sv 12) b9) (b6 (i7 j5 (sv 12) b9) (b6 (d8 c9 (sv 6) b9) (b6 (sv 14) (b6 (sv 7) (b6 (sv 8) (b6 (sv 13) c7))))))))) c7)
  show C
  ·refine t7 ?_;exact y9 (sv 11) (b6 (l9 (b6 m7 (b6 (sv 12) (b6 (i7 j5 (sv 12) b9) (b6 (d8 c9 (sv 6) b9) (b6 (v8 L1 rfl T.b_tuple PyProof.Rows.boot_tuple (b6 (T5 (C1 rfl (N':= ["_law_d","_law_ends"]) (js:=[none,some 9]) ⟨rfl,by decide +kernel,rfl,rfl,rfl⟩ (q8 rfl T.b_range @Au) (λ s0 H0 fp=>⟨(j9 (i:=0) (show (["_law_d","_law_ends"]:List Str).Nodup by decide +kernel) rfl @E),C9,(i7 a1j (d8 c9 (sv 1) (sv 0)) (sv 0))⟩))) c7)) c7)))))) c7)
  show L;refine T5 ?_;refine F4 (n:=3) ?_;refine b6 ?_ (b6 (sv 9) (b6 (sv 6) c7));exact l9 (b6 (i7 j5 (sv 12) b9) (b6 (sv 3) (b6 (sv 11) c7)))) b3y
def a9P:DS:=(i6 (k8 (dV (B3 [none] (u9 (b7 (b8 1) f9)) (f8 0) D9 a1g)) (f8 4))
  (i6 (Q1 (a4r (b7 (dOp Z2 (b8 2) @F) (b7 (dUn b0F @F) (b7 (dUn b0F @F) f9)))) (f8 5) (Q1 (a4r (b7 (dOp Z2 (b8 1) @F) (b7 (dUn b0F @F) (b7 (dUn b0F @F) f9)))) (f8 6) (i6 (k8 (dOp pIx (b8 0) (b8 6)) (b1j 3 (A7 (f8 7) (A7 (f8 8) (A7 (f8 9) a0Z)))))
  (i6 (k8 (dOp S0 (dOp pIx (b8 9) @Am) (dCB a4U @At)) (f8 10))
  (i6 (k8 (v7 (b7 (b8 5) (b7 (b8 5) f9))) (f8 11))
  (i6 (k8 (a4T (dOp pIx (b8 4) (dOp O0 (dOp n4 (b8 6) @F) (b8 1))) (v7 (b7 (b8 5) (b7 (b8 5) f9)))) (f8 12))
  (i6 (x0 (o9 (dOp @AF (b8 6) (dOp Z2 (b8 1) @F))) (k8 (a4T (dOp pIx (b8 4) @H) (v7 (b7 (dOp n4 (b8 5) @F) (b7 (dOp n4 (b8 5) @F) f9)))) (f8 12)) p7)
  (i6 (x0 (o9 (dOp (pIs true) (b8 12) @AA)) (a1U (dOp pIx (b8 4) (b8 6)) (b8 11) (dOp n4 (dOp n4 (dOp n4 (b8 10) (dOp pIx (b8 9) @H)) (dOp pIx (b8 9) @F)) (dOp S0 @R (b8 12)))) p7)
  (x0 (o9 (dOp @AF (dOp pIx (b8 8) (b8 5)) @F)) (a1U (dOp pIx (b8 4) (b8 6)) (b8 11) (dCB b2N (b7 (dOp n4 (b8 10) (dOp pIx (b8 9) @R)) (b7 (a2E (dOp pIx (b8 4) (b8 6)) (b8 11) (dOp n4 (b8 10) (dOp pIx (b8 9) @R))) f9)))) p7)))))))))
  (p8 (b8 4))))
def mdD(mo:Bool)(nf many:Nat)(x:Fp×Nat):D:=.lst [fD (fnE mo nf many x.2 x.1),.lst (x.1.en.map nD),.lst [nD x.1.c0,nD x.1.c1,nD x.1.c2,nD x.1.c3]]
def a6b:DSp:=λ ds h Q=>∃ (mo:Bool) (nf:Nat) (ps:List Fp),ds=[.lst (ps.zipIdx.map (mdD mo nf ps.length)),nD ps.length,nD nf,.bl mo]/\1 <= ps.length/\ps.length <= 6/\1 <= nf/\nf <= 6/\(∀ p ∈ ps,B7 nf p)/\Q (.lst ((List.range ps.length).map λ f=>.ref (h.length + f))) (h ++ dcE (λ f=>C6 mo nf ps f (dsL nf nf)) ps.length)
theorem b2E:∀ ds h Q,a6b ds h Q->j2 13 a9P ds h Q:=by
 rintro ds h Q ⟨mo,nf,ps,rfl,p1,p6,n1,n6,ok,q⟩
 delta j2 a9P;show N;show B;refine ⟨⟨by right,by right⟩,by rw [u5,ZB];omega,?_⟩;rw [u8,ZB];refine D3 (λ p acc δ h'=>(∃ x,δ=[x])/\acc=(List.range p.length).map (λ f=>.ref (h.length + f))/\h'=h ++ List.replicate p.length (.dT none [])) ⟨⟨_,rfl⟩,rfl,by simp⟩ (λ _ _ _ _ _=>Src.ok_nil) ?_ ?_
 ·rintro p F r acc δ h' N1 e ⟨⟨_,rfl⟩,rfl,rfl⟩ hN1
  show B;rw [ZW,List.length_replicate];refine hN1 _ _ _ ⟨⟨_,rfl⟩,?_,?_⟩
  ·rw [ZW,ZL,List.range_succ,Zz];rfl
  ·rw [ZW,ZL,List.replicate_succ',Zt]
 ·rintro acc δ h' ⟨_,rfl,rfl⟩
  rw [Zv,<- b4d]
  have st:∀ n:Nat,Y8 ((n:Int) - 1) (-1) (K1 ((n:Int) - 1) (-1))=(List.range n).map λ i:Nat=>nD (n - 1 - i):=λ n=>by
   unfold Y8 K1;rw [show ((n:Int) - 1 - -1).toNat=n by right];refine Zg λ i hi=>congrArg D.int ?_
   have:=Zo.mp hi
   omega
  show E;show B;refine ⟨trivial,⟨by right,by right,by right⟩,?_⟩;rw [st]
  have g0:dcE (λ _=>[]) ps.length=dcE (Gd mo nf ps 0 0) ps.length:=D4 λ f hf=>by
   unfold Gd;rw [if_neg @P];rfl
  rw [g0]
  have made:∀ f (hf:f < ps.length),atI (ps.zipIdx.map (mdD mo nf ps.length)) (f:Int)=some (mdD mo nf ps.length (ps[f],f)):=λ f hf=>by
   rw [atN,ZP,List.getElem?_zipIdx,ZZ hf];show some (mdD mo nf ps.length (ps[f],0 + f))=_;rw [Nat.zero_add]
  have refs:∀ f (hf:f < ps.length),atI ((List.range ps.length).map λ f=>D.ref (h.length + f)) (f:Int)=some (.ref (h.length + f)):=λ f hf=>by rw [atN,ZP,Zf hf];rfl
  generalize hd0:D.lst (ps.zipIdx.map (mdD mo nf ps.length))=d0;generalize hd4:D.lst ((List.range ps.length).map λ f=>D.ref (h.length + f))=d4 at *;refine u0 (λ p δ h'=>(∃ x5 x6 x7 x8 x9 x10 x11 x12,δ=[some d0,some (nD ps.length),some (nD nf),some (.bl mo),some d4,x5,x6,x7,x8,x9,x10,x11,x12])/\h'=h ++ dcE (Gd mo nf ps p.length 0) ps.length) ⟨⟨_,_,_,_,_,_,_,_,rfl⟩,rfl⟩ (λ _ _ _ _=>Src.ok_nil) ?_ ?_
  ·rintro p k r δ h' N1 e ⟨⟨_,_,_,_,_,_,_,_,rfl⟩,rfl⟩ hN1
   obtain ⟨ek,hk⟩:=M4 e;subst ek;rw [ZW,ZL] at hN1;generalize p.length=k at *;refine a0g ?_;show B;refine ⟨trivial,⟨by right,by right,by right⟩,?_⟩;rw [st];refine u0 (λ p2 δ h'=>(∃ x6 x7 x8 x9 x10 x11 x12,δ=[some d0,some (nD ps.length),some (nD nf),some (.bl mo),some d4,some (nD (nf - 1 - k)),x6,x7,x8,x9,x10,x11,x12])/\h'=h ++ dcE (Gd mo nf ps k p2.length) ps.length) ⟨⟨_,_,_,_,_,_,_,rfl⟩,rfl⟩ (λ _ _ _ _=>Src.ok_nil) ?_ ?_
   ·rintro p2 j r2 δ h' N2 e2 ⟨⟨_,_,_,_,_,_,_,rfl⟩,rfl⟩ hN2
    obtain ⟨ej,hj⟩:=M4 e2;subst ej;rw [ZW,ZL] at hN2;generalize p2.length=j at *;refine a0g ?_;have fl:ps.length - 1 - j < ps.length:=by right
    have kp:=ok ps[ps.length - 1 - j] (Zq fl);have hq:ps[ps.length - 1 - j]?=some ps[ps.length - 1 - j]:=ZZ fl;have mk:=made _ fl;generalize ps[ps.length - 1 - j]=P at *;have dq:=a4W (mo:=mo) (nf:=nf) hq (show nf - 1 - k < nf by right);have gs:=b4i (mo:=mo) (nf:=nf) (ps:=ps) hk hj;have gn:=b3Y (mo:=mo) (nf:=nf) (ps:=ps) hk hj;have gb:=a9o (mo:=mo) (nf:=nf) (ps:=ps) hk hj;generalize hf:ps.length - 1 - j=f at *;generalize hdd:nf - 1 - k=d at *;have i0:∀ hh,ixD hh d0 (nD f)=some (mdD mo nf ps.length (P,f)):=λ hh=>by rw [<- hd0];exact mk
    have i4:∀ hh g,g < ps.length->ixD hh d4 (nD g)=some (.ref (h.length + g)):=λ hh g hg=>by rw [<- hd4];exact refs g hg
    have ah:(P.c3:Int) * (if mo=true then 1 else 0)=(ahd mo P:Int):=by unfold ahd;cases mo <;> simp
    have lk:∀ {g:Nat} (G:Nat->Ct),g < ps.length->(h ++ dcE G ps.length)[h.length + g]?=some (.dT none (tbD (G g))):=λ G hg=>by rw [w9];exact Q3 hg
    left;simp only [i0,mdD,VV];refine ⟨trivial,?_⟩;show E;simp only [ah,VV];refine ⟨a4S (by have:=kp.b3;omega),?_⟩;show E;show B;show E;show B;refine ⟨by right,?_⟩;rw [show ((f:Int) + 1) % (ps.length:Int)=(((f + 1) % ps.length:Nat):Int) by rw [Int.natCast_emod];rfl];have ml:(f + 1) % ps.length < ps.length:=Nat.mod_lt _ @P;simp only [i4 _ _ ml,VV];refine ⟨a0l (lk _ ml),P4 (k:=[d,d]) (lk _ ml) ?_⟩;show E
    have mainB:N [some d0,some (nD ps.length),some (nD nf),some (D.bl mo),some d4,some (nD d),some (nD f),some (fD (fnE mo nf ps.length f P)),some (D.lst (P.en.map nD)),some (D.lst [nD P.c0,nD P.c1,nD P.c2,nD P.c3]),some (nD (ahd mo P)),some (D.tup [nD d,nD d]),some (((blo mo nf ps f d).map nD).getD .non)] (h ++ dcE (Gd mo nf ps k j) ps.length):=by
     have fin:∀ (m:Ct) (δ:Sl),m=Gd mo nf ps k j f ++ K6 mo nf ps f d->(∃ x6 x7 x8 x9 x10 x11 x12,δ=[some d0,some (nD ps.length),some (nD nf),some (.bl mo),some d4,some (nD d),x6,x7,x8,x9,x10,x11,x12])->N2 δ (h ++ dcE (λ f'=>if f'=f then m else Gd mo nf ps k j f') ps.length):=λ m δ hm hδ=>by
      refine hN2 _ _ ⟨hδ,?_⟩
      congr 1
      refine D4 λ f' hf'=>?_;rw [<- gs f' hf']
      by_cases w:f'=f
      ·rw [if_pos w,if_pos w,hm,w]
      ·rw [if_neg w,if_neg w]
     have fin0:∀ (δ:Sl),K6 mo nf ps f d=[]->(∃ x6 x7 x8 x9 x10 x11 x12,δ=[some d0,some (nD ps.length),some (nD nf),some (.bl mo),some d4,some (nD d),x6,x7,x8,x9,x10,x11,x12])->N2 δ (h ++ dcE (Gd mo nf ps k j) ps.length):=λ δ hm hδ=>by
      have:=fin (Gd mo nf ps k j f) δ (by rw [hm,Zr]) hδ
      rw [show dcE (λ f'=>if f'=f then Gd mo nf ps k j f else Gd mo nf ps k j f') ps.length=dcE (Gd mo nf ps k j) ps.length from D4 λ f' _=>by split <;> simp_all] at this;exact this
     have gl:(Gd mo nf ps k j f).length <= 12:=by
      unfold Gd C6
      have h1:∀ l:List Nat,(l.flatMap (K6 mo nf ps f)).length <= l.length:=λ l=>by
       have:=a3L (n:=1) (f:=K6 mo nf ps f) (l:=l) λ x=>by
        unfold K6
        cases du mo nf ps f x <;> simp
       omega
      refine Zu (h1 _) ?_;rw [ZW];unfold dsL;rw [ZS,Zv]
      have:(if ps.length <= f + j then [nf - 1 - k] else []).length <= 1:=by split <;> simp
      omega
     have dl:d < P.en.length:=by rw [kp.el];omega
     have ie:atI (P.en.map nD) (d:Int)=some (nD (P.en.getD d 0)):=by rw [atN,ZP,ZZ dl,ZQ,ZZ dl];rfl
     show E
     cases hb:blo mo nf ps f d with
     |none =>
      rw [hb] at dq;show B;subst hN
      (try dsimp only);refine u6 λ A1 B1 hA hB=>?_;simp only [ie,VV]
      by_cases e1:P.en.getD d 0=1
      ·have d1:((P.en.getD d 0:Int) == 1)=true:=by rw [e1];rfl
       show Ad;subst hA;simp only [i4 _ _ fl,VV];refine ⟨a0l (lk _ fl),P4 (k:=[d,d]) (lk _ fl) ?_⟩;rw [gn];show B;have e2:(if (ahd mo P:Int) + (P.c2:Int) < (ahd mo P:Int) + (P.c2:Int) then (ahd mo P:Int) + (P.c2:Int) else (ahd mo P:Int) + (P.c2:Int))=((ahd mo P + P.c2:Nat):Int):=by split <;> rfl
       rw [e2];refine N7 (k:=[d,d]) (v:=ahd mo P + P.c2) (lk _ fl) @P ?_;rw [B4,a2n fl,a5M gn];show Ap;rw [if_pos e1]
      ·have d1:((P.en.getD d 0:Int) == 1)=false:=beq_eq_false_iff_ne.mpr @P;show Ad;subst hB;show B;refine fin0 _ ?_ ⟨_,_,_,_,_,_,_,rfl⟩;unfold K6;rw [dq];unfold stp;dsimp only;rw [if_neg e1]
     |some b =>
      rw [hb] at dq;simp only [i4 _ _ fl,VV];refine ⟨a4S @B,?_⟩;have ev:(ahd mo P:Int) + (P.c0:Int) + (P.c1:Int) + 2 * (b:Int)=((via mo P b:Nat):Int):=by unfold via;omega
      rw [ev];refine N7 (k:=[d,d]) (v:=via mo P b) (lk _ fl) @P ?_;rw [B4,a2n fl,a5M gn];subst hN
      (try dsimp only);refine u6 λ A1 B1 hA hB=>?_;simp only [ie,VV]
      by_cases e1:P.en.getD d 0=1
      ·have d1:((P.en.getD d 0:Int) == 1)=true:=by rw [e1];rfl
       show Ad;subst hA;simp only [i4 _ _ fl,VV];have l2:=lk (λ f'=>if f'=f then Gd mo nf ps k j f ++ [([d,d],via mo P b)] else Gd mo nf ps k j f') fl;rw [if_pos rfl] at l2;refine ⟨a0l l2,P4 (k:=[d,d]) l2 ?_⟩;rw [b4V gn];show B
       have e2:(if (via mo P b:Int) < (ahd mo P:Int) + (P.c2:Int) then (via mo P b:Int) else (ahd mo P:Int) + (P.c2:Int))=((if via mo P b < ahd mo P + P.c2 then via mo P b else ahd mo P + P.c2:Nat):Int):=by
        by_cases w:via mo P b < ahd mo P + P.c2
        ·rw [if_pos w,if_pos @P]
        ·rw [if_neg w,if_neg @P];rfl
       rw [e2];refine N7 (k:=[d,d]) (v:=if via mo P b < ahd mo P + P.c2 then via mo P b else ahd mo P + P.c2) l2 (by rw [ZW,ZL];omega) ?_;rw [B4,a2n fl,b4U gn];have cg:∀ m:Ct,dcE (λ f'=>if f'=f then m else if f'=f then Gd mo nf ps k j f ++ [([d,d],via mo P b)] else Gd mo nf ps k j f') ps.length=dcE (λ f'=>if f'=f then m else Gd mo nf ps k j f') ps.length:=λ m=>D4 λ f' _=>by split <;> rfl
       rw [cg];show Ap;rw [if_pos e1]
      ·have d1:((P.en.getD d 0:Int) == 1)=false:=beq_eq_false_iff_ne.mpr @P;show Ad;subst hB;show B;show Ap;rw [if_neg e1]
    (try dsimp only);refine u6 λ A1 B1 hA hB=>?_
    by_cases z:f + 1=ps.length
    ·rw [if_pos z] at gb;have d1:((f:Int) == (ps.length:Int) - 1)=true:=beq_iff_eq.mpr @P;have i40:=i4 (h ++ dcE (Gd mo nf ps k j) ps.length) 0 @P;have i40:ixD (h ++ dcE (Gd mo nf ps k j) ps.length) d4 (.int 0)=some (.ref (h.length + 0)):=i40;show Ad;subst hA;simp only [i40,VV];refine ⟨a0l (lk _ (show 0 < ps.length by right)),P4 (k:=[d + 1,d + 1]) (lk _ (show 0 < ps.length by right)) ?_⟩;rw [gb];exact mainB
    ·rw [if_neg z] at gb;have d1:((f:Int) == (ps.length:Int) - 1)=false:=beq_eq_false_iff_ne.mpr @P;show Ad;subst hB;show B;rw [Nat.mod_eq_of_lt @P,gb];exact mainB
   ·rintro δ h' ⟨⟨_,_,_,_,_,_,_,rfl⟩,rfl⟩
    refine hN1 _ _ ⟨⟨_,_,_,_,_,_,_,_,rfl⟩,?_⟩;rw [Zv]
    congr 1
    exact D4 λ f hf=>b4r hf
  ·rintro δ h' ⟨⟨_,_,_,_,_,_,_,_,rfl⟩,rfl⟩
   subst hN;show B;rw [Zv]
   have:dcE (Gd mo nf ps nf 0) ps.length=dcE (λ f=>C6 mo nf ps f (dsL nf nf)) ps.length:=D4 λ f hf=>by
    unfold Gd;rw [if_neg @P,Zr]
   rw [this];exact q
theorem b9b{f:Addr}{fd:FuncData}(F:Fun K "_law_due" "_law_due" a9a f fd)(T:Txt P w K mg):n8 P w K mg base CX0 1 f fd ["_law_made","_law_many","_law_facts","_law_more"] (spD K 4 a6b) :=
 m9 (k:=0) (b:=a9P) F sc_q15 (λ cdv A outer s H E hr=>by
  show C
  ·exact S9 (i:=4) (hN:=sc_q15.nd) (hix:=rfl) (hx:=@E) rfl (N':= ["_law_f"]) (js:=[none]) ⟨rfl,by decide +kernel,rfl,rfl,rfl⟩ (q8 rfl T.b_range (b6 (sv 1) c7)) (λ s0 H0 fp=>⟨(j9 (i:=0) (show (["_law_f"]:List Str).Nodup by decide +kernel) rfl @E),C9,N0⟩)
  refine c8 ?_ (d9 (l7 (sv 4)));refine F1 PassesOwn.never rfl ?_ (j9 (i:=5) sc_q15.nd rfl @E) ?_
  ·exact a1X rfl T.b_range (b6 (i7 E1 (sv 2) b9) (b6 (a5p a2L b9) (b6 (a5p a2L b9) c7)))
  show M;refine F1 PassesOwn.never rfl ?_ (j9 (i:=6) sc_q15.nd rfl @E) ?_
  ·exact a1X rfl T.b_range (b6 (i7 E1 (sv 1) b9) (b6 (a5p a2L b9) (b6 (a5p a2L b9) c7)))
  show C
  ·exact a0I (d8 c9 (sv 0) (sv 6)) (b4I rfl (y7 (j9 (i:=7) sc_q15.nd rfl @E) (y7 (j9 (i:=8) sc_q15.nd rfl @E) (y7 (j9 (i:=9) sc_q15.nd rfl @E) S6))))
  show C
  ·refine j4 (i:=10) sc_q15.nd rfl @E ?_;exact i7 A5 (d8 c9 (sv 9) b9) (v8 a0M rfl T.b_int YQ @Au)
  show C
  ·refine j4 (i:=11) sc_q15.nd rfl @E ?_;exact l9 (b6 (sv 5) (b6 (sv 5) c7))
  show C
  ·refine j4 (i:=12) ?_ ?_ ?_ ?_
   ·exact sc_q15.nd
   ·exact rfl
   ·exact Or.inl rfl
   exact a3F hr.units (d8 c9 (sv 4) (i7 z9 (i7 j5 (sv 6) b9) (sv 1))) (l9 (b6 (sv 5) (b6 (sv 5) c7))) ⟨rfl,rfl,rfl,rfl⟩
  show C
  ·refine y1 (j6 @Az (sv 6) (i7 E1 (sv 1) b9)) ?_ m5;show M;refine j4 (i:=12) ?_ ?_ ?_ ?_
   ·exact sc_q15.nd
   ·exact rfl
   ·exact Or.inl rfl
   exact a3F hr.units @Ay (l9 (b6 (i7 j5 (sv 5) b9) (b6 (i7 j5 (sv 5) b9) c7))) ⟨rfl,rfl,rfl,rfl⟩
  show C
  ·refine y1 (j6 a0R (sv 12) n5) ?_ m5;show M;exact a1f hr.units (d8 c9 (sv 4) (sv 6)) (sv 11) (i7 j5 (i7 j5 (i7 j5 (sv 10) (d8 c9 (sv 9) b9)) (d8 c9 (sv 9) b9)) (i7 A5 b9 (sv 12)))
  show M;refine y1 (j6 @Az (d8 c9 (sv 8) (sv 5)) b9) ?_ m5;show M;exact a1f hr.units (d8 c9 (sv 4) (sv 6)) (sv 11) (s9 (a8k rfl) rfl T.b_min PyProof.Rows.boot_min (b6 (i7 j5 (sv 10) (d8 c9 (sv 9) b9)) (b6 (a0D hr.units (d8 c9 (sv 4) (sv 6)) (sv 11) (i7 j5 (sv 10) (d8 c9 (sv 9) b9)) ⟨rfl,rfl,rfl,rfl⟩) c7)))) b2E
def a5s:DS:=(i6 (k8 (dOp n4 @F (dOp O0 (o7 F8 (b7 (b8 0) (b7 @H f9))) @Am)) (f8 1))
  (i6 (k8 (dOp n4 @F (dOp O0 (o7 F8 (b7 (b8 0) (b7 @F f9))) @Am)) (f8 2))
  (i6 (x0 (o9 (dOp @AF (dOp O0 (o7 F8 (b7 (b8 0) (b7 @AT f9))) @AT) @F)) (i6 (k8 (dOp n4 @F (dOp O0 (o7 F8 (b7 (b8 0) (b7 @H f9))) (dC (.int 6)))) (f8 1))
  (k8 (dOp n4 @F (dOp O0 (o7 F8 (b7 (b8 0) (b7 @F f9))) (dC (.int 6)))) (f8 2))) p7)
  (i6 (k8 (dOp @AF (dOp O0 (o7 F8 (b7 (b8 0) (b7 @R f9))) @R) @F) (f8 3))
  (i6 (k8 (dV (B3 [none,some 0,some 1,some 2,some 3] (u9 (b7 (b8 1) f9)) (f8 0) D9 (o7 a5W (b7 (b8 1) (b7 (b8 0) (b7 (b8 2) (b7 (b8 3) (b7 (b8 4) f9)))))))) (f8 4))
  (i6 (k8 (dV (B3 [none] (O9 (b8 4)) (f8 0) D9 (dOp pIx (b8 0) @H))) (f8 5))
  (i6 (k8 (o7 a6b (b7 (b8 4) (b7 (b8 1) (b7 (b8 2) @At)))) (f8 6))
  (i6 (Q1 (u9 (b7 (dCB b2N (b7 @R (b7 (b8 1) f9))) f9)) (f8 7) (i6 (k8 (dOp O0 (dOp n4 (b8 7) (o7 F8 (b7 (b8 0) (b7 @Am f9)))) (b8 1)) (f8 8))
  (i6 (k8 (o7 a5T (b7 (dV (a5h (b7 (b8 5) f9))) (b7 (b8 8) f9))) (f8 9))
  (i6 (x0 (dOr (b4j (dTr (a0m "dict" (b8 9)))) (o9 (dOp a7I (b8 9) (dOp pIx (b8 6) (b8 8))))) (p8 (dC (.bl false))) p7)
  (x0 (dTr (dCB c0X (b7 (dV (B3 [none] (b0M (b8 9)) (f8 0) D9 (a7S (o7 a5N (b7 (b8 0) f9))))) f9))) (p8 (dC (.bl false))) p7)))))
  (p8 (dC (.bl true)))))))))))
def S_q34:DSp:=j2 10 a5s
theorem b2q:∀ ds h Q,S_q34 ds h Q->j2 10 a5s ds h Q:=λ _ _ _ h=>h
theorem law_true(ns:List Int)(hl:ns.length <= 63)(hb:∀ x ∈ ns,Builtin.Int.intBits x <= 1048576):S_q34 [.scr @AP] [] (λ v _=>v = .bl true):=by
 delta S_q34;have o6:∀ r:Int,∃ a:Nat,1 + r % 6=(a:Int)/\1 <= a/\a <= 6:=λ r=>⟨(1 + r % 6).toNat,by right,by right,by right⟩
 delta j2 a5s;show N;show B;refine ⟨ns,0,rfl,hl,by decide,λ r0=>?_⟩;show B;refine ⟨by decide,?_⟩;obtain ⟨m0,e0,a0,b0⟩:=c1G r0;rw [e0];show E;show B;refine ⟨ns,1,rfl,hl,by decide,λ r1=>?_⟩;show B;refine ⟨by decide,?_⟩;obtain ⟨n0,e1,a1,b1⟩:=c1G r1;rw [e1];show E
 have main:∀ many nf:Nat,1 <= many->many <= 6->1 <= nf->nf <= 6->N [some (.scr @AP),some (nD many),some (nD nf),none,none,none,none,none,none,none] []:=by
  intro many nf m1 m6 n1 n6;show E;show B;refine ⟨ns,2,rfl,hl,by decide,λ r2=>?_⟩;show B;refine ⟨by decide,?_⟩;generalize (r2 % 2 == 1)=mo;show E;show B;refine ⟨⟨by right,by right⟩,by rw [u5,ZB];omega,?_⟩;rw [u8,ZB];refine D3 (λ p acc δ h'=>h'=[]/\(∃ o,δ=[o,some (.scr @AP),some (nD many),some (nD nf),some (.bl mo)])/\∃ ps:List Fp,acc=ps.zipIdx.map (mdD mo nf many)/\ps.length=p.length/\∀ q ∈ ps,B7 nf q) ⟨rfl,⟨_,rfl⟩,[],rfl,rfl,λ _ h=>nomatch h⟩ (λ _ _ _ _ _=>Src.ok_nil) ?_ ?_
  ·rintro p y r acc δ h' N1 e ⟨rfl,⟨o,rfl⟩,ps,rfl,lp,op⟩ hN1
   obtain ⟨ey,hy⟩:=M4 e;subst ey;show B;refine ⟨ns,p.length,many,nf,mo,by rw [YN],hl,hy,m6,n1,n6,λ q kq=>hN1 _ _ _ ⟨rfl,⟨_,rfl⟩,ps ++ [q],?_,by rw [ZW,ZW,lp];rfl,λ q' hq=>?_⟩⟩
   ·rw [List.zipIdx_append,Zz,<- lp]
    congr 1
    simp [mdD]
   ·rcases List.mem_append.mp hq with z | z
    ·exact op q' z
    ·rw [ZX.mp z];exact kq
  ·rintro acc δ h' ⟨rfl,_,ps,rfl,lp,op⟩
   rw [Zv] at lp;subst lp;show E;show B;refine ⟨by simp;omega,?_⟩;refine a4A (λ x=>fD (fnE mo nf ps.length x.2 x.1)) Src.ok_nil none (λ x hx K k=>?_) ?_
   ·simp only [mdD,VV];exact k
   ·have ec:D.lst (ps.zipIdx.map λ x=>fD (fnE mo nf ps.length x.2 x.1))=cD @Af:=by unfold cD chE;rw [Zd];rfl
    rw [ec];have wf:=b7C (mo:=mo) m1 m6 n1 n6 op;show E;show B;refine ⟨mo,nf,ps,rfl,m1,m6,n1,n6,op,?_⟩;rw [Zj];have dl:(dcE (λ f=>C6 mo nf ps f (dsL nf nf)) ps.length).length=ps.length:=a0c _ _;have dg:∀ f,f < ps.length->(dcE (λ f=>C6 mo nf ps f (dsL nf nf)) ps.length)[f]?=some (.dT none (tbD (C6 mo nf ps f (dsL nf nf)))):=λ f hf=>Q3 hf;generalize dcE (λ f=>C6 mo nf ps f (dsL nf nf)) ps.length=hd at *;show E
    have refs:∀ (hh:Hh) f (hf:f < ps.length),ixD hh (.lst ((List.range ps.length).map λ f=>D.ref (([]:Hh).length + f))) (nD f)=some (.ref f):=λ hh f hf=>by
     show atI ((List.range ps.length).map λ f=>D.ref (([]:Hh).length + f)) (f:Int)=_;rw [atN,ZP,Zf hf];show some (D.ref (0 + f))=_;rw [Nat.zero_add]
    generalize D.lst ((List.range ps.length).map λ f=>D.ref (([]:Hh).length + f))=d6 at *;generalize D.lst (ps.zipIdx.map (mdD mo nf ps.length))=d4 at *;show B
    obtain ⟨c2,ec2⟩:∃ c2:Nat,(if (ps.length:Int) < 2 then (ps.length:Int) else 2)=(c2:Int):=by
     split
     ·exact ⟨ps.length,rfl⟩
     ·exact ⟨2,rfl⟩
    have c26:c2 <= 6:=by
     have:(c2:Int) <= 6:=by rw [<- ec2];split <;> omega
     omega
    rw [ec2];refine ⟨⟨by right,by right⟩,?_⟩;rw [u8,ZB];refine u0 (λ p δ h'=>(∃ x7 x8 x9,δ=[some (.scr @AP),some (nD ps.length),some (nD nf),some (D.bl mo),some d4,some (cD @Af),some d6,x7,x8,x9])/\Pre hd h') ⟨⟨_,_,_,rfl⟩,λ _ _ e=>e⟩ (λ _ _ _ _=>Src.ok_nil) ?_ ?_
    ·rintro p y r δ h' N1 e ⟨⟨_,_,_,rfl⟩,pr⟩ hN1
     refine a0g ?_;left;show B;refine ⟨ns,3,rfl,hl,by decide,λ r3=>?_⟩;show B;refine ⟨by right,?_⟩
     obtain ⟨f,ef,hf⟩:∃ f:Nat,(0 + (y:Int) + r3) % (ps.length:Int)=(f:Int)/\f < ps.length:=by
      have h0:=Int.emod_nonneg (0 + (y:Int) + r3) (show (ps.length:Int) ≠ 0 by right);have h1:=Int.emod_lt_of_pos (0 + (y:Int) + r3) (show (0:Int) < ps.length by right);exact ⟨((0 + (y:Int) + r3) % (ps.length:Int)).toNat,by right,by right⟩
     rw [ef];show E;have hF:(chE mo nf ps)[f]?=some (fnE mo nf ps.length f ps[f]):=by rw [J1,ZZ hf];rfl
     simp only [cD,VV];refine ⟨chE mo nf ps,f,_,rfl,wf,hF,λ rs I hb dn pr2 kI il=>?_⟩;have e1:(hb ++ dcs @Af I)[hb.length + f]?=some (.dT none (tbD (shN @Af f I))):=by rw [w9];exact U3 (by rw [a2m];exact hf)
     have pr3:Pre hd (hb ++ dcs @Af I):=λ i o ei=>by
      have:=pr2 i o (pr i o ei)
      rw [ZN (ZY.mp this).1];exact this
     have hdl:hd.length <= hb.length + f:=by
      rcases Nat.lt_or_ge hb.length hd.length with z | z
      ·have q1:hd[hb.length]?=some hd[hb.length]:=ZZ z;have q2:=pr2 _ _ (pr _ _ q1);exact absurd (ZY.mp q2).1 (Ze _)
      ·omega
     have e2:=pr3 _ _ (dg f hf);obtain ⟨s1,s2⟩:=b1C op n1 dn hf
     have ml:(shN @Af f I).length <= 2160:=by
      unfold shN;rw [ZS];exact Zu (List.length_filter_le _ _) il
     generalize hb ++ dcs @Af I=h3 at *;generalize hb.length + f=ix at *;generalize shN @Af f I=M at *;show E
     (try dsimp only);refine u6 λ A1 B1 hA hB=>?_
     have kd:K9 h3 (.ref ix)=some "dict":=by
      show (match h3[ix]? with | some (.lst _)=>some "list" | some (.dT none _)=>some "dict" | some (.dK _)=>some "dict" | _=>none)=_;rw [e1]
     simp only [kd,refs _ f hf,VV];refine ⟨ix,f,none,none,tbD M,tbD (C6 mo nf ps f (dsL nf nf)),rfl,rfl,e1,e2,a5n _,a5n _,by rw [a4N,a4N];exact s1,λ kv hkv=>?_,?_⟩
     ·unfold tbD at hkv ⊢;obtain ⟨x,hx,rfl⟩:=ZG.mp hkv;exact ZG.mpr ⟨x,s2 x hx,rfl⟩
     ·subst hB;show B;subst hN
      (try dsimp only);refine u6 λ A1 B1 hA hB=>?_;simp only [e1,VV];intro o;have em:(tbD M).map (λ x=>x.2)=M.map λ x=>nD x.2:=by unfold tbD;rw [Zd];rfl
      rw [em];refine ⟨by rw [ZS];omega,?_⟩;have ixl:ix < h3.length:=(ZY.mp e1).1;refine a4A (λ _=>.bl false) (λ z hz=>?_) none (λ x hx K k=>?_) ?_
      ·rw [ZX.mp hz,ZH ixl]
      ·show B;refine ⟨_,rfl,?_⟩;show B;exact k
      ·have eb:M.map (λ _=>D.bl false)=(M.map λ _=>false).map D.bl:=by rw [Zd];rfl
       refine ⟨_,M.map λ _=>false,rfl,by rw [<- eb];rfl,?_⟩;have ea:((M.map λ _=>false).any λ b=>b)=false:=by rw [List.any_map];simp
       rw [ea];subst hB;show B;exact hN1 _ _ ⟨⟨_,_,_,rfl⟩,b5t pr3 hdl⟩
    ·rintro δ h' ⟨⟨_,_,_,rfl⟩,_⟩
     subst hN;show B
 (try dsimp only);refine u6 λ A1 B1 hA hB=>?_;show B;refine ⟨ns,4,rfl,hl,by decide,λ r4=>?_⟩;show B;refine ⟨by decide,b6P (λ _=>?_) (λ _=>?_)⟩
 ·subst hA;left;show B;refine ⟨ns,0,rfl,hl,by decide,λ r5=>?_⟩;show B;refine ⟨by decide,?_⟩;obtain ⟨m2,e2,a2,b2⟩:=o6 r5;rw [e2];subst hN;show B;refine ⟨ns,1,rfl,hl,by decide,λ r6=>?_⟩;show B;refine ⟨by decide,?_⟩;obtain ⟨n2,e3,a3,b3⟩:=o6 r6;rw [e3];exact main m2 n2 a2 b2 a3 b3
 ·subst hB;show B;exact main m0 n0 a0 @P a1 @P
theorem b6Q{f:Addr}{fd:FuncData}(F:Fun K "law" "law" R9 f fd)(T:Txt P w K mg)(C_q13:Cal P w K mg base 1 "_law_cell" ["_law_script","_law_k"] (spD K 2 F8))(C_q16:Cal P w K mg base 3 "_law_function" ["_law_script","_law_f","_law_many","_law_facts","_law_more"] (spD K 5 a5W))(C_q15:Cal P w K mg base 1 "_law_due" ["_law_made","_law_many","_law_facts","_law_more"] (spD K 4 a6b))(C_q39:Cal P w K mg base 10 "shorts" ["chart","f"] (spD K 2 a5T))(C_q18:Cal P w K mg base 1 "_law_whole" ["_law_found"] (spD K 1 a5N)):n8 P w K mg base CX0 11 f fd ["_law_script"] (spD K 1 S_q34) :=
 m9 (k:=10) (b:=a5s) F sc_q34 (λ cdv A outer s H E hr=>by
  show C
  ·refine j4 (i:=1) sc_q34.nd rfl (Or.inr rfl) ?_;exact i7 j5 b9 (i7 z9 (j1 C_q13 @A rfl @AW) b9)
  show C
  ·refine j4 (i:=2) sc_q34.nd rfl (Or.inr rfl) ?_;exact i7 j5 b9 (i7 z9 (j1 C_q13 @A rfl @AW) b9)
  show C
  ·refine y1 ?_ ?_ m5
   ·exact j6 @Az (i7 z9 (j1 C_q13 @A rfl @AW) b9) b9
   show C
   ·refine j4 (i:=1) sc_q34.nd rfl (Or.inr rfl) ?_;exact i7 j5 b9 (i7 z9 (j1 C_q13 @A rfl @AW) b9)
   show M;refine j4 (i:=2) sc_q34.nd rfl (Or.inr rfl) ?_;exact i7 j5 b9 (i7 z9 (j1 C_q13 @A rfl @AW) b9)
  show C
  ·refine j4 (i:=3) sc_q34.nd rfl (Or.inr rfl) ?_;exact P0 @Az (i7 z9 (j1 C_q13 @A rfl @AW) b9) b9
  show C
  ·exact S9 (i:=4) (hN:=sc_q34.nd) (hix:=rfl) (hx:=@E) rfl (N':= ["_law_f","_law_script","_law_many","_law_facts","_law_more"]) (js:=[none,some 0,some 1,some 2,some 3]) ⟨rfl,by decide +kernel,rfl,rfl,rfl⟩ (q8 rfl T.b_range (b6 (sv 1) c7)) (λ s0 H0 fp=>⟨(j9 (i:=0) (show (["_law_f","_law_script","_law_many","_law_facts","_law_more"]:List Str).Nodup by decide +kernel) rfl @E),C9,(j1 C_q16 @A rfl (b6 (sv 1) (b6 (sv 0) (b6 (sv 2) (b6 (sv 3) (b6 (sv 4) c7))))))⟩)
  show C
  ·exact S9 (i:=5) (hN:=sc_q34.nd) (hix:=rfl) (hx:=@E) rfl (N':= ["_law_one"]) (js:=[none]) ⟨rfl,by decide +kernel,rfl,rfl,rfl⟩ (J7 (sv 4)) (λ s0 H0 fp=>⟨(j9 (i:=0) (show (["_law_one"]:List Str).Nodup by decide +kernel) rfl @E),C9,(d8 c9 (sv 0) b9)⟩)
  show C
  ·refine j4 (i:=6) sc_q34.nd rfl @E ?_;exact j1 C_q15 @A rfl (b6 (sv 4) (b6 (sv 1) (b6 (sv 2) @Au)))
  refine c8 ?_ (d9 (l7 a9x));refine F1 PassesOwn.never rfl ?_ (j9 (i:=7) sc_q34.nd rfl @E) ?_
  ·exact q8 rfl T.b_range (b6 (s9 (a8k rfl) rfl T.b_min PyProof.Rows.boot_min (b6 b9 (b6 (sv 1) c7))) c7)
  show C
  ·refine j4 (i:=8) sc_q34.nd rfl @E ?_;exact i7 z9 (i7 j5 (sv 7) (j1 C_q13 @A rfl @AW)) (sv 1)
  show C
  ·refine j4 (i:=9) sc_q34.nd rfl @E ?_;exact j1 C_q39 @A rfl (b6 (T5 (b4J rfl T.b_list (b6 (sv 5) c7))) (b6 (sv 8) c7))
  show C
  ·refine y1 ?_ (d9 (l7 a9x)) m5;exact X0 (R8 (a4t (y6 (U8 @B rfl T.b_isinstance (sv 9) (a2i (v:=.ty "dict") rfl T.b_dict PyProof.Rows.boot_dict rfl)))) (P7 (j6 (b1u hr.units) (sv 9) (d8 c9 (sv 6) (sv 8)))))
  show M;refine y1 ?_ (d9 (l7 a9x)) m5;exact y6 (s9 (b7w rfl) rfl T.b_any PyProof.Rows.boot_any (b6 (T5 (C1 rfl (N':= ["_law_cost_here"]) (js:=[none]) ⟨rfl,by decide +kernel,rfl,rfl,rfl⟩ (a7h (sv 9)) (λ s0 H0 fp=>⟨(j9 (i:=0) (show (["_law_cost_here"]:List Str).Nodup by decide +kernel) rfl @E),C9,(a8D (j1 C_q18 @A rfl (b6 (sv 0) c7)))⟩))) c7))) b2q
end
theorem a0C{P:Program}{w:World}{K:PySem.W.Frag}{a:Addr}{t1 t2 t3 t4 t5 t6:Tok}{ep:Nat}(l:K.lookup a=some { cls:=.type "dict",data:=.dict #[{ hash:=PyData.keyHash w.params "step",key:=.str "step" t1,val:=.int 4 t2 },{ hash:=PyData.keyHash w.params "in",key:=.str "in" t3,val:=.int 5 t4 },{ hash:=PyData.keyHash w.params "over",key:=.str "over" t5,val:=.int 7 t6 }] ep }):a6a P w K a (k_MOVE_TABLES.map λ p=>(p.1,V.int p.2)):=by
 have ks:∀ (x:Str) (t:Tok),X7 (.inr x) (.str x t)=true:=λ x t=>by simp [X7,Value.isStrOf]
 refine ⟨_,_,_,[(.inr "step",.int 4 t2),(.inr "in",.int 5 t4),(.inr "over",.int 7 t6)],l,⟨rfl,rfl,rfl⟩,rfl,?_,.cons (ks _ t1) rfl (.cons (ks _ t3) rfl (.cons (ks _ t5) rfl .nil)),(show [(.inr "step":Key),.inr "in",.inr "over"].Nodup by decide +kernel),.cons ⟨rfl,⟨_,rfl⟩⟩ (.cons ⟨rfl,⟨_,rfl⟩⟩ (.cons ⟨rfl,⟨_,rfl⟩⟩ .nil))⟩;intro e he;simp only [List.mem_toArray,List.mem_cons,List.not_mem_nil,or_false] at he
 rcases he with rfl | rfl | rfl
 ·exact ⟨.inr "step",ks _ t1,rfl⟩
 ·exact ⟨.inr "in",ks _ t3,rfl⟩
 ·exact ⟨.inr "over",ks _ t5,rfl⟩
theorem z6{α:Type}{n:Nat}{us:List α}(h:us.length=n + 1):∃ a t,us=a :: t/\t.length=n:=by
 cases us with
 |nil=>cases h
 |cons a t=>exact ⟨a,t,rfl,Nat.succ.inj h⟩
theorem a1L{α:Type}{us:List α}(h:us.length=0):us=[]:=List.length_eq_zero_iff.mp h
theorem ln1{F:FuncData}{ps:List Str}{us:List Value}(h:us.length=1)(k:∀ a,bindArgs F ⟨[a],[]⟩=pure (ps.zip [a])):bindArgs F ⟨us,[]⟩=pure (ps.zip us):=by
 obtain ⟨a,us1,rfl,h1⟩:=z6 h
 cases a1L h1
 exact k a
theorem ln2{F:FuncData}{ps:List Str}{us:List Value}(h:us.length=2)(k:∀ a b,bindArgs F ⟨[a,b],[]⟩=pure (ps.zip [a,b])):bindArgs F ⟨us,[]⟩=pure (ps.zip us):=by
 obtain ⟨a,us1,rfl,h1⟩:=z6 h;obtain ⟨b,us2,rfl,h2⟩:=z6 h1
 cases a1L h2
 exact k a b
theorem ln3{F:FuncData}{ps:List Str}{us:List Value}(h:us.length=3)(k:∀ a b c,bindArgs F ⟨[a,b,c],[]⟩=pure (ps.zip [a,b,c])):bindArgs F ⟨us,[]⟩=pure (ps.zip us):=by
 show U
 cases a1L h3
 exact k a b c
theorem ln4{F:FuncData}{ps:List Str}{us:List Value}(h:us.length=4)(k:∀ a b c d,bindArgs F ⟨[a,b,c,d],[]⟩=pure (ps.zip [a,b,c,d])):bindArgs F ⟨us,[]⟩=pure (ps.zip us):=by
 show U;obtain ⟨d,us4,rfl,h4⟩:=z6 h3
 cases a1L h4
 exact k a b c d
theorem ln5{F:FuncData}{ps:List Str}{us:List Value}(h:us.length=5)(k:∀ a b c d e,bindArgs F ⟨[a,b,c,d,e],[]⟩=pure (ps.zip [a,b,c,d,e])):bindArgs F ⟨us,[]⟩=pure (ps.zip us):=by
 show U;obtain ⟨d,us4,rfl,h4⟩:=z6 h3;obtain ⟨e,us5,rfl,h5⟩:=z6 h4
 cases a1L h5
 exact k a b c d e
theorem ln6{F:FuncData}{ps:List Str}{us:List Value}(h:us.length=6)(k:∀ a b c d e f,bindArgs F ⟨[a,b,c,d,e,f],[]⟩=pure (ps.zip [a,b,c,d,e,f])):bindArgs F ⟨us,[]⟩=pure (ps.zip us):=by
 show U;obtain ⟨d,us4,rfl,h4⟩:=z6 h3;obtain ⟨e,us5,rfl,h5⟩:=z6 h4;obtain ⟨f,us6,rfl,h6⟩:=z6 h5
 cases a1L h6
 exact k a b c d e f
def Gt(K:PySem.W.Frag)(x:Str)(st:Stmt):Prop:=∃ (a:Addr) (an:Option Addr) (kV dc pm cd ct:Value),PySem.W.nsIn K mainGlobals x=some (some @Ax)/\Fun K x x st a (PySem.W.fnOf x x (k7 st) (j7 st) (d7 st) .none kV dc pm an cd ct)/\PySem.W.keepIn K @Ax=true
theorem gt_mk{K:PySem.W.Frag}{x:Str}{st:Stmt}{a:Addr}{od an:Option Addr}{sl:Array @An}{oc kV dc pm cd ct:Value}(e:PySem.W.nsIn K mainGlobals x=some (some @Ax))(l:K.lookup a=some ⟨oc,od,.func (PySem.W.fnOf x x (k7 st) (j7 st) (d7 st) .none kV dc pm an cd ct),sl⟩)(c:PySem.W.codeIn K cd x=true)(k:PySem.W.keepIn K @Ax=true):Gt K x st:=⟨a,an,kV,dc,pm,cd,ct,e,z8 (st:=st) l c k,k⟩
theorem Gt.cal{P:Program}{w:World}{K:PySem.W.Frag}{mg:Str->Option Value}{h base:Heap}{x:Str}{st:Stmt}{k:Nat}{ps:List Str}{S:Sp}(g:Gt K x st)(X:K.In h)(G:h.Ns mainGlobals mg)(ok:∀ {f fd},Fun K x x st f fd->n8 P w K mg base CX0 k f fd ps S)(hb:∀ {an kV dc pm cd ct} (us:List Value),us.length=ps.length->bindArgs (PySem.W.fnOf x x (k7 st) (j7 st) (d7 st) .none kV dc pm an cd ct) ⟨us,[]⟩=pure (ps.zip us)):Cal P w K mg base k x ps S:=by
 obtain ⟨a,an,kV,dc,pm,cd,ct,e,F,kp⟩:=g;exact ⟨a,_,ok F,PySem.W.mg_of X G e,kp,.all λ us hl=>hb us hl⟩
theorem all_mk{l:PySem.W.OpenLaw}{w:World}{K:PySem.W.Frag}{h:Heap}{mg:Str->Option Value}{fa a_q34 a_q3 a_q4 a_q5 a_q0 a_q1 a_q2 a_q6 a_q7 a_q12 a_q11 a_q10 a_q9 a_q8:Addr}(X:K.In h)(G:h.Ns mainGlobals mg)(hfa:mg "law" = some (.ref fa))
  {od_q34 an_q34:Option Addr} {sl_q34:Array @An} {oc_q34 kV_q34 dc_q34 pm_q34 cd_q34 ct_q34:Value}
  {od_q3 an_q3:Option Addr} {sl_q3:Array @An} {oc_q3 kV_q3 dc_q3 pm_q3 cd_q3 ct_q3:Value}
  {od_q4 an_q4:Option Addr} {sl_q4:Array @An} {oc_q4 kV_q4 dc_q4 pm_q4 cd_q4 ct_q4:Value}
  {od_q5 an_q5:Option Addr} {sl_q5:Array @An} {oc_q5 kV_q5 dc_q5 pm_q5 cd_q5 ct_q5:Value}
  {od_q0 an_q0:Option Addr} {sl_q0:Array @An} {oc_q0 kV_q0 dc_q0 pm_q0 cd_q0 ct_q0:Value}
  {od_q1 an_q1:Option Addr} {sl_q1:Array @An} {oc_q1 kV_q1 dc_q1 pm_q1 cd_q1 ct_q1:Value}
  {od_q2 an_q2:Option Addr} {sl_q2:Array @An} {oc_q2 kV_q2 dc_q2 pm_q2 cd_q2 ct_q2:Value}
  {od_q6 an_q6:Option Addr} {sl_q6:Array @An} {oc_q6 kV_q6 dc_q6 pm_q6 cd_q6 ct_q6:Value}
  {od_q7 an_q7:Option Addr} {sl_q7:Array @An} {oc_q7 kV_q7 dc_q7 pm_q7 cd_q7 ct_q7:Value}
  {od_q12 an_q12:Option Addr} {sl_q12:Array @An} {oc_q12 kV_q12 dc_q12 pm_q12 cd_q12 ct_q12:Value}
  {od_q11 an_q11:Option Addr} {sl_q11:Array @An} {oc_q11 kV_q11 dc_q11 pm_q11 cd_q11 ct_q11:Value}
  {od_q10 an_q10:Option Addr} {sl_q10:Array @An} {oc_q10 kV_q10 dc_q10 pm_q10 cd_q10 ct_q10:Value}
  {od_q9 an_q9:Option Addr} {sl_q9:Array @An} {oc_q9 kV_q9 dc_q9 pm_q9 cd_q9 ct_q9:Value}
  {od_q8 an_q8:Option Addr} {sl_q8:Array @An} {oc_q8 kV_q8 dc_q8 pm_q8 cd_q8 ct_q8:Value}
  {C_Offers:Addr} (e_Offers:PySem.W.nsIn K mainGlobals "Offers" = some (some (.ref C_Offers))) (pg_Offers:PySem.W.plainGet K C_Offers Str.empty=true) (hd_Offers:PySem.W.hasDictIn K C_Offers=true) (po_Offers:PySem.W.plainOver K C_Offers=true) (sa_Offers:PySem.W.findIn K (.ref C_Offers) "__setattr__" = some @Ba) (mk_Offers:PySem.W.makesIn K C_Offers=true) (kp_Offers:PySem.W.keepIn K (.ref C_Offers)=true)
  {C_Queue:Addr} (e_Queue:PySem.W.nsIn K mainGlobals "Queue" = some (some (.ref C_Queue))) (pg_Queue:PySem.W.plainGet K C_Queue Str.empty=true) (hd_Queue:PySem.W.hasDictIn K C_Queue=true) (po_Queue:PySem.W.plainOver K C_Queue=true) (sa_Queue:PySem.W.findIn K (.ref C_Queue) "__setattr__" = some @Ba) (mk_Queue:PySem.W.makesIn K C_Queue=true) (kp_Queue:PySem.W.keepIn K (.ref C_Queue)=true)
  {C_Search:Addr} (e_Search:PySem.W.nsIn K mainGlobals "Search" = some (some @AE)) (pg_Search:PySem.W.plainGet K C_Search Str.empty=true) (hd_Search:PySem.W.hasDictIn K C_Search=true) (po_Search:PySem.W.plainOver K C_Search=true) (sa_Search:PySem.W.findIn K @AE "__setattr__" = some @Ba) (mk_Search:PySem.W.makesIn K C_Search=true) (kp_Search:PySem.W.keepIn K @AE=true)
  (n_calls:PySem.W.findIn K @AE "calls" = some none)
  (n_chart:PySem.W.findIn K @AE "chart" = some none)
  (n_ends:PySem.W.findIn K @AE "ends" = some none)
  (n_found:PySem.W.findIn K @AE "found" = some none)
  (n_heap:PySem.W.findIn K (.ref C_Queue) "heap" = some none)
  (n_least:PySem.W.findIn K (.ref C_Offers) "least" = some none)
  (n_offers:PySem.W.findIn K @AE "offers" = some none)
  (n_puts:PySem.W.findIn K (.ref C_Queue) "puts" = some none)
  (n_queue:PySem.W.findIn K (.ref C_Offers) "queue" = some none)
  (n_rows:PySem.W.findIn K @AE "rows" = some none)
  (g_q30:Gt K "facts_in" a9w)
  (g_q22:Gt K "brings" a9H)
  (g_q29:Gt K "exit_of" b0c)
  (g_q42:Gt K "start_facts" a9W)
  (g_q28:Gt K "edges_from" a7B)
  (g_q43:Gt K "table_past" a9j)
  (g_q27:Gt K "edge_taken" a9n)
  (g_q33:Gt K "is_ahead" b0l)
  (g_q37:Gt K "rise" a9y)
  (g_q40:Gt K "sink" b1o)
  (g_q35:Gt K "lesser_below" a7E)
  (g_q25:Gt K "claims" b0X)
  (g_q24:Gt K "claim_of" a9r)
  (g_q23:Gt K "claim_ahead" a8U)
  (g_q21:Gt K "begin_claim" a9V)
  (g_q41:Gt K "start_claim" b1v)
  (g_q26:Gt K "edge_claim" a8X)
  (g_q38:Gt K "short_claim" a8y)
  (g_q31:Gt K "in_claim" a8i)
  (g_q20:Gt K "along_claim" b0W)
  (g_q36:Gt K "move_of" b1A)
  (g_q32:Gt K "inner" b0k)
  (g_q39:Gt K "shorts" a8t)
  (g_q19:Gt K "all_shorts" a7P)
  (g_q18:Gt K "_law_whole" b0K)
  (g_q17:Gt K "_law_number" a9T)
  (g_q13:Gt K "_law_cell" b0f)
  (g_q14:Gt K "_law_cost" b0t)
  (g_q16:Gt K "_law_function" a9Q)
  (g_q15:Gt K "_law_due" a9a)
  (e_q34:PySem.W.nsIn K mainGlobals "law" = some (some (.ref a_q34))) (l_q34:K.lookup a_q34=some ⟨oc_q34,od_q34,.func (PySem.W.fnOf "law" "law" (k7 R9) (j7 R9) (d7 R9) .none kV_q34 dc_q34 pm_q34 an_q34 cd_q34 ct_q34),sl_q34⟩) (c_q34:PySem.W.codeIn K cd_q34 "law" = true) (k_q34:PySem.W.keepIn K (.ref a_q34)=true)
  (e_q3:PySem.W.findIn K (.ref C_Queue) "__init__" = some (some (.ref a_q3))) (l_q3:K.lookup a_q3=some ⟨oc_q3,od_q3,.func (PySem.W.fnOf "__init__" "Queue.__init__" (k7 a2J) (j7 a2J) (d7 a2J) .none kV_q3 dc_q3 pm_q3 an_q3 cd_q3 ct_q3),sl_q3⟩) (c_q3:PySem.W.codeIn K cd_q3 "Queue.__init__" = true) (k_q3:PySem.W.keepIn K (.ref a_q3)=true) (fn_q3:PySem.W.isFn K (.ref a_q3)=true)
  (e_q4:PySem.W.findIn K (.ref C_Queue) "put" = some (some (.ref a_q4))) (l_q4:K.lookup a_q4=some ⟨oc_q4,od_q4,.func (PySem.W.fnOf "put" "Queue.put" (k7 a2j) (j7 a2j) (d7 a2j) .none kV_q4 dc_q4 pm_q4 an_q4 cd_q4 ct_q4),sl_q4⟩) (c_q4:PySem.W.codeIn K cd_q4 "Queue.put" = true) (k_q4:PySem.W.keepIn K (.ref a_q4)=true) (fn_q4:PySem.W.isFn K (.ref a_q4)=true)
  (e_q5:PySem.W.findIn K (.ref C_Queue) "take" = some (some (.ref a_q5))) (l_q5:K.lookup a_q5=some ⟨oc_q5,od_q5,.func (PySem.W.fnOf "take" "Queue.take" (k7 a2v) (j7 a2v) (d7 a2v) .none kV_q5 dc_q5 pm_q5 an_q5 cd_q5 ct_q5),sl_q5⟩) (c_q5:PySem.W.codeIn K cd_q5 "Queue.take" = true) (k_q5:PySem.W.keepIn K (.ref a_q5)=true) (fn_q5:PySem.W.isFn K (.ref a_q5)=true)
  (e_q0:PySem.W.findIn K (.ref C_Offers) "__init__" = some (some (.ref a_q0))) (l_q0:K.lookup a_q0=some ⟨oc_q0,od_q0,.func (PySem.W.fnOf "__init__" "Offers.__init__" (k7 a2u) (j7 a2u) (d7 a2u) .none kV_q0 dc_q0 pm_q0 an_q0 cd_q0 ct_q0),sl_q0⟩) (c_q0:PySem.W.codeIn K cd_q0 "Offers.__init__" = true) (k_q0:PySem.W.keepIn K (.ref a_q0)=true) (fn_q0:PySem.W.isFn K (.ref a_q0)=true)
  (e_q1:PySem.W.findIn K (.ref C_Offers) "offer" = some (some (.ref a_q1))) (l_q1:K.lookup a_q1=some ⟨oc_q1,od_q1,.func (PySem.W.fnOf "offer" "Offers.offer" (k7 a2o) (j7 a2o) (d7 a2o) .none kV_q1 dc_q1 pm_q1 an_q1 cd_q1 ct_q1),sl_q1⟩) (c_q1:PySem.W.codeIn K cd_q1 "Offers.offer" = true) (k_q1:PySem.W.keepIn K (.ref a_q1)=true) (fn_q1:PySem.W.isFn K (.ref a_q1)=true)
  (e_q2:PySem.W.findIn K (.ref C_Offers) "settled" = some (some (.ref a_q2))) (l_q2:K.lookup a_q2=some ⟨oc_q2,od_q2,.func (PySem.W.fnOf "settled" "Offers.settled" (k7 a2H) (j7 a2H) (d7 a2H) .none kV_q2 dc_q2 pm_q2 an_q2 cd_q2 ct_q2),sl_q2⟩) (c_q2:PySem.W.codeIn K cd_q2 "Offers.settled" = true) (k_q2:PySem.W.keepIn K (.ref a_q2)=true) (fn_q2:PySem.W.isFn K (.ref a_q2)=true)
  (e_q6:PySem.W.findIn K @AE "__init__" = some (some (.ref a_q6))) (l_q6:K.lookup a_q6=some ⟨oc_q6,od_q6,.func (PySem.W.fnOf "__init__" "Search.__init__" (k7 a2R) (j7 a2R) (d7 a2R) .none kV_q6 dc_q6 pm_q6 an_q6 cd_q6 ct_q6),sl_q6⟩) (c_q6:PySem.W.codeIn K cd_q6 "Search.__init__" = true) (k_q6:PySem.W.keepIn K (.ref a_q6)=true) (fn_q6:PySem.W.isFn K (.ref a_q6)=true)
  (e_q7:PySem.W.findIn K @AE "begin" = some (some (.ref a_q7))) (l_q7:K.lookup a_q7=some ⟨oc_q7,od_q7,.func (PySem.W.fnOf "begin" "Search.begin" (k7 a2t) (j7 a2t) (d7 a2t) .none kV_q7 dc_q7 pm_q7 an_q7 cd_q7 ct_q7),sl_q7⟩) (c_q7:PySem.W.codeIn K cd_q7 "Search.begin" = true) (k_q7:PySem.W.keepIn K (.ref a_q7)=true) (fn_q7:PySem.W.isFn K (.ref a_q7)=true)
  (e_q12:PySem.W.findIn K @AE "settle" = some (some (.ref a_q12))) (l_q12:K.lookup a_q12=some ⟨oc_q12,od_q12,.func (PySem.W.fnOf "settle" "Search.settle" (k7 Q8) (j7 Q8) (d7 Q8) .none kV_q12 dc_q12 pm_q12 an_q12 cd_q12 ct_q12),sl_q12⟩) (c_q12:PySem.W.codeIn K cd_q12 "Search.settle" = true) (k_q12:PySem.W.keepIn K (.ref a_q12)=true) (fn_q12:PySem.W.isFn K (.ref a_q12)=true)
  (e_q11:PySem.W.findIn K @AE "go_past" = some (some (.ref a_q11))) (l_q11:K.lookup a_q11=some ⟨oc_q11,od_q11,.func (PySem.W.fnOf "go_past" "Search.go_past" (k7 R7) (j7 R7) (d7 R7) .none kV_q11 dc_q11 pm_q11 an_q11 cd_q11 ct_q11),sl_q11⟩) (c_q11:PySem.W.codeIn K cd_q11 "Search.go_past" = true) (k_q11:PySem.W.keepIn K (.ref a_q11)=true) (fn_q11:PySem.W.isFn K (.ref a_q11)=true)
  (e_q10:PySem.W.findIn K @AE "go_in" = some (some (.ref a_q10))) (l_q10:K.lookup a_q10=some ⟨oc_q10,od_q10,.func (PySem.W.fnOf "go_in" "Search.go_in" (k7 Q9) (j7 Q9) (d7 Q9) .none kV_q10 dc_q10 pm_q10 an_q10 cd_q10 ct_q10),sl_q10⟩) (c_q10:PySem.W.codeIn K cd_q10 "Search.go_in" = true) (k_q10:PySem.W.keepIn K (.ref a_q10)=true) (fn_q10:PySem.W.isFn K (.ref a_q10)=true)
  (e_q9:PySem.W.findIn K @AE "come_to_end" = some (some (.ref a_q9))) (l_q9:K.lookup a_q9=some ⟨oc_q9,od_q9,.func (PySem.W.fnOf "come_to_end" "Search.come_to_end" (k7 a2g) (j7 a2g) (d7 a2g) .none kV_q9 dc_q9 pm_q9 an_q9 cd_q9 ct_q9),sl_q9⟩) (c_q9:PySem.W.codeIn K cd_q9 "Search.come_to_end" = true) (k_q9:PySem.W.keepIn K (.ref a_q9)=true) (fn_q9:PySem.W.isFn K (.ref a_q9)=true)
  (e_q8:PySem.W.findIn K @AE "come_back" = some (some (.ref a_q8))) (l_q8:K.lookup a_q8=some ⟨oc_q8,od_q8,.func (PySem.W.fnOf "come_back" "Search.come_back" (k7 a2r) (j7 a2r) (d7 a2r) .none kV_q8 dc_q8 pm_q8 an_q8 cd_q8 ct_q8),sl_q8⟩) (c_q8:PySem.W.codeIn K cd_q8 "Search.come_back" = true) (k_q8:PySem.W.keepIn K (.ref a_q8)=true) (fn_q8:PySem.W.isFn K (.ref a_q8)=true)
  (z_any:PySem.W.nsIn K mainGlobals "any" = some none)
  (z_bool:PySem.W.nsIn K mainGlobals "bool" = some none)
  (z_dict:PySem.W.nsIn K mainGlobals "dict" = some none)
  (z_enumerate:PySem.W.nsIn K mainGlobals "enumerate" = some none)
  (z_int:PySem.W.nsIn K mainGlobals "int" = some none)
  (z_isinstance:PySem.W.nsIn K mainGlobals "isinstance" = some none)
  (z_len:PySem.W.nsIn K mainGlobals "len" = some none)
  (z_list:PySem.W.nsIn K mainGlobals "list" = some none)
  (z_max:PySem.W.nsIn K mainGlobals "max" = some none)
  (z_min:PySem.W.nsIn K mainGlobals "min" = some none)
  (z_range:PySem.W.nsIn K mainGlobals "range" = some none)
  (z_sum:PySem.W.nsIn K mainGlobals "sum" = some none)
  (z_tuple:PySem.W.nsIn K mainGlobals "tuple" = some none)
  {da_MOVE_TABLES:Addr} {t1 t2 t3 t4 t5 t6:Tok} {ep:Nat} (y_MOVE_TABLES:PySem.W.nsIn K mainGlobals "MOVE_TABLES" = some (some (.ref da_MOVE_TABLES))) (d_MOVE_TABLES:K.lookup da_MOVE_TABLES=some { cls:=.type "dict",data:=.dict #[{ hash:=PyData.keyHash w.params "step",key:=.str "step" t1,val:=.int 4 t2 },{ hash:=PyData.keyHash w.params "in",key:=.str "in" t3,val:=.int 5 t4 },{ hash:=PyData.keyHash w.params "over",key:=.str "over" t5,val:=.int 7 t6 }] ep })
  : ∃ fd:FuncData,(∀ (s:Shared) (v:Value),BindsTo s fd ⟨[v],[]⟩ [("_law_script",v)])/\∀ base:Heap,K.In base->base.Ns mainGlobals mg->n8 l.prog w K mg base CX0 11 fa fd ["_law_script"] (spD K 1 S_q34):=by
 have e:=hfa.symm.trans (PySem.W.mg_of X G e_q34);cases e;have CL_Offers:Cls K C_Offers:=⟨pg_Offers,hd_Offers,po_Offers,sa_Offers⟩
 have CL_Queue:Cls K C_Queue:=⟨pg_Queue,hd_Queue,po_Queue,sa_Queue⟩
 have CL_Search:Cls K C_Search:=⟨pg_Search,hd_Search,po_Search,sa_Search⟩
 have T:Txt l.prog w K mg:=⟨PySem.W.mg_none_of X G z_any,PySem.W.mg_none_of X G z_bool,PySem.W.mg_none_of X G z_dict,PySem.W.mg_none_of X G z_enumerate,PySem.W.mg_none_of X G z_int,PySem.W.mg_none_of X G z_isinstance,PySem.W.mg_none_of X G z_len,PySem.W.mg_none_of X G z_list,PySem.W.mg_none_of X G z_max,PySem.W.mg_none_of X G z_min,PySem.W.mg_none_of X G z_range,PySem.W.mg_none_of X G z_sum,PySem.W.mg_none_of X G z_tuple,⟨_,PySem.W.mg_of X G y_MOVE_TABLES,a0C d_MOVE_TABLES⟩,⟨_,e_Search,CL_Search,n_calls⟩,⟨_,e_Search,CL_Search,n_chart⟩,⟨_,e_Search,CL_Search,n_ends⟩,⟨_,e_Search,CL_Search,n_found⟩,⟨_,e_Queue,CL_Queue,n_heap⟩,⟨_,e_Offers,CL_Offers,n_least⟩,⟨_,e_Search,CL_Search,n_offers⟩,⟨_,e_Queue,CL_Queue,n_puts⟩,⟨_,e_Offers,CL_Offers,n_queue⟩,⟨_,e_Search,CL_Search,n_rows⟩⟩
 have F_q34:=z8 (st:=R9) l_q34 c_q34 k_q34;have F_q3:=z8 (st:=a2J) l_q3 c_q3 k_q3;have F_q4:=z8 (st:=a2j) l_q4 c_q4 k_q4;have F_q5:=z8 (st:=a2v) l_q5 c_q5 k_q5;have F_q0:=z8 (st:=a2u) l_q0 c_q0 k_q0;have F_q1:=z8 (st:=a2o) l_q1 c_q1 k_q1;have F_q2:=z8 (st:=a2H) l_q2 c_q2 k_q2;have F_q6:=z8 (st:=a2R) l_q6 c_q6 k_q6;have F_q7:=z8 (st:=a2t) l_q7 c_q7 k_q7;have F_q12:=z8 (st:=Q8) l_q12 c_q12 k_q12;have F_q11:=z8 (st:=R7) l_q11 c_q11 k_q11;have F_q10:=z8 (st:=Q9) l_q10 c_q10 k_q10;have F_q9:=z8 (st:=a2g) l_q9 c_q9 k_q9;have F_q8:=z8 (st:=a2r) l_q8 c_q8 k_q8;have a8M:Binds K (PySem.W.fnOf "__init__" "Queue.__init__" (k7 a2J) (j7 a2J) (d7 a2J) .none kV_q3 dc_q3 pm_q3 an_q3 cd_q3 ct_q3) ["self"] []:=.all λ us hl=>ln1 hl λ _=>rfl;have b0L:Binds K (PySem.W.fnOf "put" "Queue.put" (k7 a2j) (j7 a2j) (d7 a2j) .none kV_q4 dc_q4 pm_q4 an_q4 cd_q4 ct_q4) ["self","cost","thing"] []:=.all λ us hl=>ln3 hl λ _ _ _=>rfl;have b1c:Binds K (PySem.W.fnOf "take" "Queue.take" (k7 a2v) (j7 a2v) (d7 a2v) .none kV_q5 dc_q5 pm_q5 an_q5 cd_q5 ct_q5) ["self"] []:=.all λ us hl=>ln1 hl λ _=>rfl;have b1g:Binds K (PySem.W.fnOf "__init__" "Offers.__init__" (k7 a2u) (j7 a2u) (d7 a2u) .none kV_q0 dc_q0 pm_q0 an_q0 cd_q0 ct_q0) ["self"] []:=.all λ us hl=>ln1 hl λ _=>rfl;have a8T:Binds K (PySem.W.fnOf "offer" "Offers.offer" (k7 a2o) (j7 a2o) (d7 a2o) .none kV_q1 dc_q1 pm_q1 an_q1 cd_q1 ct_q1) ["self","cost","key","row"] []:=.all λ us hl=>ln4 hl λ _ _ _ _=>rfl;have b0r:Binds K (PySem.W.fnOf "settled" "Offers.settled" (k7 a2H) (j7 a2H) (d7 a2H) .none kV_q2 dc_q2 pm_q2 an_q2 cd_q2 ct_q2) ["self"] []:=.all λ us hl=>ln1 hl λ _=>rfl;have b1a:Binds K (PySem.W.fnOf "__init__" "Search.__init__" (k7 a2R) (j7 a2R) (d7 a2R) .none kV_q6 dc_q6 pm_q6 an_q6 cd_q6 ct_q6) ["self","chart"] []:=.all λ us hl=>ln2 hl λ _ _=>rfl;have b0T:Binds K (PySem.W.fnOf "begin" "Search.begin" (k7 a2t) (j7 a2t) (d7 a2t) .none kV_q7 dc_q7 pm_q7 an_q7 cd_q7 ct_q7) ["self"] []:=.all λ us hl=>ln1 hl λ _=>rfl;have a3I:Binds K (PySem.W.fnOf "settle" "Search.settle" (k7 Q8) (j7 Q8) (d7 Q8) .none kV_q12 dc_q12 pm_q12 an_q12 cd_q12 ct_q12) ["self","cost","key","row"] []:=.all λ us hl=>ln4 hl λ _ _ _ _=>rfl;have a3h:Binds K (PySem.W.fnOf "go_past" "Search.go_past" (k7 R7) (j7 R7) (d7 R7) .none kV_q11 dc_q11 pm_q11 an_q11 cd_q11 ct_q11) ["self","cost","key","k","n","edge"] []:=.all λ us hl=>ln6 hl λ _ _ _ _ _ _=>rfl;have a3H:Binds K (PySem.W.fnOf "go_in" "Search.go_in" (k7 Q9) (j7 Q9) (d7 Q9) .none kV_q10 dc_q10 pm_q10 an_q10 cd_q10 ct_q10) ["self","cost","key","k","n","edge"] []:=.all λ us hl=>ln6 hl λ _ _ _ _ _ _=>rfl;have b0V:Binds K (PySem.W.fnOf "come_to_end" "Search.come_to_end" (k7 a2g) (j7 a2g) (d7 a2g) .none kV_q9 dc_q9 pm_q9 an_q9 cd_q9 ct_q9) ["self","cost","key","k"] []:=.all λ us hl=>ln4 hl λ _ _ _ _=>rfl;have b1w:Binds K (PySem.W.fnOf "come_back" "Search.come_back" (k7 a2r) (j7 a2r) (d7 a2r) .none kV_q8 dc_q8 pm_q8 an_q8 cd_q8 ct_q8) ["self","call","end"] []:=.all λ us hl=>ln3 hl λ _ _ _=>rfl;refine ⟨PySem.W.fnOf "law" "law" (k7 R9) (j7 R9) (d7 R9) .none kV_q34 dc_q34 pm_q34 an_q34 cd_q34 ct_q34,λ s v=>.of_eq rfl,λ base _ _=>?_⟩;have C_q30:=g_q30.cal X G (λ F=>b8R (base:=base) F T ) λ _ hl=>ln1 hl λ _=>rfl;have C_q29:=g_q29.cal X G (λ F=>b7k (base:=base) F T ) λ _ hl=>ln2 hl λ _ _=>rfl;have C_q42:=g_q42.cal X G (λ F=>b6p (base:=base) F T ) λ _ hl=>ln2 hl λ _ _=>rfl;have C_q28:=g_q28.cal X G (λ F=>b9d (base:=base) F T ) λ _ hl=>ln3 hl λ _ _ _=>rfl;have C_q43:=g_q43.cal X G (λ F=>b7V (base:=base) F T ) λ _ hl=>ln1 hl λ _=>rfl;have C_q22:=g_q22.cal X G (λ F=>b7Z (base:=base) F T C_q30) λ _ hl=>ln3 hl λ _ _ _=>rfl;have C_q27:=g_q27.cal X G (λ F=>b7P (base:=base) F T C_q22) λ _ hl=>ln3 hl λ _ _ _=>rfl;have C_q23:=g_q23.cal X G (λ F=>b8f (base:=base) F T ) λ _ hl=>ln3 hl λ _ _ _=>rfl;have C_q21:=g_q21.cal X G (λ F=>b6B (base:=base) F T ) λ _ hl=>ln2 hl λ _ _=>rfl;have C_q36:=g_q36.cal X G (λ F=>b7x (base:=base) F T ) λ _ hl=>ln1 hl λ _=>rfl;have C_q41:=g_q41.cal X G (λ F=>b9D (base:=base) F T C_q42) λ _ hl=>ln3 hl λ _ _ _=>rfl;have C_q20:=g_q20.cal X G (λ F=>b9t (base:=base) F T C_q23) λ _ hl=>ln2 hl λ _ _=>rfl;have C_q26:=g_q26.cal X G (λ F=>b9I (base:=base) F T C_q23 C_q36 C_q27) λ _ hl=>ln3 hl λ _ _ _=>rfl;have C_q38:=g_q38.cal X G (λ F=>b7p (base:=base) F T C_q23 C_q27 C_q29 C_q22) λ _ hl=>ln3 hl λ _ _ _=>rfl;have C_q31:=g_q31.cal X G (λ F=>b7j (base:=base) F T C_q23 C_q36 C_q27) λ _ hl=>ln3 hl λ _ _ _=>rfl;have C_q24:=g_q24.cal X G (λ F=>b8x (base:=base) F T C_q21 C_q41 C_q38 C_q31 C_q20 C_q26) λ _ hl=>ln4 hl λ _ _ _ _=>rfl;have C_q25:=g_q25.cal X G (λ F=>b7I (base:=base) F T C_q24) λ _ hl=>ln3 hl λ _ _ _=>rfl;have C_q33:=g_q33.cal X G (λ F=>b8d (base:=base) F T ) λ _ hl=>ln2 hl λ _ _=>rfl;have C_q18:=g_q18.cal X G (λ F=>b7s (base:=base) F T ) λ _ hl=>ln1 hl λ _=>rfl;have M_Queue:X5 l.prog w K mg base 1 "Queue" ["self"] (spD K 1 b1b):=⟨C_Queue,a_q3,_,PySem.W.mg_of X G e_Queue,e_Queue,⟨mk_Queue,e_q3,fn_q3,kp_Queue⟩,c0N F_q3 T ,a8M⟩
 have C_q37:=g_q37.cal X G (λ F=>b6x (base:=base) F T C_q33) λ _ hl=>ln1 hl λ _=>rfl;have C_q35:=g_q35.cal X G (λ F=>b8h (base:=base) F T C_q33) λ _ hl=>ln2 hl λ _ _=>rfl;have C_q40:=g_q40.cal X G (λ F=>b8u (base:=base) F T C_q35 C_q33) λ _ hl=>ln1 hl λ _=>rfl;have C_q4:C5 l.prog w K mg base 3 "Queue" "put" ["self","cost","thing"] (spD K 3 a8V):=⟨C_Queue,a_q4,_,e_Queue,CL_Queue,⟨e_q4,fn_q4,k_q4⟩,c1K F_q4 T C_q37,b0L⟩
 have C_q5:C5 l.prog w K mg base 4 "Queue" "take" ["self"] (spD K 1 a3A):=⟨C_Queue,a_q5,_,e_Queue,CL_Queue,⟨e_q5,fn_q5,k_q5⟩,c0x F_q5 T C_q40,b1c⟩
 have M_Offers:X5 l.prog w K mg base 3 "Offers" ["self"] (spD K 1 a8N):=⟨C_Offers,a_q0,_,PySem.W.mg_of X G e_Offers,e_Offers,⟨mk_Offers,e_q0,fn_q0,kp_Offers⟩,c0P F_q0 T  M_Queue,b1g⟩
 have M_Search:X5 l.prog w K mg base 5 "Search" ["self","chart"] (spD K 2 b0U):=⟨C_Search,a_q6,_,PySem.W.mg_of X G e_Search,e_Search,⟨mk_Search,e_q6,fn_q6,kp_Search⟩,c0n F_q6 T  M_Offers,b1a⟩
 have C_q1:C5 l.prog w K mg base 4 "Offers" "offer" ["self","cost","key","row"] (spD K 4 a2K):=⟨C_Offers,a_q1,_,e_Offers,CL_Offers,⟨e_q1,fn_q1,k_q1⟩,c1E F_q1 T C_q4,a8T⟩
 have C_q2:C5 l.prog w K mg base 5 "Offers" "settled" ["self"] (spD K 1 a6K):=⟨C_Offers,a_q2,_,e_Offers,CL_Offers,⟨e_q2,fn_q2,k_q2⟩,c1w F_q2 T C_q5,b0r⟩
 have C_q7:C5 l.prog w K mg base 5 "Search" "begin" ["self"] (spD K 1 b0A):=⟨C_Search,a_q7,_,e_Search,CL_Search,⟨e_q7,fn_q7,k_q7⟩,c0v F_q7 T C_q1,b0T⟩
 have C_q11:C5 l.prog w K mg base 5 "Search" "go_past" ["self","cost","key","k","n","edge"] (spD K 6 a3j):=⟨C_Search,a_q11,_,e_Search,CL_Search,⟨e_q11,fn_q11,k_q11⟩,b7l F_q11 T C_q43 C_q30 C_q1,a3h⟩
 have C_q8:C5 l.prog w K mg base 5 "Search" "come_back" ["self","call","end"] (spD K 3 a4M):=⟨C_Search,a_q8,_,e_Search,CL_Search,⟨e_q8,fn_q8,k_q8⟩,c1d F_q8 T C_q30 C_q1,b1w⟩
 have C_q10:C5 l.prog w K mg base 6 "Search" "go_in" ["self","cost","key","k","n","edge"] (spD K 6 a3t):=⟨C_Search,a_q10,_,e_Search,CL_Search,⟨e_q10,fn_q10,k_q10⟩,b8b F_q10 T C_q30 C_q8,a3H⟩
 have C_q9:C5 l.prog w K mg base 6 "Search" "come_to_end" ["self","cost","key","k"] (spD K 4 a8e):=⟨C_Search,a_q9,_,e_Search,CL_Search,⟨e_q9,fn_q9,k_q9⟩,c0Y F_q9 T C_q8,b0V⟩
 have C_q12:C5 l.prog w K mg base 7 "Search" "settle" ["self","cost","key","row"] (spD K 4 a3y):=⟨C_Search,a_q12,_,e_Search,CL_Search,⟨e_q12,fn_q12,k_q12⟩,b9o F_q12 T C_q29 C_q9 C_q28 C_q11 C_q10,a3I⟩
 have C_q32:=g_q32.cal X G (λ F=>b6H (base:=base) F T C_q7 C_q2 C_q12 M_Search) λ _ hl=>ln1 hl λ _=>rfl;have C_q19:=g_q19.cal X G (λ F=>b6q (base:=base) F T C_q32 C_q25 C_q29) λ _ hl=>ln1 hl λ _=>rfl;have C_q39:=g_q39.cal X G (λ F=>b6R (base:=base) F T C_q19) λ _ hl=>ln2 hl λ _ _=>rfl;have C_q17:=g_q17.cal X G (λ F=>b6G (base:=base) F T ) λ _ hl=>ln2 hl λ _ _=>rfl;have C_q13:=g_q13.cal X G (λ F=>b6W (base:=base) F T ) λ _ hl=>ln2 hl λ _ _=>rfl;have C_q14:=g_q14.cal X G (λ F=>b7d (base:=base) F T C_q17) λ _ hl=>ln1 hl λ _=>rfl;have C_q16:=g_q16.cal X G (λ F=>b6z (base:=base) F T C_q13 C_q14 C_q17) λ _ hl=>ln5 hl λ _ _ _ _ _=>rfl;have C_q15:=g_q15.cal X G (λ F=>b9b (base:=base) F T ) λ _ hl=>ln4 hl λ _ _ _ _=>rfl;exact b6Q F_q34 T C_q13 C_q16 C_q15 C_q39 C_q18
end K45
namespace PySem.W
open PySem PySem.Calls PyProof.Rows
section
def a4H(p:Program)(w:World)(n:Nat)(ann:Option Value):Nat->SharedT->Thread->Option SharedT
 |0,_,_=>none
 |m + 1,s,t=>match through t with
  |true=>some s
  |false=>match Fast.tw6613529449190102663 n ann t with
   |false=>none
   |true=>match Fast.tw10156331382660048174 (Fast.tw11892475500146522536 Fast.tw14364793385576792824) p w s t with
    |none=>none
    |some (s',t')=>a4H p w n ann m s' t'
 termination_by structural m=>m
theorem a5Y{p:Program}{w:World}{n:Nat}{ann:Option Value}:∀ {m:Nat} {s s':SharedT} {t:Thread},a4H p w n ann m s t=some s'->topRun treeTable p w n ann m s.abs t=some s'.abs
 |0,_,_,_,h=>nomatch h
 |m + 1,s,s',t,h=>by
  unfold a4H at h;unfold topRun
  cases ht:through t with
  |true =>
   rw [ht] at h;exact congrArg (λ x=>some (SharedT.abs x)) (Option.some.inj h)
  |false =>
   rw [ht,<- Fast.te6613529449190102663,<- Fast.te10156331382660048174,<- Fast.te11892475500146522536,<- Fast.te14364793385576792824] at h
   cases ho:stepOk n ann t with
   |false=>rw [ho] at h;cases h
   |true =>
    rw [ho] at h
    cases hs:stepT (denote treeTable) p w s t with
    |none=>rw [hs] at h;cases h
    |some x =>
     obtain ⟨s₂,t₂⟩:=x;rw [hs] at h;show (match step (denote treeTable) p w s.abs t with | .go a b=>topRun treeTable p w n ann m a b | .halt _ _=>none)=_;rw [stepT_spec hs];exact a5Y h
def c1O(P:Params):BT :=
 .node (boot_o_0 P)
  (.node (boot_o_1 P) (.node (boot_o_3 P) (.node (boot_o_7 P) .nil .nil) .nil) (.node (boot_o_5 P) (.node (boot_o_9 P) .nil .nil) .nil))
  (.node (boot_o_2 P) (.node (boot_o_4 P) (.node (boot_o_8 P) .nil .nil) .nil) (.node (boot_o_6 P) (.node (boot_o_10 P) .nil .nil) .nil))
def a3a(P:Params)(os:OsState):SharedT:=⟨c1O P,11,(boot_heap P).life,Array.mk [],boot_drawn,boot_toks,os⟩
theorem a6z(P:Params)(os:OsState):(a3a P os).abs=⟨boot_heap P,Array.mk [],boot_drawn,boot_toks,os⟩:=by kernel_rfl
theorem a7p(P:Params):((boot_heap P).isNs mainGlobals,(boot_heap P).objs.size,(boot_heap P).nsMap mainGlobals "__annotations__")=(true,11,some (.ref 6)):=by kernel_rfl
def HL{α:Type}(p q:Program)(loose:List Str)(Xt:Shared->Bool)(Yf:Shared->α)(Ya:World->α)(M:Nat)(w:World):Prop :=
 ∀ os:OsState,(a4H p w 11 (some (.ref 6)) M (a3a w.params os) (topStub p)).map (λ s =>
  ((staticsOk (Fast.tw5923862056798008813 p.main.body) (boot_heap w.params) s.abs.heap && namesBound p s.abs.heap && gensDone s.abs && laidKept (boot_heap w.params) s.abs.heap),
   Fast.tw4187177175401517315 q loose (Fast.tw5923862056798008813 p.main.body) Xt true s.abs,Yf s.abs))=some (true,openGood q loose,Ya w)
theorem b4Q{p q:Program}{loose:List Str}{Xt:Shared->Bool}{α:Type}{Yf:Shared->α}{Ya:World->α}{N:Nat}
  (e:opening p=plainProg p.main.scope.names) (f:∀ s,fenceModules? p s=some s) (le:Nat.ble 600 N=true) (h:∀ w,HL p q loose Xt Yf Ya N w) :
  LeftO p q loose Xt Yf Ya N:=by
 intro w;obtain ⟨⟨hp,gs,d,k,os⟩,e1,e2⟩:=YW.mp (boot_open e le f w);obtain ⟨rfl,rfl,rfl,rfl⟩:hp=boot_heap w.params/\gs=Array.mk []/\d=boot_drawn/\k=boot_toks:=by simpa using e2
 obtain ⟨z1,z2,z3⟩:_/\_/\_:=by simpa only [Prod.mk.injEq] using a7p w.params
 obtain ⟨s,h1,h2⟩:=YW.mp (h w os);rw [<- Fast.te4187177175401517315,<- Fast.te5923862056798008813] at h2;obtain ⟨l1,l2,l3⟩:_/\_/\_:=by simpa only [Prod.mk.injEq] using h2
 have r:=a5Y h1;rw [a6z] at r
 have t:topFrom treeTable p w N ⟨boot_heap w.params,Array.mk [],boot_drawn,boot_toks,os⟩=some s.abs:=by
  unfold topFrom;dsimp only;rw [z1,z2,z3,r];show (match staticsOk (importedModules p.main.body) (boot_heap w.params) s.abs.heap && namesBound p s.abs.heap && gensDone s.abs && laidKept (boot_heap w.params) s.abs.heap with | true=>_ | false=>_)=_;rw [l1]
 unfold openEnds;rw [e1];show (topFrom treeTable p w N _).map _=_;rw [t];exact congrArg some (Prod.ext l2 l3)
theorem a6U{r:OpenRow}{q:Program}{loose:List Str}{Xt:Shared->Bool}{XP:(Str->Option Value)->Heap->Prop}{α:Type}{Yf:Shared->α}{Ya:World->α}{YP:World->Heap->Prop}{d:DefRec}{kwd:List (Str×Expr)}{N:Nat}
  (hY:∀ w s,Yf s=Ya w->YP w s.heap) (hYk:∀ w h h',YP w h->(∀ b o,h.get? b=some o->h'.get? b=some o)->YP w h')
  (hX:∀ s,Xt s=true->XP (s.heap.nsMap mainGlobals) s.heap) (hXk:∀ mg h h',XP mg h->(∀ b o,h.get? b=some o->h'.get? b=some o)->XP mg h')
  (hdef:defOf q r.name=some (d,kwd)) (hp:r.prog.theDef r.name=some (d.params,d.body,d.scope)) (hk:kwWritten? d.params.kwonlyargs d.params.kw_defaults=some kwd)
  (hRf:∀ s,Xt s=true->RecFacts r.records s.heap) (hwr:(!r.writes || r.records.isEmpty)=true)
  (k1:r.wellSaid=true) (ok:(chainsOk q && opensWell r.prog && (frees r.toRowW && r.within.isEmpty))=true) (hb:r.prog.bare)
  (e:opening r.prog=plainProg r.prog.main.scope.names) (f:∀ s,fenceModules? r.prog s=some s) (le:Nat.ble 600 N=true)
  (hw:r.toRowW.promised) (x:(∀ w,HL r.prog q loose Xt Yf Ya N w)/\WalkO q loose XP YP r.toRowW d kwd λ f vs=>PySem.call f vs):r.Holds :=
 holds_open (b4Q e f le x.1) hY hYk hX hXk hdef hp hk hRf hwr k1 ok hb hw x.2
def sideP{P:World->Prop}{B C:Prop}(_:(∀ w,P w)/\B->C):World->Prop:=P
section
variable {α:Type} {p q:Program} {loose:List Str} {Xt:Shared->Bool} {Yf:Shared->α} {Ya:World->α} {M:Nat}
def c1r{B C:Prop}(_:(∀ w,HL p q loose Xt Yf Ya M w)/\B->C)(w:World):Prop:=∀ os:OsState,(a4H p w 11 (some (.ref 6)) M (a3a w.params os) (topStub p)).map (λ s=>staticsOk (Fast.tw5923862056798008813 p.main.body) (boot_heap w.params) s.abs.heap && namesBound p s.abs.heap && gensDone s.abs && laidKept (boot_heap w.params) s.abs.heap)=some true
def c0R{B C:Prop}(_:(∀ w,HL p q loose Xt Yf Ya M w)/\B->C)(w:World):Prop:=∀ os:OsState,(a4H p w 11 (some (.ref 6)) M (a3a w.params os) (topStub p)).map (λ s=>Fast.tw4187177175401517315 q loose (Fast.tw5923862056798008813 p.main.body) Xt true s.abs)=some (openGood q loose)
def c1H{B C:Prop}(_:(∀ w,HL p q loose Xt Yf Ya M w)/\B->C)(w:World):Prop:=∀ os:OsState,(a4H p w 11 (some (.ref 6)) M (a3a w.params os) (topStub p)).map (λ s=>Yf s.abs)=some (Ya w)
theorem c3I{B C:Prop}{o:(∀ w,HL p q loose Xt Yf Ya M w)/\B->C}{w:World}(a:c1r o w)(b:c0R o w)(c:c1H o w):HL p q loose Xt Yf Ya M w:=λ os=>by
 obtain ⟨s,h1,h2⟩:=YW.mp (a os);obtain ⟨s2,k1,k2⟩:=YW.mp (b os);obtain ⟨s3,l1,l2⟩:=YW.mp (c os);rw [h1] at k1 l1
 cases k1;cases l1;rw [h1];exact congrArg some (Prod.ext h2 (Prod.ext k2 l2))
end
end
end PySem.W
namespace K45
def qv:PySem.Program:=PySem.W.view PySem.Challenge.pw_callmatch_k45_doubled_costs [0,2,3,5,6,8,9,10,11,12,13,15,16,17,18,19,20,22,23,24,25,26,27,28,29,30,31,33,34,35,36,38,39,40,41,42,43,44]
open PySem.W in
local macro_rules
 |`(tactic| o_head $H)=>`(tactic|
   refine a6U (q:=qv) (loose:= ["MOVE_TABLES"])
     (Xt:=λ s=>xlAt qv [] s && recOk (RowW.records (OpenRow.toRowW (OpenLaw.row PySem.Challenge.rw_callmatch_k45_doubled_costs))) s)
     (XP:=XL qv []) (Yf:=Hook.obs $H) (Ya:=Hook.val $H)
     (YP:=Hook.says $H) (N:=20000) (Hook.of $H) (Hook.keeps $H)
     (λ s e=>xl_of s (Bool.and_eq_true_iff.mp e).1) XL.keeps (by rfl) (by rfl) (by rfl)
     (λ s e=>recFacts_of (Bool.and_eq_true_iff.mp e).2) (by rfl) (by assumption)
     (by decide +kernel) ⟨rfl,rfl,rfl,rfl,rfl,by decide +kernel⟩ (by kernel_rfl) (λ _=>by kernel_rfl) @B ?hw ?hc)
open_top opened for PySem.Challenge.rw_callmatch_k45_doubled_costs
set_option maxHeartbeats 0 in
theorem side_false(w:PySem.World):PySem.W.sideP opened (w.withFollow "special-get-raises" false):=by
 intro os
 kernel_rfl
set_option maxHeartbeats 0 in
theorem side_true(w:PySem.World):PySem.W.sideP opened (w.withFollow "special-get-raises" true):=by
 intro os
 kernel_rfl
end K45
open PySem PySem.W PyProof.Rows
local macro_rules | `(tactic| right) => `(tactic| (refine' K45.gt_mk ?e ?l ?c ?k; (case e => k_is); (case l => k_is); (case c => k_is); (case k => k_is)))
set_option maxRecDepth 100000 in
set_option maxHeartbeats 0 in
theorem PySem.Challenge.cw_callmatch_k45_doubled_costs_holds : PySem.Challenge.rw_callmatch_k45_doubled_costs.Holds := by
  refine K45.opened ⟨PySem.W.byRow2 (P := PySem.W.sideP K45.opened) "special-get-raises" K45.side_false K45.side_true, ?_⟩
  k_fill
  refine DL.walkD (l := PySem.Challenge.rw_callmatch_k45_doubled_costs) (n := 63) (k := 11) (S := K45.S_q34) (x := "_law_script") rfl (by decide) rfl ⟨rfl, by decide, by decide⟩ (fun w h Y => PySem.W.kIn_of Y) ?F K45.law_true
  case F =>
    intro w mg fa h KX G hmg
    refine' K45.all_mk KX G hmg ?e_Offers ?pg_Offers ?hd_Offers ?po_Offers ?sa_Offers ?mk_Offers ?kp_Offers ?e_Queue ?pg_Queue ?hd_Queue ?po_Queue ?sa_Queue ?mk_Queue ?kp_Queue ?e_Search ?pg_Search ?hd_Search ?po_Search ?sa_Search ?mk_Search ?kp_Search ?n_calls ?n_chart ?n_ends ?n_found ?n_heap ?n_least ?n_offers ?n_puts ?n_queue ?n_rows ?g_q30 ?g_q22 ?g_q29 ?g_q42 ?g_q28 ?g_q43 ?g_q27 ?g_q33 ?g_q37 ?g_q40 ?g_q35 ?g_q25 ?g_q24 ?g_q23 ?g_q21 ?g_q41 ?g_q26 ?g_q38 ?g_q31 ?g_q20 ?g_q36 ?g_q32 ?g_q39 ?g_q19 ?g_q18 ?g_q17 ?g_q13 ?g_q14 ?g_q16 ?g_q15 ?e_q34 ?l_q34 ?c_q34 ?k_q34 ?e_q3 ?l_q3 ?c_q3 ?k_q3 ?fn_q3 ?e_q4 ?l_q4 ?c_q4 ?k_q4 ?fn_q4 ?e_q5 ?l_q5 ?c_q5 ?k_q5 ?fn_q5 ?e_q0 ?l_q0 ?c_q0 ?k_q0 ?fn_q0 ?e_q1 ?l_q1 ?c_q1 ?k_q1 ?fn_q1 ?e_q2 ?l_q2 ?c_q2 ?k_q2 ?fn_q2 ?e_q6 ?l_q6 ?c_q6 ?k_q6 ?fn_q6 ?e_q7 ?l_q7 ?c_q7 ?k_q7 ?fn_q7 ?e_q12 ?l_q12 ?c_q12 ?k_q12 ?fn_q12 ?e_q11 ?l_q11 ?c_q11 ?k_q11 ?fn_q11 ?e_q10 ?l_q10 ?c_q10 ?k_q10 ?fn_q10 ?e_q9 ?l_q9 ?c_q9 ?k_q9 ?fn_q9 ?e_q8 ?l_q8 ?c_q8 ?k_q8 ?fn_q8 ?z_any ?z_bool ?z_dict ?z_enumerate ?z_int ?z_isinstance ?z_len ?z_list ?z_max ?z_min ?z_range ?z_sum ?z_tuple ?y_MOVE_TABLES ?d_MOVE_TABLES
    (case e_Offers => k_is)
    (case pg_Offers => k_is)
    (case hd_Offers => k_is)
    (case po_Offers => k_is)
    (case sa_Offers => k_is)
    (case mk_Offers => k_is)
    (case kp_Offers => k_is)
    (case e_Queue => k_is)
    (case pg_Queue => k_is)
    (case hd_Queue => k_is)
    (case po_Queue => k_is)
    (case sa_Queue => k_is)
    (case mk_Queue => k_is)
    (case kp_Queue => k_is)
    (case e_Search => k_is)
    (case pg_Search => k_is)
    (case hd_Search => k_is)
    (case po_Search => k_is)
    (case sa_Search => k_is)
    (case mk_Search => k_is)
    (case kp_Search => k_is)
    (case n_calls => k_is)
    (case n_chart => k_is)
    (case n_ends => k_is)
    (case n_found => k_is)
    (case n_heap => k_is)
    (case n_least => k_is)
    (case n_offers => k_is)
    (case n_puts => k_is)
    (case n_queue => k_is)
    (case n_rows => k_is)
    (case g_q30 => right)
    (case g_q22 => right)
    (case g_q29 => right)
    (case g_q42 => right)
    (case g_q28 => right)
    (case g_q43 => right)
    (case g_q27 => right)
    (case g_q33 => right)
    (case g_q37 => right)
    (case g_q40 => right)
    (case g_q35 => right)
    (case g_q25 => right)
    (case g_q24 => right)
    (case g_q23 => right)
    (case g_q21 => right)
    (case g_q41 => right)
    (case g_q26 => right)
    (case g_q38 => right)
    (case g_q31 => right)
    (case g_q20 => right)
    (case g_q36 => right)
    (case g_q32 => right)
    (case g_q39 => right)
    (case g_q19 => right)
    (case g_q18 => right)
    (case g_q17 => right)
    (case g_q13 => right)
    (case g_q14 => right)
    (case g_q16 => right)
    (case g_q15 => right)
    (case e_q34 => k_is)
    (case l_q34 => k_is)
    (case c_q34 => k_is)
    (case k_q34 => k_is)
    (case e_q3 => k_is)
    (case l_q3 => k_is)
    (case c_q3 => k_is)
    (case k_q3 => k_is)
    (case fn_q3 => k_is)
    (case e_q4 => k_is)
    (case l_q4 => k_is)
    (case c_q4 => k_is)
    (case k_q4 => k_is)
    (case fn_q4 => k_is)
    (case e_q5 => k_is)
    (case l_q5 => k_is)
    (case c_q5 => k_is)
    (case k_q5 => k_is)
    (case fn_q5 => k_is)
    (case e_q0 => k_is)
    (case l_q0 => k_is)
    (case c_q0 => k_is)
    (case k_q0 => k_is)
    (case fn_q0 => k_is)
    (case e_q1 => k_is)
    (case l_q1 => k_is)
    (case c_q1 => k_is)
    (case k_q1 => k_is)
    (case fn_q1 => k_is)
    (case e_q2 => k_is)
    (case l_q2 => k_is)
    (case c_q2 => k_is)
    (case k_q2 => k_is)
    (case fn_q2 => k_is)
    (case e_q6 => k_is)
    (case l_q6 => k_is)
    (case c_q6 => k_is)
    (case k_q6 => k_is)
    (case fn_q6 => k_is)
    (case e_q7 => k_is)
    (case l_q7 => k_is)
    (case c_q7 => k_is)
    (case k_q7 => k_is)
    (case fn_q7 => k_is)
    (case e_q12 => k_is)
    (case l_q12 => k_is)
    (case c_q12 => k_is)
    (case k_q12 => k_is)
    (case fn_q12 => k_is)
    (case e_q11 => k_is)
    (case l_q11 => k_is)
    (case c_q11 => k_is)
    (case k_q11 => k_is)
    (case fn_q11 => k_is)
    (case e_q10 => k_is)
    (case l_q10 => k_is)
    (case c_q10 => k_is)
    (case k_q10 => k_is)
    (case fn_q10 => k_is)
    (case e_q9 => k_is)
    (case l_q9 => k_is)
    (case c_q9 => k_is)
    (case k_q9 => k_is)
    (case fn_q9 => k_is)
    (case e_q8 => k_is)
    (case l_q8 => k_is)
    (case c_q8 => k_is)
    (case k_q8 => k_is)
    (case fn_q8 => k_is)
    (case z_any => k_is)
    (case z_bool => k_is)
    (case z_dict => k_is)
    (case z_enumerate => k_is)
    (case z_int => k_is)
    (case z_isinstance => k_is)
    (case z_len => k_is)
    (case z_list => k_is)
    (case z_max => k_is)
    (case z_min => k_is)
    (case z_range => k_is)
    (case z_sum => k_is)
    (case z_tuple => k_is)
    (case y_MOVE_TABLES => k_is)
    (case d_MOVE_TABLES => k_is)
#print axioms PySem.Challenge.cw_callmatch_k45_doubled_costs_holds
