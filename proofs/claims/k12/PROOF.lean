import PyProof.Rows.All
import Wide.All
import OpenK.AllK
import Wide.FinOn
import Lean
import PyProof.EqAt
import PyProof.EqKinds
import PyProof.TupleCall
import PyProof.EqLayable
import PyProof.P3In
import PyProof.Draws
import PyProof.EnumMake
import PyProof.CompFree
import PyProof.CompUse
import KE.KRevIter
import PyProof.DictIter
import PyProof.ZipIter
import PyProof.ListMulRoad
import PyProof.ConsumeWalk
import PyProof.TupleKey
import PyProof.SetScanFacts
import PyProof.SetKind
import PyProof.DictKinds
import PyProof.Rows.SetFrom
import KE.KDictList
import PyProof.FactsAll.set
import KE.KSortTup
import PyProof.AutoListH
import PyProof.RulesAs
import PyProof.StationsW
import PyProof.ExcClass3
import PyProof.ExcInit
import PyProof.InstStoreFacts
import PyProof.ExcBaseAll.ValueError
import OpenK.KOwn
import PyProof.ExcArgsOwn
import PyProof.ExcAttrAll.ValueError
import KE.KTryMore
import PyProof.Rows.CatchBare
import PySem.Challenge.RW_callmatch_k12_tables_of_pairs
set_option Elab.async false
set_option linter.all false
set_option maxRecDepth 100000
set_option genSizeOfSpec false
set_option compiler.extract_closed false
set_option maxHeartbeats 4000000
local macro_rules | `(tactic| trivial) => `(tactic| first | exact .inl rfl | exact .inr (.inl rfl) | exact .inr (.inr rfl) | exact .inr rfl | assumption)
namespace L2
open PySem PySem.Spec PyProof.Rows
noncomputable abbrev Key := Sum Int Str
noncomputable def keyIs : Key → Value → Bool
  | .inl k, v => Value.isInt k v
  | .inr x, v => Value.isStrOf x v
noncomputable def keyH (w : World) : Key → Int
  | .inl k => hashInt k
  | .inr x => hashStr w x
theorem keyIs_shape : ∀ {k : Key} {v : Value}, keyIs k v = true → (∃ i t, k = Sum.inl i ∧ v = Value.int i t) ∨ (∃ x t, k = Sum.inr x ∧ v = Value.str x t)
  | .inl i, v, h => by
    obtain ⟨t, e⟩ := Value.isInt_shape (k := i) (v := v) h
    exact .inl ⟨i, t, rfl, e⟩
  | .inr x, v, h => by
    obtain ⟨t, e⟩ := Value.isStrOf_shape (x := x) (v := v) h
    exact .inr ⟨x, t, rfl, e⟩
theorem key_ll (a b : Int) : decide ((Sum.inl a : Key) = Sum.inl b) = (a == b) := by
  by_cases e : a = b
  · subst e; simp
  · have h : ¬ (Sum.inl a : Key) = Sum.inl b := fun q => e (Sum.inl.inj q)
    rw [decide_eq_false h]
    exact (beq_eq_false_iff_ne.mpr e).symm
theorem key_rr (a b : Str) : decide ((Sum.inr a : Key) = Sum.inr b) = decide (a = b) := by
  by_cases e : a = b
  · subst e; simp
  · have h : ¬ (Sum.inr a : Key) = Sum.inr b := fun q => e (Sum.inr.inj q)
    rw [decide_eq_false h, decide_eq_false e]
theorem key_lr (a : Int) (b : Str) : decide ((Sum.inl a : Key) = Sum.inr b) = false := decide_eq_false (fun q => nomatch q)
theorem key_rl (a : Str) (b : Int) : decide ((Sum.inr a : Key) = Sum.inl b) = false := decide_eq_false (fun q => nomatch q)
noncomputable def mixKind (prog : Program) (w : World) : PySem.KeyKind prog w Key where
  is := keyIs
  hash := keyH w
  inj := fun v a b ha hb => by
    rcases keyIs_shape ha with ⟨i, t, rfl, rfl⟩ | ⟨x, t, rfl, rfl⟩
    · rcases keyIs_shape hb with ⟨j, u, rfl, e⟩ | ⟨y, u, rfl, e⟩
      · injection e with e1 _; rw [e1]
      · exact nomatch e
    · rcases keyIs_shape hb with ⟨j, u, rfl, e⟩ | ⟨y, u, rfl, e⟩
      · exact nomatch e
      · injection e with e1 _; rw [e1]
  byValue := fun k v h => by
    rcases keyIs_shape h with ⟨i, t, rfl, rfl⟩ | ⟨x, t, rfl, rfl⟩ <;> rfl
  pyHash := fun hv h => by
    rcases keyIs_shape hv with ⟨i, t, rfl, rfl⟩ | ⟨x, t, rfl, rfl⟩
    · exact wpAny_pyHash_int h
    · exact wpAny_pyHash_str h
  eqBool := fun hu hv h => by
    rcases keyIs_shape hu with ⟨i, t, rfl, rfl⟩ | ⟨x, t, rfl, rfl⟩
    · rcases keyIs_shape hv with ⟨j, u, rfl, rfl⟩ | ⟨y, u, rfl, rfl⟩
      · rw [key_ll] at h; exact wpAny_eqBool_int h
      · rw [key_lr] at h; exact SeqAt.EqAt.int_str i t y u _ _ _ _ h
    · rcases keyIs_shape hv with ⟨j, u, rfl, rfl⟩ | ⟨y, u, rfl, rfl⟩
      · rw [key_rl] at h; exact SeqAt.EqAt.str_int x t j u _ _ _ _ h
      · rw [key_rr] at h; exact wpAny_eqBool_str h
  «strs» := fun k x t v h => by
    rcases keyIs_shape h with ⟨i, u, rfl, e⟩ | ⟨y, u, rfl, e⟩
    · exact nomatch e
    · injection e with e1 _
      subst e1
      cases v <;> rfl
end L2
namespace L2
open PySem PySem.Spec PyProof.Rows
inductive V where
  | non | bl (b : Bool) | int (i : Int) | str (x : Str) | byt (b : Array UInt8) | flt (b : UInt64) | ref (a : Addr) | ty (n : String)
  deriving DecidableEq
noncomputable def RelV : V → Value → Prop
  | .non, u => u = Value.none
  | .bl b, u => u = Value.bool b
  | .int i, u => ∃ t, u = Value.int i t
  | .str x, u => ∃ t, u = Value.str x t
  | .byt b, u => ∃ t, u = Value.bytes b t
  | .flt b, u => ∃ t, u = Value.float b t
  | .ref a, u => u = Value.ref a
  | .ty n, u => u = Value.type n
noncomputable abbrev Vals : List V → List Value → Prop := Paired RelV
theorem Vals.length {xs : List V} {us : List Value} (r : Vals xs us) : xs.length = us.length := Paired.length r
theorem Vals.get : ∀ {xs : List V} {us : List Value} {i : Nat} {x : V}, Vals xs us → xs[i]? = some x → ∃ u, us[i]? = some u ∧ RelV x u
  | _, _, _, _, .nil, e => by simp at e
  | _, _, 0, _, .cons r _, e => by simp at e; subst e; exact ⟨_, rfl, r⟩
  | _, _, i + 1, x, .cons _ t, e => by
    obtain ⟨u, h1, h2⟩ := Vals.get (i := i) (x := x) t (by simpa using e)
    exact ⟨u, by simpa using h1, h2⟩
theorem Vals.set {x : V} {u : Value} (r : RelV x u) : ∀ {xs : List V} {us : List Value} (i : Nat), Vals xs us → Vals (xs.set i x) (us.set i u)
  | _, _, _, .nil => .nil
  | _, _, 0, .cons _ t => .cons r t
  | _, _, i + 1, .cons q t => .cons q (Vals.set r i t)
theorem Vals.append : ∀ {xs ys : List V} {us ws : List Value}, Vals xs us → Vals ys ws → Vals (xs ++ ys) (us ++ ws)
  | _, _, _, _, .nil, s => s
  | _, _, _, _, .cons r t, s => .cons r (Vals.append t s)
theorem Vals.take : ∀ {xs : List V} {us : List Value} (n : Nat), Vals xs us → Vals (xs.take n) (us.take n)
  | _, _, 0, _ => .nil
  | _, _, _ + 1, .nil => .nil
  | _, _, n + 1, .cons r t => .cons r (Vals.take n t)
theorem Vals.drop : ∀ {xs : List V} {us : List Value} (n : Nat), Vals xs us → Vals (xs.drop n) (us.drop n)
  | _, _, 0, r => r
  | _, _, _ + 1, .nil => .nil
  | _, _, n + 1, .cons _ t => Vals.drop n t
noncomputable def RelO : Option V → Option Value → Prop
  | some v, some u => RelV v u
  | none, none => True
  | _, _ => False
noncomputable def KV {κ : Type} : List (κ × V) → List (κ × Value) → Prop := Paired fun (p : κ × V) (q : κ × Value) => p.1 = q.1 ∧ RelV p.2 q.2
noncomputable def kV : Key → V
  | .inl i => .int i
  | .inr x => .str x
inductive HO where
  | lst (xs : List V)
  | tup (xs : List V)
  | dK (kvs : List (Key × V)) | dT (kvs : List (List Key × V))
  | set (S : Int → Bool) (n : Nat)
  | ins (C dx : Addr) (fs : List (Str × V))
  | own (x : Addr)
  | xd (fs : List (Str × V))
  | met (f x : Addr)
  | rng (lo hi : Int)
  | frz (o : Obj) (u : HO)
  | tbl (ps : Array Value)
  | ext (φ : Heap → Prop)
noncomputable abbrev Hp := Addr → Option HO
noncomputable def upd (H : Hp) (a : Addr) (o : HO) : Hp := fun b => if b = a then some o else H b
theorem upd_same {H : Hp} {a : Addr} {o : HO} : upd H a o a = some o := by unfold upd; rw [if_pos rfl]
theorem upd_ne {H : Hp} {a b : Addr} {o : HO} (h : b ≠ a) : upd H a o b = H b := by unfold upd; rw [if_neg h]
theorem ne_of_none {H : Hp} {a b : Addr} {o : HO} (h : H a = some o) (h' : H b = none) : a ≠ b := by
  intro e; subst e; rw [h] at h'; cases h'
section
variable (P : Program) (w : World)
noncomputable def ObjOk (H : Hp) (h : Heap) (a : Addr) : HO → Prop
  | .lst xs => xs.length ≤ sizeLine ∧ ∃ (its : List Value) (n : Nat), Vals xs its ∧ h.get? a = some { cls := .type "list", data := .seq its.toArray n }
  | .tup xs => xs.length ≤ sizeLine ∧ ∃ its : List Value, Vals xs its ∧ IsTup h a its.toArray
  | .dK kvs => kvs.length ≤ sizeLine ∧ (a == sysModules) = false ∧ ∃ vs, KV kvs vs ∧ h.DictOf (mixKind P w) a vs
  | .dT kvs => kvs.length ≤ sizeLine ∧ (a == sysModules) = false ∧ ∃ xs : List (List Key × Addr × Value),
      Paired (fun (p : List Key × V) (q : List Key × Addr × Value) => p.1 = q.1 ∧ H q.2.1 = some (.tup (p.1.map kV)) ∧ RelV p.2 q.2.2) kvs xs ∧
      ∃ o es ep, h.get? a = some o ∧ o.ExactDict ∧ o.data = .dict es ep ∧ es.toList = xs.map (entryOfKey (tupleKind (mixKind P w))) ∧ (xs.map (·.1)).Nodup
  | .set S n => h.SetOf (intKind P w) a S n
  | .ins C dx fs => H dx = some (.own a) ∧ fs.length ≤ 1000 ∧ dx ≠ a ∧ h.get? a = some (PySem.W.instObj C dx) ∧
      ∃ mA, h.Ns1 dx mA ∧ (∀ f, RelO (fs.lookup f) (mA f)) ∧ PySem.Within mA (fs.map (·.1))
  | .own _ => ∃ o, h.get? a = some o
  | .xd fs => ∃ mA, h.Ns1 a mA ∧ ∀ f, RelO (fs.lookup f) (mA f)
  | .rng lo hi => ∃ t u v, h.get? a = some { cls := .type "range", data := .fields #[.int lo t, .int hi u, .int 1 v] }
  | .frz o u => h.get? a = some o ∧ ObjOk H h a u
  | .tbl ps => h.get? a = some { cls := .none, data := .fields ps }
  | .met f x => h.get? a = some (PySem.W.methodObj (.ref f) (.ref x))
  | .ext φ => φ h ∧ (∃ o, h.get? a = some o) ∧ ∀ h1 h2 : Heap, φ h1 → (∀ o, h1.get? a = some o → h2.get? a = some o) → φ h2
noncomputable def HOk (H : Hp) (h : Heap) : Prop := ∀ a o, H a = some o → ObjOk P w H h a o
end
section
variable {P : Program} {w : World} {H H' : Hp} {h h' : Heap} {a : Addr} {o : HO}
theorem ObjOk.lt (x : ObjOk P w H h a o) : a < h.objs.size := by
  cases o with
  | lst xs => obtain ⟨_, _, _, _, e⟩ := x; exact Heap.lt_size e
  | tup xs => obtain ⟨_, _, _, p⟩ := x; exact p.lt
  | dK kvs => obtain ⟨_, _, _, _, o, _, _, e, _⟩ := x; exact Heap.lt_size e
  | dT kvs => obtain ⟨_, _, _, _, o, _, _, e, _⟩ := x; exact Heap.lt_size e
  | set S n => obtain ⟨o, _, _, _, e, _⟩ := x; exact Heap.lt_size e
  | ins C dx fs => obtain ⟨_, _, _, e, _⟩ := x; exact Heap.lt_size e
  | own y => obtain ⟨_, e⟩ := x; exact Heap.lt_size e
  | xd fs => obtain ⟨_, ⟨_, _, _, e, _⟩, _⟩ := x; exact Heap.lt_size e
  | rng lo hi => obtain ⟨_, _, _, e⟩ := x; exact Heap.lt_size e
  | frz ob u => obtain ⟨e, _⟩ := x; exact Heap.lt_size e
  | tbl ps => exact Heap.lt_size (show h.get? a = some _ from x)
  | met f y => exact Heap.lt_size (show h.get? a = some _ from x)
  | ext φ => obtain ⟨_, ⟨_, e⟩, _⟩ := x; exact Heap.lt_size e
theorem Paired.mapP {α β : Type} {F G : α → β → Prop} : ∀ {l₁ : List α} {l₂ : List β}, Paired F l₁ l₂ → (∀ a b, F a b → G a b) → Paired G l₁ l₂
  | _, _, .nil, _ => .nil
  | _, _, .cons r t, f => .cons (f _ _ r) (Paired.mapP t f)
theorem ObjOk.stay (x : ObjOk P w H h a o) (k : ∀ b u, (b = a ∨ H b = some (.own a)) → h.get? b = some u → h'.get? b = some u)
    (ho : ∀ b, H b = some (.own a) → H' b = some (.own a)) (ht : ∀ b xs, H b = some (.tup xs) → H' b = some (.tup xs)) : ObjOk P w H' h' a o := by
  induction o with
  | lst xs => obtain ⟨z, its, n, r, e⟩ := x; exact ⟨z, its, n, r, k _ _ (.inl rfl) e⟩
  | tup xs => obtain ⟨z, its, r, ob, e, c⟩ := x; exact ⟨z, its, r, ob, k _ _ (.inl rfl) e, c⟩
  | dK kvs => obtain ⟨z, y, vs, r, ob, es, ep, e, c⟩ := x; exact ⟨z, y, vs, r, ob, es, ep, k _ _ (.inl rfl) e, c⟩
  | dT kvs =>
    obtain ⟨z, y, xs, r, ob, es, ep, e, c⟩ := x
    exact ⟨z, y, xs, Paired.mapP r fun p q z => ⟨z.1, ht _ _ z.2.1, z.2.2⟩, ob, es, ep, k _ _ (.inl rfl) e, c⟩
  | set S n => obtain ⟨ob, es, ep, t, e, c⟩ := x; exact ⟨ob, es, ep, t, k _ _ (.inl rfl) e, c⟩
  | ins C dx fs =>
    obtain ⟨d, z, ne, e, mA, ⟨od, es, ep, e2, c⟩, r⟩ := x
    exact ⟨ho _ d, z, ne, k _ _ (.inl rfl) e, mA, ⟨od, es, ep, k _ _ (.inr d) e2, c⟩, r⟩
  | own y => obtain ⟨ob, e⟩ := x; exact ⟨ob, k _ _ (.inl rfl) e⟩
  | xd fs => obtain ⟨mA, ⟨od, es, ep, e, c⟩, r⟩ := x; exact ⟨mA, ⟨od, es, ep, k _ _ (.inl rfl) e, c⟩, r⟩
  | rng lo hi => obtain ⟨t, u, v, e⟩ := x; exact ⟨t, u, v, k _ _ (.inl rfl) e⟩
  | frz ob u ih => obtain ⟨e, q⟩ := x; exact ⟨k _ _ (.inl rfl) e, ih q⟩
  | tbl ps =>
    have e : h.get? a = some { cls := .none, data := .fields ps } := x
    show h'.get? a = some { cls := .none, data := .fields ps }
    exact k a _ (.inl rfl) e
  | met f y =>
    have e : h.get? a = some (PySem.W.methodObj (.ref f) (.ref y)) := x
    show h'.get? a = some (PySem.W.methodObj (.ref f) (.ref y))
    exact k a _ (.inl rfl) e
  | ext φ => obtain ⟨p, ⟨o, e⟩, st⟩ := x; exact ⟨st _ _ p fun o q => k _ _ (.inl rfl) q, ⟨o, k _ _ (.inl rfl) e⟩, st⟩
theorem HOk.lt (x : HOk P w H h) (e : H a = some o) : a < h.objs.size := (x a o e).lt
theorem HOk.fresh (x : HOk P w H h) (e : h.objs.size ≤ a) : H a = none := by
  cases q : H a with
  | none => rfl
  | some u => exact absurd (Nat.lt_of_lt_of_le (x.lt q) e) (Nat.lt_irrefl _)
theorem HOk.kept (x : HOk P w H h) (k : ∀ b u, h.get? b = some u → h'.get? b = some u) : HOk P w H h' := fun a o e =>
  (x a o e).stay (fun b u _ q => k b u q) (fun _ q => q) fun _ _ q => q
theorem HOk.laid (x : HOk P w H h) (k : ∀ b u, h.get? b = some u → h'.get? b = some u) (hp : h.objs.size ≤ a) (new : ObjOk P w (upd H a o) h' a o) : HOk P w (upd H a o) h' := fun b u e => by
  have hn := x.fresh hp
  by_cases hb : b = a
  · subst hb; rw [upd_same] at e; cases e; exact new
  · rw [upd_ne hb] at e
    exact (x b u e).stay (fun c v _ q => k c v q) (fun c q => by rw [upd_ne (ne_of_none q hn)]; exact q) fun c xs q => by rw [upd_ne (ne_of_none q hn)]; exact q
end
noncomputable def Rd (H : Hp) (a : Addr) (u : HO) : Prop := H a = some u ∨ ∃ o, H a = some (.frz o u)
theorem Rd.ok {P : Program} {w : World} {H : Hp} {h : Heap} {a : Addr} {u : HO} (r : Rd H a u) (x : HOk P w H h) : ObjOk P w H h a u := by
  rcases r with r | ⟨o, r⟩
  · exact x a u r
  · obtain ⟨_, q⟩ := x a _ r
    exact q
noncomputable def Mut : Option HO → Prop
  | some (.lst _) => True
  | some (.dK _) => True
  | some (.dT _) => True
  | some (.set _ _) => True
  | some (.ins _ _ _) => True
  | some (.ext _) => True
  | _ => False
section
variable {P : Program} {w : World} {H : Hp} {h h' : Heap} {x e : Addr} {o' : HO}
theorem HOk.write (ok : HOk P w H h) (mu : Mut (H x)) (he : e = x ∨ H e = some (.own x)) (k : ∀ b u, b ≠ e → h.get? b = some u → h'.get? b = some u) (heo : ∃ u, h'.get? e = some u)
    (new : ObjOk P w (upd H x o') h' x o') : HOk P w (upd H x o') h' := fun b u q => by
  have nown : ∀ c y, H c = some (.own y) → c ≠ x := fun c y r z => by subst z; rw [r] at mu; exact mu
  have ntup : ∀ c xs, H c = some (.tup xs) → c ≠ x := fun c xs r z => by subst z; rw [r] at mu; exact mu
  by_cases hb : b = x
  · subst hb; rw [upd_same] at q; cases q; exact new
  · rw [upd_ne hb] at q
    by_cases hbe : b = e
    · have q' : H b = some (.own x) := by
        rcases he with z | z
        · exact absurd (hbe.trans z) hb
        · rw [hbe]; exact z
      rw [q] at q'; cases q'
      obtain ⟨v, hv⟩ := heo
      exact ⟨v, by rw [hbe]; exact hv⟩
    · refine (ok b u q).stay (fun c v hc r => k c v ?_ r) (fun c r => by rw [upd_ne (nown c b r)]; exact r) fun c xs r => by rw [upd_ne (ntup c xs r)]; exact r
      rcases hc with rfl | hc
      · exact hbe
      · rintro rfl
        rcases he with z | z
        · exact nown c b hc z
        · rw [hc] at z; cases z; exact hb rfl
end
structure Un (fs ex : List Addr) (H H' : Hp) (h h' : Heap) : Prop where
  keep : ∀ b o, h.get? b = some o → H b = none → b ∉ fs → b ∉ ex → h'.get? b = some o
  slot : ∀ b o, h.get? b = some o → H b = none → b ∈ fs → b ∉ ex → ∃ sl, h'.get? b = some { o with slots := sl }
  free : ∀ b o, h.get? b = some o → H b = none → b ∉ ex → H' b = none
  there : ∀ b o, h.get? b = some o → b ∉ ex → ∃ o', h'.get? b = some o'
  tups : ∀ b xs, H b = some (.tup xs) → H' b = some (.tup xs)
  frzs : ∀ b o u, H b = some (.frz o u) → H' b = some (.frz o u)
  tbls : ∀ b ps, H b = some (.tbl ps) → ∃ more, H' b = some (.tbl (ps ++ more))
section
variable {fs fs' ex ex' : List Addr} {H H1 H2 : Hp} {h h1 h2 h' : Heap} {a x e : Addr} {o : HO}
theorem Un.any (u : Un fs ex H H1 h h1) {b : Addr} {ob : Obj} (q : h.get? b = some ob) (n : H b = none) (hx : b ∉ ex) : ∃ sl, h1.get? b = some { ob with slots := sl } := by
  by_cases hb : b ∈ fs
  · exact u.slot b ob q n hb hx
  · exact ⟨ob.slots, u.keep b ob q n hb hx⟩
theorem Un.trans (a : Un fs ex H H1 h h1) (b : Un fs ex H1 H2 h1 h2) : Un fs ex H H2 h h2 where
  keep := fun c ob q n hc hx => b.keep c ob (a.keep c ob q n hc hx) (a.free c ob q n hx) hc hx
  slot := fun c ob q n hc hx => by
    obtain ⟨sl, e1⟩ := a.slot c ob q n hc hx
    obtain ⟨sl', e2⟩ := b.slot c _ e1 (a.free c ob q n hx) hc hx
    exact ⟨sl', e2⟩
  free := fun c ob q n hx => by
    obtain ⟨o', e1⟩ := a.there c ob q hx
    exact b.free c o' e1 (a.free c ob q n hx) hx
  there := fun c ob q hx => by
    obtain ⟨o', e1⟩ := a.there c ob q hx
    exact b.there c o' e1 hx
  tups := fun c xs q => b.tups c xs (a.tups c xs q)
  frzs := fun c ob xs q => b.frzs c ob xs (a.frzs c ob xs q)
  tbls := fun c ps q => by
    obtain ⟨m1, e1⟩ := a.tbls c ps q
    obtain ⟨m2, e2⟩ := b.tbls c _ e1
    exact ⟨m1 ++ m2, by rw [e2, Array.append_assoc]⟩
theorem Un.kept (k : ∀ b u, h.get? b = some u → h'.get? b = some u) : Un fs ex H H h h' :=
  ⟨fun b ob q _ _ _ => k b ob q, fun b ob q _ _ _ => ⟨ob.slots, k b ob q⟩, fun _ _ _ n _ => n, fun b ob q _ => ⟨ob, k b ob q⟩, fun _ _ q => q, fun _ _ _ q => q, fun _ ps q => ⟨#[], by rw [q]; simp⟩⟩
theorem Un.refl : Un fs ex H H h h := Un.kept fun _ _ q => q
theorem Un.laid (k : ∀ b u, h.get? b = some u → h'.get? b = some u) (hp : h.objs.size ≤ a) (hn : H a = none) : Un fs ex H (upd H a o) h h' where
  keep := fun b u q _ _ _ => k b u q
  slot := fun b u q _ _ _ => ⟨u.slots, k b u q⟩
  free := fun b u q n _ => by rw [upd_ne (Nat.ne_of_lt (Nat.lt_of_lt_of_le (Heap.lt_size q) hp))]; exact n
  there := fun b u q _ => ⟨u, k b u q⟩
  tups := fun b xs q => by rw [upd_ne (ne_of_none q hn)]; exact q
  frzs := fun b u xs q => by rw [upd_ne (ne_of_none q hn)]; exact q
  tbls := fun b ps q => ⟨#[], by rw [upd_ne (ne_of_none q hn), q]; simp⟩
theorem Un.write (mu : Mut (H x)) (he : e = x ∨ H e = some (.own x)) (k : ∀ b u, b ≠ e → h.get? b = some u → h'.get? b = some u) (heo : ∃ u, h'.get? e = some u) : Un fs ex H (upd H x o) h h' := by
  have hx : ∀ b, H b = none → b ≠ x := fun b n z => by subst z; rw [n] at mu; exact mu
  have hb : ∀ b, H b = none → b ≠ e := fun b n z => by
    subst z
    rcases he with r | r
    · exact hx b n r
    · rw [n] at r; cases r
  have hm : ∀ b u, H b = some u → ¬ Mut (some u) → b ≠ x := fun b u q nm z => by subst z; rw [q] at mu; exact nm mu
  refine ⟨fun b u q n _ _ => k b u (hb b n) q, fun b u q n _ _ => ⟨u.slots, k b u (hb b n) q⟩, fun b u q n _ => by rw [upd_ne (hx b n)]; exact n, fun b u q _ => ?_,
    fun b xs q => by rw [upd_ne (hm b _ q fun z => z)]; exact q, fun b u xs q => by rw [upd_ne (hm b _ q fun z => z)]; exact q, fun b ps q => ⟨#[], by rw [upd_ne (hm b _ q fun z => z), q]; simp⟩⟩
  by_cases hbe : b = e
  · subst hbe; exact heo
  · exact ⟨u, k b u hbe q⟩
theorem Un.mono (u : Un fs ex H H1 h h1) (hs : ∀ b ∈ fs, b ∈ fs') (hx : ∀ b ∈ ex, b ∈ ex') : Un fs' ex' H H1 h h1 :=
  ⟨fun b ob q n hb he => u.keep b ob q n (fun z => hb (hs b z)) fun z => he (hx b z), fun _ _ q n _ he => u.any q n fun z => he (hx _ z), fun b ob q n he => u.free b ob q n fun z => he (hx b z), fun b ob q he => u.there b ob q fun z => he (hx b z), u.tups, u.frzs, u.tbls⟩
end
noncomputable def trk (h : Heap) (H : Hp) : List Addr := (List.range h.objs.size).filter fun a => (H a).isSome
noncomputable def hidT (h : Heap) (H : Hp) : Heap := PySem.W.hideAll h (trk h H)
theorem hidT_size (h : Heap) (H : Hp) : (hidT h H).objs.size = h.objs.size := PySem.W.hideAll_size _ _
theorem hidT_get {h : Heap} {H : Hp} {b : Addr} {o : Obj} (e : h.get? b = some o) (n : H b = none) : (hidT h H).get? b = some o :=
  PySem.W.hideAll_get _ e fun hm => by
    have q : (H b).isSome = true := (List.mem_filter.mp hm).2
    rw [n] at q; simp at q
theorem of_hidT {h : Heap} {H : Hp} {b : Addr} {o : Obj} (e : (hidT h H).get? b = some o) : h.get? b = some o ∧ H b = none := by
  have e' : h.get? b = some o := PySem.W.of_hideAll (trk h H) e
  refine ⟨e', ?_⟩
  cases q : H b with
  | none => rfl
  | some x =>
    have hm : b ∈ trk h H := List.mem_filter.mpr ⟨List.mem_range.mpr (Heap.lt_size e'), by simp [q]⟩
    have z : (hidT h H).get? b = none := PySem.W.hideAll_none (trk h H) hm
    rw [z] at e; cases e
end L2
namespace L2
open PySem PySem.Spec PyProof.Rows
structure Mod (K : PySem.W.Frag) (mg : Str → Option Value) (base : Heap) : Prop where
  kin : K.In base
  glob : base.Ns mainGlobals mg
  blt : ∃ mb, base.Ns builtinsNs mb ∧ ∀ x : Str, x ≠ "__name__" → mb x = bootBuiltins x
  nolimit : base.NoLimit
structure Cx where
  prog : Program
  w : World
  K : PySem.W.Frag
  mg : Str → Option Value
  base : Heap
  A : Around
  N : List Str
  s₀ : Shared
  H₀ : Hp
  env : Env
  outer : List Env
  stack : List Env
  ex : List Addr
  fn : Str → Bool
  calm : Bool
  pn : List (Addr × Obj)
  xe : Value → Shared → Prop
  ex9 : Value → Option Addr → Hp → Prop := fun _ _ _ => False
noncomputable def frs (l : List Env) : List Addr := l.filterMap (·.frame)
noncomputable abbrev Cx.fs (X : Cx) : List Addr := frs X.outer
noncomputable def Vis (sc : Scope) (x : Str) : Prop := sc.names.lookup x = some .local ∨ sc.names.lookup x = some .cell ∨ sc.names.lookup x = some .free
noncomputable def Loc (sc : Scope) (x : Str) : Prop := sc.names.lookup x = some .local ∨ sc.names.lookup x = some .cell
noncomputable def Look (env : Env) (h : Heap) (m : Str → Option Value) (x : Str) (u : Value) : Prop :=
  (env.kindOf x = some .local ∧ m x = some u) ∨ ((env.kindOf x = some .cell ∨ env.kindOf x = some .free) ∧ ∃ c, env.cells.lookup x = some c ∧ h.IsCell c (some u))
structure Cx.Ok (X : Cx) : Prop where
  mod : Mod X.K X.mg X.base
  kind : X.env.scope.kind = .function
  glob : X.env.globals = mainGlobals
  blt : X.env.builtins = builtinsNs
  above : X.s₀.heap.objs.size ≤ X.env.locals
  inj : ∀ x y c, X.env.cells.lookup x = some c → X.env.cells.lookup y = some c → x = y
  has : ∀ x, (X.env.kindOf x = some .cell ∨ X.env.kindOf x = some .free) → ∃ c, X.env.cells.lookup x = some c
  cab : ∀ x c, X.fn x = true → X.env.cells.lookup x = some c → X.s₀.heap.objs.size ≤ c
  hd : X.calm = true → X.A.handled = none
  frames : X.A.frames = some X.stack
  stk : X.stack = X.outer ∨ (X.stack = X.env :: X.outer ∧ X.env.frame = some X.env.locals)
  exf : ∀ b ∈ X.ex, b ≠ X.env.locals ∧ ∀ x c, X.env.cells.lookup x = some c → c ≠ b
  bs : ∀ b o, X.base.get? b = some o → X.s₀.heap.get? b = some o ∧ X.H₀ b = none
  bsz : X.base.objs.size ≤ X.s₀.heap.objs.size
  noex : ∀ b o, X.base.get? b = some o → b ∉ X.ex
  exfs : ∀ b ∈ X.ex, b ∉ X.fs
  funs : X.s₀.heap.FunFrames X.base X.outer
  frf : ∀ b ∈ X.fs, X.H₀ b = none
structure Inv (X : Cx) (pins : List (Addr × Obj)) (σ : List (Option V)) (H : Hp) (s : Shared) : Prop where
  ok : X.Ok
  os : s.os = X.s₀.os
  bare : AllBare s.gens
  base : Un X.fs X.ex X.H₀ H X.s₀.heap s.heap
  loc : ∃ m, s.heap.Ns X.env.locals m ∧ ∀ (i : Nat) (x : Str) (v : V), X.N[i]? = some x → σ[i]? = some (some v) → Vis X.env.scope x → ∃ u, RelV v u ∧ Look X.env s.heap m x u
  cell : ∀ x c, X.env.cells.lookup x = some c → ∃ v, s.heap.IsCell c v
  free : H X.env.locals = none
  freeC : ∀ x c, X.env.cells.lookup x = some c → H c = none
  pin : ∀ p ∈ X.pn ++ pins, s.heap.get? p.1 = some p.2 ∧ H p.1 = none ∧ p.1 ≠ X.env.locals ∧ p.1 ∉ X.fs ∧ ∀ v, p.2.data ≠ .cell v
  hok : HOk X.prog X.w H s.heap
  len : σ.length = X.N.length
section
variable {X : Cx} {pins : List (Addr × Obj)} {σ : List (Option V)} {H H' : Hp} {s : Shared} {h' : Heap}
theorem Cx.Ok.nofr (ok : X.Ok) {b : Addr} {o : Obj} (e : X.base.get? b = some o) : b ∉ X.fs := fun hb => by
  have := (ok.funs.mem hb).1
  rw [e] at this; cases this
theorem Inv.bs (I : Inv X pins σ H s) : ∀ b o, X.base.get? b = some o → s.heap.get? b = some o ∧ H b = none := fun b o e =>
  ⟨I.base.keep b o (I.ok.bs b o e).1 (I.ok.bs b o e).2 (I.ok.nofr e) (I.ok.noex b o e), I.base.free b o (I.ok.bs b o e).1 (I.ok.bs b o e).2 (I.ok.noex b o e)⟩
theorem Inv.bk (I : Inv X pins σ H s) : ∀ b o, X.base.get? b = some o → s.heap.get? b = some o := fun b o e => (I.bs b o e).1
theorem Inv.mod (I : Inv X pins σ H s) : Mod X.K X.mg X.base := I.ok.mod
theorem Inv.kIn (I : Inv X pins σ H s) : X.K.In s.heap := I.ok.mod.kin.keeps I.bk
theorem Inv.lt (I : Inv X pins σ H s) : X.env.locals < s.heap.objs.size := let ⟨_, hn, _⟩ := I.loc; hn.lt
theorem Inv.sz (I : Inv X pins σ H s) : X.s₀.heap.objs.size ≤ s.heap.objs.size := Nat.le_trans I.ok.above (Nat.le_of_lt I.lt)
theorem Inv.nofs (I : Inv X pins σ H s) {a : Addr} (h : s.heap.objs.size ≤ a) : a ∉ X.fs := fun hb => by
  obtain ⟨_, o, ho, _⟩ := I.ok.funs.mem hb
  exact absurd (Nat.lt_of_lt_of_le (Heap.lt_size ho) (Nat.le_trans I.sz h)) (Nat.lt_irrefl _)
theorem Inv.cne (I : Inv X pins σ H s) : ∀ x c, X.env.cells.lookup x = some c → c ≠ X.env.locals := fun x c e z => by
  obtain ⟨v, o, ho, hd⟩ := I.cell x c e
  obtain ⟨m, ⟨o', es, ep, ho', hd', _⟩, _⟩ := I.loc
  rw [z, ho'] at ho; cases ho; rw [hd'] at hd; cases hd
theorem Inv.funs (I : Inv X pins σ H s) : s.heap.FunFrames X.base X.outer := by
  have all : ∀ (l : List Env), (∀ b ∈ frs l, b ∈ X.fs) → X.s₀.heap.FunFrames X.base l → s.heap.FunFrames X.base l := by
    intro l
    induction l with
    | nil => intro _ _; trivial
    | cons env r ih =>
      intro hs hl
      obtain ⟨hk, ⟨L, o, hf, hn, ho, hd⟩, hr⟩ := hl
      have hL : L ∈ X.fs := hs L (by unfold frs; rw [List.filterMap_cons, hf]; exact List.mem_cons_self)
      obtain ⟨sl, e⟩ := I.base.slot L o ho (I.ok.frf L hL) hL fun z => I.ok.exfs L z hL
      exact ⟨hk, ⟨L, _, hf, hn, e, hd⟩, ih (fun b hb => hs b (by unfold frs; rw [List.filterMap_cons, hf]; exact List.mem_cons_of_mem _ hb)) hr⟩
  exact all X.outer (fun _ hb => hb) I.ok.funs
theorem Inv.stack (I : Inv X pins σ H s) : s.heap.FunFrames X.base X.stack := by
  rcases I.ok.stk with e | ⟨e, hf⟩
  · rw [e]; exact I.funs
  · rw [e]
    obtain ⟨m, hn, _⟩ := I.loc
    refine .cons (by rw [I.ok.kind]; decide) hf hn ?_ I.funs
    exact Heap.get?_none_of_le (Nat.le_trans I.ok.bsz I.ok.above)
theorem Inv.stkSub (I : Inv X pins σ H s) : ∀ b ∈ frs X.stack, b ∈ X.env.locals :: X.fs := fun b hb => by
  rcases I.ok.stk with e | ⟨e, hf⟩
  · rw [e] at hb; exact List.mem_cons_of_mem _ hb
  · rw [e] at hb
    unfold frs at hb
    rw [List.filterMap_cons, hf] at hb
    exact hb
theorem Inv.stkFree (I : Inv X pins σ H s) : ∀ b ∈ frs X.stack, H b = none := fun b hb => by
  rcases List.mem_cons.mp (I.stkSub b hb) with e | hb
  · rw [e]; exact I.free
  · obtain ⟨_, o, ho, _⟩ := I.ok.funs.mem hb
    exact I.base.free b o ho (I.ok.frf b hb) fun z => I.ok.exfs b z hb
theorem Inv.step {g' : Array GenState} {t' : Nat} {d' : Drawn} {ch : List Addr} (I : Inv X pins σ H s)
    (hch : ∀ b ∈ ch, (b ∈ X.ex ∨ X.s₀.heap.objs.size ≤ b) ∧ b ≠ X.env.locals ∧ (∀ x c, X.env.cells.lookup x = some c → c ≠ b) ∧ ∀ p ∈ X.pn ++ pins, p.1 ≠ b)
    (keep : ∀ b o, b ≠ X.env.locals → b ∉ X.fs → b ∉ ch → s.heap.get? b = some o → H b = none → h'.get? b = some o)
    (slot : ∀ b o, b ≠ X.env.locals → b ∈ X.fs → b ∉ ch → s.heap.get? b = some o → H b = none → ∃ sl, h'.get? b = some { o with slots := sl }) (free : ∀ b o, b ∉ ch → s.heap.get? b = some o → H b = none → H' b = none)
    (there : ∀ b o, b ∉ ch → s.heap.get? b = some o → ∃ o', h'.get? b = some o')
    (tups : ∀ b xs, H b = some (.tup xs) → H' b = some (.tup xs)) (frzs : ∀ b o u, H b = some (.frz o u) → H' b = some (.frz o u)) (tbls : ∀ b ps, H b = some (.tbl ps) → ∃ more, H' b = some (.tbl (ps ++ more)))
    (ns : ∀ m, s.heap.Ns X.env.locals m → h'.Ns X.env.locals m) (hok : HOk X.prog X.w H' h') (hg : AllBare g') :
    Inv X pins σ H' { s with heap := h', gens := g', drawn := d', toks := t' } := by
  have neL : ∀ b o, X.s₀.heap.get? b = some o → b ≠ X.env.locals := fun b o e => Nat.ne_of_lt (Nat.lt_of_lt_of_le (Heap.lt_size e) I.ok.above)
  have neC : ∀ b o, X.s₀.heap.get? b = some o → b ∉ X.ex → b ∉ ch := fun b o e hx hb => by
    rcases (hch b hb).1 with z | z
    · exact hx z
    · exact absurd (Nat.lt_of_lt_of_le (Heap.lt_size e) z) (Nat.lt_irrefl _)
  have cellK : ∀ x c, X.env.cells.lookup x = some c → ∀ v, s.heap.IsCell c v → h'.IsCell c v := fun x c e v ⟨o, ho, hd⟩ => by
    have nch : c ∉ ch := fun z => (hch c z).2.2.1 x c e rfl
    by_cases hc : c ∈ X.fs
    · obtain ⟨sl, q⟩ := slot c o (I.cne x c e) hc nch ho (I.freeC x c e)
      exact ⟨_, q, hd⟩
    · exact ⟨o, keep c o (I.cne x c e) hc nch ho (I.freeC x c e), hd⟩
  refine ⟨I.ok, I.os, hg, ⟨fun b o e n hb hx => ?_, fun b o e n hb hx => ?_, fun b o e n hx => ?_, fun b o e hx => ?_, fun b xs e => tups b xs (I.base.tups b xs e), fun b o xs e => frzs b o xs (I.base.frzs b o xs e), fun b ps e => ?_⟩, ?_, fun x c e => ?_, ?_, fun x c e => ?_, fun p hp => ?_, hok, I.len⟩
  · exact keep b o (neL b o e) hb (neC b o e hx) (I.base.keep b o e n hb hx) (I.base.free b o e n hx)
  · obtain ⟨sl, e1⟩ := I.base.slot b o e n hb hx
    obtain ⟨sl', e2⟩ := slot b _ (neL b o e) hb (neC b o e hx) e1 (I.base.free b o e n hx)
    exact ⟨sl', e2⟩
  · obtain ⟨o', e1⟩ := I.base.there b o e hx
    exact free b o' (neC b o e hx) e1 (I.base.free b o e n hx)
  · obtain ⟨o', e1⟩ := I.base.there b o e hx
    exact there b o' (neC b o e hx) e1
  · obtain ⟨m1, e1⟩ := I.base.tbls b ps e
    obtain ⟨m2, e2⟩ := tbls b _ e1
    exact ⟨m1 ++ m2, by rw [e2, Array.append_assoc]⟩
  · obtain ⟨m, hn, hl⟩ := I.loc
    refine ⟨m, ns m hn, fun i x v e1 e2 e3 => ?_⟩
    obtain ⟨u, r, l⟩ := hl i x v e1 e2 e3
    refine ⟨u, r, ?_⟩
    rcases l with l | ⟨k, c, e, z⟩
    · exact .inl l
    · exact .inr ⟨k, c, e, cellK x c e _ z⟩
  · obtain ⟨v, z⟩ := I.cell x c e
    exact ⟨v, cellK x c e v z⟩
  · obtain ⟨m, ⟨o, _, _, ho, _⟩, _⟩ := I.loc
    exact free _ o (fun z => (hch _ z).2.1 rfl) ho I.free
  · obtain ⟨v, o, ho, hd⟩ := I.cell x c e
    exact free c o (fun z => (hch c z).2.2.1 x c e rfl) ho (I.freeC x c e)
  · obtain ⟨e, n, ne, nf, d⟩ := I.pin p hp
    have nch : p.1 ∉ ch := fun z => (hch p.1 z).2.2.2 p hp rfl
    exact ⟨keep p.1 p.2 ne nf nch e n, free p.1 p.2 nch e n, ne, nf, d⟩
theorem Inv.un {t' : Nat} (I : Inv X pins σ H s) (u : Un X.fs [] H H' s.heap h') (hok : HOk X.prog X.w H' h') : Inv X pins σ H' { s with heap := h', toks := t' } := by
  obtain ⟨m, ⟨o, es, ep, ho, r⟩, _⟩ := id I.loc
  obtain ⟨sl, hL⟩ := u.any ho I.free (by simp)
  exact I.step (g' := s.gens) (d' := s.drawn) (ch := []) (fun _ z => nomatch z) (fun b o _ hb _ e n => u.keep b o e n hb (by simp)) (fun b o _ hb _ e n => u.slot b o e n hb (by simp)) (fun b o _ e n => u.free b o e n (by simp)) (fun b o _ e => u.there b o e (by simp)) u.tups u.frzs u.tbls (fun m' hm => by
    obtain ⟨o', es', ep', ho', r'⟩ := hm
    rw [ho] at ho'; cases ho'
    exact ⟨_, es', ep', hL, r'⟩) hok I.bare
theorem Inv.call {g' : Array GenState} {t' : Nat} {d' : Drawn} {ch : List Addr} (I : Inv X pins σ H s) (u : Un (frs X.stack) ch H H' s.heap h') (hok : HOk X.prog X.w H' h') (hg : AllBare g')
    (hch : ∀ b ∈ ch, (b ∈ X.ex ∨ X.s₀.heap.objs.size ≤ b) ∧ b ≠ X.env.locals ∧ (∀ x c, X.env.cells.lookup x = some c → c ≠ b) ∧ ∀ p ∈ X.pn ++ pins, p.1 ≠ b) :
    Inv X pins σ H' { s with heap := h', gens := g', drawn := d', toks := t' } := by
  obtain ⟨m, ⟨o, es, ep, ho, r⟩, _⟩ := id I.loc
  obtain ⟨sl, hL⟩ := u.any ho I.free fun z => (hch _ z).2.1 rfl
  exact I.step (ch := ch) hch (fun b o hL hb hc e n => u.keep b o e n (fun z => (List.mem_cons.mp (I.stkSub b z)).elim hL hb) hc) (fun b o _ _ hc e n => u.any e n hc) (fun b o hc e n => u.free b o e n hc) (fun b o hc e => u.there b o e hc) u.tups u.frzs u.tbls (fun m' hm => by
    obtain ⟨o', es', ep', ho', r'⟩ := hm
    rw [ho] at ho'; cases ho'
    exact ⟨_, es', ep', hL, r'⟩) hok hg
theorem Inv.turned {t' : Nat} {it : Addr} (I : Inv X pins σ H s) (k : ∀ b o, b ≠ it → s.heap.get? b = some o → h'.get? b = some o) (hn : H it = none) (hL : it ≠ X.env.locals)
    (h1 : it ∈ X.ex ∨ X.s₀.heap.objs.size ≤ it) (h2 : ∀ x c, X.env.cells.lookup x = some c → c ≠ it) (h3 : ∀ p ∈ X.pn ++ pins, p.1 ≠ it) : Inv X pins σ H { s with heap := h', toks := t' } := by
  have nit : ∀ b u, H b = some u → b ≠ it := fun b u e z => by rw [z, hn] at e; cases e
  refine I.step (g' := s.gens) (d' := s.drawn) (ch := [it]) (fun b hb => ?_) (fun b o _ _ hc e _ => k b o (fun z => hc (by simp [z])) e) (fun b o _ _ hc e _ => ⟨o.slots, k b o (fun z => hc (by simp [z])) e⟩) (fun _ _ _ _ n => n)
    (fun b o hc e => ⟨o, k b o (fun z => hc (by simp [z])) e⟩) (fun _ _ e => e) (fun _ _ _ e => e) (fun b ps e => ⟨#[], by rw [e]; simp⟩) (fun m hm => ?_) (fun b u e => ?_) I.bare
  · have e : b = it := by simpa using hb
    subst e
    exact ⟨h1, hL, h2, h3⟩
  · obtain ⟨o, es, ep, ho, r⟩ := hm
    exact ⟨o, es, ep, k _ o (Ne.symm hL) ho, r⟩
  · refine (I.hok b u e).stay (fun c v hc q => k c v ?_ q) (fun _ q => q) fun _ _ q => q
    rcases hc with z | z
    · rw [z]; exact nit b u e
    · exact nit c _ z
theorem Inv.tok (I : Inv X pins σ H s) (t : Nat) : Inv X pins σ H { s with toks := t } := I.un (h' := s.heap) (t' := t) Un.refl I.hok
theorem Inv.kept {t' : Nat} (I : Inv X pins σ H s) (k : ∀ b u, s.heap.get? b = some u → h'.get? b = some u) : Inv X pins σ H { s with heap := h', toks := t' } := I.un (Un.kept k) (I.hok.kept k)
theorem Inv.laid {a : Addr} {o : HO} {t' : Nat} (I : Inv X pins σ H s) (k : ∀ b u, s.heap.get? b = some u → h'.get? b = some u) (hp : s.heap.objs.size ≤ a) (new : ObjOk X.prog X.w (upd H a o) h' a o) :
    Inv X pins σ (upd H a o) { s with heap := h', toks := t' } := I.un (Un.laid k hp (I.hok.fresh hp)) (I.hok.laid k hp new)
theorem Inv.write {x e : Addr} {o : HO} {t' : Nat} (I : Inv X pins σ H s) (mu : Mut (H x)) (he : e = x ∨ H e = some (.own x)) (k : ∀ b u, b ≠ e → s.heap.get? b = some u → h'.get? b = some u) (heo : ∃ u, h'.get? e = some u)
    (new : ObjOk X.prog X.w (upd H x o) h' x o) : Inv X pins σ (upd H x o) { s with heap := h', toks := t' } := I.un (Un.write mu he k heo) (I.hok.write mu he k heo new)
theorem Inv.pins_of {pins' : List (Addr × Obj)} (I : Inv X pins σ H s) (h : ∀ p ∈ pins', s.heap.get? p.1 = some p.2 ∧ H p.1 = none ∧ p.1 ≠ X.env.locals ∧ p.1 ∉ X.fs ∧ ∀ v, p.2.data ≠ .cell v) : Inv X pins' σ H s :=
  ⟨I.ok, I.os, I.bare, I.base, I.loc, I.cell, I.free, I.freeC, fun p hp => (List.mem_append.mp hp).elim (fun z => I.pin p (List.mem_append_left _ z)) (h p), I.hok, I.len⟩
theorem nodup_ix {N : List Str} (hN : N.Nodup) {i j : Nat} {x : Str} (a : N[i]? = some x) (b : N[j]? = some x) : i = j := by
  obtain ⟨h1, e1⟩ := List.getElem?_eq_some_iff.mp a
  obtain ⟨h2, e2⟩ := List.getElem?_eq_some_iff.mp b
  exact (List.getElem_inj hN).mp (e1.trans e2.symm)
theorem store_ok2 {M : Model} {A : Around} {E : Value → Shared → Prop} {i : Nat} {x : Str} {v : V} {u : Value} {Q : Unit → Shared → Prop} (I : Inv X pins σ H s) (hN : X.N.Nodup) (hi : X.N[i]? = some x) (hx : Loc X.env.scope x) (r : RelV v u)
    (h : ∀ s', Inv X pins (σ.set i (some v)) H s' → (∃ a, Heap.SameBut a s.heap s'.heap ∧ (a = X.env.locals ∨ X.env.cells.lookup x = some a)) → Q () s') (hf : X.fn x = true ∨ X.env.scope.names.lookup x = some .local := by trivial) : wpAny M A (storeName X.env x u) Q E s := by
  obtain ⟨m, hn, hl⟩ := id I.loc
  have hcls : (X.env.scope.kind == .class || (X.env.scope.kind == .module && X.env.locals != X.env.globals)) = false := by rw [I.ok.kind]; rfl
  have hiσ : i < σ.length := by rw [I.len]; exact (List.getElem?_eq_some_iff.mp hi).1
  have cne := I.cne
  have tracked : ∀ {a : Addr} {h' : Heap}, (∃ o, s.heap.get? a = some o ∧ H a = none) → Heap.SameBut a s.heap h' → HOk X.prog X.w H h' := fun {a h'} ha hs b ob e => by
    obtain ⟨_, _, hfree⟩ := ha
    refine (I.hok b ob e).stay (fun c w' hc q => (hs.2 c ?_).trans q) (fun _ q => q) fun _ _ q => q
    rintro rfl
    rcases hc with rfl | hc
    · rw [hfree] at e; cases e
    · rw [hfree] at hc; cases hc
  rcases hx with hk | hk
  · refine wpAny_storeName_local hk hn (fun h' hn' hs => ?_) hcls
    obtain ⟨oL, _, _, hoL, _⟩ := id hn
    refine h _ ⟨I.ok, I.os, I.bare, ⟨fun b o e n hb hx => ?_, fun b o e n hb hx => ?_, I.base.free, fun b o e hx => ?_, I.base.tups, I.base.frzs, I.base.tbls⟩, ⟨_, hn', fun j y v' e1 e2 e3 => ?_⟩, fun y c e => ?_, I.free, I.freeC, fun p hp => ?_, tracked ⟨oL, hoL, I.free⟩ hs, by simpa using I.len⟩ ⟨_, hs, .inl rfl⟩
    · exact (hs.2 b (Nat.ne_of_lt (Nat.lt_of_lt_of_le (Heap.lt_size e) I.ok.above))).trans (I.base.keep b o e n hb hx)
    · obtain ⟨sl, e1⟩ := I.base.slot b o e n hb hx
      exact ⟨sl, (hs.2 b (Nat.ne_of_lt (Nat.lt_of_lt_of_le (Heap.lt_size e) I.ok.above))).trans e1⟩
    · obtain ⟨o', e1⟩ := I.base.there b o e hx
      exact ⟨o', (hs.2 b (Nat.ne_of_lt (Nat.lt_of_lt_of_le (Heap.lt_size e) I.ok.above))).trans e1⟩
    · by_cases hj : j = i
      · subst hj
        rw [hi] at e1; cases e1
        rw [List.getElem?_set_self hiσ] at e2
        cases e2
        exact ⟨u, r, .inl ⟨hk, by simp⟩⟩
      · rw [List.getElem?_set_ne (Ne.symm hj)] at e2
        obtain ⟨u', r', q⟩ := hl j y v' e1 e2 e3
        refine ⟨u', r', ?_⟩
        rcases q with ⟨k, e⟩ | ⟨k, c, e, z⟩
        · refine .inl ⟨k, ?_⟩
          have : y ≠ x := fun e => hj (nodup_ix hN e1 (e ▸ hi))
          simp [this, e]
        · exact .inr ⟨k, c, e, z.sameBut hs (cne y c e)⟩
    · obtain ⟨w', z⟩ := I.cell y c e
      exact ⟨w', z.sameBut hs (cne y c e)⟩
    · obtain ⟨e, n, ne, nf, d⟩ := I.pin p hp
      exact ⟨(hs.2 p.1 ne).trans e, n, ne, nf, d⟩
  · have hfn : X.fn x = true := by
      rcases hf with z | z
      · exact z
      · rw [z] at hk; cases hk
    obtain ⟨c, hc⟩ := I.ok.has x (.inl hk)
    obtain ⟨w', z⟩ := I.cell x c hc
    refine wpAny_storeName_cell I.ok.kind hk hc z (fun h' hc' hs => ?_)
    obtain ⟨oc, hoc, hocd⟩ := id z
    refine h { s with heap := h' } ⟨I.ok, I.os, I.bare, ⟨fun b o e n hb hx => ?_, fun b o e n hb hx => ?_, I.base.free, fun b o e hx => ?_, I.base.tups, I.base.frzs, I.base.tbls⟩, ⟨m, hn.sameBut hs (Ne.symm (cne x c hc)), fun j y v' e1 e2 e3 => ?_⟩, fun y c' e => ?_, I.free, I.freeC, fun p hp => ?_, tracked ⟨oc, hoc, I.freeC x c hc⟩ hs, by simpa using I.len⟩ ⟨c, hs, .inr hc⟩
    · exact (hs.2 b (Nat.ne_of_lt (Nat.lt_of_lt_of_le (Heap.lt_size e) (I.ok.cab x c hfn hc)))).trans (I.base.keep b o e n hb hx)
    · obtain ⟨sl, e1⟩ := I.base.slot b o e n hb hx
      exact ⟨sl, (hs.2 b (Nat.ne_of_lt (Nat.lt_of_lt_of_le (Heap.lt_size e) (I.ok.cab x c hfn hc)))).trans e1⟩
    · obtain ⟨o', e1⟩ := I.base.there b o e hx
      exact ⟨o', (hs.2 b (Nat.ne_of_lt (Nat.lt_of_lt_of_le (Heap.lt_size e) (I.ok.cab x c hfn hc)))).trans e1⟩
    · by_cases hj : j = i
      · subst hj
        rw [hi] at e1; cases e1
        rw [List.getElem?_set_self hiσ] at e2
        cases e2
        exact ⟨u, r, .inr ⟨.inl hk, c, hc, hc'⟩⟩
      · rw [List.getElem?_set_ne (Ne.symm hj)] at e2
        obtain ⟨u', r', q⟩ := hl j y v' e1 e2 e3
        refine ⟨u', r', ?_⟩
        rcases q with q | ⟨k, c', e, z'⟩
        · exact .inl q
        · refine .inr ⟨k, c', e, z'.sameBut hs ?_⟩
          rintro rfl
          exact hj (nodup_ix hN e1 (I.ok.inj _ _ _ e hc ▸ hi))
    · by_cases hcc : c' = c
      · subst hcc; exact ⟨_, hc'⟩
      · obtain ⟨w2, z2⟩ := I.cell y c' e
        exact ⟨w2, z2.sameBut hs hcc⟩
    · obtain ⟨e, n, ne, nf, d⟩ := I.pin p hp
      refine ⟨(hs.2 p.1 ?_).trans e, n, ne, nf, d⟩
      intro q
      rw [q, hoc] at e
      have q' : oc = p.2 := Option.some.inj e
      exact d w' (by rw [← q']; exact hocd)
theorem store_ok {M : Model} {A : Around} {E : Value → Shared → Prop} {i : Nat} {x : Str} {v : V} {u : Value} {Q : Unit → Shared → Prop} (I : Inv X pins σ H s) (hN : X.N.Nodup) (hi : X.N[i]? = some x) (hx : Loc X.env.scope x) (r : RelV v u)
    (h : ∀ s', Inv X pins (σ.set i (some v)) H s' → Q () s') (hf : X.fn x = true ∨ X.env.scope.names.lookup x = some .local := by trivial) : wpAny M A (storeName X.env x u) Q E s :=
  store_ok2 I hN hi hx r (fun s' I' _ => h s' I') hf
theorem Inv.call' {s' : Shared} {ch : List Addr} (I : Inv X pins σ H s) (ho : s'.os = s.os) (u : Un (frs X.stack) ch H H' s.heap s'.heap) (hok : HOk X.prog X.w H' s'.heap) (hg : AllBare s'.gens)
    (hch : ∀ b ∈ ch, (b ∈ X.ex ∨ X.s₀.heap.objs.size ≤ b) ∧ b ≠ X.env.locals ∧ (∀ x c, X.env.cells.lookup x = some c → c ≠ b) ∧ ∀ p ∈ X.pn ++ pins, p.1 ≠ b) : Inv X pins σ H' s' := by
  obtain ⟨h', g', d', t', o'⟩ := s'
  have e : o' = s.os := ho
  subst e
  exact I.call (g' := g') (t' := t') (d' := d') u hok hg hch
end
noncomputable abbrev XK := Value → Option Addr → Hp → Prop
noncomputable abbrev St := List (Option V)
noncomputable abbrev VK := V → Hp → Prop
noncomputable abbrev TE := St → Hp → VK → Prop
noncomputable abbrev TT := St → Hp → (Bool → Hp → Prop) → Prop
noncomputable abbrev TA := St → Hp → (List V → Hp → Prop) → Prop
structure Ends where
  nx : St → Hp → Prop
  rt : VK
  bk : St → Hp → Prop := fun _ _ => False
  ct : St → Hp → Prop := fun _ _ => False
noncomputable abbrev TS := Ends → St → Hp → Prop
noncomputable def EP (X : Cx) (pins : List (Addr × Obj)) (σ : St) (Q : VK) (u : Value) (s' : Shared) : Prop := ∃ v H', Inv X pins σ H' s' ∧ RelV v u ∧ Q v H'
noncomputable def TP (X : Cx) (pins : List (Addr × Obj)) (σ : St) (Q : Bool → Hp → Prop) (b : Bool) (s' : Shared) : Prop := ∃ H', Inv X pins σ H' s' ∧ Q b H'
noncomputable def AP (X : Cx) (pins : List (Addr × Obj)) (σ : St) (Q : List V → Hp → Prop) (us : List Value) (s' : Shared) : Prop := ∃ vs H', Inv X pins σ H' s' ∧ Vals vs us ∧ Q vs H'
noncomputable def SP (X : Cx) (pins : List (Addr × Obj)) (D : Ends) (f : Flow) (s' : Shared) : Prop :=
  match f with
  | .next => ∃ σ' H', Inv X pins σ' H' s' ∧ D.nx σ' H'
  | .brk => ∃ σ' H', Inv X pins σ' H' s' ∧ D.bk σ' H'
  | .cont => ∃ σ' H', Inv X pins σ' H' s' ∧ D.ct σ' H'
  | .ret u => ∃ v σ' H', Inv X pins σ' H' s' ∧ RelV v u ∧ D.rt v H'
noncomputable def PE (X : Cx) (e : Expr) (t : TE) : Prop :=
  ∀ (pins : List (Addr × Obj)) (s : Shared) (σ : St) (H : Hp) (Q : VK), Inv X pins σ H s → t σ H Q → wpAny (model X.prog X.w) X.A (eval e X.env) (EP X pins σ Q) X.xe s
noncomputable def PT (X : Cx) (e : Expr) (t : TT) : Prop :=
  ∀ (pins : List (Addr × Obj)) (s : Shared) (σ : St) (H : Hp) (Q : Bool → Hp → Prop), Inv X pins σ H s → t σ H Q → wpAny (model X.prog X.w) X.A (isTrue e X.env (eval e X.env)) (TP X pins σ Q) X.xe s
noncomputable def PW (X : Cx) (e : Expr) (t : TT) : Prop :=
  ∀ (whole : Sem Value) (pins : List (Addr × Obj)) (s : Shared) (σ : St) (H : Hp) (Q : Bool → Hp → Prop), Inv X pins σ H s → t σ H Q → wpAny (model X.prog X.w) X.A (isTrue e X.env whole) (TP X pins σ Q) X.xe s
theorem PW.pt {X : Cx} {e : Expr} {t : TT} (h : PW X e t) : PT X e t := h _
noncomputable def PA (X : Cx) (es : List Expr) (t : TA) : Prop :=
  ∀ (pos : Pos) (pins : List (Addr × Obj)) (s : Shared) (σ : St) (H : Hp) (Q : List V → Hp → Prop), Inv X pins σ H s → t σ H Q → wpAny (model X.prog X.w) X.A (spliced (backTo pos (starEach es X.env))) (AP X pins σ Q) X.xe s
noncomputable def PS (X : Cx) (st : Stmt) (t : TS) : Prop :=
  ∀ (pins : List (Addr × Obj)) (s : Shared) (σ : St) (H : Hp) (D : Ends), Inv X pins σ H s → t D σ H → wpAny (model X.prog X.w) X.A (exec st X.env) (SP X pins D) X.xe s
noncomputable def PSs (X : Cx) (st : List Stmt) (t : TS) : Prop :=
  ∀ (pins : List (Addr × Obj)) (s : Shared) (σ : St) (H : Hp) (D : Ends), Inv X pins σ H s → t D σ H → wpAny (model X.prog X.w) X.A (execs st X.env) (SP X pins D) X.xe s
theorem thn {α : Type} {t : Sem α} {Q Q' : α → Shared → Prop} {M : Model} {A : Around} {E : Value → Shared → Prop} {s : Shared} (h : wpAny M A t Q E s) (hQ : ∀ a s, Q a s → Q' a s) : wpAny M A t Q' E s := wpAny_mono h hQ fun _ _ x => x
end L2
namespace L2
open PySem PySem.Spec PyProof.Rows
section
variable {X : Cx}
theorem bin {a b : Expr} {ta tb : TE} (ha : PE X a ta) (hb : PE X b tb) {pins : List (Addr × Obj)} {s : Shared} {σ : St} {H : Hp} {R : V → V → Hp → Prop} (I : Inv X pins σ H s) (h : ta σ H fun x H1 => tb σ H1 fun y H2 => R x y H2)
    {α : Type} {Q : α → Shared → Prop} {f : Value → Value → Sem α}
    (hf : ∀ v u s2 x y H2, Inv X pins σ H2 s2 → RelV x v → RelV y u → R x y H2 → wpAny (model X.prog X.w) X.A (f v u) Q X.xe s2) :
    wpAny (model X.prog X.w) X.A (eval a X.env) (fun v s₁ => wpAny (model X.prog X.w) X.A (eval b X.env) (fun u s₂ => wpAny (model X.prog X.w) X.A (f v u) Q X.xe s₂) X.xe s₁) X.xe s := by
  refine thn (ha pins s σ H _ I h) fun v s1 ⟨x, H1, I1, r1, q1⟩ => ?_
  refine thn (hb pins s1 σ H1 _ I1 q1) fun u s2 ⟨y, H2, I2, r2, q2⟩ => ?_
  exact hf v u s2 x y H2 I2 r1 r2 q2
noncomputable def tVar (i : Nat) : TE := fun σ H Q => ∃ v, σ[i]? = some (some v) ∧ Q v H
noncomputable def tC (v : V) : TE := fun _ H Q => Q v H
theorem pe_var {i : Nat} {x : Str} {pos : Pos} (hN : X.N[i]? = some x) (hv : Vis X.env.scope x) (hd : (x == ("__debug__" : Str)) = false := by decide) (hcd : (x == ("__classdict__" : Str)) = false := by decide) : PE X (.Name x pos) (tVar i) := by
  intro pins s σ H Q I h
  obtain ⟨v, e, h⟩ := h
  obtain ⟨m, hn, hl⟩ := I.loc
  obtain ⟨u, r, l⟩ := hl i x v hN e hv
  have fin : EP X pins σ Q u s := ⟨v, H, I, r, h⟩
  rcases l with ⟨hk, hm⟩ | ⟨hk, c, hc, hcell⟩
  · exact wpAny_Name (wpAny_loadName_local I.ok.kind hk hn hm fin) hd
  · rcases hk with hk | hk
    · exact wpAny_Name (wpAny_loadName_cell I.ok.kind hk hc hcell fin) hd
    · exact wpAny_Name (wpAny_loadName_free I.ok.kind hk hc hcell fin hcd) hd
theorem pe_int {i j pos} : PE X (.Constant (.int i) j pos) (tC (.int i)) := fun _ _ _ H _ I h => wpAny_Constant_int ⟨.int i, H, I.tok _, ⟨_, rfl⟩, h⟩
theorem pe_bl {b j pos} : PE X (.Constant (.bool b) j pos) (tC (.bl b)) := fun _ _ _ H _ I h => Constant_bool ⟨.bl b, H, I, rfl, h⟩
theorem pe_str {x j pos} : PE X (.Constant (.str x) j pos) (tC (.str x)) := fun _ _ _ H _ I h => Calls.Constant_str ⟨.str x, H, I.tok _, ⟨_, rfl⟩, h⟩
noncomputable def Gl (X : Cx) (x : Str) : Prop := X.env.kindOf x = some .globalImplicit
theorem ld_glob {E : Value → Shared → Prop} {pins : List (Addr × Obj)} {s : Shared} {σ : St} {H : Hp} {x : Str} {u : Value} {pos : Pos} {Q : Value → Shared → Prop} (I : Inv X pins σ H s) (hg : Gl X x) (hm : X.mg x = some u) (h : Q u s)
    (hd : (x == ("__debug__" : Str)) = false := by decide) : wpAny (model X.prog X.w) X.A (eval (.Name x pos) X.env) Q E s :=
  Calls.Name_function_global I.ok.kind hg (Calls.loadGlobal_global (by rw [I.ok.glob]; exact I.mod.glob.keeps I.bk) hm h) hd
theorem ld_blt {E : Value → Shared → Prop} {pins : List (Addr × Obj)} {s : Shared} {σ : St} {H : Hp} {x : Str} {u : Value} {pos : Pos} {Q : Value → Shared → Prop} (I : Inv X pins σ H s) (hg : Gl X x) (hm : X.mg x = none) (hv : bootBuiltins x = some u) (h : Q u s)
    (hn : x ≠ "__name__" := by decide) (hd : (x == ("__debug__" : Str)) = false := by decide) : wpAny (model X.prog X.w) X.A (eval (.Name x pos) X.env) Q E s := by
  obtain ⟨mb, h1, h2⟩ := I.mod.blt
  exact Calls.Name_function_global I.ok.kind hg (Calls.loadGlobal_builtin (by rw [I.ok.glob]; exact I.mod.glob.keeps I.bk) hm (by rw [I.ok.blt]; exact h1.keeps I.bk) ((h2 x hn).trans hv) h) hd
theorem pe_glob {x : Str} {v : V} {u : Value} {pos : Pos} (hg : Gl X x) (hm : X.mg x = some u) (r : RelV v u) (hd : (x == ("__debug__" : Str)) = false := by decide) : PE X (.Name x pos) (tC v) :=
  fun _ _ _ H _ I h => ld_glob I hg hm ⟨v, H, I, r, h⟩ hd
theorem pe_bltn {x : Str} {v : V} {u : Value} {pos : Pos} (hg : Gl X x) (hm : X.mg x = none) (hv : bootBuiltins x = some u) (r : RelV v u) (hn : x ≠ "__name__" := by decide) (hd : (x == ("__debug__" : Str)) = false := by decide) : PE X (.Name x pos) (tC v) :=
  fun _ _ _ H _ I h => ld_blt I hg hm hv ⟨v, H, I, r, h⟩ hn hd
variable {a b : Expr} {ta tb : TE} {pos : Pos}
variable {tA tB' : TT} {rest : List Expr}
noncomputable def tAnd (t u : TT) : TT := fun σ H Q => t σ H fun c H1 => if c = true then u σ H1 Q else Q false H1
noncomputable def tOr (t u : TT) : TT := fun σ H Q => t σ H fun c H1 => if c = true then Q true H1 else u σ H1 Q
noncomputable def tNot (t : TT) : TT := fun σ H Q => t σ H fun c H1 => Q (!c) H1
theorem pw_and1 (ha : PT X a tA) : PW X (.BoolOp .And [a] pos) tA := by
  intro wh pins s σ H Q I h
  refine isTrue_and (thn (ha pins s σ H Q I h) fun c s1 e => ?_)
  cases c with
  | true => exact isTrue_and_nil e
  | false => exact e
theorem pw_or1 (ha : PT X a tA) : PW X (.BoolOp .Or [a] pos) tA := by
  intro wh pins s σ H Q I h
  refine isTrue_or (thn (ha pins s σ H Q I h) fun c s1 e => ?_)
  cases c with
  | false => exact isTrue_or_nil e
  | true => exact e
theorem pw_and (ha : PT X a tA) (hb : PW X (.BoolOp .And (b :: rest) pos) tB') : PW X (.BoolOp .And (a :: b :: rest) pos) (tAnd tA tB') := by
  intro wh pins s σ H Q I h
  refine isTrue_and (thn (ha pins s σ H _ I h) fun c s1 ⟨H1, I1, q1⟩ => ?_)
  cases c with
  | true => exact hb wh pins s1 σ H1 Q I1 q1
  | false => exact ⟨H1, I1, q1⟩
theorem pw_or (ha : PT X a tA) (hb : PW X (.BoolOp .Or (b :: rest) pos) tB') : PW X (.BoolOp .Or (a :: b :: rest) pos) (tOr tA tB') := by
  intro wh pins s σ H Q I h
  refine isTrue_or (thn (ha pins s σ H _ I h) fun c s1 ⟨H1, I1, q1⟩ => ?_)
  cases c with
  | true => exact ⟨H1, I1, q1⟩
  | false => exact hb wh pins s1 σ H1 Q I1 q1
theorem pt_not (ha : PT X a tA) : PT X (.UnaryOp .Not a pos) (tNot tA) := by
  intro pins s σ H Q I h
  exact isTrue_not (ha pins s σ H (fun c H1 => Q (!c) H1) I h)
noncomputable def tAndV (ta tb : TE) : TE := fun σ H Q => ta σ H fun x H1 => ∃ c, x = .bl c ∧ if c = true then tb σ H1 Q else Q (.bl false) H1
noncomputable def tNotV (ta : TE) : TE := fun σ H Q => ta σ H fun x H1 => ∃ c, x = .bl c ∧ Q (.bl (!c)) H1
theorem pe_one {op} {t : TE} (h : PE X a t) : PE X (.BoolOp op [a] pos) t := fun pins s σ H Q I hw => BoolOp_one (h pins s σ H Q I hw)
theorem pe_and (ha : PE X a ta) (hb : PE X (.BoolOp .And (b :: rest) pos) tb) : PE X (.BoolOp .And (a :: b :: rest) pos) (tAndV ta tb) := by
  intro pins s σ H Q I h
  refine BoolOp_and (thn (ha pins s σ H _ I h) fun v s1 ⟨x, H1, I1, r1, q1⟩ => ?_)
  obtain ⟨c, rfl, q1⟩ := q1
  cases r1
  refine wpAny_truthy_bool ?_
  cases c with
  | true => exact hb pins s1 σ H1 Q I1 q1
  | false => exact ⟨.bl false, H1, I1, rfl, q1⟩
theorem pe_not (ha : PE X a ta) : PE X (.UnaryOp .Not a pos) (tNotV ta) := by
  intro pins s σ H Q I h
  refine UnaryOp_ (thn (ha pins s σ H _ I h) fun v s1 ⟨x, H1, I1, r1, q1⟩ => ?_)
  obtain ⟨c, rfl, q1⟩ := q1
  cases r1
  exact not_of (wpAny_truthy_bool ⟨.bl (!c), H1, I1, rfl, q1⟩)
end
end L2
namespace L2
open PySem PySem.Spec PyProof.Rows
noncomputable def SqL (K : PySem.W.Frag) (H : Hp) (a : Addr) (xs : List V) : Prop :=
  Rd H a (.lst xs) ∨
    ∃ (o : Obj) (its : Array Value) (n : Nat), K.lookup a = some o ∧ o.cls = .type "list" ∧ o.dict = none ∧ o.data = .seq its n ∧ its.size ≤ sizeLine ∧ Vals xs its.toList
noncomputable def SqT (K : PySem.W.Frag) (H : Hp) (a : Addr) (xs : List V) : Prop :=
  Rd H a (.tup xs) ∨
    ∃ (o : Obj) (its : Array Value) (n : Nat), K.lookup a = some o ∧ o.cls = .type "tuple" ∧ o.data = .seq its n ∧ its.size ≤ sizeLine ∧ Vals xs its.toList
noncomputable def absV : Value → Option V
  | .none => some .non
  | .bool b => some (.bl b)
  | .int i _ => some (.int i)
  | .str x _ => some (.str x)
  | .bytes b _ => some (.byt b)
  | .float b _ => some (.flt b)
  | .ref a => some (.ref a)
  | .type n => some (.ty n)
  | _ => none
theorem RelV.abs {x : V} {u : Value} (r : RelV x u) : absV u = some x := by
  cases x with
  | non => cases r; rfl
  | bl _ => cases r; rfl
  | int _ => obtain ⟨t, rfl⟩ := r; rfl
  | str _ => obtain ⟨t, rfl⟩ := r; rfl
  | byt _ => obtain ⟨t, rfl⟩ := r; rfl
  | flt _ => obtain ⟨t, rfl⟩ := r; rfl
  | ref _ => cases r; rfl
  | ty _ => cases r; rfl
theorem RelV.inj {x y : V} {u : Value} (r : RelV x u) (q : RelV y u) : x = y := Option.some.inj (r.abs.symm.trans q.abs)
theorem Vals.inj : ∀ {xs ys : List V} {us : List Value}, Vals xs us → Vals ys us → xs = ys
  | _, _, _, .nil, .nil => rfl
  | _, _, _, .cons r t, .cons r' t' => by rw [r.inj r', Vals.inj t t']
section
variable {X : Cx} {pins : List (Addr × Obj)} {σ : St} {H : Hp} {s : Shared} {a : Addr} {xs ys : List V}
theorem SqL.of {K : PySem.W.Frag} (h : H a = some (.lst xs)) : SqL K H a xs := .inl (.inl h)
theorem Inv.list (I : Inv X pins σ H s) (h : SqL X.K H a xs) : ∃ its : List Value, Vals xs its ∧ PlainL s.heap a its.toArray ∧ xs.length ≤ sizeLine := by
  rcases h with h | ⟨o, its, n, hk, hc, hd, hs, hz, r⟩
  · obtain ⟨z, its, n, r, e⟩ := h.ok I.hok
    exact ⟨its, r, ⟨_, n, e, rfl, rfl, rfl⟩, z⟩
  · refine ⟨its.toList, r, ⟨o, n, I.kIn a o hk, hc, hd, by simpa using hs⟩, ?_⟩
    have e := r.length
    simp only [Array.length_toList] at e
    omega
theorem Inv.tuple (I : Inv X pins σ H s) (h : SqT X.K H a xs) : ∃ its : List Value, Vals xs its ∧ IsTup s.heap a its.toArray ∧ xs.length ≤ sizeLine := by
  rcases h with h | ⟨o, its, n, hk, hc, hs, hz, r⟩
  · obtain ⟨z, its, r, p⟩ := h.ok I.hok
    exact ⟨its, r, p, z⟩
  · refine ⟨its.toList, r, ⟨o, I.kIn a o hk, hc, n, by simpa using hs⟩, ?_⟩
    have e := r.length
    simp only [Array.length_toList] at e
    omega
theorem Inv.list_inj (I : Inv X pins σ H s) (h : SqL X.K H a xs) (h' : SqL X.K H a ys) : xs = ys := by
  obtain ⟨its, r, ⟨o, n, e, _, _, d⟩, _⟩ := I.list h
  obtain ⟨its', r', ⟨o', n', e', _, _, d'⟩, _⟩ := I.list h'
  rw [e] at e'; cases e'
  rw [d] at d'
  injection d' with d1 _
  have : its = its' := by simpa using congrArg Array.toList d1
  subst this
  exact r.inj r'
theorem Inv.tuple_inj (I : Inv X pins σ H s) (h : SqT X.K H a xs) (h' : SqT X.K H a ys) : xs = ys := by
  obtain ⟨its, r, ⟨o, e, _, n, d⟩, _⟩ := I.tuple h
  obtain ⟨its', r', ⟨o', e', _, n', d'⟩, _⟩ := I.tuple h'
  rw [e] at e'; cases e'
  rw [d] at d'
  injection d' with d1 _
  have : its = its' := by simpa using congrArg Array.toList d1
  subst this
  exact r.inj r'
end
noncomputable abbrev Cx.wish (X : Cx) (E : Value → Shared → Prop) : Cx := { X with xe := E }
noncomputable abbrev Cx.nox (X : Cx) : Cx := X.wish fun _ _ => False
theorem Cx.Ok.wish {X : Cx} (ok : X.Ok) (E : Value → Shared → Prop) : (X.wish E).Ok :=
  ⟨ok.mod, ok.kind, ok.glob, ok.blt, ok.above, ok.inj, ok.has, ok.cab, ok.hd, ok.frames, ok.stk, ok.exf, ok.bs, ok.bsz, ok.noex, ok.exfs, ok.funs, ok.frf⟩
theorem Cx.Ok.unwish {X : Cx} {E : Value → Shared → Prop} (ok : (X.wish E).Ok) : X.Ok :=
  ⟨ok.mod, ok.kind, ok.glob, ok.blt, ok.above, ok.inj, ok.has, ok.cab, ok.hd, ok.frames, ok.stk, ok.exf, ok.bs, ok.bsz, ok.noex, ok.exfs, ok.funs, ok.frf⟩
section
variable {X : Cx} {pins : List (Addr × Obj)} {σ : St} {H : Hp} {s : Shared} {E : Value → Shared → Prop}
theorem Inv.wish (I : Inv X pins σ H s) (E : Value → Shared → Prop) : Inv (X.wish E) pins σ H s := ⟨I.ok.wish E, I.os, I.bare, I.base, I.loc, I.cell, I.free, I.freeC, I.pin, I.hok, I.len⟩
theorem Inv.unwish (I : Inv (X.wish E) pins σ H s) : Inv X pins σ H s := ⟨I.ok.unwish, I.os, I.bare, I.base, I.loc, I.cell, I.free, I.freeC, I.pin, I.hok, I.len⟩
theorem SP.unwish {D : Ends} {f : Flow} {s' : Shared} (h : SP (X.wish E) pins D f s') : SP X pins D f s' := by
  cases f with
  | next => obtain ⟨σ', H', I, q⟩ := h; exact ⟨σ', H', I.unwish, q⟩
  | brk => obtain ⟨σ', H', I, q⟩ := h; exact ⟨σ', H', I.unwish, q⟩
  | cont => obtain ⟨σ', H', I, q⟩ := h; exact ⟨σ', H', I.unwish, q⟩
  | ret u => obtain ⟨v, σ', H', I, r, q⟩ := h; exact ⟨v, σ', H', I.unwish, r, q⟩
theorem PSs.nox {st : List Stmt} {t : TS} (h : PSs X.nox st t) : PSs X st t := fun pins s σ H D I hw =>
  wpAny_mono (h pins s σ H D (I.wish _) hw) (fun _ _ q => q.unwish) fun _ _ z => False.elim z
end
section
variable {X : Cx} {st : Stmt} {rest : List Stmt} {t u : TS} {e : Expr} {te : TE} {pos : Pos}
noncomputable def tNext : TS := fun D σ H => D.nx σ H
noncomputable def tSeq (t u : TS) : TS := fun D σ H => t { D with nx := u D } σ H
theorem pss_nil : PSs X [] tNext := fun _ _ σ H _ I h => wpAny_execs_nil ⟨σ, H, I, h⟩
theorem pss_cons (h1 : PS X st t) (h2 : PSs X rest u) : PSs X (st :: rest) (tSeq t u) := by
  intro pins s σ H D I h
  refine wpAny_execs_cons (thn (h1 pins s σ H { D with nx := u D } I h) fun f s1 q => ?_)
  cases f with
  | next =>
    obtain ⟨σ', H', I', q⟩ := q
    exact h2 pins s1 σ' H' D I' q
  | ret v => exact q
  | brk => exact q
  | cont => exact q
theorem pss_one (h1 : PS X st t) : PSs X [st] t := by
  intro pins s σ H D I h
  refine wpAny_execs_cons (thn (h1 pins s σ H D I h) fun f s1 q => ?_)
  cases f with
  | next => exact wpAny_execs_nil q
  | ret v => exact q
  | brk => exact q
  | cont => exact q
theorem Inv.quiet {pins : List (Addr × Obj)} {σ : St} {H : Hp} {s : Shared} (I : Inv X pins σ H s) : interactive X.env = false := by simp [interactive, I.ok.kind]
noncomputable def tDrop (te : TE) : TS := fun D σ H => te σ H fun _ H1 => D.nx σ H1
theorem ps_expr (he : PE X e te) (hs : swapsWith e none pos.line X.env = pure false := by rfl) : PS X (.Expr e pos) (tDrop te) := by
  intro pins s σ H D I h
  exact wpAny_Expr_any (thn (he pins s σ H _ I h) fun v s1 ⟨x, H1, I1, r1, q1⟩ => ⟨σ, H1, I1, q1⟩) I.quiet hs
noncomputable def tRet (te : TE) : TS := fun D σ H => te σ H D.rt
theorem ps_ret (he : PE X e te) : PS X (.Return (some e) pos) (tRet te) := by
  intro pins s σ H D I h
  exact wpAny_Return_some (thn (he pins s σ H _ I h) fun v s1 ⟨x, H1, I1, r1, q1⟩ => ⟨x, σ, H1, I1, r1, q1⟩)
noncomputable def tIfS (c : TT) (t u : TS) : TS := fun D σ H => c σ H fun b H1 => if b = true then t D σ H1 else u D σ H1
theorem ps_if {c : Expr} {a b : List Stmt} {tc : TT} (hc : PT X c tc) (ha : PSs X a t) (hb : PSs X b u) : PS X (.If c a b pos) (tIfS tc t u) := by
  intro pins s σ H D I h
  refine wpAny_If (thn (hc pins s σ H _ I h) fun d s1 ⟨H1, I1, q1⟩ => ?_)
  cases d with
  | true => exact ha pins s1 σ H1 D I1 q1
  | false => exact hb pins s1 σ H1 D I1 q1
end
noncomputable abbrev TG := V → St → Hp → (St → Hp → Prop) → Prop
noncomputable abbrev TGs := List V → St → Hp → (St → Hp → Prop) → Prop
noncomputable def PG (X : Cx) (target : Expr) (t : TG) : Prop :=
  ∀ (pins : List (Addr × Obj)) (s : Shared) (σ : St) (H : Hp) (v : V) (u : Value) (Q : St → Hp → Prop), Inv X pins σ H s → RelV v u → t v σ H Q →
    wpAny (model X.prog X.w) X.A (assign target X.env u) (fun _ s' => ∃ σ' H', Inv X pins σ' H' s' ∧ Q σ' H') X.xe s
noncomputable def PGs (X : Cx) (ts : List Expr) (t : TGs) : Prop :=
  ∀ (pins : List (Addr × Obj)) (s : Shared) (σ : St) (H : Hp) (vs : List V) (us : List Value) (Q : St → Hp → Prop), Inv X pins σ H s → Vals vs us → t vs σ H Q →
    wpAny (model X.prog X.w) X.A (assignInOrder ((assignEach ts X.env).map (·.2)) us) (fun _ s' => ∃ σ' H', Inv X pins σ' H' s' ∧ Q σ' H') X.xe s
noncomputable abbrev TSet := V → V → V → Hp → (Hp → Prop) → Prop
noncomputable def PSet (X : Cx) (t : TSet) : Prop :=
  ∀ (pins : List (Addr × Obj)) (s : Shared) (σ : St) (H : Hp) (o i v : V) (ov iv u : Value) (Q : Hp → Prop), Inv X pins σ H s → RelV o ov → RelV i iv → RelV v u → t o i v H Q →
    wpAny (model X.prog X.w) X.A (setItem ov iv u) (fun _ s' => ∃ H', Inv X pins σ H' s' ∧ Q H') X.xe s
noncomputable abbrev TIp := V → V → Hp → VK → Prop
noncomputable def PIp (X : Cx) (op : Operator) (t : TIp) : Prop :=
  ∀ (pins : List (Addr × Obj)) (s : Shared) (σ : St) (H : Hp) (x y : V) (v u : Value) (Q : VK), Inv X pins σ H s → RelV x v → RelV y u → t x y H Q →
    wpAny (model X.prog X.w) X.A (inplaceOp op v u) (EP X pins σ Q) X.xe s
section
variable {X : Cx} {pos : Pos}
noncomputable def gName (i : Nat) : TG := fun v σ H Q => Q (σ.set i (some v)) H
theorem pg_name {i : Nat} {x : Str} (hN : X.N.Nodup) (hi : X.N[i]? = some x) (hx : Loc X.env.scope x) (hf : X.fn x = true ∨ X.env.scope.names.lookup x = some .local := by trivial) : PG X (.Name x pos) (gName i) := by
  intro pins s σ H v u Q I r h
  exact wpAny_assign_Name (store_ok I hN hi hx r (fun s' I' => ⟨_, H, I', h⟩) hf)
noncomputable def gNil : TGs := fun vs σ H Q => vs = [] ∧ Q σ H
noncomputable def gCons (t : TG) (u : TGs) : TGs := fun vs σ H Q => ∃ v r, vs = v :: r ∧ t v σ H fun σ' H' => u r σ' H' Q
theorem pgs_nil : PGs X [] gNil := by
  intro pins s σ H vs us Q I r h
  obtain ⟨e, h⟩ := h
  subst e
  cases r
  exact assignInOrder_nil ⟨σ, H, I, h⟩
theorem pgs_cons {e : Expr} {es : List Expr} {t : TG} {u : TGs} (h1 : PG X e t) (h2 : PGs X es u)
    (hs : (assignEach (e :: es) X.env).map (·.2) = assign e X.env :: (assignEach es X.env).map (·.2) := by rfl) : PGs X (e :: es) (gCons t u) := by
  intro pins s σ H vs us Q I r h
  obtain ⟨v, vr, e1, h⟩ := h
  subst e1
  cases r with
  | cons r rr =>
    rw [hs]
    refine assignInOrder_cons (thn (h1 pins s σ H _ _ _ I r h) fun _ s1 ⟨σ1, H1, I1, q1⟩ => ?_)
    exact h2 pins s1 σ1 H1 _ _ Q I1 rr q1
noncomputable def gTup (K : PySem.W.Frag) (n : Nat) (t : TGs) : TG := fun v σ H Q => ∃ a xs, v = .ref a ∧ SqT K H a xs ∧ xs.length = n ∧ t xs σ H Q
theorem pg_tup {es : List Expr} {k : Nat} {t : TGs} {n : Nat} (hc : X.calm = true) (h : PGs X es t)
    (hn : (assignEach es X.env).length = n := by rfl) (hst : (assignEach es X.env).findIdx? (·.1) = none := by rfl) : PG X (.Tuple es k pos) (gTup X.K n t) := by
  intro pins s σ H v u Q I r hw
  obtain ⟨a, xs, e1, hq, hl, hw⟩ := hw
  subst e1
  cases r
  obtain ⟨its, rv, ht, hz⟩ := I.tuple hq
  refine assign_Tuple_tuple (I.ok.hd hc) ht (by simp [hn, ← hl, rv.length]) hst fun h' hx => ?_
  have I1 : Inv X pins σ H { s with heap := h' } := I.kept (t' := s.toks) fun b o e => hx b o (Nat.ne_of_lt (Heap.lt_size e)) e
  exact h pins _ σ H xs _ Q I1 (by simpa using rv) hw
noncomputable def tAsg (te : TE) (g : TG) : TS := fun D σ H => te σ H fun x H1 => g x σ H1 D.nx
theorem ps_set {i : Nat} {x : Str} {e : Expr} {te : TE} {pos' : Pos} (hN : X.N.Nodup) (hi : X.N[i]? = some x) (hx : Loc X.env.scope x) (he : PE X e te) (hs : swapsWith e (some (.Name x pos')) pos.line X.env = pure false := by rfl) (hf : X.fn x = true ∨ X.env.scope.names.lookup x = some .local := by trivial) :
    PS X (.Assign [.Name x pos'] e pos) (tAsg te (gName i)) := by
  intro pins s σ H D I h
  refine wpAny_Assign_Name (thn (he pins s σ H _ I h) fun v s1 ⟨y, H1, I1, r1, q1⟩ => ?_) hs
  exact store_ok I1 hN hi hx r1 (fun s2 I2 => ⟨_, H1, I2, q1⟩) hf
noncomputable def tAugS (to ti te : TE) (tget : V → V → Hp → VK → Prop) (tip : TIp) (tset : TSet) : TS := fun D σ H => to σ H fun o H1 => ti σ H1 fun i H2 => tget o i H2 fun x H3 => te σ H3 fun y H4 => tip x y H4 fun z H5 => tset o i z H5 fun H6 => D.nx σ H6
noncomputable def PGet (X : Cx) (t : V → V → Hp → VK → Prop) : Prop :=
  ∀ (pins : List (Addr × Obj)) (s : Shared) (σ : St) (H : Hp) (o i : V) (ov iv : Value) (Q : VK), Inv X pins σ H s → RelV o ov → RelV i iv → t o i H Q →
    wpAny (model X.prog X.w) X.A (getItem ov iv) (EP X pins σ Q) X.xe s
theorem ps_augS {o i e : Expr} {to ti te : TE} {tget : V → V → Hp → VK → Prop} {tip : TIp} {tset : TSet} {op : Operator} {tpos : Pos} (ho : PE X o to) (hi : PE X i ti) (hg : PGet X tget) (he : PE X e te) (hp : PIp X op tip) (hs : PSet X tset)
    (ha : ∀ ov iv new, augStore i ov iv new = (do holding [new, ov, iv] (setItem ov iv new); release [new, ov, iv] []; pure .next) := by intros; rfl) : PS X (.AugAssign (.Subscript o i tpos) op e pos) (tAugS to ti te tget tip tset) := by
  intro pins s σ H D I h
  refine wpAny_AugAssign_SubscriptAny (thn (ho pins s σ H _ I h) fun ov s1 ⟨x1, H1, I1, r1, q1⟩ => ?_) ha
  refine thn (hi pins s1 σ H1 _ I1 q1) fun iv s2 ⟨x2, H2, I2, r2, q2⟩ => ?_
  refine thn (hg pins s2 σ H2 x1 x2 ov iv _ I2 r1 r2 q2) fun old s3 ⟨x3, H3, I3, r3, q3⟩ => ?_
  refine thn (he pins s3 σ H3 _ I3 q3) fun v s4 ⟨x4, H4, I4, r4, q4⟩ => ?_
  refine thn (hp pins s4 σ H4 x3 x4 old v _ I4 r3 r4 q4) fun new s5 ⟨x5, H5, I5, r5, q5⟩ => ?_
  exact thn (hs pins s5 σ H5 x1 x2 x5 ov iv new _ I5 r1 r2 r5 q5) fun _ s6 ⟨H6, I6, q6⟩ => ⟨σ, H6, I6, q6⟩
end
section
variable {X : Cx} {pos : Pos}
end
structure It where
  go : Nat → Hp → Prop
  yld : Nat → Hp → V → Hp → Prop
  stop : Nat → Hp → Prop
noncomputable def FpOk (X : Cx) (pins : List (Addr × Obj)) (H : Hp) (b : Addr) : Prop :=
  H b = none ∧ b ≠ X.env.locals ∧ b ∉ X.fs ∧ (b ∈ X.ex ∨ X.s₀.heap.objs.size ≤ b) ∧ (∀ x c, X.env.cells.lookup x = some c → c ≠ b) ∧ ∀ p ∈ X.pn ++ pins, p.1 ≠ b
theorem Inv.fpOk {X : Cx} {pins : List (Addr × Obj)} {σ : St} {H H' : Hp} {s : Shared} {b : Addr} (I : Inv X pins σ H s) (hb : s.heap.objs.size ≤ b) (hn : H' b = none) : FpOk X pins H' b := by
  refine ⟨hn, Nat.ne_of_gt (Nat.lt_of_lt_of_le I.lt hb), I.nofs hb, .inr (Nat.le_trans I.sz hb), fun x c e z => ?_, fun p hp z => ?_⟩
  · obtain ⟨v, q⟩ := I.cell x c e
    exact absurd (Nat.lt_of_lt_of_le q.lt (by rw [z]; exact hb)) (Nat.lt_irrefl _)
  · exact absurd (Nat.lt_of_lt_of_le (Heap.lt_size (I.pin p hp).1) (by rw [z]; exact hb)) (Nat.lt_irrefl _)
structure Turn (P : Program) (w : World) (K : PySem.W.Frag) (tg : Expr) (J : It) (fp : List Addr) (it : Addr) (tn : Nat → Heap → Prop) : Prop where
  mem : it ∈ fp
  obj : ∀ i h, tn i h → ∀ b ∈ fp, ∃ o, h.get? b = some o ∧ ∀ v, o.data ≠ .cell v
  keep : ∀ i h h', tn i h → (∀ b ∈ fp, ∀ o, h.get? b = some o → h'.get? b = some o) → tn i h'
  item : ∀ (X : Cx), X.prog = P → X.w = w → X.K = K → X.calm = true → ∀ (i : Nat) (pins : List (Addr × Obj)) (s : Shared) (σ : St) (H : Hp) (E : Value → Shared → Prop), Inv X pins σ H s → (∀ b ∈ fp, FpOk X pins H b) → tn i s.heap → J.go i H →
    wpAny (model P w) X.A (pyNext (.ref it)) (fun r s1 => ∃ u, r = some u ∧
      wpAny (model P w) X.A (letOwnedTupleGo tg (.ref it) u) (fun _ s2 => ∃ x H', Inv X pins σ H' s2 ∧ RelV x u ∧ J.yld i H x H' ∧ tn (i + 1) s2.heap ∧ ∀ b ∈ fp, H' b = none) E s1) E s
  done : ∀ (X : Cx), X.prog = P → X.w = w → X.K = K → X.calm = true → ∀ (i : Nat) (pins : List (Addr × Obj)) (s : Shared) (σ : St) (H : Hp) (E : Value → Shared → Prop), Inv X pins σ H s → (∀ b ∈ fp, FpOk X pins H b) → tn i s.heap → J.stop i H →
    wpAny (model P w) X.A (pyNext (.ref it)) (fun r s1 => r = none ∧ Inv X pins σ H s1) E s
  self : ∀ (A : Around) (i : Nat) (s : Shared) (Q : Value → Shared → Prop) (E : Value → Shared → Prop), tn i s.heap → Q (.ref it) s → wpAny (model P w) A (pyIter (.ref it)) Q E s
noncomputable abbrev TI := St → Hp → (It → Hp → Prop) → Prop
noncomputable def PIE (X : Cx) (pins : List (Addr × Obj)) (σ : St) (tg : Expr) (R : It → Hp → Prop) (itv : Value) (s2 : Shared) : Prop :=
  ∃ (it : Addr) (fp : List Addr) (tn : Nat → Heap → Prop) (J : It) (H' : Hp), itv = .ref it ∧ Inv X pins σ H' s2 ∧ Turn X.prog X.w X.K tg J fp it tn ∧ tn 0 s2.heap ∧ (∀ b ∈ fp, FpOk X pins H' b) ∧ R J H'
noncomputable def PI (X : Cx) (tg iter : Expr) (wi : TI) : Prop :=
  ∀ (pins : List (Addr × Obj)) (s : Shared) (σ : St) (H : Hp) (R : It → Hp → Prop), Inv X pins σ H s → wi σ H R →
    wpAny (model X.prog X.w) X.A (eval iter X.env) (fun v s1 => wpAny (model X.prog X.w) X.A (pyIter v) (PIE X pins σ tg R) X.xe s1) X.xe s
theorem go_of {M : Model} {A : Around} {E : Value → Shared → Prop} {s : Shared} {tg : Expr} {it : Addr} {u : Value} {o : Obj} {n : String} {vs : Array Value} {Q : Unit → Shared → Prop} (ho : s.heap.get? it = some o) (hc : o.cls = .type n) (hd : o.data = .fields vs)
    (hn : ["enumerate", "zip", "dict_itemiterator", "dict_reverseitemiterator", "odict_iterator", "itertools.zip_longest", "itertools.pairwise"].contains n = false) (hQ : Q () s) : wpAny M A (letOwnedTupleGo tg (.ref it) u) Q E s := by
  unfold letOwnedTupleGo
  cases tg <;> first
    | exact wpAny_pure hQ
    | (cases u <;> first
        | exact wpAny_pure hQ
        | (refine wpAny_bind (wpAny_load ho ?_)
           rw [hc, hd]
           show wpAny M A (if (["enumerate", "zip", "dict_itemiterator", "dict_reverseitemiterator", "odict_iterator", "itertools.zip_longest", "itertools.pairwise"].contains n && vs[0]? == some (rawInt _)) = true then _ else _) Q E s
           rw [if_neg (by intro h; rw [hn, Bool.false_and] at h; cases h)]
           exact wpAny_pure hQ))
noncomputable def Itl (K : PySem.W.Frag) (a : Addr) : It :=
  ⟨fun i H => ∃ xs x, SqL K H a xs ∧ xs[i]? = some x, fun i H x H' => H' = H ∧ ∀ xs, SqL K H a xs → xs[i]? = some x, fun i H => ∃ xs, SqL K H a xs ∧ xs.length ≤ i⟩
noncomputable def Itt (K : PySem.W.Frag) (a : Addr) : It :=
  ⟨fun i H => ∃ xs x, SqT K H a xs ∧ xs[i]? = some x, fun i H x H' => H' = H ∧ ∀ xs, SqT K H a xs → xs[i]? = some x, fun i H => ∃ xs, SqT K H a xs ∧ xs.length ≤ i⟩
noncomputable def Itr (lo : Int) (n : Nat) : It := ⟨fun i _ => i < n, fun i H x H' => H' = H ∧ x = .int (lo + i), fun i _ => n ≤ i⟩
theorem turn_list {P : Program} {w : World} {K : PySem.W.Frag} {tg : Expr} (a it : Addr) : Turn P w K tg (Itl K a) [it] it (fun i h => h.IsListIter it a i) where
  mem := by simp
  obj := fun i h st b hb => by
    have e : b = it := by simpa using hb
    subst e
    obtain ⟨o, e, c, d⟩ := st
    exact ⟨o, e, fun v z => by rw [d] at z; cases z⟩
  keep := fun i h h' st k => st.at fun o e => k it (by simp) o e
  item := by
    intro X hP hw hK hc i pins s σ H E I hf st hg
    subst hP hw hK
    obtain ⟨xs, x, hq, hx⟩ := hg
    obtain ⟨its, rv, p, hz⟩ := I.list hq
    obtain ⟨u, hu, ru⟩ := rv.get hx
    obtain ⟨f0, f1, f2, f3, f4, f5⟩ := hf it (by simp)
    refine wpAny_pyNext_list_item st p.isList (x := u) (by simpa using hu) fun h' st' sb => ?_
    have I1 : Inv X pins σ H { s with heap := h' } := I.turned (t' := s.toks) (fun b o hb e => (sb.2 b hb).trans e) f0 f1 f3 f4 f5
    obtain ⟨o, e, c, d⟩ := id st'
    exact ⟨u, rfl, go_of (s := { s with heap := h' }) e c d (by decide) ⟨x, H, I1, ru, ⟨rfl, fun ys hy => by rw [I.list_inj hy hq]; exact hx⟩, st', fun b hb => (hf b hb).1⟩⟩
  done := by
    intro X hP hw hK hc i pins s σ H E I hf st hg
    subst hP hw hK
    obtain ⟨xs, hq, hx⟩ := hg
    obtain ⟨its, rv, p, hz⟩ := I.list hq
    obtain ⟨f0, f1, f2, f3, f4, f5⟩ := hf it (by simp)
    have hl := rv.length
    exact wpAny_pyNext_list_end (I.ok.hd hc) st p.isList (by simp; omega) fun h' eb => ⟨rfl, I.turned (t' := s.toks) (fun b o hb e => eb b o hb e) f0 f1 f3 f4 f5⟩
  self := fun _ _ _ _ _ st h => wpAny_pyIter_listiter st h
theorem turn_tuple {P : Program} {w : World} {K : PySem.W.Frag} {tg : Expr} (a it : Addr) : Turn P w K tg (Itt K a) [it] it (fun i h => h.IsTupleIter it a i) where
  mem := by simp
  obj := fun i h st b hb => by
    have e : b = it := by simpa using hb
    subst e
    obtain ⟨o, e, c, d⟩ := st
    exact ⟨o, e, fun v z => by rw [d] at z; cases z⟩
  keep := fun i h h' st k => st.at fun o e => k it (by simp) o e
  item := by
    intro X hP hw hK hc i pins s σ H E I hf st hg
    subst hP hw hK
    obtain ⟨xs, x, hq, hx⟩ := hg
    obtain ⟨its, rv, p, hz⟩ := I.tuple hq
    obtain ⟨u, hu, ru⟩ := rv.get hx
    obtain ⟨f0, f1, f2, f3, f4, f5⟩ := hf it (by simp)
    refine wpAny_pyNext_tuple_item st (show s.heap.IsTuple a its.toArray from p) (x := u) (by simpa using hu) fun h' st' sb => ?_
    have I1 : Inv X pins σ H { s with heap := h' } := I.turned (t' := s.toks) (fun b o hb e => (sb.2 b hb).trans e) f0 f1 f3 f4 f5
    obtain ⟨o, e, c, d⟩ := id st'
    exact ⟨u, rfl, go_of (s := { s with heap := h' }) e c d (by decide) ⟨x, H, I1, ru, ⟨rfl, fun ys hy => by rw [I.tuple_inj hy hq]; exact hx⟩, st', fun b hb => (hf b hb).1⟩⟩
  done := by
    intro X hP hw hK hc i pins s σ H E I hf st hg
    subst hP hw hK
    obtain ⟨xs, hq, hx⟩ := hg
    obtain ⟨its, rv, p, hz⟩ := I.tuple hq
    obtain ⟨f0, f1, f2, f3, f4, f5⟩ := hf it (by simp)
    have hl := rv.length
    exact wpAny_pyNext_tuple_end (I.ok.hd hc) st (show s.heap.IsTuple a its.toArray from p) (by simp; omega) fun h' eb => ⟨rfl, I.turned (t' := s.toks) (fun b o hb e => eb b o hb e) f0 f1 f3 f4 f5⟩
  self := fun _ _ _ _ _ st h => wpAny_pyIter_tupleiter st h
theorem turn_range {P : Program} {w : World} {K : PySem.W.Frag} {tg : Expr} (it : Addr) (lo : Int) (n : Nat) : Turn P w K tg (Itr lo n) [it] it (fun i h => IsRangeIter h it (lo + (i : Nat) * 1) ((n : Int) - (i : Nat)) 1) where
  mem := by simp
  obj := fun i h st b hb => by
    have e : b = it := by simpa using hb
    subst e
    exact ⟨_, st, fun v z => by
      have z' : Data.fields _ = Data.cell v := z
      cases z'⟩
  keep := fun i h h' st k => k it (by simp) _ st
  item := by
    intro X hP hw hK hc i pins s σ H E I hf st hg
    subst hP hw hK
    obtain ⟨f0, f1, f2, f3, f4, f5⟩ := hf it (by simp)
    have W := Walks.range (prog := X.prog) (w := X.w) (I.ok.hd hc) it lo 1 n
    refine W.item i s _ _ hg st fun v h' tk hv st' kk => ?_
    obtain ⟨t, rfl⟩ := hv
    have I1 : Inv X pins σ H { s with heap := h', toks := tk } := I.turned (fun b o hb e => kk b o (by simpa using hb) e) f0 f1 f3 f4 f5
    refine ⟨_, rfl, go_of (s := { s with heap := h', toks := tk }) (n := "range_iterator") st' rfl rfl (by decide) ⟨.int (lo + i), H, I1, ⟨t, ?_⟩, ⟨rfl, rfl⟩, st', fun b hb => (hf b hb).1⟩⟩
    rw [Int.mul_one]
  done := by
    intro X hP hw hK hc i pins s σ H E I hf st hg
    subst hP hw hK
    obtain ⟨f0, f1, f2, f3, f4, f5⟩ := hf it (by simp)
    exact wpAny_pyNext_range_end (I.ok.hd hc) st (by have : n ≤ i := hg; omega) fun h' eb => ⟨rfl, I.turned (t' := s.toks) (fun b o hb e => eb b o hb e) f0 f1 f3 f4 f5⟩
  self := fun _ _ _ _ _ st h => wpAny_pyIter_rangeiter st h
end L2
namespace L2
open PySem PySem.Spec PyProof.Rows
section
variable {X : Cx} {tg : Expr}
theorem range_it {pins : List (Addr × Obj)} {σ : St} {H : Hp} {s : Shared} {R : It → Hp → Prop} {E : Value → Shared → Prop} {lo hi : Int} {t u v : Tok} {tk : Nat} (I : Inv X pins σ H s) (h1 : -(2 ^ 62) ≤ lo) (h2 : lo < 2 ^ 62) (h3 : -(2 ^ 62) ≤ hi) (h4 : hi < 2 ^ 62)
    (q : R (Itr lo (hi - lo).toNat) H) : wpAny (model X.prog X.w) X.A (pyIter (.ref s.heap.objs.size)) (PIE X pins σ tg R) E { s with heap := s.heap.push { cls := .type "range", data := .fields #[.int lo t, .int hi u, .int 1 v] }, toks := tk } := by
  refine wpAny_pyIter_range (IsRange.new ..) (small_one h1 h2 h3 h4) ?_
  have I1 : Inv X pins σ H { s with heap := s.heap.push { cls := .type "range", data := .fields #[.int lo t, .int hi u, .int 1 v] }, toks := tk } := I.kept fun b o e => Heap.get?_push_of_some _ e
  refine ⟨(s.heap.push { cls := .type "range", data := .fields #[.int lo t, .int hi u, .int 1 v] }).objs.size, [(s.heap.push { cls := .type "range", data := .fields #[.int lo t, .int hi u, .int 1 v] }).objs.size], _, _, H, rfl,
    I1.kept (t' := tk) fun b o e => Heap.get?_push_of_some _ e, turn_range _ lo (hi - lo).toNat, ?_, fun b hb => ?_, q⟩
  · have e1 : lo + ((0 : Nat) : Int) * 1 = lo := by simp
    have e2 : (((hi - lo).toNat : Nat) : Int) - ((0 : Nat) : Int) = Builtin.Range.rangeSize lo hi 1 := by rw [rangeSize_one]; split <;> omega
    show IsRangeIter _ _ (lo + ((0 : Nat) : Int) * 1) ((((hi - lo).toNat : Nat) : Int) - ((0 : Nat) : Int)) 1
    rw [e1, e2]
    exact Heap.get?_push_size _ rfl
  · have e : b = (s.heap.push { cls := .type "range", data := .fields #[.int lo t, .int hi u, .int 1 v] }).objs.size := by simpa using hb
    subst e
    exact I1.fpOk (Nat.le_refl _) (I1.hok.fresh (Nat.le_refl _))
noncomputable def iRng1 (ta : TA) : TI := fun σ H R => ta σ H fun vs H1 => ∃ j : Int, vs = [.int j] ∧ -(2 ^ 62) ≤ j ∧ j < 2 ^ 62 ∧ R (Itr 0 j.toNat) H1
theorem pi_range1 {a : Expr} {ta : TA} {p pos : Pos} (hg : Gl X "range") (hm : X.mg "range" = none) (ha : PA X [a] ta) (hs : starEach [a] X.env = [(false, eval a X.env)] := by rfl) : PI X tg (.Call (.Name "range" p) [a] [] pos) (iRng1 ta) := by
  intro pins s σ H R I h
  refine Call_ (ld_blt I hg hm boot_range (PyProof.Rows.callWith_type1 (thn (ha pos pins s σ H _ I h) fun us s1 ⟨vs, H1, I1, r1, q1⟩ => ?_) hs rfl))
  obtain ⟨j, e, q1, q2, q⟩ := q1
  subst e
  cases r1 with
  | cons r rr =>
    cases rr
    obtain ⟨t, rfl⟩ := r
    exact call_range_1 (range_it I1 (by omega) (by omega) q1 q2 (by simpa using q))
noncomputable def tFor (wi : TI) (g : TG) (tb : TS) : TS := fun D σ H => wi σ H fun J H1 => ∃ W : Nat → Nat → St → Hp → Prop, (∃ m, W 0 m σ H1) ∧ ∀ i m σ H, W i m σ H →
  (J.stop i H ∧ D.nx σ H) ∨ (J.go i H ∧ ∃ N : St → Hp → Prop, (∀ σ' H', N σ' H' → ∃ m', m' < m ∧ W (i + 1) m' σ' H') ∧ ∀ x H', J.yld i H x H' → g x σ H' fun σ2 H2 => tb { D with nx := N, ct := N, bk := D.nx } σ2 H2)
noncomputable def pinsAt (fp : List Addr) (h : Heap) : List (Addr × Obj) := fp.filterMap fun b => (h.get? b).map fun o => (b, o)
theorem mem_pinsAt {fp : List Addr} {h : Heap} {b : Addr} {o : Obj} (hb : b ∈ fp) (e : h.get? b = some o) : (b, o) ∈ pinsAt fp h := List.mem_filterMap.mpr ⟨b, hb, by rw [e]; rfl⟩
theorem of_pinsAt {fp : List Addr} {h : Heap} {p : Addr × Obj} (hp : p ∈ pinsAt fp h) : p.1 ∈ fp ∧ h.get? p.1 = some p.2 := by
  obtain ⟨b, hb, e⟩ := List.mem_filterMap.mp hp
  cases q : h.get? b with
  | none => rw [q] at e; cases e
  | some o =>
    rw [q] at e
    have e' : (b, o) = p := Option.some.inj e
    subst e'
    exact ⟨hb, q⟩
theorem Inv.pinned {pins : List (Addr × Obj)} {σ : St} {H : Hp} {s : Shared} {fp : List Addr} (I : Inv X pins σ H s) (hf : ∀ b ∈ fp, FpOk X pins H b) (ho : ∀ b ∈ fp, ∃ o, s.heap.get? b = some o ∧ ∀ v, o.data ≠ .cell v) : Inv X (pins ++ pinsAt fp s.heap) σ H s :=
  I.pins_of fun p hp => (List.mem_append.mp hp).elim (fun z => I.pin p (List.mem_append_right _ z)) fun z => by
    obtain ⟨hb, e⟩ := of_pinsAt z
    obtain ⟨f0, f1, f2, _⟩ := hf p.1 hb
    obtain ⟨o, e', d⟩ := ho p.1 hb
    rw [e] at e'; cases e'
    exact ⟨e, f0, f1, f2, d⟩
theorem Inv.unpinned {pins pl : List (Addr × Obj)} {σ : St} {H : Hp} {s : Shared} (I : Inv X (pins ++ pl) σ H s) : Inv X pins σ H s := I.pins_of fun p hp => I.pin p (List.mem_append_right _ (List.mem_append_left _ hp))
theorem ps_for {iter : Expr} {body : List Stmt} {wi : TI} {g : TG} {tb : TS} {pos : Pos} (hp : PassesOwn (model X.prog X.w) X.A X.env X.xe) (hc : X.calm = true) (hi : PI X tg iter wi) (hg : PG X tg g) (hb : PSs X body tb)
    (hs : ∀ x, foldedSetIterable iter X.env x = pure x := by intro _; rfl) : PS X (.For tg iter body [] pos) (tFor wi g tb) := by
  intro pins s σ H D I h
  refine wpAny_For (thn (hi pins s σ H _ I h) fun v s1 h1 => thn h1 fun itv s2 h2 => ?_) hs
  obtain ⟨it, fp, tn, J, H2, e, I2, T, st2, f2, W, ⟨m0, w0⟩, turn⟩ := h2
  subst e
  have stat : ∀ {H' : Hp}, (∀ b ∈ fp, H' b = none) → ∀ b ∈ fp, FpOk X pins H' b := fun hn b hb => ⟨hn b hb, (f2 b hb).2⟩
  refine codeAny_forLoop_any (fun n s' => ∃ i σ' H', Inv X pins σ' H' s' ∧ tn i s'.heap ∧ (∀ b ∈ fp, H' b = none) ∧ W i n σ' H') ?_ m0 ⟨0, σ, H2, I2, st2, fun b hb => (f2 b hb).1, w0⟩
  rintro n s3 ⟨i, σ3, H3, I3, st3, fr3, w3⟩
  rcases turn i n σ3 H3 w3 with ⟨stop, qn⟩ | ⟨go, N, hN, step⟩
  · refine wpAny_passesOwn hp (thn (T.done X rfl rfl rfl hc i pins s3 σ3 H3 X.xe I3 (stat fr3) st3 stop) fun r s4 ⟨hr, I4⟩ => ?_)
    subst hr
    exact wpAny_execs_nil ⟨σ3, H3, I4, qn⟩
  · refine wpAny_passesOwn hp (thn (T.item X rfl rfl rfl hc i pins s3 σ3 H3 X.xe I3 (stat fr3) st3 go) fun r s4 ⟨u, hr, h4⟩ => ?_)
    subst hr
    refine wpAny_passesOwn hp (thn h4 fun _ s5 ⟨x, H5, I5, r5, y5, st5, fr5⟩ => ?_)
    have I5' := I5.pinned (stat fr5) (T.obj _ _ st5)
    refine wpAny_passesOwn hp (thn (hg _ s5 σ3 H5 x u _ I5' r5 (step x H5 y5)) fun _ s6 ⟨σ6, H6, I6, q6⟩ => ?_)
    refine wpAny_passesOwn hp (thn (hb _ s6 σ6 H6 _ I6 q6) fun f s7 q7 => ?_)
    have again : ∀ {σ7 : St} {H7 : Hp}, Inv X (pins ++ pinsAt fp s5.heap) σ7 H7 s7 → N σ7 H7 → ∃ m, m < n ∧ ∃ i σ' H', Inv X pins σ' H' s7 ∧ tn i s7.heap ∧ (∀ b ∈ fp, H' b = none) ∧ W i m σ' H' := fun {σ7 H7} I7 n7 => by
      obtain ⟨m', hm, w7⟩ := hN σ7 H7 n7
      refine ⟨m', hm, i + 1, σ7, H7, I7.unpinned, T.keep _ _ _ st5 fun b hb o e => (I7.pin (b, o) (List.mem_append_right _ (List.mem_append_right _ (mem_pinsAt hb e)))).1, fun b hb => ?_, w7⟩
      obtain ⟨o, e, d⟩ := T.obj _ _ st5 b hb
      exact (I7.pin (b, o) (List.mem_append_right _ (List.mem_append_right _ (mem_pinsAt hb e)))).2.1
    cases f with
    | next => obtain ⟨σ7, H7, I7, n7⟩ := q7; exact again I7 n7
    | cont => obtain ⟨σ7, H7, I7, n7⟩ := q7; exact again I7 n7
    | brk => obtain ⟨σ7, H7, I7, q7⟩ := q7; exact ⟨σ7, H7, I7.unpinned, q7⟩
    | ret v => obtain ⟨x7, σ7, H7, I7, r7, q7⟩ := q7; exact ⟨x7, σ7, H7, I7.unpinned, r7, q7⟩
end
end L2
namespace L2
open PySem PySem.Spec PyProof.Rows
noncomputable abbrev R2 := V → V → Hp → VK → Prop
noncomputable def OpR (X : Cx) (f : Value → Value → Sem Value) (r : R2) : Prop :=
  ∀ (pins : List (Addr × Obj)) (s : Shared) (σ : St) (H : Hp) (x y : V) (v u : Value) (Q : VK), Inv X pins σ H s → RelV x v → RelV y u → r x y H Q →
    wpAny (model X.prog X.w) X.A (f v u) (EP X pins σ Q) X.xe s
noncomputable def UnR (X : Cx) (f : Value → Sem Value) (r : V → Hp → VK → Prop) : Prop :=
  ∀ (pins : List (Addr × Obj)) (s : Shared) (σ : St) (H : Hp) (x : V) (v : Value) (Q : VK), Inv X pins σ H s → RelV x v → r x H Q →
    wpAny (model X.prog X.w) X.A (f v) (EP X pins σ Q) X.xe s
noncomputable def CallR (X : Cx) (f : Value) (r : List V → Hp → VK → Prop) : Prop :=
  ∀ (pins : List (Addr × Obj)) (s : Shared) (σ : St) (H : Hp) (xs : List V) (us : List Value) (Q : VK), Inv X pins σ H s → Vals xs us → r xs H Q →
    wpAny (model X.prog X.w) X.A (call f us) (EP X pins σ Q) X.xe s
noncomputable def TruR (X : Cx) (r : V → Hp → (Bool → Hp → Prop) → Prop) : Prop :=
  ∀ (pins : List (Addr × Obj)) (s : Shared) (σ : St) (H : Hp) (x : V) (v : Value) (Q : Bool → Hp → Prop), Inv X pins σ H s → RelV x v → r x H Q →
    wpAny (model X.prog X.w) X.A (truthy v) (TP X pins σ Q) X.xe s
noncomputable def tOp (r : R2) (ta tb : TE) : TE := fun σ H Q => ta σ H fun x H1 => tb σ H1 fun y H2 => r x y H2 Q
noncomputable def tUn (r : V → Hp → VK → Prop) (ta : TE) : TE := fun σ H Q => ta σ H fun x H1 => r x H1 Q
noncomputable def rI (C : Int → Int → Prop) (g : Int → Int → V) : R2 := fun x y H Q => ∃ i j, x = .int i ∧ y = .int j ∧ C i j ∧ Q (g i j) H
noncomputable def rI0 (g : Int → Int → V) : R2 := fun x y H Q => ∃ i j, x = .int i ∧ y = .int j ∧ Q (g i j) H
noncomputable def rU (g : Int → V) : V → Hp → VK → Prop := fun x H Q => ∃ i, x = .int i ∧ Q (g i) H
section
variable {X : Cx} {a b c : Expr} {ta tb tc : TE} {pos : Pos}
theorem binT (ha : PE X a ta) (hb : PE X b tb) {pins : List (Addr × Obj)} {s : Shared} {σ : St} {H : Hp} {R : V → V → Hp → Prop} (I : Inv X pins σ H s)
    (h : ta σ H fun x H1 => tb σ H1 fun y H2 => R x y H2) {Q : Value → Shared → Prop} {f : Value → Value → Sem Value}
    (hf : ∀ v u s2 x y H2, Inv X pins σ H2 s2 → RelV x v → RelV y u → R x y H2 → wpAny (model X.prog X.w) X.A (f v u) Q X.xe s2) :
    wpAny (model X.prog X.w) X.A (eval a X.env) (fun v s₁ => wpAny (model X.prog X.w) X.A (eval b X.env) (fun u s₂ => wpAny (model X.prog X.w) X.A (f v u) Q X.xe s₂) X.xe s₁) X.xe s := by
  refine thn (ha pins s σ H _ I h) fun v s1 ⟨x, H1, I1, r1, q1⟩ => ?_
  refine thn (hb pins s1 σ H1 _ I1 q1) fun u s2 ⟨y, H2, I2, r2, q2⟩ => ?_
  exact hf v u s2 x y H2 I2 r1 r2 q2
theorem pe_op {op : Operator} {r : R2} (ho : OpR X (binaryOp op) r) (ha : PE X a ta) (hb : PE X b tb) : PE X (.BinOp a op b pos) (tOp r ta tb) := by
  intro pins s σ H Q I h
  exact wpAny_BinOp (binT ha hb I h fun v u s2 x y H2 I2 rx ry q => ho pins s2 σ H2 x y v u Q I2 rx ry q)
theorem pe_un {op : UnaryOp} {r : V → Hp → VK → Prop} (ho : UnR X (unaryOp op) r) (ha : PE X a ta) : PE X (.UnaryOp op a pos) (tUn r ta) := by
  intro pins s σ H Q I h
  exact UnaryOp_ (thn (ha pins s σ H _ I h) fun v s1 ⟨x, H1, I1, r1, q1⟩ => ho pins s1 σ H1 x v Q I1 r1 q1)
theorem opI {f : Value → Value → Sem Value} {C : Int → Int → Prop} {g : Int → Int → Int}
    (rule : ∀ (i j : Int) (t u : Tok) (s : Shared) (Q : Value → Shared → Prop) (E : Value → Shared → Prop), C i j → Q (.int (g i j) s.toks) { s with toks := s.toks + 1 } → wpAny (model X.prog X.w) X.A (f (.int i t) (.int j u)) Q E s) :
    OpR X f (rI C fun i j => .int (g i j)) := by
  intro pins s σ H x y v u Q I rx ry h
  obtain ⟨i, j, rfl, rfl, hc, q⟩ := h
  obtain ⟨t, rfl⟩ := rx
  obtain ⟨t', rfl⟩ := ry
  exact rule i j t t' s _ _ hc ⟨.int (g i j), H, I.tok _, ⟨_, rfl⟩, q⟩
theorem opI0 {f : Value → Value → Sem Value} {g : Int → Int → Int}
    (rule : ∀ (i j : Int) (t u : Tok) (s : Shared) (Q : Value → Shared → Prop) (E : Value → Shared → Prop), Q (.int (g i j) s.toks) { s with toks := s.toks + 1 } → wpAny (model X.prog X.w) X.A (f (.int i t) (.int j u)) Q E s) :
    OpR X f (rI0 fun i j => .int (g i j)) := by
  intro pins s σ H x y v u Q I rx ry h
  obtain ⟨i, j, rfl, rfl, q⟩ := h
  obtain ⟨t, rfl⟩ := rx
  obtain ⟨t', rfl⟩ := ry
  exact rule i j t t' s _ _ ⟨.int (g i j), H, I.tok _, ⟨_, rfl⟩, q⟩
theorem opB0 {f : Value → Value → Sem Value} {g : Int → Int → Bool}
    (rule : ∀ (i j : Int) (t u : Tok) (s : Shared) (Q : Value → Shared → Prop) (E : Value → Shared → Prop), Q (.bool (g i j)) s → wpAny (model X.prog X.w) X.A (f (.int i t) (.int j u)) Q E s) :
    OpR X f (rI0 fun i j => .bl (g i j)) := by
  intro pins s σ H x y v u Q I rx ry h
  obtain ⟨i, j, rfl, rfl, q⟩ := h
  obtain ⟨t, rfl⟩ := rx
  obtain ⟨t', rfl⟩ := ry
  exact rule i j t t' s _ _ ⟨.bl (g i j), H, I, rfl, q⟩
noncomputable def CPow (i j : Int) : Prop := 0 ≤ j ∧ j ≤ 1000000 ∧ i.natAbs < 2 ^ 64
theorem two_pow_nn (k : Nat) : (0 : Int) ≤ 2 ^ k := by
  rw [two_pow_cast]
  exact Int.natCast_nonneg _
theorem op_add : OpR X (binaryOp .Add) (rI0 fun i j => .int (i + j)) := opI0 fun _ _ _ _ _ _ _ q => add_int q
theorem op_sub : OpR X (binaryOp .Sub) (rI0 fun i j => .int (i - j)) := opI0 fun _ _ _ _ _ _ _ q => sub_int q
theorem op_mod : OpR X (binaryOp .Mod) (rI (fun _ j => 0 < j) fun i j => .int (i % j)) := opI fun i j _ _ _ _ _ hc q => by
  have h1 : (0 : Int) < j := hc
  exact mod_int' (by omega) (by rw [Int.fmod_eq_emod_of_nonneg i (by omega)]; exact q)
theorem op_pow : OpR X (binaryOp .Pow) (rI CPow fun i j => .int (i ^ j.toNat)) := opI fun _ _ _ _ _ _ _ hc q => pow_int_small hc.1 hc.2.1 hc.2.2 q
theorem op_shl : OpR X (binaryOp .LShift) (rI CPow fun i j => .int (i * 2 ^ j.toNat)) := opI fun _ _ _ _ _ _ _ hc q => lshift_int_small hc.1 hc.2.1 hc.2.2 q
theorem op_shr : OpR X (binaryOp .RShift) (rI (fun _ j => 0 ≤ j) fun i j => .int (i / 2 ^ j.toNat)) := opI fun i j _ _ _ _ _ hc q =>
  rshift_int hc (by rw [Int.fdiv_eq_ediv_of_nonneg i (two_pow_nn _)]; exact q)
theorem op_and : OpR X (binaryOp .BitAnd) (rI0 fun i j => .int (Builtin.bitAnd i j)) := opI0 fun _ _ _ _ _ _ _ q => and_int q
theorem iop_or : OpR X (inplaceOp .BitOr) (rI0 fun i j => .int (Builtin.bitOr i j)) := opI0 fun _ _ _ _ _ _ _ q => ior_int q
theorem unI {f : Value → Sem Value} {g : Int → Int}
    (rule : ∀ (i : Int) (t : Tok) (s : Shared) (Q : Value → Shared → Prop) (E : Value → Shared → Prop), Q (.int (g i) s.toks) { s with toks := s.toks + 1 } → wpAny (model X.prog X.w) X.A (f (.int i t)) Q E s) :
    UnR X f (rU fun i => .int (g i)) := by
  intro pins s σ H x v Q I rx h
  obtain ⟨i, rfl, q⟩ := h
  obtain ⟨t, rfl⟩ := rx
  exact rule i t s _ _ ⟨.int (g i), H, I.tok _, ⟨_, rfl⟩, q⟩
theorem un_neg : UnR X (unaryOp .USub) (rU fun i => .int (-i)) := unI fun _ _ _ _ _ q => neg_int q
end
section
variable {X : Cx} {a b c : Expr} {ta tb tc : TE} {pos : Pos}
theorem op_lt : OpR X (compareOp .Lt) (rI0 fun i j => .bl (decide (i < j))) := opB0 fun _ _ _ _ _ _ _ q => lt_int q
theorem op_le : OpR X (compareOp .LtE) (rI0 fun i j => .bl (decide (i ≤ j))) := opB0 fun _ _ _ _ _ _ _ q => le_int q
theorem op_gt : OpR X (compareOp .Gt) (rI0 fun i j => .bl (decide (j < i))) := opB0 fun _ _ _ _ _ _ _ q => gt_int q
theorem OpR.or {f : Value → Value → Sem Value} {r r' : R2} (h : OpR X f r) (h' : OpR X f r') : OpR X f (fun x y H Q => r x y H Q ∨ r' x y H Q) := by
  intro pins s σ H x y v u Q I rx ry q
  rcases q with q | q
  · exact h pins s σ H x y v u Q I rx ry q
  · exact h' pins s σ H x y v u Q I rx ry q
theorem nomark (b : Expr) {op : CmpOp} (h : op ≠ .In := by decide) (h2 : op ≠ .NotIn := by decide) : behindInMarks op b = false := by
  have e1 : (op == CmpOp.In) = false := by cases op <;> first | rfl | exact absurd rfl h
  have e2 : (op == CmpOp.NotIn) = false := by cases op <;> first | rfl | exact absurd rfl h2
  cases b <;> simp [behindInMarks, e1, e2]
theorem pe_cmpR {op : CmpOp} {r : R2} (ho : OpR X (compareOp op) r) (ha : PE X a ta) (hb : PE X b tb) (hm : behindInMarks op b = false) : PE X (.Compare a [op] [b] pos) (tOp r ta tb) := by
  intro pins s σ H Q I h
  exact wpAny_Compare1 (binT ha hb I h fun v u s2 x y H2 I2 rx ry q => ho pins s2 σ H2 x y v u Q I2 rx ry q) hm
noncomputable def tTest (t : TE) : TT := fun σ H Q => t σ H fun x H' => ∃ k, x = .bl k ∧ Q k H'
theorem pt_cmpR {op : CmpOp} {r : R2} (ho : OpR X (compareOp op) r) (ha : PE X a ta) (hb : PE X b tb) (hm : behindInMarks op b = false) : PT X (.Compare a [op] [b] pos) (tTest (tOp r ta tb)) := by
  intro pins s σ H Q I h
  refine wpAny_isTrue_Compare1 (thn (ha pins s σ H _ I h) fun v s1 ⟨x, H1, I1, r1, q1⟩ => thn (hb pins s1 σ H1 _ I1 q1) fun u s2 ⟨y, H2, I2, r2, q2⟩ =>
    thn (ho pins s2 σ H2 x y v u _ I2 r1 r2 q2) fun c s3 ⟨z, H3, I3, r3, k, e, q3⟩ => ?_) hm
  subst e
  cases r3
  exact wpAny_truthy_bool ⟨H3, I3, q3⟩
noncomputable def tChain (r r' : R2) (ta tb tc : TE) : TE := fun σ H Q => ta σ H fun x H1 => tb σ H1 fun y H2 => r x y H2 fun z H3 => ∃ k, z = .bl k ∧
  (if k = true then tc σ H3 fun w' H4 => r' y w' H4 Q else Q (.bl false) H3)
theorem pt_chain {op op' : CmpOp} {r r' : R2} (ho : OpR X (compareOp op) r) (ho' : OpR X (compareOp op') r') (ha : PE X a ta) (hb : PE X b tb) (hc : PE X c tc)
    (hm : lastMarks [op, op'] [b, c] = false := by with_unfolding_all rfl) : PT X (.Compare a [op, op'] [b, c] pos) (tTest (tChain r r' ta tb tc)) := by
  intro pins s σ H Q I h
  refine isTrue_chain (thn (ha pins s σ H _ I h) fun v s1 ⟨x, H1, I1, r1, q1⟩ => test_link (thn (hb pins s1 σ H1 _ I1 q1) fun u s2 ⟨y, H2, I2, r2, q2⟩ =>
    thn (ho pins s2 σ H2 x y v u _ I2 r1 r2 q2) fun d s3 ⟨z, H3, I3, r3, k, e, q3⟩ => ?_)) hm
  subst e
  cases r3
  refine wpAny_truthy_bool ?_
  cases k with
  | false =>
    obtain ⟨k', e', q'⟩ := q3
    cases e'
    exact ite_ff ⟨H3, I3, q'⟩
  | true =>
    refine ite_tt (test_last (thn (hc pins s3 σ H3 _ I3 q3) fun w' s4 ⟨z', H4, I4, r4, q4⟩ => thn (ho' pins s4 σ H4 y z' u w' _ I4 r2 r4 q4) fun d' s5 ⟨z2, H5, I5, r5, k2, e2, q5⟩ => ?_))
    subst e2
    cases r5
    exact wpAny_truthy_bool ⟨H5, I5, q5⟩
noncomputable def TruV (K : PySem.W.Frag) (x : V) (H : Hp) (k : Bool) : Prop :=
  match x with
  | .non => k = false
  | .bl b => k = b
  | .int i => k = (i != 0)
  | .str y => y.length ≤ sizeLine ∧ k = ((y.length : Int) != 0)
  | .byt y => y.size ≤ sizeLine ∧ k = ((y.size : Int) != 0)
  | .ref p => (∃ xs, SqL K H p xs ∧ k = !xs.isEmpty) ∨ (∃ xs, SqT K H p xs ∧ k = !xs.isEmpty) ∨ ∃ kvs, H p = some (.dK kvs) ∧ k = !kvs.isEmpty
  | _ => False
theorem isEmpty_kv {κ : Type} {kvs : List (κ × V)} {vs : List (κ × Value)} (r : KV kvs vs) : (!vs.isEmpty) = !kvs.isEmpty := by
  cases r <;> rfl
theorem isEmpty_of {xs : List V} {its : List Value} (r : Vals xs its) : (!its.toArray.isEmpty) = !xs.isEmpty := by
  cases r <;> simp
theorem line63 : (sizeLine : Nat) < 2 ^ 63 := by rw [sizeLine_eq]; decide
theorem tru_ok : TruR X (fun x H Q => ∃ k, TruV X.K x H k ∧ Q k H) := by
  intro pins s σ H x v Q I rx h
  obtain ⟨k, e, q⟩ := h
  have hl := line63
  have hs : sizeLine = 16777216 := sizeLine_eq
  cases x with
  | non =>
    cases rx
    have e' : k = false := e
    subst e'
    exact truthy_none ⟨H, I, q⟩
  | bl b =>
    cases rx
    have e' : k = b := e
    subst e'
    exact wpAny_truthy_bool ⟨H, I, q⟩
  | int i =>
    obtain ⟨t, rfl⟩ := rx
    have e' : k = (i != 0) := e
    subst e'
    exact PySem.P.truthy_int ⟨H, I, q⟩
  | str y =>
    obtain ⟨t, rfl⟩ := rx
    obtain ⟨hy, e'⟩ : y.length ≤ sizeLine ∧ k = ((y.length : Int) != 0) := e
    subst e'
    exact PySem.P.truthy_str (by omega) ⟨H, I.tok _, q⟩
  | byt y =>
    obtain ⟨t, rfl⟩ := rx
    obtain ⟨hy, e'⟩ : y.size ≤ sizeLine ∧ k = ((y.size : Int) != 0) := e
    subst e'
    exact PySem.W.truthy_bytes (by omega) ⟨H, I.tok _, q⟩
  | ref p =>
    cases rx
    have e' : (∃ xs, SqL X.K H p xs ∧ k = !xs.isEmpty) ∨ (∃ xs, SqT X.K H p xs ∧ k = !xs.isEmpty) ∨ ∃ kvs, H p = some (.dK kvs) ∧ k = !kvs.isEmpty := e
    rcases e' with ⟨xs, hx, e'⟩ | ⟨xs, hx, e'⟩ | ⟨kvs, hx, e'⟩
    · subst e'
      obtain ⟨its, r, pl, hz⟩ := I.list hx
      have hlen := r.length
      exact wpAny_truthy_list pl.isList (by simp only [List.size_toArray]; omega) ⟨H, I.tok _, by rw [isEmpty_of r]; exact q⟩
    · subst e'
      obtain ⟨its, r, pl, hz⟩ := I.tuple hx
      have hlen := r.length
      exact truthy_tuple pl (by simp only [List.size_toArray]; omega) ⟨H, I.tok _, by rw [isEmpty_of r]; exact q⟩
    · subst e'
      obtain ⟨hz, hS, vs, r, m⟩ : kvs.length ≤ sizeLine ∧ (p == sysModules) = false ∧ ∃ vs, KV kvs vs ∧ s.heap.DictOf (mixKind X.prog X.w) p vs := I.hok p _ hx
      have hlen : kvs.length = vs.length := Paired.length r
      exact wpAny_truthy_dict hS m (by omega) ⟨H, I.tok _, by rw [isEmpty_kv r]; exact q⟩
  | _ => exact (show False from e).elim
theorem pt_truth (ha : PE X a ta) (he : ∀ whole, isTrue a X.env whole = (do let v ← whole; standAt a.pos; holding [v] (truthy v))) :
    PT X a (fun σ H Q => ta σ H fun x H' => ∃ k, TruV X.K x H' k ∧ Q k H') := by
  intro pins s σ H Q I h
  exact isTrue_plain (thn (ha pins s σ H _ I h) fun v s1 ⟨x, H1, I1, r1, q1⟩ => tru_ok pins s1 σ H1 x v Q I1 r1 q1) (he _)
theorem op_add_str : OpR X (binaryOp .Add) (fun x y H Q => ∃ i j, x = .str i ∧ y = .str j ∧ i.length + j.length ≤ sizeLine ∧ Q (.str (i ++ j)) H) := by
  intro pins s σ H x y v u Q I rx ry h
  obtain ⟨i, j, rfl, rfl, hz, q⟩ := h
  obtain ⟨t, rfl⟩ := rx
  obtain ⟨t', rfl⟩ := ry
  exact add_str (fun t' tk => ⟨.str (i ++ j), H, I.tok _, ⟨_, rfl⟩, q⟩) hz
theorem vals1 {x : V} {us : List Value} (r : Vals [x] us) : ∃ u, us = [u] ∧ RelV x u := by
  cases r with
  | cons r1 r2 => cases r2; exact ⟨_, rfl, r1⟩
theorem vals2 {x y : V} {us : List Value} (r : Vals [x, y] us) : ∃ u w', us = [u, w'] ∧ RelV x u ∧ RelV y w' := by
  cases r with
  | cons r1 r2 =>
    cases r2 with
    | cons r3 r4 => cases r4; exact ⟨_, _, rfl, r1, r3⟩
theorem call_int1 : CallR X (.type "int") (fun xs H Q => (∃ i, xs = [.int i] ∧ Q (.int i) H) ∨ ∃ k, xs = [.bl k] ∧ Q (.int (if k then 1 else 0)) H) := by
  intro pins s σ H xs us Q I r h
  rcases h with ⟨i, rfl, q⟩ | ⟨k, rfl, q⟩
  · obtain ⟨u, rfl, t, rfl⟩ := vals1 r
    exact call_int_int ⟨.int i, H, I, ⟨_, rfl⟩, q⟩
  · obtain ⟨u, rfl, r1⟩ := vals1 r
    cases r1
    exact call_int_bool ⟨.int (if k then 1 else 0), H, I.tok _, ⟨_, rfl⟩, q⟩
noncomputable def LenV (K : PySem.W.Frag) (x : V) (H : Hp) (n : Nat) : Prop :=
  match x with
  | .str y => y.length ≤ sizeLine ∧ n = y.length
  | .byt y => y.size ≤ sizeLine ∧ n = y.size
  | .ref p => (∃ xs, SqL K H p xs ∧ n = xs.length) ∨ ∃ xs, SqT K H p xs ∧ n = xs.length
  | _ => False
theorem call_len : CallR X (.builtin "len") (fun xs H Q => ∃ x n, xs = [x] ∧ LenV X.K x H n ∧ Q (.int n) H) := by
  intro pins s σ H xs us Q I r h
  obtain ⟨x, n, rfl, e, q⟩ := h
  obtain ⟨u, rfl, rx⟩ := vals1 r
  have hl := line63
  have hs : sizeLine = 16777216 := sizeLine_eq
  cases x with
  | str y =>
    obtain ⟨t, rfl⟩ := rx
    obtain ⟨hy, e'⟩ : y.length ≤ sizeLine ∧ n = y.length := e
    subst e'
    exact len_str (by omega) ⟨.int _, H, I.tok _, ⟨_, rfl⟩, q⟩
  | byt y =>
    obtain ⟨t, rfl⟩ := rx
    obtain ⟨hy, e'⟩ : y.size ≤ sizeLine ∧ n = y.size := e
    subst e'
    exact PySem.W.len_bytes (by omega) ⟨.int _, H, I.tok _, ⟨_, rfl⟩, q⟩
  | ref p =>
    cases rx
    have e' : (∃ xs, SqL X.K H p xs ∧ n = xs.length) ∨ ∃ xs, SqT X.K H p xs ∧ n = xs.length := e
    rcases e' with ⟨xs, hx, e'⟩ | ⟨xs, hx, e'⟩
    · subst e'
      obtain ⟨its, r', pl, hz⟩ := I.list hx
      have hlen := r'.length
      exact Calls.call_len_list pl.isList (by simp only [List.size_toArray]; omega) ⟨.int xs.length, H, I.tok _, ⟨_, by simp only [List.size_toArray]; rw [hlen]⟩, q⟩
    · subst e'
      obtain ⟨its, r', pl, hz⟩ := I.tuple hx
      have hlen := r'.length
      exact len_tuple pl (by simp only [List.size_toArray]; omega) ⟨.int xs.length, H, I.tok _, ⟨_, by simp only [List.size_toArray]; rw [hlen]⟩, q⟩
  | _ => exact (show False from e).elim
end
end L2
namespace L2
open PySem PySem.Spec PyProof.Rows
structure ObjM (h : Heap) (x dx C : Addr) (mA : Str → Option Value) : Prop where
  obj : h.get? x = some (PySem.W.instObj C dx)
  ns : h.Ns1 dx mA
  ne : dx ≠ x
theorem lookIn_ns {h : Heap} {dx : Addr} {mA : Str → Option Value} (n : h.Ns1 dx mA) : ∃ od, h.get? dx = some od ∧ ∀ name, PySem.W.lookIn name od = some (mA name) := by
  obtain ⟨o, es, ep, ho, hd, hk, _, hm⟩ := n
  refine ⟨o, ho, fun name => ?_⟩
  have e := hm name
  unfold nsFind findBy at e
  rw [← Array.find?_toList] at e
  unfold PySem.W.lookIn
  rw [hd]
  dsimp only
  split
  · rename_i y q
    rw [q] at e
    exact congrArg some e
  · rename_i q
    rw [q] at e
    have a : es.toList.any (·.refKey) = false := by
      rw [List.any_eq_false]
      intro y hy
      obtain ⟨z, t, hkey⟩ := hk y (Array.mem_toList_iff.mp hy)
      simp [DictEntry.refKey, hkey]
    have a' : ¬ es.toList.any (·.refKey) = true := by rw [a]; exact Bool.false_ne_true
    rw [if_neg a']
    exact congrArg some e
theorem ObjM.look {h : Heap} {x dx C : Addr} {mA : Str → Option Value} (I : ObjM h x dx C mA) : ∃ od, PySem.W.InstAt h x (PySem.W.instObj C dx) C (some od) ∧ ∀ name, PySem.W.lookIn name od = some (mA name) :=
  let ⟨od, ho, hl⟩ := lookIn_ns I.ns
  ⟨od, ⟨I.obj, rfl, rfl, ho⟩, hl⟩
section
variable {prog : Program} {w : World} {A : Around} {E : Value → Shared → Prop} {s : Shared} {K : PySem.W.Frag} {x dx C f : Addr} {mA : Str → Option Value} {name : Str} {v : Value}
end
section
variable {P : Program} {w : World} {H H' : Hp} {h h' : Heap} {a C dx : Addr} {fs fs' : List (Str × V)}
theorem ins_get (hok : HOk P w H h) (e : H a = some (.ins C dx fs)) : ∃ mA, ObjM h a dx C mA ∧ (∀ f, RelO (fs.lookup f) (mA f)) ∧ PySem.Within mA (fs.map (·.1)) ∧ fs.length ≤ 1000 ∧ H dx = some (.own a) := by
  obtain ⟨d, z, ne, ob, mA, n, r, q⟩ := (show ObjOk P w H h a (.ins C dx fs) from hok a _ e)
  exact ⟨mA, ⟨ob, n, ne⟩, r, q, z, d⟩
end
structure Cls (K : PySem.W.Frag) (C : Addr) : Prop where
  pg : PySem.W.plainGet K C Str.empty = true
  hd : PySem.W.hasDictIn K C = true
  po : PySem.W.plainOver K C = true
  sa : PySem.W.findIn K (.ref C) "__setattr__" = some (some (.builtin "object.__setattr__"))
theorem Cls.get {K : PySem.W.Frag} {C : Addr} (c : Cls K C) (f : Str) : PySem.W.plainGet K C f = true := c.pg
section
variable {X : Cx} {pins : List (Addr × Obj)} {σ : St} {H : Hp} {s : Shared} {a C dx : Addr} {fs : List (Str × V)} {f : Str} {v : V} {A : Around} {E : Value → Shared → Prop}
end
section
variable {X : Cx} {o e value : Expr} {f : Str} {pos pos' tpos : Pos} {ta tv : TE}
end
section
variable {X : Cx} {pins : List (Addr × Obj)} {σ : St} {H : Hp} {s : Shared} {A : Around} {E : Value → Shared → Prop} {Q : Value → Shared → Prop} {c : Value} {b : Bool}
inductive TyOf (K : PySem.W.Frag) (H : Hp) : V → Value → Prop where
  | non : TyOf K H .non (.type "NoneType")
  | bl (x : Bool) : TyOf K H (.bl x) (.type "bool")
  | int (i : Int) : TyOf K H (.int i) (.type "int")
  | str (x : Str) : TyOf K H (.str x) (.type "str")
  | flt (x : UInt64) : TyOf K H (.flt x) (.type "float")
  | lst {a : Addr} {xs : List V} (e : H a = some (.lst xs)) : TyOf K H (.ref a) (.type "list")
  | frz {a : Addr} {o : Obj} {xs : List V} (e : H a = some (.frz o (.lst xs))) : TyOf K H (.ref a) (.type "list")
  | tup {a : Addr} {xs : List V} (e : H a = some (.tup xs)) : TyOf K H (.ref a) (.type "tuple")
  | dK {a : Addr} {kvs : List (Key × V)} (e : H a = some (.dK kvs)) : TyOf K H (.ref a) (.type "dict")
  | dT {a : Addr} {kvs : List (List Key × V)} (e : H a = some (.dT kvs)) : TyOf K H (.ref a) (.type "dict")
  | ins {a C dx : Addr} {fs : List (Str × V)} (e : H a = some (.ins C dx fs)) (cl : Cls K C) (ha : PySem.W.findIn K (.ref C) "__class__" = some (some (.builtin "object.__class__")))
      (hn : PySem.W.specialIn K (.builtin "object.__class__") "__get__" = some (some (.builtin "getset_descriptor.__get__"))) (htk : PySem.W.takesIn K (.builtin "object.__class__") = some true)
      (hm : PySem.W.mroIn K C (.type "object") = some true) : TyOf K H (.ref a) (.ref C)
theorem isinst_ok {x : V} {u t : Value} (I : Inv X pins σ H s) (rx : RelV x u) (ty : TyOf X.K H x t) (e : PySem.W.kitOne X.K t c = some b) (h : ∀ tk, Q (.bool b) { s with toks := tk }) :
    wpAny (model X.prog X.w) A (call (.builtin "isinstance") [u, c]) Q E s := by
  cases ty with
  | non => cases (show u = Value.none from rx); exact PySem.W.kia_one PySem.W.kitx_none I.kIn True.intro e (fun z => nomatch z) h
  | bl y => cases (show u = Value.bool y from rx); exact PySem.W.kia_one PySem.W.kitx_bool I.kIn True.intro e (fun z => nomatch z) h
  | int i => obtain ⟨t, q⟩ := (show ∃ t, u = Value.int i t from rx); cases q; exact PySem.W.kia_one PySem.W.kitx_int I.kIn True.intro e (fun z => nomatch z) h
  | str y => obtain ⟨t, q⟩ := (show ∃ t, u = Value.str y t from rx); cases q; exact PySem.W.kia_one PySem.W.kitx_str I.kIn True.intro e (fun z => nomatch z) h
  | flt y => obtain ⟨t, q⟩ := (show ∃ t, u = Value.float y t from rx); cases q; exact PySem.W.kia_one PySem.W.kitx_float I.kIn True.intro e (fun z => nomatch z) h
  | @lst a xs ea =>
    cases (show u = Value.ref a from rx)
    obtain ⟨_, _, n, _, h1⟩ := (show ObjOk X.prog X.w H s.heap a (.lst xs) from I.hok a _ ea)
    exact PySem.W.kia_one PySem.W.kitx_list I.kIn ⟨_, h1, rfl⟩ e (fun z => nomatch z) h
  | @frz a ob xs ea =>
    cases (show u = Value.ref a from rx)
    obtain ⟨_, _, _, n, _, h1⟩ := (show ObjOk X.prog X.w H s.heap a (.frz ob (.lst xs)) from I.hok a _ ea)
    exact PySem.W.kia_one PySem.W.kitx_list I.kIn ⟨_, h1, rfl⟩ e (fun z => nomatch z) h
  | @tup a xs ea =>
    cases (show u = Value.ref a from rx)
    obtain ⟨_, _, _, p⟩ := (show ObjOk X.prog X.w H s.heap a (.tup xs) from I.hok a _ ea)
    obtain ⟨o, h1, h2, _⟩ := p
    exact PySem.W.kia_one PySem.W.kitx_tuple I.kIn ⟨o, h1, h2⟩ e (fun z => nomatch z) h
  | @dK a kvs ea =>
    cases (show u = Value.ref a from rx)
    obtain ⟨_, _, vs, _, p⟩ := (show ObjOk X.prog X.w H s.heap a (.dK kvs) from I.hok a _ ea)
    obtain ⟨o, es, ep, h1, h2, _⟩ := p
    exact PySem.W.kia_one PySem.W.kitx_dict I.kIn ⟨o, h1, h2.1⟩ e (fun z => nomatch z) h
  | @dT a kvs ea =>
    cases (show u = Value.ref a from rx)
    obtain ⟨_, _, xs, _, o, es, ep, h1, h2, _⟩ := (show ObjOk X.prog X.w H s.heap a (.dT kvs) from I.hok a _ ea)
    exact PySem.W.kia_one PySem.W.kitx_dict I.kIn ⟨o, h1, h2.1⟩ e (fun z => nomatch z) h
  | @ins a C dx fs ea cl ha hn htk hm =>
    cases (show u = Value.ref a from rx)
    obtain ⟨mA, O, _⟩ := ins_get I.hok ea
    obtain ⟨od, J, _⟩ := O.look
    exact PySem.W.kia_one (PySem.W.kitx_own (cl.get _) cl.hd ha hn htk hm) I.kIn J e (fun z => nomatch z) h
end
end L2
namespace L2
open PySem PySem.Spec PyProof.Rows
structure Room (k : Nat) (A : Around) : Prop where
  hd : A.handled = none
  dp : A.depth + 3 * k + 5 < recursionLimit
  un : A.units + 16 * k + 200 < cLine
theorem Room.mono {j k : Nat} {A : Around} (r : Room k A) (h : j ≤ k) : Room j A := ⟨r.hd, by have := r.dp; omega, by have := r.un; omega⟩
theorem Room.deeper {k : Nat} {A : Around} (r : Room (k + 1) A) (env : Env) : Room k (A.deeper env) :=
  ⟨r.hd, by have := r.dp; show A.depth + 1 + 3 * k + 5 < _; omega, by have := r.un; show A.units + 3 + 16 * k + 200 < _; omega⟩
theorem Room.depth {k : Nat} {A : Around} (r : Room k A) : A.depth < recursionLimit := by have := r.dp; omega
theorem Room.units {k : Nat} {A : Around} (r : Room k A) : A.units + 64 < cLine := by have := r.un; omega
noncomputable def tNil : TA := fun _ H Q => Q [] H
noncomputable def tCons (ta : TE) (tr : TA) : TA := fun σ H Q => ta σ H fun x H1 => tr σ H1 fun xs H2 => Q (x :: xs) H2
section
variable {X : Cx} {e : Expr} {es : List Expr} {te : TE} {t : TA} {pos : Pos}
theorem pa_nil : PA X [] tNil := fun _ _ _ _ H Q I h => Calls.spliced_nil ⟨[], H, I, .nil, h⟩
theorem pa_cons (ha : PE X e te) (hr : PA X es t) (hs : starEach (e :: es) X.env = (false, eval e X.env) :: starEach es X.env := by rfl) : PA X (e :: es) (tCons te t) := by
  intro pos pins s σ H Q I h
  rw [hs]
  show wpAny _ _ (spliced ((false, eval e X.env) :: backTo pos (starEach es X.env))) _ _ s
  refine Calls.spliced_cons (thn (ha pins s σ H _ I h) fun u s1 ⟨x, H1, I1, r1, q1⟩ => ?_)
  exact thn (hr pos pins s1 σ H1 _ I1 q1) fun us s2 ⟨xs, H2, I2, r2, q2⟩ => ⟨x :: xs, H2, I2, .cons r1 r2, q2⟩
noncomputable def tTup (t : TA) : TE := fun σ H Q => t σ H fun xs H1 => xs.length ≤ sizeLine ∧ ∀ p, H1 p = none → Q (.ref p) (upd H1 p (.tup xs))
noncomputable def tLst (t : TA) : TE := fun σ H Q => t σ H fun xs H1 => xs.length ≤ sizeLine ∧ ∀ p, H1 p = none → Q (.ref p) (upd H1 p (.lst xs))
theorem pe_tup {x1} (h : PA X es t) : PE X (.Tuple es x1 pos) (tTup t) := by
  intro pins s σ H Q I hq
  refine wpAny_Tuple_spliced (thn (h pos pins s σ H _ I hq) fun us s1 ⟨xs, H1, I1, r, z, q⟩ => ⟨by rw [← r.length]; exact z, ?_⟩)
  have hf : H1 s1.heap.objs.size = none := I1.hok.fresh (Nat.le_refl _)
  refine ⟨.ref s1.heap.objs.size, upd H1 s1.heap.objs.size (.tup xs), I1.laid (t' := s1.toks) (fun b u e => Heap.get?_push_of_some _ e) (Nat.le_refl _) ?_, rfl, q _ hf⟩
  exact ⟨z, us, r, ⟨_, Heap.get?_push_size _ rfl, rfl, _, rfl⟩⟩
theorem pe_lst (h : PA X es t) : PE X (.List es pos) (tLst t) := by
  intro pins s σ H Q I hq
  refine wpAny_List_spliced (thn (h pos pins s σ H _ I hq) fun us s1 ⟨xs, H1, I1, r, z, q⟩ => ⟨by rw [← r.length]; exact z, ?_⟩)
  have hf : H1 s1.heap.objs.size = none := I1.hok.fresh (Nat.le_refl _)
  refine ⟨.ref s1.heap.objs.size, upd H1 s1.heap.objs.size (.lst xs), I1.laid (t' := s1.toks) (fun b u e => Heap.get?_push_of_some _ e) (Nat.le_refl _) ?_, rfl, q _ hf⟩
  exact ⟨z, us, 0, r, Heap.get?_push_size _ rfl⟩
end
noncomputable abbrev Sp := List V → Hp → VK → XK → Prop
noncomputable abbrev CXT := List Env → Hp → Shared → XK → Value → Shared → Prop
structure Env0 (P : Program) (w : World) (K : PySem.W.Frag) (mg : Str → Option Value) (base : Heap) (A : Around) (outer : List Env) (s : Shared) (H : Hp) : Prop where
  frames : A.frames = some outer
  mod : Mod K mg base
  bs : ∀ b o, base.get? b = some o → s.heap.get? b = some o ∧ H b = none
  bsz : base.objs.size ≤ s.heap.objs.size
  funs : s.heap.FunFrames base outer
  frf : ∀ b ∈ frs outer, H b = none
  hok : HOk P w H s.heap
  bare : AllBare s.gens
noncomputable def CE (outer : List Env) (P : Program) (w : World) (H : Hp) (s : Shared) (Q : VK) (u : Value) (s' : Shared) : Prop :=
  ∃ v H', s'.os = s.os ∧ AllBare s'.gens ∧ Un (frs outer) [] H H' s.heap s'.heap ∧ HOk P w H' s'.heap ∧ RelV v u ∧ Q v H'
noncomputable def CR (CX : CXT) (outer : List Env) (P : Program) (w : World) (H : Hp) (s : Shared) (Q : VK) (E : XK) (r : Result) (s' : Shared) : Prop :=
  match r with
  | .ok (.ret u) => CE outer P w H s Q u s'
  | .ok _ => False
  | .error e => CX outer H s E e s'
structure FnOk (P : Program) (w : World) (K : PySem.W.Frag) (mg : Str → Option Value) (base : Heap) (CX : CXT) (k : Nat) (f : Addr) (fd : FuncData) (ps : List Str) (sp : Sp) : Prop where
  len : ∀ vs H Q E, sp vs H Q E → vs.length = ps.length
  run : ∀ (A : Around) (outer : List Env) (s : Shared) (H : Hp) (args : Args) (us : List Value) (vs : List V) (Q : VK) (E : XK), Room k A → Env0 P w K mg base A outer s H → BindsTo s fd args (ps.zip us) → Vals vs us → sp vs H Q E →
    codeAny (model P w) A (.call (.ref f) args) (CR CX outer P w H s Q E) s
theorem FnOk.mono {P : Program} {w : World} {K : PySem.W.Frag} {mg : Str → Option Value} {base : Heap} {CX : CXT} {j k : Nat} {f : Addr} {fd : FuncData} {ps : List Str} {sp : Sp} (F : FnOk P w K mg base CX j f fd ps sp) (h : j ≤ k) :
    FnOk P w K mg base CX k f fd ps sp := ⟨F.len, fun A outer s H args us vs Q E hr => F.run A outer s H args us vs Q E (hr.mono h)⟩
section
variable {X : Cx} {pins : List (Addr × Obj)} {σ : St} {H : Hp} {s s' : Shared}
theorem Inv.env0 (I : Inv X pins σ H s) : Env0 X.prog X.w X.K X.mg X.base X.A X.stack s H :=
  ⟨I.ok.frames, I.ok.mod, I.bs, Nat.le_trans I.ok.bsz I.sz, I.stack, I.stkFree, I.hok, I.bare⟩
theorem Inv.after {Q : VK} {u : Value} (I : Inv X pins σ H s) (h : CE X.stack X.prog X.w H s Q u s') : EP X pins σ Q u s' := by
  obtain ⟨v, H', os, bare, un, hok, r, q⟩ := h
  obtain ⟨hh, g, d, t, os'⟩ := s'
  obtain rfl : os' = s.os := os
  exact ⟨v, H', I.call (h' := hh) (g' := g) (d' := d) (t' := t) (ch := []) un hok bare (fun b z => absurd z (by simp)), r, q⟩
end
noncomputable def tCall (sp : Sp) (dvs : List V) (E : XK) (t : TA) : TE := fun σ H Q => t σ H fun vs H1 => sp (vs ++ dvs) H1 Q E
noncomputable def Binds (K : PySem.W.Frag) (fd : FuncData) (ps : List Str) (ds : List Value) : Prop :=
  ∀ (s : Shared) (us : List Value), K.In s.heap → (us ++ ds).length = ps.length → BindsTo s fd ⟨us, []⟩ (ps.zip (us ++ ds))
theorem Binds.all {K : PySem.W.Frag} {fd : FuncData} {ps : List Str} (h : ∀ us : List Value, us.length = ps.length → bindArgs fd ⟨us, []⟩ = pure (ps.zip us)) : Binds K fd ps [] := fun s us _ hl => by
  rw [List.append_nil] at hl ⊢
  exact .of_eq (h us hl)
noncomputable def Passes (CX : CXT) (X : Cx) (E : XK) : Prop := ∀ (pins : List (Addr × Obj)) (σ : St) (H : Hp) (s : Shared) (e : Value) (s' : Shared), Inv X pins σ H s → CX X.stack H s E e s' → X.xe e s'
section
variable {X : Cx} {CX : CXT} {k : Nat} {f C : Addr} {fd : FuncData} {ps : List Str} {sp : Sp} {dvs : List V} {ds : List Value} {E : XK} {x m : Str} {p pos apos : Pos} {e o : Expr} {es : List Expr} {ta : TE} {t : TA}
theorem run_fn {pins : List (Addr × Obj)} {σ : St} {H : Hp} {s : Shared} {Q : VK} {us : List Value} {vs : List V} (F : FnOk X.prog X.w X.K X.mg X.base CX k f fd ps sp) (hr : Room k X.A) (hb : Binds X.K fd ps ds) (hd : Vals dvs ds) (hx : Passes CX X E)
    (I : Inv X pins σ H s) (r : Vals vs us) (h : sp (vs ++ dvs) H Q E) : wpAny (model X.prog X.w) X.A (call (.ref f) us) (EP X pins σ Q) X.xe s := by
  have r2 : Vals (vs ++ dvs) (us ++ ds) := r.append hd
  have hl : (us ++ ds).length = ps.length := by rw [← r2.length]; exact F.len _ _ _ _ h
  refine wpAny_call (codeAny_mono (F.run X.A X.stack s H ⟨us, []⟩ (us ++ ds) (vs ++ dvs) Q E hr I.env0 (hb s us I.kIn hl) r2 h) fun r s' hq => ?_)
  cases r with
  | error e => exact hx pins σ H s e s' I hq
  | ok fl =>
    cases fl with
    | ret u => exact I.after hq
    | next => exact False.elim hq
    | brk => exact False.elim hq
    | cont => exact False.elim hq
theorem pe_call (F : FnOk X.prog X.w X.K X.mg X.base CX k f fd ps sp) (hr : Room k X.A) (hg : Gl X x) (hm : X.mg x = some (.ref f)) (hk : PySem.W.keepIn X.K (.ref f) = true) (hb : Binds X.K fd ps ds) (hd : Vals dvs ds) (hx : Passes CX X E)
    (ha : PA X (e :: es) t) (hdb : (x == ("__debug__" : Str)) = false := by decide) (he : starEach (e :: es) X.env = (false, eval e X.env) :: starEach es X.env := by rfl) (hpl : (backTo pos (starEach es X.env)).any (·.1) = false := by rfl) :
    PE X (.Call (.Name x p) (e :: es) [] pos) (tCall sp dvs E t) := by
  intro pins s σ H Q I h
  refine wpAny_Call_Name_kw (ld_glob I hg hm ?_ hdb)
  refine PySem.W.callWith_K (h₀ := X.base) I.ok.mod.kin hk (thn (ha pos pins s σ H _ I h) fun us s1 ⟨vs, H1, I1, r, q⟩ => ⟨I1.kIn, ?_⟩) he hpl
  exact run_fn F hr hb hd hx I1 r q
end
section
variable {X : Cx} {CX : CXT} {k : Nat} {f C : Addr} {fd : FuncData} {ps ks : List Str} {sp : Sp} {E : XK} {x m : Str} {p pos apos kpos : Pos} {e o : Expr} {es : List Expr} {kws : List Keyword} {te ta : TE} {t tk : TA} {nm : Option Str}
variable {g : List Value → List Value → List Value} {gV : List V → List V → List V}
end
structure FnScope (N P : List Str) (sc : Scope) : Prop where
  kind : sc.kind = .function
  co : sc.isCoroutine = false
  gen : sc.isGenerator = false
  nd : N.Nodup
  pre : N.take P.length = P
  par : ∀ x ∈ P, sc.names.lookup x = some .local ∨ sc.names.lookup x = some .cell
  nofree : ∀ y ∈ sc.names, y.2 ≠ .free
theorem bindL_out {kindOf : Str → Option NameKind} {x : Str} : ∀ {binds : List (Str × Value)} {m : Str → Option Value}, (∀ v, (x, v) ∉ binds) → bindL kindOf binds m x = m x
  | [], _, _ => rfl
  | (n, v) :: r, m, h => by
    unfold bindL
    rw [bindL_out fun w hw => h w (List.mem_cons_of_mem _ hw)]
    split
    · have : x ≠ n := by rintro rfl; exact h v List.mem_cons_self
      simp [this]
    · rfl
theorem bindC_out {kindOf : Str → Option NameKind} {x : Str} : ∀ {binds : List (Str × Value)} {m : Str → Option Value}, (∀ v, (x, v) ∉ binds) → bindC kindOf binds m x = m x
  | [], _, _ => rfl
  | (n, v) :: r, m, h => by
    unfold bindC
    rw [bindC_out fun w hw => h w (List.mem_cons_of_mem _ hw)]
    split
    · rfl
    · have : x ≠ n := by rintro rfl; exact h v List.mem_cons_self
      simp [this]
theorem bindL_get {kindOf : Str → Option NameKind} {x : Str} {v : Value} : ∀ {P : List Str} {vs : List Value} {i : Nat} {m : Str → Option Value}, P.Nodup → P[i]? = some x → vs[i]? = some v → kindOf x = some .local →
    bindL kindOf (P.zip vs) m x = some v
  | [], _, _, _, _, h, _, _ => by simp at h
  | _ :: _, [], _, _, _, _, h, _ => by simp at h
  | p :: P, w :: vs, 0, m, nd, h1, h2, hk => by
    simp at h1 h2; subst h1; subst h2
    show bindL kindOf ((p, w) :: P.zip vs) m p = _
    unfold bindL
    rw [bindL_out fun v hv => (List.nodup_cons.mp nd).1 (List.of_mem_zip hv).1, if_pos hk]
    simp
  | p :: P, w :: vs, i + 1, m, nd, h1, h2, hk => by
    show bindL kindOf ((p, w) :: P.zip vs) m x = _
    unfold bindL
    exact bindL_get (i := i) (List.nodup_cons.mp nd).2 (by simpa using h1) (by simpa using h2) hk
theorem bindC_get {kindOf : Str → Option NameKind} {x : Str} {v : Value} : ∀ {P : List Str} {vs : List Value} {i : Nat} {m : Str → Option Value}, P.Nodup → P[i]? = some x → vs[i]? = some v → kindOf x ≠ some .local →
    bindC kindOf (P.zip vs) m x = some v
  | [], _, _, _, _, h, _, _ => by simp at h
  | _ :: _, [], _, _, _, _, h, _ => by simp at h
  | p :: P, w :: vs, 0, m, nd, h1, h2, hk => by
    simp at h1 h2; subst h1; subst h2
    show bindC kindOf ((p, w) :: P.zip vs) m p = _
    unfold bindC
    rw [bindC_out fun v hv => (List.nodup_cons.mp nd).1 (List.of_mem_zip hv).1, if_neg hk]
    simp
  | p :: P, w :: vs, i + 1, m, nd, h1, h2, hk => by
    show bindC kindOf ((p, w) :: P.zip vs) m x = _
    unfold bindC
    exact bindC_get (i := i) (List.nodup_cons.mp nd).2 (by simpa using h1) (by simpa using h2) hk
noncomputable def start (N : List Str) (vs : List V) : St := vs.map some ++ List.replicate (N.length - vs.length) none
noncomputable def cxOf (CX : CXT) (P : Program) (w : World) (K : PySem.W.Frag) (mg : Str → Option Value) (base : Heap) (N : List Str) (qual : Str) (scope : Scope) (f : Addr) (cd : Value) (A : Around) (outer : List Env) (s : Shared) (H : Hp) (E : XK) : Cx where
  prog := P
  w := w
  K := K
  mg := mg
  base := base
  A := A.deeper (envOfC qual scope s.heap.objs.size f cd)
  N := N
  s₀ := s
  H₀ := H
  env := envOfC qual scope s.heap.objs.size f cd
  outer := outer
  stack := envOfC qual scope s.heap.objs.size f cd :: outer
  ex := []
  calm := true
  fn := fun _ => true
  pn := []
  xe := fun e s' => wpAny (model P w) (A.deeper (envOfC qual scope s.heap.objs.size f cd)) (leaving (envOfC qual scope s.heap.objs.size f cd) e) (fun _ s'' => CX outer H s E e s'') (fun e' s'' => CX outer H s E e' s'') s'
theorem cell_has {sc : Scope} {n : Nat} {x : Str} (h : sc.names.lookup x = some .cell) : ∃ c, (cellsFrom n sc.names []).lookup x = some c := by
  have q := PySem.W.cellsFrom_some sc.names n [] (.inl h)
  exact Option.isSome_iff_exists.mp q
theorem inv_start {CX : CXT} {P : Program} {w : World} {K : PySem.W.Frag} {mg : Str → Option Value} {base : Heap} {N ps : List Str} {qual : Str} {scope : Scope} {f : Addr} {cd : Value} {A : Around} {outer : List Env} {s s1 : Shared} {H : Hp} {E : XK} {us : List Value} {vs : List V}
    (S : FnScope N ps scope) (hd : A.handled = none) (e0 : Env0 P w K mg base A outer s H) (hl : vs.length = ps.length) (r : Vals vs us)
    (x : InCallC s s.heap.objs.size (bindL (envOfC qual scope s.heap.objs.size f cd).kindOf (ps.zip us) fun _ => none) (cellsFrom (s.heap.objs.size + 1) scope.names []) (bindC (envOfC qual scope s.heap.objs.size f cd).kindOf (ps.zip us) fun _ => none) s1) :
    Inv (cxOf CX P w K mg base N qual scope f cd A outer s H E) [] (start N vs) H s1 := by
  have hpl : ps.length ≤ N.length := by have := congrArg List.length S.pre; rw [List.length_take] at this; omega
  obtain ⟨h1, tk, rfl, hk⟩ := x.done
  have noA : ∀ b : Addr, b ∉ (cxOf CX P w K mg base N qual scope f cd A outer s H E).ex := fun b z => absurd (show b ∈ ([] : List Addr) from z) (by simp)
  refine ⟨⟨e0.mod, S.kind, rfl, rfl, Nat.le_refl _, fun y z c h1 h2 => ?_, fun y hy => ?_, fun y c _ h => ?_, fun _ => hd, Around.frames_deeper e0.frames, .inr ⟨rfl, rfl⟩, fun b z => absurd z (noA b), e0.bs, e0.bsz, fun b _ _ => noA b, fun b z => absurd z (noA b), e0.funs, e0.frf⟩,
    rfl, e0.bare, Un.kept hk, ⟨_, x.toInCall.ns, fun i y v h1 h2 h3 => ?_⟩, fun y c h => ⟨_, x.cell y c h⟩, e0.hok.fresh (Nat.le_refl _), fun y c h => ?_, fun p hp => absurd (show p ∈ ([] : List (Addr × Obj)) from hp) (by simp), e0.hok.kept hk, ?_⟩
  · exact name_of_addr x.apart (PySem.mem_of_lookup h1) (PySem.mem_of_lookup h2)
  · have hy : scope.names.lookup y = some .cell ∨ scope.names.lookup y = some .free := hy
    rcases hy with hy | hy
    · exact cell_has hy
    · exact absurd rfl (S.nofree _ (PySem.mem_of_lookup hy))
  · exact Nat.le_of_lt (x.above y c (PySem.mem_of_lookup h))
  · have hi : i < vs.length := by
      unfold start at h2
      by_cases hi : i < vs.length
      · exact hi
      · rw [List.getElem?_append_right (by simpa using hi)] at h2
        rw [List.getElem?_replicate] at h2
        split at h2 <;> cases h2
    have ha : vs[i]? = some v := by
      unfold start at h2
      rw [List.getElem?_append_left (by simpa using hi), List.getElem?_map] at h2
      cases e : vs[i]? with
      | none => rw [e] at h2; cases h2
      | some a => rw [e] at h2; cases h2; rfl
    obtain ⟨u, hu, rv⟩ := r.get ha
    have hp : ps[i]? = some y := by
      rw [← S.pre, List.getElem?_take_of_lt (by omega)]; exact h1
    have ndP : ps.Nodup := by rw [← S.pre]; exact S.nd.sublist (List.take_sublist _ _)
    refine ⟨u, rv, ?_⟩
    rcases S.par y (List.mem_of_getElem? hp) with k | k
    · exact .inl ⟨k, bindL_get ndP hp hu k⟩
    · obtain ⟨c, e⟩ := cell_has (n := s.heap.objs.size + 1) k
      refine .inr ⟨.inl k, c, e, ?_⟩
      have q := x.cell y c e
      rw [bindC_get ndP hp hu (by show scope.names.lookup y ≠ _; rw [k]; decide)] at q
      exact q
  · exact e0.hok.fresh (Nat.le_of_lt (x.above y c (PySem.mem_of_lookup h)))
  · unfold start
    show _ = N.length
    rw [List.length_append, List.length_map, List.length_replicate]
    omega
theorem fn_of {CX : CXT} {P : Program} {w : World} {K : PySem.W.Frag} {mg : Str → Option Value} {base : Heap} {k : Nat} {f : Addr} {name qual : Str} {params : Arguments} {body : List Stmt} {scope : Scope} {dV kV doc pm cdv ct oc : Value} {an od : Option Addr}
    {osl : Array (Option Value)} {N ps : List Str} {sp : Sp} (lk : K.lookup f = some ⟨oc, od, .func (PySem.W.fnOf name qual params body scope dV kV doc pm an cdv ct), osl⟩) (hcd : PySem.W.codeIn K cdv qual = true) (S : FnScope N ps scope)
    (len : ∀ vs H Q E, sp vs H Q E → vs.length = ps.length)
    (hbody : ∀ (A : Around) (outer : List Env) (s : Shared) (H : Hp) (vs : List V) (Q : VK) (E : XK), Room k (A.deeper (envOfC qual scope s.heap.objs.size f cdv)) → sp vs H Q E →
      ∃ t, PSs (cxOf CX P w K mg base N qual scope f cdv A outer s H E) body t ∧ t { nx := fun _ H' => Q .non H', rt := Q } (start N vs) H) :
    FnOk P w K mg base CX (k + 1) f (PySem.W.fnOf name qual params body scope dV kV doc pm an cdv ct) ps sp := by
  refine ⟨len, fun A outer s H args us vs Q E hr e0 hb r hsp => ?_⟩
  have hl := len _ _ _ _ hsp
  have KX : K.In s.heap := e0.mod.kin.keeps fun b o e => (e0.bs b o e).1
  have lim : s.heap.NoLimit := e0.mod.nolimit.keeps fun b o e => (e0.bs b o e).1
  have hkind : ∀ y ∈ ps.zip us, scope.names.lookup y.1 = some .local ∨ (scope.names.lookup y.1 = some .cell ∧ ((cellsFrom (s.heap.objs.size + 1) scope.names []).lookup y.1).isSome = true) := fun ⟨n, v⟩ hy => by
    rcases S.par n (List.of_mem_zip hy).1 with q | q
    · exact .inl q
    · exact .inr ⟨q, PySem.W.cellsFrom_some _ _ _ (.inl q)⟩
  refine codeAny_call_function hr.depth (KX _ _ lk) rfl S.co S.gen rfl (PySem.W.codeRec_of KX hcd) (hb _ _ _ _ ?_)
  refine wpAny_newFunctionEnv_cells S.kind hkind fun env he s1 x => ?_
  subst he
  refine ⟨lim.keeps x.toInCall.keep, codeAny_func ?_⟩
  obtain ⟨t, ht, hq⟩ := hbody A outer s H vs Q E (hr.deeper _) hsp
  have I : Inv (cxOf CX P w K mg base N qual scope f cdv A outer s H E) [] (start N vs) H s1 := inv_start S hr.hd e0 hl r x
  refine wpAny_mono (ht [] s1 (start N vs) H _ I hq) (fun fl s' hs => ?_) fun e s' hs => hs
  have fin : ∀ {σ' : St} {H' : Hp} {v : V} {u : Value}, Inv (cxOf CX P w K mg base N qual scope f cdv A outer s H E) [] σ' H' s' → RelV v u → Q v H' → CE outer P w H s Q u s' :=
    fun {σ' H' v u} J rv q => ⟨v, H', J.os, J.bare, J.base, J.hok, rv, q⟩
  cases fl with
  | ret u =>
    obtain ⟨v, σ', H', J, rv, q⟩ := hs
    exact fin J rv q
  | next =>
    obtain ⟨σ', H', J, q⟩ := hs
    exact fin (v := V.non) (u := Value.none) J rfl q
  | brk =>
    obtain ⟨_, _, _, q⟩ := hs
    exact False.elim q
  | cont =>
    obtain ⟨_, _, _, q⟩ := hs
    exact False.elim q
end L2
namespace L2
open PySem PySem.Spec PyProof.Rows
section
variable {X : Cx} {x : Str} {p pos : Pos} {e : Expr} {es : List Expr} {t : TA} {id T : String} {r : List V → Hp → VK → Prop}
noncomputable def tCB (r : List V → Hp → VK → Prop) (t : TA) : TE := fun σ H Q => t σ H fun vs H1 => r vs H1 Q
theorem pe_callB (hc : CallR X (.builtin id) r) (hg : Gl X x) (hm : X.mg x = none) (hv : bootBuiltins x = some (.builtin id)) (ha : PA X (e :: es) t) (hn : x ≠ "__name__" := by decide) (hdb : (x == ("__debug__" : Str)) = false := by decide)
    (he : starEach (e :: es) X.env = (false, eval e X.env) :: starEach es X.env := by rfl) (hpl : (backTo pos (starEach es X.env)).any (·.1) = false := by rfl) : PE X (.Call (.Name x p) (e :: es) [] pos) (tCB r t) := by
  intro pins s σ H Q I h
  refine wpAny_Call_Name_kw (ld_blt I hg hm hv ?_ hn hdb)
  exact PyProof.Rows.callWith_builtin1 (thn (ha pos pins s σ H _ I h) fun us s1 ⟨vs, H1, I1, r1, q1⟩ => hc pins s1 σ H1 vs us Q I1 r1 q1) he hpl
theorem pe_callTy (hc : CallR X (.type T) r) (hg : Gl X x) (hm : X.mg x = none) (hv : bootBuiltins x = some (.type T)) (ha : PA X (e :: es) t) (hn : x ≠ "__name__" := by decide) (hdb : (x == ("__debug__" : Str)) = false := by decide)
    (he : starEach (e :: es) X.env = (false, eval e X.env) :: starEach es X.env := by rfl) (hpl : (backTo pos (starEach es X.env)).any (·.1) = false := by rfl) : PE X (.Call (.Name x p) (e :: es) [] pos) (tCB r t) := by
  intro pins s σ H Q I h
  refine wpAny_Call_Name_kw (ld_blt I hg hm hv ?_ hn hdb)
  exact PyProof.Rows.callWith_type1 (thn (ha pos pins s σ H _ I h) fun us s1 ⟨vs, H1, I1, r1, q1⟩ => hc pins s1 σ H1 vs us Q I1 r1 q1) he hpl
end
end L2
namespace L2
open PySem PySem.Spec PyProof.Rows
section
variable {κ : Type} [DecidableEq κ]
theorem KV.length {kvs : List (κ × V)} {vs : List (κ × Value)} (r : KV kvs vs) : kvs.length = vs.length := Paired.length r
end
section
variable {P : Program} {w : World} {H : Hp} {h : Heap} {a : Addr}
end
section
variable {X : Cx} {pins : List (Addr × Obj)} {σ : St} {H : Hp} {s : Shared} {a : Addr} {y v : V} {u r : Value} {o : Option V} {A : Around} {E : Value → Shared → Prop}
end
section
variable {X : Cx} {pins : List (Addr × Obj)} {σ : St} {H : Hp} {s : Shared} {a : Addr} {kvs : List (Key × V)} {k : Key} {u : Value} {A : Around} {E : Value → Shared → Prop}
end
section
variable {X : Cx} {o i e value : Expr} {pos pos' tpos : Pos} {td ty tv : TE}
end
section
variable {X : Cx} {pos : Pos}
end
section
variable {X : Cx} {pins : List (Addr × Obj)} {σ : St} {H : Hp} {s : Shared} {a : Addr} {y d : V} {u r : Value} {o : Option V} {A : Around} {E : Value → Shared → Prop}
end
section
variable {X : Cx} {o e f : Expr} {apos cpos : Pos} {td ty tx : TE}
end
section
variable {X : Cx} {pins : List (Addr × Obj)} {σ : St} {H : Hp} {s : Shared} {a : Addr} {kvs : List (Key × V)} {A : Around} {E : Value → Shared → Prop}
end
section
variable {X : Cx} {pins : List (Addr × Obj)} {σ : St} {H : Hp} {s : Shared} {a : Addr} {y : V} {u : Value} {A : Around} {E : Value → Shared → Prop}
end
end L2
namespace HT
open PySem PyProof.Rows
noncomputable def lexLt : List Int → List Int → Bool
  | [], [] => false
  | [], _ :: _ => true
  | _ :: _, [] => false
  | x :: xs, y :: ys => if x = y then lexLt xs ys else decide (x < y)
section
open PySem.SeqAt
open PySem.AutoSeq1 (wpAny_loadPart')
open PySem.MeetsSeq PySem.MeetsSeq2 PySem.MeetsSeq3
end
section
variable {prog : Program} {w : World} {A : Around} {E : Value → Shared → Prop} {s : Shared}
theorem cat_tup {t b : Addr} {vs ws : List Value} {Q : Value → Shared → Prop} (ht : IsTup s.heap t vs.toArray) (hb : IsTup s.heap b ws.toArray) (hv : vs ≠ [])
    (h1 : ws = [] → Q (.ref t) s) (h2 : ws ≠ [] → Q (.ref s.heap.objs.size) { s with heap := s.heap.push { cls := .type "tuple", data := .seq (vs ++ ws).toArray } })
    (hsz : vs.length + ws.length ≤ sizeLine) : wpAny (model prog w) A (binaryOp .Add (.ref t) (.ref b)) Q E s := by
  obtain ⟨⟨cls, dd, data, sl⟩, ho, hc, n, hd⟩ := id ht
  obtain ⟨⟨cls2, dd2, data2, sl2⟩, ho2, hc2, n2, hd2⟩ := id hb
  simp only at hc hd hc2 hd2
  subst hc hd hc2 hd2
  have e : vs.toArray ++ ws.toArray = (vs ++ ws).toArray := by simp
  by_cases hw : ws = []
  · exact concat_meets ⟨_, ho, rfl⟩ ⟨_, ho2, rfl⟩ noFill_tuple_add seq_tuple_add PySem.F.slot_tuple_add PySem.F.entry_tuple_add (PySem.F.args_tuple_add_2 _ _)
      (tuple_addW1 t b vs.toArray ws.toArray n n2 dd dd2 sl sl2 (by simpa using hv) (by simp [hw])) ⟨ho, ho2, h1 hw⟩
  · refine concat_meets ⟨_, ho, rfl⟩ ⟨_, ho2, rfl⟩ noFill_tuple_add seq_tuple_add PySem.F.slot_tuple_add PySem.F.entry_tuple_add (PySem.F.args_tuple_add_2 _ _)
      (tuple_addW2 t b vs.toArray ws.toArray n n2 dd dd2 sl sl2 (by simpa using hv) (by simpa using hw) (by rw [List.size_toArray, List.size_toArray]; exact hsz)) ⟨ho, ho2, ?_⟩
    rw [e]
    exact h2 hw
noncomputable def sIx (n d : Nat) : Option Int → Nat
  | none => d
  | some v => if v < 0 then (v + (n : Int)).toNat else min v.toNat n
theorem sIx_le (n d : Nat) (hd : d ≤ n) (o : Option Int) : sIx n d o ≤ n := by
  cases o with
  | none => exact hd
  | some v =>
    show (if v < 0 then (v + (n : Int)).toNat else min v.toNat n) ≤ n
    by_cases hv : v < 0
    · rw [if_pos hv]; omega
    · rw [if_neg hv]; exact Nat.min_le_right _ _
theorem clip_eq (v : Int) (n d : Nat) : (if v < 0 then max (v + (n : Int)) 0 else min v (n : Int)) = ((sIx n d (some v) : Nat) : Int) := by
  show (if v < 0 then max (v + (n : Int)) 0 else min v (n : Int)) = (((if v < 0 then (v + (n : Int)).toNat else min v.toNat n) : Nat) : Int)
  by_cases hv : v < 0
  · simp only [if_pos hv]; omega
  · simp only [if_neg hv]; omega
theorem adjust_gen (lo hi : Option Int) (n : Nat) : Builtin.Slice.sliceAdjust lo hi 1 (n : Int) = (((sIx n 0 lo : Nat) : Int), ((sIx n n hi : Nat) : Int)) := by
  have h1 : ¬ ((1 : Int) < 0) := by omega
  unfold Builtin.Slice.sliceAdjust
  simp only [h1, if_false]
  refine Prod.ext ?_ ?_
  · cases lo with
    | none => rfl
    | some v => exact clip_eq v n 0
  · cases hi with
    | none => rfl
    | some v => exact clip_eq v n n
theorem places_gen (i j : Nat) : Builtin.Slice.slicePlaces (i : Int) (j : Int) 1 = j - i := by
  unfold Builtin.Slice.slicePlaces
  have h1 : (1 : Int) > 0 := by omega
  simp only [h1, if_true, Int.ediv_one]
  split <;> omega
theorem slicePart_ {v : Value} {o : Option Int} {Q : Option Int → Shared → Prop} (p : IsPart v o) (h : Q o s) : wpAny (model prog w) A (Builtin.Slice.slicePartIndex v) Q E s := by
  cases p with
  | none => exact slicePart_none h
  | int i t => exact slicePart_int h
theorem sliceApplied_gen {sl : Addr} {vl vu : Value} {lo hi : Option Int} {n : Nat} {Q : Int × Int × Nat → Shared → Prop} (hs : s.heap.IsSliceOf sl vl vu .none) (pl : IsPart vl lo) (pu : IsPart vu hi)
    (h : Q (((sIx n 0 lo : Nat) : Int), 1, sIx n n hi - sIx n 0 lo) s) : wpAny (model prog w) A (Builtin.Slice.sliceApplied (.ref sl) (pure (n : Int))) Q E s := by
  obtain ⟨os, hos, hcs, hds⟩ := id hs
  unfold Builtin.Slice.sliceApplied Builtin.Slice.sliceFields
  refine wpAny_bind (wpAny_bind (wpAny_field hos hds (x := vl) rfl (wpAny_bind (wpAny_field hos hds (x := vu) rfl (wpAny_bind (wpAny_field hos hds (x := .none) rfl (wpAny_pure ?_)))))))
  refine wpAny_bind (slicePart_none ?_)
  show wpAny _ _ (if ((1 : Int) == 0) = true then _ else _) _ _ s
  rw [if_neg (by decide)]
  refine wpAny_bind (slicePart_ pl (wpAny_bind (slicePart_ pu (wpAny_bind (wpAny_pure ?_)))))
  show wpAny _ _ (match Builtin.Slice.sliceAdjust lo hi 1 (n : Int) with | (lo, hi) => pure (lo, (1 : Int), Builtin.Slice.slicePlaces lo hi 1)) _ _ s
  rw [adjust_gen lo hi n]
  show wpAny _ _ (pure (((sIx n 0 lo : Nat) : Int), (1 : Int), Builtin.Slice.slicePlaces ((sIx n 0 lo : Nat) : Int) ((sIx n n hi : Nat) : Int) 1)) _ _ s
  rw [places_gen]
  exact wpAny_pure h
theorem pick_gen (xs : Array Value) (i k : Nat) : ((List.range k).filterMap fun (m : Nat) => xs[((i : Int) + (m : Int) * 1).toNat]?).toArray = ((xs.toList.drop i).take k).toArray := by
  have e : (fun (m : Nat) => xs[((i : Int) + (m : Int) * 1).toNat]?) = fun m => xs[i + m]? := by
    funext m
    have : ((i : Int) + (m : Int) * 1).toNat = i + m := by omega
    rw [this]
  rw [e]
  have := pick_run xs i k
  rw [List.filterMap_map] at this
  have e2 : ((fun x => xs[x]?) ∘ fun x => i + x) = fun m => xs[i + m]? := rfl
  rw [e2] at this
  rw [this]
theorem getItem_tuple_cut {t sl : Addr} {items : Array Value} {vl vu : Value} {lo hi : Option Int} {Q : Value → Shared → Prop} (ht : IsTup s.heap t items) (hs : s.heap.IsSliceOf sl vl vu .none) (pl : IsPart vl lo) (pu : IsPart vu hi)
    (hw : ¬ (sIx items.size 0 lo = 0 ∧ sIx items.size items.size hi = items.size))
    (h : Q (.ref s.heap.objs.size) { s with heap := s.heap.push { cls := .type "tuple", data := .seq ((items.toList.drop (sIx items.size 0 lo)).take (sIx items.size items.size hi - sIx items.size 0 lo)).toArray } })
    (hsz : items.size ≤ sizeLine) : wpAny (model prog w) A (getItem (.ref t) (.ref sl)) Q E s := by
  have htake : sizeOk (.seq ((items.toList.drop (sIx items.size 0 lo)).take (sIx items.size items.size hi - sIx items.size 0 lo)).toArray) := by
    show ((items.toList.drop (sIx items.size 0 lo)).take (sIx items.size items.size hi - sIx items.size 0 lo)).toArray.size ≤ sizeLine
    rw [List.size_toArray, List.length_take, List.length_drop, Array.length_toList]
    omega
  have hj : sIx items.size items.size hi ≤ items.size := sIx_le _ _ (Nat.le_refl _) hi
  obtain ⟨os, hos, hcs, hds⟩ := id hs
  have hTs : s.TypeIs (.ref sl) "slice" := ⟨os, hos, hcs⟩
  unfold getItem
  try with_reducible refine wpAny_holding ?_
  first | refine wpAny_bind (wpAny_pure ?_) | skip
  refine wpAny_bind (wpAny_sequenceKey ht.typeIs (by decide) ?_)
  refine wpAny_bind (wpAny_callSpecial?_slot (name := Str.ofString "__getitem__") ht.typeIs PyProof.Rows.slot_tuple_getitem
    (wpAny_call_entry PyProof.Rows.slot_tuple_getitem ht.typeIs entry_tuple_getitem ?_ (args_tuple_getitem _ _)))
  show wpAny _ _ (Builtin.Tuple.tupleItemsOf (.ref t) >>= _) _ _ s
  refine wpAny_bind (tupleItemsOf_ ht ?_)
  refine wpAny_bind (wpAny_typeOf hTs ?_)
  rw [if_pos (by decide)]
  refine wpAny_bind (sliceApplied_gen hs pl pu ?_)
  have hno : ¬ ((((sIx items.size 0 lo : Nat) : Int) == 0 && (1 : Int) == 1 && (sIx items.size items.size hi - sIx items.size 0 lo) == items.size) = true) := by
    intro q
    rw [Bool.and_eq_true, Bool.and_eq_true] at q
    have q1 : ((sIx items.size 0 lo : Nat) : Int) = 0 := eq_of_beq q.1.1
    have q2 : sIx items.size items.size hi - sIx items.size 0 lo = items.size := eq_of_beq q.2
    exact hw ⟨by omega, by omega⟩
  show wpAny _ _ (if (((sIx items.size 0 lo : Nat) : Int) == 0 && (1 : Int) == 1 && (sIx items.size items.size hi - sIx items.size 0 lo) == items.size) = true then _ else _) _ _ s
  rw [if_neg hno, pick_gen]
  first
    | exact wpAny_bind (m := Builtin.Tuple.tupleExact _) (wpAny_newObj_type (wpAny_pure ⟨_, rfl, wpAny_pure h⟩) htake)
    | exact wpAny_bind (m := Builtin.Tuple.tupleExact _) (wpAny_newObj_type (wpAny_bind (wpAny_pure (wpAny_pure ⟨_, rfl, wpAny_pure h⟩))) htake)
    | exact wpAny_bind (wpAny_bind (m := Builtin.Tuple.tupleExact _) (wpAny_newObj_type (wpAny_pure (wpAny_pure ⟨_, rfl, wpAny_pure h⟩)) htake))
    | exact wpAny_bind (wpAny_bind (m := Builtin.Tuple.tupleExact _) (wpAny_newObj_type (wpAny_pure ⟨_, rfl, wpAny_pure h⟩) htake))
end
end HT
namespace L2
open PySem PySem.Spec PyProof.Rows
noncomputable abbrev TO := St → Hp → (Option Int → Hp → Prop) → Prop
noncomputable def PO (X : Cx) (e : Option Expr) (t : TO) : Prop :=
  ∀ (pins : List (Addr × Obj)) (s : Shared) (σ : St) (H : Hp) (Q : Option Int → Hp → Prop), Inv X pins σ H s → t σ H Q →
    wpAny (model X.prog X.w) X.A (evalPart e X.env) (fun u s' => ∃ o H', Inv X pins σ H' s' ∧ IsPart u o ∧ Q o H') X.xe s
noncomputable def tNoPart : TO := fun _ H Q => Q none H
noncomputable def tPart (t : TE) : TO := fun σ H Q => t σ H fun x H1 => ∃ i, x = .int i ∧ Q (some i) H1
section
variable {X : Cx} {e : Expr} {te : TE} {lo hi : Option Expr} {tl th : TO} {pos p2 : Pos}
theorem po_none : PO X none tNoPart := by
  intro pins s σ H Q I h
  rw [evalPart_none]
  exact wpAny_pure ⟨none, H, I, .none, h⟩
theorem po_some (h : PE X e te) : PO X (some e) (tPart te) := by
  intro pins s σ H Q I hw
  rw [evalPart_some]
  refine thn (h pins s σ H _ I hw) fun u s1 ⟨x, H1, I1, r1, q1⟩ => ?_
  obtain ⟨i, rfl, q⟩ := q1
  obtain ⟨t, rfl⟩ := r1
  exact ⟨some i, H1, I1, .int i t, q⟩
noncomputable def SlR (X : Cx) (r : V → Option Int → Option Int → Hp → VK → Prop) : Prop :=
  ∀ (pins : List (Addr × Obj)) (s : Shared) (σ : St) (H : Hp) (x : V) (v vl vu : Value) (lo hi : Option Int) (sl : Addr) (Q : VK), Inv X pins σ H s → RelV x v → s.heap.IsSliceOf sl vl vu .none → IsPart vl lo → IsPart vu hi → r x lo hi H Q →
    ∃ T id, typeLookup (.type T) "__getitem__" = pure (some (.builtin id)) ∧ s.TypeIs v T ∧ wpAny (model X.prog X.w) X.A (getItem v (.ref sl)) (EP X pins σ Q) X.xe s
theorem SlR.or {r r' : V → Option Int → Option Int → Hp → VK → Prop} (h : SlR X r) (h' : SlR X r') : SlR X (fun x lo hi H Q => r x lo hi H Q ∨ r' x lo hi H Q) := by
  intro pins s σ H x v vl vu lo hi sl Q I rx hs pl pu q
  rcases q with q | q
  · exact h pins s σ H x v vl vu lo hi sl Q I rx hs pl pu q
  · exact h' pins s σ H x v vl vu lo hi sl Q I rx hs pl pu q
noncomputable def tSl (r : V → Option Int → Option Int → Hp → VK → Prop) (te : TE) (tl th : TO) : TE := fun σ H Q => te σ H fun x H1 => tl σ H1 fun l H2 => th σ H2 fun u H3 => r x l u H3 Q
theorem pe_slice {r : V → Option Int → Option Int → Hp → VK → Prop} (hr : SlR X r) (he : PE X e te) (hl : PO X lo tl) (hu : PO X hi th) : PE X (.Subscript e (.Slice lo hi none p2) pos) (tSl r te tl th) := by
  intro pins s σ H Q I h
  refine Subscript_ (thn (he pins s σ H _ I h) fun v s1 ⟨x, H1, I1, r1, q1⟩ => ?_)
  refine wpAny_Slice (thn (hl pins s1 σ H1 _ I1 q1) fun vl s2 ⟨l, H2, I2, pl, q2⟩ => thn (hu pins s2 σ H2 _ I2 q2) fun vu s3 ⟨u, H3, I3, pu, q3⟩ => ?_)
  rw [evalPart_none]
  refine wpAny_pure ?_
  have I4 : Inv X pins σ H3 { s3 with heap := s3.heap.push { cls := .type "slice", data := .fields #[vl, vu, .none] } } := I3.kept (t' := s3.toks) fun b ob q => Heap.get?_push_of_some _ q
  obtain ⟨T, id, hT, ht, hg⟩ := hr pins { s3 with heap := s3.heap.push { cls := .type "slice", data := .fields #[vl, vu, .none] } } σ H3 x v vl vu l u s3.heap.objs.size Q I4 r1 (Heap.IsSliceOf.new ..) pl pu q3
  show wpAny (model X.prog X.w) X.A (subscriptTail e (.Slice lo hi none p2) v (.ref s3.heap.objs.size)) (EP X pins σ Q) X.xe { s3 with heap := s3.heap.push { cls := .type "slice", data := .fields #[vl, vu, .none] } }
  exact tail_any (ops := [.ref s3.heap.objs.size, v]) ht hT hg (by with_unfolding_all rfl)
noncomputable def cutV (xs : List V) (lo hi : Option Int) : List V := (xs.drop (HT.sIx xs.length 0 lo)).take (HT.sIx xs.length xs.length hi - HT.sIx xs.length 0 lo)
theorem cutV_length (xs : List V) (lo hi : Option Int) : (cutV xs lo hi).length ≤ xs.length := by
  unfold cutV
  rw [List.length_take, List.length_drop]
  omega
noncomputable def rSlT (K : PySem.W.Frag) : V → Option Int → Option Int → Hp → VK → Prop := fun x lo hi H Q => ∃ a xs, x = .ref a ∧ SqT K H a xs ∧
  ¬ (HT.sIx xs.length 0 lo = 0 ∧ HT.sIx xs.length xs.length hi = xs.length) ∧ ∀ p, H p = none → Q (.ref p) (upd H p (.tup (cutV xs lo hi)))
theorem sl_tup : SlR X (rSlT X.K) := by
  intro pins s σ H x v vl vu lo hi sl Q I rx hs pl pu h
  obtain ⟨a, xs, rfl, hx, hw, q⟩ := h
  cases rx
  obtain ⟨its, r, ht, hz⟩ := I.tuple hx
  have hlen : its.toArray.size = xs.length := by rw [List.size_toArray]; exact r.length.symm
  refine ⟨"tuple", _, PyProof.Rows.slot_tuple_getitem.lookup, ht.typeIs, ?_⟩
  refine HT.getItem_tuple_cut ht hs pl pu (by rw [hlen]; exact hw) ?_ (by rw [hlen]; exact hz)
  rw [hlen]
  refine ⟨.ref s.heap.objs.size, _, I.laid (t' := s.toks) (o := .tup (cutV xs lo hi)) (fun b ob q => Heap.get?_push_of_some _ q) (Nat.le_refl _) ?_, rfl, q _ (I.hok.fresh (Nat.le_refl _))⟩
  exact ⟨Nat.le_trans (cutV_length xs lo hi) hz, _, (r.drop (HT.sIx xs.length 0 lo)).take (HT.sIx xs.length xs.length hi - HT.sIx xs.length 0 lo), IsTup.new _ _⟩
noncomputable def rCatT (K : PySem.W.Frag) : R2 := fun x y H Q => ∃ a b xs ys, x = .ref a ∧ y = .ref b ∧ SqT K H a xs ∧ SqT K H b ys ∧ xs ≠ [] ∧ xs.length + ys.length ≤ sizeLine ∧
  (ys = [] → Q (.ref a) H) ∧ (ys ≠ [] → ∀ p, H p = none → Q (.ref p) (upd H p (.tup (xs ++ ys))))
theorem Vals.nil_iff {xs : List V} {us : List Value} (r : Vals xs us) : us = [] ↔ xs = [] := by
  cases r with
  | nil => simp
  | cons _ _ => simp
theorem op_catT : OpR X (binaryOp .Add) (rCatT X.K) := by
  intro pins s σ H x y v u Q I rx ry h
  obtain ⟨a, b, xs, ys, rfl, rfl, ha, hb, hx, hz, q1, q2⟩ := h
  cases rx
  cases ry
  obtain ⟨its, r1, p1, _⟩ := I.tuple ha
  obtain ⟨its2, r2, p2, _⟩ := I.tuple hb
  refine HT.cat_tup p1 p2 (fun z => hx (r1.nil_iff.mp z)) (fun z => ⟨.ref a, H, I, rfl, q1 (r2.nil_iff.mp z)⟩) (fun z => ?_) (by rw [← r1.length, ← r2.length]; exact hz)
  refine ⟨.ref s.heap.objs.size, _, I.laid (t' := s.toks) (o := .tup (xs ++ ys)) (fun b ob q => Heap.get?_push_of_some _ q) (Nat.le_refl _) ?_, rfl, q2 (fun w => z (r2.nil_iff.mpr w)) _ (I.hok.fresh (Nat.le_refl _))⟩
  exact ⟨by rw [List.length_append]; exact hz, _, r1.append r2, IsTup.new _ _⟩
end
end L2
namespace L2
open PySem PySem.Spec PyProof.Rows
noncomputable def ixN (n : Nat) (i : Int) : Option Nat := if 0 ≤ i then (if i < n then some i.toNat else none) else if -(n : Int) ≤ i then some (i + n).toNat else none
noncomputable def atI {α : Type} (xs : List α) (i : Int) : Option α := (ixN xs.length i).bind fun j => xs[j]?
theorem ixN_seq {n : Nat} {i : Int} {j : Nat} (h : ixN n i = some j) : seqIndex? i n = some j ∧ j < n ∧ -(n : Int) ≤ i ∧ i < n := by
  unfold ixN at h
  by_cases h0 : 0 ≤ i
  · rw [if_pos h0] at h
    by_cases h1 : i < n
    · rw [if_pos h1] at h
      have e : i.toNat = j := Option.some.inj h
      exact ⟨by rw [seqIndex_of h0 h1, e], by omega, by omega, h1⟩
    · rw [if_neg h1] at h; cases h
  · rw [if_neg h0] at h
    by_cases h1 : -(n : Int) ≤ i
    · rw [if_pos h1] at h
      have e : (i + n).toNat = j := Option.some.inj h
      exact ⟨by rw [seqIndex_neg (by omega) h1, e], by omega, h1, by omega⟩
    · rw [if_neg h1] at h; cases h
theorem atI_get {α : Type} {xs : List α} {i : Int} {v : α} (h : atI xs i = some v) : ∃ j, seqIndex? i xs.length = some j ∧ xs[j]? = some v ∧ j < xs.length ∧ -(xs.length : Int) ≤ i ∧ i < xs.length := by
  unfold atI at h
  cases e : ixN xs.length i with
  | none => rw [e] at h; cases h
  | some j =>
    rw [e] at h
    obtain ⟨h1, h2, h3, h4⟩ := ixN_seq e
    exact ⟨j, h1, h, h2, h3, h4⟩
noncomputable def PlainIx (b : Expr) : Prop := ∀ o i, subscripted b false o i = operate [o, i] (getItem o i)
noncomputable def IxR (X : Cx) (r : R2) : Prop :=
  ∀ (value slice : Expr) (pins : List (Addr × Obj)) (s : Shared) (σ : St) (H : Hp) (x y : V) (v u : Value) (Q : VK), Inv X pins σ H s → RelV x v → RelV y u → r x y H Q →
    subscripted slice false v u = operate [v, u] (getItem v u) → wpAny (model X.prog X.w) X.A (subscriptTail value slice v u) (EP X pins σ Q) X.xe s
noncomputable def MtR (X : Cx) (id : String) (r : V → List V → Hp → VK → Prop) : Prop :=
  ∀ (pins : List (Addr × Obj)) (s : Shared) (σ : St) (H : Hp) (x : V) (xs : List V) (v : Value) (us : List Value) (Q : VK), Inv X pins σ H s → RelV x v → Vals xs us → r x xs H Q →
    wpAny (model X.prog X.w) X.A (call (.builtin id) (v :: us)) (EP X pins σ Q) X.xe s
section
variable {X : Cx} {a b : Expr} {ta tb : TE} {pos : Pos}
theorem IxR.or {r r' : R2} (h : IxR X r) (h' : IxR X r') : IxR X (fun x y H Q => r x y H Q ∨ r' x y H Q) := by
  intro value slice pins s σ H x y v u Q I rx ry q hs
  rcases q with q | q
  · exact h value slice pins s σ H x y v u Q I rx ry q hs
  · exact h' value slice pins s σ H x y v u Q I rx ry q hs
theorem pe_ix {r : R2} (hr : IxR X r) (ha : PE X a ta) (hb : PE X b tb) (hs : PlainIx b) : PE X (.Subscript a b pos) (tOp r ta tb) := by
  intro pins s σ H Q I h
  exact Subscript_ (binT ha hb I h fun v u s2 x y H2 I2 rx ry q => hr a b pins s2 σ H2 x y v u Q I2 rx ry q (hs _ _))
noncomputable def rIxL (K : PySem.W.Frag) : R2 := fun x y H Q => ∃ p xs i v, x = .ref p ∧ y = .int i ∧ SqL K H p xs ∧ atI xs i = some v ∧ Q v H
noncomputable def rIxT (K : PySem.W.Frag) : R2 := fun x y H Q => ∃ p xs i v, x = .ref p ∧ y = .int i ∧ SqT K H p xs ∧ atI xs i = some v ∧ Q v H
noncomputable def rIxS : R2 := fun x y H Q => ∃ z i c, x = .str z ∧ y = .int i ∧ z.length ≤ sizeLine ∧ atI z.cps.toList i = some c ∧ Q (.str ⟨#[c]⟩) H
theorem ix_list : IxR X (rIxL X.K) := by
  intro value slice pins s σ H x y v u Q I rx ry h hs
  obtain ⟨p, xs, i, z, rfl, rfl, hq, he, q⟩ := h
  cases rx
  obtain ⟨t, rfl⟩ := ry
  obtain ⟨its, r, pl, hz⟩ := I.list hq
  obtain ⟨j, h1, h2, h3, h4, h5⟩ := atI_get he
  obtain ⟨w, ew, rw'⟩ := r.get h2
  have hl := r.length
  have hn := line63
  have fin : EP X pins σ Q w s := ⟨z, H, I, rw', q⟩
  by_cases h0 : 0 ≤ i
  · have hj : i.toNat = j := by
      rw [seqIndex_of h0 h5] at h1
      exact Option.some.inj h1
    exact item_listR pl.isList h0 (by omega) (by rw [hj]; simpa using ew) fin hs
  · have hj : (i + (its.toArray.size : Int)).toNat = j := by
      rw [seqIndex_neg (by omega) h4] at h1
      rw [List.size_toArray, ← hl]
      exact Option.some.inj h1
    exact subscriptTail_builtinR (x := w) pl.isList.typeIs slot_list_getitem.lookup
      (wpAny_getItem_list_neg (Q := fun r s' => r = w ∧ EP X pins σ Q r s') pl.isList (by omega) (by rw [List.size_toArray] <;> omega) (by omega) (by rw [hj]; simpa using ew) ⟨rfl, fin⟩) hs
theorem ix_tup : IxR X (rIxT X.K) := by
  intro value slice pins s σ H x y v u Q I rx ry h hs
  obtain ⟨p, xs, i, z, rfl, rfl, hq, he, q⟩ := h
  cases rx
  obtain ⟨t, rfl⟩ := ry
  obtain ⟨its, r, pl, hz⟩ := I.tuple hq
  obtain ⟨j, h1, h2, h3, h4, h5⟩ := atI_get he
  obtain ⟨w, ew, rw'⟩ := r.get h2
  have hl := r.length
  have hn := line63
  have fin : EP X pins σ Q w s := ⟨z, H, I, rw', q⟩
  exact subscriptTail_builtinR (x := w) pl.typeIs slot_tuple_getitem.lookup
    (getItem_tuple (j := j) (Q := fun r s' => r = w ∧ EP X pins σ Q r s') pl (by omega) (by omega) (by rw [List.size_toArray, ← hl]; exact h1) (by simpa using ew) ⟨rfl, fin⟩) hs
theorem ix_str : IxR X rIxS := by
  intro value slice pins s σ H x y v u Q I rx ry h hs
  obtain ⟨z, i, c, rfl, rfl, hz, he, q⟩ := h
  obtain ⟨t, rfl⟩ := rx
  obtain ⟨t', rfl⟩ := ry
  obtain ⟨j, h1, h2, h3, h4, h5⟩ := atI_get he
  have hl : z.cps.toList.length = z.length := by simp [Str.length]
  rw [hl] at h1 h4 h5
  have hn := line63
  exact tail_any (typeIs_str s z t) slot_str_getitem.lookup (getItem_str (c := c) (by
    have e1 : decide (i < -(2 ^ 63 : Int)) = false := decide_eq_false (by omega)
    have e2 : decide (i ≥ 2 ^ 63) = false := decide_eq_false (by omega)
    rw [e1, e2, Bool.or_false]) (by rw [h1]; simpa using h2) ⟨.str ⟨#[c]⟩, H, I.tok _, ⟨_, rfl⟩, q⟩) hs
noncomputable def rIx (K : PySem.W.Frag) : R2 := fun x y H Q => rIxL K x y H Q ∨ rIxT K x y H Q ∨ rIxS x y H Q
theorem ix_seq : IxR X (rIx X.K) := ix_list.or (ix_tup.or ix_str)
theorem mapSeq_set (its : List Value) (n j : Nat) (u : Value) : Obj.mapSeq (·.setIfInBounds j u) { cls := .type "list", data := .seq its.toArray n } = { cls := .type "list", data := .seq (its.set j u).toArray n } := by
  simp [Obj.mapSeq]
theorem Inv.lst {pins : List (Addr × Obj)} {σ : St} {H : Hp} {s : Shared} {p : Addr} {xs : List V} (I : Inv X pins σ H s) (h : H p = some (.lst xs)) :
    ∃ (its : List Value) (n : Nat), Vals xs its ∧ s.heap.get? p = some { cls := .type "list", data := .seq its.toArray n } ∧ xs.length ≤ sizeLine := by
  obtain ⟨z, its, n, r, e⟩ := I.hok p _ h
  exact ⟨its, n, r, e, z⟩
theorem Inv.lstUpd {pins : List (Addr × Obj)} {σ : St} {H : Hp} {s : Shared} {p : Addr} {xs ys : List V} {its its' : List Value} {n n' : Nat} {f : Obj → Obj} (I : Inv X pins σ H s) (h : H p = some (.lst xs))
    (ho : s.heap.get? p = some { cls := .type "list", data := .seq its.toArray n }) (hf : f { cls := .type "list", data := .seq its.toArray n } = { cls := .type "list", data := .seq its'.toArray n' }) (r : Vals ys its') (hz : ys.length ≤ sizeLine) (t : Nat) :
    Inv X pins σ (upd H p (.lst ys)) { s with heap := s.heap.update p f, toks := t } := by
  have e : (s.heap.update p f).get? p = some { cls := .type "list", data := .seq its'.toArray n' } := by
    rw [Heap.get?_update_self f ho (by rw [hf] <;> rfl), hf]
  refine I.write (x := p) (e := p) (by rw [h]; trivial) (.inl rfl) (fun b u hb q => (Heap.get?_update_other _ _ (Ne.symm hb)).trans q) ⟨_, e⟩ ?_
  exact ⟨hz, its', n', r, e⟩
noncomputable def rSetL : V → V → V → Hp → (Hp → Prop) → Prop := fun o i v H Q => ∃ p xs k j, o = .ref p ∧ i = .int k ∧ H p = some (.lst xs) ∧ ixN xs.length k = some j ∧ Q (upd H p (.lst (xs.set j v)))
theorem set_list : PSet X rSetL := by
  intro pins s σ H o i v ov iv u Q I ro ri rv h
  obtain ⟨p, xs, k, j, rfl, rfl, hp, hj, q⟩ := h
  cases ro
  obtain ⟨t, rfl⟩ := ri
  obtain ⟨its, n, r, ho, hz⟩ := I.lst hp
  obtain ⟨h1, h2, h3, h4⟩ := ixN_seq hj
  have hl := r.length
  have hn := line63
  have I' : Inv X pins σ (upd H p (.lst (xs.set j v))) { s with heap := s.heap.update p (Obj.mapSeq (·.setIfInBounds j u)) } :=
    I.lstUpd hp ho (mapSeq_set its n j u) (r.set rv j) (by rw [List.length_set]; exact hz) s.toks
  by_cases h0 : 0 ≤ k
  · have hk : k.toNat = j := by
      rw [seqIndex_of h0 h4] at h1
      exact Option.some.inj h1
    exact PySem.W.ki_setAt ho h0 (by omega) (by rw [List.size_toArray, ← hl]; exact h4) (by rw [hk]; exact ⟨_, I', q⟩)
  · have hk : (k + (its.toArray.size : Int)).toNat = j := by
      rw [seqIndex_neg (by omega) h3] at h1
      rw [List.size_toArray, ← hl]
      exact Option.some.inj h1
    exact PySem.W.ki_setBack ho (by omega) (by rw [List.size_toArray, ← hl]; exact h3) (by omega) (by rw [hk]; exact ⟨_, I', q⟩)
theorem slice_bounds (lo hi : Option Int) (n : Nat) : (sliceBounds lo hi none n).1 = ((HT.sIx n 0 lo : Nat) : Int) ∧ (sliceBounds lo hi none n).2.1 = ((HT.sIx n n hi : Nat) : Int) ∧ (sliceBounds lo hi none n).2.2 = 1 := by
  refine ⟨?_, ?_, rfl⟩
  · cases lo with
    | none => simp [sliceBounds, HT.sIx]
    | some i =>
      simp only [sliceBounds, HT.sIx, Option.getD_none, show (1 : Int) > 0 by decide, if_true]
      by_cases h : i < 0
      · simp only [h, if_true] <;> omega
      · simp only [h, if_false] <;> omega
  · cases hi with
    | none => simp [sliceBounds, HT.sIx]
    | some i =>
      simp only [sliceBounds, HT.sIx, Option.getD_none, show (1 : Int) > 0 by decide, if_true]
      by_cases h : i < 0
      · simp only [h, if_true] <;> omega
      · simp only [h, if_false] <;> omega
theorem slicePick_cut (its : List Value) (lo hi : Option Int) : slicePick its.toArray lo hi none = ((its.drop (HT.sIx its.length 0 lo)).take (HT.sIx its.length its.length hi - HT.sIx its.length 0 lo)).toArray := by
  obtain ⟨h1, h2, h3⟩ := slice_bounds lo hi its.toArray.size
  unfold slicePick
  rw [h1, h2, h3]
  simp only [sliceRange_one, pick_run, List.size_toArray] <;> rfl
noncomputable def rSlL (K : PySem.W.Frag) : V → Option Int → Option Int → Hp → VK → Prop := fun x lo hi H Q => ∃ a xs, x = .ref a ∧ SqL K H a xs ∧ ∀ p, H p = none → Q (.ref p) (upd H p (.lst (cutV xs lo hi)))
theorem sl_list : SlR X (rSlL X.K) := by
  intro pins s σ H x v vl vu lo hi sl Q I rx hs pl pu h
  obtain ⟨a, xs, rfl, hx, q⟩ := h
  cases rx
  obtain ⟨its, r, ht, hz⟩ := I.list hx
  have hlen := r.length
  refine ⟨"list", _, slot_list_getitem.lookup, ht.isList.typeIs, ?_⟩
  refine wpAny_getItem_list_slice ht.isList hs pl pu .none (by simp) ?_ (by rw [List.size_toArray] <;> omega)
  rw [slicePick_cut, ← hlen]
  refine ⟨.ref s.heap.objs.size, _, I.laid (t' := s.toks) (o := .lst (cutV xs lo hi)) (fun b ob q => Heap.get?_push_of_some _ q) (Nat.le_refl _) ?_, rfl, q _ (I.hok.fresh (Nat.le_refl _))⟩
  exact ⟨Nat.le_trans (cutV_length xs lo hi) hz, _, 0, (r.drop (HT.sIx xs.length 0 lo)).take (HT.sIx xs.length xs.length hi - HT.sIx xs.length 0 lo), Heap.get?_push_size _ rfl⟩
noncomputable def flatV : V → Bool
  | .non => true
  | .bl _ => true
  | .int _ => true
  | .str _ => true
  | _ => false
noncomputable def eqV : V → V → Bool
  | .non, .non => true
  | .bl a, .bl b => a == b
  | .bl a, .int b => (if a then 1 else 0) == b
  | .int a, .bl b => a == (if b then 1 else 0)
  | .int a, .int b => a == b
  | .str a, .str b => a == b
  | _, _ => false
theorem eqAt_V {A : Around} {s : Shared} {y x : V} {u v : Value} (ry : RelV y u) (rx : RelV x v) (fy : flatV y = true) (fx : flatV x = true) : SeqAt.EqAt A s u v (eqV y x) := by
  cases y with
  | non =>
    cases ry
    cases x with
    | non => cases rx; exact SeqAt.EqAt.same _
    | bl b => cases rx; exact SeqAt.EqAt.none_bool b
    | int b => obtain ⟨t, rfl⟩ := rx; exact SeqAt.EqAt.none_int b t
    | str b => obtain ⟨t, rfl⟩ := rx; exact SeqAt.EqAt.none_str b t
    | _ => exact absurd (show false = true from fx) Bool.false_ne_true
  | bl a =>
    cases ry
    cases x with
    | non => cases rx; exact SeqAt.EqAt.bool_none a
    | bl b => cases rx; exact SeqAt.EqAt.bool_bool a b
    | int b => obtain ⟨t, rfl⟩ := rx; exact SeqAt.EqAt.bool_int a b t
    | str b => obtain ⟨t, rfl⟩ := rx; exact SeqAt.EqAt.bool_str a b t
    | _ => exact absurd (show false = true from fx) Bool.false_ne_true
  | int a =>
    obtain ⟨t', rfl⟩ := ry
    cases x with
    | non => cases rx; exact SeqAt.EqAt.int_none a t'
    | bl b => cases rx; exact SeqAt.EqAt.int_bool a t' b
    | int b => obtain ⟨t, rfl⟩ := rx; exact SeqAt.EqAt.int_int a t' b t
    | str b => obtain ⟨t, rfl⟩ := rx; exact SeqAt.EqAt.int_str a t' b t
    | _ => exact absurd (show false = true from fx) Bool.false_ne_true
  | str a =>
    obtain ⟨t', rfl⟩ := ry
    cases x with
    | non => cases rx; exact SeqAt.EqAt.str_none a t'
    | bl b => cases rx; exact SeqAt.EqAt.str_bool a t' b
    | int b => obtain ⟨t, rfl⟩ := rx; exact SeqAt.EqAt.str_int a t' b t
    | str b => obtain ⟨t, rfl⟩ := rx; exact SeqAt.EqAt.str_str a t' b t
    | _ => exact absurd (show false = true from fx) Bool.false_ne_true
  | _ => exact absurd (show false = true from fy) Bool.false_ne_true
noncomputable def eqU (x : V) (u : Value) : Bool := match u with
  | .none => eqV .non x
  | .bool b => eqV (.bl b) x
  | .int i _ => eqV (.int i) x
  | .str z _ => eqV (.str z) x
  | _ => false
theorem eqU_of {x y : V} {u : Value} (r : RelV y u) (f : flatV y = true) : eqU x u = eqV y x := by
  cases y with
  | non => cases r; rfl
  | bl b => cases r; rfl
  | int i => obtain ⟨t, rfl⟩ := r; rfl
  | str z => obtain ⟨t, rfl⟩ := r; rfl
  | _ => exact absurd (show false = true from f) Bool.false_ne_true
theorem any_eqU {x : V} : ∀ {xs : List V} {us : List Value}, Vals xs us → xs.all flatV = true → us.any (eqU x) = xs.any fun y => eqV y x
  | _, _, .nil, _ => rfl
  | y :: xs, u :: us, .cons r t, f => by
    rw [List.all_cons, Bool.and_eq_true] at f
    rw [List.any_cons, List.any_cons, eqU_of r f.1, any_eqU t f.2]
theorem mem_eqAt {A : Around} {s : Shared} {x : V} {v : Value} (rx : RelV x v) (fx : flatV x = true) : ∀ {xs : List V} {us : List Value}, Vals xs us → xs.all flatV = true → ∀ u ∈ us, SeqAt.EqAt A s u v (eqU x u)
  | _, _, .nil, _ => fun u hu => by cases hu
  | y :: xs, u :: us, .cons r t, f => fun u' hu => by
    rw [List.all_cons, Bool.and_eq_true] at f
    rcases List.mem_cons.mp hu with rfl | hu
    · rw [eqU_of r f.1]; exact eqAt_V r rx f.1 fx
    · exact mem_eqAt rx fx t f.2 u' hu
noncomputable def inV (x : V) (xs : List V) : Bool := xs.any fun y => eqV y x
noncomputable def rIn (K : PySem.W.Frag) (neg : Bool) : R2 := fun x y H Q => ∃ p xs, y = .ref p ∧ (SqL K H p xs ∨ SqT K H p xs) ∧ flatV x = true ∧ xs.all flatV = true ∧ Q (.bl (if neg then !inV x xs else inV x xs)) H
theorem op_notIn_seq : OpR X (compareOp .NotIn) (rIn X.K true) := by
  intro pins s σ H x y v u Q I rx ry h
  obtain ⟨p, xs, rfl, hq, fx, fs, q⟩ := h
  cases ry
  rcases hq with hq | hq
  · obtain ⟨its, r, pl, hz⟩ := I.list hq
    refine SeqAt.notIn_listAt (eqU x) pl.isList (fun w hw => mem_eqAt rx fx r fs w (by simpa using hw)) ⟨.bl _, H, I, rfl, ?_⟩
    rw [show its.toArray.any (eqU x) = its.any (eqU x) by simp, any_eqU r fs]
    exact q
  · obtain ⟨its, r, pl, hz⟩ := I.tuple hq
    refine SeqAt.notIn_tupleAt (eqU x) pl (fun w hw => mem_eqAt rx fx r fs w (by simpa using hw)) ⟨.bl _, H, I, rfl, ?_⟩
    rw [show its.toArray.any (eqU x) = its.any (eqU x) by simp, any_eqU r fs]
    exact q
theorem call_list_of : CallR X (.type "list") (fun xs H Q => ∃ p ys, xs = [.ref p] ∧ (SqL X.K H p ys ∨ SqT X.K H p ys) ∧ ∀ l, H l = none → Q (.ref l) (upd H l (.lst ys))) := by
  intro pins s σ H xs us Q I r h
  obtain ⟨p, ys, rfl, hq, q⟩ := h
  obtain ⟨u, rfl, rx⟩ := vals1 r
  cases rx
  have fin : ∀ (its : List Value), Vals ys its → ys.length ≤ sizeLine → ∀ (h' : Heap) (c' : Nat), (∀ b o', s.heap.get? b = some o' → h'.get? b = some o') →
      h'.get? s.heap.objs.size = some { cls := .type "list", dict := none, data := .seq its.toArray c', slots := #[] } → EP X pins σ Q (.ref s.heap.objs.size) { s with heap := h' } := fun its r' hz h' c' kp e =>
    ⟨.ref s.heap.objs.size, _, I.laid (t' := s.toks) kp (Nat.le_refl _) (show ObjOk X.prog X.w _ h' _ (.lst ys) from ⟨hz, its, c', r', e⟩), rfl, q _ (I.hok.fresh (Nat.le_refl _))⟩
  rcases hq with hq | hq
  · obtain ⟨its, r', pl, hz⟩ := I.list hq
    have hlen := r'.length
    obtain ⟨o, ho, hc, n, hd⟩ := pl.isList
    exact call_list_seq p (.inl rfl) ho hc hd (fun h' c' kp e => fin its r' hz h' c' kp e) (by simp only [List.size_toArray] <;> omega)
  · obtain ⟨its, r', pl, hz⟩ := I.tuple hq
    have hlen := r'.length
    obtain ⟨o, ho, hc, n, hd⟩ := pl
    exact call_list_seq p (.inr rfl) ho hc hd (fun h' c' kp e => fin its r' hz h' c' kp e) (by simp only [List.size_toArray] <;> omega)
theorem call_tuple_of : CallR X (.type "tuple") (fun xs H Q => ∃ p ys, xs = [.ref p] ∧ ((SqL X.K H p ys ∧ ∀ l, H l = none → Q (.ref l) (upd H l (.tup ys))) ∨ (SqT X.K H p ys ∧ Q (.ref p) H))) := by
  intro pins s σ H xs us Q I r h
  obtain ⟨p, ys, rfl, h⟩ := h
  obtain ⟨u, rfl, rx⟩ := vals1 r
  cases rx
  rcases h with ⟨hq, q⟩ | ⟨hq, q⟩
  · obtain ⟨its, r', pl, hz⟩ := I.list hq
    have hlen := r'.length
    refine call_tuple_list pl.isList (fun h' kp => ?_) (by simp only [List.size_toArray] <;> omega)
    have I1 : Inv X pins σ H { s with heap := h' } := I.kept (t' := s.toks) kp
    have I2 : Inv X pins σ (upd H h'.objs.size (.tup ys)) { s with heap := h'.push { cls := .type "tuple", data := .seq its.toArray } } :=
      I1.laid (t' := s.toks) (fun b o e => Heap.get?_push_of_some _ e) (Nat.le_refl _) (show ObjOk X.prog X.w _ _ _ (.tup ys) from ⟨hz, its, r', IsTup.new _ _⟩)
    exact ⟨.ref h'.objs.size, _, I2, rfl, q _ (I1.hok.fresh (Nat.le_refl _))⟩
  · obtain ⟨its, r', pl, hz⟩ := I.tuple hq
    exact call_tuple_same pl ⟨.ref p, H, I, rfl, q⟩
noncomputable def tyV (K : PySem.W.Frag) (T : String) (x : V) (H : Hp) : Prop := match x with
  | .str _ => T = "str"
  | .int _ => T = "int"
  | .ref p => (T = "list" ∧ ∃ xs, SqL K H p xs) ∨ (T = "tuple" ∧ ∃ o, K.lookup p = some o ∧ o.cls = .type "tuple" ∧ o.dict = none) ∨
      (T = "dict" ∧ ((∃ kvs, H p = some (.dK kvs)) ∨ ∃ kvs, H p = some (.dT kvs))) ∨ (T = "set" ∧ ∃ S n, H p = some (.set S n))
  | _ => False
theorem tyV_is {pins : List (Addr × Obj)} {σ : St} {H : Hp} {s : Shared} {T : String} {x : V} {v : Value} (I : Inv X pins σ H s) (r : RelV x v) (ty : tyV X.K T x H) :
    s.TypeIs v T ∧ ∀ a, v = .ref a → ∃ ob, s.heap.get? a = some ob ∧ ob.dict = none := by
  cases x with
  | str z =>
    obtain ⟨t, rfl⟩ := r
    cases (show T = "str" from ty)
    exact ⟨typeIs_str s z t, fun _ e => nomatch e⟩
  | int i =>
    obtain ⟨t, rfl⟩ := r
    cases (show T = "int" from ty)
    exact ⟨typeIs_int s i t, fun _ e => nomatch e⟩
  | ref p =>
    cases r
    rcases ty with ⟨rfl, xs, hq⟩ | ⟨rfl, o, hk, hc, hd⟩ | ⟨rfl, hk⟩ | ⟨rfl, S, n, hk⟩
    · obtain ⟨its, _, pl, _⟩ := I.list hq
      refine ⟨pl.isList.typeIs, fun a e => ?_⟩
      cases e
      obtain ⟨o, n, e, c, hd, _⟩ := pl
      exact ⟨o, e, hd⟩
    · refine ⟨⟨o, I.kIn p o hk, hc⟩, fun a e => ?_⟩
      cases e
      exact ⟨o, I.kIn _ o hk, hd⟩
    · have z : ∃ o, s.heap.get? p = some o ∧ o.ExactDict := by
        rcases hk with ⟨kvs, hk⟩ | ⟨kvs, hk⟩
        · obtain ⟨_, _, _, _, o, _, _, e, ex, _⟩ := I.hok p _ hk
          exact ⟨o, e, ex⟩
        · obtain ⟨_, _, _, _, o, _, _, e, ex, _⟩ := I.hok p _ hk
          exact ⟨o, e, ex⟩
      obtain ⟨o, e, ex⟩ := z
      refine ⟨⟨o, e, ex.1⟩, fun a e2 => ?_⟩
      cases e2
      exact ⟨o, e, ex.2.1⟩
    · obtain ⟨o, _, _, _, e, ex, _⟩ := I.hok p _ hk
      refine ⟨⟨o, e, ex.1⟩, fun a e2 => ?_⟩
      cases e2
      exact ⟨o, e, ex.2.1⟩
  | _ => exact False.elim ty
noncomputable def tBM0 (K : PySem.W.Frag) (T : String) (r : V → List V → Hp → VK → Prop) (to : TE) : TE := fun σ H Q => to σ H fun x H1 => tyV K T x H1 ∧ r x [] H1 Q
noncomputable def tBM (K : PySem.W.Frag) (T : String) (r : V → List V → Hp → VK → Prop) (to : TE) (t : TA) : TE := fun σ H Q => to σ H fun x H1 => tyV K T x H1 ∧ t σ H1 fun xs H2 => r x xs H2 Q
variable {o e : Expr} {es : List Expr} {to : TE} {t : TA} {name : Str} {apos cpos : Pos} {T id : String} {r : V → List V → Hp → VK → Prop}
theorem pe_bm0 (pa : PlainAttrs T) (slot : Slot T name id) (hty : typeOf (.builtin id) = pure (.type "method_descriptor")) (hm : MtR X id r) (ho : PE X o to)
    (hbase : attributeBase o name X.env (eval o X.env) = eval o X.env := by rfl) (hline : (apos.endLine == cpos.line) = true := by rfl) : PE X (.Call (.Attribute o name apos) [] [] cpos) (tBM0 X.K T r to) := by
  intro pins s σ H Q I h
  refine wpAny_Call_method0_late hbase hline (thn (ho pins s σ H _ I h) fun v s1 ⟨x, H1, I1, r1, ty, q1⟩ => ?_)
  obtain ⟨h1, h2⟩ := tyV_is I1 r1 ty
  exact ⟨T, id, pa, slot, hty, h1, h2, Calls.callWith_builtin rfl (PySem.evalArgs_none (hm pins s1 σ H1 x [] v [] Q I1 r1 .nil q1))⟩
theorem pe_bm (pa : PlainAttrs T) (slot : Slot T name id) (hty : typeOf (.builtin id) = pure (.type "method_descriptor")) (hm : MtR X id r) (ho : PE X o to) (ha : PA X (e :: es) t)
    (hbase : attributeBase o name X.env (eval o X.env) = eval o X.env := by rfl)
    (hfew : ((backTo cpos (starEach (e :: es) X.env)).all (fun x => !x.1) && (backToKw cpos (keywordEach [] X.env)).all (fun x => x.1.isSome)
      && decide ((e :: es).length + ([] : List Keyword).length + (if ([] : List Keyword).isEmpty then 0 else 1) < 30)) = true := by rfl)
    (hline : (apos.endLine == cpos.line) = true := by rfl) (hs : starEach (e :: es) X.env = (false, eval e X.env) :: starEach es X.env := by rfl) (hplain : (backTo cpos (starEach es X.env)).any (·.1) = false := by rfl) :
    PE X (.Call (.Attribute o name apos) (e :: es) [] cpos) (tBM X.K T r to t) := by
  intro pins s σ H Q I h
  refine wpAny_Call_method_late hbase hfew hline rfl (thn (ho pins s σ H _ I h) fun v s1 ⟨x, H1, I1, r1, ty, q1⟩ => ?_)
  obtain ⟨h1, h2⟩ := tyV_is I1 r1 ty
  refine ⟨T, id, pa, slot, hty, h1, h2, ?_⟩
  have hA := ha cpos pins s1 σ H1 _ I1 q1
  rw [hs] at hA ⊢
  refine Calls.callWith_builtin (by show (false || (backTo cpos (starEach es X.env)).any (·.1)) = false; rw [hplain] <;> rfl) (Calls.evalArgs_plain ?_)
  exact thn hA fun us s2 ⟨vs, H2, I2, r2, q2⟩ => hm pins s2 σ H2 x vs v us Q I2 r1 r2 q2
end
end L2
namespace L2
open PySem PySem.Spec PyProof.Rows
noncomputable def MtM (X : Cx) (id : String) (r : V → List V → Hp → VK → Prop) : Prop :=
  ∀ (pins : List (Addr × Obj)) (s : Shared) (σ : St) (H : Hp) (x : V) (xs : List V) (v : Value) (us : List Value) (Q : VK), Inv X pins σ H s → RelV x v → Vals xs us → r x xs H Q →
    wpAny (model X.prog X.w) X.A (call (.builtin id) (v :: us)) (EP X pins σ Q) X.xe s
theorem Vals.one : ∀ {x : V} {us : List Value}, Vals [x] us → ∃ u, us = [u] ∧ RelV x u
  | _, _, .cons r .nil => ⟨_, rfl, r⟩
theorem Vals.rep {xs : List V} {us : List Value} (h : Vals xs us) : ∀ k : Nat, Vals (List.replicate k xs).flatten (List.replicate k us).flatten
  | 0 => .nil
  | k + 1 => by
    rw [List.replicate_succ, List.replicate_succ, List.flatten_cons, List.flatten_cons]
    exact Vals.append h (Vals.rep h k)
theorem foldl_rep (its : List Value) : ∀ (k : Nat) (acc : List Value),
    List.foldl (fun x1 x2 => x1 ++ x2) acc.toArray (List.replicate k its.toArray) = (acc ++ (List.replicate k its).flatten).toArray
  | 0, acc => by simp
  | k + 1, acc => by
    have e : acc.toArray ++ its.toArray = (acc ++ its).toArray := by simp
    have e2 : (acc ++ its) ++ (List.replicate k its).flatten = acc ++ (List.replicate (k + 1) its).flatten := by
      rw [List.replicate_succ, List.flatten_cons, List.append_assoc]
    rw [← e2, ← foldl_rep its k (acc ++ its), ← e, List.replicate_succ, List.foldl_cons]
section
variable {X : Cx} {pins : List (Addr × Obj)} {σ : St} {H : Hp} {s : Shared} {l b : Addr} {xs ys zs : List V}
theorem Inv.lset {its its' : List Value} {n : Nat} {f : Array Value → Array Value} {t' : Nat} (I : Inv X pins σ H s) (hH : H l = some (.lst xs))
    (e : s.heap.get? l = some { cls := .type "list", data := .seq its.toArray n }) (hf : f its.toArray = its'.toArray) (hv : Vals ys its') (hz : ys.length ≤ sizeLine) :
    Inv X pins σ (upd H l (.lst ys)) { s with heap := s.heap.update l (Obj.mapSeq f), toks := t' } := by
  have q := PySem.IsL.update e f
  rw [hf] at q
  refine I.write (x := l) (e := l) (by rw [hH]; exact trivial) (.inl rfl) (fun b' u hb hu => (Heap.get?_update_other s.heap (Obj.mapSeq f) (Ne.symm hb)).trans hu) ⟨_, q⟩ ?_
  exact ⟨hz, its', _, hv, q⟩
theorem Inv.lnew {its : List Value} {t' : Nat} (I : Inv X pins σ H s) (hv : Vals ys its) (hz : ys.length ≤ sizeLine) :
    Inv X pins σ (upd H s.heap.objs.size (.lst ys)) { s with heap := s.heap.push { cls := .type "list", data := .seq its.toArray }, toks := t' } :=
  I.laid (fun _ _ q => Heap.get?_push_of_some _ q) (Nat.le_refl _) ⟨hz, its, 0, hv, Heap.get?_push_size _ rfl⟩
theorem Inv.fresh (I : Inv X pins σ H s) : H s.heap.objs.size = none := I.hok.fresh (Nat.le_refl _)
theorem Inv.lstM (I : Inv X pins σ H s) (hH : H l = some (.lst xs)) : xs.length ≤ sizeLine ∧ ∃ (its : List Value) (n : Nat), Vals xs its ∧ xs.length = its.length ∧ s.heap.get? l = some { cls := .type "list", data := .seq its.toArray n } := by
  obtain ⟨z, its, n, r, e⟩ := I.hok l _ hH
  exact ⟨z, its, n, r, r.length, e⟩
theorem notLongL {n : Nat} (h : n ≤ sizeLine) : Builtin.List.listTooLong n = false := by
  unfold Builtin.List.listTooLong
  exact decide_eq_false (by omega)
end
section
variable {X : Cx}
noncomputable def rAppend : V → List V → Hp → VK → Prop := fun x vs H Q => ∃ l xs y, x = .ref l ∧ vs = [y] ∧ H l = some (.lst xs) ∧ xs.length < sizeLine ∧ Q .non (upd H l (.lst (xs ++ [y])))
theorem mt_append : MtM X "list.append" rAppend := by
  intro pins s σ H x vs v us Q I rx rv h
  obtain ⟨l, xs, y, rfl, rfl, hH, hz, q⟩ := h
  cases rx
  obtain ⟨u, rfl, ru⟩ := rv.one
  obtain ⟨z, its, n, r, hl, e⟩ := I.lstM hH
  refine call_meets F.slot_list_append ⟨_, e, rfl⟩ F.entry_list_append (F.args_list_append_2 _ _) (PySem.list_append l its.toArray n u (by rw [List.size_toArray]; omega)) ⟨e, ?_⟩
  refine ⟨.non, _, I.lset (its' := its ++ [u]) hH e (by simp) (r.append (.cons ru .nil)) ?_, rfl, q⟩
  rw [List.length_append, List.length_singleton]
  omega
noncomputable def rExtend : V → List V → Hp → VK → Prop := fun x vs H Q => ∃ l b xs zs, x = .ref l ∧ vs = [.ref b] ∧ H l = some (.lst xs) ∧ H b = some (.lst zs) ∧ xs.length + zs.length ≤ sizeLine ∧ Q .non (upd H l (.lst (xs ++ zs)))
theorem mt_extend : MtM X "list.extend" rExtend := by
  intro pins s σ H x vs v us Q I rx rv h
  obtain ⟨l, b, xs, zs, rfl, rfl, hH, hB, hz, q⟩ := h
  cases rx
  obtain ⟨u, rfl, ru⟩ := rv.one
  cases ru
  obtain ⟨z, its, n, r, hl, e⟩ := I.lstM hH
  obtain ⟨z2, its2, n2, r2, hl2, e2⟩ := I.lstM hB
  have hsz : its.toArray.size + its2.toArray.size ≤ sizeLine := by rw [List.size_toArray, List.size_toArray]; omega
  have hlong : ¬ (!its.toArray.isEmpty && Builtin.List.listTooLong (its.toArray.size + its2.toArray.size)) = true := by
    rw [notLongL hsz, Bool.and_false]
    exact Bool.false_ne_true
  refine call_meets F.slot_list_extend ⟨_, e, rfl⟩ F.entry_list_extend (F.args_list_extend_2 _ _)
    (AutoSeq1.list_extend_list_list_0 l its.toArray n b its2.toArray n2 hlong (by rw [List.size_toArray]; omega) (by omega)) ⟨e, e2, ?_⟩
  refine ⟨.non, _, I.lset (its' := its ++ its2) hH e (by simp) (r.append r2) ?_, rfl, q⟩
  rw [List.length_append]
  omega
noncomputable def rCat : R2 := fun x y H Q => ∃ l b xs zs, x = .ref l ∧ y = .ref b ∧ H l = some (.lst xs) ∧ H b = some (.lst zs) ∧ xs.length + zs.length ≤ sizeLine ∧ ∀ p, H p = none → Q (.ref p) (upd H p (.lst (xs ++ zs)))
theorem op_cat : OpR X (binaryOp .Add) rCat := by
  intro pins s σ H x y v u Q I rx ry h
  obtain ⟨l, b, xs, zs, rfl, rfl, hH, hB, hz, q⟩ := h
  cases rx
  cases ry
  obtain ⟨z, its, n, r, hl, e⟩ := I.lstM hH
  obtain ⟨z2, its2, n2, r2, hl2, e2⟩ := I.lstM hB
  refine PySem.P.add_list e e2 ?_ (by rw [List.size_toArray, List.size_toArray]; omega)
  have ea : its.toArray ++ its2.toArray = (its ++ its2).toArray := by simp
  rw [ea]
  exact ⟨.ref _, _, I.lnew (t' := s.toks) (r.append r2) (by rw [List.length_append]; omega), rfl, q _ I.fresh⟩
noncomputable def rRep : R2 := fun x y H Q => ∃ l k xs, x = .ref l ∧ y = .int k ∧ H l = some (.lst xs) ∧ -(2 ^ 63) ≤ k ∧ k < 2 ^ 63 ∧ xs.length * k.toNat ≤ sizeLine ∧
  ∀ p, H p = none → Q (.ref p) (upd H p (.lst (List.replicate k.toNat xs).flatten))
theorem len_rep {α : Type} (xs : List α) (k : Nat) : (List.replicate k xs).flatten.length = k * xs.length := by
  induction k with
  | zero => simp
  | succ k ih => rw [List.replicate_succ, List.flatten_cons, List.length_append, ih, Nat.succ_mul, Nat.add_comm]
theorem op_rep : OpR X (binaryOp .Mult) rRep := by
  intro pins s σ H x y v u Q I rx ry h
  obtain ⟨l, k, xs, rfl, rfl, hH, h1, h2, hz, q⟩ := h
  cases rx
  obtain ⟨t, rfl⟩ := ry
  obtain ⟨z, its, n, r, hl, e⟩ := I.lstM hH
  have hlen : its.toArray.size * k.toNat ≤ sizeLine := by rw [List.size_toArray, ← hl]; exact hz
  have hcap : ¬ its.toArray.size * k.toNat > (2 ^ 63 - 1) / 8 := by
    have : (sizeLine : Nat) ≤ (2 ^ 63 - 1) / 8 := by decide
    omega
  have hfit : ¬ (!Builtin.List.listFitsIndex k) = true := by
    rw [fitsIndex_both h1 h2]
    exact Bool.false_ne_true
  have hlong : ¬ Builtin.List.listTooLong (its.toArray.size * k.toNat) = true := by
    rw [notLongL hlen]
    exact Bool.false_ne_true
  have hnew : List.foldl (fun x1 x2 => x1 ++ x2) #[] (List.replicate (if its.toArray.isEmpty = true then 0 else k.toNat) its.toArray) = (List.replicate k.toNat its).flatten.toArray := by
    have f0 : ∀ m : Nat, List.foldl (fun x1 x2 => x1 ++ x2) #[] (List.replicate m its.toArray) = (List.replicate m its).flatten.toArray := fun m => by
      have := foldl_rep its m []
      rw [List.nil_append] at this
      exact this
    rw [f0]
    cases its with
    | nil => simp
    | cons a r' => rw [if_neg (by simp)]
  refine wpAny_binaryOp_repeat_ref (T := "list") (U := "int") (by decide) ⟨_, e, rfl⟩ (fun s' => typeIs_int s' k t) noFill_list_mul F.fills_int_mul F.slot_int_rmul repeat_list F.slot_int_index.lookup
    (call_meets F.slot_int_rmul (typeIs_int s k t) F.entry_int_rmul (F.args_int_rmul_2 _ _) (int___rmul___int_list k t l its.toArray n)
      ⟨e, rfl, ⟨_, e, rfl⟩, call_meets F.slot_list_mul ⟨_, e, rfl⟩ F.entry_list_mul (F.args_list_mul_2 _ _) (AutoListH.list___mul___list_int_3 l its.toArray n k t hfit hcap hlong) ⟨e, ?_⟩⟩)
  rw [hnew]
  exact ⟨.ref _, _, I.lnew (t' := s.toks) (r.rep k.toNat) (by rw [len_rep, Nat.mul_comm]; exact hz), rfl, q _ I.fresh⟩
end
section
variable {prog : Program} {w : World} {A : Around} {E : Value → Shared → Prop} {s : Shared}
end
section
variable {X : Cx}
end
end L2
namespace Att
open PySem PySem.W PySem.Calls PyProof.Rows
theorem ints_of_wellAll {P : Params} {h : Heap} : ∀ (ns : List Int) (vs : List Value), WellAll P h vs (ns.map WData.int) → IntsAre vs ns := by
  intro ns
  induction ns with
  | nil =>
    intro vs w
    rw [List.map_nil] at w
    cases w
    exact .nil
  | cons n ns ih =>
    intro vs w
    rw [List.map_cons] at w
    cases w with
    | cons a b =>
      cases a
      exact .cons _ _ (ih _ b)
theorem script_of {l : OpenLaw} {n : Nat} (hn : l.most = some n) {P : Params} {h : Heap} {args : List WData} {vals : List Value}
    (hpre : l.row.toRowW.claim.pre args = true) (hwl : WellAll P h vals args) :
    ∃ a vs ns, vals = [Value.ref a] ∧ args = [WData.list (ns.map WData.int)] ∧ h.get? a = some { cls := .type "list", data := .seq vs.toArray } ∧ IntsAre vs ns ∧ ns.length ≤ n := by
  have hsh : WShape.hasAll [] args [.list .int] = true := (pre_splitW hpre).1
  have hc : l.pre.holds [] { args := args } = true := (pre_splitW hpre).2
  obtain ⟨d, r, rfl, h1, h2⟩ := hasAllW_cons hsh
  obtain rfl := hasAllW_nil h2
  obtain ⟨xs, rfl, h3⟩ := hasW_list h1
  obtain ⟨ns, rfl⟩ := items_int h3
  have hlen : ns.length ≤ n := by
    unfold OpenLaw.pre at hc
    have h4 : (WTm.not (.lt (.lit (.int (n : Int))) (.len (.arg 0)))).holds [] { args := [.list (ns.map .int)] } = true := by
      have h4 := (holds_andW hc).1
      rw [hn] at h4
      exact h4
    have h5 := condW_of h4 (w_not (w_lt w_lit (w_len_list (w_arg rfl))))
    rw [List.length_map] at h5
    refine Nat.le_of_not_lt fun q => ?_
    have q' : (n : Int) < ((ns.length : Nat) : Int) := by omega
    first
      | (rw [decide_eq_true q'] at h5; exact absurd h5 (by decide))
      | (simp at h5; omega)
  cases hwl with
  | cons w1 w2 =>
    cases w2
    cases w1 with
    | list ho hall => exact ⟨_, _, ns, rfl, rfl, ho, ints_of_wellAll ns _ hall, hlen⟩
theorem post_true (l : OpenLaw) (args : List WData) : l.row.toRowW.claim.post args (.bool true) args = true :=
  postW_of (r := l.row.toRowW) (X := (true == true))
    (show WShape.has [] (.bool true) .bool = true by first | rfl | decide | simp [WShape.has, WShape.arms, WShape.armsAll])
    (show (WTm.eq .res (.lit (.bool true))).value [] { args := args, res := some (.bool true), after := args } = some (.bool (true == true)) from w_eq_bool (w_res rfl) w_lit) rfl
section
variable {prog : Program} {w : World} {A : Around} {E : Value → Shared → Prop} {s : Shared} {K : Frag}
end
end Att
namespace L2
open PySem PySem.Spec PyProof.Rows
theorem vals_ints : ∀ {vs : List Value} {ns : List Int}, IntsAre vs ns → Vals (ns.map V.int) vs
  | _, _, .nil => .nil
  | _, _, .cons n t h => .cons ⟨t, rfl⟩ (vals_ints h)
noncomputable def Only (H : Hp) : Prop := ∀ b, H b = none ∨ ∃ o xs, H b = some (.frz o (.lst xs))
theorem law_call {P : Program} {w : World} {K : PySem.W.Frag} {mg mb : Str → Option Value} {CX : CXT} {k : Nat} {fa a : Addr} {fd : FuncData} {x : Str} {sp : Sp} {s₁ : Shared} {vs : List Value} {ns : List Int}
    (KX : K.In s₁.heap) (hns : s₁.heap.Ns mainGlobals mg) (hb : s₁.heap.Ns builtinsNs mb) (hbb : ∀ x : Str, x ≠ "__name__" → mb x = bootBuiltins x) (hlim : s₁.heap.NoLimit) (hg : s₁.gens = #[])
    (ha : s₁.heap.get? a = some { cls := .type "list", data := .seq vs.toArray }) (hi : IntsAre vs ns) (hl : ns.length ≤ sizeLine) (hr : Room k callerA)
    (F : ∀ base : Heap, K.In base → base.Ns mainGlobals mg → FnOk P w K mg base CX k fa fd [x] sp) (hbind : ∀ (s : Shared) (u : Value), BindsTo s fd ⟨[u], []⟩ [(x, u)])
    (hsp : ∀ H : Hp, Only H → SqL K H a (ns.map V.int) → sp [.ref a] H (fun v _ => v = .bl true) fun _ _ _ => False)
    (hCX : ∀ H e s', CX [] H s₁ (fun _ _ _ => False) e s' → False) :
    codeAny (model P w) callerA (.call (.ref fa) ⟨[.ref a], []⟩) (fun r s' => r = .ok (.ret (.bool true)) ∧ OldK s₁.heap s'.heap ∧ s'.os = s₁.os ∧ AllBare s'.gens) s₁ := by
  have rv := vals_ints hi
  have lenV := hi.length
  have core : ∀ H : Hp, Only H → SqL K H a (ns.map V.int) → HOk P w H s₁.heap → (∀ b, H b ≠ none → b = a) → (H a ≠ none → K.lookup a = none) →
      codeAny (model P w) callerA (.call (.ref fa) ⟨[.ref a], []⟩) (fun r s' => r = .ok (.ret (.bool true)) ∧ OldK s₁.heap s'.heap ∧ s'.os = s₁.os ∧ AllBare s'.gens) s₁ := by
    intro H hO hS hok hA hK
    have base_of : ∀ {b : Addr} {o : Obj}, s₁.heap.get? b = some o → H b = none → (hidT s₁.heap H).get? b = some o := fun e n => hidT_get e n
    have noA : ∀ {b : Addr} {o : Obj} {es : Array DictEntry} {ep : Nat}, s₁.heap.get? b = some o → o.data = .dict es ep → H b = none := fun {b o es ep} e d => by
      cases q : H b with
      | none => rfl
      | some u =>
        have e' : b = a := hA b (by rw [q]; simp)
        subst e'
        rw [ha] at e; cases e
        have d' : Data.seq vs.toArray _ = Data.dict es ep := d
        cases d'
    have nsK : ∀ {b : Addr} {m : Str → Option Value}, s₁.heap.Ns b m → (hidT s₁.heap H).Ns b m := fun {b m} ⟨o, es, ep, e, d, r⟩ => ⟨o, es, ep, base_of e (noA e d), d, r⟩
    have hKb : K.In (hidT s₁.heap H) := fun b o e => base_of (KX b o e) (by
      cases q : H b with
      | none => rfl
      | some u =>
        have e' : b = a := hA b (by rw [q]; simp)
        subst e'
        rw [hK (by rw [q]; simp)] at e; cases e)
    have hM : Mod K mg (hidT s₁.heap H) := ⟨hKb, nsK hns, ⟨mb, nsK hb, hbb⟩, let ⟨mc, h1, h2⟩ := hlim; ⟨mc, nsK h1, h2⟩⟩
    have e0 : Env0 P w K mg (hidT s₁.heap H) callerA [] s₁ H := ⟨rfl, hM, fun b o e => of_hidT e, Nat.le_of_eq (hidT_size _ _), trivial, fun b hb => absurd (show b ∈ ([] : List Addr) from hb) (by simp), hok, .of_eq hg⟩
    refine codeAny_mono ((F _ hKb (nsK hns)).run callerA [] s₁ H ⟨[.ref a], []⟩ [.ref a] [.ref a] _ _ hr e0 (hbind s₁ (.ref a)) (.cons rfl .nil) (hsp H hO hS)) fun r s' h => ?_
    cases r with
    | error e => exact (hCX H e s' h).elim
    | ok fl =>
      cases fl with
      | next => exact False.elim h
      | brk => exact False.elim h
      | cont => exact False.elim h
      | ret u =>
        obtain ⟨v, H', os, bare, un, hok', r', q⟩ := h
        have q' : v = .bl true := q
        subst q'
        obtain rfl : u = Value.bool true := r'
        refine ⟨rfl, OldK.of_keep fun b o e => ?_, os, bare⟩
        cases q : H b with
        | none => exact un.keep b o e q (by intro z; exact absurd (show b ∈ ([] : List Addr) from z) (by simp)) (by simp)
        | some u =>
          rcases hO b with z | ⟨ob, xs, z⟩
          · rw [q] at z; cases z
          · have z2 := un.frzs b ob _ z
            obtain ⟨e1, _⟩ := hok b _ z
            obtain ⟨e2, _⟩ := hok' b _ z2
            rw [e] at e1; cases e1
            exact e2
  cases hk : K.lookup a with
  | some o =>
    have e := KX a o hk
    rw [ha] at e
    cases e
    refine core (fun _ => none) (fun _ => .inl rfl) (.inr ⟨_, vs.toArray, _, hk, rfl, rfl, rfl, by rw [List.size_toArray, lenV]; exact hl, by simpa using rv⟩) (fun b u z => by have z' : (none : Option HO) = some u := z; cases z') (fun b z => absurd rfl z) fun z => absurd rfl z
  | none =>
    refine core (fun b => if b = a then some (.frz { cls := .type "list", data := .seq vs.toArray } (.lst (ns.map V.int))) else none) (fun b => ?_) (.inl (.inr ⟨{ cls := .type "list", data := .seq vs.toArray }, if_pos rfl⟩)) (fun b u z => ?_) (fun b z => ?_) fun _ => hk
    · by_cases hb : b = a
      · exact .inr ⟨_, _, if_pos hb⟩
      · exact .inl (if_neg hb)
    · by_cases hb : b = a
      · have z' := (if_pos hb).symm.trans z
        cases z'
        subst hb
        exact ⟨ha, by rw [List.length_map]; exact hl, vs, _, rv, ha⟩
      · have z' := (if_neg hb).symm.trans z
        cases z'
    · by_cases hb : b = a
      · exact hb
      · exact absurd (if_neg hb) z
end L2
namespace L2
open PySem PySem.Spec PyProof.Rows
end L2
namespace L2
open PySem PySem.Spec PyProof.Rows
noncomputable def defArgs (s : Stmt) : Arguments := match s with
  | .FunctionDef _ a _ _ _ _ _ _ _ _ => a
  | _ => { posonlyargs := [], args := [], vararg := none, kwonlyargs := [], kw_defaults := [], kwarg := none, defaults := [] }
noncomputable def defBody (s : Stmt) : List Stmt := match s with
  | .FunctionDef _ _ b _ _ _ _ _ _ _ => b
  | _ => []
noncomputable def defScope (s : Stmt) : Scope := match s with
  | .FunctionDef _ _ _ _ _ _ sc _ _ _ => sc
  | _ => { kind := .function, names := [], isGenerator := false, isCoroutine := false }
noncomputable abbrev CX0 : CXT := fun _ _ _ _ _ _ => False
noncomputable abbrev E0 : XK := fun _ _ _ => False
theorem pass0 {X : Cx} : Passes CX0 X E0 := fun _ _ _ _ _ _ _ h => h.elim
structure Fun (K : PySem.W.Frag) (x qual : Str) (st : Stmt) (f : Addr) (fd : FuncData) : Prop where
  ex : ∃ (oc : Value) (od : Option Addr) (dV kV doc pm : Value) (an : Option Addr) (cdv ct : Value) (osl : Array (Option Value)),
    fd = PySem.W.fnOf x qual (defArgs st) (defBody st) (defScope st) dV kV doc pm an cdv ct ∧ K.lookup f = some ⟨oc, od, .func fd, osl⟩ ∧ PySem.W.codeIn K cdv qual = true
  kp : PySem.W.keepIn K (.ref f) = true
section
variable {P : Program} {w : World} {K : PySem.W.Frag} {mg : Str → Option Value} {base : Heap}
theorem Fun.ok {x qual : Str} {st : Stmt} {f : Addr} {fd : FuncData} {N ps : List Str} {k : Nat} {sp : Sp} (F : Fun K x qual st f fd) (S : FnScope N ps (defScope st)) (len : ∀ vs H Q E, sp vs H Q E → vs.length = ps.length)
    (hbody : ∀ (cdv : Value) (A : Around) (outer : List Env) (s : Shared) (H : Hp) (vs : List V) (Q : VK) (E : XK), Room k (A.deeper (envOfC qual (defScope st) s.heap.objs.size f cdv)) → sp vs H Q E →
      ∃ t, PSs (cxOf CX0 P w K mg base N qual (defScope st) f cdv A outer s H E).nox (defBody st) t ∧ t { nx := fun _ H' => Q .non H', rt := Q } (start N vs) H) : FnOk P w K mg base CX0 (k + 1) f fd ps sp := by
  obtain ⟨oc, od, dV, kV, doc, pm, an, cdv, ct, osl, rfl, lk, hcd⟩ := F.ex
  refine fn_of lk hcd S len fun A outer s H vs Q E hr hsp => ?_
  obtain ⟨t, h, q⟩ := hbody cdv A outer s H vs Q E hr hsp
  exact ⟨t, h.nox, q⟩
theorem fun_mk {x qual : Str} {st : Stmt} {f : Addr} {oc : Value} {od an : Option Addr} {osl : Array (Option Value)} {dV kV doc pm cdv ct : Value} (l : K.lookup f = some ⟨oc, od, .func (PySem.W.fnOf x qual (defArgs st) (defBody st) (defScope st) dV kV doc pm an cdv ct), osl⟩)
    (c : PySem.W.codeIn K cdv qual = true) (k : PySem.W.keepIn K (.ref f) = true) : Fun K x qual st f (PySem.W.fnOf x qual (defArgs st) (defBody st) (defScope st) dV kV doc pm an cdv ct) := ⟨⟨oc, od, dV, kV, doc, pm, an, cdv, ct, osl, rfl, l, c⟩, k⟩
end
section
variable {X : Cx}
theorem pv (i : Nat) {x : Str} {pos : Pos} (hN : X.N[i]? = some x := by rfl) (hv : Vis X.env.scope x := by trivial) (hd : (x == ("__debug__" : Str)) = false := by decide)
    (hcd : (x == ("__classdict__" : Str)) = false := by decide) : PE X (.Name x pos) (tVar i) := pe_var hN hv hd hcd
end
theorem iteF {A B : Prop} (h : B) : if false = true then A else B := by
  rw [if_neg Bool.false_ne_true]
  exact h
theorem iteT {A B : Prop} (h : A) : if true = true then A else B := by
  rw [if_pos rfl]
  exact h
noncomputable def Same (H H' : Hp) : Prop := ∀ b o, H b = some o → H' b = some o
theorem Same.trans {H H1 H2 : Hp} (a : Same H H1) (b : Same H1 H2) : Same H H2 := fun c o h => b c o (a c o h)
end L2
namespace L2
open PySem PySem.Spec PyProof.Rows
theorem relabel_lookup {env : Env} : ∀ {names : List (Str × NameKind)} {x : Str},
    (names.map fun (n, k) => if (k == NameKind.free && env.scope.kind == .function && env.kindOf n == some .cell) then (n, NameKind.cell) else (n, k)).lookup x
      = (names.lookup x).map fun k => if (k == NameKind.free && env.scope.kind == .function && env.kindOf x == some .cell) then NameKind.cell else k
  | [], _ => rfl
  | (n, k) :: r, x => by
    have ih := @relabel_lookup env r x
    show List.lookup x ((if (k == NameKind.free && env.scope.kind == .function && env.kindOf n == some .cell) = true then (n, NameKind.cell) else (n, k)) :: _) = _
    cases hx : x == n with
    | true =>
      have e : x = n := beq_iff_eq.mp hx
      subst e
      by_cases hc : (k == NameKind.free && env.scope.kind == .function && env.kindOf x == some .cell) = true
      · rw [if_pos hc]; simp only [List.lookup_cons, hx, Option.map_some]; rw [if_pos hc]
      · rw [if_neg hc]; simp only [List.lookup_cons, hx, Option.map_some]; rw [if_neg hc]
    | false =>
      by_cases hc : (k == NameKind.free && env.scope.kind == .function && env.kindOf n == some .cell) = true
      · rw [if_pos hc]; simp only [List.lookup_cons, hx]; exact ih
      · rw [if_neg hc]; simp only [List.lookup_cons, hx]; exact ih
theorem relabel_free {scope : Scope} {env : Env} {x : Str} (h : scope.names.lookup x = some .free) : (relabel scope env).names.lookup x = some .cell ∨ (relabel scope env).names.lookup x = some .free := by
  have e : (relabel scope env).names.lookup x = _ := relabel_lookup (env := env) (names := scope.names) (x := x)
  rw [e, h, Option.map_some]
  split
  · exact .inl rfl
  · exact .inr rfl
theorem relabel_back {scope : Scope} {env : Env} {x : Str} (h : (relabel scope env).names.lookup x = some .cell ∨ (relabel scope env).names.lookup x = some .free) : scope.names.lookup x = some .cell ∨ scope.names.lookup x = some .free := by
  have e : (relabel scope env).names.lookup x = _ := relabel_lookup (env := env) (names := scope.names) (x := x)
  rw [e] at h
  cases q : scope.names.lookup x with
  | none => rw [q] at h; simp at h
  | some k =>
    rw [q, Option.map_some] at h
    by_cases hc : (k == NameKind.free && env.scope.kind == .function && env.kindOf x == some .cell) = true
    · have : (k == NameKind.free) = true := by
        rw [Bool.and_eq_true, Bool.and_eq_true] at hc; exact hc.1.1
      have : k = .free := by simpa using this
      subst this; exact .inr rfl
    · rw [if_neg hc] at h
      rcases h with h | h
      · exact .inl h
      · exact .inr h
noncomputable def closL (cells : List (Str × Addr)) : List (Str × NameKind) → List (Str × Addr) → List (Str × Addr)
  | [], acc => acc
  | (n, k) :: r, acc => if k == .free then closL cells r ((n, (cells.lookup n).getD 0) :: acc) else closL cells r acc
theorem closureFor_eq {scope : Scope} {env : Env} (h : ∀ n, (n, NameKind.free) ∈ scope.names → (env.cells.lookup n).isSome = true) : closureFor scope env = pure (closL env.cells scope.names []) := by
  have all : ∀ (names : List (Str × NameKind)) (acc : List (Str × Addr)), (∀ n, (n, NameKind.free) ∈ names → (env.cells.lookup n).isSome = true) →
      (forIn names acc fun x cs => (if x.2 == NameKind.free then do let c ← cellOf env x.1; pure (ForInStep.yield ((x.1, c) :: cs)) else pure (ForInStep.yield cs) : Sem (ForInStep (List (Str × Addr))))) = pure (closL env.cells names acc) := by
    intro names
    induction names with
    | nil => intro acc _; rfl
    | cons p r ih =>
      intro acc hp
      obtain ⟨n, k⟩ := p
      rw [List.forIn_cons]
      by_cases hk : (k == NameKind.free) = true
      · have ek : k = .free := by simpa using hk
        obtain ⟨c, hc⟩ := Option.isSome_iff_exists.mp (hp n (by rw [ek]; exact List.mem_cons_self))
        have e1 : cellOf env n = pure c := by unfold cellOf; rw [hc]
        dsimp only
        rw [if_pos hk, e1]
        have e2 : closL env.cells ((n, k) :: r) acc = closL env.cells r ((n, c) :: acc) := by
          show (if k == .free then _ else _) = _
          rw [if_pos hk, hc]; rfl
        rw [e2, ← ih ((n, c) :: acc) fun m hm => hp m (List.mem_cons_of_mem _ hm)]
        rfl
      · dsimp only
        rw [if_neg hk]
        have e2 : closL env.cells ((n, k) :: r) acc = closL env.cells r acc := by
          show (if k == .free then _ else _) = _
          rw [if_neg hk]
        rw [e2, ← ih acc fun m hm => hp m (List.mem_cons_of_mem _ hm)]
        rfl
  have q := all scope.names [] h
  unfold closureFor
  show ((forIn scope.names [] fun x cs => (if x.2 == NameKind.free then do let c ← cellOf env x.1; pure (ForInStep.yield ((x.1, c) :: cs)) else pure (ForInStep.yield cs) : Sem (ForInStep (List (Str × Addr))))) >>= fun cs => pure cs) = _
  rw [q]
  rfl
theorem closL_mem {cells : List (Str × Addr)} : ∀ {names : List (Str × NameKind)} {acc : List (Str × Addr)} {n : Str} {c : Addr}, (n, c) ∈ closL cells names acc → (n, c) ∈ acc ∨ ((n, NameKind.free) ∈ names ∧ (cells.lookup n).getD 0 = c)
  | [], _, _, _, h => .inl h
  | (m, k) :: r, acc, n, c, h => by
    have h : (n, c) ∈ (if k == .free then closL cells r ((m, (cells.lookup m).getD 0) :: acc) else closL cells r acc) := h
    by_cases hk : (k == NameKind.free) = true
    · rw [if_pos hk] at h
      have ek : k = .free := by simpa using hk
      rcases closL_mem h with q | ⟨q1, q2⟩
      · rcases List.mem_cons.mp q with q | q
        · cases q
          exact .inr ⟨by rw [ek]; exact List.mem_cons_self, rfl⟩
        · exact .inl q
      · exact .inr ⟨List.mem_cons_of_mem _ q1, q2⟩
    · rw [if_neg hk] at h
      rcases closL_mem h with q | ⟨q1, q2⟩
      · exact .inl q
      · exact .inr ⟨List.mem_cons_of_mem _ q1, q2⟩
theorem closL_has {cells : List (Str × Addr)} : ∀ {names : List (Str × NameKind)} {acc : List (Str × Addr)} {n : Str}, ((n, NameKind.free) ∈ names ∨ ∃ c, (n, c) ∈ acc) → ∃ c, (n, c) ∈ closL cells names acc
  | [], _, _, h => h.elim (fun z => nomatch z) id
  | (m, k) :: r, acc, n, h => by
    show ∃ c, (n, c) ∈ (if k == .free then closL cells r ((m, (cells.lookup m).getD 0) :: acc) else closL cells r acc)
    by_cases hk : (k == NameKind.free) = true
    · rw [if_pos hk]
      refine closL_has ?_
      rcases h with h | ⟨c, h⟩
      · rcases List.mem_cons.mp h with h | h
        · cases h; exact .inr ⟨_, List.mem_cons_self⟩
        · exact .inl h
      · exact .inr ⟨c, List.mem_cons_of_mem _ h⟩
    · rw [if_neg hk]
      refine closL_has ?_
      rcases h with h | ⟨c, h⟩
      · rcases List.mem_cons.mp h with h | h
        · cases h; exact absurd rfl hk
        · exact .inl h
      · exact .inr ⟨c, h⟩
theorem lookup_of_mem_all {α : Type} {n : Str} {c : α} : ∀ {l : List (Str × α)}, (n, c) ∈ l → (∀ d, (n, d) ∈ l → d = c) → l.lookup n = some c
  | [], h, _ => nomatch h
  | (m, d) :: r, h, all => by
    rw [List.lookup_cons]
    cases hb : n == m with
    | true =>
      have e : n = m := beq_iff_eq.mp hb
      subst e
      rw [all d List.mem_cons_self]
    | false =>
      rcases List.mem_cons.mp h with q | q
      · cases q; simp at hb
      · exact lookup_of_mem_all q fun d' hd => all d' (List.mem_cons_of_mem _ hd)
theorem cellsFrom_app : ∀ (names : List (Str × NameKind)) (n : Nat) (acc : List (Str × Addr)), cellsFrom n names acc = cellsFrom n names [] ++ acc
  | [], _, _ => rfl
  | (x, k) :: r, n, acc => by
    unfold cellsFrom
    split
    · rw [cellsFrom_app r (n + 1) ((x, n) :: acc), cellsFrom_app r (n + 1) [(x, n)], List.append_assoc]; rfl
    · exact cellsFrom_app r n acc
theorem cellsFrom_kind : ∀ {names : List (Str × NameKind)} {n : Nat} {x : Str} {c : Addr}, (x, c) ∈ cellsFrom n names [] → (x, NameKind.cell) ∈ names
  | [], _, _, _, h => nomatch h
  | (y, k) :: r, n, x, c, h => by
    unfold cellsFrom at h
    split at h
    · rename_i hk
      have ek : k = .cell := by simpa using hk
      rw [cellsFrom_app] at h
      rcases List.mem_append.mp h with q | q
      · exact List.mem_cons_of_mem _ (cellsFrom_kind q)
      · cases List.mem_singleton.mp q
        rw [ek]; exact List.mem_cons_self
    · exact List.mem_cons_of_mem _ (cellsFrom_kind h)
theorem lookup_nodup {α : Type} {n : Str} {c d : α} : ∀ {l : List (Str × α)}, (l.map (·.1)).Nodup → l.lookup n = some c → (n, d) ∈ l → d = c
  | [], _, _, h => nomatch h
  | (m, e) :: r, hn, hl, hm => by
    have hn : (m :: r.map (·.1)).Nodup := hn
    obtain ⟨h1, h2⟩ := List.nodup_cons.mp hn
    rw [List.lookup_cons] at hl
    cases hb : n == m with
    | true =>
      rw [hb] at hl
      have e1 : n = m := beq_iff_eq.mp hb
      subst e1
      rcases List.mem_cons.mp hm with q | q
      · cases q; cases hl; rfl
      · exact absurd (List.mem_map.mpr ⟨(n, d), q, rfl⟩) h1
    | false =>
      rw [hb] at hl
      rcases List.mem_cons.mp hm with q | q
      · cases q; simp at hb
      · exact lookup_nodup h2 hl q
noncomputable def cxComp (X : Cx) (N' : List Str) (scope : Scope) (s : Shared) (H : Hp) (fp : List Addr) : Cx :=
  { X with N := N', s₀ := s, H₀ := H, env := compEnvC scope (cellsFrom (s.heap.objs.size + 1) scope.names (closL X.env.cells scope.names [])) s.heap.objs.size X.env, outer := X.stack, ex := fp, fn := fun x => scope.names.lookup x == some .cell, pn := [], xe := fun _ _ => False }
noncomputable def compSt (js : List (Option Nat)) (σ : St) : St := js.map fun j => match j with
  | some j => (σ[j]?).getD none
  | none => none
noncomputable def frB (X : Cx) (scope : Scope) : Bool := scope.names.all fun p => p.2 != .free || X.env.kindOf p.1 == some .cell || X.env.kindOf p.1 == some .free
noncomputable def atB (X : Cx) (N' : List Str) (js : List (Option Nat)) (scope : Scope) : Bool := (js.zip N').all fun p => match p.1 with
  | none => true
  | some j => X.N[j]? == some p.2 && scope.names.lookup p.2 == some .free
structure CompOk (X : Cx) (N' : List Str) (js : List (Option Nat)) (scope : Scope) : Prop where
  kind : scope.kind = .function
  nd : (scope.names.map (·.1)).Nodup
  frb : frB X scope = true
  len : js.length = N'.length
  atb : atB X N' js scope = true
theorem CompOk.fr {X : Cx} {N' : List Str} {js : List (Option Nat)} {scope : Scope} (C : CompOk X N' js scope) : ∀ n, (n, NameKind.free) ∈ scope.names → X.env.kindOf n = some .cell ∨ X.env.kindOf n = some .free := fun n hn => by
  have h := List.all_eq_true.mp C.frb (n, .free) hn
  simp only [Bool.or_eq_true, bne_iff_ne, ne_eq, not_true_eq_false, false_or, beq_iff_eq] at h
  exact h
theorem CompOk.at_ {X : Cx} {N' : List Str} {js : List (Option Nat)} {scope : Scope} (C : CompOk X N' js scope) : ∀ (i j : Nat), js[i]? = some (some j) → ∃ x, N'[i]? = some x ∧ X.N[j]? = some x ∧ scope.names.lookup x = some .free := fun i j hj => by
  have hi : i < js.length := (List.getElem?_eq_some_iff.mp hj).1
  have hi' : i < N'.length := by rw [← C.len]; exact hi
  have hz : (js.zip N')[i]? = some (some j, N'[i]) := by
    rw [List.getElem?_zip_eq_some]
    exact ⟨hj, by simp [hi']⟩
  have h := List.all_eq_true.mp C.atb _ (List.mem_of_getElem? hz)
  simp only [Bool.and_eq_true, beq_iff_eq] at h
  exact ⟨N'[i], by simp [hi'], h.1, h.2⟩
section
variable {X : Cx} {pins : List (Addr × Obj)} {σ : St} {H : Hp} {s : Shared} {N' : List Str} {js : List (Option Nat)} {scope : Scope} {fp : List Addr}
theorem comp_start (I : Inv X pins σ H s) (C : CompOk X N' js scope) (hf : ∀ b ∈ fp, FpOk X pins H b) (ho : ∀ b ∈ fp, ∃ o, s.heap.get? b = some o) :
    Inv (cxComp X N' scope s H fp) [] (compSt js σ) H { s with heap := pushCells (s.heap.push { cls := .type "dict", data := .dict #[] }) scope.names } := by
  have keep : ∀ b o, s.heap.get? b = some o → (pushCells (s.heap.push { cls := .type "dict", data := .dict #[] }) scope.names).get? b = some o := fun b o e => pushCells_keeps _ _ b o (Heap.get?_push_of_some _ e)
  have new := cellsFrom_ok scope.names (s.heap.push { cls := .type "dict", data := .dict #[] }) (s.heap.objs.size + 1) [] ⟨fun _ _ hm => (nomatch hm), List.Pairwise.nil⟩ (by rw [Heap.size_push]; exact Nat.le_refl _)
  rw [Heap.size_push] at new
  have old : ∀ n c, (n, c) ∈ closL X.env.cells scope.names [] → X.env.cells.lookup n = some c := fun n c h => by
    rcases closL_mem h with q | ⟨q1, q2⟩
    · exact nomatch q
    · obtain ⟨d, hd⟩ := I.ok.has n (C.fr n q1)
      rw [hd] at q2
      rw [hd]; exact congrArg some q2
  have oldlt : ∀ n c, X.env.cells.lookup n = some c → c < s.heap.objs.size := fun n c h => by
    obtain ⟨v, q⟩ := I.cell n c h
    exact q.lt
  have mem : ∀ n c, (cxComp X N' scope s H fp).env.cells.lookup n = some c → (n, c) ∈ cellsFrom (s.heap.objs.size + 1) scope.names [] ∨ X.env.cells.lookup n = some c := fun n c h => by
    have h : (cellsFrom (s.heap.objs.size + 1) scope.names (closL X.env.cells scope.names [])).lookup n = some c := h
    rw [cellsFrom_app] at h
    rcases List.mem_append.mp (PySem.mem_of_lookup h) with q | q
    · exact .inl q
    · exact .inr (old n c q)
  have lt : ∀ b ∈ fp, b < s.heap.objs.size := fun b hb => let ⟨_, e⟩ := ho b hb; Heap.lt_size e
  have fre : ∀ x c, scope.names.lookup x = some .free → X.env.cells.lookup x = some c → (cxComp X N' scope s H fp).env.cells.lookup x = some c := fun x c hx hc => by
    show (cellsFrom (s.heap.objs.size + 1) scope.names (closL X.env.cells scope.names [])).lookup x = some c
    have hm := PySem.mem_of_lookup hx
    obtain ⟨d, hd⟩ := closL_has (cells := X.env.cells) (acc := []) (.inl hm)
    have ed : ∀ d', (x, d') ∈ closL X.env.cells scope.names [] → d' = c := fun d' h' => Option.some.inj ((old x d' h').symm.trans hc)
    refine lookup_of_mem_all ?_ fun d' h' => ?_
    · rw [cellsFrom_app, ← ed d hd]; exact List.mem_append_right _ hd
    · rw [cellsFrom_app] at h'
      rcases List.mem_append.mp h' with q | q
      · exact absurd (lookup_nodup C.nd hx (cellsFrom_kind q)) (by decide)
      · exact ed d' q
  refine ⟨⟨I.ok.mod, C.kind, I.ok.glob, I.ok.blt, Nat.le_refl _, fun x y c h1 h2 => ?_, fun x hx => ?_, fun x c hx h => ?_, I.ok.hd, I.ok.frames, .inl rfl, fun b hb => ⟨Nat.ne_of_lt (lt b hb), fun x c h z => ?_⟩, fun b o e => I.bs b o e, Nat.le_trans I.ok.bsz I.sz, fun b o e hb => ?_, fun b hb z => ?_, I.stack, I.stkFree⟩,
    rfl, I.bare, Un.kept keep, ⟨_, (Heap.Ns.new s.heap (.type "dict")).keeps (pushCells_keeps _ _), fun i x v h1 h2 h3 => ?_⟩, fun x c h => ?_, I.hok.fresh (Nat.le_refl _), fun x c h => ?_, fun p hp => absurd (show p ∈ ([] : List (Addr × Obj)) from hp) (by simp), I.hok.kept keep, ?_⟩
  · rcases mem x c h1 with p1 | p1 <;> rcases mem y c h2 with p2 | p2
    · exact name_of_addr new.apart p1 p2
    · exact absurd (Nat.lt_of_lt_of_le (oldlt y c p2) (Nat.le_trans (Nat.le_succ _) (new.empty x c p1).2)) (Nat.lt_irrefl _)
    · exact absurd (Nat.lt_of_lt_of_le (oldlt x c p1) (Nat.le_trans (Nat.le_succ _) (new.empty y c p2).2)) (Nat.lt_irrefl _)
    · exact I.ok.inj x y c p1 p2
  · rcases relabel_back (scope := scope) (env := X.env) hx with q | q
    · exact Option.isSome_iff_exists.mp (PySem.W.cellsFrom_some scope.names _ _ (.inl q))
    · obtain ⟨c, hc⟩ := I.ok.has x (C.fr x (PySem.mem_of_lookup q))
      exact ⟨c, fre x c q hc⟩
  · have hx : scope.names.lookup x = some .cell := by simpa [cxComp] using hx
    rcases mem x c h with q | q
    · exact Nat.le_trans (Nat.le_succ _) (new.empty x c q).2
    ·
      have e : (cellsFrom (s.heap.objs.size + 1) scope.names (closL X.env.cells scope.names [])).lookup x = some c := h
      rw [cellsFrom_app, List.lookup_append] at e
      obtain ⟨d, hd⟩ := Option.isSome_iff_exists.mp (PySem.W.cellsFrom_some scope.names (s.heap.objs.size + 1) [] (.inl hx))
      rw [hd] at e
      cases e
      exact Nat.le_trans (Nat.le_succ _) (new.empty x _ (PySem.mem_of_lookup hd)).2
  · rcases mem x c h with q | q
    · have := (new.empty x c q).2
      rw [z] at this
      exact absurd (Nat.lt_of_lt_of_le (lt b hb) (Nat.le_trans (Nat.le_succ _) this)) (Nat.lt_irrefl _)
    · exact (hf b hb).2.2.2.2.1 x c q z
  · obtain ⟨_, _, _, h1, _⟩ := hf b hb
    rcases h1 with h1 | h1
    · exact I.ok.noex b o e h1
    · exact absurd (Nat.lt_of_lt_of_le (Heap.lt_size (I.ok.bs b o e).1) h1) (Nat.lt_irrefl _)
  · obtain ⟨_, h1, h2, _⟩ := hf b hb
    exact (List.mem_cons.mp (I.stkSub b z)).elim h1 h2
  ·
    obtain ⟨j, hj, hv⟩ : ∃ j, js[i]? = some (some j) ∧ (σ[j]?).getD none = some v := by
      have h2 : (js.map fun j => match j with | some j => (σ[j]?).getD none | none => none)[i]? = some (some v) := h2
      rw [List.getElem?_map] at h2
      cases e : js[i]? with
      | none => rw [e] at h2; cases h2
      | some o =>
        rw [e] at h2
        cases o with
        | none => cases h2
        | some j => exact ⟨j, rfl, Option.some.inj h2⟩
    obtain ⟨y, e1, e2, e3⟩ := C.at_ i j hj
    have exy : y = x := Option.some.inj (e1.symm.trans (show N'[i]? = some x from h1))
    rw [exy] at e2 e3
    have hs : σ[j]? = some (some v) := by
      cases e : σ[j]? with
      | none => rw [e] at hv; cases hv
      | some o => rw [e] at hv; exact congrArg some hv
    have kx := C.fr x (PySem.mem_of_lookup e3)
    obtain ⟨m, hn, hl⟩ := I.loc
    obtain ⟨u, r, l⟩ := hl j x v e2 hs (kx.elim (fun z => .inr (.inl z)) fun z => .inr (.inr z))
    refine ⟨u, r, .inr ⟨relabel_free e3, ?_⟩⟩
    rcases l with ⟨k, _⟩ | ⟨_, c, hc, hcell⟩
    · rcases kx with z | z
      · rw [z] at k; cases k
      · rw [z] at k; cases k
    · exact ⟨c, fre x c e3 hc, hcell.keeps keep⟩
  · rcases mem x c h with q | q
    · exact ⟨none, (new.empty x c q).1⟩
    · obtain ⟨v, z⟩ := I.cell x c q
      exact ⟨v, z.keeps keep⟩
  · rcases mem x c h with q | q
    · exact I.hok.fresh (Nat.le_trans (Nat.le_succ _) (new.empty x c q).2)
    · exact I.freeC x c q
  · show (compSt js σ).length = N'.length
    unfold compSt
    rw [List.length_map, C.len]
theorem comp_env {M : Model} {A : Around} {E : Value → Shared → Prop} {env : Env} {cl : List (Str × Addr)} {Q : Env → Shared → Prop}
    (h : Q (newEnv scope s.heap.objs.size env.globals (cellsFrom (s.heap.objs.size + 1) scope.names cl) env.qual none .none (some env) builtinsNs) { s with heap := pushCells (s.heap.push { cls := .type "dict", data := .dict #[] }) scope.names }) :
    wpAny M A (newFunctionEnv scope env.globals cl [] env.qual none .none (some env)) Q E s := by
  simp only [newFunctionEnv, Option.isSome_some, if_true]
  refine wpAny_bind (wpAny_alloc ?_)
  refine wpAny_bind (wpAny_layCells _ (fun name kind cells => by cases hkc : kind == NameKind.cell <;> simp [hkc]) _ _ _ _ ?_)
  rw [show ({ s with heap := s.heap.push { cls := .type "dict", data := .dict #[] } } : Shared).heap.objs.size = s.heap.objs.size + 1 from Heap.size_push ..]
  simp only [List.forIn_nil]
  exact wpAny_bind (wpAny_pure (wpAny_pure h))
noncomputable def PF (X : Cx) (ifs : List Expr) (t : TT) : Prop :=
  ∀ (pins : List (Addr × Obj)) (s : Shared) (σ : St) (H : Hp) (Q : Bool → Hp → Prop), Inv X pins σ H s → t σ H Q →
    wpAny (model X.prog X.w) X.A (forIn ifs true fun c r => if r = true then do let ok ← isTrue c X.env (eval c X.env); pure (ForInStep.yield ok) else pure (ForInStep.yield r)) (TP X pins σ Q) X.xe s
noncomputable def tNoIf : TT := fun _ H Q => Q true H
theorem pf_nil : PF X [] tNoIf := fun _ _ _ H _ I h => wpAny_tests_nil ⟨H, I, h⟩
theorem pf_one {c : Expr} {t : TT} (h : PT X c t) : PF X [c] t := fun pins s σ H Q I q => wpAny_tests_one (h pins s σ H Q I q)
theorem compLoop_any {prog : Program} {w : World} {A : Around} {R : Result → Shared → Prop} {s : Shared} {elt target iter : Expr} {ifs : List Expr} {scope : Scope} {pos : Pos} {it acc : Value} {env : Env} (I : Nat → Shared → Prop)
    (turn : ∀ n s, I n s → wpAny (model prog w) A (pyNext it) (fun r s₁ => match r with
      | none => R (.ok .next) s₁
      | some v => wpAny (model prog w) A (letOwnedTupleGo target it v) (fun _ s₀ => wpAny (model prog w) A (assign target env v) (fun _ s₂ =>
          wpAny (model prog w) A (forIn ifs true fun c r => if r = true then do let ok ← isTrue c env (eval c env); pure (ForInStep.yield ok) else pure (ForInStep.yield r)) (fun ok s₃ =>
            if ok = true then wpAny (model prog w) A (eval elt env) (fun x s₄ =>
              wpAny (model prog w) A (call (.builtin "list.append") [acc, x]) (fun _ s₅ => ∃ m, m < n ∧ I m s₅) (notedBy (model prog w) A env fun e s' => R (.error e) s') s₄) (notedBy (model prog w) A env fun e s' => R (.error e) s') s₃
            else ∃ m, m < n ∧ I m s₃) (notedBy (model prog w) A env fun e s' => R (.error e) s') s₂) (notedBy (model prog w) A env fun e s' => R (.error e) s') s₀) (notedBy (model prog w) A env fun e s' => R (.error e) s') s₁) (notedBy (model prog w) A env fun e s' => R (.error e) s') s)
    (n : Nat) (h : I n s) : codeAny (model prog w) A (.compLoop (.ListComp elt [⟨target, iter, ifs, 0⟩] scope pos) 0 it acc env) R s := by
  refine codeAny_loop rfl I (fun n s hI => ?_) n h
  show wpAny _ A ((compTurn (.ListComp elt [⟨target, iter, ifs, 0⟩] scope pos) 0 it acc env).onRaise (fun x => do noteFrame x env; theTreesLotGoes x)) _ _ s
  refine wpAny_noted ?_
  rw [compTurn_list]
  refine wpAny_bind (wpAny_standAt (wpAny_bind (wpAny_mono (turn n s hI) (fun r s₁ h₁ => ?_) fun _ _ h' => h')))
  cases r with
  | none => exact wpAny_pure h₁
  | some v =>
    refine wpAny_bind (wpAny_mono h₁ (fun _ s₀ h₀ => ?_) fun _ _ h' => h')
    refine wpAny_bind (wpAny_mono h₀ (fun _ s₂ h₂ => wpAny_bind (wpAny_mono h₂ (fun ok s₃ h₃ => ?_) fun _ _ h' => h')) fun _ _ h' => h')
    cases ok with
    | false => exact wpAny_pure ⟨rfl, h₃⟩
    | true =>
      exact wpAny_bind (wpAny_bind (wpAny_mono h₃ (fun x s₄ h₄ => wpAny_bind (wpAny_mono h₄ (fun _ s₅ h₅ => wpAny_pure (wpAny_pure ⟨rfl, h₅⟩)) fun _ _ h' => h')) fun _ _ h' => h'))
noncomputable def tCompW (J : It) (g : TG) (tf : TT) (te : TE) (D : Addr) (σ0 : St) (H1 : Hp) (Q : Hp → Prop) : Prop :=
  ∃ W : Nat → Nat → St → Hp → Prop, (∃ m, W 0 m σ0 (upd H1 D (.lst []))) ∧ ∀ i m σ H, W i m σ H →
    (J.stop i H ∧ Q H) ∨ (J.go i H ∧ ∀ x H2, J.yld i H x H2 → g x σ H2 fun σ2 H3 => tf σ2 H3 fun b H4 =>
      if b = true then te σ2 H4 fun y H5 => ∃ zs, H5 D = some (.lst zs) ∧ zs.length < sizeLine ∧ ∃ m', m' < m ∧ W (i + 1) m' σ2 (upd H5 D (.lst (zs ++ [y])))
      else ∃ m', m' < m ∧ W (i + 1) m' σ2 H4)
noncomputable def tComp (js : List (Option Nat)) (wi : TI) (g : Shared → Hp → List Addr → TG) (tf : Shared → Hp → List Addr → TT) (te : Shared → Hp → List Addr → TE) : TE := fun σ H Q => wi σ H fun J H1 => ∀ (D : Addr), H1 D = none → ∀ (s0 : Shared) (H0 : Hp) (fp : List Addr), tCompW J (g s0 H0 fp) (tf s0 H0 fp) (te s0 H0 fp) D (compSt js σ) H1 fun H' => Q (.ref D) H'
theorem comp_run {tg iter elt : Expr} {ifs : List Expr} {pos : Pos} {J : It} {it : Addr} {tn : Nat → Heap → Prop} {g : Shared → Hp → TG} {tf : Shared → Hp → TT} {te : Shared → Hp → TE} {E : Value → Shared → Prop} {RR : Value → Addr → Result → Shared → Prop} {Q : Addr → Hp → Prop}
    (hc : X.calm = true) (C : CompOk X N' js scope) (I : Inv X pins σ H s) (T : Turn X.prog X.w X.K tg J fp it tn) (st : tn 0 s.heap) (hf : ∀ b ∈ fp, FpOk X pins H b)
    (body : ∀ (s0 : Shared) (H0 : Hp), PG (cxComp X N' scope s0 H0 fp) tg (g s0 H0) ∧ PF (cxComp X N' scope s0 H0 fp) ifs (tf s0 H0) ∧ PE (cxComp X N' scope s0 H0 fp) elt (te s0 H0))
    (h : ∀ D, H D = none → ∀ (s0 : Shared) (H0 : Hp), tCompW J (g s0 H0) (tf s0 H0) (te s0 H0) D (compSt js σ) H (Q D))
    (hRR : ∀ (D C : Addr) (H' : Hp) (s' : Shared) (m : Str → Option Value), s'.heap.Ns C m → s.heap.objs.size ≤ C → (∀ p ∈ X.pn ++ pins, p.1 ≠ C) → H' C = none → C ≠ X.env.locals → (∀ x c, X.env.cells.lookup x = some c → c ≠ C) → (X.s₀.heap.objs.size ≤ C) → Inv X pins σ H' s' → Q D H' → RR (.ref D) C (.ok .next) s') :
    wpAny (model X.prog X.w) X.A (newList []) (fun acc s₃ => wpAny (model X.prog X.w) X.A (newFunctionEnv scope X.env.globals (closL X.env.cells scope.names []) [] X.env.qual none .none (some X.env)) (fun cenv s₄ =>
      codeAny (model X.prog X.w) X.A (.compStart (.ListComp elt [⟨tg, iter, ifs, 0⟩] scope pos) 0 (.ref it) acc { cenv with scope := relabel scope X.env }) (RR acc cenv.locals) s₄) E s₃) E s := by
  have hfr : H s.heap.objs.size = none := I.hok.fresh (Nat.le_refl _)
  have I1 : Inv X pins σ (upd H s.heap.objs.size (.lst [])) { s with heap := s.heap.push { cls := .type "list", dict := none, data := .seq ([] : List Value).toArray } } :=
    I.laid (t' := s.toks) (fun b u e => Heap.get?_push_of_some _ e) (Nat.le_refl _) ⟨Nat.zero_le _, [], _, .nil, Heap.get?_push_size _ rfl⟩
  refine wpAny_newObj_type (comp_env ?_)
  have st1 : tn 0 (s.heap.push { cls := .type "list", dict := none, data := .seq ([] : List Value).toArray }) := T.keep _ _ _ st fun b hb o e => Heap.get?_push_of_some _ e
  have lt : ∀ b ∈ fp, b < s.heap.objs.size := fun b hb => let ⟨_, e, _⟩ := T.obj _ _ st b hb; Heap.lt_size e
  have hf1 : ∀ b ∈ fp, FpOk X pins (upd H s.heap.objs.size (.lst [])) b := fun b hb => ⟨by rw [upd_ne (Nat.ne_of_lt (lt b hb))]; exact (hf b hb).1, (hf b hb).2⟩
  have I2 := comp_start (fp := fp) I1 C hf1 (fun b hb => let ⟨o, e, _⟩ := T.obj _ _ st1 b hb; ⟨o, e⟩)
  have st2 : tn 0 (pushCells ((s.heap.push { cls := .type "list", dict := none, data := .seq ([] : List Value).toArray }).push { cls := .type "dict", data := .dict #[] }) scope.names) := T.keep _ _ _ st1 fun b hb o e => pushCells_keeps _ _ b o (Heap.get?_push_of_some _ e)
  obtain ⟨W, ⟨m0, w0⟩, turn⟩ := h _ hfr { s with heap := s.heap.push { cls := .type "list", dict := none, data := .seq ([] : List Value).toArray } } (upd H s.heap.objs.size (.lst []))
  obtain ⟨bg, bf, be⟩ := body { s with heap := s.heap.push { cls := .type "list", dict := none, data := .seq ([] : List Value).toArray } } (upd H s.heap.objs.size (.lst []))
  generalize hs1 : ({ s with heap := s.heap.push { cls := .type "list", dict := none, data := .seq ([] : List Value).toArray } } : Shared) = s1 at I1 I2 st2 bg bf be turn ⊢
  have es1 : s1.heap = s.heap.push { cls := .type "list", dict := none, data := .seq ([] : List Value).toArray } := by rw [← hs1]
  have sz1 : s1.heap.objs.size = s.heap.objs.size + 1 := by rw [es1, Heap.size_push]
  rw [← es1] at st2
  have stat : ∀ {H' : Hp}, (∀ b ∈ fp, H' b = none) → ∀ b ∈ fp, FpOk (cxComp X N' scope s1 (upd H s.heap.objs.size (.lst [])) fp) [] H' b := fun hn b hb => by
    refine ⟨hn b hb, (I2.ok.exf b hb).1, ?_, .inl hb, (I2.ok.exf b hb).2, fun p hp => absurd (show p ∈ ([] : List (Addr × Obj)) from hp) (by simp)⟩
    exact I2.ok.exfs b hb
  have outE : ∀ {α : Type} {t : Sem α} {QQ : α → Shared → Prop} {E' : Value → Shared → Prop} {s' : Shared}, wpAny (model X.prog X.w) X.A t QQ (fun _ _ => False) s' → wpAny (model X.prog X.w) X.A t QQ E' s' := fun q => wpAny_mono q (fun _ _ z => z) fun _ _ z => z.elim
  have loop : ∀ s2 : Shared, s2 = { s1 with heap := pushCells (s1.heap.push { cls := .type "dict", data := .dict #[] }) scope.names } →
      codeAny (model X.prog X.w) X.A (.compLoop (.ListComp elt [⟨tg, iter, ifs, 0⟩] scope pos) 0 (.ref it) (.ref s.heap.objs.size) (cxComp X N' scope s1 (upd H s.heap.objs.size (.lst [])) fp).env) (RR (.ref s.heap.objs.size) s1.heap.objs.size) s2 := by
    rintro s2 rfl
    refine compLoop_any (fun n s' => ∃ i σ' H', Inv (cxComp X N' scope s1 (upd H s.heap.objs.size (.lst [])) fp) [] σ' H' s' ∧ tn i s'.heap ∧ (∀ b ∈ fp, H' b = none) ∧ W i n σ' H') ?_ m0 ⟨0, _, _, I2, st2, fun b hb => (hf1 b hb).1, w0⟩
    rintro n s3 ⟨i, σ3, H3, I3, st3, fr3, w3⟩
    rcases turn i n σ3 H3 w3 with ⟨stop, q⟩ | ⟨go, step⟩
    · refine outE (thn (T.done (cxComp X N' scope s1 (upd H s.heap.objs.size (.lst [])) fp) rfl rfl rfl hc i [] s3 σ3 H3 (fun _ _ => False) I3 (stat fr3) st3 stop) fun r s4 ⟨hr, I4⟩ => ?_)
      subst hr
      have u4 : Un (frs X.stack) fp (upd H s.heap.objs.size (.lst [])) H3 s1.heap s4.heap := I4.base
      have IX : Inv X pins σ H3 s4 := I1.call' I4.os u4 I4.hok I4.bare fun b hb => by
        obtain ⟨_, f1, _, f3, f4, f5⟩ := hf1 b hb
        exact ⟨f3, f1, f4, f5⟩
      obtain ⟨m, hn, _⟩ := I4.loc
      have cle : s.heap.objs.size ≤ s1.heap.objs.size := by rw [sz1]; exact Nat.le_succ _
      have clt : ∀ b, b < s1.heap.objs.size → b ≠ s1.heap.objs.size := fun b hb => Nat.ne_of_lt hb
      refine hRR _ s1.heap.objs.size H3 s4 m hn cle (fun p hp => clt _ (Heap.lt_size (I1.pin p hp).1)) I4.free (Ne.symm (clt _ I1.lt)) (fun x c e => ?_) (Nat.le_trans I.sz cle) IX q
      obtain ⟨v, z⟩ := I1.cell x c e
      exact clt _ z.lt
    · refine outE (thn (T.item (cxComp X N' scope s1 (upd H s.heap.objs.size (.lst [])) fp) rfl rfl rfl hc i [] s3 σ3 H3 (fun _ _ => False) I3 (stat fr3) st3 go) fun r s4 ⟨u, hr, h4⟩ => ?_)
      subst hr
      refine outE (thn h4 fun _ s5 ⟨x, H5, I5, r5, y5, st5, fr5⟩ => ?_)
      have I5' := I5.pinned (stat fr5) (T.obj _ _ st5)
      refine outE (thn (bg _ s5 σ3 H5 x u _ I5' r5 (step x H5 y5)) fun _ s6 ⟨σ6, H6, I6, q6⟩ => ?_)
      refine outE (thn (bf _ s6 σ6 H6 _ I6 q6) fun ok s7 ⟨H7, I7, q7⟩ => ?_)
      have again : ∀ {s8 : Shared} {σ8 : St} {H8 : Hp} {m' : Nat}, Inv (cxComp X N' scope s1 (upd H s.heap.objs.size (.lst [])) fp) ([] ++ pinsAt fp s5.heap) σ8 H8 s8 → m' < n → W (i + 1) m' σ8 H8 →
          ∃ m, m < n ∧ ∃ i σ' H', Inv (cxComp X N' scope s1 (upd H s.heap.objs.size (.lst [])) fp) [] σ' H' s8 ∧ tn i s8.heap ∧ (∀ b ∈ fp, H' b = none) ∧ W i m σ' H' := fun {s8 σ8 H8 m'} I8 hm w8 => by
        refine ⟨m', hm, i + 1, σ8, H8, I8.unpinned, T.keep _ _ _ st5 fun b hb o e => (I8.pin (b, o) (List.mem_append_right _ (List.mem_append_right _ (mem_pinsAt hb e)))).1, fun b hb => ?_, w8⟩
        obtain ⟨o, e, d⟩ := T.obj _ _ st5 b hb
        exact (I8.pin (b, o) (List.mem_append_right _ (List.mem_append_right _ (mem_pinsAt hb e)))).2.1
      cases ok with
      | false =>
        rw [if_neg Bool.false_ne_true] at q7 ⊢
        obtain ⟨m', hm, w8⟩ := q7
        exact again I7 hm w8
      | true =>
        rw [if_pos rfl] at q7 ⊢
        refine outE (thn (be _ s7 σ6 H7 _ I7 q7) fun y s8 ⟨v, H8, I8, r8, zs, hz, hlen, m', hm, w8⟩ => ?_)
        obtain ⟨hzl, its, k, rv, e8⟩ := I8.hok _ _ hz
        refine outE (PyProof.Rows.append_at (hsz := by rw [List.size_toArray, ← rv.length]; exact hzl) e8 fun h9 sb e9 => ?_)
        rw [List.push_toArray] at e9
        have I9 : Inv (cxComp X N' scope s1 (upd H s.heap.objs.size (.lst [])) fp) ([] ++ pinsAt fp s5.heap) σ6 (upd H8 s.heap.objs.size (.lst (zs ++ [v]))) { s8 with heap := h9 } :=
          I8.write (t' := s8.toks) (by rw [hz]; trivial) (.inl rfl) (fun b o hb e => (sb.2 b hb).trans e) ⟨_, e9⟩ ⟨by rw [List.length_append, List.length_singleton]; exact hlen, its ++ [y], k + 1, rv.append (.cons r8 .nil), e9⟩
        exact again I9 hm w8
  show codeAny (model X.prog X.w) X.A (.compStart (.ListComp elt [⟨tg, iter, ifs, 0⟩] scope pos) 0 (.ref it) (.ref s.heap.objs.size) (cxComp X N' scope s1 (upd H s.heap.objs.size (.lst [])) fp).env) (RR (.ref s.heap.objs.size) s1.heap.objs.size) { s1 with heap := pushCells (s1.heap.push { cls := .type "dict", data := .dict #[] }) scope.names }
  exact codeAny_compStart_list (loop _ rfl) (T.self X.A 0 _ _ _ st2 (loop _ rfl))
theorem lookup_of_nodup {α : Type} {n : Str} {c : α} : ∀ {l : List (Str × α)}, (l.map (·.1)).Nodup → (n, c) ∈ l → l.lookup n = some c
  | [], _, h => nomatch h
  | (m, e) :: r, hn, hm => by
    have hn : (m :: r.map (·.1)).Nodup := hn
    obtain ⟨h1, h2⟩ := List.nodup_cons.mp hn
    rw [List.lookup_cons]
    rcases List.mem_cons.mp hm with q | q
    · cases q; simp
    · have hne : (n == m) = false := by
        cases hb : n == m with
        | false => rfl
        | true => exact absurd (List.mem_map.mpr ⟨(n, c), q, beq_iff_eq.mp hb⟩) h1
      rw [hne]
      exact lookup_of_nodup h2 q
variable {tg iter elt : Expr} {ifs : List Expr} {pos : Pos} {wi : TI} {g : Shared → Hp → List Addr → TG} {tf : Shared → Hp → List Addr → TT} {te : Shared → Hp → List Addr → TE}
theorem pe_comp (hc : X.calm = true) (C : CompOk X N' js scope) (hi : PI X tg iter wi)
    (body : ∀ (s0 : Shared) (H0 : Hp) (fp : List Addr), PG (cxComp X N' scope s0 H0 fp) tg (g s0 H0 fp) ∧ PF (cxComp X N' scope s0 H0 fp) ifs (tf s0 H0 fp) ∧ PE (cxComp X N' scope s0 H0 fp) elt (te s0 H0 fp))
    (hs : ∀ x, foldedSetIterable iter X.env x = pure x := by intro _; rfl) : PE X (.ListComp elt [⟨tg, iter, ifs, 0⟩] scope pos) (tComp js wi g tf te) := by
  intro pins s σ H Q I h
  rw [eval_ListComp]
  have hcl : closureFor scope X.env = pure (closL X.env.cells scope.names []) := closureFor_eq fun n hn => Option.isSome_iff_exists.mpr (I.ok.has n (C.fr n hn))
  refine wpAny_comprehension_free (use := none) rfl hs hcl C.kind (fun x hx hl => lookup_of_nodup C.nd (by rw [← hl]; exact hx)) (thn (hi pins s σ H _ I h) fun v s1 h1 => thn h1 fun itv s2 h2 => ?_)
  obtain ⟨it, fp, tn, J, H2, e, I2, T, st2, f2, q⟩ := h2
  subst e
  refine comp_run (RR := fun acc C => compPost (model X.prog X.w) X.A X.xe none (EP X pins σ Q) acc C) hc C I2 T st2 f2 (g := fun s0 H0 => g s0 H0 fp) (tf := fun s0 H0 => tf s0 H0 fp) (te := fun s0 H0 => te s0 H0 fp) (fun s0 H0 => body s0 H0 fp) (Q := fun D H' => Q (.ref D) H') (fun D hD s0 H0 => q D hD s0 H0 fp) ?_
  intro D Ca H' s' m hn hle hp hC hL hcel hs0 I' q'
  exact ⟨m, hn, fun h' hs' => ⟨.ref D, H', I'.turned (t' := s'.toks) (it := Ca) (fun b o hb e => (hs'.2 b hb).trans e) hC hL (.inr hs0) hcel hp, rfl, q'⟩⟩
theorem ps_setc {i : Nat} {x : Str} {px cpos : Pos} (hc : X.calm = true) (C : CompOk X N' js scope) (hi : PI X tg iter wi)
    (body : ∀ (s0 : Shared) (H0 : Hp) (fp : List Addr), PG (cxComp X N' scope s0 H0 fp) tg (g s0 H0 fp) ∧ PF (cxComp X N' scope s0 H0 fp) ifs (tf s0 H0 fp) ∧ PE (cxComp X N' scope s0 H0 fp) elt (te s0 H0 fp))
    (hN : X.N.Nodup) (hix : X.N[i]? = some x) (hx : Loc X.env.scope x)
    (hsw : swapsWith (.ListComp elt [⟨tg, iter, ifs, 0⟩] scope cpos) (some (.Name x px)) pos.line X.env = pure true := by rfl) (hf : X.fn x = true ∨ X.env.scope.names.lookup x = some .local := by trivial)
    (hs : ∀ x, foldedSetIterable iter X.env x = pure x := by intro _; rfl) : PS X (.Assign [.Name x px] (.ListComp elt [⟨tg, iter, ifs, 0⟩] scope cpos) pos) (tAsg (tComp js wi g tf te) (gName i)) := by
  intro pins s σ H D0 I h
  rw [exec_Assign_Name_used _ _ _ _ hsw]
  refine wpAny_bind (wpAny_standAt (wpAny_bind ?_))
  show wpAny _ X.A (do let _ ← comprehension (.ListComp elt [⟨tg, iter, ifs, 0⟩] scope cpos) scope X.env _ (newList []) false (eval iter X.env) (some (assign (.Name x px) X.env))) _ _ s
  have hcl : closureFor scope X.env = pure (closL X.env.cells scope.names []) := closureFor_eq fun n hn => Option.isSome_iff_exists.mpr (I.ok.has n (C.fr n hn))
  refine wpAny_bind (wpAny_mono (wpAny_comprehension_free (use := some (assign (.Name x px) X.env)) (Q := fun _ s' => SP X pins D0 .next s') rfl hs hcl C.kind (fun x hx hl => lookup_of_nodup C.nd (by rw [← hl]; exact hx)) (thn (hi pins s σ H _ I h) fun v s1 h1 => thn h1 fun itv s2 h2 => ?_))
    (fun _ s' hq => wpAny_pure (wpAny_pure hq)) fun _ _ e => e)
  obtain ⟨it, fp, tn, J, H2, e, I2, T, st2, f2, q⟩ := h2
  subst e
  refine comp_run (RR := fun acc C => compPost (model X.prog X.w) X.A X.xe (some (assign (.Name x px) X.env)) (fun _ s' => SP X pins D0 .next s') acc C) hc C I2 T st2 f2 (g := fun s0 H0 => g s0 H0 fp) (tf := fun s0 H0 => tf s0 H0 fp) (te := fun s0 H0 => te s0 H0 fp) (fun s0 H0 => body s0 H0 fp) (Q := fun D H' => D0.nx (σ.set i (some (.ref D))) H') (fun D hD s0 H0 => q D hD s0 H0 fp) ?_
  intro D Ca H' s' m hn hle hp hC hL hcel hs0 I' q'
  show wpAny _ X.A (assign (.Name x px) X.env (.ref D)) _ _ _
  refine wpAny_assign_Name (store_ok2 I' hN hix hx (v := .ref D) rfl (fun s'' I'' hsb => ?_) hf)
  obtain ⟨a, sb, ha⟩ := hsb
  have nCa : Ca ≠ a := by
    rcases ha with z | z
    · rw [z]; exact hL
    · exact fun w => hcel x a z w.symm
  exact ⟨m, hn.sameBut sb nCa, fun h' hs' => ⟨σ.set i (some (.ref D)), H', I''.turned (t' := s''.toks) (it := Ca) (fun b o hb e => (hs'.2 b hb).trans e) hC hL (.inr hs0) hcel hp, q'⟩⟩
end
end L2
namespace L2
open PySem PySem.Spec PyProof.Rows
section
variable {prog : Program} {w : World} {A : Around} {E : Value → Shared → Prop} {s : Shared}
theorem nextOf_tuple_item {it l : Addr} {i : Nat} {items : Array Value} {x : Value} {Q : Value → Shared → Prop} (hit : s.heap.IsTupleIter it l i)
    (hl : s.heap.IsTuple l items) (hx : items[i]? = some x)
    (hQ : ∀ h', h'.IsTupleIter it l (i + 1) → Heap.SameBut it s.heap h' → Q x { s with heap := h' }) :
    wpAny (model prog w) A (Builtin.SmallTypes.nextOf (.ref it)) Q E s := by
  obtain ⟨o, ho, hc, hd⟩ := id hit
  obtain ⟨ol, hol, _, nl, hdl⟩ := hl
  unfold Builtin.SmallTypes.nextOf
  refine wpAny_bind (wpAny_callSpecial?_slot (name := Str.ofString "__next__") hit.typeIs F.slot_tuple_iterator_next
    (wpAny_call_entry F.slot_tuple_iterator_next hit.typeIs F.entry_tuple_iterator_next ?_ (F.args_tuple_iterator_next_1 _)))
  show wpAny _ _ (field (.ref it) 0 >>= _) _ _ s
  refine wpAny_bind (wpAny_field ho hd (x := .ref l) rfl ?_)
  show wpAny _ _ (if (Value.ref l == Value.none) = true then _ else _) _ _ s
  rw [if_neg (show ¬ ((Value.ref l == Value.none) = true) from Bool.false_ne_true)]
  show wpAny _ _ (field (.ref it) 1 >>= _) _ _ s
  refine wpAny_bind (wpAny_field ho hd (x := .int i 0) rfl ?_)
  show wpAny _ _ (seqItems? (.ref l) >>= _) _ _ s
  refine wpAny_bind (wpAny_seqItems hol hdl ?_)
  simp only [Int.toNat_natCast, hx]
  refine wpAny_bind (wpAny_setField ho hd (by simp) (wpAny_pure ⟨x, rfl, wpAny_pure (hQ _ ?_ (Heap.SameBut.update ..))⟩))
  exact ⟨_, Heap.get?_update_self _ ho (Obj.isFreed_of_fields (Obj.data_mapFields hd _)), (Obj.cls_mapFields ..).trans hc, by
    rw [Obj.data_mapFields hd]; simp [rawInt]⟩
theorem nextOf_tuple_end {it l : Addr} {i : Nat} {items : Array Value} {Q : Value → Shared → Prop} (hh : A.handled = none)
    (hit : s.heap.IsTupleIter it l i) (hl : s.heap.IsTuple l items) (hx : items[i]? = none)
    (hE : ∀ h' e, Heap.ExtBut it s.heap h' → (∃ o, h'.get? e = some o ∧ o.cls = .type "StopIteration") → E (.ref e) { s with heap := h' }) :
    wpAny (model prog w) A (Builtin.SmallTypes.nextOf (.ref it)) Q E s := by
  obtain ⟨o, ho, hc, hd⟩ := id hit
  obtain ⟨ol, hol, _, nl, hdl⟩ := hl
  unfold Builtin.SmallTypes.nextOf
  refine wpAny_bind (wpAny_callSpecial?_slot (name := Str.ofString "__next__") hit.typeIs F.slot_tuple_iterator_next
    (wpAny_call_entry F.slot_tuple_iterator_next hit.typeIs F.entry_tuple_iterator_next ?_ (F.args_tuple_iterator_next_1 _)))
  show wpAny _ _ (field (.ref it) 0 >>= _) _ _ s
  refine wpAny_bind (wpAny_field ho hd (x := .ref l) rfl ?_)
  show wpAny _ _ (if (Value.ref l == Value.none) = true then _ else _) _ _ s
  rw [if_neg (show ¬ ((Value.ref l == Value.none) = true) from Bool.false_ne_true)]
  show wpAny _ _ (field (.ref it) 1 >>= _) _ _ s
  refine wpAny_bind (wpAny_field ho hd (x := .int i 0) rfl ?_)
  show wpAny _ _ (seqItems? (.ref l) >>= _) _ _ s
  refine wpAny_bind (wpAny_seqItems hol hdl ?_)
  simp only [Int.toNat_natCast, hx]
  refine wpAny_bind (wpAny_rule (wpAny_bind (wpAny_setField ho hd (by simp) ?_)))
  show wpAny _ _ (newExc (.type "StopIteration") [] >>= _) _ _ _
  refine wpAny_bind ?_
  simp only [newExc, newTuple]
  refine wpAny_bind (wpAny_newObj_type ?_ (by size_fits))
  refine wpAny_bind (m := firstArgMember _ _) (wpAny_of_eq (a := Value.none) (by first | rfl | (simp only [firstArgMember]; rfl)) ?_)
  refine wpAny_newObj_type ?_ (by size_fits)
  simp only [raiseNew]
  refine wpAny_bind (wpAny_handled ?_)
  first | rw [show A.in1.handled = none from hh] | rw [hh]
  refine wpAny_bind (wpAny_pure (wpAny_throw ?_))
  exact hE _ _ (((Heap.SameBut.update ..).extBut.push _).push _) ⟨_, Heap.get?_push_size _ rfl, rfl⟩
end
theorem draws_tuple {prog : Program} {w : World} {A : Around} (hh : A.handled = none) (it l : Addr) (hne : l ≠ it) (items : Array Value) :
    Draws prog w A it [it, l] items.size (fun i v => items[i]? = some v) (fun i h => h.IsTupleIter it l i ∧ h.IsTuple l items) where
  live := fun _ _ st => let ⟨o, ho, _⟩ := st.1; ⟨o, ho⟩
  frame := fun _ _ _ st hk => ⟨st.1.at fun o e => hk it (by simp) o e, let ⟨o, ho, r⟩ := st.2; ⟨o, hk l (by simp) o ho, r⟩⟩
  item := fun i s Q E hi st hQ => by
    refine nextOf_tuple_item st.1 st.2 (x := items[i]) (by simp [hi]) fun h' hit hs => ?_
    exact hQ _ h' s.toks (by simp [hi]) ⟨hit, st.2.extBut hs.extBut hne⟩ hs
  done := fun s Q E st hE => nextOf_tuple_end hh st.1 st.2 (by simp) hE
theorem meets_enumerate_newT (l : Addr) (items : Array Value) (n : Nat) (dct : Option Addr) (sl : Array (Option Value)) :
    Meets (Builtin.«enumerate.__new__» ⟨[.type "enumerate", .ref l], []⟩) (fun _ R s => s.heap.get? l = some { cls := .type "tuple", dict := dct, data := .seq items n, slots := sl } ∧
      R (.ok (.ret (.ref (s.heap.push { cls := .type "tuple_iterator", data := .fields #[.ref l, .int 0 0] }).objs.size)))
        { s with heap := (s.heap.push { cls := .type "tuple_iterator", data := .fields #[.ref l, .int 0 0] }).push { cls := .type "enumerate", data := .fields #[.none, .bool false, .ref s.heap.objs.size, rawInt 0, .none, .none] } }) :=
  .of_wp fun prog w A R s h => by
    obtain ⟨hp, g, d, tk, os⟩ := s; obtain ⟨hl, h⟩ := h
    have hsub := sub_enumerate
    have hL : Heap.IsTuple (Shared.heap ⟨hp, g, d, tk, os⟩) l items := ⟨_, hl, rfl, n, rfl⟩
    wp_walk using PySem.AutoSeq1.wpAny_loadPart' hl
    refine wpAny_stack_any fun st => wpAny_pure ?_
    split
    · rename_i c _ _ _ _ _
      cases (c == Value.type "enumerate")
      · wp_walk using PySem.AutoSeq1.wpAny_loadPart' hl, wpAny_pyIter_tuple hL
        exact ⟨_, rfl, h⟩
      · wp_walk using PySem.AutoSeq1.wpAny_loadPart' hl, wpAny_pyIter_tuple hL
        exact ⟨_, rfl, h⟩
    · wp_walk using PySem.AutoSeq1.wpAny_loadPart' hl, wpAny_pyIter_tuple hL
      exact ⟨_, rfl, h⟩
theorem call_enumerate_tuple {prog : Program} {w : World} {A : Around} {E : Value → Shared → Prop} {s : Shared} {l : Addr} {items : Array Value} {Q : Value → Shared → Prop} (hL : s.heap.IsTuple l items)
    (h : ∀ h', IsEnum h' (s.heap.objs.size + 1) s.heap.objs.size 0 .none → h'.IsTupleIter s.heap.objs.size l 0 → h'.objs.size = s.heap.objs.size + 2 →
      (∀ b o, s.heap.get? b = some o → h'.get? b = some o) → Q (.ref (s.heap.objs.size + 1)) { s with heap := h' }) :
    wpAny (model prog w) A (call (.type "enumerate") [.ref l]) Q E s := by
  obtain ⟨⟨c, dct, dt, sl⟩, hl, hc, n, hd⟩ := hL
  replace hc : c = .type "tuple" := hc
  replace hd : dt = .seq items n := hd
  subst hc hd
  refine callType_new F.called_enumerate (by decide) (F.typeCall_enumerate_1 _) (F.newCall_enumerate_1 _) (fun obj => F.args_object_init_2 obj _) F.entry_enumerate_new
    (meets_enumerate_newT l items n dct sl) ⟨hl, ?_⟩
  have hz : (s.heap.push { cls := .type "tuple_iterator", data := .fields #[.ref l, .int 0 0] }).objs.size = s.heap.objs.size + 1 := Heap.size_push ..
  show _ ∧ _
  rw [hz]
  have he : IsEnum ((s.heap.push { cls := .type "tuple_iterator", data := .fields #[.ref l, .int 0 0] }).push
      { cls := .type "enumerate", data := .fields #[.none, .bool false, .ref s.heap.objs.size, rawInt 0, .none, .none] }) (s.heap.objs.size + 1) s.heap.objs.size 0 .none := by
    have := Heap.get?_push_size (s.heap.push { cls := .type "tuple_iterator", data := .fields #[.ref l, .int 0 0] })
      (o := { cls := .type "enumerate", data := .fields #[.none, .bool false, .ref s.heap.objs.size, rawInt 0, .none, .none] }) rfl
    rw [hz] at this; exact this
  refine ⟨⟨_, he, rfl⟩, h _ he ⟨_, Heap.get?_push_of_some _ (Heap.get?_push_size _ rfl), rfl, rfl⟩ (by rw [Heap.size_push, hz]) fun b o x => Heap.get?_push_of_some _ (Heap.get?_push_of_some _ x)⟩
section
variable {X : Cx} {pins : List (Addr × Obj)} {σ : St} {H : Hp} {s : Shared} {h' : Heap}
theorem Inv.turned2 {t' : Nat} {e it : Addr} (I : Inv X pins σ H s) (k : ∀ b o, b ≠ e → b ≠ it → s.heap.get? b = some o → h'.get? b = some o) (fe : FpOk X pins H e) (fi : FpOk X pins H it) : Inv X pins σ H { s with heap := h', toks := t' } := by
  have ne1 : ∀ b, b ∉ [e, it] → b ≠ e ∧ b ≠ it := fun b hb => ⟨fun z => hb (by simp [z]), fun z => hb (by simp [z])⟩
  have nit : ∀ b u, H b = some u → b ≠ e ∧ b ≠ it := fun b u q => ⟨fun z => (by rw [z, fe.1] at q; cases q), fun z => (by rw [z, fi.1] at q; cases q)⟩
  refine I.step (g' := s.gens) (d' := s.drawn) (ch := [e, it]) (fun b hb => ?_) (fun b o _ _ hc q _ => k b o (ne1 b hc).1 (ne1 b hc).2 q) (fun b o _ _ hc q _ => ⟨o.slots, k b o (ne1 b hc).1 (ne1 b hc).2 q⟩) (fun _ _ _ _ n => n)
    (fun b o hc q => ⟨o, k b o (ne1 b hc).1 (ne1 b hc).2 q⟩) (fun _ _ q => q) (fun _ _ _ q => q) (fun b ps q => ⟨#[], by rw [q]; simp⟩) (fun m hm => ?_) (fun b u q => ?_) I.bare
  · rcases List.mem_cons.mp hb with z | z
    · subst z; exact ⟨fe.2.2.2.1, fe.2.1, fe.2.2.2.2.1, fe.2.2.2.2.2⟩
    · have z := List.mem_singleton.mp z
      subst z; exact ⟨fi.2.2.2.1, fi.2.1, fi.2.2.2.2.1, fi.2.2.2.2.2⟩
  · obtain ⟨o, es, ep, ho, r⟩ := hm
    exact ⟨o, es, ep, k _ o (Ne.symm fe.2.1) (Ne.symm fi.2.1) ho, r⟩
  · refine (I.hok b u q).stay (fun c v hc z => ?_) (fun _ z => z) fun _ _ z => z
    rcases hc with y | y
    · rw [y]; rw [y] at z; exact k b v (nit b u q).1 (nit b u q).2 z
    · exact k c v (nit c _ y).1 (nit c _ y).2 z
end
structure EnumSrc (P : Program) (w : World) (K : PySem.W.Frag) (a it : Addr) (Sq : Hp → List V → Prop) (IsIt : Nat → Heap → Prop) : Prop where
  at_ : ∀ i h h', IsIt i h → (∀ o, h.get? it = some o → h'.get? it = some o) → IsIt i h'
  live : ∀ i h, IsIt i h → ∃ o, h.get? it = some o ∧ ∀ v, o.data ≠ .cell v
  drw : ∀ (X : Cx), X.prog = P → X.w = w → X.K = K → X.calm = true → ∀ (i : Nat) (pins : List (Addr × Obj)) (s : Shared) (σ : St) (H : Hp) (xs : List V), Inv X pins σ H s → IsIt i s.heap → Sq H xs →
    ∃ its : List Value, Vals xs its ∧ (∃ oa, s.heap.get? a = some oa ∧ oa.cls ≠ .type "enumerate") ∧ ∃ St : Nat → Heap → Prop, Draws P w X.A.in1 it [it, a] its.length (fun i v => its[i]? = some v) St ∧ St i s.heap ∧ ∀ j h', St j h' → IsIt j h'
  inj : ∀ (X : Cx), X.prog = P → X.w = w → X.K = K → ∀ (pins : List (Addr × Obj)) (s : Shared) (σ : St) (H : Hp) (xs ys : List V), Inv X pins σ H s → Sq H xs → Sq H ys → xs = ys
noncomputable def Ite (Sq : Hp → List V → Prop) : It :=
  ⟨fun i H => ∃ xs x, Sq H xs ∧ xs[i]? = some x, fun i H x H' => ∃ T v, x = .ref T ∧ H T = none ∧ H' = upd H T (.tup [.int (i : Nat), v]) ∧ ∀ xs, Sq H xs → xs[i]? = some v, fun i H => ∃ xs, Sq H xs ∧ xs.length = i⟩
theorem in1_handled {A : Around} (h : A.handled = none) : A.in1.handled = none := h
theorem src_list {P : Program} {w : World} {K : PySem.W.Frag} (a it : Addr) : EnumSrc P w K a it (fun H xs => SqL K H a xs) (fun i h => h.IsListIter it a i) where
  at_ := fun i h h' st k => st.at k
  live := fun i h st => by
    obtain ⟨o, e, c, d⟩ := st
    exact ⟨o, e, fun v z => by rw [d] at z; cases z⟩
  drw := by
    intro X hP hw hK hc i pins s σ H xs I hit hq
    subst hP hw hK
    obtain ⟨its, rv, p, hz⟩ := I.list hq
    obtain ⟨oa, e1, c1, r1⟩ := id p.isList
    have hne : a ≠ it := fun z => by
      obtain ⟨o, e, c, _⟩ := hit
      rw [← z, e1] at e; cases e; rw [c1] at c; injection c with c; exact absurd c (by decide)
    refine ⟨its, rv, ⟨oa, e1, fun z => (by rw [c1] at z; injection z with z; exact absurd z (by decide))⟩, (fun i h => h.IsListIter it a i ∧ h.IsList a its.toArray), ?_, ⟨hit, p.isList⟩, fun j h' st => st.1⟩
    have D := Draws.list (prog := X.prog) (w := X.w) (A := X.A.in1) (in1_handled (I.ok.hd hc)) it a hne its.toArray
    simpa using D
  inj := by
    intro X hP hw hK pins s σ H xs ys I h1 h2
    subst hP hw hK
    exact I.list_inj h1 h2
theorem src_tup {P : Program} {w : World} {K : PySem.W.Frag} (a it : Addr) : EnumSrc P w K a it (fun H xs => SqT K H a xs) (fun i h => h.IsTupleIter it a i) where
  at_ := fun i h h' st k => st.at k
  live := fun i h st => by
    obtain ⟨o, e, c, d⟩ := st
    exact ⟨o, e, fun v z => by rw [d] at z; cases z⟩
  drw := by
    intro X hP hw hK hc i pins s σ H xs I hit hq
    subst hP hw hK
    obtain ⟨its, rv, p, hz⟩ := I.tuple hq
    obtain ⟨oa, e1, c1, r1⟩ := id p
    have hne : a ≠ it := fun z => by
      obtain ⟨o, e, c, _⟩ := hit
      rw [← z, e1] at e; cases e; rw [c1] at c; injection c with c; exact absurd c (by decide)
    refine ⟨its, rv, ⟨oa, e1, fun z => (by rw [c1] at z; injection z with z; exact absurd z (by decide))⟩, (fun i h => h.IsTupleIter it a i ∧ h.IsTuple a its.toArray), ?_, ⟨hit, p⟩, fun j h' st => st.1⟩
    have D := draws_tuple (prog := X.prog) (w := X.w) (A := X.A.in1) (in1_handled (I.ok.hd hc)) it a hne its.toArray
    simpa using D
  inj := by
    intro X hP hw hK pins s σ H xs ys I h1 h2
    subst hP hw hK
    exact I.tuple_inj h1 h2
theorem turn_enum {P : Program} {w : World} {K : PySem.W.Frag} {a it : Addr} {Sq : Hp → List V → Prop} {IsIt : Nat → Heap → Prop} (S : EnumSrc P w K a it Sq IsIt) (e : Addr) (hei : e ≠ it) {es : List Expr} {x1} {pos : Pos} :
    Turn P w K (.Tuple es x1 pos) (Ite Sq) [e, it] e (fun i h => (∃ old, IsEnum h e it ((i : Nat) : Int) old) ∧ IsIt i h) where
  mem := by simp
  obj := fun i h st b hb => by
    obtain ⟨⟨old, he⟩, hit⟩ := st
    rcases List.mem_cons.mp hb with z | z
    · subst z; exact ⟨_, he, fun v z => by cases z⟩
    · have z := List.mem_singleton.mp z
      subst z; exact S.live i h hit
  keep := fun i h h' st k => by
    obtain ⟨⟨old, he⟩, hit⟩ := st
    exact ⟨⟨old, k e (by simp) _ he⟩, S.at_ i h h' hit fun o q => k it (by simp) o q⟩
  item := by
    intro X hP hw hK hc i pins s σ H E I hf st hg
    obtain ⟨⟨old, he⟩, hit⟩ := st
    obtain ⟨xs, x, hq, hx⟩ := hg
    obtain ⟨its, rv, ⟨oa, ea, ca⟩, St, D, st0, fromSt⟩ := S.drw X hP hw hK hc i pins s σ H xs I hit hq
    obtain ⟨u, hu, ru⟩ := rv.get hx
    have hlt : i < its.length := (List.getElem?_eq_some_iff.mp hu).1
    have hef : e ∉ [it, a] := fun z => by
      rcases List.mem_cons.mp z with z | z
      · exact hei z
      · have z := List.mem_singleton.mp z
        have he' : s.heap.get? e = some _ := he
        rw [z, ea] at he'; cases he'; exact ca rfl
    refine wpAny_pyNext_enum_itemD D he st0 hlt hei hef fun y h1 tk hy heo hst1 htup hsz hk => ?_
    have ey : y = u := Option.some.inj (hy.symm.trans hu)
    subst ey
    refine ⟨_, rfl, wpAny_letOwnedTupleGo_enum heo fun h2 he2 sb2 => ?_⟩
    have fe := hf e (by simp)
    have fi := hf it (by simp)
    have hT : H s.heap.objs.size = none := I.hok.fresh (Nat.le_refl _)
    have Im : Inv X pins σ (upd H s.heap.objs.size (.tup [.int (i : Nat), x])) { s with heap := s.heap.push { cls := .type "tuple", data := .seq #[.int i tk, y] } } :=
      I.laid (t' := s.toks) (fun b v q => Heap.get?_push_of_some _ q) (Nat.le_refl _) ⟨by show 2 ≤ sizeLine; decide, [.int i tk, y], .cons ⟨tk, rfl⟩ (.cons ru .nil), ⟨_, Heap.get?_push_size _ rfl, rfl, _, rfl⟩⟩
    have lt : ∀ b o, s.heap.get? b = some o → b ≠ s.heap.objs.size := fun b o q => Nat.ne_of_lt (Heap.lt_size q)
    have ne : e ≠ s.heap.objs.size := lt e _ he
    have ni : it ≠ s.heap.objs.size := by
      obtain ⟨o, q, _⟩ := S.live i _ hit
      exact lt it o q
    have up : ∀ b, b ≠ s.heap.objs.size → (upd H s.heap.objs.size (.tup [.int (i : Nat), x])) b = H b := fun b hb => upd_ne hb
    have fe' : FpOk X pins (upd H s.heap.objs.size (.tup [.int (i : Nat), x])) e := ⟨by rw [up e ne]; exact fe.1, fe.2⟩
    have fi' : FpOk X pins (upd H s.heap.objs.size (.tup [.int (i : Nat), x])) it := ⟨by rw [up it ni]; exact fi.1, fi.2⟩
    have I2 : Inv X pins σ (upd H s.heap.objs.size (.tup [.int (i : Nat), x])) { s with heap := h2, toks := tk + 1 } :=
      Im.turned2 (t' := tk + 1) (h' := h2) (fun b o hbe hbi q => by
        have q : (s.heap.push { cls := .type "tuple", data := .seq #[.int i tk, y] }).get? b = some o := q
        refine (sb2.2 b hbe).trans ?_
        rcases Heap.get?_push_cases q with ⟨hb, ho⟩ | q'
        · subst hb; subst ho; exact htup
        · exact hk b o hbe hbi q') fe' fi'
    refine ⟨.ref s.heap.objs.size, _, I2, rfl, ⟨_, x, rfl, hT, rfl, fun ys hy => by rw [S.inj X hP hw hK pins s σ H ys xs I hy hq]; exact hx⟩, ⟨⟨y, ?_⟩, ?_⟩, fun b hb => ?_⟩
    · have ec : ((i + 1 : Nat) : Int) = (i : Int) + 1 := by push_cast; rfl
      rw [ec]; exact he2
    · exact S.at_ _ _ _ (fromSt _ _ hst1) fun o q => (sb2.2 it (Ne.symm hei)).trans q
    · rcases List.mem_cons.mp hb with z | z
      · subst z; exact fe'.1
      · have z := List.mem_singleton.mp z
        subst z; exact fi'.1
  done := by
    intro X hP hw hK hc i pins s σ H E I hf st hg
    obtain ⟨⟨old, he⟩, hit⟩ := st
    obtain ⟨xs, hq, hx⟩ := hg
    obtain ⟨its, rv, ⟨oa, ea, ca⟩, St, D, st0, fromSt⟩ := S.drw X hP hw hK hc i pins s σ H xs I hit hq
    have hl := rv.length
    have ei : its.length = i := by omega
    rw [← ei] at st0
    obtain ⟨f0, f1, f2, f3, f4, f5⟩ := hf it (by simp)
    exact wpAny_pyNext_enum_endD D he st0 fun h1 eb => ⟨rfl, I.turned (t' := s.toks) (fun b o hb q => eb b o hb q) f0 f1 f3 f4 f5⟩
  self := fun _ _ _ _ _ st h => wpAny_pyIter_enum st.1.choose_spec h
section
variable {X : Cx}
theorem enum_fin {pins : List (Addr × Obj)} {σ : St} {H : Hp} {s : Shared} {h' : Heap} {a : Addr} {Sq : Hp → List V → Prop} {IsIt : Nat → Heap → Prop} {R : It → Hp → Prop} {tg : Expr} (htg : ∃ es x1 pos, tg = .Tuple es x1 pos) (I : Inv X pins σ H s) (S : EnumSrc X.prog X.w X.K a s.heap.objs.size Sq IsIt)
    (he : IsEnum h' (s.heap.objs.size + 1) s.heap.objs.size 0 .none) (hit : IsIt 0 h') (hk : ∀ b o, s.heap.get? b = some o → h'.get? b = some o) (q : R (Ite Sq) H) {E : Value → Shared → Prop} :
    wpAny (model X.prog X.w) X.A (pyIter (.ref (s.heap.objs.size + 1))) (PIE X pins σ tg R) E { s with heap := h' } := by
  obtain ⟨es, x1, pos, rfl⟩ := htg
  refine wpAny_pyIter_enum (s := { s with heap := h' }) he ?_
  refine ⟨s.heap.objs.size + 1, [s.heap.objs.size + 1, s.heap.objs.size], _, _, H, rfl, I.kept (t' := s.toks) hk, turn_enum S (s.heap.objs.size + 1) (Nat.succ_ne_self _), ⟨⟨_, he⟩, hit⟩, fun b hb => ?_, q⟩
  rcases List.mem_cons.mp hb with z | z
  · subst z; exact I.fpOk (Nat.le_succ _) (I.hok.fresh (Nat.le_succ _))
  · have z := List.mem_singleton.mp z
    subst z; exact I.fpOk (Nat.le_refl _) (I.hok.fresh (Nat.le_refl _))
end
end L2
namespace HT
open PySem PySem.Spec PyProof.Rows
section
variable {prog : Program} {w : World} {A : Around} {E : Value → Shared → Prop} {s : Shared}
theorem getItem_tuple_all {t sl : Addr} {items : Array Value} {vl vu : Value} {lo hi : Option Int} {Q : Value → Shared → Prop} (ht : IsTup s.heap t items) (hs : s.heap.IsSliceOf sl vl vu .none) (pl : IsPart vl lo) (pu : IsPart vu hi)
    (hw : sIx items.size 0 lo = 0 ∧ sIx items.size items.size hi = items.size) (h : Q (.ref t) s) : wpAny (model prog w) A (getItem (.ref t) (.ref sl)) Q E s := by
  obtain ⟨os, hos, hcs, hds⟩ := id hs
  have hTs : s.TypeIs (.ref sl) "slice" := ⟨os, hos, hcs⟩
  unfold getItem
  try with_reducible refine wpAny_holding ?_
  first | refine wpAny_bind (wpAny_pure ?_) | skip
  refine wpAny_bind (wpAny_sequenceKey ht.typeIs (by decide) ?_)
  refine wpAny_bind (wpAny_callSpecial?_slot (name := Str.ofString "__getitem__") ht.typeIs PyProof.Rows.slot_tuple_getitem
    (wpAny_call_entry PyProof.Rows.slot_tuple_getitem ht.typeIs entry_tuple_getitem ?_ (args_tuple_getitem _ _)))
  show wpAny _ _ (Builtin.Tuple.tupleItemsOf (.ref t) >>= _) _ _ s
  refine wpAny_bind (tupleItemsOf_ ht ?_)
  refine wpAny_bind (wpAny_typeOf hTs ?_)
  rw [if_pos (by decide)]
  refine wpAny_bind (sliceApplied_gen hs pl pu ?_)
  have hyes : (((sIx items.size 0 lo : Nat) : Int) == 0 && (1 : Int) == 1 && (sIx items.size items.size hi - sIx items.size 0 lo) == items.size) = true := by
    rw [hw.1, hw.2]; simp
  show wpAny _ _ (if (((sIx items.size 0 lo : Nat) : Int) == 0 && (1 : Int) == 1 && (sIx items.size items.size hi - sIx items.size 0 lo) == items.size) = true then _ else _) _ _ s
  rw [if_pos hyes]
  refine wpAny_bind (m := Builtin.Tuple.tupleIsExact _) ?_
  unfold Builtin.Tuple.tupleIsExact
  refine wpAny_bind (wpAny_typeOf ht.typeIs (wpAny_pure ?_))
  rw [if_pos (by decide)]
  exact wpAny_bind (wpAny_rule (wpAny_bind (wpAny_pure (wpAny_pure ⟨_, rfl, wpAny_pure h⟩))))
end
end HT
namespace L2
open PySem PySem.Spec PyProof.Rows
section
variable {X : Cx}
end
end L2
namespace L2
open PySem PySem.Spec PyProof.Rows
mutual
inductive Is (H : Hp) : V → PyData → Prop
  | non : Is H .non .none
  | bl (b : Bool) : Is H (.bl b) (.bool b)
  | int (i : Int) : Is H (.int i) (.int i)
  | str (x : Str) : Is H (.str x) (.str x)
  | lst {a : Addr} {xs : List V} {ds : List PyData} : H a = some (.lst xs) → Iss H xs ds → Is H (.ref a) (.list ds)
  | tup {a : Addr} {xs : List V} {ds : List PyData} : H a = some (.tup xs) → Iss H xs ds → Is H (.ref a) (.tuple ds)
inductive Iss (H : Hp) : List V → List PyData → Prop
  | nil : Iss H [] []
  | cons {x : V} {d : PyData} {xs : List V} {ds : List PyData} : Is H x d → Iss H xs ds → Iss H (x :: xs) (d :: ds)
end
mutual
theorem Is.mono {H H' : Hp} (s : Same H H') : ∀ {v : V} {d : PyData}, Is H v d → Is H' v d
  | _, _, .non => .non
  | _, _, .bl b => .bl b
  | _, _, .int i => .int i
  | _, _, .str x => .str x
  | _, _, .lst e h => .lst (s _ _ e) (Iss.mono s h)
  | _, _, .tup e h => .tup (s _ _ e) (Iss.mono s h)
theorem Iss.mono {H H' : Hp} (s : Same H H') : ∀ {xs : List V} {ds : List PyData}, Iss H xs ds → Iss H' xs ds
  | _, _, .nil => .nil
  | _, _, .cons h t => .cons (Is.mono s h) (Iss.mono s t)
end
theorem Iss.length {H : Hp} : ∀ {xs : List V} {ds : List PyData}, Iss H xs ds → xs.length = ds.length
  | _, _, .nil => rfl
  | _, _, .cons _ t => by rw [List.length_cons, List.length_cons, Iss.length t]
section
variable {X : Cx} {pins : List (Addr × Obj)} {σ : St} {H : Hp} {s : Shared}
theorem mt_bits : MtR X "int.bit_length" (fun x vs H Q => ∃ i, x = .int i ∧ vs = [] ∧ Q (.int (Builtin.Int.intBits i : Nat)) H) := by
  intro pins s σ H x xs v us Q I rx r h
  obtain ⟨i, rfl, rfl, q⟩ := h
  obtain ⟨t, rfl⟩ := rx
  cases r
  exact PyProof.Rows.call_int_bit_length ⟨.int (Builtin.Int.intBits i : Nat), H, I.tok _, ⟨_, rfl⟩, q⟩
end
end L2
namespace L2
open PySem PySem.Spec PyProof.Rows
structure Cal (P : Program) (w : World) (K : PySem.W.Frag) (mg : Str → Option Value) (base : Heap) (k : Nat) (x : Str) (ps : List Str) (sp : Sp) : Prop where
  ex : ∃ (f : Addr) (fd : FuncData), FnOk P w K mg base CX0 k f fd ps sp ∧ mg x = some (.ref f) ∧ PySem.W.keepIn K (.ref f) = true ∧ Binds K fd ps []
section
variable {X : Cx} {k : Nat} {ps : List Str} {sp : Sp} {x : Str} {p pos : Pos} {e : Expr} {es : List Expr} {t : TA}
theorem pe_cal (c : Cal X.prog X.w X.K X.mg X.base k x ps sp) (hr : Room k X.A) (hg : Gl X x) (ha : PA X (e :: es) t) (hdb : (x == ("__debug__" : Str)) = false := by decide)
    (he : starEach (e :: es) X.env = (false, eval e X.env) :: starEach es X.env := by rfl) (hpl : (backTo pos (starEach es X.env)).any (·.1) = false := by rfl) : PE X (.Call (.Name x p) (e :: es) [] pos) (tCall sp [] E0 t) := by
  obtain ⟨f, fd, F, hm, hk, hb⟩ := c.ex
  exact pe_call F hr hg hm hk hb .nil pass0 ha hdb he hpl
end
end L2
namespace L2
open PySem PySem.Spec PyProof.Rows
section
variable {X : Cx}
end
end L2
namespace L2
open PySem PySem.Spec PyProof.Rows
section
variable {X : Cx} {e st : Expr} {te : TE} {lo hi : Option Expr} {tl th ts : TO} {pos p2 : Pos}
end
end L2
namespace L2
open PySem PySem.Spec PyProof.Rows
section
variable {X : Cx}
theorem get_list : PGet X (fun o i H Q => ∃ (p : Addr) (xs : List V) (j : Nat) (v : V), o = .ref p ∧ i = .int ((j : Nat) : Int) ∧ SqL X.K H p xs ∧ xs[j]? = some v ∧ Q v H) := by
  intro pins s σ H o i ov iv Q I ro ri h
  obtain ⟨p, xs, j, v, rfl, rfl, hq, hx, q⟩ := h
  cases ro
  obtain ⟨t, rfl⟩ := ri
  obtain ⟨its, r, pl, hz⟩ := I.list hq
  obtain ⟨w, ew, rw'⟩ := r.get hx
  have hn := line63
  have hj : j < xs.length := (List.getElem?_eq_some_iff.mp hx).1
  exact wpAny_getItem_list pl.isList (by omega) (by omega) (by rw [Int.toNat_natCast]; simpa using ew) ⟨v, H, I, rw', q⟩
end
end L2
namespace L2
open PySem PySem.Spec PyProof.Rows
section
variable {prog : Program} {w : World} {A : Around} {E : Value → Shared → Prop} {s : Shared}
end
section
variable {X : Cx} {pos : Pos}
end
end L2
namespace L2
open PySem PySem.Spec PyProof.Rows
section
variable {prog : Program} {w : World} {A : Around} {E : Value → Shared → Prop} {s : Shared}
end
end L2
namespace L2
open PySem PySem.Spec PyProof.Rows
section
variable {X : Cx}
end
end L2
namespace L2
open PySem PySem.Spec PyProof.Rows
section
variable {X : Cx} {tg : Expr}
end
section
variable {X : Cx}
end
end L2
namespace L2
open PySem
end L2
namespace L2
open PySem PySem.Spec PyProof.Rows
section
variable {prog : Program} {w : World} {A : Around} {E : Value → Shared → Prop} {s : Shared}
end
end L2
namespace L2
open PySem PySem.Spec PyProof.Rows
section
variable {prog : Program} {w : World} {A : Around} {E : Value → Shared → Prop} {s : Shared}
end
end L2
namespace L2
open PySem PySem.Spec PyProof.Rows
section
variable {X : Cx}
end
end L2
namespace L2
open PySem
end L2
namespace L2
open PySem PySem.Spec PyProof.Rows
section
variable {X : Cx}
end
end L2
namespace DL
open PySem PySem.Spec L2
inductive D where
  | non | bl (b : Bool) | int (i : Int) | str (x : Str) | tup (xs : List D) | lst (xs : List D) | scr (xs : List D) | ref (i : Nat)
  | exc (cn : Str) (fs : List (Str × Int))
inductive O where
  | lst (xs : List D) | dT (kvs : List (List Key × D)) | dK (kvs : List (Key × D)) | ins (cn : Str) (fs : List (Str × D))
structure KP where
  K : PySem.W.Frag
  π : List Addr
noncomputable def VT (K : KP) (α : List Addr) (H : Hp) (a : Addr) (us : List V) : Prop := a ∉ α ∧ a ∉ K.π ∧ H a = some (.tup us)
noncomputable def VS (K : KP) (α : List Addr) (H : Hp) (a : Addr) (us : List V) : Prop :=
  (a ∉ α ∧ a ∉ K.π ∧ Rd H a (.lst us)) ∨ ∃ (o : Obj) (its : Array Value) (n : Nat), K.K.lookup a = some o ∧ o.cls = .type "list" ∧ o.dict = none ∧ o.data = .seq its n ∧ its.size ≤ sizeLine ∧ Vals us its.toList
noncomputable def VL (K : KP) (α : List Addr) (H : Hp) (a : Addr) (us : List V) : Prop := a ∉ α ∧ a ∉ K.π ∧ H a = some (.lst us)
noncomputable def VE (K : KP) (α : List Addr) (H : Hp) (a : Addr) (o : HO) : Prop := a ∉ α ∧ a ∉ K.π ∧ H a = some o
noncomputable def xDict (fs : List (Str × Int)) (dx : Addr) (h : Heap) : Prop := ∃ mA, h.Ns1 dx mA ∧ PySem.Within mA (fs.map (·.1)) ∧ ∀ f, RelO ((fs.lookup f).map V.int) (mA f)
noncomputable def xAny (C : Addr) (dx : Option Addr) (a : Addr) (h : Heap) : Prop := ∃ o vs, h.get? a = some o ∧ o.cls = .ref C ∧ o.dict = dx ∧ o.data = .fields vs
noncomputable def XQ (K : KP) (α : List Addr) (H : Hp) (dx : Option Addr) (fs : List (Str × Int)) : Prop := (dx = none ∧ fs = []) ∨ ∃ d, dx = some d ∧ VE K α H d (.ext (xDict fs d))
theorem XQ.map {K K' : KP} {α α' : List Addr} {H H' : Hp} {dx : Option Addr} {fs : List (Str × Int)} (hE : ∀ a o, VE K α H a o → VE K' α' H' a o) (h : XQ K α H dx fs) : XQ K' α' H' dx fs := h.imp id fun ⟨d, e, v⟩ => ⟨d, e, hE _ _ v⟩
theorem VT.sq {K : KP} {α : List Addr} {H : Hp} {a : Addr} {us : List V} (h : VT K α H a us) : SqT K.K H a us := .inl (.inl h.2.2)
theorem VS.sq {K : KP} {α : List Addr} {H : Hp} {a : Addr} {us : List V} (h : VS K α H a us) : SqL K.K H a us := by
  rcases h with ⟨_, _, h⟩ | h
  · exact .inl h
  · exact .inr h
theorem VL.sq {K : KP} {α : List Addr} {H : Hp} {a : Addr} {us : List V} (h : VL K α H a us) : SqL K.K H a us := SqL.of h.2.2
mutual
inductive RelD (K : KP) (α : List Addr) (H : Hp) : D → V → Prop
  | non : RelD K α H .non .non
  | bl (b : Bool) : RelD K α H (.bl b) (.bl b)
  | int (i : Int) : RelD K α H (.int i) (.int i)
  | str (x : Str) : RelD K α H (.str x) (.str x)
  | tup {a : Addr} {us : List V} {ds : List D} : VT K α H a us → RelDs K α H ds us → RelD K α H (.tup ds) (.ref a)
  | lst {a : Addr} {us : List V} {ds : List D} : VL K α H a us → RelDs K α H ds us → RelD K α H (.lst ds) (.ref a)
  | scr {a : Addr} {us : List V} {ds : List D} : VS K α H a us → RelDs K α H ds us → RelD K α H (.scr ds) (.ref a)
  | ref {i : Nat} {a : Addr} : α[i]? = some a → RelD K α H (.ref i) (.ref a)
  | exc {a C : Addr} {dx : Option Addr} {cn : Str} {fs : List (Str × Int)} : PySem.W.nsIn K.K mainGlobals cn = some (some (.ref C)) → VE K α H a (.ext (xAny C dx a)) → XQ K α H dx fs → RelD K α H (.exc cn fs) (.ref a)
inductive RelDs (K : KP) (α : List Addr) (H : Hp) : List D → List V → Prop
  | nil : RelDs K α H [] []
  | cons {d : D} {u : V} {ds : List D} {us : List V} : RelD K α H d u → RelDs K α H ds us → RelDs K α H (d :: ds) (u :: us)
end
theorem RelD.map {K K' : KP} {α α' : List Addr} {H H' : Hp} (hK : K'.K = K.K) (hT : ∀ a us, VT K α H a us → VT K' α' H' a us) (hL : ∀ a us, VL K α H a us → VL K' α' H' a us) (hS : ∀ a us, VS K α H a us → VS K' α' H' a us) (hE : ∀ a o, VE K α H a o → VE K' α' H' a o)
    (hR : ∀ (i : Nat) (a : Addr), α[i]? = some a → α'[i]? = some a) {d : D} {v : V} (r : RelD K α H d v) : RelD K' α' H' d v :=
  RelD.rec (motive_1 := fun d v _ => RelD K' α' H' d v) (motive_2 := fun ds us _ => RelDs K' α' H' ds us) .non .bl .int .str (fun t _ r => .tup (hT _ _ t) r) (fun t _ r => .lst (hL _ _ t) r) (fun t _ r => .scr (hS _ _ t) r) (fun h => .ref (hR _ _ h)) (fun n t r => .exc (by rw [hK]; exact n) (hE _ _ t) (r.map hE)) .nil (fun _ _ r t => .cons r t) r
theorem RelDs.map {K K' : KP} {α α' : List Addr} {H H' : Hp} (hK : K'.K = K.K) (hT : ∀ a us, VT K α H a us → VT K' α' H' a us) (hL : ∀ a us, VL K α H a us → VL K' α' H' a us) (hS : ∀ a us, VS K α H a us → VS K' α' H' a us) (hE : ∀ a o, VE K α H a o → VE K' α' H' a o)
    (hR : ∀ (i : Nat) (a : Addr), α[i]? = some a → α'[i]? = some a) {ds : List D} {us : List V} (r : RelDs K α H ds us) : RelDs K' α' H' ds us := by
  induction ds generalizing us with
  | nil => cases r; exact .nil
  | cons d ds ih => cases r with | cons h t => exact .cons (h.map hK hT hL hS hE hR) (ih t)
structure Ext (α : List Addr) (H : Hp) (α' : List Addr) (H' : Hp) : Prop where
  pre : ∃ β, α' = α ++ β ∧ ∀ p ∈ β, H p = none
  keep : ∀ b o, H b = some o → b ∉ α → H' b = some o
  dom : ∀ b, H' b = none → H b = none
theorem Ext.refl (α : List Addr) (H : Hp) : Ext α H α H := ⟨⟨[], by simp, fun p h => nomatch h⟩, fun _ _ h _ => h, fun _ h => h⟩
theorem Ext.out {α α' : List Addr} {H H' : Hp} (e : Ext α H α' H') {a : Addr} {o : HO} (h : a ∉ α) (ho : H a = some o) : a ∉ α' := by
  obtain ⟨⟨β, rfl, hb⟩, _⟩ := e
  intro z
  rcases List.mem_append.mp z with z | z
  · exact h z
  · rw [hb a z] at ho; cases ho
theorem Ext.trans {α α' α'' : List Addr} {H H' H'' : Hp} (e : Ext α H α' H') (f : Ext α' H' α'' H'') : Ext α H α'' H'' := by
  refine ⟨?_, fun b o h n => f.keep b o (e.keep b o h n) (e.out n h), fun b h => e.dom b (f.dom b h)⟩
  obtain ⟨⟨β, rfl, hb⟩, k, d⟩ := e
  obtain ⟨⟨γ, rfl, hc⟩, _⟩ := f
  refine ⟨β ++ γ, by simp, fun p hp => ?_⟩
  rcases List.mem_append.mp hp with z | z
  · exact hb p z
  · exact d p (hc p z)
theorem Ext.get {α α' : List Addr} {H H' : Hp} (e : Ext α H α' H') {i : Nat} {a : Addr} (h : α[i]? = some a) : α'[i]? = some a := by
  obtain ⟨⟨β, rfl, _⟩, _⟩ := e
  have hi : i < α.length := (List.getElem?_eq_some_iff.mp h).1
  rw [List.getElem?_append_left hi]; exact h
theorem Ext.new {α : List Addr} {H : Hp} {p : Addr} {o : HO} (h : H p = none) : Ext α H α (upd H p o) :=
  ⟨⟨[], by simp, fun p h => nomatch h⟩, fun b u e _ => by rw [upd_ne (ne_of_none e h)]; exact e, fun b e => by
    by_cases z : b = p
    · subst z; rw [upd_same] at e; cases e
    · rw [upd_ne z] at e; exact e⟩
theorem Ext.write {α : List Addr} {H : Hp} {p : Addr} {o : HO} (h : p ∈ α) : Ext α H α (upd H p o) :=
  ⟨⟨[], by simp, fun p h => nomatch h⟩, fun b u e n => by rw [upd_ne (fun (z : b = p) => n (by rw [z]; exact h))]; exact e, fun b e => by
    by_cases z : b = p
    · subst z; rw [upd_same] at e; cases e
    · rw [upd_ne z] at e; exact e⟩
theorem VT.mono {K : KP} {α α' : List Addr} {H H' : Hp} (e : Ext α H α' H') {a : Addr} {us : List V} (h : VT K α H a us) : VT K α' H' a us := ⟨e.out h.1 h.2.2, h.2.1, e.keep _ _ h.2.2 h.1⟩
theorem VS.mono {K : KP} {α α' : List Addr} {H H' : Hp} (e : Ext α H α' H') {a : Addr} {us : List V} (h : VS K α H a us) : VS K α' H' a us := by
  rcases h with ⟨n, m, h | ⟨o, h⟩⟩ | h
  · exact .inl ⟨e.out n h, m, .inl (e.keep _ _ h n)⟩
  · exact .inl ⟨e.out n h, m, .inr ⟨o, e.keep _ _ h n⟩⟩
  · exact .inr h
theorem VL.mono {K : KP} {α α' : List Addr} {H H' : Hp} (e : Ext α H α' H') {a : Addr} {us : List V} (h : VL K α H a us) : VL K α' H' a us := ⟨e.out h.1 h.2.2, h.2.1, e.keep _ _ h.2.2 h.1⟩
theorem VE.mono {K : KP} {α α' : List Addr} {H H' : Hp} (e : Ext α H α' H') {a : Addr} {u : HO} (h : VE K α H a u) : VE K α' H' a u := ⟨e.out h.1 h.2.2, h.2.1, e.keep _ _ h.2.2 h.1⟩
theorem RelD.mono {K : KP} {α α' : List Addr} {H H' : Hp} (e : Ext α H α' H') {d : D} {v : V} (r : RelD K α H d v) : RelD K α' H' d v := r.map rfl (fun _ _ t => t.mono e) (fun _ _ t => t.mono e) (fun _ _ t => t.mono e) (fun _ _ t => t.mono e) (fun _ _ h => e.get h)
theorem RelDs.mono {K : KP} {α α' : List Addr} {H H' : Hp} (e : Ext α H α' H') {ds : List D} {us : List V} (r : RelDs K α H ds us) : RelDs K α' H' ds us := r.map rfl (fun _ _ t => t.mono e) (fun _ _ t => t.mono e) (fun _ _ t => t.mono e) (fun _ _ t => t.mono e) (fun _ _ h => e.get h)
section
variable {K : KP} {α α' : List Addr} {H H' : Hp}
theorem RelDs.length : ∀ {ds : List D} {us : List V}, RelDs K α H ds us → ds.length = us.length
  | _, _, .nil => rfl
  | _, _, .cons _ t => by rw [List.length_cons, List.length_cons, RelDs.length t]
theorem RelDs.get : ∀ {ds : List D} {us : List V} {i : Nat} {d : D}, RelDs K α H ds us → ds[i]? = some d → ∃ u, us[i]? = some u ∧ RelD K α H d u
  | _, _, _, _, .nil, e => by simp at e
  | _, _, 0, _, .cons r _, e => by simp at e; subst e; exact ⟨_, rfl, r⟩
  | _, _, i + 1, d, .cons _ t, e => by
    obtain ⟨u, h1, h2⟩ := RelDs.get (i := i) (d := d) t (by simpa using e)
    exact ⟨u, by simpa using h1, h2⟩
theorem RelDs.append : ∀ {ds es : List D} {us ws : List V}, RelDs K α H ds us → RelDs K α H es ws → RelDs K α H (ds ++ es) (us ++ ws)
  | _, _, _, _, .nil, s => s
  | _, _, _, _, .cons r t, s => .cons r (RelDs.append t s)
theorem RelDs.take : ∀ {ds : List D} {us : List V} (n : Nat), RelDs K α H ds us → RelDs K α H (ds.take n) (us.take n)
  | _, _, 0, _ => .nil
  | _, _, _ + 1, .nil => .nil
  | _, _, n + 1, .cons r t => .cons r (RelDs.take n t)
theorem RelDs.drop : ∀ {ds : List D} {us : List V} (n : Nat), RelDs K α H ds us → RelDs K α H (ds.drop n) (us.drop n)
  | _, _, 0, r => r
  | _, _, _ + 1, .nil => .nil
  | _, _, n + 1, .cons _ t => RelDs.drop n t
theorem RelDs.set {d : D} {u : V} (r : RelD K α H d u) : ∀ {ds : List D} {us : List V} (i : Nat), RelDs K α H ds us → RelDs K α H (ds.set i d) (us.set i u)
  | _, _, _, .nil => .nil
  | _, _, 0, .cons _ t => .cons r t
  | _, _, i + 1, .cons q t => .cons q (RelDs.set r i t)
theorem RelDs.snoc {ds : List D} {us : List V} {d : D} {u : V} (r : RelDs K α H ds us) (h : RelD K α H d u) : RelDs K α H (ds ++ [d]) (us ++ [u]) := r.append (.cons h .nil)
theorem RelDs.ints : ∀ ns : List Int, RelDs K α H (ns.map D.int) (ns.map V.int)
  | [] => .nil
  | n :: r => .cons (.int n) (RelDs.ints r)
theorem RelDs.inv1 {d : D} {us : List V} (h : RelDs K α H [d] us) : ∃ u, us = [u] ∧ RelD K α H d u := by
  cases h with
  | cons r t => cases t; exact ⟨_, rfl, r⟩
theorem RelDs.inv2 {d e : D} {us : List V} (h : RelDs K α H [d, e] us) : ∃ u v, us = [u, v] ∧ RelD K α H d u ∧ RelD K α H e v := by
  cases h with
  | cons r t =>
    obtain ⟨v, rfl, q⟩ := t.inv1
    exact ⟨_, _, rfl, r, q⟩
end
inductive RelKV (K : KP) (α : List Addr) (H : Hp) {κ : Type} : List (κ × D) → List (κ × V) → Prop
  | nil : RelKV K α H [] []
  | cons {k : κ} {d : D} {u : V} {ds : List (κ × D)} {us : List (κ × V)} : RelD K α H d u → RelKV K α H ds us → RelKV K α H ((k, d) :: ds) ((k, u) :: us)
theorem RelKV.mono {K : KP} {α α' : List Addr} {H H' : Hp} {κ : Type} (e : Ext α H α' H') {ds : List (κ × D)} {us : List (κ × V)} (r : RelKV K α H ds us) : RelKV K α' H' ds us := by
  induction r with
  | nil => exact .nil
  | cons h t ih => exact .cons (h.mono e) ih
inductive RelO' (K : KP) (α : List Addr) (H : Hp) (p : Addr) : O → Prop
  | lst {xs : List D} {us : List V} : H p = some (.lst us) → RelDs K α H xs us → RelO' K α H p (.lst xs)
  | dT {kvs : List (List Key × D)} {us : List (List Key × V)} : H p = some (.dT us) → RelKV K α H kvs us → RelO' K α H p (.dT kvs)
  | dK {kvs : List (Key × D)} {us : List (Key × V)} : H p = some (.dK us) → RelKV K α H kvs us → RelO' K α H p (.dK kvs)
  | ins {C dx : Addr} {cn : Str} {fs : List (Str × D)} {us : List (Str × V)} : PySem.W.nsIn K.K mainGlobals cn = some (some (.ref C)) → H p = some (.ins C dx us) → RelKV K α H fs us → RelO' K α H p (.ins cn fs)
structure HRel (K : KP) (α : List Addr) (H : Hp) (h : List O) : Prop where
  len : α.length = h.length
  nd : α.Nodup
  dis : ∀ p ∈ K.π, p ∉ α ∧ H p ≠ none
  obj : ∀ (i : Nat) (o : O), h[i]? = some o → ∃ p, α[i]? = some p ∧ RelO' K α H p o
theorem RelO'.mono {K : KP} {α α' : List Addr} {H H' : Hp} (e : Ext α H α' H') {p : Addr} {o : O} (r : RelO' K α H p o) (k : H' p = H p) : RelO' K α' H' p o := by
  cases r with
  | lst h t => exact .lst (k.trans h) (t.mono e)
  | dT h t => exact .dT (k.trans h) (t.mono e)
  | dK h t => exact .dK (k.trans h) (t.mono e)
  | ins n h t => exact .ins n (k.trans h) (t.mono e)
section
variable {K : KP} {α α' : List Addr} {H H' : Hp} {h : List O}
theorem HRel.some_ (R : HRel K α H h) {p : Addr} (hp : p ∈ α) : ∃ o, H p = some o := by
  obtain ⟨i, hi, rfl⟩ := List.getElem_of_mem hp
  have hh : i < h.length := by rw [← R.len]; exact hi
  obtain ⟨q, e, r⟩ := R.obj i h[i] (List.getElem?_eq_getElem hh)
  rw [List.getElem?_eq_getElem hi] at e
  cases e
  generalize h[i] = o at r
  cases r with
  | lst h t => exact ⟨_, h⟩
  | dT h t => exact ⟨_, h⟩
  | dK h t => exact ⟨_, h⟩
  | ins n h t => exact ⟨_, h⟩
theorem HRel.out (R : HRel K α H h) {p : Addr} (hp : H p = none) : p ∉ α := fun z => by
  obtain ⟨o, e⟩ := R.some_ z
  rw [hp] at e; cases e
theorem HRel.same (R : HRel K α H h) (e : Ext α H α H') (k : ∀ p ∈ α, H' p = H p) : HRel K α H' h :=
  ⟨R.len, R.nd, fun p hp => ⟨(R.dis p hp).1, fun z => (R.dis p hp).2 (e.dom p z)⟩, fun i o q => by
    obtain ⟨p, ep, r⟩ := R.obj i o q
    exact ⟨p, ep, r.mono e (k p (List.mem_of_getElem? ep))⟩⟩
theorem HRel.new (R : HRel K α H h) {p : Addr} {o : HO} (hp : H p = none) : HRel K α (upd H p o) h :=
  R.same (Ext.new hp) fun q hq => upd_ne fun z => R.out hp (z ▸ hq)
theorem HRel.write (R : HRel K α H h) {p : Addr} {i : Nat} {o : HO} {u : O} (hp : α[i]? = some p) (r : RelO' K α (upd H p o) p u) : HRel K α (upd H p o) (h.set i u) := by
  have hm := List.mem_of_getElem? hp
  refine ⟨by simp [R.len], R.nd, fun q hq => ⟨(R.dis q hq).1, fun z => (R.dis q hq).2 ((Ext.write (H := H) (o := o) hm).dom q z)⟩, fun j v q => ?_⟩
  by_cases e : i = j
  · subst e
    have hi : i < h.length := by
      have := (List.getElem?_eq_some_iff.mp q).1
      simpa using this
    rw [List.getElem?_set_self hi] at q
    cases q
    exact ⟨p, hp, r⟩
  · rw [List.getElem?_set_ne e] at q
    obtain ⟨a, ea, ra⟩ := R.obj j v q
    refine ⟨a, ea, ra.mono (Ext.write hm) (upd_ne fun z => e ?_)⟩
    subst z
    exact (List.getElem?_inj (List.getElem?_eq_some_iff.mp hp).1 R.nd).mp (hp.trans ea.symm)
theorem HRel.lst (R : HRel K α H h) {i : Nat} {xs : List D} (e : h[i]? = some (.lst xs)) : ∃ p us, α[i]? = some p ∧ H p = some (.lst us) ∧ RelDs K α H xs us := by
  obtain ⟨p, ep, r⟩ := R.obj i _ e
  cases r with
  | lst h t => exact ⟨p, _, ep, h, t⟩
theorem HRel.dT (R : HRel K α H h) {i : Nat} {xs : List (List Key × D)} (e : h[i]? = some (.dT xs)) : ∃ p us, α[i]? = some p ∧ H p = some (.dT us) ∧ RelKV K α H xs us := by
  obtain ⟨p, ep, r⟩ := R.obj i _ e
  cases r with
  | dT h t => exact ⟨p, _, ep, h, t⟩
theorem HRel.dK (R : HRel K α H h) {i : Nat} {xs : List (Key × D)} (e : h[i]? = some (.dK xs)) : ∃ p us, α[i]? = some p ∧ H p = some (.dK us) ∧ RelKV K α H xs us := by
  obtain ⟨p, ep, r⟩ := R.obj i _ e
  cases r with
  | dK h t => exact ⟨p, _, ep, h, t⟩
end
theorem HRel.outP {K : KP} {α : List Addr} {H : Hp} {h : List O} (R : HRel K α H h) {p : Addr} (hp : H p = none) : p ∉ K.π := fun z => (R.dis p z).2 hp
structure Priv (D : Addr) (H H' : Hp) : Prop where
  same : ∀ b, b ≠ D → H' b = H b
theorem VT.priv {K : KP} {α : List Addr} {H H' : Hp} {D a : Addr} {us : List V} (e : Priv D H H') (hD : D ∈ K.π) (h : VT K α H a us) : VT K α H' a us :=
  ⟨h.1, h.2.1, (e.same a fun z => h.2.1 (z ▸ hD)).trans h.2.2⟩
theorem VS.priv {K : KP} {α : List Addr} {H H' : Hp} {D a : Addr} {us : List V} (e : Priv D H H') (hD : D ∈ K.π) (h : VS K α H a us) : VS K α H' a us := by
  rcases h with ⟨n, m, h⟩ | h
  · have z : a ≠ D := fun z => m (z ▸ hD)
    refine .inl ⟨n, m, ?_⟩
    unfold Rd at h ⊢
    rw [e.same a z]; exact h
  · exact .inr h
theorem VL.priv {K : KP} {α : List Addr} {H H' : Hp} {D a : Addr} {us : List V} (e : Priv D H H') (hD : D ∈ K.π) (h : VL K α H a us) : VL K α H' a us :=
  ⟨h.1, h.2.1, (e.same a fun z => h.2.1 (z ▸ hD)).trans h.2.2⟩
theorem VE.priv {K : KP} {α : List Addr} {H H' : Hp} {D a : Addr} {u : HO} (e : Priv D H H') (hD : D ∈ K.π) (h : VE K α H a u) : VE K α H' a u :=
  ⟨h.1, h.2.1, (e.same a fun z => h.2.1 (z ▸ hD)).trans h.2.2⟩
theorem RelD.priv {K : KP} {α : List Addr} {H H' : Hp} {D' : Addr} (e : Priv D' H H') (hD : D' ∈ K.π) {d : D} {v : V} (r : RelD K α H d v) : RelD K α H' d v := r.map rfl (fun _ _ t => t.priv e hD) (fun _ _ t => t.priv e hD) (fun _ _ t => t.priv e hD) (fun _ _ t => t.priv e hD) (fun _ _ h => h)
theorem RelDs.priv {K : KP} {α : List Addr} {H H' : Hp} {D' : Addr} (e : Priv D' H H') (hD : D' ∈ K.π) {ds : List D} {us : List V} (r : RelDs K α H ds us) : RelDs K α H' ds us := r.map rfl (fun _ _ t => t.priv e hD) (fun _ _ t => t.priv e hD) (fun _ _ t => t.priv e hD) (fun _ _ t => t.priv e hD) (fun _ _ h => h)
theorem RelKV.priv {K : KP} {α : List Addr} {H H' : Hp} {D' : Addr} {κ : Type} (e : Priv D' H H') (hD : D' ∈ K.π) {ds : List (κ × D)} {us : List (κ × V)} (r : RelKV K α H ds us) : RelKV K α H' ds us := by
  induction r with
  | nil => exact .nil
  | cons h t ih => exact .cons (h.priv e hD) ih
theorem HRel.priv {K : KP} {α : List Addr} {H H' : Hp} {h : List O} {D' : Addr} (e : Priv D' H H') (hD : D' ∈ K.π) (hs : H' D' ≠ none) (R : HRel K α H h) : HRel K α H' h :=
  ⟨R.len, R.nd, fun p hp => ⟨(R.dis p hp).1, by
    by_cases z : p = D'
    · rw [z]; exact hs
    · rw [e.same p z]; exact (R.dis p hp).2⟩, fun i o q => by
    obtain ⟨p, ep, r⟩ := R.obj i o q
    have z : p ≠ D' := fun z => (R.dis D' hD).1 (z ▸ List.mem_of_getElem? ep)
    refine ⟨p, ep, ?_⟩
    cases r with
    | lst h t => exact .lst ((e.same p z).trans h) (t.priv e hD)
    | dT h t => exact .dT ((e.same p z).trans h) (t.priv e hD)
    | dK h t => exact .dK ((e.same p z).trans h) (t.priv e hD)
    | ins n h t => exact .ins n ((e.same p z).trans h) (t.priv e hD)⟩
theorem VT.more {K : PySem.W.Frag} {π π' : List Addr} {α : List Addr} {H : Hp} {a : Addr} {us : List V} (s : ∀ p ∈ π', p ∈ π ∨ H p = none) (h : VT ⟨K, π⟩ α H a us) : VT ⟨K, π'⟩ α H a us :=
  ⟨h.1, fun z => (s a z).elim h.2.1 (fun w => by rw [h.2.2] at w; exact nomatch w), h.2.2⟩
theorem VS.more {K : PySem.W.Frag} {π π' : List Addr} {α : List Addr} {H : Hp} {a : Addr} {us : List V} (s : ∀ p ∈ π', p ∈ π ∨ H p = none) (h : VS ⟨K, π⟩ α H a us) : VS ⟨K, π'⟩ α H a us := by
  rcases h with ⟨n, m, h⟩ | h
  · refine .inl ⟨n, fun z => ?_, h⟩
    rcases s a z with z | z
    · exact m z
    · rcases h with h | ⟨o, h⟩ <;> rw [z] at h <;> cases h
  · exact .inr h
theorem VL.more {K : PySem.W.Frag} {π π' : List Addr} {α : List Addr} {H : Hp} {a : Addr} {us : List V} (s : ∀ p ∈ π', p ∈ π ∨ H p = none) (h : VL ⟨K, π⟩ α H a us) : VL ⟨K, π'⟩ α H a us :=
  ⟨h.1, fun z => (s a z).elim h.2.1 (fun w => by rw [h.2.2] at w; exact nomatch w), h.2.2⟩
theorem VE.more {K : PySem.W.Frag} {π π' : List Addr} {α : List Addr} {H : Hp} {a : Addr} {u : HO} (s : ∀ p ∈ π', p ∈ π ∨ H p = none) (h : VE ⟨K, π⟩ α H a u) : VE ⟨K, π'⟩ α H a u :=
  ⟨h.1, fun z => (s a z).elim h.2.1 (fun w => by rw [h.2.2] at w; exact nomatch w), h.2.2⟩
theorem RelD.more {K : PySem.W.Frag} {π π' : List Addr} {α : List Addr} {H : Hp} (s : ∀ p ∈ π', p ∈ π ∨ H p = none) {d : D} {v : V} (r : RelD ⟨K, π⟩ α H d v) : RelD ⟨K, π'⟩ α H d v := r.map (K := ⟨K, π⟩) (K' := ⟨K, π'⟩) rfl (fun _ _ t => t.more s) (fun _ _ t => t.more s) (fun _ _ t => t.more s) (fun _ _ t => t.more s) (fun _ _ h => h)
theorem RelDs.more {K : PySem.W.Frag} {π π' : List Addr} {α : List Addr} {H : Hp} (s : ∀ p ∈ π', p ∈ π ∨ H p = none) {ds : List D} {us : List V} (r : RelDs ⟨K, π⟩ α H ds us) : RelDs ⟨K, π'⟩ α H ds us := r.map (K := ⟨K, π⟩) (K' := ⟨K, π'⟩) rfl (fun _ _ t => t.more s) (fun _ _ t => t.more s) (fun _ _ t => t.more s) (fun _ _ t => t.more s) (fun _ _ h => h)
theorem RelKV.more {K : PySem.W.Frag} {π π' : List Addr} {α : List Addr} {H : Hp} {κ : Type} (s : ∀ p ∈ π', p ∈ π ∨ H p = none) {ds : List (κ × D)} {us : List (κ × V)} (r : RelKV ⟨K, π⟩ α H ds us) : RelKV ⟨K, π'⟩ α H ds us := by
  induction r with
  | nil => exact .nil
  | cons h t ih => exact .cons (h.more s) ih
theorem HRel.more {K : PySem.W.Frag} {π π' : List Addr} {α : List Addr} {H : Hp} {h : List O} (s : ∀ p ∈ π', p ∈ π ∨ H p = none) (d : ∀ p ∈ π', p ∉ α ∧ H p ≠ none) (R : HRel ⟨K, π⟩ α H h) : HRel ⟨K, π'⟩ α H h :=
  ⟨R.len, R.nd, d, fun i o q => by
    obtain ⟨p, ep, r⟩ := R.obj i o q
    refine ⟨p, ep, ?_⟩
    cases r with
    | lst h t => exact .lst h (t.more s)
    | dT h t => exact .dT h (t.more s)
    | dK h t => exact .dK h (t.more s)
    | ins n h t => exact .ins n h (t.more s)⟩
noncomputable abbrev Sl := List (Option D)
noncomputable abbrev Hh := List O
noncomputable abbrev DK := D → Hh → Prop
noncomputable abbrev DE := Sl → Hh → DK → Prop
noncomputable abbrev DT := Sl → Hh → (Bool → Hh → Prop) → Prop
noncomputable abbrev DA := Sl → Hh → (List D → Hh → Prop) → Prop
noncomputable abbrev DX := Str → List (Str × Int) → Hh → Prop
structure DEnds where
  nx : Sl → Hh → Prop
  rt : DK
  bk : Sl → Hh → Prop := fun _ _ => False
  ct : Sl → Hh → Prop := fun _ _ => False
  ex : DX := fun _ _ _ => False
noncomputable abbrev DS := DEnds → Sl → Hh → Prop
noncomputable abbrev DG := D → Sl → Hh → (Sl → Hh → Prop) → Prop
noncomputable abbrev DGs := List D → Sl → Hh → (Sl → Hh → Prop) → Prop
structure RelS (K : KP) (α : List Addr) (H : Hp) (δ : Sl) (σ : St) : Prop where
  len : δ.length = σ.length
  get : ∀ (i : Nat) (d : D), δ[i]? = some (some d) → ∃ v, σ[i]? = some (some v) ∧ RelD K α H d v
theorem RelS.mono {K : KP} {α α' : List Addr} {H H' : Hp} {δ : Sl} {σ : St} (e : Ext α H α' H') (r : RelS K α H δ σ) : RelS K α' H' δ σ :=
  ⟨r.len, fun i d q => let ⟨v, h1, h2⟩ := r.get i d q; ⟨v, h1, h2.mono e⟩⟩
theorem RelS.set {K : KP} {α : List Addr} {H : Hp} {δ : Sl} {σ : St} {d : D} {v : V} (r : RelS K α H δ σ) (i : Nat) (h : RelD K α H d v) : RelS K α H (δ.set i (some d)) (σ.set i (some v)) := by
  refine ⟨by simp [r.len], fun j e q => ?_⟩
  by_cases z : i = j
  · subst z
    have hi : i < δ.length := by
      have := (List.getElem?_eq_some_iff.mp q).1
      simpa using this
    rw [List.getElem?_set_self hi] at q
    cases q
    exact ⟨v, List.getElem?_set_self (by rw [← r.len]; exact hi), h⟩
  · rw [List.getElem?_set_ne z] at q
    obtain ⟨w, h1, h2⟩ := r.get j e q
    exact ⟨w, by rw [List.getElem?_set_ne z]; exact h1, h2⟩
inductive LE (K : PySem.W.Frag) (f : DE) (σ : St) (H : Hp) (Q : VK) : Prop
  | mk (π : List Addr) (α : List Addr) (δ : Sl) (h : Hh) (Q' : DK) : HRel ⟨K, π⟩ α H h → RelS ⟨K, π⟩ α H δ σ → f δ h Q' → (∀ d h' α' H' v, Q' d h' → Ext α H α' H' → HRel ⟨K, π⟩ α' H' h' → RelD ⟨K, π⟩ α' H' d v → Q v H') → LE K f σ H Q
inductive LT (K : PySem.W.Frag) (f : DT) (σ : St) (H : Hp) (Q : Bool → Hp → Prop) : Prop
  | mk (π : List Addr) (α : List Addr) (δ : Sl) (h : Hh) (Q' : Bool → Hh → Prop) : HRel ⟨K, π⟩ α H h → RelS ⟨K, π⟩ α H δ σ → f δ h Q' → (∀ b h' α' H', Q' b h' → Ext α H α' H' → HRel ⟨K, π⟩ α' H' h' → Q b H') → LT K f σ H Q
inductive LA (K : PySem.W.Frag) (n : Nat) (f : DA) (σ : St) (H : Hp) (Q : List V → Hp → Prop) : Prop
  | mk (π : List Addr) (α : List Addr) (δ : Sl) (h : Hh) (Q' : List D → Hh → Prop) : HRel ⟨K, π⟩ α H h → RelS ⟨K, π⟩ α H δ σ → f δ h Q' → (∀ ds h' α' H' vs, Q' ds h' → Ext α H α' H' → HRel ⟨K, π⟩ α' H' h' → RelDs ⟨K, π⟩ α' H' ds vs → ds.length = n → Q vs H') → LA K n f σ H Q
structure EndsOk (K : KP) (Ex : XK) (α : List Addr) (H : Hp) (E : DEnds) (F : Ends) : Prop where
  nx : ∀ δ' h' α' H' σ', E.nx δ' h' → Ext α H α' H' → HRel K α' H' h' → RelS K α' H' δ' σ' → F.nx σ' H'
  rt : ∀ d h' α' H' v, E.rt d h' → Ext α H α' H' → HRel K α' H' h' → RelD K α' H' d v → F.rt v H'
  bk : ∀ δ' h' α' H' σ', E.bk δ' h' → Ext α H α' H' → HRel K α' H' h' → RelS K α' H' δ' σ' → F.bk σ' H'
  ct : ∀ δ' h' α' H' σ', E.ct δ' h' → Ext α H α' H' → HRel K α' H' h' → RelS K α' H' δ' σ' → F.ct σ' H'
  ex : ∀ cn fs h' α' H' C dx, E.ex cn fs h' → Ext α H α' H' → HRel K α' H' h' → PySem.W.nsIn K.K mainGlobals cn = some (some (.ref C)) → XQ K α' H' dx fs → Ex (.ref C) dx H'
theorem EndsOk.mono {K : KP} {Ex : XK} {α α' : List Addr} {H H' : Hp} {E : DEnds} {F : Ends} (x : EndsOk K Ex α H E F) (e : Ext α H α' H') : EndsOk K Ex α' H' E F :=
  ⟨fun _ _ _ _ _ a b c d => x.nx _ _ _ _ _ a (e.trans b) c d, fun _ _ _ _ _ a b c d => x.rt _ _ _ _ _ a (e.trans b) c d, fun _ _ _ _ _ a b c d => x.bk _ _ _ _ _ a (e.trans b) c d, fun _ _ _ _ _ a b c d => x.ct _ _ _ _ _ a (e.trans b) c d, fun _ _ _ _ _ _ _ a b c d => x.ex _ _ _ _ _ _ _ a (e.trans b) c d⟩
inductive LS (K : PySem.W.Frag) (Ex : XK) (f : DS) (F : Ends) (σ : St) (H : Hp) : Prop
  | mk (π : List Addr) (α : List Addr) (δ : Sl) (h : Hh) (E : DEnds) : HRel ⟨K, π⟩ α H h → RelS ⟨K, π⟩ α H δ σ → f E δ h → EndsOk ⟨K, π⟩ Ex α H E F → LS K Ex f F σ H
inductive LG (K : PySem.W.Frag) (f : DG) (v : V) (σ : St) (H : Hp) (Q : St → Hp → Prop) : Prop
  | mk (π : List Addr) (α : List Addr) (δ : Sl) (h : Hh) (d : D) (Q' : Sl → Hh → Prop) : HRel ⟨K, π⟩ α H h → RelS ⟨K, π⟩ α H δ σ → RelD ⟨K, π⟩ α H d v → f d δ h Q' → (∀ δ' h' α' H' σ', Q' δ' h' → Ext α H α' H' → HRel ⟨K, π⟩ α' H' h' → RelS ⟨K, π⟩ α' H' δ' σ' → Q σ' H') → LG K f v σ H Q
inductive LGs (K : PySem.W.Frag) (f : DGs) (vs : List V) (σ : St) (H : Hp) (Q : St → Hp → Prop) : Prop
  | mk (π : List Addr) (α : List Addr) (δ : Sl) (h : Hh) (ds : List D) (Q' : Sl → Hh → Prop) : HRel ⟨K, π⟩ α H h → RelS ⟨K, π⟩ α H δ σ → RelDs ⟨K, π⟩ α H ds vs → f ds δ h Q' → (∀ δ' h' α' H' σ', Q' δ' h' → Ext α H α' H' → HRel ⟨K, π⟩ α' H' h' → RelS ⟨K, π⟩ α' H' δ' σ' → Q σ' H') → LGs K f vs σ H Q
theorem HRel.under {K : PySem.W.Frag} {π α : List Addr} {H : Hp} {h : Hh} {p : Addr} {o : HO} (R : HRel ⟨K, π⟩ α H h) (hp : H p = none) : HRel ⟨K, p :: π⟩ α (upd H p o) h := by
  have s : ∀ q ∈ p :: π, q ∈ π ∨ H q = none := fun q hq => by
    rcases List.mem_cons.mp hq with rfl | z
    · exact .inr hp
    · exact .inl z
  refine ⟨R.len, R.nd, fun q hq => ?_, fun i ob e => ?_⟩
  · rcases List.mem_cons.mp hq with rfl | z
    · exact ⟨R.out hp, by rw [upd_same]; exact fun z => nomatch z⟩
    · exact ⟨(R.dis q z).1, fun w => (R.dis q z).2 ((Ext.new (α := α) hp).dom q w)⟩
  · obtain ⟨a, ea, r⟩ := R.obj i ob e
    refine ⟨a, ea, ?_⟩
    have k : upd H p o a = H a := upd_ne fun z => R.out hp (z ▸ List.mem_of_getElem? ea)
    have e2 : Ext α H α (upd H p o) := Ext.new hp
    cases r with
    | lst h t => exact .lst (k.trans h) ((t.more s).mono e2)
    | dT h t => exact .dT (k.trans h) ((t.more s).mono e2)
    | dK h t => exact .dK (k.trans h) ((t.more s).mono e2)
    | ins n h t => exact .ins n (k.trans h) ((t.more s).mono e2)
theorem HRel.less {K : PySem.W.Frag} {π α : List Addr} {H : Hp} {h : Hh} {p : Addr} (R : HRel ⟨K, p :: π⟩ α H h) : HRel ⟨K, π⟩ α H h :=
  R.more (fun q hq => .inl (List.mem_cons_of_mem _ hq)) fun q hq => R.dis q (List.mem_cons_of_mem _ hq)
theorem RelS.more {K : PySem.W.Frag} {π π' α : List Addr} {H : Hp} {δ : Sl} {σ : L2.St} (s : ∀ p ∈ π', p ∈ π ∨ H p = none) (S : RelS ⟨K, π⟩ α H δ σ) : RelS ⟨K, π'⟩ α H δ σ :=
  ⟨S.len, fun i d q => let ⟨v, a, b⟩ := S.get i d q; ⟨v, a, b.more s⟩⟩
theorem RelS.priv {K : KP} {α : List Addr} {H H' : Hp} {δ : Sl} {σ : L2.St} {D' : Addr} (e : Priv D' H H') (hD : D' ∈ K.π) (S : RelS K α H δ σ) : RelS K α H' δ σ :=
  ⟨S.len, fun i d q => let ⟨v, a, b⟩ := S.get i d q; ⟨v, a, b.priv e hD⟩⟩
theorem Ext.grow {α α' : List Addr} {H H' : Hp} {p : Addr} {o : HO} (e : Ext α H α' H') (hp : H p = none) : Ext α H α' (upd H' p o) :=
  ⟨e.pre, fun b u q n => by rw [upd_ne (ne_of_none q hp)]; exact e.keep b u q n, fun b q => by
    by_cases z : b = p
    · subst z; exact hp
    · rw [upd_ne z] at q; exact e.dom b q⟩
theorem VT.adopt {K : PySem.W.Frag} {π α : List Addr} {H : Hp} {p a : Addr} {us : List V} (h : VT ⟨K, p :: π⟩ α H a us) : VT ⟨K, π⟩ (α ++ [p]) H a us :=
  ⟨fun z => (List.mem_append.mp z).elim h.1 fun z => h.2.1 (by rw [List.mem_singleton.mp z]; exact List.mem_cons_self), fun z => h.2.1 (List.mem_cons_of_mem _ z), h.2.2⟩
theorem VS.adopt {K : PySem.W.Frag} {π α : List Addr} {H : Hp} {p a : Addr} {us : List V} (h : VS ⟨K, p :: π⟩ α H a us) : VS ⟨K, π⟩ (α ++ [p]) H a us := by
  rcases h with ⟨n, m, h⟩ | h
  · refine .inl ⟨fun z => ?_, fun z => m (List.mem_cons_of_mem _ z), h⟩
    rcases List.mem_append.mp z with z | z
    · exact n z
    · exact m (by rw [List.mem_singleton.mp z]; exact List.mem_cons_self)
  · exact .inr h
theorem VL.adopt {K : PySem.W.Frag} {π α : List Addr} {H : Hp} {p a : Addr} {us : List V} (h : VL ⟨K, p :: π⟩ α H a us) : VL ⟨K, π⟩ (α ++ [p]) H a us :=
  ⟨fun z => (List.mem_append.mp z).elim h.1 fun z => h.2.1 (by rw [List.mem_singleton.mp z]; exact List.mem_cons_self), fun z => h.2.1 (List.mem_cons_of_mem _ z), h.2.2⟩
theorem VE.adopt {K : PySem.W.Frag} {π α : List Addr} {H : Hp} {p a : Addr} {u : HO} (h : VE ⟨K, p :: π⟩ α H a u) : VE ⟨K, π⟩ (α ++ [p]) H a u :=
  ⟨fun z => (List.mem_append.mp z).elim h.1 fun z => h.2.1 (by rw [List.mem_singleton.mp z]; exact List.mem_cons_self), fun z => h.2.1 (List.mem_cons_of_mem _ z), h.2.2⟩
theorem get_app {α : List Addr} {p a : Addr} {i : Nat} (h : α[i]? = some a) : (α ++ [p])[i]? = some a := by
  rw [List.getElem?_append_left (List.getElem?_eq_some_iff.mp h).1]; exact h
theorem RelD.adopt {K : PySem.W.Frag} {π α : List Addr} {H : Hp} {p : Addr} {d : D} {v : V} (r : RelD ⟨K, p :: π⟩ α H d v) : RelD ⟨K, π⟩ (α ++ [p]) H d v := r.map (K := ⟨K, p :: π⟩) (K' := ⟨K, π⟩) (α' := α ++ [p]) (H' := H) rfl (fun _ _ t => t.adopt) (fun _ _ t => t.adopt) (fun _ _ t => t.adopt) (fun _ _ t => t.adopt) (fun _ _ h => get_app h)
theorem RelDs.adopt {K : PySem.W.Frag} {π α : List Addr} {H : Hp} {p : Addr} {ds : List D} {us : List V} (r : RelDs ⟨K, p :: π⟩ α H ds us) : RelDs ⟨K, π⟩ (α ++ [p]) H ds us := r.map (K := ⟨K, p :: π⟩) (K' := ⟨K, π⟩) (α' := α ++ [p]) (H' := H) rfl (fun _ _ t => t.adopt) (fun _ _ t => t.adopt) (fun _ _ t => t.adopt) (fun _ _ t => t.adopt) (fun _ _ h => get_app h)
theorem RelKV.adopt {K : PySem.W.Frag} {π α : List Addr} {H : Hp} {p : Addr} {κ : Type} {ds : List (κ × D)} {us : List (κ × V)} (r : RelKV ⟨K, p :: π⟩ α H ds us) : RelKV ⟨K, π⟩ (α ++ [p]) H ds us := by
  induction r with
  | nil => exact .nil
  | cons h t ih => exact .cons h.adopt ih
theorem HRel.adopt {K : PySem.W.Frag} {π α : List Addr} {H : Hp} {h : Hh} {p : Addr} {u : O} (R : HRel ⟨K, p :: π⟩ α H h) (np : p ∉ π) (r : RelO' ⟨K, π⟩ (α ++ [p]) H p u) : HRel ⟨K, π⟩ (α ++ [p]) H (h ++ [u]) := by
  have hp := R.dis p List.mem_cons_self
  refine ⟨by simp [R.len], ?_, fun q hq => ⟨fun z => ?_, (R.dis q (List.mem_cons_of_mem _ hq)).2⟩, fun i v q => ?_⟩
  · rw [List.nodup_append]
    exact ⟨R.nd, by simp, fun a ha b hb => by rw [List.mem_singleton.mp hb]; exact fun z => hp.1 (z ▸ ha)⟩
  · rcases List.mem_append.mp z with z | z
    · exact (R.dis q (List.mem_cons_of_mem _ hq)).1 z
    · rw [List.mem_singleton.mp z] at hq; exact np hq
  · by_cases hi : i < h.length
    · rw [List.getElem?_append_left hi] at q
      obtain ⟨a, ea, ra⟩ := R.obj i v q
      refine ⟨a, get_app ea, ?_⟩
      cases ra with
      | lst h t => exact .lst h t.adopt
      | dT h t => exact .dT h t.adopt
      | dK h t => exact .dK h t.adopt
      | ins n h t => exact .ins n h t.adopt
    · have hi' : i = h.length := by
        have := (List.getElem?_eq_some_iff.mp q).1
        rw [List.length_append, List.length_singleton] at this; omega
      subst hi'
      rw [List.getElem?_append_right (Nat.le_refl _)] at q
      simp at q; subst q
      exact ⟨p, by rw [List.getElem?_append_right (by rw [R.len]; exact Nat.le_refl _), R.len]; simp, r⟩
theorem Ext.adopt {α α' : List Addr} {H H' : Hp} {p : Addr} (e : Ext α H α' H') (hp : H p = none) : Ext α H (α' ++ [p]) H' := by
  refine ⟨?_, e.keep, e.dom⟩
  obtain ⟨⟨β, rfl, hb⟩, _⟩ := e
  exact ⟨β ++ [p], by simp, fun q hq => by
    rcases List.mem_append.mp hq with z | z
    · exact hb q z
    · rw [List.mem_singleton.mp z]; exact hp⟩
section
variable (X : Cx)
noncomputable def SE (e : Expr) (f : DE) : Prop := PE X e (LE X.K f)
noncomputable def ST (e : Expr) (f : DT) : Prop := PT X e (LT X.K f)
noncomputable def SW (e : Expr) (f : DT) : Prop := PW X e (LT X.K f)
noncomputable def SA (es : List Expr) (n : Nat) (f : DA) : Prop := PA X es (LA X.K n f)
noncomputable def SS (s : Stmt) (f : DS) : Prop := PS X s (LS X.K X.ex9 f)
noncomputable def SSs (ss : List Stmt) (f : DS) : Prop := PSs X ss (LS X.K X.ex9 f)
noncomputable def SG (t : Expr) (f : DG) : Prop := PG X t (LG X.K f)
noncomputable def SGs (ts : List Expr) (f : DGs) : Prop := PGs X ts (LGs X.K f)
end
section
variable {X : Cx}
theorem PE.imp {e : Expr} {t t' : TE} (h : PE X e t) (k : ∀ σ H Q, t' σ H Q → t σ H Q) : PE X e t' := fun pins s σ H Q I q => h pins s σ H Q I (k σ H Q q)
theorem PT.imp {e : Expr} {t t' : TT} (h : PT X e t) (k : ∀ σ H Q, t' σ H Q → t σ H Q) : PT X e t' := fun pins s σ H Q I q => h pins s σ H Q I (k σ H Q q)
theorem PW.imp {e : Expr} {t t' : TT} (h : PW X e t) (k : ∀ σ H Q, t' σ H Q → t σ H Q) : PW X e t' := fun wh pins s σ H Q I q => h wh pins s σ H Q I (k σ H Q q)
theorem PA.imp {es : List Expr} {t t' : TA} (h : PA X es t) (k : ∀ σ H Q, t' σ H Q → t σ H Q) : PA X es t' := fun pos pins s σ H Q I q => h pos pins s σ H Q I (k σ H Q q)
theorem PS.imp {e : Stmt} {t t' : TS} (h : PS X e t) (k : ∀ F σ H, t' F σ H → t F σ H) : PS X e t' := fun pins s σ H F I q => h pins s σ H F I (k F σ H q)
theorem PSs.imp {e : List Stmt} {t t' : TS} (h : PSs X e t) (k : ∀ F σ H, t' F σ H → t F σ H) : PSs X e t' := fun pins s σ H F I q => h pins s σ H F I (k F σ H q)
theorem PG.imp {e : Expr} {t t' : TG} (h : PG X e t) (k : ∀ v σ H Q, t' v σ H Q → t v σ H Q) : PG X e t' := fun pins s σ H v u Q I r q => h pins s σ H v u Q I r (k v σ H Q q)
theorem PGs.imp {e : List Expr} {t t' : TGs} (h : PGs X e t) (k : ∀ v σ H Q, t' v σ H Q → t v σ H Q) : PGs X e t' := fun pins s σ H v u Q I r q => h pins s σ H v u Q I r (k v σ H Q q)
end
end DL
namespace DL
open PySem PySem.Spec L2
noncomputable def dVar (i : Nat) : DE := fun δ h Q => match δ[i]? with | some (some d) => Q d h | _ => False
noncomputable def dC (d : D) : DE := fun _ h Q => Q d h
noncomputable abbrev P1 := D → Hh → DK → Prop
noncomputable abbrev P2 := D → D → Hh → DK → Prop
noncomputable abbrev PN := List D → Hh → DK → Prop
noncomputable def dUn (p : P1) (a : DE) : DE := fun δ h Q => a δ h fun x h1 => p x h1 Q
noncomputable def dOp (p : P2) (a b : DE) : DE := fun δ h Q => a δ h fun x h1 => b δ h1 fun y h2 => p x y h2 Q
inductive r1 (K : PySem.W.Frag) (p : P1) (x : V) (H : Hp) (Q : VK) : Prop
  | mk (π : List Addr) (α : List Addr) (h : Hh) (d : D) (Q' : DK) : HRel ⟨K, π⟩ α H h → RelD ⟨K, π⟩ α H d x → p d h Q' → (∀ d h' α' H' v, Q' d h' → Ext α H α' H' → HRel ⟨K, π⟩ α' H' h' → RelD ⟨K, π⟩ α' H' d v → Q v H') → r1 K p x H Q
inductive r2 (K : PySem.W.Frag) (p : P2) (x y : V) (H : Hp) (Q : VK) : Prop
  | mk (π : List Addr) (α : List Addr) (h : Hh) (d e : D) (Q' : DK) : HRel ⟨K, π⟩ α H h → RelD ⟨K, π⟩ α H d x → RelD ⟨K, π⟩ α H e y → p d e h Q' → (∀ d h' α' H' v, Q' d h' → Ext α H α' H' → HRel ⟨K, π⟩ α' H' h' → RelD ⟨K, π⟩ α' H' d v → Q v H') → r2 K p x y H Q
inductive rN (K : PySem.W.Frag) (p : PN) (xs : List V) (H : Hp) (Q : VK) : Prop
  | mk (π : List Addr) (α : List Addr) (h : Hh) (ds : List D) (Q' : DK) : HRel ⟨K, π⟩ α H h → RelDs ⟨K, π⟩ α H ds xs → p ds h Q' → (∀ d h' α' H' v, Q' d h' → Ext α H α' H' → HRel ⟨K, π⟩ α' H' h' → RelD ⟨K, π⟩ α' H' d v → Q v H') → rN K p xs H Q
section
variable {K : PySem.W.Frag} {σ : L2.St} {H : Hp} {Q : VK}
theorem un_lift {p : P1} {fa : DE} (g : LE K (dUn p fa) σ H Q) : LE K fa σ H fun x H1 => r1 K p x H1 Q := by
  obtain ⟨π, α, δ, h, Q', R, S, f, k⟩ := g
  exact ⟨π, α, δ, h, _, R, S, f, fun x h1 α1 H1 v1 f1 e1 R1 q1 => ⟨π, α1, h1, x, Q', R1, q1, f1, fun d h' α' H' v a b c d' => k d h' α' H' v a (e1.trans b) c d'⟩⟩
theorem op_lift {p : P2} {fa fb : DE} (g : LE K (dOp p fa fb) σ H Q) : LE K fa σ H fun x H1 => LE K fb σ H1 fun y H2 => r2 K p x y H2 Q := by
  obtain ⟨π, α, δ, h, Q', R, S, f, k⟩ := g
  refine ⟨π, α, δ, h, _, R, S, f, fun x h1 α1 H1 v1 f1 e1 R1 q1 => ?_⟩
  refine ⟨π, α1, δ, h1, _, R1, S.mono e1, f1, fun y h2 α2 H2 v2 f2 e2 R2 q2 => ?_⟩
  exact ⟨π, α2, h2, x, y, Q', R2, q1.mono e2, q2, f2, fun d h' α' H' v a b c d' => k d h' α' H' v a (e1.trans (e2.trans b)) c d'⟩
end
theorem OpR.imp {X : Cx} {f : Value → Value → Sem Value} {r r' : R2} (h : OpR X f r) (k : ∀ x y H Q, r' x y H Q → r x y H Q) : OpR X f r' := fun pins s σ H x y v u Q I rx ry q => h pins s σ H x y v u Q I rx ry (k x y H Q q)
theorem UnR.imp {X : Cx} {f : Value → Sem Value} {r r' : V → Hp → VK → Prop} (h : UnR X f r) (k : ∀ x H Q, r' x H Q → r x H Q) : UnR X f r' := fun pins s σ H x v Q I rx q => h pins s σ H x v Q I rx (k x H Q q)
theorem IxR.imp {X : Cx} {r r' : R2} (h : IxR X r) (k : ∀ x y H Q, r' x y H Q → r x y H Q) : IxR X r' := fun va sl pins s σ H x y v u Q I rx ry q => h va sl pins s σ H x y v u Q I rx ry (k x y H Q q)
theorem CallR.imp {X : Cx} {f : Value} {r r' : List V → Hp → VK → Prop} (h : CallR X f r) (k : ∀ x H Q, r' x H Q → r x H Q) : CallR X f r' := fun pins s σ H xs us Q I rx q => h pins s σ H xs us Q I rx (k xs H Q q)
noncomputable def lsOf (h : Hh) : D → Option (List D)
  | .lst xs => some xs
  | .scr xs => some xs
  | .ref i => match h[i]? with | some (.lst xs) => some xs | _ => none
  | _ => none
section
variable {K : KP} {α : List Addr} {H : Hp} {h : Hh}
theorem lsOf_sq (R : HRel K α H h) : ∀ {d : D} {v : V} {xs : List D}, RelD K α H d v → lsOf h d = some xs → ∃ p us, v = .ref p ∧ SqL K.K H p us ∧ RelDs K α H xs us
  | _, _, _, .lst t r, e => by cases e; exact ⟨_, _, rfl, t.sq, r⟩
  | _, _, _, .scr t r, e => by cases e; exact ⟨_, _, rfl, t.sq, r⟩
  | _, _, xs, .ref (i := i) hp, e => by
    have e : (match h[i]? with | some (.lst xs) => some xs | _ => none) = some xs := e
    cases q : h[i]? with
    | none => rw [q] at e; cases e
    | some o =>
      rw [q] at e
      cases o with
      | lst ys =>
        cases e
        obtain ⟨p, us, e1, e2, e3⟩ := R.lst q
        rw [hp] at e1; cases e1
        exact ⟨_, us, rfl, SqL.of e2, e3⟩
      | _ => cases e
  | _, _, _, .non, e => nomatch e
  | _, _, _, .bl _, e => nomatch e
  | _, _, _, .int _, e => nomatch e
  | _, _, _, .str _, e => nomatch e
  | _, _, _, .tup _ _, e => nomatch e
theorem tup_sq {d : List D} {v : V} (r : RelD K α H (.tup d) v) : ∃ p us, v = .ref p ∧ SqT K.K H p us ∧ RelDs K α H d us := by
  cases r with
  | tup t r => exact ⟨_, _, rfl, t.sq, r⟩
end
section
variable {X : Cx} {a b c e : Expr} {fa fb fc : DE} {pos : Pos}
theorem sv (i : Nat) {x : Str} {pos : Pos} (hN : X.N[i]? = some x := by rfl) (hv : Vis X.env.scope x := by trivial) (hd : (x == ("__debug__" : Str)) = false := by decide)
    (hcd : (x == ("__classdict__" : Str)) = false := by decide) : SE X (.Name x pos) (dVar i) := PE.imp (pe_var hN hv hd hcd) fun σ H Q ⟨π, α, δ, h, Q', R, S, f, k⟩ => by
  unfold dVar at f
  split at f
  · rename_i d e
    obtain ⟨v, h1, h2⟩ := S.get i d e
    exact ⟨v, h1, k d h α H v f (Ext.refl ..) R h2⟩
  · exact f.elim
theorem sc_lift {v : V} {d : D} (r : ∀ π α H, RelD ⟨X.K, π⟩ α H d v) (h : PE X e (tC v)) : SE X e (dC d) := PE.imp h fun σ H Q ⟨π, α, δ, h, Q', R, S, f, k⟩ => k d h α H v f (Ext.refl ..) R (r π α H)
theorem se_int {i j pos} : SE X (.Constant (.int i) j pos) (dC (.int i)) := sc_lift (fun _ _ _ => .int i) pe_int
theorem se_bl {i j pos} : SE X (.Constant (.bool i) j pos) (dC (.bl i)) := sc_lift (fun _ _ _ => .bl i) pe_bl
theorem se_globI {x : Str} {i : Int} (hg : Gl X x) (hm : ∃ t, X.mg x = some (.int i t)) (hd : (x == ("__debug__" : Str)) = false := by decide) : SE X (.Name x pos) (dC (.int i)) := by
  obtain ⟨t, hm⟩ := hm
  exact sc_lift (fun _ _ _ => .int i) (pe_glob hg hm ⟨t, rfl⟩ hd)
theorem se_op {op : Operator} {p : P2} (ho : OpR X (binaryOp op) (r2 X.K p)) (ha : SE X a fa) (hb : SE X b fb) : SE X (.BinOp a op b pos) (dOp p fa fb) := PE.imp (pe_op ho ha hb) fun _ _ _ g => op_lift g
theorem se_un {op : UnaryOp} {p : P1} (ho : UnR X (unaryOp op) (r1 X.K p)) (ha : SE X a fa) : SE X (.UnaryOp op a pos) (dUn p fa) := PE.imp (pe_un ho ha) fun _ _ _ g => un_lift g
theorem se_ix {p : P2} (ho : IxR X (r2 X.K p)) (ha : SE X a fa) (hb : SE X b fb) (hs : PlainIx b) : SE X (.Subscript a b pos) (dOp p fa fb) := PE.imp (pe_ix ho ha hb hs) fun _ _ _ g => op_lift g
theorem se_cmp {op : CmpOp} {p : P2} (ho : OpR X (compareOp op) (r2 X.K p)) (ha : SE X a fa) (hb : SE X b fb) (hm : behindInMarks op b = false) : SE X (.Compare a [op] [b] pos) (dOp p fa fb) := PE.imp (pe_cmpR ho ha hb hm) fun _ _ _ g => op_lift g
noncomputable def dTst (f : DE) : DT := fun δ h Q => f δ h fun d h' => match d with | .bl b => Q b h' | _ => False
theorem tst_lift {K : PySem.W.Frag} {f : DE} {σ : L2.St} {H : Hp} {Q : Bool → Hp → Prop} (g : LT K (dTst f) σ H Q) : LE K f σ H fun x H' => ∃ k, x = .bl k ∧ Q k H' := by
  obtain ⟨π, α, δ, h, Q', R, S, f, k⟩ := g
  refine ⟨π, α, δ, h, _, R, S, f, fun d h1 α1 H1 v1 f1 e1 R1 q1 => ?_⟩
  cases q1 with
  | bl b => exact ⟨b, rfl, k b h1 α1 H1 f1 e1 R1⟩
  | _ => exact f1.elim
theorem st_cmp {op : CmpOp} {p : P2} (ho : OpR X (compareOp op) (r2 X.K p)) (ha : SE X a fa) (hb : SE X b fb) (hm : behindInMarks op b = false) : ST X (.Compare a [op] [b] pos) (dTst (dOp p fa fb)) := PT.imp (pt_cmpR ho ha hb hm) fun _ _ _ g => by
  obtain ⟨π, α, δ, h, Q', R, S, f, k⟩ := tst_lift g
  exact op_lift (Q := fun x H' => ∃ k, x = .bl k ∧ _) ⟨π, α, δ, h, Q', R, S, f, k⟩
noncomputable def dChain (p q : P2) (a b c : DE) : DE := fun δ h Q => a δ h fun x h1 => b δ h1 fun y h2 => p x y h2 fun z h3 => match z with
  | .bl k => if k = true then c δ h3 fun w h4 => q y w h4 Q else Q (.bl false) h3
  | _ => False
theorem chain_lift {K : PySem.W.Frag} {p q : P2} {σ : L2.St} {H : Hp} {Q : VK} (g : LE K (dChain p q fa fb fc) σ H Q) : tChain (r2 K p) (r2 K q) (LE K fa) (LE K fb) (LE K fc) σ H Q := by
  obtain ⟨π, α, δ, h, Q', R, S, f, k⟩ := g
  refine ⟨π, α, δ, h, _, R, S, f, fun x h1 α1 H1 v1 f1 e1 R1 q1 => ?_⟩
  refine ⟨π, α1, δ, h1, _, R1, S.mono e1, f1, fun y h2 α2 H2 v2 f2 e2 R2 q2 => ?_⟩
  refine ⟨π, α2, h2, x, y, _, R2, q1.mono e2, q2, f2, fun z h3 α3 H3 v3 f3 e3 R3 q3 => ?_⟩
  cases q3 with
  | bl b =>
    refine ⟨b, rfl, ?_⟩
    cases b with
    | false => exact iteF (k _ _ _ _ _ (by simpa using f3) (e1.trans (e2.trans e3)) R3 (.bl false))
    | true =>
      have f3 : fc δ h3 fun w h4 => q y w h4 Q' := by simpa using f3
      refine iteT ⟨π, α3, δ, h3, _, R3, S.mono (e1.trans (e2.trans e3)), f3, fun w h4 α4 H4 v4 f4 e4 R4 q4 => ?_⟩
      exact ⟨π, α4, h4, y, w, Q', R4, q2.mono (e3.trans e4), q4, f4, fun d h' α' H' v a b c d' => k d h' α' H' v a (e1.trans (e2.trans (e3.trans (e4.trans b)))) c d'⟩
  | _ => exact f3.elim
theorem st_chain {op op' : CmpOp} {p q : P2} (ho : OpR X (compareOp op) (r2 X.K p)) (ho' : OpR X (compareOp op') (r2 X.K q)) (ha : SE X a fa) (hb : SE X b fb) (hc : SE X c fc)
    (hm : lastMarks [op, op'] [b, c] = false := by with_unfolding_all rfl) : ST X (.Compare a [op, op'] [b, c] pos) (dTst (dChain p q fa fb fc)) := PT.imp (pt_chain ho ho' ha hb hc hm) fun _ _ _ g => by
  obtain ⟨π, α, δ, h, Q', R, S, f, k⟩ := tst_lift g
  exact chain_lift (Q := fun x H' => ∃ k, x = .bl k ∧ _) ⟨π, α, δ, h, Q', R, S, f, k⟩
noncomputable def trD (h : Hh) : D → Option Bool
  | .non => some false
  | .bl b => some b
  | .int i => some (i != 0)
  | .str x => if x.length ≤ 16777216 then some ((x.length : Int) != 0) else none
  | .tup xs => some (!xs.isEmpty)
  | .lst xs => some (!xs.isEmpty)
  | .scr xs => some (!xs.isEmpty)
  | .ref i => match h[i]? with | some (.lst xs) => some (!xs.isEmpty) | _ => none
  | .exc _ _ => none
noncomputable def dTr (f : DE) : DT := fun δ h Q => f δ h fun d h' => match trD h' d with | some b => Q b h' | none => False
theorem isEmpty_rel {K : KP} {α : List Addr} {H : Hp} {ds : List D} {us : List V} (r : RelDs K α H ds us) : ds.isEmpty = us.isEmpty := by cases r <;> rfl
theorem tr_ok {K : KP} {α : List Addr} {H : Hp} {h : Hh} (R : HRel K α H h) {d : D} {v : V} {k : Bool} (r : RelD K α H d v) (e : trD h d = some k) : TruV K.K v H k := by
  cases r with
  | non => cases e; exact rfl
  | bl b => cases e; exact rfl
  | int i => cases e; exact rfl
  | str x =>
    have e : (if x.length ≤ 16777216 then some ((x.length : Int) != 0) else none) = some k := e
    split at e
    · rename_i hl
      cases e
      exact ⟨by rw [sizeLine_eq]; exact hl, rfl⟩
    · cases e
  | tup t r => cases e; exact .inr (.inl ⟨_, t.sq, by rw [isEmpty_rel r]⟩)
  | lst t r => cases e; exact .inl ⟨_, t.sq, by rw [isEmpty_rel r]⟩
  | scr t r => cases e; exact .inl ⟨_, t.sq, by rw [isEmpty_rel r]⟩
  | exc _ _ _ => cases e
  | @ref i a hp =>
    have e : (match h[i]? with | some (.lst xs) => some (!xs.isEmpty) | _ => none) = some k := e
    cases q : h[i]? with
    | none => rw [q] at e; cases e
    | some o =>
      rw [q] at e
      cases o with
      | lst ys =>
        cases e
        obtain ⟨p, us, e1, e2, e3⟩ := R.lst q
        rw [hp] at e1; cases e1
        exact .inl ⟨us, SqL.of e2, by rw [isEmpty_rel e3]⟩
      | _ => cases e
theorem st_truth (ha : SE X a fa) (he : ∀ whole, isTrue a X.env whole = (do let v ← whole; standAt a.pos; holding [v] (truthy v)) := by intro _; rfl) : ST X a (dTr fa) := PT.imp (pt_truth ha he) fun σ H Q ⟨π, α, δ, h, Q', R, S, f, k⟩ => by
  refine ⟨π, α, δ, h, _, R, S, f, fun d h1 α1 H1 v1 f1 e1 R1 q1 => ?_⟩
  cases q : trD h1 d with
  | none => rw [q] at f1; exact f1.elim
  | some b => rw [q] at f1; exact ⟨b, tr_ok R1 q1 q, k b h1 α1 H1 f1 e1 R1⟩
noncomputable def dAnd (t u : DT) : DT := fun δ h Q => t δ h fun c h1 => if c = true then u δ h1 Q else Q false h1
noncomputable def dOr (t u : DT) : DT := fun δ h Q => t δ h fun c h1 => if c = true then Q true h1 else u δ h1 Q
noncomputable def dNot (t : DT) : DT := fun δ h Q => t δ h fun c h1 => Q (!c) h1
variable {ga gb : DT} {rest : List Expr}
theorem sw_and1 (ha : ST X a ga) : SW X (.BoolOp .And [a] pos) ga := pw_and1 ha
theorem sw_or1 (ha : ST X a ga) : SW X (.BoolOp .Or [a] pos) ga := pw_or1 ha
theorem sw_and (ha : ST X a ga) (hb : SW X (.BoolOp .And (b :: rest) pos) gb) : SW X (.BoolOp .And (a :: b :: rest) pos) (dAnd ga gb) := PW.imp (pw_and ha hb) fun σ H Q ⟨π, α, δ, h, Q', R, S, f, k⟩ => by
  refine ⟨π, α, δ, h, _, R, S, f, fun c h1 α1 H1 f1 e1 R1 => ?_⟩
  cases c with
  | true => exact iteT ⟨π, α1, δ, h1, Q', R1, S.mono e1, by simpa using f1, fun b h' α' H' a e c => k b h' α' H' a (e1.trans e) c⟩
  | false => exact iteF (k false h1 α1 H1 (by simpa using f1) e1 R1)
theorem sw_or (ha : ST X a ga) (hb : SW X (.BoolOp .Or (b :: rest) pos) gb) : SW X (.BoolOp .Or (a :: b :: rest) pos) (dOr ga gb) := PW.imp (pw_or ha hb) fun σ H Q ⟨π, α, δ, h, Q', R, S, f, k⟩ => by
  refine ⟨π, α, δ, h, _, R, S, f, fun c h1 α1 H1 f1 e1 R1 => ?_⟩
  cases c with
  | true => exact iteT (k true h1 α1 H1 (by simpa using f1) e1 R1)
  | false => exact iteF ⟨π, α1, δ, h1, Q', R1, S.mono e1, by simpa using f1, fun b h' α' H' a e c => k b h' α' H' a (e1.trans e) c⟩
theorem st_w (h : SW X e ga) : ST X e ga := PW.pt h
theorem st_not (ha : ST X a ga) : ST X (.UnaryOp .Not a pos) (dNot ga) := PT.imp (pt_not ha) fun σ H Q ⟨π, α, δ, h, Q', R, S, f, k⟩ => ⟨π, α, δ, h, _, R, S, f, fun c h1 α1 H1 f1 e1 R1 => k (!c) h1 α1 H1 f1 e1 R1⟩
noncomputable def dAndV (a b : DE) : DE := fun δ h Q => a δ h fun x h1 => match x with | .bl k => if k = true then b δ h1 Q else Q (.bl false) h1 | _ => False
noncomputable def dOrV (a b : DE) : DE := fun δ h Q => a δ h fun x h1 => match x with | .bl k => if k = true then Q (.bl true) h1 else b δ h1 Q | _ => False
noncomputable def dNotV (a : DE) : DE := fun δ h Q => a δ h fun x h1 => match x with | .bl b => Q (.bl (!b)) h1 | _ => False
theorem se_one {op} (h : SE X a fa) : SE X (.BoolOp op [a] pos) fa := pe_one h
theorem se_and (ha : SE X a fa) (hb : SE X (.BoolOp .And (b :: rest) pos) fb) : SE X (.BoolOp .And (a :: b :: rest) pos) (dAndV fa fb) := PE.imp (pe_and ha hb) fun σ H Q ⟨π, α, δ, h, Q', R, S, f, k⟩ => by
  refine ⟨π, α, δ, h, _, R, S, f, fun x h1 α1 H1 v1 f1 e1 R1 q1 => ?_⟩
  cases q1 with
  | bl c =>
    refine ⟨c, rfl, ?_⟩
    cases c with
    | true => exact iteT ⟨π, α1, δ, h1, Q', R1, S.mono e1, by simpa using f1, fun d h' α' H' v a e c d' => k d h' α' H' v a (e1.trans e) c d'⟩
    | false => exact iteF (k _ h1 α1 H1 _ (by simpa using f1) e1 R1 (.bl false))
  | _ => exact f1.elim
theorem se_not (ha : SE X a fa) : SE X (.UnaryOp .Not a pos) (dNotV fa) := PE.imp (pe_not ha) fun σ H Q ⟨π, α, δ, h, Q', R, S, f, k⟩ => by
  refine ⟨π, α, δ, h, _, R, S, f, fun x h1 α1 H1 v1 f1 e1 R1 q1 => ?_⟩
  cases q1 with
  | bl c => exact ⟨c, rfl, k _ h1 α1 H1 _ f1 e1 R1 (.bl (!c))⟩
  | _ => exact f1.elim
noncomputable def dIf (t : DT) (a b : DE) : DE := fun δ h Q => t δ h fun c h1 => if c = true then a δ h1 Q else b δ h1 Q
noncomputable def dNil : DA := fun _ h Q => Q [] h
noncomputable def dCons (a : DE) (r : DA) : DA := fun δ h Q => a δ h fun x h1 => r δ h1 fun xs h2 => Q (x :: xs) h2
variable {es : List Expr} {n : Nat} {fs : DA}
theorem sa_nil : SA X [] 0 dNil := PA.imp pa_nil fun σ H Q ⟨π, α, δ, h, Q', R, S, f, k⟩ => k [] h α H [] f (Ext.refl ..) R .nil rfl
theorem sa_cons (ha : SE X e fa) (hr : SA X es n fs) (hs : starEach (e :: es) X.env = (false, eval e X.env) :: starEach es X.env := by rfl) : SA X (e :: es) (n + 1) (dCons fa fs) := PA.imp (pa_cons ha hr hs) fun σ H Q ⟨π, α, δ, h, Q', R, S, f, k⟩ => by
  refine ⟨π, α, δ, h, _, R, S, f, fun x h1 α1 H1 v1 f1 e1 R1 q1 => ?_⟩
  refine ⟨π, α1, δ, h1, _, R1, S.mono e1, f1, fun ds h2 α2 H2 vs f2 e2 R2 q2 l2 => ?_⟩
  exact k (x :: ds) h2 α2 H2 (v1 :: vs) f2 (e1.trans e2) R2 (.cons (q1.mono e2) q2) (by rw [List.length_cons, l2])
noncomputable def dTup (f : DA) : DE := fun δ h Q => f δ h fun ds h1 => Q (.tup ds) h1
theorem se_tup {x1} (hf : SA X es n fs) (hn : n ≤ sizeLine := by decide) : SE X (.Tuple es x1 pos) (dTup fs) := PE.imp (pe_tup hf) fun σ H Q ⟨π, α, δ, h, Q', R, S, f, k⟩ => by
  refine ⟨π, α, δ, h, _, R, S, f, fun ds h1 α1 H1 vs f1 e1 R1 q1 l1 => ⟨by rw [← q1.length, l1]; exact hn, fun p hp => ?_⟩⟩
  have e2 : Ext α1 H1 α1 (upd H1 p (.tup vs)) := Ext.new hp
  exact k (.tup ds) h1 α1 _ _ f1 (e1.trans e2) (R1.new hp) (.tup ⟨R1.out hp, R1.outP hp, upd_same⟩ (q1.mono e2))
noncomputable abbrev DN := Sl → Hh → (List D → Hh → Prop) → Prop
inductive LN (K : PySem.W.Frag) (f : DN) (σ : St) (H : Hp) (Q : VK) : Prop
  | mk (π : List Addr) (α : List Addr) (δ : Sl) (h : Hh) (Q' : List D → Hh → Prop) : HRel ⟨K, π⟩ α H h → RelS ⟨K, π⟩ α H δ σ → f δ h Q' → (∀ ds h' α' H' us p, Q' ds h' → Ext α H α' H' → HRel ⟨K, p :: π⟩ α' H' h' → RelDs ⟨K, p :: π⟩ α' H' ds us → H' p = some (.lst us) → H p = none → p ∉ π → Q (.ref p) H') → LN K f σ H Q
theorem LN.last {K : PySem.W.Frag} {π α α' : List Addr} {H H' : Hp} {h h' : Hh} {Q : VK} {Q' : List D → Hh → Prop} (k : ∀ ds h' α' H' us p, Q' ds h' → Ext α H α' H' → HRel ⟨K, p :: π⟩ α' H' h' → RelDs ⟨K, p :: π⟩ α' H' ds us → H' p = some (.lst us) → H p = none → p ∉ π → Q (.ref p) H')
    {ds : List D} {us : List V} {p : Addr} (f : Q' ds h') (e : Ext α H α' H') (R : HRel ⟨K, π⟩ α' H' h') (r : RelDs ⟨K, π⟩ α' H' ds us) (hp : H' p = none) : Q (.ref p) (upd H' p (.lst us)) := by
  have e2 : Ext α' H' α' (upd H' p (.lst us)) := Ext.new hp
  refine k ds h' α' _ us p f (e.trans e2) (R.under hp) ((r.more fun q hq => ?_).mono e2) upd_same (e.dom p hp) (R.outP hp)
  rcases List.mem_cons.mp hq with rfl | z
  · exact .inr hp
  · exact .inl z
noncomputable def SN (X : Cx) (e : Expr) (f : DN) : Prop := PE X e (LN X.K f)
noncomputable def dV (f : DN) : DE := fun δ h Q => f δ h fun ds h' => Q (.lst ds) h'
noncomputable def dTk (f : DN) : DE := fun δ h Q => f δ h fun ds h' => Q (.ref h'.length) (h' ++ [.lst ds])
variable {fn : DN}
theorem se_v (hf : SN X e fn) : SE X e (dV fn) := PE.imp hf fun σ H Q ⟨π, α, δ, h, Q', R, S, f, k⟩ => by
  refine ⟨π, α, δ, h, _, R, S, f, fun ds h1 α1 H1 us p f1 e1 R1 q1 hus hp np => ?_⟩
  exact k (.lst ds) h1 α1 _ _ f1 e1 R1.less (.lst ⟨(R1.dis p List.mem_cons_self).1, np, hus⟩ (q1.more fun q hq => .inl (List.mem_cons_of_mem _ hq)))
theorem se_t (hf : SN X e fn) : SE X e (dTk fn) := PE.imp hf fun σ H Q ⟨π, α, δ, h, Q', R, S, f, k⟩ => by
  refine ⟨π, α, δ, h, _, R, S, f, fun ds h1 α1 H1 us p f1 e1 R1 q1 hus hp np => ?_⟩
  refine k (.ref h1.length) (h1 ++ [.lst ds]) (α1 ++ [p]) _ _ f1 (e1.adopt hp) (R1.adopt np (.lst hus q1.adopt)) (.ref ?_)
  rw [← R1.len]; simp
theorem sn_lst (hf : SA X es n fs) (hn : n ≤ sizeLine := by decide) : SN X (.List es pos) fs := PE.imp (pe_lst hf) fun σ H Q ⟨π, α, δ, h, Q', R, S, f, k⟩ => by
  refine ⟨π, α, δ, h, _, R, S, f, fun ds h1 α1 H1 vs f1 e1 R1 q1 l1 => ⟨by rw [← q1.length, l1]; exact hn, fun p hp => ?_⟩⟩
  exact LN.last (h := h) k f1 e1 R1 q1 hp
end
end DL
namespace DL
open PySem PySem.Spec L2
section
variable {X : Cx}
noncomputable def pI (C : Int → Int → Prop) (g : Int → Int → Int) : P2 := fun x y h Q => match x, y with | .int i, .int j => C i j ∧ Q (.int (g i j)) h | _, _ => False
noncomputable def pI0 (g : Int → Int → Int) : P2 := fun x y h Q => match x, y with | .int i, .int j => Q (.int (g i j)) h | _, _ => False
noncomputable def pB0 (g : Int → Int → Bool) : P2 := fun x y h Q => match x, y with | .int i, .int j => Q (.bl (g i j)) h | _, _ => False
theorem pI_ok {f : Value → Value → Sem Value} {C : Int → Int → Prop} {g : Int → Int → Int} (h : OpR X f (rI C fun i j => .int (g i j))) : OpR X f (r2 X.K (pI C g)) := OpR.imp h fun x y H Q ⟨π, α, h, d, e, Q', R, r1, r2, f, k⟩ => by
  cases r1 with
  | int i =>
    cases r2 with
    | int j => exact ⟨i, j, rfl, rfl, f.1, k _ h α H _ f.2 (Ext.refl ..) R (.int _)⟩
    | _ => exact f.elim
  | _ => exact f.elim
theorem pI0_ok {f : Value → Value → Sem Value} {g : Int → Int → Int} (h : OpR X f (rI0 fun i j => .int (g i j))) : OpR X f (r2 X.K (pI0 g)) := OpR.imp h fun x y H Q ⟨π, α, h, d, e, Q', R, r1, r2, f, k⟩ => by
  cases r1 with
  | int i =>
    cases r2 with
    | int j => exact ⟨i, j, rfl, rfl, k _ h α H _ f (Ext.refl ..) R (.int _)⟩
    | _ => exact f.elim
  | _ => exact f.elim
theorem pB0_ok {f : Value → Value → Sem Value} {g : Int → Int → Bool} (h : OpR X f (rI0 fun i j => .bl (g i j))) : OpR X f (r2 X.K (pB0 g)) := OpR.imp h fun x y H Q ⟨π, α, h, d, e, Q', R, r1, r2, f, k⟩ => by
  cases r1 with
  | int i =>
    cases r2 with
    | int j => exact ⟨i, j, rfl, rfl, k _ h α H _ f (Ext.refl ..) R (.bl _)⟩
    | _ => exact f.elim
  | _ => exact f.elim
noncomputable abbrev pSub : P2 := pI0 fun i j => i - j
noncomputable abbrev pDiv : P2 := pI (fun _ j => 0 < j ∧ j < 2 ^ 100) fun i j => i / j
noncomputable abbrev pMod : P2 := pI (fun _ j => 0 < j) fun i j => i % j
noncomputable abbrev pPow : P2 := pI CPow fun i j => i ^ j.toNat
noncomputable abbrev pShl : P2 := pI CPow fun i j => i * 2 ^ j.toNat
noncomputable abbrev pShr : P2 := pI (fun _ j => 0 ≤ j) fun i j => i / 2 ^ j.toNat
noncomputable abbrev pBand : P2 := pI0 fun i j => Builtin.bitAnd i j
noncomputable abbrev pBor : P2 := pI0 fun i j => Builtin.bitOr i j
noncomputable abbrev pLtI : P2 := pB0 fun i j => decide (i < j)
noncomputable abbrev pLe : P2 := pB0 fun i j => decide (i ≤ j)
noncomputable abbrev pGt : P2 := pB0 fun i j => decide (j < i)
theorem ok_sub : OpR X (binaryOp .Sub) (r2 X.K pSub) := pI0_ok op_sub
theorem op_fdivB : OpR X (binaryOp .FloorDiv) (rI (fun _ j => 0 < j ∧ j < 2 ^ 100) fun i j => .int (i / j)) := opI fun i j _ _ _ _ _ hc q => by
  have e : i.fdiv j = i / j := Int.fdiv_eq_ediv_of_nonneg i (by omega)
  refine PyProof.Rows.floordiv_int (by omega) (by rw [e]; exact q) (.inl (PyProof.noPylong_of_log2 ?_))
  have h1 : j.natAbs ≠ 0 := by omega
  rw [Nat.log2_lt h1]
  have h2 : j.natAbs < 2 ^ 100 := by
    have := hc.2
    omega
  exact Nat.lt_of_lt_of_le h2 (Nat.pow_le_pow_right (by decide) (by decide))
theorem ok_div : OpR X (binaryOp .FloorDiv) (r2 X.K pDiv) := pI_ok op_fdivB
theorem ok_mod : OpR X (binaryOp .Mod) (r2 X.K pMod) := pI_ok op_mod
theorem ok_pow : OpR X (binaryOp .Pow) (r2 X.K pPow) := pI_ok op_pow
theorem ok_shl : OpR X (binaryOp .LShift) (r2 X.K pShl) := pI_ok op_shl
theorem ok_shr : OpR X (binaryOp .RShift) (r2 X.K pShr) := pI_ok op_shr
theorem ok_band : OpR X (binaryOp .BitAnd) (r2 X.K pBand) := pI0_ok op_and
theorem ok_le : OpR X (compareOp .LtE) (r2 X.K pLe) := pB0_ok op_le
theorem ok_gt : OpR X (compareOp .Gt) (r2 X.K pGt) := pB0_ok op_gt
theorem ok_ltI : OpR X (compareOp .Lt) (r2 X.K pLtI) := pB0_ok op_lt
theorem iok_or : OpR X (inplaceOp .BitOr) (r2 X.K pBor) := pI0_ok iop_or
noncomputable def pAdd : P2 := fun x y h Q => match x, y with
  | .int i, .int j => Q (.int (i + j)) h
  | .str a, .str b => a.length + b.length ≤ 16777216 ∧ Q (.str (a ++ b)) h
  | .tup a, .tup b => a ≠ [] ∧ a.length + b.length ≤ 16777216 ∧ Q (.tup (a ++ b)) h
  | _, _ => False
theorem ok_add : OpR X (binaryOp .Add) (r2 X.K pAdd) := OpR.imp (op_add.or (op_add_str.or op_catT)) fun x y H Q ⟨π, α, h, d, e, Q', R, r1, r2, f, k⟩ => by
  cases r1 with
  | int i =>
    cases r2 with
    | int j => exact .inl ⟨i, j, rfl, rfl, k _ h α H _ f (Ext.refl ..) R (.int _)⟩
    | _ => exact f.elim
  | str i =>
    cases r2 with
    | str j => exact .inr (.inl ⟨i, j, rfl, rfl, by rw [sizeLine_eq]; exact f.1, k _ h α H _ f.2 (Ext.refl ..) R (.str _)⟩)
    | _ => exact f.elim
  | @tup a us ds t r =>
    cases r2 with
    | @tup a' us' ds' t' r' =>
      obtain ⟨f1, f2, f3⟩ := f
      have l1 := r.length
      have l2 := r'.length
      refine .inr (.inr ⟨a, a', us, us', rfl, rfl, t.sq, t'.sq, ?_, by rw [sizeLine_eq, ← l1, ← l2]; exact f2, fun z => ?_, fun z p hp => ?_⟩)
      · intro z
        subst z
        cases r; exact f1 rfl
      · subst z
        cases r'
        rw [List.append_nil] at f3
        exact k _ h α H _ f3 (Ext.refl ..) R (.tup t r)
      · have e2 : Ext α H α (upd H p (.tup (us ++ us'))) := Ext.new hp
        exact k _ h α _ _ f3 e2 (R.new hp) (.tup ⟨R.out hp, R.outP hp, upd_same⟩ ((r.append r').mono e2))
    | _ => exact f.elim
  | _ => exact f.elim
noncomputable def pNeg : P1 := fun x h Q => match x with | .int i => Q (.int (-i)) h | _ => False
theorem ok_neg : UnR X (unaryOp .USub) (r1 X.K pNeg) := UnR.imp un_neg fun x H Q ⟨π, α, h, d, Q', R, r1, f, k⟩ => by
  cases r1 with
  | int i => exact ⟨i, rfl, k _ h α H _ f (Ext.refl ..) R (.int _)⟩
  | _ => exact f.elim
noncomputable def isNon : D → Bool | .non => true | _ => false
noncomputable def pIs (neg : Bool) : P2 := fun x y h Q => match y with | .non => Q (.bl (if neg then !isNon x else isNon x)) h | _ => False
theorem atI_rel {K : KP} {α : List Addr} {H : Hp} {ds : List D} {us : List V} {i : Int} {d : D} (r : RelDs K α H ds us) (e : atI ds i = some d) : ∃ u, atI us i = some u ∧ RelD K α H d u := by
  unfold atI at e ⊢
  rw [← r.length]
  cases q : ixN ds.length i with
  | none => rw [q] at e; cases e
  | some j =>
    rw [q] at e
    exact r.get e
noncomputable def seqOf (h : Hh) : D → Option (List D)
  | .lst xs => some xs
  | .scr xs => some xs
  | .tup xs => some xs
  | .ref i => match h[i]? with | some (.lst xs) => some xs | _ => none
  | _ => none
theorem seqOf_sq {K : KP} {α : List Addr} {H : Hp} {h : Hh} (R : HRel K α H h) {d : D} {v : V} {xs : List D} (r : RelD K α H d v) (e : seqOf h d = some xs) : ∃ p us, v = .ref p ∧ (SqL K.K H p us ∨ SqT K.K H p us) ∧ RelDs K α H xs us := by
  by_cases z : ∃ ys, d = .tup ys
  · obtain ⟨ys, rfl⟩ := z
    cases e
    obtain ⟨p, us, a, b, c⟩ := tup_sq r
    exact ⟨p, us, a, .inr b, c⟩
  · have e' : lsOf h d = some xs := by
      cases d with
      | tup ys => exact absurd ⟨ys, rfl⟩ z
      | lst ys => exact e
      | scr ys => exact e
      | ref i => exact e
      | _ => cases e
    obtain ⟨p, us, a, b, c⟩ := lsOf_sq R r e'
    exact ⟨p, us, a, .inl b, c⟩
noncomputable def strAt (x : Str) (i : Int) : Option D := if x.length ≤ 16777216 then (atI x.cps.toList i).map fun c => .str ⟨#[c]⟩ else none
noncomputable def ixD (h : Hh) (x y : D) : Option D := match y with
  | .int i => match x with
    | .tup xs => atI xs i
    | .lst xs => atI xs i
    | .scr xs => atI xs i
    | .ref j => match h[j]? with | some (.lst xs) => atI xs i | _ => none
    | .str s => strAt s i
    | _ => none
  | _ => none
noncomputable def pIx : P2 := fun x y h Q => match ixD h x y with | some d => Q d h | none => False
theorem ok_ix : IxR X (r2 X.K pIx) := IxR.imp ix_seq fun x y H Q ⟨π, α, h, d, e, Q', R, r1, r2, f, k⟩ => by
  unfold pIx at f
  cases q : ixD h d e with
  | none => rw [q] at f; exact f.elim
  | some z =>
    rw [q] at f
    cases r2 with
    | int i =>
      cases r1 with
      | @tup a us ds t r =>
        obtain ⟨u, e1, e2⟩ := atI_rel r q
        exact .inr (.inl ⟨_, us, i, u, rfl, rfl, t.sq, e1, k _ h α H _ f (Ext.refl ..) R e2⟩)
      | @lst a us ds t r =>
        obtain ⟨u, e1, e2⟩ := atI_rel r q
        exact .inl ⟨_, us, i, u, rfl, rfl, t.sq, e1, k _ h α H _ f (Ext.refl ..) R e2⟩
      | @scr a us ds t r =>
        obtain ⟨u, e1, e2⟩ := atI_rel r q
        exact .inl ⟨_, us, i, u, rfl, rfl, t.sq, e1, k _ h α H _ f (Ext.refl ..) R e2⟩
      | @ref j a hp =>
        have q : (match h[j]? with | some (.lst xs) => atI xs i | _ => none) = some z := q
        cases w : h[j]? with
        | none => rw [w] at q; cases q
        | some o =>
          rw [w] at q
          cases o with
          | lst ys =>
            obtain ⟨p, us, e1, e2, e3⟩ := R.lst w
            rw [hp] at e1; cases e1
            obtain ⟨u, e4, e5⟩ := atI_rel e3 q
            exact .inl ⟨_, us, i, u, rfl, rfl, SqL.of e2, e4, k _ h α H _ f (Ext.refl ..) R e5⟩
          | _ => cases q
      | str s =>
        have q : strAt s i = some z := q
        unfold strAt at q
        split at q
        · rename_i hl
          cases w : atI s.cps.toList i with
          | none => rw [w] at q; cases q
          | some c =>
            rw [w] at q
            cases q
            exact .inr (.inr ⟨s, i, c, rfl, rfl, by rw [sizeLine_eq]; exact hl, w, k _ h α H _ f (Ext.refl ..) R (.str _)⟩)
        · cases q
      | _ => cases q
    | _ => cases q
end
noncomputable def cutD (xs : List D) (lo hi : Option Int) : List D := (xs.drop (HT.sIx xs.length 0 lo)).take (HT.sIx xs.length xs.length hi - HT.sIx xs.length 0 lo)
theorem cut_rel {K : KP} {α : List Addr} {H : Hp} {ds : List D} {us : List V} (r : RelDs K α H ds us) (lo hi : Option Int) : RelDs K α H (cutD ds lo hi) (cutV us lo hi) := by
  unfold cutD cutV
  rw [r.length]
  exact (r.drop _).take _
noncomputable abbrev DO := Sl → Hh → (Option Int → Hh → Prop) → Prop
noncomputable def dNoPart : DO := fun _ h Q => Q none h
noncomputable def dPart (f : DE) : DO := fun δ h Q => f δ h fun d h1 => match d with | .int i => Q (some i) h1 | _ => False
inductive LO (K : PySem.W.Frag) (f : DO) (σ : St) (H : Hp) (Q : Option Int → Hp → Prop) : Prop
  | mk (π : List Addr) (α : List Addr) (δ : Sl) (h : Hh) (Q' : Option Int → Hh → Prop) : HRel ⟨K, π⟩ α H h → RelS ⟨K, π⟩ α H δ σ → f δ h Q' → (∀ i h' α' H', Q' i h' → Ext α H α' H' → HRel ⟨K, π⟩ α' H' h' → Q i H') → LO K f σ H Q
noncomputable def SO (X : Cx) (e : Option Expr) (f : DO) : Prop := PO X e (LO X.K f)
section
variable {X : Cx} {e : Expr} {fe : DE} {lo hi : Option Expr} {fl fh : DO} {pos p2 : Pos}
theorem PO.imp {o : Option Expr} {t t' : TO} (h : PO X o t) (k : ∀ σ H Q, t' σ H Q → t σ H Q) : PO X o t' := fun pins s σ H Q I q => h pins s σ H Q I (k σ H Q q)
theorem so_none : SO X none dNoPart := PO.imp po_none fun σ H Q ⟨π, α, δ, h, Q', R, S, f, k⟩ => k none h α H f (Ext.refl ..) R
theorem so_some (h : SE X e fe) : SO X (some e) (dPart fe) := PO.imp (po_some h) fun σ H Q ⟨π, α, δ, h, Q', R, S, f, k⟩ => by
  refine ⟨π, α, δ, h, _, R, S, f, fun d h1 α1 H1 v1 f1 e1 R1 q1 => ?_⟩
  cases q1 with
  | int i => exact ⟨i, rfl, k (some i) h1 α1 H1 f1 e1 R1⟩
  | _ => exact f1.elim
noncomputable def rSlD (K : PySem.W.Frag) : V → Option Int → Option Int → Hp → VK → Prop := fun x lo hi H Q => ∃ a xs, x = .ref a ∧ SqT K H a xs ∧ (cutV xs lo hi = xs → Q (.ref a) H) ∧ ∀ p, H p = none → Q (.ref p) (upd H p (.tup (cutV xs lo hi)))
theorem sl_tupD : SlR X (rSlD X.K) := by
  intro pins s σ H x v vl vu lo hi sl Q I rx hs pl pu h
  obtain ⟨a, xs, rfl, hx, q1, q2⟩ := h
  by_cases hw : HT.sIx xs.length 0 lo = 0 ∧ HT.sIx xs.length xs.length hi = xs.length
  · cases rx
    obtain ⟨its, r, ht, hz⟩ := I.tuple hx
    have hlen : its.toArray.size = xs.length := by rw [List.size_toArray]; exact r.length.symm
    refine ⟨"tuple", _, PyProof.Rows.slot_tuple_getitem.lookup, ht.typeIs, ?_⟩
    have ec : cutV xs lo hi = xs := by
      unfold cutV
      rw [hw.1, hw.2, List.drop_zero, Nat.sub_zero, List.take_length]
    exact HT.getItem_tuple_all ht hs pl pu (by rw [hlen]; exact hw) ⟨.ref a, H, I, rfl, q1 ec⟩
  · exact sl_tup pins s σ H (.ref a) v vl vu lo hi sl Q I rx hs pl pu ⟨a, xs, rfl, hx, hw, fun p hp => q2 p hp⟩
noncomputable def dSlL (fe : DE) (fl fh : DO) : DN := fun δ h Q => fe δ h fun d h1 => fl δ h1 fun l h2 => fh δ h2 fun u h3 => match lsOf h3 d with | some xs => Q (cutD xs l u) h3 | none => False
end
end DL
namespace DL
open PySem PySem.Spec L2
noncomputable def dName (i : Nat) : DG := fun d δ h Q => Q (δ.set i (some d)) h
noncomputable def dGNil : DGs := fun ds δ h Q => match ds with | [] => Q δ h | _ => False
noncomputable def dGCons (t : DG) (u : DGs) : DGs := fun ds δ h Q => match ds with | d :: r => t d δ h fun δ' h' => u r δ' h' Q | [] => False
noncomputable def dUnp (n : Nat) (t : DGs) : DG := fun d δ h Q => match d with | .tup xs => xs.length = n ∧ t xs δ h Q | _ => False
section
variable {X : Cx} {pos : Pos}
theorem sg_name {i : Nat} {x : Str} (hN : X.N.Nodup) (hi : X.N[i]? = some x) (hx : Loc X.env.scope x) (hf : X.fn x = true ∨ X.env.scope.names.lookup x = some .local := by trivial) : SG X (.Name x pos) (dName i) := PG.imp (pg_name hN hi hx hf) fun v σ H Q ⟨π, α, δ, h, d, Q', R, S, r, f, k⟩ =>
  k _ h α H _ f (Ext.refl ..) R (S.set i r)
theorem sgs_nil : SGs X [] dGNil := PGs.imp pgs_nil fun vs σ H Q ⟨π, α, δ, h, ds, Q', R, S, r, f, k⟩ => by
  cases r with
  | nil => exact ⟨rfl, k δ h α H σ f (Ext.refl ..) R S⟩
  | cons _ _ => exact f.elim
theorem sgs_cons {e : Expr} {es : List Expr} {t : DG} {u : DGs} (h1 : SG X e t) (h2 : SGs X es u) (hs : (assignEach (e :: es) X.env).map (·.2) = assign e X.env :: (assignEach es X.env).map (·.2) := by rfl) : SGs X (e :: es) (dGCons t u) := PGs.imp (pgs_cons h1 h2 hs) fun vs σ H Q ⟨π, α, δ, h, ds, Q', R, S, r, f, k⟩ => by
  cases r with
  | nil => exact f.elim
  | @cons d v ds us rd rs =>
    refine ⟨v, us, rfl, π, α, δ, h, d, _, R, S, rd, f, fun δ1 h1 α1 H1 σ1 f1 e1 R1 S1 => ?_⟩
    exact ⟨π, α1, δ1, h1, ds, Q', R1, S1, rs.mono e1, f1, fun δ' h' α' H' σ' a b c d' => k δ' h' α' H' σ' a (e1.trans b) c d'⟩
theorem sg_tup {es : List Expr} {j : Nat} {t : DGs} {n : Nat} (hc : X.calm = true) (h : SGs X es t) (hn : (assignEach es X.env).length = n := by rfl) (hst : (assignEach es X.env).findIdx? (·.1) = none := by rfl) : SG X (.Tuple es j pos) (dUnp n t) := PG.imp (pg_tup hc h hn hst) fun v σ H Q ⟨π, α, δ, h, d, Q', R, S, r, f, k⟩ => by
  cases r with
  | @tup a us ds t rs => exact ⟨a, us, rfl, t.sq, by rw [← rs.length]; exact f.1, π, α, δ, h, ds, Q', R, S, rs, f.2, k⟩
  | _ => exact f.elim
noncomputable def setD (o i v : D) (h : Hh) (Q : Hh → Prop) : Prop := match o, i with
  | .ref j, .int k => match h[j]? with
    | some (.lst xs) => match ixN xs.length k with
      | some m => Q (h.set j (.lst (xs.set m v)))
      | none => False
    | _ => False
  | _, _ => False
noncomputable def dSubL (fo fi : DE) : DG := fun v δ h Q => fo δ h fun o h1 => fi δ h1 fun i h2 => setD o i v h2 fun h3 => Q δ h3
theorem set_lift {K : PySem.W.Frag} {π α : List Addr} {H : Hp} {h : Hh} {o i v : D} {ov iv vv : V} {Q' : Hh → Prop} {Q : Hp → Prop} (R : HRel ⟨K, π⟩ α H h) (ro : RelD ⟨K, π⟩ α H o ov) (ri : RelD ⟨K, π⟩ α H i iv) (rv : RelD ⟨K, π⟩ α H v vv) (f : setD o i v h Q')
    (k : ∀ h' H', Q' h' → Ext α H α H' → HRel ⟨K, π⟩ α H' h' → Q H') : rSetL ov iv vv H Q := by
  unfold setD at f
  cases ro with
  | @ref j a hp =>
    cases ri with
    | int n =>
      dsimp only at f
      cases w : h[j]? with
      | none => rw [w] at f; exact f.elim
      | some ob =>
        rw [w] at f
        cases ob with
        | lst xs =>
          dsimp only at f
          obtain ⟨p, us, e1, e2, e3⟩ := R.lst w
          rw [hp] at e1; cases e1
          cases q : ixN xs.length n with
          | none => rw [q] at f; exact f.elim
          | some m =>
            rw [q] at f
            have e4 : Ext α H α (upd H a (.lst (us.set m vv))) := Ext.write (List.mem_of_getElem? hp)
            refine ⟨a, us, n, m, rfl, rfl, e2, by rw [← e3.length]; exact q, k _ _ f e4 (R.write hp (.lst upd_same ((RelDs.set rv m e3).mono e4)))⟩
        | _ => exact f.elim
    | _ => exact f.elim
  | _ => exact f.elim
end
noncomputable def dNext : DS := fun E δ h => E.nx δ h
noncomputable def dSeq (f g : DS) : DS := fun E δ h => f { E with nx := g E } δ h
noncomputable def dNever : DS := fun _ _ _ => False
noncomputable def dBreak : DS := fun E δ h => E.bk δ h
noncomputable def dCont : DS := fun E δ h => E.ct δ h
noncomputable def dDrop (f : DE) : DS := fun E δ h => f δ h fun _ h1 => E.nx δ h1
noncomputable def dRet (f : DE) : DS := fun E δ h => f δ h E.rt
noncomputable def dRetN : DS := fun E _ h => E.rt .non h
noncomputable def dIfS (t : DT) (f g : DS) : DS := fun E δ h => t δ h fun c h1 => if c = true then f E δ h1 else g E δ h1
noncomputable def dAsg (f : DE) (g : DG) : DS := fun E δ h => f δ h fun x h1 => g x δ h1 E.nx
noncomputable def dAug (i : Nat) (f : DE) (p : P2) : DS := fun E δ h => match δ[i]? with | some (some x) => f δ h fun y h1 => p x y h1 fun z h2 => E.nx (δ.set i (some z)) h2 | _ => False
section
variable {X : Cx} {s : Stmt} {ss : List Stmt} {f g : DS} {e : Expr} {fe : DE} {pos : Pos}
theorem seq_lift {K : PySem.W.Frag} {Ex : XK} {F : Ends} {σ : L2.St} {H : Hp} (w : LS K Ex (dSeq f g) F σ H) : tSeq (LS K Ex f) (LS K Ex g) F σ H := by
  obtain ⟨π, α, δ, h, E, R, S, q, k⟩ := w
  exact ⟨π, α, δ, h, { E with nx := g E }, R, S, q, ⟨fun δ' h' α' H' σ' a b c d => ⟨π, α', δ', h', E, c, d, a, k.mono b⟩, k.rt, k.bk, k.ct, k.ex⟩⟩
theorem ss_nil : SSs X [] dNext := PSs.imp pss_nil fun F σ H ⟨π, α, δ, h, E, R, S, q, k⟩ => k.nx δ h α H σ q (Ext.refl ..) R S
theorem ss_one (h : SS X s f) : SSs X [s] f := pss_one h
theorem ss_cons (h1 : SS X s f) (h2 : SSs X ss g) : SSs X (s :: ss) (dSeq f g) := PSs.imp (pss_cons h1 h2) fun _ _ _ w => seq_lift w
theorem s_expr (he : SE X e fe) (hs : swapsWith e none pos.line X.env = pure false := by rfl) : SS X (.Expr e pos) (dDrop fe) := PS.imp (ps_expr he hs) fun F σ H ⟨π, α, δ, h, E, R, S, q, k⟩ =>
  ⟨π, α, δ, h, _, R, S, q, fun d h1 α1 H1 v1 f1 e1 R1 q1 => k.nx δ h1 α1 H1 σ f1 e1 R1 (S.mono e1)⟩
theorem s_ret (he : SE X e fe) : SS X (.Return (some e) pos) (dRet fe) := PS.imp (ps_ret he) fun F σ H ⟨π, α, δ, h, E, R, S, q, k⟩ => ⟨π, α, δ, h, _, R, S, q, fun d h1 α1 H1 v1 f1 e1 R1 q1 => k.rt d h1 α1 H1 v1 f1 e1 R1 q1⟩
theorem s_if {c : Expr} {a b : List Stmt} {t : DT} (hc : ST X c t) (ha : SSs X a f) (hb : SSs X b g) : SS X (.If c a b pos) (dIfS t f g) := PS.imp (ps_if hc ha hb) fun F σ H ⟨π, α, δ, h, E, R, S, q, k⟩ => by
  refine ⟨π, α, δ, h, _, R, S, q, fun c h1 α1 H1 f1 e1 R1 => ?_⟩
  cases c with
  | true => exact iteT ⟨π, α1, δ, h1, E, R1, S.mono e1, by simpa using f1, k.mono e1⟩
  | false => exact iteF ⟨π, α1, δ, h1, E, R1, S.mono e1, by simpa using f1, k.mono e1⟩
theorem asgN_lift {K : PySem.W.Frag} {Ex : XK} {i : Nat} {F : Ends} {σ : L2.St} {H : Hp} (w : LS K Ex (dAsg fe (dName i)) F σ H) : tAsg (LE K fe) (gName i) F σ H := by
  obtain ⟨π, α, δ, h, E, R, S, q, k⟩ := w
  exact ⟨π, α, δ, h, _, R, S, q, fun d h1 α1 H1 v1 f1 e1 R1 q1 => k.nx _ h1 α1 H1 _ f1 e1 R1 ((S.mono e1).set i q1)⟩
theorem s_set {i : Nat} {x : Str} {pos' : Pos} (hN : X.N.Nodup) (hi : X.N[i]? = some x) (hx : Loc X.env.scope x) (he : SE X e fe) (hs : swapsWith e (some (.Name x pos')) pos.line X.env = pure false := by rfl) (hf : X.fn x = true ∨ X.env.scope.names.lookup x = some .local := by trivial) :
    SS X (.Assign [.Name x pos'] e pos) (dAsg fe (dName i)) := PS.imp (ps_set hN hi hx he hs hf) fun _ _ _ w => asgN_lift w
noncomputable def dAugS (fo fi fe : DE) (p : P2) : DS := fun E δ h => fo δ h fun o h1 => fi δ h1 fun i h2 => match o, i with
  | .ref j, .int n => 0 ≤ n ∧ match h2[j]? with
    | some (.lst xs) => match xs[n.toNat]? with
      | some x => fe δ h2 fun y h3 => p x y h3 fun z h4 => setD o i z h4 fun h5 => E.nx δ h5
      | none => False
    | _ => False
  | _, _ => False
theorem s_augS {o i : Expr} {fo fi : DE} {p : P2} {op : Operator} {tpos : Pos} (ho : SE X o fo) (hi : SE X i fi) (he : SE X e fe) (hp : OpR X (inplaceOp op) (r2 X.K p))
    (ha : ∀ ov iv new, augStore i ov iv new = (do holding [new, ov, iv] (setItem ov iv new); release [new, ov, iv] []; pure .next) := by intros; rfl) : SS X (.AugAssign (.Subscript o i tpos) op e pos) (dAugS fo fi fe p) := PS.imp (ps_augS ho hi get_list he hp set_list ha) fun F σ H ⟨π, α, δ, h, E, R, S, q, k⟩ => by
  refine ⟨π, α, δ, h, _, R, S, q, fun o h1 α1 H1 v1 f1 e1 R1 q1 => ?_⟩
  refine ⟨π, α1, δ, h1, _, R1, S.mono e1, f1, fun i h2 α2 H2 v2 f2 e2 R2 q2 => ?_⟩
  have q1 := q1.mono e2
  cases q1 with
  | @ref j a hp =>
    cases q2 with
    | int n =>
      obtain ⟨n0, f2⟩ := f2
      cases w : h2[j]? with
      | none => rw [w] at f2; exact f2.elim
      | some ob =>
        rw [w] at f2
        cases ob with
        | lst xs =>
          dsimp only at f2
          obtain ⟨p, us, e1', e2', e3'⟩ := R2.lst w
          rw [hp] at e1'; cases e1'
          cases qq : xs[n.toNat]? with
          | none => rw [qq] at f2; exact f2.elim
          | some x =>
            rw [qq] at f2
            obtain ⟨u, g1, g2⟩ := e3'.get qq
            refine ⟨a, us, n.toNat, u, rfl, congrArg V.int (by omega), SqL.of e2', g1, ?_⟩
            refine ⟨π, α2, δ, h2, _, R2, S.mono (e1.trans e2), f2, fun y h3 α3 H3 v3 f3 e3 R3 q3 => ?_⟩
            refine ⟨π, α3, h3, x, y, _, R3, g2.mono e3, q3, f3, fun z h4 α4 H4 v4 f4 e4 R4 q4 => ?_⟩
            exact set_lift R4 (.ref ((e3.trans e4).get hp)) (.int n) q4 f4 fun h5 H5 f5 e5 R5 => k.nx δ h5 α4 H5 σ f5 (e1.trans (e2.trans (e3.trans (e4.trans e5)))) R5 (S.mono (e1.trans (e2.trans (e3.trans (e4.trans e5)))))
        | _ => exact f2.elim
    | _ => exact f2.elim
  | _ => exact f2.elim
end
structure Src where
  items : List D
  w : List (Nat × O)
noncomputable def Src.ok (S : Src) (h : Hh) : Prop := ∀ p ∈ S.w, h[p.1]? = some p.2
theorem Src.ok_nil {xs : List D} {h : Hh} : (Src.mk xs []).ok h := fun p hp => nomatch hp
noncomputable abbrev DI := Sl → Hh → (Src → Hh → Prop) → Prop
structure ItOk (K : KP) (J : It) (S : Src) (St : List Addr → Hp → Prop) : Prop where
  keep : ∀ α H α' H', St α H → Ext α H α' H' → St α' H'
  priv : ∀ α H H' D, St α H → Priv D H H' → D ∈ K.π → St α H'
  item : ∀ α H h i d, HRel K α H h → St α H → S.ok h → S.items[i]? = some d → J.go i H ∧ ∀ x H', J.yld i H x H' → Ext α H α H' ∧ HRel K α H' h ∧ RelD K α H' d x
  stop : ∀ α H h, HRel K α H h → St α H → S.ok h → J.stop S.items.length H
noncomputable def ItA (K : PySem.W.Frag) (π : List Addr) (α : List Addr) (H : Hp) (J : It) (S : Src) : Prop := ∀ π', (∀ p ∈ π', p ∈ π ∨ H p = none) → ∃ St, ItOk ⟨K, π'⟩ J S St ∧ St α H
inductive LI (K : PySem.W.Frag) (f : DI) (σ : St) (H : Hp) (R : It → Hp → Prop) : Prop
  | mk (π : List Addr) (α : List Addr) (δ : Sl) (h : Hh) (Q' : Src → Hh → Prop) : HRel ⟨K, π⟩ α H h → RelS ⟨K, π⟩ α H δ σ → f δ h Q' → (∀ S h' α' H' J, Q' S h' → Ext α H α' H' → HRel ⟨K, π⟩ α' H' h' → ItA K π α' H' J S → S.ok h' → R J H') → LI K f σ H R
noncomputable def SI (X : Cx) (tg iter : Expr) (f : DI) : Prop := PI X tg iter (LI X.K f)
noncomputable def forL (S : Src) (t : DG) (b : DS) (E : DEnds) : List D → Sl → Hh → Prop
  | [], δ, h => S.ok h ∧ E.nx δ h
  | x :: r, δ, h => S.ok h ∧ t x δ h fun δ2 h2 => b { E with nx := forL S t b E r, ct := forL S t b E r, bk := E.nx } δ2 h2
noncomputable def dFor (s : DI) (t : DG) (b : DS) : DS := fun E δ h => s δ h fun S h1 => forL S t b E S.items δ h1
theorem s_for {X : Cx} {tg iter : Expr} {body : List Stmt} {s : DI} {t : DG} {b : DS} {pos : Pos} (hp : PassesOwn (model X.prog X.w) X.A X.env X.xe) (hc : X.calm = true) (hi : SI X tg iter s) (hg : SG X tg t) (hb : SSs X body b)
    (hs : ∀ x, foldedSetIterable iter X.env x = pure x := by intro _; rfl) : SS X (.For tg iter body [] pos) (dFor s t b) := PS.imp (ps_for hp hc hi hg hb hs) fun F σ H ⟨π, α, δ, h, E, R, S, q, k⟩ => by
  refine ⟨π, α, δ, h, _, R, S, q, fun Sr h1 α1 H1 J f1 e1 R1 ia ok1 => ?_⟩
  obtain ⟨St, io, st1⟩ := ia π (fun p z => .inl z)
  refine ⟨fun i m σ' H' => m = Sr.items.length - i ∧ i ≤ Sr.items.length ∧ ∃ α' δ' h', Ext α H α' H' ∧ HRel ⟨X.K, π⟩ α' H' h' ∧ RelS ⟨X.K, π⟩ α' H' δ' σ' ∧ St α' H' ∧ forL Sr t b E (Sr.items.drop i) δ' h', ⟨_, rfl, Nat.zero_le _, α1, δ, h1, e1, R1, S.mono e1, st1, f1⟩, ?_⟩
  rintro i m σ' H' ⟨rfl, hi, α', δ', h', e', R', S', st', q'⟩
  by_cases hlt : i < Sr.items.length
  · rw [List.drop_eq_getElem_cons hlt] at q'
    obtain ⟨okh, q'⟩ := q'
    obtain ⟨go, yl⟩ := io.item α' H' h' i Sr.items[i] R' st' okh (List.getElem?_eq_getElem hlt)
    refine .inr ⟨go, fun σ2 H2 => ∃ α2 δ2 h2, Ext α H α2 H2 ∧ HRel ⟨X.K, π⟩ α2 H2 h2 ∧ RelS ⟨X.K, π⟩ α2 H2 δ2 σ2 ∧ St α2 H2 ∧ forL Sr t b E (Sr.items.drop (i + 1)) δ2 h2, fun σ2 H2 z => ⟨_, by omega, rfl, hlt, z⟩, fun x H2 y2 => ?_⟩
    obtain ⟨e2, R2, r2⟩ := yl x H2 y2
    refine ⟨π, α', δ', h', Sr.items[i], _, R2, S'.mono e2, r2, q', fun δ3 h3 α3 H3 σ3 f3 e3 R3 S3 => ?_⟩
    have e4 := e'.trans (e2.trans e3)
    have k3 := k.mono e4
    have st3 := io.keep _ _ _ _ st' (e2.trans e3)
    exact ⟨π, α3, δ3, h3, _, R3, S3, f3, ⟨fun δ5 h5 α5 H5 σ5 a b c d => ⟨α5, δ5, h5, e4.trans b, c, d, io.keep _ _ _ _ st3 b, a⟩, k3.rt, k3.nx, fun δ5 h5 α5 H5 σ5 a b c d => ⟨α5, δ5, h5, e4.trans b, c, d, io.keep _ _ _ _ st3 b, a⟩, k3.ex⟩⟩
  · have ei : i = Sr.items.length := by omega
    subst ei
    rw [List.drop_length] at q'
    exact .inl ⟨io.stop α' H' h' R' st' q'.1, k.nx δ' h' α' H' σ' q'.2 e' R' S'⟩
noncomputable def compSl (js : List (Option Nat)) (δ : Sl) : Sl := js.map fun j => match j with
  | some j => (δ[j]?).getD none
  | none => none
noncomputable def compL (S : Src) (t : DG) (tf : DT) (te : DE) : List D → List D → Sl → Hh → (List D → Hh → Prop) → Prop
  | [], acc, _, h, Q => S.ok h ∧ Q acc h
  | x :: r, acc, δ, h, Q => S.ok h ∧ t x δ h fun δ2 h2 => tf δ2 h2 fun b h3 => if b = true then te δ2 h3 fun y h4 => compL S t tf te r (acc ++ [y]) δ2 h4 Q else compL S t tf te r acc δ2 h3 Q
noncomputable def dComp (js : List (Option Nat)) (s : DI) (t : DG) (tf : DT) (te : DE) : DN := fun δ h Q => s δ h fun S h1 => S.items.length ≤ 16777216 ∧ compL S t tf te S.items [] (compSl js δ) h1 Q
theorem compS_rel {K : KP} {α : List Addr} {H : Hp} {δ : Sl} {σ : L2.St} (S : RelS K α H δ σ) (js : List (Option Nat)) : RelS K α H (compSl js δ) (compSt js σ) := by
  refine ⟨by unfold compSl compSt; simp, fun i d e => ?_⟩
  unfold compSl at e
  rw [List.getElem?_map] at e
  unfold compSt
  rw [List.getElem?_map]
  cases q : js[i]? with
  | none => rw [q] at e; cases e
  | some j =>
    rw [q] at e
    cases j with
    | none => cases e
    | some j =>
      have e : (δ[j]?).getD none = some d := Option.some.inj e
      cases w : δ[j]? with
      | none => rw [w] at e; cases e
      | some z =>
        rw [w] at e
        have e : z = some d := e
        subst e
        obtain ⟨v, h1, h2⟩ := S.get j d w
        exact ⟨v, by show some ((σ[j]?).getD none) = _; rw [h1]; rfl, h2⟩
theorem comp_lift {K : PySem.W.Frag} {js : List (Option Nat)} {s : DI} {t : DG} {tf : DT} {te : DE} {σ : L2.St} {H : Hp} {Q : VK} (w : LN K (dComp js s t tf te) σ H Q) :
    tComp js (LI K s) (fun _ _ _ => LG K t) (fun _ _ _ => LT K tf) (fun _ _ _ => LE K te) σ H Q := by
  obtain ⟨π, α, δ, h, Q', R, S, q, k⟩ := w
  refine ⟨π, α, δ, h, _, R, S, q, fun Sr h1 α1 H1 J f1 e1 R1 ia ok1 => fun Da hD s0 H0 fp => ?_⟩
  obtain ⟨hlen, f1⟩ := f1
  have sub : ∀ p ∈ Da :: π, p ∈ π ∨ H1 p = none := fun p hp => by
    rcases List.mem_cons.mp hp with rfl | z
    · exact .inr hD
    · exact .inl z
  obtain ⟨St, io, st1⟩ := ia (Da :: π) sub
  have eN : Ext α1 H1 α1 (upd H1 Da (.lst [])) := Ext.new hD
  have hin : Da ∈ (KP.mk K (Da :: π)).π := List.mem_cons_self
  refine ⟨fun i m σ' H' => m = Sr.items.length - i ∧ i ≤ Sr.items.length ∧ ∃ α' δ' h' acc us, Ext α1 H1 α' H' ∧ HRel ⟨K, Da :: π⟩ α' H' h' ∧ RelS ⟨K, Da :: π⟩ α' H' δ' σ' ∧ St α' H' ∧ H' Da = some (.lst us) ∧ RelDs ⟨K, Da :: π⟩ α' H' acc us ∧ acc.length ≤ i ∧
      compL Sr t tf te (Sr.items.drop i) acc δ' h' Q', ⟨_, rfl, Nat.zero_le _, α1, compSl js δ, h1, [], [], eN, R1.under hD, (compS_rel ((S.mono e1).more sub) js).mono eN, io.keep _ _ _ _ st1 eN, upd_same, .nil, Nat.le_refl _, f1⟩, ?_⟩
  rintro i m σ' H' ⟨rfl, hi, α', δ', h', acc, us, e', R', S', st', hus, ra, la, q'⟩
  have nD : Da ∉ α' := (R'.dis Da hin).1
  by_cases hlt : i < Sr.items.length
  · rw [List.drop_eq_getElem_cons hlt] at q'
    obtain ⟨okh, q'⟩ := q'
    obtain ⟨go, yl⟩ := io.item α' H' h' i Sr.items[i] R' st' okh (List.getElem?_eq_getElem hlt)
    refine .inr ⟨go, fun x H2 y2 => ?_⟩
    obtain ⟨e2, R2, r2⟩ := yl x H2 y2
    refine ⟨Da :: π, α', δ', h', Sr.items[i], _, R2, S'.mono e2, r2, q', fun δ3 h3 α3 H3 σ3 f3 e3 R3 S3 => ?_⟩
    refine ⟨Da :: π, α3, δ3, h3, _, R3, S3, f3, fun b h4 α4 H4 f4 e4 R4 => ?_⟩
    have e24 := e2.trans (e3.trans e4)
    cases b with
    | false =>
      refine iteF ⟨_, by omega, rfl, hlt, α4, δ3, h4, acc, us, e'.trans e24, R4, S3.mono e4, io.keep _ _ _ _ st' e24, e24.keep _ _ hus nD, ra.mono e24, by omega, by simpa using f4⟩
    | true =>
      have f4 : te δ3 h4 fun y h5 => compL Sr t tf te (Sr.items.drop (i + 1)) (acc ++ [y]) δ3 h5 Q' := by simpa using f4
      refine iteT ⟨Da :: π, α4, δ3, h4, _, R4, S3.mono e4, f4, fun y h5 α5 H5 v5 f5 e5 R5 q5 => ?_⟩
      have e25 := e24.trans e5
      have h5D : H5 Da = some (.lst us) := e25.keep _ _ hus nD
      have pv : Priv Da H5 (upd H5 Da (.lst (us ++ [v5]))) := ⟨fun b hb => upd_ne hb⟩
      have ra5 := ra.mono e25
      refine ⟨us, h5D, by rw [← ra5.length, sizeLine_eq]; omega, _, by omega, rfl, hlt, α5, δ3, h5, acc ++ [y], us ++ [v5], (e'.trans e25).grow hD, R5.priv pv hin (by rw [upd_same]; exact fun z => nomatch z), (S3.mono (e4.trans e5)).priv pv hin, io.priv _ _ _ _ (io.keep _ _ _ _ st' e25) pv hin, upd_same, (ra5.snoc q5).priv pv hin, by rw [List.length_append, List.length_singleton]; omega, f5⟩
  · have ei : i = Sr.items.length := by omega
    subst ei
    rw [List.drop_length] at q'
    exact .inl ⟨io.stop α' H' h' R' st' q'.1, k _ h' α' H' us Da q'.2 (e1.trans e') R' ra hus (e1.dom Da hD) (R1.outP hD)⟩
noncomputable def dNoIf : DT := fun _ h Q => Q true h
section
variable {X : Cx} {pins : List (Addr × Obj)} {σ : L2.St} {H : Hp} {s : Shared} {N' : List Str} {js : List (Option Nat)} {scope : Scope}
noncomputable def SF (X : Cx) (es : List Expr) (t : DT) : Prop := PF X es (LT X.K t)
theorem PF.imp {es : List Expr} {t t' : TT} (h : PF X es t) (k : ∀ σ H Q, t' σ H Q → t σ H Q) : PF X es t' := fun pins s σ H Q I q => h pins s σ H Q I (k σ H Q q)
theorem sf_nil : SF X [] dNoIf := PF.imp pf_nil fun σ H Q ⟨π, α, δ, h, Q', R, S, f, k⟩ => k true h α H f (Ext.refl ..) R
theorem sf_one {c : Expr} {t : DT} (h : ST X c t) : SF X [c] t := pf_one h
variable {tg iter elt : Expr} {ifs : List Expr} {pos : Pos} {sr : DI} {g : DG} {tf : DT} {te : DE}
theorem sn_comp (hc : X.calm = true) (C : CompOk X N' js scope) (hi : SI X tg iter sr)
    (body : ∀ (s0 : Shared) (H0 : Hp) (fp : List Addr), SG (cxComp X N' scope s0 H0 fp) tg g ∧ SF (cxComp X N' scope s0 H0 fp) ifs tf ∧ SE (cxComp X N' scope s0 H0 fp) elt te)
    (hs : ∀ x, foldedSetIterable iter X.env x = pure x := by intro _; rfl) : SN X (.ListComp elt [⟨tg, iter, ifs, 0⟩] scope pos) (dComp js sr g tf te) :=
  PE.imp (pe_comp hc C hi (g := fun _ _ _ => LG X.K g) (tf := fun _ _ _ => LT X.K tf) (te := fun _ _ _ => LE X.K te) body hs) fun _ _ _ w => comp_lift w
theorem s_setcT {i : Nat} {x : Str} {px cpos : Pos} (hc : X.calm = true) (C : CompOk X N' js scope) (hi : SI X tg iter sr)
    (body : ∀ (s0 : Shared) (H0 : Hp) (fp : List Addr), SG (cxComp X N' scope s0 H0 fp) tg g ∧ SF (cxComp X N' scope s0 H0 fp) ifs tf ∧ SE (cxComp X N' scope s0 H0 fp) elt te)
    (hN : X.N.Nodup) (hix : X.N[i]? = some x) (hx : Loc X.env.scope x)
    (hsw : swapsWith (.ListComp elt [⟨tg, iter, ifs, 0⟩] scope cpos) (some (.Name x px)) pos.line X.env = pure true := by rfl) (hf : X.fn x = true ∨ X.env.scope.names.lookup x = some .local := by trivial)
    (hs : ∀ x, foldedSetIterable iter X.env x = pure x := by intro _; rfl) : SS X (.Assign [.Name x px] (.ListComp elt [⟨tg, iter, ifs, 0⟩] scope cpos) pos) (dAsg (dTk (dComp js sr g tf te)) (dName i)) :=
  PS.imp (ps_setc hc C hi (g := fun _ _ _ => LG X.K g) (tf := fun _ _ _ => LT X.K tf) (te := fun _ _ _ => LE X.K te) body hN hix hx hsw hf hs) fun F σ H w => by
    obtain ⟨π, α, δ, h, E, R, S, q, k⟩ := w
    exact comp_lift (Q := fun x H1 => gName i x σ H1 F.nx) ⟨π, α, δ, h, _, R, S, q, fun ds h1 α1 H1 us p f1 e1 R1 q1 hus hp np => k.nx (δ.set i (some (.ref h1.length))) (h1 ++ [.lst ds]) (α1 ++ [p]) H1 _ (by exact f1) (e1.adopt hp) (R1.adopt np (.lst hus q1.adopt)) ((S.mono (e1.adopt hp)).set i (.ref (by rw [← R1.len]; simp)))⟩
end
end DL
namespace DL
open PySem PySem.Spec L2
mutual
inductive IsP (h : Hh) : D → PyData → Prop
  | non : IsP h .non .none
  | bl (b : Bool) : IsP h (.bl b) (.bool b)
  | int (i : Int) : IsP h (.int i) (.int i)
  | str (x : Str) : IsP h (.str x) (.str x)
  | tup {ds : List D} {ps : List PyData} : IsPs h ds ps → IsP h (.tup ds) (.tuple ps)
  | lst {ds : List D} {ps : List PyData} : IsPs h ds ps → IsP h (.lst ds) (.list ps)
  | ref {i : Nat} {ds : List D} {ps : List PyData} : h[i]? = some (.lst ds) → IsPs h ds ps → IsP h (.ref i) (.list ps)
inductive IsPs (h : Hh) : List D → List PyData → Prop
  | nil : IsPs h [] []
  | cons {d : D} {p : PyData} {ds : List D} {ps : List PyData} : IsP h d p → IsPs h ds ps → IsPs h (d :: ds) (p :: ps)
end
section
variable {X : Cx} {pins : List (Addr × Obj)} {σ : L2.St} {H : Hp} {s : Shared} {π α : List Addr} {h : Hh}
theorem IsP.reads (I : Inv X pins σ H s) (R : HRel ⟨X.K, π⟩ α H h) {d : D} {p : PyData} (e : IsP h d p) : ∀ {v : V} {u : Value}, RelD ⟨X.K, π⟩ α H d v → RelV v u → ∃ as, Reads s.heap u p as := by
  refine IsP.rec (motive_1 := fun d p _ => ∀ {v : V} {u : Value}, RelD ⟨X.K, π⟩ α H d v → RelV v u → ∃ as, Reads s.heap u p as) (motive_2 := fun ds ps _ => ∀ {vs : List V} {us : List Value}, RelDs ⟨X.K, π⟩ α H ds vs → Vals vs us → ∃ as, ReadsAll s.heap us ps as) ?_ ?_ ?_ ?_ ?_ ?_ ?_ ?_ ?_ e
  · intro v u q r; cases q; cases r; exact ⟨_, .none⟩
  · intro b v u q r; cases q; cases r; exact ⟨_, .bool b⟩
  · intro i v u q r; cases q; obtain ⟨t, rfl⟩ := r; exact ⟨_, .int i t⟩
  · intro x v u q r; cases q; obtain ⟨t, rfl⟩ := r; exact ⟨_, .str x t⟩
  · intro ds ps _ ih v u q0 r
    cases q0 with
    | tup t rr =>
      cases r
      obtain ⟨its, rv, ⟨o, q, c, n, d⟩, _⟩ := I.tuple t.sq
      obtain ⟨as, ra⟩ := ih rr rv
      exact ⟨_, .tuple q c d (by simpa using ra)⟩
  · intro ds ps _ ih v u q0 r
    cases q0 with
    | lst t rr =>
      cases r
      obtain ⟨its, rv, ⟨o, n, q, c, _, d⟩, _⟩ := I.list t.sq
      obtain ⟨as, ra⟩ := ih rr rv
      exact ⟨_, .list q c d (by simpa using ra)⟩
  · intro i ds ps hh _ ih v u q0 r
    cases q0 with
    | ref hp =>
      cases r
      obtain ⟨a, us, e1, e2, e3⟩ := R.lst hh
      rw [hp] at e1; cases e1
      obtain ⟨its, rv, ⟨o, n, q, c, _, d⟩, _⟩ := I.list (SqL.of (K := X.K) e2)
      obtain ⟨as, ra⟩ := ih e3 rv
      exact ⟨_, .list q c d (by simpa using ra)⟩
  · intro vs us q r; cases q; cases r; exact ⟨_, .nil⟩
  · intro d ds p ps _ _ ih iht vs us q r
    cases q with
    | cons rr rs =>
      cases r with
      | cons r1 r2 =>
        obtain ⟨as, ra⟩ := ih rr r1
        obtain ⟨bs, rb⟩ := iht rs r2
        exact ⟨_, .cons ra rb⟩
end
noncomputable def eqS : D → D → Option Bool
  | .int i, .int j => some (i == j)
  | .str a, .str b => if PyData.strOk a && PyData.strOk b then some (a == b) else none
  | .bl a, .bl b => some (a == b)
  | .non, .non => some true
  | .int _, .str b => if PyData.strOk b then some false else none
  | .str a, .int _ => if PyData.strOk a then some false else none
  | .non, .int _ => some false
  | .int _, .non => some false
  | .non, .tup _ => none
  | _, _ => none
noncomputable def pEq (neg : Bool) : P2 := fun x y h Q => match eqS x y with
  | some b => Q (.bl (if neg then !b else b)) h
  | none => ∃ a b, IsP h x a ∧ IsP h y b ∧ SeqAt.shaped a = true ∧ SeqAt.shaped b = true ∧ Q (.bl (if neg then !PyData.eqv a b else PyData.eqv a b)) h
theorem eqS_ok {h : Hh} {x y : D} {b : Bool} (e : eqS x y = some b) : ∃ p q, IsP h x p ∧ IsP h y q ∧ SeqAt.shaped p = true ∧ SeqAt.shaped q = true ∧ PyData.eqv p q = b := by
  have si : ∀ i : Int, SeqAt.shaped (.int i) = true := fun i => by simp [SeqAt.shaped, PyData.canLay0, PyData.depth]
  have sn : SeqAt.shaped .none = true := by simp [SeqAt.shaped, PyData.canLay0, PyData.depth]
  have sb : ∀ b : Bool, SeqAt.shaped (.bool b) = true := fun i => by simp [SeqAt.shaped, PyData.canLay0, PyData.depth]
  have ss : ∀ x : Str, PyData.strOk x = true → SeqAt.shaped (.str x) = true := fun x hx => by simp [SeqAt.shaped, PyData.canLay0, PyData.depth, hx]
  unfold eqS at e
  split at e
  · cases e; exact ⟨_, _, .int _, .int _, si _, si _, by simp [PyData.eqv]⟩
  · split at e
    · rename_i hh
      rw [Bool.and_eq_true] at hh
      cases e; exact ⟨_, _, .str _, .str _, ss _ hh.1, ss _ hh.2, by simp [PyData.eqv]⟩
    · cases e
  · cases e; exact ⟨_, _, .bl _, .bl _, sb _, sb _, by simp [PyData.eqv]⟩
  · cases e; exact ⟨_, _, .non, .non, sn, sn, by simp [PyData.eqv]⟩
  · split at e
    · rename_i hh
      cases e; exact ⟨_, _, .int _, .str _, si _, ss _ hh, by simp [PyData.eqv]⟩
    · cases e
  · split at e
    · rename_i hh
      cases e; exact ⟨_, _, .str _, .int _, ss _ hh, si _, by simp [PyData.eqv]⟩
    · cases e
  · cases e; exact ⟨_, _, .non, .int _, sn, si _, by simp [PyData.eqv]⟩
  · cases e; exact ⟨_, _, .int _, .non, si _, sn, by simp [PyData.eqv]⟩
  · cases e
  · cases e
section
variable {X : Cx}
theorem pEq_all {neg : Bool} {x y : D} {h : Hh} {Q : DK} (f : pEq neg x y h Q) : ∃ a b, IsP h x a ∧ IsP h y b ∧ SeqAt.shaped a = true ∧ SeqAt.shaped b = true ∧ Q (.bl (if neg then !PyData.eqv a b else PyData.eqv a b)) h := by
  unfold pEq at f
  cases q : eqS x y with
  | none => rw [q] at f; exact f
  | some b =>
    rw [q] at f
    obtain ⟨p, q, a, b', c, d, e⟩ := eqS_ok (h := h) q
    exact ⟨p, q, a, b', c, d, by rw [e]; exact f⟩
theorem ok_eq (hu : X.A.units + 64 < cLine) : OpR X (compareOp .Eq) (r2 X.K (pEq false)) := by
  intro pins s σ H x y v u Q I rx ry ⟨π, α, h, d, e, Q', R, r1, r2, f, k⟩
  obtain ⟨a, b, ia, ib, sa, sb, q⟩ := pEq_all f
  obtain ⟨as, ra⟩ := ia.reads I R r1 rx
  obtain ⟨bs, rb⟩ := ib.reads I R r2 ry
  exact SeqAt.compareEq_shaped ra rb sa sb hu ⟨.bl (PyData.eqv a b), H, I, rfl, k _ h α H _ q (Ext.refl ..) R (.bl _)⟩
theorem ok_ne (hu : X.A.units + 64 < cLine) : OpR X (compareOp .NotEq) (r2 X.K (pEq true)) := by
  intro pins s σ H x y v u Q I rx ry ⟨π, α, h, d, e, Q', R, r1, r2, f, k⟩
  obtain ⟨a, b, ia, ib, sa, sb, q⟩ := pEq_all f
  obtain ⟨as, ra⟩ := ia.reads I R r1 rx
  obtain ⟨bs, rb⟩ := ib.reads I R r2 ry
  exact SeqAt.compareNe_shaped ra rb sa sb hu ⟨.bl (!PyData.eqv a b), H, I, rfl, k _ h α H _ q (Ext.refl ..) R (.bl _)⟩
end
structure SeqIt (K : KP) (Sq : Hp → List V → Prop) (xs : List D) (w : List (Nat × O)) (St : List Addr → Hp → Prop) : Prop where
  keep : ∀ α H α' H', St α H → Ext α H α' H' → St α' H'
  priv : ∀ α H H' D, St α H → Priv D H H' → D ∈ K.π → St α H'
  get : ∀ α H h, HRel K α H h → St α H → (∀ p ∈ w, h[p.1]? = some p.2) → ∃ us, Sq H us ∧ RelDs K α H xs us
noncomputable def SeqA (K : PySem.W.Frag) (π α : List Addr) (H : Hp) (Sq : Hp → List V → Prop) (xs : List D) (w : List (Nat × O)) : Prop := ∀ π', (∀ p ∈ π', p ∈ π ∨ H p = none) → ∃ St, SeqIt ⟨K, π'⟩ Sq xs w St ∧ St α H
noncomputable def seqSrc (h : Hh) : D → Option Src
  | .tup xs => some ⟨xs, []⟩
  | .lst xs => some ⟨xs, []⟩
  | .scr xs => some ⟨xs, []⟩
  | .ref i => match h[i]? with | some (.lst xs) => some ⟨xs, [(i, .lst xs)]⟩ | _ => none
  | _ => none
theorem seqSrc_ok {K : PySem.W.Frag} {π α : List Addr} {H : Hp} {h : Hh} (R : HRel ⟨K, π⟩ α H h) {d : D} {v : V} {S : Src} (r : RelD ⟨K, π⟩ α H d v) (e : seqSrc h d = some S) :
    ∃ a, v = .ref a ∧ S.ok h ∧ (((∃ us, SqL K H a us) ∧ SeqA K π α H (fun H us => SqL K H a us) S.items S.w) ∨ ((∃ us, SqT K H a us) ∧ SeqA K π α H (fun H us => SqT K H a us) S.items S.w)) := by
  cases r with
  | @tup a us ds t rs =>
    cases e
    exact ⟨a, rfl, Src.ok_nil, .inr ⟨⟨us, t.sq⟩, fun π' s => ⟨fun α H => VT ⟨K, π'⟩ α H a us ∧ RelDs ⟨K, π'⟩ α H ds us, ⟨fun α H α' H' st e => ⟨st.1.mono e, st.2.mono e⟩, fun α H H' D st e hD => ⟨st.1.priv e hD, st.2.priv e hD⟩, fun α H h R st _ => ⟨us, st.1.sq, st.2⟩⟩, t.more s, rs.more s⟩⟩⟩
  | @lst a us ds t rs =>
    cases e
    exact ⟨a, rfl, Src.ok_nil, .inl ⟨⟨us, t.sq⟩, fun π' s => ⟨fun α H => VL ⟨K, π'⟩ α H a us ∧ RelDs ⟨K, π'⟩ α H ds us, ⟨fun α H α' H' st e => ⟨st.1.mono e, st.2.mono e⟩, fun α H H' D st e hD => ⟨st.1.priv e hD, st.2.priv e hD⟩, fun α H h R st _ => ⟨us, st.1.sq, st.2⟩⟩, t.more s, rs.more s⟩⟩⟩
  | @scr a us ds t rs =>
    cases e
    exact ⟨a, rfl, Src.ok_nil, .inl ⟨⟨us, t.sq⟩, fun π' s => ⟨fun α H => VS ⟨K, π'⟩ α H a us ∧ RelDs ⟨K, π'⟩ α H ds us, ⟨fun α H α' H' st e => ⟨st.1.mono e, st.2.mono e⟩, fun α H H' D st e hD => ⟨st.1.priv e hD, st.2.priv e hD⟩, fun α H h R st _ => ⟨us, st.1.sq, st.2⟩⟩, t.more s, rs.more s⟩⟩⟩
  | @ref i a hp =>
    have e : (match h[i]? with | some (.lst xs) => some (Src.mk xs [(i, .lst xs)]) | _ => none) = some S := e
    cases q : h[i]? with
    | none => rw [q] at e; cases e
    | some o =>
      rw [q] at e
      cases o with
      | lst xs =>
        cases e
        obtain ⟨p, us, e1, e2, e3⟩ := R.lst q
        rw [hp] at e1; cases e1
        refine ⟨a, rfl, fun z hz => by rw [List.mem_singleton.mp hz]; exact q, .inl ⟨⟨us, SqL.of e2⟩, fun π' s => ⟨fun α H => α[i]? = some a, ⟨fun α H α' H' st e => e.get st, fun α H H' D st e hD => st, fun α H h R st w => ?_⟩, hp⟩⟩⟩
        obtain ⟨p, us, e1, e2, e3⟩ := R.lst (w (i, .lst xs) (List.mem_singleton.mpr rfl))
        rw [st] at e1; cases e1
        exact ⟨us, SqL.of e2, e3⟩
      | _ => cases e
  | _ => cases e
theorem it_list {K : PySem.W.Frag} {π α : List Addr} {H : Hp} {a : Addr} {S : Src} (s : SeqA K π α H (fun H us => SqL K H a us) S.items S.w) : ItA K π α H (Itl K a) S := fun π' sub => by
  obtain ⟨St, si, st⟩ := s π' sub
  refine ⟨St, ⟨si.keep, si.priv, fun α H h i d R st ok hi => ?_, fun α H h R st ok => ?_⟩, st⟩
  · obtain ⟨us, hq, rs⟩ := si.get α H h R st ok
    obtain ⟨u, hu, ru⟩ := rs.get hi
    refine ⟨⟨us, u, hq, hu⟩, fun x H' ⟨e1, e2⟩ => ?_⟩
    subst e1
    have := (e2 us hq).symm.trans hu
    cases this
    exact ⟨Ext.refl .., R, ru⟩
  · obtain ⟨us, hq, rs⟩ := si.get α H h R st ok
    exact ⟨us, hq, by rw [← rs.length]; exact Nat.le_refl _⟩
theorem it_tup {K : PySem.W.Frag} {π α : List Addr} {H : Hp} {a : Addr} {S : Src} (s : SeqA K π α H (fun H us => SqT K H a us) S.items S.w) : ItA K π α H (Itt K a) S := fun π' sub => by
  obtain ⟨St, si, st⟩ := s π' sub
  refine ⟨St, ⟨si.keep, si.priv, fun α H h i d R st ok hi => ?_, fun α H h R st ok => ?_⟩, st⟩
  · obtain ⟨us, hq, rs⟩ := si.get α H h R st ok
    obtain ⟨u, hu, ru⟩ := rs.get hi
    refine ⟨⟨us, u, hq, hu⟩, fun x H' ⟨e1, e2⟩ => ?_⟩
    subst e1
    have := (e2 us hq).symm.trans hu
    cases this
    exact ⟨Ext.refl .., R, ru⟩
  · obtain ⟨us, hq, rs⟩ := si.get α H h R st ok
    exact ⟨us, hq, by rw [← rs.length]; exact Nat.le_refl _⟩
noncomputable def enumD : Int → List D → List D
  | _, [] => []
  | n, x :: r => .tup [.int n, x] :: enumD (n + 1) r
theorem enumD_get : ∀ (n : Int) (xs : List D) (i : Nat), (enumD n xs)[i]? = (xs[i]?).map fun x => .tup [.int (n + i), x]
  | n, [], i => by simp [enumD]
  | n, x :: r, 0 => by simp [enumD]
  | n, x :: r, i + 1 => by
    have := enumD_get (n + 1) r i
    simp only [enumD, List.getElem?_cons_succ, this]
    congr 1; funext y; congr 3; push_cast; omega
theorem enumD_length : ∀ (n : Int) (xs : List D), (enumD n xs).length = xs.length
  | _, [] => rfl
  | n, x :: r => by simp [enumD, enumD_length (n + 1) r]
theorem it_enum {K : PySem.W.Frag} {π α : List Addr} {H : Hp} {Sq : Hp → List V → Prop} {S : Src} (s : SeqA K π α H Sq S.items S.w) : ItA K π α H (Ite Sq) ⟨enumD 0 S.items, S.w⟩ := fun π' sub => by
  obtain ⟨St, si, st⟩ := s π' sub
  refine ⟨St, ⟨si.keep, si.priv, fun α H h i d R st ok hi => ?_, fun α H h R st ok => ?_⟩, st⟩
  · rw [enumD_get] at hi
    cases q : S.items[i]? with
    | none => rw [q] at hi; cases hi
    | some y =>
      rw [q] at hi
      cases hi
      obtain ⟨us, hq, rs⟩ := si.get α H h R st ok
      obtain ⟨u, hu, ru⟩ := rs.get q
      refine ⟨⟨us, u, hq, hu⟩, fun x H' ⟨T, v, e0, hT, e1, e2⟩ => ?_⟩
      subst e0 e1
      have := (e2 us hq).symm.trans hu
      obtain rfl := Option.some.inj this
      have e3 : Ext α H α (upd H T (.tup [.int (i : Nat), v])) := Ext.new hT
      refine ⟨e3, R.new hT, .tup ⟨R.out hT, R.outP hT, upd_same⟩ (.cons ?_ (.cons (ru.mono e3) .nil))⟩
      rw [Int.zero_add]; exact .int _
  · obtain ⟨us, hq, rs⟩ := si.get α H h R st ok
    exact ⟨us, hq, by rw [enumD_length, rs.length]⟩
noncomputable def rangeD (lo : Int) : Nat → List D
  | 0 => []
  | n + 1 => .int lo :: rangeD (lo + 1) n
theorem rangeD_get : ∀ (lo : Int) (n i : Nat), (rangeD lo n)[i]? = if i < n then some (.int (lo + i)) else none
  | lo, 0, i => by simp [rangeD]
  | lo, n + 1, 0 => by simp [rangeD]
  | lo, n + 1, i + 1 => by
    have := rangeD_get (lo + 1) n i
    simp only [rangeD, List.getElem?_cons_succ, this, Nat.add_lt_add_iff_right]
    have e : lo + 1 + (i : Int) = lo + ((i + 1 : Nat) : Int) := by push_cast; omega
    rw [e]
theorem rangeD_length : ∀ (lo : Int) (n : Nat), (rangeD lo n).length = n
  | _, 0 => rfl
  | lo, n + 1 => by simp [rangeD, rangeD_length (lo + 1) n]
theorem it_range {K : PySem.W.Frag} {π α : List Addr} {H : Hp} {lo : Int} {n : Nat} : ItA K π α H (Itr lo n) ⟨rangeD lo n, []⟩ := fun π' sub => by
  refine ⟨fun _ _ => True, ⟨fun _ _ _ _ _ _ => trivial, fun _ _ _ _ _ _ _ => trivial, fun α H h i d R st ok hi => ?_, fun α H h R st ok => ?_⟩, trivial⟩
  · have hi : (rangeD lo n)[i]? = some d := hi
    rw [rangeD_get] at hi
    split at hi
    · rename_i hlt
      cases hi
      exact ⟨hlt, fun x H' ⟨e1, e2⟩ => by subst e1 e2; exact ⟨Ext.refl .., R, .int _⟩⟩
    · cases hi
  · show n ≤ (rangeD lo n).length
    rw [rangeD_length]; exact Nat.le_refl _
noncomputable def dISeq (f : DE) : DI := fun δ h Q => f δ h fun d h1 => match seqSrc h1 d with | some S => Q S h1 | none => False
noncomputable def dIEnum (f : DA) : DI := fun δ h Q => f δ h fun ds h1 => match ds with | [d] => (match seqSrc h1 d with | some S => Q ⟨enumD 0 S.items, S.w⟩ h1 | none => False) | _ => False
noncomputable def dIRange (f : DA) : DI := fun δ h Q => f δ h fun ds h1 => match ds with
  | [.int j] => (-(2 ^ 62) ≤ j ∧ j < 2 ^ 62) ∧ Q ⟨rangeD 0 j.toNat, []⟩ h1
  | [.int i, .int j] => (-(2 ^ 62) ≤ i ∧ i < 2 ^ 62 ∧ -(2 ^ 62) ≤ j ∧ j < 2 ^ 62) ∧ Q ⟨rangeD i (j - i).toNat, []⟩ h1
  | _ => False
section
variable {X : Cx} {tg : Expr}
theorem PI.imp {e : Expr} {t t' : TI} (h : PI X tg e t) (k : ∀ σ H Q, t' σ H Q → t σ H Q) : PI X tg e t' := fun pins s σ H Q I q => h pins s σ H Q I (k σ H Q q)
noncomputable def iSeq (K : PySem.W.Frag) (tl : TE) : TI := fun σ H R => tl σ H fun x H1 => ∃ a, x = .ref a ∧ (((∃ xs, SqL K H1 a xs) ∧ R (Itl K a) H1) ∨ ((∃ xs, SqT K H1 a xs) ∧ R (Itt K a) H1))
theorem pi_seq {l : Expr} {tl : TE} (hl : PE X l tl) : PI X tg l (iSeq X.K tl) := by
  intro pins s σ H R I h
  refine thn (hl pins s σ H _ I h) fun v s1 ⟨x, H1, I1, r1, q1⟩ => ?_
  obtain ⟨a, e, ⟨⟨xs, hq⟩, q⟩ | ⟨⟨xs, hq⟩, q⟩⟩ := q1
  · subst e
    cases r1
    obtain ⟨its, rv, p, hz⟩ := I1.list hq
    refine wpAny_pyIter_list p.isList ?_
    refine ⟨s1.heap.objs.size, [s1.heap.objs.size], _, _, H1, rfl, I1.kept (t' := s1.toks) fun b o e => Heap.get?_push_of_some _ e, turn_list a _, ⟨_, Heap.get?_push_size _ rfl, rfl, rfl⟩, fun b hb => ?_, q⟩
    have e : b = s1.heap.objs.size := by simpa using hb
    subst e
    exact I1.fpOk (Nat.le_refl _) (I1.hok.fresh (Nat.le_refl _))
  · subst e
    cases r1
    obtain ⟨its, rv, p, hz⟩ := I1.tuple hq
    refine wpAny_pyIter_tuple (show s1.heap.IsTuple a its.toArray from p) ?_
    refine ⟨s1.heap.objs.size, [s1.heap.objs.size], _, _, H1, rfl, I1.kept (t' := s1.toks) fun b o e => Heap.get?_push_of_some _ e, turn_tuple a _, ⟨_, Heap.get?_push_size _ rfl, rfl, rfl⟩, fun b hb => ?_, q⟩
    have e : b = s1.heap.objs.size := by simpa using hb
    subst e
    exact I1.fpOk (Nat.le_refl _) (I1.hok.fresh (Nat.le_refl _))
theorem si_seq {l : Expr} {f : DE} (hl : SE X l f) : SI X tg l (dISeq f) := PI.imp (pi_seq hl) fun σ H Q ⟨π, α, δ, h, Q', R, S, f, k⟩ => by
  refine ⟨π, α, δ, h, _, R, S, f, fun d h1 α1 H1 v1 f1 e1 R1 q1 => ?_⟩
  cases q : seqSrc h1 d with
  | none => rw [q] at f1; exact f1.elim
  | some Sr =>
    rw [q] at f1
    obtain ⟨a, rfl, ok, ⟨hu, sa⟩ | ⟨hu, sa⟩⟩ := seqSrc_ok R1 q1 q
    · exact ⟨a, rfl, .inl ⟨hu, k Sr h1 α1 H1 _ f1 e1 R1 (it_list sa) ok⟩⟩
    · exact ⟨a, rfl, .inr ⟨hu, k Sr h1 α1 H1 _ f1 e1 R1 (it_tup sa) ok⟩⟩
noncomputable def iEnumS (K : PySem.W.Frag) (ta : TA) : TI := fun σ H R => ta σ H fun vs H1 => ∃ a, vs = [.ref a] ∧ (((∃ xs, SqL K H1 a xs) ∧ R (Ite fun H xs => SqL K H a xs) H1) ∨ ((∃ xs, SqT K H1 a xs) ∧ R (Ite fun H xs => SqT K H a xs) H1))
theorem pi_enumS {a : Expr} {ta : TA} {p pos : Pos} (hg : Gl X "enumerate") (hm : X.mg "enumerate" = none) (ha : PA X [a] ta) (htg : ∃ es x1 pos, tg = .Tuple es x1 pos := by exact ⟨_, _, _, rfl⟩) (hs : starEach [a] X.env = [(false, eval a X.env)] := by rfl) : PI X tg (.Call (.Name "enumerate" p) [a] [] pos) (iEnumS X.K ta) := by
  intro pins s σ H R I h
  refine PyProof.Rows.Call_ (ld_blt I hg hm PyProof.Rows.boot_enumerate (PyProof.Rows.callWith_type1 (thn (ha pos pins s σ H _ I h) fun us s1 ⟨vs, H1, I1, r1, q1⟩ => ?_) hs rfl))
  obtain ⟨a, e, ⟨⟨xs, hq⟩, q⟩ | ⟨⟨xs, hq⟩, q⟩⟩ := q1
  · subst e
    obtain ⟨u, rfl, ru⟩ := vals1 r1
    cases ru
    obtain ⟨its, rv, p, hz⟩ := I1.list hq
    exact call_enumerate_list p.isList fun h' he hit _ hk => enum_fin htg I1 (src_list a _) he hit hk q
  · subst e
    obtain ⟨u, rfl, ru⟩ := vals1 r1
    cases ru
    obtain ⟨its, rv, p, hz⟩ := I1.tuple hq
    exact call_enumerate_tuple (show s1.heap.IsTuple a its.toArray from p) fun h' he hit _ hk => enum_fin htg I1 (src_tup a _) he hit hk q
theorem si_enum {a : Expr} {n : Nat} {fs : DA} {p pos : Pos} (hg : Gl X "enumerate") (hm : X.mg "enumerate" = none) (ha : SA X [a] n fs) (htg : ∃ es x1 pos, tg = .Tuple es x1 pos := by exact ⟨_, _, _, rfl⟩) (hs : starEach [a] X.env = [(false, eval a X.env)] := by rfl) : SI X tg (.Call (.Name "enumerate" p) [a] [] pos) (dIEnum fs) := PI.imp (pi_enumS hg hm ha htg hs) fun σ H Q ⟨π, α, δ, h, Q', R, S, f, k⟩ => by
  refine ⟨π, α, δ, h, _, R, S, f, fun ds h1 α1 H1 vs f1 e1 R1 q1 l1 => ?_⟩
  split at f1
  · rename_i d
    obtain ⟨v, rfl, q3⟩ := q1.inv1
    cases q : seqSrc h1 d with
    | none => rw [q] at f1; exact f1.elim
    | some Sr =>
      rw [q] at f1
      obtain ⟨a, rfl, ok, ⟨hu, sa⟩ | ⟨hu, sa⟩⟩ := seqSrc_ok R1 q3 q
      · exact ⟨a, rfl, .inl ⟨hu, k ⟨enumD 0 Sr.items, Sr.w⟩ h1 α1 H1 _ f1 e1 R1 (it_enum sa) ok⟩⟩
      · exact ⟨a, rfl, .inr ⟨hu, k ⟨enumD 0 Sr.items, Sr.w⟩ h1 α1 H1 _ f1 e1 R1 (it_enum sa) ok⟩⟩
  · exact f1.elim
theorem si_range1 {a : Expr} {n : Nat} {fs : DA} {p pos : Pos} (hg : Gl X "range") (hm : X.mg "range" = none) (ha : SA X [a] n fs) (hs : starEach [a] X.env = [(false, eval a X.env)] := by rfl) (hn : n = 1 := by rfl) : SI X tg (.Call (.Name "range" p) [a] [] pos) (dIRange fs) := PI.imp (pi_range1 hg hm ha hs) fun σ H Q ⟨π, α, δ, h, Q', R, S, f, k⟩ => by
  refine ⟨π, α, δ, h, _, R, S, f, fun ds h1 α1 H1 vs f1 e1 R1 q1 l1 => ?_⟩
  split at f1
  · obtain ⟨v, rfl, q3⟩ := q1.inv1
    cases q3 with
    | int => exact ⟨_, rfl, f1.1.1, f1.1.2, k _ h1 α1 H1 _ f1.2 e1 R1 it_range Src.ok_nil⟩
  · subst hn; cases l1
  · exact f1.elim
end
end DL
namespace DL
open PySem PySem.Spec L2
noncomputable def dCB (p : PN) (f : DA) : DE := fun δ h Q => f δ h fun ds h1 => p ds h1 Q
theorem cb_lift {K : PySem.W.Frag} {p : PN} {n : Nat} {f : DA} {σ : L2.St} {H : Hp} {Q : VK} (g : LE K (dCB p f) σ H Q) : LA K n f σ H fun vs H1 => rN K p vs H1 Q := by
  obtain ⟨π, α, δ, h, Q', R, S, f, k⟩ := g
  exact ⟨π, α, δ, h, _, R, S, f, fun ds h1 α1 H1 vs f1 e1 R1 q1 l1 => ⟨π, α1, h1, ds, Q', R1, q1, f1, fun d h' α' H' v a b c d' => k d h' α' H' v a (e1.trans b) c d'⟩⟩
section
variable {X : Cx} {x : Str} {p pos : Pos} {e : Expr} {es : List Expr} {n : Nat} {f : DA} {id T : String} {r : PN}
theorem se_callB (hc : CallR X (.builtin id) (rN X.K r)) (hg : Gl X x) (hm : X.mg x = none) (hv : bootBuiltins x = some (.builtin id)) (ha : SA X (e :: es) n f) (hn : x ≠ "__name__" := by decide) (hdb : (x == ("__debug__" : Str)) = false := by decide)
    (he : starEach (e :: es) X.env = (false, eval e X.env) :: starEach es X.env := by rfl) (hpl : (backTo pos (starEach es X.env)).any (·.1) = false := by rfl) : SE X (.Call (.Name x p) (e :: es) [] pos) (dCB r f) :=
  PE.imp (pe_callB hc hg hm hv ha hn hdb he hpl) fun _ _ _ g => cb_lift g
theorem se_callTy (hc : CallR X (.type T) (rN X.K r)) (hg : Gl X x) (hm : X.mg x = none) (hv : bootBuiltins x = some (.type T)) (ha : SA X (e :: es) n f) (hn : x ≠ "__name__" := by decide) (hdb : (x == ("__debug__" : Str)) = false := by decide)
    (he : starEach (e :: es) X.env = (false, eval e X.env) :: starEach es X.env := by rfl) (hpl : (backTo pos (starEach es X.env)).any (·.1) = false := by rfl) : SE X (.Call (.Name x p) (e :: es) [] pos) (dCB r f) :=
  PE.imp (pe_callTy hc hg hm hv ha hn hdb he hpl) fun _ _ _ g => cb_lift g
noncomputable def lenD (h : Hh) : D → Option Nat
  | .str x => if x.length ≤ 16777216 then some x.length else none
  | d => (seqOf h d).map List.length
noncomputable def pLen : PN := fun ds h Q => match ds with | [d] => (match lenD h d with | some n => Q (.int n) h | none => False) | _ => False
theorem ok_len : CallR X (.builtin "len") (rN X.K pLen) := CallR.imp call_len fun xs H Q ⟨π, α, h, ds, Q', R, rs, f, k⟩ => by
  unfold pLen at f
  split at f
  · rename_i d
    obtain ⟨v, rfl, rd⟩ := rs.inv1
    cases q : lenD h d with
    | none => rw [q] at f; exact f.elim
    | some n =>
      rw [q] at f
      refine ⟨v, n, rfl, ?_, k _ h α H _ f (Ext.refl ..) R (.int _)⟩
      by_cases z : ∃ x, d = .str x
      · obtain ⟨x, rfl⟩ := z
        cases rd
        have q : (if x.length ≤ 16777216 then some x.length else none) = some n := q
        split at q
        · rename_i hl
          cases q
          exact ⟨by rw [sizeLine_eq]; exact hl, rfl⟩
        · cases q
      · have q' : (seqOf h d).map List.length = some n := by
          cases d with
          | str x => exact absurd ⟨x, rfl⟩ z
          | _ => exact q
        cases w : seqOf h d with
        | none => rw [w] at q'; cases q'
        | some ys =>
          rw [w] at q'
          cases q'
          obtain ⟨p, us, rfl, b, c⟩ := seqOf_sq R rd w
          rcases b with b | b
          · exact .inl ⟨us, b, c.length⟩
          · exact .inr ⟨us, b, c.length⟩
  · exact f.elim
noncomputable def pTuple : PN := fun ds h Q => match ds with | [d] => (match seqOf h d with | some xs => Q (.tup xs) h | none => False) | _ => False
theorem ok_tuple : CallR X (.type "tuple") (rN X.K pTuple) := CallR.imp call_tuple_of fun xs H Q ⟨π, α, h, ds, Q', R, rs, f, k⟩ => by
  unfold pTuple at f
  split at f
  · rename_i d
    obtain ⟨v, rfl, rd⟩ := rs.inv1
    cases w : seqOf h d with
    | none => rw [w] at f; exact f.elim
    | some ys =>
      rw [w] at f
      by_cases z : ∃ x, d = .tup x
      · obtain ⟨x, rfl⟩ := z
        cases w
        cases rd with
        | tup t r => exact ⟨_, _, rfl, .inr ⟨t.sq, k _ h α H _ f (Ext.refl ..) R (.tup t r)⟩⟩
      · have w' : lsOf h d = some ys := by
          cases d with
          | tup x => exact absurd ⟨x, rfl⟩ z
          | lst x => exact w
          | scr x => exact w
          | ref x => exact w
          | _ => cases w
        obtain ⟨p, us, rfl, b, c⟩ := lsOf_sq R rd w'
        refine ⟨p, us, rfl, .inl ⟨b, fun l hl => ?_⟩⟩
        have e2 : Ext α H α (upd H l (.tup us)) := Ext.new hl
        exact k _ h α _ _ f e2 (R.new hl) (.tup ⟨R.out hl, R.outP hl, upd_same⟩ (c.mono e2))
  · exact f.elim
noncomputable def dListOf (f : DA) : DN := fun δ h Q => f δ h fun ds h1 => match ds with | [d] => (match seqOf h1 d with | some xs => Q xs h1 | none => False) | _ => False
theorem sn_list (hg : Gl X "list") (hm : X.mg "list" = none) (ha : SA X (e :: es) n f) (he : starEach (e :: es) X.env = (false, eval e X.env) :: starEach es X.env := by rfl) (hpl : (backTo pos (starEach es X.env)).any (·.1) = false := by rfl) :
    SN X (.Call (.Name "list" p) (e :: es) [] pos) (dListOf f) := PE.imp (pe_callTy call_list_of hg hm PyProof.Rows.boot_list ha (by decide) (by decide) he hpl) fun σ H Q ⟨π, α, δ, h, Q', R, S, f, k⟩ => by
  refine ⟨π, α, δ, h, _, R, S, f, fun ds h1 α1 H1 vs f1 e1 R1 q1 l1 => ?_⟩
  split at f1
  · rename_i d
    obtain ⟨v, rfl, rd⟩ := q1.inv1
    cases w : seqOf h1 d with
    | none => rw [w] at f1; exact f1.elim
    | some ys =>
      rw [w] at f1
      obtain ⟨p, us, rfl, b, c⟩ := seqOf_sq R1 rd w
      exact ⟨p, us, rfl, b, fun l hl => LN.last (h := h) k f1 e1 R1 c hl⟩
  · exact f1.elim
noncomputable def pInt : PN := fun ds h Q => match ds with | [.int i] => Q (.int i) h | [.bl b] => Q (.int (if b then 1 else 0)) h | _ => False
theorem ok_int : CallR X (.type "int") (rN X.K pInt) := CallR.imp call_int1 fun xs H Q ⟨π, α, h, ds, Q', R, rs, f, k⟩ => by
  unfold pInt at f
  split at f
  · obtain ⟨v, rfl, rd⟩ := rs.inv1
    cases rd
    exact .inl ⟨_, rfl, k _ h α H _ f (Ext.refl ..) R (.int _)⟩
  · obtain ⟨v, rfl, rd⟩ := rs.inv1
    cases rd
    exact .inr ⟨_, rfl, k _ h α H _ f (Ext.refl ..) R (.int _)⟩
  · exact f.elim
noncomputable def pMin : PN := fun ds h Q => match ds with | [.int i, .int j] => Q (.int (if j < i then j else i)) h | _ => False
noncomputable def pMax : PN := fun ds h Q => match ds with | [.int i, .int j] => Q (.int (if j > i then j else i)) h | _ => False
noncomputable def pAbs : PN := fun ds h Q => match ds with | [.int i] => Q (.int (if i < 0 then -i else i)) h | _ => False
end
section
variable {X : Cx} {o e : Expr} {fo fe : DE} {fs : DA} {n : Nat} {apos cpos : Pos}
noncomputable def dBits (fo : DE) : DE := fun δ h Q => fo δ h fun d h1 => match d with | .int i => Q (.int (Builtin.Int.intBits i : Nat)) h1 | _ => False
theorem se_bits (ho : SE X o fo) (hbase : attributeBase o "bit_length" X.env (eval o X.env) = eval o X.env := by rfl) (hline : (apos.endLine == cpos.line) = true := by rfl) : SE X (.Call (.Attribute o "bit_length" apos) [] [] cpos) (dBits fo) :=
  PE.imp (pe_bm0 PySem.F.plainAttrs_int PySem.F.slot_int_bit_length PySem.F.type_int_bit_length mt_bits ho hbase hline) fun σ H Q ⟨π, α, δ, h, Q', R, S, f, k⟩ => by
    refine ⟨π, α, δ, h, _, R, S, f, fun d h1 α1 H1 v1 f1 e1 R1 q1 => ?_⟩
    cases q1 with
    | int i => exact ⟨rfl, i, rfl, rfl, k _ h1 α1 H1 _ f1 e1 R1 (.int _)⟩
    | _ => exact f1.elim
noncomputable def dAppend (fo : DE) (fs : DA) : DE := fun δ h Q => fo δ h fun d h1 => match d with
  | .ref i => (match h1[i]? with
    | some (.lst _) => fs δ h1 fun ds h2 => (match ds, h2[i]? with
      | [v], some (.lst ys) => ys.length < 16777216 ∧ Q .non (h2.set i (.lst (ys ++ [v])))
      | _, _ => False)
    | _ => False)
  | _ => False
theorem refL {K : PySem.W.Frag} {π α : List Addr} {H : Hp} {h : Hh} (R : HRel ⟨K, π⟩ α H h) {i : Nat} {a : Addr} {xs : List D} (hp : α[i]? = some a) (w : h[i]? = some (.lst xs)) : ∃ us, H a = some (.lst us) ∧ RelDs ⟨K, π⟩ α H xs us := by
  obtain ⟨p, us, e1, e2, e3⟩ := R.lst w
  rw [hp] at e1; cases e1
  exact ⟨us, e2, e3⟩
theorem se_append (ho : SE X o fo) (ha : SA X [e] n fs) (hbase : attributeBase o "append" X.env (eval o X.env) = eval o X.env := by rfl)
    (hfew : ((backTo cpos (starEach [e] X.env)).all (fun x => !x.1) && (backToKw cpos (keywordEach [] X.env)).all (fun x => x.1.isSome)
      && decide ([e].length + ([] : List Keyword).length + (if ([] : List Keyword).isEmpty then 0 else 1) < 30)) = true := by rfl)
    (hline : (apos.endLine == cpos.line) = true := by rfl) (hs : starEach [e] X.env = (false, eval e X.env) :: starEach [] X.env := by rfl) (hplain : (backTo cpos (starEach [] X.env)).any (·.1) = false := by rfl) :
    SE X (.Call (.Attribute o "append" apos) [e] [] cpos) (dAppend fo fs) :=
  PE.imp (pe_bm PySem.F.plainAttrs_list PySem.F.slot_list_append PySem.F.type_list_append mt_append ho ha hbase hfew hline hs hplain) fun σ H Q ⟨π, α, δ, h, Q', R, S, f, k⟩ => by
    refine ⟨π, α, δ, h, _, R, S, f, fun d h1 α1 H1 v1 f1 e1 R1 q1 => ?_⟩
    cases q1 with
    | @ref i a hp =>
      dsimp only at f1
      cases w : h1[i]? with
      | none => rw [w] at f1; exact f1.elim
      | some ob =>
        rw [w] at f1
        cases ob with
        | lst xs =>
          obtain ⟨us, e2, e3⟩ := refL R1 hp w
          refine ⟨.inl ⟨rfl, us, SqL.of e2⟩, π, α1, δ, h1, _, R1, S.mono e1, f1, fun ds h2 α2 H2 vs f2 e2 R2 q2 l2 => ?_⟩
          split at f2
          · rename_i v ys w2
            obtain ⟨u, rfl, q9⟩ := q2.inv1
            have hp2 := e2.get hp
            obtain ⟨us2, g2, g3⟩ := refL R2 hp2 w2
            have e4 : Ext α2 H2 α2 (upd H2 a (.lst (us2 ++ [u]))) := Ext.write (List.mem_of_getElem? hp2)
            exact ⟨a, us2, u, rfl, rfl, g2, by rw [← g3.length, sizeLine_eq]; exact f2.1, k _ _ α2 _ _ f2.2 (e1.trans (e2.trans e4)) (R2.write hp2 (.lst upd_same ((g3.snoc q9).mono e4))) .non⟩
          · exact f2.elim
        | _ => exact f1.elim
    | _ => exact f1.elim
noncomputable def dPop (fo : DE) : DE := fun δ h Q => fo δ h fun d h1 => match d with
  | .ref i => (match h1[i]? with
    | some (.lst xs) => (match xs[xs.length - 1]? with | some y => Q y (h1.set i (.lst xs.dropLast)) | none => False)
    | _ => False)
  | _ => False
noncomputable def dClear (fo : DE) : DE := fun δ h Q => fo δ h fun d h1 => match d with
  | .ref i => (match h1[i]? with | some (.lst _) => Q .non (h1.set i (.lst [])) | _ => False)
  | _ => False
end
noncomputable abbrev DSp := List D → Hh → DK → Prop
inductive spD (K : PySem.W.Frag) (n : Nat) (g : DSp) (vs : List V) (H : Hp) (Q : VK) (X9 : XK) : Prop
  | mk (π : List Addr) (α : List Addr) (h : Hh) (ds : List D) (Q' : DK) : HRel ⟨K, π⟩ α H h → RelDs ⟨K, π⟩ α H ds vs → ds.length = n → g ds h Q' → (∀ d h' α' H' v, Q' d h' → Ext α H α' H' → HRel ⟨K, π⟩ α' H' h' → RelD ⟨K, π⟩ α' H' d v → Q v H') → spD K n g vs H Q X9
noncomputable def dCal (g : DSp) (f : DA) : DE := fun δ h Q => f δ h fun ds h1 => g ds h1 Q
section
variable {X : Cx} {k m : Nat} {ps : List Str} {g : DSp} {x : Str} {p pos : Pos} {e : Expr} {es : List Expr} {n : Nat} {f : DA}
theorem se_cal (c : Cal X.prog X.w X.K X.mg X.base k x ps (spD X.K m g)) (hr : Room k X.A) (hg : Gl X x) (ha : SA X (e :: es) n f) (hn : n = m := by rfl) (hdb : (x == ("__debug__" : Str)) = false := by decide)
    (he : starEach (e :: es) X.env = (false, eval e X.env) :: starEach es X.env := by rfl) (hpl : (backTo pos (starEach es X.env)).any (·.1) = false := by rfl) : SE X (.Call (.Name x p) (e :: es) [] pos) (dCal g f) :=
  PE.imp (pe_cal c hr hg ha hdb he hpl) fun σ H Q ⟨π, α, δ, h, Q', R, S, f, k⟩ => by
    refine ⟨π, α, δ, h, _, R, S, f, fun ds h1 α1 H1 vs f1 e1 R1 q1 l1 => ?_⟩
    show spD X.K m g (vs ++ []) H1 Q E0
    rw [List.append_nil]
    exact ⟨π, α1, h1, ds, Q', R1, q1, l1.trans hn, f1, fun d h' α' H' v a b c d' => k d h' α' H' v a (e1.trans b) c d'⟩
end
noncomputable def runD (n : Nat) (b : DS) : DSp := fun ds h Q => b { nx := fun _ h' => Q .non h', rt := Q } (ds.map some ++ List.replicate (n - ds.length) none) h
theorem relS_start {K : KP} {α : List Addr} {H : Hp} {ds : List D} {vs : List V} {N : List Str} (r : RelDs K α H ds vs) : RelS K α H (ds.map some ++ List.replicate (N.length - ds.length) none) (L2.start N vs) := by
  refine ⟨by unfold L2.start; simp [r.length], fun i d e => ?_⟩
  by_cases hi : i < ds.length
  · rw [List.getElem?_append_left (by simpa using hi), List.getElem?_map] at e
    cases q : ds[i]? with
    | none => rw [q] at e; cases e
    | some z =>
      rw [q] at e
      cases e
      obtain ⟨u, h1, h2⟩ := r.get q
      refine ⟨u, ?_, h2⟩
      unfold L2.start
      rw [List.getElem?_append_left (by rw [List.length_map, ← r.length]; exact hi), List.getElem?_map, h1]; rfl
  · rw [List.getElem?_append_right (by simpa using hi), List.getElem?_replicate] at e
    split at e <;> cases e
section
variable {P : Program} {w : World} {K : PySem.W.Frag} {mg : Str → Option Value} {base : Heap}
theorem fn_ok {x qual : Str} {st : Stmt} {f : Addr} {fd : FuncData} {N ps : List Str} {k : Nat} {b : DS} {g : DSp} (F : Fun K x qual st f fd) (S : FnScope N ps (defScope st))
    (hb : ∀ (cdv : Value) (A : Around) (outer : List Env) (s : Shared) (H : Hp) (E : XK), Room k (A.deeper (PyProof.Rows.envOfC qual (defScope st) s.heap.objs.size f cdv)) → SSs (cxOf CX0 P w K mg base N qual (defScope st) f cdv A outer s H E).nox (defBody st) b)
    (hg : ∀ ds h Q, g ds h Q → runD N.length b ds h Q) : FnOk P w K mg base CX0 (k + 1) f fd ps (spD K ps.length g) := by
  refine F.ok S (fun vs H Q E h => ?_) fun cdv A outer s H vs Q E hr h => ?_
  · obtain ⟨π, α, h, ds, Q', R, r, l, _⟩ := h
    rw [← r.length, l]
  · obtain ⟨π, α, h, ds, Q', R, r, l, q, kk⟩ := h
    refine ⟨_, hb cdv A outer s H E hr, π, α, _, h, { nx := fun _ h' => Q' .non h', rt := Q' }, R, relS_start r, hg ds h Q' q, ⟨fun _ h' α' H' σ' a b c _ => kk .non h' α' H' .non a b c .non, fun d h' α' H' v a b c d' => kk d h' α' H' v a b c d', fun _ _ _ _ _ a _ _ _ => a.elim, fun _ _ _ _ _ a _ _ _ => a.elim, fun _ _ _ _ _ _ _ a _ _ _ => a.elim⟩⟩
end
end DL
namespace DL
open PySem PySem.Spec L2
noncomputable def lsP (h : Hh) : D → Option (List D)
  | .lst xs => some xs
  | .ref i => match h[i]? with | some (.lst xs) => some xs | _ => none
  | _ => none
theorem lsP_sq {K : KP} {α : List Addr} {H : Hp} {h : Hh} (R : HRel K α H h) {d : D} {v : V} {xs : List D} (r : RelD K α H d v) (e : lsP h d = some xs) : ∃ p us, v = .ref p ∧ H p = some (.lst us) ∧ RelDs K α H xs us := by
  cases r with
  | lst t r => cases e; exact ⟨_, _, rfl, t.2.2, r⟩
  | @ref i a hp =>
    have e : (match h[i]? with | some (.lst xs) => some xs | _ => none) = some xs := e
    cases q : h[i]? with
    | none => rw [q] at e; cases e
    | some o =>
      rw [q] at e
      cases o with
      | lst ys =>
        cases e
        obtain ⟨p, us, e1, e2, e3⟩ := R.lst q
        rw [hp] at e1; cases e1
        exact ⟨_, us, rfl, e2, e3⟩
      | _ => cases e
  | _ => cases e
noncomputable def pPlus : P2 := fun x y h Q => match lsP h x, lsP h y with
  | some xs, some ys => xs.length + ys.length ≤ 16777216 ∧ Q (.lst (xs ++ ys)) h
  | _, _ => pAdd x y h Q
section
variable {X : Cx}
theorem ok_plus : OpR X (binaryOp .Add) (r2 X.K pPlus) := OpR.imp (op_cat.or ok_add) fun x y H Q ⟨π, α, h, d, e, Q', R, r1, r2, f, k⟩ => by
  unfold pPlus at f
  cases w : lsP h d with
  | none => rw [w] at f; exact .inr ⟨π, α, h, d, e, Q', R, r1, r2, f, k⟩
  | some xs =>
    cases w' : lsP h e with
    | none => rw [w, w'] at f; exact .inr ⟨π, α, h, d, e, Q', R, r1, r2, f, k⟩
    | some ys =>
      rw [w, w'] at f
      obtain ⟨p, us, rfl, b, c⟩ := lsP_sq R r1 w
      obtain ⟨p', us', rfl, b', c'⟩ := lsP_sq R r2 w'
      refine .inl ⟨p, p', us, us', rfl, rfl, b, b', by rw [← c.length, ← c'.length, sizeLine_eq]; exact f.1, fun l hl => ?_⟩
      have e2 : Ext α H α (upd H l (.lst (us ++ us'))) := Ext.new hl
      exact k _ h α _ _ f.2 e2 (R.new hl) (.lst ⟨R.out hl, R.outP hl, upd_same⟩ ((c.append c').mono e2))
noncomputable def dCatN (fa fb : DE) : DN := fun δ h Q => fa δ h fun x h1 => fb δ h1 fun y h2 => match lsP h2 x, lsP h2 y with
  | some xs, some ys => xs.length + ys.length ≤ 16777216 ∧ Q (xs ++ ys) h2
  | _, _ => False
theorem rel_rep {K : KP} {α : List Addr} {H : Hp} {ds : List D} {us : List V} (r : RelDs K α H ds us) : ∀ n : Nat, RelDs K α H (List.replicate n ds).flatten (List.replicate n us).flatten
  | 0 => .nil
  | n + 1 => by rw [List.replicate_succ, List.replicate_succ, List.flatten_cons, List.flatten_cons]; exact r.append (rel_rep r n)
noncomputable def dRepN (fa fb : DE) : DN := fun δ h Q => fa δ h fun x h1 => fb δ h1 fun y h2 => match lsP h2 x, y with
  | some xs, .int n => (-(2 ^ 63) ≤ n ∧ n < 2 ^ 63 ∧ xs.length * n.toNat ≤ 16777216) ∧ Q (List.replicate n.toNat xs).flatten h2
  | _, _ => False
theorem sn_rep {a b : Expr} {fa fb : DE} {pos : Pos} (ha : SE X a fa) (hb : SE X b fb) : SN X (.BinOp a .Mult b pos) (dRepN fa fb) := PE.imp (pe_op op_rep ha hb) fun σ H Q ⟨π, α, δ, h, Q', R, S, f, k⟩ => by
  refine ⟨π, α, δ, h, _, R, S, f, fun x h1 α1 H1 v1 f1 e1 R1 q1 => ?_⟩
  refine ⟨π, α1, δ, h1, _, R1, S.mono e1, f1, fun y h2 α2 H2 v2 f2 e2 R2 q2 => ?_⟩
  split at f2
  · rename_i xs n w
    cases q2
    obtain ⟨p, us, rfl, b, c⟩ := lsP_sq R2 (q1.mono e2) w
    exact ⟨p, n, us, rfl, rfl, b, f2.1.1, f2.1.2.1, by rw [← c.length, sizeLine_eq]; exact f2.1.2.2, fun l hl => LN.last (h := h) k f2.2 (e1.trans e2) R2 (rel_rep c _) hl⟩
  · exact f2.elim
theorem op_mulB : OpR X (binaryOp .Mult) (rI IntMulOk fun i j => .int (i * j)) := opI fun _ _ _ _ _ _ _ hc q => PyProof.Rows.mul_int q hc
noncomputable def pMulI : P2 := pI IntMulOk fun i j => i * j
theorem ok_timesI : OpR X (binaryOp .Mult) (r2 X.K pMulI) := pI_ok op_mulB
noncomputable def pMul : P2 := fun x y h Q => match x, y with
  | .int i, .int j => IntMulOk i j ∧ Q (.int (i * j)) h
  | .tup xs, .int n => (xs ≠ [] ∧ xs.length ≤ 10 ∧ 1 ≤ n ∧ n < 100) ∧ Q (.tup (List.replicate n.toNat xs).flatten) h
  | x, .int n => (match lsP h x with | some xs => (-(2 ^ 63) ≤ n ∧ n < 2 ^ 63 ∧ xs.length * n.toNat ≤ 16777216) ∧ Q (.lst (List.replicate n.toNat xs).flatten) h | none => False)
  | _, _ => False
noncomputable def dSl (fe : DE) (fl fh : DO) : DE := fun δ h Q => fe δ h fun d h1 => fl δ h1 fun l h2 => fh δ h2 fun u h3 => match d with
  | .tup xs => Q (.tup (cutD xs l u)) h3
  | d => match lsOf h3 d with | some xs => Q (.lst (cutD xs l u)) h3 | none => False
theorem se_sl {e : Expr} {fe : DE} {lo hi : Option Expr} {fl fh : DO} {pos p2 : Pos} (he : SE X e fe) (hl : SO X lo fl) (hu : SO X hi fh) : SE X (.Subscript e (.Slice lo hi none p2) pos) (dSl fe fl fh) := PE.imp (pe_slice (sl_tupD.or sl_list) he hl hu) fun σ H Q ⟨π, α, δ, h, Q', R, S, f, k⟩ => by
  refine ⟨π, α, δ, h, _, R, S, f, fun d h1 α1 H1 v1 f1 e1 R1 q1 => ?_⟩
  refine ⟨π, α1, δ, h1, _, R1, S.mono e1, f1, fun l h2 α2 H2 f2 e2 R2 => ?_⟩
  refine ⟨π, α2, δ, h2, _, R2, S.mono (e1.trans e2), f2, fun u h3 α3 H3 f3 e3 R3 => ?_⟩
  have q3 := (q1.mono e2).mono e3
  split at f3
  · cases q3 with
    | @tup a us ds t r =>
      refine .inl ⟨a, us, rfl, t.sq, fun z => ?_, fun p hp => ?_⟩
      · have c := cut_rel r l u
        rw [z] at c
        exact k _ h3 α3 H3 _ f3 (e1.trans (e2.trans e3)) R3 (.tup t c)
      · have e4 : Ext α3 H3 α3 (upd H3 p (.tup (cutV us l u))) := Ext.new hp
        exact k _ h3 α3 _ _ f3 (e1.trans (e2.trans (e3.trans e4))) (R3.new hp) (.tup ⟨R3.out hp, R3.outP hp, upd_same⟩ ((cut_rel r l u).mono e4))
  · split at f3
    · rename_i xs w
      obtain ⟨p, us, rfl, b, c⟩ := lsOf_sq R3 q3 w
      refine .inr ⟨p, us, rfl, b, fun l' hl => ?_⟩
      have e4 : Ext α3 H3 α3 (upd H3 l' (.lst (cutV us l u))) := Ext.new hl
      exact k _ h3 α3 _ _ f3 (e1.trans (e2.trans (e3.trans e4))) (R3.new hl) (.lst ⟨R3.out hl, R3.outP hl, upd_same⟩ ((cut_rel c l u).mono e4))
    · exact f3.elim
noncomputable def dExtend (fo : DE) (fs : DA) : DE := fun δ h Q => fo δ h fun d h1 => match d with
  | .ref i => (match h1[i]? with
    | some (.lst _) => fs δ h1 fun ds h2 => (match ds, h2[i]? with
      | [v], some (.lst ys) => (match lsP h2 v with | some zs => ys.length + zs.length ≤ 16777216 ∧ Q .non (h2.set i (.lst (ys ++ zs))) | none => False)
      | _, _ => False)
    | _ => False)
  | _ => False
noncomputable def kindD (h : Hh) : D → Option String
  | .non => some "NoneType"
  | .bl _ => some "bool"
  | .int _ => some "int"
  | .str _ => some "str"
  | .tup _ => some "tuple"
  | .lst _ => some "list"
  | .ref i => match h[i]? with | some (.lst _) => some "list" | some (.dT _) => some "dict" | some (.dK _) => some "dict" | _ => none
  | _ => none
noncomputable def isKind (t T : String) : Bool := t == T || (t == "bool" && T == "int")
theorem kit_of {K : PySem.W.Frag} {t T : String} (ht : t ∈ ["NoneType", "bool", "int", "str", "tuple", "list", "dict"]) (hT : T ∈ ["bool", "int", "str", "tuple", "list", "dict"]) : PySem.W.kitOne K (.type t) (.type T) = some (isKind t T) := by
  simp only [List.mem_cons, List.not_mem_nil, or_false] at ht hT
  rcases ht with rfl | rfl | rfl | rfl | rfl | rfl | rfl <;> rcases hT with rfl | rfl | rfl | rfl | rfl | rfl <;> rfl
noncomputable def dIsinst (T : String) (fa : DE) : DE := fun δ h Q => fa δ h fun d h1 => match kindD h1 d with | some t => Q (.bl (isKind t T)) h1 | none => False
theorem kind_in {h : Hh} {d : D} {t : String} (e : kindD h d = some t) : t ∈ ["NoneType", "bool", "int", "str", "tuple", "list", "dict"] := by
  unfold kindD at e
  split at e
  all_goals first | (cases e; done) | (cases e; decide) | skip
  split at e
  all_goals first | (cases e; done) | (cases e; decide)
theorem call_isinstD {T : String} : CallR X (.builtin "isinstance") (fun xs H Q => ∃ x t b, xs = [x, .ty T] ∧ (TyOf X.K H x t ∨ (t = .type "tuple" ∧ ∃ a us, x = .ref a ∧ SqT X.K H a us)) ∧ PySem.W.kitOne X.K t (.type T) = some b ∧ Q (.bl b) H) := by
  intro pins s σ H xs us Q I r h
  obtain ⟨x, t, b, rfl, ty, e, q⟩ := h
  obtain ⟨u, w', rfl, ru, rw'⟩ := vals2 r
  cases rw'
  rcases ty with ty | ⟨rfl, a, us, rfl, hq⟩
  · exact isinst_ok I ru ty e fun tk => ⟨.bl b, H, I.tok _, rfl, q⟩
  · cases ru
    obtain ⟨its, rv, ⟨o, h1, h2, _⟩, _⟩ := I.tuple hq
    exact PySem.W.kia_one PySem.W.kitx_tuple I.kIn ⟨o, h1, h2⟩ e (fun z => nomatch z) fun tk => ⟨.bl b, H, I.tok _, rfl, q⟩
theorem kind_ty {K : PySem.W.Frag} {π α : List Addr} {H : Hp} {h : Hh} {d : D} {v : V} {t : String} (R : HRel ⟨K, π⟩ α H h) (r : RelD ⟨K, π⟩ α H d v) (e : kindD h d = some t) : TyOf K H v (.type t) ∨ (Value.type t = .type "tuple" ∧ ∃ a us, v = .ref a ∧ SqT K H a us) := by
  cases r with
  | non => cases e; exact .inl .non
  | bl b => cases e; exact .inl (.bl b)
  | int i => cases e; exact .inl (.int i)
  | str x => cases e; exact .inl (.str x)
  | tup t r => cases e; exact .inr ⟨rfl, _, _, rfl, t.sq⟩
  | lst t r => cases e; exact .inl (.lst t.2.2)
  | scr t r => cases e
  | exc _ _ _ => cases e
  | @ref i a hp =>
    have e : (match h[i]? with | some (.lst _) => some "list" | some (.dT _) => some "dict" | some (.dK _) => some "dict" | _ => none) = some t := e
    cases q : h[i]? with
    | none => rw [q] at e; cases e
    | some o =>
      rw [q] at e
      cases o with
      | lst ys =>
        cases e
        obtain ⟨us, e2, e3⟩ := refL R hp q
        exact .inl (.lst e2)
      | dT ys =>
        cases e
        obtain ⟨p, us, e1, e2, e3⟩ := R.dT q
        rw [hp] at e1; cases e1
        exact .inl (.dT e2)
      | dK ys =>
        cases e
        obtain ⟨p, us, e1, e2, e3⟩ := R.dK q
        rw [hp] at e1; cases e1
        exact .inl (.dK e2)
      | ins C fs => cases e
theorem se_isinst {T : String} {a : Expr} {fa : DE} {x : Str} {p p2 pos : Pos} (hT : T ∈ ["bool", "int", "str", "tuple", "list", "dict"]) (hg : Gl X "isinstance") (hm : X.mg "isinstance" = none) (ha : SE X a fa) (ht : PE X (.Name x p2) (tC (.ty T)))
    (he : starEach [a, .Name x p2] X.env = (false, eval a X.env) :: starEach [.Name x p2] X.env := by rfl) (he2 : starEach [.Name x p2] X.env = (false, eval (.Name x p2) X.env) :: starEach [] X.env := by rfl) (hpl : (backTo pos (starEach [.Name x p2] X.env)).any (·.1) = false := by rfl) :
    SE X (.Call (.Name "isinstance" p) [a, .Name x p2] [] pos) (dIsinst T fa) := PE.imp (pe_callB call_isinstD hg hm PyProof.Rows.boot_isinstance (pa_cons ha (pa_cons ht pa_nil he2) he) (by decide) (by decide) he hpl) fun σ H Q ⟨π, α, δ, h, Q', R, S, f, k⟩ => by
  refine ⟨π, α, δ, h, _, R, S, f, fun d h1 α1 H1 v1 f1 e1 R1 q1 => ?_⟩
  split at f1
  · rename_i t w
    exact ⟨v1, .type t, _, rfl, kind_ty R1 q1 w, kit_of (kind_in w) hT, k _ h1 α1 H1 _ f1 e1 R1 (.bl _)⟩
  · exact f1.elim
noncomputable def flatD : D → Bool
  | .non => true
  | .bl _ => true
  | .int _ => true
  | .str _ => true
  | _ => false
noncomputable def eqF : D → D → Bool
  | .non, .non => true
  | .bl a, .bl b => a == b
  | .bl a, .int b => (if a then 1 else 0) == b
  | .int a, .bl b => a == (if b then 1 else 0)
  | .int a, .int b => a == b
  | .str a, .str b => a == b
  | _, _ => false
noncomputable def inF (x : D) (xs : List D) : Bool := xs.any fun y => eqF y x
theorem flat_rel {K : KP} {α : List Addr} {H : Hp} {d : D} {v : V} (r : RelD K α H d v) : flatV v = flatD d := by cases r <;> rfl
theorem flats_rel {K : KP} {α : List Addr} {H : Hp} : ∀ {ds : List D} {vs : List V}, RelDs K α H ds vs → vs.all flatV = ds.all flatD
  | _, _, .nil => rfl
  | _, _, .cons r t => by rw [List.all_cons, List.all_cons, flat_rel r, flats_rel t]
theorem eqF_rel {K : KP} {α : List Addr} {H : Hp} {d e : D} {v u : V} (r : RelD K α H d v) (s : RelD K α H e u) : eqV v u = eqF d e := by
  cases r <;> cases s <;> rfl
theorem inF_rel {K : KP} {α : List Addr} {H : Hp} {d : D} {v : V} (r : RelD K α H d v) : ∀ {ds : List D} {vs : List V}, RelDs K α H ds vs → inV v vs = inF d ds
  | _, _, .nil => rfl
  | _, _, .cons s t => by
    have := inF_rel r t
    unfold inV inF at this ⊢
    rw [List.any_cons, List.any_cons, this, eqF_rel s r]
noncomputable def pIn (neg : Bool) : P2 := fun x y h Q => match seqOf h y with
  | some xs => (flatD x && xs.all flatD) = true ∧ Q (.bl (if neg then !inF x xs else inF x xs)) h
  | none => False
theorem pIn_r {neg : Bool} {x y : V} {H : Hp} {Q : VK} (g : r2 X.K (pIn neg) x y H Q) : rIn X.K neg x y H Q := by
  obtain ⟨π, α, h, d, e, Q', R, r1, r2, f, k⟩ := g
  unfold pIn at f
  split at f
  · rename_i xs w
    obtain ⟨p, us, rfl, b, c⟩ := seqOf_sq R r2 w
    obtain ⟨f1, f2⟩ := f
    rw [Bool.and_eq_true] at f1
    refine ⟨p, us, rfl, b, by rw [flat_rel r1]; exact f1.1, by rw [flats_rel c]; exact f1.2, k _ h α H _ f2 (Ext.refl ..) R ?_⟩
    rw [inF_rel r1 c]; exact .bl _
  · exact f.elim
theorem ok_notin : OpR X (compareOp .NotIn) (r2 X.K (pIn true)) := OpR.imp op_notIn_seq fun _ _ _ _ g => pIn_r g
end
end DL
namespace DL
open PySem PySem.Spec L2
section
variable {X : Cx}
noncomputable def intsOf : List D → Option (List Int)
  | [] => some []
  | .int i :: r => (intsOf r).map (i :: ·)
  | _ :: _ => none
noncomputable def pLt : P2 := fun x y h Q => match x, y with
  | .int i, .int j => Q (.bl (decide (i < j))) h
  | .tup a, .tup b => (match intsOf a, intsOf b with | some ns, some ms => Q (.bl (HT.lexLt ns ms)) h | _, _ => False)
  | .str a, .str b => Q (.bl (decide (a.cps.toList < b.cps.toList))) h
  | _, _ => False
noncomputable def keyS : D → Option Key
  | .int i => some (.inl i)
  | .str x => some (.inr x)
  | _ => none
noncomputable def lkG (kvs : List (Key × Int)) (k : Key) : Option Int := (kvs.find? fun kv => decide (kv.1 = k)).map (·.2)
noncomputable def dGet (kvs : List (Key × Int)) (fi : DE) : DE := fun δ h Q => fi δ h fun d h1 => match (keyS d).bind fun k => lkG kvs k with | some v => Q (.int v) h1 | none => False
noncomputable def dIEnum1 (f : DA) : DI := fun δ h Q => f δ h fun ds h1 => match ds with | [d] => (match d with | .tup _ => False | d => match seqSrc h1 d with | some S => Q ⟨enumD 1 S.items, S.w⟩ h1 | none => False) | _ => False
end
end DL
namespace Att
open PySem PySem.W PySem.Calls PyProof.Rows
theorem bits_weight : ∀ (ns : List Int) (x : Int), x ∈ ns → Builtin.Int.intBits x ≤ WData.weightAll (ns.map WData.int)
  | n :: r, x, h => by
    rw [List.map_cons]
    show _ ≤ WData.weight (.int n) + 1 + WData.weightAll (r.map WData.int)
    rcases List.mem_cons.mp h with rfl | h
    · have e : WData.weight (.int x) = Builtin.Int.intBits x := rfl
      rw [e]; omega
    · have := bits_weight r x h
      omega
theorem bits_args {ns : List Int} (h : WData.layableAll [WData.list (ns.map WData.int)] = true) : ∀ x ∈ ns, Builtin.Int.intBits x ≤ 1048576 := fun x hx => by
  have h : (WData.layable (.list (ns.map WData.int)) && true) = true := h
  rw [Bool.and_true] at h
  unfold WData.layable at h
  rw [Bool.and_eq_true] at h
  have h2 : WData.weight (.list (ns.map WData.int)) ≤ 2 ^ 20 := of_decide_eq_true h.2
  exact Nat.le_trans (bits_weight ns x hx) h2
theorem attach_call2 {l : OpenLaw} {n : Nat} {q : Program} {loose : List Str} {XP : (Str → Option Value) → Heap → Prop} {YP : World → Heap → Prop} {d : DefRec}
    (hn : l.most = some n) (hdf : d.params.defaults = [])
    (call : ∀ (w : World) (s₀ s₁ : Shared) (mg mb : Str → Option Value) (fa : Addr) (o : Obj) (pm cd doc : Value) (a : Addr) (vs : List Value) (ns : List Int),
      Ground q loose [] XP w s₀ mg mb s₁.heap → YP w s₁.heap →
      s₁.heap.get? fa = some o → o.data = .func (docDef d.name d.params d.body d.scope pm cd doc) → s₁.heap.CodeRec cd d.name → mg d.name = some (.ref fa) →
      s₁.heap.get? a = some { cls := .type "list", data := .seq vs.toArray } → IntsAre vs ns → ns.length ≤ n → (∀ x ∈ ns, Builtin.Int.intBits x ≤ 1048576) → s₁.gens = #[] →
      codeAny (model l.prog w) callerA (.call (.ref fa) ⟨[.ref a], []⟩) (fun r s' => r = .ok (.ret (.bool true)) ∧ OldK s₁.heap s'.heap ∧ s'.os = s₁.os ∧ AllBare s'.gens) s₁) :
    WalkO q loose XP YP l.row.toRowW d [] (fun f vs => PySem.call f vs) := by
  intro w s₀ s₁ mg mb G Y fa o pm cd doc dV kV ho hd hcd hD hmg hg args vals as hpre hlay hrd hwl hlo
  obtain rfl : dV = .none := Dflts.none hD hdf
  obtain rfl : kV = .none := Dflts.noKw hD
  obtain ⟨a, vs, ns, rfl, rfl, hobj, hints, hlen⟩ := script_of hn hpre hwl
  refine enter_call (codeAny_mono (call w s₀ s₁ mg mb fa o pm cd doc a vs ns G Y ho (fd_plain hd) hcd hmg hobj hints hlen (bits_args hlay) hg) fun r s' hq => ?_)
  obtain ⟨rfl, h2, h3, h4⟩ := hq
  exact ⟨.inl ⟨.bool true, .bool true, [], rfl, fun _ => rfl, .bool true, post_true l _, fun _ => ⟨List.Pairwise.nil, fun _ hm => (nomatch hm)⟩⟩, h2, h3, h4⟩
end Att
namespace DL
open PySem PySem.Spec L2 PySem.W PyProof.Rows
theorem walkD {l : OpenLaw} {n k : Nat} {q : Program} {loose : List Str} {XP : (Str → Option Value) → Heap → Prop} {YP : World → Heap → Prop} {d : DefRec} {K : Params → PySem.W.Frag} {S : DSp} {x : Str}
    (hn : l.most = some n) (hn2 : n ≤ sizeLine) (hdf : d.params.defaults = []) (hr : Room k callerA)
    (hY : ∀ (w : World) (h : Heap), YP w h → (K w.params).In h)
    (F : ∀ (w : World) (mg : Str → Option Value) (fa : Addr) (h : Heap), (K w.params).In h → h.Ns mainGlobals mg → mg d.name = some (.ref fa) →
      ∃ fd : FuncData, (∀ (s : Shared) (u : Value), BindsTo s fd ⟨[u], []⟩ [(x, u)]) ∧
        ∀ base : Heap, (K w.params).In base → base.Ns mainGlobals mg → FnOk l.prog w (K w.params) mg base CX0 k fa fd [x] (spD (K w.params) 1 S))
    (hS : ∀ ns : List Int, ns.length ≤ n → (∀ x ∈ ns, Builtin.Int.intBits x ≤ 1048576) → S [.scr (ns.map D.int)] [] (fun v _ => v = .bl true)) :
    WalkO q loose XP YP l.row.toRowW d [] (fun f vs => PySem.call f vs) := by
  refine Att.attach_call2 hn hdf fun w s₀ s₁ mg mb fa o pm cd doc a vs ns G Y ho hd hcd hmg hobj hints hlen hbits hg => ?_
  have KX := hY w _ Y
  obtain ⟨fd, hb, hF⟩ := F w mg fa _ KX G.T.g hmg
  refine L2.law_call KX G.T.g G.T.b G.T.builtins G.T.nolimit hg hobj hints (Nat.le_trans hlen hn2) hr hF hb (fun H hO hS' => ?_) fun H e s' z => z
  refine ⟨[], [], [], [.scr (ns.map D.int)], _, ⟨rfl, List.nodup_nil, fun p hp => (nomatch hp), fun i o e => ?_⟩, .cons (.scr (a := a) (us := ns.map V.int) ?_ (RelDs.ints ns)) .nil, rfl, hS ns hlen hbits, fun d h' α' H' v a b c r => ?_⟩
  · simp at e
  · rcases hS' with h | h
    · exact .inl ⟨fun z => (nomatch z), fun z => (nomatch z), h⟩
    · exact .inr h
  · have a : d = .bl true := a
    subst a
    cases r; rfl
end DL
namespace DL
open PySem PySem.Spec L2
mutual
noncomputable def nrD : D → Bool
  | .tup xs => nrDs xs
  | .lst xs => nrDs xs
  | .scr xs => nrDs xs
  | .ref _ => false
  | _ => true
noncomputable def nrDs : List D → Bool
  | [] => true
  | d :: ds => nrD d && nrDs ds
end
noncomputable def nrO : O → Bool
  | .lst xs => nrDs xs
  | .dT kvs => nrDs (kvs.map (·.2))
  | .dK kvs => nrDs (kvs.map (·.2))
  | .ins _ fs => nrDs (fs.map (·.2))
mutual
inductive Vw (n : Nat) (h : Hh) : D → D → Prop
  | nr {d : D} : nrD d = true → Vw n h d d
  | old {i : Nat} : i < n → Vw n h (.ref i) (.ref i)
  | opn {i : Nat} {xs ys : List D} : n ≤ i → h[i]? = some (.lst xs) → Vws n h xs ys → Vw n h (.ref i) (.lst ys)
  | tup {xs ys : List D} : Vws n h xs ys → Vw n h (.tup xs) (.tup ys)
  | lst {xs ys : List D} : Vws n h xs ys → Vw n h (.lst xs) (.lst ys)
inductive Vws (n : Nat) (h : Hh) : List D → List D → Prop
  | nil : Vws n h [] []
  | cons {d e : D} {ds es : List D} : Vw n h d e → Vws n h ds es → Vws n h (d :: ds) (e :: es)
end
section
variable {K : PySem.W.Frag} {π α β : List Addr} {H H' : Hp} {h : Hh}
theorem VT.less {a : Addr} {us : List V} (t : VT ⟨K, π⟩ (α ++ β) H a us) : VT ⟨K, π⟩ α H a us := ⟨fun z => t.1 (List.mem_append_left _ z), t.2⟩
theorem VS.less {a : Addr} {us : List V} (t : VS ⟨K, π⟩ (α ++ β) H a us) : VS ⟨K, π⟩ α H a us := by
  rcases t with ⟨n, m, t⟩ | t
  · exact .inl ⟨fun z => n (List.mem_append_left _ z), m, t⟩
  · exact .inr t
theorem VL.less {a : Addr} {us : List V} (t : VL ⟨K, π⟩ (α ++ β) H a us) : VL ⟨K, π⟩ α H a us := ⟨fun z => t.1 (List.mem_append_left _ z), t.2⟩
theorem VE.less {a : Addr} {u : HO} (t : VE ⟨K, π⟩ (α ++ β) H a u) : VE ⟨K, π⟩ α H a u := ⟨fun z => t.1 (List.mem_append_left _ z), t.2⟩
theorem nrDs_and {x : D} {r : List D} (e : nrDs (x :: r) = true) : nrD x = true ∧ nrDs r = true := by
  have e : (nrD _ && nrDs _) = true := e
  rw [Bool.and_eq_true] at e
  exact e
theorem RelD.nr {d : D} {v : V} (e : nrD d = true) (r : RelD ⟨K, π⟩ (α ++ β) H d v) : RelD ⟨K, π⟩ α H d v :=
  RelD.rec (motive_1 := fun d v _ => nrD d = true → RelD ⟨K, π⟩ α H d v) (motive_2 := fun ds us _ => nrDs ds = true → RelDs ⟨K, π⟩ α H ds us) (fun _ => .non) (fun b _ => .bl b) (fun i _ => .int i) (fun x _ => .str x) (fun t _ h e => .tup t.less (h e)) (fun t _ h e => .lst t.less (h e)) (fun t _ h e => .scr t.less (h e)) (fun _ e => nomatch e) (fun n t r _ => .exc n t.less (r.map fun _ _ z => z.less)) (fun _ => .nil) (fun _ _ h t e => .cons (h (nrDs_and e).1) (t (nrDs_and e).2)) r e
theorem RelDs.nr {ds : List D} {vs : List V} (e : nrDs ds = true) (r : RelDs ⟨K, π⟩ (α ++ β) H ds vs) : RelDs ⟨K, π⟩ α H ds vs := by
  induction ds generalizing vs with
  | nil => cases r; exact .nil
  | cons d ds ih => cases r with | cons h t => exact .cons (h.nr (nrDs_and e).1) (ih (nrDs_and e).2 t)
mutual
noncomputable def rfD (n : Nat) : D → Bool
  | .tup xs => rfDs n xs
  | .lst xs => rfDs n xs
  | .scr xs => rfDs n xs
  | .ref i => decide (i < n)
  | _ => true
noncomputable def rfDs (n : Nat) : List D → Bool
  | [] => true
  | x :: r => rfD n x && rfDs n r
end
theorem RelD.rf {d : D} {v : V} (r : RelD ⟨K, π⟩ α H d v) : rfD α.length d = true :=
  RelD.rec (motive_1 := fun d _ _ => rfD α.length d = true) (motive_2 := fun ds _ _ => rfDs α.length ds = true) rfl (fun _ => rfl) (fun _ => rfl) (fun _ => rfl) (fun _ _ h => h) (fun _ _ h => h) (fun _ _ h => h) (fun h => decide_eq_true (List.getElem?_eq_some_iff.mp h).1) (fun _ _ _ => rfl) rfl (fun _ _ h t => Bool.and_eq_true_iff.mpr ⟨h, t⟩) r
theorem RelDs.rf {ds : List D} {vs : List V} (r : RelDs ⟨K, π⟩ α H ds vs) : rfDs α.length ds = true := by
  induction ds generalizing vs with
  | nil => rfl
  | cons d ds ih => cases r with | cons h t => exact Bool.and_eq_true_iff.mpr ⟨h.rf, ih t⟩
theorem RelD.old2 {d : D} {v : V} (e : rfD α.length d = true) (r : RelD ⟨K, π⟩ (α ++ β) H d v) : RelD ⟨K, π⟩ α H d v :=
  RelD.rec (motive_1 := fun d v _ => rfD α.length d = true → RelD ⟨K, π⟩ α H d v) (motive_2 := fun ds us _ => rfDs α.length ds = true → RelDs ⟨K, π⟩ α H ds us) (fun _ => .non) (fun b _ => .bl b) (fun i _ => .int i) (fun x _ => .str x) (fun t _ h e => .tup t.less (h e)) (fun t _ h e => .lst t.less (h e)) (fun t _ h e => .scr t.less (h e)) (fun h1 e => .ref (by rw [List.getElem?_append_left (of_decide_eq_true e)] at h1; exact h1)) (fun n t r _ => .exc n t.less (r.map fun _ _ z => z.less)) (fun _ => .nil) (fun _ _ h t e => .cons (h (Bool.and_eq_true_iff.mp e).1) (t (Bool.and_eq_true_iff.mp e).2)) r e
theorem RelDs.old2 {ds : List D} {vs : List V} (e : rfDs α.length ds = true) (r : RelDs ⟨K, π⟩ (α ++ β) H ds vs) : RelDs ⟨K, π⟩ α H ds vs := by
  induction ds generalizing vs with
  | nil => cases r; exact .nil
  | cons d ds ih => cases r with | cons h t => exact .cons (h.old2 (Bool.and_eq_true_iff.mp e).1) (ih (Bool.and_eq_true_iff.mp e).2 t)
theorem RelD.old {d : D} {v v0 : V} (r0 : RelD ⟨K, π⟩ α H d v0) (r : RelD ⟨K, π⟩ (α ++ β) H' d v) : RelD ⟨K, π⟩ α H' d v := r.old2 r0.rf
theorem RelDs.old {ds : List D} {vs vs0 : List V} (r0 : RelDs ⟨K, π⟩ α H ds vs0) (r : RelDs ⟨K, π⟩ (α ++ β) H' ds vs) : RelDs ⟨K, π⟩ α H' ds vs := r.old2 r0.rf
theorem RelKV.old {κ : Type} : ∀ {ds : List (κ × D)} {vs vs0 : List (κ × V)}, RelKV ⟨K, π⟩ α H ds vs0 → RelKV ⟨K, π⟩ (α ++ β) H' ds vs → RelKV ⟨K, π⟩ α H' ds vs
  | _, _, _, .nil, r => by cases r; exact .nil
  | _, _, _, .cons r0 t0, r => by cases r with | cons r t => exact .cons (RelD.old r0 r) (RelKV.old t0 t)
theorem RelKV.nr {κ : Type} : ∀ {ds : List (κ × D)} {vs : List (κ × V)}, nrDs (ds.map (·.2)) = true → RelKV ⟨K, π⟩ (α ++ β) H ds vs → RelKV ⟨K, π⟩ α H ds vs
  | _, _, _, .nil => .nil
  | _, _, e, .cons r t => by
    have e : (nrD _ && nrDs _) = true := e
    rw [Bool.and_eq_true] at e
    exact .cons (RelD.nr e.1 r) (RelKV.nr e.2 t)
theorem RelO'.nr {p : Addr} {o : O} (e : nrO o = true) (r : RelO' ⟨K, π⟩ (α ++ β) H p o) : RelO' ⟨K, π⟩ α H p o := by
  cases r with
  | lst h t => exact .lst h (t.nr e)
  | dT h t => exact .dT h (t.nr e)
  | dK h t => exact .dK h (t.nr e)
  | ins n h t => exact .ins n h (t.nr e)
theorem RelO'.old {p p0 : Addr} {o : O} (r0 : RelO' ⟨K, π⟩ α H p0 o) (r : RelO' ⟨K, π⟩ (α ++ β) H' p o) : RelO' ⟨K, π⟩ α H' p o := by
  cases r0 with
  | lst h0 t0 => cases r with | lst h t => exact .lst h (t0.old t)
  | dT h0 t0 => cases r with | dT h t => exact .dT h (t0.old t)
  | dK h0 t0 => cases r with | dK h t => exact .dK h (t0.old t)
  | ins n0 h0 t0 => cases r with | ins n h t => exact .ins n h (t0.old t)
mutual
theorem Vw.rel (R : HRel ⟨K, π⟩ (α ++ β) H h) {n : Nat} (hn : α.length = n) : ∀ {d e : D} {v : V}, Vw n h d e → RelD ⟨K, π⟩ (α ++ β) H d v → RelD ⟨K, π⟩ α H e v
  | _, _, _, .nr e, r => r.nr e
  | _, _, _, .old hi, r => by
    cases r with
    | ref hp => exact .ref (by rw [List.getElem?_append_left (by omega)] at hp; exact hp)
  | _, _, _, .opn hi e t, r => by
    cases r with
    | ref hp =>
    obtain ⟨us, e2, e3⟩ := refL R hp e
    have hm := List.mem_of_getElem? hp
    refine .lst ⟨fun z => ?_, fun z => (R.dis _ z).1 hm, e2⟩ (Vws.rel R hn t e3)
    obtain ⟨j, hj, ej⟩ := List.getElem_of_mem z
    subst ej
    have q : (α ++ β)[j]? = some α[j] := by rw [List.getElem?_append_left hj, List.getElem?_eq_getElem hj]
    have := (List.getElem?_inj (List.getElem?_eq_some_iff.mp hp).1 R.nd).mp (hp.trans q.symm)
    omega
  | _, _, _, .tup t, r => by
    cases r with
    | tup q r => exact .tup q.less (Vws.rel R hn t r)
  | _, _, _, .lst t, r => by
    cases r with
    | lst q r => exact .lst q.less (Vws.rel R hn t r)
theorem Vws.rel (R : HRel ⟨K, π⟩ (α ++ β) H h) {n : Nat} (hn : α.length = n) : ∀ {ds es : List D} {vs : List V}, Vws n h ds es → RelDs ⟨K, π⟩ (α ++ β) H ds vs → RelDs ⟨K, π⟩ α H es vs
  | _, _, _, .nil, .nil => .nil
  | _, _, _, .cons e t, .cons r s => .cons (Vw.rel R hn e r) (Vws.rel R hn t s)
end
end
noncomputable def Dr (h : Hh) (Q : DK) : DK := fun d h' => ∃ h2 g d', h' = h2 ++ g ∧ h2.length = h.length ∧ (∀ (i : Nat) (o : O), h2[i]? = some o → h[i]? = some o ∨ nrO o = true) ∧ Vw h.length h' d d' ∧ Q d' h2
theorem Dr.rel {K : PySem.W.Frag} {π α α' : List Addr} {H H' : Hp} {h h' : Hh} {Q : DK} {d : D} {v : V} (R : HRel ⟨K, π⟩ α H h) (e : Ext α H α' H') (R' : HRel ⟨K, π⟩ α' H' h') (r : RelD ⟨K, π⟩ α' H' d v) (q : Dr h Q d h') :
    ∃ d' h2, Q d' h2 ∧ Ext α H α H' ∧ HRel ⟨K, π⟩ α H' h2 ∧ RelD ⟨K, π⟩ α H' d' v := by
  obtain ⟨h2, g, d', rfl, hl, ho, vw, q⟩ := q
  obtain ⟨⟨β, rfl, hb⟩, ek, ed⟩ := e
  have hn := R.len
  refine ⟨d', h2, q, ⟨⟨[], by simp, fun p hp => nomatch hp⟩, ek, ed⟩, ⟨by omega, ?_, fun p hp => ?_, fun i o eo => ?_⟩, vw.rel R' hn r⟩
  · exact R.nd
  · exact ⟨fun z => (R'.dis p hp).1 (List.mem_append_left _ z), (R'.dis p hp).2⟩
  · have hi : i < h2.length := (List.getElem?_eq_some_iff.mp eo).1
    obtain ⟨p, ep, ro⟩ := R'.obj i o (by rw [List.getElem?_append_left hi]; exact eo)
    refine ⟨p, by rw [List.getElem?_append_left (by omega)] at ep; exact ep, ?_⟩
    rcases ho i o eo with z | z
    · obtain ⟨p0, _, r0⟩ := R.obj i o z
      exact r0.old ro
    · exact ro.nr z
theorem fn_okD {P : Program} {w : World} {K : PySem.W.Frag} {mg : Str → Option Value} {base : Heap} {x qual : Str} {st : Stmt} {f : Addr} {fd : FuncData} {N ps : List Str} {k : Nat} {b : DS} {g : DSp} (F : Fun K x qual st f fd) (S : FnScope N ps (defScope st))
    (hb : ∀ (cdv : Value) (A : Around) (outer : List Env) (s : Shared) (H : Hp) (E : XK), Room k (A.deeper (PyProof.Rows.envOfC qual (defScope st) s.heap.objs.size f cdv)) → SSs (cxOf CX0 P w K mg base N qual (defScope st) f cdv A outer s H E).nox (defBody st) b)
    (hg : ∀ ds h Q, g ds h Q → runD N.length b ds h (Dr h Q)) : FnOk P w K mg base CX0 (k + 1) f fd ps (spD K ps.length g) := by
  refine F.ok S (fun vs H Q E h => ?_) fun cdv A outer s H vs Q E hr h => ?_
  · obtain ⟨π, α, h, ds, Q', R, r, l, _⟩ := h
    rw [← r.length, l]
  · obtain ⟨π, α, h, ds, Q', R, r, l, q, kk⟩ := h
    refine ⟨_, hb cdv A outer s H E hr, π, α, _, h, { nx := fun _ h' => Dr h Q' .non h', rt := Dr h Q' }, R, relS_start r, hg ds h Q' q, ⟨fun _ h' α' H' σ' a b c _ => ?_, fun d h' α' H' v a b c d' => ?_, fun _ _ _ _ _ a _ _ _ => a.elim, fun _ _ _ _ _ a _ _ _ => a.elim, fun _ _ _ _ _ _ _ a _ _ _ => a.elim⟩⟩
    · obtain ⟨d', h2, q, e, R2, r2⟩ := a.rel R b c .non
      exact kk d' h2 α H' .non q e R2 r2
    · obtain ⟨d', h2, q, e, R2, r2⟩ := a.rel R b c d'
      exact kk d' h2 α H' v q e R2 r2
theorem nrDs_map {τ : Type} {g : τ → D} (hg : ∀ x, nrD (g x) = true) : ∀ xs : List τ, nrDs (xs.map g) = true
  | [] => rfl
  | x :: r => by
    show (nrD (g x) && nrDs (r.map g)) = true
    rw [hg x, nrDs_map hg r]; rfl
theorem Dr.same {h : Hh} {Q : DK} {d : D} (e : nrD d = true) (q : Q d h) : Dr h Q d h := ⟨h, [], d, by simp, rfl, fun _ _ e => .inl e, .nr e, q⟩
theorem Dr.drop {h g : Hh} {Q : DK} {d : D} (e : nrD d = true) (q : Q d h) : Dr h Q d (h ++ g) := ⟨h, g, d, rfl, rfl, fun _ _ e => .inl e, .nr e, q⟩
end DL
namespace DL
open PySem L2
theorem atN {α : Type} (xs : List α) (i : Nat) : atI xs (i : Int) = xs[i]? := by
  unfold atI ixN
  by_cases h : i < xs.length
  · rw [if_pos (by omega), if_pos (by omega)]; simp
  · rw [if_pos (by omega), if_neg (by omega)]
    simp; omega
theorem at1_0 {α : Type} (a : α) : atI [a] 0 = some a := rfl
theorem at2_0 {α : Type} (a b : α) : atI [a, b] 0 = some a := rfl
theorem at2_1 {α : Type} (a b : α) : atI [a, b] 1 = some b := rfl
theorem at3_0 {α : Type} (a b c : α) : atI [a, b, c] 0 = some a := rfl
theorem at3_1 {α : Type} (a b c : α) : atI [a, b, c] 1 = some b := rfl
theorem at3_2 {α : Type} (a b c : α) : atI [a, b, c] 2 = some c := rfl
theorem at4_0 {α : Type} (a b c d : α) : atI [a, b, c, d] 0 = some a := rfl
theorem at4_1 {α : Type} (a b c d : α) : atI [a, b, c, d] 1 = some b := rfl
theorem at4_2 {α : Type} (a b c d : α) : atI [a, b, c, d] 2 = some c := rfl
theorem at4_3 {α : Type} (a b c d : α) : atI [a, b, c, d] 3 = some d := rfl
theorem at5_0 {α : Type} (a b c d e : α) : atI [a, b, c, d, e] 0 = some a := rfl
theorem at5_1 {α : Type} (a b c d e : α) : atI [a, b, c, d, e] 1 = some b := rfl
theorem at5_2 {α : Type} (a b c d e : α) : atI [a, b, c, d, e] 2 = some c := rfl
theorem at5_3 {α : Type} (a b c d e : α) : atI [a, b, c, d, e] 3 = some d := rfl
theorem at5_4 {α : Type} (a b c d e : α) : atI [a, b, c, d, e] 4 = some e := rfl
theorem at6_0 {α : Type} (a b c d e f : α) : atI [a, b, c, d, e, f] 0 = some a := rfl
theorem at6_1 {α : Type} (a b c d e f : α) : atI [a, b, c, d, e, f] 1 = some b := rfl
theorem at6_2 {α : Type} (a b c d e f : α) : atI [a, b, c, d, e, f] 2 = some c := rfl
theorem at6_3 {α : Type} (a b c d e f : α) : atI [a, b, c, d, e, f] 3 = some d := rfl
theorem at6_4 {α : Type} (a b c d e f : α) : atI [a, b, c, d, e, f] 4 = some e := rfl
theorem at6_5 {α : Type} (a b c d e f : α) : atI [a, b, c, d, e, f] 5 = some f := rfl
theorem at7_0 {α : Type} (a b c d e f g : α) : atI [a, b, c, d, e, f, g] 0 = some a := rfl
theorem at7_1 {α : Type} (a b c d e f g : α) : atI [a, b, c, d, e, f, g] 1 = some b := rfl
theorem at7_2 {α : Type} (a b c d e f g : α) : atI [a, b, c, d, e, f, g] 2 = some c := rfl
theorem at7_3 {α : Type} (a b c d e f g : α) : atI [a, b, c, d, e, f, g] 3 = some d := rfl
theorem at7_4 {α : Type} (a b c d e f g : α) : atI [a, b, c, d, e, f, g] 4 = some e := rfl
theorem at7_5 {α : Type} (a b c d e f g : α) : atI [a, b, c, d, e, f, g] 5 = some f := rfl
theorem at7_6 {α : Type} (a b c d e f g : α) : atI [a, b, c, d, e, f, g] 6 = some g := rfl
theorem at8_0 {α : Type} (a b c d e f g i : α) : atI [a, b, c, d, e, f, g, i] 0 = some a := rfl
theorem at8_1 {α : Type} (a b c d e f g i : α) : atI [a, b, c, d, e, f, g, i] 1 = some b := rfl
theorem at8_2 {α : Type} (a b c d e f g i : α) : atI [a, b, c, d, e, f, g, i] 2 = some c := rfl
theorem at8_3 {α : Type} (a b c d e f g i : α) : atI [a, b, c, d, e, f, g, i] 3 = some d := rfl
theorem at8_4 {α : Type} (a b c d e f g i : α) : atI [a, b, c, d, e, f, g, i] 4 = some e := rfl
theorem at8_5 {α : Type} (a b c d e f g i : α) : atI [a, b, c, d, e, f, g, i] 5 = some f := rfl
theorem at8_6 {α : Type} (a b c d e f g i : α) : atI [a, b, c, d, e, f, g, i] 6 = some g := rfl
theorem at8_7 {α : Type} (a b c d e f g i : α) : atI [a, b, c, d, e, f, g, i] 7 = some i := rfl
theorem ix_ls {h : Hh} {d : D} {xs : List D} (e : lsOf h d = some xs) (k : Int) : ixD h d (.int k) = atI xs k := by
  cases d with
  | lst ys => cases e; rfl
  | scr ys => cases e; rfl
  | ref i =>
    have e : (match h[i]? with | some (.lst xs) => some xs | _ => none) = some xs := e
    show (match h[i]? with | some (.lst xs) => atI xs k | _ => none) = atI xs k
    cases q : h[i]? with
    | none => rw [q] at e; cases e
    | some o =>
      rw [q] at e
      cases o with
      | lst ys => cases e; rfl
      | _ => cases e
  | _ => cases e
theorem seq_ls {h : Hh} {d : D} {xs : List D} (e : lsOf h d = some xs) : seqOf h d = some xs := by
  cases d with
  | lst ys => exact e
  | scr ys => exact e
  | ref i => exact e
  | _ => cases e
theorem len_ls {h : Hh} {d : D} {xs : List D} (e : lsOf h d = some xs) : lenD h d = some xs.length := by
  have s := seq_ls e
  cases d with
  | lst ys => cases e; rfl
  | scr ys => cases e; rfl
  | ref i => show (seqOf h (.ref i)).map List.length = _; rw [s]; rfl
  | _ => cases e
theorem src_ls {h : Hh} {d : D} {xs : List D} (e : lsOf h d = some xs) : ∃ w, seqSrc h d = some ⟨xs, w⟩ ∧ (Src.mk xs w).ok h ∧ ∀ p ∈ w, ∃ i, d = .ref i ∧ p = (i, .lst xs) := by
  cases d with
  | lst ys => cases e; exact ⟨[], rfl, Src.ok_nil, fun p hp => nomatch hp⟩
  | scr ys => cases e; exact ⟨[], rfl, Src.ok_nil, fun p hp => nomatch hp⟩
  | ref i =>
    have e : (match h[i]? with | some (.lst xs) => some xs | _ => none) = some xs := e
    cases q : h[i]? with
    | none => rw [q] at e; cases e
    | some o =>
      rw [q] at e
      cases o with
      | lst ys =>
        cases e
        refine ⟨[(i, .lst xs)], ?_, fun p hp => ?_, fun p hp => ⟨i, rfl, List.mem_singleton.mp hp⟩⟩
        · show (match h[i]? with | some (.lst xs) => some (Src.mk xs [(i, .lst xs)]) | _ => none) = _
          rw [q]
        · rw [List.mem_singleton.mp hp]; exact q
      | _ => cases e
  | _ => cases e
noncomputable def Pre (h h' : Hh) : Prop := ∀ (i : Nat) (o : O), h[i]? = some o → h'[i]? = some o
theorem Pre.refl (h : Hh) : Pre h h := fun _ _ e => e
theorem Pre.trans {a b c : Hh} (x : Pre a b) (y : Pre b c) : Pre a c := fun i o e => y i o (x i o e)
theorem Pre.app (h g : Hh) : Pre h (h ++ g) := fun i o e => by
  rw [List.getElem?_append_left (List.getElem?_eq_some_iff.mp e).1]; exact e
theorem Pre.ls {h h' : Hh} (p : Pre h h') {d : D} {xs : List D} (e : lsOf h d = some xs) : lsOf h' d = some xs := by
  cases d with
  | ref i =>
    have e : (match h[i]? with | some (.lst xs) => some xs | _ => none) = some xs := e
    show (match h'[i]? with | some (.lst xs) => some xs | _ => none) = some xs
    cases q : h[i]? with
    | none => rw [q] at e; cases e
    | some o => rw [q] at e; rw [p i o q]; exact e
  | _ => exact e
theorem ls_new (h : Hh) (xs : List D) : lsOf (h ++ [.lst xs]) (.ref h.length) = some xs := by
  show (match (h ++ [O.lst xs])[h.length]? with | some (.lst xs) => some xs | _ => none) = some xs
  rw [List.getElem?_append_right (Nat.le_refl _)]; simp
theorem get_new (h : Hh) (o : O) : (h ++ [o])[h.length]? = some o := by
  rw [List.getElem?_append_right (Nat.le_refl _)]; simp
theorem set_new (h : Hh) (o u : O) : (h ++ [o]).set h.length u = h ++ [u] := by
  rw [List.set_append_right _ _ (Nat.le_refl _)]; simp
theorem forL_map {τ : Type} {S : Src} {t : DG} {b : DS} {E : DEnds} (P : List τ → Sl → Hh → Prop) {g : τ → D} {ys : List τ} {δ : Sl} {h : Hh} (h0 : P [] δ h) (ok : ∀ p δ h, P p δ h → S.ok h)
    (hs : ∀ (p : List τ) (y : τ) (r : List τ) (δ : Sl) (h : Hh) (N : Sl → Hh → Prop), ys = p ++ y :: r → P p δ h → (∀ δ h, P (p ++ [y]) δ h → N δ h) → t (g y) δ h fun δ2 h2 => b { E with nx := N, ct := N, bk := E.nx } δ2 h2)
    (hd : ∀ δ h, P ys δ h → E.nx δ h) : forL S t b E (ys.map g) δ h := by
  have go : ∀ (r p : List τ) δ h, ys = p ++ r → P p δ h → forL S t b E (r.map g) δ h := by
    intro r
    induction r with
    | nil => intro p δ h e q; rw [List.append_nil] at e; subst e; exact ⟨ok _ _ _ q, hd _ _ q⟩
    | cons y r ih =>
      intro p δ h e q
      exact ⟨ok _ _ _ q, hs p y r δ h _ e q fun δ3 h3 p3 => ih (p ++ [y]) δ3 h3 (by rw [e]; simp) p3⟩
  exact go ys [] δ h rfl h0
theorem compL_map {τ : Type} {S : Src} {t : DG} {tf : DT} {te : DE} (P : List τ → List D → Sl → Hh → Prop) {g : τ → D} {ys : List τ} {δ : Sl} {h : Hh} {Q : List D → Hh → Prop} (h0 : P [] [] δ h) (ok : ∀ p a δ h, P p a δ h → S.ok h)
    (hs : ∀ (p : List τ) (y : τ) (r : List τ) (acc : List D) (δ : Sl) (h : Hh) (N : List D → Sl → Hh → Prop), ys = p ++ y :: r → P p acc δ h → (∀ a δ h, P (p ++ [y]) a δ h → N a δ h) →
      t (g y) δ h fun δ2 h2 => tf δ2 h2 fun b h3 => if b = true then te δ2 h3 fun z h4 => N (acc ++ [z]) δ2 h4 else N acc δ2 h3)
    (hd : ∀ a δ h, P ys a δ h → Q a h) : compL S t tf te (ys.map g) [] δ h Q := by
  have go : ∀ (r p : List τ) a δ h, ys = p ++ r → P p a δ h → compL S t tf te (r.map g) a δ h Q := by
    intro r
    induction r with
    | nil => intro p a δ h e q; rw [List.append_nil] at e; subst e; exact ⟨ok _ _ _ _ q, hd _ _ _ q⟩
    | cons y r ih =>
      intro p a δ h e q
      exact ⟨ok _ _ _ _ q, hs p y r a δ h (fun a δ h => compL S t tf te (r.map g) a δ h Q) e q fun a3 δ3 h3 p3 => ih (p ++ [y]) a3 δ3 h3 (by rw [e]; simp) p3⟩
  exact go ys [] [] δ h rfl h0
theorem comp1 {τ : Type} {S : Src} {tf : DT} {te : DE} {g : τ → D} {ys : List τ} {h : Hh} {fr : Sl} {Q : List D → Hh → Prop} (c : τ → Bool) (v : τ → D) (ok : S.ok h) (o : Option D)
    (htf : ∀ y ∈ ys, ∀ K : Bool → Hh → Prop, K (c y) h → tf (some (g y) :: fr) h K) (hte : ∀ y ∈ ys, c y = true → ∀ K : DK, K (v y) h → te (some (g y) :: fr) h K)
    (hd : Q ((ys.filter c).map v) h) : compL S (dName 0) tf te (ys.map g) [] (o :: fr) h Q := by
  refine compL_map (fun p a δ h' => h' = h ∧ (∃ o, δ = o :: fr) ∧ a = (p.filter c).map v) ⟨rfl, ⟨o, rfl⟩, rfl⟩ (fun p a δ h' q => by rw [q.1]; exact ok) ?_ ?_
  · rintro p y r acc δ h' N e ⟨rfl, ⟨o, rfl⟩, rfl⟩ hN
    have hy : y ∈ ys := by rw [e]; simp
    refine htf y hy _ ?_
    cases hc : c y with
    | true =>
      refine iteT (hte y hy hc _ (hN _ _ _ ⟨rfl, ⟨_, rfl⟩, ?_⟩))
      simp [List.filter_append, hc]
    | false =>
      refine iteF (hN _ _ _ ⟨rfl, ⟨_, rfl⟩, ?_⟩)
      simp [List.filter_append, hc]
  · rintro a δ h' ⟨rfl, _, rfl⟩
    exact hd
theorem rangeD_map (lo : Int) : ∀ n : Nat, rangeD lo n = (List.range n).map fun i => D.int (lo + (i : Nat)) := by
  intro n
  apply List.ext_getElem?
  intro i
  rw [rangeD_get]
  by_cases h : i < n <;> simp [h]
theorem enumD_map {τ : Type} (lo : Int) (g : τ → D) (ys : List τ) : enumD lo (ys.map g) = ys.zipIdx.map fun p => .tup [.int (lo + (p.2 : Nat)), g p.1] := by
  apply List.ext_getElem?
  intro i
  rw [enumD_get]
  simp [List.getElem?_zipIdx]
  cases ys[i]? <;> simp
theorem isN_non : isNon .non = true := rfl
theorem isN_bl (b : Bool) : isNon (.bl b) = false := rfl
theorem isN_int (b : Int) : isNon (.int b) = false := rfl
theorem isN_str (b : Str) : isNon (.str b) = false := rfl
theorem isN_tup (b : List D) : isNon (.tup b) = false := rfl
theorem isN_lst (b : List D) : isNon (.lst b) = false := rfl
theorem isN_ref (b : Nat) : isNon (.ref b) = false := rfl
theorem lsOf_lst (h : Hh) (xs : List D) : lsOf h (.lst xs) = some xs := rfl
theorem seqOf_lst (h : Hh) (xs : List D) : seqOf h (.lst xs) = some xs := rfl
theorem seqSrc_lst (h : Hh) (xs : List D) : seqSrc h (.lst xs) = some ⟨xs, []⟩ := rfl
theorem lenD_lst (h : Hh) (xs : List D) : lenD h (.lst xs) = some xs.length := rfl
theorem ixD_lst (h : Hh) (xs : List D) (i : Int) : ixD h (.lst xs) (.int i) = atI xs i := rfl
theorem trD_lst (h : Hh) (xs : List D) : trD h (.lst xs) = some (!xs.isEmpty) := rfl
theorem lsOf_scr (h : Hh) (xs : List D) : lsOf h (.scr xs) = some xs := rfl
theorem seqOf_scr (h : Hh) (xs : List D) : seqOf h (.scr xs) = some xs := rfl
theorem seqSrc_scr (h : Hh) (xs : List D) : seqSrc h (.scr xs) = some ⟨xs, []⟩ := rfl
theorem lenD_scr (h : Hh) (xs : List D) : lenD h (.scr xs) = some xs.length := rfl
theorem ixD_scr (h : Hh) (xs : List D) (i : Int) : ixD h (.scr xs) (.int i) = atI xs i := rfl
theorem trD_scr (h : Hh) (xs : List D) : trD h (.scr xs) = some (!xs.isEmpty) := rfl
theorem lsP_lst (h : Hh) (xs : List D) : lsP h (.lst xs) = some xs := rfl
theorem lsP_tup (h : Hh) (xs : List D) : lsP h (.tup xs) = none := rfl
theorem lsP_int (h : Hh) (x : Int) : lsP h (.int x) = none := rfl
theorem lsP_str (h : Hh) (x : Str) : lsP h (.str x) = none := rfl
theorem seqOf_tup (h : Hh) (xs : List D) : seqOf h (.tup xs) = some xs := rfl
theorem seqSrc_tup (h : Hh) (xs : List D) : seqSrc h (.tup xs) = some ⟨xs, []⟩ := rfl
theorem lenD_tup (h : Hh) (xs : List D) : lenD h (.tup xs) = some xs.length := rfl
theorem ixD_tup (h : Hh) (xs : List D) (i : Int) : ixD h (.tup xs) (.int i) = atI xs i := rfl
theorem trD_tup (h : Hh) (xs : List D) : trD h (.tup xs) = some (!xs.isEmpty) := rfl
theorem trD_non (h : Hh) : trD h .non = some false := rfl
theorem trD_bl (h : Hh) (b : Bool) : trD h (.bl b) = some b := rfl
theorem trD_int (h : Hh) (i : Int) : trD h (.int i) = some (i != 0) := rfl
theorem kindD_non (h : Hh)  : kindD h (.non) = some "NoneType" := rfl
theorem kindD_bl (h : Hh) (x : Bool) : kindD h (.bl x) = some "bool" := rfl
theorem kindD_int (h : Hh) (x : Int) : kindD h (.int x) = some "int" := rfl
theorem kindD_str (h : Hh) (x : Str) : kindD h (.str x) = some "str" := rfl
theorem kindD_tup (h : Hh) (x : List D) : kindD h (.tup x) = some "tuple" := rfl
theorem kindD_lst (h : Hh) (x : List D) : kindD h (.lst x) = some "list" := rfl
theorem isK_NoneType_bool : isKind "NoneType" "bool" = false := rfl
theorem isK_NoneType_int : isKind "NoneType" "int" = false := rfl
theorem isK_NoneType_str : isKind "NoneType" "str" = false := rfl
theorem isK_NoneType_tuple : isKind "NoneType" "tuple" = false := rfl
theorem isK_NoneType_list : isKind "NoneType" "list" = false := rfl
theorem isK_NoneType_dict : isKind "NoneType" "dict" = false := rfl
theorem isK_bool_bool : isKind "bool" "bool" = true := rfl
theorem isK_bool_int : isKind "bool" "int" = true := rfl
theorem isK_bool_str : isKind "bool" "str" = false := rfl
theorem isK_bool_tuple : isKind "bool" "tuple" = false := rfl
theorem isK_bool_list : isKind "bool" "list" = false := rfl
theorem isK_bool_dict : isKind "bool" "dict" = false := rfl
theorem isK_int_bool : isKind "int" "bool" = false := rfl
theorem isK_int_int : isKind "int" "int" = true := rfl
theorem isK_int_str : isKind "int" "str" = false := rfl
theorem isK_int_tuple : isKind "int" "tuple" = false := rfl
theorem isK_int_list : isKind "int" "list" = false := rfl
theorem isK_int_dict : isKind "int" "dict" = false := rfl
theorem isK_str_bool : isKind "str" "bool" = false := rfl
theorem isK_str_int : isKind "str" "int" = false := rfl
theorem isK_str_str : isKind "str" "str" = true := rfl
theorem isK_str_tuple : isKind "str" "tuple" = false := rfl
theorem isK_str_list : isKind "str" "list" = false := rfl
theorem isK_str_dict : isKind "str" "dict" = false := rfl
theorem isK_tuple_bool : isKind "tuple" "bool" = false := rfl
theorem isK_tuple_int : isKind "tuple" "int" = false := rfl
theorem isK_tuple_str : isKind "tuple" "str" = false := rfl
theorem isK_tuple_tuple : isKind "tuple" "tuple" = true := rfl
theorem isK_tuple_list : isKind "tuple" "list" = false := rfl
theorem isK_tuple_dict : isKind "tuple" "dict" = false := rfl
theorem isK_list_bool : isKind "list" "bool" = false := rfl
theorem isK_list_int : isKind "list" "int" = false := rfl
theorem isK_list_str : isKind "list" "str" = false := rfl
theorem isK_list_tuple : isKind "list" "tuple" = false := rfl
theorem isK_list_list : isKind "list" "list" = true := rfl
theorem isK_list_dict : isKind "list" "dict" = false := rfl
theorem isK_dict_bool : isKind "dict" "bool" = false := rfl
theorem isK_dict_int : isKind "dict" "int" = false := rfl
theorem isK_dict_str : isKind "dict" "str" = false := rfl
theorem isK_dict_tuple : isKind "dict" "tuple" = false := rfl
theorem isK_dict_list : isKind "dict" "list" = false := rfl
theorem isK_dict_dict : isKind "dict" "dict" = true := rfl
theorem seqSrc_ref {h : Hh} {i : Nat} {xs : List D} (e : h[i]? = some (.lst xs)) : seqSrc h (.ref i) = some ⟨xs, [(i, .lst xs)]⟩ := by show (match h[i]? with | some (.lst xs) => some (Src.mk xs [(i, .lst xs)]) | _ => none) = _; rw [e]
theorem ixN_0 (n : Nat) : ixN (n + 1) 0 = some 0 := by unfold ixN; rw [if_pos (by decide), if_pos (by omega)]; rfl
theorem ixN_10 : ixN 1 0 = some 0 := rfl
theorem ixN_nat {n i : Nat} (h : i < n) : ixN n (i : Int) = some i := by unfold ixN; rw [if_pos (by omega), if_pos (by omega)]; simp
theorem seq_intro {f g : DS} {E : DEnds} {δ : Sl} {h : Hh} (k : ∀ N : Sl → Hh → Prop, N = g E → f { E with nx := N } δ h) : dSeq f g E δ h := k _ rfl
theorem mulS {i j : Int} (h : -(2 ^ 64) < i ∧ i < 2 ^ 64) : IntMulOk i j := .of_left (intBits_le_64 h.1 h.2)
end DL
namespace CM
open PySem L2 DL
theorem sk_step : PyData.strOk (Str.ofString "step") = true := by decide +kernel
theorem sq_step_step : ((Str.ofString "step") == (Str.ofString "step")) = true := by decide +kernel
theorem sq_step_call : ((Str.ofString "step") == (Str.ofString "call")) = false := by decide +kernel
theorem sq_step_in : ((Str.ofString "step") == (Str.ofString "in")) = false := by decide +kernel
theorem sq_step_over : ((Str.ofString "step") == (Str.ofString "over")) = false := by decide +kernel
theorem sq_step_begin : ((Str.ofString "step") == (Str.ofString "begin")) = false := by decide +kernel
theorem sq_step_start : ((Str.ofString "step") == (Str.ofString "start")) = false := by decide +kernel
theorem sq_step_short : ((Str.ofString "step") == (Str.ofString "short")) = false := by decide +kernel
theorem sq_step_along : ((Str.ofString "step") == (Str.ofString "along")) = false := by decide +kernel
theorem sq_step_within : ((Str.ofString "step") == (Str.ofString "within")) = false := by decide +kernel
theorem sq_step_at : ((Str.ofString "step") == (Str.ofString "at")) = false := by decide +kernel
theorem sq_step_out : ((Str.ofString "step") == (Str.ofString "out")) = false := by decide +kernel
theorem sk_call : PyData.strOk (Str.ofString "call") = true := by decide +kernel
theorem sq_call_step : ((Str.ofString "call") == (Str.ofString "step")) = false := by decide +kernel
theorem sq_call_call : ((Str.ofString "call") == (Str.ofString "call")) = true := by decide +kernel
theorem sq_call_in : ((Str.ofString "call") == (Str.ofString "in")) = false := by decide +kernel
theorem sq_call_over : ((Str.ofString "call") == (Str.ofString "over")) = false := by decide +kernel
theorem sq_call_begin : ((Str.ofString "call") == (Str.ofString "begin")) = false := by decide +kernel
theorem sq_call_start : ((Str.ofString "call") == (Str.ofString "start")) = false := by decide +kernel
theorem sq_call_short : ((Str.ofString "call") == (Str.ofString "short")) = false := by decide +kernel
theorem sq_call_along : ((Str.ofString "call") == (Str.ofString "along")) = false := by decide +kernel
theorem sq_call_within : ((Str.ofString "call") == (Str.ofString "within")) = false := by decide +kernel
theorem sq_call_at : ((Str.ofString "call") == (Str.ofString "at")) = false := by decide +kernel
theorem sq_call_out : ((Str.ofString "call") == (Str.ofString "out")) = false := by decide +kernel
theorem sk_in : PyData.strOk (Str.ofString "in") = true := by decide +kernel
theorem sq_in_step : ((Str.ofString "in") == (Str.ofString "step")) = false := by decide +kernel
theorem sq_in_call : ((Str.ofString "in") == (Str.ofString "call")) = false := by decide +kernel
theorem sq_in_in : ((Str.ofString "in") == (Str.ofString "in")) = true := by decide +kernel
theorem sq_in_over : ((Str.ofString "in") == (Str.ofString "over")) = false := by decide +kernel
theorem sq_in_begin : ((Str.ofString "in") == (Str.ofString "begin")) = false := by decide +kernel
theorem sq_in_start : ((Str.ofString "in") == (Str.ofString "start")) = false := by decide +kernel
theorem sq_in_short : ((Str.ofString "in") == (Str.ofString "short")) = false := by decide +kernel
theorem sq_in_along : ((Str.ofString "in") == (Str.ofString "along")) = false := by decide +kernel
theorem sq_in_within : ((Str.ofString "in") == (Str.ofString "within")) = false := by decide +kernel
theorem sq_in_at : ((Str.ofString "in") == (Str.ofString "at")) = false := by decide +kernel
theorem sq_in_out : ((Str.ofString "in") == (Str.ofString "out")) = false := by decide +kernel
theorem sk_over : PyData.strOk (Str.ofString "over") = true := by decide +kernel
theorem sq_over_step : ((Str.ofString "over") == (Str.ofString "step")) = false := by decide +kernel
theorem sq_over_call : ((Str.ofString "over") == (Str.ofString "call")) = false := by decide +kernel
theorem sq_over_in : ((Str.ofString "over") == (Str.ofString "in")) = false := by decide +kernel
theorem sq_over_over : ((Str.ofString "over") == (Str.ofString "over")) = true := by decide +kernel
theorem sq_over_begin : ((Str.ofString "over") == (Str.ofString "begin")) = false := by decide +kernel
theorem sq_over_start : ((Str.ofString "over") == (Str.ofString "start")) = false := by decide +kernel
theorem sq_over_short : ((Str.ofString "over") == (Str.ofString "short")) = false := by decide +kernel
theorem sq_over_along : ((Str.ofString "over") == (Str.ofString "along")) = false := by decide +kernel
theorem sq_over_within : ((Str.ofString "over") == (Str.ofString "within")) = false := by decide +kernel
theorem sq_over_at : ((Str.ofString "over") == (Str.ofString "at")) = false := by decide +kernel
theorem sq_over_out : ((Str.ofString "over") == (Str.ofString "out")) = false := by decide +kernel
theorem sk_begin : PyData.strOk (Str.ofString "begin") = true := by decide +kernel
theorem sq_begin_step : ((Str.ofString "begin") == (Str.ofString "step")) = false := by decide +kernel
theorem sq_begin_call : ((Str.ofString "begin") == (Str.ofString "call")) = false := by decide +kernel
theorem sq_begin_in : ((Str.ofString "begin") == (Str.ofString "in")) = false := by decide +kernel
theorem sq_begin_over : ((Str.ofString "begin") == (Str.ofString "over")) = false := by decide +kernel
theorem sq_begin_begin : ((Str.ofString "begin") == (Str.ofString "begin")) = true := by decide +kernel
theorem sq_begin_start : ((Str.ofString "begin") == (Str.ofString "start")) = false := by decide +kernel
theorem sq_begin_short : ((Str.ofString "begin") == (Str.ofString "short")) = false := by decide +kernel
theorem sq_begin_along : ((Str.ofString "begin") == (Str.ofString "along")) = false := by decide +kernel
theorem sq_begin_within : ((Str.ofString "begin") == (Str.ofString "within")) = false := by decide +kernel
theorem sq_begin_at : ((Str.ofString "begin") == (Str.ofString "at")) = false := by decide +kernel
theorem sq_begin_out : ((Str.ofString "begin") == (Str.ofString "out")) = false := by decide +kernel
theorem sk_start : PyData.strOk (Str.ofString "start") = true := by decide +kernel
theorem sq_start_step : ((Str.ofString "start") == (Str.ofString "step")) = false := by decide +kernel
theorem sq_start_call : ((Str.ofString "start") == (Str.ofString "call")) = false := by decide +kernel
theorem sq_start_in : ((Str.ofString "start") == (Str.ofString "in")) = false := by decide +kernel
theorem sq_start_over : ((Str.ofString "start") == (Str.ofString "over")) = false := by decide +kernel
theorem sq_start_begin : ((Str.ofString "start") == (Str.ofString "begin")) = false := by decide +kernel
theorem sq_start_start : ((Str.ofString "start") == (Str.ofString "start")) = true := by decide +kernel
theorem sq_start_short : ((Str.ofString "start") == (Str.ofString "short")) = false := by decide +kernel
theorem sq_start_along : ((Str.ofString "start") == (Str.ofString "along")) = false := by decide +kernel
theorem sq_start_within : ((Str.ofString "start") == (Str.ofString "within")) = false := by decide +kernel
theorem sq_start_at : ((Str.ofString "start") == (Str.ofString "at")) = false := by decide +kernel
theorem sq_start_out : ((Str.ofString "start") == (Str.ofString "out")) = false := by decide +kernel
theorem sk_short : PyData.strOk (Str.ofString "short") = true := by decide +kernel
theorem sq_short_step : ((Str.ofString "short") == (Str.ofString "step")) = false := by decide +kernel
theorem sq_short_call : ((Str.ofString "short") == (Str.ofString "call")) = false := by decide +kernel
theorem sq_short_in : ((Str.ofString "short") == (Str.ofString "in")) = false := by decide +kernel
theorem sq_short_over : ((Str.ofString "short") == (Str.ofString "over")) = false := by decide +kernel
theorem sq_short_begin : ((Str.ofString "short") == (Str.ofString "begin")) = false := by decide +kernel
theorem sq_short_start : ((Str.ofString "short") == (Str.ofString "start")) = false := by decide +kernel
theorem sq_short_short : ((Str.ofString "short") == (Str.ofString "short")) = true := by decide +kernel
theorem sq_short_along : ((Str.ofString "short") == (Str.ofString "along")) = false := by decide +kernel
theorem sq_short_within : ((Str.ofString "short") == (Str.ofString "within")) = false := by decide +kernel
theorem sq_short_at : ((Str.ofString "short") == (Str.ofString "at")) = false := by decide +kernel
theorem sq_short_out : ((Str.ofString "short") == (Str.ofString "out")) = false := by decide +kernel
theorem sk_along : PyData.strOk (Str.ofString "along") = true := by decide +kernel
theorem sq_along_step : ((Str.ofString "along") == (Str.ofString "step")) = false := by decide +kernel
theorem sq_along_call : ((Str.ofString "along") == (Str.ofString "call")) = false := by decide +kernel
theorem sq_along_in : ((Str.ofString "along") == (Str.ofString "in")) = false := by decide +kernel
theorem sq_along_over : ((Str.ofString "along") == (Str.ofString "over")) = false := by decide +kernel
theorem sq_along_begin : ((Str.ofString "along") == (Str.ofString "begin")) = false := by decide +kernel
theorem sq_along_start : ((Str.ofString "along") == (Str.ofString "start")) = false := by decide +kernel
theorem sq_along_short : ((Str.ofString "along") == (Str.ofString "short")) = false := by decide +kernel
theorem sq_along_along : ((Str.ofString "along") == (Str.ofString "along")) = true := by decide +kernel
theorem sq_along_within : ((Str.ofString "along") == (Str.ofString "within")) = false := by decide +kernel
theorem sq_along_at : ((Str.ofString "along") == (Str.ofString "at")) = false := by decide +kernel
theorem sq_along_out : ((Str.ofString "along") == (Str.ofString "out")) = false := by decide +kernel
theorem sk_within : PyData.strOk (Str.ofString "within") = true := by decide +kernel
theorem sq_within_step : ((Str.ofString "within") == (Str.ofString "step")) = false := by decide +kernel
theorem sq_within_call : ((Str.ofString "within") == (Str.ofString "call")) = false := by decide +kernel
theorem sq_within_in : ((Str.ofString "within") == (Str.ofString "in")) = false := by decide +kernel
theorem sq_within_over : ((Str.ofString "within") == (Str.ofString "over")) = false := by decide +kernel
theorem sq_within_begin : ((Str.ofString "within") == (Str.ofString "begin")) = false := by decide +kernel
theorem sq_within_start : ((Str.ofString "within") == (Str.ofString "start")) = false := by decide +kernel
theorem sq_within_short : ((Str.ofString "within") == (Str.ofString "short")) = false := by decide +kernel
theorem sq_within_along : ((Str.ofString "within") == (Str.ofString "along")) = false := by decide +kernel
theorem sq_within_within : ((Str.ofString "within") == (Str.ofString "within")) = true := by decide +kernel
theorem sq_within_at : ((Str.ofString "within") == (Str.ofString "at")) = false := by decide +kernel
theorem sq_within_out : ((Str.ofString "within") == (Str.ofString "out")) = false := by decide +kernel
theorem sk_at : PyData.strOk (Str.ofString "at") = true := by decide +kernel
theorem sq_at_step : ((Str.ofString "at") == (Str.ofString "step")) = false := by decide +kernel
theorem sq_at_call : ((Str.ofString "at") == (Str.ofString "call")) = false := by decide +kernel
theorem sq_at_in : ((Str.ofString "at") == (Str.ofString "in")) = false := by decide +kernel
theorem sq_at_over : ((Str.ofString "at") == (Str.ofString "over")) = false := by decide +kernel
theorem sq_at_begin : ((Str.ofString "at") == (Str.ofString "begin")) = false := by decide +kernel
theorem sq_at_start : ((Str.ofString "at") == (Str.ofString "start")) = false := by decide +kernel
theorem sq_at_short : ((Str.ofString "at") == (Str.ofString "short")) = false := by decide +kernel
theorem sq_at_along : ((Str.ofString "at") == (Str.ofString "along")) = false := by decide +kernel
theorem sq_at_within : ((Str.ofString "at") == (Str.ofString "within")) = false := by decide +kernel
theorem sq_at_at : ((Str.ofString "at") == (Str.ofString "at")) = true := by decide +kernel
theorem sq_at_out : ((Str.ofString "at") == (Str.ofString "out")) = false := by decide +kernel
theorem sk_out : PyData.strOk (Str.ofString "out") = true := by decide +kernel
theorem sq_out_step : ((Str.ofString "out") == (Str.ofString "step")) = false := by decide +kernel
theorem sq_out_call : ((Str.ofString "out") == (Str.ofString "call")) = false := by decide +kernel
theorem sq_out_in : ((Str.ofString "out") == (Str.ofString "in")) = false := by decide +kernel
theorem sq_out_over : ((Str.ofString "out") == (Str.ofString "over")) = false := by decide +kernel
theorem sq_out_begin : ((Str.ofString "out") == (Str.ofString "begin")) = false := by decide +kernel
theorem sq_out_start : ((Str.ofString "out") == (Str.ofString "start")) = false := by decide +kernel
theorem sq_out_short : ((Str.ofString "out") == (Str.ofString "short")) = false := by decide +kernel
theorem sq_out_along : ((Str.ofString "out") == (Str.ofString "along")) = false := by decide +kernel
theorem sq_out_within : ((Str.ofString "out") == (Str.ofString "within")) = false := by decide +kernel
theorem sq_out_at : ((Str.ofString "out") == (Str.ofString "at")) = false := by decide +kernel
theorem sq_out_out : ((Str.ofString "out") == (Str.ofString "out")) = true := by decide +kernel
end CM
namespace CM
open PySem L2 DL
inductive Kind where
  | step (t : List Nat) | call (g : Nat) (into back over : List Nat)
structure Edge where
  p : Nat
  q : Nat
  cost : Nat
  k : Kind
structure Fn where
  places : Nat
  facts : Nat
  edges : List Edge
noncomputable abbrev Chart := List Fn
inductive Mv where | step | over | inn
  deriving DecidableEq
noncomputable abbrev nD (n : Nat) : D := .int (n : Int)
noncomputable def tD (t : List Nat) : D := .tup (t.map nD)
noncomputable def eD (e : Edge) : D := match e.k with
  | .step t => .tup [.str "step", nD e.p, nD e.q, nD e.cost, tD t]
  | .call g i b o => .tup [.str "call", nD e.p, nD e.q, nD e.cost, nD g, tD i, tD b, tD o]
noncomputable def Edge.isStep (e : Edge) : Bool := match e.k with | .step _ => true | .call _ _ _ _ => false
noncomputable def tOk (t : List Nat) (n m : Nat) : Prop := t.length = n ∧ ∀ x ∈ t, x < 2 ^ m
noncomputable def eOk (C : Chart) (F : Fn) (e : Edge) : Prop := e.p < F.places ∧ e.q < F.places ∧ 1 ≤ e.cost ∧ e.cost ≤ 10 ^ 18 ∧ match e.k with
  | .step t => tOk t F.facts F.facts
  | .call g i b o => ∃ G, C[g]? = some G ∧ tOk i F.facts G.facts ∧ tOk b G.facts F.facts ∧ tOk o F.facts F.facts
structure WF (C : Chart) : Prop where
  one : 1 ≤ C.length
  six : C.length ≤ 6
  fn : ∀ (f : Nat) (F : Fn), C[f]? = some F → 1 ≤ F.places ∧ F.places ≤ 10 ∧ 1 ≤ F.facts ∧ F.facts ≤ 6 ∧ F.edges.length ≤ 100 ∧ ∀ e ∈ F.edges, eOk C F e
noncomputable def ChD (h : Hh) (d : D) (C : Chart) : Prop := ∃ fs, lsOf h d = some fs ∧ fs.length = C.length ∧ ∀ (i : Nat) (F : Fn), C[i]? = some F → ∃ e, fs[i]? = some (.tup [nD F.places, nD F.facts, e]) ∧ lsOf h e = some (F.edges.map eD)
theorem ChD.mono {h h' : Hh} {d : D} {C : Chart} (p : Pre h h') (c : ChD h d C) : ChD h' d C := by
  obtain ⟨fs, h1, h2, h3⟩ := c
  exact ⟨fs, p.ls h1, h2, fun i F e => let ⟨x, a, b⟩ := h3 i F e; ⟨x, a, p.ls b⟩⟩
theorem ChD.len {h : Hh} {d : D} {C : Chart} (c : ChD h d C) : lenD h d = some C.length := by
  obtain ⟨fs, h1, h2, h3⟩ := c
  rw [len_ls h1, h2]
theorem band1 (x : Nat) : Builtin.bitAnd (x : Int) 1 = ((x % 2 : Nat) : Int) := by
  unfold Builtin.bitAnd
  rw [decide_eq_true (show (0 : Int) ≤ (x : Int) by omega), decide_eq_true (show (0 : Int) ≤ 1 by decide)]
  show (((x : Int).toNat &&& (1 : Int).toNat : Nat) : Int) = _
  have e1 : ((x : Int).toNat) = x := by omega
  have e2 : ((1 : Int).toNat) = 1 := rfl
  rw [e1, e2, Nat.and_one_is_mod]
theorem shr_nat (m d : Nat) : (m : Int) / 2 ^ d = ((m / 2 ^ d : Nat) : Int) := by
  have e : (2 : Int) ^ d = ((2 ^ d : Nat) : Int) := by simp
  rw [e]; exact (Int.natCast_ediv m (2 ^ d)).symm
theorem bitI (m d : Nat) : Builtin.bitAnd ((m : Int) / 2 ^ d) 1 = if m.testBit d then 1 else 0 := by
  rw [shr_nat, band1, Nat.testBit_eq_decide_div_mod_eq]
  have := Nat.mod_two_eq_zero_or_one (m / 2 ^ d)
  rcases this with h | h <;> simp [h]
theorem bitT (m d : Nat) : (Builtin.bitAnd ((m : Int) / 2 ^ d) 1 != 0) = m.testBit d := by
  rw [bitI]; cases m.testBit d <;> rfl
theorem bor_nat (a b : Nat) : Builtin.bitOr (a : Int) (b : Int) = ((a ||| b : Nat) : Int) := by
  unfold Builtin.bitOr Builtin.bitAnd Builtin.bitNot
  rw [decide_eq_false (show ¬ (0 : Int) ≤ -(a : Int) - 1 by omega), decide_eq_false (show ¬ (0 : Int) ≤ -(b : Int) - 1 by omega)]
  dsimp only
  rw [show (-(-(a : Int) - 1) - 1).toNat = a by omega, show (-(-(b : Int) - 1) - 1).toNat = b by omega]
  omega
theorem shl1 (k : Nat) : (1 : Int) * 2 ^ ((k : Nat) : Int).toNat = ((2 ^ k : Nat) : Int) := by
  rw [Int.one_mul, Int.toNat_natCast]; simp
theorem nrD_tD (t : List Nat) : nrD (tD t) = true := nrDs_map (fun _ => rfl) t
noncomputable def factsN (m : Nat) : List Nat := (List.range (Builtin.Int.intBits (m : Int))).filter fun d => m.testBit d
theorem bits_lt {m n : Nat} (h : m < 2 ^ n) : Builtin.Int.intBits (m : Int) ≤ n := intBits_le_iff.mpr (by simpa using h)
theorem bit_hi {m e : Nat} (h : Builtin.Int.intBits (m : Int) ≤ e) : m.testBit e = false := by
  have := intBits_le_iff.mp h
  exact Nat.testBit_lt_two_pow (by simpa using this)
theorem mem_facts {m e : Nat} : e ∈ factsN m ↔ m.testBit e = true := by
  unfold factsN
  rw [List.mem_filter, List.mem_range]
  refine ⟨fun q => q.2, fun q => ⟨?_, q⟩⟩
  rcases Nat.lt_or_ge e (Builtin.Int.intBits (m : Int)) with x | x
  · exact x
  · rw [bit_hi x] at q; cases q
noncomputable def br (t : List Nat) (d : Nat) (e : Int) : Bool := decide (0 ≤ e) && (t.getD d 0).testBit e.toNat
noncomputable def edgeAt (C : Chart) (f : Nat) (n : Int) : Option Edge := if 0 ≤ n then (C[f]?).bind fun F => F.edges[n.toNat]? else none
noncomputable def Edge.tab (e : Edge) (w : Mv) : List Nat := match w, e.k with
  | .step, .step t => t
  | .inn, .call _ i _ _ => i
  | .over, .call _ _ _ o => o
  | _, _ => []
noncomputable def takes (C : Chart) (f p d : Nat) (w : Mv) (n e : Int) : Option Edge := (edgeAt C f n).bind fun E => if (E.isStep == (w == .step)) = true ∧ E.p = p ∧ br (E.tab w) d e = true then some E else none
end CM
namespace CM
open PySem L2 DL
noncomputable def Pd (h : Hh) (d : D) (p : PyData) (n : Nat) : Prop := IsP h d p ∧ p.canLay0 = true ∧ p.depth ≤ n
noncomputable def Pds (h : Hh) (ds : List D) (ps : List PyData) (n : Nat) : Prop := IsPs h ds ps ∧ PyData.canLayAll0 ps = true ∧ PyData.depthAll ps ≤ n
theorem Pd.int {h : Hh} {n : Nat} (i : Int) : Pd h (.int i) (.int i) n := ⟨.int i, rfl, Nat.zero_le _⟩
theorem Pds.nil {h : Hh} {n : Nat} : Pds h [] [] n := ⟨.nil, rfl, Nat.zero_le _⟩
theorem Pds.cons {h : Hh} {n : Nat} {d : D} {p : PyData} {ds : List D} {ps : List PyData} (a : Pd h d p n) (b : Pds h ds ps n) : Pds h (d :: ds) (p :: ps) n :=
  ⟨.cons a.1 b.1, by show (p.canLay0 && PyData.canLayAll0 ps) = true; rw [a.2.1, b.2.1]; rfl, by show max p.depth (PyData.depthAll ps) ≤ n; exact Nat.max_le.mpr ⟨a.2.2, b.2.2⟩⟩
theorem Pd.tup {h : Hh} {n : Nat} {ds : List D} {ps : List PyData} (a : Pds h ds ps n) : Pd h (.tup ds) (.tuple ps) (n + 1) := ⟨.tup a.1, a.2.1, Nat.succ_le_succ a.2.2⟩
theorem Pd.lst {h : Hh} {n : Nat} {ds : List D} {ps : List PyData} (a : Pds h ds ps n) : Pd h (.lst ds) (.list ps) (n + 1) := ⟨.lst a.1, a.2.1, Nat.succ_le_succ a.2.2⟩
theorem Pd.ref {h : Hh} {n i : Nat} {ds : List D} {ps : List PyData} (e : h[i]? = some (.lst ds)) (a : Pds h ds ps n) : Pd h (.ref i) (.list ps) (n + 1) := ⟨.ref e a.1, a.2.1, Nat.succ_le_succ a.2.2⟩
theorem Pds.map {τ : Type} {h : Hh} {n : Nat} {f : τ → D} {g : τ → PyData} : ∀ {xs : List τ}, (∀ x, Pd h (f x) (g x) n) → Pds h (xs.map f) (xs.map g) n
  | [], _ => .nil
  | x :: xs, k => .cons (k x) (Pds.map k)
theorem Pd.shaped {h : Hh} {n : Nat} {d : D} {p : PyData} (a : Pd h d p n) (e : n ≤ 64) : SeqAt.shaped p = true := by
  unfold SeqAt.shaped
  rw [a.2.1, decide_eq_true (Nat.le_trans a.2.2 e)]; rfl
theorem pEq_same {neg : Bool} {x y : D} {h : Hh} {Q : DK} {p : PyData} {n : Nat} (e : eqS x y = none) (a : Pd h x p n) (b : Pd h y p n) (hn : n ≤ 64) (q : Q (.bl (!neg)) h) : pEq neg x y h Q := by
  unfold pEq
  rw [e]
  refine ⟨p, p, a.1, b.1, a.shaped hn, b.shaped hn, ?_⟩
  rw [SeqAt.eqv_refl p a.2.1]
  cases neg <;> exact q
noncomputable def tP (t : List Nat) : PyData := .tuple (t.map fun x : Nat => .int (x : Int))
theorem pd_t (h : Hh) (t : List Nat) : Pd h (tD t) (tP t) 1 := Pd.tup (n := 0) (Pds.map fun x => .int _)
end CM
namespace CM
open PySem L2 DL
inductive Mo where
  | go (w : Mv) (k e : Nat) | out (e : Nat)
structure Spot where
  f : Nat
  p : Nat
  d : Nat
  cost : Nat
  op : List (Nat × Nat)
noncomputable def stOk (C : Chart) : Nat → List (Nat × Nat) → Prop
  | _, [] => True
  | f, x :: r => ∃ G E i b o, C[x.1]? = some G ∧ G.edges[x.2]? = some E ∧ E.k = .call f i b o ∧ stOk C x.1 r
noncomputable def sOk (C : Chart) (s : Spot) : Prop := ∃ F, C[s.f]? = some F ∧ s.p < F.places ∧ s.d < F.facts ∧ stOk C s.f s.op
inductive Nx (C : Chart) : Spot → Mo → Spot → Prop
  | go {s : Spot} {w : Mv} {k e : Nat} {E : Edge} : w ≠ .inn → takes C s.f s.p s.d w (k : Int) (e : Int) = some E → Nx C s (.go w k e) ⟨s.f, E.q, e, s.cost + E.cost, s.op⟩
  | inn {s : Spot} {k e : Nat} {E : Edge} {g : Nat} {i b o : List Nat} : takes C s.f s.p s.d .inn (k : Int) (e : Int) = some E → E.k = .call g i b o → Nx C s (.go .inn k e) ⟨g, 0, e, s.cost + E.cost, (s.f, k) :: s.op⟩
  | out {s : Spot} {x : Nat × Nat} {r : List (Nat × Nat)} {e : Nat} {F G : Fn} {E : Edge} {g : Nat} {i b o : List Nat} : s.op = x :: r → C[s.f]? = some F → s.p + 1 = F.places → C[x.1]? = some G → G.edges[x.2]? = some E → E.k = .call g i b o → br b s.d (e : Int) = true → Nx C s (.out e) ⟨x.1, E.q, e, s.cost, r⟩
structure Way (C : Chart) (fact : Nat) (ms : List Mo) (ss : List Spot) : Prop where
  len : ss.length = ms.length + 1
  one : ss[0]? = some ⟨0, 0, fact, 0, []⟩
  ok : ∀ s ∈ ss, sOk C s
  nx : ∀ (i : Nat) (m : Mo) (s s' : Spot), ms[i]? = some m → ss[i]? = some s → ss[i + 1]? = some s' → Nx C s m s'
theorem Way.nil {C : Chart} {fact : Nat} {F : Fn} (wf : WF C) (hF : C[0]? = some F) (hd : fact < F.facts) : Way C fact [] [⟨0, 0, fact, 0, []⟩] :=
  ⟨rfl, rfl, fun s hs => by rw [List.mem_singleton.mp hs]; exact ⟨F, hF, (wf.fn 0 F hF).1, hd, trivial⟩, fun i m s s' h => by simp at h⟩
theorem Nx.len {C : Chart} {s s' : Spot} {m : Mo} (n : Nx C s m s') : s'.op.length ≤ s.op.length + 1 := by
  cases n with
  | go => exact Nat.le_succ _
  | inn => exact Nat.le_refl _
  | out h => rw [h]; show _ ≤ (_ :: _).length + 1; simp; omega
theorem src_pre {h : Hh} {d : D} {xs : List D} (e : lsOf h d = some xs) : ∃ w, (∀ h', Pre h h' → seqSrc h' d = some ⟨xs, w⟩) ∧ ∀ ys h', Pre h h' → (Src.mk ys w).ok h' := by
  obtain ⟨w, e1, e2, e3⟩ := src_ls e
  refine ⟨w, fun h' p => ?_, fun ys h' p z hz => p _ _ (e2 z hz)⟩
  obtain ⟨w', e4, e5, e6⟩ := src_ls (p.ls e)
  rw [e4]
  cases d with
  | lst ys => cases e1; cases e4; rfl
  | scr ys => cases e1; cases e4; rfl
  | ref i =>
    have e : (match h[i]? with | some (.lst xs) => some xs | _ => none) = some xs := e
    cases q : h[i]? with
    | none => rw [q] at e; cases e
    | some o =>
      cases o with
      | lst ys =>
        rw [q] at e; cases e
        rw [seqSrc_ref q] at e1
        rw [seqSrc_ref (p _ _ q)] at e4
        cases e1; cases e4; rfl
      | dT _ => rw [q] at e; cases e
      | dK _ => rw [q] at e; cases e
      | ins _ _ => rw [q] at e; cases e
  | non => cases e
  | bl _ => cases e
  | int _ => cases e
  | str _ => cases e
  | tup _ => cases e
  | exc _ _ => cases e
end CM
namespace CM
open PySem L2 DL
theorem orAdd : ∀ (x : _root_.Fin 64) (f : _root_.Fin 6), x.val.testBit f.val = false → 2 ^ f.val + x.val = 2 ^ f.val ||| x.val := by decide +kernel
noncomputable def msum (l : List Nat) : Nat := (l.map (2 ^ ·)).sum
theorem msum_bits : ∀ (l : List Nat), l.Nodup → (∀ f ∈ l, f < 6) → msum l < 64 ∧ ∀ e, (msum l).testBit e = true ↔ e ∈ l
  | [], _, _ => by simp [msum]
  | f :: r, hn, hl => by
    obtain ⟨h1, h2⟩ := List.nodup_cons.mp hn
    obtain ⟨lt, ih⟩ := msum_bits r h2 fun g hg => hl g (by simp [hg])
    have hf := hl f (by simp)
    have hb : (msum r).testBit f = false := by
      cases h : (msum r).testBit f with
      | false => rfl
      | true => exact absurd ((ih f).mp h) h1
    have e : msum (f :: r) = 2 ^ f ||| msum r := by
      show 2 ^ f + msum r = _
      exact orAdd ⟨msum r, lt⟩ ⟨f, hf⟩ hb
    have h6 : 2 ^ f < 2 ^ 6 := Nat.pow_lt_pow_right (by decide) hf
    refine ⟨by rw [e]; exact Nat.or_lt_two_pow (n := 6) h6 lt, fun g => ?_⟩
    rw [e, Nat.testBit_or, Nat.testBit_two_pow, Bool.or_eq_true, decide_eq_true_eq, ih, List.mem_cons, eq_comm]
noncomputable def tb (ts : List Nat) (d e : Nat) : Bool := (ts.getD d 0).testBit e
theorem tab_eq {a b : List Nat} (hl : a.length = b.length) (h : ∀ d, d < a.length → ∀ e, (tb a d e = true ↔ tb b d e = true)) : a = b := by
  apply List.ext_getElem hl
  intro i h1 h2
  apply Nat.eq_of_testBit_eq
  intro e
  have q := h i h1 e
  unfold tb at q
  rw [List.getD_eq_getElem?_getD, List.getD_eq_getElem?_getD, List.getElem?_eq_getElem h1, List.getElem?_eq_getElem h2] at q
  rw [Bool.eq_iff_iff]; exact q
theorem filt {p : Nat → Bool} {to : Nat} (h : to ≤ 6) : ((List.range to).filter p).Nodup ∧ ∀ f ∈ (List.range to).filter p, f < 6 :=
  ⟨List.Nodup.sublist List.filter_sublist List.nodup_range, fun f hf => by have := List.mem_range.mp (List.mem_filter.mp hf).1; omega⟩
noncomputable def pqD (x : Nat × Nat) : D := .tup [nD x.1, nD x.2]
noncomputable def prs (ts : List Nat) : List (Nat × Nat) := ts.zipIdx.flatMap fun x => (factsN x.1).map fun e => (x.2, e)
theorem mem_prs {ts : List Nat} {d e : Nat} : (d, e) ∈ prs ts ↔ d < ts.length ∧ tb ts d e = true := by
  unfold prs
  rw [List.mem_flatMap]
  constructor
  · rintro ⟨⟨m, i⟩, h1, h2⟩
    obtain ⟨e', h3, h4⟩ := List.mem_map.mp h2
    cases h4
    have h5 : ts[i]? = some m := List.mk_mem_zipIdx_iff_getElem?.mp h1
    refine ⟨(List.getElem?_eq_some_iff.mp h5).1, ?_⟩
    unfold tb
    rw [List.getD_eq_getElem?_getD, h5]
    exact mem_facts.mp h3
  · rintro ⟨h1, h2⟩
    refine ⟨(ts[d], d), List.mk_mem_zipIdx_iff_getElem?.mpr (List.getElem?_eq_getElem h1), ?_⟩
    unfold tb at h2
    rw [List.getD_eq_getElem?_getD, List.getElem?_eq_getElem h1] at h2
    exact List.mem_map.mpr ⟨e, mem_facts.mpr h2, rfl⟩
noncomputable def put (ms : List Nat) (p : Nat × Nat) : List Nat := ms.set p.1 (ms.getD p.1 0 ||| 2 ^ p.2)
noncomputable def gath (n : Nat) (ps : List (Nat × Nat)) : List Nat := ps.foldl put (List.replicate n 0)
theorem put_len (ms : List Nat) (p : Nat × Nat) : (put ms p).length = ms.length := by unfold put; simp
theorem fold_len : ∀ (ps : List (Nat × Nat)) (ms : List Nat), (ps.foldl put ms).length = ms.length
  | [], _ => rfl
  | p :: r, ms => by rw [List.foldl_cons, fold_len r, put_len]
theorem gath_len (n : Nat) (ps : List (Nat × Nat)) : (gath n ps).length = n := by unfold gath; rw [fold_len, List.length_replicate]
theorem gath_snoc (n : Nat) (ps : List (Nat × Nat)) (p : Nat × Nat) : gath n (ps ++ [p]) = put (gath n ps) p := by unfold gath; rw [List.foldl_append]; rfl
theorem getD_set (ms : List Nat) (i j v : Nat) (hi : i < ms.length) : (ms.set i v).getD j 0 = if i = j then v else ms.getD j 0 := by
  rw [List.getD_eq_getElem?_getD, List.getElem?_set, List.getD_eq_getElem?_getD]
  by_cases h : i = j
  · subst h; simp [hi]
  · simp [h]
theorem fold_bit (d e : Nat) : ∀ (ps : List (Nat × Nat)) (ms : List Nat), (∀ p ∈ ps, p.1 < ms.length) →
    (((ps.foldl put ms).getD d 0).testBit e = true ↔ (ms.getD d 0).testBit e = true ∨ (d, e) ∈ ps)
  | [], ms, _ => by simp
  | p :: r, ms, hp => by
    obtain ⟨x, y⟩ := p
    rw [List.foldl_cons, fold_bit d e r _ (fun q hq => by rw [put_len]; exact hp q (by simp [hq])), List.mem_cons]
    have hx : x < ms.length := hp (x, y) (by simp)
    have key : ((put ms (x, y)).getD d 0).testBit e = true ↔ (ms.getD d 0).testBit e = true ∨ (d, e) = (x, y) := by
      show ((ms.set x (ms.getD x 0 ||| 2 ^ y)).getD d 0).testBit e = true ↔ _
      rw [getD_set _ _ _ _ hx]
      by_cases q : x = d
      · subst q
        rw [if_pos rfl, Nat.testBit_or, Nat.testBit_two_pow, Bool.or_eq_true, decide_eq_true_eq]
        constructor
        · rintro (h | h)
          · exact .inl h
          · subst h; exact .inr rfl
        · rintro (h | h)
          · exact .inl h
          · injection h with _ h; exact .inr h.symm
      · rw [if_neg q]
        constructor
        · exact .inl
        · rintro (h | h)
          · exact h
          · injection h with h _; exact absurd h.symm q
    rw [key, or_assoc]
theorem gath_bit {n : Nat} {ps : List (Nat × Nat)} (h : ∀ p ∈ ps, p.1 < n) (d e : Nat) : tb (gath n ps) d e = true ↔ (d, e) ∈ ps := by
  unfold tb gath
  rw [fold_bit d e ps _ (fun p hp => by rw [List.length_replicate]; exact h p hp)]
  have z : ((List.replicate n 0).getD d 0).testBit e = false := by
    rw [List.getD_eq_getElem?_getD, List.getElem?_replicate]
    split <;> simp
  rw [z]; simp
end CM
namespace CM
open PySem L2 DL
section
variable {C : Chart} {s s' : Spot} {w : Mv} {n e : Int} {F G : Fn} {E E' : Edge} {x : Nat × Nat} {r : List (Nat × Nat)}
end
section
variable {C : Chart} {s : Spot} {F : Fn} {E : Edge} {n : Nat} {l : List (Mo × Spot)}
section
variable {x : Nat × Nat} {r : List (Nat × Nat)} {G : Fn} {ep eq ec g : Nat} {i b o : List Nat}
end
end
end CM
namespace L2
open PySem PySem.Spec PyProof.Rows
structure Exc (h : Heap) (a : Addr) (cls : Value) (dx : Option Addr) (T : Option Addr) (fl : Value) : Prop where
  ob : ∃ o vs, h.get? a = some o ∧ o.cls = cls ∧ o.dict = dx ∧ o.data = .fields vs ∧ vs[1]? = some (T.elim .none .ref)
  tb : ∀ t, T = some t → t ≠ a ∧ ∃ o ts, h.get? t = some o ∧ o.data = .fields ts ∧ ts[3]? = some fl
structure Chg (fs : List Addr) (a : Addr) (T : Option Addr) (h h' : Heap) : Prop where
  keep : ∀ b o, h.get? b = some o → b ∉ fs → b ≠ a → T ≠ some b → h'.get? b = some o
  slot : ∀ b o, h.get? b = some o → b ≠ a → T ≠ some b → ∃ sl, h'.get? b = some { o with slots := sl }
  there : ∀ b o, h.get? b = some o → ∃ o', h'.get? b = some o'
section
variable {M : Model} {A : Around} {E : Value → Shared → Prop} {s : Shared} {env : Env} {outer : List Env} {L a : Addr} {cls : Value} {dx T : Option Addr} {fl : Value} {base : Heap}
theorem note_entry {head : Value} {hadNext : Bool} {oe : Obj} {vs : Array Value} {Q : Unit → Shared → Prop} (hfr : A.frames = some (env :: outer)) (hl : s.heap.FunFrames base (env :: outer)) (hf : env.frame = some L)
    (he : s.heap.get? a = some oe) (hd : oe.data = .fields vs) (hsz : 1 < vs.size)
    (h : ∀ h' t, Chg (frs (env :: outer)) a none s.heap h' → s.heap.objs.size ≤ t → Exc h' a oe.cls oe.dict (some t) (rawInt L) → Q () { s with heap := h' }) :
    wpAny M A (do let a' ← frameOf env; let pl ← entryPlaceOf L hadNext; let b ← EntryCells.newEntry head a' .none (rawInt L) .none pl; setField (.ref a) 1 b) Q E s := by
  have hene : a ∉ (env :: outer).filterMap (·.frame) := fun hm => by
    obtain ⟨_, o, ho, hnf⟩ := hl.mem hm
    rw [he] at ho; injection ho with ho; subst ho; exact hnf vs hd
  refine wpAny_bind (wpAny_frameOf_fun hfr hl hf fun h₁ hs₁ => ?_)
  refine wpAny_bind (wpAny_entryPlaceOf fun pl hpl => ?_)
  unfold EntryCells.newEntry newFields
  refine wpAny_bind (wpAny_newObj_type ?_ (hpl.sizeOk5 _ _ _ _ _))
  have he₁ : h₁.get? a = some oe := (hs₁.2.1 a hene).trans he
  have he₂ := Heap.get?_push_of_some (h := h₁) { cls := .type "traceback", dict := none, data := .fields ([head, .ref L, .none, rawInt L, .none] ++ (if pl.isEmpty then List.replicate 6 Value.none else pl)).toArray } he₁
  refine wpAny_setField he₂ hd hsz (h _ h₁.objs.size ⟨?_, ?_, ?_⟩ (by rw [hs₁.1]; exact Nat.le_refl _) ?_)
  · intro b o hb hnf hba _
    rw [Heap.get?_update_other _ _ (Ne.symm hba)]
    exact Heap.get?_push_of_some _ ((hs₁.2.1 b hnf).trans hb)
  · intro b o hb hba _
    obtain ⟨sl, hs⟩ := hs₁.2.2 b o hb
    exact ⟨sl, by rw [Heap.get?_update_other _ _ (Ne.symm hba)]; exact Heap.get?_push_of_some _ hs⟩
  · intro b o hb
    obtain ⟨sl, hs⟩ := hs₁.2.2 b o hb
    by_cases hba : b = a
    · subst hba
      exact ⟨_, Heap.get?_update_self _ he₂ (Obj.isFreed_of_fields (Obj.data_mapFields hd _))⟩
    · exact ⟨_, by rw [Heap.get?_update_other _ _ (Ne.symm hba)]; exact Heap.get?_push_of_some _ hs⟩
  · have hTe : h₁.objs.size ≠ a := Nat.ne_of_gt (Heap.lt_size he₁)
    have hd₃ := Obj.data_mapFields hd (·.setIfInBounds 1 (Value.ref h₁.objs.size))
    refine ⟨⟨_, _, Heap.get?_update_self _ he₂ (Obj.isFreed_of_fields hd₃), Obj.cls_mapFields _ _, ?_, hd₃, by simp [hsz]⟩, fun t ht => ?_⟩
    · obtain ⟨c, d, dt, sl⟩ := oe
      cases hd; rfl
    · cases ht
      refine ⟨hTe, _, _, (Heap.get?_update_other _ _ (Ne.symm hTe)).trans (Heap.get?_push_size h₁ rfl), rfl, ?_⟩
      first | (simp; done) | (rcases hpl with rfl | ⟨_, _, _, _, _, _, _, rfl⟩ <;> simp)
theorem note_ok {Q : Unit → Shared → Prop} (hfr : A.frames = some (env :: outer)) (hl : s.heap.FunFrames base (env :: outer)) (hf : env.frame = some L) (x : Exc s.heap a cls dx T fl) (hfl : fl = .none ∨ fl = rawInt L)
    (h : ∀ h' t, Chg (frs (env :: outer)) a T s.heap h' → (T = some t ∨ s.heap.objs.size ≤ t) → Exc h' a cls dx (some t) (rawInt L) → Q () { s with heap := h' }) : wpAny M A (noteFrame (.ref a) env) Q E s := by
  obtain ⟨⟨oe, vs, he, rfl, rfl, hd, h1⟩, tb⟩ := id x
  unfold noteFrame
  simp only [hf]
  refine wpAny_bind (wpAny_field he hd h1 ?_)
  cases T with
  | none =>
    rw [if_neg (by simp)]
    exact note_entry hfr hl hf he hd (Array.getElem?_eq_some_iff.mp h1).1 fun h' t c n e => h h' t c (.inr n) e
  | some t =>
    obtain ⟨hte, oT, ts, hT, hdT, h3⟩ := tb t rfl
    show wpAny M A (if (Value.ref t != Value.none) = true then _ else _) Q E s
    rw [if_pos (show (Value.ref t != Value.none) = true from by simp)]
    refine wpAny_bind (wpAny_field hT hdT h3 ?_)
    rcases hfl with rfl | rfl
    · rw [if_neg (show ¬ ((Value.none == rawInt L) = true) from by simp [rawInt])]
      refine wpAny_bind (wpAny_setField hT hdT (Array.getElem?_eq_some_iff.mp h3).1 ?_)
      have other : ∀ b, b ≠ t → (s.heap.update t (Obj.mapFields (·.setIfInBounds 3 Value.none))).get? b = s.heap.get? b := fun b hb => Heap.get?_update_other _ _ (Ne.symm hb)
      have noRecord : ∀ b o, s.heap.get? b = some o → (∀ vs, o.data ≠ .fields vs) → b ≠ t := fun b o hb hnf q => by
        rw [q, hT] at hb; injection hb with hb; subst hb; exact hnf ts hdT
      have ht' := Heap.get?_update_self (Obj.mapFields (·.setIfInBounds 3 Value.none)) hT (Obj.isFreed_of_fields (Obj.data_mapFields hdT _))
      refine note_entry (hfr := hfr) (hl := hl.of_keeps fun b o hb hnf => ⟨o, (other b (noRecord b o hb hnf)).trans hb, rfl⟩) (hf := hf) (he := (other a (Ne.symm hte)).trans he) (hd := hd) (hsz := (Array.getElem?_eq_some_iff.mp h1).1)
        fun h' t' c n e => h h' t' ⟨fun b o hb hnf hba hbt => ?_, fun b o hb hba hbt => ?_, fun b o hb => ?_⟩ (.inr ?_) e
      · exact c.keep b o ((other b fun q => hbt (by rw [q])).trans hb) hnf hba (by simp)
      · exact c.slot b o ((other b fun q => hbt (by rw [q])).trans hb) hba (by simp)
      · by_cases q : b = t
        · subst q; exact c.there _ _ ht'
        · exact c.there b o ((other b q).trans hb)
      · have n : (s.heap.update t (Obj.mapFields (·.setIfInBounds 3 Value.none))).objs.size ≤ t' := n
        rw [Heap.size_after_update] at n; exact n
    · rw [if_pos (show (rawInt L == rawInt L) = true from by simp)]
      exact wpAny_pure (h _ t ⟨fun b o hb _ _ _ => hb, fun b o hb _ _ => ⟨o.slots, hb⟩, fun b o hb => ⟨o, hb⟩⟩ (.inl rfl) x)
theorem flight_ok {t : Addr} {fr : Option Addr} {Q : Unit → Shared → Prop} (x : Exc s.heap a cls dx (some t) fl)
    (h : ∀ h', (∀ b o, h' = h' → s.heap.get? b = some o → b ≠ t → h'.get? b = some o) → (∀ b o, s.heap.get? b = some o → ∃ o', h'.get? b = some o') → Exc h' a cls dx (some t) (fr.elim .none fun f => rawInt f) → Q () { s with heap := h' }) :
    wpAny M A (setFlight (.ref a) fr) Q E s := by
  obtain ⟨⟨oe, vs, he, rfl, rfl, hd, h1⟩, tb⟩ := x
  obtain ⟨hte, oT, ts, hT, hdT, h3⟩ := tb t rfl
  have hsz := (Array.getElem?_eq_some_iff.mp h3).1
  unfold setFlight
  refine wpAny_bind (wpAny_field he hd h1 ?_)
  show wpAny M A (if (Value.ref t != Value.none) = true then _ else _) Q E s
  rw [if_pos (show (Value.ref t != Value.none) = true from by simp)]
  have ht' := Heap.get?_update_self (Obj.mapFields (·.setIfInBounds 3 (fr.elim .none fun f => rawInt f))) hT (Obj.isFreed_of_fields (Obj.data_mapFields hdT _))
  have other : ∀ b, b ≠ t → (s.heap.update t (Obj.mapFields (·.setIfInBounds 3 (fr.elim .none fun f => rawInt f)))).get? b = s.heap.get? b := fun b hb => Heap.get?_update_other _ _ (Ne.symm hb)
  refine wpAny_setField hT hdT hsz (h _ (fun b o _ hb hbt => (other b hbt).trans hb) (fun b o hb => ?_) ⟨⟨oe, vs, (other a (Ne.symm hte)).trans he, rfl, rfl, hd, h1⟩, fun t' ht => ?_⟩)
  · by_cases q : b = t
    · subst q; exact ⟨_, ht'⟩
    · exact ⟨o, (other b q).trans hb⟩
  · cases ht
    exact ⟨hte, _, _, ht', Obj.data_mapFields hdT _, by simp [hsz]⟩
end
end L2
namespace L2
open PySem PySem.Spec PyProof.Rows
noncomputable def Away (X : Cx) (pins : List (Addr × Obj)) (b : Addr) : Prop :=
  X.s₀.heap.objs.size ≤ b ∧ b ≠ X.env.locals ∧ (∀ x c, X.env.cells.lookup x = some c → c ≠ b) ∧ ∀ p ∈ X.pn ++ pins, p.1 ≠ b
section
variable {X : Cx} {pins : List (Addr × Obj)} {σ : St} {H H' : Hp} {s s' : Shared} {h' : Heap} {a : Addr} {cls : Value} {dx T : Option Addr} {fl : Value}
theorem Inv.away (I : Inv X pins σ H s) {b : Addr} (hb : s.heap.objs.size ≤ b) : Away X pins b := by
  refine ⟨Nat.le_trans I.sz hb, fun z => ?_, fun x c e z => ?_, fun p hp z => ?_⟩
  · obtain ⟨m, ⟨o, es, ep, ho, r⟩, _⟩ := I.loc
    have := Heap.lt_size ho
    rw [← z] at this; exact absurd (Nat.lt_of_lt_of_le this hb) (Nat.lt_irrefl _)
  · obtain ⟨v, o, ho, _⟩ := I.cell x c e
    have := Heap.lt_size ho
    rw [z] at this; exact absurd (Nat.lt_of_lt_of_le this hb) (Nat.lt_irrefl _)
  · obtain ⟨e, _⟩ := I.pin p hp
    have := Heap.lt_size e
    rw [z] at this; exact absurd (Nat.lt_of_lt_of_le this hb) (Nat.lt_irrefl _)
theorem Inv.unpin (I : Inv X pins σ H s) : Inv X [] σ H s := I.pins_of fun p hp => nomatch hp
theorem Away.unpin {b : Addr} (w : Away X pins b) : Away X [] b := ⟨w.1, w.2.1, w.2.2.1, fun p hp => w.2.2.2 p (by simp at hp; exact List.mem_append_left _ hp)⟩
theorem Inv.chg (I : Inv X pins σ H s) (c : Chg (frs X.stack) a T s.heap h') (ha : H a = none) (hT : ∀ t, T = some t → H t = none) (wa : Away X pins a) (wT : ∀ t, T = some t → Away X pins t) :
    Inv X pins σ H { s with heap := h' } := by
  have nt : ∀ b u, H b = some u → b ∉ frs X.stack ∧ b ≠ a ∧ T ≠ some b := fun b u e => ⟨fun z => (by rw [I.stkFree b z] at e; cases e), fun z => (by rw [z, ha] at e; cases e), fun z => (by rw [hT b z] at e; cases e)⟩
  have hm : ∀ b, b ∉ (a :: T.toList) → b ≠ a ∧ T ≠ some b := fun b hb => ⟨fun z => hb (by simp [z]), fun z => hb (by simp [z])⟩
  refine I.call' (s' := { s with heap := h' }) (ch := a :: T.toList) rfl ⟨fun b o e n hf hc => c.keep b o e hf (hm b hc).1 (hm b hc).2, fun b o e n hf hc => c.slot b o e (hm b hc).1 (hm b hc).2, fun b o e n hc => n, fun b o e hc => c.there b o e, fun _ _ e => e, fun _ _ _ e => e, fun b ps e => ⟨#[], by rw [e]; simp⟩⟩ (fun b u e => ?_) I.bare fun b hb => ?_
  · refine (I.hok b u e).stay (fun c' v hc q => ?_) (fun _ q => q) fun _ _ q => q
    have : ∃ u', H c' = some u' := by
      rcases hc with z | z
      · rw [z]; exact ⟨u, e⟩
      · exact ⟨_, z⟩
    obtain ⟨u', e'⟩ := this
    obtain ⟨n1, n2, n3⟩ := nt c' u' e'
    exact c.keep c' v q n1 n2 n3
  · have w : Away X pins b := by
      rcases List.mem_cons.mp hb with z | z
      · rw [z]; exact wa
      · exact wT b (by simpa using z)
    exact ⟨.inr w.1, w.2⟩
noncomputable def XF (X : Cx) (E : XK) (e : Value) (s' : Shared) : Prop := ∃ a cls dx T fl σ H, e = .ref a ∧ Inv X [] σ H s' ∧ Exc s'.heap a cls dx T fl ∧ Away X [] a ∧ H a = none ∧ (∀ t, T = some t → Away X [] t ∧ H t = none) ∧
  (fl = .none ∨ fl = rawInt X.env.locals) ∧ E cls dx H
noncomputable def CXE (P : Program) (w : World) : CXT := fun outer H s E e s' => ∃ a cls dx t H', e = .ref a ∧ s'.os = s.os ∧ AllBare s'.gens ∧ Un (frs outer) [] H H' s.heap s'.heap ∧ HOk P w H' s'.heap ∧
  Exc s'.heap a cls dx (some t) .none ∧ s.heap.objs.size ≤ a ∧ H' a = none ∧ s.heap.objs.size ≤ t ∧ H' t = none ∧ E cls dx H'
theorem flight_chg {h h' : Heap} {fs : List Addr} {t : Addr} (k : ∀ b o, h.get? b = some o → b ≠ t → h'.get? b = some o) (th : ∀ b o, h.get? b = some o → ∃ o', h'.get? b = some o') : Chg fs a (some t) h h' :=
  ⟨fun b o e _ _ n => k b o e fun z => n (by rw [z]), fun b o e _ n => ⟨o.slots, k b o e fun z => n (by rw [z])⟩, th⟩
theorem XF.noted {E : XK} {e : Value} {M : Model} {E2 : Value → Shared → Prop} {fr : Option Addr} {Q : Unit → Shared → Prop} (hst : X.stack = X.env :: X.outer ∧ X.env.frame = some X.env.locals) (x : XF X E e s)
    (k : ∀ h' a cls dx t σ H, e = .ref a → Inv X [] σ H { s with heap := h' } → Exc h' a cls dx (some t) (fr.elim .none fun f => rawInt f) → Away X [] a → H a = none → Away X [] t → H t = none → E cls dx H → Q () { s with heap := h' }) :
    wpAny M X.A (noteFrame e X.env) (fun _ s1 => wpAny M X.A (setFlight e fr) Q E2 s1) E2 s := by
  obtain ⟨a, cls, dx, T, fl, σ, H, rfl, I, ex, wa, ha, wT, hfl, q⟩ := x
  refine note_ok (base := X.base) (outer := X.outer) (by rw [I.ok.frames, hst.1]) (by have := I.stack; rw [hst.1] at this; exact this) hst.2 ex hfl fun h1 t c ht e1 => ?_
  rw [← hst.1] at c
  have I1 := I.chg c ha (fun t h => (wT t h).2) wa (fun t h => (wT t h).1)
  have wt : Away X [] t ∧ H t = none := by
    rcases ht with z | z
    · exact wT t z
    · exact ⟨I.away z, I.hok.fresh z⟩
  refine flight_ok (s := { s with heap := h1 }) e1 fun h2 k1 k2 e2 => ?_
  have c2 : Chg (frs X.stack) a (some t) h1 h2 := flight_chg (fun b o e n => k1 b o rfl e n) k2
  have I2 := I1.chg (a := a) (T := some t) c2 ha (fun t' h => by cases h; exact wt.2) wa (fun t' h => by cases h; exact wt.1)
  exact k h2 a cls dx t σ H rfl I2 e2 wa ha wt.1 wt.2 q
theorem XF.own {E : XK} (hst : X.stack = X.env :: X.outer ∧ X.env.frame = some X.env.locals) : PassesOwn (model X.prog X.w) X.A X.env (XF X E) := by
  intro e s x
  obtain ⟨a, cls, dx, T, fl, σ, H, rfl, I, ex, wa, ha, wT, hfl, q⟩ := x
  unfold notedBy
  refine note_ok (base := X.base) (outer := X.outer) (by rw [I.ok.frames, hst.1]) (by have := I.stack; rw [hst.1] at this; exact this) hst.2 ex hfl fun h1 t c ht e1 => ?_
  rw [← hst.1] at c
  have I1 := I.chg c ha (fun t h => (wT t h).2) wa (fun t h => (wT t h).1)
  have wt : Away X [] t ∧ H t = none := by
    rcases ht with z | z
    · exact wT t z
    · exact ⟨I.away z, I.hok.fresh z⟩
  unfold cameBackBy
  obtain ⟨⟨oe, vs, he, hc, hdx, hd, h1'⟩, _⟩ := id e1
  refine wpAny_bind (wpAny_field (s := { s with heap := h1 }) he hd h1' ?_)
  show wpAny _ _ (if (Value.ref t == Value.none) = true then _ else _) _ _ _
  rw [if_neg (show ¬ (Value.ref t == Value.none) = true from by simp)]
  refine flight_ok (s := { s with heap := h1 }) e1 fun h2 k1 k2 e2 => ?_
  have c2 : Chg (frs X.stack) a (some t) h1 h2 := flight_chg (fun b o e n => k1 b o rfl e n) k2
  have I2 := I1.chg (a := a) (T := some t) c2 ha (fun t' h => by cases h; exact wt.2) wa (fun t' h => by cases h; exact wt.1)
  exact ⟨a, cls, dx, some t, _, σ, H, rfl, I2, e2, wa, ha, fun t' h => by cases h; exact wt, .inr (by rw [hst.2]; rfl), q⟩
theorem XF.leave {E : XK} {e : Value} {M : Model} {E2 : Value → Shared → Prop} (hst : X.stack = X.env :: X.outer ∧ X.env.frame = some X.env.locals) (hex : X.ex = []) (x : XF X E e s) :
    wpAny M X.A (leaving X.env e) (fun _ s' => CXE X.prog X.w X.outer X.H₀ X.s₀ E e s') E2 s := by
  unfold leaving
  refine wpAny_bind (XF.noted (fr := none) hst x fun h' a cls dx t σ H he I ex wa ha wt ht q => ?_)
  exact ⟨a, cls, dx, t, H, he, I.os, I.bare, by have := I.base; rw [hex] at this; exact this, I.hok, ex, wa.1, ha, wt.1, ht, q⟩
noncomputable abbrev Cx.wishX (X : Cx) (E : XK) : Cx := { X with xe := XF X E, ex9 := E }
theorem Cx.Ok.wishX {X : Cx} (ok : X.Ok) (E : XK) : (X.wishX E).Ok :=
  ⟨ok.mod, ok.kind, ok.glob, ok.blt, ok.above, ok.inj, ok.has, ok.cab, ok.hd, ok.frames, ok.stk, ok.exf, ok.bs, ok.bsz, ok.noex, ok.exfs, ok.funs, ok.frf⟩
theorem Cx.Ok.unwishX {X : Cx} {E : XK} (ok : (X.wishX E).Ok) : X.Ok :=
  ⟨ok.mod, ok.kind, ok.glob, ok.blt, ok.above, ok.inj, ok.has, ok.cab, ok.hd, ok.frames, ok.stk, ok.exf, ok.bs, ok.bsz, ok.noex, ok.exfs, ok.funs, ok.frf⟩
theorem Inv.wishX (I : Inv X pins σ H s) (E : XK) : Inv (X.wishX E) pins σ H s := ⟨I.ok.wishX E, I.os, I.bare, I.base, I.loc, I.cell, I.free, I.freeC, I.pin, I.hok, I.len⟩
theorem Inv.unwishX {E : XK} (I : Inv (X.wishX E) pins σ H s) : Inv X pins σ H s := ⟨I.ok.unwishX, I.os, I.bare, I.base, I.loc, I.cell, I.free, I.freeC, I.pin, I.hok, I.len⟩
theorem SP.unwishX {E : XK} {D : Ends} {f : Flow} {s' : Shared} (h : SP (X.wishX E) pins D f s') : SP X pins D f s' := by
  cases f with
  | next => obtain ⟨σ', H', I, q⟩ := h; exact ⟨σ', H', I.unwishX, q⟩
  | brk => obtain ⟨σ', H', I, q⟩ := h; exact ⟨σ', H', I.unwishX, q⟩
  | cont => obtain ⟨σ', H', I, q⟩ := h; exact ⟨σ', H', I.unwishX, q⟩
  | ret u => obtain ⟨v, σ', H', I, r, q⟩ := h; exact ⟨v, σ', H', I.unwishX, r, q⟩
theorem PSs.wishX {st : List Stmt} {t : TS} {E : XK} (h : PSs (X.wishX E) st t) (k : ∀ e s, XF X E e s → X.xe e s) : PSs X st t := fun pins s σ H D I hw =>
  wpAny_mono (h pins s σ H D (I.wishX _) hw) (fun _ _ q => q.unwishX) k
theorem pass0X {X : Cx} : Passes (CXE X.prog X.w) X E0 := fun _ _ _ _ _ _ _ ⟨_, _, _, _, _, _, _, _, _, _, _, _, _, _, _, q⟩ => q.elim
theorem ownX {E : XK} (hst : X.stack = X.env :: X.outer ∧ X.env.frame = some X.env.locals) : PassesOwn (model (X.wishX E).prog (X.wishX E).w) (X.wishX E).A (X.wishX E).env (X.wishX E).xe := XF.own hst
end
section
variable {P : Program} {w : World} {K : PySem.W.Frag} {mg : Str → Option Value} {base : Heap}
theorem Fun.okX {x qual : Str} {st : Stmt} {f : Addr} {fd : FuncData} {N ps : List Str} {k : Nat} {sp : Sp} (F : Fun K x qual st f fd) (S : FnScope N ps (defScope st)) (len : ∀ vs H Q E, sp vs H Q E → vs.length = ps.length)
    (hbody : ∀ (cdv : Value) (A : Around) (outer : List Env) (s : Shared) (H : Hp) (vs : List V) (Q : VK) (E : XK), Room k (A.deeper (envOfC qual (defScope st) s.heap.objs.size f cdv)) → sp vs H Q E →
      ∃ t, PSs ((cxOf (CXE P w) P w K mg base N qual (defScope st) f cdv A outer s H E).wishX E) (defBody st) t ∧ t { nx := fun _ H' => Q .non H', rt := Q } (start N vs) H) :
    FnOk P w K mg base (CXE P w) (k + 1) f fd ps sp := by
  obtain ⟨oc, od, dV, kV, doc, pm, an, cdv, ct, osl, rfl, lk, hcd⟩ := F.ex
  refine fn_of lk hcd S len fun A outer s H vs Q E hr hsp => ?_
  obtain ⟨t, h, q⟩ := hbody cdv A outer s H vs Q E hr hsp
  exact ⟨t, h.wishX fun e s' x => XF.leave (X := cxOf (CXE P w) P w K mg base N qual (defScope st) f cdv A outer s H E) ⟨rfl, rfl⟩ rfl x, q⟩
end
end L2
namespace L2
open PySem PySem.Spec PyProof.Rows
open Sem (wp)
section
variable {M : Model} {A : Around} {E : Value → Shared → Prop} {env : Env}
variable {nm q : Str} {C N : Addr} {bs bm : List Value} {hdct : Bool} {sn : List Str} {sub : List Value} {ab : Bool} {col : Option Bool} {dd : Option Addr} {k0 k1 k2 k3 k5 : Option Value} {newId : String}
theorem raise_any {s : Shared} {x : Sem Value} {Q : Flow → Shared → Prop} (hbase : bm.contains (.type "BaseException") = true) (hh : A.handled = none)
    (h : wpAny M A x (fun v s₁ => ∃ e dx a0 sl, v = .ref e ∧ s₁.heap.get? C = some (excClassObj nm q C N bs bm hdct sn sub ab col dd k0 k1 k2 k3 k5 newId) ∧
      s₁.heap.get? e = some { cls := .ref C, dict := dx, data := .fields #[a0, .none, .none, .none, .bool false, .none], slots := sl } ∧ E (.ref e) s₁) E s) :
    wpAny M A (raiseStmt env (some x) none) Q E s := by
  have hcB : (Value.ref C :: bm).contains (.type "BaseException") = true := by rw [List.contains_cons, hbase, Bool.or_true]
  unfold raiseStmt
  refine wpAny_bind (wpAny_mono h (fun v s₁ h₁ => ?_) fun _ _ x => x)
  obtain ⟨e, dx, a0, sl, rfl, hC, he, hE⟩ := h₁
  obtain ⟨hp, g, d, tk, os⟩ := s₁
  repeat (first | with_reducible refine wpAny_loadPart_at he ?_ | with_reducible refine wpAny_loadPart_at hC ?_ | (with_reducible refine wpAny_isSubtype_exc hC ?_; rw [hcB]) | wp_step)
  exact wpAny_raiseNew_none hh hE
end
section
variable {prog : Program} {w : World} {A : Around} {E : Value → Shared → Prop} {h : Heap} {g : Array GenState} {d : Drawn} {t : Nat} {os : OsState}
variable {nm q : Str} {C N : Addr} {bs bm bmB : List Value} {hdct : Bool} {sn : List Str} {sub : List Value} {ab : Bool} {col : Option Bool} {dd : Option Addr} {k0 k1 k2 k3 k5 : Option Value} {B Bn newId nid initId inN : String} {bmN : List Value}
end
section
variable {prog : Program} {w : World} {A : Around} {E : Value → Shared → Prop} {s : Shared} {env : Env}
variable {nm q : Str} {C N : Addr} {bs bm bmB : List Value} {hdct : Bool} {sn : List Str} {sub : List Value} {ab : Bool} {col : Option Bool} {dd : Option Addr} {k0 k1 k2 k3 k5 : Option Value} {B Bn newId nid initId inN : String} {bmN : List Value}
theorem raise_call {x : Str} {np cpos pos : Pos} {args : List Expr} {Q : Flow → Shared → Prop}
    (hbase : bm.contains (.type "BaseException") = true) (hh : A.handled = none) (hplain : (backTo cpos (starEach args env)).any (·.1) = false)
    (h : wpAny (model prog w) A (eval (.Name x np) env) (fun f s₁ => f = .ref C ∧ wpAny (model prog w) A (evalArgs (.ref C) true (backTo cpos (starEach args env)) [])
      (fun a s₂ => a.kw = [] ∧ s₂.heap.get? C = some (excClassObj nm q C N bs bm hdct sn sub ab col dd k0 k1 k2 k3 k5 newId) ∧
        wpAny (model prog w) A (call (.ref C) a.pos) (fun v s₃ => ∃ e dx a0 sl, v = .ref e ∧ s₃.heap.get? C = some (excClassObj nm q C N bs bm hdct sn sub ab col dd k0 k1 k2 k3 k5 newId) ∧
          s₃.heap.get? e = some { cls := .ref C, dict := dx, data := .fields #[a0, .none, .none, .none, .bool false, .none], slots := sl } ∧ E (.ref e) s₃) E s₂) E s₁) E s) :
    wpAny (model prog w) A (exec (.Raise (some (.Call (.Name x np) args [] cpos)) none pos) env) Q E s := by
  rw [arm_exec_Raise]
  refine wpAny_bind (wpAny_standAt ?_)
  refine raise_any (C := C) (nm := nm) (q := q) (N := N) (bs := bs) (bm := bm) (hdct := hdct) (sn := sn) (sub := sub) (ab := ab) (col := col) (dd := dd) (k0 := k0) (k1 := k1) (k2 := k2) (k3 := k3) (k5 := k5) (newId := newId) hbase hh ?_
  refine wpAny_bind (wpAny_mono (wpAny_Call_ofName (wpAny_mono h (fun f s₁ h₁ => ?_) fun _ _ x => x)) (fun v s₃ h₃ => wpAny_bind (wpAny_standAt (wpAny_pure h₃))) fun _ _ x => x)
  obtain ⟨rfl, h₁⟩ := h₁
  unfold callWith
  refine wpAny_bind (wpAny_holding (wpAny_mono h₁ (fun a s₂ h₂ => wpAny_bind (wpAny_standAt ?_)) fun _ _ x => x))
  obtain ⟨apos, akw⟩ := a
  obtain ⟨hkw, hC, h₂⟩ := h₂
  obtain rfl : akw = [] := hkw
  obtain ⟨hp, g, d, tk, os⟩ := s₂
  simp only [hplain]
  refine wpAny_bind (wpAny_keeperOf_exc hC ?_)
  exact wpAny_bind (wpAny_mono h₂ (fun v s₃ h₃ => wpAny_bind (wpAny_holding (wpAny_point (wpAny_pure h₃)))) fun _ _ z => z)
end
end L2
namespace L2
open PySem PySem.Spec PyProof.Rows
open Sem (wp)
section
variable {prog : Program} {w : World} {A : Around} {E : Value → Shared → Prop} {h : Heap} {g : Array GenState} {d : Drawn} {tk : Nat} {os : OsState}
variable {nm q : Str} {C N : Addr} {bs bm bmB : List Value} {hdct : Bool} {sn : List Str} {sub : List Value} {ab : Bool} {col : Option Bool} {dd : Option Addr} {k0 k1 k2 k3 k5 : Option Value} {B newId nid initId : String}
end
section
variable {prog : Program} {w : World} {A : Around} {E : Value → Shared → Prop} {h : Heap} {g : Array GenState} {d : Drawn} {t : Nat} {os : OsState} {K : PySem.W.Frag}
variable {nm q : Str} {C N x : Addr} {bs bm : List Value} {sn : List Str} {sub : List Value} {ab : Bool} {col : Option Bool} {dd : Option Addr} {k0 k1 k2 k3 k5 : Option Value} {newId : String}
  {mA : Str → Option Value} {name : Str} {v : Value}
noncomputable abbrev bmV : List Value := [.type "ValueError", .type "Exception", .type "BaseException", .type "object"]
theorem xl_check {M : Model} {o : Obj} {nameV : Value} {Q : Unit → Shared → Prop} (hC : h.get? C = some (excClassObj nm q C N bs bm true sn sub ab col dd k0 k1 k2 k3 k5 newId)) (T : OwnTail h bmV bm)
    (hx : h.get? x = some o) (hc : o.cls = .ref C) (hq : Q () ⟨h, g, d, t, os⟩) : wpAny M A (checkBuiltinCall "BaseException.__getattribute__" ⟨[.ref x, nameV], []⟩) Q E ⟨h, g, d, t, os⟩ := by
  have hk : builtinKind "BaseException.__getattribute__" = some .slot := by decide +kernel
  have hsplit : splitId "BaseException.__getattribute__" = some ("BaseException", "__getattribute__") := by decide +kernel
  have hcB : (Value.ref C :: bm).contains (.type "BaseException") = true := by rw [List.contains_cons, T.hasType (b := true) (by decide +kernel), Bool.or_true]
  have ha := F.args_bexc_ga (.ref x) nameV
  simp only [checkBuiltinCall, hk, hsplit]
  refine wpAny_bind ?_
  · unfold isInstance
    repeat (first | (with_reducible refine wpAny_loadPart_at hx ?_; rw [hc]) | (with_reducible refine wpAny_isSubtype_exc hC ?_; rw [hcB]) | wp_step)
    exact hq
end
end L2
namespace L2
open PySem PySem.Spec PyProof.Rows
theorem ext_ok {P : Program} {w : World} {H : Hp} {h : Heap} {a : Addr} {φ : Heap → Prop} (p : φ h) (o : ∃ o, h.get? a = some o) (k : ∀ h1 h2 : Heap, φ h1 → (∀ o, h1.get? a = some o → h2.get? a = some o) → φ h2) : ObjOk P w H h a (.ext φ) := ⟨p, o, k⟩
section
variable {X : Cx} {pins : List (Addr × Obj)} {σ : St} {H : Hp} {s : Shared} {e : Addr} {φ : Heap → Prop}
end
section
variable {X : Cx} {E : XK} {k : Nat} {f C : Addr} {fd : FuncData} {ps : List Str} {sp : Sp} {x : Str} {p pos cpos : Pos} {e : Expr} {es : List Expr} {t : TA}
end
end L2
namespace L2
open PySem PySem.Spec PyProof.Rows DL
section
variable {X : Cx} {pins : List (Addr × Obj)} {σ : St} {H : Hp} {s : Shared} {a : Addr} {o : HO}
theorem Inv.adopt (I : Inv X pins σ H s) (w : Away X pins a) (hn : H a = none) (new : ObjOk X.prog X.w (upd H a o) s.heap a o) : Inv X pins σ (upd H a o) s := by
  have nn : ∀ b, b ≠ a → H b = none → upd H a o b = none := fun b q z => by rw [upd_ne q]; exact z
  have ne : ∀ b u, H b = some u → upd H a o b = some u := fun b u q => by rw [upd_ne fun z => by rw [z, hn] at q; cases q]; exact q
  refine ⟨I.ok, I.os, I.bare, ⟨I.base.keep, I.base.slot, fun b ob q n x => nn b (fun z => ?_) (I.base.free b ob q n x), I.base.there, fun b xs q => ne b _ (I.base.tups b xs q), fun b ob u q => ne b _ (I.base.frzs b ob u q), fun b ps q => ?_⟩, I.loc, I.cell, nn _ (Ne.symm w.2.1) I.free, fun x c q => nn _ (w.2.2.1 x c q) (I.freeC x c q), fun p hp => ?_, fun b u q => ?_, I.len⟩
  · have := Heap.lt_size q
    rw [z] at this
    exact absurd (Nat.lt_of_lt_of_le this w.1) (Nat.lt_irrefl _)
  · obtain ⟨more, z⟩ := I.base.tbls b ps q
    exact ⟨more, ne b _ z⟩
  · obtain ⟨a1, a2, a3⟩ := I.pin p hp
    exact ⟨a1, nn _ (w.2.2.2 p hp) a2, a3⟩
  · by_cases hb : b = a
    · subst hb
      rw [upd_same] at q; cases q
      exact new
    · rw [upd_ne hb] at q
      exact (I.hok b u q).stay (fun _ _ _ z => z) (fun c z => ne c _ z) fun c xs z => ne c _ z
end
noncomputable def PJ (X : Cx) (parts : List Expr) (n : Nat) (t : St → Hp → Prop) : Prop := ∀ (pins : List (Addr × Obj)) (s : Shared) (σ : St) (H : Hp) (out : Str) (Q : Value → Shared → Prop), Inv X pins σ H s → t σ H → out.length + n ≤ 1000000 →
  (∀ txt tk s', Inv X pins σ H s' → Q (.str txt tk) s') → wpAny (model X.prog X.w) X.A (joinParts out (evalEach parts X.env)) Q X.xe s
section
variable {X : Cx} {e v : Expr} {rest : List Expr} {n : Nat} {t : St → Hp → Prop} {pos p : Pos}
theorem pj_nil : PJ X [] 0 fun _ _ => True := fun pins s σ H out Q I _ hl k => joinParts_nil (k _ _ _ (I.tok _)) (by rw [sizeLine_eq]; omega)
theorem pj_str {c : Str} (he : PE X e (tC (.str c))) (hr : PJ X rest n t) : PJ X (e :: rest) (c.length + n) t := fun pins s σ H out Q I h hl k =>
  joinParts_cons (thn (he pins s σ H (fun v H' => v = .str c ∧ H' = H) I ⟨rfl, rfl⟩) fun u s1 ⟨v, H1, I1, r1, e1, e2⟩ => by
    subst e1; subst e2
    obtain ⟨tk, rfl⟩ := r1
    have z : (out ++ c).length = out.length + c.length := strLen_append out c
    exact ⟨by rw [z, sizeLine_eq]; omega, hr pins s1 σ H1 _ Q I1 h (by rw [z]; omega) k⟩)
theorem pj_int {i : Nat} (he : PE X v (tVar i)) (hr : PJ X rest n t) : PJ X (.FormattedValue v (-1) none p :: rest) (2000 + n) fun σ H => (∃ a : Int, σ[i]? = some (some (.int a)) ∧ a.natAbs.log2 < 1920) ∧ t σ H := fun pins s σ H out Q I ⟨⟨a, ha, hb⟩, h⟩ hl k =>
  joinParts_cons (FormattedValue_plain (thn (he pins s σ H (fun v H' => v = .int a ∧ H' = H) I ⟨_, ha, rfl, rfl⟩) fun u s1 ⟨v, H1, I1, r1, e1, e2⟩ => by
    subst e1; subst e2
    obtain ⟨tk, rfl⟩ := r1
    refine formatField_int_small hb ?_
    have e3 := int_text_length_le (k := 1920) (by decide) hb
    have z : (out ++ Str.ofString (toString a)).length = out.length + (toString a).length := by rw [strLen_append, PySem.ofString_length]
    exact ⟨by rw [z, sizeLine_eq]; omega, hr pins _ σ H1 _ Q (I1.tok _) h (by rw [z]; omega) k⟩))
noncomputable def tTxt (t : St → Hp → Prop) : TE := fun σ H Q => t σ H ∧ ∀ txt, Q (.str txt) H
theorem pe_joined {e2 : Expr} (h : PJ X (e :: e2 :: rest) n t) (hn : n ≤ 1000000 := by decide) : PE X (.JoinedStr (e :: e2 :: rest) pos) (tTxt t) := fun pins s σ H Q I ⟨ht, hq⟩ =>
  JoinedStr_many (h pins s σ H Str.empty _ I ht (by show 0 + n ≤ _; omega) fun txt tk s' I' => ⟨.str txt, H, I', ⟨tk, rfl⟩, hq txt⟩)
end
section
variable {X : Cx} {x : Str} {C0 : Addr} {p1 apos cpos : Pos} {e1 : Expr} {es : List Expr} {t : TA}
end
section
variable {X : Cx} {o value : Expr} {f : Str} {pos pos' : Pos} {ta tv : TE}
end
end L2
namespace L2
open PySem PySem.Spec PyProof.Rows
section
variable {prog : Program} {w : World} {A : Around} {E : Value → Shared → Prop} {h : Heap} {g : Array GenState} {d : Drawn} {t : Nat} {os : OsState} {K : PySem.W.Frag}
variable {nm q : Str} {C N x : Addr} {bs bm : List Value} {sn : List Str} {sub : List Value} {ab : Bool} {col : Option Bool} {dd : Option Addr} {k0 k1 k2 k3 k5 : Option Value} {newId : String}
theorem xl_class {ox : Obj} {od : Option Obj} {Q : Option Value → Shared → Prop} (X : K.In h)
    (hC : h.get? C = some (excClassObj nm q C N bs bm true sn sub ab col dd k0 k1 k2 k3 k5 newId)) (T : OwnTail h bmV bm)
    (hg : PySem.W.findIn K (.ref C) "__getattribute__" = some (some (.builtin "BaseException.__getattribute__"))) (hgg : PySem.W.findIn K (.ref C) "__getattr__" = some none)
    (I : PySem.W.InstAt h x ox C od) (hf : PySem.W.findObj K C od "__class__" = some (.bind (.builtin "getset_descriptor.__get__") (.builtin "object.__class__"))) (hm : PySem.W.mroIn K C (.type "object") = some true)
    (hq : Q (some (.ref C)) ⟨h, g, d, t + 1, os⟩) : wpAny (model prog w) A (getAttr? (.ref x) "__class__") Q E ⟨h, g, d, t, os⟩ := by
  have hx := I.at_
  have hc := I.cls
  have L0 := I.type (M := model prog w)
  have L1 : PySem.W.Looks (model prog w) h (typeLookup (.ref C) "__getattribute__") (some (.builtin "BaseException.__getattribute__")) := PySem.W.looks_findIn X hg
  have L2 : PySem.W.Looks (model prog w) h (typeLookup (.ref C) "__getattr__") none := PySem.W.looks_findIn X hgg
  have L3 := PySem.W.looks_find (M := model prog w) X I hf
  have FB := PySem.F.attrBase_ValueError
  have f3 := FB.ga.bind (.ref x)
  have hx2 : (Value.builtin "BaseException.__getattribute__" == Value.builtin "object.__getattribute__") = false := by decide +kernel
  have hx1 : (onTheHeap (Value.ref C) && Value.builtin "BaseException.__getattribute__" == Value.builtin "object.__getattribute__") = false := by rw [hx2]; rfl
  have hx0 : (false && onTheHeap (Value.builtin "BaseException.__getattribute__")) = false := rfl
  unfold getAttr? getAttrBy?
  repeat (any_goals (first | assumption | (with_reducible refine wpAny_loadPart_at hx ?_; rw [hc]) | (with_reducible refine L1.at ?_) | (with_reducible refine L2.at ?_) | wp_step))
  refine codeAny_call_builtin FB.ga.plain F.entry_bexc_ga (xl_check hC T hx hc ?_)
  unfold Builtin.«object.__getattribute__»
  refine wpAny_bind (wpAny_pure (wpAny_bind (wpAny_pure (wpAny_bind (L0.at (wpAny_bind (L3.at ?_)))))))
  show wpAny _ _ (Builtin.ObjectAttr.bindTo _ _ _ _) _ _ _
  unfold Builtin.ObjectAttr.bindTo
  dsimp only
  refine wpAny_bind (wpAny_holding (wpAny_call (PySem.W.class_get (s := ⟨h, g, d, t + 1, os⟩) X I hm ?_)))
  repeat (any_goals (first | assumption | wp_step))
end
end L2
namespace L2
open PySem PySem.Spec PyProof.Rows DL
section
variable {X : Cx} {pins : List (Addr × Obj)} {σ : St} {H : Hp} {s : Shared}
theorem goes_ok {M : Model} {A : Around} {E : Value → Shared → Prop} {j : Nat} {n : Str} {pos : Pos} {Q : Unit → Shared → Prop} (I : Inv X pins σ H s) (hN : X.N.Nodup) (hj : X.N[j]? = some n) (hk : X.env.kindOf n = some .local)
    (h : ∀ s', Inv X pins (σ.set j none) H s' → Q () s') : wpAny M A (do bindName X.env n .none; unbindBehindTheSuite X.env n pos) Q E s := by
  obtain ⟨m, hn, hl⟩ := id I.loc
  have hcls : (X.env.scope.kind == .class || (X.env.scope.kind == .module && X.env.locals != X.env.globals)) = false := by rw [I.ok.kind]; rfl
  have cne := I.cne
  have tracked : ∀ {a : Addr} {h' : Heap}, (∃ o, s.heap.get? a = some o ∧ H a = none) → Heap.SameBut a s.heap h' → HOk X.prog X.w H h' := fun {a h'} ha hs b ob e => by
    obtain ⟨_, _, hfree⟩ := ha
    refine (I.hok b ob e).stay (fun c w' hc q => (hs.2 c ?_).trans q) (fun _ q => q) fun _ _ q => q
    rintro rfl
    rcases hc with rfl | hc
    · rw [hfree] at e; cases e
    · rw [hfree] at hc; cases hc
  refine wpAny_nameGoes_keeps hk hn hcls fun h' v hn' hs => ?_
  obtain ⟨oL, _, _, hoL, _⟩ := id hn
  refine h _ ⟨I.ok, I.os, I.bare, ⟨fun b o e n hb hx => ?_, fun b o e n hb hx => ?_, I.base.free, fun b o e hx => ?_, I.base.tups, I.base.frzs, I.base.tbls⟩, ⟨_, hn', fun i y v' e1 e2 e3 => ?_⟩, fun y c e => ?_, I.free, I.freeC, fun p hp => ?_, tracked ⟨oL, hoL, I.free⟩ hs, by simpa using I.len⟩
  · exact (hs.2 b (Nat.ne_of_lt (Nat.lt_of_lt_of_le (Heap.lt_size e) I.ok.above))).trans (I.base.keep b o e n hb hx)
  · obtain ⟨sl, e1⟩ := I.base.slot b o e n hb hx
    exact ⟨sl, (hs.2 b (Nat.ne_of_lt (Nat.lt_of_lt_of_le (Heap.lt_size e) I.ok.above))).trans e1⟩
  · obtain ⟨o', e1⟩ := I.base.there b o e hx
    exact ⟨o', (hs.2 b (Nat.ne_of_lt (Nat.lt_of_lt_of_le (Heap.lt_size e) I.ok.above))).trans e1⟩
  · by_cases hi : i = j
    · subst hi
      have : i < σ.length := by
        have := (List.getElem?_eq_some_iff.mp e2).1
        simpa using this
      rw [List.getElem?_set_self this] at e2
      cases e2
    · rw [List.getElem?_set_ne (Ne.symm hi)] at e2
      obtain ⟨u', r', q⟩ := hl i y v' e1 e2 e3
      refine ⟨u', r', ?_⟩
      rcases q with ⟨k, e⟩ | ⟨k, c, e, z⟩
      · refine .inl ⟨k, ?_⟩
        have : y ≠ n := fun e => hi (nodup_ix hN e1 (e ▸ hj))
        simp [this, e]
      · exact .inr ⟨k, c, e, z.sameBut hs (cne y c e)⟩
  · obtain ⟨w', z⟩ := I.cell y c e
    exact ⟨w', z.sameBut hs (cne y c e)⟩
  · obtain ⟨e, n, ne, nf, d⟩ := I.pin p hp
    exact ⟨(hs.2 p.1 ne).trans e, n, ne, nf, d⟩
end
noncomputable def PEX (X : Cx) (e : Expr) (t : St → Hp → VK → XK → Prop) : Prop := ∀ (pins : List (Addr × Obj)) (s : Shared) (σ : St) (H : Hp) (Q : VK) (E : XK), Inv X pins σ H s → t σ H Q E →
  wpAny (model X.prog X.w) X.A (eval e X.env) (EP X pins σ Q) (fun x s' => X.xe x s' ∨ ∃ H1 s1, Inv X pins σ H1 s1 ∧ CXE X.prog X.w X.stack H1 s1 E x s') s
noncomputable def PSX (X : Cx) (st : Stmt) (t : Ends → XK → St → Hp → Prop) : Prop := ∀ (pins : List (Addr × Obj)) (s : Shared) (σ : St) (H : Hp) (D : Ends) (E : XK), Inv X pins σ H s → t D E σ H →
  wpAny (model X.prog X.w) X.A (exec st X.env) (SP X pins D) (fun x s' => X.xe x s' ∨ ∃ H1 s1, Inv X pins σ H1 s1 ∧ CXE X.prog X.w X.stack H1 s1 E x s') s
section
variable {X : Cx} {k : Nat} {f : Addr} {fd : FuncData} {ps : List Str} {sp : Sp} {x : Str} {p pos : Pos} {e : Expr} {es : List Expr} {t : TA} {te : St → Hp → VK → XK → Prop}
theorem pex_call (F : FnOk X.prog X.w X.K X.mg X.base (CXE X.prog X.w) k f fd ps sp) (hr : Room k X.A) (hg : Gl X x) (hm : X.mg x = some (.ref f)) (hk : PySem.W.keepIn X.K (.ref f) = true) (hb : Binds X.K fd ps [])
    (ha : PA X (e :: es) t) (hdb : (x == ("__debug__" : Str)) = false := by decide) (he : starEach (e :: es) X.env = (false, eval e X.env) :: starEach es X.env := by rfl) (hpl : (backTo pos (starEach es X.env)).any (·.1) = false := by rfl) :
    PEX X (.Call (.Name x p) (e :: es) [] pos) (fun σ H Q E => t σ H fun vs H1 => sp vs H1 Q E) := by
  intro pins s σ H Q E I h
  refine wpAny_Call_Name_kw (ld_glob I hg hm ?_ hdb)
  refine PySem.W.callWith_K (h₀ := X.base) I.ok.mod.kin hk (wpAny_mono (ha pos pins s σ H _ I h) (fun us s1 ⟨vs, H1, I1, r, q⟩ => ⟨I1.kIn, ?_⟩) (fun _ _ z => .inl z)) he hpl
  have hl : (us ++ []).length = ps.length := by rw [List.append_nil, ← r.length]; exact F.len _ _ _ _ q
  refine wpAny_call (codeAny_mono (F.run X.A X.stack s1 H1 ⟨us, []⟩ (us ++ []) vs Q E hr I1.env0 (hb s1 us I1.kIn hl) (by rw [List.append_nil]; exact r) q) fun r s' hq => ?_)
  cases r with
  | error z => exact .inr ⟨H1, s1, I1, hq⟩
  | ok fl =>
    cases fl with
    | ret u => exact I1.after hq
    | next => exact False.elim hq
    | brk => exact False.elim hq
    | cont => exact False.elim hq
theorem psx_expr (he : PEX X e te) (hs : swapsWith e none pos.line X.env = pure false := by rfl) : PSX X (.Expr e pos) (fun D E σ H => te σ H (fun _ H1 => D.nx σ H1) E) := by
  intro pins s σ H D E I h
  exact wpAny_Expr_any (thn (he pins s σ H _ E I h) fun v s1 ⟨x, H1, I1, r1, q1⟩ => ⟨σ, H1, I1, q1⟩) I.quiet hs
end
noncomputable abbrev Cx.hnd (X : Cx) (a : Addr) : Cx := { X with A := X.A.mark (some (.ref a)), calm := false, xe := fun _ _ => False }
section
variable {X : Cx} {pins : List (Addr × Obj)} {σ : St} {H : Hp} {s : Shared} {a : Addr}
theorem Inv.hnd (I : Inv X pins σ H s) (a : Addr) : Inv (X.hnd a) pins σ H s :=
  ⟨⟨I.ok.mod, I.ok.kind, I.ok.glob, I.ok.blt, I.ok.above, I.ok.inj, I.ok.has, I.ok.cab, (fun z => nomatch z), I.ok.frames, I.ok.stk, I.ok.exf, I.ok.bs, I.ok.bsz, I.ok.noex, I.ok.exfs, I.ok.funs, I.ok.frf⟩, I.os, I.bare, I.base, I.loc, I.cell, I.free, I.freeC, I.pin, I.hok, I.len⟩
theorem Inv.unhnd (ok : X.Ok) (I : Inv (X.hnd a) pins σ H s) : Inv X pins σ H s := ⟨ok, I.os, I.bare, I.base, I.loc, I.cell, I.free, I.freeC, I.pin, I.hok, I.len⟩
end
noncomputable def tTry (K : PySem.W.Frag) (CB : Addr) (j : Nat) (tb : Ends → XK → St → Hp → Prop) (th : TS) : TS := fun D σ H => tb D (fun cls dx H' => ∃ C d, cls = .ref C ∧ dx = d ∧ PySem.W.exmOne K cls (.ref CB) = some true ∧
  ∀ a, H' a = none → th { nx := fun σ' H'' => D.nx (σ'.set j none) H'', rt := D.rt, bk := fun σ' H'' => D.bk (σ'.set j none) H'', ct := fun σ' H'' => D.ct (σ'.set j none) H'' } (σ.set j (some (.ref a))) (upd H' a (.ext (xAny C d a)))) σ H
section
variable {X : Cx} {st b₀ : Stmt} {suite : List Stmt} {tb : Ends → XK → St → Hp → Prop} {th : TS} {cx n : Str} {CB : Addr} {cp hpos pos : Pos} {j : Nat}
theorem ps_try (hst : X.stack = X.env :: X.outer ∧ X.env.frame = some X.env.locals) (hxe : ∀ e s, ¬ X.xe e s) (hb : PSX X st tb) (hgc : Gl X cx) (hmc : X.mg cx = some (.ref CB)) (hN : X.N.Nodup) (hj : X.N[j]? = some n) (hk : X.env.kindOf n = some .local)
    (hB : ∀ a, PSs (X.hnd a) (b₀ :: suite) th) (hf : X.fn n = true ∨ X.env.scope.names.lookup n = some .local := by trivial) (hdb : (cx == ("__debug__" : Str)) = false := by decide) :
    PS X (.Try [st] [.ExceptHandler (some (.Name cx cp)) (some n) (b₀ :: suite) hpos] [] [] pos) (tTry X.K CB j tb th) := by
  intro pins s σ H D I h
  refine wpAny_Try_except ?_
  have hb' := hb pins s σ H D _ I h
  refine wpAny_execs_cons (wpAny_mono hb' (fun f s1 q => ?_) fun x s' hx => ?_)
  · cases f with
    | next => exact wpAny_execs_nil (wpAny_execs_nil q)
    | ret v => exact q
    | brk => exact q
    | cont => exact q
  rcases hx with hx | ⟨H1, s1, I1, a, cls, dx, t, H', rfl, os, bare, un, hok, ex, wa, ha, wt, ht, C, d, rfl, hdd, exm, kk⟩
  · exact absurd hx (hxe _ _)
  obtain rfl : d = dx := hdd.symm
  have I2 : Inv X pins σ H' s' := I1.call' (ch := []) os un hok bare (fun b z => absurd z (by simp))
  have aw := I1.away wa
  have tw := I1.away wt
  refine note_ok (base := X.base) (outer := X.outer) (by rw [I2.ok.frames, hst.1]) (by have := I2.stack; rw [hst.1] at this; exact this) hst.2 ex (.inl rfl) fun h1 t1 c1 ht1 e1 => ?_
  rw [← hst.1] at c1
  have I3 := I2.chg c1 ha (fun t' h => by cases h; exact ht) aw (fun t' h => by cases h; exact tw)
  have wt1 : Away X pins t1 ∧ H' t1 = none := by
    rcases ht1 with z | z
    · cases z; exact ⟨tw, ht⟩
    · exact ⟨I2.away z, I2.hok.fresh z⟩
  refine flight_ok (s := { s' with heap := h1 }) e1 fun h2 k1 k2 e2 => ?_
  have c2 : Chg (frs X.stack) a (some t1) h1 h2 := flight_chg (fun b o e n => k1 b o rfl e n) k2
  have I4 := I3.chg (a := a) (T := some t1) c2 ha (fun t' h => by cases h; exact wt1.2) aw (fun t' h => by cases h; exact wt1.1)
  refine wpAny_handleBy_cons (codeAny_handlers_test ?_) (by intro q; cases q)
  refine ld_glob (X := X.hnd a) (I4.hnd a) hgc hmc ?_ hdb
  have LT : PySem.W.Looks (model X.prog X.w) h2 (typeOf (.ref a)) (.ref C) := by
    obtain ⟨⟨o, vs, z1, z2, _⟩, _⟩ := e2
    rw [← z2]
    exact (PySem.W.Looks.ld z1).andThen .now
  refine (PySem.W.exm_one (M := model X.prog X.w) (h := h2) I4.kIn LT exm).here ?_
  refine codeAny_handlers_suite_as ?_
  refine flight_ok (s := { s' with heap := h2 }) e2 fun h3 k3 k4 e3 => ?_
  have c3 : Chg (frs X.stack) a (some t1) h2 h3 := flight_chg (fun b o e n => k3 b o rfl e n) k4
  have I5 := I4.chg (a := a) (T := some t1) c3 ha (fun t' h => by cases h; exact wt1.2) aw (fun t' h => by cases h; exact wt1.1)
  have xa : xAny C d a h3 := by
    obtain ⟨⟨o, vs, z1, z2, z3, z4, _⟩, _⟩ := e3
    exact ⟨o, vs, z1, z2, z3, z4⟩
  have I6 := I5.adopt (a := a) (o := .ext (xAny C d a)) aw ha (ext_ok xa (let ⟨o, _, q, _⟩ := xa; ⟨o, q⟩) fun _ _ ⟨o, vs, z1, z2⟩ k => ⟨o, vs, k _ z1, z2⟩)
  refine store_ok (X := X.hnd a) (v := .ref a) (I6.hnd a) hN hj (.inl hk) rfl (fun s7 I7 => ?_) hf
  refine wpAny_mono (hB a pins s7 _ _ _ I7 (kk a ha)) (fun f s8 q => ?_) fun _ _ z => z.elim
  have ok := I.ok
  cases f with
  | next => obtain ⟨σ', H'', J, q⟩ := q; exact goes_ok (J.unhnd ok) hN hj hk fun s9 J9 => ⟨_, H'', J9, q⟩
  | brk => obtain ⟨σ', H'', J, q⟩ := q; exact goes_ok (J.unhnd ok) hN hj hk fun s9 J9 => ⟨_, H'', J9, q⟩
  | cont => obtain ⟨σ', H'', J, q⟩ := q; exact goes_ok (J.unhnd ok) hN hj hk fun s9 J9 => ⟨_, H'', J9, q⟩
  | ret u => obtain ⟨v, σ', H'', J, r, q⟩ := q; exact goes_ok (J.unhnd ok) hN hj hk fun s9 J9 => ⟨v, _, H'', J9, r, q⟩
end
end L2
namespace DL
open PySem PySem.Spec L2
noncomputable abbrev DSpX := List D → Hh → DK → DX → Prop
inductive spX (K : PySem.W.Frag) (n : Nat) (g : DSpX) (vs : List V) (H : Hp) (Q : VK) (E : XK) : Prop
  | mk (π : List Addr) (α : List Addr) (h : Hh) (ds : List D) (Q' : DK) (X' : DX) : HRel ⟨K, π⟩ α H h → RelDs ⟨K, π⟩ α H ds vs → ds.length = n → g ds h Q' X' →
      (∀ d h' α' H' v, Q' d h' → Ext α H α' H' → HRel ⟨K, π⟩ α' H' h' → RelD ⟨K, π⟩ α' H' d v → Q v H') →
      (∀ cn fs h' α' H' C dx, X' cn fs h' → Ext α H α' H' → HRel ⟨K, π⟩ α' H' h' → PySem.W.nsIn K mainGlobals cn = some (some (.ref C)) → XQ ⟨K, π⟩ α' H' dx fs → E (.ref C) dx H') → spX K n g vs H Q E
noncomputable def runX (n : Nat) (b : DS) : DSpX := fun ds h Q X' => b { nx := fun _ h' => Q .non h', rt := Q, ex := X' } (ds.map some ++ List.replicate (n - ds.length) none) h
noncomputable def DrX (h : Hh) (X' : DX) : DX := fun cn fs h' => Dr h (fun _ h2 => X' cn fs h2) .non h'
structure CalX (P : Program) (w : World) (K : PySem.W.Frag) (mg : Str → Option Value) (base : Heap) (k : Nat) (x : Str) (ps : List Str) (sp : Sp) : Prop where
  ex : ∃ (f : Addr) (fd : FuncData), FnOk P w K mg base (CXE P w) k f fd ps sp ∧ mg x = some (.ref f) ∧ PySem.W.keepIn K (.ref f) = true ∧ Binds K fd ps []
section
variable {P : Program} {w : World} {K : PySem.W.Frag} {mg : Str → Option Value} {base : Heap}
theorem fn_okX {x qual : Str} {st : Stmt} {f : Addr} {fd : FuncData} {N ps : List Str} {k : Nat} {b : DS} {g : DSpX} (F : Fun K x qual st f fd) (S : FnScope N ps (defScope st))
    (hb : ∀ (cdv : Value) (A : Around) (outer : List Env) (s : Shared) (H : Hp) (E : XK), Room k (A.deeper (PyProof.Rows.envOfC qual (defScope st) s.heap.objs.size f cdv)) → SSs ((cxOf (CXE P w) P w K mg base N qual (defScope st) f cdv A outer s H E).wishX E) (defBody st) b)
    (hg : ∀ ds h Q X', g ds h Q X' → runX N.length b ds h (Dr h Q) (DrX h X')) : FnOk P w K mg base (CXE P w) (k + 1) f fd ps (spX K ps.length g) := by
  refine F.okX S (fun vs H Q E h => ?_) fun cdv A outer s H vs Q E hr h => ?_
  · obtain ⟨π, α, h, ds, Q', X', R, r, l, _⟩ := h
    rw [← r.length, l]
  · obtain ⟨π, α, h, ds, Q', X', R, r, l, q, kk, kx⟩ := h
    refine ⟨_, hb cdv A outer s H E hr, π, α, _, h, { nx := fun _ h' => Dr h Q' .non h', rt := Dr h Q', ex := DrX h X' }, R, relS_start r, hg ds h Q' X' q, ⟨fun _ h' α' H' σ' a b c _ => ?_, fun d h' α' H' v a b c d' => ?_, fun _ _ _ _ _ a _ _ _ => a.elim, fun _ _ _ _ _ a _ _ _ => a.elim, fun cn fs h' α' H' C dx a b c d d2 => ?_⟩⟩
    · obtain ⟨d', h2, q, e, R2, r2⟩ := a.rel R b c .non
      exact kk d' h2 α H' .non q e R2 r2
    · obtain ⟨d', h2, q, e, R2, r2⟩ := a.rel R b c d'
      exact kk d' h2 α H' v q e R2 r2
    · obtain ⟨d', h2, q, e, R2, r2⟩ := Dr.rel R b c .non a
      exact kx cn fs h2 α H' C dx q e R2 d (d2.map fun _ _ d2 => ⟨fun z => d2.1 (by obtain ⟨β, hβ, _⟩ := b.pre; rw [hβ]; exact List.mem_append_left _ z), d2.2⟩)
end
section
variable {X : Cx} {k m : Nat} {ps : List Str} {g : DSpX} {x : Str} {p pos : Pos} {e : Expr} {es : List Expr} {n : Nat} {f : DA}
theorem se_calX (c : CalX X.prog X.w X.K X.mg X.base k x ps (spX X.K m g)) (hr : Room k X.A) (hg : Gl X x) (ha : SA X (e :: es) n f) (hn : n = m := by rfl) (hdb : (x == ("__debug__" : Str)) = false := by decide)
    (he : starEach (e :: es) X.env = (false, eval e X.env) :: starEach es X.env := by rfl) (hpl : (backTo pos (starEach es X.env)).any (·.1) = false := by rfl) : SE X (.Call (.Name x p) (e :: es) [] pos) (dCal (fun ds h Q => g ds h Q fun _ _ _ => False) f) := by
  obtain ⟨fa, fd, F, hm, hk, hb⟩ := c.ex
  refine PE.imp (pe_call F hr hg hm hk hb .nil pass0X ha hdb he hpl) fun σ H Q ⟨π, α, δ, h, Q', R, S, f, k⟩ => ?_
  refine ⟨π, α, δ, h, _, R, S, f, fun ds h1 α1 H1 vs f1 e1 R1 q1 l1 => ?_⟩
  show spX X.K m g (vs ++ []) H1 Q E0
  rw [List.append_nil]
  exact ⟨π, α1, h1, ds, Q', _, R1, q1, l1.trans hn, f1, fun d h' α' H' v a b c d' => k d h' α' H' v a (e1.trans b) c d', fun _ _ _ _ _ _ _ a _ _ _ => a.elim⟩
end
noncomputable abbrev DEX := Sl → Hh → DK → DX → Prop
noncomputable def dCalX (g : DSpX) (f : DA) : DEX := fun δ h Q X' => f δ h fun ds h1 => g ds h1 Q X'
noncomputable def dIxX (fa : DEX) (fc : DE) : DEX := fun δ h Q X' => fa δ h (fun x h1 => fc δ h1 fun y h2 => pIx x y h2 Q) X'
noncomputable def dDropX (f : DEX) : DS := fun En δ h => f δ h (fun _ h1 => En.nx δ h1) En.ex
noncomputable def dRetX (f : DEX) : DS := fun En δ h => f δ h En.rt En.ex
section
variable {X : Cx} {E : XK} {k m : Nat} {ps : List Str} {g : DSpX} {x : Str} {p pos : Pos} {e a c : Expr} {es : List Expr} {n : Nat} {f : DA} {fa : DEX} {fc : DE}
end
noncomputable def dRaise (cn : Str) (ns : List Str) (f : DA) : DS := fun En δ h => f δ h fun ds h1 => ∃ is : List Int, ds = is.map D.int ∧ is.length = ns.length ∧ (∀ i ∈ is, i.natAbs.log2 < 1920) ∧ En.ex cn (ns.zip is) h1
section
variable {X : Cx} {E : XK} {k : Nat} {ps ns : List Str} {x : Str} {p pos cpos : Pos} {e : Expr} {es : List Expr} {n : Nat} {f : DA}
end
end DL
namespace DL
open PySem PySem.Spec L2
noncomputable def dTryE (En : DEnds) (j : Nat) : DEnds := { nx := fun δ h => En.nx (δ.set j none) h, rt := En.rt, bk := fun δ h => En.bk (δ.set j none) h, ct := fun δ h => En.ct (δ.set j none) h, ex := En.ex }
noncomputable def dTryS (i : Nat) (g : DSpX) (fa : DA) (cn : Str) (j : Nat) (bh : DS) : DS := fun En δ h => fa δ h fun ds h1 => g ds h1 (fun d h2 => En.nx (δ.set i (some d)) h2) (fun c fs h2 => c = cn ∧ bh (dTryE En j) (δ.set j (some (.exc cn fs))) h2)
noncomputable def dTryD (g : DSpX) (fa : DA) (cn : Str) (j : Nat) (bh : DS) : DS := fun En δ h => fa δ h fun ds h1 => g ds h1 (fun _ h2 => En.nx δ h2) (fun c fs h2 => c = cn ∧ bh (dTryE En j) (δ.set j (some (.exc cn fs))) h2)
theorem RelS.unset {K : KP} {α : List Addr} {H : Hp} {δ : Sl} {σ : L2.St} (r : RelS K α H δ σ) (j : Nat) : RelS K α H (δ.set j none) (σ.set j none) := by
  refine ⟨by simp [r.len], fun i d q => ?_⟩
  by_cases z : j = i
  · subst z
    have hi : j < δ.length := by
      have := (List.getElem?_eq_some_iff.mp q).1
      simpa using this
    rw [List.getElem?_set_self hi] at q
    cases q
  · rw [List.getElem?_set_ne z] at q
    obtain ⟨w, h1, h2⟩ := r.get i d q
    exact ⟨w, by rw [List.getElem?_set_ne z]; exact h1, h2⟩
structure CatchX (K : PySem.W.Frag) (mg : Str → Option Value) (cx cn : Str) : Prop where
  ex : ∃ CB, mg cx = some (.ref CB) ∧ ∀ C, PySem.W.nsIn K mainGlobals cn = some (some (.ref C)) → PySem.W.exmOne K (.ref C) (.ref CB) = some true
section
variable {K : PySem.W.Frag} {Ex : XK} {π α : List Addr} {H : Hp} {δ : Sl} {σ : L2.St} {h : Hh} {En : DEnds} {F : Ends} {CB : Addr} {cn : Str} {j : Nat} {bh : DS}
theorem try_link (hex : ∀ C, PySem.W.nsIn K mainGlobals cn = some (some (.ref C)) → PySem.W.exmOne K (.ref C) (.ref CB) = some true) (S : RelS ⟨K, π⟩ α H δ σ) (k : EndsOk ⟨K, π⟩ Ex α H En F) :
    ∀ c fs h2 α2 H2 C dx, (c = cn ∧ bh (dTryE En j) (δ.set j (some (.exc cn fs))) h2) → Ext α H α2 H2 → HRel ⟨K, π⟩ α2 H2 h2 → PySem.W.nsIn K mainGlobals c = some (some (.ref C)) → XQ ⟨K, π⟩ α2 H2 dx fs →
      ∃ C' d, Value.ref C = .ref C' ∧ dx = d ∧ PySem.W.exmOne K (.ref C) (.ref CB) = some true ∧ ∀ a, H2 a = none → LS K Ex bh { nx := fun σ' H'' => F.nx (σ'.set j none) H'', rt := F.rt, bk := fun σ' H'' => F.bk (σ'.set j none) H'', ct := fun σ' H'' => F.ct (σ'.set j none) H'' } (σ.set j (some (.ref a))) (upd H2 a (.ext (xAny C' d a))) := by
  rintro c fs h2 α2 H2 C dx ⟨rfl, b⟩ e2 R2 hns hve
  refine ⟨C, dx, rfl, rfl, hex C hns, fun a ha => ?_⟩
  have e3 : Ext α2 H2 α2 (upd H2 a (.ext (xAny C dx a))) := Ext.new ha
  have k2 := k.mono (e2.trans e3)
  refine ⟨π, α2, _, h2, dTryE En j, R2.new ha, ((S.mono (e2.trans e3)).set j (.exc hns ⟨R2.out ha, R2.outP ha, upd_same⟩ (hve.map fun _ _ z => z.mono e3))), b, ⟨fun δ' h' α' H' σ' x y z w => ?_, k2.rt, fun δ' h' α' H' σ' x y z w => ?_, fun δ' h' α' H' σ' x y z w => ?_, k2.ex⟩⟩
  · exact k2.nx _ h' α' H' _ x y z (w.unset j)
  · exact k2.bk _ h' α' H' _ x y z (w.unset j)
  · exact k2.ct _ h' α' H' _ x y z (w.unset j)
end
section
variable {X : Cx} {k m : Nat} {ps : List Str} {g : DSpX} {x cx cn n : Str} {p pos cpos cp hpos tpos : Pos} {e : Expr} {es : List Expr} {l : Nat} {fa : DA} {b₀ : Stmt} {suite : List Stmt} {bh : DS} {j : Nat}
theorem s_tryD (hst : X.stack = X.env :: X.outer ∧ X.env.frame = some X.env.locals) (hxe : ∀ e s, ¬ X.xe e s) (hN : X.N.Nodup) (hj : X.N[j]? = some n) (hk : X.env.kindOf n = some .local)
    (c : CalX X.prog X.w X.K X.mg X.base k x ps (spX X.K m g)) (hr : Room k X.A) (hg : Gl X x) (ha : SA X (e :: es) l fa) (hc : CatchX X.K X.mg cx cn) (hgc : Gl X cx) (hB : ∀ a, SSs (X.hnd a) (b₀ :: suite) bh) (hl : l = m := by rfl) (hdb : (x == ("__debug__" : Str)) = false := by decide) (hdc : (cx == ("__debug__" : Str)) = false := by decide)
    (he : starEach (e :: es) X.env = (false, eval e X.env) :: starEach es X.env := by rfl) (hpl : (backTo cpos (starEach es X.env)).any (·.1) = false := by rfl) (hs : swapsWith (.Call (.Name x p) (e :: es) [] cpos) none pos.line X.env = pure false := by rfl)
    (hf2 : X.fn n = true ∨ X.env.scope.names.lookup n = some .local := by trivial) :
    SS X (.Try [.Expr (.Call (.Name x p) (e :: es) [] cpos) pos] [.ExceptHandler (some (.Name cx cp)) (some n) (b₀ :: suite) hpos] [] [] tpos) (dTryD g fa cn j bh) := by
  obtain ⟨CB, hmc, hex⟩ := hc.ex
  obtain ⟨f, fd, F, hm, hkp, hb⟩ := c.ex
  refine PS.imp (ps_try (th := LS X.K X.ex9 bh) hst hxe (psx_expr (pex_call F hr hg hm hkp hb ha hdb he hpl) hs) hgc hmc hN hj hk hB hf2 hdc) fun F σ H ⟨π, α, δ, h, En, R, S, q, k⟩ => ?_
  refine ⟨π, α, δ, h, _, R, S, q, fun ds h1 α1 H1 vs f1 e1 R1 q1 l1 => ?_⟩
  exact ⟨π, α1, h1, ds, _, _, R1, q1, l1.trans hl, f1, fun d h' α' H' v a b c d' => k.nx _ h' α' H' _ a (e1.trans b) c (S.mono (e1.trans b)), try_link hex (S.mono e1) (k.mono e1)⟩
end
end DL
namespace L2
open PySem PySem.Spec PyProof.Rows DL
structure XIs (K : PySem.W.Frag) (C : Addr) : Prop where
  cls : ∃ nm q N bs bm sn sub ab col dd k0 k1 k2 k3 k5, K.lookup C = some (excClassObj nm q C N bs bm true sn sub ab col dd k0 k1 k2 k3 k5 "ValueError.__new__") ∧ PySem.W.tailIn K bmV bm = true
  ga : PySem.W.findIn K (.ref C) "__getattribute__" = some (some (.builtin "BaseException.__getattribute__"))
  gg : PySem.W.findIn K (.ref C) "__getattr__" = some none
  cl : PySem.W.findIn K (.ref C) "__class__" = some (some (.builtin "object.__class__"))
  cg : PySem.W.specialIn K (.builtin "object.__class__") "__get__" = some (some (.builtin "getset_descriptor.__get__"))
  ct : PySem.W.takesIn K (.builtin "object.__class__") = some true
  mo : PySem.W.mroIn K C (.type "object") = some true
section
variable {K : PySem.W.Frag} {C f x : Addr} {ox : Obj} {od : Option Obj}
theorem XIs.cls_in (c : XIs K C) : ∃ cd, PySem.W.clsIn K C = some cd ∧ cd.hasDict = true := by
  obtain ⟨nm, q, N, bs, bm, sn, sub, ab, col, dd, k0, k1, k2, k3, k5, lC, _⟩ := c.cls
  exact ⟨_, by unfold PySem.W.clsIn; rw [lC], rfl⟩
theorem findObj_dataO {name : Str} {a g : Value} (hc : (PySem.W.clsIn K C).isSome = true) (ha : PySem.W.findIn K (.ref C) name = some (some a)) (hg : PySem.W.specialIn K a "__get__" = some (some g)) (ht : PySem.W.takesIn K a = some true) : PySem.W.findObj K C od name = some (.bind g a) := by
  obtain ⟨cd, hc⟩ := Option.isSome_iff_exists.mp hc
  unfold PySem.W.findObj
  rw [hc, Option.bind_some, ha, Option.bind_some]
  simp [hg, ht]
theorem kitx_exc (c : XIs K C) : PySem.W.KitX K (.ref x) (.ref C) (fun h => PySem.W.InstAt h x ox C od) where
  ty := fun _ _ _ I => I.type
  it := fun _ _ X _ => by
    obtain ⟨nm, q, N, bs, bm, sn, sub, ab, col, dd, k0, k1, k2, k3, k5, lC, _⟩ := c.cls
    intro A' Q' E' s' k q
    unfold isType loadHead
    exact wpAny_bind (wpAny_loadPart (k _ _ (X _ _ lC)) (wpAny_pure q))
  ne := fun h tp dd its n sl X htp => by
    obtain ⟨nm, q, N, bs, bm, sn, sub, ab, col, dd, k0, k1, k2, k3, k5, lC, _⟩ := c.cls
    refine Bool.eq_false_iff.mpr fun q => ?_
    have e : C = tp := Value.ref.inj (beq_iff_eq.mp q)
    subst e
    have z := (X _ _ lC).symm.trans htp
    exact absurd (Value.type.inj (congrArg Obj.cls (Option.some.inj z))) (by decide)
  ca := fun {prog w A E Q s} X I k => by
    obtain ⟨nm, q, N, bs, bm, sn, sub, ab, col, dd, k0, k1, k2, k3, k5, lC, hT⟩ := c.cls
    obtain ⟨cd, hcd, _⟩ := c.cls_in
    obtain ⟨hp, g, d, t, os⟩ := s
    exact xl_class X (X _ _ lC) (PySem.W.tail_of_in X hT) c.ga c.gg I (findObj_dataO (by rw [hcd]; rfl) c.cl c.cg c.ct) c.mo k
end
theorem exc_at {P : Program} {w : World} {H : Hp} {h : Heap} {a C d : Addr} {fs : List (Str × Int)} (hok : HOk P w H h) (ha : H a = some (.ext (xAny C (some d) a))) (hd : H d = some (.ext (xDict fs d))) :
    ∃ ox od, PySem.W.InstAt h a ox C (some od) ∧ ∀ name, ∃ r, PySem.W.lookIn name od = some r ∧ RelO ((fs.lookup name).map V.int) r := by
  obtain ⟨⟨o, vs, z1, z2, z3, z4⟩, _⟩ := hok _ _ ha
  obtain ⟨⟨mA, hns, _, hr⟩, _⟩ := hok _ _ hd
  obtain ⟨od, ho, hl⟩ := lookIn_ns hns
  refine ⟨o, od, ⟨z1, z2, ?_, by rw [z3]; exact ho⟩, fun name => ⟨mA name, hl name, hr name⟩⟩
  unfold PySem.W.notCls
  rw [z4]
theorem exc_atO {P : Program} {w : World} {H : Hp} {h : Heap} {a C : Addr} {d : Option Addr} (hok : HOk P w H h) (ha : H a = some (.ext (xAny C d a))) (hd : ∀ d', d = some d' → ∃ fs, H d' = some (.ext (xDict fs d'))) : ∃ ox od, PySem.W.InstAt h a ox C od := by
  cases d with
  | none =>
    obtain ⟨⟨o, vs, z1, z2, z3, z4⟩, _⟩ := hok _ _ ha
    refine ⟨o, none, z1, z2, ?_, by rw [z3]; trivial⟩
    unfold PySem.W.notCls
    rw [z4]
  | some d =>
    obtain ⟨fs, hd⟩ := hd d rfl
    obtain ⟨ox, od, J, _⟩ := exc_at hok ha hd
    exact ⟨ox, some od, J⟩
section
variable {X : Cx}
theorem call_isinstX : CallR X (.builtin "isinstance") (fun xs H Q => ∃ a d C v u b, xs = [.ref a, v] ∧ H a = some (.ext (xAny C d a)) ∧ (∀ d', d = some d' → ∃ fs, H d' = some (.ext (xDict fs d'))) ∧ XIs X.K C ∧ PySem.W.kitOne X.K (.ref C) u = some b ∧ (∀ u', RelV v u' → u' = u) ∧ Q (.bl b) H) := by
  intro pins s σ H xs us Q I r h
  obtain ⟨a, d, C, v, u, b, rfl, ha, hd, c, e, hu, q⟩ := h
  obtain ⟨u1, u2, rfl, ru, rw'⟩ := vals2 r
  cases ru
  obtain rfl := hu _ rw'
  obtain ⟨ox, od, J⟩ := exc_atO I.hok ha hd
  exact PySem.W.kia_one (kitx_exc c) I.kIn J e (fun z => nomatch z) fun tk => ⟨.bl b, H, I.tok _, rfl, q⟩
end
end L2
namespace DL
open PySem PySem.Spec L2
theorem XQ.dict {K : KP} {α : List Addr} {H : Hp} {dx : Option Addr} {fs : List (Str × Int)} (h : XQ K α H dx fs) : ∀ d', dx = some d' → ∃ fs, H d' = some (.ext (xDict fs d')) := by
  rintro d' rfl
  rcases h with ⟨h, _⟩ | ⟨d, e, v⟩
  · cases h
  · cases e; exact ⟨fs, v.2.2⟩
noncomputable def dIsX (cn : Str) (b : Bool) (fa : DE) : DE := fun δ h Q => fa δ h fun d h1 => match d with | .exc c _ => c = cn ∧ Q (.bl b) h1 | _ => False
noncomputable def dXA (cn name : Str) (fa : DE) : DE := fun δ h Q => fa δ h fun d h1 => match d with | .exc c fs => c = cn ∧ (match fs.lookup name with | some i => Q (.int i) h1 | none => False) | _ => False
structure ClassX (K : PySem.W.Frag) (cn : Str) : Prop where
  ex : ∃ C, PySem.W.nsIn K mainGlobals cn = some (some (.ref C)) ∧ XIs K C
structure IsX (K : PySem.W.Frag) (cn : Str) (u : Value) (b : Bool) : Prop where
  ex : ∃ C, PySem.W.nsIn K mainGlobals cn = some (some (.ref C)) ∧ PySem.W.kitOne K (.ref C) u = some b
section
variable {X : Cx} {cn : Str} {b : Bool} {a t : Expr} {fa : DE} {p pos : Pos} {u : Value} {v : V}
theorem se_isX (hg : Gl X "isinstance") (hm : X.mg "isinstance" = none) (c : ClassX X.K cn) (i : IsX X.K cn u b) (ha : SE X a fa) (ht : PE X t (tC v)) (hv : ∀ u', RelV v u' → u' = u)
    (he : starEach [a, t] X.env = (false, eval a X.env) :: starEach [t] X.env := by rfl) (he2 : starEach [t] X.env = (false, eval t X.env) :: starEach [] X.env := by rfl) (hpl : (backTo pos (starEach [t] X.env)).any (·.1) = false := by rfl) :
    SE X (.Call (.Name "isinstance" p) [a, t] [] pos) (dIsX cn b fa) := PE.imp (pe_callB call_isinstX hg hm PyProof.Rows.boot_isinstance (pa_cons ha (pa_cons ht pa_nil he2) he) (by decide) (by decide) he hpl) fun σ H Q ⟨π, α, δ, h, Q', R, S, f, k⟩ => by
  obtain ⟨C, hns, cl⟩ := c.ex
  obtain ⟨C', hns', e⟩ := i.ex
  rw [hns] at hns'; cases hns'
  refine ⟨π, α, δ, h, _, R, S, f, fun d h1 α1 H1 v1 f1 e1 R1 q1 => ?_⟩
  cases q1 with
  | @exc a' C2 dx cn2 fs n2 va vd =>
    obtain ⟨rfl, f1⟩ := f1
    rw [hns] at n2; cases n2
    exact ⟨a', dx, C, v, u, b, rfl, va.2.2, vd.dict, cl, e, hv, k _ h1 α1 H1 _ f1 e1 R1 (.bl _)⟩
  | _ => exact f1.elim
theorem se_isN {x : Str} {p2 : Pos} (hg : Gl X "isinstance") (hm : X.mg "isinstance" = none) (c : ClassX X.K cn) (i : ∃ CX, X.mg x = some (.ref CX) ∧ IsX X.K cn (.ref CX) b) (hx : Gl X x) (ha : SE X a fa) (hdb : (x == ("__debug__" : Str)) = false := by decide)
    (he : starEach [a, .Name x p2] X.env = (false, eval a X.env) :: starEach [.Name x p2] X.env := by rfl) (he2 : starEach [.Name x p2] X.env = (false, eval (.Name x p2) X.env) :: starEach [] X.env := by rfl) (hpl : (backTo pos (starEach [.Name x p2] X.env)).any (·.1) = false := by rfl) :
    SE X (.Call (.Name "isinstance" p) [a, .Name x p2] [] pos) (dIsX cn b fa) := by
  obtain ⟨CX, h1, h2⟩ := i
  exact se_isX hg hm c h2 ha (pe_glob (v := .ref CX) hx h1 rfl hdb) (fun _ h => h) he he2 hpl
theorem boot_ValueError : bootBuiltins "ValueError" = some (.type "ValueError") := by kernel_rfl
theorem se_isV {p2 : Pos} (hg : Gl X "isinstance") (hm : X.mg "isinstance" = none) (c : ClassX X.K cn) (i : IsX X.K cn (.type "ValueError") b) (hx : Gl X "ValueError") (hv : X.mg "ValueError" = none) (ha : SE X a fa)
    (he : starEach [a, .Name "ValueError" p2] X.env = (false, eval a X.env) :: starEach [.Name "ValueError" p2] X.env := by rfl) (he2 : starEach [.Name "ValueError" p2] X.env = (false, eval (.Name "ValueError" p2) X.env) :: starEach [] X.env := by rfl) (hpl : (backTo pos (starEach [.Name "ValueError" p2] X.env)).any (·.1) = false := by rfl) :
    SE X (.Call (.Name "isinstance" p) [a, .Name "ValueError" p2] [] pos) (dIsX cn b fa) := se_isX hg hm c i ha (pe_bltn (v := .ty "ValueError") hx hv boot_ValueError rfl) (fun _ h => h) he he2 hpl
end
end DL
namespace L2
open PySem PySem.Spec PyProof.Rows
open Sem (wp)
section
variable {prog : Program} {w : World} {A : Around} {E : Value → Shared → Prop} {h : Heap} {g : Array GenState} {d : Drawn} {t : Nat} {os : OsState}
variable {nm q : Str} {C N : Addr} {bs bm bmB : List Value} {hdct : Bool} {sn : List Str} {sub : List Value} {ab : Bool} {col : Option Bool} {dd : Option Addr} {k0 k1 k2 k3 k5 : Option Value} {B Bn newId nid initId inN : String} {bmN : List Value}
theorem type_call0 (Fn : ExcBaseFacts Bn newId inN bmN) (hBn : bmB.contains (.type Bn) = true) (F : ExcBaseFacts B nid initId bmB) (T : OwnTail h bmB bm) {mN : Str → Option Value} {rest : List Value} {Q : Fin → Shared → Prop}
    (hC : h.get? C = some (excClassObj nm q C N bs bm hdct sn sub ab col dd k0 k1 k2 k3 k5 newId)) (hn : h.Ns N mN) (hi : mN "__init__" = none)
    (hq : ∀ h' e, Heap.MadeExcOf h h' e (.ref C) rest → h.objs.size ≤ e → Q (.done (.ret (.ref e))) ⟨h', g, d, t, os⟩) (hrest : rest.length ≤ sizeLine := by size_fits) :
    wpAny (model prog w) A (Builtin.«type.__call__» ⟨.ref C :: rest, []⟩) Q E ⟨h, g, d, t, os⟩ := by
  repeat (first | with_reducible refine wpAny_loadPart_at hC ?_ | with_reducible refine wpAny_madeBy_exc hC ?_ | wp_step)
  refine codeAny_call_builtin_code (Code.quiet_builtin _ Fn.quiet) (wpAny_check_new_subU Fn hBn T hC ?_)
  refine codeAny_exc_new_subU Fn hBn F T hC ?_ hrest
  show wpAny _ _ _ _ _ _
  have up : ∀ b o, h.get? b = some o → ((h.push { cls := .type "tuple", data := .seq rest.toArray }).push { cls := .ref C, data := .fields #[.ref h.objs.size, .none, .none, .none, .bool false, .none] }).get? b = some o := fun b o e => Heap.get?_push_of_some _ (Heap.get?_push_of_some _ e)
  have hC₁ := up _ _ hC
  have hn₁ : ((h.push { cls := .type "tuple", data := .seq rest.toArray }).push { cls := .ref C, data := .fields #[.ref h.objs.size, .none, .none, .none, .bool false, .none] }).Ns N mN :=
    let ⟨o, es, ep, e, r⟩ := hn; ⟨o, es, ep, up _ _ e, r⟩
  have hget : ((h.push { cls := .type "tuple", data := .seq rest.toArray }).push
      { cls := .ref C, data := .fields #[.ref h.objs.size, .none, .none, .none, .bool false, .none] }).get? (h.objs.size + 1) = some
      { cls := .ref C, data := .fields #[.ref h.objs.size, .none, .none, .none, .bool false, .none] } := by heap_get
  have hcC : (Value.ref C :: bm).contains (.ref C) = true := by simp
  have T₁ := T.keeps up
  unfold isInstance
  repeat (first | with_reducible refine wpAny_loadPart_at hget ?_ | (with_reducible refine wpAny_isSubtype_exc hC₁ ?_; rw [hcC]) | wp_step)
  show wpAny _ _ (typeLookup (.ref C) _) _ _ _
  refine wpAny_typeLookup_tail hC₁ hn₁ T₁ F.mroIs F.init.lookup ?_
  rw [hi]
  refine wpAny_holding (wpAny_bind (wpAny_of_eq (F.init.bind _) ?_))
  refine wpAny_bind (wpAny_call (codeAny_call_builtin F.init.plain F.initEntry (wpAny_check_init_subU F T₁ hC₁ hget rfl ?_)))
  wp_walk
  refine hq _ (h.objs.size + 1) ⟨fun b o hb => ?_, Heap.get?_none_of_le (Nat.le_succ _), h.objs.size + 2, ?_, Heap.get?_none_of_le (by omega), ?_⟩ (Nat.le_succ _)
  · rw [Heap.get?_update_other _ _ (Nat.ne_of_gt (Nat.lt_succ_of_lt (Heap.lt_size hb)))]
    exact Heap.get?_push_of_some _ (up _ _ hb)
  · rw [Heap.get?_update_self _ (Heap.get?_push_of_some _ hget) rfl]
    simp only [Heap.size_push]
    rfl
  · rw [Heap.get?_update_other _ _ (show h.objs.size + 1 ≠ h.objs.size + 2 by omega)]
    exact Heap.get?_push_at (by simp only [Heap.size_push]) rfl
theorem call0 (Fn : ExcBaseFacts Bn newId inN bmN) (hBn : bmB.contains (.type Bn) = true) (F : ExcBaseFacts B nid initId bmB) (T : OwnTail h bmB bm) {mN : Str → Option Value} {rest : List Value} {Q : Value → Shared → Prop}
    (hC : h.get? C = some (excClassObj nm q C N bs bm hdct sn sub ab col dd k0 k1 k2 k3 k5 newId)) (hn : h.Ns N mN) (hi : mN "__init__" = none)
    (hq : ∀ h' e, Heap.MadeExcOf h h' e (.ref C) rest → h.objs.size ≤ e → Q (.ref e) ⟨h', g, d, t, os⟩) (hrest : rest.length ≤ sizeLine := by size_fits) :
    wpAny (model prog w) A (call (.ref C) rest) Q E ⟨h, g, d, t, os⟩ := by
  have f1 := tc_lookup
  have f2 := tc_bind (.ref C)
  have hT : (⟨h, g, d, t, os⟩ : Shared).TypeIs (.ref C) "type" := ⟨_, hC, rfl⟩
  refine wpAny_call (codeAny_of_tree ?_)
  show wpAny _ _ (callAny (.ref C) _) _ _ _
  repeat (any_goals (first | assumption | with_reducible refine wpAny_loadPart_at hC ?_ | wp_step))
  refine ⟨rfl, ?_⟩
  refine codeAny_call_builtin_at (Code.quiet_builtin _ (by decide +kernel)) entry_typeCall (wpAny_check_type_call_sub hC (type_call0 (hrest := hrest) Fn hBn F T hC hn hi fun h' e hm he => ?_))
  exact hq h' e hm he
end
theorem ns_none_of {K : PySem.W.Frag} {h : Heap} {N : Addr} {mg : Str → Option Value} {n : Str} (X : K.In h) (G : h.Ns N mg) (e : PySem.W.nsIn K N n = some none) : mg n = none := by
  obtain ⟨o, es, ep, ho, hd, _, hf⟩ := G
  unfold PySem.W.nsIn at e
  split at e
  · rename_i c d es' n' sl q
    have := X _ _ q
    rw [ho] at this
    cases this
    cases hd
    split at e
    · cases e
    · rename_i he
      rw [← hf]
      unfold nsFind findBy
      rw [← Array.find?_toList, he]
      rfl
  · cases e
structure XCls0 (K : PySem.W.Frag) (C : Addr) : Prop where
  cls : ∃ nm q N bs bm sn sub ab col dd k0 k1 k2 k3 k5, K.lookup C = some (excClassObj nm q C N bs bm true sn sub ab col dd k0 k1 k2 k3 k5 "ValueError.__new__") ∧ PySem.W.tailIn K bmV bm = true ∧ PySem.W.nsOkIn K N = true ∧ PySem.W.nsIn K N "__init__" = some none
noncomputable def tRaise0 (C : Addr) (E : XK) (t : TA) : TS := fun _ σ H => t σ H fun vs H1 => vs.length ≤ 100 ∧ E (.ref C) none H1
section
variable {X : Cx} {E : XK} {k : Nat} {C : Addr} {x : Str} {p pos cpos : Pos} {e : Expr} {t : TA}
theorem ps_raise0 (c : XCls0 X.K C) (hr : Room k X.A) (hg : Gl X x) (hm : X.mg x = some (.ref C))
    (ha : PA (X.wishX E) [e] t) (hdb : (x == ("__debug__" : Str)) = false := by decide) (he : starEach [e] X.env = (false, eval e X.env) :: starEach [] X.env := by rfl) (hpl : (backTo cpos (starEach [e] X.env)).any (·.1) = false := by rfl) :
    PS (X.wishX E) (.Raise (some (.Call (.Name x p) [e] [] cpos)) none pos) (tRaise0 C E t) := by
  intro pins s σ H D I h
  obtain ⟨nm, q, N, bs, bm, sn, sub, ab, col, dd, k0, k1, k2, k3, k5, lC, hT, hok, hi⟩ := c.cls
  have hbase : bm.contains (.type "BaseException") = true := (PySem.W.tail_of_in I.kIn hT).hasType (by decide +kernel)
  refine raise_call (C := C) (nm := nm) (q := q) (N := N) (bs := bs) (bm := bm) (hdct := true) (sn := sn) (sub := sub) (ab := ab) (col := col) (dd := dd) (k0 := k0) (k1 := k1) (k2 := k2) (k3 := k3) (k5 := k5) (newId := "ValueError.__new__") hbase hr.hd hpl ?_
  refine ld_glob (X := X.wishX E) I hg hm ⟨rfl, ?_⟩ hdb
  have hA := ha cpos pins s σ H _ I h
  rw [he] at hA ⊢
  refine Calls.evalArgs_plain (thn hA fun us s1 ⟨vs, H1, I1, r1, q1⟩ => ⟨rfl, I1.kIn _ _ lC, ?_⟩)
  have KX : X.K.In s1.heap := I1.kIn
  have T := PySem.W.tail_of_in KX hT
  have Ns : s1.heap.Ns N (s1.heap.nsMap N) := .of_isNs (PySem.W.isNs_of_in KX hok)
  have hi' : s1.heap.nsMap N "__init__" = none := ns_none_of KX Ns hi
  obtain ⟨hp, g, d, tk, os⟩ := s1
  have FV := _root_.PySem.F.excBase_ValueError
  refine call0 (mN := hp.nsMap N) FV (by decide +kernel) FV T (KX _ _ lC) Ns hi' (fun h' e' hm' hle => ?_) (by rw [← r1.length]; exact Nat.le_trans q1.1 (by decide))
  obtain ⟨t0, ht, _⟩ := hm'.there
  refine ⟨e', none, .ref t0, #[], rfl, hm'.keeps _ _ (KX _ _ lC), ht, ?_⟩
  have I2 := I1.kept (t' := tk) (fun b o e => hm'.keeps b o e)
  exact ⟨e', .ref C, none, none, .none, σ, H1, rfl, I2.unwishX.unpin, ⟨⟨_, _, ht, rfl, rfl, rfl, rfl⟩, (fun t h => nomatch h)⟩, (I1.unwishX.away hle).unpin, I1.hok.fresh hle, (fun t h => nomatch h), .inl rfl, q1.2⟩
end
end L2
namespace DL
open PySem PySem.Spec L2
structure RaiseX0 (K : PySem.W.Frag) (mg : Str → Option Value) (x : Str) : Prop where
  ex : ∃ C, mg x = some (.ref C) ∧ PySem.W.nsIn K mainGlobals x = some (some (.ref C)) ∧ XCls0 K C
noncomputable def dRaise0 (cn : Str) (js : List Nat) : DS := fun En δ h => (∀ j ∈ js, ∃ a : Int, δ[j]? = some (some (.int a)) ∧ a.natAbs.log2 < 1920) ∧ En.ex cn [] h
section
variable {X : Cx} {E : XK} {k n : Nat} {x : Str} {p pos p2 cpos : Pos} {e e2 : Expr} {rest : List Expr} {t : L2.St → Hp → Prop} {js : List Nat}
theorem s_raise0 (c : RaiseX0 X.K X.mg x) (hr : Room k X.A) (hg : Gl X x) (hj : PJ (X.wishX E) (e :: e2 :: rest) n t) (hjs : ∀ σ H, (∀ j ∈ js, ∃ a : Int, σ[j]? = some (some (V.int a)) ∧ a.natAbs.log2 < 1920) → t σ H) (hn : n ≤ 1000000 := by decide) (hdb : (x == ("__debug__" : Str)) = false := by decide)
    (he : starEach [.JoinedStr (e :: e2 :: rest) p2] X.env = (false, eval (.JoinedStr (e :: e2 :: rest) p2) X.env) :: starEach [] X.env := by rfl) (hpl : (backTo cpos (starEach [.JoinedStr (e :: e2 :: rest) p2] X.env)).any (·.1) = false := by rfl) :
    SS (X.wishX E) (.Raise (some (.Call (.Name x p) [.JoinedStr (e :: e2 :: rest) p2] [] cpos)) none pos) (dRaise0 x js) := by
  obtain ⟨C, hbd, hns, cl⟩ := c.ex
  refine PS.imp (ps_raise0 (X := X) (E := E) cl hr hg hbd (pa_cons (pe_joined hj hn) pa_nil he) hdb he hpl) fun F' σ H ⟨π, α, δ, h, En, R, S, q, k⟩ => ?_
  refine ⟨hjs σ H fun j hj' => ?_, fun txt => ⟨(show 1 ≤ 100 by decide), k.ex x [] h α H C none q.2 (Ext.refl ..) R hns (.inl ⟨rfl, rfl⟩)⟩⟩
  obtain ⟨a, ha, hb⟩ := q.1 j hj'
  obtain ⟨v, h1, h2⟩ := S.get j _ ha
  cases h2
  exact ⟨a, h1, hb⟩
end
end DL
namespace L2
open PySem PySem.Spec PyProof.Rows DL
section
variable {X : Cx}
theorem call_isinstT : CallR X (.builtin "isinstance") (fun xs H Q => ∃ a d C tp vs b, xs = [.ref a, .ref tp] ∧ H a = some (.ext (xAny C d a)) ∧ (∀ d', d = some d' → ∃ fs, H d' = some (.ext (xDict fs d'))) ∧ XIs X.K C ∧ H tp = some (.tup vs) ∧ (∀ us, Vals vs us → PySem.W.kitAny X.K (.ref C) us = some b) ∧ Q (.bl b) H) := by
  intro pins s σ H xs us Q I r h
  obtain ⟨a, d, C, tp, vs, b, rfl, ha, hd, c, ht, e, q⟩ := h
  obtain ⟨u1, u2, rfl, ru, rw'⟩ := vals2 r
  cases ru
  cases rw'
  obtain ⟨ox, od, J⟩ := exc_atO I.hok ha hd
  obtain ⟨_, its, rv, ⟨o, ho, hc, n, hdat⟩⟩ := I.hok _ _ ht
  obtain ⟨ocls, odict, odata, oslots⟩ := o
  simp only at hc hdat
  subst hc; subst hdat
  exact PySem.W.kia_tup (kitx_exc c) I.kIn J ho (e its rv) (fun z => nomatch z) fun tk => ⟨.bl b, H, I.tok _, rfl, q⟩
noncomputable def rInsert : V → List V → Hp → VK → Prop := fun x vs H Q => ∃ l xs i y, x = .ref l ∧ vs = [.int i, y] ∧ H l = some (.lst xs) ∧ 0 ≤ i ∧ i.toNat ≤ xs.length ∧ xs.length < 16777216 ∧ Q .non (upd H l (.lst (xs.take i.toNat ++ y :: xs.drop i.toNat)))
theorem Vals.ins : ∀ {xs : List V} {us : List Value} (n : Nat) {y : V} {u : Value}, Vals xs us → RelV y u → Vals (xs.take n ++ y :: xs.drop n) (us.take n ++ u :: us.drop n)
  | xs, us, 0, _, _, r, q => .cons q r
  | _, _, n + 1, _, _, .nil, q => .cons q .nil
  | _, _, n + 1, _, _, .cons h t, q => .cons h (Vals.ins n t q)
theorem mt_insert : MtM X "list.insert" rInsert := by
  intro pins s σ H x vs v us Q I rx rv h
  obtain ⟨l, xs, i, y, rfl, rfl, hH, h0, hi, hz, q⟩ := h
  cases rx
  obtain ⟨u1, u2, rfl, r1, r2⟩ := vals2 rv
  obtain ⟨t, rfl⟩ := r1
  obtain ⟨z, its, n, r, hl, e⟩ := I.lstM hH
  have hf : ¬ (!Builtin.List.listFitsIndex i) = true := by rw [fitsIndex_both (by omega) (by omega)]; simp
  have hlen : its.toArray.size = xs.length := by rw [List.size_toArray]; exact hl.symm
  refine call_meets PySem.F.slot_list_insert ⟨_, e, rfl⟩ PySem.F.entry_list_insert (PySem.F.args_list_insert_3 _ _ _) (PySem.AutoListH.list_insert_list_int_val_1 l its.toArray n i t u2 hf (by rw [hlen, sizeLine_eq]; omega)) ⟨e, ?_⟩
  refine ⟨.non, _, I.lset (its' := its.take i.toNat ++ u2 :: its.drop i.toNat) hH e ?_ (r.ins i.toNat r2) ?_, rfl, q⟩
  · dsimp only
    rw [if_neg (by omega), hlen, Nat.min_eq_left hi]
    apply Array.toList_inj.mp
    simp [List.extract_eq_take_drop, List.take_of_length_le]
    exact List.take_of_length_le (by rw [List.length_drop]; omega)
  · rw [List.length_append, List.length_cons, List.length_take, List.length_drop, sizeLine_eq]
    omega
end
end L2
namespace DL
open PySem PySem.Spec L2
section
variable {X : Cx} {cn : Str} {a : Expr} {fa : DE} {p pos : Pos} {x1 x2 x3 : Str} {p1 p2 p3 tpos : Pos} {ctx : Nat}
theorem kit3 {K : PySem.W.Frag} {t c1 c2 c3 : Value} (h1 : PySem.W.kitOne K t c1 = some false) (h2 : PySem.W.kitOne K t c2 = some false) (h3 : PySem.W.kitOne K t c3 = some false) : PySem.W.kitAny K t [c1, c2, c3] = some false := by
  simp only [PySem.W.kitAny, h1, h2, h3]
theorem se_isT (hg : Gl X "isinstance") (hm : X.mg "isinstance" = none) (c : ClassX X.K cn) (i1 : ∃ CX, X.mg x1 = some (.ref CX) ∧ IsX X.K cn (.ref CX) false) (i2 : ∃ CX, X.mg x2 = some (.ref CX) ∧ IsX X.K cn (.ref CX) false) (i3 : ∃ CX, X.mg x3 = some (.ref CX) ∧ IsX X.K cn (.ref CX) false)
    (g1 : Gl X x1) (g2 : Gl X x2) (g3 : Gl X x3) (ha : SE X a fa) (d1 : (x1 == ("__debug__" : Str)) = false := by decide) (d2 : (x2 == ("__debug__" : Str)) = false := by decide) (d3 : (x3 == ("__debug__" : Str)) = false := by decide)
    (s1 : starEach [.Name x1 p1, .Name x2 p2, .Name x3 p3] X.env = (false, eval (.Name x1 p1) X.env) :: starEach [.Name x2 p2, .Name x3 p3] X.env := by rfl) (s2 : starEach [.Name x2 p2, .Name x3 p3] X.env = (false, eval (.Name x2 p2) X.env) :: starEach [.Name x3 p3] X.env := by rfl) (s3 : starEach [.Name x3 p3] X.env = (false, eval (.Name x3 p3) X.env) :: starEach [] X.env := by rfl)
    (he : starEach [a, .Tuple [.Name x1 p1, .Name x2 p2, .Name x3 p3] ctx tpos] X.env = (false, eval a X.env) :: starEach [.Tuple [.Name x1 p1, .Name x2 p2, .Name x3 p3] ctx tpos] X.env := by rfl)
    (he2 : starEach [.Tuple [.Name x1 p1, .Name x2 p2, .Name x3 p3] ctx tpos] X.env = (false, eval (.Tuple [.Name x1 p1, .Name x2 p2, .Name x3 p3] ctx tpos) X.env) :: starEach [] X.env := by rfl) (hpl : (backTo pos (starEach [.Tuple [.Name x1 p1, .Name x2 p2, .Name x3 p3] ctx tpos] X.env)).any (·.1) = false := by rfl) :
    SE X (.Call (.Name "isinstance" p) [a, .Tuple [.Name x1 p1, .Name x2 p2, .Name x3 p3] ctx tpos] [] pos) (dIsX cn false fa) := by
  obtain ⟨C1, m1, k1⟩ := i1
  obtain ⟨C2, m2, k2⟩ := i2
  obtain ⟨C3, m3, k3⟩ := i3
  refine PE.imp (pe_callB call_isinstT hg hm PyProof.Rows.boot_isinstance (pa_cons ha (pa_cons (pe_tup (pa_cons (pe_glob (v := .ref C1) g1 m1 rfl d1) (pa_cons (pe_glob (v := .ref C2) g2 m2 rfl d2) (pa_cons (pe_glob (v := .ref C3) g3 m3 rfl d3) pa_nil s3) s2) s1)) pa_nil he2) he) (by decide) (by decide) he hpl) fun σ H Q ⟨π, α, δ, h, Q', R, S, f, k⟩ => ?_
  obtain ⟨C, hns, cl⟩ := c.ex
  obtain ⟨C', hns', e1⟩ := k1.ex
  rw [hns] at hns'; cases hns'
  obtain ⟨C', hns', e2⟩ := k2.ex
  rw [hns] at hns'; cases hns'
  obtain ⟨C', hns', e3⟩ := k3.ex
  rw [hns] at hns'; cases hns'
  refine ⟨π, α, δ, h, _, R, S, f, fun d h1 α1 H1 v1 f1 x1 R1 q1 => ⟨(by decide : 3 ≤ sizeLine), fun tp htp => ?_⟩⟩
  have x2 : Ext α1 H1 α1 (upd H1 tp (.tup [.ref C1, .ref C2, .ref C3])) := Ext.new htp
  have q2 := q1.mono x2
  cases q2 with
  | @exc a' C2' dx cn2 fs n2 va vd =>
    obtain ⟨rfl, f1⟩ := f1
    rw [hns] at n2; cases n2
    refine ⟨a', dx, C, tp, _, false, rfl, va.2.2, vd.dict, cl, upd_same, fun us r => ?_, k _ h1 α1 _ _ f1 (x1.trans x2) (R1.new htp) (.bl _)⟩
    cases r with
    | cons r1 r => cases r with
      | cons r2 r => cases r with
        | cons r3 r =>
          cases r
          cases r1; cases r2; cases r3
          exact kit3 e1 e2 e3
  | _ => exact f1.elim
end
noncomputable def dInsert (fo : DE) (fs : DA) : DE := fun δ h Q => fo δ h fun d h1 => match d with
  | .ref i => (match h1[i]? with
    | some (.lst _) => fs δ h1 fun ds h2 => (match ds, h2[i]? with
      | [.int n, y], some (.lst xs) => (0 ≤ n ∧ n.toNat ≤ xs.length ∧ xs.length < 16777216) ∧ Q .non (h2.set i (.lst (xs.take n.toNat ++ y :: xs.drop n.toNat)))
      | _, _ => False)
    | _ => False)
  | _ => False
theorem RelDs.ins {K : KP} {α : List Addr} {H : Hp} : ∀ {ds : List D} {us : List V} (n : Nat) {d : D} {u : V}, RelDs K α H ds us → RelD K α H d u → RelDs K α H (ds.take n ++ d :: ds.drop n) (us.take n ++ u :: us.drop n)
  | _, _, 0, _, _, r, q => .cons q r
  | _, _, n + 1, _, _, .nil, q => .cons q .nil
  | _, _, n + 1, _, _, .cons h t, q => .cons h (RelDs.ins n t q)
section
variable {X : Cx} {o e e2 : Expr} {fo : DE} {cpos apos : Pos}
theorem se_insert {fs : DA} {n : Nat} (ho : SE X o fo) (ha : SA X [e, e2] n fs) (hbase : attributeBase o "insert" X.env (eval o X.env) = eval o X.env := by rfl)
    (hfew : ((backTo cpos (starEach [e, e2] X.env)).all (fun x => !x.1) && (backToKw cpos (keywordEach [] X.env)).all (fun x => x.1.isSome)
      && decide ([e, e2].length + ([] : List Keyword).length + (if ([] : List Keyword).isEmpty then 0 else 1) < 30)) = true := by rfl)
    (hline : (apos.endLine == cpos.line) = true := by rfl) (hs : starEach [e, e2] X.env = (false, eval e X.env) :: starEach [e2] X.env := by rfl) (hplain : (backTo cpos (starEach [e2] X.env)).any (·.1) = false := by rfl) :
    SE X (.Call (.Attribute o "insert" apos) [e, e2] [] cpos) (dInsert fo fs) :=
  PE.imp (pe_bm PySem.F.plainAttrs_list PySem.F.slot_list_insert PySem.F.type_list_insert mt_insert ho ha hbase hfew hline hs hplain) fun σ H Q ⟨π, α, δ, h, Q', R, S, f, k⟩ => by
    refine ⟨π, α, δ, h, _, R, S, f, fun d h1 α1 H1 v1 f1 e1 R1 q1 => ?_⟩
    cases q1 with
    | @ref i a hp =>
      dsimp only at f1
      cases w : h1[i]? with
      | none => rw [w] at f1; exact f1.elim
      | some ob =>
        rw [w] at f1
        cases ob with
        | lst xs =>
          obtain ⟨us, e2, e3⟩ := refL R1 hp w
          refine ⟨.inl ⟨rfl, us, SqL.of e2⟩, π, α1, δ, h1, _, R1, S.mono e1, f1, fun ds h2 α2 H2 vs f2 e2 R2 q2 l2 => ?_⟩
          split at f2
          · rename_i m y ys w2
            obtain ⟨u, u', rfl, q9, q8⟩ := q2.inv2
            cases q9
            have hp2 := e2.get hp
            obtain ⟨us2, g2, g3⟩ := refL R2 hp2 w2
            obtain ⟨⟨h0, hi, hz⟩, f2⟩ := f2
            have e4 : Ext α2 H2 α2 (upd H2 a (.lst (us2.take m.toNat ++ u' :: us2.drop m.toNat))) := Ext.write (List.mem_of_getElem? hp2)
            have gl := g3.length
            exact ⟨a, us2, m, u', rfl, rfl, g2, h0, by omega, by omega, k _ _ α2 _ _ f2 (e1.trans (e2.trans e4)) (R2.write hp2 (.lst upd_same ((g3.ins m.toNat q8).mono e4))) .non⟩
          · exact f2.elim
        | _ => exact f1.elim
    | _ => exact f1.elim
end
end DL
namespace PS
open PySem PySem.SetTable
noncomputable def advM (m : Nat) (p : Probe) : Probe :=
  if p.more > 0 then { p with j := p.j + 1, more := p.more - 1 } else
  { p with j := (leap m p.i p.perturb).1, more := runEnd m (leap m p.i p.perturb).1 - (leap m p.i p.perturb).1, i := (leap m p.i p.perturb).1, perturb := (leap m p.i p.perturb).2 }
noncomputable def sM (m i pt : Nat) : Probe := { j := i, more := runEnd m i - i, i := i, perturb := pt, dummy := none }
noncomputable def stM (m : Nat) (h : Int) : Probe := sM m (bits h % (m + 1)) (bits h)
noncomputable def advN (m : Nat) : Nat → Probe → Probe
  | 0, p => p
  | d + 1, p => advN m d (advM m p)
theorem advM_dummy {m : Nat} {p : Probe} (h : p.dummy = none) : (advM m p).dummy = none := by
  unfold advM
  split <;> exact h
theorem advN_add (m a b : Nat) (p : Probe) : advN m (a + b) p = advN m b (advN m a p) := by
  induction a generalizing p with
  | zero => rw [Nat.zero_add]; rfl
  | succ a ih => rw [Nat.succ_add]; exact ih _
theorem below_go {xs : Array Nat} {j : Nat} (hs : xs.toList.Pairwise (· < ·)) : ∀ fuel lo hi, hi ≤ xs.size → lo ≤ hi → hi - lo ≤ fuel → (∀ i x, i < lo → xs[i]? = some x → x < j) → (∀ i x, hi ≤ i → xs[i]? = some x → j ≤ x) →
    below.go xs j fuel lo hi ≤ xs.size ∧ (∀ i x, i < below.go xs j fuel lo hi → xs[i]? = some x → x < j) ∧ ∀ i x, below.go xs j fuel lo hi ≤ i → xs[i]? = some x → j ≤ x
  | 0, lo, hi, h1, h2, h3, h4, h5 => by
    obtain rfl : lo = hi := by omega
    exact ⟨h1, h4, h5⟩
  | fuel + 1, lo, hi, h1, h2, h3, h4, h5 => by
    rw [below.go]
    have mono : ∀ a b x y, a < b → xs[a]? = some x → xs[b]? = some y → x < y := fun a b x y ab ha hb => by
      rw [List.pairwise_iff_getElem] at hs
      obtain ⟨la, ea⟩ := Array.getElem?_eq_some_iff.mp ha
      obtain ⟨lb, eb⟩ := Array.getElem?_eq_some_iff.mp hb
      have := hs a b (by simpa using la) (by simpa using lb) ab
      simpa [ea, eb] using this
    split
    · rename_i hlt
      dsimp only
      have hm : (lo + hi) / 2 < xs.size := by omega
      have hg : xs[(lo + hi) / 2]? = some xs[(lo + hi) / 2] := Array.getElem?_eq_getElem hm
      have hd : xs.getD ((lo + hi) / 2) j = xs[(lo + hi) / 2] := by simp [Array.getD, hm]
      rw [hd]
      split
      · rename_i hx
        refine below_go hs fuel _ hi h1 (by omega) (by omega) (fun i x hi' e => ?_) h5
        rcases Nat.lt_or_ge i ((lo + hi) / 2) with z | z
        · exact Nat.lt_trans (mono _ _ _ _ z e hg) hx
        · obtain rfl : i = (lo + hi) / 2 := by omega
          rw [hg] at e; cases e; exact hx
      · rename_i hx
        refine below_go hs fuel lo _ (by omega) (by omega) (by omega) h4 (fun i x hi' e => ?_)
        rcases Nat.lt_or_ge ((lo + hi) / 2) i with z | z
        · exact Nat.le_of_lt (Nat.lt_of_le_of_lt (Nat.le_of_not_lt hx) (mono _ _ _ _ z hg e))
        · obtain rfl : i = (lo + hi) / 2 := by omega
          rw [hg] at e; cases e; exact Nat.le_of_not_lt hx
    · obtain rfl : lo = hi := by omega
      exact ⟨h1, h4, h5⟩
theorem below_spec {xs : Array Nat} (hs : xs.toList.Pairwise (· < ·)) (j : Nat) : (∀ i x, i < below xs j → xs[i]? = some x → x < j) ∧ ∀ i x, below xs j ≤ i → xs[i]? = some x → j ≤ x :=
  (below_go hs xs.size 0 xs.size (Nat.le_refl _) (Nat.zero_le _) (by omega) (fun i x h => absurd h (Nat.not_lt_zero _)) (fun i x h e => by rw [Array.getElem?_eq_none h] at e; cases e)).2
theorem below_at {xs : Array Nat} (hs : xs.toList.Pairwise (· < ·)) {i j : Nat} (e : xs[i]? = some j) : below xs j = i := by
  obtain ⟨h1, h2⟩ := below_spec hs j
  rcases Nat.lt_trichotomy (below xs j) i with z | z | z
  · obtain ⟨li, ei⟩ := Array.getElem?_eq_some_iff.mp e
    have hb : below xs j < xs.size := Nat.lt_trans z li
    have q := h2 _ _ (Nat.le_refl _) (Array.getElem?_eq_getElem hb)
    rw [List.pairwise_iff_getElem] at hs
    have r := hs (below xs j) i (by simpa using hb) (by simpa using li) z
    simp [ei] at r
    omega
  · exact z
  · exact absurd (h1 i j z e) (Nat.lt_irrefl _)
noncomputable abbrev Lay := List (Nat × (Int × Value))
noncomputable def Rch (m : Nat) (P : List Nat) (j : Nat) (h : Int) : Prop := ∃ d, d < 10 * turns m ∧ (advN m d (stM m h)).j = j ∧ ∀ d', d' < d → (advN m d' (stM m h)).j ∈ P
theorem Rch.mono {m : Nat} {P P' : List Nat} {j : Nat} {h : Int} (s : ∀ x ∈ P, x ∈ P') (r : Rch m P j h) : Rch m P' j h := let ⟨d, a, b, c⟩ := r; ⟨d, a, b, fun d' hd => s _ (c d' hd)⟩
structure PlOk (t : SetTable) (L : Lay) : Prop where
  dm : t.dummies = #[]
  pl : t.place.toList = L.map (·.1)
  srt : (L.map (·.1)).Pairwise (· < ·)
theorem PlOk.at {t : SetTable} {L : Lay} (k : PlOk t L) (i : Nat) : t.place[i]? = (L[i]?).map (·.1) := by
  rw [← Array.getElem?_toList, k.pl, List.getElem?_map]
theorem PlOk.live {t : SetTable} {L : Lay} (k : PlOk t L) {i : Nat} {q : Nat × (Int × Value)} (e : L[i]? = some q) : t.slot q.1 = .live i := by
  have hp : t.place[i]? = some q.1 := by rw [k.at, e]; rfl
  have hb : below t.place q.1 = i := below_at (by rw [k.pl]; exact k.srt) hp
  unfold slot
  simp only [hb, hp, beq_self_eq_true, if_true]
theorem PlOk.free {t : SetTable} {L : Lay} (k : PlOk t L) {j : Nat} (n : j ∉ L.map (·.1)) : t.slot j = .empty := by
  unfold slot
  have h1 : (t.place[below t.place j]? == some j) = false := by
    rw [beq_eq_false_iff_ne]
    intro e
    exact n (by rw [← k.pl]; exact Array.mem_toList_iff.mpr (Array.mem_of_getElem? e))
  have h2 : has t.dummies j = false := by rw [k.dm]; unfold has; simp
  simp [h1, h2]
theorem PlOk.cases {t : SetTable} {L : Lay} (k : PlOk t L) (j : Nat) : (∃ i q, L[i]? = some q ∧ q.1 = j ∧ t.slot j = .live i) ∨ (j ∉ L.map (·.1) ∧ t.slot j = .empty) := by
  by_cases n : j ∈ L.map (·.1)
  · obtain ⟨q, hq, rfl⟩ := List.mem_map.mp n
    obtain ⟨i, hi⟩ := List.getElem?_of_mem hq
    exact .inl ⟨i, q, hi, rfl, k.live hi⟩
  · exact .inr ⟨n, k.free n⟩
section
variable {t : SetTable} {L : Lay} {hashAt : Nat → Int} {h : Int}
theorem go_absent (k : PlOk t L) (hh : ∀ i q, L[i]? = some q → hashAt i = q.2.1) (no : ∀ q ∈ L, q.2.1 ≠ h) : ∀ (fuel : Nat) (p : Probe), p.dummy = none → (∃ d, d < fuel ∧ (advN t.mask d p).j ∉ L.map (·.1)) →
    ∃ d, d < fuel ∧ probe.go t hashAt h fuel p = some (.empty (advN t.mask d p).j none) ∧ (advN t.mask d p).j ∉ L.map (·.1) ∧ ∀ d', d' < d → (advN t.mask d' p).j ∈ L.map (·.1)
  | 0, p, _, ⟨d, hd, _⟩ => absurd hd (Nat.not_lt_zero _)
  | fuel + 1, p, hp, ⟨d, hd, hn⟩ => by
    rw [probe.go]
    rcases k.cases p.j with ⟨i, q, e, ej, es⟩ | ⟨n, es⟩
    · rw [es]
      have hne : (hashAt i == h) = false := by rw [hh i q e, beq_eq_false_iff_ne]; exact no q (List.mem_of_getElem? e)
      simp only [hne, Bool.false_eq_true, if_false]
      have hin : p.j ∈ L.map (·.1) := by rw [← ej]; exact List.mem_map_of_mem (List.mem_of_getElem? e)
      cases d with
      | zero => exact absurd hin hn
      | succ d =>
        obtain ⟨d', a, b, c, f⟩ := go_absent k hh no fuel (advM t.mask p) (advM_dummy hp) ⟨d, Nat.lt_of_succ_lt_succ hd, hn⟩
        refine ⟨d' + 1, Nat.succ_lt_succ a, b, c, fun e' he => ?_⟩
        cases e' with
        | zero => exact hin
        | succ e' => exact f e' (Nat.lt_of_succ_lt_succ he)
    · rw [es]
      exact ⟨0, Nat.succ_pos _, by rw [hp]; rfl, n, fun d' h => absurd h (Nat.not_lt_zero _)⟩
theorem go_there (k : PlOk t L) (hh : ∀ i q, L[i]? = some q → hashAt i = q.2.1) {q0 : Nat × (Int × Value)} (h0 : q0 ∈ L) (eh : q0.2.1 = h) : ∀ (fuel : Nat) (p : Probe), p.dummy = none → (∃ d, d < fuel ∧ (advN t.mask d p).j = q0.1 ∧ ∀ d', d' < d → (advN t.mask d' p).j ∈ L.map (·.1)) →
    ∃ j i q nx, probe.go t hashAt h fuel p = some (.candidate j i nx) ∧ L[i]? = some q ∧ q.2.1 = h
  | 0, p, _, ⟨d, hd, _⟩ => absurd hd (Nat.not_lt_zero _)
  | fuel + 1, p, hp, ⟨d, hd, hj, hb⟩ => by
    rw [probe.go]
    rcases k.cases p.j with ⟨i, q, e, ej, es⟩ | ⟨n, es⟩
    · rw [es]
      by_cases hq : q.2.1 = h
      · have hy : (hashAt i == h) = true := by rw [hh i q e, beq_iff_eq]; exact hq
        simp only [hy, if_true]
        exact ⟨_, _, q, _, rfl, e, hq⟩
      · have hne : (hashAt i == h) = false := by rw [hh i q e, beq_eq_false_iff_ne]; exact hq
        simp only [hne, Bool.false_eq_true, if_false]
        cases d with
        | zero =>
          exfalso
          have hj : p.j = q0.1 := hj
          obtain ⟨i0, e0⟩ := List.getElem?_of_mem h0
          have l0 := k.live e0
          rw [← hj, es] at l0
          cases l0
          rw [e] at e0; cases e0
          exact hq eh
        | succ d => exact go_there k hh h0 eh fuel (advM t.mask p) (advM_dummy hp) ⟨d, Nat.lt_of_succ_lt_succ hd, hj, fun d' h => hb (d' + 1) (Nat.succ_lt_succ h)⟩
    · exfalso
      cases d with
      | zero => exact n (by rw [show p.j = q0.1 from hj]; exact List.mem_map_of_mem h0)
      | succ d => exact n (hb 0 (Nat.succ_pos _))
end
noncomputable def marks (l : List Nat) : Nat := l.foldr (fun j a => 2 ^ j ||| a) 0
theorem marks_mem {l : List Nat} {j : Nat} (h : (marks l).testBit j = true) : j ∈ l := by
  induction l with
  | nil => simp [marks] at h
  | cons a l ih =>
    have h : (2 ^ a ||| marks l).testBit j = true := h
    rw [Nat.testBit_or, Bool.or_eq_true] at h
    rcases h with h | h
    · rw [Nat.testBit_two_pow] at h
      exact List.mem_cons.mpr (.inl (of_decide_eq_true h).symm)
    · exact List.mem_cons_of_mem _ (ih h)
noncomputable def trail (m : Nat) : Nat → Probe → List Nat
  | 0, _ => []
  | n + 1, p => p.j :: trail m n (advM m p)
theorem trail_mem {m : Nat} : ∀ {n : Nat} {p : Probe} {j : Nat}, j ∈ trail m n p → ∃ d, d < n ∧ (advN m d p).j = j
  | 0, _, _, h => by simp [trail] at h
  | n + 1, p, j, h => by
    rcases List.mem_cons.mp h with rfl | h
    · exact ⟨0, Nat.succ_pos _, rfl⟩
    · obtain ⟨d, a, b⟩ := trail_mem h
      exact ⟨d + 1, Nat.succ_lt_succ a, b⟩
noncomputable def runsT (m : Nat) : Nat → Nat → Nat → List Nat
  | 0, _, _ => []
  | n + 1, i, pt => (List.range (runEnd m i + 1 - i)).map (fun k => i + k) ++ runsT m n (leap m i pt).1 (leap m i pt).2
noncomputable def hp (a b : Nat) : Int := reduceHash (Builtin.Tuple.tupleHashOf [hashInt a, hashInt b])
noncomputable def H36 : List Int := (List.range 6).flatMap fun a => (List.range 6).map fun b => hp a b
theorem H36_mem {a b : Nat} (ha : a < 6) (hb : b < 6) : hp a b ∈ H36 := List.mem_flatMap.mpr ⟨a, List.mem_range.mpr ha, List.mem_map.mpr ⟨b, List.mem_range.mpr hb, rfl⟩⟩
noncomputable def K36 : List (Nat × Nat) := (List.range 6).flatMap fun a => (List.range 6).map fun b => (a, b)
theorem K36_mem {a b : Nat} (ha : a < 6) (hb : b < 6) : (a, b) ∈ K36 := List.mem_flatMap.mpr ⟨a, List.mem_range.mpr ha, List.mem_map.mpr ⟨b, List.mem_range.mpr hb, rfl⟩⟩
theorem hp_all : (K36.all fun p => K36.all fun q => (hp p.1 p.2 != hp q.1 q.2) || (p.1 == q.1 && p.2 == q.2)) = true := by decide +kernel
theorem hp_inj {a b c d : Nat} (ha : a < 6) (hb : b < 6) (hc : c < 6) (hd : d < 6) (e : hp a b = hp c d) : a = c ∧ b = d := by
  have := List.all_eq_true.mp (List.all_eq_true.mp hp_all _ (K36_mem ha hb)) _ (K36_mem hc hd)
  simp [e] at this
  exact this
theorem cover_all : (H36.all fun h => [7, 31, 127].all fun m => marks (trail m (10 * turns m) (stM m h)) == 2 ^ (m + 1) - 1) = true := by decide +kernel
theorem runs_all : (H36.all fun h => [31, 127].all fun m => marks (runsT m (turns m) (bits h % (m + 1)) (bits h)) == 2 ^ (m + 1) - 1) = true := by decide +kernel
theorem cover {h : Int} (hh : h ∈ H36) {m : Nat} (hm : m = 7 ∨ m = 31 ∨ m = 127) {j : Nat} (hj : j ≤ m) : ∃ d, d < 10 * turns m ∧ (advN m d (stM m h)).j = j := by
  have := List.all_eq_true.mp (List.all_eq_true.mp cover_all h hh) m (by simpa using hm)
  refine trail_mem (marks_mem ?_)
  rw [beq_iff_eq.mp this, Nat.testBit_two_pow_sub_one]
  exact decide_eq_true (by omega)
theorem runs_cover {h : Int} (hh : h ∈ H36) {m : Nat} (hm : m = 31 ∨ m = 127) {j : Nat} (hj : j ≤ m) : j ∈ runsT m (turns m) (bits h % (m + 1)) (bits h) := by
  have := List.all_eq_true.mp (List.all_eq_true.mp runs_all h hh) m (by simpa using hm)
  refine marks_mem ?_
  rw [beq_iff_eq.mp this, Nat.testBit_two_pow_sub_one]
  exact decide_eq_true (by omega)
end PS
namespace PS
open PySem PySem.SetTable
theorem runEnd_le {m i : Nat} (h : i ≤ m) : runEnd m i ≤ m ∧ i ≤ runEnd m i ∧ runEnd m i - i ≤ 9 := by
  unfold runEnd
  split <;> omega
theorem leap_le (m i pt : Nat) : (leap m i pt).1 ≤ m := Nat.le_of_lt_succ (Nat.mod_lt _ (Nat.succ_pos _))
theorem run_at (m i pt : Nat) : ∀ k, k ≤ runEnd m i - i → advN m k (sM m i pt) = { j := i + k, more := runEnd m i - i - k, i := i, perturb := pt, dummy := none }
  | 0, _ => rfl
  | k + 1, h => by
    rw [advN_add m k 1, run_at m i pt k (Nat.le_of_succ_le h)]
    show advM m _ = _
    unfold advM
    dsimp only
    rw [if_pos (by omega)]
    rfl
theorem run_end (m i pt : Nat) : advN m (runEnd m i - i + 1) (sM m i pt) = sM m (leap m i pt).1 (leap m i pt).2 := by
  rw [advN_add m _ 1, run_at m i pt _ (Nat.le_refl _)]
  show advM m _ = _
  unfold advM
  dsimp only
  rw [Nat.sub_self, if_neg (by omega)]
  rfl
theorem advM_le {m : Nat} {p : Probe} (h : p.j + p.more ≤ m) : (advM m p).j + (advM m p).more ≤ m := by
  unfold advM
  split
  · dsimp only; omega
  · dsimp only
    have := runEnd_le (leap_le m p.i p.perturb)
    omega
theorem advN_le {m : Nat} : ∀ (d : Nat) {p : Probe}, p.j + p.more ≤ m → (advN m d p).j ≤ m
  | 0, p, h => Nat.le_trans (Nat.le_add_right _ _) h
  | d + 1, _, h => advN_le d (advM_le h)
theorem stM_le (m : Nat) (h : Int) (d : Nat) : (advN m d (stM m h)).j ≤ m := by
  refine advN_le d ?_
  have hb : bits h % (m + 1) ≤ m := Nat.le_of_lt_succ (Nat.mod_lt _ (Nat.succ_pos _))
  have := runEnd_le hb
  show bits h % (m + 1) + (runEnd m (bits h % (m + 1)) - bits h % (m + 1)) ≤ m
  omega
section
variable {m : Nat} {owner : Array (Option Nat)}
theorem own_get (sz : owner.size = m + 1) {j : Nat} (hj : j ≤ m) : owner[j]? = some none ∨ ∃ k, owner[j]? = some (some k) := by
  have h : j < owner.size := by omega
  rw [Array.getElem?_eq_getElem h]
  cases owner[j] with
  | none => exact .inl rfl
  | some k => exact .inr ⟨k, rfl⟩
theorem free_spec (sz : owner.size = m + 1) : ∀ (fuel i pt : Nat), i ≤ m → (∃ j ∈ runsT m fuel i pt, owner[j]? = some none) →
    ∃ j d, layClean.free m owner fuel i pt = some j ∧ owner[j]? = some none ∧ d < 10 * fuel ∧ (advN m d (sM m i pt)).j = j ∧ ∀ d', d' < d → ∃ k, owner[(advN m d' (sM m i pt)).j]? = some (some k)
  | 0, i, pt, _, ⟨j, h, _⟩ => by simp [runsT] at h
  | fuel + 1, i, pt, hi, ⟨j, hj, hn⟩ => by
    rw [layClean.free]
    have re := runEnd_le hi
    have gd : ∀ k, k ≤ runEnd m i - i → ∀ b, (owner.getD (i + k) (some 0)).isNone = b → (b = true → owner[i + k]? = some none) ∧ (b = false → ∃ k', owner[i + k]? = some (some k')) := fun k hk b hb => by
      have h : i + k < owner.size := by omega
      have e : owner.getD (i + k) (some 0) = owner[i + k] := by simp [Array.getD, h]
      rw [e] at hb
      rw [Array.getElem?_eq_getElem h]
      cases q : owner[i + k] with
      | none => rw [q] at hb; subst hb; exact ⟨fun _ => rfl, fun z => (nomatch z)⟩
      | some k' => rw [q] at hb; subst hb; exact ⟨fun z => (nomatch z), fun _ => ⟨k', rfl⟩⟩
    cases q : (List.range (runEnd m i + 1 - i)).find? fun k => (owner.getD (i + k) (some 0)).isNone with
    | some k =>
      rw [List.find?_range_eq_some] at q
      obtain ⟨q1, q2, q3⟩ := q
      have hk : k ≤ runEnd m i - i := by have := List.mem_range.mp q2; omega
      refine ⟨i + k, k, rfl, (gd k hk _ rfl).1 q1, by omega, by rw [run_at m i pt k hk], fun d' hd => ?_⟩
      rw [run_at m i pt d' (by omega)]
      exact (gd d' (by omega) _ rfl).2 (by have := q3 d' hd; simpa using this)
    | none =>
      have q' : ∀ k, k ≤ runEnd m i - i → ∃ k', owner[i + k]? = some (some k') := fun k hk => by
        have := List.find?_eq_none.mp q k (List.mem_range.mpr (by omega))
        exact (gd k hk _ rfl).2 (Bool.eq_false_iff.mpr this)
      have hr : j ∈ runsT m fuel (leap m i pt).1 (leap m i pt).2 := by
        rcases List.mem_append.mp hj with z | z
        · obtain ⟨k, hk, rfl⟩ := List.mem_map.mp z
          obtain ⟨k', e⟩ := q' k (by have := List.mem_range.mp hk; omega)
          rw [e] at hn; cases hn
        · exact z
      obtain ⟨j', d, f1, f2, f3, f4, f5⟩ := free_spec sz fuel _ _ (leap_le m i pt) ⟨j, hr, hn⟩
      refine ⟨j', (runEnd m i - i + 1) + d, f1, f2, by omega, by rw [advN_add, run_end]; exact f4, fun d' hd => ?_⟩
      rcases Nat.lt_or_ge d' (runEnd m i - i + 1) with z | z
      · rw [run_at m i pt d' (by omega)]
        exact q' d' (by omega)
      · obtain ⟨c, rfl⟩ := Nat.exists_eq_add_of_le z
        rw [advN_add, run_end]
        exact f5 c (by omega)
structure OInv (m : Nat) (owner : Array (Option Nat)) (ps : List Int) : Prop where
  sz : owner.size = m + 1
  lt : ∀ (j k : Nat), owner[j]? = some (some k) → k < ps.length
  inj : ∀ (j j' k : Nat), owner[j]? = some (some k) → owner[j']? = some (some k) → j = j'
  sur : ∀ k, k < ps.length → ∃ j : Nat, owner[j]? = some (some k)
  rch : ∀ (j k : Nat) h, owner[j]? = some (some k) → ps[k]? = some h → ∃ d, d < 10 * turns m ∧ (advN m d (stM m h)).j = j ∧ ∀ d', d' < d → ∃ k', owner[(advN m d' (stM m h)).j]? = some (some k')
theorem OInv.some_free {ps : List Int} (o : OInv m owner ps) (hl : ps.length ≤ m) : ∃ j, j ≤ m ∧ owner[j]? = some none := by
  refine Classical.byContradiction fun no => ?_
  have all : ∀ j, j ≤ m → ∃ k, owner[j]? = some (some k) := fun j hj => by
    rcases own_get o.sz hj with z | z
    · exact absurd ⟨j, hj, z⟩ no
    · exact z
  have h1 : ((List.range (m + 1)).map fun j => ((owner[j]?).bind id).getD 0).Nodup := by
    refine (List.pairwise_map).mpr ?_
    refine List.Pairwise.imp_of_mem ?_ List.nodup_range
    intro a b ha hb hne e
    obtain ⟨k, hk⟩ := all a (by have := List.mem_range.mp ha; omega)
    obtain ⟨k', hk'⟩ := all b (by have := List.mem_range.mp hb; omega)
    rw [hk, hk'] at e
    have e : k = k' := e
    subst e
    exact hne (o.inj _ _ _ hk hk')
  have h2 := h1.length_le_of_subset (l₂ := List.range ps.length) fun x hx => by
    obtain ⟨j, hj, rfl⟩ := List.mem_map.mp hx
    obtain ⟨k, hk⟩ := all j (by have := List.mem_range.mp hj; omega)
    rw [hk]
    exact List.mem_range.mpr (o.lt _ _ hk)
  simp at h2
  omega
theorem OInv.step {ps : List Int} {h : Int} (o : OInv m owner ps) (hm : m = 31 ∨ m = 127) (hh : h ∈ H36) (hl : ps.length ≤ m) :
    ∃ j, layClean.free m owner (turns m) (bits h % (m + 1)) (bits h) = some j ∧ OInv m (owner.setIfInBounds j (some ps.length)) (ps ++ [h]) := by
  obtain ⟨j0, hj0, hf⟩ := o.some_free hl
  have hb : bits h % (m + 1) ≤ m := Nat.le_of_lt_succ (Nat.mod_lt _ (Nat.succ_pos _))
  obtain ⟨j, d, f1, f2, f3, f4, f5⟩ := free_spec o.sz (turns m) _ (bits h) hb ⟨j0, runs_cover hh hm hj0, hf⟩
  have hj : j < owner.size := (Array.getElem?_eq_some_iff.mp f2).1
  have g1 : ∀ (a : Nat) k, owner[a]? = some (some k) → (owner.setIfInBounds j (some ps.length))[a]? = some (some k) := fun a k e => by
    rw [Array.getElem?_setIfInBounds_ne (fun z => by rw [z, e] at f2; cases f2)]; exact e
  have g2 : (owner.setIfInBounds j (some ps.length))[j]? = some (some ps.length) := by rw [Array.getElem?_setIfInBounds_self_of_lt hj]
  have g3 : ∀ (a : Nat) k, (owner.setIfInBounds j (some ps.length))[a]? = some (some k) → (a = j ∧ k = ps.length) ∨ (a ≠ j ∧ owner[a]? = some (some k)) := fun a k e => by
    by_cases z : a = j
    · subst z; rw [g2] at e; cases e; exact .inl ⟨rfl, rfl⟩
    · rw [Array.getElem?_setIfInBounds_ne (Ne.symm z)] at e; exact .inr ⟨z, e⟩
  refine ⟨j, f1, ⟨by rw [Array.size_setIfInBounds]; exact o.sz, fun a k e => ?_, fun a b k e1 e2 => ?_, fun k hk => ?_, fun a k h' e1 e2 => ?_⟩⟩
  · rw [List.length_append]
    rcases g3 a k e with ⟨_, rfl⟩ | ⟨_, e⟩
    · exact Nat.lt_succ_self _
    · exact Nat.lt_succ_of_lt (o.lt _ _ e)
  · rcases g3 a k e1 with ⟨rfl, rfl⟩ | ⟨_, e1⟩
    · rcases g3 b _ e2 with ⟨rfl, _⟩ | ⟨_, e2⟩
      · rfl
      · exact absurd (o.lt _ _ e2) (Nat.lt_irrefl _)
    · rcases g3 b k e2 with ⟨_, rfl⟩ | ⟨_, e2⟩
      · exact absurd (o.lt _ _ e1) (Nat.lt_irrefl _)
      · exact o.inj _ _ _ e1 e2
  · rw [List.length_append] at hk
    rcases Nat.lt_or_ge k ps.length with z | z
    · obtain ⟨a, e⟩ := o.sur k z; exact ⟨a, g1 a k e⟩
    · obtain rfl : k = ps.length := by simp at hk; omega
      exact ⟨j, g2⟩
  · rcases g3 a k e1 with ⟨rfl, rfl⟩ | ⟨_, e1⟩
    · rw [List.getElem?_append_right (Nat.le_refl _), Nat.sub_self] at e2
      cases e2
      exact ⟨d, f3, f4, fun d' hd => let ⟨k', e⟩ := f5 d' hd; ⟨k', g1 _ _ e⟩⟩
    · rw [List.getElem?_append_left (o.lt _ _ e1)] at e2
      obtain ⟨d2, a1, a2, a3⟩ := o.rch _ _ _ e1 e2
      exact ⟨d2, a1, a2, fun d' hd => let ⟨k', e⟩ := a3 d' hd; ⟨k', g1 _ _ e⟩⟩
end
theorem lay_fold {m : Nat} (hm : m = 31 ∨ m = 127) : ∀ (qs : List Int) {ps : List Int} {owner : Array (Option Nat)}, OInv m owner ps → (∀ h ∈ qs, h ∈ H36) → ps.length + qs.length ≤ m + 1 →
    ∃ owner', qs.foldl (fun acc h => do
      let (owner, k) ← acc
      let j ← layClean.free m owner (turns m) (bits h % (m + 1)) (bits h)
      pure (owner.setIfInBounds j (some k), k + 1)) (some (owner, ps.length)) = some (owner', (ps ++ qs).length) ∧ OInv m owner' (ps ++ qs)
  | [], ps, owner, o, _, _ => ⟨owner, by simp, by rw [List.append_nil]; exact o⟩
  | h :: qs, ps, owner, o, hh, hl => by
    rw [List.length_cons] at hl
    obtain ⟨j, e, o'⟩ := o.step hm (hh h List.mem_cons_self) (by omega)
    obtain ⟨owner', f, o''⟩ := lay_fold hm qs o' (fun x hx => hh x (List.mem_cons_of_mem _ hx)) (by rw [List.length_append]; simp; omega)
    rw [List.append_assoc] at f o''
    refine ⟨owner', ?_, o''⟩
    rw [List.foldl_cons]
    simp only [e, Option.bind_eq_bind, Option.bind_some, Option.pure_def]
    rw [List.length_append] at f
    exact f
theorem lay_start (m : Nat) : OInv m (Array.replicate (m + 1) none) [] := by
  have g : ∀ (j k : Nat), (Array.replicate (m + 1) (none : Option Nat))[j]? = some (some k) → False := fun j k e => by
    rw [Array.getElem?_replicate] at e
    split at e <;> cases e
  exact ⟨Array.size_replicate .., fun j k e => (g j k e).elim, fun j _ k e => (g j k e).elim, fun k h => absurd h (Nat.not_lt_zero _), fun j k _ e => (g j k e).elim⟩
theorem laid_ok {m f mv : Nat} {led pl : Bool} {hs : Array Int} (hm : m = 31 ∨ m = 127) (hh : ∀ h ∈ hs.toList, h ∈ H36) (hl : hs.size ≤ m) :
    ∃ live : List (Nat × Nat), laid m f mv led pl hs = some (⟨m, (live.map (·.1)).toArray, #[], f, led, mv, pl⟩, (live.map (·.2)).toArray) ∧ (live.map (·.1)).Pairwise (· < ·) ∧ (∀ q ∈ live, q.1 ≤ m) ∧ (live.map (·.2)).Perm (List.range hs.size) ∧
      ∀ q ∈ live, ∀ h, hs[q.2]? = some h → Rch m (live.map (·.1)) q.1 h := by
  obtain ⟨owner, e, o⟩ := lay_fold hm hs.toList (lay_start m) hh (by simpa using Nat.le_succ_of_le hl)
  rw [List.nil_append] at o e
  have e1 : layClean m hs = some owner := by
    unfold layClean
    rw [← Array.foldl_toList]
    have e' := congrArg (fun z => Option.map (fun (x : Array (Option Nat) × Nat) => x.1) z) e
    exact e'
  have gd : ∀ j, j ≤ m → owner.getD j none = (owner[j]?).getD none := fun j hj => by
    have h : j < owner.size := by rw [o.sz]; omega
    simp [Array.getD, h]
  have at_ : ∀ (j : Nat) {k : Nat}, j ≤ m → owner.getD j none = some k → owner[j]? = some (some k) := fun j k hj e => by
    rw [gd j hj] at e
    rcases own_get o.sz hj with z | ⟨k', z⟩
    · rw [z] at e; cases e
    · rw [z] at e; cases e; exact z
  have mem_ : ∀ (j k : Nat), owner[j]? = some (some k) → (j, k) ∈ (List.range (m + 1)).filterMap fun j => (owner.getD j none).map (j, ·) := fun j k e => by
    have hj : j < m + 1 := by rw [← o.sz]; exact (Array.getElem?_eq_some_iff.mp e).1
    exact List.mem_filterMap.mpr ⟨j, List.mem_range.mpr hj, by rw [gd j (Nat.le_of_lt_succ hj), e]; rfl⟩
  refine ⟨(List.range (m + 1)).filterMap fun j => (owner.getD j none).map (j, ·), ?_, ?_, ?_, ?_, ?_⟩
  · unfold laid
    rw [e1]
    rfl
  · rw [List.pairwise_map, List.pairwise_filterMap]
    refine List.pairwise_lt_range.imp ?_
    intro a b hab x hx y hy
    obtain ⟨k, _, rfl⟩ := Option.map_eq_some_iff.mp hx
    obtain ⟨k', _, rfl⟩ := Option.map_eq_some_iff.mp hy
    exact hab
  · intro q hq
    obtain ⟨j, hj, e2⟩ := List.mem_filterMap.mp hq
    obtain ⟨k, _, rfl⟩ := Option.map_eq_some_iff.mp e2
    exact Nat.le_of_lt_succ (List.mem_range.mp hj)
  · have d1 : (((List.range (m + 1)).filterMap fun j => (owner.getD j none).map (j, ·)).map (·.2)).Nodup := by
      refine (List.pairwise_map).mpr ((List.pairwise_filterMap).mpr (List.pairwise_lt_range.imp_of_mem ?_))
      intro a b ha hb hab x hx y hy e
      obtain ⟨k, hk, rfl⟩ := Option.map_eq_some_iff.mp hx
      obtain ⟨k', hk', rfl⟩ := Option.map_eq_some_iff.mp hy
      have e : k = k' := e
      subst e
      exact absurd (o.inj _ _ _ (at_ a (Nat.le_of_lt_succ (List.mem_range.mp ha)) hk) (at_ b (Nat.le_of_lt_succ (List.mem_range.mp hb)) hk')) (Nat.ne_of_lt hab)
    refine (List.perm_ext_iff_of_nodup d1 List.nodup_range).mpr fun k => ⟨fun h => ?_, fun h => ?_⟩
    · obtain ⟨q, hq, rfl⟩ := List.mem_map.mp h
      obtain ⟨j, hj, e2⟩ := List.mem_filterMap.mp hq
      obtain ⟨k, hk, rfl⟩ := Option.map_eq_some_iff.mp e2
      have := o.lt _ _ (at_ j (Nat.le_of_lt_succ (List.mem_range.mp hj)) hk)
      exact List.mem_range.mpr (by simpa using this)
    · obtain ⟨j, hj⟩ := o.sur k (by simpa using List.mem_range.mp h)
      exact List.mem_map.mpr ⟨(j, k), mem_ j k hj, rfl⟩
  · intro q hq h hh2
    obtain ⟨j, hj, e2⟩ := List.mem_filterMap.mp hq
    obtain ⟨k, hk, rfl⟩ := Option.map_eq_some_iff.mp e2
    obtain ⟨d, a1, a2, a3⟩ := o.rch j k h (at_ j (Nat.le_of_lt_succ (List.mem_range.mp hj)) hk) (by rw [Array.getElem?_toList]; exact hh2)
    exact ⟨d, a1, a2, fun d' hd => let ⟨k', e⟩ := a3 d' hd; List.mem_map.mpr ⟨_, mem_ _ k' e, rfl⟩⟩
end PS
namespace PS
open PySem PySem.SetTable
structure TOk (t : SetTable) (es : Array (Int × Value)) (L : Lay) : Prop extends PlOk t L where
  mask : t.mask = 7 ∨ t.mask = 31 ∨ t.mask = 127
  ent : es.toList = L.map (·.2)
  bnd : ∀ q ∈ L, q.1 ≤ t.mask
  rch : ∀ q ∈ L, Rch t.mask (L.map (·.1)) q.1 q.2.1
  hsh : ∀ q ∈ L, q.2.1 ∈ H36
  nod : (L.map (·.2.1)).Nodup
  plain : t.plain = true
section
variable {t : SetTable} {es : Array (Int × Value)} {L : Lay} {hashAt : Nat → Int} {h : Int}
theorem TOk.len (k : TOk t es L) : t.place.size = es.size ∧ es.size = L.length := by
  have h1 := congrArg List.length k.pl
  have h2 := congrArg List.length k.ent
  simp at h1 h2
  omega
theorem TOk.few36 (k : TOk t es L) : L.length ≤ 36 := by
  have := k.nod.length_le_of_subset (l₂ := H36) fun x hx => by
    obtain ⟨q, hq, rfl⟩ := List.mem_map.mp hx
    exact k.hsh q hq
  rw [List.length_map] at this
  exact Nat.le_trans this (by decide +kernel)
theorem TOk.fits (k : TOk t es L) (few : L.length * 5 ≤ t.mask * 4) : t.fits es.size = true := by
  obtain ⟨l1, l2⟩ := k.len
  unfold SetTable.fits fill
  rw [k.dm, l1]
  simp
  omega
theorem TOk.odd (k : TOk t es L) : t.gaveWay = false := by
  unfold SetTable.gaveWay
  rcases k.mask with e | e | e <;> rw [e] <;> rfl
theorem search_free (k : TOk t es L) (few : L.length * 5 < t.mask * 3) (hh : ∀ i q, L[i]? = some q → hashAt i = q.2.1) (hm : h ∈ H36) (no : ∀ q ∈ L, q.2.1 ≠ h) :
    ∃ j, t.probe hashAt h (t.probeStart h) = some (.empty j none) ∧ j ≤ t.mask ∧ j ∉ L.map (·.1) ∧ Rch t.mask (L.map (·.1)) j h := by
  have hf : ∃ j, j ≤ t.mask ∧ j ∉ L.map (·.1) := by
    refine Classical.byContradiction fun z => ?_
    have := (List.nodup_range (n := t.mask + 1)).length_le_of_subset (l₂ := L.map (·.1)) fun x hx => by
      refine Classical.byContradiction fun y => z ⟨x, Nat.le_of_lt_succ (List.mem_range.mp hx), y⟩
    simp at this
    omega
  obtain ⟨j0, hj0, hn0⟩ := hf
  obtain ⟨d0, hd0, e0⟩ := cover hm k.mask hj0
  obtain ⟨d, a, b, c, f⟩ := go_absent (hashAt := hashAt) (h := h) k.toPlOk hh no (10 * turns t.mask) (stM t.mask h) rfl ⟨d0, hd0, by rw [e0]; exact hn0⟩
  exact ⟨_, b, stM_le _ _ _, c, d, a, rfl, f⟩
theorem search_there (k : TOk t es L) (hh : ∀ i q, L[i]? = some q → hashAt i = q.2.1) {q0 : Nat × (Int × Value)} (h0 : q0 ∈ L) (eh : q0.2.1 = h) :
    ∃ j i q nx, t.probe hashAt h (t.probeStart h) = some (.candidate j i nx) ∧ L[i]? = some q ∧ q.2.1 = h := by
  obtain ⟨d, a, b, c⟩ := k.rch q0 h0
  rw [eh] at b c
  exact go_there k.toPlOk hh h0 eh (10 * turns t.mask) (stM t.mask h) rfl ⟨d, a, b, c⟩
theorem put_ok {j : Nat} {x : Value} (k : TOk t es L) (hj : j ≤ t.mask) (nj : j ∉ L.map (·.1)) (r : Rch t.mask (L.map (·.1)) j h) (hm : h ∈ H36) (no : ∀ q ∈ L, q.2.1 ≠ h) :
    TOk (t.put j).1 (insertAt es (t.put j).2 (h, x)) (L.take (t.put j).2 ++ (j, (h, x)) :: L.drop (t.put j).2) := by
  have hd : has t.dummies j = false := by rw [k.dm]; unfold has; simp
  have ep : (t.put j).1 = { t with place := insertAt t.place (t.put j).2 j } := by
    unfold put
    simp only [hd, Bool.false_eq_true, if_false]
  have hb : (t.put j).2 = below t.place j := rfl
  obtain ⟨b1, b2⟩ := below_spec (xs := t.place) (by rw [k.pl]; exact k.srt) j
  rw [← hb] at b1 b2
  generalize (t.put j).2 = p at ep b1 b2 ⊢
  rw [ep]
  have mem : ∀ q : Nat × (Int × Value), q ∈ L.take p ++ (j, (h, x)) :: L.drop p ↔ q = (j, (h, x)) ∨ q ∈ L := fun q => by
    rw [List.mem_append, List.mem_cons, ← or_assoc, or_comm (a := q ∈ L.take p), or_assoc, ← List.mem_append, List.take_append_drop]
  have m1 : (L.take p ++ (j, (h, x)) :: L.drop p).map (·.1) = (L.map (·.1)).take p ++ j :: (L.map (·.1)).drop p := by simp
  have sub : ∀ y ∈ L.map (·.1), y ∈ (L.take p ++ (j, (h, x)) :: L.drop p).map (·.1) := fun y hy => by
    obtain ⟨q, hq, rfl⟩ := List.mem_map.mp hy
    exact List.mem_map.mpr ⟨q, (mem q).mpr (.inr hq), rfl⟩
  refine ⟨⟨k.dm, ?_, ?_⟩, k.mask, ?_, fun q hq => ?_, fun q hq => ?_, fun q hq => ?_, ?_, k.plain⟩
  · show (insertAt t.place p j).toList = _
    rw [SetTable.toList_insertAt, m1, k.pl]
  · rw [m1, List.pairwise_append, List.pairwise_cons]
    have ks := k.srt
    have hlt : ∀ a ∈ (L.map (·.1)).take p, a < j := fun a ha => by
      obtain ⟨i, hi⟩ := List.getElem?_of_mem ha
      rw [List.getElem?_take] at hi
      split at hi
      · rename_i hip
        exact b1 i a hip (by rw [← Array.getElem?_toList, k.pl]; exact hi)
      · cases hi
    have hgt : ∀ a ∈ (L.map (·.1)).drop p, j < a := fun a ha => by
      obtain ⟨i, hi⟩ := List.getElem?_of_mem ha
      rw [List.getElem?_drop] at hi
      have := b2 (p + i) a (Nat.le_add_right _ _) (by rw [← Array.getElem?_toList, k.pl]; exact hi)
      rcases Nat.lt_or_eq_of_le this with z | z
      · exact z
      · exact absurd (by rw [z]; exact List.mem_of_mem_drop ha) nj
    refine ⟨ks.sublist (List.take_sublist _ _), ⟨hgt, ks.sublist (List.drop_sublist _ _)⟩, fun a ha b hb => ?_⟩
    rcases List.mem_cons.mp hb with rfl | hb
    · exact hlt a ha
    · exact Nat.lt_trans (hlt a ha) (hgt b hb)
  · rw [SetTable.toList_insertAt, k.ent]; simp
  · rcases (mem q).mp hq with rfl | hq
    · exact hj
    · exact k.bnd q hq
  · rcases (mem q).mp hq with rfl | hq
    · exact r.mono sub
    · exact (k.rch q hq).mono sub
  · rcases (mem q).mp hq with rfl | hq
    · exact hm
    · exact k.hsh q hq
  · have hp : (L.take p ++ (j, (h, x)) :: L.drop p).Perm ((j, (h, x)) :: L) := by
      have := List.perm_middle (a := (j, (h, x))) (l₁ := L.take p) (l₂ := L.drop p)
      rwa [List.take_append_drop] at this
    refine ((hp.map _).nodup_iff).mpr ?_
    rw [List.map_cons, List.nodup_cons]
    exact ⟨fun z => let ⟨q, hq, e⟩ := List.mem_map.mp z; no q hq e, k.nod⟩
theorem put_mem {j p : Nat} {x : Value} (q : Nat × (Int × Value)) : q ∈ L.take p ++ (j, (h, x)) :: L.drop p ↔ q = (j, (h, x)) ∨ q ∈ L := by
  rw [List.mem_append, List.mem_cons, ← or_assoc, or_comm (a := q ∈ L.take p), or_assoc, ← List.mem_append, List.take_append_drop]
theorem filterMap_some {α β : Type} {f : α → Option β} {g : α → β} : ∀ {l : List α}, (∀ a ∈ l, f a = some (g a)) → l.filterMap f = l.map g
  | [], _ => rfl
  | a :: l, h => by rw [List.filterMap_cons_some (h a List.mem_cons_self), filterMap_some fun b hb => h b (List.mem_cons_of_mem _ hb)]; rfl
theorem relay_ok {wanted m : Nat} (k : TOk t es L) (hw : sizeAbove wanted - 1 = m) (hm : m = 31 ∨ m = 127) (hl : L.length ≤ m) :
    ∃ t' order L', t.relaid (es.map (·.1)) wanted = some (t', order) ∧ (order.filterMap (es[·]?)).size = es.size ∧ TOk t' (order.filterMap (es[·]?)) L' ∧ t'.mask = m ∧ t'.led = t.led ∧ (L'.map (·.2)).Perm (L.map (·.2)) := by
  obtain ⟨l1, l2⟩ := k.len
  have hh : ∀ h ∈ (es.map (·.1)).toList, h ∈ H36 := fun h hh => by
    rw [Array.toList_map, k.ent, List.map_map] at hh
    obtain ⟨q, hq, rfl⟩ := List.mem_map.mp hh
    exact k.hsh q hq
  obtain ⟨live, e, a1, a2, a3, a4⟩ := laid_ok (m := m) (f := t.finger) (mv := t.movedTo m) (led := t.led) (pl := t.plain) hm hh (by rw [Array.size_map, l2]; exact hl)
  rw [Array.size_map] at a3
  have hlt : ∀ q ∈ live, q.2 < es.size := fun q hq => List.mem_range.mp (a3.mem_iff.mp (List.mem_map_of_mem hq))
  have gd : ∀ i, i < es.size → es[i]? = some (es.getD i (0, .none)) := fun i hi => by simp [Array.getD, hi]
  have eo : ((live.map (·.2)).toArray.filterMap (es[·]?)).toList = live.map fun q => es.getD q.2 (0, .none) := by
    rw [Array.toList_filterMap]
    show (live.map (·.2)).filterMap _ = _
    rw [filterMap_some (g := fun i => es.getD i (0, .none)) fun i hi => ?_, List.map_map]; rfl
    obtain ⟨q, hq, rfl⟩ := List.mem_map.mp hi
    exact gd _ (hlt q hq)
  have er : (List.range es.size).map (fun i => es.getD i (0, .none)) = es.toList := by
    rw [← filterMap_getElem?_range es]
    exact (filterMap_some fun i hi => gd i (List.mem_range.mp hi)).symm
  have hp : (live.map fun q => es.getD q.2 (0, .none)).Perm es.toList := by
    rw [← er]
    have := a3.map fun i => es.getD i (0, .none)
    rwa [List.map_map] at this
  have m1 : (live.map fun q => (q.1, es.getD q.2 (0, .none))).map (·.1) = live.map (·.1) := by rw [List.map_map]; rfl
  have m2 : (live.map fun q => (q.1, es.getD q.2 (0, .none))).map (·.2) = live.map fun q => es.getD q.2 (0, .none) := by rw [List.map_map]; rfl
  have hp2 : ((live.map fun q => (q.1, es.getD q.2 (0, .none))).map (·.2)).Perm (L.map (·.2)) := by rw [m2, ← k.ent]; exact hp
  have hq2 : ∀ q ∈ live, (es.map (·.1))[q.2]? = some (es.getD q.2 (0, .none)).1 := fun q hq => by rw [Array.getElem?_map, gd _ (hlt q hq)]; rfl
  refine ⟨⟨m, (live.map (·.1)).toArray, #[], t.finger, t.led, t.movedTo m, t.plain⟩, (live.map (·.2)).toArray, live.map fun q => (q.1, es.getD q.2 (0, .none)), ?_, ?_, ⟨⟨rfl, ?_, ?_⟩, ?_, ?_, ?_, ?_, ?_, ?_, k.plain⟩, rfl, rfl, hp2⟩
  · unfold relaid
    rw [hw]
    exact e
  · rw [← Array.length_toList, eo, hp.length_eq, Array.length_toList]
  · rw [m1]
  · rw [m1]; exact a1
  · exact .inr hm
  · rw [eo, m2]
  · intro q hq
    obtain ⟨q', hq', rfl⟩ := List.mem_map.mp hq
    exact a2 q' hq'
  · intro q hq
    obtain ⟨q', hq', rfl⟩ := List.mem_map.mp hq
    rw [m1]
    exact a4 q' hq' _ (hq2 q' hq')
  · intro q hq
    have hq' := hp2.mem_iff.mp (List.mem_map_of_mem (f := (·.2)) hq)
    obtain ⟨q', hq', e'⟩ := List.mem_map.mp hq'
    rw [← e']; exact k.hsh q' hq'
  · have := (hp2.map (·.1)).nodup_iff.mpr (by rw [List.map_map]; exact k.nod)
    rwa [List.map_map] at this
theorem fresh_ok (led : Bool) : TOk (.fresh 0 0 led) #[] [] :=
  ⟨⟨rfl, rfl, .nil⟩, .inl rfl, rfl, fun q h => (nomatch h), fun q h => (nomatch h), fun q h => (nomatch h), .nil, rfl⟩
end
end PS
namespace PS
open PySem PySem.SetTable
noncomputable abbrev Src := List (Addr × (Nat × Nat))
section
variable {prog : Program} {w : World} {A : Around} {E : Value → Shared → Prop} {s : Shared} {S : Addr} {L : Lay} {src : Src} {led : Bool}
noncomputable def SrcAt (prog : Program) (w : World) (h : Heap) (src : Src) : Prop := ∀ e ∈ src, e.2.1 < 6 ∧ e.2.2 < 6 ∧ IsTupleKey (intKind prog w) h [(e.2.1 : Int), (e.2.2 : Int)] e.1
structure PSet (h : Heap) (S : Addr) (led : Bool) (src : Src) (L : Lay) : Prop where
  ex : ∃ o es ep t, h.get? S = some o ∧ o.ExactSet ∧ o.data = .set es ep t ∧ TOk t es L ∧ L.length * 5 < t.mask * 3 ∧ t.led = led
  own : ∀ q ∈ L, ∃ e ∈ src, q.2.2 = .ref e.1 ∧ q.2.1 = hp e.2.1 e.2.2
theorem SrcAt.sameBut {h h' : Heap} {o : Obj} {es : Array (Int × Value)} {ep : Nat} {t : SetTable} (x : SrcAt prog w h src) (ho : h.get? S = some o) (hd : o.data = .set es ep t) (hs : Heap.SameBut S h h') : SrcAt prog w h' src := fun e he => by
  obtain ⟨h1, h2, o', items, n, ho', hc, hd', hi⟩ := x e he
  refine ⟨h1, h2, o', items, n, (hs.2 e.1 fun z => ?_).trans ho', hc, hd', hi⟩
  rw [z, ho] at ho'
  cases ho'
  rw [hd] at hd'
  cases hd'
theorem hash_pair (a b : Nat) : tupleKeyHash (intKind prog w) [(a : Int), (b : Int)] = hp a b := rfl
theorem items_int {ks : List Int} {vs : List Value} (hi : ItemsAre (intKind prog w) ks vs) : ∀ v ∈ vs, ∃ k t, v = Value.int k t := by
  induction hi with
  | nil => intro v hv; cases hv
  | cons h1 _ ih =>
    intro v hv
    rcases List.mem_cons.mp hv with rfl | hv
    · exact ⟨_, Value.isInt_shape h1⟩
    · exact ih v hv
theorem hbv_pair {a : Addr} {x y : Int} {Q : Bool → Shared → Prop} (hk : IsTupleKey (intKind prog w) s.heap [x, y] a) (h : Q true s) : wpAny (model prog w) A (hashByValue 8 (.ref a)) Q E s := by
  have hT := hk.typeIs
  obtain ⟨o, items, n, ho, hc, hd, hi⟩ := hk
  unfold hashByValue
  refine wpAny_bind (wpAny_specialOf hT F.slot_tuple_hash.lookup ?_)
  show wpAny _ _ (seqItems? (.ref a) >>= _) _ _ s
  refine wpAny_bind (wpAny_seqItems ho hd ?_)
  refine wpAny_bind ?_
  show wpAny _ _ (forIn items _ _) _ _ s
  rw [← Array.forIn_toList]
  refine wpAny_forIn_list _ (fun rest r s' => r.1 = none ∧ s' = s ∧ ∀ v ∈ rest, ∃ k t, v = Value.int k t) _ ?_ ?_ _ _ ⟨rfl, rfl, ?_⟩
  · rintro v rest r s' ⟨hr, rfl, hall⟩
    obtain ⟨k, t, rfl⟩ := hall v List.mem_cons_self
    have e : hashByValue 7 (.int k t) = pure true := by unfold hashByValue; rfl
    rw [e]
    refine wpAny_bind (wpAny_pure ?_)
    simp only [Bool.not_true, Bool.false_eq_true, if_false]
    exact wpAny_pure ⟨rfl, rfl, fun u hu' => hall u (List.mem_cons_of_mem _ hu')⟩
  · rintro ⟨r1, r2⟩ s' ⟨hr, rfl, _⟩
    simp only at hr
    subst hr
    exact wpAny_pure h
  · exact items_int hi
theorem own_pair {a : Addr} {ks : List Int} {Q : Bool → Shared → Prop} (hk : IsTupleKey (intKind prog w) s.heap ks a) (h : Q false s) : wpAny (model prog w) A (ofAClassStatement 8 (.ref a)) Q E s := by
  have hT := hk.typeIs
  obtain ⟨o, items, n, ho, hc, hd, hi⟩ := hk
  unfold ofAClassStatement
  refine wpAny_bind (wpAny_typeOf hT ?_)
  dsimp only
  have ht : ("tuple" == "tuple") = true := rfl
  rw [ht]
  simp only [if_true]
  refine wpAny_bind (wpAny_pure ?_)
  simp only [Bool.not_true, Bool.false_eq_true, if_false]
  refine wpAny_bind (wpAny_seqItems ho hd ?_)
  dsimp only
  refine wpAny_bind ?_
  show wpAny _ _ (forIn items _ _) _ _ s
  rw [← Array.forIn_toList]
  refine wpAny_forIn_list _ (fun rest r s' => r.1 = none ∧ s' = s ∧ ∀ v ∈ rest, ∃ k t, v = Value.int k t) _ ?_ ?_ _ _ ⟨rfl, rfl, items_int hi⟩
  · rintro v rest r s' ⟨hr, rfl, hall⟩
    obtain ⟨k, t, rfl⟩ := hall v List.mem_cons_self
    have e : ofAClassStatement 7 (.int k t) = pure false := by unfold ofAClassStatement; rfl
    rw [e]
    refine wpAny_bind (wpAny_pure ?_)
    simp only [Bool.false_eq_true, if_false]
    exact wpAny_pure ⟨rfl, rfl, fun u hu' => hall u (List.mem_cons_of_mem _ hu')⟩
  · rintro ⟨r1, r2⟩ s' ⟨hr, rfl, _⟩
    simp only at hr
    subst hr
    exact wpAny_pure h
theorem seen_no {a : Addr} {p : Nat × Nat} {ys : List Value} {Q : Bool → Shared → Prop} (hX : SrcAt prog w s.heap src) (hk : (a, p) ∈ src) (hy : ∀ y ∈ ys, ∃ e ∈ src, y = .ref e.1) (h : Q false s) : wpAny (model prog w) A (searchCouldBeSeen (.ref a) ys) Q E s := by
  obtain ⟨_, _, hka⟩ := hX _ hk
  unfold searchCouldBeSeen
  refine wpAny_bind ?_
  refine wpAny_forIn_list _ (fun rest r s' => r.1 = none ∧ s' = s ∧ ∀ y ∈ rest, ∃ e ∈ src, y = .ref e.1) _ ?_ ?_ _ _ ⟨rfl, rfl, hy⟩
  · rintro v rest r s' ⟨hr, rfl, hall⟩
    obtain ⟨e, he, rfl⟩ := hall v List.mem_cons_self
    have rest' : ∀ y ∈ rest, ∃ e ∈ src, y = Value.ref e.1 := fun y hy => hall y (List.mem_cons_of_mem _ hy)
    obtain ⟨_, _, hke⟩ := hX _ he
    dsimp only
    split
    · exact wpAny_pure ⟨rfl, rfl, rest'⟩
    · refine wpAny_bind (wpAny_eqIsQuiet_tuple hka ?_)
      simp only [Bool.not_true, Bool.false_eq_true, if_false]
      refine wpAny_bind (wpAny_eqIsQuiet_tuple hke ?_)
      simp only [Bool.not_true, Bool.false_eq_true, if_false]
      refine wpAny_bind (own_pair hka ?_)
      simp only [Bool.false_eq_true, if_false]
      refine wpAny_bind (own_pair hke ?_)
      simp only [Bool.false_eq_true, if_false]
      exact wpAny_pure ⟨rfl, rfl, rest'⟩
  · rintro ⟨r1, r2⟩ s' ⟨hr, rfl, _⟩
    simp only at hr
    subst hr
    exact wpAny_pure h
theorem PSet.put {h : Heap} {o : Obj} {es es' : Array (Int × Value)} {ep : Nat} {t t' : SetTable} {L' : Lay} (ho : h.get? S = some o) (hex : o.ExactSet) (hd : o.data = .set es ep t) (k : TOk t' es' L') :
    (h.update S (Obj.putSet es' t')).get? S = some { o with data := .set es' (ep + 1) t' } := by
  have := Heap.get?_update_self (Obj.putSet es' t') ho (by rw [putSet_of es' t' hd]; rfl)
  rw [putSet_of es' t' hd] at this; exact this
theorem add_pair {a : Addr} {p : Nat × Nat} {Q : Bool → Shared → Prop} (hu : A.units < cLine) (hS : PSet s.heap S led src L) (hX : SrcAt prog w s.heap src) (hk : (a, p) ∈ src)
    (h : ∀ h' L' b tk, s.toks ≤ tk → Heap.SameBut S s.heap h' → PSet h' S led src L' → SrcAt prog w h' src → (∀ r : Int, (∃ q ∈ L', q.2.1 = r) ↔ (∃ q ∈ L, q.2.1 = r) ∨ r = hp p.1 p.2) → Q b { s with heap := h', toks := tk }) :
    wpAny (model prog w) A (setAdd S (.ref a)) Q E s := by
  obtain ⟨p1, p2, hka⟩ := hX _ hk
  unfold setAdd
  refine wpAny_holding (wpAny_bind (wpAny_pyHash_tuple hu hka ?_))
  rw [hash_pair]
  obtain ⟨⟨o, es, ep, t, ho, hex, hd, k, few, hled⟩, own⟩ := hS
  have hf : t.fits es.size = true := k.fits (by omega)
  unfold setAddHashed setAddHashedIn
  refine wpAny_holding (wpAny_bind (wpAny_setState_of ho hd hf ?_))
  have hb : byScan (.ref a) es = false := rfl
  dsimp only
  rw [hb]
  simp only [Bool.false_eq_true, if_false]
  unfold setSearch setSearchFrom
  refine wpAny_bind (wpAny_bind (wpAny_setState_of ho hd hf ?_))
  dsimp only
  rw [k.odd]
  simp only [Bool.false_eq_true, if_false]
  have hA : ∀ (i : Nat) (q : Nat × (Int × Value)), L[i]? = some q → (fun i : Nat => (es[i]?.map (·.1)).getD 0) i = q.2.1 := fun i q e => by
    have : es[i]? = some q.2 := by rw [← Array.getElem?_toList, k.ent, List.getElem?_map, e]; rfl
    dsimp only
    rw [this]; rfl
  by_cases hq : ∃ q ∈ L, q.2.1 = hp p.1 p.2
  · obtain ⟨q0, hq0, eq0⟩ := hq
    obtain ⟨j, i, ⟨j', h', v'⟩, nx, e1, e2, e3⟩ := search_there (hashAt := fun i => (es[i]?.map (·.1)).getD 0) k hA hq0 eq0
    have eE : es[i]? = some (h', v') := by rw [← Array.getElem?_toList, k.ent, List.getElem?_map, e2]; rfl
    generalize hz : t.probe _ _ _ = z
    have hz : z = some (Met.candidate j i nx) := hz.symm.trans e1
    subst hz
    dsimp only
    obtain ⟨e, he, ev, eh⟩ := own _ (List.mem_of_getElem? e2)
    obtain ⟨x1, x2, hke⟩ := hX _ he
    have ev : v' = .ref e.1 := ev
    have e3 : h' = hp p.1 p.2 := e3
    obtain ⟨i1, i2⟩ := hp_inj x1 x2 p1 p2 (eh.symm.trans e3)
    subst ev
    rw [eE]
    dsimp only
    have fin : ∀ b, Q b { s with toks := s.toks + ([(p.1 : Int), (p.2 : Int)].length + 1) } := fun b =>
      h s.heap L b _ (Nat.le_add_right _ _) (Heap.SameBut.refl _ _) ⟨⟨o, es, ep, t, ho, hex, hd, k, few, hled⟩, own⟩ hX fun r => ⟨.inl, fun z => z.elim id fun z => ⟨q0, hq0, by rw [z]; exact eq0⟩⟩
    have heq : decide ([(e.2.1 : Int), (e.2.2 : Int)] = [((a, p).2.1 : Int), ((a, p).2.2 : Int)]) = true := by rw [i1, i2]; simp
    have hys : ∀ y ∈ (es.filter fun x => x.1 == hp p.1 p.2).toList.map (·.2), ∃ e ∈ src, y = .ref e.1 := fun y hy => by
      obtain ⟨z, hz, rfl⟩ := List.mem_map.mp hy
      have hz' : z ∈ es.toList := by
        have := Array.mem_toList_iff.mp hz
        exact Array.mem_toList_iff.mpr (Array.mem_of_mem_filter this)
      rw [k.ent] at hz'
      obtain ⟨q, hq, rfl⟩ := List.mem_map.mp hz'
      obtain ⟨e, he, ev, _⟩ := own q hq
      exact ⟨e, he, ev⟩
    cases hl : t.led with
    | true =>
      simp only [Bool.not_true, Bool.false_eq_true, if_false]
      refine wpAny_bind (wpAny_holding (wpAny_eqBool_tuple hu hke hka ?_))
      rw [heq]
      refine wpAny_bind (wpAny_setState_of ho hd hf ?_)
      simp only [Bool.and_self, if_true]
      exact wpAny_pure (wpAny_pure (fin _))
    | false =>
      simp only [Bool.not_false, if_true]
      refine wpAny_bind (seen_no (s := { s with toks := s.toks + ([(p.1 : Int), (p.2 : Int)].length + 1) }) hX hk hys ?_)
      simp only [Bool.false_eq_true, if_false]
      refine wpAny_bind (wpAny_holding (wpAny_eqBool_tuple hu hke hka ?_))
      rw [heq]
      refine wpAny_bind (wpAny_setState_of ho hd hf ?_)
      simp only [Bool.and_self, if_true]
      exact wpAny_pure (wpAny_pure (fin _))
  · have no : ∀ q ∈ L, q.2.1 ≠ hp p.1 p.2 := fun q hq' e => hq ⟨q, hq', e⟩
    have hm := H36_mem p1 p2
    obtain ⟨j, e1, e2, e3, e4⟩ := search_free (hashAt := fun i => (es[i]?.map (·.1)).getD 0) k few hA hm no
    generalize hz : t.probe _ _ _ = z
    have hz : z = some (Met.empty j none) := hz.symm.trans e1
    subst hz
    dsimp only
    refine wpAny_pure ?_
    dsimp only
    refine wpAny_bind (wpAny_setState_of ho hd hf ?_)
    have k' := put_ok (x := Value.ref a) k e2 e3 e4 hm no
    have hmk : (t.put j).1.mask = t.mask := rfl
    have hpl : (t.put j).1.plain = true := k.plain
    have hle : (t.put j).1.led = led := hled
    obtain ⟨l1, l2⟩ := k'.len
    have hlen : (L.take (t.put j).2 ++ (j, (hp p.1 p.2, Value.ref a)) :: L.drop (t.put j).2).length = L.length + 1 := by
      have := congrArg List.length (List.take_append_drop (t.put j).2 L)
      rw [List.length_append] at this
      rw [List.length_append, List.length_cons]
      omega
    have hmem := put_mem (L := L) (j := j) (p := (t.put j).2) (h := hp p.1 p.2) (x := Value.ref a)
    generalize (t.put j).1 = t1 at k' hmk hpl hle l1 ⊢
    generalize (t.put j).2 = pp at k' l1 l2 hlen hmem ⊢
    generalize L.take pp ++ (j, (hp p.1 p.2, Value.ref a)) :: L.drop pp = L1 at k' l2 hlen hmem
    generalize insertAt es pp (hp p.1 p.2, Value.ref a) = es1 at k' l1 l2 ⊢
    have own1 : ∀ q ∈ L1, ∃ e ∈ src, q.2.2 = .ref e.1 ∧ q.2.1 = hp e.2.1 e.2.2 := fun q hq => by
      rcases (hmem q).mp hq with rfl | hq
      · exact ⟨(a, p), hk, rfl, rfl⟩
      · exact own q hq
    have has1 : ∀ r : Int, (∃ q ∈ L1, q.2.1 = r) ↔ (∃ q ∈ L, q.2.1 = r) ∨ r = hp p.1 p.2 := fun r => by
      constructor
      · rintro ⟨q, hq, rfl⟩
        rcases (hmem q).mp hq with rfl | hq
        · exact .inr rfl
        · exact .inl ⟨q, hq, rfl⟩
      · rintro (⟨q, hq, rfl⟩ | rfl)
        · exact ⟨q, (hmem q).mpr (.inr hq), rfl⟩
        · exact ⟨_, (hmem _).mpr (.inl rfl), rfl⟩
    have f36 := k'.few36
    dsimp only
    rw [hpl]
    simp only [if_true]
    refine wpAny_bind (hbv_pair (s := { s with toks := _ }) hka ?_)
    simp only [if_true]
    refine wpAny_bind (wpAny_storeSet_of ho hd ?_ (by rw [l2, sizeLine_eq]; omega))
    have ho1 := PSet.put (h := s.heap) ho hex hd k'
    have sb1 := Heap.SameBut.update s.heap S (Obj.putSet es1 t1)
    have hfill : t1.fill = L1.length := by unfold fill; rw [k'.dm, l1, l2]; rfl
    obtain ⟨_, el⟩ := k.len
    cases hfull : t1.tooFull with
    | false =>
      simp only [Bool.and_false, Bool.false_eq_true, if_false]
      have few1 : L1.length * 5 < t1.mask * 3 := by
        unfold tooFull at hfull
        rw [hfill] at hfull
        have := of_decide_eq_false hfull
        omega
      exact wpAny_pure (h _ L1 true _ (Nat.le_add_right _ _) sb1 ⟨⟨_, es1, _, t1, ho1, hex, rfl, k', few1, hle⟩, own1⟩ (hX.sameBut ho hd sb1) has1)
    | true =>
      simp only [Bool.not_false, Bool.and_true, if_true]
      have few1 : L1.length * 5 ≥ t1.mask * 3 := by
        unfold tooFull at hfull
        rw [hfill] at hfull
        exact of_decide_eq_true hfull
      have hcase : ∃ m, sizeAbove (grown (es.size + 1)) - 1 = m ∧ sizeAbove (grown (es.size + 1)) ≤ sizeLine ∧ (m = 31 ∨ m = 127) ∧ L1.length * 5 < m * 3 ∧ L1.length * 5 ≤ t1.mask * 4 := by
        rw [hmk] at few1 ⊢
        rcases k.mask with z | z | z <;> rw [z] at few few1 ⊢
        · have e5 : es.size = 4 := by omega
          rw [e5]
          exact ⟨31, by decide +kernel, by rw [sizeLine_eq]; decide +kernel, .inl rfl, by omega, by omega⟩
        · have e5 : es.size = 18 := by omega
          rw [e5]
          exact ⟨127, by decide +kernel, by rw [sizeLine_eq]; decide +kernel, .inr rfl, by omega, by omega⟩
        · omega
      obtain ⟨m, hw, hw2, hm', few2, ft⟩ := hcase
      obtain ⟨t2, order, L2, r1, r2, r3, r4, r5, r6⟩ := relay_ok k' hw hm' (by omega)
      have lr := r6.length_eq
      rw [List.length_map, List.length_map] at lr
      unfold setRelay
      refine wpAny_bind (wpAny_bind (wpAny_setState_of (s := { s with heap := s.heap.update S (Obj.putSet es1 t1), toks := _ }) ho1 rfl (k'.fits ft) ?_))
      dsimp only
      rw [if_neg (Nat.not_lt.mpr hw2)]
      refine wpAny_bind (wpAny_of_eq (show _ = pure (order.filterMap (es1[·]?), t2) from ?_) ?_)
      · rw [r1]
        show (if ((order.filterMap (es1[·]?)).size != es1.size) = true then _ else _) = _
        rw [if_neg (by rw [r2]; simp)]
      · dsimp only
        refine wpAny_storeSet_of ho1 rfl ?_ (by rw [r2, l2, sizeLine_eq]; omega)
        have ho2 := PSet.put (S := S) (h := s.heap.update S (Obj.putSet es1 t1)) ho1 hex rfl r3
        have sb2 := sb1.trans (Heap.SameBut.update _ S (Obj.putSet (order.filterMap (es1[·]?)) t2))
        have pm : ∀ q ∈ L2, ∃ q' ∈ L1, q.2 = q'.2 := fun q hq => by
          obtain ⟨q', hq', e'⟩ := List.mem_map.mp (r6.mem_iff.mp (List.mem_map_of_mem (f := (·.2)) hq))
          exact ⟨q', hq', e'.symm⟩
        have pm2 : ∀ q ∈ L1, ∃ q' ∈ L2, q.2 = q'.2 := fun q hq => by
          obtain ⟨q', hq', e'⟩ := List.mem_map.mp (r6.mem_iff.mpr (List.mem_map_of_mem (f := (·.2)) hq))
          exact ⟨q', hq', e'.symm⟩
        refine wpAny_pure (h _ L2 true _ (Nat.le_add_right _ _) sb2 ⟨⟨_, _, _, t2, ho2, hex, rfl, r3, by rw [lr, r4]; exact few2, r5.trans hle⟩, fun q hq => ?_⟩ (hX.sameBut ho hd sb2) fun r => (Iff.trans ?_ (has1 r)))
        · obtain ⟨q', hq', e'⟩ := pm q hq
          rw [e']; exact own1 q' hq'
        · exact ⟨fun ⟨q, hq, e⟩ => let ⟨q', hq', e'⟩ := pm q hq; ⟨q', hq', by rw [← e']; exact e⟩, fun ⟨q, hq, e⟩ => let ⟨q', hq', e'⟩ := pm2 q hq; ⟨q', hq', by rw [← e']; exact e⟩⟩
end
end PS
namespace PS
open PySem PySem.Spec PyProof.Rows
noncomputable def Has (L : Lay) (ps : Src) : Prop := ∀ r : Int, (∃ q ∈ L, q.2.1 = r) ↔ ∃ e ∈ ps, r = hp e.2.1 e.2.2
section
variable {prog : Program} {w : World} {A : Around} {R : Result → Shared → Prop} {I : Addr} {fp wr : List Addr} {G : Array GenState → Array GenState → Prop} {n : Nat} {P : Nat → Value → Prop} {St : Nat → Shared → Prop} {src : Src} {led : Bool}
theorem SrcAt.moved {s s' : Shared} (x : SrcAt prog w s.heap src) (hm : Moved wr G s s') (no : ∀ e ∈ src, e.1 ∉ wr) : SrcAt prog w s'.heap src := fun e he => by
  obtain ⟨h1, h2, o', items, n, ho', hc, hd', hi⟩ := x e he
  exact ⟨h1, h2, o', items, n, hm.heap e.1 _ (no e he) ho', hc, hd', hi⟩
theorem set_loop (W : WalksS prog w A.in1 I fp wr G n P St) (S : Addr) (hSf : S ∉ fp) (hu : A.in1.units < cLine) (hn : src.length = n) (no : ∀ e ∈ src, e.1 ∉ wr) (hval : ∀ i v, P i v → ∃ e, src[i]? = some e ∧ v = .ref e.1) :
    ∀ (k i : Nat) (s : Shared) (L : Lay), n - i = k → i ≤ n → St i s → PSet s.heap S led src L → SrcAt prog w s.heap src → Has L (src.take i) →
      (∀ s' L', Moved (S :: wr) G s s' → PSet s'.heap S led src L' → SrcAt prog w s'.heap src → Has L' src → R (.ok (.ret .none)) s') →
      codeAny (model prog w) A (.builtin "set.update.loop" ⟨[.ref S, .ref I], []⟩) R s := by
  have hSw : S ∉ wr := fun h => hSf (W.sub _ h)
  have hsub : ∀ b ∈ wr, b ∈ S :: wr := fun b hb => List.mem_cons_of_mem _ hb
  have mv : ∀ {s s' : Shared} {L : Lay}, PSet s.heap S led src L → Moved wr G s s' → PSet s'.heap S led src L := fun hS hm => by
    obtain ⟨⟨o, es, ep, t, ho, rest⟩, own⟩ := hS
    exact ⟨⟨o, es, ep, t, hm.heap S _ hSw ho, rest⟩, own⟩
  intro k
  induction k with
  | zero =>
    intro i s L hk hi hst hS hX hH hR
    have hin : i = n := by omega
    subst hin
    refine codeAny_builtin F.entry_set_update_loop ?_
    rw [Around.under_plainId F.plain_set_update_loop _]
    show wpAny _ A.in1 (pyNext (.ref I) >>= _) _ _ s
    refine wpAny_bind (W.done s _ _ hst fun s' hm => ?_)
    show wpAny _ A.in1 (ret Value.none) _ _ s'
    rw [← hn, List.take_length] at hH
    exact wpAny_pure (hR s' L (hm.mono hsub) (mv hS hm) (hX.moved hm no) hH)
  | succ k ih =>
    intro i s L hk hi hst hS hX hH hR
    have hlt : i < n := by omega
    refine codeAny_builtin F.entry_set_update_loop ?_
    rw [Around.under_plainId F.plain_set_update_loop _]
    show wpAny _ A.in1 (pyNext (.ref I) >>= _) _ _ s
    refine wpAny_bind (W.item i s _ _ hlt hst fun v s' hP hst' hm => ?_)
    obtain ⟨e, he, rfl⟩ := hval i v hP
    have hmem := List.mem_of_getElem? he
    have hS' := mv hS hm
    have hX' := hX.moved hm no
    show wpAny _ A.in1 (holding [Value.ref e.1] (setAdd S (.ref e.1)) >>= _) _ _ s'
    refine wpAny_bind (wpAny_holding ?_)
    refine add_pair (p := e.2) hu hS' hX' hmem fun h' L' b tk ht sb hS2 hX2 hH2 => ?_
    have hH' : Has L' (src.take (i + 1)) := fun r => by
      rw [hH2 r, hH r, List.take_add_one, he]
      simp only [Option.toList_some, List.mem_append, List.mem_singleton]
      constructor
      · rintro (⟨x, hx, z⟩ | z)
        · exact ⟨x, .inl hx, z⟩
        · exact ⟨e, .inr rfl, z⟩
      · rintro ⟨x, hx | rfl, z⟩
        · exact .inl ⟨x, hx, z⟩
        · exact .inr z
    refine wpAny_pure ⟨plainId_quiet F.plain_set_update_loop _, ih (i + 1) _ L' (by omega) hlt (W.frame _ s' _ _ hst' ht fun b hb o e => ?_) hS2 hX2 hH' fun s'' L'' hm'' hS'' hX'' hH'' => ?_⟩
    · rw [sb.2 b (fun h : b = S => hSf (by rw [← h]; exact hb))]; exact e
    · refine hR s'' L'' (Moved.trans W.gtrans ((hm.mono hsub).then_heap ht fun b o hb e => ?_) hm'') hS'' hX'' hH''
      rw [sb.2 b (fun h : b = S => hb (by rw [h]; exact List.mem_cons_self))]; exact e
end
section
variable {prog : Program} {w : World} {A : Around} {E : Value → Shared → Prop} {s : Shared} {src : Src}
noncomputable def byText (w : World) : Bool := w.params.followText "set-order"
theorem set_new (a : Value) {Q₁ : Value → Shared → Prop}
    (h : Q₁ (.ref s.heap.objs.size) { s with heap := s.heap.push { cls := .type "set", dict := none, data := .set #[] 0 (.fresh 0 0 (!byText w)) } }) :
    codeAny (model prog w) A (.call (.builtin "set.__new__") ⟨[.type "set", a], []⟩) (wants Q₁ E) s := by
  refine codeAny_of_tree ?_
  show wpAny _ A.in1 (do checkBuiltinCall "set.__new__" ⟨[.type "set", a], []⟩; again (.builtin "set.__new__" ⟨[.type "set", a], []⟩)) _ _ s
  refine wpAny_bind (wpAny_of_eq (PySem.F.newCall_set_1 a) (wpAny_pure ⟨plainId_quiet PySem.F.plain_set_new _, codeAny_builtin PySem.F.entry_set_new ?_⟩))
  rw [Around.under_plainId PySem.F.plain_set_new _]
  unfold Builtin.«set.__new__» Builtin.Frozenset.newClass
  have hsub := PySem.sub_set_self
  obtain ⟨hp, g, d, tk, os⟩ := s
  dsimp only
  wp_walk
  refine wpAny_askSetting (wpAny_pure ?_)
  dsimp only
  simp only [newObj]
  refine wpAny_bind (wpAny_alloc (wpAny_pure ?_))
  exact wpAny_pure h
set_option maxHeartbeats 3200000 in
theorem call_set_pairs {l : Addr} {items : Array Value} {Q : Value → Shared → Prop} (hh : A.handled = none) (hu : A.units + 64 < cLine) (hl : s.heap.IsList l items) (hi : items.toList = src.map fun e => Value.ref e.1) (hX : SrcAt prog w s.heap src)
    (h : ∀ (h' : Heap) (tk : Nat) L, PSet h' s.heap.objs.size (!byText w) src L → Has L src → s.toks ≤ tk → (∀ b o, s.heap.get? b = some o → h'.get? b = some o) → Q (.ref s.heap.objs.size) { s with heap := h', toks := tk }) :
    wpAny (model prog w) A (call (.type "set") [.ref l]) Q E s := by
  obtain ⟨c, tl, hmro⟩ := PySem.F.called_set.mro
  have hmade := PySem.F.called_set.made
  have hsub := PySem.F.called_set.sub
  refine wpAny_call (codeAny_of_tree ?_)
  show wpAny _ _ (callAny (.type "set") _) _ _ _
  refine wpAny_pure ⟨Code.quiet_builtin _ (by decide +kernel), codeAny_builtin PySem.F.entry_type_call ?_⟩
  rw [Around.under_plain (weight_type_call_type "set" [.ref l] []) rfl]
  have h1 := PySem.F.called_set.notType
  have h2 := PySem.F.called_set.canCreate
  have hct := PySem.F.typeCall_set_1 (.ref l)
  repeat (any_goals (first | assumption | wp_step))
  refine codeAny_mono (set_new (.ref l) (E := E) (Q₁ := fun obj s₁ => obj = .ref s.heap.objs.size ∧ s₁ = { s with heap := s.heap.push { cls := .type "set", dict := none, data := .set #[] 0 (.fresh 0 0 (!byText w)) } }) ⟨rfl, rfl⟩) fun r s₁ hr => ?_
  cases r with
  | error e => exact hr
  | ok fl =>
    cases fl with
    | ret obj =>
      obtain ⟨rfl, rfl⟩ := hr
      have hS : (s.heap.push { cls := .type "set", dict := none, data := .set #[] 0 (.fresh 0 0 (!byText w)) }).get? s.heap.objs.size = some { cls := .type "set", dict := none, data := .set #[] 0 (.fresh 0 0 (!byText w)) } := Heap.get?_push_size _ rfl
      have hT : Shared.TypeIs { s with heap := s.heap.push { cls := .type "set", dict := none, data := .set #[] 0 (.fresh 0 0 (!byText w)) } } (.ref s.heap.objs.size) "set" := ⟨_, hS, rfl⟩
      have hli := PySem.F.called_set.init.lookup
      have hbi := PySem.F.called_set.init.bind (.ref s.heap.objs.size)
      repeat (any_goals (first | assumption | wp_step))
      refine codeAny_mono (codeAny_call_builtin (R := wants (fun r s₂ => r = .none ∧ ∃ h' tk L, s₂ = { s with heap := h', toks := tk } ∧ PSet h' s.heap.objs.size (!byText w) src L ∧ Has L src ∧ s.toks ≤ tk ∧
          (∀ b o, s.heap.get? b = some o → h'.get? b = some o)) E) PySem.F.called_set.init.plain PySem.F.entry_set_init (check_set_init_1 hT ?_)) fun r₂ s₂ hr₂ => ?_
      · obtain ⟨ol, hol, hcl, nl, hdl⟩ := hl
        obtain ⟨ocls, odict, odata, oslots⟩ := ol
        simp only at hcl hdl
        subst hcl; subst hdl
        have hol' : (s.heap.push { cls := .type "set", dict := none, data := .set #[] 0 (.fresh 0 0 (!byText w)) }).get? l = some { cls := .type "list", dict := odict, data := .seq items nl, slots := oslots } := Heap.get?_push_of_some _ hol
        have hsls := PySem.F.sub_list_set
        have hslf := PySem.F.sub_list_frozenset
        have hne : (Value.type "list" == Value.type "dict") = false := by decide
        have hl1 : (s.heap.push { cls := .type "set", dict := none, data := .set #[] 0 (.fresh 0 0 (!byText w)) }).IsList l items := ⟨_, hol', rfl, nl, rfl⟩
        unfold Builtin.«set.__init__» noKeywords Builtin.Frozenset.updateFrom
        generalize hPI : pyIter = PI
        wp_walk
        subst hPI
        refine wpAny_pyIter_list hl1 ?_
        refine wpAny_bind (wpAny_runValue ?_)
        have hlS : l < s.heap.objs.size := Heap.lt_size hol
        have hh3 : A.in1.in1.in1.handled = none := by simp [hh]
        have hneI : l ≠ (s.heap.push { cls := .type "set", dict := none, data := .set #[] 0 (.fresh 0 0 (!byText w)) }).objs.size := by
          rw [Heap.size_push]; exact Nat.ne_of_lt (Nat.lt_succ_of_lt hlS)
        have hSf : s.heap.objs.size ∉ [(s.heap.push { cls := .type "set", dict := none, data := .set #[] 0 (.fresh 0 0 (!byText w)) }).objs.size, l] := by
          rw [Heap.size_push]; simp only [List.mem_cons, List.mem_singleton, List.not_mem_nil, or_false, not_or]
          exact ⟨Nat.ne_of_lt (Nat.lt_succ_self _), Nat.ne_of_gt hlS⟩
        have hlen : src.length = items.size := by have := congrArg List.length hi; simpa using this.symm
        have hval : ∀ (i : Nat) (v : Value), items[i]? = some v → ∃ e, src[i]? = some e ∧ v = .ref e.1 := fun i v hv => by
          rw [← Array.getElem?_toList, hi, List.getElem?_map] at hv
          obtain ⟨e, he, rfl⟩ := Option.map_eq_some_iff.mp hv
          exact ⟨e, he, rfl⟩
        have hno : ∀ e ∈ src, e.1 < s.heap.objs.size := fun e he => by
          obtain ⟨_, _, o, _, _, ho, _⟩ := hX e he
          exact Heap.lt_size ho
        have hX2 : SrcAt prog w ((s.heap.push { cls := .type "set", dict := none, data := .set #[] 0 (.fresh 0 0 (!byText w)) }).push { cls := .type "list_iterator", data := .fields #[.ref l, .int 0 0] }) src := fun e he => by
          obtain ⟨z1, z2, o, its, n, ho, z3⟩ := hX e he
          exact ⟨z1, z2, o, its, n, Heap.get?_push_of_some _ (Heap.get?_push_of_some _ ho), z3⟩
        refine set_loop (src := src) (led := !byText w) ((Walks.list hh3 _ l hneI items).toS) s.heap.objs.size hSf (show A.units + 3 < cLine by omega) hlen (fun e he => ?_) hval (items.size - 0) 0 _ [] (by omega) (Nat.zero_le _)
          ⟨⟨_, Heap.get?_push_size _ rfl, rfl, rfl⟩, (hl1.push _)⟩ ?hS0 hX2 (fun r => by simp) ?hR
        case hS0 => exact ⟨⟨_, #[], 0, _, Heap.get?_push_of_some _ hS, ⟨rfl, rfl, rfl⟩, rfl, fresh_ok _, (show 0 < 21 by decide), rfl⟩, fun q hq => (nomatch hq)⟩
        case hR =>
          intro s' L' hm hS' hX' hH'
          obtain ⟨h', g', d', tk', os'⟩ := s'
          have eg : g' = s.gens := hm.gens
          have ed : d' = s.drawn := hm.drawn
          have eo : os' = s.os := hm.os
          subst eg; subst ed; subst eo
          show wpAny _ _ _ _ _ _
          refine wpAny_pure ?_
          show wpAny _ _ (ret Value.none) _ _ _
          refine wpAny_pure ⟨rfl, h', tk', L', rfl, hS', hH', hm.toks, fun b o e => ?_⟩
          have hb := Heap.lt_size e
          have hb1 : b ≠ s.heap.objs.size := Nat.ne_of_lt hb
          have hb2 : b ≠ (s.heap.push { cls := .type "set", dict := none, data := .set #[] 0 (.fresh 0 0 (!byText w)) }).objs.size := by
            rw [Heap.size_push]; exact Nat.ne_of_lt (Nat.lt_succ_of_lt hb)
          exact hm.heap b o (by simp only [List.mem_cons, List.mem_singleton, List.not_mem_nil, or_false, not_or]; exact ⟨hb1, hb2⟩) (Heap.get?_push_of_some _ (Heap.get?_push_of_some _ e))
        rw [Heap.size_push]
        simp only [List.mem_cons, List.not_mem_nil, or_false]
        exact Nat.ne_of_lt (Nat.lt_succ_of_lt (hno e he))
      · cases r₂ with
        | error e => exact hr₂
        | ok fl₂ =>
          cases fl₂ with
          | ret r =>
            obtain ⟨rfl, h', tk, L, rfl, hS', hH', ht', hk'⟩ := hr₂
            repeat (any_goals (first | assumption | wp_step))
            exact h _ _ L hS' hH' ht' hk'
          | _ => exact hr₂.elim
    | _ => exact hr.elim
end
end PS
namespace PS
open PySem PySem.Spec PyProof.Rows PySem.SetTable
theorem slot_si_next : Slot "set_iterator" "__next__" "set_iterator.__next__" :=
  .of (owner := "set_iterator") (n := "__next__") (by rw [typeLookup_type, builtinLookup_eq_fast]; kernel_rfl) (by decide +kernel) (by decide +kernel) (by decide +kernel)
    (by first | exact .inl (by decide +kernel) | exact .inr (by decide +kernel)) (by rw [isSubtype_type]; kernel_rfl)
theorem slot_si_iter : Slot "set_iterator" "__iter__" "set_iterator.__iter__" :=
  .of (owner := "set_iterator") (n := "__iter__") (by rw [typeLookup_type, builtinLookup_eq_fast]; kernel_rfl) (by decide +kernel) (by decide +kernel) (by decide +kernel)
    (by first | exact .inl (by decide +kernel) | exact .inr (by decide +kernel)) (by rw [isSubtype_type]; kernel_rfl)
theorem entry_si_next : entryFor table "set_iterator.__next__" = some Builtin.«set_iterator.__next__» := entryFor_of_tree (by kernel_rfl)
theorem owner_si : Manifest.owners.lookup (String.ofList ['r', 'o', 't', 'a', 'r', 'e', 't', 'i', '_', 't', 'e', 's'].reverse) = some Manifest.sig_set_iterator := by kernel_rfl
theorem args_si_next (a : Value) : argsOk "set_iterator.__next__" ⟨[a], []⟩ := by
  unfold argsOk; rw [signature?_of (id := "set_iterator.__next__") (n := ['_', '_', 't', 'x', 'e', 'n', '_', '_']) (o := ['r', 'o', 't', 'a', 'r', 'e', 't', 'i', '_', 't', 'e', 's']) (by kernel_rfl) owner_si]; kernel_rfl
theorem entry_set_iter : entryFor table "set.__iter__" = some Builtin.«frozenset.__iter__» :=
  entryFor_alias (id' := "frozenset.__iter__") (by kernel_rfl) rfl (by decide +kernel) (by kernel_rfl)
theorem entry_si_iter : entryFor table "set_iterator.__iter__" = some Builtin.«dict_keyiterator.__iter__» :=
  entryFor_alias (id' := "dict_keyiterator.__iter__") (by kernel_rfl) rfl (by decide +kernel) (by kernel_rfl)
theorem args_si_iter (a : Value) : argsOk "set_iterator.__iter__" ⟨[a], []⟩ := by
  unfold argsOk; rw [signature?_of (id := "set_iterator.__iter__") (n := ['_', '_', 'r', 'e', 't', 'i', '_', '_']) (o := ['r', 'o', 't', 'a', 'r', 'e', 't', 'i', '_', 't', 'e', 's']) (by kernel_rfl) owner_si]; kernel_rfl
theorem args_set_iter (a : Value) : argsOk "set.__iter__" ⟨[a], []⟩ := by
  unfold argsOk; rw [signature?_of (id := "set.__iter__") (n := ['_', '_', 'r', 'e', 't', 'i', '_', '_']) (o := ['t', 'e', 's']) (by kernel_rfl) PySem.F.owner_set]; kernel_rfl
theorem pick_perm {α : Type} (next : Nat → Nat) : ∀ (fuel k : Nat) (left : List α) (out : Array α), left.length = fuel → (pickOrder.go next fuel k left out).toList.Perm (out.toList ++ left)
  | 0, _, left, out, h => by
    rw [List.length_eq_zero_iff.mp h, List.append_nil]; exact .rfl
  | fuel + 1, k, left, out, h => by
    rw [pickOrder.go]
    have hl : next k % left.length < left.length := Nat.mod_lt _ (by omega)
    rw [List.getElem?_eq_getElem hl]
    dsimp only
    refine (pick_perm next fuel (k + 1) _ _ (by rw [List.length_eraseIdx_of_lt hl]; omega)).trans ?_
    rw [Array.toList_push, List.append_assoc]
    refine List.Perm.append_left _ ?_
    rw [List.eraseIdx_eq_take_drop_succ]
    refine (List.perm_middle (a := left[next k % left.length]) (l₁ := left.take (next k % left.length))).symm.trans ?_
    rw [List.getElem_cons_drop, List.take_append_drop]
structure SObj (w : World) (o : Obj) (es : Array (Int × Value)) (ep : Nat) (t : SetTable) (L : Lay) : Prop where
  ex : o.ExactSet
  dat : o.data = .set es ep t
  ok : TOk t es L
  few : L.length * 5 < t.mask * 3
  led : t.led = !byText w
noncomputable def ordOf (w : World) (S ep : Nat) (es : Array (Int × Value)) : Array (Int × Value) := if byText w = true then pickOrder (w.params.setOrder S ep) es else es
theorem ord_perm (w : World) (S ep : Nat) (es : Array (Int × Value)) : (ordOf w S ep es).toList.Perm es.toList := by
  unfold ordOf
  split
  · exact pick_perm _ _ _ _ _ (by simp)
  · exact .rfl
noncomputable def slotOf (w : World) (t : SetTable) (i : Nat) : Nat := if byText w = true then 0 else if i = 0 then 0 else t.place.getD (i - 1) 0 + 1
theorem below_le {xs : Array Nat} (hs : xs.toList.Pairwise (· < ·)) (j : Nat) : below xs j ≤ xs.size :=
  (below_go hs xs.size 0 xs.size (Nat.le_refl _) (Nat.zero_le _) (by omega) (fun i x h => absurd h (Nat.not_lt_zero _)) (fun i x h e => by rw [Array.getElem?_eq_none h] at e; cases e)).1
theorem below_next {xs : Array Nat} (hs : xs.toList.Pairwise (· < ·)) {i : Nat} (hi : i ≤ xs.size) : below xs (if i = 0 then 0 else xs.getD (i - 1) 0 + 1) = i := by
  have h0 := below_le hs (if i = 0 then 0 else xs.getD (i - 1) 0 + 1)
  obtain ⟨h1, h2⟩ := below_spec hs (if i = 0 then 0 else xs.getD (i - 1) 0 + 1)
  have mono := hs
  rw [List.pairwise_iff_getElem] at mono
  generalize hb : below xs (if i = 0 then 0 else xs.getD (i - 1) 0 + 1) = b at h0 h1 h2
  cases i with
  | zero =>
    rw [if_pos rfl] at h1 h2
    cases b with
    | zero => rfl
    | succ b =>
      have hx : 0 < xs.size := by omega
      exact absurd (h1 0 _ (Nat.succ_pos _) (Array.getElem?_eq_getElem hx)) (Nat.not_lt_zero _)
  | succ i =>
    rw [if_neg (Nat.succ_ne_zero _)] at h1 h2
    have hg : xs.getD (i + 1 - 1) 0 = xs[i] := by simp [Array.getD, show i < xs.size from hi]
    rw [hg] at h1 h2
    rcases Nat.lt_trichotomy b (i + 1) with z | z | z
    · have hbs : b < xs.size := by omega
      have q := h2 b _ (Nat.le_refl _) (Array.getElem?_eq_getElem hbs)
      rcases Nat.lt_or_eq_of_le (Nat.le_of_lt_succ z) with y | y
      · have := mono b i (by simpa using hbs) (by simpa using (show i < xs.size from hi)) y
        simp at this; omega
      · subst y; omega
    · exact z
    · have his : i + 1 < xs.size := by omega
      have q := h1 (i + 1) _ z (Array.getElem?_eq_getElem his)
      have := mono i (i + 1) (by simpa using (show i < xs.size from hi)) (by simpa using his) (Nat.lt_succ_self _)
      simp at this; omega
section
variable {prog : Program} {w : World} {A : Around} {E : Value → Shared → Prop} {s : Shared} {S I : Addr} {o : Obj} {es : Array (Int × Value)} {ep : Nat} {t : SetTable} {L : Lay}
theorem set_next {i : Nat} {Q : Option (Value × Nat) → Shared → Prop} (k : SObj w o es ep t L) (ho : s.heap.get? S = some o) (hi : i ≤ es.size) (h : Q (((ordOf w S ep es)[i]?).map fun e => (e.2, slotOf w t (i + 1))) s) :
    wpAny (model prog w) A (setNext S (slotOf w t i) i ep) Q E s := by
  have hf : t.fits es.size = true := k.ok.fits (by have := k.few; omega)
  obtain ⟨l1, l2⟩ := k.ok.len
  unfold setNext
  refine wpAny_bind (wpAny_setState_of ho k.dat hf ?_)
  dsimp only
  refine wpAny_bind ?_
  unfold setsByText
  refine wpAny_bind (wpAny_askSetting (wpAny_pure ?_))
  show wpAny _ _ (if byText w = true then _ else _) _ _ s
  cases hb : byText w with
  | true =>
    rw [if_pos rfl]
    have hne : (ep != ep) = false := by simp
    rw [hne]
    simp only [Bool.false_eq_true, if_false]
    refine wpAny_bind ?_
    unfold setWalk
    refine wpAny_bind (wpAny_setState_of ho k.dat hf ?_)
    dsimp only
    refine wpAny_bind ?_
    unfold setsByText
    refine wpAny_bind (wpAny_askSetting (wpAny_pure ?_))
    show wpAny _ _ (if byText w = true then _ else _) _ _ s
    rw [hb, if_pos rfl]
    refine wpAny_bind (wpAny_askSetting (wpAny_pure (wpAny_pure ?_)))
    have e1 : ∀ i, slotOf w t i = 0 := fun i => by unfold slotOf; rw [if_pos hb]
    have e2 : ordOf w S ep es = pickOrder (w.params.setOrder S ep) es := by unfold ordOf; rw [if_pos hb]
    rw [e1, e2] at h
    rw [e1]
    exact h
  | false =>
    rw [if_neg (by simp)]
    have e0 : ∀ i, slotOf w t i = if i = 0 then 0 else t.place.getD (i - 1) 0 + 1 := fun i => by unfold slotOf; rw [hb]; rfl
    have e2 : ordOf w S ep es = es := by unfold ordOf; rw [hb]; rfl
    show wpAny _ _ (if (!t.plain && decide (es.size > 1)) = true then _ else _) _ _ s
    rw [k.ok.plain]
    simp only [Bool.not_true, Bool.false_and, Bool.false_eq_true, if_false]
    refine wpAny_bind ?_
    show wpAny _ _ (if (!t.led && !es.isEmpty) = true then _ else _) _ _ s
    rw [k.led, hb]
    simp only [Bool.not_false, Bool.not_true, Bool.false_and, Bool.false_eq_true, if_false]
    refine wpAny_pure ?_
    rw [e0 i, below_next (by rw [k.ok.pl]; exact k.ok.srt) (by omega)]
    refine wpAny_pure ?_
    rw [e2] at h
    cases hg : es[i]? with
    | none => rw [hg] at h; exact h
    | some e =>
      rw [hg] at h
      have hlt : i < t.place.size := by rw [l1]; exact (Array.getElem?_eq_some_iff.mp hg).1
      rw [Array.getElem?_eq_getElem hlt]
      rw [e0 (i + 1), if_neg (Nat.succ_ne_zero _)] at h
      have hd : t.place.getD (i + 1 - 1) 0 = t.place[i] := by simp [Array.getD, hlt]
      rw [hd] at h
      exact h
noncomputable def IsSI (w : World) (h : Heap) (I S n ep : Nat) (t : SetTable) (i : Nat) : Prop := ∃ o, h.get? I = some o ∧ o.cls = .type "set_iterator" ∧ o.data = .fields #[rawInt (slotOf w t i), rawInt i, .ref S, rawInt n, rawInt ep]
theorem IsSI.typeIs {n i : Nat} (x : IsSI w s.heap I S n ep t i) : s.TypeIs (.ref I) "set_iterator" := let ⟨o, ho, hc, _⟩ := x; ⟨o, ho, hc⟩
theorem si_item {i : Nat} {e : Int × Value} {Q : Option Value → Shared → Prop} (k : SObj w o es ep t L) (ho : s.heap.get? S = some o) (hit : IsSI w s.heap I S es.size ep t i) (hx : (ordOf w S ep es)[i]? = some e) (hi : i ≤ es.size)
    (hQ : ∀ h', IsSI w h' I S es.size ep t (i + 1) → Heap.SameBut I s.heap h' → Q (some e.2) { s with heap := h' }) : wpAny (model prog w) A (pyNext (.ref I)) Q E s := by
  obtain ⟨oi, hoi, hc, hd⟩ := id hit
  have hf : t.fits es.size = true := k.ok.fits (by have := k.few; omega)
  unfold pyNext
  refine wpAny_bind (wpAny_attempt (wpAny_callSpecial?_slot (name := Str.ofString "__next__") hit.typeIs slot_si_next (wpAny_call_entry slot_si_next hit.typeIs entry_si_next ?_ (args_si_next _))))
  unfold Builtin.«set_iterator.__next__»
  refine wpAny_bind (wpAny_pure ?_)
  refine wpAny_bind (wpAny_fieldsOf hoi hd ?_)
  show wpAny _ _ (setEntries S >>= _) _ _ _
  refine wpAny_bind (wpAny_setEntries_of ho k.dat hf ?_)
  have hne : (((es.size : Nat) : Int) != ((es.size : Nat) : Int)) = false := by simp
  rw [hne]
  simp only [Bool.false_eq_true, if_false]
  show wpAny _ _ (setNext S (slotOf w t i) i ep >>= _) _ _ _
  refine wpAny_bind (set_next k ho hi ?_)
  rw [hx]
  show wpAny _ _ (setField (.ref I) 0 (rawInt (slotOf w t (i + 1))) >>= _) _ _ _
  refine wpAny_bind (wpAny_setField hoi hd (by simp) ?_)
  have g1 := Heap.get?_update_self (h := s.heap) (Obj.mapFields (·.setIfInBounds 0 (rawInt (slotOf w t (i + 1))))) hoi (Obj.isFreed_of_fields (Obj.data_mapFields hd _))
  have d1 := Obj.data_mapFields hd (fun v => v.setIfInBounds 0 (rawInt (slotOf w t (i + 1))))
  refine wpAny_bind (wpAny_setField g1 d1 (by simp) ?_)
  have g2 := Heap.get?_update_self (Obj.mapFields (·.setIfInBounds 1 (rawInt ((i : Int) + 1)))) g1 (Obj.isFreed_of_fields (Obj.data_mapFields d1 _))
  have d2 := Obj.data_mapFields d1 (fun v => v.setIfInBounds 1 (rawInt ((i : Int) + 1)))
  refine wpAny_pure ⟨_, rfl, wpAny_pure (hQ _ ⟨_, g2, (Obj.cls_mapFields ..).trans ((Obj.cls_mapFields ..).trans hc), ?_⟩ ((Heap.SameBut.update ..).trans (Heap.SameBut.update ..)))⟩
  rw [d2]
  simp
theorem si_end {Q : Option Value → Shared → Prop} (hh : A.handled = none) (k : SObj w o es ep t L) (ho : s.heap.get? S = some o) (hit : IsSI w s.heap I S es.size ep t es.size)
    (hQ : ∀ h', Heap.ExtBut I s.heap h' → Q none { s with heap := h' }) : wpAny (model prog w) A (pyNext (.ref I)) Q E s := by
  obtain ⟨oi, hoi, hc, hd⟩ := id hit
  have hf : t.fits es.size = true := k.ok.fits (by have := k.few; omega)
  have hx : (ordOf w S ep es)[es.size]? = none := by
    rw [Array.getElem?_eq_none]
    have := (ord_perm w S ep es).length_eq
    simp at this
    omega
  unfold pyNext
  refine wpAny_bind (wpAny_attempt (wpAny_callSpecial?_slot (name := Str.ofString "__next__") hit.typeIs slot_si_next (wpAny_call_entry slot_si_next hit.typeIs entry_si_next ?_ (args_si_next _))))
  unfold Builtin.«set_iterator.__next__»
  refine wpAny_bind (wpAny_pure ?_)
  refine wpAny_bind (wpAny_fieldsOf hoi hd ?_)
  show wpAny _ _ (setEntries S >>= _) _ _ _
  refine wpAny_bind (wpAny_setEntries_of ho k.dat hf ?_)
  have hne : (((es.size : Nat) : Int) != ((es.size : Nat) : Int)) = false := by simp
  rw [hne]
  simp only [Bool.false_eq_true, if_false]
  show wpAny _ _ (setNext S (slotOf w t es.size) es.size ep >>= _) _ _ _
  refine wpAny_bind (set_next k ho (Nat.le_refl _) ?_)
  rw [hx]
  show wpAny _ _ (setField (.ref I) 2 .none >>= _) _ _ _
  refine wpAny_bind (wpAny_setField hoi hd (by simp) ?_)
  show wpAny _ _ (newExc (.type "StopIteration") [] >>= _) _ _ _
  refine wpAny_bind ?_
  simp only [newExc, newTuple]
  refine wpAny_bind (wpAny_newObj_type ?_ (by size_fits))
  refine wpAny_bind (m := firstArgMember _ _) (wpAny_of_eq (a := Value.none) (by first | rfl | (simp only [firstArgMember]; rfl)) ?_)
  refine wpAny_newObj_type ?_ (by size_fits)
  simp only [raiseNew]
  refine wpAny_bind (wpAny_handled ?_)
  rw [show A.in1.handled = none from hh]
  refine wpAny_bind (wpAny_pure (wpAny_throw ?_))
  refine wpAny_bind (wpAny_isInstance (T := "StopIteration") (b := true) ⟨_, Heap.get?_push_size _ rfl, rfl⟩ isSubtype_stop ?_)
  exact wpAny_pure (hQ _ (((Heap.SameBut.update ..).extBut.push _).push _))
theorem set_iter {Q : Value → Shared → Prop} (k : SObj w o es ep t L) (ho : s.heap.get? S = some o)
    (h : Q (.ref s.heap.objs.size) { s with heap := s.heap.push { cls := .type "set_iterator", data := .fields #[rawInt (slotOf w t 0), rawInt (0 : Nat), .ref S, rawInt es.size, rawInt ep] } }) : wpAny (model prog w) A (pyIter (.ref S)) Q E s := by
  have hf : t.fits es.size = true := k.ok.fits (by have := k.few; omega)
  have hT : s.TypeIs (.ref S) "set" := ⟨o, ho, k.ex.1⟩
  have e0 : slotOf w t 0 = 0 := by unfold slotOf; simp
  refine wpAny_pyIter_slot hT PySem.F.slot_set_iter (wpAny_call_entry PySem.F.slot_set_iter hT entry_set_iter ?_ (args_set_iter _))
  unfold Builtin.«frozenset.__iter__»
  refine wpAny_bind (wpAny_pure ?_)
  refine wpAny_bind ?_
  unfold Builtin.Frozenset.sizeOf
  refine wpAny_bind (wpAny_setEntries_of ho k.dat hf (wpAny_pure ?_))
  refine wpAny_bind ?_
  unfold setDrawn
  refine wpAny_bind (wpAny_setState_of ho k.dat hf ?_)
  dsimp only
  refine wpAny_bind ?_
  unfold setsByText
  refine wpAny_bind (wpAny_askSetting (wpAny_pure ?_))
  refine wpAny_pure ?_
  have hd : (!byText w && (!t.plain && decide (es.size > 1))) = false := by rw [k.ok.plain]; simp
  show wpAny _ _ (if (!byText w && (!t.plain && decide (es.size > 1))) = true then _ else _) _ _ s
  rw [hd]
  simp only [Bool.false_eq_true, if_false]
  refine wpAny_bind (wpAny_pure ?_)
  refine wpAny_bind (wpAny_setEpoch_of ho k.dat hf ?_)
  unfold newFields
  refine wpAny_bind (wpAny_newObj_type (wpAny_pure ⟨_, rfl, "set_iterator", _, ⟨_, Heap.get?_push_size _ rfl, rfl⟩, slot_si_next.lookup, ?_⟩))
  rw [e0] at h
  exact h
theorem set_walks (hh : A.handled = none) (k : SObj w o es ep t L) (hne : S ≠ I) : Walks prog w A I [I, S] [I] es.size (fun i v => ∃ e, (ordOf w S ep es)[i]? = some e ∧ v = e.2) (fun i h => IsSI w h I S es.size ep t i ∧ h.get? S = some o) where
  sub := fun b hb => by simp at hb; simp [hb]
  frame := fun i h h' st hk => ⟨let ⟨o, a, b, c⟩ := st.1; ⟨o, hk I (by simp) o a, b, c⟩, hk S (by simp) _ st.2⟩
  item := fun i s Q E hi st hQ => by
    have hsz : i < (ordOf w S ep es).size := by
      have := (ord_perm w S ep es).length_eq
      simp at this
      omega
    refine si_item k st.2 st.1 (Array.getElem?_eq_getElem hsz) (Nat.le_of_lt hi) fun h' hit' hs' => ?_
    exact hQ _ h' s.toks ⟨_, Array.getElem?_eq_getElem hsz, rfl⟩ ⟨hit', (hs'.2 S hne).trans st.2⟩ fun b o hb e => (hs'.2 b (fun z => hb (by simp [z]))).trans e
  done := fun s Q E st hQ => si_end hh k st.2 st.1 fun h' he' => hQ h' s.toks fun b o hb e => he' b o (fun h => hb (by simp [h])) e
  self := fun i s Q E st hQ => by
    refine wpAny_pyIter_slot st.1.typeIs slot_si_iter (wpAny_call_entry slot_si_iter st.1.typeIs entry_si_iter ?_ (args_si_iter _))
    show wpAny _ _ (ret (.ref I)) _ _ s
    exact wpAny_pure ⟨_, rfl, "set_iterator", _, st.1.typeIs, slot_si_next.lookup, hQ⟩
theorem hint_set {Q : Bool → Shared → Prop} (hT : s.TypeIs (.ref S) "set") (h : Q false s) : wpAny (model prog w) A (Builtin.List.listLengthHint (.ref S)) Q E s := by
  unfold Builtin.List.listLengthHint
  refine wpAny_bind (wpAny_specialOf hT PySem.F.slot_set_len.lookup ?_)
  generalize hid : ("set.__len__" : String) = id0
  wp_delta
  rw [show splitId id0 = some ("set", "__len__") from by subst hid; decide +kernel]
  subst hid
  refine wpAny_bind (wpAny_isInstance (T := "set") (b := true) hT (by rw [isSubtype_type]; kernel_rfl) ?_)
  refine wpAny_ite_split (fun hab => absurd hab (by decide)) (fun _ => ?_)
  refine wpAny_ite_split (fun _ => ?_) (fun hab => absurd (by decide +kernel) hab)
  refine wpAny_bind (wpAny_typeOf hT ?_)
  exact wpAny_pure h
theorem set_src (k : SObj w o es ep t L) : PySem.W.KdlSrc prog w "set" S S es.size (fun i v => ∃ e, (ordOf w S ep es)[i]? = some e ∧ v = e.2) (fun h => h.get? S = some o) where
  type := fun s h => ⟨o, h, k.ex.1⟩
  there := fun h e => ⟨Heap.lt_size e, Heap.lt_size e⟩
  keep := fun h h' e q => q S (.inl rfl) o e
  notList := by decide
  notTuple := by decide
  hint := fun A E s Q h q => hint_set ⟨o, h, k.ex.1⟩ q
  iter := fun A s hh h => ⟨_, _, fun E Q q => set_iter k h q, set_walks hh k (Nat.ne_of_lt (Heap.lt_size h)), ⟨⟨_, Heap.get?_push_size _ rfl, rfl, rfl⟩, Heap.get?_push_of_some _ h⟩⟩
noncomputable def CR (w : World) (s : Shared) (S ep : Nat) (es : Array (Int × Value)) (r : Result) (s' : Shared) : Prop := r = .ok (.ret (.ref s.heap.objs.size)) ∧ ∃ h' tk acc' c', s' = { s with heap := h', toks := tk } ∧ (∀ b o, b ≠ s.heap.objs.size → (s.heap.push { cls := .type "list", data := .seq ([] : List Value).toArray }).get? b = some o → h'.get? b = some o) ∧ h'.get? s.heap.objs.size = some { cls := .type "list", dict := none, data := .seq acc' c', slots := #[] } ∧ ItemsOf (fun i v => ∃ e, (ordOf w S ep es)[i]? = some e ∧ v = e.2) acc' es.size
theorem collect_set {Q : List Value → Shared → Prop} (hh : A.handled = none) (k : SObj w o es ep t L) (ho : s.heap.get? S = some o)
    (h : ∀ h' tk acc, (∀ b o, s.heap.get? b = some o → h'.get? b = some o) → s.heap.objs.size < h'.objs.size → acc.Perm (L.map (·.2.2)) → Q acc { s with heap := h', toks := tk }) : wpAny (model prog w) A (collect (.ref S)) Q E s := by
  unfold collect
  have hlt := Heap.lt_size ho
  obtain ⟨l1, l2⟩ := k.ok.len
  refine wpAny_bind (wpAny_runValue (codeAny_mono (R := CR w s S ep es) (codeAny_builtin PySem.F.entry_proto_collect ?_) ?_))
  rotate_left
  · rintro r s' ⟨rfl, h', tk, acc', c', rfl, hk, hS', hacc⟩
    show wpAny _ A (load s.heap.objs.size >>= _) _ _ _
    refine wpAny_bind (wpAny_load hS' ?_)
    refine wpAny_pure (h h' tk acc'.toList (fun b o e => hk b o (Nat.ne_of_lt (Heap.lt_size e)) (Heap.get?_push_of_some _ e)) (Heap.lt_size hS') ?_)
    have e1 : acc'.toList = (ordOf w S ep es).toList.map (·.2) := by
      have hsz : (ordOf w S ep es).size = es.size := by
        have := (ord_perm w S ep es).length_eq
        simpa using this
      refine List.ext_getElem (by simp [hacc.1, hsz]) fun i h1 h2 => ?_
      obtain ⟨e, he, hv⟩ := hacc.2 i acc'[i] (Array.getElem?_eq_getElem (by simpa using h1))
      obtain ⟨_, he⟩ := Array.getElem?_eq_some_iff.mp he
      simp [hv, he]
    rw [e1]
    have := (ord_perm w S ep es).map (·.2)
    rw [k.ok.ent, List.map_map] at this
    exact this
  rw [Around.under_plainId PySem.F.plain_proto_collect _]
  show wpAny _ A.in1 (newList [] >>= fun l => again (.builtin "list.__iadd__" ⟨[l, .ref S], []⟩)) _ _ s
  refine wpAny_bind (wpAny_newObj_type ?_)
  refine wpAny_pure ⟨plainId_quiet PySem.F.plain_list_iadd _, codeAny_builtin PySem.F.entry_list_iadd ?_⟩
  rw [Around.under_plainId PySem.F.plain_list_iadd _]
  show wpAny _ A.in1 (Builtin.List.listExtendWith (.ref s.heap.objs.size) (.ref S) (.ref s.heap.objs.size)) _ _ _
  have hS₁ : (s.heap.push { cls := .type "list", data := .seq ([] : List Value).toArray }).get? s.heap.objs.size = some { cls := .type "list", data := .seq #[] 0 } := Heap.get?_push_size _ rfl
  exact PySem.W.kdl_extend (R := CR w s S ep es) (s := { s with heap := s.heap.push { cls := .type "list", data := .seq ([] : List Value).toArray } }) (set_src k) hh (Heap.get?_push_of_some _ ho) s.heap.objs.size (Nat.ne_of_gt hlt) (Nat.ne_of_gt hlt) (.ref s.heap.objs.size) 0 hS₁ (fun h' tk acc' c' hk hS' hacc => ⟨rfl, h', tk, acc', c', rfl, hk, hS', hacc⟩) (by rw [l2, sizeLine_eq]; have := k.ok.few36; omega)
end
end PS
namespace PS
open PySem PyProof.Rows PySem.W
noncomputable def Sat (n : Nat) (lt : Nat → Nat → Bool) {α : Type} : KasT α → (α → Prop) → Prop
  | .ret a, G => G a
  | .ask i j k, G => i < n ∧ j < n ∧ Sat n lt (k (lt i j)) G
section
variable {n : Nat} {lt : Nat → Nat → Bool} {α β : Type}
theorem Sat.mono {G G' : α → Prop} (hg : ∀ a, G a → G' a) : ∀ {t : KasT α}, Sat n lt t G → Sat n lt t G'
  | .ret _, h => hg _ h
  | .ask _ _ _, ⟨a, b, c⟩ => ⟨a, b, Sat.mono hg c⟩
theorem Sat.bind {f : α → KasT β} {G : β → Prop} : ∀ {t : KasT α}, Sat n lt t (fun a => Sat n lt (f a) G) → Sat n lt (t.bind f) G
  | .ret _, h => h
  | .ask _ _ _, ⟨a, b, c⟩ => ⟨a, b, Sat.bind c⟩
theorem Sat.wp {cmp : Nat → Nat → (Bool → Shared → Prop) → Shared → Prop} {s : Shared} (hc : ∀ i j (C : Bool → Shared → Prop), i < n → j < n → C (lt i j) s → cmp i j C s) {G : α → Prop} {Q : α → Shared → Prop} (hq : ∀ a, G a → Q a s) :
    ∀ {t : KasT α}, Sat n lt t G → t.kasWp cmp Q s
  | .ret _, h => hq _ h
  | .ask i j k, ⟨a, b, c⟩ => hc i j _ a b (Sat.wp hc hq c)
end
section
variable (n : Nat) (key : Nat → Nat)
noncomputable def PmOk (p : Array Nat) : Prop := p.toList.Perm (List.range n)
noncomputable def Kx (p : Array Nat) (k : Nat) : Nat := key (p.getD k 0)
noncomputable def Up (p : Array Nat) (m : Nat) : Prop := ∀ i j, i < j → j < m → Kx key p i < Kx key p j
noncomputable def Dn (p : Array Nat) (m : Nat) : Prop := ∀ i j, i < j → j < m → Kx key p j < Kx key p i
variable {n key}
theorem PmOk.size {p : Array Nat} (h : PmOk n p) : p.size = n := by have := h.length_eq; simpa using this
theorem PmOk.lt {p : Array Nat} (h : PmOk n p) {k : Nat} (hk : k < n) : p.getD k 0 < n := by
  have hs : k < p.size := by rw [h.size]; exact hk
  have e : p.getD k 0 = p[k] := by simp [Array.getD, hs]
  rw [e]
  exact List.mem_range.mp (h.mem_iff.mp (Array.mem_toList_iff.mpr (Array.getElem_mem hs)))
theorem PmOk.ne {p : Array Nat} (h : PmOk n p) (inj : ∀ a b, a < n → b < n → key a = key b → a = b) {i j : Nat} (hi : i < n) (hj : j < n) (hne : i ≠ j) : Kx key p i ≠ Kx key p j := fun e => by
  have e := inj _ _ (h.lt hi) (h.lt hj) e
  have nd : p.toList.Nodup := h.nodup_iff.mpr List.nodup_range
  have hi' : i < p.size := by rw [h.size]; exact hi
  have hj' : j < p.size := by rw [h.size]; exact hj
  have e1 : p.getD i 0 = p[i] := by simp [Array.getD, hi']
  have e2 : p.getD j 0 = p[j] := by simp [Array.getD, hj']
  rw [e1, e2] at e
  have nd := List.pairwise_iff_getElem.mp nd
  rcases Nat.lt_or_gt_of_ne hne with z | z
  · exact nd i j (by simpa using hi') (by simpa using hj') z (by simpa using e)
  · exact nd j i (by simpa using hj') (by simpa using hi') z (by simpa using e.symm)
theorem PmOk.of {p q : Array Nat} (h : PmOk n p) (hq : q.Perm p) : PmOk n q := (Array.perm_iff_toList_perm.mp hq).trans h
theorem getD_of {p q : Array Nat} {i j : Nat} (h : p[i]? = q[j]?) : p.getD i 0 = q.getD j 0 := by rw [Array.getD_eq_getD_getElem?, Array.getD_eq_getD_getElem?, h]
variable (inj : ∀ a b, a < n → b < n → key a = key b → a = b)
include inj
theorem sat_asc {p : Array Nat} (hp : PmOk n p) : ∀ (f a : Nat), 1 ≤ a → a + f ≤ n → Up key p a →
    Sat n (fun i j => decide (key i < key j)) (kas_asc p f a) (fun m => Up key p m ∧ a ≤ m ∧ m ≤ a + f ∧ (m < a + f → Kx key p m < Kx key p (m - 1)))
  | 0, a, _, _, h => ⟨h, Nat.le_refl _, Nat.le_refl _, fun z => absurd z (Nat.lt_irrefl _)⟩
  | f + 1, a, h1, h2, h => by
    refine ⟨hp.lt (by omega), hp.lt (by omega), ?_⟩
    dsimp only
    cases hc : decide (key (p.getD a 0) < key (p.getD (a - 1) 0)) with
    | true => exact ⟨h, Nat.le_refl _, by omega, fun _ => of_decide_eq_true hc⟩
    | false =>
      have hc := of_decide_eq_false hc
      have hne := hp.ne inj (i := a - 1) (j := a) (by omega) (by omega) (by omega)
      have hlt : Kx key p (a - 1) < Kx key p a := by unfold Kx at hne ⊢; omega
      refine (sat_asc hp f (a + 1) (by omega) (by omega) fun i j hij hj => ?_).mono fun m ⟨z1, z2, z3, z4⟩ => ⟨z1, by omega, by omega, fun z => z4 (by omega)⟩
      rcases Nat.lt_or_eq_of_le (Nat.le_of_lt_succ hj) with z | z
      · exact h i j hij z
      · subst z
        rcases Nat.lt_or_eq_of_le (show i ≤ j - 1 by omega) with y | y
        · exact Nat.lt_trans (h i (j - 1) y (by omega)) hlt
        · rw [y]; exact hlt
theorem sat_desc {p : Array Nat} (hp : PmOk n p) : ∀ (f a : Nat), 1 ≤ a → a + f ≤ n → Dn key p a →
    Sat n (fun i j => decide (key i < key j)) (kas_desc f p a 0) (fun r => r.1 = p ∧ r.2.2 = 0 ∧ Dn key p r.2.1 ∧ a ≤ r.2.1 ∧ r.2.1 ≤ a + f)
  | 0, a, _, _, h => ⟨rfl, rfl, h, Nat.le_refl _, Nat.le_refl _⟩
  | f + 1, a, h1, h2, h => by
    refine ⟨hp.lt (by omega), hp.lt (by omega), ?_⟩
    dsimp only
    cases hc : decide (key (p.getD a 0) < key (p.getD (a - 1) 0)) with
    | true =>
      have hlt : Kx key p a < Kx key p (a - 1) := of_decide_eq_true hc
      simp only [if_true, Nat.lt_irrefl, gt_iff_lt, if_false]
      refine (sat_desc hp f (a + 1) (by omega) (by omega) fun i j hij hj => ?_).mono fun m ⟨z1, z2, z3, z4, z5⟩ => ⟨z1, z2, z3, by omega, by omega⟩
      rcases Nat.lt_or_eq_of_le (Nat.le_of_lt_succ hj) with z | z
      · exact h i j hij z
      · subst z
        rcases Nat.lt_or_eq_of_le (show i ≤ j - 1 by omega) with y | y
        · exact Nat.lt_trans hlt (h i (j - 1) y (by omega))
        · rw [y]; exact hlt
    | false =>
      have hc := of_decide_eq_false hc
      have hne := hp.ne inj (i := a - 1) (j := a) (by omega) (by omega) (by omega)
      have hlt : key (p.getD (a - 1) 0) < key (p.getD a 0) := by unfold Kx at hne; omega
      simp only [Bool.false_eq_true, if_false]
      refine ⟨hp.lt (by omega), hp.lt (by omega), ?_⟩
      dsimp only
      rw [decide_eq_true hlt]
      exact ⟨rfl, rfl, h, Nat.le_refl _, Nat.le_add_right _ _⟩
theorem sat_tail3 {p : Array Nat} (hp : PmOk n p) {a : Nat} (h1 : 1 ≤ a) (h2 : a ≤ n) (h : Dn key p a) :
    Sat n (fun i j => decide (key i < key j)) (kas_tail3 a n p) (fun r => PmOk n r.2 ∧ Up key r.2 r.1 ∧ 1 ≤ r.1 ∧ r.1 ≤ n) := by
  unfold kas_tail3
  have hr : PmOk n (kas_rev p 0 a) := hp.of (mirror_perm _ _ _ _)
  have hk : ∀ k, k < a → Kx key (kas_rev p 0 a) k = Kx key p (a - 1 - k) := fun k hk => by
    unfold Kx kas_rev
    rw [getD_of (p := mirror p 0 a ((a - 0) / 2)) (q := p) (i := k) (j := a - 1 - k) (by rw [getElem?_mirror_all (by rw [hp.size]; exact h2), if_pos ⟨Nat.zero_le _, hk⟩, Nat.zero_add])]
  refine Sat.bind ((sat_asc inj hr (n - a) a h1 (by omega) fun i j hij hj => ?_).mono fun m ⟨z1, z2, z3, _⟩ => ⟨hr, z1, by omega, by omega⟩)
  rw [hk i (by omega), hk j hj]
  exact h _ _ (by omega) (by omega)
theorem sat_count (hn : 2 ≤ n) : Sat n (fun i j => decide (key i < key j)) (kas_count n (List.toArray (List.range n))) (fun r => PmOk n r.2 ∧ Up key r.2 r.1 ∧ 1 ≤ r.1 ∧ r.1 ≤ n) := by
  have hp : PmOk n (List.toArray (List.range n)) := List.Perm.refl _
  generalize (List.toArray (List.range n)) = p at hp
  unfold kas_count
  refine Sat.bind ((sat_asc inj hp (n - 1) 1 (Nat.le_refl _) (by omega) fun i j hij hj => by omega).mono fun m ⟨z1, z2, z3, z4⟩ => ?_)
  by_cases hm : m = n
  · rw [if_pos (by simp [hm])]
    exact ⟨hp, z1, z2, by omega⟩
  · rw [if_neg (by simp [hm])]
    by_cases h1 : m > 1
    · rw [if_pos h1]
      refine ⟨hp.lt (by omega), hp.lt (by omega), ?_⟩
      have := z1 0 (m - 1) (by omega) (by omega)
      unfold Kx at this
      dsimp only
      rw [decide_eq_true this]
      exact ⟨hp, z1, z2, by omega⟩
    · rw [if_neg h1]
      obtain rfl : m = 1 := by omega
      unfold kas_descPart
      refine Sat.bind ((sat_desc inj hp (n - (1 + 1)) (1 + 1) (by omega) (by omega) fun i j hij hj => ?_).mono fun r ⟨y1, y2, y3, y4, y5⟩ => ?_)
      · obtain rfl : j = 1 := by omega
        obtain rfl : i = 0 := by omega
        exact z4 (by omega)
      · rw [if_neg (by omega), y1]
        exact sat_tail3 inj hp (by omega) (by omega) y3
theorem sat_place {p : Array Nat} (hp : PmOk n p) {k : Nat} (hk : k < n) (h : Up key p k) : ∀ (f l r : Nat), l ≤ r → r ≤ k → r - l ≤ f → (∀ i, i < l → Kx key p i < Kx key p k) → (∀ i, r ≤ i → i < k → Kx key p k < Kx key p i) →
    Sat n (fun i j => decide (key i < key j)) (kas_place p k f l r) (fun m => m ≤ k ∧ (∀ i, i < m → Kx key p i < Kx key p k) ∧ ∀ i, m ≤ i → i < k → Kx key p k < Kx key p i)
  | 0, l, r, h1, h2, h3, h4, h5 => by
    obtain rfl : l = r := by omega
    exact ⟨h2, h4, h5⟩
  | f + 1, l, r, h1, h2, h3, h4, h5 => by
    rw [kas_place]
    by_cases hl : l ≥ r
    · rw [if_pos hl]
      obtain rfl : l = r := by omega
      exact ⟨h2, h4, h5⟩
    · rw [if_neg hl]
      refine ⟨hp.lt hk, hp.lt (by omega), ?_⟩
      dsimp only
      cases hc : decide (key (p.getD k 0) < key (p.getD ((l + r) / 2) 0)) with
      | true =>
        have hlt : Kx key p k < Kx key p ((l + r) / 2) := of_decide_eq_true hc
        refine sat_place hp hk h f l _ (by omega) (by omega) (by omega) h4 fun i hi hik => ?_
        rcases Nat.lt_or_eq_of_le hi with z | z
        · exact Nat.lt_trans hlt (h _ _ z hik)
        · rw [← z]; exact hlt
      | false =>
        have hc := of_decide_eq_false hc
        have hne := hp.ne inj (i := (l + r) / 2) (j := k) (by omega) hk (by omega)
        have hlt : Kx key p ((l + r) / 2) < Kx key p k := by unfold Kx at hne ⊢; omega
        refine sat_place hp hk h f _ r (by omega) h2 (by omega) (fun i hi => ?_) h5
        rcases Nat.lt_or_eq_of_le (show i ≤ (l + r) / 2 by omega) with z | z
        · exact Nat.lt_trans (h _ _ z (by omega)) hlt
        · rw [z]; exact hlt
theorem sat_bin : ∀ (f : Nat) {p : Array Nat} {k : Nat}, PmOk n p → k + f = n → Up key p k → Sat n (fun i j => decide (key i < key j)) (kas_bin f p k) (fun p => PmOk n p ∧ Up key p n)
  | 0, p, k, hp, hk, h => by
    obtain rfl : k = n := by omega
    exact ⟨hp, h⟩
  | f + 1, p, k, hp, hk, h => by
    refine Sat.bind ((sat_place inj hp (by omega) h k 0 k (Nat.zero_le _) (Nat.le_refl _) (by omega) (fun i z => absurd z (Nat.not_lt_zero _)) (fun i z y => by omega)).mono fun m ⟨z1, z2, z3⟩ => ?_)
    refine sat_bin f (hp.of (bubble_perm _ _ _)) (by omega) ?_
    have hb : ∀ x, Kx key (bubble p k (k - m)) x = if x = m then Kx key p k else if m < x ∧ x ≤ k then Kx key p (x - 1) else Kx key p x := fun x => by
      have := getElem?_bubble (xs := p) (src := k) (by rw [hp.size]; omega) (k - m) (by omega) x
      rw [show k - (k - m) = m by omega] at this
      unfold Kx
      split
      · rename_i e; rw [if_pos e] at this; rw [getD_of this]
      · rename_i e
        rw [if_neg e] at this
        split
        · rename_i e2; rw [if_pos e2] at this; rw [getD_of this]
        · rename_i e2; rw [if_neg e2] at this; rw [getD_of this]
    intro i j hij hj
    rw [hb i, hb j]
    by_cases c1 : i = m
    · rw [if_pos c1, if_neg (by omega), if_pos ⟨by omega, by omega⟩]
      exact z3 _ (by omega) (by omega)
    · rw [if_neg c1]
      by_cases c2 : j = m
      · rw [if_pos c2, if_neg (by omega)]
        exact z2 _ (by omega)
      · rw [if_neg c2]
        by_cases c3 : m < i ∧ i ≤ k
        · rw [if_pos c3, if_pos ⟨by omega, by omega⟩]
          exact h _ _ (by omega) (by omega)
        · rw [if_neg c3]
          by_cases c4 : m < j ∧ j ≤ k
          · rw [if_pos c4]
            rcases Nat.lt_or_ge i (j - 1) with y | y
            · exact h _ _ y (by omega)
            · omega
          · rw [if_neg c4]; exact h _ _ hij (by omega)
theorem sat_sort (hn : 2 ≤ n) : Sat n (fun i j => decide (key i < key j)) (kas_sort n) (fun p => PmOk n p ∧ Up key p n) := by
  unfold kas_sort
  refine Sat.bind ((sat_count inj hn).mono fun r ⟨z1, z2, z3, z4⟩ => ?_)
  split
  · rw [show max r.1 1 = r.1 by omega]
    exact sat_bin inj _ z1 (by omega) z2
  · obtain e : r.1 = n := by omega
    rw [e] at z2
    exact ⟨z1, z2⟩
end
end PS
namespace PS
open PySem PyProof.Rows PySem.W
noncomputable def cd (p : Nat × Nat) : Nat := 6 * p.1 + p.2
section
variable {prog : Program} {w : World} {A : Around} {E : Value → Shared → Prop} {s : Shared}
theorem items2 {x y : Int} {vs : List Value} (h : ItemsAre (intKind prog w) [x, y] vs) : ∃ t u, vs = [.int x t, .int y u] := by
  cases h with
  | cons h1 h2 =>
    cases h2 with
    | cons h3 h4 =>
      cases h4
      obtain ⟨t, rfl⟩ := Value.isInt_shape h1
      obtain ⟨u, rfl⟩ := Value.isInt_shape h3
      exact ⟨t, u, rfl⟩
theorem pair_lt {a b : Addr} {p q : Nat × Nat} {Q : Bool → Shared → Prop} (hp : p.2 < 6) (hq : q.2 < 6) (ha : IsTupleKey (intKind prog w) s.heap [(p.1 : Int), (p.2 : Int)] a) (hb : IsTupleKey (intKind prog w) s.heap [(q.1 : Int), (q.2 : Int)] b) (h : Q (decide (cd p < cd q)) s) :
    wpAny (model prog w) A (keyLt' (tuples' true) (.ref a) (.ref b)) Q E s := by
  obtain ⟨oa, ia, na, hoa, _, hda, hia⟩ := ha
  obtain ⟨ob, ib, nb, hob, _, hdb, hib⟩ := hb
  obtain ⟨t1, u1, e1⟩ := items2 hia
  obtain ⟨t2, u2, e2⟩ := items2 hib
  refine kat_lt hoa hda hob hdb ?_
  have z1 : ia.size = 2 := by rw [← Array.length_toList, e1]; rfl
  have z2 : ib.size = 2 := by rw [← Array.length_toList, e2]; rfl
  rw [e1, e2, z1, z2]
  refine kat_cons (wpAny_eqBool_int ?_)
  refine kat_go (fun c => ?_) (fun c => ?_)
  · have c : p.1 = q.1 := by have := of_decide_eq_true c; omega
    refine kat_yes (kat_cons (wpAny_eqBool_int ?_))
    refine kat_go (fun d => ?_) (fun d => ?_)
    · have d : p.2 = q.2 := by have := of_decide_eq_true d; omega
      refine kat_yes (kat_nil ?_)
      rw [show decide (cd p < cd q) = decide (2 < 2) by unfold cd; rw [c, d]; simp] at h
      exact h
    · refine kat_no ?_
      show wpAny _ _ (oneLt' false _ _) _ _ _
      refine kat_one _ _ ?_
      have e : decide ((p.2 : Int) < (q.2 : Int)) = decide (cd p < cd q) := by
        refine decide_eq_decide.mpr ?_
        unfold cd
        omega
      exact wpAny_lt_int (e ▸ h)
  · have c : p.1 ≠ q.1 := by have := of_decide_eq_false c; omega
    refine kat_no ?_
    show wpAny _ _ (oneLt' true _ _) _ _ _
    refine oneLt_int ?_
    rw [show decide ((p.1 : Int) < (q.1 : Int)) = decide (cd p < cd q) by
      refine decide_eq_decide.mpr ?_
      unfold cd
      omega]
    exact h
variable {src : Src}
theorem SrcAt.keep {h h' : Heap} (x : SrcAt prog w h src) (k : ∀ e ∈ src, ∀ o, h.get? e.1 = some o → h'.get? e.1 = some o) : SrcAt prog w h' src := fun e he => by
  obtain ⟨h1, h2, o, its, n, ho, r⟩ := x e he
  exact ⟨h1, h2, o, its, n, k e he o ho, r⟩
theorem katTups_of {h : Heap} : ∀ {src : Src}, SrcAt prog w h src → ∃ fs : List Value, KatTups h (src.map fun e => Value.ref e.1) fs ∧ fs.length = src.length ∧ ∀ v ∈ fs, ∃ k t, v = Value.int k t
  | [], _ => ⟨[], KatTups.nil, rfl, fun v hv => (nomatch hv)⟩
  | e :: src, x => by
    obtain ⟨fs, k, l, a⟩ := katTups_of (src := src) fun e he => x e (List.mem_cons_of_mem _ he)
    obtain ⟨_, _, o, its, n, ho, hc, hd, hi⟩ := x e List.mem_cons_self
    obtain ⟨t, u, e2⟩ := items2 hi
    refine ⟨.int e.2.1 t :: fs, KatTups.cons ho hc hd (by rw [← Array.getElem?_toList, e2]; rfl) k, by simp [l], fun v hv => ?_⟩
    rcases List.mem_cons.mp hv with rfl | hv
    · exact ⟨_, _, rfl⟩
    · exact a v hv
noncomputable def code (src : Src) (i : Nat) : Nat := cd ((src.map (·.2)).getD i (0, 0))
theorem cd_inj {p q : Nat × Nat} (hp : p.2 < 6) (hq : q.2 < 6) (e : cd p = cd q) : p = q := by
  unfold cd at e
  exact Prod.ext (by omega) (by omega)
theorem sort_pairs {a n : Nat} {P : PySem.Fin → Shared → Prop} (ho : s.heap.get? a = some (seqObj "list" (src.map fun e => Value.ref e.1).toArray n)) (hX : SrcAt prog w s.heap src) (nd : (src.map (·.2)).Nodup) (h64 : src.length < 64)
    (h : ∀ (out : Array Value) (src' : Src), out.toList = (src'.map fun e => Value.ref e.1) → src'.Perm src → (src'.map fun e => cd e.2).Pairwise (· < ·) → P (.done (.ret .none)) { s with heap := sortedHeap s.heap a (src.map fun e => Value.ref e.1) out }) :
    wpAny (model prog w) A (Builtin.«list.sort» ⟨[.ref a], []⟩) P E s := by
  rw [list_sort_plain]
  have ha : a < s.heap.objs.size := Heap.lt_size ho
  have hln : (src.map fun e => Value.ref e.1).length = src.length := List.length_map ..
  have hX0 := hX
  have h := h
  generalize hvs : (src.map fun e => Value.ref e.1) = vs at ho h hln
  refine wpAny_bind (listItems_at ho rfl ?_)
  refine wpAny_bind (listUpdate_at ho rfl ?_ (by rw [List.size_toArray, sizeLine_eq]; omega) (Nat.zero_le _))
  obtain ⟨e1, ho1⟩ : ∃ e1, (s.heap.update a (Obj.mapSeq fun _ => #[])).get? a = some (seqObj "list" #[] e1) := ⟨_, get?_update_seq ho (fun _ => #[])⟩
  refine wpAny_bind (seqEpoch_at ho1 rfl ?_)
  refine wpAny_bind (wpAny_newTuple ?_ (by show vs.length ≤ _; rw [sizeLine_eq]; omega))
  refine wpAny_bind (wpAny_newList ?_ (Nat.zero_le _))
  refine wpAny_holding ?_
  have ho6 : (((s.heap.update a (Obj.mapSeq fun _ => #[])).push (seqObj "tuple" vs.toArray 0)).push (seqObj "list" #[] 0)).get? a = some (seqObj "list" #[] e1) := by
    rw [Heap.get?_push_ne _ _ _ (by rw [size_push', Heap.size_update]; exact Nat.ne_of_lt (Nat.lt_succ_of_lt ha)), Heap.get?_push_ne _ _ _ (by rw [Heap.size_update]; exact Nat.ne_of_lt ha)]
    exact ho1
  have hX6 : SrcAt prog w (((s.heap.update a (Obj.mapSeq fun _ => #[])).push (seqObj "tuple" vs.toArray 0)).push (seqObj "list" #[] 0)) src := hX0.keep fun e he o q => by
    have hne : a ≠ e.1 := fun z => by
      obtain ⟨_, _, o', its, n', q', hc, _⟩ := hX0 e he
      rw [← z, ho] at q'
      cases q'
      exact absurd hc (show ¬ (Value.type "list" = Value.type "tuple") by decide)
    exact Heap.get?_push_of_some _ (Heap.get?_push_of_some _ ((Heap.get?_update_other _ _ hne).trans q))
  show wpAny (model prog w) A _ P E { s with heap := ((s.heap.update a (Obj.mapSeq fun _ => #[])).push (seqObj "tuple" vs.toArray 0)).push (seqObj "list" #[] 0) }
  dsimp only
  have hsz : vs.toArray.size = vs.length := by simp
  by_cases h2 : vs.toArray.size < 2
  · rw [if_pos h2, if_pos h2]
    refine wpAny_bind (wpAny_pure ?_)
    rw [StateT.run_pure]
    refine wpAny_bind (wpAny_pure ?_)
    dsimp only
    refine wpAny_bind (seqEpoch_at ho6 rfl ?_)
    refine wpAny_bind (listUpdate_at ho6 rfl ?_ (Nat.zero_le _) (by rw [Array.size_map]; show (pairsOf vs).size ≤ _; rw [pairsOf_size, sizeLine_eq]; omega))
    simp only [bne_self_eq_false, Bool.false_eq_true, if_false]
    have eo : ((arrOf (SortSt.mk' general' (vs.toArray.zip vs.toArray) #[] 7 none)).map (·.2)).toList = vs := by
      show ((pairsOf vs).map (·.2)).toList = vs
      rw [Array.toList_map, pairsOf_toList, List.map_snd_zip (Nat.le_refl _)]
    refine wpAny_pure (h _ src (eo.trans hvs.symm) .rfl ?_)
    rw [hsz, hln] at h2
    match src, h2 with
    | [], _ => exact .nil
    | [e], _ => exact .cons (fun x hx => (nomatch hx)) .nil
  · rw [if_neg h2, if_neg h2]
    rw [hsz, hln] at h2
    obtain ⟨fs, kt, kl, kf⟩ := katTups_of hX6
    rw [hvs] at kt
    refine wpAny_bind (kat_kind (T := .type "int") kt (by omega) (fun v hv => ?_) rfl ?_)
    · obtain ⟨k, t, rfl⟩ := kf v hv
      exact Looks.now
    show wpAny (model prog w) A (sortRuns'.run (SortSt.mk' (tuples' true) (vs.toArray.zip vs.toArray) #[] 7 none) >>= _) P E _
    have inj : ∀ i j, i < vs.length → j < vs.length → code src i = code src j → i = j := fun i j hi hj e => by
      rw [hln] at hi hj
      have li : i < (src.map (·.2)).length := by simpa using hi
      have lj : j < (src.map (·.2)).length := by simpa using hj
      unfold code at e
      have ei : (src.map (·.2)).getD i (0, 0) = (src.map (·.2))[i] := by simp [hi]
      have ej : (src.map (·.2)).getD j (0, 0) = (src.map (·.2))[j] := by simp [hj]
      rw [ei, ej] at e
      have e := cd_inj (by simpa using (hX6 src[i] (List.getElem_mem hi)).2.1) (by simpa using (hX6 src[j] (List.getElem_mem hj)).2.1) e
      have nd := List.pairwise_iff_getElem.mp nd
      rcases Nat.lt_trichotomy i j with z | z | z
      · exact absurd e (nd i j li lj z)
      · exact z
      · exact absurd e.symm (nd j i lj li z)
    have hat : ∀ i, i < vs.length → ∃ e, src[i]? = some e ∧ vs.getD i Value.none = .ref e.1 ∧ code src i = cd e.2 := fun i hi => by
      rw [hln] at hi
      refine ⟨src[i], List.getElem?_eq_getElem hi, ?_, ?_⟩
      · rw [← hvs]; simp [hi]
      · unfold code; simp [hi]
    refine wpAny_bind (wpAny_mono (kat_run (Q := fun st' s' => s' = { s with heap := ((s.heap.update a (Obj.mapSeq fun _ => #[])).push (seqObj "tuple" vs.toArray 0)).push (seqObj "list" #[] 0) } ∧ failedOf st' = none ∧ ∃ p : Array Nat, arrOf st' = p.map (kas_item (vs.toArray.zip vs.toArray)) ∧ PmOk vs.length p ∧ Up (code src) p vs.length)
      (G := fun p s' => s' = { s with heap := ((s.heap.update a (Obj.mapSeq fun _ => #[])).push (seqObj "tuple" vs.toArray 0)).push (seqObj "list" #[] 0) } ∧ PmOk vs.length p ∧ Up (code src) p vs.length)
      (ks := vs) rfl (by omega) (by omega) (fun p' st' s' a1 a2 a3 a4 => ⟨a4.1, a3, p', a2, a4.2⟩) (Sat.wp (lt := fun i j => decide (code src i < code src j)) (fun i j C hi hj hC => ?_) (fun p hp => ⟨rfl, hp⟩) (sat_sort inj (by omega)))) ?_ fun _ _ e => e)
    · obtain ⟨e, he, hv1, hc1⟩ := hat i hi
      obtain ⟨f, hf, hv2, hc2⟩ := hat j hj
      unfold kas_ask
      rw [hv1, hv2]
      obtain ⟨_, x2, x3⟩ := hX6 e (List.mem_of_getElem? he)
      obtain ⟨_, y2, y3⟩ := hX6 f (List.mem_of_getElem? hf)
      refine pair_lt x2 y2 x3 y3 ?_
      rw [← hc1, ← hc2]
      exact hC
    · rintro ⟨⟨⟩, st'⟩ s' ⟨rfl, hfl, p, hap, hpm, hup⟩
      dsimp only
      refine wpAny_bind (seqEpoch_at ho6 rfl ?_)
      have hsn := kat_snds (ks := vs) (vs := vs) rfl hap
      refine wpAny_bind (listUpdate_at ho6 rfl ?_ (Nat.zero_le _) (by
        refine Nat.le_trans (Nat.le_of_eq (show ((arrOf st').map (·.2)).size = vs.length from ?_)) (by rw [sizeLine_eq]; omega)
        rw [hsn]; simp [hpm.size]))
      rw [hfl]
      simp only [bne_self_eq_false, Bool.false_eq_true, if_false]
      have hmem : ∀ i ∈ p.toList, i < vs.length := fun i hi => List.mem_range.mp (hpm.mem_iff.mp hi)
      refine wpAny_pure (h _ (p.toList.map fun i => src.getD i (0, (0, 0))) ?_ ?_ ?_)
      · rw [hsn, List.map_map]
        refine List.map_congr_left fun i hi => ?_
        obtain ⟨e, he, hv1, _⟩ := hat i (hmem i hi)
        have : src.getD i (0, (0, 0)) = e := by rw [List.getD_eq_getElem?_getD, he]; rfl
        show vs.getD i Value.none = .ref (src.getD i (0, (0, 0))).1
        rw [this]; exact hv1
      · have := hpm.map fun i => src.getD i (0, (0, 0))
        refine this.trans (.of_eq ?_)
        rw [hln]
        refine List.ext_getElem (by simp) fun i h1 h2 => ?_
        have h3 : i < src.length := by simpa using h2
        simp [h3]
      · rw [List.map_map, List.pairwise_map]
        refine List.pairwise_iff_getElem.mpr fun i j hi hj hij => ?_
        have hi' : i < vs.length := by have := hpm.size; simp at hi; omega
        have hj' : j < vs.length := by have := hpm.size; simp at hj; omega
        have := hup i j hij hj'
        unfold Kx at this
        have ei : p.getD i 0 = p.toList[i] := by simp at hi; simp [Array.getD, hi]
        have ej : p.getD j 0 = p.toList[j] := by simp at hj; simp [Array.getD, hj]
        rw [ei, ej] at this
        obtain ⟨e, he, _, hc1⟩ := hat _ (hmem _ (List.getElem_mem hi))
        obtain ⟨f, hf, _, hc2⟩ := hat _ (hmem _ (List.getElem_mem hj))
        rw [hc1, hc2] at this
        have g1 : src.getD p.toList[i] (0, (0, 0)) = e := by rw [List.getD_eq_getElem?_getD, he]; rfl
        have g2 : src.getD p.toList[j] (0, (0, 0)) = f := by rw [List.getD_eq_getElem?_getD, hf]; rfl
        show cd (src.getD p.toList[i] (0, (0, 0))).2 < cd (src.getD p.toList[j] (0, (0, 0))).2
        rw [g1, g2]
        exact this
theorem old_sorted {h : Heap} {a : Nat} {vs : List Value} {out : Array Value} {b : Addr} {o : Obj} (hb : h.get? b = some o) (hne : b ≠ a) : (sortedHeap h a vs out).get? b = some o := by
  rw [sortedHeap_old hne (Heap.lt_size hb)]; exact hb
theorem sort_pairs2 {a n : Nat} {P : PySem.Fin → Shared → Prop} (ho : s.heap.get? a = some (seqObj "list" (src.map fun e => Value.ref e.1).toArray n)) (hX : SrcAt prog w s.heap src) (nd : (src.map (·.2)).Nodup) (h64 : src.length < 64)
    (h : ∀ (h' : Heap) (out : Array Value) (c : Nat) (src' : Src), (∀ b o, b ≠ a → s.heap.get? b = some o → h'.get? b = some o) → h'.get? a = some (seqObj "list" out c) → out.toList = (src'.map fun e => Value.ref e.1) → src'.Perm src → (src'.map fun e => cd e.2).Pairwise (· < ·) → P (.done (.ret .none)) { s with heap := h' }) :
    wpAny (model prog w) A (Builtin.«list.sort» ⟨[.ref a], []⟩) P E s := by
  refine sort_pairs ho hX nd h64 fun out src' a1 a2 a3 => ?_
  obtain ⟨c, hc⟩ := sortedHeap_at (vs := src.map fun e => Value.ref e.1) (out := out) ho
  exact h _ out c src' (fun b o hne e => old_sorted e hne) hc a1 a2 a3
theorem sorted_set {S : Addr} {o : Obj} {es : Array (Int × Value)} {ep : Nat} {t : SetTable} {L : Lay} {Q : Value → Shared → Prop} (hh : A.handled = none) (k : SObj w o es ep t L) (ho : s.heap.get? S = some o) (hX : SrcAt prog w s.heap src) (own : ∀ q ∈ L, ∃ e ∈ src, q.2.2 = .ref e.1 ∧ q.2.1 = hp e.2.1 e.2.2)
    (h : ∀ h' tk D (out : Array Value) c (src' : Src), (∀ b o, s.heap.get? b = some o → h'.get? b = some o) → s.heap.objs.size ≤ D → h'.get? D = some (seqObj "list" out c) → out.toList = (src'.map fun e => Value.ref e.1) → (∀ e ∈ src', e ∈ src) → (∀ q ∈ L, ∃ e ∈ src', q.2.1 = hp e.2.1 e.2.2) → (∀ e ∈ src', ∃ q ∈ L, q.2.1 = hp e.2.1 e.2.2) → (src'.map fun e => cd e.2).Pairwise (· < ·) → Q (.ref D) { s with heap := h', toks := tk }) :
    wpAny (model prog w) A (call (.builtin "sorted") [.ref S]) Q E s := by
  refine Calls.call_function_entry kind_sorted plain_sorted entry_sorted (args_sorted1 _) ?_
  unfold Builtin.«sorted»
  refine wpAny_bind (m := checkCount "sorted" 1 1 _) (wpAny_pure ?_)
  refine wpAny_bind (collect_set hh k ho fun h1 tk acc hk hsz hp1 => ?_)
  have hl : acc.length = L.length := by have := hp1.length_eq; simpa using this
  have f36 := k.ok.few36
  have hsrc : ∃ src1 : Src, acc = (src1.map fun e => Value.ref e.1) ∧ (∀ e ∈ src1, e ∈ src) ∧ (src1.map fun e => hp e.2.1 e.2.2).Perm (L.map (·.2.1)) := by
    have hL : ∃ srcL : Src, (L.map (·.2.2)) = (srcL.map fun e => Value.ref e.1) ∧ (∀ e ∈ srcL, e ∈ src) ∧ (srcL.map fun e => hp e.2.1 e.2.2) = (L.map (·.2.1)) := by
      clear hp1 hl f36 ho k h
      induction L with
      | nil => exact ⟨[], rfl, fun e he => (nomatch he), rfl⟩
      | cons q L ih =>
        obtain ⟨sl, a1, a2, a3⟩ := ih fun q' hq' => own q' (List.mem_cons_of_mem _ hq')
        obtain ⟨e, he, b1, b2⟩ := own q List.mem_cons_self
        refine ⟨e :: sl, by rw [List.map_cons, List.map_cons, a1, b1], fun x hx => ?_, by rw [List.map_cons, List.map_cons, a3, b2]⟩
        rcases List.mem_cons.mp hx with rfl | hx
        · exact he
        · exact a2 x hx
    obtain ⟨sl, a1, a2, a3⟩ := hL
    rw [a1] at hp1
    obtain ⟨s1, b1, b2⟩ : ∃ s1 : Src, s1.Perm sl ∧ acc = s1.map fun e => Value.ref e.1 := by
      clear a1 a2 a3 hl
      generalize hz : (sl.map fun e => Value.ref e.1) = zs at hp1
      induction hp1 generalizing sl with
      | nil => exact ⟨[], by rw [List.map_eq_nil_iff.mp hz], rfl⟩
      | cons x hp ih =>
        cases sl with
        | nil => cases hz
        | cons e sl =>
          rw [List.map_cons] at hz
          cases hz
          obtain ⟨s1, b1, b2⟩ := ih sl rfl
          exact ⟨e :: s1, b1.cons e, by rw [b2]; rfl⟩
      | swap x y l =>
        match sl, hz with
        | e :: f :: sl, hz =>
          rw [List.map_cons, List.map_cons] at hz
          cases hz
          exact ⟨f :: e :: sl, .swap _ _ _, rfl⟩
      | trans h1 h2 ih1 ih2 =>
        obtain ⟨s1, b1, b2⟩ := ih2 sl hz
        obtain ⟨s2, c1, c2⟩ := ih1 s1 b2.symm
        exact ⟨s2, c1.trans b1, c2⟩
    refine ⟨s1, b2, fun e he => a2 e (b1.mem_iff.mp he), ?_⟩
    rw [← a3]
    exact b1.map _
  obtain ⟨src1, ea, hin, hph⟩ := hsrc
  have hl1 : src1.length = L.length := by rw [ea] at hl; simpa using hl
  subst ea
  have hX1 : SrcAt prog w h1 src1 := fun e he => by
    obtain ⟨z1, z2, o, its, n, q, r⟩ := hX e (hin e he)
    exact ⟨z1, z2, o, its, n, hk _ _ q, r⟩
  have nd : (src1.map (·.2)).Nodup := by
    have h0 : (src1.map fun e => hp e.2.1 e.2.2).Nodup := hph.nodup_iff.mpr k.ok.nod
    have h1 := List.pairwise_map.mp h0
    exact List.pairwise_map.mpr (h1.imp fun hne e => hne (by rw [e]))
  refine wpAny_bind (wpAny_newList ?_ (by show (src1.map _).length ≤ _; rw [List.length_map, sizeLine_eq]; omega))
  have hoL : (h1.push (seqObj "list" (src1.map fun e => Value.ref e.1).toArray 0)).get? h1.objs.size = some (seqObj "list" (src1.map fun e => Value.ref e.1).toArray 0) := Heap.get?_push_size _ rfl
  show wpAny _ _ _ _ _ { s with heap := h1.push (seqObj "list" (src1.map fun e => Value.ref e.1).toArray 0), toks := tk }
  have hX2 : SrcAt prog w (h1.push (seqObj "list" (src1.map fun e => Value.ref e.1).toArray 0)) src1 := hX1.keep fun e he o q => Heap.get?_push_of_some _ q
  generalize hH : h1.push (seqObj "list" (src1.map fun e => Value.ref e.1).toArray 0) = H2 at hoL hX2 ⊢
  have hold : ∀ b o, h1.get? b = some o → H2.get? b = some o := fun b o e => by rw [← hH]; exact Heap.get?_push_of_some _ e
  have hT : Shared.TypeIs { s with heap := H2, toks := tk } (.ref h1.objs.size) "list" := ⟨_, hoL, rfl⟩
  refine wpAny_bind (wpAny_holding (wpAny_call_entry slot_list_sort hT entry_list_sort (sort_pairs2 (s := { s with heap := H2, toks := tk }) (a := h1.objs.size) (n := 0) (src := src1) hoL hX2 nd (by omega) fun H3 out c src' hkeep hc a1 a2 a3 => ?_) (args_list_sort _)))
  have g0 : ∀ b o, s.heap.get? b = some o → H3.get? b = some o := fun b o e => by
    have e1 := hk b o e
    exact hkeep b o (Nat.ne_of_lt (Heap.lt_size e1)) (hold b o e1)
  have g1 : ∀ q ∈ L, ∃ e ∈ src', q.2.1 = hp e.2.1 e.2.2 := fun q hq => by
    obtain ⟨e, he, z⟩ := List.mem_map.mp (hph.mem_iff.mpr (List.mem_map_of_mem (f := (·.2.1)) hq))
    exact ⟨e, a2.mem_iff.mpr he, z.symm⟩
  have g2 : ∀ e ∈ src', ∃ q ∈ L, q.2.1 = hp e.2.1 e.2.2 := fun e he => by
    have := hph.mem_iff.mp (List.mem_map.mpr ⟨e, a2.mem_iff.mp he, rfl⟩)
    obtain ⟨q, hq, z⟩ := List.mem_map.mp this
    exact ⟨q, hq, z⟩
  refine ⟨_, rfl, wpAny_pure ⟨_, rfl, ?_⟩⟩
  exact h H3 tk h1.objs.size out c src' g0 (Nat.le_of_lt hsz) hc a1 (fun e he => hin e (a2.mem_iff.mp he)) g1 g2 a3
end
end PS
namespace L2
open PySem PySem.Spec PyProof.Rows PS
noncomputable def setAtP (w : World) (S : Addr) (src : Src) (h : Heap) : Prop := ∃ o es ep t L, h.get? S = some o ∧ SObj w o es ep t L ∧ (∀ q ∈ L, ∃ e ∈ src, q.2.2 = .ref e.1 ∧ q.2.1 = hp e.2.1 e.2.2) ∧ Has L src
noncomputable def SrcV (K : PySem.W.Frag) (H : Hp) (src : Src) : Prop := ∀ e ∈ src, e.2.1 < 6 ∧ e.2.2 < 6 ∧ SqT K H e.1 [.int e.2.1, .int e.2.2]
section
variable {X : Cx} {pins : List (Addr × Obj)} {σ : St} {H : Hp} {s : Shared} {src : Src}
theorem SrcV.at (I : Inv X pins σ H s) (x : SrcV X.K H src) : SrcAt X.prog X.w s.heap src := fun e he => by
  obtain ⟨h1, h2, hq⟩ := x e he
  obtain ⟨its, rv, ⟨o, ho, hc, n, hd⟩, _⟩ := I.tuple hq
  refine ⟨h1, h2, o, its.toArray, n, ho, hc, hd, ?_⟩
  obtain ⟨u1, u2, rfl, r1, r2⟩ := vals2 rv
  obtain ⟨t1, rfl⟩ := r1
  obtain ⟨t2, rfl⟩ := r2
  exact .cons (intKind_is _ _ _ _) (.cons (intKind_is _ _ _ _) .nil)
theorem vals_refs : ∀ {src : Src} {us : List Value}, Vals (src.map fun e => V.ref e.1) us → us = src.map fun e => Value.ref e.1
  | [], _, .nil => rfl
  | e :: src, _, .cons r t => by cases r; rw [vals_refs t]; rfl
theorem refs_vals : ∀ (src : Src), Vals (src.map fun e => V.ref e.1) (src.map fun e => Value.ref e.1)
  | [] => .nil
  | _ :: src => .cons rfl (refs_vals src)
theorem call_setP (hh : X.A.handled = none) (hu : X.A.units + 64 < cLine) : CallR X (.type "set") (fun xs H Q => ∃ a src, xs = [.ref a] ∧ SqL X.K H a (src.map fun e => V.ref e.1) ∧ SrcV X.K H src ∧ ∀ S, H S = none → Q (.ref S) (upd H S (.ext (setAtP X.w S src)))) := by
  intro pins s σ H xs us Q I r h
  obtain ⟨a, src, rfl, hq, hx, q⟩ := h
  obtain ⟨u, rfl, rx⟩ := vals1 r
  cases rx
  obtain ⟨its, rv, p, hz⟩ := I.list hq
  obtain rfl := vals_refs rv
  refine call_set_pairs hh hu p.isList rfl (hx.at I) fun h' tk L hS hH ht hk => ?_
  obtain ⟨⟨o, es, ep, t, ho, hex, hd, k, few, hled⟩, own⟩ := hS
  exact ⟨.ref s.heap.objs.size, _, I.laid (t' := tk) hk (Nat.le_refl _) (ext_ok (φ := setAtP X.w s.heap.objs.size src) ⟨o, es, ep, t, L, ho, ⟨hex, hd, k, few, hled⟩, own, hH⟩ ⟨o, ho⟩ fun _ _ ⟨o, es, ep, t, L, z, r⟩ k => ⟨o, es, ep, t, L, k _ z, r⟩), rfl, q _ (I.hok.fresh (Nat.le_refl _))⟩
theorem call_sortedP (hh : X.A.handled = none) : CallR X (.builtin "sorted") (fun xs H Q => ∃ S src, xs = [.ref S] ∧ H S = some (.ext (setAtP X.w S src)) ∧ SrcV X.K H src ∧ ∀ D (src' : Src), H D = none → (∀ e ∈ src', e ∈ src) → (∀ e ∈ src, ∃ e' ∈ src', e'.2 = e.2) → (src'.map fun e => cd e.2).Pairwise (· < ·) → Q (.ref D) (upd H D (.lst (src'.map fun e => V.ref e.1)))) := by
  intro pins s σ H xs us Q I r h
  obtain ⟨S, src, rfl, hs, hx, q⟩ := h
  obtain ⟨u, rfl, rx⟩ := vals1 r
  cases rx
  obtain ⟨⟨o, es, ep, t, L, ho, k, own, hH⟩, _⟩ := I.hok _ _ hs
  have hX := hx.at I
  refine sorted_set hh k ho hX own fun h' tk D out c src' hk hD hat hout hin h1 h2 hs' => ?_
  have hlen : (src'.map fun e => V.ref e.1).length ≤ sizeLine := by
    rw [List.length_map, sizeLine_eq]
    have nd : (src'.map fun e => cd e.2).Nodup := hs'.imp fun z => Nat.ne_of_lt z
    have := nd.length_le_of_subset (l₂ := List.range 36) fun x hx' => by
      obtain ⟨e, he, rfl⟩ := List.mem_map.mp hx'
      obtain ⟨z1, z2, _⟩ := hx e (hin e he)
      exact List.mem_range.mpr (by unfold cd; omega)
    simp at this
    omega
  have eo : out = (src'.map fun e => Value.ref e.1).toArray := by rw [← hout]
  refine ⟨.ref D, _, I.laid (t' := tk) hk hD (show ObjOk X.prog X.w _ h' _ (.lst (src'.map fun e => V.ref e.1)) from ⟨hlen, src'.map fun e => Value.ref e.1, c, refs_vals src', by rw [← eo]; exact hat⟩), rfl, q D src' (I.hok.fresh hD) hin (fun e he => ?_) hs'⟩
  obtain ⟨q', hq', e1⟩ := (hH (hp e.2.1 e.2.2)).mpr ⟨e, he, rfl⟩
  obtain ⟨e', he', e2⟩ := h1 q' hq'
  obtain ⟨a1, a2, _⟩ := hx e he
  obtain ⟨b1, b2, _⟩ := hx e' (hin e' he')
  obtain ⟨z1, z2⟩ := hp_inj a1 a2 b1 b2 (e1.symm.trans e2)
  exact ⟨e', he', Prod.ext z1.symm z2.symm⟩
end
end L2
namespace DL
open PySem PySem.Spec L2
open _root_.PS (cd)
noncomputable abbrev PrS := _root_.PS.Src
noncomputable def pqS (x : Nat × Nat) : D := .tup [.int x.1, .int x.2]
noncomputable def dSortSet (f : DA) : DN := fun δ h Q => f δ h fun ds h1 => match ds with
  | [d] => ∃ ps : List (Nat × Nat), lsOf h1 d = some (ps.map pqS) ∧ (∀ p ∈ ps, p.1 < 6 ∧ p.2 < 6) ∧ ∀ qs : List (Nat × Nat), (qs.map cd).Pairwise (· < ·) → (∀ p, p ∈ qs ↔ p ∈ ps) → Q (qs.map pqS) h1
  | _ => False
theorem rel_pairs {K : KP} {α : List Addr} {H : Hp} : ∀ {ps : List (Nat × Nat)} {us : List V}, RelDs K α H (ps.map pqS) us → ∃ src : PrS, us = (src.map fun e => V.ref e.1) ∧ src.map (·.2) = ps ∧ ∀ e ∈ src, RelD K α H (pqS e.2) (.ref e.1)
  | [], _, .nil => ⟨[], rfl, rfl, fun e h => (nomatch h)⟩
  | p :: ps, _, .cons r t => by
    obtain ⟨src, rfl, e2, e3⟩ := rel_pairs t
    obtain ⟨a, us, e, _, _⟩ := tup_sq r
    subst e
    refine ⟨(a, p) :: src, rfl, by rw [List.map_cons, e2], fun e he => ?_⟩
    rcases List.mem_cons.mp he with rfl | he
    · exact r
    · exact e3 e he
theorem pair_sq {K : KP} {α : List Addr} {H : Hp} {e : Addr × (Nat × Nat)} (r : RelD K α H (pqS e.2) (.ref e.1)) : SqT K.K H e.1 [.int e.2.1, .int e.2.2] := by
  obtain ⟨a, us, ea, hq, rs⟩ := tup_sq r
  cases ea
  obtain ⟨u, v, rfl, r1, r2⟩ := rs.inv2
  cases r1
  cases r2
  exact hq
theorem rel_of_pairs {K : KP} {α : List Addr} {H : Hp} : ∀ {src : PrS}, (∀ e ∈ src, RelD K α H (pqS e.2) (.ref e.1)) → RelDs K α H ((src.map (·.2)).map pqS) (src.map fun e => V.ref e.1)
  | [], _ => .nil
  | e :: src, h => .cons (h e List.mem_cons_self) (rel_of_pairs fun x hx => h x (List.mem_cons_of_mem _ hx))
section
variable {X : Cx} {k : Nat} {e : Expr} {p p2 pos pos2 : Pos} {n : Nat} {f : DA}
theorem sn_sortset (hr : Room k X.A) (hg : Gl X "sorted") (hm : X.mg "sorted" = none) (hg2 : Gl X "set") (hm2 : X.mg "set" = none) (ha : SA X [e] n f) (he : starEach [e] X.env = (false, eval e X.env) :: starEach [] X.env := by rfl)
    (he2 : starEach [.Call (.Name "set" p2) [e] [] pos2] X.env = (false, eval (.Call (.Name "set" p2) [e] [] pos2) X.env) :: starEach [] X.env := by rfl) (hpl : (backTo pos2 (starEach [] X.env)).any (·.1) = false := by rfl) (hpl2 : (backTo pos (starEach [] X.env)).any (·.1) = false := by rfl) :
    SN X (.Call (.Name "sorted" p) [.Call (.Name "set" p2) [e] [] pos2] [] pos) (dSortSet f) :=
  PE.imp (pe_callB (call_sortedP hr.hd) hg hm PyProof.Rows.boot_sorted (pa_cons (pe_callTy (call_setP hr.hd hr.units) hg2 hm2 PyProof.Rows.boot_set ha (by decide) (by decide) he hpl) pa_nil he2) (by decide) (by decide) he2 hpl2) fun σ H Q ⟨π, α, δ, h, Q', R, S, f, k⟩ => by
  refine ⟨π, α, δ, h, _, R, S, f, fun ds h1 α1 H1 vs f1 e1 R1 q1 l1 => ?_⟩
  split at f1
  · rename_i d
    obtain ⟨v, rfl, rd⟩ := q1.inv1
    obtain ⟨ps, w, hb, f1⟩ := f1
    obtain ⟨a, us, rfl, hq, rs⟩ := lsOf_sq R1 rd w
    obtain ⟨src, rfl, ep, hsr⟩ := rel_pairs rs
    have hbs : ∀ e ∈ src, e.2.1 < 6 ∧ e.2.2 < 6 := fun e he => hb e.2 (by rw [← ep]; exact List.mem_map_of_mem he)
    refine ⟨a, src, rfl, hq, fun e he => ⟨(hbs e he).1, (hbs e he).2, pair_sq (hsr e he)⟩, fun Sa hS => ?_⟩
    have e2 : Ext α1 H1 α1 (upd H1 Sa (.ext (setAtP X.w Sa src))) := Ext.new hS
    have hsr2 : ∀ e ∈ src, RelD ⟨X.K, π⟩ α1 (upd H1 Sa (.ext (setAtP X.w Sa src))) (pqS e.2) (.ref e.1) := fun e he => (hsr e he).mono e2
    refine ⟨Sa, src, rfl, upd_same, fun e he => ⟨(hbs e he).1, (hbs e he).2, pair_sq (hsr2 e he)⟩, fun Dd src' hD hin hcov hs' => ?_⟩
    refine LN.last (h := h) (ds := (src'.map (·.2)).map pqS) k (f1 (src'.map (·.2)) (by rw [List.map_map]; exact hs') fun p => ?_) (e1.trans e2) (R1.new hS) (rel_of_pairs fun e he => hsr2 e (hin e he)) hD
    rw [← ep]
    constructor
    · intro hp'
      obtain ⟨e, he, rfl⟩ := List.mem_map.mp hp'
      exact List.mem_map_of_mem (hin e he)
    · intro hp'
      obtain ⟨e, he, rfl⟩ := List.mem_map.mp hp'
      obtain ⟨e', he', z⟩ := hcov e he
      rw [← z]
      exact List.mem_map_of_mem he'
  · exact f1.elim
end
end DL
namespace L2
open PySem PySem.Spec PyProof.Rows PS
section
variable {X : Cx} {pins : List (Addr × Obj)} {σ : St} {H : Hp} {s : Shared}
theorem pair_key (I : Inv X pins σ H s) {a : Addr} {i j : Int} (h : SqT X.K H a [.int i, .int j]) (prog : Program) (w : World) : IsTupleKey (intKind prog w) s.heap [i, j] a := by
  obtain ⟨its, rv, ⟨o, ho, hc, n, hd⟩, _⟩ := I.tuple h
  obtain ⟨u1, u2, rfl, r1, r2⟩ := vals2 rv
  obtain ⟨t1, rfl⟩ := r1
  obtain ⟨t2, rfl⟩ := r2
  exact ⟨o, _, n, ho, hc, hd, .cons (intKind_is _ _ _ _) (.cons (intKind_is _ _ _ _) .nil)⟩
noncomputable def hasP (src : Src) (p : Nat × Nat) (u : Value) : Bool := src.any fun e => u == .ref e.1 && decide (e.2 = p)
theorem op_inP (hu : X.A.units + 64 < cLine) : OpR X (compareOp .In) (fun x y H Q => ∃ a l, ∃ (p : Nat × Nat) (src : Src), x = .ref a ∧ y = .ref l ∧ SqT X.K H a [.int p.1, .int p.2] ∧ SqL X.K H l (src.map fun e => V.ref e.1) ∧ (∀ e ∈ src, SqT X.K H e.1 [.int e.2.1, .int e.2.2]) ∧ Q (.bl (decide (p ∈ src.map (·.2)))) H) := by
  intro pins s σ H x y v u Q I rx ry h
  obtain ⟨a, l, p, src, rfl, rfl, ha, hl, hs, q⟩ := h
  cases rx
  cases ry
  obtain ⟨its, r, pl, hz⟩ := I.list hl
  obtain rfl := vals_refs r
  have hone : ∀ e ∈ src, hasP src p (.ref e.1) = decide (e.2 = p) := fun e he => by
    unfold hasP
    rw [Bool.eq_iff_iff, List.any_eq_true, decide_eq_true_iff]
    constructor
    · rintro ⟨e', he', z⟩
      rw [Bool.and_eq_true, beq_iff_eq, decide_eq_true_iff] at z
      obtain ⟨z1, z2⟩ := z
      have z1 : e.1 = e'.1 := by injection z1
      have k1 := pair_key I (hs e he) X.prog X.w
      rw [z1] at k1
      have := k1.inj (pair_key I (hs e' he') X.prog X.w)
      rw [← z2]
      have h1 : (e.2.1 : Int) = e'.2.1 := by injection this
      have h2 : (e.2.2 : Int) = e'.2.2 := by injection this with _ t; injection t
      exact Prod.ext (by omega) (by omega)
    · intro z
      exact ⟨e, he, by rw [Bool.and_eq_true, beq_iff_eq, decide_eq_true_iff]; exact ⟨rfl, z⟩⟩
  refine SeqAt.in_listAt (hasP src p) pl.isList (fun w hw => ?_) ⟨.bl _, H, I, rfl, ?_⟩
  · have hw : w ∈ src.map fun e => Value.ref e.1 := by simpa using hw
    obtain ⟨e, he, rfl⟩ := List.mem_map.mp hw
    intro prog w E Q hq
    rw [hone e he] at hq
    refine wpAny_eqBool_tuple (show X.A.units + 1 < cLine by omega) (pair_key I (hs e he) prog w) (pair_key I ha prog w) ?_
    have : decide ([(e.2.1 : Int), (e.2.2 : Int)] = [(p.1 : Int), (p.2 : Int)]) = decide (e.2 = p) := by
      refine decide_eq_decide.mpr ⟨fun z => ?_, fun z => by rw [z]⟩
      have h1 : (e.2.1 : Int) = p.1 := by injection z
      have h2 : (e.2.2 : Int) = p.2 := by injection z with _ t; injection t
      exact Prod.ext (by omega) (by omega)
    rw [this]
    exact hq
  · have : (src.map fun e => Value.ref e.1).toArray.any (hasP src p) = decide (p ∈ src.map (·.2)) := by
      rw [Bool.eq_iff_iff, decide_eq_true_iff, List.any_toArray, List.any_eq_true]
      constructor
      · rintro ⟨w, hw, z⟩
        obtain ⟨e, he, rfl⟩ := List.mem_map.mp hw
        rw [hone e he] at z
        exact List.mem_map.mpr ⟨e, he, of_decide_eq_true z⟩
      · intro z
        obtain ⟨e, he, z⟩ := List.mem_map.mp z
        exact ⟨_, List.mem_map.mpr ⟨e, he, rfl⟩, by rw [hone e he]; exact decide_eq_true z⟩
    rw [this]
    exact q
end
end L2
namespace DL
open PySem PySem.Spec L2
noncomputable def pInP : P2 := fun x y h Q => ∃ (p : Nat × Nat) (ps : List (Nat × Nat)), x = pqS p ∧ lsOf h y = some (ps.map pqS) ∧ Q (.bl (decide (p ∈ ps))) h
theorem ok_inP {X : Cx} (hu : X.A.units + 64 < cLine) : OpR X (compareOp .In) (r2 X.K pInP) := OpR.imp (op_inP hu) fun x y H Q ⟨π, α, h, d, e, Q', R, r1, r2, f, k⟩ => by
  obtain ⟨p, ps, rfl, w, f⟩ := f
  obtain ⟨l, us, rfl, hq, rs⟩ := lsOf_sq R r2 w
  obtain ⟨src, rfl, ep, hsr⟩ := rel_pairs rs
  obtain ⟨a, us, ea, _, _⟩ := tup_sq r1
  subst ea
  refine ⟨a, l, p, src, rfl, rfl, pair_sq (e := (a, p)) r1, hq, fun e he => pair_sq (hsr e he), k _ h α H _ ?_ (Ext.refl ..) R (.bl _)⟩
  rw [ep]; exact f
end DL
namespace CM
open PySem L2 DL
open _root_.PS (cd)
theorem asc_pairs : ∀ {a b : List (Nat × Nat)}, (a.map cd).Pairwise (· < ·) → (b.map cd).Pairwise (· < ·) → (∀ p ∈ a, p.2 < 6) → (∀ p ∈ b, p.2 < 6) → (∀ p, p ∈ a ↔ p ∈ b) → a = b
  | [], [], _, _, _, _, _ => rfl
  | [], q :: b, _, _, _, _, h => absurd ((h q).mpr List.mem_cons_self) (by simp)
  | p :: a, [], _, _, _, _, h => absurd ((h p).mp List.mem_cons_self) (by simp)
  | p :: a, q :: b, ha, hb, h6, h7, h => by
    rw [List.map_cons, List.pairwise_cons] at ha hb
    have lo : ∀ x ∈ a, cd p < cd x := fun x hx => ha.1 _ (List.mem_map_of_mem hx)
    have lo2 : ∀ x ∈ b, cd q < cd x := fun x hx => hb.1 _ (List.mem_map_of_mem hx)
    have e : p = q := by
      rcases List.mem_cons.mp ((h p).mp List.mem_cons_self) with z | z
      · exact z
      · rcases List.mem_cons.mp ((h q).mpr List.mem_cons_self) with y | y
        · exact y.symm
        · have := lo q y
          have := lo2 p z
          omega
    subst e
    have tl : a = b := asc_pairs ha.2 hb.2 (fun x hx => h6 x (List.mem_cons_of_mem _ hx)) (fun x hx => h7 x (List.mem_cons_of_mem _ hx)) fun x => by
      constructor
      · intro hx
        rcases List.mem_cons.mp ((h x).mp (List.mem_cons_of_mem _ hx)) with z | z
        · have := lo x hx; rw [z] at this; omega
        · exact z
      · intro hx
        rcases List.mem_cons.mp ((h x).mpr (List.mem_cons_of_mem _ hx)) with z | z
        · have := lo2 x hx; rw [z] at this; omega
        · exact z
    rw [tl]
theorem facts_lt {m e : Nat} (hm : m < 64) (h : e ∈ factsN m) : e < 6 := by
  have hb : m.testBit e = true := mem_facts.mp h
  rcases Nat.lt_or_ge e 6 with z | z
  · exact z
  · have : m < 2 ^ e := Nat.lt_of_lt_of_le hm (by have := Nat.pow_le_pow_right (n := 2) (by decide) z; exact this)
    rw [Nat.testBit_lt_two_pow this] at hb; cases hb
theorem prs_up {ts : List Nat} (hb : ∀ x ∈ ts, x < 64) : ((prs ts).map cd).Pairwise (· < ·) := by
  unfold prs
  generalize 0 = k
  have go : ∀ (ts : List Nat) (k : Nat), (∀ x ∈ ts, x < 64) → (((ts.zipIdx k).flatMap fun x => (factsN x.1).map fun e => (x.2, e)).map cd).Pairwise (· < ·) ∧ ∀ c ∈ ((ts.zipIdx k).flatMap fun x => (factsN x.1).map fun e => (x.2, e)).map cd, 6 * k ≤ c := by
    intro ts
    induction ts with
    | nil => intro k _; exact ⟨.nil, fun c h => (nomatch h)⟩
    | cons m ts ih =>
      intro k hb
      obtain ⟨i1, i2⟩ := ih (k + 1) fun x hx => hb x (List.mem_cons_of_mem _ hx)
      have hm := hb m List.mem_cons_self
      have up : (factsN m).Pairwise (· < ·) := by unfold factsN; exact List.pairwise_lt_range.sublist List.filter_sublist
      rw [List.zipIdx_cons, List.flatMap_cons, List.map_append, List.map_map]
      constructor
      · rw [List.pairwise_append, List.pairwise_map]
        refine ⟨up.imp_of_mem fun {a b} ha hb' hab => ?_, i1, fun c hc c' hc' => ?_⟩
        · show 6 * k + a < 6 * k + b
          omega
        · obtain ⟨e, he, rfl⟩ := List.mem_map.mp hc
          have h1 := i2 c' hc'
          have h2 := facts_lt hm he
          show 6 * k + e < c'
          omega
      · intro c hc
        rcases List.mem_append.mp hc with hc | hc
        · obtain ⟨e, he, rfl⟩ := List.mem_map.mp hc
          show 6 * k ≤ 6 * k + e
          omega
        · have := i2 c hc
          omega
  exact (go ts k hb).1
section
variable {n : Nat} {ps : List (Nat × Nat)}
theorem gath_small (hp : ∀ p ∈ ps, p.1 < n ∧ p.2 < 6) : ∀ x ∈ gath n ps, x < 64 := fun x hx => by
  obtain ⟨i, hi⟩ := List.getElem?_of_mem hx
  refine Nat.lt_pow_two_of_testBit (n := 6) x fun e he => ?_
  rw [Bool.eq_false_iff]
  intro z
  have h1 : tb (gath n ps) i e = true := by unfold tb; rw [List.getD_eq_getElem?_getD, hi]; exact z
  have := (hp _ ((gath_bit (fun p hp' => (hp p hp').1) i e).mp h1)).2
  omega
theorem prs_mem (hp : ∀ p ∈ ps, p.1 < n ∧ p.2 < 6) (p : Nat × Nat) : p ∈ prs (gath n ps) ↔ p ∈ ps := by
  obtain ⟨d, e⟩ := p
  rw [mem_prs, gath_bit (fun p hp' => (hp p hp').1), gath_len]
  exact ⟨fun h => h.2, fun h => ⟨(hp _ h).1, h⟩⟩
theorem told_is (hp : ∀ p ∈ ps, p.1 < n ∧ p.2 < 6) {qs : List (Nat × Nat)} (hq : (qs.map cd).Pairwise (· < ·)) (hm : ∀ p, p ∈ qs ↔ p ∈ ps) : qs = prs (gath n ps) :=
  asc_pairs hq (prs_up (gath_small hp)) (fun p h => (hp p ((hm p).mp h)).2) (fun p h => (hp p ((prs_mem hp p).mp h)).2) fun p => (hm p).trans (prs_mem hp p).symm
theorem gath_told (hp : ∀ p ∈ ps, p.1 < n ∧ p.2 < 6) : gath n (prs (gath n ps)) = gath n ps := by
  apply tab_eq (by rw [gath_len, gath_len])
  intro d _ e
  rw [gath_bit (fun p h => (hp p ((prs_mem hp p).mp h)).1), gath_bit (fun p h => (hp p h).1), prs_mem hp]
noncomputable def dueN (ps : List (Nat × Nat)) (l : List Nat) (f : Nat) : Nat := msum (l.filter fun o => decide ((f, o) ∈ ps))
theorem due_snoc (l : List Nat) (f o : Nat) : dueN ps (l ++ [o]) f = dueN ps l f + 2 ^ o * (if decide ((f, o) ∈ ps) = true then 1 else 0) := by
  unfold dueN msum
  rw [List.filter_append, List.map_append, List.sum_append]
  by_cases h : (f, o) ∈ ps
  · simp [h]
  · simp [h]
theorem gath_due (hp : ∀ p ∈ ps, p.1 < n ∧ p.2 < 6) : gath n ps = (List.range n).map (dueN ps (List.range 6)) := by
  apply tab_eq (by rw [gath_len]; simp)
  intro d hd e
  rw [gath_len] at hd
  rw [gath_bit (fun p h => (hp p h).1)]
  unfold tb
  rw [List.getD_eq_getElem?_getD, List.getElem?_map, List.getElem?_range hd]
  show _ ↔ (msum _).testBit e = true
  rw [(msum_bits _ (filt (Nat.le_refl 6)).1 (filt (Nat.le_refl 6)).2).2 e, List.mem_filter, List.mem_range, decide_eq_true_iff]
  exact ⟨fun h => ⟨(hp _ h).2, h⟩, fun h => h.2⟩
end
noncomputable def pzD (z : Int × Int) : D := .tup [.int z.1, .int z.2]
noncomputable def fitZ (n : Nat) (z : Int × Int) : Bool := decide (0 ≤ z.1) && decide (z.1 < n) && decide (0 ≤ z.2) && decide (z.2 < 6)
noncomputable def zp (p : Nat × Nat) : Int × Int := (p.1, p.2)
theorem fit_nat {n : Nat} {z : Int × Int} (h : fitZ n z = true) : z = zp (z.1.toNat, z.2.toNat) ∧ z.1.toNat < n ∧ z.2.toNat < 6 := by
  unfold fitZ at h
  simp only [Bool.and_eq_true, decide_eq_true_eq] at h
  exact ⟨Prod.ext (by show z.1 = (z.1.toNat : Int); omega) (by show z.2 = (z.2.toNat : Int); omega), by omega, by omega⟩
theorem fit_zp {n : Nat} {p : Nat × Nat} (h1 : p.1 < n) (h2 : p.2 < 6) : fitZ n (zp p) = true := by
  unfold fitZ zp
  simp only [Bool.and_eq_true, decide_eq_true_eq]
  omega
end CM
namespace K12
open PySem L2 DL CM
def vvA : String := "dAsg dName dVar dC dOp dUn dTst dTr dAnd dOr dNot dAndV dOrV dNotV dIf dIfS dRet dRetN dDrop dNext dNever dCB dCal dCons dNil dTup dV dTk dListOf dBits dIsinst dChain dPart dNoPart dSl dGNil dGCons dUnp dAug dAugS dSubL dAppend dExtend dPop dClear dFor dISeq dIRange dIEnum dIEnum1 dComp dNoIf dCatN dRepN dSlL dBreak dCont pI pI0 pB0 pNeg pIs pIx pEq pLtI pLen pTuple pInt pMin pMax pAbs pPlus pAdd pMulI pIn dGet dRaise dRaise0 dTryS dTryD dTryE dIsX dXA dCalX dIxX dDropX dRetX dInsert dSortSet pInP reduceIte"
def vvB : String := "setD compSl isN_non isN_bl isN_int isN_str isN_tup isN_lst isN_ref eqS List.map_cons List.map_nil List.cons_append List.nil_append List.length_cons List.length_nil List.replicate List.getElem?_cons_zero List.getElem?_cons_succ List.set_cons_zero List.set_cons_succ Option.getD_some Option.getD_none List.getElem?_nil Bool.false_eq_true Bool.not_true Bool.not_false if_true if_false ite_true ite_false eq_self_iff_true decide_true decide_false Nat.reduceSub Nat.reduceAdd Nat.sub_zero Nat.sub_self Nat.zero_add Option.map_some Option.map_none Option.bind_some Option.bind_none lsOf_lst seqOf_lst seqSrc_lst lenD_lst ixD_lst trD_lst lsOf_scr seqOf_scr seqSrc_scr lenD_scr ixD_scr trD_scr lsP_lst lsP_tup lsP_int lsP_str seqOf_tup seqSrc_tup lenD_tup ixD_tup trD_tup trD_non trD_bl trD_int kindD_non kindD_bl kindD_int kindD_str kindD_tup kindD_lst isK_NoneType_bool isK_NoneType_int isK_NoneType_str isK_NoneType_tuple isK_NoneType_list isK_NoneType_dict isK_bool_bool isK_bool_int isK_bool_str isK_bool_tuple isK_bool_list isK_bool_dict isK_int_bool isK_int_int isK_int_str isK_int_tuple isK_int_list isK_int_dict isK_str_bool isK_str_int isK_str_str isK_str_tuple isK_str_list isK_str_dict isK_tuple_bool isK_tuple_int isK_tuple_str isK_tuple_tuple isK_tuple_list isK_tuple_dict isK_list_bool isK_list_int isK_list_str isK_list_tuple isK_list_list isK_list_dict isK_dict_bool isK_dict_int isK_dict_str isK_dict_tuple isK_dict_list isK_dict_dict ixN_10 ixN_0 at1_0 at2_0 at2_1 at3_0 at3_1 at3_2 at4_0 at4_1 at4_2 at4_3 at5_0 at5_1 at5_2 at5_3 at5_4 at6_0 at6_1 at6_2 at6_3 at6_4 at6_5 at7_0 at7_1 at7_2 at7_3 at7_4 at7_5 at7_6 at8_0 at8_1 at8_2 at8_3 at8_4 at8_5 at8_6 at8_7 sk_step sq_step_step sq_step_call sq_step_in sq_step_over sq_step_begin sq_step_start sq_step_short sq_step_along sq_step_within sq_step_at sq_step_out sk_call sq_call_step sq_call_call sq_call_in sq_call_over sq_call_begin sq_call_start sq_call_short sq_call_along sq_call_within sq_call_at sq_call_out sk_in sq_in_step sq_in_call sq_in_in sq_in_over sq_in_begin sq_in_start sq_in_short sq_in_along sq_in_within sq_in_at sq_in_out sk_over sq_over_step sq_over_call sq_over_in sq_over_over sq_over_begin sq_over_start sq_over_short sq_over_along sq_over_within sq_over_at sq_over_out sk_begin sq_begin_step sq_begin_call sq_begin_in sq_begin_over sq_begin_begin sq_begin_start sq_begin_short sq_begin_along sq_begin_within sq_begin_at sq_begin_out sk_start sq_start_step sq_start_call sq_start_in sq_start_over sq_start_begin sq_start_start sq_start_short sq_start_along sq_start_within sq_start_at sq_start_out sk_short sq_short_step sq_short_call sq_short_in sq_short_over sq_short_begin sq_short_start sq_short_short sq_short_along sq_short_within sq_short_at sq_short_out sk_along sq_along_step sq_along_call sq_along_in sq_along_over sq_along_begin sq_along_start sq_along_short sq_along_along sq_along_within sq_along_at sq_along_out sk_within sq_within_step sq_within_call sq_within_in sq_within_over sq_within_begin sq_within_start sq_within_short sq_within_along sq_within_within sq_within_at sq_within_out sk_at sq_at_step sq_at_call sq_at_in sq_at_over sq_at_begin sq_at_start sq_at_short sq_at_along sq_at_within sq_at_at sq_at_out sk_out sq_out_step sq_out_call sq_out_in sq_out_over sq_out_begin sq_out_start sq_out_short sq_out_along sq_out_within sq_out_at sq_out_out Bool.and_self Bool.and_true"
local macro_rules | `(tactic| simp only [VV]) => do
  let as := ((vvA.splitOn " ")).toArray.map fun s => Lean.mkIdent s.toName
  let bs := ((vvB.splitOn " ")).toArray.map fun s => Lean.mkIdent s.toName
  `(tactic| simp only [$[↓$as:ident],*, $[$bs:ident],*])
local macro_rules | `(tactic| simp only [$xs,*, VV]) => do
  let as := ((vvA.splitOn " ")).toArray.map fun s => Lean.mkIdent s.toName
  let bs := ((vvB.splitOn " ")).toArray.map fun s => Lean.mkIdent s.toName
  `(tactic| simp only [$xs,*, $[↓$as:ident],*, $[$bs:ident],*])
local macro_rules | `(tactic| simp only [VV0]) => do
  let as := ((vvA.splitOn " ").filter (fun s => !(["pEq"] : List String).contains s)).toArray.map fun s => Lean.mkIdent s.toName
  let bs := ((vvB.splitOn " ").filter (fun s => !(["pEq"] : List String).contains s)).toArray.map fun s => Lean.mkIdent s.toName
  `(tactic| simp only [$[↓$as:ident],*, $[$bs:ident],*])
local macro_rules | `(tactic| simp only [$xs,*, VV0]) => do
  let as := ((vvA.splitOn " ").filter (fun s => !(["pEq"] : List String).contains s)).toArray.map fun s => Lean.mkIdent s.toName
  let bs := ((vvB.splitOn " ").filter (fun s => !(["pEq"] : List String).contains s)).toArray.map fun s => Lean.mkIdent s.toName
  `(tactic| simp only [$xs,*, $[↓$as:ident],*, $[$bs:ident],*])
noncomputable def top (i : Nat) : Stmt := PySem.Challenge.pw_callmatch_k12_tables_of_pairs.main.body.getD i (.Pass ⟨0, 0, 0, 0⟩)
noncomputable def clsFn : Stmt → Nat → Stmt
  | .ClassDef _ _ _ body _ _ _ _ _ _ _, k => body.getD k (.Pass ⟨0, 0, 0, 0⟩)
  | s, _ => s
noncomputable abbrev s_facts_in : Stmt := top 11
noncomputable abbrev s_gathered : Stmt := top 13
noncomputable abbrev s__law_cell_at : Stmt := top 16
noncomputable abbrev s_table_of : Stmt := top 12
noncomputable abbrev s_pairs_of : Stmt := top 14
noncomputable abbrev s__law_refused : Stmt := top 18
noncomputable abbrev s_law : Stmt := top 19
theorem sc_facts_in : FnScope ["mask"] ["mask"] (defScope s_facts_in) := ⟨rfl, rfl, rfl, by decide +kernel, rfl, by decide +kernel, by decide +kernel⟩
theorem sc_gathered : FnScope ["n", "pairs", "masks", "d", "e"] ["n", "pairs"] (defScope s_gathered) := ⟨rfl, rfl, rfl, by decide +kernel, rfl, by decide +kernel, by decide +kernel⟩
theorem sc__law_cell_at : FnScope ["_law_script", "_law_k"] ["_law_script", "_law_k"] (defScope s__law_cell_at) := ⟨rfl, rfl, rfl, by decide +kernel, rfl, by decide +kernel, by decide +kernel⟩
theorem sc_table_of : FnScope ["n", "pairs", "d", "e"] ["n", "pairs"] (defScope s_table_of) := ⟨rfl, rfl, rfl, by decide +kernel, rfl, by decide +kernel, by decide +kernel⟩
theorem sc_pairs_of : FnScope ["table", "pairs", "d", "mask", "e"] ["table"] (defScope s_pairs_of) := ⟨rfl, rfl, rfl, by decide +kernel, rfl, by decide +kernel, by decide +kernel⟩
theorem sc__law_refused : FnScope ["_law_n", "_law_pairs", "_law_kinds", "e"] ["_law_n", "_law_pairs"] (defScope s__law_refused) := ⟨rfl, rfl, rfl, by decide +kernel, rfl, by decide +kernel, by decide +kernel⟩
theorem sc_law : FnScope ["_law_script", "_law_n", "_law_pairs", "_law_due", "_law_fact", "_law_mask", "_law_other", "_law_handed", "_law_table", "_law_told", "_law_cell", "_law_far", "_law_wrong"] ["_law_script"] (defScope s_law) := ⟨rfl, rfl, rfl, by decide +kernel, rfl, by decide +kernel, by decide +kernel⟩
structure Txt (P : Program) (w : World) (K : PySem.W.Frag) (mg : Str → Option Value) : Prop where
  b_ValueError : mg "ValueError" = none
  b_enumerate : mg "enumerate" = none
  b_int : mg "int" = none
  b_isinstance : mg "isinstance" = none
  b_len : mg "len" = none
  b_list : mg "list" = none
  b_range : mg "range" = none
  b_set : mg "set" = none
  b_sorted : mg "sorted" = none
  b_tuple : mg "tuple" = none
  c_MOST_FACTS : ∃ t, mg "MOST_FACTS" = some (.int 6 t)
  k_CallError : CatchX K mg "CallError" "NoTable"
  x_NoTable : ClassX K "NoTable"
  i_NoChart : ∃ CX, mg "NoChart" = some (.ref CX) ∧ IsX K "NoTable" (.ref CX) false
  i_NoName : ∃ CX, mg "NoName" = some (.ref CX) ∧ IsX K "NoTable" (.ref CX) false
  i_NoPaper : ∃ CX, mg "NoPaper" = some (.ref CX) ∧ IsX K "NoTable" (.ref CX) false
  i_NoTable : ∃ CX, mg "NoTable" = some (.ref CX) ∧ IsX K "NoTable" (.ref CX) true
  i_NoText : ∃ CX, mg "NoText" = some (.ref CX) ∧ IsX K "NoTable" (.ref CX) false
  i_NoWay : ∃ CX, mg "NoWay" = some (.ref CX) ∧ IsX K "NoTable" (.ref CX) false
  i_TooLong : ∃ CX, mg "TooLong" = some (.ref CX) ∧ IsX K "NoTable" (.ref CX) false
  i_ValueError : IsX K "NoTable" (.type "ValueError") true
section
variable {P : Program} {w : World} {K : PySem.W.Frag} {mg : Str → Option Value} {base : Heap}
noncomputable def b_facts_in : DS := (dRet (dV (dComp [none, some 0] (dIRange (dCons (dBits (dVar 0)) dNil)) (dName 0) (dTr (dOp pBand (dOp pShr (dVar 1) (dVar 0)) (dC (.int 1)))) (dVar 0))))
noncomputable def S_facts_in : DSp := fun ds h Q => ∃ m : Nat, ds = [nD m] ∧ m < 2 ^ 60 ∧ Q (.lst ((factsN m).map nD)) h
theorem imp_facts_in : ∀ ds h Q, S_facts_in ds h Q → runD 1 b_facts_in ds h Q := by
  rintro ds h Q ⟨m, rfl, hm, q⟩
  have hb := bits_lt hm
  simp only [↓b_facts_in, ↓runD, ↓dSeq, ↓runX, VV]
  refine ⟨⟨by first | decide | omega, by first | decide | omega⟩, by rw [rangeD_length]; omega, ?_⟩
  rw [rangeD_map]
  refine comp1 (fun d => m.testBit d) nD Src.ok_nil none (fun y hy K k => ?_) (fun y hy _ K k => ?_) ?_
  · simp only [↓b_facts_in, ↓runD, ↓dSeq, ↓runX, VV]
    refine ⟨by first | decide | omega, ?_⟩
    rw [show ((0 : Int) + (y : Nat)).toNat = y by first | decide | omega, bitT]
    exact k
  · simp only [↓b_facts_in, ↓runD, ↓dSeq, ↓runX, VV]
    rw [Int.zero_add]; exact k
  · rw [Int.toNat_natCast]
    exact q
theorem ok_facts_in {f : Addr} {fd : FuncData} (F : Fun K "facts_in" "facts_in" s_facts_in f fd) (T : Txt P w K mg) : FnOk P w K mg base CX0 1 f fd ["mask"] (spD K 1 S_facts_in) :=
  fn_ok (k := 0) (b := b_facts_in) F sc_facts_in (fun cdv A outer s H E hr => by
    refine ss_one ?_
    refine s_ret ?_
    refine se_v ?_
    exact sn_comp rfl (N' := ["d", "mask"]) (js := [none, some 0]) ⟨rfl, by decide +kernel, rfl, rfl, rfl⟩ (si_range1 rfl T.b_range (sa_cons (se_bits (sv 0)) sa_nil)) (fun s0 H0 fp => ⟨(sg_name (i := 0) (show (["d", "mask"] : List Str).Nodup by decide +kernel) rfl (Or.inl rfl)), (sf_one (st_truth (se_op ok_band (se_op ok_shr (sv 1) (sv 0)) se_int))), (sv 0)⟩)) imp_facts_in
noncomputable def b_gathered : DS := (dSeq (dAsg (dTk (dRepN (dV (dCons (dC (.int 0)) dNil)) (dVar 0))) (dName 2))
    (dSeq (dFor (dISeq (dVar 1)) (dUnp 2 (dGCons (dName 3) (dGCons (dName 4) dGNil))) (dAugS (dVar 2) (dVar 3) (dOp pShl (dC (.int 1)) (dVar 4)) pBor))
    (dRet (dCB pTuple (dCons (dVar 2) dNil)))))
noncomputable def S_gathered : DSp := fun ds h Q => ∃ (n : Nat) (d : D) (ps : List (Nat × Nat)), ds = [nD n, d] ∧ n ≤ 6 ∧ lsOf h d = some (ps.map pqD) ∧ (∀ p ∈ ps, p.1 < n ∧ p.2 ≤ 60) ∧ Q (tD (gath n ps)) h
theorem imp_gathered : ∀ ds h Q, S_gathered ds h Q → runD 5 b_gathered ds h (Dr h Q) := by
  rintro ds h Q ⟨n, d, ps, rfl, hn, hd, hp, q⟩
  simp only [runD, runX, b_gathered, List.map_cons, List.map_nil, List.cons_append, List.nil_append, List.length_cons, List.length_nil, List.replicate, Nat.reduceSub, Nat.reduceAdd, Nat.zero_add, Nat.sub_self]
  (try dsimp only); refine seq_intro fun N hN => ?_
  simp only [VV]
  have fl : (List.replicate ((n : Int)).toNat [D.int 0]).flatten = (gath n []).map nD := by
    rw [Int.toNat_natCast]
    show _ = (List.replicate n 0).map nD
    rw [List.map_replicate]
    clear hp hn q hd
    induction n with
    | zero => rfl
    | succ n ih => rw [List.replicate_succ, List.flatten_cons, ih, List.replicate_succ]; rfl
  refine ⟨⟨by first | decide | omega, by first | decide | omega, by simp; omega⟩, ?_⟩
  rw [fl]
  subst hN
  (try dsimp only); refine seq_intro fun N hN => ?_
  obtain ⟨w, s1, s2⟩ := src_pre hd
  simp only [s1 _ (Pre.app _ _), VV]
  refine forL_map (fun p δ h' => ∃ x3 x4 : Option D, δ = [some (nD n), some d, some (.ref h.length), x3, x4] ∧ h' = h ++ [.lst ((gath n p).map nD)]) ⟨none, none, rfl, rfl⟩ ?_ ?_ ?_
  · rintro p δ h' ⟨x3, x4, rfl, rfl⟩
    exact s2 _ _ (Pre.app _ _)
  · rintro p ⟨a, b⟩ r δ h' N1 e ⟨x3, x4, rfl, rfl⟩ hN1
    obtain ⟨ha, hb⟩ := hp (a, b) (by rw [e]; simp)
    have ha : a < n := ha
    have hb : b ≤ 60 := hb
    have gl := gath_len n p
    have g1 : ((gath n p).map nD)[((a : Nat) : Int).toNat]? = some (nD ((gath n p).getD a 0)) := by
      rw [Int.toNat_natCast, List.getElem?_map, List.getD_eq_getElem?_getD, List.getElem?_eq_getElem (by first | decide | omega)]; rfl
    have g2 : ixN (gath n p).length ((a : Nat) : Int) = some a := ixN_nat (by first | decide | omega)
    simp only [pqD, get_new, g1, VV]
    refine ⟨trivial, by first | decide | omega, ⟨by first | decide | omega, by first | decide | omega, by decide⟩, ?_⟩
    rw [shl1, bor_nat]
    simp only [get_new, List.length_map, g2, set_new, VV]
    refine hN1 _ _ ⟨_, _, rfl, ?_⟩
    rw [gath_snoc]
    unfold put
    rw [List.map_set]
  · rintro δ h' ⟨x3, x4, rfl, rfl⟩
    subst hN
    simp only [seq_ls (ls_new h _), VV]
    exact Dr.drop (nrD_tD _) q
theorem ok_gathered {f : Addr} {fd : FuncData} (F : Fun K "gathered" "gathered" s_gathered f fd) (T : Txt P w K mg) : FnOk P w K mg base CX0 1 f fd ["n", "pairs"] (spD K 2 S_gathered) :=
  fn_okD (k := 0) (b := b_gathered) F sc_gathered (fun cdv A outer s H E hr => by
    refine ss_cons ?_ ?_
    · refine s_set (i := 2) ?_ ?_ ?_ ?_
      · exact sc_gathered.nd
      · exact rfl
      · exact Or.inl rfl
      exact se_t (sn_rep (se_v (sn_lst (sa_cons se_int sa_nil))) (sv 0))
    refine ss_cons ?_ ?_
    · refine s_for ?_ ?_ ?_ ?_ ?_
      · exact PassesOwn.never
      · exact rfl
      · exact si_seq (sv 1)
      · exact sg_tup rfl (sgs_cons (sg_name (i := 3) sc_gathered.nd rfl (Or.inl rfl)) (sgs_cons (sg_name (i := 4) sc_gathered.nd rfl (Or.inl rfl)) sgs_nil))
      refine ss_one ?_
      exact s_augS (sv 2) (sv 3) (se_op ok_shl se_int (sv 4)) iok_or
    refine ss_one ?_
    refine s_ret ?_
    exact se_callTy ok_tuple rfl T.b_tuple PyProof.Rows.boot_tuple (sa_cons (sv 2) sa_nil)) imp_gathered
noncomputable def b__law_cell_at : DS := (dSeq (dIfS (dTst (dOp pLtI (dVar 1) (dCB pLen (dCons (dVar 0) dNil)))) (dRet (dOp pIx (dVar 0) (dVar 1))) dNext)
    (dRet (dOp pPlus (dOp pMulI (dC (.int 7919)) (dVar 1)) (dCB pLen (dCons (dVar 0) dNil)))))
noncomputable def S__law_cell_at : DSp := fun ds h Q => ∃ (ns : List Int) (k : Nat), ds = [.scr (ns.map .int), nD k] ∧ ns.length ≤ 63 ∧ k ≤ 1000 ∧ ∀ r : Int, Q (.int r) h
theorem imp__law_cell_at : ∀ ds h Q, S__law_cell_at ds h Q → runD 2 b__law_cell_at ds h Q := by
  rintro ds h Q ⟨ns, k, rfl, hl, hk, q⟩
  simp only [runD, runX, b__law_cell_at, List.map_cons, List.map_nil, List.cons_append, List.nil_append, List.length_cons, List.length_nil, List.replicate, Nat.reduceSub, Nat.reduceAdd, Nat.zero_add, Nat.sub_self]
  (try dsimp only); refine seq_intro fun N hN => ?_
  by_cases c : (k : Int) < (ns.length : Int)
  · obtain ⟨x, hx⟩ : ∃ x, ns[k]? = some x := ⟨_, List.getElem?_eq_getElem (by first | decide | omega)⟩
    have ax : atI (ns.map D.int) (k : Int) = some (.int x) := by rw [atN, List.getElem?_map, hx]; rfl
    simp only [List.length_map, c, ax, VV]
    exact q x
  · simp only [List.length_map, c, VV]
    subst hN
    simp only [List.length_map, VV]
    exact ⟨mulS (by first | decide | omega), q _⟩
theorem ok__law_cell_at {f : Addr} {fd : FuncData} (F : Fun K "_law_cell_at" "_law_cell_at" s__law_cell_at f fd) (T : Txt P w K mg) : FnOk P w K mg base CX0 1 f fd ["_law_script", "_law_k"] (spD K 2 S__law_cell_at) :=
  fn_ok (k := 0) (b := b__law_cell_at) F sc__law_cell_at (fun cdv A outer s H E hr => by
    refine ss_cons ?_ ?_
    · refine s_if ?_ ?_ ?_
      · exact st_cmp ok_ltI (sv 1) (se_callB ok_len rfl T.b_len PySem.boot_len (sa_cons (sv 0) sa_nil)) (nomark _)
      · refine ss_one ?_
        refine s_ret ?_
        exact se_ix ok_ix (sv 0) (sv 1) (fun _ _ => rfl)
      exact ss_nil
    refine ss_one ?_
    refine s_ret ?_
    exact se_op ok_plus (se_op ok_timesI se_int (sv 1)) (se_callB ok_len rfl T.b_len PySem.boot_len (sa_cons (sv 0) sa_nil))) imp__law_cell_at
noncomputable def b_table_of : DS := (dSeq (dFor (dISeq (dVar 1)) (dUnp 2 (dGCons (dName 2) (dGCons (dName 3) dGNil))) (dIfS (dNot (dAnd (dTst (dChain pLe pLtI (dC (.int 0)) (dVar 2) (dVar 0))) (dTst (dChain pLe pLtI (dC (.int 0)) (dVar 3) (dC (.int 6)))))) (dRaise0 "NoTable" [0, 2, 3]) dNext))
    (dRet (dCal S_gathered (dCons (dVar 0) (dCons (dVar 1) dNil)))))
noncomputable def S_table_of : DSpX := fun ds h Q X' => ∃ (n : Nat) (d : D) (zs : List (Int × Int)), ds = [nD n, d] ∧ n ≤ 6 ∧ lsOf h d = some (zs.map pzD) ∧ (∀ z ∈ zs, z.1.natAbs < 2 ^ 100 ∧ z.2.natAbs < 2 ^ 100) ∧
  (zs.all (fitZ n) = true → Q (tD (gath n (zs.map fun z => (z.1.toNat, z.2.toNat)))) h) ∧ (zs.all (fitZ n) = false → X' "NoTable" [] h)
theorem log_small {i : Int} (h : i.natAbs < 2 ^ 100) : i.natAbs.log2 < 1920 := by
  by_cases z : i.natAbs = 0
  · rw [z]; decide
  · rw [Nat.log2_lt z]
    exact Nat.lt_of_lt_of_le h (Nat.pow_le_pow_right (by decide) (by decide))
theorem imp_table_of : ∀ ds h Q X', S_table_of ds h Q X' → runX 4 b_table_of ds h (Dr h Q) (DrX h X') := by
  rintro ds h Q X' ⟨n, d, zs, rfl, hn, hd, hb, q1, q2⟩
  simp only [runD, runX, b_table_of, List.map_cons, List.map_nil, List.cons_append, List.nil_append, List.length_cons, List.length_nil, List.replicate, Nat.reduceSub, Nat.reduceAdd, Nat.zero_add, Nat.sub_self]
  (try dsimp only); refine seq_intro fun N hN => ?_
  obtain ⟨w, s1, s2⟩ := src_pre hd
  simp only [s1 _ (Pre.refl _), VV]
  refine forL_map (fun p δ h' => h' = h ∧ p.all (fitZ n) = true ∧ ∃ x2 x3 : Option D, δ = [some (nD n), some d, x2, x3]) ⟨rfl, rfl, none, none, rfl⟩ ?_ ?_ ?_
  · rintro p δ h' ⟨rfl, _, x2, x3, rfl⟩
    exact s2 _ _ (Pre.refl _)
  · rintro p ⟨a, b⟩ r δ h' N1 e ⟨rfl, hp, x2, x3, rfl⟩ hN1
    obtain ⟨ha, hb'⟩ := hb (a, b) (by rw [e]; simp)
    simp only [pzD, VV]
    refine ⟨trivial, ?_⟩
    have bad : fitZ n (a, b) = false → (∀ j ∈ [0, 2, 3], ∃ c : Int, [some (nD n), some d, some (D.int a), some (D.int b)][j]? = some (some (D.int c)) ∧ c.natAbs.log2 < 1920) ∧ DrX h' X' "NoTable" [] h' := fun hf => by
      refine ⟨fun j hj => ?_, Dr.same rfl (q2 ?_)⟩
      · simp only [List.mem_cons, List.not_mem_nil, or_false] at hj
        rcases hj with rfl | rfl | rfl
        · exact ⟨n, rfl, log_small (Nat.lt_of_le_of_lt (show (n : Int).natAbs ≤ 6 by first | decide | omega) (by decide))⟩
        · exact ⟨a, rfl, log_small ha⟩
        · exact ⟨b, rfl, log_small hb'⟩
      · rw [e, List.all_append, List.all_cons, hf]; simp
    by_cases c1 : 0 ≤ a
    · rw [if_pos (decide_eq_true c1)]
      by_cases c2 : a < n
      · rw [if_pos (decide_eq_true c2)]
        by_cases c3 : 0 ≤ b
        · rw [if_pos (decide_eq_true c3)]
          by_cases c4 : b < 6
          · rw [if_neg (by simp [c4])]
            refine hN1 _ _ ⟨rfl, ?_, _, _, rfl⟩
            rw [List.all_append, hp]
            simp [fitZ, c1, c2, c3, c4]
          · rw [if_pos (by simp [c4])]
            exact bad (by simp [fitZ, c4])
        · rw [if_neg (by simp [c3])]
          exact bad (by simp [fitZ, c3])
      · rw [if_neg (by simp [c2])]
        exact bad (by simp [fitZ, c2])
    · rw [if_neg (by simp [c1])]
      exact bad (by simp [fitZ, c1])
  · rintro δ h' ⟨rfl, hall, x2, x3, rfl⟩
    subst hN
    simp only [VV]
    have hz := List.all_eq_true.mp hall
    refine ⟨n, d, zs.map fun z => (z.1.toNat, z.2.toNat), rfl, hn, ?_, fun p hp => ?_, Dr.same (nrD_tD _) (q1 hall)⟩
    · rw [hd, List.map_map]
      congr 1
      refine List.map_congr_left fun z hz' => ?_
      show pzD z = pqD _
      obtain ⟨e1, _, _⟩ := fit_nat (hz z hz')
      rw [e1]; rfl
    · obtain ⟨z, hz', rfl⟩ := List.mem_map.mp hp
      obtain ⟨_, e2, e3⟩ := fit_nat (hz z hz')
      exact ⟨e2, by show z.2.toNat ≤ 60; omega⟩
theorem tab_ok {n : Nat} {d : D} {h : Hh} {ps : List (Nat × Nat)} {Q : DK} {X' : DX} (hn : n ≤ 6) (hd : lsOf h d = some (ps.map pqD)) (hp : ∀ p ∈ ps, p.1 < n ∧ p.2 < 6) (q : Q (tD (gath n ps)) h) : S_table_of [nD n, d] h Q X' := by
  have all : (ps.map zp).all (fitZ n) = true := by
    rw [List.all_eq_true]
    intro z hz
    obtain ⟨p, hp', rfl⟩ := List.mem_map.mp hz
    exact fit_zp (hp p hp').1 (hp p hp').2
  refine ⟨n, d, ps.map zp, rfl, hn, by rw [hd, List.map_map]; rfl, fun z hz => ?_, fun _ => ?_, fun z => by rw [all] at z; cases z⟩
  · obtain ⟨p, hp', rfl⟩ := List.mem_map.mp hz
    obtain ⟨h1, h2⟩ := hp p hp'
    exact ⟨Nat.lt_of_le_of_lt (show (p.1 : Int).natAbs ≤ 6 by first | decide | omega) (by decide), Nat.lt_of_le_of_lt (show (p.2 : Int).natAbs ≤ 6 by first | decide | omega) (by decide)⟩
  · rw [List.map_map, show ((fun z : Int × Int => (z.1.toNat, z.2.toNat)) ∘ zp) = id from by funext p; simp [zp], List.map_id]
    exact q
theorem ok_table_of {f : Addr} {fd : FuncData} (F : Fun K "table_of" "table_of" s_table_of f fd) (T : Txt P w K mg) (R_NoTable : RaiseX0 K mg "NoTable") (C_gathered : Cal P w K mg base 1 "gathered" ["n", "pairs"] (spD K 2 S_gathered)) : FnOk P w K mg base (CXE P w) 2 f fd ["n", "pairs"] (spX K 2 S_table_of) :=
  fn_okX (k := 1) (b := b_table_of) F sc_table_of (fun cdv A outer s H E hr => by
    refine ss_cons ?_ ?_
    · refine s_for ?_ ?_ ?_ ?_ ?_
      · exact ownX ⟨rfl, rfl⟩
      · exact rfl
      · exact si_seq (sv 1)
      · exact sg_tup rfl (sgs_cons (sg_name (i := 2) sc_table_of.nd rfl (Or.inl rfl)) (sgs_cons (sg_name (i := 3) sc_table_of.nd rfl (Or.inl rfl)) sgs_nil))
      refine ss_one ?_
      refine s_if ?_ ?_ ?_
      · exact st_not (st_w (sw_and (st_chain ok_le ok_ltI se_int (sv 2) (sv 0)) (sw_and1 (st_chain ok_le ok_ltI se_int (sv 3) (se_globI rfl T.c_MOST_FACTS)))))
      · refine ss_one ?_
        exact s_raise0 (js := [0, 2, 3]) R_NoTable hr rfl (pj_str pe_str (pj_int (pv 0) (pj_str pe_str (pj_int (pv 2) (pj_str pe_str (pj_int (pv 3) pj_nil)))))) (fun _ _ z => ⟨z 0 (by decide), ⟨z 2 (by decide), ⟨z 3 (by decide), trivial⟩⟩⟩)
      exact ss_nil
    refine ss_one ?_
    refine s_ret ?_
    exact se_cal C_gathered (hr.mono (by decide)) rfl (sa_cons (sv 0) (sa_cons (sv 1) sa_nil))) imp_table_of
noncomputable def b_pairs_of : DS := (dSeq (dAsg (dTk dNil) (dName 1))
    (dSeq (dFor (dIEnum (dCons (dVar 0) dNil)) (dUnp 2 (dGCons (dName 2) (dGCons (dName 3) dGNil))) (dFor (dISeq (dCal S_facts_in (dCons (dVar 3) dNil))) (dName 4) (dDrop (dAppend (dVar 1) (dCons (dTup (dCons (dVar 2) (dCons (dVar 4) dNil))) dNil)))))
    (dRet (dVar 1))))
theorem prs_snoc (l : List Nat) (m : Nat) : prs (l ++ [m]) = prs l ++ (factsN m).map fun e => (l.length, e) := by
  unfold prs
  rw [List.zipIdx_append, List.flatMap_append]
  simp
theorem prs_len {t : List Nat} (hx : ∀ x ∈ t, x < 2 ^ 60) : (prs t).length ≤ 60 * t.length := by
  unfold prs
  generalize 0 = k
  induction t generalizing k with
  | nil => simp
  | cons m l ih =>
    have fm : (factsN m).length ≤ 60 := by
      unfold factsN
      refine Nat.le_trans (List.length_filter_le _ _) ?_
      rw [List.length_range]; exact bits_lt (hx m (by simp))
    have := ih (fun x h => hx x (by simp [h])) (k + 1)
    rw [List.zipIdx_cons, List.flatMap_cons, List.length_append, List.length_map, List.length_cons]
    dsimp only
    omega
noncomputable def S_pairs_of : DSp := fun ds h Q => ∃ (t : List Nat), ds = [tD t] ∧ t.length ≤ 1000 ∧ (∀ x ∈ t, x < 2 ^ 60) ∧ Q (.ref h.length) (h ++ [.lst ((prs t).map pqD)])
theorem imp_pairs_of : ∀ ds h Q, S_pairs_of ds h Q → runD 5 b_pairs_of ds h Q := by
  rintro ds h Q ⟨t, rfl, hl, hx, q⟩
  simp only [runD, runX, b_pairs_of, List.map_cons, List.map_nil, List.cons_append, List.nil_append, List.length_cons, List.length_nil, List.replicate, Nat.reduceSub, Nat.reduceAdd, Nat.zero_add, Nat.sub_self]
  (try dsimp only); refine seq_intro fun N hN => ?_
  simp only [VV]
  subst hN
  (try dsimp only); refine seq_intro fun N hN => ?_
  simp only [tD, VV]
  rw [enumD_map]
  refine forL_map (fun p δ h' => ∃ x2 x3 x4 : Option D, δ = [some (.tup (t.map nD)), some (.ref h.length), x2, x3, x4] ∧ h' = h ++ [.lst ((prs (p.map (·.1))).map pqD)] ∧ (prs (p.map (·.1))).length ≤ 60 * p.length) ⟨none, none, none, rfl, rfl, by simp [prs]⟩ (fun _ _ _ _ => Src.ok_nil) ?_ ?_
  · rintro p ⟨m, i⟩ r δ h' N1 e ⟨x2, x3, x4, rfl, rfl, hc⟩ hN1
    have e2 : t.zipIdx[p.length]? = some (m, i) := by rw [e]; simp
    rw [List.getElem?_zipIdx] at e2
    have e3 : t[p.length]? = some m ∧ i = p.length := by
      cases z : t[p.length]? with
      | none => rw [z] at e2; cases e2
      | some m' => rw [z] at e2; simp at e2; exact ⟨by rw [e2.1], by first | decide | omega⟩
    obtain ⟨e3, rfl⟩ := e3
    have hm := hx m (List.mem_of_getElem? e3)
    have pl : p.length < t.length := (List.getElem?_eq_some_iff.mp e3).1
    have fm : (factsN m).length ≤ 60 := by
      unfold factsN
      refine Nat.le_trans (List.length_filter_le _ _) ?_
      rw [List.length_range]; exact bits_lt hm
    simp only [VV]
    refine ⟨trivial, m, rfl, hm, ?_⟩
    simp only [VV]
    refine forL_map (fun p' δ h' => ∃ x4 : Option D, δ = [some (.tup (t.map nD)), some (.ref h.length), some (.int (0 + (p.length : Int))), some (nD m), x4] ∧ h' = h ++ [.lst ((prs (p.map (·.1)) ++ p'.map fun e => (p.length, e)).map pqD)]) ⟨_, rfl, by simp⟩ (fun _ _ _ _ => Src.ok_nil) ?_ ?_
    · rintro p' y r' δ h' N2 e' ⟨x4, rfl, rfl⟩ hN2
      have pl' : p'.length < (factsN m).length := by rw [e']; simp
      simp only [get_new, set_new, List.length_map, List.length_append, VV]
      refine ⟨by first | decide | omega, hN2 _ _ ⟨_, rfl, ?_⟩⟩
      rw [List.map_append, List.map_append, List.map_append, Int.zero_add]
      simp [pqD]
    · rintro δ h' ⟨x4, rfl, rfl⟩
      refine hN1 _ _ ⟨_, _, _, rfl, ?_, ?_⟩
      · rw [show (p ++ [(m, p.length)]).map (·.1) = p.map (·.1) ++ [m] by simp, prs_snoc]; simp
      · rw [show (p ++ [(m, p.length)]).map (·.1) = p.map (·.1) ++ [m] by simp, prs_snoc]; simp; omega
  · rintro δ h' ⟨x2, x3, x4, rfl, rfl, hc⟩
    subst hN
    simp only [VV]
    rw [show t.zipIdx.map (·.1) = t by simp]
    exact q
theorem ok_pairs_of {f : Addr} {fd : FuncData} (F : Fun K "pairs_of" "pairs_of" s_pairs_of f fd) (T : Txt P w K mg) (C_facts_in : Cal P w K mg base 1 "facts_in" ["mask"] (spD K 1 S_facts_in)) : FnOk P w K mg base CX0 2 f fd ["table"] (spD K 1 S_pairs_of) :=
  fn_ok (k := 1) (b := b_pairs_of) F sc_pairs_of (fun cdv A outer s H E hr => by
    refine ss_cons ?_ ?_
    · refine s_set (i := 1) ?_ ?_ ?_ ?_
      · exact sc_pairs_of.nd
      · exact rfl
      · exact Or.inl rfl
      exact se_t (sn_lst sa_nil)
    refine ss_cons ?_ ?_
    · refine s_for ?_ ?_ ?_ ?_ ?_
      · exact PassesOwn.never
      · exact rfl
      · exact si_enum rfl T.b_enumerate (sa_cons (sv 0) sa_nil)
      · exact sg_tup rfl (sgs_cons (sg_name (i := 2) sc_pairs_of.nd rfl (Or.inl rfl)) (sgs_cons (sg_name (i := 3) sc_pairs_of.nd rfl (Or.inl rfl)) sgs_nil))
      refine ss_one ?_
      refine s_for ?_ ?_ ?_ ?_ ?_
      · exact PassesOwn.never
      · exact rfl
      · exact si_seq (se_cal C_facts_in (hr.mono (by decide)) rfl (sa_cons (sv 3) sa_nil))
      · exact sg_name (i := 4) sc_pairs_of.nd rfl (Or.inl rfl)
      refine ss_one ?_
      exact s_expr (se_append (sv 1) (sa_cons (se_tup (sa_cons (sv 2) (sa_cons (sv 4) sa_nil))) sa_nil))
    refine ss_one ?_
    refine s_ret ?_
    exact sv 1) imp_pairs_of
noncomputable def b__law_refused : DS := (dSeq (dAsg (dV (dCons (dC (.bl false)) dNil)) (dName 2))
    (dSeq (dTryD S_table_of (dCons (dVar 0) (dCons (dVar 1) dNil)) "NoTable" 3 (dSeq (dAsg (dV (dCons (dIsX "NoTable" true (dVar 3)) (dCons (dIsX "NoTable" true (dVar 3)) (dCons (dNotV (dIsX "NoTable" false (dVar 3))) dNil)))) (dName 2))
    (dAsg (dOp pPlus (dVar 2) (dV (dCons (dNotV (dIsX "NoTable" false (dVar 3))) dNil))) (dName 2))))
    (dRet (dOp (pIn true) (dC (.bl false)) (dVar 2)))))
noncomputable def S__law_refused : DSp := fun ds h Q => ∃ (n : Nat) (d : D) (zs : List (Int × Int)), ds = [nD n, d] ∧ n ≤ 6 ∧ lsOf h d = some (zs.map pzD) ∧ (∀ z ∈ zs, z.1.natAbs < 2 ^ 100 ∧ z.2.natAbs < 2 ^ 100) ∧ zs.all (fitZ n) = false ∧ Q (.bl true) h
theorem imp__law_refused : ∀ ds h Q, S__law_refused ds h Q → runD 4 b__law_refused ds h Q := by
  rintro ds h Q ⟨n, d, zs, rfl, hn, hd, hb, hf, q⟩
  simp only [runD, runX, b__law_refused, List.map_cons, List.map_nil, List.cons_append, List.nil_append, List.length_cons, List.length_nil, List.replicate, Nat.reduceSub, Nat.reduceAdd, Nat.zero_add, Nat.sub_self]
  (try dsimp only); refine seq_intro fun N hN => ?_
  simp only [VV]
  subst hN
  (try dsimp only); refine seq_intro fun N hN => ?_
  simp only [VV]
  refine ⟨n, d, zs, rfl, hn, hd, hb, (fun z => by rw [hf] at z; cases z), fun _ => ?_⟩
  refine ⟨rfl, ?_⟩
  (try dsimp only); refine seq_intro fun N2 hN2 => ?_
  simp only [true_and, VV]
  subst hN2
  simp only [true_and, VV]
  refine ⟨by decide, ?_⟩
  subst hN
  simp only [true_and, VV]
  have hin : inF (.bl false) [D.bl true, D.bl true, D.bl true, D.bl true] = false := rfl
  refine ⟨rfl, ?_⟩
  simp only [hin, VV]
  exact q
theorem ok__law_refused {f : Addr} {fd : FuncData} (F : Fun K "_law_refused" "_law_refused" s__law_refused f fd) (T : Txt P w K mg) (C_table_of : CalX P w K mg base 2 "table_of" ["n", "pairs"] (spX K 2 S_table_of)) : FnOk P w K mg base CX0 3 f fd ["_law_n", "_law_pairs"] (spD K 2 S__law_refused) :=
  fn_ok (k := 2) (b := b__law_refused) F sc__law_refused (fun cdv A outer s H E hr => by
    refine ss_cons ?_ ?_
    · refine s_set (i := 2) ?_ ?_ ?_ ?_
      · exact sc__law_refused.nd
      · exact rfl
      · exact Or.inl rfl
      refine se_v ?_
      exact sn_lst (sa_cons se_bl sa_nil)
    refine ss_cons ?_ ?_
    · exact s_tryD ⟨rfl, rfl⟩ (fun _ _ z => z) sc__law_refused.nd rfl rfl C_table_of (hr.mono (by decide)) rfl (sa_cons (sv 0) (sa_cons (sv 1) sa_nil)) T.k_CallError rfl (fun a => (ss_cons (s_set (i := 2) sc__law_refused.nd rfl (Or.inl rfl) (se_v (sn_lst (sa_cons (se_isN rfl T.b_isinstance T.x_NoTable T.i_NoTable rfl (sv 3)) (sa_cons (se_isV rfl T.b_isinstance T.x_NoTable T.i_ValueError rfl T.b_ValueError (sv 3)) (sa_cons (se_not (se_isT rfl T.b_isinstance T.x_NoTable T.i_NoChart T.i_NoName T.i_NoPaper rfl rfl rfl (sv 3))) sa_nil))))))     (ss_one (s_set (i := 2) sc__law_refused.nd rfl (Or.inl rfl) (se_op ok_plus (sv 2) (se_v (sn_lst (sa_cons (se_not (se_isT rfl T.b_isinstance T.x_NoTable T.i_NoText T.i_NoWay T.i_TooLong rfl rfl rfl (sv 3))) sa_nil))))))))
    refine ss_one ?_
    refine s_ret ?_
    exact se_cmp ok_notin se_bl (sv 2) rfl) imp__law_refused
noncomputable def b_law : DS := (dSeq (dAsg (dOp pPlus (dC (.int 1)) (dOp pMod (dCal S__law_cell_at (dCons (dVar 0) (dCons (dC (.int 0)) dNil))) (dC (.int 6)))) (dName 1))
    (dSeq (dAsg (dTk (dComp [none, some 1] (dISeq (dVar 0)) (dName 0) dNoIf (dTup (dCons (dOp pMod (dOp pDiv (dVar 0) (dC (.int 6))) (dVar 1)) (dCons (dOp pMod (dVar 0) (dC (.int 6))) dNil))))) (dName 2))
    (dSeq (dAsg (dTk dNil) (dName 3))
    (dSeq (dFor (dIRange (dCons (dVar 1) dNil)) (dName 4) (dSeq (dAsg (dC (.int 0)) (dName 5))
    (dSeq (dFor (dIRange (dCons (dC (.int 6)) dNil)) (dName 6) (dAsg (dOp pPlus (dVar 5) (dOp pMulI (dOp pIx (dTup (dCons (dC (.int 1)) (dCons (dC (.int 2)) (dCons (dC (.int 4)) (dCons (dC (.int 8)) (dCons (dC (.int 16)) (dCons (dC (.int 32)) dNil))))))) (dVar 6)) (dCB pInt (dCons (dOp pInP (dTup (dCons (dVar 4) (dCons (dVar 6) dNil))) (dVar 2)) dNil)))) (dName 5)))
    (dDrop (dAppend (dVar 3) (dCons (dVar 5) dNil))))))
    (dSeq (dAsg (dTk (dListOf (dCons (dVar 2) dNil))) (dName 7))
    (dSeq (dAsg (dCal (fun ds h Q => S_table_of ds h Q fun _ _ _ => False) (dCons (dVar 1) (dCons (dVar 7) dNil))) (dName 8))
    (dSeq (dIfS (dOr (dNot (dTr (dIsinst "tuple" (dVar 8)))) (dOr (dTst (dOp (pEq true) (dVar 8) (dCB pTuple (dCons (dVar 3) dNil)))) (dTst (dOp (pEq true) (dVar 7) (dVar 2))))) (dRet (dC (.bl false))) dNext)
    (dSeq (dDrop (dAppend (dVar 7) (dCons (dTup (dCons (dC (.int 0)) (dCons (dC (.int 0)) dNil))) dNil)))
    (dSeq (dAsg (dCal S_pairs_of (dCons (dVar 8) dNil)) (dName 9))
    (dSeq (dIfS (dOr (dNot (dTr (dIsinst "list" (dVar 9)))) (dOr (dTst (dOp (pEq true) (dVar 9) (dV (dSortSet (dCons (dVar 2) dNil))))) (dTst (dOp (pEq true) (dCal (fun ds h Q => S_table_of ds h Q fun _ _ _ => False) (dCons (dVar 1) (dCons (dVar 9) dNil))) (dVar 8))))) (dRet (dC (.bl false))) dNext)
    (dSeq (dDrop (dAppend (dVar 9) (dCons (dTup (dCons (dC (.int 0)) (dCons (dC (.int 5)) dNil))) dNil)))
    (dSeq (dIfS (dTst (dOp (pEq true) (dCal S_pairs_of (dCons (dVar 8) dNil)) (dV (dSortSet (dCons (dVar 2) dNil))))) (dRet (dC (.bl false))) dNext)
    (dSeq (dAsg (dCal S__law_cell_at (dCons (dVar 0) (dCons (dC (.int 1)) dNil))) (dName 10))
    (dSeq (dIfS (dTst (dOp pGt (dOp pMod (dVar 10) (dC (.int 3))) (dC (.int 0)))) (dRet (dC (.bl true))) dNext)
    (dSeq (dAsg (dOp pPlus (dC (.int 1)) (dOp pMod (dOp pDiv (dVar 10) (dC (.int 24))) (dOp pPow (dC (.int 10)) (dC (.int 18))))) (dName 11))
    (dSeq (dAsg (dOp pIx (dV (dCons (dTup (dCons (dOp pPlus (dOp pSub (dVar 1) (dC (.int 1))) (dVar 11)) (dCons (dC (.int 0)) dNil))) (dCons (dTup (dCons (dC (.int 0)) (dCons (dOp pPlus (dC (.int 5)) (dVar 11)) dNil))) (dCons (dTup (dCons (dOp pSub (dC (.int 0)) (dVar 11)) (dCons (dC (.int 0)) dNil))) (dCons (dTup (dCons (dC (.int 0)) (dCons (dOp pSub (dC (.int 0)) (dVar 11)) dNil))) dNil))))) (dOp pMod (dOp pDiv (dVar 10) (dC (.int 3))) (dC (.int 4)))) (dName 12))
    (dSeq (dDrop (dInsert (dVar 2) (dCons (dOp pMod (dOp pDiv (dVar 10) (dC (.int 12))) (dOp pPlus (dCB pLen (dCons (dVar 2) dNil)) (dC (.int 1)))) (dCons (dVar 12) dNil))))
    (dRet (dAndV (dCal S__law_refused (dCons (dVar 1) (dCons (dVar 2) dNil))) (dAndV (dCal S__law_refused (dCons (dVar 1) (dCons (dV (dListOf (dCons (dVar 2) dNil))) dNil))) (dOp (pEq false) (dCal (fun ds h Q => S_table_of ds h Q fun _ _ _ => False) (dCons (dVar 1) (dCons (dSl (dVar 9) dNoPart (dPart (dUn pNeg (dC (.int 1))))) dNil))) (dVar 8))))))))))))))))))))))
noncomputable def S_law : DSp := runD 13 b_law
theorem imp_law : ∀ ds h Q, S_law ds h Q → runD 13 b_law ds h Q := fun _ _ _ h => h
noncomputable def prC (n : Nat) (c : Int) : Nat × Nat := ((c / 6 % n).toNat, (c % 6).toNat)
theorem law_true (ns : List Int) (hl : ns.length ≤ 63) (hb : ∀ x ∈ ns, Builtin.Int.intBits x ≤ 1048576) : S_law [.scr (ns.map D.int)] [] (fun v _ => v = .bl true) := by
  unfold S_law
  simp only [runD, runX, b_law, List.map_cons, List.map_nil, List.cons_append, List.nil_append, List.length_cons, List.length_nil, List.replicate, Nat.reduceSub, Nat.reduceAdd, Nat.zero_add, Nat.sub_self]
  (try dsimp only); refine seq_intro fun N hN => ?_
  simp only [VV]
  refine ⟨ns, 0, rfl, hl, by decide, fun r0 => ?_⟩
  simp only [VV]
  refine ⟨by decide, ?_⟩
  obtain ⟨n, en, h1, h6⟩ : ∃ n : Nat, 1 + r0 % 6 = (n : Int) ∧ 1 ≤ n ∧ n ≤ 6 := ⟨(1 + r0 % 6).toNat, by first | decide | omega, by first | decide | omega, by first | decide | omega⟩
  rw [en]
  subst hN
  (try dsimp only); refine seq_intro fun N hN => ?_
  simp only [List.length_map, VV]
  refine ⟨by first | decide | omega, ?_⟩
  refine compL_map (fun p a δ h' => h' = [] ∧ (∃ o, δ = [o, some (nD n)]) ∧ a = (p.map (prC n)).map pqD) ⟨rfl, ⟨_, rfl⟩, rfl⟩ (fun _ _ _ _ _ => Src.ok_nil) ?_ ?_
  · rintro p y r acc δ h' N1 e ⟨rfl, ⟨o, rfl⟩, rfl⟩ hN1
    clear hN
    simp only [VV]
    refine ⟨⟨by decide, by decide⟩, by first | decide | omega, by decide, ?_⟩
    refine hN1 _ _ _ ⟨rfl, ⟨_, rfl⟩, ?_⟩
    rw [List.map_append, List.map_append]
    congr 1
    show [D.tup [.int (y / 6 % n), .int (y % 6)]] = [D.tup [.int ((y / 6 % n).toNat : Nat), .int ((y % 6).toNat : Nat)]]
    rw [Int.toNat_of_nonneg (Int.emod_nonneg _ (by first | decide | omega)), Int.toNat_of_nonneg (Int.emod_nonneg _ (by decide))]
  rintro a δ h' ⟨rfl, _, rfl⟩
  have hp : ∀ p ∈ ns.map (prC n), p.1 < n ∧ p.2 < 6 := fun p hp => by
    obtain ⟨c, _, rfl⟩ := List.mem_map.mp hp
    have a1 := Int.emod_lt_of_pos (c / 6) (show (0 : Int) < n by first | decide | omega)
    have a2 := Int.emod_lt_of_pos c (show (0 : Int) < 6 by decide)
    have a3 := Int.emod_nonneg (c / 6) (show (n : Int) ≠ 0 by first | decide | omega)
    have a4 := Int.emod_nonneg c (show (6 : Int) ≠ 0 by decide)
    exact ⟨by show (c / 6 % n).toNat < n; omega, by show (c % 6).toNat < 6; omega⟩
  have pl : (ns.map (prC n)).length ≤ 63 := by rw [List.length_map]; exact hl
  generalize ns.map (prC n) = ps at hp pl
  show N [some (.scr (ns.map D.int)), some (nD n), some (.ref 0), none, none, none, none, none, none, none, none, none, none] [.lst (ps.map pqD)]
  subst hN
  (try dsimp only); refine seq_intro fun N hN => ?_
  simp only [VV]
  subst hN
  (try dsimp only); refine seq_intro fun N hN => ?_
  simp only [VV]
  refine ⟨⟨by first | decide | omega, by first | decide | omega⟩, ?_⟩
  rw [Int.toNat_natCast, rangeD_map]
  refine forL_map (fun p δ h' => ∃ x4 x5 x6 : Option D, δ = [some (.scr (ns.map D.int)), some (nD n), some (.ref 0), some (.ref 1), x4, x5, x6, none, none, none, none, none, none] ∧ h' = [.lst (ps.map pqD), .lst ((p.map (dueN ps (List.range 6))).map nD)]) ⟨none, none, none, rfl, rfl⟩ (fun _ _ _ _ => Src.ok_nil) ?_ ?_
  · rintro p f r δ h' N1 e ⟨x4, x5, x6, rfl, rfl⟩ hN1
    clear hN
    have hpl : p.length < n := by have := congrArg List.length e; simp at this; omega
    simp only [VV]
    (try dsimp only); refine seq_intro fun N hN => ?_
    simp only [VV]
    rw [Int.zero_add]
    subst hN
    (try dsimp only); refine seq_intro fun N hN => ?_
    simp only [VV]
    refine ⟨⟨by decide, by decide⟩, ?_⟩
    rw [show (6 : Int).toNat = 6 from rfl, rangeD_map]
    refine forL_map (fun p' δ h' => ∃ x6 : Option D, δ = [some (.scr (ns.map D.int)), some (nD n), some (.ref 0), some (.ref 1), some (nD f), some (nD (dueN ps p' f)), x6, none, none, none, none, none, none] ∧ h' = [.lst (ps.map pqD), .lst ((p.map (dueN ps (List.range 6))).map nD)]) ⟨_, rfl, rfl⟩ (fun _ _ _ _ => Src.ok_nil) ?_ ?_
    · rintro p' o r' δ h' N2 e' ⟨x6, rfl, rfl⟩ hN2
      clear hN
      have ho : o < 6 := List.mem_range.mp (by rw [e']; simp)
      have ha : atI [D.int 1, .int 2, .int 4, .int 8, .int 16, .int 32] (0 + (o : Int)) = some (.int ((2 ^ o : Nat) : Int)) := by
        rw [Int.zero_add]
        match o, ho with
        | 0, _ => rfl
        | 1, _ => rfl
        | 2, _ => rfl
        | 3, _ => rfl
        | 4, _ => rfl
        | 5, _ => rfl
      simp only [ha, VV]
      have hpw : 2 ^ o < 2 ^ 6 := Nat.pow_lt_pow_right (by decide) ho
      refine ⟨(f, o), ps, by rw [Int.zero_add]; rfl, rfl, mulS ⟨Int.lt_of_lt_of_le (by decide) (Int.natCast_nonneg _), Int.lt_trans (Int.ofNat_lt.mpr hpw) (by decide)⟩, hN2 _ _ ⟨some (.int (0 + (o : Int))), ?_, rfl⟩⟩
      rw [due_snoc]
      have : ((dueN ps p' f + 2 ^ o * (if decide ((f, o) ∈ ps) = true then 1 else 0) : Nat) : Int) = (dueN ps p' f : Int) + ((2 ^ o : Nat) : Int) * (if decide ((f, o) ∈ ps) = true then 1 else 0) := by
        split <;> omega
      rw [← this]
    rintro δ h' ⟨x6, rfl, rfl⟩
    subst hN
    simp only [VV]
    refine ⟨by simp; omega, hN1 _ _ ⟨_, _, _, rfl, ?_⟩⟩
    simp
  rintro δ h' ⟨x4, x5, x6, rfl, rfl⟩
  rw [← gath_due hp]
  have gs := gath_small hp
  have gl := gath_len n ps
  subst hN
  (try dsimp only); refine seq_intro fun N hN => ?_
  simp only [VV]
  subst hN
  (try dsimp only); refine seq_intro fun N hN => ?_
  simp only [VV]
  refine tab_ok h6 rfl hp ?_
  have pdp : ∀ (h : Hh) (l : List (Nat × Nat)), Pds h (l.map pqD) (l.map fun p => .tuple [.int p.1, .int p.2]) 1 := fun h l => Pds.map fun p => .tup (.cons (.int _) (.cons (.int _) .nil))
  subst hN
  (try dsimp only); refine seq_intro fun N hN => ?_
  have hs : seqOf [O.lst (ps.map pqD), O.lst ((gath n ps).map nD), O.lst (ps.map pqD)] (.ref 1) = some ((gath n ps).map nD) := rfl
  simp only [hs, tD, VV0]
  refine pEq_same (p := tP (gath n ps)) (n := 1) rfl (pd_t _ _) (pd_t _ _) (by decide) ?_
  simp only [VV0]
  refine pEq_same (n := 2) rfl (Pd.ref rfl (pdp _ ps)) (Pd.ref rfl (pdp _ ps)) (by decide) ?_
  simp only [VV]
  subst hN
  (try dsimp only); refine seq_intro fun N hN => ?_
  simp only [VV]
  refine ⟨by simp; omega, ?_⟩
  subst hN
  (try dsimp only); refine seq_intro fun N hN => ?_
  simp only [VV]
  refine ⟨gath n ps, rfl, by first | decide | omega, fun x hx => Nat.lt_trans (gs x hx) (by decide), ?_⟩
  have hR : ∀ p ∈ prs (gath n ps), p.1 < n ∧ p.2 < 6 := fun p h => hp p ((prs_mem hp p).mp h)
  have hb6 : ∀ p ∈ ps, p.1 < 6 ∧ p.2 < 6 := fun p h => ⟨by have := (hp p h).1; omega, (hp p h).2⟩
  have hRl : (prs (gath n ps)).length ≤ 60 * 6 := by
    have := prs_len (t := gath n ps) fun x hx => Nat.lt_trans (gs x hx) (by decide)
    rw [gl] at this
    omega
  have gt := gath_told hp
  have is := fun {qs : List (Nat × Nat)} hq hm => told_is hp (qs := qs) hq hm
  show N [some (.scr (ns.map D.int)), some (nD n), some (.ref 0), some (.ref 1), x4, x5, x6, some (.ref 2), some (tD (gath n ps)), some (.ref 3), none, none, none] [.lst (ps.map pqD), .lst ((gath n ps).map nD), .lst (ps.map pqD ++ [.tup [.int 0, .int 0]]), .lst ((prs (gath n ps)).map pqD)]
  generalize hRe : prs (gath n ps) = R at hR hRl gt is
  generalize gath n ps = T at gs gl gt hs hRe
  subst hN
  (try dsimp only); refine seq_intro fun N hN => ?_
  have hk : kindD [O.lst (ps.map pqD), O.lst (T.map nD), O.lst (ps.map pqD ++ [D.tup [D.int 0, D.int 0]]), O.lst (R.map pqD)] (.ref 3) = some "list" := rfl
  simp only [hk, VV0]
  refine ⟨ps, rfl, hb6, fun qs hq hm => ?_⟩
  obtain rfl := is hq hm
  refine pEq_same (n := 2) rfl (Pd.ref rfl (pdp _ qs)) (Pd.lst (pdp _ qs)) (by decide) ?_
  simp only [VV0]
  refine tab_ok h6 rfl hR ?_
  rw [gt]
  refine pEq_same (n := 1) rfl (pd_t _ _) (pd_t _ _) (by decide) ?_
  simp only [VV]
  subst hN
  (try dsimp only); refine seq_intro fun N hN => ?_
  simp only [VV]
  refine ⟨by simp; omega, ?_⟩
  subst hN
  (try dsimp only); refine seq_intro fun N hN => ?_
  simp only [VV0]
  refine ⟨T, rfl, by first | decide | omega, fun x hx => Nat.lt_trans (gs x hx) (by decide), ?_⟩
  rw [hRe]
  simp only [VV0]
  refine ⟨ps, rfl, hb6, fun q2 hq2 hm2 => ?_⟩
  obtain rfl := is hq2 hm2
  refine pEq_same (n := 2) rfl (Pd.ref rfl (pdp _ q2)) (Pd.lst (pdp _ q2)) (by decide) ?_
  simp only [VV]
  subst hN
  (try dsimp only); refine seq_intro fun N hN => ?_
  simp only [VV]
  refine ⟨ns, 1, rfl, hl, by decide, fun c => ?_⟩
  subst hN
  (try dsimp only); refine seq_intro fun N hN => ?_
  simp only [VV]
  refine ⟨by decide, ?_⟩
  split
  · trivial
  clear hk hs
  subst hN
  (try dsimp only); refine seq_intro fun N hN => ?_
  simp only [VV]
  refine ⟨⟨by decide, by decide⟩, ⟨by decide, by decide, by decide⟩, by decide, ?_⟩
  obtain ⟨far, ef, f1, f2⟩ : ∃ far : Int, 1 + c / 24 % 10 ^ Int.toNat 18 = far ∧ 1 ≤ far ∧ far ≤ 10 ^ 18 := ⟨_, rfl, by have := Int.emod_nonneg (c / 24) (show (10 : Int) ^ Int.toNat 18 ≠ 0 by decide); omega, by have := Int.emod_lt_of_pos (c / 24) (show (0 : Int) < 10 ^ Int.toNat 18 by decide); have e : (10 : Int) ^ Int.toNat 18 = 10 ^ 18 := rfl; omega⟩
  rw [ef]
  subst hN
  (try dsimp only); refine seq_intro fun N hN => ?_
  simp only [VV]
  refine ⟨⟨by decide, by decide⟩, by decide, ?_⟩
  obtain ⟨z, ez, zf, zb⟩ : ∃ z : Int × Int, atI [D.tup [D.int ((n : Int) - 1 + far), D.int 0], D.tup [D.int 0, D.int (5 + far)], D.tup [D.int (0 - far), D.int 0], D.tup [D.int 0, D.int (0 - far)]] (c / 3 % 4) = some (pzD z) ∧ fitZ n z = false ∧ z.1.natAbs < 2 ^ 100 ∧ z.2.natAbs < 2 ^ 100 := by
    have a1 := Int.emod_nonneg (c / 3) (show (4 : Int) ≠ 0 by decide)
    have a2 := Int.emod_lt_of_pos (c / 3) (show (0 : Int) < 4 by decide)
    rcases (by first | decide | omega : c / 3 % 4 = 0 ∨ c / 3 % 4 = 1 ∨ c / 3 % 4 = 2 ∨ c / 3 % 4 = 3) with e | e | e | e <;> rw [e]
    · refine ⟨((n : Int) - 1 + far, 0), rfl, ?_, by first | decide | omega, (show (0 : Int).natAbs < 2 ^ 100 by decide)⟩
      have : ¬ ((n : Int) - 1 + far < n) := by first | decide | omega
      simp [fitZ, this]
    · refine ⟨(0, 5 + far), rfl, ?_, (show (0 : Int).natAbs < 2 ^ 100 by decide), by first | decide | omega⟩
      have : ¬ (5 + far < 6) := by first | decide | omega
      simp [fitZ, this]
    · refine ⟨(0 - far, 0), rfl, ?_, by first | decide | omega, (show (0 : Int).natAbs < 2 ^ 100 by decide)⟩
      have : ¬ (0 ≤ 0 - far) := by first | decide | omega
      simp only [fitZ, this, decide_false, Bool.false_and]
    · refine ⟨(0, 0 - far), rfl, ?_, (show (0 : Int).natAbs < 2 ^ 100 by decide), by first | decide | omega⟩
      have : ¬ (0 ≤ 0 - far) := by first | decide | omega
      simp only [fitZ, this, decide_false, Bool.false_and, Bool.and_false]
  rw [ez]
  dsimp only
  subst hN
  (try dsimp only); refine seq_intro fun N hN => ?_
  simp only [VV]
  refine ⟨⟨by decide, by decide⟩, ?_⟩
  show 0 < (((ps.map pqD).length : Nat) : Int) + 1 ∧ _
  rw [List.length_map]
  have k1 := Int.emod_nonneg (c / 12) (show ((ps.length : Nat) : Int) + 1 ≠ 0 by first | decide | omega)
  have k2 := Int.emod_lt_of_pos (c / 12) (show (0 : Int) < (ps.length : Nat) + 1 by first | decide | omega)
  refine ⟨by first | decide | omega, ⟨k1, by first | decide | omega, by first | decide | omega⟩, ?_⟩
  generalize (c / 12 % ((ps.length : Nat) + 1)).toNat = k
  have ew : ((ps.map pqD).take k ++ pzD z :: (ps.map pqD).drop k) = ((ps.take k).map zp ++ z :: (ps.drop k).map zp).map pzD := by
    rw [List.map_append, List.map_cons, List.map_map, List.map_map, ← List.map_take, ← List.map_drop]; rfl
  have wf : ((ps.take k).map zp ++ z :: (ps.drop k).map zp).all (fitZ n) = false := by
    rw [List.all_append, List.all_cons, zf, Bool.false_and, Bool.and_false]
  have wb : ∀ y ∈ (ps.take k).map zp ++ z :: (ps.drop k).map zp, y.1.natAbs < 2 ^ 100 ∧ y.2.natAbs < 2 ^ 100 := by
    have one : ∀ p ∈ ps, (zp p).1.natAbs < 2 ^ 100 ∧ (zp p).2.natAbs < 2 ^ 100 := fun p h => by
      obtain ⟨a1, a2⟩ := hb6 p h
      exact ⟨Nat.lt_of_le_of_lt (show (p.1 : Int).natAbs ≤ 6 by first | decide | omega) (by decide), Nat.lt_of_le_of_lt (show (p.2 : Int).natAbs ≤ 6 by first | decide | omega) (by decide)⟩
    intro y hy
    rcases List.mem_append.mp hy with h | h
    · obtain ⟨p, hp', rfl⟩ := List.mem_map.mp h
      exact one p (List.mem_of_mem_take hp')
    · rcases List.mem_cons.mp h with rfl | h
      · exact zb
      · obtain ⟨p, hp', rfl⟩ := List.mem_map.mp h
        exact one p (List.mem_of_mem_drop hp')
  rw [ew]
  generalize (ps.take k).map zp ++ z :: (ps.drop k).map zp = ws at wf wb
  subst hN
  simp only [VV0]
  refine ⟨n, .ref 0, ws, rfl, h6, rfl, wb, wf, ?_⟩
  dsimp only
  rw [if_pos rfl]
  show S__law_refused [nD n, .lst (ws.map pzD)] _ _
  refine ⟨n, _, ws, rfl, h6, rfl, wb, wf, ?_⟩
  have ec : cutD (q2.map pqD ++ [D.tup [.int 0, .int 5]]) none (some (-1)) = q2.map pqD := by
    have e1 : HT.sIx (q2.map pqD ++ [D.tup [.int 0, .int 5]]).length 0 none = 0 := rfl
    have e2 : HT.sIx (q2.map pqD ++ [D.tup [.int 0, .int 5]]).length (q2.map pqD ++ [D.tup [.int 0, .int 5]]).length (some (-1)) = (q2.map pqD).length := by
      rw [List.length_append, List.length_singleton]
      generalize (q2.map pqD).length = m
      unfold HT.sIx
      simp
      omega
    unfold cutD
    rw [e1, e2, List.drop_zero, Nat.sub_zero, List.take_append_of_le_length (Nat.le_refl _), List.take_length]
  dsimp only
  rw [if_pos rfl]
  show S_table_of [nD n, .lst (cutD (q2.map pqD ++ [D.tup [.int 0, .int 5]]) none (some (-1)))] _ _ _
  rw [ec]
  refine tab_ok h6 rfl hR ?_
  rw [gt]
  exact pEq_same (n := 1) rfl (pd_t _ _) (pd_t _ _) (by decide) rfl
theorem ok_law {f : Addr} {fd : FuncData} (F : Fun K "law" "law" s_law f fd) (T : Txt P w K mg) (C__law_cell_at : Cal P w K mg base 1 "_law_cell_at" ["_law_script", "_law_k"] (spD K 2 S__law_cell_at)) (C_table_of : CalX P w K mg base 2 "table_of" ["n", "pairs"] (spX K 2 S_table_of)) (C_pairs_of : Cal P w K mg base 2 "pairs_of" ["table"] (spD K 1 S_pairs_of)) (C__law_refused : Cal P w K mg base 3 "_law_refused" ["_law_n", "_law_pairs"] (spD K 2 S__law_refused)) : FnOk P w K mg base CX0 4 f fd ["_law_script"] (spD K 1 S_law) :=
  fn_ok (k := 3) (b := b_law) F sc_law (fun cdv A outer s H E hr => by
    refine ss_cons ?_ ?_
    · refine s_set (i := 1) ?_ ?_ ?_ ?_
      · exact sc_law.nd
      · exact rfl
      · exact Or.inr rfl
      exact se_op ok_plus se_int (se_op ok_mod (se_cal C__law_cell_at (hr.mono (by decide)) rfl (sa_cons (sv 0) (sa_cons se_int sa_nil))) se_int)
    refine ss_cons ?_ ?_
    · exact s_setcT (i := 2) (hN := sc_law.nd) (hix := rfl) (hx := (Or.inl rfl)) rfl (N' := ["_law_cell", "_law_n"]) (js := [none, some 1]) ⟨rfl, by decide +kernel, rfl, rfl, rfl⟩ (si_seq (sv 0)) (fun s0 H0 fp => ⟨(sg_name (i := 0) (show (["_law_cell", "_law_n"] : List Str).Nodup by decide +kernel) rfl (Or.inl rfl)), sf_nil, (se_tup (sa_cons (se_op ok_mod (se_op ok_div (sv 0) se_int) (sv 1)) (sa_cons (se_op ok_mod (sv 0) se_int) sa_nil)))⟩)
    refine ss_cons ?_ ?_
    · refine s_set (i := 3) ?_ ?_ ?_ ?_
      · exact sc_law.nd
      · exact rfl
      · exact Or.inl rfl
      exact se_t (sn_lst sa_nil)
    refine ss_cons ?_ ?_
    · refine s_for ?_ ?_ ?_ ?_ ?_
      · exact PassesOwn.never
      · exact rfl
      · exact si_range1 rfl T.b_range (sa_cons (sv 1) sa_nil)
      · exact sg_name (i := 4) sc_law.nd rfl (Or.inl rfl)
      refine ss_cons ?_ ?_
      · refine s_set (i := 5) ?_ ?_ ?_ ?_
        · exact sc_law.nd
        · exact rfl
        · exact Or.inl rfl
        exact se_int
      refine ss_cons ?_ ?_
      · refine s_for ?_ ?_ ?_ ?_ ?_
        · exact PassesOwn.never
        · exact rfl
        · exact si_range1 rfl T.b_range (sa_cons se_int sa_nil)
        · exact sg_name (i := 6) sc_law.nd rfl (Or.inl rfl)
        refine ss_one ?_
        refine s_set (i := 5) ?_ ?_ ?_ ?_
        · exact sc_law.nd
        · exact rfl
        · exact Or.inl rfl
        exact se_op ok_plus (sv 5) (se_op ok_timesI (se_ix ok_ix (se_tup (sa_cons se_int (sa_cons se_int (sa_cons se_int (sa_cons se_int (sa_cons se_int (sa_cons se_int sa_nil))))))) (sv 6) (fun _ _ => rfl)) (se_callTy ok_int rfl T.b_int PyProof.Rows.boot_int (sa_cons (se_cmp (ok_inP hr.units) (se_tup (sa_cons (sv 4) (sa_cons (sv 6) sa_nil))) (sv 2) rfl) sa_nil)))
      refine ss_one ?_
      exact s_expr (se_append (sv 3) (sa_cons (sv 5) sa_nil))
    refine ss_cons ?_ ?_
    · refine s_set (i := 7) ?_ ?_ ?_ ?_
      · exact sc_law.nd
      · exact rfl
      · exact Or.inl rfl
      exact se_t (sn_list rfl T.b_list (sa_cons (sv 2) sa_nil))
    refine ss_cons ?_ ?_
    · refine s_set (i := 8) ?_ ?_ ?_ ?_
      · exact sc_law.nd
      · exact rfl
      · exact Or.inl rfl
      exact se_calX C_table_of (hr.mono (by decide)) rfl (sa_cons (sv 1) (sa_cons (sv 7) sa_nil))
    refine ss_cons ?_ ?_
    · refine s_if ?_ ?_ ?_
      · exact st_w (sw_or (st_not (st_truth (se_isinst (by decide) rfl T.b_isinstance (sv 8) (pe_bltn (v := .ty "tuple") rfl T.b_tuple PyProof.Rows.boot_tuple rfl)))) (sw_or (st_cmp (ok_ne hr.units) (sv 8) (se_callTy ok_tuple rfl T.b_tuple PyProof.Rows.boot_tuple (sa_cons (sv 3) sa_nil)) (nomark _)) (sw_or1 (st_cmp (ok_ne hr.units) (sv 7) (sv 2) (nomark _)))))
      · refine ss_one ?_
        refine s_ret ?_
        exact se_bl
      exact ss_nil
    refine ss_cons ?_ ?_
    · exact s_expr (se_append (sv 7) (sa_cons (se_tup (sa_cons se_int (sa_cons se_int sa_nil))) sa_nil))
    refine ss_cons ?_ ?_
    · refine s_set (i := 9) ?_ ?_ ?_ ?_
      · exact sc_law.nd
      · exact rfl
      · exact Or.inl rfl
      exact se_cal C_pairs_of (hr.mono (by decide)) rfl (sa_cons (sv 8) sa_nil)
    refine ss_cons ?_ ?_
    · refine s_if ?_ ?_ ?_
      · exact st_w (sw_or (st_not (st_truth (se_isinst (by decide) rfl T.b_isinstance (sv 9) (pe_bltn (v := .ty "list") rfl T.b_list PyProof.Rows.boot_list rfl)))) (sw_or (st_cmp (ok_ne hr.units) (sv 9) (se_v (sn_sortset hr rfl T.b_sorted rfl T.b_set (sa_cons (sv 2) sa_nil))) (nomark _)) (sw_or1 (st_cmp (ok_ne hr.units) (se_calX C_table_of (hr.mono (by decide)) rfl (sa_cons (sv 1) (sa_cons (sv 9) sa_nil))) (sv 8) (nomark _)))))
      · refine ss_one ?_
        refine s_ret ?_
        exact se_bl
      exact ss_nil
    refine ss_cons ?_ ?_
    · exact s_expr (se_append (sv 9) (sa_cons (se_tup (sa_cons se_int (sa_cons se_int sa_nil))) sa_nil))
    refine ss_cons ?_ ?_
    · refine s_if ?_ ?_ ?_
      · exact st_cmp (ok_ne hr.units) (se_cal C_pairs_of (hr.mono (by decide)) rfl (sa_cons (sv 8) sa_nil)) (se_v (sn_sortset hr rfl T.b_sorted rfl T.b_set (sa_cons (sv 2) sa_nil))) (nomark _)
      · refine ss_one ?_
        refine s_ret ?_
        exact se_bl
      exact ss_nil
    refine ss_cons ?_ ?_
    · refine s_set (i := 10) ?_ ?_ ?_ ?_
      · exact sc_law.nd
      · exact rfl
      · exact Or.inl rfl
      exact se_cal C__law_cell_at (hr.mono (by decide)) rfl (sa_cons (sv 0) (sa_cons se_int sa_nil))
    refine ss_cons ?_ ?_
    · refine s_if ?_ ?_ ?_
      · exact st_cmp ok_gt (se_op ok_mod (sv 10) se_int) se_int (nomark _)
      · refine ss_one ?_
        refine s_ret ?_
        exact se_bl
      exact ss_nil
    refine ss_cons ?_ ?_
    · refine s_set (i := 11) ?_ ?_ ?_ ?_
      · exact sc_law.nd
      · exact rfl
      · exact Or.inl rfl
      exact se_op ok_plus se_int (se_op ok_mod (se_op ok_div (sv 10) se_int) (se_op ok_pow se_int se_int))
    refine ss_cons ?_ ?_
    · refine s_set (i := 12) ?_ ?_ ?_ ?_
      · exact sc_law.nd
      · exact rfl
      · exact Or.inl rfl
      exact se_ix ok_ix (se_v (sn_lst (sa_cons (se_tup (sa_cons (se_op ok_plus (se_op ok_sub (sv 1) se_int) (sv 11)) (sa_cons se_int sa_nil))) (sa_cons (se_tup (sa_cons se_int (sa_cons (se_op ok_plus se_int (sv 11)) sa_nil))) (sa_cons (se_tup (sa_cons (se_op ok_sub se_int (sv 11)) (sa_cons se_int sa_nil))) (sa_cons (se_tup (sa_cons se_int (sa_cons (se_op ok_sub se_int (sv 11)) sa_nil))) sa_nil)))))) (se_op ok_mod (se_op ok_div (sv 10) se_int) se_int) (fun _ _ => rfl)
    refine ss_cons ?_ ?_
    · exact s_expr (se_insert (sv 2) (sa_cons (se_op ok_mod (se_op ok_div (sv 10) se_int) (se_op ok_plus (se_callB ok_len rfl T.b_len PySem.boot_len (sa_cons (sv 2) sa_nil)) se_int)) (sa_cons (sv 12) sa_nil)))
    refine ss_one ?_
    refine s_ret ?_
    exact se_and (se_cal C__law_refused (hr.mono (by decide)) rfl (sa_cons (sv 1) (sa_cons (sv 2) sa_nil))) (se_and (se_cal C__law_refused (hr.mono (by decide)) rfl (sa_cons (sv 1) (sa_cons (se_v (sn_list rfl T.b_list (sa_cons (sv 2) sa_nil))) sa_nil))) (se_one (se_cmp (ok_eq hr.units) (se_calX C_table_of (hr.mono (by decide)) rfl (sa_cons (sv 1) (sa_cons (se_sl (sv 9) so_none (so_some (se_un ok_neg se_int))) sa_nil))) (sv 8) (nomark _))))) imp_law
end
theorem len_s {α : Type} {n : Nat} {us : List α} (h : us.length = n + 1) : ∃ a t, us = a :: t ∧ t.length = n := by
  cases us with
  | nil => cases h
  | cons a t => exact ⟨a, t, rfl, Nat.succ.inj h⟩
theorem len_z {α : Type} {us : List α} (h : us.length = 0) : us = [] := List.length_eq_zero_iff.mp h
theorem ln1 {F : FuncData} {ps : List Str} {us : List Value} (h : us.length = 1) (k : ∀ a, bindArgs F ⟨[a], []⟩ = pure (ps.zip [a])) : bindArgs F ⟨us, []⟩ = pure (ps.zip us) := by
  obtain ⟨a, us1, rfl, h1⟩ := len_s h
  cases len_z h1
  exact k a
theorem ln2 {F : FuncData} {ps : List Str} {us : List Value} (h : us.length = 2) (k : ∀ a b, bindArgs F ⟨[a, b], []⟩ = pure (ps.zip [a, b])) : bindArgs F ⟨us, []⟩ = pure (ps.zip us) := by
  obtain ⟨a, us1, rfl, h1⟩ := len_s h
  obtain ⟨b, us2, rfl, h2⟩ := len_s h1
  cases len_z h2
  exact k a b
theorem all_mk {l : PySem.W.OpenLaw} {w : World} {K : PySem.W.Frag} {h : Heap} {mg : Str → Option Value} {fa a_facts_in a_table_of a_gathered a_pairs_of a__law_cell_at a__law_refused a_law : Addr} (X : K.In h) (G : h.Ns mainGlobals mg) (hfa : mg "law" = some (.ref fa))
    {od_facts_in an_facts_in : Option Addr} {sl_facts_in : Array (Option Value)} {oc_facts_in kV_facts_in dc_facts_in pm_facts_in cd_facts_in ct_facts_in : Value}
    {od_table_of an_table_of : Option Addr} {sl_table_of : Array (Option Value)} {oc_table_of kV_table_of dc_table_of pm_table_of cd_table_of ct_table_of : Value}
    {od_gathered an_gathered : Option Addr} {sl_gathered : Array (Option Value)} {oc_gathered kV_gathered dc_gathered pm_gathered cd_gathered ct_gathered : Value}
    {od_pairs_of an_pairs_of : Option Addr} {sl_pairs_of : Array (Option Value)} {oc_pairs_of kV_pairs_of dc_pairs_of pm_pairs_of cd_pairs_of ct_pairs_of : Value}
    {od__law_cell_at an__law_cell_at : Option Addr} {sl__law_cell_at : Array (Option Value)} {oc__law_cell_at kV__law_cell_at dc__law_cell_at pm__law_cell_at cd__law_cell_at ct__law_cell_at : Value}
    {od__law_refused an__law_refused : Option Addr} {sl__law_refused : Array (Option Value)} {oc__law_refused kV__law_refused dc__law_refused pm__law_refused cd__law_refused ct__law_refused : Value}
    {od_law an_law : Option Addr} {sl_law : Array (Option Value)} {oc_law kV_law dc_law pm_law cd_law ct_law : Value}
    (e_facts_in : PySem.W.nsIn K mainGlobals "facts_in" = some (some (.ref a_facts_in))) (l_facts_in : K.lookup a_facts_in = some ⟨oc_facts_in, od_facts_in, .func (PySem.W.fnOf "facts_in" "facts_in" (defArgs s_facts_in) (defBody s_facts_in) (defScope s_facts_in) .none kV_facts_in dc_facts_in pm_facts_in an_facts_in cd_facts_in ct_facts_in), sl_facts_in⟩) (c_facts_in : PySem.W.codeIn K cd_facts_in "facts_in" = true) (k_facts_in : PySem.W.keepIn K (.ref a_facts_in) = true)
    (e_table_of : PySem.W.nsIn K mainGlobals "table_of" = some (some (.ref a_table_of))) (l_table_of : K.lookup a_table_of = some ⟨oc_table_of, od_table_of, .func (PySem.W.fnOf "table_of" "table_of" (defArgs s_table_of) (defBody s_table_of) (defScope s_table_of) .none kV_table_of dc_table_of pm_table_of an_table_of cd_table_of ct_table_of), sl_table_of⟩) (c_table_of : PySem.W.codeIn K cd_table_of "table_of" = true) (k_table_of : PySem.W.keepIn K (.ref a_table_of) = true)
    (e_gathered : PySem.W.nsIn K mainGlobals "gathered" = some (some (.ref a_gathered))) (l_gathered : K.lookup a_gathered = some ⟨oc_gathered, od_gathered, .func (PySem.W.fnOf "gathered" "gathered" (defArgs s_gathered) (defBody s_gathered) (defScope s_gathered) .none kV_gathered dc_gathered pm_gathered an_gathered cd_gathered ct_gathered), sl_gathered⟩) (c_gathered : PySem.W.codeIn K cd_gathered "gathered" = true) (k_gathered : PySem.W.keepIn K (.ref a_gathered) = true)
    (e_pairs_of : PySem.W.nsIn K mainGlobals "pairs_of" = some (some (.ref a_pairs_of))) (l_pairs_of : K.lookup a_pairs_of = some ⟨oc_pairs_of, od_pairs_of, .func (PySem.W.fnOf "pairs_of" "pairs_of" (defArgs s_pairs_of) (defBody s_pairs_of) (defScope s_pairs_of) .none kV_pairs_of dc_pairs_of pm_pairs_of an_pairs_of cd_pairs_of ct_pairs_of), sl_pairs_of⟩) (c_pairs_of : PySem.W.codeIn K cd_pairs_of "pairs_of" = true) (k_pairs_of : PySem.W.keepIn K (.ref a_pairs_of) = true)
    (e__law_cell_at : PySem.W.nsIn K mainGlobals "_law_cell_at" = some (some (.ref a__law_cell_at))) (l__law_cell_at : K.lookup a__law_cell_at = some ⟨oc__law_cell_at, od__law_cell_at, .func (PySem.W.fnOf "_law_cell_at" "_law_cell_at" (defArgs s__law_cell_at) (defBody s__law_cell_at) (defScope s__law_cell_at) .none kV__law_cell_at dc__law_cell_at pm__law_cell_at an__law_cell_at cd__law_cell_at ct__law_cell_at), sl__law_cell_at⟩) (c__law_cell_at : PySem.W.codeIn K cd__law_cell_at "_law_cell_at" = true) (k__law_cell_at : PySem.W.keepIn K (.ref a__law_cell_at) = true)
    (e__law_refused : PySem.W.nsIn K mainGlobals "_law_refused" = some (some (.ref a__law_refused))) (l__law_refused : K.lookup a__law_refused = some ⟨oc__law_refused, od__law_refused, .func (PySem.W.fnOf "_law_refused" "_law_refused" (defArgs s__law_refused) (defBody s__law_refused) (defScope s__law_refused) .none kV__law_refused dc__law_refused pm__law_refused an__law_refused cd__law_refused ct__law_refused), sl__law_refused⟩) (c__law_refused : PySem.W.codeIn K cd__law_refused "_law_refused" = true) (k__law_refused : PySem.W.keepIn K (.ref a__law_refused) = true)
    (e_law : PySem.W.nsIn K mainGlobals "law" = some (some (.ref a_law))) (l_law : K.lookup a_law = some ⟨oc_law, od_law, .func (PySem.W.fnOf "law" "law" (defArgs s_law) (defBody s_law) (defScope s_law) .none kV_law dc_law pm_law an_law cd_law ct_law), sl_law⟩) (c_law : PySem.W.codeIn K cd_law "law" = true) (k_law : PySem.W.keepIn K (.ref a_law) = true)
    (z_ValueError : PySem.W.nsIn K mainGlobals "ValueError" = some none)
    (z_enumerate : PySem.W.nsIn K mainGlobals "enumerate" = some none)
    (z_int : PySem.W.nsIn K mainGlobals "int" = some none)
    (z_isinstance : PySem.W.nsIn K mainGlobals "isinstance" = some none)
    (z_len : PySem.W.nsIn K mainGlobals "len" = some none)
    (z_list : PySem.W.nsIn K mainGlobals "list" = some none)
    (z_range : PySem.W.nsIn K mainGlobals "range" = some none)
    (z_set : PySem.W.nsIn K mainGlobals "set" = some none)
    (z_sorted : PySem.W.nsIn K mainGlobals "sorted" = some none)
    (z_tuple : PySem.W.nsIn K mainGlobals "tuple" = some none)
    {tk_MOST_FACTS : Tok} (y_MOST_FACTS : PySem.W.nsIn K mainGlobals "MOST_FACTS" = some (some (.int 6 tk_MOST_FACTS)))
    {C_NoTable : Addr} (e_NoTable : PySem.W.nsIn K mainGlobals "NoTable" = some (some (.ref C_NoTable)))
    {C_CallError : Addr} (e_CallError : PySem.W.nsIn K mainGlobals "CallError" = some (some (.ref C_CallError)))
    {C_NoChart : Addr} (e_NoChart : PySem.W.nsIn K mainGlobals "NoChart" = some (some (.ref C_NoChart)))
    {C_NoName : Addr} (e_NoName : PySem.W.nsIn K mainGlobals "NoName" = some (some (.ref C_NoName)))
    {C_NoPaper : Addr} (e_NoPaper : PySem.W.nsIn K mainGlobals "NoPaper" = some (some (.ref C_NoPaper)))
    {C_NoText : Addr} (e_NoText : PySem.W.nsIn K mainGlobals "NoText" = some (some (.ref C_NoText)))
    {C_NoWay : Addr} (e_NoWay : PySem.W.nsIn K mainGlobals "NoWay" = some (some (.ref C_NoWay)))
    {C_TooLong : Addr} (e_TooLong : PySem.W.nsIn K mainGlobals "TooLong" = some (some (.ref C_TooLong)))
    {xnm xq : Str} {xN : Addr} {xbs xbm xsub : List Value} {xsn : List Str} {xab : Bool} {xcol : Option Bool} {xdd : Option Addr} {x0 x1 x2 x3 x5 : Option Value}
    (l_NoTable : K.lookup C_NoTable = some (excClassObj xnm xq C_NoTable xN xbs xbm true xsn xsub xab xcol xdd x0 x1 x2 x3 x5 "ValueError.__new__")) (t_NoTable : PySem.W.tailIn K bmV xbm = true) (o_NoTable : PySem.W.nsOkIn K xN = true) (i_NoTable : PySem.W.nsIn K xN "__init__" = some none)
    (ga_NoTable : PySem.W.findIn K (.ref C_NoTable) "__getattribute__" = some (some (.builtin "BaseException.__getattribute__"))) (gg_NoTable : PySem.W.findIn K (.ref C_NoTable) "__getattr__" = some none) (cl_NoTable : PySem.W.findIn K (.ref C_NoTable) "__class__" = some (some (.builtin "object.__class__"))) (cg_NoTable : PySem.W.specialIn K (.builtin "object.__class__") "__get__" = some (some (.builtin "getset_descriptor.__get__"))) (ct_NoTable : PySem.W.takesIn K (.builtin "object.__class__") = some true) (mo_NoTable : PySem.W.mroIn K C_NoTable (.type "object") = some true)
    (m_CallError : PySem.W.exmOne K (.ref C_NoTable) (.ref C_CallError) = some true)
    (q_NoChart : PySem.W.kitOne K (.ref C_NoTable) (.ref C_NoChart) = some false)
    (q_NoName : PySem.W.kitOne K (.ref C_NoTable) (.ref C_NoName) = some false)
    (q_NoPaper : PySem.W.kitOne K (.ref C_NoTable) (.ref C_NoPaper) = some false)
    (q_NoTable : PySem.W.kitOne K (.ref C_NoTable) (.ref C_NoTable) = some true)
    (q_NoText : PySem.W.kitOne K (.ref C_NoTable) (.ref C_NoText) = some false)
    (q_NoWay : PySem.W.kitOne K (.ref C_NoTable) (.ref C_NoWay) = some false)
    (q_TooLong : PySem.W.kitOne K (.ref C_NoTable) (.ref C_TooLong) = some false)
    (q_ValueError : PySem.W.kitOne K (.ref C_NoTable) (.type "ValueError") = some true)
    : ∃ fd : FuncData, (∀ (s : Shared) (v : Value), BindsTo s fd ⟨[v], []⟩ [("_law_script", v)]) ∧ ∀ base : Heap, K.In base → base.Ns mainGlobals mg → FnOk l.prog w K mg base CX0 4 fa fd ["_law_script"] (spD K 1 S_law) := by
  have e := hfa.symm.trans (PySem.W.mg_of X G e_law)
  cases e
  have X0 : XCls0 K C_NoTable := ⟨⟨_, _, _, _, _, _, _, _, _, _, _, _, _, _, _, l_NoTable, t_NoTable, o_NoTable, i_NoTable⟩⟩
  have XI : XIs K C_NoTable := ⟨⟨_, _, _, _, _, _, _, _, _, _, _, _, _, _, _, l_NoTable, t_NoTable⟩, ga_NoTable, gg_NoTable, cl_NoTable, cg_NoTable, ct_NoTable, mo_NoTable⟩
  have T : Txt l.prog w K mg := ⟨PySem.W.mg_none_of X G z_ValueError, PySem.W.mg_none_of X G z_enumerate, PySem.W.mg_none_of X G z_int, PySem.W.mg_none_of X G z_isinstance, PySem.W.mg_none_of X G z_len, PySem.W.mg_none_of X G z_list, PySem.W.mg_none_of X G z_range, PySem.W.mg_none_of X G z_set, PySem.W.mg_none_of X G z_sorted, PySem.W.mg_none_of X G z_tuple, ⟨_, PySem.W.mg_of X G y_MOST_FACTS⟩, ⟨_, PySem.W.mg_of X G e_CallError, fun C h => by rw [e_NoTable] at h; cases h; exact m_CallError⟩, ⟨_, e_NoTable, XI⟩, ⟨_, PySem.W.mg_of X G e_NoChart, ⟨_, e_NoTable, q_NoChart⟩⟩, ⟨_, PySem.W.mg_of X G e_NoName, ⟨_, e_NoTable, q_NoName⟩⟩, ⟨_, PySem.W.mg_of X G e_NoPaper, ⟨_, e_NoTable, q_NoPaper⟩⟩, ⟨_, PySem.W.mg_of X G e_NoTable, ⟨_, e_NoTable, q_NoTable⟩⟩, ⟨_, PySem.W.mg_of X G e_NoText, ⟨_, e_NoTable, q_NoText⟩⟩, ⟨_, PySem.W.mg_of X G e_NoWay, ⟨_, e_NoTable, q_NoWay⟩⟩, ⟨_, PySem.W.mg_of X G e_TooLong, ⟨_, e_NoTable, q_TooLong⟩⟩, ⟨_, e_NoTable, q_ValueError⟩⟩
  have F_facts_in := fun_mk (st := s_facts_in) l_facts_in c_facts_in k_facts_in
  have F_table_of := fun_mk (st := s_table_of) l_table_of c_table_of k_table_of
  have F_gathered := fun_mk (st := s_gathered) l_gathered c_gathered k_gathered
  have F_pairs_of := fun_mk (st := s_pairs_of) l_pairs_of c_pairs_of k_pairs_of
  have F__law_cell_at := fun_mk (st := s__law_cell_at) l__law_cell_at c__law_cell_at k__law_cell_at
  have F__law_refused := fun_mk (st := s__law_refused) l__law_refused c__law_refused k__law_refused
  have F_law := fun_mk (st := s_law) l_law c_law k_law
  have b_facts_in : Binds K (PySem.W.fnOf "facts_in" "facts_in" (defArgs s_facts_in) (defBody s_facts_in) (defScope s_facts_in) .none kV_facts_in dc_facts_in pm_facts_in an_facts_in cd_facts_in ct_facts_in) ["mask"] [] := .all fun us hl => ln1 hl fun _ => rfl
  have b_table_of : Binds K (PySem.W.fnOf "table_of" "table_of" (defArgs s_table_of) (defBody s_table_of) (defScope s_table_of) .none kV_table_of dc_table_of pm_table_of an_table_of cd_table_of ct_table_of) ["n", "pairs"] [] := .all fun us hl => ln2 hl fun _ _ => rfl
  have b_gathered : Binds K (PySem.W.fnOf "gathered" "gathered" (defArgs s_gathered) (defBody s_gathered) (defScope s_gathered) .none kV_gathered dc_gathered pm_gathered an_gathered cd_gathered ct_gathered) ["n", "pairs"] [] := .all fun us hl => ln2 hl fun _ _ => rfl
  have b_pairs_of : Binds K (PySem.W.fnOf "pairs_of" "pairs_of" (defArgs s_pairs_of) (defBody s_pairs_of) (defScope s_pairs_of) .none kV_pairs_of dc_pairs_of pm_pairs_of an_pairs_of cd_pairs_of ct_pairs_of) ["table"] [] := .all fun us hl => ln1 hl fun _ => rfl
  have b__law_cell_at : Binds K (PySem.W.fnOf "_law_cell_at" "_law_cell_at" (defArgs s__law_cell_at) (defBody s__law_cell_at) (defScope s__law_cell_at) .none kV__law_cell_at dc__law_cell_at pm__law_cell_at an__law_cell_at cd__law_cell_at ct__law_cell_at) ["_law_script", "_law_k"] [] := .all fun us hl => ln2 hl fun _ _ => rfl
  have b__law_refused : Binds K (PySem.W.fnOf "_law_refused" "_law_refused" (defArgs s__law_refused) (defBody s__law_refused) (defScope s__law_refused) .none kV__law_refused dc__law_refused pm__law_refused an__law_refused cd__law_refused ct__law_refused) ["_law_n", "_law_pairs"] [] := .all fun us hl => ln2 hl fun _ _ => rfl
  refine ⟨PySem.W.fnOf "law" "law" (defArgs s_law) (defBody s_law) (defScope s_law) .none kV_law dc_law pm_law an_law cd_law ct_law, fun s v => .of_eq rfl, fun base _ _ => ?_⟩
  have R_NoTable : RaiseX0 K mg "NoTable" := ⟨_, PySem.W.mg_of X G e_NoTable, e_NoTable, X0⟩
  have C_facts_in : Cal l.prog w K mg base 1 "facts_in" ["mask"] (spD K 1 S_facts_in) := ⟨a_facts_in, _, ok_facts_in F_facts_in T , PySem.W.mg_of X G e_facts_in, k_facts_in, b_facts_in⟩
  have C_gathered : Cal l.prog w K mg base 1 "gathered" ["n", "pairs"] (spD K 2 S_gathered) := ⟨a_gathered, _, ok_gathered F_gathered T , PySem.W.mg_of X G e_gathered, k_gathered, b_gathered⟩
  have C__law_cell_at : Cal l.prog w K mg base 1 "_law_cell_at" ["_law_script", "_law_k"] (spD K 2 S__law_cell_at) := ⟨a__law_cell_at, _, ok__law_cell_at F__law_cell_at T , PySem.W.mg_of X G e__law_cell_at, k__law_cell_at, b__law_cell_at⟩
  have C_table_of : CalX l.prog w K mg base 2 "table_of" ["n", "pairs"] (spX K 2 S_table_of) := ⟨a_table_of, _, ok_table_of F_table_of T R_NoTable C_gathered, PySem.W.mg_of X G e_table_of, k_table_of, b_table_of⟩
  have C_pairs_of : Cal l.prog w K mg base 2 "pairs_of" ["table"] (spD K 1 S_pairs_of) := ⟨a_pairs_of, _, ok_pairs_of F_pairs_of T C_facts_in, PySem.W.mg_of X G e_pairs_of, k_pairs_of, b_pairs_of⟩
  have C__law_refused : Cal l.prog w K mg base 3 "_law_refused" ["_law_n", "_law_pairs"] (spD K 2 S__law_refused) := ⟨a__law_refused, _, ok__law_refused F__law_refused T C_table_of, PySem.W.mg_of X G e__law_refused, k__law_refused, b__law_refused⟩
  exact ok_law F_law T C__law_cell_at C_table_of C_pairs_of C__law_refused
end K12
open PySem PySem.W PyProof.Rows
set_option maxRecDepth 100000 in
set_option maxHeartbeats 0 in
theorem PySem.Challenge.cw_callmatch_k12_tables_of_pairs_holds : PySem.Challenge.rw_callmatch_k12_tables_of_pairs.Holds := by
  w_on; o_law; k_head; (case hw => w_witness2)
  k_fill
  refine DL.walkD (l := PySem.Challenge.rw_callmatch_k12_tables_of_pairs) (n := 63) (k := 4) (S := K12.S_law) (x := "_law_script") rfl (by decide) rfl ⟨rfl, by decide, by decide⟩ (fun w h Y => PySem.W.kIn_of Y) ?F K12.law_true
  case F =>
    intro w mg fa h KX G hmg
    refine' K12.all_mk KX G hmg ?e_facts_in ?l_facts_in ?c_facts_in ?k_facts_in ?e_table_of ?l_table_of ?c_table_of ?k_table_of ?e_gathered ?l_gathered ?c_gathered ?k_gathered ?e_pairs_of ?l_pairs_of ?c_pairs_of ?k_pairs_of ?e__law_cell_at ?l__law_cell_at ?c__law_cell_at ?k__law_cell_at ?e__law_refused ?l__law_refused ?c__law_refused ?k__law_refused ?e_law ?l_law ?c_law ?k_law ?z_ValueError ?z_enumerate ?z_int ?z_isinstance ?z_len ?z_list ?z_range ?z_set ?z_sorted ?z_tuple ?y_MOST_FACTS ?e_NoTable ?e_CallError ?e_NoChart ?e_NoName ?e_NoPaper ?e_NoText ?e_NoWay ?e_TooLong ?l_NoTable ?t_NoTable ?o_NoTable ?i_NoTable ?ga_NoTable ?gg_NoTable ?cl_NoTable ?cg_NoTable ?ct_NoTable ?mo_NoTable ?m_CallError ?q_NoChart ?q_NoName ?q_NoPaper ?q_NoTable ?q_NoText ?q_NoWay ?q_TooLong ?q_ValueError
    (case e_facts_in => k_is)
    (case l_facts_in => k_is)
    (case c_facts_in => k_is)
    (case k_facts_in => k_is)
    (case e_table_of => k_is)
    (case l_table_of => k_is)
    (case c_table_of => k_is)
    (case k_table_of => k_is)
    (case e_gathered => k_is)
    (case l_gathered => k_is)
    (case c_gathered => k_is)
    (case k_gathered => k_is)
    (case e_pairs_of => k_is)
    (case l_pairs_of => k_is)
    (case c_pairs_of => k_is)
    (case k_pairs_of => k_is)
    (case e__law_cell_at => k_is)
    (case l__law_cell_at => k_is)
    (case c__law_cell_at => k_is)
    (case k__law_cell_at => k_is)
    (case e__law_refused => k_is)
    (case l__law_refused => k_is)
    (case c__law_refused => k_is)
    (case k__law_refused => k_is)
    (case e_law => k_is)
    (case l_law => k_is)
    (case c_law => k_is)
    (case k_law => k_is)
    (case z_ValueError => k_is)
    (case z_enumerate => k_is)
    (case z_int => k_is)
    (case z_isinstance => k_is)
    (case z_len => k_is)
    (case z_list => k_is)
    (case z_range => k_is)
    (case z_set => k_is)
    (case z_sorted => k_is)
    (case z_tuple => k_is)
    (case y_MOST_FACTS => k_is)
    (case e_NoTable => k_is)
    (case e_CallError => k_is)
    (case e_NoChart => k_is)
    (case e_NoName => k_is)
    (case e_NoPaper => k_is)
    (case e_NoText => k_is)
    (case e_NoWay => k_is)
    (case e_TooLong => k_is)
    (case l_NoTable => k_is)
    (case t_NoTable => kernel_rfl)
    (case o_NoTable => kernel_rfl)
    (case i_NoTable => k_is)
    (case ga_NoTable => k_is)
    (case gg_NoTable => k_is)
    (case cl_NoTable => k_is)
    (case cg_NoTable => k_is)
    (case ct_NoTable => k_is)
    (case mo_NoTable => k_is)
    (case m_CallError => kernel_rfl)
    (case q_NoChart => kernel_rfl)
    (case q_NoName => kernel_rfl)
    (case q_NoPaper => kernel_rfl)
    (case q_NoTable => kernel_rfl)
    (case q_NoText => kernel_rfl)
    (case q_NoWay => kernel_rfl)
    (case q_TooLong => kernel_rfl)
    (case q_ValueError => kernel_rfl)
#print axioms PySem.Challenge.cw_callmatch_k12_tables_of_pairs_holds
