import PyProof.Rows.All
import Wide.All
import OpenK.AllK
import Wide.FinOn
import Lean
import PyProof.EqAt
import PyProof.EqKinds
import PyProof.TupleCall
import PyProof.EqLayable
import PyProof.P3In
import PyProof.Draws
import PyProof.EnumMake
import PyProof.CompFree
import PyProof.CompUse
import KE.KRevIter
import PyProof.DictIter
import PyProof.ZipIter
import PyProof.ListMulRoad
import PyProof.ConsumeWalk
import PyProof.AutoListH
import PyProof.P3Eq
import PyProof.WalkInts
import PyProof.Rows.RuleIs
import PyProof.Rows.SeqMore
import PyProof.RulesAs
import PyProof.StationsW
import PyProof.ExcClass3
import PyProof.ExcInit
import PyProof.InstStoreFacts
import PyProof.ExcBaseAll.ValueError
import OpenK.KOwn
import PyProof.ExcArgsOwn
import PyProof.ExcAttrAll.ValueError
import KE.KTryMore
import PyProof.Rows.CatchBare
import PySem.Challenge.RW_callmatch_k21_charts_looked_at
set_option Elab.async false
set_option linter.all false
set_option maxRecDepth 100000
set_option genSizeOfSpec false
set_option compiler.extract_closed false
set_option maxHeartbeats 4000000
local macro_rules | `(tactic| trivial) => `(tactic| first | exact .inl rfl | exact .inr (.inl rfl) | exact .inr (.inr rfl) | exact .inr rfl | assumption)
namespace L2
open PySem PySem.Spec PyProof.Rows
noncomputable abbrev Key := Sum Int Str
noncomputable def keyIs : Key → Value → Bool
  | .inl k, v => Value.isInt k v
  | .inr x, v => Value.isStrOf x v
noncomputable def keyH (w : World) : Key → Int
  | .inl k => hashInt k
  | .inr x => hashStr w x
theorem keyIs_shape : ∀ {k : Key} {v : Value}, keyIs k v = true → (∃ i t, k = Sum.inl i ∧ v = Value.int i t) ∨ (∃ x t, k = Sum.inr x ∧ v = Value.str x t)
  | .inl i, v, h => by
    obtain ⟨t, e⟩ := Value.isInt_shape (k := i) (v := v) h
    exact .inl ⟨i, t, rfl, e⟩
  | .inr x, v, h => by
    obtain ⟨t, e⟩ := Value.isStrOf_shape (x := x) (v := v) h
    exact .inr ⟨x, t, rfl, e⟩
theorem key_ll (a b : Int) : decide ((Sum.inl a : Key) = Sum.inl b) = (a == b) := by
  by_cases e : a = b
  · subst e; simp
  · have h : ¬ (Sum.inl a : Key) = Sum.inl b := fun q => e (Sum.inl.inj q)
    rw [decide_eq_false h]
    exact (beq_eq_false_iff_ne.mpr e).symm
theorem key_rr (a b : Str) : decide ((Sum.inr a : Key) = Sum.inr b) = decide (a = b) := by
  by_cases e : a = b
  · subst e; simp
  · have h : ¬ (Sum.inr a : Key) = Sum.inr b := fun q => e (Sum.inr.inj q)
    rw [decide_eq_false h, decide_eq_false e]
theorem key_lr (a : Int) (b : Str) : decide ((Sum.inl a : Key) = Sum.inr b) = false := decide_eq_false (fun q => nomatch q)
theorem key_rl (a : Str) (b : Int) : decide ((Sum.inr a : Key) = Sum.inl b) = false := decide_eq_false (fun q => nomatch q)
noncomputable def mixKind (prog : Program) (w : World) : PySem.KeyKind prog w Key where
  is := keyIs
  hash := keyH w
  inj := fun v a b ha hb => by
    rcases keyIs_shape ha with ⟨i, t, rfl, rfl⟩ | ⟨x, t, rfl, rfl⟩
    · rcases keyIs_shape hb with ⟨j, u, rfl, e⟩ | ⟨y, u, rfl, e⟩
      · injection e with e1 _; rw [e1]
      · exact nomatch e
    · rcases keyIs_shape hb with ⟨j, u, rfl, e⟩ | ⟨y, u, rfl, e⟩
      · exact nomatch e
      · injection e with e1 _; rw [e1]
  byValue := fun k v h => by
    rcases keyIs_shape h with ⟨i, t, rfl, rfl⟩ | ⟨x, t, rfl, rfl⟩ <;> rfl
  pyHash := fun hv h => by
    rcases keyIs_shape hv with ⟨i, t, rfl, rfl⟩ | ⟨x, t, rfl, rfl⟩
    · exact wpAny_pyHash_int h
    · exact wpAny_pyHash_str h
  eqBool := fun hu hv h => by
    rcases keyIs_shape hu with ⟨i, t, rfl, rfl⟩ | ⟨x, t, rfl, rfl⟩
    · rcases keyIs_shape hv with ⟨j, u, rfl, rfl⟩ | ⟨y, u, rfl, rfl⟩
      · rw [key_ll] at h; exact wpAny_eqBool_int h
      · rw [key_lr] at h; exact SeqAt.EqAt.int_str i t y u _ _ _ _ h
    · rcases keyIs_shape hv with ⟨j, u, rfl, rfl⟩ | ⟨y, u, rfl, rfl⟩
      · rw [key_rl] at h; exact SeqAt.EqAt.str_int x t j u _ _ _ _ h
      · rw [key_rr] at h; exact wpAny_eqBool_str h
  «strs» := fun k x t v h => by
    rcases keyIs_shape h with ⟨i, u, rfl, e⟩ | ⟨y, u, rfl, e⟩
    · exact nomatch e
    · injection e with e1 _
      subst e1
      cases v <;> rfl
end L2
namespace L2
open PySem PySem.Spec PyProof.Rows
inductive V where
  | non | bl (b : Bool) | int (i : Int) | str (x : Str) | byt (b : Array UInt8) | flt (b : UInt64) | ref (a : Addr) | ty (n : String)
  deriving DecidableEq
noncomputable def RelV : V → Value → Prop
  | .non, u => u = Value.none
  | .bl b, u => u = Value.bool b
  | .int i, u => ∃ t, u = Value.int i t
  | .str x, u => ∃ t, u = Value.str x t
  | .byt b, u => ∃ t, u = Value.bytes b t
  | .flt b, u => ∃ t, u = Value.float b t
  | .ref a, u => u = Value.ref a
  | .ty n, u => u = Value.type n
noncomputable abbrev Vals : List V → List Value → Prop := Paired RelV
theorem Vals.length {xs : List V} {us : List Value} (r : Vals xs us) : xs.length = us.length := Paired.length r
theorem Vals.get : ∀ {xs : List V} {us : List Value} {i : Nat} {x : V}, Vals xs us → xs[i]? = some x → ∃ u, us[i]? = some u ∧ RelV x u
  | _, _, _, _, .nil, e => by simp at e
  | _, _, 0, _, .cons r _, e => by simp at e; subst e; exact ⟨_, rfl, r⟩
  | _, _, i + 1, x, .cons _ t, e => by
    obtain ⟨u, h1, h2⟩ := Vals.get (i := i) (x := x) t (by simpa using e)
    exact ⟨u, by simpa using h1, h2⟩
theorem Vals.set {x : V} {u : Value} (r : RelV x u) : ∀ {xs : List V} {us : List Value} (i : Nat), Vals xs us → Vals (xs.set i x) (us.set i u)
  | _, _, _, .nil => .nil
  | _, _, 0, .cons _ t => .cons r t
  | _, _, i + 1, .cons q t => .cons q (Vals.set r i t)
theorem Vals.append : ∀ {xs ys : List V} {us ws : List Value}, Vals xs us → Vals ys ws → Vals (xs ++ ys) (us ++ ws)
  | _, _, _, _, .nil, s => s
  | _, _, _, _, .cons r t, s => .cons r (Vals.append t s)
theorem Vals.take : ∀ {xs : List V} {us : List Value} (n : Nat), Vals xs us → Vals (xs.take n) (us.take n)
  | _, _, 0, _ => .nil
  | _, _, _ + 1, .nil => .nil
  | _, _, n + 1, .cons r t => .cons r (Vals.take n t)
theorem Vals.drop : ∀ {xs : List V} {us : List Value} (n : Nat), Vals xs us → Vals (xs.drop n) (us.drop n)
  | _, _, 0, r => r
  | _, _, _ + 1, .nil => .nil
  | _, _, n + 1, .cons _ t => Vals.drop n t
noncomputable def RelO : Option V → Option Value → Prop
  | some v, some u => RelV v u
  | none, none => True
  | _, _ => False
noncomputable def KV {κ : Type} : List (κ × V) → List (κ × Value) → Prop := Paired fun (p : κ × V) (q : κ × Value) => p.1 = q.1 ∧ RelV p.2 q.2
noncomputable def kV : Key → V
  | .inl i => .int i
  | .inr x => .str x
inductive HO where
  | lst (xs : List V)
  | tup (xs : List V)
  | dK (kvs : List (Key × V)) | dT (kvs : List (List Key × V))
  | set (S : Int → Bool) (n : Nat)
  | ins (C dx : Addr) (fs : List (Str × V))
  | own (x : Addr)
  | xd (fs : List (Str × V))
  | met (f x : Addr)
  | rng (lo hi : Int)
  | frz (o : Obj) (u : HO)
  | tbl (ps : Array Value)
  | ext (φ : Heap → Prop)
noncomputable abbrev Hp := Addr → Option HO
noncomputable def upd (H : Hp) (a : Addr) (o : HO) : Hp := fun b => if b = a then some o else H b
theorem upd_same {H : Hp} {a : Addr} {o : HO} : upd H a o a = some o := by unfold upd; rw [if_pos rfl]
theorem upd_ne {H : Hp} {a b : Addr} {o : HO} (h : b ≠ a) : upd H a o b = H b := by unfold upd; rw [if_neg h]
theorem upd_upd {H : Hp} {a : Addr} {o u : HO} : upd (upd H a o) a u = upd H a u := by
  funext b; unfold upd; split <;> rfl
theorem ne_of_none {H : Hp} {a b : Addr} {o : HO} (h : H a = some o) (h' : H b = none) : a ≠ b := by
  intro e; subst e; rw [h] at h'; cases h'
section
variable (P : Program) (w : World)
noncomputable def ObjOk (H : Hp) (h : Heap) (a : Addr) : HO → Prop
  | .lst xs => xs.length ≤ sizeLine ∧ ∃ (its : List Value) (n : Nat), Vals xs its ∧ h.get? a = some { cls := .type "list", data := .seq its.toArray n }
  | .tup xs => xs.length ≤ sizeLine ∧ ∃ its : List Value, Vals xs its ∧ IsTup h a its.toArray
  | .dK kvs => kvs.length ≤ sizeLine ∧ (a == sysModules) = false ∧ ∃ vs, KV kvs vs ∧ h.DictOf (mixKind P w) a vs
  | .dT kvs => kvs.length ≤ sizeLine ∧ (a == sysModules) = false ∧ ∃ xs : List (List Key × Addr × Value),
      Paired (fun (p : List Key × V) (q : List Key × Addr × Value) => p.1 = q.1 ∧ H q.2.1 = some (.tup (p.1.map kV)) ∧ RelV p.2 q.2.2) kvs xs ∧
      ∃ o es ep, h.get? a = some o ∧ o.ExactDict ∧ o.data = .dict es ep ∧ es.toList = xs.map (entryOfKey (tupleKind (mixKind P w))) ∧ (xs.map (·.1)).Nodup
  | .set S n => h.SetOf (intKind P w) a S n
  | .ins C dx fs => H dx = some (.own a) ∧ fs.length ≤ 1000 ∧ dx ≠ a ∧ h.get? a = some (PySem.W.instObj C dx) ∧
      ∃ mA, h.Ns1 dx mA ∧ (∀ f, RelO (fs.lookup f) (mA f)) ∧ PySem.Within mA (fs.map (·.1))
  | .own _ => ∃ o, h.get? a = some o
  | .xd fs => ∃ mA, h.Ns1 a mA ∧ ∀ f, RelO (fs.lookup f) (mA f)
  | .rng lo hi => ∃ t u v, h.get? a = some { cls := .type "range", data := .fields #[.int lo t, .int hi u, .int 1 v] }
  | .frz o u => h.get? a = some o ∧ ObjOk H h a u
  | .tbl ps => h.get? a = some { cls := .none, data := .fields ps }
  | .met f x => h.get? a = some (PySem.W.methodObj (.ref f) (.ref x))
  | .ext φ => φ h ∧ (∃ o, h.get? a = some o) ∧ ∀ h1 h2 : Heap, φ h1 → (∀ o, h1.get? a = some o → h2.get? a = some o) → φ h2
noncomputable def HOk (H : Hp) (h : Heap) : Prop := ∀ a o, H a = some o → ObjOk P w H h a o
end
section
variable {P : Program} {w : World} {H H' : Hp} {h h' : Heap} {a : Addr} {o : HO}
theorem ObjOk.lt (x : ObjOk P w H h a o) : a < h.objs.size := by
  cases o with
  | lst xs => obtain ⟨_, _, _, _, e⟩ := x; exact Heap.lt_size e
  | tup xs => obtain ⟨_, _, _, p⟩ := x; exact p.lt
  | dK kvs => obtain ⟨_, _, _, _, o, _, _, e, _⟩ := x; exact Heap.lt_size e
  | dT kvs => obtain ⟨_, _, _, _, o, _, _, e, _⟩ := x; exact Heap.lt_size e
  | set S n => obtain ⟨o, _, _, _, e, _⟩ := x; exact Heap.lt_size e
  | ins C dx fs => obtain ⟨_, _, _, e, _⟩ := x; exact Heap.lt_size e
  | own y => obtain ⟨_, e⟩ := x; exact Heap.lt_size e
  | xd fs => obtain ⟨_, ⟨_, _, _, e, _⟩, _⟩ := x; exact Heap.lt_size e
  | rng lo hi => obtain ⟨_, _, _, e⟩ := x; exact Heap.lt_size e
  | frz ob u => obtain ⟨e, _⟩ := x; exact Heap.lt_size e
  | tbl ps => exact Heap.lt_size (show h.get? a = some _ from x)
  | met f y => exact Heap.lt_size (show h.get? a = some _ from x)
  | ext φ => obtain ⟨_, ⟨_, e⟩, _⟩ := x; exact Heap.lt_size e
theorem Paired.mapP {α β : Type} {F G : α → β → Prop} : ∀ {l₁ : List α} {l₂ : List β}, Paired F l₁ l₂ → (∀ a b, F a b → G a b) → Paired G l₁ l₂
  | _, _, .nil, _ => .nil
  | _, _, .cons r t, f => .cons (f _ _ r) (Paired.mapP t f)
theorem ObjOk.stay (x : ObjOk P w H h a o) (k : ∀ b u, (b = a ∨ H b = some (.own a)) → h.get? b = some u → h'.get? b = some u)
    (ho : ∀ b, H b = some (.own a) → H' b = some (.own a)) (ht : ∀ b xs, H b = some (.tup xs) → H' b = some (.tup xs)) : ObjOk P w H' h' a o := by
  induction o with
  | lst xs => obtain ⟨z, its, n, r, e⟩ := x; exact ⟨z, its, n, r, k _ _ (.inl rfl) e⟩
  | tup xs => obtain ⟨z, its, r, ob, e, c⟩ := x; exact ⟨z, its, r, ob, k _ _ (.inl rfl) e, c⟩
  | dK kvs => obtain ⟨z, y, vs, r, ob, es, ep, e, c⟩ := x; exact ⟨z, y, vs, r, ob, es, ep, k _ _ (.inl rfl) e, c⟩
  | dT kvs =>
    obtain ⟨z, y, xs, r, ob, es, ep, e, c⟩ := x
    exact ⟨z, y, xs, Paired.mapP r fun p q z => ⟨z.1, ht _ _ z.2.1, z.2.2⟩, ob, es, ep, k _ _ (.inl rfl) e, c⟩
  | set S n => obtain ⟨ob, es, ep, t, e, c⟩ := x; exact ⟨ob, es, ep, t, k _ _ (.inl rfl) e, c⟩
  | ins C dx fs =>
    obtain ⟨d, z, ne, e, mA, ⟨od, es, ep, e2, c⟩, r⟩ := x
    exact ⟨ho _ d, z, ne, k _ _ (.inl rfl) e, mA, ⟨od, es, ep, k _ _ (.inr d) e2, c⟩, r⟩
  | own y => obtain ⟨ob, e⟩ := x; exact ⟨ob, k _ _ (.inl rfl) e⟩
  | xd fs => obtain ⟨mA, ⟨od, es, ep, e, c⟩, r⟩ := x; exact ⟨mA, ⟨od, es, ep, k _ _ (.inl rfl) e, c⟩, r⟩
  | rng lo hi => obtain ⟨t, u, v, e⟩ := x; exact ⟨t, u, v, k _ _ (.inl rfl) e⟩
  | frz ob u ih => obtain ⟨e, q⟩ := x; exact ⟨k _ _ (.inl rfl) e, ih q⟩
  | tbl ps =>
    have e : h.get? a = some { cls := .none, data := .fields ps } := x
    show h'.get? a = some { cls := .none, data := .fields ps }
    exact k a _ (.inl rfl) e
  | met f y =>
    have e : h.get? a = some (PySem.W.methodObj (.ref f) (.ref y)) := x
    show h'.get? a = some (PySem.W.methodObj (.ref f) (.ref y))
    exact k a _ (.inl rfl) e
  | ext φ => obtain ⟨p, ⟨o, e⟩, st⟩ := x; exact ⟨st _ _ p fun o q => k _ _ (.inl rfl) q, ⟨o, k _ _ (.inl rfl) e⟩, st⟩
theorem HOk.lt (x : HOk P w H h) (e : H a = some o) : a < h.objs.size := (x a o e).lt
theorem HOk.fresh (x : HOk P w H h) (e : h.objs.size ≤ a) : H a = none := by
  cases q : H a with
  | none => rfl
  | some u => exact absurd (Nat.lt_of_lt_of_le (x.lt q) e) (Nat.lt_irrefl _)
theorem HOk.kept (x : HOk P w H h) (k : ∀ b u, h.get? b = some u → h'.get? b = some u) : HOk P w H h' := fun a o e =>
  (x a o e).stay (fun b u _ q => k b u q) (fun _ q => q) fun _ _ q => q
theorem HOk.laid (x : HOk P w H h) (k : ∀ b u, h.get? b = some u → h'.get? b = some u) (hp : h.objs.size ≤ a) (new : ObjOk P w (upd H a o) h' a o) : HOk P w (upd H a o) h' := fun b u e => by
  have hn := x.fresh hp
  by_cases hb : b = a
  · subst hb; rw [upd_same] at e; cases e; exact new
  · rw [upd_ne hb] at e
    exact (x b u e).stay (fun c v _ q => k c v q) (fun c q => by rw [upd_ne (ne_of_none q hn)]; exact q) fun c xs q => by rw [upd_ne (ne_of_none q hn)]; exact q
end
noncomputable def Rd (H : Hp) (a : Addr) (u : HO) : Prop := H a = some u ∨ ∃ o, H a = some (.frz o u)
theorem Rd.ok {P : Program} {w : World} {H : Hp} {h : Heap} {a : Addr} {u : HO} (r : Rd H a u) (x : HOk P w H h) : ObjOk P w H h a u := by
  rcases r with r | ⟨o, r⟩
  · exact x a u r
  · obtain ⟨_, q⟩ := x a _ r
    exact q
noncomputable def Mut : Option HO → Prop
  | some (.lst _) => True
  | some (.dK _) => True
  | some (.dT _) => True
  | some (.set _ _) => True
  | some (.ins _ _ _) => True
  | some (.ext _) => True
  | _ => False
section
variable {P : Program} {w : World} {H : Hp} {h h' : Heap} {x e : Addr} {o' : HO}
theorem HOk.write (ok : HOk P w H h) (mu : Mut (H x)) (he : e = x ∨ H e = some (.own x)) (k : ∀ b u, b ≠ e → h.get? b = some u → h'.get? b = some u) (heo : ∃ u, h'.get? e = some u)
    (new : ObjOk P w (upd H x o') h' x o') : HOk P w (upd H x o') h' := fun b u q => by
  have nown : ∀ c y, H c = some (.own y) → c ≠ x := fun c y r z => by subst z; rw [r] at mu; exact mu
  have ntup : ∀ c xs, H c = some (.tup xs) → c ≠ x := fun c xs r z => by subst z; rw [r] at mu; exact mu
  by_cases hb : b = x
  · subst hb; rw [upd_same] at q; cases q; exact new
  · rw [upd_ne hb] at q
    by_cases hbe : b = e
    · have q' : H b = some (.own x) := by
        rcases he with z | z
        · exact absurd (hbe.trans z) hb
        · rw [hbe]; exact z
      rw [q] at q'; cases q'
      obtain ⟨v, hv⟩ := heo
      exact ⟨v, by rw [hbe]; exact hv⟩
    · refine (ok b u q).stay (fun c v hc r => k c v ?_ r) (fun c r => by rw [upd_ne (nown c b r)]; exact r) fun c xs r => by rw [upd_ne (ntup c xs r)]; exact r
      rcases hc with rfl | hc
      · exact hbe
      · rintro rfl
        rcases he with z | z
        · exact nown c b hc z
        · rw [hc] at z; cases z; exact hb rfl
end
structure Un (fs ex : List Addr) (H H' : Hp) (h h' : Heap) : Prop where
  keep : ∀ b o, h.get? b = some o → H b = none → b ∉ fs → b ∉ ex → h'.get? b = some o
  slot : ∀ b o, h.get? b = some o → H b = none → b ∈ fs → b ∉ ex → ∃ sl, h'.get? b = some { o with slots := sl }
  free : ∀ b o, h.get? b = some o → H b = none → b ∉ ex → H' b = none
  there : ∀ b o, h.get? b = some o → b ∉ ex → ∃ o', h'.get? b = some o'
  tups : ∀ b xs, H b = some (.tup xs) → H' b = some (.tup xs)
  frzs : ∀ b o u, H b = some (.frz o u) → H' b = some (.frz o u)
  tbls : ∀ b ps, H b = some (.tbl ps) → ∃ more, H' b = some (.tbl (ps ++ more))
section
variable {fs fs' ex ex' : List Addr} {H H1 H2 : Hp} {h h1 h2 h' : Heap} {a x e : Addr} {o : HO}
theorem Un.any (u : Un fs ex H H1 h h1) {b : Addr} {ob : Obj} (q : h.get? b = some ob) (n : H b = none) (hx : b ∉ ex) : ∃ sl, h1.get? b = some { ob with slots := sl } := by
  by_cases hb : b ∈ fs
  · exact u.slot b ob q n hb hx
  · exact ⟨ob.slots, u.keep b ob q n hb hx⟩
theorem Un.trans (a : Un fs ex H H1 h h1) (b : Un fs ex H1 H2 h1 h2) : Un fs ex H H2 h h2 where
  keep := fun c ob q n hc hx => b.keep c ob (a.keep c ob q n hc hx) (a.free c ob q n hx) hc hx
  slot := fun c ob q n hc hx => by
    obtain ⟨sl, e1⟩ := a.slot c ob q n hc hx
    obtain ⟨sl', e2⟩ := b.slot c _ e1 (a.free c ob q n hx) hc hx
    exact ⟨sl', e2⟩
  free := fun c ob q n hx => by
    obtain ⟨o', e1⟩ := a.there c ob q hx
    exact b.free c o' e1 (a.free c ob q n hx) hx
  there := fun c ob q hx => by
    obtain ⟨o', e1⟩ := a.there c ob q hx
    exact b.there c o' e1 hx
  tups := fun c xs q => b.tups c xs (a.tups c xs q)
  frzs := fun c ob xs q => b.frzs c ob xs (a.frzs c ob xs q)
  tbls := fun c ps q => by
    obtain ⟨m1, e1⟩ := a.tbls c ps q
    obtain ⟨m2, e2⟩ := b.tbls c _ e1
    exact ⟨m1 ++ m2, by rw [e2, Array.append_assoc]⟩
theorem Un.kept (k : ∀ b u, h.get? b = some u → h'.get? b = some u) : Un fs ex H H h h' :=
  ⟨fun b ob q _ _ _ => k b ob q, fun b ob q _ _ _ => ⟨ob.slots, k b ob q⟩, fun _ _ _ n _ => n, fun b ob q _ => ⟨ob, k b ob q⟩, fun _ _ q => q, fun _ _ _ q => q, fun _ ps q => ⟨#[], by rw [q]; simp⟩⟩
theorem Un.refl : Un fs ex H H h h := Un.kept fun _ _ q => q
theorem Un.laid (k : ∀ b u, h.get? b = some u → h'.get? b = some u) (hp : h.objs.size ≤ a) (hn : H a = none) : Un fs ex H (upd H a o) h h' where
  keep := fun b u q _ _ _ => k b u q
  slot := fun b u q _ _ _ => ⟨u.slots, k b u q⟩
  free := fun b u q n _ => by rw [upd_ne (Nat.ne_of_lt (Nat.lt_of_lt_of_le (Heap.lt_size q) hp))]; exact n
  there := fun b u q _ => ⟨u, k b u q⟩
  tups := fun b xs q => by rw [upd_ne (ne_of_none q hn)]; exact q
  frzs := fun b u xs q => by rw [upd_ne (ne_of_none q hn)]; exact q
  tbls := fun b ps q => ⟨#[], by rw [upd_ne (ne_of_none q hn), q]; simp⟩
theorem Un.write (mu : Mut (H x)) (he : e = x ∨ H e = some (.own x)) (k : ∀ b u, b ≠ e → h.get? b = some u → h'.get? b = some u) (heo : ∃ u, h'.get? e = some u) : Un fs ex H (upd H x o) h h' := by
  have hx : ∀ b, H b = none → b ≠ x := fun b n z => by subst z; rw [n] at mu; exact mu
  have hb : ∀ b, H b = none → b ≠ e := fun b n z => by
    subst z
    rcases he with r | r
    · exact hx b n r
    · rw [n] at r; cases r
  have hm : ∀ b u, H b = some u → ¬ Mut (some u) → b ≠ x := fun b u q nm z => by subst z; rw [q] at mu; exact nm mu
  refine ⟨fun b u q n _ _ => k b u (hb b n) q, fun b u q n _ _ => ⟨u.slots, k b u (hb b n) q⟩, fun b u q n _ => by rw [upd_ne (hx b n)]; exact n, fun b u q _ => ?_,
    fun b xs q => by rw [upd_ne (hm b _ q fun z => z)]; exact q, fun b u xs q => by rw [upd_ne (hm b _ q fun z => z)]; exact q, fun b ps q => ⟨#[], by rw [upd_ne (hm b _ q fun z => z), q]; simp⟩⟩
  by_cases hbe : b = e
  · subst hbe; exact heo
  · exact ⟨u, k b u hbe q⟩
theorem Un.mono (u : Un fs ex H H1 h h1) (hs : ∀ b ∈ fs, b ∈ fs') (hx : ∀ b ∈ ex, b ∈ ex') : Un fs' ex' H H1 h h1 :=
  ⟨fun b ob q n hb he => u.keep b ob q n (fun z => hb (hs b z)) fun z => he (hx b z), fun _ _ q n _ he => u.any q n fun z => he (hx _ z), fun b ob q n he => u.free b ob q n fun z => he (hx b z), fun b ob q he => u.there b ob q fun z => he (hx b z), u.tups, u.frzs, u.tbls⟩
end
noncomputable def trk (h : Heap) (H : Hp) : List Addr := (List.range h.objs.size).filter fun a => (H a).isSome
noncomputable def hidT (h : Heap) (H : Hp) : Heap := PySem.W.hideAll h (trk h H)
theorem hidT_size (h : Heap) (H : Hp) : (hidT h H).objs.size = h.objs.size := PySem.W.hideAll_size _ _
theorem hidT_get {h : Heap} {H : Hp} {b : Addr} {o : Obj} (e : h.get? b = some o) (n : H b = none) : (hidT h H).get? b = some o :=
  PySem.W.hideAll_get _ e fun hm => by
    have q : (H b).isSome = true := (List.mem_filter.mp hm).2
    rw [n] at q; simp at q
theorem of_hidT {h : Heap} {H : Hp} {b : Addr} {o : Obj} (e : (hidT h H).get? b = some o) : h.get? b = some o ∧ H b = none := by
  have e' : h.get? b = some o := PySem.W.of_hideAll (trk h H) e
  refine ⟨e', ?_⟩
  cases q : H b with
  | none => rfl
  | some x =>
    have hm : b ∈ trk h H := List.mem_filter.mpr ⟨List.mem_range.mpr (Heap.lt_size e'), by simp [q]⟩
    have z : (hidT h H).get? b = none := PySem.W.hideAll_none (trk h H) hm
    rw [z] at e; cases e
end L2
namespace L2
open PySem PySem.Spec PyProof.Rows
structure Mod (K : PySem.W.Frag) (mg : Str → Option Value) (base : Heap) : Prop where
  kin : K.In base
  glob : base.Ns mainGlobals mg
  blt : ∃ mb, base.Ns builtinsNs mb ∧ ∀ x : Str, x ≠ "__name__" → mb x = bootBuiltins x
  nolimit : base.NoLimit
structure Cx where
  prog : Program
  w : World
  K : PySem.W.Frag
  mg : Str → Option Value
  base : Heap
  A : Around
  N : List Str
  s₀ : Shared
  H₀ : Hp
  env : Env
  outer : List Env
  stack : List Env
  ex : List Addr
  fn : Str → Bool
  calm : Bool
  pn : List (Addr × Obj)
  xe : Value → Shared → Prop
  ex9 : Value → Option Addr → Hp → Prop := fun _ _ _ => False
noncomputable def frs (l : List Env) : List Addr := l.filterMap (·.frame)
noncomputable abbrev Cx.fs (X : Cx) : List Addr := frs X.outer
noncomputable def Vis (sc : Scope) (x : Str) : Prop := sc.names.lookup x = some .local ∨ sc.names.lookup x = some .cell ∨ sc.names.lookup x = some .free
noncomputable def Loc (sc : Scope) (x : Str) : Prop := sc.names.lookup x = some .local ∨ sc.names.lookup x = some .cell
noncomputable def Look (env : Env) (h : Heap) (m : Str → Option Value) (x : Str) (u : Value) : Prop :=
  (env.kindOf x = some .local ∧ m x = some u) ∨ ((env.kindOf x = some .cell ∨ env.kindOf x = some .free) ∧ ∃ c, env.cells.lookup x = some c ∧ h.IsCell c (some u))
structure Cx.Ok (X : Cx) : Prop where
  mod : Mod X.K X.mg X.base
  kind : X.env.scope.kind = .function
  glob : X.env.globals = mainGlobals
  blt : X.env.builtins = builtinsNs
  above : X.s₀.heap.objs.size ≤ X.env.locals
  inj : ∀ x y c, X.env.cells.lookup x = some c → X.env.cells.lookup y = some c → x = y
  has : ∀ x, (X.env.kindOf x = some .cell ∨ X.env.kindOf x = some .free) → ∃ c, X.env.cells.lookup x = some c
  cab : ∀ x c, X.fn x = true → X.env.cells.lookup x = some c → X.s₀.heap.objs.size ≤ c
  hd : X.calm = true → X.A.handled = none
  frames : X.A.frames = some X.stack
  stk : X.stack = X.outer ∨ (X.stack = X.env :: X.outer ∧ X.env.frame = some X.env.locals)
  exf : ∀ b ∈ X.ex, b ≠ X.env.locals ∧ ∀ x c, X.env.cells.lookup x = some c → c ≠ b
  bs : ∀ b o, X.base.get? b = some o → X.s₀.heap.get? b = some o ∧ X.H₀ b = none
  bsz : X.base.objs.size ≤ X.s₀.heap.objs.size
  noex : ∀ b o, X.base.get? b = some o → b ∉ X.ex
  exfs : ∀ b ∈ X.ex, b ∉ X.fs
  funs : X.s₀.heap.FunFrames X.base X.outer
  frf : ∀ b ∈ X.fs, X.H₀ b = none
structure Inv (X : Cx) (pins : List (Addr × Obj)) (σ : List (Option V)) (H : Hp) (s : Shared) : Prop where
  ok : X.Ok
  os : s.os = X.s₀.os
  bare : AllBare s.gens
  base : Un X.fs X.ex X.H₀ H X.s₀.heap s.heap
  loc : ∃ m, s.heap.Ns X.env.locals m ∧ ∀ (i : Nat) (x : Str) (v : V), X.N[i]? = some x → σ[i]? = some (some v) → Vis X.env.scope x → ∃ u, RelV v u ∧ Look X.env s.heap m x u
  cell : ∀ x c, X.env.cells.lookup x = some c → ∃ v, s.heap.IsCell c v
  free : H X.env.locals = none
  freeC : ∀ x c, X.env.cells.lookup x = some c → H c = none
  pin : ∀ p ∈ X.pn ++ pins, s.heap.get? p.1 = some p.2 ∧ H p.1 = none ∧ p.1 ≠ X.env.locals ∧ p.1 ∉ X.fs ∧ ∀ v, p.2.data ≠ .cell v
  hok : HOk X.prog X.w H s.heap
  len : σ.length = X.N.length
section
variable {X : Cx} {pins : List (Addr × Obj)} {σ : List (Option V)} {H H' : Hp} {s : Shared} {h' : Heap}
theorem Cx.Ok.nofr (ok : X.Ok) {b : Addr} {o : Obj} (e : X.base.get? b = some o) : b ∉ X.fs := fun hb => by
  have := (ok.funs.mem hb).1
  rw [e] at this; cases this
theorem Inv.bs (I : Inv X pins σ H s) : ∀ b o, X.base.get? b = some o → s.heap.get? b = some o ∧ H b = none := fun b o e =>
  ⟨I.base.keep b o (I.ok.bs b o e).1 (I.ok.bs b o e).2 (I.ok.nofr e) (I.ok.noex b o e), I.base.free b o (I.ok.bs b o e).1 (I.ok.bs b o e).2 (I.ok.noex b o e)⟩
theorem Inv.bk (I : Inv X pins σ H s) : ∀ b o, X.base.get? b = some o → s.heap.get? b = some o := fun b o e => (I.bs b o e).1
theorem Inv.mod (I : Inv X pins σ H s) : Mod X.K X.mg X.base := I.ok.mod
theorem Inv.kIn (I : Inv X pins σ H s) : X.K.In s.heap := I.ok.mod.kin.keeps I.bk
theorem Inv.lt (I : Inv X pins σ H s) : X.env.locals < s.heap.objs.size := let ⟨_, hn, _⟩ := I.loc; hn.lt
theorem Inv.sz (I : Inv X pins σ H s) : X.s₀.heap.objs.size ≤ s.heap.objs.size := Nat.le_trans I.ok.above (Nat.le_of_lt I.lt)
theorem Inv.nofs (I : Inv X pins σ H s) {a : Addr} (h : s.heap.objs.size ≤ a) : a ∉ X.fs := fun hb => by
  obtain ⟨_, o, ho, _⟩ := I.ok.funs.mem hb
  exact absurd (Nat.lt_of_lt_of_le (Heap.lt_size ho) (Nat.le_trans I.sz h)) (Nat.lt_irrefl _)
theorem Inv.cne (I : Inv X pins σ H s) : ∀ x c, X.env.cells.lookup x = some c → c ≠ X.env.locals := fun x c e z => by
  obtain ⟨v, o, ho, hd⟩ := I.cell x c e
  obtain ⟨m, ⟨o', es, ep, ho', hd', _⟩, _⟩ := I.loc
  rw [z, ho'] at ho; cases ho; rw [hd'] at hd; cases hd
theorem Inv.funs (I : Inv X pins σ H s) : s.heap.FunFrames X.base X.outer := by
  have all : ∀ (l : List Env), (∀ b ∈ frs l, b ∈ X.fs) → X.s₀.heap.FunFrames X.base l → s.heap.FunFrames X.base l := by
    intro l
    induction l with
    | nil => intro _ _; trivial
    | cons env r ih =>
      intro hs hl
      obtain ⟨hk, ⟨L, o, hf, hn, ho, hd⟩, hr⟩ := hl
      have hL : L ∈ X.fs := hs L (by unfold frs; rw [List.filterMap_cons, hf]; exact List.mem_cons_self)
      obtain ⟨sl, e⟩ := I.base.slot L o ho (I.ok.frf L hL) hL fun z => I.ok.exfs L z hL
      exact ⟨hk, ⟨L, _, hf, hn, e, hd⟩, ih (fun b hb => hs b (by unfold frs; rw [List.filterMap_cons, hf]; exact List.mem_cons_of_mem _ hb)) hr⟩
  exact all X.outer (fun _ hb => hb) I.ok.funs
theorem Inv.stack (I : Inv X pins σ H s) : s.heap.FunFrames X.base X.stack := by
  rcases I.ok.stk with e | ⟨e, hf⟩
  · rw [e]; exact I.funs
  · rw [e]
    obtain ⟨m, hn, _⟩ := I.loc
    refine .cons (by rw [I.ok.kind]; decide) hf hn ?_ I.funs
    exact Heap.get?_none_of_le (Nat.le_trans I.ok.bsz I.ok.above)
theorem Inv.stkSub (I : Inv X pins σ H s) : ∀ b ∈ frs X.stack, b ∈ X.env.locals :: X.fs := fun b hb => by
  rcases I.ok.stk with e | ⟨e, hf⟩
  · rw [e] at hb; exact List.mem_cons_of_mem _ hb
  · rw [e] at hb
    unfold frs at hb
    rw [List.filterMap_cons, hf] at hb
    exact hb
theorem Inv.stkFree (I : Inv X pins σ H s) : ∀ b ∈ frs X.stack, H b = none := fun b hb => by
  rcases List.mem_cons.mp (I.stkSub b hb) with e | hb
  · rw [e]; exact I.free
  · obtain ⟨_, o, ho, _⟩ := I.ok.funs.mem hb
    exact I.base.free b o ho (I.ok.frf b hb) fun z => I.ok.exfs b z hb
theorem Inv.step {g' : Array GenState} {t' : Nat} {d' : Drawn} {ch : List Addr} (I : Inv X pins σ H s)
    (hch : ∀ b ∈ ch, (b ∈ X.ex ∨ X.s₀.heap.objs.size ≤ b) ∧ b ≠ X.env.locals ∧ (∀ x c, X.env.cells.lookup x = some c → c ≠ b) ∧ ∀ p ∈ X.pn ++ pins, p.1 ≠ b)
    (keep : ∀ b o, b ≠ X.env.locals → b ∉ X.fs → b ∉ ch → s.heap.get? b = some o → H b = none → h'.get? b = some o)
    (slot : ∀ b o, b ≠ X.env.locals → b ∈ X.fs → b ∉ ch → s.heap.get? b = some o → H b = none → ∃ sl, h'.get? b = some { o with slots := sl }) (free : ∀ b o, b ∉ ch → s.heap.get? b = some o → H b = none → H' b = none)
    (there : ∀ b o, b ∉ ch → s.heap.get? b = some o → ∃ o', h'.get? b = some o')
    (tups : ∀ b xs, H b = some (.tup xs) → H' b = some (.tup xs)) (frzs : ∀ b o u, H b = some (.frz o u) → H' b = some (.frz o u)) (tbls : ∀ b ps, H b = some (.tbl ps) → ∃ more, H' b = some (.tbl (ps ++ more)))
    (ns : ∀ m, s.heap.Ns X.env.locals m → h'.Ns X.env.locals m) (hok : HOk X.prog X.w H' h') (hg : AllBare g') :
    Inv X pins σ H' { s with heap := h', gens := g', drawn := d', toks := t' } := by
  have neL : ∀ b o, X.s₀.heap.get? b = some o → b ≠ X.env.locals := fun b o e => Nat.ne_of_lt (Nat.lt_of_lt_of_le (Heap.lt_size e) I.ok.above)
  have neC : ∀ b o, X.s₀.heap.get? b = some o → b ∉ X.ex → b ∉ ch := fun b o e hx hb => by
    rcases (hch b hb).1 with z | z
    · exact hx z
    · exact absurd (Nat.lt_of_lt_of_le (Heap.lt_size e) z) (Nat.lt_irrefl _)
  have cellK : ∀ x c, X.env.cells.lookup x = some c → ∀ v, s.heap.IsCell c v → h'.IsCell c v := fun x c e v zz0 => by
    obtain ⟨o, ho, hd⟩ := zz0
    have nch : c ∉ ch := fun z => (hch c z).2.2.1 x c e rfl
    by_cases hc : c ∈ X.fs
    · obtain ⟨sl, q⟩ := slot c o (I.cne x c e) hc nch ho (I.freeC x c e)
      exact ⟨_, q, hd⟩
    · exact ⟨o, keep c o (I.cne x c e) hc nch ho (I.freeC x c e), hd⟩
  refine ⟨I.ok, I.os, hg, ⟨fun b o e n hb hx => ?_, fun b o e n hb hx => ?_, fun b o e n hx => ?_, fun b o e hx => ?_, fun b xs e => tups b xs (I.base.tups b xs e), fun b o xs e => frzs b o xs (I.base.frzs b o xs e), fun b ps e => ?_⟩, ?_, fun x c e => ?_, ?_, fun x c e => ?_, fun p hp => ?_, hok, I.len⟩
  · exact keep b o (neL b o e) hb (neC b o e hx) (I.base.keep b o e n hb hx) (I.base.free b o e n hx)
  · obtain ⟨sl, e1⟩ := I.base.slot b o e n hb hx
    obtain ⟨sl', e2⟩ := slot b _ (neL b o e) hb (neC b o e hx) e1 (I.base.free b o e n hx)
    exact ⟨sl', e2⟩
  · obtain ⟨o', e1⟩ := I.base.there b o e hx
    exact free b o' (neC b o e hx) e1 (I.base.free b o e n hx)
  · obtain ⟨o', e1⟩ := I.base.there b o e hx
    exact there b o' (neC b o e hx) e1
  · obtain ⟨m1, e1⟩ := I.base.tbls b ps e
    obtain ⟨m2, e2⟩ := tbls b _ e1
    exact ⟨m1 ++ m2, by rw [e2, Array.append_assoc]⟩
  · obtain ⟨m, hn, hl⟩ := I.loc
    refine ⟨m, ns m hn, fun i x v e1 e2 e3 => ?_⟩
    obtain ⟨u, r, l⟩ := hl i x v e1 e2 e3
    refine ⟨u, r, ?_⟩
    rcases l with l | ⟨k, c, e, z⟩
    · exact .inl l
    · exact .inr ⟨k, c, e, cellK x c e _ z⟩
  · obtain ⟨v, z⟩ := I.cell x c e
    exact ⟨v, cellK x c e v z⟩
  · obtain ⟨m, ⟨o, _, _, ho, _⟩, _⟩ := I.loc
    exact free _ o (fun z => (hch _ z).2.1 rfl) ho I.free
  · obtain ⟨v, o, ho, hd⟩ := I.cell x c e
    exact free c o (fun z => (hch c z).2.2.1 x c e rfl) ho (I.freeC x c e)
  · obtain ⟨e, n, ne, nf, d⟩ := I.pin p hp
    have nch : p.1 ∉ ch := fun z => (hch p.1 z).2.2.2 p hp rfl
    exact ⟨keep p.1 p.2 ne nf nch e n, free p.1 p.2 nch e n, ne, nf, d⟩
theorem Inv.un {t' : Nat} (I : Inv X pins σ H s) (u : Un X.fs [] H H' s.heap h') (hok : HOk X.prog X.w H' h') : Inv X pins σ H' { s with heap := h', toks := t' } := by
  obtain ⟨m, ⟨o, es, ep, ho, r⟩, _⟩ := id I.loc
  obtain ⟨sl, hL⟩ := u.any ho I.free (by simp)
  exact I.step (g' := s.gens) (d' := s.drawn) (ch := []) (fun _ z => nomatch z) (fun b o _ hb _ e n => u.keep b o e n hb (by simp)) (fun b o _ hb _ e n => u.slot b o e n hb (by simp)) (fun b o _ e n => u.free b o e n (by simp)) (fun b o _ e => u.there b o e (by simp)) u.tups u.frzs u.tbls (fun m' hm => by
    obtain ⟨o', es', ep', ho', r'⟩ := hm
    rw [ho] at ho'; cases ho'
    exact ⟨_, es', ep', hL, r'⟩) hok I.bare
theorem Inv.call {g' : Array GenState} {t' : Nat} {d' : Drawn} {ch : List Addr} (I : Inv X pins σ H s) (u : Un (frs X.stack) ch H H' s.heap h') (hok : HOk X.prog X.w H' h') (hg : AllBare g')
    (hch : ∀ b ∈ ch, (b ∈ X.ex ∨ X.s₀.heap.objs.size ≤ b) ∧ b ≠ X.env.locals ∧ (∀ x c, X.env.cells.lookup x = some c → c ≠ b) ∧ ∀ p ∈ X.pn ++ pins, p.1 ≠ b) :
    Inv X pins σ H' { s with heap := h', gens := g', drawn := d', toks := t' } := by
  obtain ⟨m, ⟨o, es, ep, ho, r⟩, _⟩ := id I.loc
  obtain ⟨sl, hL⟩ := u.any ho I.free fun z => (hch _ z).2.1 rfl
  exact I.step (ch := ch) hch (fun b o hL hb hc e n => u.keep b o e n (fun z => (List.mem_cons.mp (I.stkSub b z)).elim hL hb) hc) (fun b o _ _ hc e n => u.any e n hc) (fun b o hc e n => u.free b o e n hc) (fun b o hc e => u.there b o e hc) u.tups u.frzs u.tbls (fun m' hm => by
    obtain ⟨o', es', ep', ho', r'⟩ := hm
    rw [ho] at ho'; cases ho'
    exact ⟨_, es', ep', hL, r'⟩) hok hg
theorem Inv.turned {t' : Nat} {it : Addr} (I : Inv X pins σ H s) (k : ∀ b o, b ≠ it → s.heap.get? b = some o → h'.get? b = some o) (hn : H it = none) (hL : it ≠ X.env.locals)
    (h1 : it ∈ X.ex ∨ X.s₀.heap.objs.size ≤ it) (h2 : ∀ x c, X.env.cells.lookup x = some c → c ≠ it) (h3 : ∀ p ∈ X.pn ++ pins, p.1 ≠ it) : Inv X pins σ H { s with heap := h', toks := t' } := by
  have nit : ∀ b u, H b = some u → b ≠ it := fun b u e z => by rw [z, hn] at e; cases e
  refine I.step (g' := s.gens) (d' := s.drawn) (ch := [it]) (fun b hb => ?_) (fun b o _ _ hc e _ => k b o (fun z => hc (by simp [z])) e) (fun b o _ _ hc e _ => ⟨o.slots, k b o (fun z => hc (by simp [z])) e⟩) (fun _ _ _ _ n => n)
    (fun b o hc e => ⟨o, k b o (fun z => hc (by simp [z])) e⟩) (fun _ _ e => e) (fun _ _ _ e => e) (fun b ps e => ⟨#[], by rw [e]; simp⟩) (fun m hm => ?_) (fun b u e => ?_) I.bare
  · have e : b = it := by simpa using hb
    subst e
    exact ⟨h1, hL, h2, h3⟩
  · obtain ⟨o, es, ep, ho, r⟩ := hm
    exact ⟨o, es, ep, k _ o (Ne.symm hL) ho, r⟩
  · refine (I.hok b u e).stay (fun c v hc q => k c v ?_ q) (fun _ q => q) fun _ _ q => q
    rcases hc with z | z
    · rw [z]; exact nit b u e
    · exact nit c _ z
theorem Inv.tok (I : Inv X pins σ H s) (t : Nat) : Inv X pins σ H { s with toks := t } := I.un (h' := s.heap) (t' := t) Un.refl I.hok
theorem Inv.kept {t' : Nat} (I : Inv X pins σ H s) (k : ∀ b u, s.heap.get? b = some u → h'.get? b = some u) : Inv X pins σ H { s with heap := h', toks := t' } := I.un (Un.kept k) (I.hok.kept k)
theorem Inv.laid {a : Addr} {o : HO} {t' : Nat} (I : Inv X pins σ H s) (k : ∀ b u, s.heap.get? b = some u → h'.get? b = some u) (hp : s.heap.objs.size ≤ a) (new : ObjOk X.prog X.w (upd H a o) h' a o) :
    Inv X pins σ (upd H a o) { s with heap := h', toks := t' } := I.un (Un.laid k hp (I.hok.fresh hp)) (I.hok.laid k hp new)
theorem Inv.write {x e : Addr} {o : HO} {t' : Nat} (I : Inv X pins σ H s) (mu : Mut (H x)) (he : e = x ∨ H e = some (.own x)) (k : ∀ b u, b ≠ e → s.heap.get? b = some u → h'.get? b = some u) (heo : ∃ u, h'.get? e = some u)
    (new : ObjOk X.prog X.w (upd H x o) h' x o) : Inv X pins σ (upd H x o) { s with heap := h', toks := t' } := I.un (Un.write mu he k heo) (I.hok.write mu he k heo new)
theorem Inv.pins_of {pins' : List (Addr × Obj)} (I : Inv X pins σ H s) (h : ∀ p ∈ pins', s.heap.get? p.1 = some p.2 ∧ H p.1 = none ∧ p.1 ≠ X.env.locals ∧ p.1 ∉ X.fs ∧ ∀ v, p.2.data ≠ .cell v) : Inv X pins' σ H s :=
  ⟨I.ok, I.os, I.bare, I.base, I.loc, I.cell, I.free, I.freeC, fun p hp => (List.mem_append.mp hp).elim (fun z => I.pin p (List.mem_append_left _ z)) (h p), I.hok, I.len⟩
theorem nodup_ix {N : List Str} (hN : N.Nodup) {i j : Nat} {x : Str} (a : N[i]? = some x) (b : N[j]? = some x) : i = j := by
  obtain ⟨h1, e1⟩ := List.getElem?_eq_some_iff.mp a
  obtain ⟨h2, e2⟩ := List.getElem?_eq_some_iff.mp b
  exact (List.getElem_inj hN).mp (e1.trans e2.symm)
theorem store_ok2 {M : Model} {A : Around} {E : Value → Shared → Prop} {i : Nat} {x : Str} {v : V} {u : Value} {Q : Unit → Shared → Prop} (I : Inv X pins σ H s) (hN : X.N.Nodup) (hi : X.N[i]? = some x) (hx : Loc X.env.scope x) (r : RelV v u)
    (h : ∀ s', Inv X pins (σ.set i (some v)) H s' → (∃ a, Heap.SameBut a s.heap s'.heap ∧ (a = X.env.locals ∨ X.env.cells.lookup x = some a)) → Q () s') (hf : X.fn x = true ∨ X.env.scope.names.lookup x = some .local := by trivial) : wpAny M A (storeName X.env x u) Q E s := by
  obtain ⟨m, hn, hl⟩ := id I.loc
  have hcls : (X.env.scope.kind == .class || (X.env.scope.kind == .module && X.env.locals != X.env.globals)) = false := by rw [I.ok.kind]; rfl
  have hiσ : i < σ.length := by rw [I.len]; exact (List.getElem?_eq_some_iff.mp hi).1
  have cne := I.cne
  have tracked : ∀ {a : Addr} {h' : Heap}, (∃ o, s.heap.get? a = some o ∧ H a = none) → Heap.SameBut a s.heap h' → HOk X.prog X.w H h' := fun {a h'} ha hs b ob e => by
    obtain ⟨_, _, hfree⟩ := ha
    refine (I.hok b ob e).stay (fun c w' hc q => (hs.2 c ?_).trans q) (fun _ q => q) fun _ _ q => q
    rintro rfl
    rcases hc with rfl | hc
    · rw [hfree] at e; cases e
    · rw [hfree] at hc; cases hc
  rcases hx with hk | hk
  · refine wpAny_storeName_local hk hn (fun h' hn' hs => ?_) hcls
    obtain ⟨oL, _, _, hoL, _⟩ := id hn
    refine h _ ⟨I.ok, I.os, I.bare, ⟨fun b o e n hb hx => ?_, fun b o e n hb hx => ?_, I.base.free, fun b o e hx => ?_, I.base.tups, I.base.frzs, I.base.tbls⟩, ⟨_, hn', fun j y v' e1 e2 e3 => ?_⟩, fun y c e => ?_, I.free, I.freeC, fun p hp => ?_, tracked ⟨oL, hoL, I.free⟩ hs, by simpa using I.len⟩ ⟨_, hs, .inl rfl⟩
    · exact (hs.2 b (Nat.ne_of_lt (Nat.lt_of_lt_of_le (Heap.lt_size e) I.ok.above))).trans (I.base.keep b o e n hb hx)
    · obtain ⟨sl, e1⟩ := I.base.slot b o e n hb hx
      exact ⟨sl, (hs.2 b (Nat.ne_of_lt (Nat.lt_of_lt_of_le (Heap.lt_size e) I.ok.above))).trans e1⟩
    · obtain ⟨o', e1⟩ := I.base.there b o e hx
      exact ⟨o', (hs.2 b (Nat.ne_of_lt (Nat.lt_of_lt_of_le (Heap.lt_size e) I.ok.above))).trans e1⟩
    · by_cases hj : j = i
      · subst hj
        rw [hi] at e1; cases e1
        rw [List.getElem?_set_self hiσ] at e2
        cases e2
        exact ⟨u, r, .inl ⟨hk, by simp⟩⟩
      · rw [List.getElem?_set_ne (Ne.symm hj)] at e2
        obtain ⟨u', r', q⟩ := hl j y v' e1 e2 e3
        refine ⟨u', r', ?_⟩
        rcases q with ⟨k, e⟩ | ⟨k, c, e, z⟩
        · refine .inl ⟨k, ?_⟩
          have : y ≠ x := fun e => hj (nodup_ix hN e1 (e ▸ hi))
          simp [this, e]
        · exact .inr ⟨k, c, e, z.sameBut hs (cne y c e)⟩
    · obtain ⟨w', z⟩ := I.cell y c e
      exact ⟨w', z.sameBut hs (cne y c e)⟩
    · obtain ⟨e, n, ne, nf, d⟩ := I.pin p hp
      exact ⟨(hs.2 p.1 ne).trans e, n, ne, nf, d⟩
  · have hfn : X.fn x = true := by
      rcases hf with z | z
      · exact z
      · rw [z] at hk; cases hk
    obtain ⟨c, hc⟩ := I.ok.has x (.inl hk)
    obtain ⟨w', z⟩ := I.cell x c hc
    refine wpAny_storeName_cell I.ok.kind hk hc z (fun h' hc' hs => ?_)
    obtain ⟨oc, hoc, hocd⟩ := id z
    refine h { s with heap := h' } ⟨I.ok, I.os, I.bare, ⟨fun b o e n hb hx => ?_, fun b o e n hb hx => ?_, I.base.free, fun b o e hx => ?_, I.base.tups, I.base.frzs, I.base.tbls⟩, ⟨m, hn.sameBut hs (Ne.symm (cne x c hc)), fun j y v' e1 e2 e3 => ?_⟩, fun y c' e => ?_, I.free, I.freeC, fun p hp => ?_, tracked ⟨oc, hoc, I.freeC x c hc⟩ hs, by simpa using I.len⟩ ⟨c, hs, .inr hc⟩
    · exact (hs.2 b (Nat.ne_of_lt (Nat.lt_of_lt_of_le (Heap.lt_size e) (I.ok.cab x c hfn hc)))).trans (I.base.keep b o e n hb hx)
    · obtain ⟨sl, e1⟩ := I.base.slot b o e n hb hx
      exact ⟨sl, (hs.2 b (Nat.ne_of_lt (Nat.lt_of_lt_of_le (Heap.lt_size e) (I.ok.cab x c hfn hc)))).trans e1⟩
    · obtain ⟨o', e1⟩ := I.base.there b o e hx
      exact ⟨o', (hs.2 b (Nat.ne_of_lt (Nat.lt_of_lt_of_le (Heap.lt_size e) (I.ok.cab x c hfn hc)))).trans e1⟩
    · by_cases hj : j = i
      · subst hj
        rw [hi] at e1; cases e1
        rw [List.getElem?_set_self hiσ] at e2
        cases e2
        exact ⟨u, r, .inr ⟨.inl hk, c, hc, hc'⟩⟩
      · rw [List.getElem?_set_ne (Ne.symm hj)] at e2
        obtain ⟨u', r', q⟩ := hl j y v' e1 e2 e3
        refine ⟨u', r', ?_⟩
        rcases q with q | ⟨k, c', e, z'⟩
        · exact .inl q
        · refine .inr ⟨k, c', e, z'.sameBut hs ?_⟩
          rintro rfl
          exact hj (nodup_ix hN e1 (I.ok.inj _ _ _ e hc ▸ hi))
    · by_cases hcc : c' = c
      · subst hcc; exact ⟨_, hc'⟩
      · obtain ⟨w2, z2⟩ := I.cell y c' e
        exact ⟨w2, z2.sameBut hs hcc⟩
    · obtain ⟨e, n, ne, nf, d⟩ := I.pin p hp
      refine ⟨(hs.2 p.1 ?_).trans e, n, ne, nf, d⟩
      intro q
      rw [q, hoc] at e
      have q' : oc = p.2 := Option.some.inj e
      exact d w' (by rw [← q']; exact hocd)
theorem store_ok {M : Model} {A : Around} {E : Value → Shared → Prop} {i : Nat} {x : Str} {v : V} {u : Value} {Q : Unit → Shared → Prop} (I : Inv X pins σ H s) (hN : X.N.Nodup) (hi : X.N[i]? = some x) (hx : Loc X.env.scope x) (r : RelV v u)
    (h : ∀ s', Inv X pins (σ.set i (some v)) H s' → Q () s') (hf : X.fn x = true ∨ X.env.scope.names.lookup x = some .local := by trivial) : wpAny M A (storeName X.env x u) Q E s :=
  store_ok2 I hN hi hx r (fun s' I' _ => h s' I') hf
theorem Inv.call' {s' : Shared} {ch : List Addr} (I : Inv X pins σ H s) (ho : s'.os = s.os) (u : Un (frs X.stack) ch H H' s.heap s'.heap) (hok : HOk X.prog X.w H' s'.heap) (hg : AllBare s'.gens)
    (hch : ∀ b ∈ ch, (b ∈ X.ex ∨ X.s₀.heap.objs.size ≤ b) ∧ b ≠ X.env.locals ∧ (∀ x c, X.env.cells.lookup x = some c → c ≠ b) ∧ ∀ p ∈ X.pn ++ pins, p.1 ≠ b) : Inv X pins σ H' s' := by
  obtain ⟨h', g', d', t', o'⟩ := s'
  have e : o' = s.os := ho
  subst e
  exact I.call (g' := g') (t' := t') (d' := d') u hok hg hch
end
noncomputable abbrev XK := Value → Option Addr → Hp → Prop
noncomputable abbrev St := List (Option V)
noncomputable abbrev VK := V → Hp → Prop
noncomputable abbrev TE := St → Hp → VK → Prop
noncomputable abbrev TT := St → Hp → (Bool → Hp → Prop) → Prop
noncomputable abbrev TA := St → Hp → (List V → Hp → Prop) → Prop
structure Ends where
  nx : St → Hp → Prop
  rt : VK
  bk : St → Hp → Prop := fun _ _ => False
  ct : St → Hp → Prop := fun _ _ => False
noncomputable abbrev TS := Ends → St → Hp → Prop
noncomputable def EP (X : Cx) (pins : List (Addr × Obj)) (σ : St) (Q : VK) (u : Value) (s' : Shared) : Prop := ∃ v H', Inv X pins σ H' s' ∧ RelV v u ∧ Q v H'
noncomputable def TP (X : Cx) (pins : List (Addr × Obj)) (σ : St) (Q : Bool → Hp → Prop) (b : Bool) (s' : Shared) : Prop := ∃ H', Inv X pins σ H' s' ∧ Q b H'
noncomputable def AP (X : Cx) (pins : List (Addr × Obj)) (σ : St) (Q : List V → Hp → Prop) (us : List Value) (s' : Shared) : Prop := ∃ vs H', Inv X pins σ H' s' ∧ Vals vs us ∧ Q vs H'
noncomputable def SP (X : Cx) (pins : List (Addr × Obj)) (D : Ends) (f : Flow) (s' : Shared) : Prop :=
  match f with
  | .next => ∃ σ' H', Inv X pins σ' H' s' ∧ D.nx σ' H'
  | .brk => ∃ σ' H', Inv X pins σ' H' s' ∧ D.bk σ' H'
  | .cont => ∃ σ' H', Inv X pins σ' H' s' ∧ D.ct σ' H'
  | .ret u => ∃ v σ' H', Inv X pins σ' H' s' ∧ RelV v u ∧ D.rt v H'
noncomputable def PE (X : Cx) (e : Expr) (t : TE) : Prop :=
  ∀ (pins : List (Addr × Obj)) (s : Shared) (σ : St) (H : Hp) (Q : VK), Inv X pins σ H s → t σ H Q → wpAny (model X.prog X.w) X.A (eval e X.env) (EP X pins σ Q) X.xe s
noncomputable def PT (X : Cx) (e : Expr) (t : TT) : Prop :=
  ∀ (pins : List (Addr × Obj)) (s : Shared) (σ : St) (H : Hp) (Q : Bool → Hp → Prop), Inv X pins σ H s → t σ H Q → wpAny (model X.prog X.w) X.A (isTrue e X.env (eval e X.env)) (TP X pins σ Q) X.xe s
noncomputable def PW (X : Cx) (e : Expr) (t : TT) : Prop :=
  ∀ (whole : Sem Value) (pins : List (Addr × Obj)) (s : Shared) (σ : St) (H : Hp) (Q : Bool → Hp → Prop), Inv X pins σ H s → t σ H Q → wpAny (model X.prog X.w) X.A (isTrue e X.env whole) (TP X pins σ Q) X.xe s
theorem PW.pt {X : Cx} {e : Expr} {t : TT} (h : PW X e t) : PT X e t := h _
noncomputable def PA (X : Cx) (es : List Expr) (t : TA) : Prop :=
  ∀ (pos : Pos) (pins : List (Addr × Obj)) (s : Shared) (σ : St) (H : Hp) (Q : List V → Hp → Prop), Inv X pins σ H s → t σ H Q → wpAny (model X.prog X.w) X.A (spliced (backTo pos (starEach es X.env))) (AP X pins σ Q) X.xe s
noncomputable def PS (X : Cx) (st : Stmt) (t : TS) : Prop :=
  ∀ (pins : List (Addr × Obj)) (s : Shared) (σ : St) (H : Hp) (D : Ends), Inv X pins σ H s → t D σ H → wpAny (model X.prog X.w) X.A (exec st X.env) (SP X pins D) X.xe s
noncomputable def PSs (X : Cx) (st : List Stmt) (t : TS) : Prop :=
  ∀ (pins : List (Addr × Obj)) (s : Shared) (σ : St) (H : Hp) (D : Ends), Inv X pins σ H s → t D σ H → wpAny (model X.prog X.w) X.A (execs st X.env) (SP X pins D) X.xe s
theorem thn {α : Type} {t : Sem α} {Q Q' : α → Shared → Prop} {M : Model} {A : Around} {E : Value → Shared → Prop} {s : Shared} (h : wpAny M A t Q E s) (hQ : ∀ a s, Q a s → Q' a s) : wpAny M A t Q' E s := wpAny_mono h hQ fun _ _ x => x
end L2
namespace L2
open PySem PySem.Spec PyProof.Rows
section
variable {X : Cx}
noncomputable def tVar (i : Nat) : TE := fun σ H Q => ∃ v, σ[i]? = some (some v) ∧ Q v H
noncomputable def tC (v : V) : TE := fun _ H Q => Q v H
theorem pe_var {i : Nat} {x : Str} {pos : Pos} (hN : X.N[i]? = some x) (hv : Vis X.env.scope x) (hd : (x == ("__debug__" : Str)) = false := by decide) (hcd : (x == ("__classdict__" : Str)) = false := by decide) : PE X (.Name x pos) (tVar i) := by
  intro pins s σ H Q I h
  obtain ⟨v, e, h⟩ := h
  obtain ⟨m, hn, hl⟩ := I.loc
  obtain ⟨u, r, l⟩ := hl i x v hN e hv
  have fin : EP X pins σ Q u s := ⟨v, H, I, r, h⟩
  rcases l with ⟨hk, hm⟩ | ⟨hk, c, hc, hcell⟩
  · exact wpAny_Name (wpAny_loadName_local I.ok.kind hk hn hm fin) hd
  · rcases hk with hk | hk
    · exact wpAny_Name (wpAny_loadName_cell I.ok.kind hk hc hcell fin) hd
    · exact wpAny_Name (wpAny_loadName_free I.ok.kind hk hc hcell fin hcd) hd
theorem pe_int {i j pos} : PE X (.Constant (.int i) j pos) (tC (.int i)) := fun _ _ _ H _ I h => wpAny_Constant_int ⟨.int i, H, I.tok _, ⟨_, rfl⟩, h⟩
theorem pe_bl {b j pos} : PE X (.Constant (.bool b) j pos) (tC (.bl b)) := fun _ _ _ H _ I h => Constant_bool ⟨.bl b, H, I, rfl, h⟩
theorem pe_non {j pos} : PE X (.Constant .none j pos) (tC .non) := fun _ _ _ H _ I h => Constant_none ⟨.non, H, I, rfl, h⟩
theorem pe_str {x j pos} : PE X (.Constant (.str x) j pos) (tC (.str x)) := fun _ _ _ H _ I h => Calls.Constant_str ⟨.str x, H, I.tok _, ⟨_, rfl⟩, h⟩
noncomputable def Gl (X : Cx) (x : Str) : Prop := X.env.kindOf x = some .globalImplicit
theorem ld_glob {E : Value → Shared → Prop} {pins : List (Addr × Obj)} {s : Shared} {σ : St} {H : Hp} {x : Str} {u : Value} {pos : Pos} {Q : Value → Shared → Prop} (I : Inv X pins σ H s) (hg : Gl X x) (hm : X.mg x = some u) (h : Q u s)
    (hd : (x == ("__debug__" : Str)) = false := by decide) : wpAny (model X.prog X.w) X.A (eval (.Name x pos) X.env) Q E s :=
  Calls.Name_function_global I.ok.kind hg (Calls.loadGlobal_global (by rw [I.ok.glob]; exact I.mod.glob.keeps I.bk) hm h) hd
theorem ld_blt {E : Value → Shared → Prop} {pins : List (Addr × Obj)} {s : Shared} {σ : St} {H : Hp} {x : Str} {u : Value} {pos : Pos} {Q : Value → Shared → Prop} (I : Inv X pins σ H s) (hg : Gl X x) (hm : X.mg x = none) (hv : bootBuiltins x = some u) (h : Q u s)
    (hn : x ≠ "__name__" := by decide) (hd : (x == ("__debug__" : Str)) = false := by decide) : wpAny (model X.prog X.w) X.A (eval (.Name x pos) X.env) Q E s := by
  obtain ⟨mb, h1, h2⟩ := I.mod.blt
  exact Calls.Name_function_global I.ok.kind hg (Calls.loadGlobal_builtin (by rw [I.ok.glob]; exact I.mod.glob.keeps I.bk) hm (by rw [I.ok.blt]; exact h1.keeps I.bk) ((h2 x hn).trans hv) h) hd
theorem pe_glob {x : Str} {v : V} {u : Value} {pos : Pos} (hg : Gl X x) (hm : X.mg x = some u) (r : RelV v u) (hd : (x == ("__debug__" : Str)) = false := by decide) : PE X (.Name x pos) (tC v) :=
  fun _ _ _ H _ I h => ld_glob I hg hm ⟨v, H, I, r, h⟩ hd
theorem pe_bltn {x : Str} {v : V} {u : Value} {pos : Pos} (hg : Gl X x) (hm : X.mg x = none) (hv : bootBuiltins x = some u) (r : RelV v u) (hn : x ≠ "__name__" := by decide) (hd : (x == ("__debug__" : Str)) = false := by decide) : PE X (.Name x pos) (tC v) :=
  fun _ _ _ H _ I h => ld_blt I hg hm hv ⟨v, H, I, r, h⟩ hn hd
variable {a b : Expr} {ta tb : TE} {pos : Pos}
variable {tA tB' : TT} {rest : List Expr}
noncomputable def tAnd (t u : TT) : TT := fun σ H Q => t σ H fun c H1 => if c = true then u σ H1 Q else Q false H1
noncomputable def tOr (t u : TT) : TT := fun σ H Q => t σ H fun c H1 => if c = true then Q true H1 else u σ H1 Q
noncomputable def tNot (t : TT) : TT := fun σ H Q => t σ H fun c H1 => Q (!c) H1
theorem pw_and1 (ha : PT X a tA) : PW X (.BoolOp .And [a] pos) tA := by
  intro wh pins s σ H Q I h
  refine isTrue_and (thn (ha pins s σ H Q I h) fun c s1 e => ?_)
  cases c with
  | true => exact isTrue_and_nil e
  | false => exact e
theorem pw_or1 (ha : PT X a tA) : PW X (.BoolOp .Or [a] pos) tA := by
  intro wh pins s σ H Q I h
  refine isTrue_or (thn (ha pins s σ H Q I h) fun c s1 e => ?_)
  cases c with
  | false => exact isTrue_or_nil e
  | true => exact e
theorem pw_and (ha : PT X a tA) (hb : PW X (.BoolOp .And (b :: rest) pos) tB') : PW X (.BoolOp .And (a :: b :: rest) pos) (tAnd tA tB') := by
  intro wh pins s σ H Q I h
  refine isTrue_and (thn (ha pins s σ H _ I h) fun c s1 zz0 => ?_)
  obtain ⟨H1, I1, q1⟩ := zz0
  cases c with
  | true => exact hb wh pins s1 σ H1 Q I1 q1
  | false => exact ⟨H1, I1, q1⟩
theorem pw_or (ha : PT X a tA) (hb : PW X (.BoolOp .Or (b :: rest) pos) tB') : PW X (.BoolOp .Or (a :: b :: rest) pos) (tOr tA tB') := by
  intro wh pins s σ H Q I h
  refine isTrue_or (thn (ha pins s σ H _ I h) fun c s1 zz0 => ?_)
  obtain ⟨H1, I1, q1⟩ := zz0
  cases c with
  | true => exact ⟨H1, I1, q1⟩
  | false => exact hb wh pins s1 σ H1 Q I1 q1
theorem pt_not (ha : PT X a tA) : PT X (.UnaryOp .Not a pos) (tNot tA) := by
  intro pins s σ H Q I h
  exact isTrue_not (ha pins s σ H (fun c H1 => Q (!c) H1) I h)
noncomputable def tAndV (ta tb : TE) : TE := fun σ H Q => ta σ H fun x H1 => ∃ c, x = .bl c ∧ if c = true then tb σ H1 Q else Q (.bl false) H1
noncomputable def tNotV (ta : TE) : TE := fun σ H Q => ta σ H fun x H1 => ∃ c, x = .bl c ∧ Q (.bl (!c)) H1
theorem pe_one {op} {t : TE} (h : PE X a t) : PE X (.BoolOp op [a] pos) t := fun pins s σ H Q I hw => BoolOp_one (h pins s σ H Q I hw)
theorem pe_and (ha : PE X a ta) (hb : PE X (.BoolOp .And (b :: rest) pos) tb) : PE X (.BoolOp .And (a :: b :: rest) pos) (tAndV ta tb) := by
  intro pins s σ H Q I h
  refine BoolOp_and (thn (ha pins s σ H _ I h) fun v s1 zz0 => ?_)
  obtain ⟨x, H1, I1, r1, q1⟩ := zz0
  obtain ⟨c, rfl, q1⟩ := q1
  cases r1
  refine wpAny_truthy_bool ?_
  cases c with
  | true => exact hb pins s1 σ H1 Q I1 q1
  | false => exact ⟨.bl false, H1, I1, rfl, q1⟩
theorem pe_not (ha : PE X a ta) : PE X (.UnaryOp .Not a pos) (tNotV ta) := by
  intro pins s σ H Q I h
  refine UnaryOp_ (thn (ha pins s σ H _ I h) fun v s1 zz0 => ?_)
  obtain ⟨x, H1, I1, r1, q1⟩ := zz0
  obtain ⟨c, rfl, q1⟩ := q1
  cases r1
  exact not_of (wpAny_truthy_bool ⟨.bl (!c), H1, I1, rfl, q1⟩)
end
end L2
namespace L2
open PySem PySem.Spec PyProof.Rows
noncomputable def SqL (K : PySem.W.Frag) (H : Hp) (a : Addr) (xs : List V) : Prop :=
  Rd H a (.lst xs) ∨
    ∃ (o : Obj) (its : Array Value) (n : Nat), K.lookup a = some o ∧ o.cls = .type "list" ∧ o.dict = none ∧ o.data = .seq its n ∧ its.size ≤ sizeLine ∧ Vals xs its.toList
noncomputable def SqT (K : PySem.W.Frag) (H : Hp) (a : Addr) (xs : List V) : Prop :=
  Rd H a (.tup xs) ∨
    ∃ (o : Obj) (its : Array Value) (n : Nat), K.lookup a = some o ∧ o.cls = .type "tuple" ∧ o.data = .seq its n ∧ its.size ≤ sizeLine ∧ Vals xs its.toList
noncomputable def absV : Value → Option V
  | .none => some .non
  | .bool b => some (.bl b)
  | .int i _ => some (.int i)
  | .str x _ => some (.str x)
  | .bytes b _ => some (.byt b)
  | .float b _ => some (.flt b)
  | .ref a => some (.ref a)
  | .type n => some (.ty n)
  | _ => none
theorem RelV.abs {x : V} {u : Value} (r : RelV x u) : absV u = some x := by
  cases x with
  | non => cases r; rfl
  | bl _ => cases r; rfl
  | int _ => obtain ⟨t, rfl⟩ := r; rfl
  | str _ => obtain ⟨t, rfl⟩ := r; rfl
  | byt _ => obtain ⟨t, rfl⟩ := r; rfl
  | flt _ => obtain ⟨t, rfl⟩ := r; rfl
  | ref _ => cases r; rfl
  | ty _ => cases r; rfl
theorem RelV.inj {x y : V} {u : Value} (r : RelV x u) (q : RelV y u) : x = y := Option.some.inj (r.abs.symm.trans q.abs)
theorem Vals.inj : ∀ {xs ys : List V} {us : List Value}, Vals xs us → Vals ys us → xs = ys
  | _, _, _, .nil, .nil => rfl
  | _, _, _, .cons r t, .cons r' t' => by rw [r.inj r', Vals.inj t t']
section
variable {X : Cx} {pins : List (Addr × Obj)} {σ : St} {H : Hp} {s : Shared} {a : Addr} {xs ys : List V}
theorem SqL.of {K : PySem.W.Frag} (h : H a = some (.lst xs)) : SqL K H a xs := .inl (.inl h)
theorem Inv.list (I : Inv X pins σ H s) (h : SqL X.K H a xs) : ∃ its : List Value, Vals xs its ∧ PlainL s.heap a its.toArray ∧ xs.length ≤ sizeLine := by
  rcases h with h | ⟨o, its, n, hk, hc, hd, hs, hz, r⟩
  · obtain ⟨z, its, n, r, e⟩ := h.ok I.hok
    exact ⟨its, r, ⟨_, n, e, rfl, rfl, rfl⟩, z⟩
  · refine ⟨its.toList, r, ⟨o, n, I.kIn a o hk, hc, hd, by simpa using hs⟩, ?_⟩
    have e := r.length
    simp only [Array.length_toList] at e
    omega
theorem Inv.tuple (I : Inv X pins σ H s) (h : SqT X.K H a xs) : ∃ its : List Value, Vals xs its ∧ IsTup s.heap a its.toArray ∧ xs.length ≤ sizeLine := by
  rcases h with h | ⟨o, its, n, hk, hc, hs, hz, r⟩
  · obtain ⟨z, its, r, p⟩ := h.ok I.hok
    exact ⟨its, r, p, z⟩
  · refine ⟨its.toList, r, ⟨o, I.kIn a o hk, hc, n, by simpa using hs⟩, ?_⟩
    have e := r.length
    simp only [Array.length_toList] at e
    omega
theorem Inv.list_inj (I : Inv X pins σ H s) (h : SqL X.K H a xs) (h' : SqL X.K H a ys) : xs = ys := by
  obtain ⟨its, r, ⟨o, n, e, _, _, d⟩, _⟩ := I.list h
  obtain ⟨its', r', ⟨o', n', e', _, _, d'⟩, _⟩ := I.list h'
  rw [e] at e'; cases e'
  rw [d] at d'
  injection d' with d1 _
  have : its = its' := by simpa using congrArg Array.toList d1
  subst this
  exact r.inj r'
theorem Inv.tuple_inj (I : Inv X pins σ H s) (h : SqT X.K H a xs) (h' : SqT X.K H a ys) : xs = ys := by
  obtain ⟨its, r, ⟨o, e, _, n, d⟩, _⟩ := I.tuple h
  obtain ⟨its', r', ⟨o', e', _, n', d'⟩, _⟩ := I.tuple h'
  rw [e] at e'; cases e'
  rw [d] at d'
  injection d' with d1 _
  have : its = its' := by simpa using congrArg Array.toList d1
  subst this
  exact r.inj r'
end
noncomputable abbrev Cx.wish (X : Cx) (E : Value → Shared → Prop) : Cx := { X with xe := E }
noncomputable abbrev Cx.nox (X : Cx) : Cx := X.wish fun _ _ => False
theorem Cx.Ok.wish {X : Cx} (ok : X.Ok) (E : Value → Shared → Prop) : (X.wish E).Ok :=
  ⟨ok.mod, ok.kind, ok.glob, ok.blt, ok.above, ok.inj, ok.has, ok.cab, ok.hd, ok.frames, ok.stk, ok.exf, ok.bs, ok.bsz, ok.noex, ok.exfs, ok.funs, ok.frf⟩
theorem Cx.Ok.unwish {X : Cx} {E : Value → Shared → Prop} (ok : (X.wish E).Ok) : X.Ok :=
  ⟨ok.mod, ok.kind, ok.glob, ok.blt, ok.above, ok.inj, ok.has, ok.cab, ok.hd, ok.frames, ok.stk, ok.exf, ok.bs, ok.bsz, ok.noex, ok.exfs, ok.funs, ok.frf⟩
section
variable {X : Cx} {pins : List (Addr × Obj)} {σ : St} {H : Hp} {s : Shared} {E : Value → Shared → Prop}
theorem Inv.wish (I : Inv X pins σ H s) (E : Value → Shared → Prop) : Inv (X.wish E) pins σ H s := ⟨I.ok.wish E, I.os, I.bare, I.base, I.loc, I.cell, I.free, I.freeC, I.pin, I.hok, I.len⟩
theorem Inv.unwish (I : Inv (X.wish E) pins σ H s) : Inv X pins σ H s := ⟨I.ok.unwish, I.os, I.bare, I.base, I.loc, I.cell, I.free, I.freeC, I.pin, I.hok, I.len⟩
theorem SP.unwish {D : Ends} {f : Flow} {s' : Shared} (h : SP (X.wish E) pins D f s') : SP X pins D f s' := by
  cases f with
  | next => obtain ⟨σ', H', I, q⟩ := h; exact ⟨σ', H', I.unwish, q⟩
  | brk => obtain ⟨σ', H', I, q⟩ := h; exact ⟨σ', H', I.unwish, q⟩
  | cont => obtain ⟨σ', H', I, q⟩ := h; exact ⟨σ', H', I.unwish, q⟩
  | ret u => obtain ⟨v, σ', H', I, r, q⟩ := h; exact ⟨v, σ', H', I.unwish, r, q⟩
theorem PE.nox {e : Expr} {t : TE} (h : PE X.nox e t) : PE X e t := fun pins s σ H Q I hw =>
  wpAny_mono (h pins s σ H Q (I.wish _) hw) (fun _ _ ⟨v, H', I', r, q⟩ => ⟨v, H', I'.unwish, r, q⟩) fun _ _ z => False.elim z
theorem PT.nox {e : Expr} {t : TT} (h : PT X.nox e t) : PT X e t := fun pins s σ H Q I hw =>
  wpAny_mono (h pins s σ H Q (I.wish _) hw) (fun _ _ ⟨H', I', q⟩ => ⟨H', I'.unwish, q⟩) fun _ _ z => False.elim z
theorem PSs.nox {st : List Stmt} {t : TS} (h : PSs X.nox st t) : PSs X st t := fun pins s σ H D I hw =>
  wpAny_mono (h pins s σ H D (I.wish _) hw) (fun _ _ q => q.unwish) fun _ _ z => False.elim z
end
section
variable {X : Cx} {st : Stmt} {rest : List Stmt} {t u : TS} {e : Expr} {te : TE} {pos : Pos}
noncomputable def tNext : TS := fun D σ H => D.nx σ H
noncomputable def tSeq (t u : TS) : TS := fun D σ H => t { D with nx := u D } σ H
theorem pss_nil : PSs X [] tNext := fun _ _ σ H _ I h => wpAny_execs_nil ⟨σ, H, I, h⟩
theorem pss_cons (h1 : PS X st t) (h2 : PSs X rest u) : PSs X (st :: rest) (tSeq t u) := by
  intro pins s σ H D I h
  refine wpAny_execs_cons (thn (h1 pins s σ H { D with nx := u D } I h) fun f s1 q => ?_)
  cases f with
  | next =>
    obtain ⟨σ', H', I', q⟩ := q
    exact h2 pins s1 σ' H' D I' q
  | ret v => exact q
  | brk => exact q
  | cont => exact q
theorem pss_one (h1 : PS X st t) : PSs X [st] t := by
  intro pins s σ H D I h
  refine wpAny_execs_cons (thn (h1 pins s σ H D I h) fun f s1 q => ?_)
  cases f with
  | next => exact wpAny_execs_nil q
  | ret v => exact q
  | brk => exact q
  | cont => exact q
theorem Inv.quiet {pins : List (Addr × Obj)} {σ : St} {H : Hp} {s : Shared} (I : Inv X pins σ H s) : interactive X.env = false := by simp [interactive, I.ok.kind]
noncomputable def tDrop (te : TE) : TS := fun D σ H => te σ H fun _ H1 => D.nx σ H1
theorem ps_expr (he : PE X e te) (hs : swapsWith e none pos.line X.env = pure false := by rfl) : PS X (.Expr e pos) (tDrop te) := by
  intro pins s σ H D I h
  exact wpAny_Expr_any (thn (he pins s σ H _ I h) fun v s1 ⟨x, H1, I1, r1, q1⟩ => ⟨σ, H1, I1, q1⟩) I.quiet hs
noncomputable def tRet (te : TE) : TS := fun D σ H => te σ H D.rt
theorem ps_ret (he : PE X e te) : PS X (.Return (some e) pos) (tRet te) := by
  intro pins s σ H D I h
  exact wpAny_Return_some (thn (he pins s σ H _ I h) fun v s1 ⟨x, H1, I1, r1, q1⟩ => ⟨x, σ, H1, I1, r1, q1⟩)
noncomputable def tRetN : TS := fun D _ H => D.rt .non H
theorem ps_retN : PS X (.Return none pos) tRetN := fun _ _ σ H _ I h => wpAny_Return_none ⟨.non, σ, H, I, rfl, h⟩
noncomputable def tIfS (c : TT) (t u : TS) : TS := fun D σ H => c σ H fun b H1 => if b = true then t D σ H1 else u D σ H1
theorem ps_if {c : Expr} {a b : List Stmt} {tc : TT} (hc : PT X c tc) (ha : PSs X a t) (hb : PSs X b u) : PS X (.If c a b pos) (tIfS tc t u) := by
  intro pins s σ H D I h
  refine wpAny_If (thn (hc pins s σ H _ I h) fun d s1 zz0 => ?_)
  obtain ⟨H1, I1, q1⟩ := zz0
  cases d with
  | true => exact ha pins s1 σ H1 D I1 q1
  | false => exact hb pins s1 σ H1 D I1 q1
end
noncomputable abbrev TG := V → St → Hp → (St → Hp → Prop) → Prop
noncomputable abbrev TGs := List V → St → Hp → (St → Hp → Prop) → Prop
noncomputable def PG (X : Cx) (target : Expr) (t : TG) : Prop :=
  ∀ (pins : List (Addr × Obj)) (s : Shared) (σ : St) (H : Hp) (v : V) (u : Value) (Q : St → Hp → Prop), Inv X pins σ H s → RelV v u → t v σ H Q →
    wpAny (model X.prog X.w) X.A (assign target X.env u) (fun _ s' => ∃ σ' H', Inv X pins σ' H' s' ∧ Q σ' H') X.xe s
noncomputable def PGs (X : Cx) (ts : List Expr) (t : TGs) : Prop :=
  ∀ (pins : List (Addr × Obj)) (s : Shared) (σ : St) (H : Hp) (vs : List V) (us : List Value) (Q : St → Hp → Prop), Inv X pins σ H s → Vals vs us → t vs σ H Q →
    wpAny (model X.prog X.w) X.A (assignInOrder ((assignEach ts X.env).map (·.2)) us) (fun _ s' => ∃ σ' H', Inv X pins σ' H' s' ∧ Q σ' H') X.xe s
noncomputable abbrev TSet := V → V → V → Hp → (Hp → Prop) → Prop
noncomputable def PSet (X : Cx) (t : TSet) : Prop :=
  ∀ (pins : List (Addr × Obj)) (s : Shared) (σ : St) (H : Hp) (o i v : V) (ov iv u : Value) (Q : Hp → Prop), Inv X pins σ H s → RelV o ov → RelV i iv → RelV v u → t o i v H Q →
    wpAny (model X.prog X.w) X.A (setItem ov iv u) (fun _ s' => ∃ H', Inv X pins σ H' s' ∧ Q H') X.xe s
noncomputable abbrev TIp := V → V → Hp → VK → Prop
noncomputable def PIp (X : Cx) (op : Operator) (t : TIp) : Prop :=
  ∀ (pins : List (Addr × Obj)) (s : Shared) (σ : St) (H : Hp) (x y : V) (v u : Value) (Q : VK), Inv X pins σ H s → RelV x v → RelV y u → t x y H Q →
    wpAny (model X.prog X.w) X.A (inplaceOp op v u) (EP X pins σ Q) X.xe s
section
variable {X : Cx} {pos : Pos}
noncomputable def gName (i : Nat) : TG := fun v σ H Q => Q (σ.set i (some v)) H
theorem pg_name {i : Nat} {x : Str} (hN : X.N.Nodup) (hi : X.N[i]? = some x) (hx : Loc X.env.scope x) (hf : X.fn x = true ∨ X.env.scope.names.lookup x = some .local := by trivial) : PG X (.Name x pos) (gName i) := by
  intro pins s σ H v u Q I r h
  exact wpAny_assign_Name (store_ok I hN hi hx r (fun s' I' => ⟨_, H, I', h⟩) hf)
noncomputable def gNil : TGs := fun vs σ H Q => vs = [] ∧ Q σ H
noncomputable def gCons (t : TG) (u : TGs) : TGs := fun vs σ H Q => ∃ v r, vs = v :: r ∧ t v σ H fun σ' H' => u r σ' H' Q
theorem pgs_nil : PGs X [] gNil := by
  intro pins s σ H vs us Q I r h
  obtain ⟨e, h⟩ := h
  subst e
  cases r
  exact assignInOrder_nil ⟨σ, H, I, h⟩
theorem pgs_cons {e : Expr} {es : List Expr} {t : TG} {u : TGs} (h1 : PG X e t) (h2 : PGs X es u)
    (hs : (assignEach (e :: es) X.env).map (·.2) = assign e X.env :: (assignEach es X.env).map (·.2) := by rfl) : PGs X (e :: es) (gCons t u) := by
  intro pins s σ H vs us Q I r h
  obtain ⟨v, vr, e1, h⟩ := h
  subst e1
  cases r with
  | cons r rr =>
    rw [hs]
    refine assignInOrder_cons (thn (h1 pins s σ H _ _ _ I r h) fun _ s1 zz0 => ?_)
    obtain ⟨σ1, H1, I1, q1⟩ := zz0
    exact h2 pins s1 σ1 H1 _ _ Q I1 rr q1
noncomputable def gTup (K : PySem.W.Frag) (n : Nat) (t : TGs) : TG := fun v σ H Q => ∃ a xs, v = .ref a ∧ SqT K H a xs ∧ xs.length = n ∧ t xs σ H Q
theorem pg_tup {es : List Expr} {k : Nat} {t : TGs} {n : Nat} (hc : X.calm = true) (h : PGs X es t)
    (hn : (assignEach es X.env).length = n := by rfl) (hst : (assignEach es X.env).findIdx? (·.1) = none := by rfl) : PG X (.Tuple es k pos) (gTup X.K n t) := by
  intro pins s σ H v u Q I r hw
  obtain ⟨a, xs, e1, hq, hl, hw⟩ := hw
  subst e1
  cases r
  obtain ⟨its, rv, ht, hz⟩ := I.tuple hq
  refine assign_Tuple_tuple (I.ok.hd hc) ht (by simp [hn, ← hl, rv.length]) hst fun h' hx => ?_
  have I1 : Inv X pins σ H { s with heap := h' } := I.kept (t' := s.toks) fun b o e => hx b o (Nat.ne_of_lt (Heap.lt_size e)) e
  exact h pins _ σ H xs _ Q I1 (by simpa using rv) hw
noncomputable def gSub (to ti : TE) (t : TSet) : TG := fun v σ H Q => to σ H fun o H1 => ti σ H1 fun i H2 => t o i v H2 fun H3 => Q σ H3
theorem pg_sub {o i : Expr} {to ti : TE} {t : TSet} (ho : PE X o to) (hi : PE X i ti) (hs : PSet X t)
    (ha : ∀ v, assign (.Subscript o i pos) X.env v = (do
      let ov ← holding [v] (eval o X.env)
      let iv ← holding [v, ov] (eval i X.env)
      standAt pos
      holding [v, ov, iv] (setItem ov iv v)
      release [v, ov, iv] []) := by intro _; rfl) : PG X (.Subscript o i pos) (gSub to ti t) := by
  intro pins s σ H v u Q I r h
  rw [ha]
  refine wpAny_bind (wpAny_holding (thn (ho pins s σ H _ I h) fun ov s1 zz0 => ?_))
  obtain ⟨x, H1, I1, r1, q1⟩ := zz0
  refine wpAny_bind (wpAny_holding (thn (hi pins s1 σ H1 _ I1 q1) fun iv s2 zz0 => ?_))
  obtain ⟨y, H2, I2, r2, q2⟩ := zz0
  refine wpAny_bind (wpAny_standAt (wpAny_bind (wpAny_holding (thn (hs pins s2 σ H2 x y v ov iv u _ I2 r1 r2 r q2) fun _ s3 zz0 => ?_))))
  obtain ⟨H3, I3, q3⟩ := zz0
  exact wpAny_release ⟨σ, H3, I3, q3⟩
noncomputable def tAsg (te : TE) (g : TG) : TS := fun D σ H => te σ H fun x H1 => g x σ H1 D.nx
theorem ps_asg {tg e : Expr} {te : TE} {g : TG} (he : PE X e te) (hg : PG X tg g) (hs : swapsWithSole [tg] e pos.line X.env = pure false := by rfl) (hw : swappedStores [tg] e X.env = pure none := by rfl)
    (h1 : (assignEach [tg] X.env).map (·.2) = [assign tg X.env] := by rfl) : PS X (.Assign [tg] e pos) (tAsg te g) := by
  intro pins s σ H D I h
  refine wpAny_Assign_stores (thn (he pins s σ H _ I h) fun v s1 ⟨x, H1, I1, r1, q1⟩ => ?_) hs hw
  rw [h1]
  exact thn (hg pins s1 σ H1 x v _ I1 r1 q1) fun _ s2 q => q
theorem ps_set {i : Nat} {x : Str} {e : Expr} {te : TE} {pos' : Pos} (hN : X.N.Nodup) (hi : X.N[i]? = some x) (hx : Loc X.env.scope x) (he : PE X e te) (hs : swapsWith e (some (.Name x pos')) pos.line X.env = pure false := by rfl) (hf : X.fn x = true ∨ X.env.scope.names.lookup x = some .local := by trivial) :
    PS X (.Assign [.Name x pos'] e pos) (tAsg te (gName i)) := by
  intro pins s σ H D I h
  refine wpAny_Assign_Name (thn (he pins s σ H _ I h) fun v s1 zz0 => ?_) hs
  obtain ⟨y, H1, I1, r1, q1⟩ := zz0
  exact store_ok I1 hN hi hx r1 (fun s2 I2 => ⟨_, H1, I2, q1⟩) hf
noncomputable def tAug (i : Nat) (te : TE) (ti : TIp) : TS := fun D σ H => ∃ x, σ[i]? = some (some x) ∧ te σ H fun y H1 => ti x y H1 fun z H2 => D.nx (σ.set i (some z)) H2
theorem ps_aug {i : Nat} {x : Str} {e : Expr} {te : TE} {op : Operator} {ti : TIp} {pos' : Pos} (hN : X.N.Nodup) (hi : X.N[i]? = some x) (hx : Loc X.env.scope x) (he : PE X e te) (ho : PIp X op ti) (hf : X.fn x = true ∨ X.env.scope.names.lookup x = some .local := by trivial) :
    PS X (.AugAssign (.Name x pos') op e pos) (tAug i te ti) := by
  intro pins s σ H D I h
  obtain ⟨v, e1, h⟩ := h
  obtain ⟨m, hn, hl⟩ := I.loc
  have vis : Vis X.env.scope x := by rcases hx with k | k; exact .inl k; exact .inr (.inl k)
  obtain ⟨u, r, l⟩ := hl i x v hi e1 vis
  refine wpAny_AugAssign_Name ?_
  have go : wpAny (model X.prog X.w) X.A (eval e X.env) (fun w s₂ => wpAny (model X.prog X.w) X.A (inplaceOp op u w) (fun r s₃ => wpAny (model X.prog X.w) X.A (storeName X.env x r) (fun _ => SP X pins D .next) X.xe s₃) X.xe s₂) X.xe s := by
    refine thn (he pins s σ H _ I h) fun w s1 zz0 => ?_
    obtain ⟨y, H1, I1, r1, q1⟩ := zz0
    refine thn (ho pins s1 σ H1 v y u w _ I1 r r1 q1) fun z s2 zz0 => ?_
    obtain ⟨zv, H2, I2, r2, q2⟩ := zz0
    exact store_ok I2 hN hi hx r2 (fun s3 I3 => ⟨_, H2, I3, q2⟩) hf
  rcases l with ⟨hk, hm⟩ | ⟨hk, c, hc, hcell⟩
  · exact wpAny_loadName_local I.ok.kind hk hn hm go
  · rcases hk with hk | hk
    · exact wpAny_loadName_cell I.ok.kind hk hc hcell go
    · rcases hx with k | k
      · have : X.env.scope.names.lookup x = some .free := hk
        rw [k] at this; cases this
      · have : X.env.scope.names.lookup x = some .free := hk
        rw [k] at this; cases this
end
section
variable {X : Cx} {pos : Pos}
end
structure It where
  go : Nat → Hp → Prop
  yld : Nat → Hp → V → Hp → Prop
  stop : Nat → Hp → Prop
noncomputable def FpOk (X : Cx) (pins : List (Addr × Obj)) (H : Hp) (b : Addr) : Prop :=
  H b = none ∧ b ≠ X.env.locals ∧ b ∉ X.fs ∧ (b ∈ X.ex ∨ X.s₀.heap.objs.size ≤ b) ∧ (∀ x c, X.env.cells.lookup x = some c → c ≠ b) ∧ ∀ p ∈ X.pn ++ pins, p.1 ≠ b
theorem Inv.fpOk {X : Cx} {pins : List (Addr × Obj)} {σ : St} {H H' : Hp} {s : Shared} {b : Addr} (I : Inv X pins σ H s) (hb : s.heap.objs.size ≤ b) (hn : H' b = none) : FpOk X pins H' b := by
  refine ⟨hn, Nat.ne_of_gt (Nat.lt_of_lt_of_le I.lt hb), I.nofs hb, .inr (Nat.le_trans I.sz hb), fun x c e z => ?_, fun p hp z => ?_⟩
  · obtain ⟨v, q⟩ := I.cell x c e
    exact absurd (Nat.lt_of_lt_of_le q.lt (by rw [z]; exact hb)) (Nat.lt_irrefl _)
  · exact absurd (Nat.lt_of_lt_of_le (Heap.lt_size (I.pin p hp).1) (by rw [z]; exact hb)) (Nat.lt_irrefl _)
structure Turn (P : Program) (w : World) (K : PySem.W.Frag) (tg : Expr) (J : It) (fp : List Addr) (it : Addr) (tn : Nat → Heap → Prop) : Prop where
  mem : it ∈ fp
  obj : ∀ i h, tn i h → ∀ b ∈ fp, ∃ o, h.get? b = some o ∧ ∀ v, o.data ≠ .cell v
  keep : ∀ i h h', tn i h → (∀ b ∈ fp, ∀ o, h.get? b = some o → h'.get? b = some o) → tn i h'
  item : ∀ (X : Cx), X.prog = P → X.w = w → X.K = K → X.calm = true → ∀ (i : Nat) (pins : List (Addr × Obj)) (s : Shared) (σ : St) (H : Hp) (E : Value → Shared → Prop), Inv X pins σ H s → (∀ b ∈ fp, FpOk X pins H b) → tn i s.heap → J.go i H →
    wpAny (model P w) X.A (pyNext (.ref it)) (fun r s1 => ∃ u, r = some u ∧
      wpAny (model P w) X.A (letOwnedTupleGo tg (.ref it) u) (fun _ s2 => ∃ x H', Inv X pins σ H' s2 ∧ RelV x u ∧ J.yld i H x H' ∧ tn (i + 1) s2.heap ∧ ∀ b ∈ fp, H' b = none) E s1) E s
  done : ∀ (X : Cx), X.prog = P → X.w = w → X.K = K → X.calm = true → ∀ (i : Nat) (pins : List (Addr × Obj)) (s : Shared) (σ : St) (H : Hp) (E : Value → Shared → Prop), Inv X pins σ H s → (∀ b ∈ fp, FpOk X pins H b) → tn i s.heap → J.stop i H →
    wpAny (model P w) X.A (pyNext (.ref it)) (fun r s1 => r = none ∧ Inv X pins σ H s1) E s
  self : ∀ (A : Around) (i : Nat) (s : Shared) (Q : Value → Shared → Prop) (E : Value → Shared → Prop), tn i s.heap → Q (.ref it) s → wpAny (model P w) A (pyIter (.ref it)) Q E s
noncomputable abbrev TI := St → Hp → (It → Hp → Prop) → Prop
noncomputable def PIE (X : Cx) (pins : List (Addr × Obj)) (σ : St) (tg : Expr) (R : It → Hp → Prop) (itv : Value) (s2 : Shared) : Prop :=
  ∃ (it : Addr) (fp : List Addr) (tn : Nat → Heap → Prop) (J : It) (H' : Hp), itv = .ref it ∧ Inv X pins σ H' s2 ∧ Turn X.prog X.w X.K tg J fp it tn ∧ tn 0 s2.heap ∧ (∀ b ∈ fp, FpOk X pins H' b) ∧ R J H'
noncomputable def PI (X : Cx) (tg iter : Expr) (wi : TI) : Prop :=
  ∀ (pins : List (Addr × Obj)) (s : Shared) (σ : St) (H : Hp) (R : It → Hp → Prop), Inv X pins σ H s → wi σ H R →
    wpAny (model X.prog X.w) X.A (eval iter X.env) (fun v s1 => wpAny (model X.prog X.w) X.A (pyIter v) (PIE X pins σ tg R) X.xe s1) X.xe s
theorem go_of {M : Model} {A : Around} {E : Value → Shared → Prop} {s : Shared} {tg : Expr} {it : Addr} {u : Value} {o : Obj} {n : String} {vs : Array Value} {Q : Unit → Shared → Prop} (ho : s.heap.get? it = some o) (hc : o.cls = .type n) (hd : o.data = .fields vs)
    (hn : ["enumerate", "zip", "dict_itemiterator", "dict_reverseitemiterator", "odict_iterator", "itertools.zip_longest", "itertools.pairwise"].contains n = false) (hQ : Q () s) : wpAny M A (letOwnedTupleGo tg (.ref it) u) Q E s := by
  unfold letOwnedTupleGo
  cases tg <;> first
    | exact wpAny_pure hQ
    | (cases u <;> first
        | exact wpAny_pure hQ
        | (refine wpAny_bind (wpAny_load ho ?_)
           rw [hc, hd]
           show wpAny M A (if (["enumerate", "zip", "dict_itemiterator", "dict_reverseitemiterator", "odict_iterator", "itertools.zip_longest", "itertools.pairwise"].contains n && vs[0]? == some (rawInt _)) = true then _ else _) Q E s
           rw [if_neg (by intro h; rw [hn, Bool.false_and] at h; cases h)]
           exact wpAny_pure hQ))
noncomputable def Itl (K : PySem.W.Frag) (a : Addr) : It :=
  ⟨fun i H => ∃ xs x, SqL K H a xs ∧ xs[i]? = some x, fun i H x H' => H' = H ∧ ∀ xs, SqL K H a xs → xs[i]? = some x, fun i H => ∃ xs, SqL K H a xs ∧ xs.length ≤ i⟩
noncomputable def Itt (K : PySem.W.Frag) (a : Addr) : It :=
  ⟨fun i H => ∃ xs x, SqT K H a xs ∧ xs[i]? = some x, fun i H x H' => H' = H ∧ ∀ xs, SqT K H a xs → xs[i]? = some x, fun i H => ∃ xs, SqT K H a xs ∧ xs.length ≤ i⟩
noncomputable def Itr (lo : Int) (n : Nat) : It := ⟨fun i _ => i < n, fun i H x H' => H' = H ∧ x = .int (lo + i), fun i _ => n ≤ i⟩
theorem turn_list {P : Program} {w : World} {K : PySem.W.Frag} {tg : Expr} (a it : Addr) : Turn P w K tg (Itl K a) [it] it (fun i h => h.IsListIter it a i) where
  mem := by simp
  obj := fun i h st b hb => by
    have e : b = it := by simpa using hb
    subst e
    obtain ⟨o, e, c, d⟩ := st
    exact ⟨o, e, fun v z => by rw [d] at z; cases z⟩
  keep := fun i h h' st k => st.at fun o e => k it (by simp) o e
  item := by
    intro X hP hw hK hc i pins s σ H E I hf st hg
    subst hP hw hK
    obtain ⟨xs, x, hq, hx⟩ := hg
    obtain ⟨its, rv, p, hz⟩ := I.list hq
    obtain ⟨u, hu, ru⟩ := rv.get hx
    obtain ⟨f0, f1, f2, f3, f4, f5⟩ := hf it (by simp)
    refine wpAny_pyNext_list_item st p.isList (x := u) (by simpa using hu) fun h' st' sb => ?_
    have I1 : Inv X pins σ H { s with heap := h' } := I.turned (t' := s.toks) (fun b o hb e => (sb.2 b hb).trans e) f0 f1 f3 f4 f5
    obtain ⟨o, e, c, d⟩ := id st'
    exact ⟨u, rfl, go_of (s := { s with heap := h' }) e c d (by decide) ⟨x, H, I1, ru, ⟨rfl, fun ys hy => by rw [I.list_inj hy hq]; exact hx⟩, st', fun b hb => (hf b hb).1⟩⟩
  done := by
    intro X hP hw hK hc i pins s σ H E I hf st hg
    subst hP hw hK
    obtain ⟨xs, hq, hx⟩ := hg
    obtain ⟨its, rv, p, hz⟩ := I.list hq
    obtain ⟨f0, f1, f2, f3, f4, f5⟩ := hf it (by simp)
    have hl := rv.length
    exact wpAny_pyNext_list_end (I.ok.hd hc) st p.isList (by simp; omega) fun h' eb => ⟨rfl, I.turned (t' := s.toks) (fun b o hb e => eb b o hb e) f0 f1 f3 f4 f5⟩
  self := fun _ _ _ _ _ st h => wpAny_pyIter_listiter st h
theorem turn_tuple {P : Program} {w : World} {K : PySem.W.Frag} {tg : Expr} (a it : Addr) : Turn P w K tg (Itt K a) [it] it (fun i h => h.IsTupleIter it a i) where
  mem := by simp
  obj := fun i h st b hb => by
    have e : b = it := by simpa using hb
    subst e
    obtain ⟨o, e, c, d⟩ := st
    exact ⟨o, e, fun v z => by rw [d] at z; cases z⟩
  keep := fun i h h' st k => st.at fun o e => k it (by simp) o e
  item := by
    intro X hP hw hK hc i pins s σ H E I hf st hg
    subst hP hw hK
    obtain ⟨xs, x, hq, hx⟩ := hg
    obtain ⟨its, rv, p, hz⟩ := I.tuple hq
    obtain ⟨u, hu, ru⟩ := rv.get hx
    obtain ⟨f0, f1, f2, f3, f4, f5⟩ := hf it (by simp)
    refine wpAny_pyNext_tuple_item st (show s.heap.IsTuple a its.toArray from p) (x := u) (by simpa using hu) fun h' st' sb => ?_
    have I1 : Inv X pins σ H { s with heap := h' } := I.turned (t' := s.toks) (fun b o hb e => (sb.2 b hb).trans e) f0 f1 f3 f4 f5
    obtain ⟨o, e, c, d⟩ := id st'
    exact ⟨u, rfl, go_of (s := { s with heap := h' }) e c d (by decide) ⟨x, H, I1, ru, ⟨rfl, fun ys hy => by rw [I.tuple_inj hy hq]; exact hx⟩, st', fun b hb => (hf b hb).1⟩⟩
  done := by
    intro X hP hw hK hc i pins s σ H E I hf st hg
    subst hP hw hK
    obtain ⟨xs, hq, hx⟩ := hg
    obtain ⟨its, rv, p, hz⟩ := I.tuple hq
    obtain ⟨f0, f1, f2, f3, f4, f5⟩ := hf it (by simp)
    have hl := rv.length
    exact wpAny_pyNext_tuple_end (I.ok.hd hc) st (show s.heap.IsTuple a its.toArray from p) (by simp; omega) fun h' eb => ⟨rfl, I.turned (t' := s.toks) (fun b o hb e => eb b o hb e) f0 f1 f3 f4 f5⟩
  self := fun _ _ _ _ _ st h => wpAny_pyIter_tupleiter st h
theorem turn_range {P : Program} {w : World} {K : PySem.W.Frag} {tg : Expr} (it : Addr) (lo : Int) (n : Nat) : Turn P w K tg (Itr lo n) [it] it (fun i h => IsRangeIter h it (lo + (i : Nat) * 1) ((n : Int) - (i : Nat)) 1) where
  mem := by simp
  obj := fun i h st b hb => by
    have e : b = it := by simpa using hb
    subst e
    exact ⟨_, st, fun v z => by
      have z' : Data.fields _ = Data.cell v := z
      cases z'⟩
  keep := fun i h h' st k => k it (by simp) _ st
  item := by
    intro X hP hw hK hc i pins s σ H E I hf st hg
    subst hP hw hK
    obtain ⟨f0, f1, f2, f3, f4, f5⟩ := hf it (by simp)
    have W := Walks.range (prog := X.prog) (w := X.w) (I.ok.hd hc) it lo 1 n
    refine W.item i s _ _ hg st fun v h' tk hv st' kk => ?_
    obtain ⟨t, rfl⟩ := hv
    have I1 : Inv X pins σ H { s with heap := h', toks := tk } := I.turned (fun b o hb e => kk b o (by simpa using hb) e) f0 f1 f3 f4 f5
    refine ⟨_, rfl, go_of (s := { s with heap := h', toks := tk }) (n := "range_iterator") st' rfl rfl (by decide) ⟨.int (lo + i), H, I1, ⟨t, ?_⟩, ⟨rfl, rfl⟩, st', fun b hb => (hf b hb).1⟩⟩
    rw [Int.mul_one]
  done := by
    intro X hP hw hK hc i pins s σ H E I hf st hg
    subst hP hw hK
    obtain ⟨f0, f1, f2, f3, f4, f5⟩ := hf it (by simp)
    exact wpAny_pyNext_range_end (I.ok.hd hc) st (by have : n ≤ i := hg; omega) fun h' eb => ⟨rfl, I.turned (t' := s.toks) (fun b o hb e => eb b o hb e) f0 f1 f3 f4 f5⟩
  self := fun _ _ _ _ _ st h => wpAny_pyIter_rangeiter st h
end L2
namespace L2
open PySem PySem.Spec PyProof.Rows
section
variable {X : Cx} {tg : Expr}
theorem range_it {pins : List (Addr × Obj)} {σ : St} {H : Hp} {s : Shared} {R : It → Hp → Prop} {E : Value → Shared → Prop} {lo hi : Int} {t u v : Tok} {tk : Nat} (I : Inv X pins σ H s) (h1 : -(2 ^ 62) ≤ lo) (h2 : lo < 2 ^ 62) (h3 : -(2 ^ 62) ≤ hi) (h4 : hi < 2 ^ 62)
    (q : R (Itr lo (hi - lo).toNat) H) : wpAny (model X.prog X.w) X.A (pyIter (.ref s.heap.objs.size)) (PIE X pins σ tg R) E { s with heap := s.heap.push { cls := .type "range", data := .fields #[.int lo t, .int hi u, .int 1 v] }, toks := tk } := by
  refine wpAny_pyIter_range (IsRange.new ..) (small_one h1 h2 h3 h4) ?_
  have I1 : Inv X pins σ H { s with heap := s.heap.push { cls := .type "range", data := .fields #[.int lo t, .int hi u, .int 1 v] }, toks := tk } := I.kept fun b o e => Heap.get?_push_of_some _ e
  refine ⟨(s.heap.push { cls := .type "range", data := .fields #[.int lo t, .int hi u, .int 1 v] }).objs.size, [(s.heap.push { cls := .type "range", data := .fields #[.int lo t, .int hi u, .int 1 v] }).objs.size], _, _, H, rfl,
    I1.kept (t' := tk) fun b o e => Heap.get?_push_of_some _ e, turn_range _ lo (hi - lo).toNat, ?_, fun b hb => ?_, q⟩
  · have e1 : lo + ((0 : Nat) : Int) * 1 = lo := by simp
    have e2 : (((hi - lo).toNat : Nat) : Int) - ((0 : Nat) : Int) = Builtin.Range.rangeSize lo hi 1 := by rw [rangeSize_one]; split <;> omega
    show IsRangeIter _ _ (lo + ((0 : Nat) : Int) * 1) ((((hi - lo).toNat : Nat) : Int) - ((0 : Nat) : Int)) 1
    rw [e1, e2]
    exact Heap.get?_push_size _ rfl
  · have e : b = (s.heap.push { cls := .type "range", data := .fields #[.int lo t, .int hi u, .int 1 v] }).objs.size := by simpa using hb
    subst e
    exact I1.fpOk (Nat.le_refl _) (I1.hok.fresh (Nat.le_refl _))
noncomputable def iRng1 (ta : TA) : TI := fun σ H R => ta σ H fun vs H1 => ∃ j : Int, vs = [.int j] ∧ -(2 ^ 62) ≤ j ∧ j < 2 ^ 62 ∧ R (Itr 0 j.toNat) H1
theorem pi_range1 {a : Expr} {ta : TA} {p pos : Pos} (hg : Gl X "range") (hm : X.mg "range" = none) (ha : PA X [a] ta) (hs : starEach [a] X.env = [(false, eval a X.env)] := by rfl) : PI X tg (.Call (.Name "range" p) [a] [] pos) (iRng1 ta) := by
  intro pins s σ H R I h
  refine Call_ (ld_blt I hg hm boot_range (PyProof.Rows.callWith_type1 (thn (ha pos pins s σ H _ I h) fun us s1 ⟨vs, H1, I1, r1, q1⟩ => ?_) hs rfl))
  obtain ⟨j, e, q1, q2, q⟩ := q1
  subst e
  cases r1 with
  | cons r rr =>
    cases rr
    obtain ⟨t, rfl⟩ := r
    exact call_range_1 (range_it I1 (by omega) (by omega) q1 q2 (by simpa using q))
noncomputable def tFor (wi : TI) (g : TG) (tb : TS) : TS := fun D σ H => wi σ H fun J H1 => ∃ W : Nat → Nat → St → Hp → Prop, (∃ m, W 0 m σ H1) ∧ ∀ i m σ H, W i m σ H →
  (J.stop i H ∧ D.nx σ H) ∨ (J.go i H ∧ ∃ N : St → Hp → Prop, (∀ σ' H', N σ' H' → ∃ m', m' < m ∧ W (i + 1) m' σ' H') ∧ ∀ x H', J.yld i H x H' → g x σ H' fun σ2 H2 => tb { D with nx := N, ct := N, bk := D.nx } σ2 H2)
noncomputable def pinsAt (fp : List Addr) (h : Heap) : List (Addr × Obj) := fp.filterMap fun b => (h.get? b).map fun o => (b, o)
theorem mem_pinsAt {fp : List Addr} {h : Heap} {b : Addr} {o : Obj} (hb : b ∈ fp) (e : h.get? b = some o) : (b, o) ∈ pinsAt fp h := List.mem_filterMap.mpr ⟨b, hb, by rw [e]; rfl⟩
theorem of_pinsAt {fp : List Addr} {h : Heap} {p : Addr × Obj} (hp : p ∈ pinsAt fp h) : p.1 ∈ fp ∧ h.get? p.1 = some p.2 := by
  obtain ⟨b, hb, e⟩ := List.mem_filterMap.mp hp
  cases q : h.get? b with
  | none => rw [q] at e; cases e
  | some o =>
    rw [q] at e
    have e' : (b, o) = p := Option.some.inj e
    subst e'
    exact ⟨hb, q⟩
theorem Inv.pinned {pins : List (Addr × Obj)} {σ : St} {H : Hp} {s : Shared} {fp : List Addr} (I : Inv X pins σ H s) (hf : ∀ b ∈ fp, FpOk X pins H b) (ho : ∀ b ∈ fp, ∃ o, s.heap.get? b = some o ∧ ∀ v, o.data ≠ .cell v) : Inv X (pins ++ pinsAt fp s.heap) σ H s :=
  I.pins_of fun p hp => (List.mem_append.mp hp).elim (fun z => I.pin p (List.mem_append_right _ z)) fun z => by
    obtain ⟨hb, e⟩ := of_pinsAt z
    obtain ⟨f0, f1, f2, _⟩ := hf p.1 hb
    obtain ⟨o, e', d⟩ := ho p.1 hb
    rw [e] at e'; cases e'
    exact ⟨e, f0, f1, f2, d⟩
theorem Inv.unpinned {pins pl : List (Addr × Obj)} {σ : St} {H : Hp} {s : Shared} (I : Inv X (pins ++ pl) σ H s) : Inv X pins σ H s := I.pins_of fun p hp => I.pin p (List.mem_append_right _ (List.mem_append_left _ hp))
theorem ps_for {iter : Expr} {body : List Stmt} {wi : TI} {g : TG} {tb : TS} {pos : Pos} (hp : PassesOwn (model X.prog X.w) X.A X.env X.xe) (hc : X.calm = true) (hi : PI X tg iter wi) (hg : PG X tg g) (hb : PSs X body tb)
    (hs : ∀ x, foldedSetIterable iter X.env x = pure x := by intro _; rfl) : PS X (.For tg iter body [] pos) (tFor wi g tb) := by
  intro pins s σ H D I h
  refine wpAny_For (thn (hi pins s σ H _ I h) fun v s1 h1 => thn h1 fun itv s2 h2 => ?_) hs
  obtain ⟨it, fp, tn, J, H2, e, I2, T, st2, f2, W, ⟨m0, w0⟩, turn⟩ := h2
  subst e
  have stat : ∀ {H' : Hp}, (∀ b ∈ fp, H' b = none) → ∀ b ∈ fp, FpOk X pins H' b := fun hn b hb => ⟨hn b hb, (f2 b hb).2⟩
  refine codeAny_forLoop_any (fun n s' => ∃ i σ' H', Inv X pins σ' H' s' ∧ tn i s'.heap ∧ (∀ b ∈ fp, H' b = none) ∧ W i n σ' H') ?_ m0 ⟨0, σ, H2, I2, st2, fun b hb => (f2 b hb).1, w0⟩
  rintro n s3 ⟨i, σ3, H3, I3, st3, fr3, w3⟩
  rcases turn i n σ3 H3 w3 with ⟨stop, qn⟩ | ⟨go, N, hN, step⟩
  · refine wpAny_passesOwn hp (thn (T.done X rfl rfl rfl hc i pins s3 σ3 H3 X.xe I3 (stat fr3) st3 stop) fun r s4 zz0 => ?_)
    obtain ⟨hr, I4⟩ := zz0
    subst hr
    exact wpAny_execs_nil ⟨σ3, H3, I4, qn⟩
  · refine wpAny_passesOwn hp (thn (T.item X rfl rfl rfl hc i pins s3 σ3 H3 X.xe I3 (stat fr3) st3 go) fun r s4 zz0 => ?_)
    obtain ⟨u, hr, h4⟩ := zz0
    subst hr
    refine wpAny_passesOwn hp (thn h4 fun _ s5 zz0 => ?_)
    obtain ⟨x, H5, I5, r5, y5, st5, fr5⟩ := zz0
    have I5' := I5.pinned (stat fr5) (T.obj _ _ st5)
    refine wpAny_passesOwn hp (thn (hg _ s5 σ3 H5 x u _ I5' r5 (step x H5 y5)) fun _ s6 zz0 => ?_)
    obtain ⟨σ6, H6, I6, q6⟩ := zz0
    refine wpAny_passesOwn hp (thn (hb _ s6 σ6 H6 _ I6 q6) fun f s7 q7 => ?_)
    have again : ∀ {σ7 : St} {H7 : Hp}, Inv X (pins ++ pinsAt fp s5.heap) σ7 H7 s7 → N σ7 H7 → ∃ m, m < n ∧ ∃ i σ' H', Inv X pins σ' H' s7 ∧ tn i s7.heap ∧ (∀ b ∈ fp, H' b = none) ∧ W i m σ' H' := fun {σ7 H7} I7 n7 => by
      obtain ⟨m', hm, w7⟩ := hN σ7 H7 n7
      refine ⟨m', hm, i + 1, σ7, H7, I7.unpinned, T.keep _ _ _ st5 fun b hb o e => (I7.pin (b, o) (List.mem_append_right _ (List.mem_append_right _ (mem_pinsAt hb e)))).1, fun b hb => ?_, w7⟩
      obtain ⟨o, e, d⟩ := T.obj _ _ st5 b hb
      exact (I7.pin (b, o) (List.mem_append_right _ (List.mem_append_right _ (mem_pinsAt hb e)))).2.1
    cases f with
    | next => obtain ⟨σ7, H7, I7, n7⟩ := q7; exact again I7 n7
    | cont => obtain ⟨σ7, H7, I7, n7⟩ := q7; exact again I7 n7
    | brk => obtain ⟨σ7, H7, I7, q7⟩ := q7; exact ⟨σ7, H7, I7.unpinned, q7⟩
    | ret v => obtain ⟨x7, σ7, H7, I7, r7, q7⟩ := q7; exact ⟨x7, σ7, H7, I7.unpinned, r7, q7⟩
end
end L2
namespace L2
open PySem PySem.Spec PyProof.Rows
noncomputable abbrev R2 := V → V → Hp → VK → Prop
noncomputable def OpR (X : Cx) (f : Value → Value → Sem Value) (r : R2) : Prop :=
  ∀ (pins : List (Addr × Obj)) (s : Shared) (σ : St) (H : Hp) (x y : V) (v u : Value) (Q : VK), Inv X pins σ H s → RelV x v → RelV y u → r x y H Q →
    wpAny (model X.prog X.w) X.A (f v u) (EP X pins σ Q) X.xe s
noncomputable def UnR (X : Cx) (f : Value → Sem Value) (r : V → Hp → VK → Prop) : Prop :=
  ∀ (pins : List (Addr × Obj)) (s : Shared) (σ : St) (H : Hp) (x : V) (v : Value) (Q : VK), Inv X pins σ H s → RelV x v → r x H Q →
    wpAny (model X.prog X.w) X.A (f v) (EP X pins σ Q) X.xe s
noncomputable def CallR (X : Cx) (f : Value) (r : List V → Hp → VK → Prop) : Prop :=
  ∀ (pins : List (Addr × Obj)) (s : Shared) (σ : St) (H : Hp) (xs : List V) (us : List Value) (Q : VK), Inv X pins σ H s → Vals xs us → r xs H Q →
    wpAny (model X.prog X.w) X.A (call f us) (EP X pins σ Q) X.xe s
noncomputable def TruR (X : Cx) (r : V → Hp → (Bool → Hp → Prop) → Prop) : Prop :=
  ∀ (pins : List (Addr × Obj)) (s : Shared) (σ : St) (H : Hp) (x : V) (v : Value) (Q : Bool → Hp → Prop), Inv X pins σ H s → RelV x v → r x H Q →
    wpAny (model X.prog X.w) X.A (truthy v) (TP X pins σ Q) X.xe s
noncomputable def tOp (r : R2) (ta tb : TE) : TE := fun σ H Q => ta σ H fun x H1 => tb σ H1 fun y H2 => r x y H2 Q
noncomputable def tUn (r : V → Hp → VK → Prop) (ta : TE) : TE := fun σ H Q => ta σ H fun x H1 => r x H1 Q
noncomputable def rI (C : Int → Int → Prop) (g : Int → Int → V) : R2 := fun x y H Q => ∃ i j, x = .int i ∧ y = .int j ∧ C i j ∧ Q (g i j) H
noncomputable def rI0 (g : Int → Int → V) : R2 := fun x y H Q => ∃ i j, x = .int i ∧ y = .int j ∧ Q (g i j) H
noncomputable def rU (g : Int → V) : V → Hp → VK → Prop := fun x H Q => ∃ i, x = .int i ∧ Q (g i) H
section
variable {X : Cx} {a b c : Expr} {ta tb tc : TE} {pos : Pos}
theorem binT (ha : PE X a ta) (hb : PE X b tb) {pins : List (Addr × Obj)} {s : Shared} {σ : St} {H : Hp} {R : V → V → Hp → Prop} (I : Inv X pins σ H s)
    (h : ta σ H fun x H1 => tb σ H1 fun y H2 => R x y H2) {Q : Value → Shared → Prop} {f : Value → Value → Sem Value}
    (hf : ∀ v u s2 x y H2, Inv X pins σ H2 s2 → RelV x v → RelV y u → R x y H2 → wpAny (model X.prog X.w) X.A (f v u) Q X.xe s2) :
    wpAny (model X.prog X.w) X.A (eval a X.env) (fun v s₁ => wpAny (model X.prog X.w) X.A (eval b X.env) (fun u s₂ => wpAny (model X.prog X.w) X.A (f v u) Q X.xe s₂) X.xe s₁) X.xe s := by
  refine thn (ha pins s σ H _ I h) fun v s1 zz0 => ?_
  obtain ⟨x, H1, I1, r1, q1⟩ := zz0
  refine thn (hb pins s1 σ H1 _ I1 q1) fun u s2 zz0 => ?_
  obtain ⟨y, H2, I2, r2, q2⟩ := zz0
  exact hf v u s2 x y H2 I2 r1 r2 q2
theorem pe_op {op : Operator} {r : R2} (ho : OpR X (binaryOp op) r) (ha : PE X a ta) (hb : PE X b tb) : PE X (.BinOp a op b pos) (tOp r ta tb) := by
  intro pins s σ H Q I h
  exact wpAny_BinOp (binT ha hb I h fun v u s2 x y H2 I2 rx ry q => ho pins s2 σ H2 x y v u Q I2 rx ry q)
theorem pe_un {op : UnaryOp} {r : V → Hp → VK → Prop} (ho : UnR X (unaryOp op) r) (ha : PE X a ta) : PE X (.UnaryOp op a pos) (tUn r ta) := by
  intro pins s σ H Q I h
  exact UnaryOp_ (thn (ha pins s σ H _ I h) fun v s1 ⟨x, H1, I1, r1, q1⟩ => ho pins s1 σ H1 x v Q I1 r1 q1)
theorem opI {f : Value → Value → Sem Value} {C : Int → Int → Prop} {g : Int → Int → Int}
    (rule : ∀ (i j : Int) (t u : Tok) (s : Shared) (Q : Value → Shared → Prop) (E : Value → Shared → Prop), C i j → Q (.int (g i j) s.toks) { s with toks := s.toks + 1 } → wpAny (model X.prog X.w) X.A (f (.int i t) (.int j u)) Q E s) :
    OpR X f (rI C fun i j => .int (g i j)) := by
  intro pins s σ H x y v u Q I rx ry h
  obtain ⟨i, j, rfl, rfl, hc, q⟩ := h
  obtain ⟨t, rfl⟩ := rx
  obtain ⟨t', rfl⟩ := ry
  exact rule i j t t' s _ _ hc ⟨.int (g i j), H, I.tok _, ⟨_, rfl⟩, q⟩
theorem opI0 {f : Value → Value → Sem Value} {g : Int → Int → Int}
    (rule : ∀ (i j : Int) (t u : Tok) (s : Shared) (Q : Value → Shared → Prop) (E : Value → Shared → Prop), Q (.int (g i j) s.toks) { s with toks := s.toks + 1 } → wpAny (model X.prog X.w) X.A (f (.int i t) (.int j u)) Q E s) :
    OpR X f (rI0 fun i j => .int (g i j)) := by
  intro pins s σ H x y v u Q I rx ry h
  obtain ⟨i, j, rfl, rfl, q⟩ := h
  obtain ⟨t, rfl⟩ := rx
  obtain ⟨t', rfl⟩ := ry
  exact rule i j t t' s _ _ ⟨.int (g i j), H, I.tok _, ⟨_, rfl⟩, q⟩
theorem opB0 {f : Value → Value → Sem Value} {g : Int → Int → Bool}
    (rule : ∀ (i j : Int) (t u : Tok) (s : Shared) (Q : Value → Shared → Prop) (E : Value → Shared → Prop), Q (.bool (g i j)) s → wpAny (model X.prog X.w) X.A (f (.int i t) (.int j u)) Q E s) :
    OpR X f (rI0 fun i j => .bl (g i j)) := by
  intro pins s σ H x y v u Q I rx ry h
  obtain ⟨i, j, rfl, rfl, q⟩ := h
  obtain ⟨t, rfl⟩ := rx
  obtain ⟨t', rfl⟩ := ry
  exact rule i j t t' s _ _ ⟨.bl (g i j), H, I, rfl, q⟩
noncomputable def CPow (i j : Int) : Prop := 0 ≤ j ∧ j ≤ 1000000 ∧ i.natAbs < 2 ^ 64
theorem op_add : OpR X (binaryOp .Add) (rI0 fun i j => .int (i + j)) := opI0 fun _ _ _ _ _ _ _ q => add_int q
theorem op_sub : OpR X (binaryOp .Sub) (rI0 fun i j => .int (i - j)) := opI0 fun _ _ _ _ _ _ _ q => sub_int q
theorem op_mod : OpR X (binaryOp .Mod) (rI (fun _ j => 0 < j) fun i j => .int (i % j)) := opI fun i j _ _ _ _ _ hc q => by
  have h1 : (0 : Int) < j := hc
  exact mod_int' (by omega) (by rw [Int.fmod_eq_emod_of_nonneg i (by omega)]; exact q)
theorem op_pow : OpR X (binaryOp .Pow) (rI CPow fun i j => .int (i ^ j.toNat)) := opI fun _ _ _ _ _ _ _ hc q => pow_int_small hc.1 hc.2.1 hc.2.2 q
theorem op_shl : OpR X (binaryOp .LShift) (rI CPow fun i j => .int (i * 2 ^ j.toNat)) := opI fun _ _ _ _ _ _ _ hc q => lshift_int_small hc.1 hc.2.1 hc.2.2 q
theorem op_and : OpR X (binaryOp .BitAnd) (rI0 fun i j => .int (Builtin.bitAnd i j)) := opI0 fun _ _ _ _ _ _ _ q => and_int q
theorem op_or : OpR X (binaryOp .BitOr) (rI0 fun i j => .int (Builtin.bitOr i j)) := opI0 fun _ _ _ _ _ _ _ q => or_int q
theorem iop_add : OpR X (inplaceOp .Add) (rI0 fun i j => .int (i + j)) := opI0 fun _ _ _ _ _ _ _ q => iadd_int q
theorem unI {f : Value → Sem Value} {g : Int → Int}
    (rule : ∀ (i : Int) (t : Tok) (s : Shared) (Q : Value → Shared → Prop) (E : Value → Shared → Prop), Q (.int (g i) s.toks) { s with toks := s.toks + 1 } → wpAny (model X.prog X.w) X.A (f (.int i t)) Q E s) :
    UnR X f (rU fun i => .int (g i)) := by
  intro pins s σ H x v Q I rx h
  obtain ⟨i, rfl, q⟩ := h
  obtain ⟨t, rfl⟩ := rx
  exact rule i t s _ _ ⟨.int (g i), H, I.tok _, ⟨_, rfl⟩, q⟩
theorem un_neg : UnR X (unaryOp .USub) (rU fun i => .int (-i)) := unI fun _ _ _ _ _ q => neg_int q
end
section
variable {X : Cx} {a b c : Expr} {ta tb tc : TE} {pos : Pos}
theorem fin_bl {pins : List (Addr × Obj)} {σ : St} {H : Hp} {s : Shared} {Q : VK} {k k' : Bool} (I : Inv X pins σ H s) (q : Q (.bl k) H) (e : k = k') : EP X pins σ Q (.bool k') s := by
  subst e
  exact ⟨.bl k, H, I, rfl, q⟩
theorem op_lt : OpR X (compareOp .Lt) (rI0 fun i j => .bl (decide (i < j))) := opB0 fun _ _ _ _ _ _ _ q => lt_int q
theorem op_le : OpR X (compareOp .LtE) (rI0 fun i j => .bl (decide (i ≤ j))) := opB0 fun _ _ _ _ _ _ _ q => le_int q
theorem op_gt : OpR X (compareOp .Gt) (rI0 fun i j => .bl (decide (j < i))) := opB0 fun _ _ _ _ _ _ _ q => gt_int q
theorem op_isN : OpR X (compareOp .Is) (fun x y H Q => y = .non ∧ Q (.bl (decide (x = .non))) H) := by
  intro pins s σ H x y v u Q I rx ry h
  obtain ⟨rfl, q⟩ := h
  cases ry
  refine is_none_gen (fin_bl I q ?_)
  cases x <;> first
    | (cases rx; rfl)
    | (obtain ⟨t, rfl⟩ := rx; rfl)
theorem OpR.or {f : Value → Value → Sem Value} {r r' : R2} (h : OpR X f r) (h' : OpR X f r') : OpR X f (fun x y H Q => r x y H Q ∨ r' x y H Q) := by
  intro pins s σ H x y v u Q I rx ry q
  rcases q with q | q
  · exact h pins s σ H x y v u Q I rx ry q
  · exact h' pins s σ H x y v u Q I rx ry q
theorem nomark (b : Expr) {op : CmpOp} (h : op ≠ .In := by decide) (h2 : op ≠ .NotIn := by decide) : behindInMarks op b = false := by
  have e1 : (op == CmpOp.In) = false := by cases op <;> first | rfl | exact absurd rfl h
  have e2 : (op == CmpOp.NotIn) = false := by cases op <;> first | rfl | exact absurd rfl h2
  cases b <;> simp [behindInMarks, e1, e2]
theorem pe_cmpR {op : CmpOp} {r : R2} (ho : OpR X (compareOp op) r) (ha : PE X a ta) (hb : PE X b tb) (hm : behindInMarks op b = false) : PE X (.Compare a [op] [b] pos) (tOp r ta tb) := by
  intro pins s σ H Q I h
  exact wpAny_Compare1 (binT ha hb I h fun v u s2 x y H2 I2 rx ry q => ho pins s2 σ H2 x y v u Q I2 rx ry q) hm
noncomputable def tTest (t : TE) : TT := fun σ H Q => t σ H fun x H' => ∃ k, x = .bl k ∧ Q k H'
theorem pt_cmpR {op : CmpOp} {r : R2} (ho : OpR X (compareOp op) r) (ha : PE X a ta) (hb : PE X b tb) (hm : behindInMarks op b = false) : PT X (.Compare a [op] [b] pos) (tTest (tOp r ta tb)) := by
  intro pins s σ H Q I h
  refine wpAny_isTrue_Compare1 (thn (ha pins s σ H _ I h) fun v s1 ⟨x, H1, I1, r1, q1⟩ => thn (hb pins s1 σ H1 _ I1 q1) fun u s2 ⟨y, H2, I2, r2, q2⟩ =>
    thn (ho pins s2 σ H2 x y v u _ I2 r1 r2 q2) fun c s3 ⟨z, H3, I3, r3, k, e, q3⟩ => ?_) hm
  subst e
  cases r3
  exact wpAny_truthy_bool ⟨H3, I3, q3⟩
noncomputable def tChain (r r' : R2) (ta tb tc : TE) : TE := fun σ H Q => ta σ H fun x H1 => tb σ H1 fun y H2 => r x y H2 fun z H3 => ∃ k, z = .bl k ∧
  (if k = true then tc σ H3 fun w' H4 => r' y w' H4 Q else Q (.bl false) H3)
theorem pe_chain {op op' : CmpOp} {r r' : R2} (ho : OpR X (compareOp op) r) (ho' : OpR X (compareOp op') r') (ha : PE X a ta) (hb : PE X b tb) (hc : PE X c tc)
    (hm : lastMarks [op, op'] [b, c] = false := by with_unfolding_all rfl) : PE X (.Compare a [op, op'] [b, c] pos) (tChain r r' ta tb tc) := by
  intro pins s σ H Q I h
  refine Compare_chain (thn (ha pins s σ H _ I h) fun v s1 ⟨x, H1, I1, r1, q1⟩ => chain_link (thn (hb pins s1 σ H1 _ I1 q1) fun u s2 ⟨y, H2, I2, r2, q2⟩ =>
    thn (ho pins s2 σ H2 x y v u _ I2 r1 r2 q2) fun d s3 ⟨z, H3, I3, r3, k, e, q3⟩ => ?_)) hm
  subst e
  cases r3
  refine wpAny_truthy_bool ?_
  cases k with
  | false => exact ite_ff ⟨.bl false, H3, I3, rfl, q3⟩
  | true => exact ite_tt (chain_last (thn (hc pins s3 σ H3 _ I3 q3) fun w' s4 ⟨z', H4, I4, r4, q4⟩ => ho' pins s4 σ H4 y z' u w' Q I4 r2 r4 q4))
theorem pt_chain {op op' : CmpOp} {r r' : R2} (ho : OpR X (compareOp op) r) (ho' : OpR X (compareOp op') r') (ha : PE X a ta) (hb : PE X b tb) (hc : PE X c tc)
    (hm : lastMarks [op, op'] [b, c] = false := by with_unfolding_all rfl) : PT X (.Compare a [op, op'] [b, c] pos) (tTest (tChain r r' ta tb tc)) := by
  intro pins s σ H Q I h
  refine isTrue_chain (thn (ha pins s σ H _ I h) fun v s1 ⟨x, H1, I1, r1, q1⟩ => test_link (thn (hb pins s1 σ H1 _ I1 q1) fun u s2 ⟨y, H2, I2, r2, q2⟩ =>
    thn (ho pins s2 σ H2 x y v u _ I2 r1 r2 q2) fun d s3 ⟨z, H3, I3, r3, k, e, q3⟩ => ?_)) hm
  subst e
  cases r3
  refine wpAny_truthy_bool ?_
  cases k with
  | false =>
    obtain ⟨k', e', q'⟩ := q3
    cases e'
    exact ite_ff ⟨H3, I3, q'⟩
  | true =>
    refine ite_tt (test_last (thn (hc pins s3 σ H3 _ I3 q3) fun w' s4 ⟨z', H4, I4, r4, q4⟩ => thn (ho' pins s4 σ H4 y z' u w' _ I4 r2 r4 q4) fun d' s5 zz0 => ?_))
    obtain ⟨z2, H5, I5, r5, k2, e2, q5⟩ := zz0
    subst e2
    cases r5
    exact wpAny_truthy_bool ⟨H5, I5, q5⟩
noncomputable def TruV (K : PySem.W.Frag) (x : V) (H : Hp) (k : Bool) : Prop :=
  match x with
  | .non => k = false
  | .bl b => k = b
  | .int i => k = (i != 0)
  | .str y => y.length ≤ sizeLine ∧ k = ((y.length : Int) != 0)
  | .byt y => y.size ≤ sizeLine ∧ k = ((y.size : Int) != 0)
  | .ref p => (∃ xs, SqL K H p xs ∧ k = !xs.isEmpty) ∨ (∃ xs, SqT K H p xs ∧ k = !xs.isEmpty) ∨ ∃ kvs, H p = some (.dK kvs) ∧ k = !kvs.isEmpty
  | _ => False
theorem isEmpty_kv {κ : Type} {kvs : List (κ × V)} {vs : List (κ × Value)} (r : KV kvs vs) : (!vs.isEmpty) = !kvs.isEmpty := by
  cases r <;> rfl
theorem isEmpty_of {xs : List V} {its : List Value} (r : Vals xs its) : (!its.toArray.isEmpty) = !xs.isEmpty := by
  cases r <;> simp
theorem line63 : (sizeLine : Nat) < 2 ^ 63 := by rw [sizeLine_eq]; decide
theorem tru_ok : TruR X (fun x H Q => ∃ k, TruV X.K x H k ∧ Q k H) := by
  intro pins s σ H x v Q I rx h
  obtain ⟨k, e, q⟩ := h
  have hl := line63
  have hs : sizeLine = 16777216 := sizeLine_eq
  cases x with
  | non =>
    cases rx
    have e' : k = false := e
    subst e'
    exact truthy_none ⟨H, I, q⟩
  | bl b =>
    cases rx
    have e' : k = b := e
    subst e'
    exact wpAny_truthy_bool ⟨H, I, q⟩
  | int i =>
    obtain ⟨t, rfl⟩ := rx
    have e' : k = (i != 0) := e
    subst e'
    exact PySem.P.truthy_int ⟨H, I, q⟩
  | str y =>
    obtain ⟨t, rfl⟩ := rx
    obtain ⟨hy, e'⟩ : y.length ≤ sizeLine ∧ k = ((y.length : Int) != 0) := e
    subst e'
    exact PySem.P.truthy_str (by omega) ⟨H, I.tok _, q⟩
  | byt y =>
    obtain ⟨t, rfl⟩ := rx
    obtain ⟨hy, e'⟩ : y.size ≤ sizeLine ∧ k = ((y.size : Int) != 0) := e
    subst e'
    exact PySem.W.truthy_bytes (by omega) ⟨H, I.tok _, q⟩
  | ref p =>
    cases rx
    have e' : (∃ xs, SqL X.K H p xs ∧ k = !xs.isEmpty) ∨ (∃ xs, SqT X.K H p xs ∧ k = !xs.isEmpty) ∨ ∃ kvs, H p = some (.dK kvs) ∧ k = !kvs.isEmpty := e
    rcases e' with ⟨xs, hx, e'⟩ | ⟨xs, hx, e'⟩ | ⟨kvs, hx, e'⟩
    · subst e'
      obtain ⟨its, r, pl, hz⟩ := I.list hx
      have hlen := r.length
      exact wpAny_truthy_list pl.isList (by simp only [List.size_toArray]; omega) ⟨H, I.tok _, by rw [isEmpty_of r]; exact q⟩
    · subst e'
      obtain ⟨its, r, pl, hz⟩ := I.tuple hx
      have hlen := r.length
      exact truthy_tuple pl (by simp only [List.size_toArray]; omega) ⟨H, I.tok _, by rw [isEmpty_of r]; exact q⟩
    · subst e'
      obtain ⟨hz, hS, vs, r, m⟩ : kvs.length ≤ sizeLine ∧ (p == sysModules) = false ∧ ∃ vs, KV kvs vs ∧ s.heap.DictOf (mixKind X.prog X.w) p vs := I.hok p _ hx
      have hlen : kvs.length = vs.length := Paired.length r
      exact wpAny_truthy_dict hS m (by omega) ⟨H, I.tok _, by rw [isEmpty_kv r]; exact q⟩
  | _ => exact (show False from e).elim
theorem pt_truth (ha : PE X a ta) (he : ∀ whole, isTrue a X.env whole = (do let v ← whole; standAt a.pos; holding [v] (truthy v))) :
    PT X a (fun σ H Q => ta σ H fun x H' => ∃ k, TruV X.K x H' k ∧ Q k H') := by
  intro pins s σ H Q I h
  exact isTrue_plain (thn (ha pins s σ H _ I h) fun v s1 ⟨x, H1, I1, r1, q1⟩ => tru_ok pins s1 σ H1 x v Q I1 r1 q1) (he _)
theorem op_add_str : OpR X (binaryOp .Add) (fun x y H Q => ∃ i j, x = .str i ∧ y = .str j ∧ i.length + j.length ≤ sizeLine ∧ Q (.str (i ++ j)) H) := by
  intro pins s σ H x y v u Q I rx ry h
  obtain ⟨i, j, rfl, rfl, hz, q⟩ := h
  obtain ⟨t, rfl⟩ := rx
  obtain ⟨t', rfl⟩ := ry
  exact add_str (fun t' tk => ⟨.str (i ++ j), H, I.tok _, ⟨_, rfl⟩, q⟩) hz
theorem vals1 {x : V} {us : List Value} (r : Vals [x] us) : ∃ u, us = [u] ∧ RelV x u := by
  cases r with
  | cons r1 r2 => cases r2; exact ⟨_, rfl, r1⟩
theorem vals2 {x y : V} {us : List Value} (r : Vals [x, y] us) : ∃ u w', us = [u, w'] ∧ RelV x u ∧ RelV y w' := by
  cases r with
  | cons r1 r2 =>
    cases r2 with
    | cons r3 r4 => cases r4; exact ⟨_, _, rfl, r1, r3⟩
theorem call_int1 : CallR X (.type "int") (fun xs H Q => (∃ i, xs = [.int i] ∧ Q (.int i) H) ∨ ∃ k, xs = [.bl k] ∧ Q (.int (if k then 1 else 0)) H) := by
  intro pins s σ H xs us Q I r h
  rcases h with ⟨i, rfl, q⟩ | ⟨k, rfl, q⟩
  · obtain ⟨u, rfl, t, rfl⟩ := vals1 r
    exact call_int_int ⟨.int i, H, I, ⟨_, rfl⟩, q⟩
  · obtain ⟨u, rfl, r1⟩ := vals1 r
    cases r1
    exact call_int_bool ⟨.int (if k then 1 else 0), H, I.tok _, ⟨_, rfl⟩, q⟩
noncomputable def LenV (K : PySem.W.Frag) (x : V) (H : Hp) (n : Nat) : Prop :=
  match x with
  | .str y => y.length ≤ sizeLine ∧ n = y.length
  | .byt y => y.size ≤ sizeLine ∧ n = y.size
  | .ref p => (∃ xs, SqL K H p xs ∧ n = xs.length) ∨ ∃ xs, SqT K H p xs ∧ n = xs.length
  | _ => False
theorem call_len : CallR X (.builtin "len") (fun xs H Q => ∃ x n, xs = [x] ∧ LenV X.K x H n ∧ Q (.int n) H) := by
  intro pins s σ H xs us Q I r h
  obtain ⟨x, n, rfl, e, q⟩ := h
  obtain ⟨u, rfl, rx⟩ := vals1 r
  have hl := line63
  have hs : sizeLine = 16777216 := sizeLine_eq
  cases x with
  | str y =>
    obtain ⟨t, rfl⟩ := rx
    obtain ⟨hy, e'⟩ : y.length ≤ sizeLine ∧ n = y.length := e
    subst e'
    exact len_str (by omega) ⟨.int _, H, I.tok _, ⟨_, rfl⟩, q⟩
  | byt y =>
    obtain ⟨t, rfl⟩ := rx
    obtain ⟨hy, e'⟩ : y.size ≤ sizeLine ∧ n = y.size := e
    subst e'
    exact PySem.W.len_bytes (by omega) ⟨.int _, H, I.tok _, ⟨_, rfl⟩, q⟩
  | ref p =>
    cases rx
    have e' : (∃ xs, SqL X.K H p xs ∧ n = xs.length) ∨ ∃ xs, SqT X.K H p xs ∧ n = xs.length := e
    rcases e' with ⟨xs, hx, e'⟩ | ⟨xs, hx, e'⟩
    · subst e'
      obtain ⟨its, r', pl, hz⟩ := I.list hx
      have hlen := r'.length
      exact Calls.call_len_list pl.isList (by simp only [List.size_toArray]; omega) ⟨.int xs.length, H, I.tok _, ⟨_, by simp only [List.size_toArray]; rw [hlen]⟩, q⟩
    · subst e'
      obtain ⟨its, r', pl, hz⟩ := I.tuple hx
      have hlen := r'.length
      exact len_tuple pl (by simp only [List.size_toArray]; omega) ⟨.int xs.length, H, I.tok _, ⟨_, by simp only [List.size_toArray]; rw [hlen]⟩, q⟩
  | _ => exact (show False from e).elim
end
end L2
namespace L2
open PySem PySem.Spec PyProof.Rows
structure ObjM (h : Heap) (x dx C : Addr) (mA : Str → Option Value) : Prop where
  obj : h.get? x = some (PySem.W.instObj C dx)
  ns : h.Ns1 dx mA
  ne : dx ≠ x
theorem lookIn_ns {h : Heap} {dx : Addr} {mA : Str → Option Value} (n : h.Ns1 dx mA) : ∃ od, h.get? dx = some od ∧ ∀ name, PySem.W.lookIn name od = some (mA name) := by
  obtain ⟨o, es, ep, ho, hd, hk, _, hm⟩ := n
  refine ⟨o, ho, fun name => ?_⟩
  have e := hm name
  unfold nsFind findBy at e
  rw [← Array.find?_toList] at e
  unfold PySem.W.lookIn
  rw [hd]
  dsimp only
  split
  · rename_i y q
    rw [q] at e
    exact congrArg some e
  · rename_i q
    rw [q] at e
    have a : es.toList.any (·.refKey) = false := by
      rw [List.any_eq_false]
      intro y hy
      obtain ⟨z, t, hkey⟩ := hk y (Array.mem_toList_iff.mp hy)
      simp [DictEntry.refKey, hkey]
    have a' : ¬ es.toList.any (·.refKey) = true := by rw [a]; exact Bool.false_ne_true
    rw [if_neg a']
    exact congrArg some e
theorem ObjM.look {h : Heap} {x dx C : Addr} {mA : Str → Option Value} (I : ObjM h x dx C mA) : ∃ od, PySem.W.InstAt h x (PySem.W.instObj C dx) C (some od) ∧ ∀ name, PySem.W.lookIn name od = some (mA name) :=
  let ⟨od, ho, hl⟩ := lookIn_ns I.ns
  ⟨od, ⟨I.obj, rfl, rfl, ho⟩, hl⟩
section
variable {prog : Program} {w : World} {A : Around} {E : Value → Shared → Prop} {s : Shared} {K : PySem.W.Frag} {x dx C f : Addr} {mA : Str → Option Value} {name : Str} {v : Value}
end
section
variable {P : Program} {w : World} {H H' : Hp} {h h' : Heap} {a C dx : Addr} {fs fs' : List (Str × V)}
theorem ins_get (hok : HOk P w H h) (e : H a = some (.ins C dx fs)) : ∃ mA, ObjM h a dx C mA ∧ (∀ f, RelO (fs.lookup f) (mA f)) ∧ PySem.Within mA (fs.map (·.1)) ∧ fs.length ≤ 1000 ∧ H dx = some (.own a) := by
  obtain ⟨d, z, ne, ob, mA, n, r, q⟩ := (show ObjOk P w H h a (.ins C dx fs) from hok a _ e)
  exact ⟨mA, ⟨ob, n, ne⟩, r, q, z, d⟩
end
structure Cls (K : PySem.W.Frag) (C : Addr) : Prop where
  pg : PySem.W.plainGet K C Str.empty = true
  hd : PySem.W.hasDictIn K C = true
  po : PySem.W.plainOver K C = true
  sa : PySem.W.findIn K (.ref C) "__setattr__" = some (some (.builtin "object.__setattr__"))
theorem Cls.get {K : PySem.W.Frag} {C : Addr} (c : Cls K C) (f : Str) : PySem.W.plainGet K C f = true := c.pg
noncomputable def NoAttr (K : PySem.W.Frag) (C : Addr) (f : Str) : Prop := PySem.W.findIn K (.ref C) f = some none
section
variable {X : Cx} {pins : List (Addr × Obj)} {σ : St} {H : Hp} {s : Shared} {a C dx : Addr} {fs : List (Str × V)} {f : Str} {v : V} {A : Around} {E : Value → Shared → Prop}
theorem attr_of {prog : Program} {w : World} {env : Env} {e : Expr} {f : Str} {pos : Pos} {s : Shared} {Q : Value → Shared → Prop} (hb : attributeBase e f env (eval e env) = eval e env)
    (h : wpAny (model prog w) A (eval e env) (fun o s₁ => wpAny (model prog w) A (getAttr o f true) Q E s₁) E s) : wpAny (model prog w) A (eval (.Attribute e f pos) env) Q E s :=
  Attribute_any_ h (by rw [arm_eval_Attribute, hb])
end
section
variable {X : Cx} {o e value : Expr} {f : Str} {pos pos' tpos : Pos} {ta tv : TE}
end
section
variable {X : Cx} {pins : List (Addr × Obj)} {σ : St} {H : Hp} {s : Shared} {A : Around} {E : Value → Shared → Prop} {Q : Value → Shared → Prop} {c : Value} {b : Bool}
inductive TyOf (K : PySem.W.Frag) (H : Hp) : V → Value → Prop where
  | non : TyOf K H .non (.type "NoneType")
  | bl (x : Bool) : TyOf K H (.bl x) (.type "bool")
  | int (i : Int) : TyOf K H (.int i) (.type "int")
  | str (x : Str) : TyOf K H (.str x) (.type "str")
  | flt (x : UInt64) : TyOf K H (.flt x) (.type "float")
  | lst {a : Addr} {xs : List V} (e : H a = some (.lst xs)) : TyOf K H (.ref a) (.type "list")
  | frz {a : Addr} {o : Obj} {xs : List V} (e : H a = some (.frz o (.lst xs))) : TyOf K H (.ref a) (.type "list")
  | tup {a : Addr} {xs : List V} (e : H a = some (.tup xs)) : TyOf K H (.ref a) (.type "tuple")
  | dK {a : Addr} {kvs : List (Key × V)} (e : H a = some (.dK kvs)) : TyOf K H (.ref a) (.type "dict")
  | dT {a : Addr} {kvs : List (List Key × V)} (e : H a = some (.dT kvs)) : TyOf K H (.ref a) (.type "dict")
  | ins {a C dx : Addr} {fs : List (Str × V)} (e : H a = some (.ins C dx fs)) (cl : Cls K C) (ha : PySem.W.findIn K (.ref C) "__class__" = some (some (.builtin "object.__class__")))
      (hn : PySem.W.specialIn K (.builtin "object.__class__") "__get__" = some (some (.builtin "getset_descriptor.__get__"))) (htk : PySem.W.takesIn K (.builtin "object.__class__") = some true)
      (hm : PySem.W.mroIn K C (.type "object") = some true) : TyOf K H (.ref a) (.ref C)
theorem isinst_ok {x : V} {u t : Value} (I : Inv X pins σ H s) (rx : RelV x u) (ty : TyOf X.K H x t) (e : PySem.W.kitOne X.K t c = some b) (h : ∀ tk, Q (.bool b) { s with toks := tk }) :
    wpAny (model X.prog X.w) A (call (.builtin "isinstance") [u, c]) Q E s := by
  cases ty with
  | non => cases (show u = Value.none from rx); exact PySem.W.kia_one PySem.W.kitx_none I.kIn True.intro e (fun z => nomatch z) h
  | bl y => cases (show u = Value.bool y from rx); exact PySem.W.kia_one PySem.W.kitx_bool I.kIn True.intro e (fun z => nomatch z) h
  | int i => obtain ⟨t, q⟩ := (show ∃ t, u = Value.int i t from rx); cases q; exact PySem.W.kia_one PySem.W.kitx_int I.kIn True.intro e (fun z => nomatch z) h
  | str y => obtain ⟨t, q⟩ := (show ∃ t, u = Value.str y t from rx); cases q; exact PySem.W.kia_one PySem.W.kitx_str I.kIn True.intro e (fun z => nomatch z) h
  | flt y => obtain ⟨t, q⟩ := (show ∃ t, u = Value.float y t from rx); cases q; exact PySem.W.kia_one PySem.W.kitx_float I.kIn True.intro e (fun z => nomatch z) h
  | @lst a xs ea =>
    cases (show u = Value.ref a from rx)
    obtain ⟨_, _, n, _, h1⟩ := (show ObjOk X.prog X.w H s.heap a (.lst xs) from I.hok a _ ea)
    exact PySem.W.kia_one PySem.W.kitx_list I.kIn ⟨_, h1, rfl⟩ e (fun z => nomatch z) h
  | @frz a ob xs ea =>
    cases (show u = Value.ref a from rx)
    obtain ⟨_, _, _, n, _, h1⟩ := (show ObjOk X.prog X.w H s.heap a (.frz ob (.lst xs)) from I.hok a _ ea)
    exact PySem.W.kia_one PySem.W.kitx_list I.kIn ⟨_, h1, rfl⟩ e (fun z => nomatch z) h
  | @tup a xs ea =>
    cases (show u = Value.ref a from rx)
    obtain ⟨_, _, _, p⟩ := (show ObjOk X.prog X.w H s.heap a (.tup xs) from I.hok a _ ea)
    obtain ⟨o, h1, h2, _⟩ := p
    exact PySem.W.kia_one PySem.W.kitx_tuple I.kIn ⟨o, h1, h2⟩ e (fun z => nomatch z) h
  | @dK a kvs ea =>
    cases (show u = Value.ref a from rx)
    obtain ⟨_, _, vs, _, p⟩ := (show ObjOk X.prog X.w H s.heap a (.dK kvs) from I.hok a _ ea)
    obtain ⟨o, es, ep, h1, h2, _⟩ := p
    exact PySem.W.kia_one PySem.W.kitx_dict I.kIn ⟨o, h1, h2.1⟩ e (fun z => nomatch z) h
  | @dT a kvs ea =>
    cases (show u = Value.ref a from rx)
    obtain ⟨_, _, xs, _, o, es, ep, h1, h2, _⟩ := (show ObjOk X.prog X.w H s.heap a (.dT kvs) from I.hok a _ ea)
    exact PySem.W.kia_one PySem.W.kitx_dict I.kIn ⟨o, h1, h2.1⟩ e (fun z => nomatch z) h
  | @ins a C dx fs ea cl ha hn htk hm =>
    cases (show u = Value.ref a from rx)
    obtain ⟨mA, O, _⟩ := ins_get I.hok ea
    obtain ⟨od, J, _⟩ := O.look
    exact PySem.W.kia_one (PySem.W.kitx_own (cl.get _) cl.hd ha hn htk hm) I.kIn J e (fun z => nomatch z) h
end
end L2
namespace L2
open PySem PySem.Spec PyProof.Rows
structure Room (k : Nat) (A : Around) : Prop where
  hd : A.handled = none
  dp : A.depth + 3 * k + 5 < recursionLimit
  un : A.units + 16 * k + 200 < cLine
theorem Room.mono {j k : Nat} {A : Around} (r : Room k A) (h : j ≤ k) : Room j A := ⟨r.hd, by have := r.dp; omega, by have := r.un; omega⟩
theorem Room.deeper {k : Nat} {A : Around} (r : Room (k + 1) A) (env : Env) : Room k (A.deeper env) :=
  ⟨r.hd, by have := r.dp; show A.depth + 1 + 3 * k + 5 < _; omega, by have := r.un; show A.units + 3 + 16 * k + 200 < _; omega⟩
theorem make_depth {A : Around} {C : Addr} {us : List Value} {kw : List (Str × Value)} : (A.under (.builtin "type.__call__" ⟨.ref C :: us, kw⟩)).depth = A.depth + 1 := by
  first | rfl | simp [Around.under, Code.weight, Code.isCreation, Code.isGuard, Code.isCaller, Code.frames, Code.isFrame, guardIds]
theorem make_units {A : Around} {C : Addr} {us : List Value} {kw : List (Str × Value)} : (A.under (.builtin "type.__call__" ⟨.ref C :: us, kw⟩)).units = A.units + 1 := by
  first | rfl | simp [Around.under, Code.cUnits, Code.frames, Code.isFrame]
theorem Room.make {k : Nat} {A : Around} (r : Room (k + 1) A) (C : Addr) (us : List Value) (kw : List (Str × Value)) : Room k (A.under (.builtin "type.__call__" ⟨.ref C :: us, kw⟩)) :=
  ⟨r.hd, by have := r.dp; rw [make_depth]; omega, by have := r.un; rw [make_units]; omega⟩
theorem Room.depth {k : Nat} {A : Around} (r : Room k A) : A.depth < recursionLimit := by have := r.dp; omega
theorem Room.units {k : Nat} {A : Around} (r : Room k A) : A.units + 64 < cLine := by have := r.un; omega
noncomputable def tNil : TA := fun _ H Q => Q [] H
noncomputable def tCons (ta : TE) (tr : TA) : TA := fun σ H Q => ta σ H fun x H1 => tr σ H1 fun xs H2 => Q (x :: xs) H2
section
variable {X : Cx} {e : Expr} {es : List Expr} {te : TE} {t : TA} {pos : Pos}
theorem pa_nil : PA X [] tNil := fun _ _ _ _ H Q I h => Calls.spliced_nil ⟨[], H, I, .nil, h⟩
theorem pa_cons (ha : PE X e te) (hr : PA X es t) (hs : starEach (e :: es) X.env = (false, eval e X.env) :: starEach es X.env := by rfl) : PA X (e :: es) (tCons te t) := by
  intro pos pins s σ H Q I h
  rw [hs]
  show wpAny _ _ (spliced ((false, eval e X.env) :: backTo pos (starEach es X.env))) _ _ s
  refine Calls.spliced_cons (thn (ha pins s σ H _ I h) fun u s1 zz0 => ?_)
  obtain ⟨x, H1, I1, r1, q1⟩ := zz0
  exact thn (hr pos pins s1 σ H1 _ I1 q1) fun us s2 ⟨xs, H2, I2, r2, q2⟩ => ⟨x :: xs, H2, I2, .cons r1 r2, q2⟩
noncomputable def tTup (t : TA) : TE := fun σ H Q => t σ H fun xs H1 => xs.length ≤ sizeLine ∧ ∀ p, H1 p = none → Q (.ref p) (upd H1 p (.tup xs))
noncomputable def tLst (t : TA) : TE := fun σ H Q => t σ H fun xs H1 => xs.length ≤ sizeLine ∧ ∀ p, H1 p = none → Q (.ref p) (upd H1 p (.lst xs))
theorem pe_tup {x1} (h : PA X es t) : PE X (.Tuple es x1 pos) (tTup t) := by
  intro pins s σ H Q I hq
  refine wpAny_Tuple_spliced (thn (h pos pins s σ H _ I hq) fun us s1 ⟨xs, H1, I1, r, z, q⟩ => ⟨by rw [← r.length]; exact z, ?_⟩)
  have hf : H1 s1.heap.objs.size = none := I1.hok.fresh (Nat.le_refl _)
  refine ⟨.ref s1.heap.objs.size, upd H1 s1.heap.objs.size (.tup xs), I1.laid (t' := s1.toks) (fun b u e => Heap.get?_push_of_some _ e) (Nat.le_refl _) ?_, rfl, q _ hf⟩
  exact ⟨z, us, r, ⟨_, Heap.get?_push_size _ rfl, rfl, _, rfl⟩⟩
theorem pe_lst (h : PA X es t) : PE X (.List es pos) (tLst t) := by
  intro pins s σ H Q I hq
  refine wpAny_List_spliced (thn (h pos pins s σ H _ I hq) fun us s1 ⟨xs, H1, I1, r, z, q⟩ => ⟨by rw [← r.length]; exact z, ?_⟩)
  have hf : H1 s1.heap.objs.size = none := I1.hok.fresh (Nat.le_refl _)
  refine ⟨.ref s1.heap.objs.size, upd H1 s1.heap.objs.size (.lst xs), I1.laid (t' := s1.toks) (fun b u e => Heap.get?_push_of_some _ e) (Nat.le_refl _) ?_, rfl, q _ hf⟩
  exact ⟨z, us, 0, r, Heap.get?_push_size _ rfl⟩
end
noncomputable abbrev Sp := List V → Hp → VK → XK → Prop
noncomputable abbrev CXT := List Env → Hp → Shared → XK → Value → Shared → Prop
structure Env0 (P : Program) (w : World) (K : PySem.W.Frag) (mg : Str → Option Value) (base : Heap) (A : Around) (outer : List Env) (s : Shared) (H : Hp) : Prop where
  frames : A.frames = some outer
  mod : Mod K mg base
  bs : ∀ b o, base.get? b = some o → s.heap.get? b = some o ∧ H b = none
  bsz : base.objs.size ≤ s.heap.objs.size
  funs : s.heap.FunFrames base outer
  frf : ∀ b ∈ frs outer, H b = none
  hok : HOk P w H s.heap
  bare : AllBare s.gens
noncomputable def CE (outer : List Env) (P : Program) (w : World) (H : Hp) (s : Shared) (Q : VK) (u : Value) (s' : Shared) : Prop :=
  ∃ v H', s'.os = s.os ∧ AllBare s'.gens ∧ Un (frs outer) [] H H' s.heap s'.heap ∧ HOk P w H' s'.heap ∧ RelV v u ∧ Q v H'
noncomputable def CR (CX : CXT) (outer : List Env) (P : Program) (w : World) (H : Hp) (s : Shared) (Q : VK) (E : XK) (r : Result) (s' : Shared) : Prop :=
  match r with
  | .ok (.ret u) => CE outer P w H s Q u s'
  | .ok _ => False
  | .error e => CX outer H s E e s'
structure FnOk (P : Program) (w : World) (K : PySem.W.Frag) (mg : Str → Option Value) (base : Heap) (CX : CXT) (k : Nat) (f : Addr) (fd : FuncData) (ps : List Str) (sp : Sp) : Prop where
  len : ∀ vs H Q E, sp vs H Q E → vs.length = ps.length
  run : ∀ (A : Around) (outer : List Env) (s : Shared) (H : Hp) (args : Args) (us : List Value) (vs : List V) (Q : VK) (E : XK), Room k A → Env0 P w K mg base A outer s H → BindsTo s fd args (ps.zip us) → Vals vs us → sp vs H Q E →
    codeAny (model P w) A (.call (.ref f) args) (CR CX outer P w H s Q E) s
theorem FnOk.mono {P : Program} {w : World} {K : PySem.W.Frag} {mg : Str → Option Value} {base : Heap} {CX : CXT} {j k : Nat} {f : Addr} {fd : FuncData} {ps : List Str} {sp : Sp} (F : FnOk P w K mg base CX j f fd ps sp) (h : j ≤ k) :
    FnOk P w K mg base CX k f fd ps sp := ⟨F.len, fun A outer s H args us vs Q E hr => F.run A outer s H args us vs Q E (hr.mono h)⟩
theorem Env0.make {P : Program} {w : World} {K : PySem.W.Frag} {mg : Str → Option Value} {base : Heap} {A : Around} {outer : List Env} {s : Shared} {H : Hp} (e : Env0 P w K mg base A outer s H) (C : Addr) (us : List Value) (kw : List (Str × Value)) :
    Env0 P w K mg base (A.under (.builtin "type.__call__" ⟨.ref C :: us, kw⟩)) outer s H := ⟨by first | exact e.frames | (simpa [Around.under, Code.envs, Code.isFrame, pushEnvs] using e.frames), e.mod, e.bs, e.bsz, e.funs, e.frf, e.hok, e.bare⟩
section
variable {X : Cx} {pins : List (Addr × Obj)} {σ : St} {H : Hp} {s s' : Shared}
theorem Inv.env0 (I : Inv X pins σ H s) : Env0 X.prog X.w X.K X.mg X.base X.A X.stack s H :=
  ⟨I.ok.frames, I.ok.mod, I.bs, Nat.le_trans I.ok.bsz I.sz, I.stack, I.stkFree, I.hok, I.bare⟩
theorem Inv.after {Q : VK} {u : Value} (I : Inv X pins σ H s) (h : CE X.stack X.prog X.w H s Q u s') : EP X pins σ Q u s' := by
  obtain ⟨v, H', os, bare, un, hok, r, q⟩ := h
  obtain ⟨hh, g, d, t, os'⟩ := s'
  obtain rfl : os' = s.os := os
  exact ⟨v, H', I.call (h' := hh) (g' := g) (d' := d) (t' := t) (ch := []) un hok bare (fun b z => absurd z (by simp)), r, q⟩
end
noncomputable def tCall (sp : Sp) (dvs : List V) (E : XK) (t : TA) : TE := fun σ H Q => t σ H fun vs H1 => sp (vs ++ dvs) H1 Q E
noncomputable def Binds (K : PySem.W.Frag) (fd : FuncData) (ps : List Str) (ds : List Value) : Prop :=
  ∀ (s : Shared) (us : List Value), K.In s.heap → (us ++ ds).length = ps.length → BindsTo s fd ⟨us, []⟩ (ps.zip (us ++ ds))
theorem Binds.all {K : PySem.W.Frag} {fd : FuncData} {ps : List Str} (h : ∀ us : List Value, us.length = ps.length → bindArgs fd ⟨us, []⟩ = pure (ps.zip us)) : Binds K fd ps [] := fun s us _ hl => by
  rw [List.append_nil] at hl ⊢
  exact .of_eq (h us hl)
noncomputable def Passes (CX : CXT) (X : Cx) (E : XK) : Prop := ∀ (pins : List (Addr × Obj)) (σ : St) (H : Hp) (s : Shared) (e : Value) (s' : Shared), Inv X pins σ H s → CX X.stack H s E e s' → X.xe e s'
section
variable {X : Cx} {CX : CXT} {k : Nat} {f C : Addr} {fd : FuncData} {ps : List Str} {sp : Sp} {dvs : List V} {ds : List Value} {E : XK} {x m : Str} {p pos apos : Pos} {e o : Expr} {es : List Expr} {ta : TE} {t : TA}
theorem run_fn {pins : List (Addr × Obj)} {σ : St} {H : Hp} {s : Shared} {Q : VK} {us : List Value} {vs : List V} (F : FnOk X.prog X.w X.K X.mg X.base CX k f fd ps sp) (hr : Room k X.A) (hb : Binds X.K fd ps ds) (hd : Vals dvs ds) (hx : Passes CX X E)
    (I : Inv X pins σ H s) (r : Vals vs us) (h : sp (vs ++ dvs) H Q E) : wpAny (model X.prog X.w) X.A (call (.ref f) us) (EP X pins σ Q) X.xe s := by
  have r2 : Vals (vs ++ dvs) (us ++ ds) := r.append hd
  have hl : (us ++ ds).length = ps.length := by rw [← r2.length]; exact F.len _ _ _ _ h
  refine wpAny_call (codeAny_mono (F.run X.A X.stack s H ⟨us, []⟩ (us ++ ds) (vs ++ dvs) Q E hr I.env0 (hb s us I.kIn hl) r2 h) fun r s' hq => ?_)
  cases r with
  | error e => exact hx pins σ H s e s' I hq
  | ok fl =>
    cases fl with
    | ret u => exact I.after hq
    | next => exact False.elim hq
    | brk => exact False.elim hq
    | cont => exact False.elim hq
theorem pe_call (F : FnOk X.prog X.w X.K X.mg X.base CX k f fd ps sp) (hr : Room k X.A) (hg : Gl X x) (hm : X.mg x = some (.ref f)) (hk : PySem.W.keepIn X.K (.ref f) = true) (hb : Binds X.K fd ps ds) (hd : Vals dvs ds) (hx : Passes CX X E)
    (ha : PA X (e :: es) t) (hdb : (x == ("__debug__" : Str)) = false := by decide) (he : starEach (e :: es) X.env = (false, eval e X.env) :: starEach es X.env := by rfl) (hpl : (backTo pos (starEach es X.env)).any (·.1) = false := by rfl) :
    PE X (.Call (.Name x p) (e :: es) [] pos) (tCall sp dvs E t) := by
  intro pins s σ H Q I h
  refine wpAny_Call_Name_kw (ld_glob I hg hm ?_ hdb)
  refine PySem.W.callWith_K (h₀ := X.base) I.ok.mod.kin hk (thn (ha pos pins s σ H _ I h) fun us s1 ⟨vs, H1, I1, r, q⟩ => ⟨I1.kIn, ?_⟩) he hpl
  exact run_fn F hr hb hd hx I1 r q
end
section
variable {X : Cx} {CX : CXT} {k : Nat} {f C : Addr} {fd : FuncData} {ps ks : List Str} {sp : Sp} {E : XK} {x m : Str} {p pos apos kpos : Pos} {e o : Expr} {es : List Expr} {kws : List Keyword} {te ta : TE} {t tk : TA} {nm : Option Str}
variable {g : List Value → List Value → List Value} {gV : List V → List V → List V}
end
structure FnScope (N P : List Str) (sc : Scope) : Prop where
  kind : sc.kind = .function
  co : sc.isCoroutine = false
  gen : sc.isGenerator = false
  nd : N.Nodup
  pre : N.take P.length = P
  par : ∀ x ∈ P, sc.names.lookup x = some .local ∨ sc.names.lookup x = some .cell
  nofree : ∀ y ∈ sc.names, y.2 ≠ .free
theorem bindL_out {kindOf : Str → Option NameKind} {x : Str} : ∀ {binds : List (Str × Value)} {m : Str → Option Value}, (∀ v, (x, v) ∉ binds) → bindL kindOf binds m x = m x
  | [], _, _ => rfl
  | (n, v) :: r, m, h => by
    unfold bindL
    rw [bindL_out fun w hw => h w (List.mem_cons_of_mem _ hw)]
    split
    · have : x ≠ n := by rintro rfl; exact h v List.mem_cons_self
      simp [this]
    · rfl
theorem bindC_out {kindOf : Str → Option NameKind} {x : Str} : ∀ {binds : List (Str × Value)} {m : Str → Option Value}, (∀ v, (x, v) ∉ binds) → bindC kindOf binds m x = m x
  | [], _, _ => rfl
  | (n, v) :: r, m, h => by
    unfold bindC
    rw [bindC_out fun w hw => h w (List.mem_cons_of_mem _ hw)]
    split
    · rfl
    · have : x ≠ n := by rintro rfl; exact h v List.mem_cons_self
      simp [this]
theorem bindL_get {kindOf : Str → Option NameKind} {x : Str} {v : Value} : ∀ {P : List Str} {vs : List Value} {i : Nat} {m : Str → Option Value}, P.Nodup → P[i]? = some x → vs[i]? = some v → kindOf x = some .local →
    bindL kindOf (P.zip vs) m x = some v
  | [], _, _, _, _, h, _, _ => by simp at h
  | _ :: _, [], _, _, _, _, h, _ => by simp at h
  | p :: P, w :: vs, 0, m, nd, h1, h2, hk => by
    simp at h1 h2; subst h1; subst h2
    show bindL kindOf ((p, w) :: P.zip vs) m p = _
    unfold bindL
    rw [bindL_out fun v hv => (List.nodup_cons.mp nd).1 (List.of_mem_zip hv).1, if_pos hk]
    simp
  | p :: P, w :: vs, i + 1, m, nd, h1, h2, hk => by
    show bindL kindOf ((p, w) :: P.zip vs) m x = _
    unfold bindL
    exact bindL_get (i := i) (List.nodup_cons.mp nd).2 (by simpa using h1) (by simpa using h2) hk
theorem bindC_get {kindOf : Str → Option NameKind} {x : Str} {v : Value} : ∀ {P : List Str} {vs : List Value} {i : Nat} {m : Str → Option Value}, P.Nodup → P[i]? = some x → vs[i]? = some v → kindOf x ≠ some .local →
    bindC kindOf (P.zip vs) m x = some v
  | [], _, _, _, _, h, _, _ => by simp at h
  | _ :: _, [], _, _, _, _, h, _ => by simp at h
  | p :: P, w :: vs, 0, m, nd, h1, h2, hk => by
    simp at h1 h2; subst h1; subst h2
    show bindC kindOf ((p, w) :: P.zip vs) m p = _
    unfold bindC
    rw [bindC_out fun v hv => (List.nodup_cons.mp nd).1 (List.of_mem_zip hv).1, if_neg hk]
    simp
  | p :: P, w :: vs, i + 1, m, nd, h1, h2, hk => by
    show bindC kindOf ((p, w) :: P.zip vs) m x = _
    unfold bindC
    exact bindC_get (i := i) (List.nodup_cons.mp nd).2 (by simpa using h1) (by simpa using h2) hk
noncomputable def start (N : List Str) (vs : List V) : St := vs.map some ++ List.replicate (N.length - vs.length) none
noncomputable def cxOf (CX : CXT) (P : Program) (w : World) (K : PySem.W.Frag) (mg : Str → Option Value) (base : Heap) (N : List Str) (qual : Str) (scope : Scope) (f : Addr) (cd : Value) (A : Around) (outer : List Env) (s : Shared) (H : Hp) (E : XK) : Cx where
  prog := P
  w := w
  K := K
  mg := mg
  base := base
  A := A.deeper (envOfC qual scope s.heap.objs.size f cd)
  N := N
  s₀ := s
  H₀ := H
  env := envOfC qual scope s.heap.objs.size f cd
  outer := outer
  stack := envOfC qual scope s.heap.objs.size f cd :: outer
  ex := []
  calm := true
  fn := fun _ => true
  pn := []
  xe := fun e s' => wpAny (model P w) (A.deeper (envOfC qual scope s.heap.objs.size f cd)) (leaving (envOfC qual scope s.heap.objs.size f cd) e) (fun _ s'' => CX outer H s E e s'') (fun e' s'' => CX outer H s E e' s'') s'
theorem cell_has {sc : Scope} {n : Nat} {x : Str} (h : sc.names.lookup x = some .cell) : ∃ c, (cellsFrom n sc.names []).lookup x = some c := by
  have q := PySem.W.cellsFrom_some sc.names n [] (.inl h)
  exact Option.isSome_iff_exists.mp q
theorem inv_start {CX : CXT} {P : Program} {w : World} {K : PySem.W.Frag} {mg : Str → Option Value} {base : Heap} {N ps : List Str} {qual : Str} {scope : Scope} {f : Addr} {cd : Value} {A : Around} {outer : List Env} {s s1 : Shared} {H : Hp} {E : XK} {us : List Value} {vs : List V}
    (S : FnScope N ps scope) (hd : A.handled = none) (e0 : Env0 P w K mg base A outer s H) (hl : vs.length = ps.length) (r : Vals vs us)
    (x : InCallC s s.heap.objs.size (bindL (envOfC qual scope s.heap.objs.size f cd).kindOf (ps.zip us) fun _ => none) (cellsFrom (s.heap.objs.size + 1) scope.names []) (bindC (envOfC qual scope s.heap.objs.size f cd).kindOf (ps.zip us) fun _ => none) s1) :
    Inv (cxOf CX P w K mg base N qual scope f cd A outer s H E) [] (start N vs) H s1 := by
  have hpl : ps.length ≤ N.length := by have := congrArg List.length S.pre; rw [List.length_take] at this; omega
  obtain ⟨h1, tk, rfl, hk⟩ := x.done
  have noA : ∀ b : Addr, b ∉ (cxOf CX P w K mg base N qual scope f cd A outer s H E).ex := fun b z => absurd (show b ∈ ([] : List Addr) from z) (by simp)
  refine ⟨⟨e0.mod, S.kind, rfl, rfl, Nat.le_refl _, fun y z c h1 h2 => ?_, fun y hy => ?_, fun y c _ h => ?_, fun _ => hd, Around.frames_deeper e0.frames, .inr ⟨rfl, rfl⟩, fun b z => absurd z (noA b), e0.bs, e0.bsz, fun b _ _ => noA b, fun b z => absurd z (noA b), e0.funs, e0.frf⟩,
    rfl, e0.bare, Un.kept hk, ⟨_, x.toInCall.ns, fun i y v h1 h2 h3 => ?_⟩, fun y c h => ⟨_, x.cell y c h⟩, e0.hok.fresh (Nat.le_refl _), fun y c h => ?_, fun p hp => absurd (show p ∈ ([] : List (Addr × Obj)) from hp) (by simp), e0.hok.kept hk, ?_⟩
  · exact name_of_addr x.apart (PySem.mem_of_lookup h1) (PySem.mem_of_lookup h2)
  · have hy : scope.names.lookup y = some .cell ∨ scope.names.lookup y = some .free := hy
    rcases hy with hy | hy
    · exact cell_has hy
    · exact absurd rfl (S.nofree _ (PySem.mem_of_lookup hy))
  · exact Nat.le_of_lt (x.above y c (PySem.mem_of_lookup h))
  · have hi : i < vs.length := by
      unfold start at h2
      by_cases hi : i < vs.length
      · exact hi
      · rw [List.getElem?_append_right (by simpa using hi)] at h2
        rw [List.getElem?_replicate] at h2
        split at h2 <;> cases h2
    have ha : vs[i]? = some v := by
      unfold start at h2
      rw [List.getElem?_append_left (by simpa using hi), List.getElem?_map] at h2
      cases e : vs[i]? with
      | none => rw [e] at h2; cases h2
      | some a => rw [e] at h2; cases h2; rfl
    obtain ⟨u, hu, rv⟩ := r.get ha
    have hp : ps[i]? = some y := by
      rw [← S.pre, List.getElem?_take_of_lt (by omega)]; exact h1
    have ndP : ps.Nodup := by rw [← S.pre]; exact S.nd.sublist (List.take_sublist _ _)
    refine ⟨u, rv, ?_⟩
    rcases S.par y (List.mem_of_getElem? hp) with k | k
    · exact .inl ⟨k, bindL_get ndP hp hu k⟩
    · obtain ⟨c, e⟩ := cell_has (n := s.heap.objs.size + 1) k
      refine .inr ⟨.inl k, c, e, ?_⟩
      have q := x.cell y c e
      rw [bindC_get ndP hp hu (by show scope.names.lookup y ≠ _; rw [k]; decide)] at q
      exact q
  · exact e0.hok.fresh (Nat.le_of_lt (x.above y c (PySem.mem_of_lookup h)))
  · unfold start
    show _ = N.length
    rw [List.length_append, List.length_map, List.length_replicate]
    omega
theorem fn_of {CX : CXT} {P : Program} {w : World} {K : PySem.W.Frag} {mg : Str → Option Value} {base : Heap} {k : Nat} {f : Addr} {name qual : Str} {params : Arguments} {body : List Stmt} {scope : Scope} {dV kV doc pm cdv ct oc : Value} {an od : Option Addr}
    {osl : Array (Option Value)} {N ps : List Str} {sp : Sp} (lk : K.lookup f = some ⟨oc, od, .func (PySem.W.fnOf name qual params body scope dV kV doc pm an cdv ct), osl⟩) (hcd : PySem.W.codeIn K cdv qual = true) (S : FnScope N ps scope)
    (len : ∀ vs H Q E, sp vs H Q E → vs.length = ps.length)
    (hbody : ∀ (A : Around) (outer : List Env) (s : Shared) (H : Hp) (vs : List V) (Q : VK) (E : XK), Room k (A.deeper (envOfC qual scope s.heap.objs.size f cdv)) → sp vs H Q E →
      ∃ t, PSs (cxOf CX P w K mg base N qual scope f cdv A outer s H E) body t ∧ t { nx := fun _ H' => Q .non H', rt := Q } (start N vs) H) :
    FnOk P w K mg base CX (k + 1) f (PySem.W.fnOf name qual params body scope dV kV doc pm an cdv ct) ps sp := by
  refine ⟨len, fun A outer s H args us vs Q E hr e0 hb r hsp => ?_⟩
  have hl := len _ _ _ _ hsp
  have KX : K.In s.heap := e0.mod.kin.keeps fun b o e => (e0.bs b o e).1
  have lim : s.heap.NoLimit := e0.mod.nolimit.keeps fun b o e => (e0.bs b o e).1
  have hkind : ∀ y ∈ ps.zip us, scope.names.lookup y.1 = some .local ∨ (scope.names.lookup y.1 = some .cell ∧ ((cellsFrom (s.heap.objs.size + 1) scope.names []).lookup y.1).isSome = true) := fun zz0 hy => by
    obtain ⟨n, v⟩ := zz0
    rcases S.par n (List.of_mem_zip hy).1 with q | q
    · exact .inl q
    · exact .inr ⟨q, PySem.W.cellsFrom_some _ _ _ (.inl q)⟩
  refine codeAny_call_function hr.depth (KX _ _ lk) rfl S.co S.gen rfl (PySem.W.codeRec_of KX hcd) (hb _ _ _ _ ?_)
  refine wpAny_newFunctionEnv_cells S.kind hkind fun env he s1 x => ?_
  subst he
  refine ⟨lim.keeps x.toInCall.keep, codeAny_func ?_⟩
  obtain ⟨t, ht, hq⟩ := hbody A outer s H vs Q E (hr.deeper _) hsp
  have I : Inv (cxOf CX P w K mg base N qual scope f cdv A outer s H E) [] (start N vs) H s1 := inv_start S hr.hd e0 hl r x
  refine wpAny_mono (ht [] s1 (start N vs) H _ I hq) (fun fl s' hs => ?_) fun e s' hs => hs
  have fin : ∀ {σ' : St} {H' : Hp} {v : V} {u : Value}, Inv (cxOf CX P w K mg base N qual scope f cdv A outer s H E) [] σ' H' s' → RelV v u → Q v H' → CE outer P w H s Q u s' :=
    fun {σ' H' v u} J rv q => ⟨v, H', J.os, J.bare, J.base, J.hok, rv, q⟩
  cases fl with
  | ret u =>
    obtain ⟨v, σ', H', J, rv, q⟩ := hs
    exact fin J rv q
  | next =>
    obtain ⟨σ', H', J, q⟩ := hs
    exact fin (v := V.non) (u := Value.none) J rfl q
  | brk =>
    obtain ⟨_, _, _, q⟩ := hs
    exact False.elim q
  | cont =>
    obtain ⟨_, _, _, q⟩ := hs
    exact False.elim q
end L2
namespace L2
open PySem PySem.Spec PyProof.Rows
section
variable {X : Cx} {x : Str} {p pos : Pos} {e : Expr} {es : List Expr} {t : TA} {id T : String} {r : List V → Hp → VK → Prop}
noncomputable def tCB (r : List V → Hp → VK → Prop) (t : TA) : TE := fun σ H Q => t σ H fun vs H1 => r vs H1 Q
theorem pe_callB (hc : CallR X (.builtin id) r) (hg : Gl X x) (hm : X.mg x = none) (hv : bootBuiltins x = some (.builtin id)) (ha : PA X (e :: es) t) (hn : x ≠ "__name__" := by decide) (hdb : (x == ("__debug__" : Str)) = false := by decide)
    (he : starEach (e :: es) X.env = (false, eval e X.env) :: starEach es X.env := by rfl) (hpl : (backTo pos (starEach es X.env)).any (·.1) = false := by rfl) : PE X (.Call (.Name x p) (e :: es) [] pos) (tCB r t) := by
  intro pins s σ H Q I h
  refine wpAny_Call_Name_kw (ld_blt I hg hm hv ?_ hn hdb)
  exact PyProof.Rows.callWith_builtin1 (thn (ha pos pins s σ H _ I h) fun us s1 ⟨vs, H1, I1, r1, q1⟩ => hc pins s1 σ H1 vs us Q I1 r1 q1) he hpl
theorem pe_callTy (hc : CallR X (.type T) r) (hg : Gl X x) (hm : X.mg x = none) (hv : bootBuiltins x = some (.type T)) (ha : PA X (e :: es) t) (hn : x ≠ "__name__" := by decide) (hdb : (x == ("__debug__" : Str)) = false := by decide)
    (he : starEach (e :: es) X.env = (false, eval e X.env) :: starEach es X.env := by rfl) (hpl : (backTo pos (starEach es X.env)).any (·.1) = false := by rfl) : PE X (.Call (.Name x p) (e :: es) [] pos) (tCB r t) := by
  intro pins s σ H Q I h
  refine wpAny_Call_Name_kw (ld_blt I hg hm hv ?_ hn hdb)
  exact PyProof.Rows.callWith_type1 (thn (ha pos pins s σ H _ I h) fun us s1 ⟨vs, H1, I1, r1, q1⟩ => hc pins s1 σ H1 vs us Q I1 r1 q1) he hpl
end
end L2
namespace L2
open PySem PySem.Spec PyProof.Rows
section
variable {κ : Type} [DecidableEq κ]
noncomputable def valV (kvs : List (κ × V)) (k : κ) : Option V := (kvs.find? fun kv => decide (kv.1 = k)).map (·.2)
theorem valV_pos {p : κ × V} {r : List (κ × V)} {k : κ} (e : p.1 = k) : valV (p :: r) k = some p.2 := by simp [valV, List.find?_cons, e]
theorem valV_neg {p : κ × V} {r : List (κ × V)} {k : κ} (e : ¬ p.1 = k) : valV (p :: r) k = valV r k := by simp [valV, List.find?_cons, e]
theorem KV.val {kvs : List (κ × V)} {vs : List (κ × Value)} (r : KV kvs vs) (k : κ) : RelO (valV kvs k) (valueAt vs k) := by
  unfold KV at r
  induction r with
  | nil => exact True.intro
  | @cons p q ps qs h t ih =>
    obtain ⟨h1, h2⟩ := h
    by_cases e : p.1 = k
    · have e' : q.1 = k := h1.symm.trans e
      have b : valueAt (q :: qs) k = some q.2 := by simp [valueAt, List.find?_cons, e']
      rw [valV_pos e, b]; exact h2
    · have e' : ¬ q.1 = k := fun z => e (h1.trans z)
      have b : valueAt (q :: qs) k = valueAt qs k := by simp [valueAt, List.find?_cons, e']
      rw [valV_neg e, b]; exact ih
theorem KV.length {kvs : List (κ × V)} {vs : List (κ × Value)} (r : KV kvs vs) : kvs.length = vs.length := Paired.length r
end
noncomputable abbrev KT (H : Hp) : List (List Key × V) → List (List Key × Addr × Value) → Prop := Paired fun p q => p.1 = q.1 ∧ H q.2.1 = some (.tup (p.1.map kV)) ∧ RelV p.2 q.2.2
theorem KT.val {H : Hp} {kvs : List (List Key × V)} {xs : List (List Key × Addr × Value)} (r : KT H kvs xs) (k : List Key) : RelO (valV kvs k) ((atKey xs k).map (·.2)) := by
  induction r with
  | nil => exact True.intro
  | @cons p q ps qs h t ih =>
    obtain ⟨h1, _, h2⟩ := h
    by_cases e : p.1 = k
    · have e' : q.1 = k := h1.symm.trans e
      have b : atKey (q :: qs) k = some q.2 := by simp [atKey, List.find?_cons, e']
      rw [valV_pos e, b]; exact h2
    · have e' : ¬ q.1 = k := fun z => e (h1.trans z)
      have b : atKey (q :: qs) k = atKey qs k := by simp [atKey, List.find?_cons, e']
      rw [valV_neg e, b]; exact ih
section
variable {P : Program} {w : World} {H : Hp} {h : Heap} {a : Addr}
end
section
variable {X : Cx} {pins : List (Addr × Obj)} {σ : St} {H : Hp} {s : Shared} {a : Addr} {y v : V} {u r : Value} {o : Option V} {A : Around} {E : Value → Shared → Prop}
end
section
variable {X : Cx} {pins : List (Addr × Obj)} {σ : St} {H : Hp} {s : Shared} {a : Addr} {kvs : List (Key × V)} {k : Key} {u : Value} {A : Around} {E : Value → Shared → Prop}
end
section
variable {X : Cx} {o i e value : Expr} {pos pos' tpos : Pos} {td ty tv : TE}
end
section
variable {X : Cx} {pos : Pos}
end
section
variable {X : Cx} {pins : List (Addr × Obj)} {σ : St} {H : Hp} {s : Shared} {a : Addr} {y d : V} {u r : Value} {o : Option V} {A : Around} {E : Value → Shared → Prop}
end
section
variable {X : Cx} {o e f : Expr} {apos cpos : Pos} {td ty tx : TE}
end
section
variable {X : Cx} {pins : List (Addr × Obj)} {σ : St} {H : Hp} {s : Shared} {a : Addr} {kvs : List (Key × V)} {A : Around} {E : Value → Shared → Prop}
end
section
variable {X : Cx} {pins : List (Addr × Obj)} {σ : St} {H : Hp} {s : Shared} {a : Addr} {y : V} {u : Value} {A : Around} {E : Value → Shared → Prop}
end
end L2
namespace HT
open PySem PyProof.Rows
noncomputable def lexLt : List Int → List Int → Bool
  | [], [] => false
  | [], _ :: _ => true
  | _ :: _, [] => false
  | x :: xs, y :: ys => if x = y then lexLt xs ys else decide (x < y)
theorem lexLt_cons (x y : Int) (xs ys : List Int) : lexLt (x :: xs) (y :: ys) = if x = y then lexLt xs ys else decide (x < y) := rfl
theorem lexLt_nil_nil : lexLt [] [] = false := rfl
theorem lexLt_nil_cons (y : Int) (ys : List Int) : lexLt [] (y :: ys) = true := rfl
theorem lexLt_cons_nil (x : Int) (xs : List Int) : lexLt (x :: xs) [] = false := rfl
theorem eqAt_int (A : Around) (s : Shared) (a : Int) (t : Tok) (c : Int) (u : Tok) : ∃ e, SeqAt.EqAt A s (.int a t) (.int c u) e ∧ (e = true ↔ a = c) :=
  ⟨(a == c), SeqAt.EqAt.int_int a t c u, by simp⟩
theorem rcLt_int (A : Around) (s : Shared) (a : Int) (t : Tok) (c : Int) (u : Tok) (prog : Program) (w : World) (E : Value → Shared → Prop) (Q : Value → Shared → Prop) (h : Q (.bool (decide (a < c))) s) :
    wpAny (model prog w) A (richCompare .Lt (.int a t) (.int c u)) Q E s :=
  (PyProof.Rows.lt_int h : wpAny (model prog w) A (compareOp .Lt (.int a t) (.int c u)) Q E s)
section
open PySem.SeqAt
open PySem.AutoSeq1 (wpAny_loadPart')
open PySem.MeetsSeq PySem.MeetsSeq2 PySem.MeetsSeq3
theorem tuple_lt_ints (l b : Addr) (items items2 : Array Value) (n n2 : Nat) (dd dd2 : Option Addr) (sl sl2 : Array (Option Value)) (ns ms : List Int) (hi : IntsAre items.toList ns) (hj : IntsAre items2.toList ms) :
    Meets (Builtin.«tuple.__lt__» ⟨[.ref l, .ref b], []⟩)
      (fun _ R s => s.heap.get? l = some { cls := .type "tuple", dict := dd, data := .seq items n, slots := sl } ∧ s.heap.get? b = some { cls := .type "tuple", dict := dd2, data := .seq items2 n2, slots := sl2 } ∧
        R (.ok (.ret (.bool (lexLt ns ms)))) s) :=
  .of_wp fun prog w A R s h => by
    obtain ⟨hp, g, d, tk, os⟩ := s; obtain ⟨hl, hb, h⟩ := h
    have f2 := AutoSeq1.sub_tuple_tuple
    have z1 : items.size = ns.length := by rw [← hi.length]; simp
    have z2 : items2.size = ms.length := by rw [← hj.length]; simp
    wp_walk using wpAny_loadPart' hl, wpAny_loadPart' hb, wpAny_forIn_list _ (fun rest b s' => b.1 = none ∧ s' = ⟨hp, g, d, tk, os⟩ ∧ ∃ (vs ws : List Value) (ns' ms' : List Int), rest = vs.zip ws ∧
      IntsAre vs ns' ∧ IntsAre ws ms' ∧ ns'.length + items2.size = ms'.length + items.size ∧ R (.ok (.ret (.bool (lexLt ns' ms')))) ⟨hp, g, d, tk, os⟩) _
    case turn =>
      rintro ⟨y, x⟩ rest b s' ⟨hb', rfl, vs, ws, ns', ms', hz, hvi, hwi, hlen, hR⟩
      cases hvi with
      | nil => rw [List.zip_nil_left] at hz; cases hz
      | cons a t hvi' =>
        cases hwi with
        | nil => rw [List.zip_nil_right] at hz; cases hz
        | cons c u hwi' =>
          rw [List.zip_cons_cons] at hz
          injection hz with hyx hrest
          injection hyx with hy hx
          subst hy hx
          rw [lexLt_cons] at hR
          simp only [List.length_cons] at hlen
          obtain ⟨e, he, hiff⟩ := eqAt_int A.in1 ⟨hp, g, d, tk, os⟩ a t c u
          refine wpAny_bind (he prog w _ _ ?_)
          cases e with
          | true =>
            rw [if_pos (hiff.mp rfl)] at hR
            wp_walk
            exact ⟨rfl, rfl, _, _, _, _, hrest, hvi', hwi', by omega, hR⟩
          | false =>
            rw [if_neg (fun q => absurd (hiff.mpr q) Bool.false_ne_true)] at hR
            have hri := rcLt_int A.in1 ⟨hp, g, d, tk, os⟩ a t c u prog w
            wp_walk using hri
            exact ⟨_, rfl, by simpa using hR⟩
    case fin =>
      rintro ⟨b1, b2⟩ s' ⟨hb', rfl, vs, ws, ns', ms', hz, hvi, hwi, hlen, hR⟩
      simp only at hb'
      subst hb'
      have hv : lexLt ns' ms' = decide (items.size < items2.size) := by
        cases hvi with
        | nil =>
          cases hwi with
          | nil =>
            simp only [List.length_nil] at hlen
            rw [lexLt_nil_nil]
            exact (decide_eq_false (by omega)).symm
          | cons c u hw =>
            simp only [List.length_nil, List.length_cons] at hlen
            rw [lexLt_nil_cons]
            exact (decide_eq_true (by omega)).symm
        | cons a t hv =>
          cases hwi with
          | nil =>
            simp only [List.length_nil, List.length_cons] at hlen
            rw [lexLt_cons_nil]
            exact (decide_eq_false (by omega)).symm
          | cons c u hw =>
            rw [List.zip_cons_cons] at hz
            cases hz
      rw [hv] at hR
      wp_walk
      exact ⟨_, rfl, by simpa [Builtin.Tuple.tupleCompareSizes] using hR⟩
    case h =>
      exact ⟨rfl, rfl, items.toList, items2.toList, ns, ms, rfl, hi, hj, by omega, h⟩
end
section
variable {prog : Program} {w : World} {A : Around} {E : Value → Shared → Prop} {s : Shared}
theorem lt_tupInts {l b : Addr} {items items2 : Array Value} {ns ms : List Int} {Q : Value → Shared → Prop} (hl : IsTup s.heap l items) (hb : IsTup s.heap b items2) (hi : IntsAre items.toList ns) (hj : IntsAre items2.toList ms)
    (hu : A.units < cLine) (h : Q (.bool (lexLt ns ms)) s) : wpAny (model prog w) A (compareOp .Lt (.ref l) (.ref b)) Q E s := by
  obtain ⟨⟨cls, dd, data, sl⟩, ho, hc, n, hd⟩ := id hl
  obtain ⟨⟨cls2, dd2, data2, sl2⟩, ho2, hc2, n2, hd2⟩ := id hb
  simp only at hc hd hc2 hd2
  subst hc hd hc2 hd2
  exact richCompare_meets_room (op := .Lt) ⟨_, ho, rfl⟩ ⟨_, ho2, rfl⟩ PySem.F.slot_tuple_lt PySem.F.entry_tuple_lt (PySem.F.args_tuple_lt_2 _ _) (tuple_lt_ints l b items items2 n n2 dd dd2 sl sl2 ns ms hi hj)
    ⟨ho, ho2, show Value.bool (lexLt ns ms) ≠ Value.notImplemented ∧ Q (.bool (lexLt ns ms)) s from ⟨(fun x => nomatch x), h⟩⟩ hu
theorem cat_tup {t b : Addr} {vs ws : List Value} {Q : Value → Shared → Prop} (ht : IsTup s.heap t vs.toArray) (hb : IsTup s.heap b ws.toArray) (hv : vs ≠ [])
    (h1 : ws = [] → Q (.ref t) s) (h2 : ws ≠ [] → Q (.ref s.heap.objs.size) { s with heap := s.heap.push { cls := .type "tuple", data := .seq (vs ++ ws).toArray } })
    (hsz : vs.length + ws.length ≤ sizeLine) : wpAny (model prog w) A (binaryOp .Add (.ref t) (.ref b)) Q E s := by
  obtain ⟨⟨cls, dd, data, sl⟩, ho, hc, n, hd⟩ := id ht
  obtain ⟨⟨cls2, dd2, data2, sl2⟩, ho2, hc2, n2, hd2⟩ := id hb
  simp only at hc hd hc2 hd2
  subst hc hd hc2 hd2
  have e : vs.toArray ++ ws.toArray = (vs ++ ws).toArray := by simp
  by_cases hw : ws = []
  · exact concat_meets ⟨_, ho, rfl⟩ ⟨_, ho2, rfl⟩ noFill_tuple_add seq_tuple_add PySem.F.slot_tuple_add PySem.F.entry_tuple_add (PySem.F.args_tuple_add_2 _ _)
      (tuple_addW1 t b vs.toArray ws.toArray n n2 dd dd2 sl sl2 (by simpa using hv) (by simp [hw])) ⟨ho, ho2, h1 hw⟩
  · refine concat_meets ⟨_, ho, rfl⟩ ⟨_, ho2, rfl⟩ noFill_tuple_add seq_tuple_add PySem.F.slot_tuple_add PySem.F.entry_tuple_add (PySem.F.args_tuple_add_2 _ _)
      (tuple_addW2 t b vs.toArray ws.toArray n n2 dd dd2 sl sl2 (by simpa using hv) (by simpa using hw) (by rw [List.size_toArray, List.size_toArray]; exact hsz)) ⟨ho, ho2, ?_⟩
    rw [e]
    exact h2 hw
noncomputable def sIx (n d : Nat) : Option Int → Nat
  | none => d
  | some v => if v < 0 then (v + (n : Int)).toNat else min v.toNat n
theorem sIx_none (n d : Nat) : sIx n d none = d := rfl
theorem sIx_nat (n d k : Nat) : sIx n d (some (k : Int)) = min k n := by
  show (if (k : Int) < 0 then ((k : Int) + (n : Int)).toNat else min (k : Int).toNat n) = min k n
  rw [if_neg (by omega), Int.toNat_natCast]
theorem sIx_le (n d : Nat) (hd : d ≤ n) (o : Option Int) : sIx n d o ≤ n := by
  cases o with
  | none => exact hd
  | some v =>
    show (if v < 0 then (v + (n : Int)).toNat else min v.toNat n) ≤ n
    by_cases hv : v < 0
    · rw [if_pos hv]; omega
    · rw [if_neg hv]; exact Nat.min_le_right _ _
theorem clip_eq (v : Int) (n d : Nat) : (if v < 0 then max (v + (n : Int)) 0 else min v (n : Int)) = ((sIx n d (some v) : Nat) : Int) := by
  show (if v < 0 then max (v + (n : Int)) 0 else min v (n : Int)) = (((if v < 0 then (v + (n : Int)).toNat else min v.toNat n) : Nat) : Int)
  by_cases hv : v < 0
  · simp only [if_pos hv]; omega
  · simp only [if_neg hv]; omega
theorem adjust_gen (lo hi : Option Int) (n : Nat) : Builtin.Slice.sliceAdjust lo hi 1 (n : Int) = (((sIx n 0 lo : Nat) : Int), ((sIx n n hi : Nat) : Int)) := by
  have h1 : ¬ ((1 : Int) < 0) := by omega
  unfold Builtin.Slice.sliceAdjust
  simp only [h1, if_false]
  refine Prod.ext ?_ ?_
  · cases lo with
    | none => rfl
    | some v => exact clip_eq v n 0
  · cases hi with
    | none => rfl
    | some v => exact clip_eq v n n
theorem places_gen (i j : Nat) : Builtin.Slice.slicePlaces (i : Int) (j : Int) 1 = j - i := by
  unfold Builtin.Slice.slicePlaces
  have h1 : (1 : Int) > 0 := by omega
  simp only [h1, if_true, Int.ediv_one]
  split <;> omega
theorem slicePart_ {v : Value} {o : Option Int} {Q : Option Int → Shared → Prop} (p : IsPart v o) (h : Q o s) : wpAny (model prog w) A (Builtin.Slice.slicePartIndex v) Q E s := by
  cases p with
  | none => exact slicePart_none h
  | int i t => exact slicePart_int h
theorem sliceApplied_gen {sl : Addr} {vl vu : Value} {lo hi : Option Int} {n : Nat} {Q : Int × Int × Nat → Shared → Prop} (hs : s.heap.IsSliceOf sl vl vu .none) (pl : IsPart vl lo) (pu : IsPart vu hi)
    (h : Q (((sIx n 0 lo : Nat) : Int), 1, sIx n n hi - sIx n 0 lo) s) : wpAny (model prog w) A (Builtin.Slice.sliceApplied (.ref sl) (pure (n : Int))) Q E s := by
  obtain ⟨os, hos, hcs, hds⟩ := id hs
  unfold Builtin.Slice.sliceApplied Builtin.Slice.sliceFields
  refine wpAny_bind (wpAny_bind (wpAny_field hos hds (x := vl) rfl (wpAny_bind (wpAny_field hos hds (x := vu) rfl (wpAny_bind (wpAny_field hos hds (x := .none) rfl (wpAny_pure ?_)))))))
  refine wpAny_bind (slicePart_none ?_)
  show wpAny _ _ (if ((1 : Int) == 0) = true then _ else _) _ _ s
  rw [if_neg (by decide)]
  refine wpAny_bind (slicePart_ pl (wpAny_bind (slicePart_ pu (wpAny_bind (wpAny_pure ?_)))))
  show wpAny _ _ (match Builtin.Slice.sliceAdjust lo hi 1 (n : Int) with | (lo, hi) => pure (lo, (1 : Int), Builtin.Slice.slicePlaces lo hi 1)) _ _ s
  rw [adjust_gen lo hi n]
  show wpAny _ _ (pure (((sIx n 0 lo : Nat) : Int), (1 : Int), Builtin.Slice.slicePlaces ((sIx n 0 lo : Nat) : Int) ((sIx n n hi : Nat) : Int) 1)) _ _ s
  rw [places_gen]
  exact wpAny_pure h
theorem pick_gen (xs : Array Value) (i k : Nat) : ((List.range k).filterMap fun (m : Nat) => xs[((i : Int) + (m : Int) * 1).toNat]?).toArray = ((xs.toList.drop i).take k).toArray := by
  have e : (fun (m : Nat) => xs[((i : Int) + (m : Int) * 1).toNat]?) = fun m => xs[i + m]? := by
    funext m
    have : ((i : Int) + (m : Int) * 1).toNat = i + m := by omega
    rw [this]
  rw [e]
  have := pick_run xs i k
  rw [List.filterMap_map] at this
  have e2 : ((fun x => xs[x]?) ∘ fun x => i + x) = fun m => xs[i + m]? := rfl
  rw [e2] at this
  rw [this]
theorem getItem_tuple_cut {t sl : Addr} {items : Array Value} {vl vu : Value} {lo hi : Option Int} {Q : Value → Shared → Prop} (ht : IsTup s.heap t items) (hs : s.heap.IsSliceOf sl vl vu .none) (pl : IsPart vl lo) (pu : IsPart vu hi)
    (hw : ¬ (sIx items.size 0 lo = 0 ∧ sIx items.size items.size hi = items.size))
    (h : Q (.ref s.heap.objs.size) { s with heap := s.heap.push { cls := .type "tuple", data := .seq ((items.toList.drop (sIx items.size 0 lo)).take (sIx items.size items.size hi - sIx items.size 0 lo)).toArray } })
    (hsz : items.size ≤ sizeLine) : wpAny (model prog w) A (getItem (.ref t) (.ref sl)) Q E s := by
  have htake : sizeOk (.seq ((items.toList.drop (sIx items.size 0 lo)).take (sIx items.size items.size hi - sIx items.size 0 lo)).toArray) := by
    show ((items.toList.drop (sIx items.size 0 lo)).take (sIx items.size items.size hi - sIx items.size 0 lo)).toArray.size ≤ sizeLine
    rw [List.size_toArray, List.length_take, List.length_drop, Array.length_toList]
    omega
  have hj : sIx items.size items.size hi ≤ items.size := sIx_le _ _ (Nat.le_refl _) hi
  obtain ⟨os, hos, hcs, hds⟩ := id hs
  have hTs : s.TypeIs (.ref sl) "slice" := ⟨os, hos, hcs⟩
  unfold getItem
  try with_reducible refine wpAny_holding ?_
  first | refine wpAny_bind (wpAny_pure ?_) | skip
  refine wpAny_bind (wpAny_sequenceKey ht.typeIs (by decide) ?_)
  refine wpAny_bind (wpAny_callSpecial?_slot (name := Str.ofString "__getitem__") ht.typeIs PyProof.Rows.slot_tuple_getitem
    (wpAny_call_entry PyProof.Rows.slot_tuple_getitem ht.typeIs entry_tuple_getitem ?_ (args_tuple_getitem _ _)))
  show wpAny _ _ (Builtin.Tuple.tupleItemsOf (.ref t) >>= _) _ _ s
  refine wpAny_bind (tupleItemsOf_ ht ?_)
  refine wpAny_bind (wpAny_typeOf hTs ?_)
  rw [if_pos (by decide)]
  refine wpAny_bind (sliceApplied_gen hs pl pu ?_)
  have hno : ¬ ((((sIx items.size 0 lo : Nat) : Int) == 0 && (1 : Int) == 1 && (sIx items.size items.size hi - sIx items.size 0 lo) == items.size) = true) := by
    intro q
    rw [Bool.and_eq_true, Bool.and_eq_true] at q
    have q1 : ((sIx items.size 0 lo : Nat) : Int) = 0 := eq_of_beq q.1.1
    have q2 : sIx items.size items.size hi - sIx items.size 0 lo = items.size := eq_of_beq q.2
    exact hw ⟨by omega, by omega⟩
  show wpAny _ _ (if (((sIx items.size 0 lo : Nat) : Int) == 0 && (1 : Int) == 1 && (sIx items.size items.size hi - sIx items.size 0 lo) == items.size) = true then _ else _) _ _ s
  rw [if_neg hno, pick_gen]
  first
    | exact wpAny_bind (m := Builtin.Tuple.tupleExact _) (wpAny_newObj_type (wpAny_pure ⟨_, rfl, wpAny_pure h⟩) htake)
    | exact wpAny_bind (m := Builtin.Tuple.tupleExact _) (wpAny_newObj_type (wpAny_bind (wpAny_pure (wpAny_pure ⟨_, rfl, wpAny_pure h⟩))) htake)
    | exact wpAny_bind (wpAny_bind (m := Builtin.Tuple.tupleExact _) (wpAny_newObj_type (wpAny_pure (wpAny_pure ⟨_, rfl, wpAny_pure h⟩)) htake))
    | exact wpAny_bind (wpAny_bind (m := Builtin.Tuple.tupleExact _) (wpAny_newObj_type (wpAny_pure ⟨_, rfl, wpAny_pure h⟩) htake))
end
end HT
namespace L2
open PySem PySem.Spec PyProof.Rows
noncomputable abbrev TO := St → Hp → (Option Int → Hp → Prop) → Prop
noncomputable def PO (X : Cx) (e : Option Expr) (t : TO) : Prop :=
  ∀ (pins : List (Addr × Obj)) (s : Shared) (σ : St) (H : Hp) (Q : Option Int → Hp → Prop), Inv X pins σ H s → t σ H Q →
    wpAny (model X.prog X.w) X.A (evalPart e X.env) (fun u s' => ∃ o H', Inv X pins σ H' s' ∧ IsPart u o ∧ Q o H') X.xe s
noncomputable def tNoPart : TO := fun _ H Q => Q none H
noncomputable def tPart (t : TE) : TO := fun σ H Q => t σ H fun x H1 => ∃ i, x = .int i ∧ Q (some i) H1
theorem intsAre_of {ns : List Int} : ∀ {us : List Value}, Vals (ns.map V.int) us → IntsAre us ns := by
  induction ns with
  | nil => intro us r; rw [List.map_nil] at r; cases r; exact .nil
  | cons n ns ih =>
    intro us r
    rw [List.map_cons] at r
    cases r with
    | cons r1 r2 =>
      obtain ⟨t, e⟩ := r1
      subst e
      exact .cons n t (ih r2)
section
variable {X : Cx} {e : Expr} {te : TE} {lo hi : Option Expr} {tl th : TO} {pos p2 : Pos}
theorem po_none : PO X none tNoPart := by
  intro pins s σ H Q I h
  rw [evalPart_none]
  exact wpAny_pure ⟨none, H, I, .none, h⟩
theorem po_some (h : PE X e te) : PO X (some e) (tPart te) := by
  intro pins s σ H Q I hw
  rw [evalPart_some]
  refine thn (h pins s σ H _ I hw) fun u s1 zz0 => ?_
  obtain ⟨x, H1, I1, r1, q1⟩ := zz0
  obtain ⟨i, rfl, q⟩ := q1
  obtain ⟨t, rfl⟩ := r1
  exact ⟨some i, H1, I1, .int i t, q⟩
noncomputable def SlR (X : Cx) (r : V → Option Int → Option Int → Hp → VK → Prop) : Prop :=
  ∀ (pins : List (Addr × Obj)) (s : Shared) (σ : St) (H : Hp) (x : V) (v vl vu : Value) (lo hi : Option Int) (sl : Addr) (Q : VK), Inv X pins σ H s → RelV x v → s.heap.IsSliceOf sl vl vu .none → IsPart vl lo → IsPart vu hi → r x lo hi H Q →
    ∃ T id, typeLookup (.type T) "__getitem__" = pure (some (.builtin id)) ∧ s.TypeIs v T ∧ wpAny (model X.prog X.w) X.A (getItem v (.ref sl)) (EP X pins σ Q) X.xe s
theorem SlR.or {r r' : V → Option Int → Option Int → Hp → VK → Prop} (h : SlR X r) (h' : SlR X r') : SlR X (fun x lo hi H Q => r x lo hi H Q ∨ r' x lo hi H Q) := by
  intro pins s σ H x v vl vu lo hi sl Q I rx hs pl pu q
  rcases q with q | q
  · exact h pins s σ H x v vl vu lo hi sl Q I rx hs pl pu q
  · exact h' pins s σ H x v vl vu lo hi sl Q I rx hs pl pu q
noncomputable def tSl (r : V → Option Int → Option Int → Hp → VK → Prop) (te : TE) (tl th : TO) : TE := fun σ H Q => te σ H fun x H1 => tl σ H1 fun l H2 => th σ H2 fun u H3 => r x l u H3 Q
theorem pe_slice {r : V → Option Int → Option Int → Hp → VK → Prop} (hr : SlR X r) (he : PE X e te) (hl : PO X lo tl) (hu : PO X hi th) : PE X (.Subscript e (.Slice lo hi none p2) pos) (tSl r te tl th) := by
  intro pins s σ H Q I h
  refine Subscript_ (thn (he pins s σ H _ I h) fun v s1 zz0 => ?_)
  obtain ⟨x, H1, I1, r1, q1⟩ := zz0
  refine wpAny_Slice (thn (hl pins s1 σ H1 _ I1 q1) fun vl s2 ⟨l, H2, I2, pl, q2⟩ => thn (hu pins s2 σ H2 _ I2 q2) fun vu s3 zz0 => ?_)
  obtain ⟨u, H3, I3, pu, q3⟩ := zz0
  rw [evalPart_none]
  refine wpAny_pure ?_
  have I4 : Inv X pins σ H3 { s3 with heap := s3.heap.push { cls := .type "slice", data := .fields #[vl, vu, .none] } } := I3.kept (t' := s3.toks) fun b ob q => Heap.get?_push_of_some _ q
  obtain ⟨T, id, hT, ht, hg⟩ := hr pins { s3 with heap := s3.heap.push { cls := .type "slice", data := .fields #[vl, vu, .none] } } σ H3 x v vl vu l u s3.heap.objs.size Q I4 r1 (Heap.IsSliceOf.new ..) pl pu q3
  show wpAny (model X.prog X.w) X.A (subscriptTail e (.Slice lo hi none p2) v (.ref s3.heap.objs.size)) (EP X pins σ Q) X.xe { s3 with heap := s3.heap.push { cls := .type "slice", data := .fields #[vl, vu, .none] } }
  exact tail_any (ops := [.ref s3.heap.objs.size, v]) ht hT hg (by with_unfolding_all rfl)
noncomputable def cutV (xs : List V) (lo hi : Option Int) : List V := (xs.drop (HT.sIx xs.length 0 lo)).take (HT.sIx xs.length xs.length hi - HT.sIx xs.length 0 lo)
theorem cutV_length (xs : List V) (lo hi : Option Int) : (cutV xs lo hi).length ≤ xs.length := by
  unfold cutV
  rw [List.length_take, List.length_drop]
  omega
noncomputable def rSlT (K : PySem.W.Frag) : V → Option Int → Option Int → Hp → VK → Prop := fun x lo hi H Q => ∃ a xs, x = .ref a ∧ SqT K H a xs ∧
  ¬ (HT.sIx xs.length 0 lo = 0 ∧ HT.sIx xs.length xs.length hi = xs.length) ∧ ∀ p, H p = none → Q (.ref p) (upd H p (.tup (cutV xs lo hi)))
theorem sl_tup : SlR X (rSlT X.K) := by
  intro pins s σ H x v vl vu lo hi sl Q I rx hs pl pu h
  obtain ⟨a, xs, rfl, hx, hw, q⟩ := h
  cases rx
  obtain ⟨its, r, ht, hz⟩ := I.tuple hx
  have hlen : its.toArray.size = xs.length := by rw [List.size_toArray]; exact r.length.symm
  refine ⟨"tuple", _, PyProof.Rows.slot_tuple_getitem.lookup, ht.typeIs, ?_⟩
  refine HT.getItem_tuple_cut ht hs pl pu (by rw [hlen]; exact hw) ?_ (by rw [hlen]; exact hz)
  rw [hlen]
  refine ⟨.ref s.heap.objs.size, _, I.laid (t' := s.toks) (o := .tup (cutV xs lo hi)) (fun b ob q => Heap.get?_push_of_some _ q) (Nat.le_refl _) ?_, rfl, q _ (I.hok.fresh (Nat.le_refl _))⟩
  exact ⟨Nat.le_trans (cutV_length xs lo hi) hz, _, (r.drop (HT.sIx xs.length 0 lo)).take (HT.sIx xs.length xs.length hi - HT.sIx xs.length 0 lo), IsTup.new _ _⟩
noncomputable def rCatT (K : PySem.W.Frag) : R2 := fun x y H Q => ∃ a b xs ys, x = .ref a ∧ y = .ref b ∧ SqT K H a xs ∧ SqT K H b ys ∧ xs ≠ [] ∧ xs.length + ys.length ≤ sizeLine ∧
  (ys = [] → Q (.ref a) H) ∧ (ys ≠ [] → ∀ p, H p = none → Q (.ref p) (upd H p (.tup (xs ++ ys))))
theorem Vals.nil_iff {xs : List V} {us : List Value} (r : Vals xs us) : us = [] ↔ xs = [] := by
  cases r with
  | nil => simp
  | cons _ _ => simp
theorem op_catT : OpR X (binaryOp .Add) (rCatT X.K) := by
  intro pins s σ H x y v u Q I rx ry h
  obtain ⟨a, b, xs, ys, rfl, rfl, ha, hb, hx, hz, q1, q2⟩ := h
  cases rx
  cases ry
  obtain ⟨its, r1, p1, _⟩ := I.tuple ha
  obtain ⟨its2, r2, p2, _⟩ := I.tuple hb
  refine HT.cat_tup p1 p2 (fun z => hx (r1.nil_iff.mp z)) (fun z => ⟨.ref a, H, I, rfl, q1 (r2.nil_iff.mp z)⟩) (fun z => ?_) (by rw [← r1.length, ← r2.length]; exact hz)
  refine ⟨.ref s.heap.objs.size, _, I.laid (t' := s.toks) (o := .tup (xs ++ ys)) (fun b ob q => Heap.get?_push_of_some _ q) (Nat.le_refl _) ?_, rfl, q2 (fun w => z (r2.nil_iff.mpr w)) _ (I.hok.fresh (Nat.le_refl _))⟩
  exact ⟨by rw [List.length_append]; exact hz, _, r1.append r2, IsTup.new _ _⟩
end
end L2
namespace L2
open PySem PySem.Spec PyProof.Rows
noncomputable def ixN (n : Nat) (i : Int) : Option Nat := if 0 ≤ i then (if i < n then some i.toNat else none) else if -(n : Int) ≤ i then some (i + n).toNat else none
noncomputable def atI {α : Type} (xs : List α) (i : Int) : Option α := (ixN xs.length i).bind fun j => xs[j]?
theorem ixN_seq {n : Nat} {i : Int} {j : Nat} (h : ixN n i = some j) : seqIndex? i n = some j ∧ j < n ∧ -(n : Int) ≤ i ∧ i < n := by
  unfold ixN at h
  by_cases h0 : 0 ≤ i
  · rw [if_pos h0] at h
    by_cases h1 : i < n
    · rw [if_pos h1] at h
      have e : i.toNat = j := Option.some.inj h
      exact ⟨by rw [seqIndex_of h0 h1, e], by omega, by omega, h1⟩
    · rw [if_neg h1] at h; cases h
  · rw [if_neg h0] at h
    by_cases h1 : -(n : Int) ≤ i
    · rw [if_pos h1] at h
      have e : (i + n).toNat = j := Option.some.inj h
      exact ⟨by rw [seqIndex_neg (by omega) h1, e], by omega, h1, by omega⟩
    · rw [if_neg h1] at h; cases h
theorem atI_get {α : Type} {xs : List α} {i : Int} {v : α} (h : atI xs i = some v) : ∃ j, seqIndex? i xs.length = some j ∧ xs[j]? = some v ∧ j < xs.length ∧ -(xs.length : Int) ≤ i ∧ i < xs.length := by
  unfold atI at h
  cases e : ixN xs.length i with
  | none => rw [e] at h; cases h
  | some j =>
    rw [e] at h
    obtain ⟨h1, h2, h3, h4⟩ := ixN_seq e
    exact ⟨j, h1, h, h2, h3, h4⟩
noncomputable def PlainIx (b : Expr) : Prop := ∀ o i, subscripted b false o i = operate [o, i] (getItem o i)
noncomputable def IxR (X : Cx) (r : R2) : Prop :=
  ∀ (value slice : Expr) (pins : List (Addr × Obj)) (s : Shared) (σ : St) (H : Hp) (x y : V) (v u : Value) (Q : VK), Inv X pins σ H s → RelV x v → RelV y u → r x y H Q →
    subscripted slice false v u = operate [v, u] (getItem v u) → wpAny (model X.prog X.w) X.A (subscriptTail value slice v u) (EP X pins σ Q) X.xe s
noncomputable def MtR (X : Cx) (id : String) (r : V → List V → Hp → VK → Prop) : Prop :=
  ∀ (pins : List (Addr × Obj)) (s : Shared) (σ : St) (H : Hp) (x : V) (xs : List V) (v : Value) (us : List Value) (Q : VK), Inv X pins σ H s → RelV x v → Vals xs us → r x xs H Q →
    wpAny (model X.prog X.w) X.A (call (.builtin id) (v :: us)) (EP X pins σ Q) X.xe s
section
variable {X : Cx} {a b : Expr} {ta tb : TE} {pos : Pos}
theorem IxR.or {r r' : R2} (h : IxR X r) (h' : IxR X r') : IxR X (fun x y H Q => r x y H Q ∨ r' x y H Q) := by
  intro value slice pins s σ H x y v u Q I rx ry q hs
  rcases q with q | q
  · exact h value slice pins s σ H x y v u Q I rx ry q hs
  · exact h' value slice pins s σ H x y v u Q I rx ry q hs
theorem pe_ix {r : R2} (hr : IxR X r) (ha : PE X a ta) (hb : PE X b tb) (hs : PlainIx b) : PE X (.Subscript a b pos) (tOp r ta tb) := by
  intro pins s σ H Q I h
  exact Subscript_ (binT ha hb I h fun v u s2 x y H2 I2 rx ry q => hr a b pins s2 σ H2 x y v u Q I2 rx ry q (hs _ _))
noncomputable def rIxL (K : PySem.W.Frag) : R2 := fun x y H Q => ∃ p xs i v, x = .ref p ∧ y = .int i ∧ SqL K H p xs ∧ atI xs i = some v ∧ Q v H
noncomputable def rIxT (K : PySem.W.Frag) : R2 := fun x y H Q => ∃ p xs i v, x = .ref p ∧ y = .int i ∧ SqT K H p xs ∧ atI xs i = some v ∧ Q v H
noncomputable def rIxS : R2 := fun x y H Q => ∃ z i c, x = .str z ∧ y = .int i ∧ z.length ≤ sizeLine ∧ atI z.cps.toList i = some c ∧ Q (.str ⟨#[c]⟩) H
theorem ix_list : IxR X (rIxL X.K) := by
  intro value slice pins s σ H x y v u Q I rx ry h hs
  obtain ⟨p, xs, i, z, rfl, rfl, hq, he, q⟩ := h
  cases rx
  obtain ⟨t, rfl⟩ := ry
  obtain ⟨its, r, pl, hz⟩ := I.list hq
  obtain ⟨j, h1, h2, h3, h4, h5⟩ := atI_get he
  obtain ⟨w, ew, rw'⟩ := r.get h2
  have hl := r.length
  have hn := line63
  have fin : EP X pins σ Q w s := ⟨z, H, I, rw', q⟩
  by_cases h0 : 0 ≤ i
  · have hj : i.toNat = j := by
      rw [seqIndex_of h0 h5] at h1
      exact Option.some.inj h1
    exact item_listR pl.isList h0 (by omega) (by rw [hj]; simpa using ew) fin hs
  · have hj : (i + (its.toArray.size : Int)).toNat = j := by
      rw [seqIndex_neg (by omega) h4] at h1
      rw [List.size_toArray, ← hl]
      exact Option.some.inj h1
    exact subscriptTail_builtinR (x := w) pl.isList.typeIs slot_list_getitem.lookup
      (wpAny_getItem_list_neg (Q := fun r s' => r = w ∧ EP X pins σ Q r s') pl.isList (by omega) (by rw [List.size_toArray] <;> omega) (by omega) (by rw [hj]; simpa using ew) ⟨rfl, fin⟩) hs
theorem ix_tup : IxR X (rIxT X.K) := by
  intro value slice pins s σ H x y v u Q I rx ry h hs
  obtain ⟨p, xs, i, z, rfl, rfl, hq, he, q⟩ := h
  cases rx
  obtain ⟨t, rfl⟩ := ry
  obtain ⟨its, r, pl, hz⟩ := I.tuple hq
  obtain ⟨j, h1, h2, h3, h4, h5⟩ := atI_get he
  obtain ⟨w, ew, rw'⟩ := r.get h2
  have hl := r.length
  have hn := line63
  have fin : EP X pins σ Q w s := ⟨z, H, I, rw', q⟩
  exact subscriptTail_builtinR (x := w) pl.typeIs slot_tuple_getitem.lookup
    (getItem_tuple (j := j) (Q := fun r s' => r = w ∧ EP X pins σ Q r s') pl (by omega) (by omega) (by rw [List.size_toArray, ← hl]; exact h1) (by simpa using ew) ⟨rfl, fin⟩) hs
theorem ix_str : IxR X rIxS := by
  intro value slice pins s σ H x y v u Q I rx ry h hs
  obtain ⟨z, i, c, rfl, rfl, hz, he, q⟩ := h
  obtain ⟨t, rfl⟩ := rx
  obtain ⟨t', rfl⟩ := ry
  obtain ⟨j, h1, h2, h3, h4, h5⟩ := atI_get he
  have hl : z.cps.toList.length = z.length := by simp [Str.length]
  rw [hl] at h1 h4 h5
  have hn := line63
  exact tail_any (typeIs_str s z t) slot_str_getitem.lookup (getItem_str (c := c) (by
    have e1 : decide (i < -(2 ^ 63 : Int)) = false := decide_eq_false (by omega)
    have e2 : decide (i ≥ 2 ^ 63) = false := decide_eq_false (by omega)
    rw [e1, e2, Bool.or_false]) (by rw [h1]; simpa using h2) ⟨.str ⟨#[c]⟩, H, I.tok _, ⟨_, rfl⟩, q⟩) hs
noncomputable def rIx (K : PySem.W.Frag) : R2 := fun x y H Q => rIxL K x y H Q ∨ rIxT K x y H Q ∨ rIxS x y H Q
theorem ix_seq : IxR X (rIx X.K) := ix_list.or (ix_tup.or ix_str)
theorem mapSeq_set (its : List Value) (n j : Nat) (u : Value) : Obj.mapSeq (·.setIfInBounds j u) { cls := .type "list", data := .seq its.toArray n } = { cls := .type "list", data := .seq (its.set j u).toArray n } := by
  simp [Obj.mapSeq]
theorem Inv.lst {pins : List (Addr × Obj)} {σ : St} {H : Hp} {s : Shared} {p : Addr} {xs : List V} (I : Inv X pins σ H s) (h : H p = some (.lst xs)) :
    ∃ (its : List Value) (n : Nat), Vals xs its ∧ s.heap.get? p = some { cls := .type "list", data := .seq its.toArray n } ∧ xs.length ≤ sizeLine := by
  obtain ⟨z, its, n, r, e⟩ := I.hok p _ h
  exact ⟨its, n, r, e, z⟩
theorem Inv.lstUpd {pins : List (Addr × Obj)} {σ : St} {H : Hp} {s : Shared} {p : Addr} {xs ys : List V} {its its' : List Value} {n n' : Nat} {f : Obj → Obj} (I : Inv X pins σ H s) (h : H p = some (.lst xs))
    (ho : s.heap.get? p = some { cls := .type "list", data := .seq its.toArray n }) (hf : f { cls := .type "list", data := .seq its.toArray n } = { cls := .type "list", data := .seq its'.toArray n' }) (r : Vals ys its') (hz : ys.length ≤ sizeLine) (t : Nat) :
    Inv X pins σ (upd H p (.lst ys)) { s with heap := s.heap.update p f, toks := t } := by
  have e : (s.heap.update p f).get? p = some { cls := .type "list", data := .seq its'.toArray n' } := by
    rw [Heap.get?_update_self f ho (by rw [hf] <;> rfl), hf]
  refine I.write (x := p) (e := p) (by rw [h]; trivial) (.inl rfl) (fun b u hb q => (Heap.get?_update_other _ _ (Ne.symm hb)).trans q) ⟨_, e⟩ ?_
  exact ⟨hz, its', n', r, e⟩
noncomputable def rSetL : V → V → V → Hp → (Hp → Prop) → Prop := fun o i v H Q => ∃ p xs k j, o = .ref p ∧ i = .int k ∧ H p = some (.lst xs) ∧ ixN xs.length k = some j ∧ Q (upd H p (.lst (xs.set j v)))
theorem set_list : PSet X rSetL := by
  intro pins s σ H o i v ov iv u Q I ro ri rv h
  obtain ⟨p, xs, k, j, rfl, rfl, hp, hj, q⟩ := h
  cases ro
  obtain ⟨t, rfl⟩ := ri
  obtain ⟨its, n, r, ho, hz⟩ := I.lst hp
  obtain ⟨h1, h2, h3, h4⟩ := ixN_seq hj
  have hl := r.length
  have hn := line63
  have I' : Inv X pins σ (upd H p (.lst (xs.set j v))) { s with heap := s.heap.update p (Obj.mapSeq (·.setIfInBounds j u)) } :=
    I.lstUpd hp ho (mapSeq_set its n j u) (r.set rv j) (by rw [List.length_set]; exact hz) s.toks
  by_cases h0 : 0 ≤ k
  · have hk : k.toNat = j := by
      rw [seqIndex_of h0 h4] at h1
      exact Option.some.inj h1
    exact PySem.W.ki_setAt ho h0 (by omega) (by rw [List.size_toArray, ← hl]; exact h4) (by rw [hk]; exact ⟨_, I', q⟩)
  · have hk : (k + (its.toArray.size : Int)).toNat = j := by
      rw [seqIndex_neg (by omega) h3] at h1
      rw [List.size_toArray, ← hl]
      exact Option.some.inj h1
    exact PySem.W.ki_setBack ho (by omega) (by rw [List.size_toArray, ← hl]; exact h3) (by omega) (by rw [hk]; exact ⟨_, I', q⟩)
theorem slice_bounds (lo hi : Option Int) (n : Nat) : (sliceBounds lo hi none n).1 = ((HT.sIx n 0 lo : Nat) : Int) ∧ (sliceBounds lo hi none n).2.1 = ((HT.sIx n n hi : Nat) : Int) ∧ (sliceBounds lo hi none n).2.2 = 1 := by
  refine ⟨?_, ?_, rfl⟩
  · cases lo with
    | none => simp [sliceBounds, HT.sIx]
    | some i =>
      simp only [sliceBounds, HT.sIx, Option.getD_none, show (1 : Int) > 0 by decide, if_true]
      by_cases h : i < 0
      · simp only [h, if_true] <;> omega
      · simp only [h, if_false] <;> omega
  · cases hi with
    | none => simp [sliceBounds, HT.sIx]
    | some i =>
      simp only [sliceBounds, HT.sIx, Option.getD_none, show (1 : Int) > 0 by decide, if_true]
      by_cases h : i < 0
      · simp only [h, if_true] <;> omega
      · simp only [h, if_false] <;> omega
theorem slicePick_cut (its : List Value) (lo hi : Option Int) : slicePick its.toArray lo hi none = ((its.drop (HT.sIx its.length 0 lo)).take (HT.sIx its.length its.length hi - HT.sIx its.length 0 lo)).toArray := by
  obtain ⟨h1, h2, h3⟩ := slice_bounds lo hi its.toArray.size
  unfold slicePick
  rw [h1, h2, h3]
  simp only [sliceRange_one, pick_run, List.size_toArray] <;> rfl
noncomputable def rSlL (K : PySem.W.Frag) : V → Option Int → Option Int → Hp → VK → Prop := fun x lo hi H Q => ∃ a xs, x = .ref a ∧ SqL K H a xs ∧ ∀ p, H p = none → Q (.ref p) (upd H p (.lst (cutV xs lo hi)))
theorem sl_list : SlR X (rSlL X.K) := by
  intro pins s σ H x v vl vu lo hi sl Q I rx hs pl pu h
  obtain ⟨a, xs, rfl, hx, q⟩ := h
  cases rx
  obtain ⟨its, r, ht, hz⟩ := I.list hx
  have hlen := r.length
  refine ⟨"list", _, slot_list_getitem.lookup, ht.isList.typeIs, ?_⟩
  refine wpAny_getItem_list_slice ht.isList hs pl pu .none (by simp) ?_ (by rw [List.size_toArray] <;> omega)
  rw [slicePick_cut, ← hlen]
  refine ⟨.ref s.heap.objs.size, _, I.laid (t' := s.toks) (o := .lst (cutV xs lo hi)) (fun b ob q => Heap.get?_push_of_some _ q) (Nat.le_refl _) ?_, rfl, q _ (I.hok.fresh (Nat.le_refl _))⟩
  exact ⟨Nat.le_trans (cutV_length xs lo hi) hz, _, 0, (r.drop (HT.sIx xs.length 0 lo)).take (HT.sIx xs.length xs.length hi - HT.sIx xs.length 0 lo), Heap.get?_push_size _ rfl⟩
noncomputable def flatV : V → Bool
  | .non => true
  | .bl _ => true
  | .int _ => true
  | .str _ => true
  | _ => false
noncomputable def eqV : V → V → Bool
  | .non, .non => true
  | .bl a, .bl b => a == b
  | .bl a, .int b => (if a then 1 else 0) == b
  | .int a, .bl b => a == (if b then 1 else 0)
  | .int a, .int b => a == b
  | .str a, .str b => a == b
  | _, _ => false
theorem eqAt_V {A : Around} {s : Shared} {y x : V} {u v : Value} (ry : RelV y u) (rx : RelV x v) (fy : flatV y = true) (fx : flatV x = true) : SeqAt.EqAt A s u v (eqV y x) := by
  cases y with
  | non =>
    cases ry
    cases x with
    | non => cases rx; exact SeqAt.EqAt.same _
    | bl b => cases rx; exact SeqAt.EqAt.none_bool b
    | int b => obtain ⟨t, rfl⟩ := rx; exact SeqAt.EqAt.none_int b t
    | str b => obtain ⟨t, rfl⟩ := rx; exact SeqAt.EqAt.none_str b t
    | _ => exact absurd (show false = true from fx) Bool.false_ne_true
  | bl a =>
    cases ry
    cases x with
    | non => cases rx; exact SeqAt.EqAt.bool_none a
    | bl b => cases rx; exact SeqAt.EqAt.bool_bool a b
    | int b => obtain ⟨t, rfl⟩ := rx; exact SeqAt.EqAt.bool_int a b t
    | str b => obtain ⟨t, rfl⟩ := rx; exact SeqAt.EqAt.bool_str a b t
    | _ => exact absurd (show false = true from fx) Bool.false_ne_true
  | int a =>
    obtain ⟨t', rfl⟩ := ry
    cases x with
    | non => cases rx; exact SeqAt.EqAt.int_none a t'
    | bl b => cases rx; exact SeqAt.EqAt.int_bool a t' b
    | int b => obtain ⟨t, rfl⟩ := rx; exact SeqAt.EqAt.int_int a t' b t
    | str b => obtain ⟨t, rfl⟩ := rx; exact SeqAt.EqAt.int_str a t' b t
    | _ => exact absurd (show false = true from fx) Bool.false_ne_true
  | str a =>
    obtain ⟨t', rfl⟩ := ry
    cases x with
    | non => cases rx; exact SeqAt.EqAt.str_none a t'
    | bl b => cases rx; exact SeqAt.EqAt.str_bool a t' b
    | int b => obtain ⟨t, rfl⟩ := rx; exact SeqAt.EqAt.str_int a t' b t
    | str b => obtain ⟨t, rfl⟩ := rx; exact SeqAt.EqAt.str_str a t' b t
    | _ => exact absurd (show false = true from fx) Bool.false_ne_true
  | _ => exact absurd (show false = true from fy) Bool.false_ne_true
noncomputable def eqU (x : V) (u : Value) : Bool := match u with
  | .none => eqV .non x
  | .bool b => eqV (.bl b) x
  | .int i _ => eqV (.int i) x
  | .str z _ => eqV (.str z) x
  | _ => false
theorem eqU_of {x y : V} {u : Value} (r : RelV y u) (f : flatV y = true) : eqU x u = eqV y x := by
  cases y with
  | non => cases r; rfl
  | bl b => cases r; rfl
  | int i => obtain ⟨t, rfl⟩ := r; rfl
  | str z => obtain ⟨t, rfl⟩ := r; rfl
  | _ => exact absurd (show false = true from f) Bool.false_ne_true
theorem any_eqU {x : V} : ∀ {xs : List V} {us : List Value}, Vals xs us → xs.all flatV = true → us.any (eqU x) = xs.any fun y => eqV y x
  | _, _, .nil, _ => rfl
  | y :: xs, u :: us, .cons r t, f => by
    rw [List.all_cons, Bool.and_eq_true] at f
    rw [List.any_cons, List.any_cons, eqU_of r f.1, any_eqU t f.2]
theorem mem_eqAt {A : Around} {s : Shared} {x : V} {v : Value} (rx : RelV x v) (fx : flatV x = true) : ∀ {xs : List V} {us : List Value}, Vals xs us → xs.all flatV = true → ∀ u ∈ us, SeqAt.EqAt A s u v (eqU x u)
  | _, _, .nil, _ => fun u hu => by cases hu
  | y :: xs, u :: us, .cons r t, f => fun u' hu => by
    rw [List.all_cons, Bool.and_eq_true] at f
    rcases List.mem_cons.mp hu with rfl | hu
    · rw [eqU_of r f.1]; exact eqAt_V r rx f.1 fx
    · exact mem_eqAt rx fx t f.2 u' hu
noncomputable def inV (x : V) (xs : List V) : Bool := xs.any fun y => eqV y x
noncomputable def rIn (K : PySem.W.Frag) (neg : Bool) : R2 := fun x y H Q => ∃ p xs, y = .ref p ∧ (SqL K H p xs ∨ SqT K H p xs) ∧ flatV x = true ∧ xs.all flatV = true ∧ Q (.bl (if neg then !inV x xs else inV x xs)) H
theorem op_in_seq : OpR X (compareOp .In) (rIn X.K false) := by
  intro pins s σ H x y v u Q I rx ry h
  obtain ⟨p, xs, rfl, hq, fx, fs, q⟩ := h
  cases ry
  rcases hq with hq | hq
  · obtain ⟨its, r, pl, hz⟩ := I.list hq
    refine SeqAt.in_listAt (eqU x) pl.isList (fun w hw => mem_eqAt rx fx r fs w (by simpa using hw)) ⟨.bl _, H, I, rfl, ?_⟩
    rw [show its.toArray.any (eqU x) = its.any (eqU x) by simp, any_eqU r fs]
    exact q
  · obtain ⟨its, r, pl, hz⟩ := I.tuple hq
    refine SeqAt.in_tupleAt (eqU x) pl (fun w hw => mem_eqAt rx fx r fs w (by simpa using hw)) ⟨.bl _, H, I, rfl, ?_⟩
    rw [show its.toArray.any (eqU x) = its.any (eqU x) by simp, any_eqU r fs]
    exact q
theorem call_list_of : CallR X (.type "list") (fun xs H Q => ∃ p ys, xs = [.ref p] ∧ (SqL X.K H p ys ∨ SqT X.K H p ys) ∧ ∀ l, H l = none → Q (.ref l) (upd H l (.lst ys))) := by
  intro pins s σ H xs us Q I r h
  obtain ⟨p, ys, rfl, hq, q⟩ := h
  obtain ⟨u, rfl, rx⟩ := vals1 r
  cases rx
  have fin : ∀ (its : List Value), Vals ys its → ys.length ≤ sizeLine → ∀ (h' : Heap) (c' : Nat), (∀ b o', s.heap.get? b = some o' → h'.get? b = some o') →
      h'.get? s.heap.objs.size = some { cls := .type "list", dict := none, data := .seq its.toArray c', slots := #[] } → EP X pins σ Q (.ref s.heap.objs.size) { s with heap := h' } := fun its r' hz h' c' kp e =>
    ⟨.ref s.heap.objs.size, _, I.laid (t' := s.toks) kp (Nat.le_refl _) (show ObjOk X.prog X.w _ h' _ (.lst ys) from ⟨hz, its, c', r', e⟩), rfl, q _ (I.hok.fresh (Nat.le_refl _))⟩
  rcases hq with hq | hq
  · obtain ⟨its, r', pl, hz⟩ := I.list hq
    have hlen := r'.length
    obtain ⟨o, ho, hc, n, hd⟩ := pl.isList
    exact call_list_seq p (.inl rfl) ho hc hd (fun h' c' kp e => fin its r' hz h' c' kp e) (by simp only [List.size_toArray] <;> omega)
  · obtain ⟨its, r', pl, hz⟩ := I.tuple hq
    have hlen := r'.length
    obtain ⟨o, ho, hc, n, hd⟩ := pl
    exact call_list_seq p (.inr rfl) ho hc hd (fun h' c' kp e => fin its r' hz h' c' kp e) (by simp only [List.size_toArray] <;> omega)
theorem call_tuple_of : CallR X (.type "tuple") (fun xs H Q => ∃ p ys, xs = [.ref p] ∧ ((SqL X.K H p ys ∧ ∀ l, H l = none → Q (.ref l) (upd H l (.tup ys))) ∨ (SqT X.K H p ys ∧ Q (.ref p) H))) := by
  intro pins s σ H xs us Q I r h
  obtain ⟨p, ys, rfl, h⟩ := h
  obtain ⟨u, rfl, rx⟩ := vals1 r
  cases rx
  rcases h with ⟨hq, q⟩ | ⟨hq, q⟩
  · obtain ⟨its, r', pl, hz⟩ := I.list hq
    have hlen := r'.length
    refine call_tuple_list pl.isList (fun h' kp => ?_) (by simp only [List.size_toArray] <;> omega)
    have I1 : Inv X pins σ H { s with heap := h' } := I.kept (t' := s.toks) kp
    have I2 : Inv X pins σ (upd H h'.objs.size (.tup ys)) { s with heap := h'.push { cls := .type "tuple", data := .seq its.toArray } } :=
      I1.laid (t' := s.toks) (fun b o e => Heap.get?_push_of_some _ e) (Nat.le_refl _) (show ObjOk X.prog X.w _ _ _ (.tup ys) from ⟨hz, its, r', IsTup.new _ _⟩)
    exact ⟨.ref h'.objs.size, _, I2, rfl, q _ (I1.hok.fresh (Nat.le_refl _))⟩
  · obtain ⟨its, r', pl, hz⟩ := I.tuple hq
    exact call_tuple_same pl ⟨.ref p, H, I, rfl, q⟩
noncomputable def tyV (K : PySem.W.Frag) (T : String) (x : V) (H : Hp) : Prop := match x with
  | .str _ => T = "str"
  | .int _ => T = "int"
  | .ref p => (T = "list" ∧ ∃ xs, SqL K H p xs) ∨ (T = "tuple" ∧ ∃ o, K.lookup p = some o ∧ o.cls = .type "tuple" ∧ o.dict = none) ∨
      (T = "dict" ∧ ((∃ kvs, H p = some (.dK kvs)) ∨ ∃ kvs, H p = some (.dT kvs))) ∨ (T = "set" ∧ ∃ S n, H p = some (.set S n))
  | _ => False
theorem tyV_is {pins : List (Addr × Obj)} {σ : St} {H : Hp} {s : Shared} {T : String} {x : V} {v : Value} (I : Inv X pins σ H s) (r : RelV x v) (ty : tyV X.K T x H) :
    s.TypeIs v T ∧ ∀ a, v = .ref a → ∃ ob, s.heap.get? a = some ob ∧ ob.dict = none := by
  cases x with
  | str z =>
    obtain ⟨t, rfl⟩ := r
    cases (show T = "str" from ty)
    exact ⟨typeIs_str s z t, fun _ e => nomatch e⟩
  | int i =>
    obtain ⟨t, rfl⟩ := r
    cases (show T = "int" from ty)
    exact ⟨typeIs_int s i t, fun _ e => nomatch e⟩
  | ref p =>
    cases r
    rcases ty with ⟨rfl, xs, hq⟩ | ⟨rfl, o, hk, hc, hd⟩ | ⟨rfl, hk⟩ | ⟨rfl, S, n, hk⟩
    · obtain ⟨its, _, pl, _⟩ := I.list hq
      refine ⟨pl.isList.typeIs, fun a e => ?_⟩
      cases e
      obtain ⟨o, n, e, c, hd, _⟩ := pl
      exact ⟨o, e, hd⟩
    · refine ⟨⟨o, I.kIn p o hk, hc⟩, fun a e => ?_⟩
      cases e
      exact ⟨o, I.kIn _ o hk, hd⟩
    · have z : ∃ o, s.heap.get? p = some o ∧ o.ExactDict := by
        rcases hk with ⟨kvs, hk⟩ | ⟨kvs, hk⟩
        · obtain ⟨_, _, _, _, o, _, _, e, ex, _⟩ := I.hok p _ hk
          exact ⟨o, e, ex⟩
        · obtain ⟨_, _, _, _, o, _, _, e, ex, _⟩ := I.hok p _ hk
          exact ⟨o, e, ex⟩
      obtain ⟨o, e, ex⟩ := z
      refine ⟨⟨o, e, ex.1⟩, fun a e2 => ?_⟩
      cases e2
      exact ⟨o, e, ex.2.1⟩
    · obtain ⟨o, _, _, _, e, ex, _⟩ := I.hok p _ hk
      refine ⟨⟨o, e, ex.1⟩, fun a e2 => ?_⟩
      cases e2
      exact ⟨o, e, ex.2.1⟩
  | _ => exact False.elim ty
noncomputable def tBM (K : PySem.W.Frag) (T : String) (r : V → List V → Hp → VK → Prop) (to : TE) (t : TA) : TE := fun σ H Q => to σ H fun x H1 => tyV K T x H1 ∧ t σ H1 fun xs H2 => r x xs H2 Q
variable {o e : Expr} {es : List Expr} {to : TE} {t : TA} {name : Str} {apos cpos : Pos} {T id : String} {r : V → List V → Hp → VK → Prop}
theorem pe_bm (pa : PlainAttrs T) (slot : Slot T name id) (hty : typeOf (.builtin id) = pure (.type "method_descriptor")) (hm : MtR X id r) (ho : PE X o to) (ha : PA X (e :: es) t)
    (hbase : attributeBase o name X.env (eval o X.env) = eval o X.env := by rfl)
    (hfew : ((backTo cpos (starEach (e :: es) X.env)).all (fun x => !x.1) && (backToKw cpos (keywordEach [] X.env)).all (fun x => x.1.isSome)
      && decide ((e :: es).length + ([] : List Keyword).length + (if ([] : List Keyword).isEmpty then 0 else 1) < 30)) = true := by rfl)
    (hline : (apos.endLine == cpos.line) = true := by rfl) (hs : starEach (e :: es) X.env = (false, eval e X.env) :: starEach es X.env := by rfl) (hplain : (backTo cpos (starEach es X.env)).any (·.1) = false := by rfl) :
    PE X (.Call (.Attribute o name apos) (e :: es) [] cpos) (tBM X.K T r to t) := by
  intro pins s σ H Q I h
  refine wpAny_Call_method_late hbase hfew hline rfl (thn (ho pins s σ H _ I h) fun v s1 zz0 => ?_)
  obtain ⟨x, H1, I1, r1, ty, q1⟩ := zz0
  obtain ⟨h1, h2⟩ := tyV_is I1 r1 ty
  refine ⟨T, id, pa, slot, hty, h1, h2, ?_⟩
  have hA := ha cpos pins s1 σ H1 _ I1 q1
  rw [hs] at hA ⊢
  refine Calls.callWith_builtin (by show (false || (backTo cpos (starEach es X.env)).any (·.1)) = false; rw [hplain] <;> rfl) (Calls.evalArgs_plain ?_)
  exact thn hA fun us s2 ⟨vs, H2, I2, r2, q2⟩ => hm pins s2 σ H2 x vs v us Q I2 r1 r2 q2
end
end L2
namespace L2
open PySem PySem.Spec PyProof.Rows
noncomputable def MtM (X : Cx) (id : String) (r : V → List V → Hp → VK → Prop) : Prop :=
  ∀ (pins : List (Addr × Obj)) (s : Shared) (σ : St) (H : Hp) (x : V) (xs : List V) (v : Value) (us : List Value) (Q : VK), Inv X pins σ H s → RelV x v → Vals xs us → r x xs H Q →
    wpAny (model X.prog X.w) X.A (call (.builtin id) (v :: us)) (EP X pins σ Q) X.xe s
theorem Vals.one {x : V} {us : List Value} (h : Vals [x] us) : ∃ u, us = [u] ∧ RelV x u := by
  cases h with
  | cons r t => cases t; exact ⟨_, rfl, r⟩
theorem Vals.rep {xs : List V} {us : List Value} (h : Vals xs us) : ∀ k : Nat, Vals (List.replicate k xs).flatten (List.replicate k us).flatten
  | 0 => .nil
  | k + 1 => by
    rw [List.replicate_succ, List.replicate_succ, List.flatten_cons, List.flatten_cons]
    exact Vals.append h (Vals.rep h k)
theorem foldl_rep (its : List Value) : ∀ (k : Nat) (acc : List Value),
    List.foldl (fun x1 x2 => x1 ++ x2) acc.toArray (List.replicate k its.toArray) = (acc ++ (List.replicate k its).flatten).toArray
  | 0, acc => by simp
  | k + 1, acc => by
    have e : acc.toArray ++ its.toArray = (acc ++ its).toArray := by simp
    have e2 : (acc ++ its) ++ (List.replicate k its).flatten = acc ++ (List.replicate (k + 1) its).flatten := by
      rw [List.replicate_succ, List.flatten_cons, List.append_assoc]
    rw [← e2, ← foldl_rep its k (acc ++ its), ← e, List.replicate_succ, List.foldl_cons]
section
variable {X : Cx} {pins : List (Addr × Obj)} {σ : St} {H : Hp} {s : Shared} {l b : Addr} {xs ys zs : List V}
theorem Inv.lset {its its' : List Value} {n : Nat} {f : Array Value → Array Value} {t' : Nat} (I : Inv X pins σ H s) (hH : H l = some (.lst xs))
    (e : s.heap.get? l = some { cls := .type "list", data := .seq its.toArray n }) (hf : f its.toArray = its'.toArray) (hv : Vals ys its') (hz : ys.length ≤ sizeLine) :
    Inv X pins σ (upd H l (.lst ys)) { s with heap := s.heap.update l (Obj.mapSeq f), toks := t' } := by
  have q := PySem.IsL.update e f
  rw [hf] at q
  refine I.write (x := l) (e := l) (by rw [hH]; exact trivial) (.inl rfl) (fun b' u hb hu => (Heap.get?_update_other s.heap (Obj.mapSeq f) (Ne.symm hb)).trans hu) ⟨_, q⟩ ?_
  exact ⟨hz, its', _, hv, q⟩
theorem Inv.lnew {its : List Value} {t' : Nat} (I : Inv X pins σ H s) (hv : Vals ys its) (hz : ys.length ≤ sizeLine) :
    Inv X pins σ (upd H s.heap.objs.size (.lst ys)) { s with heap := s.heap.push { cls := .type "list", data := .seq its.toArray }, toks := t' } :=
  I.laid (fun _ _ q => Heap.get?_push_of_some _ q) (Nat.le_refl _) ⟨hz, its, 0, hv, Heap.get?_push_size _ rfl⟩
theorem Inv.fresh (I : Inv X pins σ H s) : H s.heap.objs.size = none := I.hok.fresh (Nat.le_refl _)
theorem Inv.lstM (I : Inv X pins σ H s) (hH : H l = some (.lst xs)) : xs.length ≤ sizeLine ∧ ∃ (its : List Value) (n : Nat), Vals xs its ∧ xs.length = its.length ∧ s.heap.get? l = some { cls := .type "list", data := .seq its.toArray n } := by
  obtain ⟨z, its, n, r, e⟩ := I.hok l _ hH
  exact ⟨z, its, n, r, r.length, e⟩
theorem notLongL {n : Nat} (h : n ≤ sizeLine) : Builtin.List.listTooLong n = false := by
  unfold Builtin.List.listTooLong
  exact decide_eq_false (by omega)
end
section
variable {X : Cx}
noncomputable def rAppend : V → List V → Hp → VK → Prop := fun x vs H Q => ∃ l xs y, x = .ref l ∧ vs = [y] ∧ H l = some (.lst xs) ∧ xs.length < sizeLine ∧ Q .non (upd H l (.lst (xs ++ [y])))
theorem mt_append : MtM X "list.append" rAppend := by
  intro pins s σ H x vs v us Q I rx rv h
  obtain ⟨l, xs, y, rfl, rfl, hH, hz, q⟩ := h
  cases rx
  obtain ⟨u, rfl, ru⟩ := rv.one
  obtain ⟨z, its, n, r, hl, e⟩ := I.lstM hH
  refine call_meets F.slot_list_append ⟨_, e, rfl⟩ F.entry_list_append (F.args_list_append_2 _ _) (PySem.list_append l its.toArray n u (by rw [List.size_toArray]; omega)) ⟨e, ?_⟩
  refine ⟨.non, _, I.lset (its' := its ++ [u]) hH e (by simp) (r.append (.cons ru .nil)) ?_, rfl, q⟩
  rw [List.length_append, List.length_singleton]
  omega
noncomputable def rExtend : V → List V → Hp → VK → Prop := fun x vs H Q => ∃ l b xs zs, x = .ref l ∧ vs = [.ref b] ∧ H l = some (.lst xs) ∧ H b = some (.lst zs) ∧ xs.length + zs.length ≤ sizeLine ∧ Q .non (upd H l (.lst (xs ++ zs)))
theorem mt_extend : MtM X "list.extend" rExtend := by
  intro pins s σ H x vs v us Q I rx rv h
  obtain ⟨l, b, xs, zs, rfl, rfl, hH, hB, hz, q⟩ := h
  cases rx
  obtain ⟨u, rfl, ru⟩ := rv.one
  cases ru
  obtain ⟨z, its, n, r, hl, e⟩ := I.lstM hH
  obtain ⟨z2, its2, n2, r2, hl2, e2⟩ := I.lstM hB
  have hsz : its.toArray.size + its2.toArray.size ≤ sizeLine := by rw [List.size_toArray, List.size_toArray]; omega
  have hlong : ¬ (!its.toArray.isEmpty && Builtin.List.listTooLong (its.toArray.size + its2.toArray.size)) = true := by
    rw [notLongL hsz, Bool.and_false]
    exact Bool.false_ne_true
  refine call_meets F.slot_list_extend ⟨_, e, rfl⟩ F.entry_list_extend (F.args_list_extend_2 _ _)
    (AutoSeq1.list_extend_list_list_0 l its.toArray n b its2.toArray n2 hlong (by rw [List.size_toArray]; omega) (by omega)) ⟨e, e2, ?_⟩
  refine ⟨.non, _, I.lset (its' := its ++ its2) hH e (by simp) (r.append r2) ?_, rfl, q⟩
  rw [List.length_append]
  omega
noncomputable def rCat : R2 := fun x y H Q => ∃ l b xs zs, x = .ref l ∧ y = .ref b ∧ H l = some (.lst xs) ∧ H b = some (.lst zs) ∧ xs.length + zs.length ≤ sizeLine ∧ ∀ p, H p = none → Q (.ref p) (upd H p (.lst (xs ++ zs)))
theorem op_cat : OpR X (binaryOp .Add) rCat := by
  intro pins s σ H x y v u Q I rx ry h
  obtain ⟨l, b, xs, zs, rfl, rfl, hH, hB, hz, q⟩ := h
  cases rx
  cases ry
  obtain ⟨z, its, n, r, hl, e⟩ := I.lstM hH
  obtain ⟨z2, its2, n2, r2, hl2, e2⟩ := I.lstM hB
  refine PySem.P.add_list e e2 ?_ (by rw [List.size_toArray, List.size_toArray]; omega)
  have ea : its.toArray ++ its2.toArray = (its ++ its2).toArray := by simp
  rw [ea]
  exact ⟨.ref _, _, I.lnew (t' := s.toks) (r.append r2) (by rw [List.length_append]; omega), rfl, q _ I.fresh⟩
noncomputable def rRep : R2 := fun x y H Q => ∃ l k xs, x = .ref l ∧ y = .int k ∧ H l = some (.lst xs) ∧ -(2 ^ 63) ≤ k ∧ k < 2 ^ 63 ∧ xs.length * k.toNat ≤ sizeLine ∧
  ∀ p, H p = none → Q (.ref p) (upd H p (.lst (List.replicate k.toNat xs).flatten))
theorem len_rep {α : Type} (xs : List α) (k : Nat) : (List.replicate k xs).flatten.length = k * xs.length := by
  induction k with
  | zero => simp
  | succ k ih => rw [List.replicate_succ, List.flatten_cons, List.length_append, ih, Nat.succ_mul, Nat.add_comm]
theorem op_rep : OpR X (binaryOp .Mult) rRep := by
  intro pins s σ H x y v u Q I rx ry h
  obtain ⟨l, k, xs, rfl, rfl, hH, h1, h2, hz, q⟩ := h
  cases rx
  obtain ⟨t, rfl⟩ := ry
  obtain ⟨z, its, n, r, hl, e⟩ := I.lstM hH
  have hlen : its.toArray.size * k.toNat ≤ sizeLine := by rw [List.size_toArray, ← hl]; exact hz
  have hcap : ¬ its.toArray.size * k.toNat > (2 ^ 63 - 1) / 8 := by
    have : (sizeLine : Nat) ≤ (2 ^ 63 - 1) / 8 := by decide
    omega
  have hfit : ¬ (!Builtin.List.listFitsIndex k) = true := by
    rw [fitsIndex_both h1 h2]
    exact Bool.false_ne_true
  have hlong : ¬ Builtin.List.listTooLong (its.toArray.size * k.toNat) = true := by
    rw [notLongL hlen]
    exact Bool.false_ne_true
  have hnew : List.foldl (fun x1 x2 => x1 ++ x2) #[] (List.replicate (if its.toArray.isEmpty = true then 0 else k.toNat) its.toArray) = (List.replicate k.toNat its).flatten.toArray := by
    have f0 : ∀ m : Nat, List.foldl (fun x1 x2 => x1 ++ x2) #[] (List.replicate m its.toArray) = (List.replicate m its).flatten.toArray := fun m => by
      have := foldl_rep its m []
      rw [List.nil_append] at this
      exact this
    rw [f0]
    cases its with
    | nil => simp
    | cons a r' => rw [if_neg (by simp)]
  refine wpAny_binaryOp_repeat_ref (T := "list") (U := "int") (by decide) ⟨_, e, rfl⟩ (fun s' => typeIs_int s' k t) noFill_list_mul F.fills_int_mul F.slot_int_rmul repeat_list F.slot_int_index.lookup
    (call_meets F.slot_int_rmul (typeIs_int s k t) F.entry_int_rmul (F.args_int_rmul_2 _ _) (int___rmul___int_list k t l its.toArray n)
      ⟨e, rfl, ⟨_, e, rfl⟩, call_meets F.slot_list_mul ⟨_, e, rfl⟩ F.entry_list_mul (F.args_list_mul_2 _ _) (AutoListH.list___mul___list_int_3 l its.toArray n k t hfit hcap hlong) ⟨e, ?_⟩⟩)
  rw [hnew]
  exact ⟨.ref _, _, I.lnew (t' := s.toks) (r.rep k.toNat) (by rw [len_rep, Nat.mul_comm]; exact hz), rfl, q _ I.fresh⟩
end
section
variable {prog : Program} {w : World} {A : Around} {E : Value → Shared → Prop} {s : Shared}
end
section
variable {X : Cx}
end
end L2
namespace Att
open PySem PySem.W PySem.Calls PyProof.Rows
theorem ints_of_wellAll {P : Params} {h : Heap} : ∀ (ns : List Int) (vs : List Value), WellAll P h vs (ns.map WData.int) → IntsAre vs ns := by
  intro ns
  induction ns with
  | nil =>
    intro vs w
    rw [List.map_nil] at w
    cases w
    exact .nil
  | cons n ns ih =>
    intro vs w
    rw [List.map_cons] at w
    cases w with
    | cons a b =>
      cases a
      exact .cons _ _ (ih _ b)
theorem script_of {l : OpenLaw} {n : Nat} (hn : l.most = some n) {P : Params} {h : Heap} {args : List WData} {vals : List Value}
    (hpre : l.row.toRowW.claim.pre args = true) (hwl : WellAll P h vals args) :
    ∃ a vs ns, vals = [Value.ref a] ∧ args = [WData.list (ns.map WData.int)] ∧ h.get? a = some { cls := .type "list", data := .seq vs.toArray } ∧ IntsAre vs ns ∧ ns.length ≤ n := by
  have hsh : WShape.hasAll [] args [.list .int] = true := (pre_splitW hpre).1
  have hc : l.pre.holds [] { args := args } = true := (pre_splitW hpre).2
  obtain ⟨d, r, rfl, h1, h2⟩ := hasAllW_cons hsh
  obtain rfl := hasAllW_nil h2
  obtain ⟨xs, rfl, h3⟩ := hasW_list h1
  obtain ⟨ns, rfl⟩ := items_int h3
  have hlen : ns.length ≤ n := by
    unfold OpenLaw.pre at hc
    have h4 : (WTm.not (.lt (.lit (.int (n : Int))) (.len (.arg 0)))).holds [] { args := [.list (ns.map .int)] } = true := by
      have h4 := (holds_andW hc).1
      rw [hn] at h4
      exact h4
    have h5 := condW_of h4 (w_not (w_lt w_lit (w_len_list (w_arg rfl))))
    rw [List.length_map] at h5
    refine Nat.le_of_not_lt fun q => ?_
    have q' : (n : Int) < ((ns.length : Nat) : Int) := by omega
    first
      | (rw [decide_eq_true q'] at h5; exact absurd h5 (by decide))
      | (simp at h5; omega)
  cases hwl with
  | cons w1 w2 =>
    cases w2
    cases w1 with
    | list ho hall => exact ⟨_, _, ns, rfl, rfl, ho, ints_of_wellAll ns _ hall, hlen⟩
theorem post_true (l : OpenLaw) (args : List WData) : l.row.toRowW.claim.post args (.bool true) args = true :=
  postW_of (r := l.row.toRowW) (X := (true == true))
    (show WShape.has [] (.bool true) .bool = true by first | rfl | decide | simp [WShape.has, WShape.arms, WShape.armsAll])
    (show (WTm.eq .res (.lit (.bool true))).value [] { args := args, res := some (.bool true), after := args } = some (.bool (true == true)) from w_eq_bool (w_res rfl) w_lit) rfl
section
variable {prog : Program} {w : World} {A : Around} {E : Value → Shared → Prop} {s : Shared} {K : Frag}
end
end Att
namespace L2
open PySem PySem.Spec PyProof.Rows
theorem vals_ints : ∀ {vs : List Value} {ns : List Int}, IntsAre vs ns → Vals (ns.map V.int) vs
  | _, _, .nil => .nil
  | _, _, .cons n t h => .cons ⟨t, rfl⟩ (vals_ints h)
noncomputable def Only (H : Hp) : Prop := ∀ b, H b = none ∨ ∃ o xs, H b = some (.frz o (.lst xs))
theorem law_call {P : Program} {w : World} {K : PySem.W.Frag} {mg mb : Str → Option Value} {CX : CXT} {k : Nat} {fa a : Addr} {fd : FuncData} {x : Str} {sp : Sp} {s₁ : Shared} {vs : List Value} {ns : List Int}
    (KX : K.In s₁.heap) (hns : s₁.heap.Ns mainGlobals mg) (hb : s₁.heap.Ns builtinsNs mb) (hbb : ∀ x : Str, x ≠ "__name__" → mb x = bootBuiltins x) (hlim : s₁.heap.NoLimit) (hg : s₁.gens = #[])
    (ha : s₁.heap.get? a = some { cls := .type "list", data := .seq vs.toArray }) (hi : IntsAre vs ns) (hl : ns.length ≤ sizeLine) (hr : Room k callerA)
    (F : ∀ base : Heap, K.In base → base.Ns mainGlobals mg → FnOk P w K mg base CX k fa fd [x] sp) (hbind : ∀ (s : Shared) (u : Value), BindsTo s fd ⟨[u], []⟩ [(x, u)])
    (hsp : ∀ H : Hp, Only H → SqL K H a (ns.map V.int) → sp [.ref a] H (fun v _ => v = .bl true) fun _ _ _ => False)
    (hCX : ∀ H e s', CX [] H s₁ (fun _ _ _ => False) e s' → False) :
    codeAny (model P w) callerA (.call (.ref fa) ⟨[.ref a], []⟩) (fun r s' => r = .ok (.ret (.bool true)) ∧ OldK s₁.heap s'.heap ∧ s'.os = s₁.os ∧ AllBare s'.gens) s₁ := by
  have rv := vals_ints hi
  have lenV := hi.length
  have core : ∀ H : Hp, Only H → SqL K H a (ns.map V.int) → HOk P w H s₁.heap → (∀ b, H b ≠ none → b = a) → (H a ≠ none → K.lookup a = none) →
      codeAny (model P w) callerA (.call (.ref fa) ⟨[.ref a], []⟩) (fun r s' => r = .ok (.ret (.bool true)) ∧ OldK s₁.heap s'.heap ∧ s'.os = s₁.os ∧ AllBare s'.gens) s₁ := by
    intro H hO hS hok hA hK
    have base_of : ∀ {b : Addr} {o : Obj}, s₁.heap.get? b = some o → H b = none → (hidT s₁.heap H).get? b = some o := fun e n => hidT_get e n
    have noA : ∀ {b : Addr} {o : Obj} {es : Array DictEntry} {ep : Nat}, s₁.heap.get? b = some o → o.data = .dict es ep → H b = none := fun {b o es ep} e d => by
      cases q : H b with
      | none => rfl
      | some u =>
        have e' : b = a := hA b (by rw [q]; simp)
        subst e'
        rw [ha] at e; cases e
        have d' : Data.seq vs.toArray _ = Data.dict es ep := d
        cases d'
    have nsK : ∀ {b : Addr} {m : Str → Option Value}, s₁.heap.Ns b m → (hidT s₁.heap H).Ns b m := fun {b m} ⟨o, es, ep, e, d, r⟩ => ⟨o, es, ep, base_of e (noA e d), d, r⟩
    have hKb : K.In (hidT s₁.heap H) := fun b o e => base_of (KX b o e) (by
      cases q : H b with
      | none => rfl
      | some u =>
        have e' : b = a := hA b (by rw [q]; simp)
        subst e'
        rw [hK (by rw [q]; simp)] at e; cases e)
    have hM : Mod K mg (hidT s₁.heap H) := ⟨hKb, nsK hns, ⟨mb, nsK hb, hbb⟩, let ⟨mc, h1, h2⟩ := hlim; ⟨mc, nsK h1, h2⟩⟩
    have e0 : Env0 P w K mg (hidT s₁.heap H) callerA [] s₁ H := ⟨rfl, hM, fun b o e => of_hidT e, Nat.le_of_eq (hidT_size _ _), trivial, fun b hb => absurd (show b ∈ ([] : List Addr) from hb) (by simp), hok, .of_eq hg⟩
    refine codeAny_mono ((F _ hKb (nsK hns)).run callerA [] s₁ H ⟨[.ref a], []⟩ [.ref a] [.ref a] _ _ hr e0 (hbind s₁ (.ref a)) (.cons rfl .nil) (hsp H hO hS)) fun r s' h => ?_
    cases r with
    | error e => exact (hCX H e s' h).elim
    | ok fl =>
      cases fl with
      | next => exact False.elim h
      | brk => exact False.elim h
      | cont => exact False.elim h
      | ret u =>
        obtain ⟨v, H', os, bare, un, hok', r', q⟩ := h
        have q' : v = .bl true := q
        subst q'
        obtain rfl : u = Value.bool true := r'
        refine ⟨rfl, OldK.of_keep fun b o e => ?_, os, bare⟩
        cases q : H b with
        | none => exact un.keep b o e q (by intro z; exact absurd (show b ∈ ([] : List Addr) from z) (by simp)) (by simp)
        | some u =>
          rcases hO b with z | ⟨ob, xs, z⟩
          · rw [q] at z; cases z
          · have z2 := un.frzs b ob _ z
            obtain ⟨e1, _⟩ := hok b _ z
            obtain ⟨e2, _⟩ := hok' b _ z2
            rw [e] at e1; cases e1
            exact e2
  cases hk : K.lookup a with
  | some o =>
    have e := KX a o hk
    rw [ha] at e
    cases e
    refine core (fun _ => none) (fun _ => .inl rfl) (.inr ⟨_, vs.toArray, _, hk, rfl, rfl, rfl, by rw [List.size_toArray, lenV]; exact hl, by simpa using rv⟩) (fun b u z => by have z' : (none : Option HO) = some u := z; cases z') (fun b z => absurd rfl z) fun z => absurd rfl z
  | none =>
    refine core (fun b => if b = a then some (.frz { cls := .type "list", data := .seq vs.toArray } (.lst (ns.map V.int))) else none) (fun b => ?_) (.inl (.inr ⟨{ cls := .type "list", data := .seq vs.toArray }, if_pos rfl⟩)) (fun b u z => ?_) (fun b z => ?_) fun _ => hk
    · by_cases hb : b = a
      · exact .inr ⟨_, _, if_pos hb⟩
      · exact .inl (if_neg hb)
    · by_cases hb : b = a
      · have z' := (if_pos hb).symm.trans z
        cases z'
        subst hb
        exact ⟨ha, by rw [List.length_map]; exact hl, vs, _, rv, ha⟩
      · have z' := (if_neg hb).symm.trans z
        cases z'
    · by_cases hb : b = a
      · exact hb
      · exact absurd (if_neg hb) z
end L2
namespace L2
open PySem PySem.Spec PyProof.Rows
end L2
namespace L2
open PySem PySem.Spec PyProof.Rows
noncomputable def defArgs (s : Stmt) : Arguments := match s with
  | .FunctionDef _ a _ _ _ _ _ _ _ _ => a
  | _ => { posonlyargs := [], args := [], vararg := none, kwonlyargs := [], kw_defaults := [], kwarg := none, defaults := [] }
noncomputable def defBody (s : Stmt) : List Stmt := match s with
  | .FunctionDef _ _ b _ _ _ _ _ _ _ => b
  | _ => []
noncomputable def defScope (s : Stmt) : Scope := match s with
  | .FunctionDef _ _ _ _ _ _ sc _ _ _ => sc
  | _ => { kind := .function, names := [], isGenerator := false, isCoroutine := false }
noncomputable abbrev CX0 : CXT := fun _ _ _ _ _ _ => False
noncomputable abbrev E0 : XK := fun _ _ _ => False
theorem pass0 {X : Cx} : Passes CX0 X E0 := fun _ _ _ _ _ _ _ h => h.elim
structure Fun (K : PySem.W.Frag) (x qual : Str) (st : Stmt) (f : Addr) (fd : FuncData) : Prop where
  ex : ∃ (oc : Value) (od : Option Addr) (dV kV doc pm : Value) (an : Option Addr) (cdv ct : Value) (osl : Array (Option Value)),
    fd = PySem.W.fnOf x qual (defArgs st) (defBody st) (defScope st) dV kV doc pm an cdv ct ∧ K.lookup f = some ⟨oc, od, .func fd, osl⟩ ∧ PySem.W.codeIn K cdv qual = true
  kp : PySem.W.keepIn K (.ref f) = true
section
variable {P : Program} {w : World} {K : PySem.W.Frag} {mg : Str → Option Value} {base : Heap}
theorem Fun.ok {x qual : Str} {st : Stmt} {f : Addr} {fd : FuncData} {N ps : List Str} {k : Nat} {sp : Sp} (F : Fun K x qual st f fd) (S : FnScope N ps (defScope st)) (len : ∀ vs H Q E, sp vs H Q E → vs.length = ps.length)
    (hbody : ∀ (cdv : Value) (A : Around) (outer : List Env) (s : Shared) (H : Hp) (vs : List V) (Q : VK) (E : XK), Room k (A.deeper (envOfC qual (defScope st) s.heap.objs.size f cdv)) → sp vs H Q E →
      ∃ t, PSs (cxOf CX0 P w K mg base N qual (defScope st) f cdv A outer s H E).nox (defBody st) t ∧ t { nx := fun _ H' => Q .non H', rt := Q } (start N vs) H) : FnOk P w K mg base CX0 (k + 1) f fd ps sp := by
  obtain ⟨oc, od, dV, kV, doc, pm, an, cdv, ct, osl, rfl, lk, hcd⟩ := F.ex
  refine fn_of lk hcd S len fun A outer s H vs Q E hr hsp => ?_
  obtain ⟨t, h, q⟩ := hbody cdv A outer s H vs Q E hr hsp
  exact ⟨t, h.nox, q⟩
theorem fun_mk {x qual : Str} {st : Stmt} {f : Addr} {oc : Value} {od an : Option Addr} {osl : Array (Option Value)} {dV kV doc pm cdv ct : Value} (l : K.lookup f = some ⟨oc, od, .func (PySem.W.fnOf x qual (defArgs st) (defBody st) (defScope st) dV kV doc pm an cdv ct), osl⟩)
    (c : PySem.W.codeIn K cdv qual = true) (k : PySem.W.keepIn K (.ref f) = true) : Fun K x qual st f (PySem.W.fnOf x qual (defArgs st) (defBody st) (defScope st) dV kV doc pm an cdv ct) := ⟨⟨oc, od, dV, kV, doc, pm, an, cdv, ct, osl, rfl, l, c⟩, k⟩
end
section
variable {X : Cx}
theorem pv (i : Nat) {x : Str} {pos : Pos} (hN : X.N[i]? = some x := by rfl) (hv : Vis X.env.scope x := by trivial) (hd : (x == ("__debug__" : Str)) = false := by decide)
    (hcd : (x == ("__classdict__" : Str)) = false := by decide) : PE X (.Name x pos) (tVar i) := pe_var hN hv hd hcd
end
theorem iteF {A B : Prop} (h : B) : if false = true then A else B := by
  rw [if_neg Bool.false_ne_true]
  exact h
theorem iteT {A B : Prop} (h : A) : if true = true then A else B := by
  rw [if_pos rfl]
  exact h
noncomputable def Same (H H' : Hp) : Prop := ∀ b o, H b = some o → H' b = some o
theorem Same.trans {H H1 H2 : Hp} (a : Same H H1) (b : Same H1 H2) : Same H H2 := fun c o h => b c o (a c o h)
end L2
namespace L2
open PySem PySem.Spec PyProof.Rows
theorem relabel_lookup {env : Env} : ∀ {names : List (Str × NameKind)} {x : Str},
    (names.map fun (n, k) => if (k == NameKind.free && env.scope.kind == .function && env.kindOf n == some .cell) then (n, NameKind.cell) else (n, k)).lookup x
      = (names.lookup x).map fun k => if (k == NameKind.free && env.scope.kind == .function && env.kindOf x == some .cell) then NameKind.cell else k
  | [], _ => rfl
  | (n, k) :: r, x => by
    have ih := @relabel_lookup env r x
    show List.lookup x ((if (k == NameKind.free && env.scope.kind == .function && env.kindOf n == some .cell) = true then (n, NameKind.cell) else (n, k)) :: _) = _
    cases hx : x == n with
    | true =>
      have e : x = n := beq_iff_eq.mp hx
      subst e
      by_cases hc : (k == NameKind.free && env.scope.kind == .function && env.kindOf x == some .cell) = true
      · rw [if_pos hc]; simp only [List.lookup_cons, hx, Option.map_some]; rw [if_pos hc]
      · rw [if_neg hc]; simp only [List.lookup_cons, hx, Option.map_some]; rw [if_neg hc]
    | false =>
      by_cases hc : (k == NameKind.free && env.scope.kind == .function && env.kindOf n == some .cell) = true
      · rw [if_pos hc]; simp only [List.lookup_cons, hx]; exact ih
      · rw [if_neg hc]; simp only [List.lookup_cons, hx]; exact ih
theorem relabel_free {scope : Scope} {env : Env} {x : Str} (h : scope.names.lookup x = some .free) : (relabel scope env).names.lookup x = some .cell ∨ (relabel scope env).names.lookup x = some .free := by
  have e : (relabel scope env).names.lookup x = _ := relabel_lookup (env := env) (names := scope.names) (x := x)
  rw [e, h, Option.map_some]
  split
  · exact .inl rfl
  · exact .inr rfl
theorem relabel_back {scope : Scope} {env : Env} {x : Str} (h : (relabel scope env).names.lookup x = some .cell ∨ (relabel scope env).names.lookup x = some .free) : scope.names.lookup x = some .cell ∨ scope.names.lookup x = some .free := by
  have e : (relabel scope env).names.lookup x = _ := relabel_lookup (env := env) (names := scope.names) (x := x)
  rw [e] at h
  cases q : scope.names.lookup x with
  | none => rw [q] at h; simp at h
  | some k =>
    rw [q, Option.map_some] at h
    by_cases hc : (k == NameKind.free && env.scope.kind == .function && env.kindOf x == some .cell) = true
    · have : (k == NameKind.free) = true := by
        rw [Bool.and_eq_true, Bool.and_eq_true] at hc; exact hc.1.1
      have : k = .free := by simpa using this
      subst this; exact .inr rfl
    · rw [if_neg hc] at h
      rcases h with h | h
      · exact .inl h
      · exact .inr h
noncomputable def closL (cells : List (Str × Addr)) : List (Str × NameKind) → List (Str × Addr) → List (Str × Addr)
  | [], acc => acc
  | (n, k) :: r, acc => if k == .free then closL cells r ((n, (cells.lookup n).getD 0) :: acc) else closL cells r acc
theorem closureFor_eq {scope : Scope} {env : Env} (h : ∀ n, (n, NameKind.free) ∈ scope.names → (env.cells.lookup n).isSome = true) : closureFor scope env = pure (closL env.cells scope.names []) := by
  have all : ∀ (names : List (Str × NameKind)) (acc : List (Str × Addr)), (∀ n, (n, NameKind.free) ∈ names → (env.cells.lookup n).isSome = true) →
      (forIn names acc fun x cs => (if x.2 == NameKind.free then do let c ← cellOf env x.1; pure (ForInStep.yield ((x.1, c) :: cs)) else pure (ForInStep.yield cs) : Sem (ForInStep (List (Str × Addr))))) = pure (closL env.cells names acc) := by
    intro names
    induction names with
    | nil => intro acc _; rfl
    | cons p r ih =>
      intro acc hp
      obtain ⟨n, k⟩ := p
      rw [List.forIn_cons]
      by_cases hk : (k == NameKind.free) = true
      · have ek : k = .free := by simpa using hk
        obtain ⟨c, hc⟩ := Option.isSome_iff_exists.mp (hp n (by rw [ek]; exact List.mem_cons_self))
        have e1 : cellOf env n = pure c := by unfold cellOf; rw [hc]
        dsimp only
        rw [if_pos hk, e1]
        have e2 : closL env.cells ((n, k) :: r) acc = closL env.cells r ((n, c) :: acc) := by
          show (if k == .free then _ else _) = _
          rw [if_pos hk, hc]; rfl
        rw [e2, ← ih ((n, c) :: acc) fun m hm => hp m (List.mem_cons_of_mem _ hm)]
        rfl
      · dsimp only
        rw [if_neg hk]
        have e2 : closL env.cells ((n, k) :: r) acc = closL env.cells r acc := by
          show (if k == .free then _ else _) = _
          rw [if_neg hk]
        rw [e2, ← ih acc fun m hm => hp m (List.mem_cons_of_mem _ hm)]
        rfl
  have q := all scope.names [] h
  unfold closureFor
  show ((forIn scope.names [] fun x cs => (if x.2 == NameKind.free then do let c ← cellOf env x.1; pure (ForInStep.yield ((x.1, c) :: cs)) else pure (ForInStep.yield cs) : Sem (ForInStep (List (Str × Addr))))) >>= fun cs => pure cs) = _
  rw [q]
  rfl
theorem closL_mem {cells : List (Str × Addr)} : ∀ {names : List (Str × NameKind)} {acc : List (Str × Addr)} {n : Str} {c : Addr}, (n, c) ∈ closL cells names acc → (n, c) ∈ acc ∨ ((n, NameKind.free) ∈ names ∧ (cells.lookup n).getD 0 = c)
  | [], _, _, _, h => .inl h
  | (m, k) :: r, acc, n, c, h => by
    have h : (n, c) ∈ (if k == .free then closL cells r ((m, (cells.lookup m).getD 0) :: acc) else closL cells r acc) := h
    by_cases hk : (k == NameKind.free) = true
    · rw [if_pos hk] at h
      have ek : k = .free := by simpa using hk
      rcases closL_mem h with q | ⟨q1, q2⟩
      · rcases List.mem_cons.mp q with q | q
        · cases q
          exact .inr ⟨by rw [ek]; exact List.mem_cons_self, rfl⟩
        · exact .inl q
      · exact .inr ⟨List.mem_cons_of_mem _ q1, q2⟩
    · rw [if_neg hk] at h
      rcases closL_mem h with q | ⟨q1, q2⟩
      · exact .inl q
      · exact .inr ⟨List.mem_cons_of_mem _ q1, q2⟩
theorem closL_has {cells : List (Str × Addr)} : ∀ {names : List (Str × NameKind)} {acc : List (Str × Addr)} {n : Str}, ((n, NameKind.free) ∈ names ∨ ∃ c, (n, c) ∈ acc) → ∃ c, (n, c) ∈ closL cells names acc
  | [], _, _, h => h.elim (fun z => nomatch z) id
  | (m, k) :: r, acc, n, h => by
    show ∃ c, (n, c) ∈ (if k == .free then closL cells r ((m, (cells.lookup m).getD 0) :: acc) else closL cells r acc)
    by_cases hk : (k == NameKind.free) = true
    · rw [if_pos hk]
      refine closL_has ?_
      rcases h with h | ⟨c, h⟩
      · rcases List.mem_cons.mp h with h | h
        · cases h; exact .inr ⟨_, List.mem_cons_self⟩
        · exact .inl h
      · exact .inr ⟨c, List.mem_cons_of_mem _ h⟩
    · rw [if_neg hk]
      refine closL_has ?_
      rcases h with h | ⟨c, h⟩
      · rcases List.mem_cons.mp h with h | h
        · cases h; exact absurd rfl hk
        · exact .inl h
      · exact .inr ⟨c, h⟩
theorem lookup_of_mem_all {α : Type} {n : Str} {c : α} : ∀ {l : List (Str × α)}, (n, c) ∈ l → (∀ d, (n, d) ∈ l → d = c) → l.lookup n = some c
  | [], h, _ => nomatch h
  | (m, d) :: r, h, all => by
    rw [List.lookup_cons]
    cases hb : n == m with
    | true =>
      have e : n = m := beq_iff_eq.mp hb
      subst e
      rw [all d List.mem_cons_self]
    | false =>
      rcases List.mem_cons.mp h with q | q
      · cases q; simp at hb
      · exact lookup_of_mem_all q fun d' hd => all d' (List.mem_cons_of_mem _ hd)
theorem cellsFrom_app : ∀ (names : List (Str × NameKind)) (n : Nat) (acc : List (Str × Addr)), cellsFrom n names acc = cellsFrom n names [] ++ acc
  | [], _, _ => rfl
  | (x, k) :: r, n, acc => by
    unfold cellsFrom
    split
    · rw [cellsFrom_app r (n + 1) ((x, n) :: acc), cellsFrom_app r (n + 1) [(x, n)], List.append_assoc]; rfl
    · exact cellsFrom_app r n acc
theorem cellsFrom_kind : ∀ {names : List (Str × NameKind)} {n : Nat} {x : Str} {c : Addr}, (x, c) ∈ cellsFrom n names [] → (x, NameKind.cell) ∈ names
  | [], _, _, _, h => nomatch h
  | (y, k) :: r, n, x, c, h => by
    unfold cellsFrom at h
    split at h
    · rename_i hk
      have ek : k = .cell := by simpa using hk
      rw [cellsFrom_app] at h
      rcases List.mem_append.mp h with q | q
      · exact List.mem_cons_of_mem _ (cellsFrom_kind q)
      · cases List.mem_singleton.mp q
        rw [ek]; exact List.mem_cons_self
    · exact List.mem_cons_of_mem _ (cellsFrom_kind h)
theorem lookup_nodup {α : Type} {n : Str} {c d : α} : ∀ {l : List (Str × α)}, (l.map (·.1)).Nodup → l.lookup n = some c → (n, d) ∈ l → d = c
  | [], _, _, h => nomatch h
  | (m, e) :: r, hn, hl, hm => by
    have hn : (m :: r.map (·.1)).Nodup := hn
    obtain ⟨h1, h2⟩ := List.nodup_cons.mp hn
    rw [List.lookup_cons] at hl
    cases hb : n == m with
    | true =>
      rw [hb] at hl
      have e1 : n = m := beq_iff_eq.mp hb
      subst e1
      rcases List.mem_cons.mp hm with q | q
      · cases q; cases hl; rfl
      · exact absurd (List.mem_map.mpr ⟨(n, d), q, rfl⟩) h1
    | false =>
      rw [hb] at hl
      rcases List.mem_cons.mp hm with q | q
      · cases q; simp at hb
      · exact lookup_nodup h2 hl q
noncomputable def cxComp (X : Cx) (N' : List Str) (scope : Scope) (s : Shared) (H : Hp) (fp : List Addr) : Cx :=
  { X with N := N', s₀ := s, H₀ := H, env := compEnvC scope (cellsFrom (s.heap.objs.size + 1) scope.names (closL X.env.cells scope.names [])) s.heap.objs.size X.env, outer := X.stack, ex := fp, fn := fun x => scope.names.lookup x == some .cell, pn := [], xe := fun _ _ => False }
noncomputable def compSt (js : List (Option Nat)) (σ : St) : St := js.map fun j => match j with
  | some j => (σ[j]?).getD none
  | none => none
noncomputable def frB (X : Cx) (scope : Scope) : Bool := scope.names.all fun p => p.2 != .free || X.env.kindOf p.1 == some .cell || X.env.kindOf p.1 == some .free
noncomputable def atB (X : Cx) (N' : List Str) (js : List (Option Nat)) (scope : Scope) : Bool := (js.zip N').all fun p => match p.1 with
  | none => true
  | some j => X.N[j]? == some p.2 && scope.names.lookup p.2 == some .free
structure CompOk (X : Cx) (N' : List Str) (js : List (Option Nat)) (scope : Scope) : Prop where
  kind : scope.kind = .function
  nd : (scope.names.map (·.1)).Nodup
  frb : frB X scope = true
  len : js.length = N'.length
  atb : atB X N' js scope = true
theorem CompOk.fr {X : Cx} {N' : List Str} {js : List (Option Nat)} {scope : Scope} (C : CompOk X N' js scope) : ∀ n, (n, NameKind.free) ∈ scope.names → X.env.kindOf n = some .cell ∨ X.env.kindOf n = some .free := fun n hn => by
  have h := List.all_eq_true.mp C.frb (n, .free) hn
  simp only [Bool.or_eq_true, bne_iff_ne, ne_eq, not_true_eq_false, false_or, beq_iff_eq] at h
  exact h
theorem CompOk.at_ {X : Cx} {N' : List Str} {js : List (Option Nat)} {scope : Scope} (C : CompOk X N' js scope) : ∀ (i j : Nat), js[i]? = some (some j) → ∃ x, N'[i]? = some x ∧ X.N[j]? = some x ∧ scope.names.lookup x = some .free := fun i j hj => by
  have hi : i < js.length := (List.getElem?_eq_some_iff.mp hj).1
  have hi' : i < N'.length := by rw [← C.len]; exact hi
  have hz : (js.zip N')[i]? = some (some j, N'[i]) := by
    rw [List.getElem?_zip_eq_some]
    exact ⟨hj, by simp [hi']⟩
  have h := List.all_eq_true.mp C.atb _ (List.mem_of_getElem? hz)
  simp only [Bool.and_eq_true, beq_iff_eq] at h
  exact ⟨N'[i], by simp [hi'], h.1, h.2⟩
section
variable {X : Cx} {pins : List (Addr × Obj)} {σ : St} {H : Hp} {s : Shared} {N' : List Str} {js : List (Option Nat)} {scope : Scope} {fp : List Addr}
theorem comp_start (I : Inv X pins σ H s) (C : CompOk X N' js scope) (hf : ∀ b ∈ fp, FpOk X pins H b) (ho : ∀ b ∈ fp, ∃ o, s.heap.get? b = some o) :
    Inv (cxComp X N' scope s H fp) [] (compSt js σ) H { s with heap := pushCells (s.heap.push { cls := .type "dict", data := .dict #[] }) scope.names } := by
  have keep : ∀ b o, s.heap.get? b = some o → (pushCells (s.heap.push { cls := .type "dict", data := .dict #[] }) scope.names).get? b = some o := fun b o e => pushCells_keeps _ _ b o (Heap.get?_push_of_some _ e)
  have new := cellsFrom_ok scope.names (s.heap.push { cls := .type "dict", data := .dict #[] }) (s.heap.objs.size + 1) [] ⟨fun _ _ hm => (nomatch hm), List.Pairwise.nil⟩ (by rw [Heap.size_push]; exact Nat.le_refl _)
  rw [Heap.size_push] at new
  have old : ∀ n c, (n, c) ∈ closL X.env.cells scope.names [] → X.env.cells.lookup n = some c := fun n c h => by
    rcases closL_mem h with q | ⟨q1, q2⟩
    · exact nomatch q
    · obtain ⟨d, hd⟩ := I.ok.has n (C.fr n q1)
      rw [hd] at q2
      rw [hd]; exact congrArg some q2
  have oldlt : ∀ n c, X.env.cells.lookup n = some c → c < s.heap.objs.size := fun n c h => by
    obtain ⟨v, q⟩ := I.cell n c h
    exact q.lt
  have mem : ∀ n c, (cxComp X N' scope s H fp).env.cells.lookup n = some c → (n, c) ∈ cellsFrom (s.heap.objs.size + 1) scope.names [] ∨ X.env.cells.lookup n = some c := fun n c h => by
    have h : (cellsFrom (s.heap.objs.size + 1) scope.names (closL X.env.cells scope.names [])).lookup n = some c := h
    rw [cellsFrom_app] at h
    rcases List.mem_append.mp (PySem.mem_of_lookup h) with q | q
    · exact .inl q
    · exact .inr (old n c q)
  have lt : ∀ b ∈ fp, b < s.heap.objs.size := fun b hb => let ⟨_, e⟩ := ho b hb; Heap.lt_size e
  have fre : ∀ x c, scope.names.lookup x = some .free → X.env.cells.lookup x = some c → (cxComp X N' scope s H fp).env.cells.lookup x = some c := fun x c hx hc => by
    show (cellsFrom (s.heap.objs.size + 1) scope.names (closL X.env.cells scope.names [])).lookup x = some c
    have hm := PySem.mem_of_lookup hx
    obtain ⟨d, hd⟩ := closL_has (cells := X.env.cells) (acc := []) (.inl hm)
    have ed : ∀ d', (x, d') ∈ closL X.env.cells scope.names [] → d' = c := fun d' h' => Option.some.inj ((old x d' h').symm.trans hc)
    refine lookup_of_mem_all ?_ fun d' h' => ?_
    · rw [cellsFrom_app, ← ed d hd]; exact List.mem_append_right _ hd
    · rw [cellsFrom_app] at h'
      rcases List.mem_append.mp h' with q | q
      · exact absurd (lookup_nodup C.nd hx (cellsFrom_kind q)) (by decide)
      · exact ed d' q
  refine ⟨⟨I.ok.mod, C.kind, I.ok.glob, I.ok.blt, Nat.le_refl _, fun x y c h1 h2 => ?_, fun x hx => ?_, fun x c hx h => ?_, I.ok.hd, I.ok.frames, .inl rfl, fun b hb => ⟨Nat.ne_of_lt (lt b hb), fun x c h z => ?_⟩, fun b o e => I.bs b o e, Nat.le_trans I.ok.bsz I.sz, fun b o e hb => ?_, fun b hb z => ?_, I.stack, I.stkFree⟩,
    rfl, I.bare, Un.kept keep, ⟨_, (Heap.Ns.new s.heap (.type "dict")).keeps (pushCells_keeps _ _), fun i x v h1 h2 h3 => ?_⟩, fun x c h => ?_, I.hok.fresh (Nat.le_refl _), fun x c h => ?_, fun p hp => absurd (show p ∈ ([] : List (Addr × Obj)) from hp) (by simp), I.hok.kept keep, ?_⟩
  · rcases mem x c h1 with p1 | p1 <;> rcases mem y c h2 with p2 | p2
    · exact name_of_addr new.apart p1 p2
    · exact absurd (Nat.lt_of_lt_of_le (oldlt y c p2) (Nat.le_trans (Nat.le_succ _) (new.empty x c p1).2)) (Nat.lt_irrefl _)
    · exact absurd (Nat.lt_of_lt_of_le (oldlt x c p1) (Nat.le_trans (Nat.le_succ _) (new.empty y c p2).2)) (Nat.lt_irrefl _)
    · exact I.ok.inj x y c p1 p2
  · rcases relabel_back (scope := scope) (env := X.env) hx with q | q
    · exact Option.isSome_iff_exists.mp (PySem.W.cellsFrom_some scope.names _ _ (.inl q))
    · obtain ⟨c, hc⟩ := I.ok.has x (C.fr x (PySem.mem_of_lookup q))
      exact ⟨c, fre x c q hc⟩
  · have hx : scope.names.lookup x = some .cell := by simpa [cxComp] using hx
    rcases mem x c h with q | q
    · exact Nat.le_trans (Nat.le_succ _) (new.empty x c q).2
    ·
      have e : (cellsFrom (s.heap.objs.size + 1) scope.names (closL X.env.cells scope.names [])).lookup x = some c := h
      rw [cellsFrom_app, List.lookup_append] at e
      obtain ⟨d, hd⟩ := Option.isSome_iff_exists.mp (PySem.W.cellsFrom_some scope.names (s.heap.objs.size + 1) [] (.inl hx))
      rw [hd] at e
      cases e
      exact Nat.le_trans (Nat.le_succ _) (new.empty x _ (PySem.mem_of_lookup hd)).2
  · rcases mem x c h with q | q
    · have := (new.empty x c q).2
      rw [z] at this
      exact absurd (Nat.lt_of_lt_of_le (lt b hb) (Nat.le_trans (Nat.le_succ _) this)) (Nat.lt_irrefl _)
    · exact (hf b hb).2.2.2.2.1 x c q z
  · obtain ⟨_, _, _, h1, _⟩ := hf b hb
    rcases h1 with h1 | h1
    · exact I.ok.noex b o e h1
    · exact absurd (Nat.lt_of_lt_of_le (Heap.lt_size (I.ok.bs b o e).1) h1) (Nat.lt_irrefl _)
  · obtain ⟨_, h1, h2, _⟩ := hf b hb
    exact (List.mem_cons.mp (I.stkSub b z)).elim h1 h2
  ·
    obtain ⟨j, hj, hv⟩ : ∃ j, js[i]? = some (some j) ∧ (σ[j]?).getD none = some v := by
      have h2 : (js.map fun j => match j with | some j => (σ[j]?).getD none | none => none)[i]? = some (some v) := h2
      rw [List.getElem?_map] at h2
      cases e : js[i]? with
      | none => rw [e] at h2; cases h2
      | some o =>
        rw [e] at h2
        cases o with
        | none => cases h2
        | some j => exact ⟨j, rfl, Option.some.inj h2⟩
    obtain ⟨y, e1, e2, e3⟩ := C.at_ i j hj
    have exy : y = x := Option.some.inj (e1.symm.trans (show N'[i]? = some x from h1))
    rw [exy] at e2 e3
    have hs : σ[j]? = some (some v) := by
      cases e : σ[j]? with
      | none => rw [e] at hv; cases hv
      | some o => rw [e] at hv; exact congrArg some hv
    have kx := C.fr x (PySem.mem_of_lookup e3)
    obtain ⟨m, hn, hl⟩ := I.loc
    obtain ⟨u, r, l⟩ := hl j x v e2 hs (kx.elim (fun z => .inr (.inl z)) fun z => .inr (.inr z))
    refine ⟨u, r, .inr ⟨relabel_free e3, ?_⟩⟩
    rcases l with ⟨k, _⟩ | ⟨_, c, hc, hcell⟩
    · rcases kx with z | z
      · rw [z] at k; cases k
      · rw [z] at k; cases k
    · exact ⟨c, fre x c e3 hc, hcell.keeps keep⟩
  · rcases mem x c h with q | q
    · exact ⟨none, (new.empty x c q).1⟩
    · obtain ⟨v, z⟩ := I.cell x c q
      exact ⟨v, z.keeps keep⟩
  · rcases mem x c h with q | q
    · exact I.hok.fresh (Nat.le_trans (Nat.le_succ _) (new.empty x c q).2)
    · exact I.freeC x c q
  · show (compSt js σ).length = N'.length
    unfold compSt
    rw [List.length_map, C.len]
theorem comp_env {M : Model} {A : Around} {E : Value → Shared → Prop} {env : Env} {cl : List (Str × Addr)} {Q : Env → Shared → Prop}
    (h : Q (newEnv scope s.heap.objs.size env.globals (cellsFrom (s.heap.objs.size + 1) scope.names cl) env.qual none .none (some env) builtinsNs) { s with heap := pushCells (s.heap.push { cls := .type "dict", data := .dict #[] }) scope.names }) :
    wpAny M A (newFunctionEnv scope env.globals cl [] env.qual none .none (some env)) Q E s := by
  simp only [newFunctionEnv, Option.isSome_some, if_true]
  refine wpAny_bind (wpAny_alloc ?_)
  refine wpAny_bind (wpAny_layCells _ (fun name kind cells => by cases hkc : kind == NameKind.cell <;> simp [hkc]) _ _ _ _ ?_)
  rw [show ({ s with heap := s.heap.push { cls := .type "dict", data := .dict #[] } } : Shared).heap.objs.size = s.heap.objs.size + 1 from Heap.size_push ..]
  simp only [List.forIn_nil]
  exact wpAny_bind (wpAny_pure (wpAny_pure h))
noncomputable def PF (X : Cx) (ifs : List Expr) (t : TT) : Prop :=
  ∀ (pins : List (Addr × Obj)) (s : Shared) (σ : St) (H : Hp) (Q : Bool → Hp → Prop), Inv X pins σ H s → t σ H Q →
    wpAny (model X.prog X.w) X.A (forIn ifs true fun c r => if r = true then do let ok ← isTrue c X.env (eval c X.env); pure (ForInStep.yield ok) else pure (ForInStep.yield r)) (TP X pins σ Q) X.xe s
noncomputable def tNoIf : TT := fun _ H Q => Q true H
theorem pf_nil : PF X [] tNoIf := fun _ _ _ H _ I h => wpAny_tests_nil ⟨H, I, h⟩
theorem pf_one {c : Expr} {t : TT} (h : PT X c t) : PF X [c] t := fun pins s σ H Q I q => wpAny_tests_one (h pins s σ H Q I q)
theorem compLoop_any {prog : Program} {w : World} {A : Around} {R : Result → Shared → Prop} {s : Shared} {elt target iter : Expr} {ifs : List Expr} {scope : Scope} {pos : Pos} {it acc : Value} {env : Env} (I : Nat → Shared → Prop)
    (turn : ∀ n s, I n s → wpAny (model prog w) A (pyNext it) (fun r s₁ => match r with
      | none => R (.ok .next) s₁
      | some v => wpAny (model prog w) A (letOwnedTupleGo target it v) (fun _ s₀ => wpAny (model prog w) A (assign target env v) (fun _ s₂ =>
          wpAny (model prog w) A (forIn ifs true fun c r => if r = true then do let ok ← isTrue c env (eval c env); pure (ForInStep.yield ok) else pure (ForInStep.yield r)) (fun ok s₃ =>
            if ok = true then wpAny (model prog w) A (eval elt env) (fun x s₄ =>
              wpAny (model prog w) A (call (.builtin "list.append") [acc, x]) (fun _ s₅ => ∃ m, m < n ∧ I m s₅) (notedBy (model prog w) A env fun e s' => R (.error e) s') s₄) (notedBy (model prog w) A env fun e s' => R (.error e) s') s₃
            else ∃ m, m < n ∧ I m s₃) (notedBy (model prog w) A env fun e s' => R (.error e) s') s₂) (notedBy (model prog w) A env fun e s' => R (.error e) s') s₀) (notedBy (model prog w) A env fun e s' => R (.error e) s') s₁) (notedBy (model prog w) A env fun e s' => R (.error e) s') s)
    (n : Nat) (h : I n s) : codeAny (model prog w) A (.compLoop (.ListComp elt [⟨target, iter, ifs, 0⟩] scope pos) 0 it acc env) R s := by
  refine codeAny_loop rfl I (fun n s hI => ?_) n h
  show wpAny _ A ((compTurn (.ListComp elt [⟨target, iter, ifs, 0⟩] scope pos) 0 it acc env).onRaise (fun x => do noteFrame x env; theTreesLotGoes x)) _ _ s
  refine wpAny_noted ?_
  rw [compTurn_list]
  refine wpAny_bind (wpAny_standAt (wpAny_bind (wpAny_mono (turn n s hI) (fun r s₁ h₁ => ?_) fun _ _ h' => h')))
  cases r with
  | none => exact wpAny_pure h₁
  | some v =>
    refine wpAny_bind (wpAny_mono h₁ (fun _ s₀ h₀ => ?_) fun _ _ h' => h')
    refine wpAny_bind (wpAny_mono h₀ (fun _ s₂ h₂ => wpAny_bind (wpAny_mono h₂ (fun ok s₃ h₃ => ?_) fun _ _ h' => h')) fun _ _ h' => h')
    cases ok with
    | false => exact wpAny_pure ⟨rfl, h₃⟩
    | true =>
      exact wpAny_bind (wpAny_bind (wpAny_mono h₃ (fun x s₄ h₄ => wpAny_bind (wpAny_mono h₄ (fun _ s₅ h₅ => wpAny_pure (wpAny_pure ⟨rfl, h₅⟩)) fun _ _ h' => h')) fun _ _ h' => h'))
noncomputable def tCompW (J : It) (g : TG) (tf : TT) (te : TE) (D : Addr) (σ0 : St) (H1 : Hp) (Q : Hp → Prop) : Prop :=
  ∃ W : Nat → Nat → St → Hp → Prop, (∃ m, W 0 m σ0 (upd H1 D (.lst []))) ∧ ∀ i m σ H, W i m σ H →
    (J.stop i H ∧ Q H) ∨ (J.go i H ∧ ∀ x H2, J.yld i H x H2 → g x σ H2 fun σ2 H3 => tf σ2 H3 fun b H4 =>
      if b = true then te σ2 H4 fun y H5 => ∃ zs, H5 D = some (.lst zs) ∧ zs.length < sizeLine ∧ ∃ m', m' < m ∧ W (i + 1) m' σ2 (upd H5 D (.lst (zs ++ [y])))
      else ∃ m', m' < m ∧ W (i + 1) m' σ2 H4)
noncomputable def tComp (js : List (Option Nat)) (wi : TI) (g : Shared → Hp → List Addr → TG) (tf : Shared → Hp → List Addr → TT) (te : Shared → Hp → List Addr → TE) : TE := fun σ H Q => wi σ H fun J H1 => ∀ (D : Addr), H1 D = none → ∀ (s0 : Shared) (H0 : Hp) (fp : List Addr), tCompW J (g s0 H0 fp) (tf s0 H0 fp) (te s0 H0 fp) D (compSt js σ) H1 fun H' => Q (.ref D) H'
theorem comp_run {tg iter elt : Expr} {ifs : List Expr} {pos : Pos} {J : It} {it : Addr} {tn : Nat → Heap → Prop} {g : Shared → Hp → TG} {tf : Shared → Hp → TT} {te : Shared → Hp → TE} {E : Value → Shared → Prop} {RR : Value → Addr → Result → Shared → Prop} {Q : Addr → Hp → Prop}
    (hc : X.calm = true) (C : CompOk X N' js scope) (I : Inv X pins σ H s) (T : Turn X.prog X.w X.K tg J fp it tn) (st : tn 0 s.heap) (hf : ∀ b ∈ fp, FpOk X pins H b)
    (body : ∀ (s0 : Shared) (H0 : Hp), PG (cxComp X N' scope s0 H0 fp) tg (g s0 H0) ∧ PF (cxComp X N' scope s0 H0 fp) ifs (tf s0 H0) ∧ PE (cxComp X N' scope s0 H0 fp) elt (te s0 H0))
    (h : ∀ D, H D = none → ∀ (s0 : Shared) (H0 : Hp), tCompW J (g s0 H0) (tf s0 H0) (te s0 H0) D (compSt js σ) H (Q D))
    (hRR : ∀ (D C : Addr) (H' : Hp) (s' : Shared) (m : Str → Option Value), s'.heap.Ns C m → s.heap.objs.size ≤ C → (∀ p ∈ X.pn ++ pins, p.1 ≠ C) → H' C = none → C ≠ X.env.locals → (∀ x c, X.env.cells.lookup x = some c → c ≠ C) → (X.s₀.heap.objs.size ≤ C) → Inv X pins σ H' s' → Q D H' → RR (.ref D) C (.ok .next) s') :
    wpAny (model X.prog X.w) X.A (newList []) (fun acc s₃ => wpAny (model X.prog X.w) X.A (newFunctionEnv scope X.env.globals (closL X.env.cells scope.names []) [] X.env.qual none .none (some X.env)) (fun cenv s₄ =>
      codeAny (model X.prog X.w) X.A (.compStart (.ListComp elt [⟨tg, iter, ifs, 0⟩] scope pos) 0 (.ref it) acc { cenv with scope := relabel scope X.env }) (RR acc cenv.locals) s₄) E s₃) E s := by
  have hfr : H s.heap.objs.size = none := I.hok.fresh (Nat.le_refl _)
  have I1 : Inv X pins σ (upd H s.heap.objs.size (.lst [])) { s with heap := s.heap.push { cls := .type "list", dict := none, data := .seq ([] : List Value).toArray } } :=
    I.laid (t' := s.toks) (fun b u e => Heap.get?_push_of_some _ e) (Nat.le_refl _) ⟨Nat.zero_le _, [], _, .nil, Heap.get?_push_size _ rfl⟩
  refine wpAny_newObj_type (comp_env ?_)
  have st1 : tn 0 (s.heap.push { cls := .type "list", dict := none, data := .seq ([] : List Value).toArray }) := T.keep _ _ _ st fun b hb o e => Heap.get?_push_of_some _ e
  have lt : ∀ b ∈ fp, b < s.heap.objs.size := fun b hb => let ⟨_, e, _⟩ := T.obj _ _ st b hb; Heap.lt_size e
  have hf1 : ∀ b ∈ fp, FpOk X pins (upd H s.heap.objs.size (.lst [])) b := fun b hb => ⟨by rw [upd_ne (Nat.ne_of_lt (lt b hb))]; exact (hf b hb).1, (hf b hb).2⟩
  have I2 := comp_start (fp := fp) I1 C hf1 (fun b hb => let ⟨o, e, _⟩ := T.obj _ _ st1 b hb; ⟨o, e⟩)
  have st2 : tn 0 (pushCells ((s.heap.push { cls := .type "list", dict := none, data := .seq ([] : List Value).toArray }).push { cls := .type "dict", data := .dict #[] }) scope.names) := T.keep _ _ _ st1 fun b hb o e => pushCells_keeps _ _ b o (Heap.get?_push_of_some _ e)
  obtain ⟨W, ⟨m0, w0⟩, turn⟩ := h _ hfr { s with heap := s.heap.push { cls := .type "list", dict := none, data := .seq ([] : List Value).toArray } } (upd H s.heap.objs.size (.lst []))
  obtain ⟨bg, bf, be⟩ := body { s with heap := s.heap.push { cls := .type "list", dict := none, data := .seq ([] : List Value).toArray } } (upd H s.heap.objs.size (.lst []))
  generalize hs1 : ({ s with heap := s.heap.push { cls := .type "list", dict := none, data := .seq ([] : List Value).toArray } } : Shared) = s1 at I1 I2 st2 bg bf be turn ⊢
  have es1 : s1.heap = s.heap.push { cls := .type "list", dict := none, data := .seq ([] : List Value).toArray } := by rw [← hs1]
  have sz1 : s1.heap.objs.size = s.heap.objs.size + 1 := by rw [es1, Heap.size_push]
  rw [← es1] at st2
  have stat : ∀ {H' : Hp}, (∀ b ∈ fp, H' b = none) → ∀ b ∈ fp, FpOk (cxComp X N' scope s1 (upd H s.heap.objs.size (.lst [])) fp) [] H' b := fun hn b hb => by
    refine ⟨hn b hb, (I2.ok.exf b hb).1, ?_, .inl hb, (I2.ok.exf b hb).2, fun p hp => absurd (show p ∈ ([] : List (Addr × Obj)) from hp) (by simp)⟩
    exact I2.ok.exfs b hb
  have outE : ∀ {α : Type} {t : Sem α} {QQ : α → Shared → Prop} {E' : Value → Shared → Prop} {s' : Shared}, wpAny (model X.prog X.w) X.A t QQ (fun _ _ => False) s' → wpAny (model X.prog X.w) X.A t QQ E' s' := fun q => wpAny_mono q (fun _ _ z => z) fun _ _ z => z.elim
  have loop : ∀ s2 : Shared, s2 = { s1 with heap := pushCells (s1.heap.push { cls := .type "dict", data := .dict #[] }) scope.names } →
      codeAny (model X.prog X.w) X.A (.compLoop (.ListComp elt [⟨tg, iter, ifs, 0⟩] scope pos) 0 (.ref it) (.ref s.heap.objs.size) (cxComp X N' scope s1 (upd H s.heap.objs.size (.lst [])) fp).env) (RR (.ref s.heap.objs.size) s1.heap.objs.size) s2 := by
    rintro s2 rfl
    refine compLoop_any (fun n s' => ∃ i σ' H', Inv (cxComp X N' scope s1 (upd H s.heap.objs.size (.lst [])) fp) [] σ' H' s' ∧ tn i s'.heap ∧ (∀ b ∈ fp, H' b = none) ∧ W i n σ' H') ?_ m0 ⟨0, _, _, I2, st2, fun b hb => (hf1 b hb).1, w0⟩
    rintro n s3 ⟨i, σ3, H3, I3, st3, fr3, w3⟩
    rcases turn i n σ3 H3 w3 with ⟨stop, q⟩ | ⟨go, step⟩
    · refine outE (thn (T.done (cxComp X N' scope s1 (upd H s.heap.objs.size (.lst [])) fp) rfl rfl rfl hc i [] s3 σ3 H3 (fun _ _ => False) I3 (stat fr3) st3 stop) fun r s4 zz0 => ?_)
      obtain ⟨hr, I4⟩ := zz0
      subst hr
      have u4 : Un (frs X.stack) fp (upd H s.heap.objs.size (.lst [])) H3 s1.heap s4.heap := I4.base
      have IX : Inv X pins σ H3 s4 := I1.call' I4.os u4 I4.hok I4.bare fun b hb => by
        obtain ⟨_, f1, _, f3, f4, f5⟩ := hf1 b hb
        exact ⟨f3, f1, f4, f5⟩
      obtain ⟨m, hn, _⟩ := I4.loc
      have cle : s.heap.objs.size ≤ s1.heap.objs.size := by rw [sz1]; exact Nat.le_succ _
      have clt : ∀ b, b < s1.heap.objs.size → b ≠ s1.heap.objs.size := fun b hb => Nat.ne_of_lt hb
      refine hRR _ s1.heap.objs.size H3 s4 m hn cle (fun p hp => clt _ (Heap.lt_size (I1.pin p hp).1)) I4.free (Ne.symm (clt _ I1.lt)) (fun x c e => ?_) (Nat.le_trans I.sz cle) IX q
      obtain ⟨v, z⟩ := I1.cell x c e
      exact clt _ z.lt
    · refine outE (thn (T.item (cxComp X N' scope s1 (upd H s.heap.objs.size (.lst [])) fp) rfl rfl rfl hc i [] s3 σ3 H3 (fun _ _ => False) I3 (stat fr3) st3 go) fun r s4 zz0 => ?_)
      obtain ⟨u, hr, h4⟩ := zz0
      subst hr
      refine outE (thn h4 fun _ s5 zz0 => ?_)
      obtain ⟨x, H5, I5, r5, y5, st5, fr5⟩ := zz0
      have I5' := I5.pinned (stat fr5) (T.obj _ _ st5)
      refine outE (thn (bg _ s5 σ3 H5 x u _ I5' r5 (step x H5 y5)) fun _ s6 zz0 => ?_)
      obtain ⟨σ6, H6, I6, q6⟩ := zz0
      refine outE (thn (bf _ s6 σ6 H6 _ I6 q6) fun ok s7 zz0 => ?_)
      obtain ⟨H7, I7, q7⟩ := zz0
      have again : ∀ {s8 : Shared} {σ8 : St} {H8 : Hp} {m' : Nat}, Inv (cxComp X N' scope s1 (upd H s.heap.objs.size (.lst [])) fp) ([] ++ pinsAt fp s5.heap) σ8 H8 s8 → m' < n → W (i + 1) m' σ8 H8 →
          ∃ m, m < n ∧ ∃ i σ' H', Inv (cxComp X N' scope s1 (upd H s.heap.objs.size (.lst [])) fp) [] σ' H' s8 ∧ tn i s8.heap ∧ (∀ b ∈ fp, H' b = none) ∧ W i m σ' H' := fun {s8 σ8 H8 m'} I8 hm w8 => by
        refine ⟨m', hm, i + 1, σ8, H8, I8.unpinned, T.keep _ _ _ st5 fun b hb o e => (I8.pin (b, o) (List.mem_append_right _ (List.mem_append_right _ (mem_pinsAt hb e)))).1, fun b hb => ?_, w8⟩
        obtain ⟨o, e, d⟩ := T.obj _ _ st5 b hb
        exact (I8.pin (b, o) (List.mem_append_right _ (List.mem_append_right _ (mem_pinsAt hb e)))).2.1
      cases ok with
      | false =>
        rw [if_neg Bool.false_ne_true] at q7 ⊢
        obtain ⟨m', hm, w8⟩ := q7
        exact again I7 hm w8
      | true =>
        rw [if_pos rfl] at q7 ⊢
        refine outE (thn (be _ s7 σ6 H7 _ I7 q7) fun y s8 zz0 => ?_)
        obtain ⟨v, H8, I8, r8, zs, hz, hlen, m', hm, w8⟩ := zz0
        obtain ⟨hzl, its, k, rv, e8⟩ := I8.hok _ _ hz
        refine outE (PyProof.Rows.append_at (hsz := by rw [List.size_toArray, ← rv.length]; exact hzl) e8 fun h9 sb e9 => ?_)
        rw [List.push_toArray] at e9
        have I9 : Inv (cxComp X N' scope s1 (upd H s.heap.objs.size (.lst [])) fp) ([] ++ pinsAt fp s5.heap) σ6 (upd H8 s.heap.objs.size (.lst (zs ++ [v]))) { s8 with heap := h9 } :=
          I8.write (t' := s8.toks) (by rw [hz]; trivial) (.inl rfl) (fun b o hb e => (sb.2 b hb).trans e) ⟨_, e9⟩ ⟨by rw [List.length_append, List.length_singleton]; exact hlen, its ++ [y], k + 1, rv.append (.cons r8 .nil), e9⟩
        exact again I9 hm w8
  show codeAny (model X.prog X.w) X.A (.compStart (.ListComp elt [⟨tg, iter, ifs, 0⟩] scope pos) 0 (.ref it) (.ref s.heap.objs.size) (cxComp X N' scope s1 (upd H s.heap.objs.size (.lst [])) fp).env) (RR (.ref s.heap.objs.size) s1.heap.objs.size) { s1 with heap := pushCells (s1.heap.push { cls := .type "dict", data := .dict #[] }) scope.names }
  exact codeAny_compStart_list (loop _ rfl) (T.self X.A 0 _ _ _ st2 (loop _ rfl))
theorem lookup_of_nodup {α : Type} {n : Str} {c : α} : ∀ {l : List (Str × α)}, (l.map (·.1)).Nodup → (n, c) ∈ l → l.lookup n = some c
  | [], _, h => nomatch h
  | (m, e) :: r, hn, hm => by
    have hn : (m :: r.map (·.1)).Nodup := hn
    obtain ⟨h1, h2⟩ := List.nodup_cons.mp hn
    rw [List.lookup_cons]
    rcases List.mem_cons.mp hm with q | q
    · cases q; simp
    · have hne : (n == m) = false := by
        cases hb : n == m with
        | false => rfl
        | true => exact absurd (List.mem_map.mpr ⟨(n, c), q, beq_iff_eq.mp hb⟩) h1
      rw [hne]
      exact lookup_of_nodup h2 q
variable {tg iter elt : Expr} {ifs : List Expr} {pos : Pos} {wi : TI} {g : Shared → Hp → List Addr → TG} {tf : Shared → Hp → List Addr → TT} {te : Shared → Hp → List Addr → TE}
theorem pe_comp (hc : X.calm = true) (C : CompOk X N' js scope) (hi : PI X tg iter wi)
    (body : ∀ (s0 : Shared) (H0 : Hp) (fp : List Addr), PG (cxComp X N' scope s0 H0 fp) tg (g s0 H0 fp) ∧ PF (cxComp X N' scope s0 H0 fp) ifs (tf s0 H0 fp) ∧ PE (cxComp X N' scope s0 H0 fp) elt (te s0 H0 fp))
    (hs : ∀ x, foldedSetIterable iter X.env x = pure x := by intro _; rfl) : PE X (.ListComp elt [⟨tg, iter, ifs, 0⟩] scope pos) (tComp js wi g tf te) := by
  intro pins s σ H Q I h
  rw [eval_ListComp]
  have hcl : closureFor scope X.env = pure (closL X.env.cells scope.names []) := closureFor_eq fun n hn => Option.isSome_iff_exists.mpr (I.ok.has n (C.fr n hn))
  refine wpAny_comprehension_free (use := none) rfl hs hcl C.kind (fun x hx hl => lookup_of_nodup C.nd (by rw [← hl]; exact hx)) (thn (hi pins s σ H _ I h) fun v s1 h1 => thn h1 fun itv s2 h2 => ?_)
  obtain ⟨it, fp, tn, J, H2, e, I2, T, st2, f2, q⟩ := h2
  subst e
  refine comp_run (RR := fun acc C => compPost (model X.prog X.w) X.A X.xe none (EP X pins σ Q) acc C) hc C I2 T st2 f2 (g := fun s0 H0 => g s0 H0 fp) (tf := fun s0 H0 => tf s0 H0 fp) (te := fun s0 H0 => te s0 H0 fp) (fun s0 H0 => body s0 H0 fp) (Q := fun D H' => Q (.ref D) H') (fun D hD s0 H0 => q D hD s0 H0 fp) ?_
  intro D Ca H' s' m hn hle hp hC hL hcel hs0 I' q'
  exact ⟨m, hn, fun h' hs' => ⟨.ref D, H', I'.turned (t' := s'.toks) (it := Ca) (fun b o hb e => (hs'.2 b hb).trans e) hC hL (.inr hs0) hcel hp, rfl, q'⟩⟩
theorem ps_setc {i : Nat} {x : Str} {px cpos : Pos} (hc : X.calm = true) (C : CompOk X N' js scope) (hi : PI X tg iter wi)
    (body : ∀ (s0 : Shared) (H0 : Hp) (fp : List Addr), PG (cxComp X N' scope s0 H0 fp) tg (g s0 H0 fp) ∧ PF (cxComp X N' scope s0 H0 fp) ifs (tf s0 H0 fp) ∧ PE (cxComp X N' scope s0 H0 fp) elt (te s0 H0 fp))
    (hN : X.N.Nodup) (hix : X.N[i]? = some x) (hx : Loc X.env.scope x)
    (hsw : swapsWith (.ListComp elt [⟨tg, iter, ifs, 0⟩] scope cpos) (some (.Name x px)) pos.line X.env = pure true := by rfl) (hf : X.fn x = true ∨ X.env.scope.names.lookup x = some .local := by trivial)
    (hs : ∀ x, foldedSetIterable iter X.env x = pure x := by intro _; rfl) : PS X (.Assign [.Name x px] (.ListComp elt [⟨tg, iter, ifs, 0⟩] scope cpos) pos) (tAsg (tComp js wi g tf te) (gName i)) := by
  intro pins s σ H D0 I h
  rw [exec_Assign_Name_used _ _ _ _ hsw]
  refine wpAny_bind (wpAny_standAt (wpAny_bind ?_))
  show wpAny _ X.A (do let _ ← comprehension (.ListComp elt [⟨tg, iter, ifs, 0⟩] scope cpos) scope X.env _ (newList []) false (eval iter X.env) (some (assign (.Name x px) X.env))) _ _ s
  have hcl : closureFor scope X.env = pure (closL X.env.cells scope.names []) := closureFor_eq fun n hn => Option.isSome_iff_exists.mpr (I.ok.has n (C.fr n hn))
  refine wpAny_bind (wpAny_mono (wpAny_comprehension_free (use := some (assign (.Name x px) X.env)) (Q := fun _ s' => SP X pins D0 .next s') rfl hs hcl C.kind (fun x hx hl => lookup_of_nodup C.nd (by rw [← hl]; exact hx)) (thn (hi pins s σ H _ I h) fun v s1 h1 => thn h1 fun itv s2 h2 => ?_))
    (fun _ s' hq => wpAny_pure (wpAny_pure hq)) fun _ _ e => e)
  obtain ⟨it, fp, tn, J, H2, e, I2, T, st2, f2, q⟩ := h2
  subst e
  refine comp_run (RR := fun acc C => compPost (model X.prog X.w) X.A X.xe (some (assign (.Name x px) X.env)) (fun _ s' => SP X pins D0 .next s') acc C) hc C I2 T st2 f2 (g := fun s0 H0 => g s0 H0 fp) (tf := fun s0 H0 => tf s0 H0 fp) (te := fun s0 H0 => te s0 H0 fp) (fun s0 H0 => body s0 H0 fp) (Q := fun D H' => D0.nx (σ.set i (some (.ref D))) H') (fun D hD s0 H0 => q D hD s0 H0 fp) ?_
  intro D Ca H' s' m hn hle hp hC hL hcel hs0 I' q'
  show wpAny _ X.A (assign (.Name x px) X.env (.ref D)) _ _ _
  refine wpAny_assign_Name (store_ok2 I' hN hix hx (v := .ref D) rfl (fun s'' I'' hsb => ?_) hf)
  obtain ⟨a, sb, ha⟩ := hsb
  have nCa : Ca ≠ a := by
    rcases ha with z | z
    · rw [z]; exact hL
    · exact fun w => hcel x a z w.symm
  exact ⟨m, hn.sameBut sb nCa, fun h' hs' => ⟨σ.set i (some (.ref D)), H', I''.turned (t' := s''.toks) (it := Ca) (fun b o hb e => (hs'.2 b hb).trans e) hC hL (.inr hs0) hcel hp, q'⟩⟩
end
end L2
namespace L2
open PySem PySem.Spec PyProof.Rows
section
variable {prog : Program} {w : World} {A : Around} {E : Value → Shared → Prop} {s : Shared}
theorem nextOf_tuple_item {it l : Addr} {i : Nat} {items : Array Value} {x : Value} {Q : Value → Shared → Prop} (hit : s.heap.IsTupleIter it l i)
    (hl : s.heap.IsTuple l items) (hx : items[i]? = some x)
    (hQ : ∀ h', h'.IsTupleIter it l (i + 1) → Heap.SameBut it s.heap h' → Q x { s with heap := h' }) :
    wpAny (model prog w) A (Builtin.SmallTypes.nextOf (.ref it)) Q E s := by
  obtain ⟨o, ho, hc, hd⟩ := id hit
  obtain ⟨ol, hol, _, nl, hdl⟩ := hl
  unfold Builtin.SmallTypes.nextOf
  refine wpAny_bind (wpAny_callSpecial?_slot (name := Str.ofString "__next__") hit.typeIs F.slot_tuple_iterator_next
    (wpAny_call_entry F.slot_tuple_iterator_next hit.typeIs F.entry_tuple_iterator_next ?_ (F.args_tuple_iterator_next_1 _)))
  show wpAny _ _ (field (.ref it) 0 >>= _) _ _ s
  refine wpAny_bind (wpAny_field ho hd (x := .ref l) rfl ?_)
  show wpAny _ _ (if (Value.ref l == Value.none) = true then _ else _) _ _ s
  rw [if_neg (show ¬ ((Value.ref l == Value.none) = true) from Bool.false_ne_true)]
  show wpAny _ _ (field (.ref it) 1 >>= _) _ _ s
  refine wpAny_bind (wpAny_field ho hd (x := .int i 0) rfl ?_)
  show wpAny _ _ (seqItems? (.ref l) >>= _) _ _ s
  refine wpAny_bind (wpAny_seqItems hol hdl ?_)
  simp only [Int.toNat_natCast, hx]
  refine wpAny_bind (wpAny_setField ho hd (by simp) (wpAny_pure ⟨x, rfl, wpAny_pure (hQ _ ?_ (Heap.SameBut.update ..))⟩))
  exact ⟨_, Heap.get?_update_self _ ho (Obj.isFreed_of_fields (Obj.data_mapFields hd _)), (Obj.cls_mapFields ..).trans hc, by
    rw [Obj.data_mapFields hd]; simp [rawInt]⟩
theorem nextOf_tuple_end {it l : Addr} {i : Nat} {items : Array Value} {Q : Value → Shared → Prop} (hh : A.handled = none)
    (hit : s.heap.IsTupleIter it l i) (hl : s.heap.IsTuple l items) (hx : items[i]? = none)
    (hE : ∀ h' e, Heap.ExtBut it s.heap h' → (∃ o, h'.get? e = some o ∧ o.cls = .type "StopIteration") → E (.ref e) { s with heap := h' }) :
    wpAny (model prog w) A (Builtin.SmallTypes.nextOf (.ref it)) Q E s := by
  obtain ⟨o, ho, hc, hd⟩ := id hit
  obtain ⟨ol, hol, _, nl, hdl⟩ := hl
  unfold Builtin.SmallTypes.nextOf
  refine wpAny_bind (wpAny_callSpecial?_slot (name := Str.ofString "__next__") hit.typeIs F.slot_tuple_iterator_next
    (wpAny_call_entry F.slot_tuple_iterator_next hit.typeIs F.entry_tuple_iterator_next ?_ (F.args_tuple_iterator_next_1 _)))
  show wpAny _ _ (field (.ref it) 0 >>= _) _ _ s
  refine wpAny_bind (wpAny_field ho hd (x := .ref l) rfl ?_)
  show wpAny _ _ (if (Value.ref l == Value.none) = true then _ else _) _ _ s
  rw [if_neg (show ¬ ((Value.ref l == Value.none) = true) from Bool.false_ne_true)]
  show wpAny _ _ (field (.ref it) 1 >>= _) _ _ s
  refine wpAny_bind (wpAny_field ho hd (x := .int i 0) rfl ?_)
  show wpAny _ _ (seqItems? (.ref l) >>= _) _ _ s
  refine wpAny_bind (wpAny_seqItems hol hdl ?_)
  simp only [Int.toNat_natCast, hx]
  refine wpAny_bind (wpAny_rule (wpAny_bind (wpAny_setField ho hd (by simp) ?_)))
  show wpAny _ _ (newExc (.type "StopIteration") [] >>= _) _ _ _
  refine wpAny_bind ?_
  simp only [newExc, newTuple]
  refine wpAny_bind (wpAny_newObj_type ?_ (by size_fits))
  refine wpAny_bind (m := firstArgMember _ _) (wpAny_of_eq (a := Value.none) (by first | rfl | (simp only [firstArgMember]; rfl)) ?_)
  refine wpAny_newObj_type ?_ (by size_fits)
  simp only [raiseNew]
  refine wpAny_bind (wpAny_handled ?_)
  first | rw [show A.in1.handled = none from hh] | rw [hh]
  refine wpAny_bind (wpAny_pure (wpAny_throw ?_))
  exact hE _ _ (((Heap.SameBut.update ..).extBut.push _).push _) ⟨_, Heap.get?_push_size _ rfl, rfl⟩
end
theorem draws_tuple {prog : Program} {w : World} {A : Around} (hh : A.handled = none) (it l : Addr) (hne : l ≠ it) (items : Array Value) :
    Draws prog w A it [it, l] items.size (fun i v => items[i]? = some v) (fun i h => h.IsTupleIter it l i ∧ h.IsTuple l items) where
  live := fun _ _ st => let ⟨o, ho, _⟩ := st.1; ⟨o, ho⟩
  frame := fun _ _ _ st hk => ⟨st.1.at fun o e => hk it (by simp) o e, let ⟨o, ho, r⟩ := st.2; ⟨o, hk l (by simp) o ho, r⟩⟩
  item := fun i s Q E hi st hQ => by
    refine nextOf_tuple_item st.1 st.2 (x := items[i]) (by simp [hi]) fun h' hit hs => ?_
    exact hQ _ h' s.toks (by simp [hi]) ⟨hit, st.2.extBut hs.extBut hne⟩ hs
  done := fun s Q E st hE => nextOf_tuple_end hh st.1 st.2 (by simp) hE
theorem meets_enumerate_newT (l : Addr) (items : Array Value) (n : Nat) (dct : Option Addr) (sl : Array (Option Value)) :
    Meets (Builtin.«enumerate.__new__» ⟨[.type "enumerate", .ref l], []⟩) (fun _ R s => s.heap.get? l = some { cls := .type "tuple", dict := dct, data := .seq items n, slots := sl } ∧
      R (.ok (.ret (.ref (s.heap.push { cls := .type "tuple_iterator", data := .fields #[.ref l, .int 0 0] }).objs.size)))
        { s with heap := (s.heap.push { cls := .type "tuple_iterator", data := .fields #[.ref l, .int 0 0] }).push { cls := .type "enumerate", data := .fields #[.none, .bool false, .ref s.heap.objs.size, rawInt 0, .none, .none] } }) :=
  .of_wp fun prog w A R s h => by
    obtain ⟨hp, g, d, tk, os⟩ := s; obtain ⟨hl, h⟩ := h
    have hsub := sub_enumerate
    have hL : Heap.IsTuple (Shared.heap ⟨hp, g, d, tk, os⟩) l items := ⟨_, hl, rfl, n, rfl⟩
    wp_walk using PySem.AutoSeq1.wpAny_loadPart' hl
    refine wpAny_stack_any fun st => wpAny_pure ?_
    split
    · rename_i c _ _ _ _ _
      cases (c == Value.type "enumerate")
      · wp_walk using PySem.AutoSeq1.wpAny_loadPart' hl, wpAny_pyIter_tuple hL
        exact ⟨_, rfl, h⟩
      · wp_walk using PySem.AutoSeq1.wpAny_loadPart' hl, wpAny_pyIter_tuple hL
        exact ⟨_, rfl, h⟩
    · wp_walk using PySem.AutoSeq1.wpAny_loadPart' hl, wpAny_pyIter_tuple hL
      exact ⟨_, rfl, h⟩
theorem call_enumerate_tuple {prog : Program} {w : World} {A : Around} {E : Value → Shared → Prop} {s : Shared} {l : Addr} {items : Array Value} {Q : Value → Shared → Prop} (hL : s.heap.IsTuple l items)
    (h : ∀ h', IsEnum h' (s.heap.objs.size + 1) s.heap.objs.size 0 .none → h'.IsTupleIter s.heap.objs.size l 0 → h'.objs.size = s.heap.objs.size + 2 →
      (∀ b o, s.heap.get? b = some o → h'.get? b = some o) → Q (.ref (s.heap.objs.size + 1)) { s with heap := h' }) :
    wpAny (model prog w) A (call (.type "enumerate") [.ref l]) Q E s := by
  obtain ⟨⟨c, dct, dt, sl⟩, hl, hc, n, hd⟩ := hL
  replace hc : c = .type "tuple" := hc
  replace hd : dt = .seq items n := hd
  subst hc hd
  refine callType_new F.called_enumerate (by decide) (F.typeCall_enumerate_1 _) (F.newCall_enumerate_1 _) (fun obj => F.args_object_init_2 obj _) F.entry_enumerate_new
    (meets_enumerate_newT l items n dct sl) ⟨hl, ?_⟩
  have hz : (s.heap.push { cls := .type "tuple_iterator", data := .fields #[.ref l, .int 0 0] }).objs.size = s.heap.objs.size + 1 := Heap.size_push ..
  show _ ∧ _
  rw [hz]
  have he : IsEnum ((s.heap.push { cls := .type "tuple_iterator", data := .fields #[.ref l, .int 0 0] }).push
      { cls := .type "enumerate", data := .fields #[.none, .bool false, .ref s.heap.objs.size, rawInt 0, .none, .none] }) (s.heap.objs.size + 1) s.heap.objs.size 0 .none := by
    have := Heap.get?_push_size (s.heap.push { cls := .type "tuple_iterator", data := .fields #[.ref l, .int 0 0] })
      (o := { cls := .type "enumerate", data := .fields #[.none, .bool false, .ref s.heap.objs.size, rawInt 0, .none, .none] }) rfl
    rw [hz] at this; exact this
  refine ⟨⟨_, he, rfl⟩, h _ he ⟨_, Heap.get?_push_of_some _ (Heap.get?_push_size _ rfl), rfl, rfl⟩ (by rw [Heap.size_push, hz]) fun b o x => Heap.get?_push_of_some _ (Heap.get?_push_of_some _ x)⟩
section
variable {X : Cx} {pins : List (Addr × Obj)} {σ : St} {H : Hp} {s : Shared} {h' : Heap}
theorem Inv.turned2 {t' : Nat} {e it : Addr} (I : Inv X pins σ H s) (k : ∀ b o, b ≠ e → b ≠ it → s.heap.get? b = some o → h'.get? b = some o) (fe : FpOk X pins H e) (fi : FpOk X pins H it) : Inv X pins σ H { s with heap := h', toks := t' } := by
  have ne1 : ∀ b, b ∉ [e, it] → b ≠ e ∧ b ≠ it := fun b hb => ⟨fun z => hb (by simp [z]), fun z => hb (by simp [z])⟩
  have nit : ∀ b u, H b = some u → b ≠ e ∧ b ≠ it := fun b u q => ⟨fun z => (by rw [z, fe.1] at q; cases q), fun z => (by rw [z, fi.1] at q; cases q)⟩
  refine I.step (g' := s.gens) (d' := s.drawn) (ch := [e, it]) (fun b hb => ?_) (fun b o _ _ hc q _ => k b o (ne1 b hc).1 (ne1 b hc).2 q) (fun b o _ _ hc q _ => ⟨o.slots, k b o (ne1 b hc).1 (ne1 b hc).2 q⟩) (fun _ _ _ _ n => n)
    (fun b o hc q => ⟨o, k b o (ne1 b hc).1 (ne1 b hc).2 q⟩) (fun _ _ q => q) (fun _ _ _ q => q) (fun b ps q => ⟨#[], by rw [q]; simp⟩) (fun m hm => ?_) (fun b u q => ?_) I.bare
  · rcases List.mem_cons.mp hb with z | z
    · subst z; exact ⟨fe.2.2.2.1, fe.2.1, fe.2.2.2.2.1, fe.2.2.2.2.2⟩
    · have z := List.mem_singleton.mp z
      subst z; exact ⟨fi.2.2.2.1, fi.2.1, fi.2.2.2.2.1, fi.2.2.2.2.2⟩
  · obtain ⟨o, es, ep, ho, r⟩ := hm
    exact ⟨o, es, ep, k _ o (Ne.symm fe.2.1) (Ne.symm fi.2.1) ho, r⟩
  · refine (I.hok b u q).stay (fun c v hc z => ?_) (fun _ z => z) fun _ _ z => z
    rcases hc with y | y
    · rw [y]; rw [y] at z; exact k b v (nit b u q).1 (nit b u q).2 z
    · exact k c v (nit c _ y).1 (nit c _ y).2 z
end
structure EnumSrc (P : Program) (w : World) (K : PySem.W.Frag) (a it : Addr) (Sq : Hp → List V → Prop) (IsIt : Nat → Heap → Prop) : Prop where
  at_ : ∀ i h h', IsIt i h → (∀ o, h.get? it = some o → h'.get? it = some o) → IsIt i h'
  live : ∀ i h, IsIt i h → ∃ o, h.get? it = some o ∧ ∀ v, o.data ≠ .cell v
  drw : ∀ (X : Cx), X.prog = P → X.w = w → X.K = K → X.calm = true → ∀ (i : Nat) (pins : List (Addr × Obj)) (s : Shared) (σ : St) (H : Hp) (xs : List V), Inv X pins σ H s → IsIt i s.heap → Sq H xs →
    ∃ its : List Value, Vals xs its ∧ (∃ oa, s.heap.get? a = some oa ∧ oa.cls ≠ .type "enumerate") ∧ ∃ St : Nat → Heap → Prop, Draws P w X.A.in1 it [it, a] its.length (fun i v => its[i]? = some v) St ∧ St i s.heap ∧ ∀ j h', St j h' → IsIt j h'
  inj : ∀ (X : Cx), X.prog = P → X.w = w → X.K = K → ∀ (pins : List (Addr × Obj)) (s : Shared) (σ : St) (H : Hp) (xs ys : List V), Inv X pins σ H s → Sq H xs → Sq H ys → xs = ys
noncomputable def Ite (Sq : Hp → List V → Prop) : It :=
  ⟨fun i H => ∃ xs x, Sq H xs ∧ xs[i]? = some x, fun i H x H' => ∃ T v, x = .ref T ∧ H T = none ∧ H' = upd H T (.tup [.int (i : Nat), v]) ∧ ∀ xs, Sq H xs → xs[i]? = some v, fun i H => ∃ xs, Sq H xs ∧ xs.length = i⟩
theorem in1_handled {A : Around} (h : A.handled = none) : A.in1.handled = none := h
theorem src_list {P : Program} {w : World} {K : PySem.W.Frag} (a it : Addr) : EnumSrc P w K a it (fun H xs => SqL K H a xs) (fun i h => h.IsListIter it a i) where
  at_ := fun i h h' st k => st.at k
  live := fun i h st => by
    obtain ⟨o, e, c, d⟩ := st
    exact ⟨o, e, fun v z => by rw [d] at z; cases z⟩
  drw := by
    intro X hP hw hK hc i pins s σ H xs I hit hq
    subst hP hw hK
    obtain ⟨its, rv, p, hz⟩ := I.list hq
    obtain ⟨oa, e1, c1, r1⟩ := id p.isList
    have hne : a ≠ it := fun z => by
      obtain ⟨o, e, c, _⟩ := hit
      rw [← z, e1] at e; cases e; rw [c1] at c; injection c with c; exact absurd c (by decide)
    refine ⟨its, rv, ⟨oa, e1, fun z => (by rw [c1] at z; injection z with z; exact absurd z (by decide))⟩, (fun i h => h.IsListIter it a i ∧ h.IsList a its.toArray), ?_, ⟨hit, p.isList⟩, fun j h' st => st.1⟩
    have D := Draws.list (prog := X.prog) (w := X.w) (A := X.A.in1) (in1_handled (I.ok.hd hc)) it a hne its.toArray
    simpa using D
  inj := by
    intro X hP hw hK pins s σ H xs ys I h1 h2
    subst hP hw hK
    exact I.list_inj h1 h2
theorem src_tup {P : Program} {w : World} {K : PySem.W.Frag} (a it : Addr) : EnumSrc P w K a it (fun H xs => SqT K H a xs) (fun i h => h.IsTupleIter it a i) where
  at_ := fun i h h' st k => st.at k
  live := fun i h st => by
    obtain ⟨o, e, c, d⟩ := st
    exact ⟨o, e, fun v z => by rw [d] at z; cases z⟩
  drw := by
    intro X hP hw hK hc i pins s σ H xs I hit hq
    subst hP hw hK
    obtain ⟨its, rv, p, hz⟩ := I.tuple hq
    obtain ⟨oa, e1, c1, r1⟩ := id p
    have hne : a ≠ it := fun z => by
      obtain ⟨o, e, c, _⟩ := hit
      rw [← z, e1] at e; cases e; rw [c1] at c; injection c with c; exact absurd c (by decide)
    refine ⟨its, rv, ⟨oa, e1, fun z => (by rw [c1] at z; injection z with z; exact absurd z (by decide))⟩, (fun i h => h.IsTupleIter it a i ∧ h.IsTuple a its.toArray), ?_, ⟨hit, p⟩, fun j h' st => st.1⟩
    have D := draws_tuple (prog := X.prog) (w := X.w) (A := X.A.in1) (in1_handled (I.ok.hd hc)) it a hne its.toArray
    simpa using D
  inj := by
    intro X hP hw hK pins s σ H xs ys I h1 h2
    subst hP hw hK
    exact I.tuple_inj h1 h2
theorem turn_enum {P : Program} {w : World} {K : PySem.W.Frag} {a it : Addr} {Sq : Hp → List V → Prop} {IsIt : Nat → Heap → Prop} (S : EnumSrc P w K a it Sq IsIt) (e : Addr) (hei : e ≠ it) {es : List Expr} {x1} {pos : Pos} :
    Turn P w K (.Tuple es x1 pos) (Ite Sq) [e, it] e (fun i h => (∃ old, IsEnum h e it ((i : Nat) : Int) old) ∧ IsIt i h) where
  mem := by simp
  obj := fun i h st b hb => by
    obtain ⟨⟨old, he⟩, hit⟩ := st
    rcases List.mem_cons.mp hb with z | z
    · subst z; exact ⟨_, he, fun v z => by cases z⟩
    · have z := List.mem_singleton.mp z
      subst z; exact S.live i h hit
  keep := fun i h h' st k => by
    obtain ⟨⟨old, he⟩, hit⟩ := st
    exact ⟨⟨old, k e (by simp) _ he⟩, S.at_ i h h' hit fun o q => k it (by simp) o q⟩
  item := by
    intro X hP hw hK hc i pins s σ H E I hf st hg
    obtain ⟨⟨old, he⟩, hit⟩ := st
    obtain ⟨xs, x, hq, hx⟩ := hg
    obtain ⟨its, rv, ⟨oa, ea, ca⟩, St, D, st0, fromSt⟩ := S.drw X hP hw hK hc i pins s σ H xs I hit hq
    obtain ⟨u, hu, ru⟩ := rv.get hx
    have hlt : i < its.length := (List.getElem?_eq_some_iff.mp hu).1
    have hef : e ∉ [it, a] := fun z => by
      rcases List.mem_cons.mp z with z | z
      · exact hei z
      · have z := List.mem_singleton.mp z
        have he' : s.heap.get? e = some _ := he
        rw [z, ea] at he'; cases he'; exact ca rfl
    refine wpAny_pyNext_enum_itemD D he st0 hlt hei hef fun y h1 tk hy heo hst1 htup hsz hk => ?_
    have ey : y = u := Option.some.inj (hy.symm.trans hu)
    subst ey
    refine ⟨_, rfl, wpAny_letOwnedTupleGo_enum heo fun h2 he2 sb2 => ?_⟩
    have fe := hf e (by simp)
    have fi := hf it (by simp)
    have hT : H s.heap.objs.size = none := I.hok.fresh (Nat.le_refl _)
    have Im : Inv X pins σ (upd H s.heap.objs.size (.tup [.int (i : Nat), x])) { s with heap := s.heap.push { cls := .type "tuple", data := .seq #[.int i tk, y] } } :=
      I.laid (t' := s.toks) (fun b v q => Heap.get?_push_of_some _ q) (Nat.le_refl _) ⟨by show 2 ≤ sizeLine; decide, [.int i tk, y], .cons ⟨tk, rfl⟩ (.cons ru .nil), ⟨_, Heap.get?_push_size _ rfl, rfl, _, rfl⟩⟩
    have lt : ∀ b o, s.heap.get? b = some o → b ≠ s.heap.objs.size := fun b o q => Nat.ne_of_lt (Heap.lt_size q)
    have ne : e ≠ s.heap.objs.size := lt e _ he
    have ni : it ≠ s.heap.objs.size := by
      obtain ⟨o, q, _⟩ := S.live i _ hit
      exact lt it o q
    have up : ∀ b, b ≠ s.heap.objs.size → (upd H s.heap.objs.size (.tup [.int (i : Nat), x])) b = H b := fun b hb => upd_ne hb
    have fe' : FpOk X pins (upd H s.heap.objs.size (.tup [.int (i : Nat), x])) e := ⟨by rw [up e ne]; exact fe.1, fe.2⟩
    have fi' : FpOk X pins (upd H s.heap.objs.size (.tup [.int (i : Nat), x])) it := ⟨by rw [up it ni]; exact fi.1, fi.2⟩
    have I2 : Inv X pins σ (upd H s.heap.objs.size (.tup [.int (i : Nat), x])) { s with heap := h2, toks := tk + 1 } :=
      Im.turned2 (t' := tk + 1) (h' := h2) (fun b o hbe hbi q => by
        have q : (s.heap.push { cls := .type "tuple", data := .seq #[.int i tk, y] }).get? b = some o := q
        refine (sb2.2 b hbe).trans ?_
        rcases Heap.get?_push_cases q with ⟨hb, ho⟩ | q'
        · subst hb; subst ho; exact htup
        · exact hk b o hbe hbi q') fe' fi'
    refine ⟨.ref s.heap.objs.size, _, I2, rfl, ⟨_, x, rfl, hT, rfl, fun ys hy => by rw [S.inj X hP hw hK pins s σ H ys xs I hy hq]; exact hx⟩, ⟨⟨y, ?_⟩, ?_⟩, fun b hb => ?_⟩
    · have ec : ((i + 1 : Nat) : Int) = (i : Int) + 1 := by push_cast; rfl
      rw [ec]; exact he2
    · exact S.at_ _ _ _ (fromSt _ _ hst1) fun o q => (sb2.2 it (Ne.symm hei)).trans q
    · rcases List.mem_cons.mp hb with z | z
      · subst z; exact fe'.1
      · have z := List.mem_singleton.mp z
        subst z; exact fi'.1
  done := by
    intro X hP hw hK hc i pins s σ H E I hf st hg
    obtain ⟨⟨old, he⟩, hit⟩ := st
    obtain ⟨xs, hq, hx⟩ := hg
    obtain ⟨its, rv, ⟨oa, ea, ca⟩, St, D, st0, fromSt⟩ := S.drw X hP hw hK hc i pins s σ H xs I hit hq
    have hl := rv.length
    have ei : its.length = i := by omega
    rw [← ei] at st0
    obtain ⟨f0, f1, f2, f3, f4, f5⟩ := hf it (by simp)
    exact wpAny_pyNext_enum_endD D he st0 fun h1 eb => ⟨rfl, I.turned (t' := s.toks) (fun b o hb q => eb b o hb q) f0 f1 f3 f4 f5⟩
  self := fun _ _ _ _ _ st h => wpAny_pyIter_enum st.1.choose_spec h
section
variable {X : Cx}
theorem enum_fin {pins : List (Addr × Obj)} {σ : St} {H : Hp} {s : Shared} {h' : Heap} {a : Addr} {Sq : Hp → List V → Prop} {IsIt : Nat → Heap → Prop} {R : It → Hp → Prop} {tg : Expr} (htg : ∃ es x1 pos, tg = .Tuple es x1 pos) (I : Inv X pins σ H s) (S : EnumSrc X.prog X.w X.K a s.heap.objs.size Sq IsIt)
    (he : IsEnum h' (s.heap.objs.size + 1) s.heap.objs.size 0 .none) (hit : IsIt 0 h') (hk : ∀ b o, s.heap.get? b = some o → h'.get? b = some o) (q : R (Ite Sq) H) {E : Value → Shared → Prop} :
    wpAny (model X.prog X.w) X.A (pyIter (.ref (s.heap.objs.size + 1))) (PIE X pins σ tg R) E { s with heap := h' } := by
  obtain ⟨es, x1, pos, rfl⟩ := htg
  refine wpAny_pyIter_enum (s := { s with heap := h' }) he ?_
  refine ⟨s.heap.objs.size + 1, [s.heap.objs.size + 1, s.heap.objs.size], _, _, H, rfl, I.kept (t' := s.toks) hk, turn_enum S (s.heap.objs.size + 1) (Nat.succ_ne_self _), ⟨⟨_, he⟩, hit⟩, fun b hb => ?_, q⟩
  rcases List.mem_cons.mp hb with z | z
  · subst z; exact I.fpOk (Nat.le_succ _) (I.hok.fresh (Nat.le_succ _))
  · have z := List.mem_singleton.mp z
    subst z; exact I.fpOk (Nat.le_refl _) (I.hok.fresh (Nat.le_refl _))
end
end L2
namespace HT
open PySem PySem.Spec PyProof.Rows
section
variable {prog : Program} {w : World} {A : Around} {E : Value → Shared → Prop} {s : Shared}
theorem getItem_tuple_all {t sl : Addr} {items : Array Value} {vl vu : Value} {lo hi : Option Int} {Q : Value → Shared → Prop} (ht : IsTup s.heap t items) (hs : s.heap.IsSliceOf sl vl vu .none) (pl : IsPart vl lo) (pu : IsPart vu hi)
    (hw : sIx items.size 0 lo = 0 ∧ sIx items.size items.size hi = items.size) (h : Q (.ref t) s) : wpAny (model prog w) A (getItem (.ref t) (.ref sl)) Q E s := by
  obtain ⟨os, hos, hcs, hds⟩ := id hs
  have hTs : s.TypeIs (.ref sl) "slice" := ⟨os, hos, hcs⟩
  unfold getItem
  try with_reducible refine wpAny_holding ?_
  first | refine wpAny_bind (wpAny_pure ?_) | skip
  refine wpAny_bind (wpAny_sequenceKey ht.typeIs (by decide) ?_)
  refine wpAny_bind (wpAny_callSpecial?_slot (name := Str.ofString "__getitem__") ht.typeIs PyProof.Rows.slot_tuple_getitem
    (wpAny_call_entry PyProof.Rows.slot_tuple_getitem ht.typeIs entry_tuple_getitem ?_ (args_tuple_getitem _ _)))
  show wpAny _ _ (Builtin.Tuple.tupleItemsOf (.ref t) >>= _) _ _ s
  refine wpAny_bind (tupleItemsOf_ ht ?_)
  refine wpAny_bind (wpAny_typeOf hTs ?_)
  rw [if_pos (by decide)]
  refine wpAny_bind (sliceApplied_gen hs pl pu ?_)
  have hyes : (((sIx items.size 0 lo : Nat) : Int) == 0 && (1 : Int) == 1 && (sIx items.size items.size hi - sIx items.size 0 lo) == items.size) = true := by
    rw [hw.1, hw.2]; simp
  show wpAny _ _ (if (((sIx items.size 0 lo : Nat) : Int) == 0 && (1 : Int) == 1 && (sIx items.size items.size hi - sIx items.size 0 lo) == items.size) = true then _ else _) _ _ s
  rw [if_pos hyes]
  refine wpAny_bind (m := Builtin.Tuple.tupleIsExact _) ?_
  unfold Builtin.Tuple.tupleIsExact
  refine wpAny_bind (wpAny_typeOf ht.typeIs (wpAny_pure ?_))
  rw [if_pos (by decide)]
  exact wpAny_bind (wpAny_rule (wpAny_bind (wpAny_pure (wpAny_pure ⟨_, rfl, wpAny_pure h⟩))))
end
end HT
namespace L2
open PySem PySem.Spec PyProof.Rows
section
variable {X : Cx}
end
end L2
namespace L2
open PySem PySem.Spec PyProof.Rows
mutual
inductive Is (H : Hp) : V → PyData → Prop
  | non : Is H .non .none
  | bl (b : Bool) : Is H (.bl b) (.bool b)
  | int (i : Int) : Is H (.int i) (.int i)
  | str (x : Str) : Is H (.str x) (.str x)
  | lst {a : Addr} {xs : List V} {ds : List PyData} : H a = some (.lst xs) → Iss H xs ds → Is H (.ref a) (.list ds)
  | tup {a : Addr} {xs : List V} {ds : List PyData} : H a = some (.tup xs) → Iss H xs ds → Is H (.ref a) (.tuple ds)
inductive Iss (H : Hp) : List V → List PyData → Prop
  | nil : Iss H [] []
  | cons {x : V} {d : PyData} {xs : List V} {ds : List PyData} : Is H x d → Iss H xs ds → Iss H (x :: xs) (d :: ds)
end
mutual
theorem Is.mono {H H' : Hp} (s : Same H H') : ∀ {v : V} {d : PyData}, Is H v d → Is H' v d
  | _, _, .non => .non
  | _, _, .bl b => .bl b
  | _, _, .int i => .int i
  | _, _, .str x => .str x
  | _, _, .lst e h => .lst (s _ _ e) (Iss.mono s h)
  | _, _, .tup e h => .tup (s _ _ e) (Iss.mono s h)
theorem Iss.mono {H H' : Hp} (s : Same H H') : ∀ {xs : List V} {ds : List PyData}, Iss H xs ds → Iss H' xs ds
  | _, _, .nil => .nil
  | _, _, .cons h t => .cons (Is.mono s h) (Iss.mono s t)
end
theorem Iss.length {H : Hp} : ∀ {xs : List V} {ds : List PyData}, Iss H xs ds → xs.length = ds.length
  | _, _, .nil => rfl
  | _, _, .cons _ t => by rw [List.length_cons, List.length_cons, Iss.length t]
section
variable {X : Cx} {pins : List (Addr × Obj)} {σ : St} {H : Hp} {s : Shared}
end
end L2
namespace L2
open PySem PySem.Spec PyProof.Rows
structure Cal (P : Program) (w : World) (K : PySem.W.Frag) (mg : Str → Option Value) (base : Heap) (k : Nat) (x : Str) (ps : List Str) (sp : Sp) : Prop where
  ex : ∃ (f : Addr) (fd : FuncData), FnOk P w K mg base CX0 k f fd ps sp ∧ mg x = some (.ref f) ∧ PySem.W.keepIn K (.ref f) = true ∧ Binds K fd ps []
section
variable {X : Cx} {k : Nat} {ps : List Str} {sp : Sp} {x : Str} {p pos : Pos} {e : Expr} {es : List Expr} {t : TA}
theorem pe_cal (c : Cal X.prog X.w X.K X.mg X.base k x ps sp) (hr : Room k X.A) (hg : Gl X x) (ha : PA X (e :: es) t) (hdb : (x == ("__debug__" : Str)) = false := by decide)
    (he : starEach (e :: es) X.env = (false, eval e X.env) :: starEach es X.env := by rfl) (hpl : (backTo pos (starEach es X.env)).any (·.1) = false := by rfl) : PE X (.Call (.Name x p) (e :: es) [] pos) (tCall sp [] E0 t) := by
  obtain ⟨f, fd, F, hm, hk, hb⟩ := c.ex
  exact pe_call F hr hg hm hk hb .nil pass0 ha hdb he hpl
end
end L2
namespace L2
open PySem PySem.Spec PyProof.Rows
section
variable {X : Cx}
end
end L2
namespace L2
open PySem PySem.Spec PyProof.Rows
section
variable {X : Cx} {e st : Expr} {te : TE} {lo hi : Option Expr} {tl th ts : TO} {pos p2 : Pos}
end
end L2
namespace L2
open PySem PySem.Spec PyProof.Rows
section
variable {X : Cx}
end
end L2
namespace L2
open PySem PySem.Spec PyProof.Rows
section
variable {prog : Program} {w : World} {A : Around} {E : Value → Shared → Prop} {s : Shared}
end
section
variable {X : Cx} {pos : Pos}
end
end L2
namespace L2
open PySem PySem.Spec PyProof.Rows
section
variable {prog : Program} {w : World} {A : Around} {E : Value → Shared → Prop} {s : Shared}
end
end L2
namespace L2
open PySem PySem.Spec PyProof.Rows
section
variable {X : Cx}
theorem vals_bools : ∀ {bs : List Bool} {its : List Value}, Vals (bs.map V.bl) its → its = bs.map Value.bool
  | [], _, r => by rw [List.map_nil] at r; cases r; rfl
  | b :: bs, _, r => by
    rw [List.map_cons] at r
    cases r with
    | cons h t => rw [vals_bools t, (show _ = Value.bool b from h)]; rfl
theorem all_range (bs : List Bool) : ((List.range bs.length).all fun i => (bs[i]?).getD true) = bs.all id := by
  rw [Bool.eq_iff_iff, List.all_eq_true, List.all_eq_true]
  constructor
  · intro h x hx
    obtain ⟨i, hi, rfl⟩ := List.getElem_of_mem hx
    have := h i (List.mem_range.mpr hi)
    rw [List.getElem?_eq_getElem hi] at this
    exact this
  · intro h i hi
    have hi := List.mem_range.mp hi
    rw [List.getElem?_eq_getElem hi]
    exact h _ (List.getElem_mem hi)
theorem call_all_bools (hc : X.calm = true) : CallR X (.builtin "all") (fun xs H Q => ∃ (l : Addr) (bs : List Bool), xs = [.ref l] ∧ SqL X.K H l (bs.map V.bl) ∧ Q (.bl (bs.all id)) H) := by
  intro pins s σ H xs us Q I r h
  obtain ⟨l, bs, rfl, hq, q⟩ := h
  obtain ⟨u, rfl, ru⟩ := vals1 r
  cases ru
  obtain ⟨its, rv, p, hz⟩ := I.list hq
  have e := vals_bools rv
  subst e
  have hlt : l < s.heap.objs.size := let ⟨_, e, _⟩ := p.isList; Heap.lt_size e
  refine call_all_walk (wpAny_pyIter_list p.isList ⟨s.heap.objs.size, [s.heap.objs.size, l], [s.heap.objs.size], (bs.map Value.bool).toArray.size, _, _, fun i => (bs[i]?).getD true, rfl, Walks.list (A := X.A.in1) (I.ok.hd hc) _ l (Nat.ne_of_lt hlt) _, ⟨⟨_, Heap.get?_push_size _ rfl, rfl, rfl⟩, p.isList.push _⟩, fun i v s' Q' E' hP hQ => ?_, fun h' tk hk => ?_⟩)
  · have hP : (bs.map Value.bool)[i]? = some v := by simpa using hP
    rw [List.getElem?_map] at hP
    cases e : bs[i]? with
    | none => rw [e] at hP; cases hP
    | some b =>
      rw [e] at hP
      cases hP
      have hQ : Q' ((bs[i]?).getD true) s' := hQ
      rw [e] at hQ
      exact wpAny_truthy_bool hQ
  · have e : ((List.range (bs.map Value.bool).toArray.size).all fun i => (bs[i]?).getD true) = bs.all id := by
      rw [List.size_toArray, List.length_map]; exact all_range bs
    rw [e]
    refine ⟨.bl (bs.all id), H, I.kept (t' := tk) (fun b o q => hk b o (fun z => ?_) (Heap.get?_push_of_some _ q)), rfl, q⟩
    rw [List.mem_singleton.mp z] at q
    exact Nat.lt_irrefl _ (Heap.lt_size q)
end
end L2
namespace L2
open PySem PySem.Spec PyProof.Rows
section
variable {X : Cx} {tg : Expr}
end
section
variable {X : Cx}
end
end L2
namespace L2
open PySem
end L2
namespace L2
open PySem PySem.Spec PyProof.Rows
section
variable {prog : Program} {w : World} {A : Around} {E : Value → Shared → Prop} {s : Shared}
end
end L2
namespace L2
open PySem PySem.Spec PyProof.Rows
section
variable {prog : Program} {w : World} {A : Around} {E : Value → Shared → Prop} {s : Shared}
end
end L2
namespace L2
open PySem PySem.Spec PyProof.Rows
section
variable {X : Cx}
end
end L2
namespace L2
open PySem
theorem tuple_mul_many (l : Addr) (items : Array Value) (n : Nat) (dct : Option Addr) (sl : Array (Option Value)) (x : Int) (u : Tok) (h1 : 2 ≤ x) (h2 : x < 100) (hne : items.isEmpty = false) (hs : items.size ≤ 100) (hz : (List.foldl (fun x1 x2 => x1 ++ x2) #[] (List.replicate x.toNat items)).size ≤ sizeLine) :
    Meets (Builtin.«tuple.__mul__» ⟨[.ref l, .int x u], []⟩) (fun _ R s => s.heap.get? l = some { cls := .type "tuple", dict := dct, data := .seq items n, slots := sl } ∧
      R (.ok (.ret (.ref s.heap.objs.size))) { s with heap := s.heap.push { cls := .type "tuple", data := .seq (List.foldl (fun x1 x2 => x1 ++ x2) #[] (List.replicate x.toNat items)) } }) :=
  .of_wp fun prog w A R s h => by
    obtain ⟨hp, g, d, tk, os⟩ := s; obtain ⟨hl, h⟩ := h
    have c1 : (decide (x < -(2 ^ 63)) || decide (x ≥ 2 ^ 63)) = false := by
      rw [decide_eq_false (by omega), decide_eq_false (by omega)]; rfl
    have c2 : (items.isEmpty || x == 1) = false := by
      rw [hne, Bool.false_or]; exact beq_eq_false_iff_ne.mpr (by omega)
    have c3 : (decide (x ≤ 0) || items.isEmpty) = false := by
      rw [hne, Bool.or_false]; exact decide_eq_false (by omega)
    have hm : (items.size : Int) * x ≤ 10000 := by
      have a1 : (items.size : Int) ≤ 100 := by omega
      have := Int.mul_le_mul a1 (show x ≤ 100 by omega) (by omega) (by omega)
      omega
    have c4 : ¬ ((items.size : Int) * x > (2 ^ 63 - 1) / 8) := by omega
    have c5 : Builtin.Tuple.tupleTooMany ((items.size : Int) * x) = false := by
      unfold Builtin.Tuple.tupleTooMany
      exact decide_eq_false (by have : (10000 : Int) ≤ (sizeLine : Int) := by decide
                                omega)
    wp_walk
    rw [if_neg (by rw [c1]; exact Bool.false_ne_true)]
    wp_walk using PySem.AutoSeq1.wpAny_loadPart' hl
    rw [if_neg (by rw [c2]; exact Bool.false_ne_true)]
    show wpAny _ _ (if (decide (x ≤ 0) || items.isEmpty) = true then _ else _) _ _ _
    rw [if_neg (by rw [c3]; exact Bool.false_ne_true)]
    show wpAny _ _ (if (items.size : Int) * x > (2 ^ 63 - 1) / 8 then _ else _) _ _ _
    rw [if_neg c4]
    show wpAny _ _ (if Builtin.Tuple.tupleTooMany ((items.size : Int) * x) = true then _ else _) _ _ _
    rw [if_neg (by rw [c5]; exact Bool.false_ne_true)]
    wp_walk
    exact ⟨_, rfl, h⟩
theorem tuple_mul_one (l : Addr) (items : Array Value) (n : Nat) (dct : Option Addr) (sl : Array (Option Value)) (u : Tok) :
    Meets (Builtin.«tuple.__mul__» ⟨[.ref l, .int 1 u], []⟩) (fun _ R s => s.heap.get? l = some { cls := .type "tuple", dict := dct, data := .seq items n, slots := sl } ∧ R (.ok (.ret (.ref l))) s) :=
  .of_wp fun prog w A R s h => by
    obtain ⟨hp, g, d, tk, os⟩ := s; obtain ⟨hl, h⟩ := h
    have c1 : (decide ((1 : Int) < -(2 ^ 63)) || decide ((1 : Int) ≥ 2 ^ 63)) = false := by decide
    have c2 : (items.isEmpty || (1 : Int) == 1) = true := by simp
    wp_walk using PySem.AutoSeq1.wpAny_loadPart' hl
    exact ⟨_, rfl, h⟩
theorem rmul_int_tuple (a : Int) (t : Tok) (l : Addr) (items : Array Value) (n : Nat) (dct : Option Addr) (sl : Array (Option Value)) :
    Meets (Builtin.«int.__rmul__» ⟨[.int a t, .ref l], []⟩) (fun _ R s => s.heap.get? l = some { cls := .type "tuple", dict := dct, data := .seq items n, slots := sl } ∧ R (.ok (.ret Value.notImplemented)) s) :=
  .of_wp fun prog w A R s h => by obtain ⟨hp, g, d, tk, os⟩ := s; obtain ⟨hl, h⟩ := h; wp_walk using PySem.AutoSeq1.wpAny_loadPart' hl; exact ⟨_, rfl, h⟩
theorem noFill_tuple_mul : fillsNumberSlot (.type "tuple") "mul" = pure false :=
  fillsNumberSlot_seq (id := "tuple.__mul__") (r := some (.builtin "tuple.__rmul__")) F.slot_tuple_mul.lookup (by decide +kernel) F.slot_tuple_rmul.lookup (by decide +kernel)
theorem repeat_tuple : seqRepeat? (.type "tuple") = pure (some (.builtin "tuple.__mul__")) := by
  unfold seqRepeat?
  rw [seqSlot_of (T := "tuple") (name := "__mul__") (id := "tuple.__mul__") F.slot_tuple_mul.lookup (by decide +kernel), seqSlot_of (T := "tuple") (name := "__rmul__") (id := "tuple.__rmul__") F.slot_tuple_rmul.lookup (by decide +kernel)]
  rfl
end L2
namespace L2
open PySem PySem.Spec PyProof.Rows
section
variable {X : Cx}
noncomputable def rRepT (K : PySem.W.Frag) : R2 := fun x y H Q => ∃ a k xs, x = .ref a ∧ y = .int k ∧ SqT K H a xs ∧ xs ≠ [] ∧ xs.length ≤ 10 ∧ 1 ≤ k ∧ k < 100 ∧ (k = 1 → Q (.ref a) H) ∧ (2 ≤ k → ∀ p, H p = none → Q (.ref p) (upd H p (.tup (List.replicate k.toNat xs).flatten)))
theorem op_repT : OpR X (binaryOp .Mult) (rRepT X.K) := by
  intro pins s σ H x y v u Q I rx ry h
  obtain ⟨a, k, xs, rfl, rfl, ha, hx, hl, h1, h2, q1, q2⟩ := h
  cases rx
  obtain ⟨t, rfl⟩ := ry
  obtain ⟨its, r1, p1, _⟩ := I.tuple ha
  obtain ⟨⟨cls, dd, data, sl⟩, ho, hc, n, hd⟩ := id p1
  simp only at hc hd
  subst hc hd
  have hlen := r1.length
  refine wpAny_binaryOp_repeat_ref (T := "tuple") (U := "int") (by decide) ⟨_, ho, rfl⟩ (fun s' => typeIs_int s' k t) noFill_tuple_mul F.fills_int_mul F.slot_int_rmul repeat_tuple F.slot_int_index.lookup
    (call_meets F.slot_int_rmul (typeIs_int s k t) F.entry_int_rmul (F.args_int_rmul_2 _ _) (rmul_int_tuple k t a its.toArray n dd sl) ⟨ho, rfl, ⟨_, ho, rfl⟩, ?_⟩)
  by_cases e : k = 1
  · subst e
    exact call_meets F.slot_tuple_mul ⟨_, ho, rfl⟩ F.entry_tuple_mul (F.args_tuple_mul_2 _ _) (tuple_mul_one a its.toArray n dd sl t) ⟨ho, ⟨.ref a, H, I, rfl, q1 rfl⟩⟩
  · have hk : 2 ≤ k := by omega
    have hne : its.toArray.isEmpty = false := by
      cases its with
      | nil => exact absurd (List.length_eq_zero_iff.mp hlen) hx
      | cons b r => rfl
    have hnew : List.foldl (fun x1 x2 => x1 ++ x2) #[] (List.replicate k.toNat its.toArray) = (List.replicate k.toNat its).flatten.toArray := by
      have := foldl_rep its k.toNat []
      rw [List.nil_append] at this
      exact this
    have hzz : (List.replicate k.toNat its).flatten.length ≤ 1000 := by
      rw [len_rep, ← hlen]
      have : k.toNat * xs.length ≤ 99 * 10 := Nat.mul_le_mul (by omega) hl
      omega
    have hz : (List.foldl (fun x1 x2 => x1 ++ x2) #[] (List.replicate k.toNat its.toArray)).size ≤ sizeLine := by
      rw [hnew, List.size_toArray]
      exact Nat.le_trans hzz (by decide)
    refine call_meets F.slot_tuple_mul ⟨_, ho, rfl⟩ F.entry_tuple_mul (F.args_tuple_mul_2 _ _) (tuple_mul_many a its.toArray n dd sl k t hk h2 hne (by rw [List.size_toArray]; omega) hz) ⟨ho, ?_⟩
    rw [hnew]
    refine ⟨.ref s.heap.objs.size, _, I.laid (t' := s.toks) (o := .tup (List.replicate k.toNat xs).flatten) (fun b ob q => Heap.get?_push_of_some _ q) (Nat.le_refl _) ?_, rfl, q2 hk _ (I.hok.fresh (Nat.le_refl _))⟩
    refine ⟨?_, _, r1.rep k.toNat, IsTup.new _ _⟩
    rw [len_rep, hlen, ← len_rep its k.toNat]
    exact Nat.le_trans hzz (by decide)
end
end L2
namespace DL
open PySem PySem.Spec L2
inductive D where
  | non | bl (b : Bool) | int (i : Int) | str (x : Str) | tup (xs : List D) | lst (xs : List D) | scr (xs : List D) | ref (i : Nat)
  | exc (cn : Str) (fs : List (Str × Int))
inductive O where
  | lst (xs : List D) | dT (kvs : List (List Key × D)) | dK (kvs : List (Key × D)) | ins (cn : Str) (fs : List (Str × D))
structure KP where
  K : PySem.W.Frag
  π : List Addr
noncomputable def VT (K : KP) (α : List Addr) (H : Hp) (a : Addr) (us : List V) : Prop := a ∉ α ∧ a ∉ K.π ∧ H a = some (.tup us)
noncomputable def VS (K : KP) (α : List Addr) (H : Hp) (a : Addr) (us : List V) : Prop :=
  (a ∉ α ∧ a ∉ K.π ∧ Rd H a (.lst us)) ∨ ∃ (o : Obj) (its : Array Value) (n : Nat), K.K.lookup a = some o ∧ o.cls = .type "list" ∧ o.dict = none ∧ o.data = .seq its n ∧ its.size ≤ sizeLine ∧ Vals us its.toList
noncomputable def VL (K : KP) (α : List Addr) (H : Hp) (a : Addr) (us : List V) : Prop := a ∉ α ∧ a ∉ K.π ∧ H a = some (.lst us)
noncomputable def VE (K : KP) (α : List Addr) (H : Hp) (a : Addr) (o : HO) : Prop := a ∉ α ∧ a ∉ K.π ∧ H a = some o
noncomputable def xDict (fs : List (Str × Int)) (dx : Addr) (h : Heap) : Prop := ∃ mA, h.Ns1 dx mA ∧ PySem.Within mA (fs.map (·.1)) ∧ ∀ f, RelO ((fs.lookup f).map V.int) (mA f)
noncomputable def XD (H : Hp) (dx : Addr) (fs : List (Str × Int)) : Prop := H dx = some (.ext (xDict fs dx))
noncomputable def xAny (C : Addr) (dx : Option Addr) (a : Addr) (h : Heap) : Prop := ∃ o vs, h.get? a = some o ∧ o.cls = .ref C ∧ o.dict = dx ∧ o.data = .fields vs
noncomputable def XQ (K : KP) (α : List Addr) (H : Hp) (dx : Option Addr) (fs : List (Str × Int)) : Prop := (dx = none ∧ fs = []) ∨ ∃ d, dx = some d ∧ VE K α H d (.ext (xDict fs d))
theorem XQ.map {K K' : KP} {α α' : List Addr} {H H' : Hp} {dx : Option Addr} {fs : List (Str × Int)} (hE : ∀ a o, VE K α H a o → VE K' α' H' a o) (h : XQ K α H dx fs) : XQ K' α' H' dx fs := h.imp id fun ⟨d, e, v⟩ => ⟨d, e, hE _ _ v⟩
theorem VT.sq {K : KP} {α : List Addr} {H : Hp} {a : Addr} {us : List V} (h : VT K α H a us) : SqT K.K H a us := .inl (.inl h.2.2)
theorem VS.sq {K : KP} {α : List Addr} {H : Hp} {a : Addr} {us : List V} (h : VS K α H a us) : SqL K.K H a us := by
  rcases h with ⟨_, _, h⟩ | h
  · exact .inl h
  · exact .inr h
theorem VL.sq {K : KP} {α : List Addr} {H : Hp} {a : Addr} {us : List V} (h : VL K α H a us) : SqL K.K H a us := SqL.of h.2.2
mutual
inductive RelD (K : KP) (α : List Addr) (H : Hp) : D → V → Prop
  | non : RelD K α H .non .non
  | bl (b : Bool) : RelD K α H (.bl b) (.bl b)
  | int (i : Int) : RelD K α H (.int i) (.int i)
  | str (x : Str) : RelD K α H (.str x) (.str x)
  | tup {a : Addr} {us : List V} {ds : List D} : VT K α H a us → RelDs K α H ds us → RelD K α H (.tup ds) (.ref a)
  | lst {a : Addr} {us : List V} {ds : List D} : VL K α H a us → RelDs K α H ds us → RelD K α H (.lst ds) (.ref a)
  | scr {a : Addr} {us : List V} {ds : List D} : VS K α H a us → RelDs K α H ds us → RelD K α H (.scr ds) (.ref a)
  | ref {i : Nat} {a : Addr} : α[i]? = some a → RelD K α H (.ref i) (.ref a)
  | exc {a C : Addr} {dx : Option Addr} {cn : Str} {fs : List (Str × Int)} : PySem.W.nsIn K.K mainGlobals cn = some (some (.ref C)) → VE K α H a (.ext (xAny C dx a)) → XQ K α H dx fs → RelD K α H (.exc cn fs) (.ref a)
inductive RelDs (K : KP) (α : List Addr) (H : Hp) : List D → List V → Prop
  | nil : RelDs K α H [] []
  | cons {d : D} {u : V} {ds : List D} {us : List V} : RelD K α H d u → RelDs K α H ds us → RelDs K α H (d :: ds) (u :: us)
end
theorem RelD.map {K K' : KP} {α α' : List Addr} {H H' : Hp} (hK : K'.K = K.K) (hT : ∀ a us, VT K α H a us → VT K' α' H' a us) (hL : ∀ a us, VL K α H a us → VL K' α' H' a us) (hS : ∀ a us, VS K α H a us → VS K' α' H' a us) (hE : ∀ a o, VE K α H a o → VE K' α' H' a o)
    (hR : ∀ (i : Nat) (a : Addr), α[i]? = some a → α'[i]? = some a) {d : D} {v : V} (r : RelD K α H d v) : RelD K' α' H' d v :=
  RelD.rec (motive_1 := fun d v _ => RelD K' α' H' d v) (motive_2 := fun ds us _ => RelDs K' α' H' ds us) .non .bl .int .str (fun t _ r => .tup (hT _ _ t) r) (fun t _ r => .lst (hL _ _ t) r) (fun t _ r => .scr (hS _ _ t) r) (fun h => .ref (hR _ _ h)) (fun n t r => .exc (by rw [hK]; exact n) (hE _ _ t) (r.map hE)) .nil (fun _ _ r t => .cons r t) r
theorem RelDs.map {K K' : KP} {α α' : List Addr} {H H' : Hp} (hK : K'.K = K.K) (hT : ∀ a us, VT K α H a us → VT K' α' H' a us) (hL : ∀ a us, VL K α H a us → VL K' α' H' a us) (hS : ∀ a us, VS K α H a us → VS K' α' H' a us) (hE : ∀ a o, VE K α H a o → VE K' α' H' a o)
    (hR : ∀ (i : Nat) (a : Addr), α[i]? = some a → α'[i]? = some a) {ds : List D} {us : List V} (r : RelDs K α H ds us) : RelDs K' α' H' ds us := by
  induction ds generalizing us with
  | nil => cases r; exact .nil
  | cons d ds ih => cases r with | cons h t => exact .cons (h.map hK hT hL hS hE hR) (ih t)
structure Ext (α : List Addr) (H : Hp) (α' : List Addr) (H' : Hp) : Prop where
  pre : ∃ β, α' = α ++ β ∧ ∀ p ∈ β, H p = none
  keep : ∀ b o, H b = some o → b ∉ α → H' b = some o
  dom : ∀ b, H' b = none → H b = none
theorem Ext.refl (α : List Addr) (H : Hp) : Ext α H α H := ⟨⟨[], by simp, fun p h => nomatch h⟩, fun _ _ h _ => h, fun _ h => h⟩
theorem Ext.out {α α' : List Addr} {H H' : Hp} (e : Ext α H α' H') {a : Addr} {o : HO} (h : a ∉ α) (ho : H a = some o) : a ∉ α' := by
  obtain ⟨⟨β, rfl, hb⟩, _⟩ := e
  intro z
  rcases List.mem_append.mp z with z | z
  · exact h z
  · rw [hb a z] at ho; cases ho
theorem Ext.trans {α α' α'' : List Addr} {H H' H'' : Hp} (e : Ext α H α' H') (f : Ext α' H' α'' H'') : Ext α H α'' H'' := by
  refine ⟨?_, fun b o h n => f.keep b o (e.keep b o h n) (e.out n h), fun b h => e.dom b (f.dom b h)⟩
  obtain ⟨⟨β, rfl, hb⟩, k, d⟩ := e
  obtain ⟨⟨γ, rfl, hc⟩, _⟩ := f
  refine ⟨β ++ γ, by simp, fun p hp => ?_⟩
  rcases List.mem_append.mp hp with z | z
  · exact hb p z
  · exact d p (hc p z)
theorem Ext.get {α α' : List Addr} {H H' : Hp} (e : Ext α H α' H') {i : Nat} {a : Addr} (h : α[i]? = some a) : α'[i]? = some a := by
  obtain ⟨⟨β, rfl, _⟩, _⟩ := e
  have hi : i < α.length := (List.getElem?_eq_some_iff.mp h).1
  rw [List.getElem?_append_left hi]; exact h
theorem Ext.new {α : List Addr} {H : Hp} {p : Addr} {o : HO} (h : H p = none) : Ext α H α (upd H p o) :=
  ⟨⟨[], by simp, fun p h => nomatch h⟩, fun b u e _ => by rw [upd_ne (ne_of_none e h)]; exact e, fun b e => by
    by_cases z : b = p
    · subst z; rw [upd_same] at e; cases e
    · rw [upd_ne z] at e; exact e⟩
theorem Ext.write {α : List Addr} {H : Hp} {p : Addr} {o : HO} (h : p ∈ α) : Ext α H α (upd H p o) :=
  ⟨⟨[], by simp, fun p h => nomatch h⟩, fun b u e n => by rw [upd_ne (fun (z : b = p) => n (by rw [z]; exact h))]; exact e, fun b e => by
    by_cases z : b = p
    · subst z; rw [upd_same] at e; cases e
    · rw [upd_ne z] at e; exact e⟩
theorem VT.mono {K : KP} {α α' : List Addr} {H H' : Hp} (e : Ext α H α' H') {a : Addr} {us : List V} (h : VT K α H a us) : VT K α' H' a us := ⟨e.out h.1 h.2.2, h.2.1, e.keep _ _ h.2.2 h.1⟩
theorem VS.mono {K : KP} {α α' : List Addr} {H H' : Hp} (e : Ext α H α' H') {a : Addr} {us : List V} (h : VS K α H a us) : VS K α' H' a us := by
  rcases h with ⟨n, m, h | ⟨o, h⟩⟩ | h
  · exact .inl ⟨e.out n h, m, .inl (e.keep _ _ h n)⟩
  · exact .inl ⟨e.out n h, m, .inr ⟨o, e.keep _ _ h n⟩⟩
  · exact .inr h
theorem VL.mono {K : KP} {α α' : List Addr} {H H' : Hp} (e : Ext α H α' H') {a : Addr} {us : List V} (h : VL K α H a us) : VL K α' H' a us := ⟨e.out h.1 h.2.2, h.2.1, e.keep _ _ h.2.2 h.1⟩
theorem VE.mono {K : KP} {α α' : List Addr} {H H' : Hp} (e : Ext α H α' H') {a : Addr} {u : HO} (h : VE K α H a u) : VE K α' H' a u := ⟨e.out h.1 h.2.2, h.2.1, e.keep _ _ h.2.2 h.1⟩
theorem RelD.mono {K : KP} {α α' : List Addr} {H H' : Hp} (e : Ext α H α' H') {d : D} {v : V} (r : RelD K α H d v) : RelD K α' H' d v := r.map rfl (fun _ _ t => t.mono e) (fun _ _ t => t.mono e) (fun _ _ t => t.mono e) (fun _ _ t => t.mono e) (fun _ _ h => e.get h)
theorem RelDs.mono {K : KP} {α α' : List Addr} {H H' : Hp} (e : Ext α H α' H') {ds : List D} {us : List V} (r : RelDs K α H ds us) : RelDs K α' H' ds us := r.map rfl (fun _ _ t => t.mono e) (fun _ _ t => t.mono e) (fun _ _ t => t.mono e) (fun _ _ t => t.mono e) (fun _ _ h => e.get h)
section
variable {K : KP} {α α' : List Addr} {H H' : Hp}
theorem RelDs.length : ∀ {ds : List D} {us : List V}, RelDs K α H ds us → ds.length = us.length
  | _, _, .nil => rfl
  | _, _, .cons _ t => by rw [List.length_cons, List.length_cons, RelDs.length t]
theorem RelDs.get : ∀ {ds : List D} {us : List V} {i : Nat} {d : D}, RelDs K α H ds us → ds[i]? = some d → ∃ u, us[i]? = some u ∧ RelD K α H d u
  | _, _, _, _, .nil, e => by simp at e
  | _, _, 0, _, .cons r _, e => by simp at e; subst e; exact ⟨_, rfl, r⟩
  | _, _, i + 1, d, .cons _ t, e => by
    obtain ⟨u, h1, h2⟩ := RelDs.get (i := i) (d := d) t (by simpa using e)
    exact ⟨u, by simpa using h1, h2⟩
theorem RelDs.append : ∀ {ds es : List D} {us ws : List V}, RelDs K α H ds us → RelDs K α H es ws → RelDs K α H (ds ++ es) (us ++ ws)
  | _, _, _, _, .nil, s => s
  | _, _, _, _, .cons r t, s => .cons r (RelDs.append t s)
theorem RelDs.take : ∀ {ds : List D} {us : List V} (n : Nat), RelDs K α H ds us → RelDs K α H (ds.take n) (us.take n)
  | _, _, 0, _ => .nil
  | _, _, _ + 1, .nil => .nil
  | _, _, n + 1, .cons r t => .cons r (RelDs.take n t)
theorem RelDs.drop : ∀ {ds : List D} {us : List V} (n : Nat), RelDs K α H ds us → RelDs K α H (ds.drop n) (us.drop n)
  | _, _, 0, r => r
  | _, _, _ + 1, .nil => .nil
  | _, _, n + 1, .cons _ t => RelDs.drop n t
theorem RelDs.set {d : D} {u : V} (r : RelD K α H d u) : ∀ {ds : List D} {us : List V} (i : Nat), RelDs K α H ds us → RelDs K α H (ds.set i d) (us.set i u)
  | _, _, _, .nil => .nil
  | _, _, 0, .cons _ t => .cons r t
  | _, _, i + 1, .cons q t => .cons q (RelDs.set r i t)
theorem RelDs.snoc {ds : List D} {us : List V} {d : D} {u : V} (r : RelDs K α H ds us) (h : RelD K α H d u) : RelDs K α H (ds ++ [d]) (us ++ [u]) := r.append (.cons h .nil)
theorem RelDs.ints : ∀ ns : List Int, RelDs K α H (ns.map D.int) (ns.map V.int)
  | [] => .nil
  | n :: r => .cons (.int n) (RelDs.ints r)
theorem RelDs.bls_inv {bs : List Bool} {us : List V} (r : RelDs K α H (bs.map D.bl) us) : us = bs.map V.bl := by
  induction bs generalizing us with
  | nil => cases r; rfl
  | cons n ns ih => cases r with | cons h t => cases h; rw [ih t]; rfl
theorem RelDs.inv1 {d : D} {us : List V} (h : RelDs K α H [d] us) : ∃ u, us = [u] ∧ RelD K α H d u := by
  cases h with
  | cons r t => cases t; exact ⟨_, rfl, r⟩
theorem RelDs.inv2 {d e : D} {us : List V} (h : RelDs K α H [d, e] us) : ∃ u v, us = [u, v] ∧ RelD K α H d u ∧ RelD K α H e v := by
  cases h with
  | cons r t =>
    obtain ⟨v, rfl, q⟩ := t.inv1
    exact ⟨_, _, rfl, r, q⟩
end
inductive RelKV (K : KP) (α : List Addr) (H : Hp) {κ : Type} : List (κ × D) → List (κ × V) → Prop
  | nil : RelKV K α H [] []
  | cons {k : κ} {d : D} {u : V} {ds : List (κ × D)} {us : List (κ × V)} : RelD K α H d u → RelKV K α H ds us → RelKV K α H ((k, d) :: ds) ((k, u) :: us)
theorem RelKV.mono {K : KP} {α α' : List Addr} {H H' : Hp} {κ : Type} (e : Ext α H α' H') {ds : List (κ × D)} {us : List (κ × V)} (r : RelKV K α H ds us) : RelKV K α' H' ds us := by
  induction r with
  | nil => exact .nil
  | cons h t ih => exact .cons (h.mono e) ih
inductive RelO' (K : KP) (α : List Addr) (H : Hp) (p : Addr) : O → Prop
  | lst {xs : List D} {us : List V} : H p = some (.lst us) → RelDs K α H xs us → RelO' K α H p (.lst xs)
  | dT {kvs : List (List Key × D)} {us : List (List Key × V)} : H p = some (.dT us) → RelKV K α H kvs us → RelO' K α H p (.dT kvs)
  | dK {kvs : List (Key × D)} {us : List (Key × V)} : H p = some (.dK us) → RelKV K α H kvs us → RelO' K α H p (.dK kvs)
  | ins {C dx : Addr} {cn : Str} {fs : List (Str × D)} {us : List (Str × V)} : PySem.W.nsIn K.K mainGlobals cn = some (some (.ref C)) → H p = some (.ins C dx us) → RelKV K α H fs us → RelO' K α H p (.ins cn fs)
structure HRel (K : KP) (α : List Addr) (H : Hp) (h : List O) : Prop where
  len : α.length = h.length
  nd : α.Nodup
  dis : ∀ p ∈ K.π, p ∉ α ∧ H p ≠ none
  obj : ∀ (i : Nat) (o : O), h[i]? = some o → ∃ p, α[i]? = some p ∧ RelO' K α H p o
theorem RelO'.mono {K : KP} {α α' : List Addr} {H H' : Hp} (e : Ext α H α' H') {p : Addr} {o : O} (r : RelO' K α H p o) (k : H' p = H p) : RelO' K α' H' p o := by
  cases r with
  | lst h t => exact .lst (k.trans h) (t.mono e)
  | dT h t => exact .dT (k.trans h) (t.mono e)
  | dK h t => exact .dK (k.trans h) (t.mono e)
  | ins n h t => exact .ins n (k.trans h) (t.mono e)
section
variable {K : KP} {α α' : List Addr} {H H' : Hp} {h : List O}
theorem HRel.some_ (R : HRel K α H h) {p : Addr} (hp : p ∈ α) : ∃ o, H p = some o := by
  obtain ⟨i, hi, rfl⟩ := List.getElem_of_mem hp
  have hh : i < h.length := by rw [← R.len]; exact hi
  obtain ⟨q, e, r⟩ := R.obj i h[i] (List.getElem?_eq_getElem hh)
  rw [List.getElem?_eq_getElem hi] at e
  cases e
  generalize h[i] = o at r
  cases r with
  | lst h t => exact ⟨_, h⟩
  | dT h t => exact ⟨_, h⟩
  | dK h t => exact ⟨_, h⟩
  | ins n h t => exact ⟨_, h⟩
theorem HRel.out (R : HRel K α H h) {p : Addr} (hp : H p = none) : p ∉ α := fun z => by
  obtain ⟨o, e⟩ := R.some_ z
  rw [hp] at e; cases e
theorem HRel.same (R : HRel K α H h) (e : Ext α H α H') (k : ∀ p ∈ α, H' p = H p) : HRel K α H' h :=
  ⟨R.len, R.nd, fun p hp => ⟨(R.dis p hp).1, fun z => (R.dis p hp).2 (e.dom p z)⟩, fun i o q => by
    obtain ⟨p, ep, r⟩ := R.obj i o q
    exact ⟨p, ep, r.mono e (k p (List.mem_of_getElem? ep))⟩⟩
theorem HRel.new (R : HRel K α H h) {p : Addr} {o : HO} (hp : H p = none) : HRel K α (upd H p o) h :=
  R.same (Ext.new hp) fun q hq => upd_ne fun z => R.out hp (z ▸ hq)
theorem HRel.write (R : HRel K α H h) {p : Addr} {i : Nat} {o : HO} {u : O} (hp : α[i]? = some p) (r : RelO' K α (upd H p o) p u) : HRel K α (upd H p o) (h.set i u) := by
  have hm := List.mem_of_getElem? hp
  refine ⟨by simp [R.len], R.nd, fun q hq => ⟨(R.dis q hq).1, fun z => (R.dis q hq).2 ((Ext.write (H := H) (o := o) hm).dom q z)⟩, fun j v q => ?_⟩
  by_cases e : i = j
  · subst e
    have hi : i < h.length := by
      have := (List.getElem?_eq_some_iff.mp q).1
      simpa using this
    rw [List.getElem?_set_self hi] at q
    cases q
    exact ⟨p, hp, r⟩
  · rw [List.getElem?_set_ne e] at q
    obtain ⟨a, ea, ra⟩ := R.obj j v q
    refine ⟨a, ea, ra.mono (Ext.write hm) (upd_ne fun z => e ?_)⟩
    subst z
    exact (List.getElem?_inj (List.getElem?_eq_some_iff.mp hp).1 R.nd).mp (hp.trans ea.symm)
theorem HRel.lst (R : HRel K α H h) {i : Nat} {xs : List D} (e : h[i]? = some (.lst xs)) : ∃ p us, α[i]? = some p ∧ H p = some (.lst us) ∧ RelDs K α H xs us := by
  obtain ⟨p, ep, r⟩ := R.obj i _ e
  cases r with
  | lst h t => exact ⟨p, _, ep, h, t⟩
theorem HRel.dT (R : HRel K α H h) {i : Nat} {xs : List (List Key × D)} (e : h[i]? = some (.dT xs)) : ∃ p us, α[i]? = some p ∧ H p = some (.dT us) ∧ RelKV K α H xs us := by
  obtain ⟨p, ep, r⟩ := R.obj i _ e
  cases r with
  | dT h t => exact ⟨p, _, ep, h, t⟩
theorem HRel.dK (R : HRel K α H h) {i : Nat} {xs : List (Key × D)} (e : h[i]? = some (.dK xs)) : ∃ p us, α[i]? = some p ∧ H p = some (.dK us) ∧ RelKV K α H xs us := by
  obtain ⟨p, ep, r⟩ := R.obj i _ e
  cases r with
  | dK h t => exact ⟨p, _, ep, h, t⟩
end
theorem HRel.outP {K : KP} {α : List Addr} {H : Hp} {h : List O} (R : HRel K α H h) {p : Addr} (hp : H p = none) : p ∉ K.π := fun z => (R.dis p z).2 hp
structure Priv (D : Addr) (H H' : Hp) : Prop where
  same : ∀ b, b ≠ D → H' b = H b
theorem VT.priv {K : KP} {α : List Addr} {H H' : Hp} {D a : Addr} {us : List V} (e : Priv D H H') (hD : D ∈ K.π) (h : VT K α H a us) : VT K α H' a us :=
  ⟨h.1, h.2.1, (e.same a fun z => h.2.1 (z ▸ hD)).trans h.2.2⟩
theorem VS.priv {K : KP} {α : List Addr} {H H' : Hp} {D a : Addr} {us : List V} (e : Priv D H H') (hD : D ∈ K.π) (h : VS K α H a us) : VS K α H' a us := by
  rcases h with ⟨n, m, h⟩ | h
  · have z : a ≠ D := fun z => m (z ▸ hD)
    refine .inl ⟨n, m, ?_⟩
    unfold Rd at h ⊢
    rw [e.same a z]; exact h
  · exact .inr h
theorem VL.priv {K : KP} {α : List Addr} {H H' : Hp} {D a : Addr} {us : List V} (e : Priv D H H') (hD : D ∈ K.π) (h : VL K α H a us) : VL K α H' a us :=
  ⟨h.1, h.2.1, (e.same a fun z => h.2.1 (z ▸ hD)).trans h.2.2⟩
theorem VE.priv {K : KP} {α : List Addr} {H H' : Hp} {D a : Addr} {u : HO} (e : Priv D H H') (hD : D ∈ K.π) (h : VE K α H a u) : VE K α H' a u :=
  ⟨h.1, h.2.1, (e.same a fun z => h.2.1 (z ▸ hD)).trans h.2.2⟩
theorem RelD.priv {K : KP} {α : List Addr} {H H' : Hp} {D' : Addr} (e : Priv D' H H') (hD : D' ∈ K.π) {d : D} {v : V} (r : RelD K α H d v) : RelD K α H' d v := r.map rfl (fun _ _ t => t.priv e hD) (fun _ _ t => t.priv e hD) (fun _ _ t => t.priv e hD) (fun _ _ t => t.priv e hD) (fun _ _ h => h)
theorem RelDs.priv {K : KP} {α : List Addr} {H H' : Hp} {D' : Addr} (e : Priv D' H H') (hD : D' ∈ K.π) {ds : List D} {us : List V} (r : RelDs K α H ds us) : RelDs K α H' ds us := r.map rfl (fun _ _ t => t.priv e hD) (fun _ _ t => t.priv e hD) (fun _ _ t => t.priv e hD) (fun _ _ t => t.priv e hD) (fun _ _ h => h)
theorem RelKV.priv {K : KP} {α : List Addr} {H H' : Hp} {D' : Addr} {κ : Type} (e : Priv D' H H') (hD : D' ∈ K.π) {ds : List (κ × D)} {us : List (κ × V)} (r : RelKV K α H ds us) : RelKV K α H' ds us := by
  induction r with
  | nil => exact .nil
  | cons h t ih => exact .cons (h.priv e hD) ih
theorem HRel.priv {K : KP} {α : List Addr} {H H' : Hp} {h : List O} {D' : Addr} (e : Priv D' H H') (hD : D' ∈ K.π) (hs : H' D' ≠ none) (R : HRel K α H h) : HRel K α H' h :=
  ⟨R.len, R.nd, fun p hp => ⟨(R.dis p hp).1, by
    by_cases z : p = D'
    · rw [z]; exact hs
    · rw [e.same p z]; exact (R.dis p hp).2⟩, fun i o q => by
    obtain ⟨p, ep, r⟩ := R.obj i o q
    have z : p ≠ D' := fun z => (R.dis D' hD).1 (z ▸ List.mem_of_getElem? ep)
    refine ⟨p, ep, ?_⟩
    cases r with
    | lst h t => exact .lst ((e.same p z).trans h) (t.priv e hD)
    | dT h t => exact .dT ((e.same p z).trans h) (t.priv e hD)
    | dK h t => exact .dK ((e.same p z).trans h) (t.priv e hD)
    | ins n h t => exact .ins n ((e.same p z).trans h) (t.priv e hD)⟩
theorem VT.more {K : PySem.W.Frag} {π π' : List Addr} {α : List Addr} {H : Hp} {a : Addr} {us : List V} (s : ∀ p ∈ π', p ∈ π ∨ H p = none) (h : VT ⟨K, π⟩ α H a us) : VT ⟨K, π'⟩ α H a us :=
  ⟨h.1, fun z => (s a z).elim h.2.1 (fun w => by rw [h.2.2] at w; exact nomatch w), h.2.2⟩
theorem VS.more {K : PySem.W.Frag} {π π' : List Addr} {α : List Addr} {H : Hp} {a : Addr} {us : List V} (s : ∀ p ∈ π', p ∈ π ∨ H p = none) (h : VS ⟨K, π⟩ α H a us) : VS ⟨K, π'⟩ α H a us := by
  rcases h with ⟨n, m, h⟩ | h
  · refine .inl ⟨n, fun z => ?_, h⟩
    rcases s a z with z | z
    · exact m z
    · rcases h with h | ⟨o, h⟩ <;> rw [z] at h <;> cases h
  · exact .inr h
theorem VL.more {K : PySem.W.Frag} {π π' : List Addr} {α : List Addr} {H : Hp} {a : Addr} {us : List V} (s : ∀ p ∈ π', p ∈ π ∨ H p = none) (h : VL ⟨K, π⟩ α H a us) : VL ⟨K, π'⟩ α H a us :=
  ⟨h.1, fun z => (s a z).elim h.2.1 (fun w => by rw [h.2.2] at w; exact nomatch w), h.2.2⟩
theorem VE.more {K : PySem.W.Frag} {π π' : List Addr} {α : List Addr} {H : Hp} {a : Addr} {u : HO} (s : ∀ p ∈ π', p ∈ π ∨ H p = none) (h : VE ⟨K, π⟩ α H a u) : VE ⟨K, π'⟩ α H a u :=
  ⟨h.1, fun z => (s a z).elim h.2.1 (fun w => by rw [h.2.2] at w; exact nomatch w), h.2.2⟩
theorem RelD.more {K : PySem.W.Frag} {π π' : List Addr} {α : List Addr} {H : Hp} (s : ∀ p ∈ π', p ∈ π ∨ H p = none) {d : D} {v : V} (r : RelD ⟨K, π⟩ α H d v) : RelD ⟨K, π'⟩ α H d v := r.map (K := ⟨K, π⟩) (K' := ⟨K, π'⟩) rfl (fun _ _ t => t.more s) (fun _ _ t => t.more s) (fun _ _ t => t.more s) (fun _ _ t => t.more s) (fun _ _ h => h)
theorem RelDs.more {K : PySem.W.Frag} {π π' : List Addr} {α : List Addr} {H : Hp} (s : ∀ p ∈ π', p ∈ π ∨ H p = none) {ds : List D} {us : List V} (r : RelDs ⟨K, π⟩ α H ds us) : RelDs ⟨K, π'⟩ α H ds us := r.map (K := ⟨K, π⟩) (K' := ⟨K, π'⟩) rfl (fun _ _ t => t.more s) (fun _ _ t => t.more s) (fun _ _ t => t.more s) (fun _ _ t => t.more s) (fun _ _ h => h)
theorem RelKV.more {K : PySem.W.Frag} {π π' : List Addr} {α : List Addr} {H : Hp} {κ : Type} (s : ∀ p ∈ π', p ∈ π ∨ H p = none) {ds : List (κ × D)} {us : List (κ × V)} (r : RelKV ⟨K, π⟩ α H ds us) : RelKV ⟨K, π'⟩ α H ds us := by
  induction r with
  | nil => exact .nil
  | cons h t ih => exact .cons (h.more s) ih
theorem HRel.more {K : PySem.W.Frag} {π π' : List Addr} {α : List Addr} {H : Hp} {h : List O} (s : ∀ p ∈ π', p ∈ π ∨ H p = none) (d : ∀ p ∈ π', p ∉ α ∧ H p ≠ none) (R : HRel ⟨K, π⟩ α H h) : HRel ⟨K, π'⟩ α H h :=
  ⟨R.len, R.nd, d, fun i o q => by
    obtain ⟨p, ep, r⟩ := R.obj i o q
    refine ⟨p, ep, ?_⟩
    cases r with
    | lst h t => exact .lst h (t.more s)
    | dT h t => exact .dT h (t.more s)
    | dK h t => exact .dK h (t.more s)
    | ins n h t => exact .ins n h (t.more s)⟩
noncomputable abbrev Sl := List (Option D)
noncomputable abbrev Hh := List O
noncomputable abbrev DK := D → Hh → Prop
noncomputable abbrev DE := Sl → Hh → DK → Prop
noncomputable abbrev DT := Sl → Hh → (Bool → Hh → Prop) → Prop
noncomputable abbrev DA := Sl → Hh → (List D → Hh → Prop) → Prop
noncomputable abbrev DX := Str → List (Str × Int) → Hh → Prop
structure DEnds where
  nx : Sl → Hh → Prop
  rt : DK
  bk : Sl → Hh → Prop := fun _ _ => False
  ct : Sl → Hh → Prop := fun _ _ => False
  ex : DX := fun _ _ _ => False
noncomputable abbrev DS := DEnds → Sl → Hh → Prop
noncomputable abbrev DG := D → Sl → Hh → (Sl → Hh → Prop) → Prop
noncomputable abbrev DGs := List D → Sl → Hh → (Sl → Hh → Prop) → Prop
structure RelS (K : KP) (α : List Addr) (H : Hp) (δ : Sl) (σ : St) : Prop where
  len : δ.length = σ.length
  get : ∀ (i : Nat) (d : D), δ[i]? = some (some d) → ∃ v, σ[i]? = some (some v) ∧ RelD K α H d v
theorem RelS.mono {K : KP} {α α' : List Addr} {H H' : Hp} {δ : Sl} {σ : St} (e : Ext α H α' H') (r : RelS K α H δ σ) : RelS K α' H' δ σ :=
  ⟨r.len, fun i d q => let ⟨v, h1, h2⟩ := r.get i d q; ⟨v, h1, h2.mono e⟩⟩
theorem RelS.set {K : KP} {α : List Addr} {H : Hp} {δ : Sl} {σ : St} {d : D} {v : V} (r : RelS K α H δ σ) (i : Nat) (h : RelD K α H d v) : RelS K α H (δ.set i (some d)) (σ.set i (some v)) := by
  refine ⟨by simp [r.len], fun j e q => ?_⟩
  by_cases z : i = j
  · subst z
    have hi : i < δ.length := by
      have := (List.getElem?_eq_some_iff.mp q).1
      simpa using this
    rw [List.getElem?_set_self hi] at q
    cases q
    exact ⟨v, List.getElem?_set_self (by rw [← r.len]; exact hi), h⟩
  · rw [List.getElem?_set_ne z] at q
    obtain ⟨w, h1, h2⟩ := r.get j e q
    exact ⟨w, by rw [List.getElem?_set_ne z]; exact h1, h2⟩
inductive LE (K : PySem.W.Frag) (f : DE) (σ : St) (H : Hp) (Q : VK) : Prop
  | mk (π : List Addr) (α : List Addr) (δ : Sl) (h : Hh) (Q' : DK) : HRel ⟨K, π⟩ α H h → RelS ⟨K, π⟩ α H δ σ → f δ h Q' → (∀ d h' α' H' v, Q' d h' → Ext α H α' H' → HRel ⟨K, π⟩ α' H' h' → RelD ⟨K, π⟩ α' H' d v → Q v H') → LE K f σ H Q
inductive LT (K : PySem.W.Frag) (f : DT) (σ : St) (H : Hp) (Q : Bool → Hp → Prop) : Prop
  | mk (π : List Addr) (α : List Addr) (δ : Sl) (h : Hh) (Q' : Bool → Hh → Prop) : HRel ⟨K, π⟩ α H h → RelS ⟨K, π⟩ α H δ σ → f δ h Q' → (∀ b h' α' H', Q' b h' → Ext α H α' H' → HRel ⟨K, π⟩ α' H' h' → Q b H') → LT K f σ H Q
inductive LA (K : PySem.W.Frag) (n : Nat) (f : DA) (σ : St) (H : Hp) (Q : List V → Hp → Prop) : Prop
  | mk (π : List Addr) (α : List Addr) (δ : Sl) (h : Hh) (Q' : List D → Hh → Prop) : HRel ⟨K, π⟩ α H h → RelS ⟨K, π⟩ α H δ σ → f δ h Q' → (∀ ds h' α' H' vs, Q' ds h' → Ext α H α' H' → HRel ⟨K, π⟩ α' H' h' → RelDs ⟨K, π⟩ α' H' ds vs → ds.length = n → Q vs H') → LA K n f σ H Q
structure EndsOk (K : KP) (Ex : XK) (α : List Addr) (H : Hp) (E : DEnds) (F : Ends) : Prop where
  nx : ∀ δ' h' α' H' σ', E.nx δ' h' → Ext α H α' H' → HRel K α' H' h' → RelS K α' H' δ' σ' → F.nx σ' H'
  rt : ∀ d h' α' H' v, E.rt d h' → Ext α H α' H' → HRel K α' H' h' → RelD K α' H' d v → F.rt v H'
  bk : ∀ δ' h' α' H' σ', E.bk δ' h' → Ext α H α' H' → HRel K α' H' h' → RelS K α' H' δ' σ' → F.bk σ' H'
  ct : ∀ δ' h' α' H' σ', E.ct δ' h' → Ext α H α' H' → HRel K α' H' h' → RelS K α' H' δ' σ' → F.ct σ' H'
  ex : ∀ cn fs h' α' H' C dx, E.ex cn fs h' → Ext α H α' H' → HRel K α' H' h' → PySem.W.nsIn K.K mainGlobals cn = some (some (.ref C)) → XQ K α' H' dx fs → Ex (.ref C) dx H'
theorem EndsOk.mono {K : KP} {Ex : XK} {α α' : List Addr} {H H' : Hp} {E : DEnds} {F : Ends} (x : EndsOk K Ex α H E F) (e : Ext α H α' H') : EndsOk K Ex α' H' E F :=
  ⟨fun _ _ _ _ _ a b c d => x.nx _ _ _ _ _ a (e.trans b) c d, fun _ _ _ _ _ a b c d => x.rt _ _ _ _ _ a (e.trans b) c d, fun _ _ _ _ _ a b c d => x.bk _ _ _ _ _ a (e.trans b) c d, fun _ _ _ _ _ a b c d => x.ct _ _ _ _ _ a (e.trans b) c d, fun _ _ _ _ _ _ _ a b c d => x.ex _ _ _ _ _ _ _ a (e.trans b) c d⟩
inductive LS (K : PySem.W.Frag) (Ex : XK) (f : DS) (F : Ends) (σ : St) (H : Hp) : Prop
  | mk (π : List Addr) (α : List Addr) (δ : Sl) (h : Hh) (E : DEnds) : HRel ⟨K, π⟩ α H h → RelS ⟨K, π⟩ α H δ σ → f E δ h → EndsOk ⟨K, π⟩ Ex α H E F → LS K Ex f F σ H
inductive LG (K : PySem.W.Frag) (f : DG) (v : V) (σ : St) (H : Hp) (Q : St → Hp → Prop) : Prop
  | mk (π : List Addr) (α : List Addr) (δ : Sl) (h : Hh) (d : D) (Q' : Sl → Hh → Prop) : HRel ⟨K, π⟩ α H h → RelS ⟨K, π⟩ α H δ σ → RelD ⟨K, π⟩ α H d v → f d δ h Q' → (∀ δ' h' α' H' σ', Q' δ' h' → Ext α H α' H' → HRel ⟨K, π⟩ α' H' h' → RelS ⟨K, π⟩ α' H' δ' σ' → Q σ' H') → LG K f v σ H Q
inductive LGs (K : PySem.W.Frag) (f : DGs) (vs : List V) (σ : St) (H : Hp) (Q : St → Hp → Prop) : Prop
  | mk (π : List Addr) (α : List Addr) (δ : Sl) (h : Hh) (ds : List D) (Q' : Sl → Hh → Prop) : HRel ⟨K, π⟩ α H h → RelS ⟨K, π⟩ α H δ σ → RelDs ⟨K, π⟩ α H ds vs → f ds δ h Q' → (∀ δ' h' α' H' σ', Q' δ' h' → Ext α H α' H' → HRel ⟨K, π⟩ α' H' h' → RelS ⟨K, π⟩ α' H' δ' σ' → Q σ' H') → LGs K f vs σ H Q
theorem HRel.under {K : PySem.W.Frag} {π α : List Addr} {H : Hp} {h : Hh} {p : Addr} {o : HO} (R : HRel ⟨K, π⟩ α H h) (hp : H p = none) : HRel ⟨K, p :: π⟩ α (upd H p o) h := by
  have s : ∀ q ∈ p :: π, q ∈ π ∨ H q = none := fun q hq => by
    rcases List.mem_cons.mp hq with rfl | z
    · exact .inr hp
    · exact .inl z
  refine ⟨R.len, R.nd, fun q hq => ?_, fun i ob e => ?_⟩
  · rcases List.mem_cons.mp hq with rfl | z
    · exact ⟨R.out hp, by rw [upd_same]; exact fun z => nomatch z⟩
    · exact ⟨(R.dis q z).1, fun w => (R.dis q z).2 ((Ext.new (α := α) hp).dom q w)⟩
  · obtain ⟨a, ea, r⟩ := R.obj i ob e
    refine ⟨a, ea, ?_⟩
    have k : upd H p o a = H a := upd_ne fun z => R.out hp (z ▸ List.mem_of_getElem? ea)
    have e2 : Ext α H α (upd H p o) := Ext.new hp
    cases r with
    | lst h t => exact .lst (k.trans h) ((t.more s).mono e2)
    | dT h t => exact .dT (k.trans h) ((t.more s).mono e2)
    | dK h t => exact .dK (k.trans h) ((t.more s).mono e2)
    | ins n h t => exact .ins n (k.trans h) ((t.more s).mono e2)
theorem HRel.less {K : PySem.W.Frag} {π α : List Addr} {H : Hp} {h : Hh} {p : Addr} (R : HRel ⟨K, p :: π⟩ α H h) : HRel ⟨K, π⟩ α H h :=
  R.more (fun q hq => .inl (List.mem_cons_of_mem _ hq)) fun q hq => R.dis q (List.mem_cons_of_mem _ hq)
theorem RelS.more {K : PySem.W.Frag} {π π' α : List Addr} {H : Hp} {δ : Sl} {σ : L2.St} (s : ∀ p ∈ π', p ∈ π ∨ H p = none) (S : RelS ⟨K, π⟩ α H δ σ) : RelS ⟨K, π'⟩ α H δ σ :=
  ⟨S.len, fun i d q => let ⟨v, a, b⟩ := S.get i d q; ⟨v, a, b.more s⟩⟩
theorem RelS.priv {K : KP} {α : List Addr} {H H' : Hp} {δ : Sl} {σ : L2.St} {D' : Addr} (e : Priv D' H H') (hD : D' ∈ K.π) (S : RelS K α H δ σ) : RelS K α H' δ σ :=
  ⟨S.len, fun i d q => let ⟨v, a, b⟩ := S.get i d q; ⟨v, a, b.priv e hD⟩⟩
theorem Ext.grow {α α' : List Addr} {H H' : Hp} {p : Addr} {o : HO} (e : Ext α H α' H') (hp : H p = none) : Ext α H α' (upd H' p o) :=
  ⟨e.pre, fun b u q n => by rw [upd_ne (ne_of_none q hp)]; exact e.keep b u q n, fun b q => by
    by_cases z : b = p
    · subst z; exact hp
    · rw [upd_ne z] at q; exact e.dom b q⟩
theorem VT.adopt {K : PySem.W.Frag} {π α : List Addr} {H : Hp} {p a : Addr} {us : List V} (h : VT ⟨K, p :: π⟩ α H a us) : VT ⟨K, π⟩ (α ++ [p]) H a us :=
  ⟨fun z => (List.mem_append.mp z).elim h.1 fun z => h.2.1 (by rw [List.mem_singleton.mp z]; exact List.mem_cons_self), fun z => h.2.1 (List.mem_cons_of_mem _ z), h.2.2⟩
theorem VS.adopt {K : PySem.W.Frag} {π α : List Addr} {H : Hp} {p a : Addr} {us : List V} (h : VS ⟨K, p :: π⟩ α H a us) : VS ⟨K, π⟩ (α ++ [p]) H a us := by
  rcases h with ⟨n, m, h⟩ | h
  · refine .inl ⟨fun z => ?_, fun z => m (List.mem_cons_of_mem _ z), h⟩
    rcases List.mem_append.mp z with z | z
    · exact n z
    · exact m (by rw [List.mem_singleton.mp z]; exact List.mem_cons_self)
  · exact .inr h
theorem VL.adopt {K : PySem.W.Frag} {π α : List Addr} {H : Hp} {p a : Addr} {us : List V} (h : VL ⟨K, p :: π⟩ α H a us) : VL ⟨K, π⟩ (α ++ [p]) H a us :=
  ⟨fun z => (List.mem_append.mp z).elim h.1 fun z => h.2.1 (by rw [List.mem_singleton.mp z]; exact List.mem_cons_self), fun z => h.2.1 (List.mem_cons_of_mem _ z), h.2.2⟩
theorem VE.adopt {K : PySem.W.Frag} {π α : List Addr} {H : Hp} {p a : Addr} {u : HO} (h : VE ⟨K, p :: π⟩ α H a u) : VE ⟨K, π⟩ (α ++ [p]) H a u :=
  ⟨fun z => (List.mem_append.mp z).elim h.1 fun z => h.2.1 (by rw [List.mem_singleton.mp z]; exact List.mem_cons_self), fun z => h.2.1 (List.mem_cons_of_mem _ z), h.2.2⟩
theorem get_app {α : List Addr} {p a : Addr} {i : Nat} (h : α[i]? = some a) : (α ++ [p])[i]? = some a := by
  rw [List.getElem?_append_left (List.getElem?_eq_some_iff.mp h).1]; exact h
theorem RelD.adopt {K : PySem.W.Frag} {π α : List Addr} {H : Hp} {p : Addr} {d : D} {v : V} (r : RelD ⟨K, p :: π⟩ α H d v) : RelD ⟨K, π⟩ (α ++ [p]) H d v := r.map (K := ⟨K, p :: π⟩) (K' := ⟨K, π⟩) (α' := α ++ [p]) (H' := H) rfl (fun _ _ t => t.adopt) (fun _ _ t => t.adopt) (fun _ _ t => t.adopt) (fun _ _ t => t.adopt) (fun _ _ h => get_app h)
theorem RelDs.adopt {K : PySem.W.Frag} {π α : List Addr} {H : Hp} {p : Addr} {ds : List D} {us : List V} (r : RelDs ⟨K, p :: π⟩ α H ds us) : RelDs ⟨K, π⟩ (α ++ [p]) H ds us := r.map (K := ⟨K, p :: π⟩) (K' := ⟨K, π⟩) (α' := α ++ [p]) (H' := H) rfl (fun _ _ t => t.adopt) (fun _ _ t => t.adopt) (fun _ _ t => t.adopt) (fun _ _ t => t.adopt) (fun _ _ h => get_app h)
theorem RelKV.adopt {K : PySem.W.Frag} {π α : List Addr} {H : Hp} {p : Addr} {κ : Type} {ds : List (κ × D)} {us : List (κ × V)} (r : RelKV ⟨K, p :: π⟩ α H ds us) : RelKV ⟨K, π⟩ (α ++ [p]) H ds us := by
  induction r with
  | nil => exact .nil
  | cons h t ih => exact .cons h.adopt ih
theorem HRel.adopt {K : PySem.W.Frag} {π α : List Addr} {H : Hp} {h : Hh} {p : Addr} {u : O} (R : HRel ⟨K, p :: π⟩ α H h) (np : p ∉ π) (r : RelO' ⟨K, π⟩ (α ++ [p]) H p u) : HRel ⟨K, π⟩ (α ++ [p]) H (h ++ [u]) := by
  have hp := R.dis p List.mem_cons_self
  refine ⟨by simp [R.len], ?_, fun q hq => ⟨fun z => ?_, (R.dis q (List.mem_cons_of_mem _ hq)).2⟩, fun i v q => ?_⟩
  · rw [List.nodup_append]
    exact ⟨R.nd, by simp, fun a ha b hb => by rw [List.mem_singleton.mp hb]; exact fun z => hp.1 (z ▸ ha)⟩
  · rcases List.mem_append.mp z with z | z
    · exact (R.dis q (List.mem_cons_of_mem _ hq)).1 z
    · rw [List.mem_singleton.mp z] at hq; exact np hq
  · by_cases hi : i < h.length
    · rw [List.getElem?_append_left hi] at q
      obtain ⟨a, ea, ra⟩ := R.obj i v q
      refine ⟨a, get_app ea, ?_⟩
      cases ra with
      | lst h t => exact .lst h t.adopt
      | dT h t => exact .dT h t.adopt
      | dK h t => exact .dK h t.adopt
      | ins n h t => exact .ins n h t.adopt
    · have hi' : i = h.length := by
        have := (List.getElem?_eq_some_iff.mp q).1
        rw [List.length_append, List.length_singleton] at this; omega
      subst hi'
      rw [List.getElem?_append_right (Nat.le_refl _)] at q
      simp at q; subst q
      exact ⟨p, by rw [List.getElem?_append_right (by rw [R.len]; exact Nat.le_refl _), R.len]; simp, r⟩
theorem Ext.adopt {α α' : List Addr} {H H' : Hp} {p : Addr} (e : Ext α H α' H') (hp : H p = none) : Ext α H (α' ++ [p]) H' := by
  refine ⟨?_, e.keep, e.dom⟩
  obtain ⟨⟨β, rfl, hb⟩, _⟩ := e
  exact ⟨β ++ [p], by simp, fun q hq => by
    rcases List.mem_append.mp hq with z | z
    · exact hb q z
    · rw [List.mem_singleton.mp z]; exact hp⟩
section
variable (X : Cx)
noncomputable def SE (e : Expr) (f : DE) : Prop := PE X e (LE X.K f)
noncomputable def ST (e : Expr) (f : DT) : Prop := PT X e (LT X.K f)
noncomputable def SW (e : Expr) (f : DT) : Prop := PW X e (LT X.K f)
noncomputable def SA (es : List Expr) (n : Nat) (f : DA) : Prop := PA X es (LA X.K n f)
noncomputable def SS (s : Stmt) (f : DS) : Prop := PS X s (LS X.K X.ex9 f)
noncomputable def SSs (ss : List Stmt) (f : DS) : Prop := PSs X ss (LS X.K X.ex9 f)
noncomputable def SG (t : Expr) (f : DG) : Prop := PG X t (LG X.K f)
noncomputable def SGs (ts : List Expr) (f : DGs) : Prop := PGs X ts (LGs X.K f)
end
section
variable {X : Cx}
theorem PE.imp {e : Expr} {t t' : TE} (h : PE X e t) (k : ∀ σ H Q, t' σ H Q → t σ H Q) : PE X e t' := fun pins s σ H Q I q => h pins s σ H Q I (k σ H Q q)
theorem PT.imp {e : Expr} {t t' : TT} (h : PT X e t) (k : ∀ σ H Q, t' σ H Q → t σ H Q) : PT X e t' := fun pins s σ H Q I q => h pins s σ H Q I (k σ H Q q)
theorem PW.imp {e : Expr} {t t' : TT} (h : PW X e t) (k : ∀ σ H Q, t' σ H Q → t σ H Q) : PW X e t' := fun wh pins s σ H Q I q => h wh pins s σ H Q I (k σ H Q q)
theorem PA.imp {es : List Expr} {t t' : TA} (h : PA X es t) (k : ∀ σ H Q, t' σ H Q → t σ H Q) : PA X es t' := fun pos pins s σ H Q I q => h pos pins s σ H Q I (k σ H Q q)
theorem PS.imp {e : Stmt} {t t' : TS} (h : PS X e t) (k : ∀ F σ H, t' F σ H → t F σ H) : PS X e t' := fun pins s σ H F I q => h pins s σ H F I (k F σ H q)
theorem PSs.imp {e : List Stmt} {t t' : TS} (h : PSs X e t) (k : ∀ F σ H, t' F σ H → t F σ H) : PSs X e t' := fun pins s σ H F I q => h pins s σ H F I (k F σ H q)
theorem PG.imp {e : Expr} {t t' : TG} (h : PG X e t) (k : ∀ v σ H Q, t' v σ H Q → t v σ H Q) : PG X e t' := fun pins s σ H v u Q I r q => h pins s σ H v u Q I r (k v σ H Q q)
theorem PGs.imp {e : List Expr} {t t' : TGs} (h : PGs X e t) (k : ∀ v σ H Q, t' v σ H Q → t v σ H Q) : PGs X e t' := fun pins s σ H v u Q I r q => h pins s σ H v u Q I r (k v σ H Q q)
end
end DL
namespace DL
open PySem PySem.Spec L2
noncomputable def dVar (i : Nat) : DE := fun δ h Q => match δ[i]? with | some (some d) => Q d h | _ => False
noncomputable def dC (d : D) : DE := fun _ h Q => Q d h
noncomputable abbrev P1 := D → Hh → DK → Prop
noncomputable abbrev P2 := D → D → Hh → DK → Prop
noncomputable abbrev PN := List D → Hh → DK → Prop
noncomputable def dUn (p : P1) (a : DE) : DE := fun δ h Q => a δ h fun x h1 => p x h1 Q
noncomputable def dOp (p : P2) (a b : DE) : DE := fun δ h Q => a δ h fun x h1 => b δ h1 fun y h2 => p x y h2 Q
inductive r1 (K : PySem.W.Frag) (p : P1) (x : V) (H : Hp) (Q : VK) : Prop
  | mk (π : List Addr) (α : List Addr) (h : Hh) (d : D) (Q' : DK) : HRel ⟨K, π⟩ α H h → RelD ⟨K, π⟩ α H d x → p d h Q' → (∀ d h' α' H' v, Q' d h' → Ext α H α' H' → HRel ⟨K, π⟩ α' H' h' → RelD ⟨K, π⟩ α' H' d v → Q v H') → r1 K p x H Q
inductive r2 (K : PySem.W.Frag) (p : P2) (x y : V) (H : Hp) (Q : VK) : Prop
  | mk (π : List Addr) (α : List Addr) (h : Hh) (d e : D) (Q' : DK) : HRel ⟨K, π⟩ α H h → RelD ⟨K, π⟩ α H d x → RelD ⟨K, π⟩ α H e y → p d e h Q' → (∀ d h' α' H' v, Q' d h' → Ext α H α' H' → HRel ⟨K, π⟩ α' H' h' → RelD ⟨K, π⟩ α' H' d v → Q v H') → r2 K p x y H Q
inductive rN (K : PySem.W.Frag) (p : PN) (xs : List V) (H : Hp) (Q : VK) : Prop
  | mk (π : List Addr) (α : List Addr) (h : Hh) (ds : List D) (Q' : DK) : HRel ⟨K, π⟩ α H h → RelDs ⟨K, π⟩ α H ds xs → p ds h Q' → (∀ d h' α' H' v, Q' d h' → Ext α H α' H' → HRel ⟨K, π⟩ α' H' h' → RelD ⟨K, π⟩ α' H' d v → Q v H') → rN K p xs H Q
section
variable {K : PySem.W.Frag} {σ : L2.St} {H : Hp} {Q : VK}
theorem un_lift {p : P1} {fa : DE} (g : LE K (dUn p fa) σ H Q) : LE K fa σ H fun x H1 => r1 K p x H1 Q := by
  obtain ⟨π, α, δ, h, Q', R, S, f, k⟩ := g
  exact ⟨π, α, δ, h, _, R, S, f, fun x h1 α1 H1 v1 f1 e1 R1 q1 => ⟨π, α1, h1, x, Q', R1, q1, f1, fun d h' α' H' v a b c d' => k d h' α' H' v a (e1.trans b) c d'⟩⟩
theorem op_lift {p : P2} {fa fb : DE} (g : LE K (dOp p fa fb) σ H Q) : LE K fa σ H fun x H1 => LE K fb σ H1 fun y H2 => r2 K p x y H2 Q := by
  obtain ⟨π, α, δ, h, Q', R, S, f, k⟩ := g
  refine ⟨π, α, δ, h, _, R, S, f, fun x h1 α1 H1 v1 f1 e1 R1 q1 => ?_⟩
  refine ⟨π, α1, δ, h1, _, R1, S.mono e1, f1, fun y h2 α2 H2 v2 f2 e2 R2 q2 => ?_⟩
  exact ⟨π, α2, h2, x, y, Q', R2, q1.mono e2, q2, f2, fun d h' α' H' v a b c d' => k d h' α' H' v a (e1.trans (e2.trans b)) c d'⟩
end
theorem OpR.imp {X : Cx} {f : Value → Value → Sem Value} {r r' : R2} (h : OpR X f r) (k : ∀ x y H Q, r' x y H Q → r x y H Q) : OpR X f r' := fun pins s σ H x y v u Q I rx ry q => h pins s σ H x y v u Q I rx ry (k x y H Q q)
theorem UnR.imp {X : Cx} {f : Value → Sem Value} {r r' : V → Hp → VK → Prop} (h : UnR X f r) (k : ∀ x H Q, r' x H Q → r x H Q) : UnR X f r' := fun pins s σ H x v Q I rx q => h pins s σ H x v Q I rx (k x H Q q)
theorem IxR.imp {X : Cx} {r r' : R2} (h : IxR X r) (k : ∀ x y H Q, r' x y H Q → r x y H Q) : IxR X r' := fun va sl pins s σ H x y v u Q I rx ry q => h va sl pins s σ H x y v u Q I rx ry (k x y H Q q)
theorem CallR.imp {X : Cx} {f : Value} {r r' : List V → Hp → VK → Prop} (h : CallR X f r) (k : ∀ x H Q, r' x H Q → r x H Q) : CallR X f r' := fun pins s σ H xs us Q I rx q => h pins s σ H xs us Q I rx (k xs H Q q)
noncomputable def lsOf (h : Hh) : D → Option (List D)
  | .lst xs => some xs
  | .scr xs => some xs
  | .ref i => match h[i]? with | some (.lst xs) => some xs | _ => none
  | _ => none
section
variable {K : KP} {α : List Addr} {H : Hp} {h : Hh}
theorem lsOf_sq (R : HRel K α H h) : ∀ {d : D} {v : V} {xs : List D}, RelD K α H d v → lsOf h d = some xs → ∃ p us, v = .ref p ∧ SqL K.K H p us ∧ RelDs K α H xs us
  | _, _, _, .lst t r, e => by cases e; exact ⟨_, _, rfl, t.sq, r⟩
  | _, _, _, .scr t r, e => by cases e; exact ⟨_, _, rfl, t.sq, r⟩
  | _, _, xs, .ref (i := i) hp, e => by
    have e : (match h[i]? with | some (.lst xs) => some xs | _ => none) = some xs := e
    cases q : h[i]? with
    | none => rw [q] at e; cases e
    | some o =>
      rw [q] at e
      cases o with
      | lst ys =>
        cases e
        obtain ⟨p, us, e1, e2, e3⟩ := R.lst q
        rw [hp] at e1; cases e1
        exact ⟨_, us, rfl, SqL.of e2, e3⟩
      | _ => cases e
  | _, _, _, .non, e => nomatch e
  | _, _, _, .bl _, e => nomatch e
  | _, _, _, .int _, e => nomatch e
  | _, _, _, .str _, e => nomatch e
  | _, _, _, .tup _ _, e => nomatch e
theorem tup_sq {d : List D} {v : V} (r : RelD K α H (.tup d) v) : ∃ p us, v = .ref p ∧ SqT K.K H p us ∧ RelDs K α H d us := by
  cases r with
  | tup t r => exact ⟨_, _, rfl, t.sq, r⟩
end
section
variable {X : Cx} {a b c e : Expr} {fa fb fc : DE} {pos : Pos}
theorem sv (i : Nat) {x : Str} {pos : Pos} (hN : X.N[i]? = some x := by rfl) (hv : Vis X.env.scope x := by trivial) (hd : (x == ("__debug__" : Str)) = false := by decide)
    (hcd : (x == ("__classdict__" : Str)) = false := by decide) : SE X (.Name x pos) (dVar i) := PE.imp (pe_var hN hv hd hcd) fun σ H Q ⟨π, α, δ, h, Q', R, S, f, k⟩ => by
  unfold dVar at f
  split at f
  · rename_i d e
    obtain ⟨v, h1, h2⟩ := S.get i d e
    exact ⟨v, h1, k d h α H v f (Ext.refl ..) R h2⟩
  · exact f.elim
theorem sc_lift {v : V} {d : D} (r : ∀ π α H, RelD ⟨X.K, π⟩ α H d v) (h : PE X e (tC v)) : SE X e (dC d) := PE.imp h fun σ H Q ⟨π, α, δ, h, Q', R, S, f, k⟩ => k d h α H v f (Ext.refl ..) R (r π α H)
theorem se_int {i j pos} : SE X (.Constant (.int i) j pos) (dC (.int i)) := sc_lift (fun _ _ _ => .int i) pe_int
theorem se_bl {i j pos} : SE X (.Constant (.bool i) j pos) (dC (.bl i)) := sc_lift (fun _ _ _ => .bl i) pe_bl
theorem se_non {j pos} : SE X (.Constant .none j pos) (dC .non) := sc_lift (fun _ _ _ => .non) pe_non
theorem se_str {i j pos} : SE X (.Constant (.str i) j pos) (dC (.str i)) := sc_lift (fun _ _ _ => .str i) pe_str
theorem se_globI {x : Str} {i : Int} (hg : Gl X x) (hm : ∃ t, X.mg x = some (.int i t)) (hd : (x == ("__debug__" : Str)) = false := by decide) : SE X (.Name x pos) (dC (.int i)) := by
  obtain ⟨t, hm⟩ := hm
  exact sc_lift (fun _ _ _ => .int i) (pe_glob hg hm ⟨t, rfl⟩ hd)
theorem se_op {op : Operator} {p : P2} (ho : OpR X (binaryOp op) (r2 X.K p)) (ha : SE X a fa) (hb : SE X b fb) : SE X (.BinOp a op b pos) (dOp p fa fb) := PE.imp (pe_op ho ha hb) fun _ _ _ g => op_lift g
theorem se_un {op : UnaryOp} {p : P1} (ho : UnR X (unaryOp op) (r1 X.K p)) (ha : SE X a fa) : SE X (.UnaryOp op a pos) (dUn p fa) := PE.imp (pe_un ho ha) fun _ _ _ g => un_lift g
theorem se_ix {p : P2} (ho : IxR X (r2 X.K p)) (ha : SE X a fa) (hb : SE X b fb) (hs : PlainIx b) : SE X (.Subscript a b pos) (dOp p fa fb) := PE.imp (pe_ix ho ha hb hs) fun _ _ _ g => op_lift g
theorem se_cmp {op : CmpOp} {p : P2} (ho : OpR X (compareOp op) (r2 X.K p)) (ha : SE X a fa) (hb : SE X b fb) (hm : behindInMarks op b = false) : SE X (.Compare a [op] [b] pos) (dOp p fa fb) := PE.imp (pe_cmpR ho ha hb hm) fun _ _ _ g => op_lift g
noncomputable def dTst (f : DE) : DT := fun δ h Q => f δ h fun d h' => match d with | .bl b => Q b h' | _ => False
theorem tst_lift {K : PySem.W.Frag} {f : DE} {σ : L2.St} {H : Hp} {Q : Bool → Hp → Prop} (g : LT K (dTst f) σ H Q) : LE K f σ H fun x H' => ∃ k, x = .bl k ∧ Q k H' := by
  obtain ⟨π, α, δ, h, Q', R, S, f, k⟩ := g
  refine ⟨π, α, δ, h, _, R, S, f, fun d h1 α1 H1 v1 f1 e1 R1 q1 => ?_⟩
  cases q1 with
  | bl b => exact ⟨b, rfl, k b h1 α1 H1 f1 e1 R1⟩
  | _ => exact f1.elim
theorem st_cmp {op : CmpOp} {p : P2} (ho : OpR X (compareOp op) (r2 X.K p)) (ha : SE X a fa) (hb : SE X b fb) (hm : behindInMarks op b = false) : ST X (.Compare a [op] [b] pos) (dTst (dOp p fa fb)) := PT.imp (pt_cmpR ho ha hb hm) fun _ _ _ g => by
  obtain ⟨π, α, δ, h, Q', R, S, f, k⟩ := tst_lift g
  exact op_lift (Q := fun x H' => ∃ k, x = .bl k ∧ _) ⟨π, α, δ, h, Q', R, S, f, k⟩
noncomputable def dChain (p q : P2) (a b c : DE) : DE := fun δ h Q => a δ h fun x h1 => b δ h1 fun y h2 => p x y h2 fun z h3 => match z with
  | .bl k => if k = true then c δ h3 fun w h4 => q y w h4 Q else Q (.bl false) h3
  | _ => False
theorem chain_lift {K : PySem.W.Frag} {p q : P2} {σ : L2.St} {H : Hp} {Q : VK} (g : LE K (dChain p q fa fb fc) σ H Q) : tChain (r2 K p) (r2 K q) (LE K fa) (LE K fb) (LE K fc) σ H Q := by
  obtain ⟨π, α, δ, h, Q', R, S, f, k⟩ := g
  refine ⟨π, α, δ, h, _, R, S, f, fun x h1 α1 H1 v1 f1 e1 R1 q1 => ?_⟩
  refine ⟨π, α1, δ, h1, _, R1, S.mono e1, f1, fun y h2 α2 H2 v2 f2 e2 R2 q2 => ?_⟩
  refine ⟨π, α2, h2, x, y, _, R2, q1.mono e2, q2, f2, fun z h3 α3 H3 v3 f3 e3 R3 q3 => ?_⟩
  cases q3 with
  | bl b =>
    refine ⟨b, rfl, ?_⟩
    cases b with
    | false => exact iteF (k _ _ _ _ _ (by simpa using f3) (e1.trans (e2.trans e3)) R3 (.bl false))
    | true =>
      have f3 : fc δ h3 fun w h4 => q y w h4 Q' := by simpa using f3
      refine iteT ⟨π, α3, δ, h3, _, R3, S.mono (e1.trans (e2.trans e3)), f3, fun w h4 α4 H4 v4 f4 e4 R4 q4 => ?_⟩
      exact ⟨π, α4, h4, y, w, Q', R4, q2.mono (e3.trans e4), q4, f4, fun d h' α' H' v a b c d' => k d h' α' H' v a (e1.trans (e2.trans (e3.trans (e4.trans b)))) c d'⟩
  | _ => exact f3.elim
theorem se_chain {op op' : CmpOp} {p q : P2} (ho : OpR X (compareOp op) (r2 X.K p)) (ho' : OpR X (compareOp op') (r2 X.K q)) (ha : SE X a fa) (hb : SE X b fb) (hc : SE X c fc)
    (hm : lastMarks [op, op'] [b, c] = false := by with_unfolding_all rfl) : SE X (.Compare a [op, op'] [b, c] pos) (dChain p q fa fb fc) := PE.imp (pe_chain ho ho' ha hb hc hm) fun _ _ _ g => chain_lift g
theorem st_chain {op op' : CmpOp} {p q : P2} (ho : OpR X (compareOp op) (r2 X.K p)) (ho' : OpR X (compareOp op') (r2 X.K q)) (ha : SE X a fa) (hb : SE X b fb) (hc : SE X c fc)
    (hm : lastMarks [op, op'] [b, c] = false := by with_unfolding_all rfl) : ST X (.Compare a [op, op'] [b, c] pos) (dTst (dChain p q fa fb fc)) := PT.imp (pt_chain ho ho' ha hb hc hm) fun _ _ _ g => by
  obtain ⟨π, α, δ, h, Q', R, S, f, k⟩ := tst_lift g
  exact chain_lift (Q := fun x H' => ∃ k, x = .bl k ∧ _) ⟨π, α, δ, h, Q', R, S, f, k⟩
noncomputable def trD (h : Hh) : D → Option Bool
  | .non => some false
  | .bl b => some b
  | .int i => some (i != 0)
  | .str x => if x.length ≤ 16777216 then some ((x.length : Int) != 0) else none
  | .tup xs => some (!xs.isEmpty)
  | .lst xs => some (!xs.isEmpty)
  | .scr xs => some (!xs.isEmpty)
  | .ref i => match h[i]? with | some (.lst xs) => some (!xs.isEmpty) | _ => none
  | .exc _ _ => none
noncomputable def dTr (f : DE) : DT := fun δ h Q => f δ h fun d h' => match trD h' d with | some b => Q b h' | none => False
theorem isEmpty_rel {K : KP} {α : List Addr} {H : Hp} {ds : List D} {us : List V} (r : RelDs K α H ds us) : ds.isEmpty = us.isEmpty := by cases r <;> rfl
theorem tr_ok {K : KP} {α : List Addr} {H : Hp} {h : Hh} (R : HRel K α H h) {d : D} {v : V} {k : Bool} (r : RelD K α H d v) (e : trD h d = some k) : TruV K.K v H k := by
  cases r with
  | non => cases e; exact rfl
  | bl b => cases e; exact rfl
  | int i => cases e; exact rfl
  | str x =>
    have e : (if x.length ≤ 16777216 then some ((x.length : Int) != 0) else none) = some k := e
    split at e
    · rename_i hl
      cases e
      exact ⟨by rw [sizeLine_eq]; exact hl, rfl⟩
    · cases e
  | tup t r => cases e; exact .inr (.inl ⟨_, t.sq, by rw [isEmpty_rel r]⟩)
  | lst t r => cases e; exact .inl ⟨_, t.sq, by rw [isEmpty_rel r]⟩
  | scr t r => cases e; exact .inl ⟨_, t.sq, by rw [isEmpty_rel r]⟩
  | exc _ _ _ => cases e
  | @ref i a hp =>
    have e : (match h[i]? with | some (.lst xs) => some (!xs.isEmpty) | _ => none) = some k := e
    cases q : h[i]? with
    | none => rw [q] at e; cases e
    | some o =>
      rw [q] at e
      cases o with
      | lst ys =>
        cases e
        obtain ⟨p, us, e1, e2, e3⟩ := R.lst q
        rw [hp] at e1; cases e1
        exact .inl ⟨us, SqL.of e2, by rw [isEmpty_rel e3]⟩
      | _ => cases e
theorem st_truth (ha : SE X a fa) (he : ∀ whole, isTrue a X.env whole = (do let v ← whole; standAt a.pos; holding [v] (truthy v)) := by intro _; rfl) : ST X a (dTr fa) := PT.imp (pt_truth ha he) fun σ H Q zz0 => by
  obtain ⟨π, α, δ, h, Q', R, S, f, k⟩ := zz0
  refine ⟨π, α, δ, h, _, R, S, f, fun d h1 α1 H1 v1 f1 e1 R1 q1 => ?_⟩
  cases q : trD h1 d with
  | none => rw [q] at f1; exact f1.elim
  | some b => rw [q] at f1; exact ⟨b, tr_ok R1 q1 q, k b h1 α1 H1 f1 e1 R1⟩
noncomputable def dAnd (t u : DT) : DT := fun δ h Q => t δ h fun c h1 => if c = true then u δ h1 Q else Q false h1
noncomputable def dOr (t u : DT) : DT := fun δ h Q => t δ h fun c h1 => if c = true then Q true h1 else u δ h1 Q
noncomputable def dNot (t : DT) : DT := fun δ h Q => t δ h fun c h1 => Q (!c) h1
variable {ga gb : DT} {rest : List Expr}
theorem sw_and1 (ha : ST X a ga) : SW X (.BoolOp .And [a] pos) ga := pw_and1 ha
theorem sw_or1 (ha : ST X a ga) : SW X (.BoolOp .Or [a] pos) ga := pw_or1 ha
theorem sw_and (ha : ST X a ga) (hb : SW X (.BoolOp .And (b :: rest) pos) gb) : SW X (.BoolOp .And (a :: b :: rest) pos) (dAnd ga gb) := PW.imp (pw_and ha hb) fun σ H Q zz0 => by
  obtain ⟨π, α, δ, h, Q', R, S, f, k⟩ := zz0
  refine ⟨π, α, δ, h, _, R, S, f, fun c h1 α1 H1 f1 e1 R1 => ?_⟩
  cases c with
  | true => exact iteT ⟨π, α1, δ, h1, Q', R1, S.mono e1, by simpa using f1, fun b h' α' H' a e c => k b h' α' H' a (e1.trans e) c⟩
  | false => exact iteF (k false h1 α1 H1 (by simpa using f1) e1 R1)
theorem sw_or (ha : ST X a ga) (hb : SW X (.BoolOp .Or (b :: rest) pos) gb) : SW X (.BoolOp .Or (a :: b :: rest) pos) (dOr ga gb) := PW.imp (pw_or ha hb) fun σ H Q zz0 => by
  obtain ⟨π, α, δ, h, Q', R, S, f, k⟩ := zz0
  refine ⟨π, α, δ, h, _, R, S, f, fun c h1 α1 H1 f1 e1 R1 => ?_⟩
  cases c with
  | true => exact iteT (k true h1 α1 H1 (by simpa using f1) e1 R1)
  | false => exact iteF ⟨π, α1, δ, h1, Q', R1, S.mono e1, by simpa using f1, fun b h' α' H' a e c => k b h' α' H' a (e1.trans e) c⟩
theorem st_w (h : SW X e ga) : ST X e ga := PW.pt h
theorem st_not (ha : ST X a ga) : ST X (.UnaryOp .Not a pos) (dNot ga) := PT.imp (pt_not ha) fun σ H Q ⟨π, α, δ, h, Q', R, S, f, k⟩ => ⟨π, α, δ, h, _, R, S, f, fun c h1 α1 H1 f1 e1 R1 => k (!c) h1 α1 H1 f1 e1 R1⟩
noncomputable def dAndV (a b : DE) : DE := fun δ h Q => a δ h fun x h1 => match x with | .bl k => if k = true then b δ h1 Q else Q (.bl false) h1 | _ => False
noncomputable def dOrV (a b : DE) : DE := fun δ h Q => a δ h fun x h1 => match x with | .bl k => if k = true then Q (.bl true) h1 else b δ h1 Q | _ => False
noncomputable def dNotV (a : DE) : DE := fun δ h Q => a δ h fun x h1 => match x with | .bl b => Q (.bl (!b)) h1 | _ => False
theorem se_one {op} (h : SE X a fa) : SE X (.BoolOp op [a] pos) fa := pe_one h
theorem se_and (ha : SE X a fa) (hb : SE X (.BoolOp .And (b :: rest) pos) fb) : SE X (.BoolOp .And (a :: b :: rest) pos) (dAndV fa fb) := PE.imp (pe_and ha hb) fun σ H Q zz0 => by
  obtain ⟨π, α, δ, h, Q', R, S, f, k⟩ := zz0
  refine ⟨π, α, δ, h, _, R, S, f, fun x h1 α1 H1 v1 f1 e1 R1 q1 => ?_⟩
  cases q1 with
  | bl c =>
    refine ⟨c, rfl, ?_⟩
    cases c with
    | true => exact iteT ⟨π, α1, δ, h1, Q', R1, S.mono e1, by simpa using f1, fun d h' α' H' v a e c d' => k d h' α' H' v a (e1.trans e) c d'⟩
    | false => exact iteF (k _ h1 α1 H1 _ (by simpa using f1) e1 R1 (.bl false))
  | _ => exact f1.elim
theorem se_not (ha : SE X a fa) : SE X (.UnaryOp .Not a pos) (dNotV fa) := PE.imp (pe_not ha) fun σ H Q zz0 => by
  obtain ⟨π, α, δ, h, Q', R, S, f, k⟩ := zz0
  refine ⟨π, α, δ, h, _, R, S, f, fun x h1 α1 H1 v1 f1 e1 R1 q1 => ?_⟩
  cases q1 with
  | bl c => exact ⟨c, rfl, k _ h1 α1 H1 _ f1 e1 R1 (.bl (!c))⟩
  | _ => exact f1.elim
noncomputable def dIf (t : DT) (a b : DE) : DE := fun δ h Q => t δ h fun c h1 => if c = true then a δ h1 Q else b δ h1 Q
noncomputable def dNil : DA := fun _ h Q => Q [] h
noncomputable def dCons (a : DE) (r : DA) : DA := fun δ h Q => a δ h fun x h1 => r δ h1 fun xs h2 => Q (x :: xs) h2
variable {es : List Expr} {n : Nat} {fs : DA}
theorem sa_nil : SA X [] 0 dNil := PA.imp pa_nil fun σ H Q ⟨π, α, δ, h, Q', R, S, f, k⟩ => k [] h α H [] f (Ext.refl ..) R .nil rfl
theorem sa_cons (ha : SE X e fa) (hr : SA X es n fs) (hs : starEach (e :: es) X.env = (false, eval e X.env) :: starEach es X.env := by rfl) : SA X (e :: es) (n + 1) (dCons fa fs) := PA.imp (pa_cons ha hr hs) fun σ H Q zz0 => by
  obtain ⟨π, α, δ, h, Q', R, S, f, k⟩ := zz0
  refine ⟨π, α, δ, h, _, R, S, f, fun x h1 α1 H1 v1 f1 e1 R1 q1 => ?_⟩
  refine ⟨π, α1, δ, h1, _, R1, S.mono e1, f1, fun ds h2 α2 H2 vs f2 e2 R2 q2 l2 => ?_⟩
  exact k (x :: ds) h2 α2 H2 (v1 :: vs) f2 (e1.trans e2) R2 (.cons (q1.mono e2) q2) (by rw [List.length_cons, l2])
noncomputable def dTup (f : DA) : DE := fun δ h Q => f δ h fun ds h1 => Q (.tup ds) h1
theorem se_tup {x1} (hf : SA X es n fs) (hn : n ≤ sizeLine := by decide) : SE X (.Tuple es x1 pos) (dTup fs) := PE.imp (pe_tup hf) fun σ H Q zz0 => by
  obtain ⟨π, α, δ, h, Q', R, S, f, k⟩ := zz0
  refine ⟨π, α, δ, h, _, R, S, f, fun ds h1 α1 H1 vs f1 e1 R1 q1 l1 => ⟨by rw [← q1.length, l1]; exact hn, fun p hp => ?_⟩⟩
  have e2 : Ext α1 H1 α1 (upd H1 p (.tup vs)) := Ext.new hp
  exact k (.tup ds) h1 α1 _ _ f1 (e1.trans e2) (R1.new hp) (.tup ⟨R1.out hp, R1.outP hp, upd_same⟩ (q1.mono e2))
noncomputable abbrev DN := Sl → Hh → (List D → Hh → Prop) → Prop
inductive LN (K : PySem.W.Frag) (f : DN) (σ : St) (H : Hp) (Q : VK) : Prop
  | mk (π : List Addr) (α : List Addr) (δ : Sl) (h : Hh) (Q' : List D → Hh → Prop) : HRel ⟨K, π⟩ α H h → RelS ⟨K, π⟩ α H δ σ → f δ h Q' → (∀ ds h' α' H' us p, Q' ds h' → Ext α H α' H' → HRel ⟨K, p :: π⟩ α' H' h' → RelDs ⟨K, p :: π⟩ α' H' ds us → H' p = some (.lst us) → H p = none → p ∉ π → Q (.ref p) H') → LN K f σ H Q
theorem LN.last {K : PySem.W.Frag} {π α α' : List Addr} {H H' : Hp} {h h' : Hh} {Q : VK} {Q' : List D → Hh → Prop} (k : ∀ ds h' α' H' us p, Q' ds h' → Ext α H α' H' → HRel ⟨K, p :: π⟩ α' H' h' → RelDs ⟨K, p :: π⟩ α' H' ds us → H' p = some (.lst us) → H p = none → p ∉ π → Q (.ref p) H')
    {ds : List D} {us : List V} {p : Addr} (f : Q' ds h') (e : Ext α H α' H') (R : HRel ⟨K, π⟩ α' H' h') (r : RelDs ⟨K, π⟩ α' H' ds us) (hp : H' p = none) : Q (.ref p) (upd H' p (.lst us)) := by
  have e2 : Ext α' H' α' (upd H' p (.lst us)) := Ext.new hp
  refine k ds h' α' _ us p f (e.trans e2) (R.under hp) ((r.more fun q hq => ?_).mono e2) upd_same (e.dom p hp) (R.outP hp)
  rcases List.mem_cons.mp hq with rfl | z
  · exact .inr hp
  · exact .inl z
noncomputable def SN (X : Cx) (e : Expr) (f : DN) : Prop := PE X e (LN X.K f)
noncomputable def dV (f : DN) : DE := fun δ h Q => f δ h fun ds h' => Q (.lst ds) h'
noncomputable def dTk (f : DN) : DE := fun δ h Q => f δ h fun ds h' => Q (.ref h'.length) (h' ++ [.lst ds])
variable {fn : DN}
theorem se_v (hf : SN X e fn) : SE X e (dV fn) := PE.imp hf fun σ H Q zz0 => by
  obtain ⟨π, α, δ, h, Q', R, S, f, k⟩ := zz0
  refine ⟨π, α, δ, h, _, R, S, f, fun ds h1 α1 H1 us p f1 e1 R1 q1 hus hp np => ?_⟩
  exact k (.lst ds) h1 α1 _ _ f1 e1 R1.less (.lst ⟨(R1.dis p List.mem_cons_self).1, np, hus⟩ (q1.more fun q hq => .inl (List.mem_cons_of_mem _ hq)))
theorem se_t (hf : SN X e fn) : SE X e (dTk fn) := PE.imp hf fun σ H Q zz0 => by
  obtain ⟨π, α, δ, h, Q', R, S, f, k⟩ := zz0
  refine ⟨π, α, δ, h, _, R, S, f, fun ds h1 α1 H1 us p f1 e1 R1 q1 hus hp np => ?_⟩
  refine k (.ref h1.length) (h1 ++ [.lst ds]) (α1 ++ [p]) _ _ f1 (e1.adopt hp) (R1.adopt np (.lst hus q1.adopt)) (.ref ?_)
  rw [← R1.len]; simp
theorem sn_lst (hf : SA X es n fs) (hn : n ≤ sizeLine := by decide) : SN X (.List es pos) fs := PE.imp (pe_lst hf) fun σ H Q zz0 => by
  obtain ⟨π, α, δ, h, Q', R, S, f, k⟩ := zz0
  refine ⟨π, α, δ, h, _, R, S, f, fun ds h1 α1 H1 vs f1 e1 R1 q1 l1 => ⟨by rw [← q1.length, l1]; exact hn, fun p hp => ?_⟩⟩
  exact LN.last (h := h) k f1 e1 R1 q1 hp
end
end DL
namespace DL
open PySem PySem.Spec L2
section
variable {X : Cx}
noncomputable def pI (C : Int → Int → Prop) (g : Int → Int → Int) : P2 := fun x y h Q => match x, y with | .int i, .int j => C i j ∧ Q (.int (g i j)) h | _, _ => False
noncomputable def pI0 (g : Int → Int → Int) : P2 := fun x y h Q => match x, y with | .int i, .int j => Q (.int (g i j)) h | _, _ => False
noncomputable def pB0 (g : Int → Int → Bool) : P2 := fun x y h Q => match x, y with | .int i, .int j => Q (.bl (g i j)) h | _, _ => False
theorem pI_ok {f : Value → Value → Sem Value} {C : Int → Int → Prop} {g : Int → Int → Int} (h : OpR X f (rI C fun i j => .int (g i j))) : OpR X f (r2 X.K (pI C g)) := OpR.imp h fun x y H Q zz0 => by
  obtain ⟨π, α, h, d, e, Q', R, r1, r2, f, k⟩ := zz0
  cases r1 with
  | int i =>
    cases r2 with
    | int j => exact ⟨i, j, rfl, rfl, f.1, k _ h α H _ f.2 (Ext.refl ..) R (.int _)⟩
    | _ => exact f.elim
  | _ => exact f.elim
theorem pI0_ok {f : Value → Value → Sem Value} {g : Int → Int → Int} (h : OpR X f (rI0 fun i j => .int (g i j))) : OpR X f (r2 X.K (pI0 g)) := OpR.imp h fun x y H Q zz0 => by
  obtain ⟨π, α, h, d, e, Q', R, r1, r2, f, k⟩ := zz0
  cases r1 with
  | int i =>
    cases r2 with
    | int j => exact ⟨i, j, rfl, rfl, k _ h α H _ f (Ext.refl ..) R (.int _)⟩
    | _ => exact f.elim
  | _ => exact f.elim
theorem pB0_ok {f : Value → Value → Sem Value} {g : Int → Int → Bool} (h : OpR X f (rI0 fun i j => .bl (g i j))) : OpR X f (r2 X.K (pB0 g)) := OpR.imp h fun x y H Q zz0 => by
  obtain ⟨π, α, h, d, e, Q', R, r1, r2, f, k⟩ := zz0
  cases r1 with
  | int i =>
    cases r2 with
    | int j => exact ⟨i, j, rfl, rfl, k _ h α H _ f (Ext.refl ..) R (.bl _)⟩
    | _ => exact f.elim
  | _ => exact f.elim
noncomputable abbrev pSub : P2 := pI0 fun i j => i - j
noncomputable abbrev pDiv : P2 := pI (fun _ j => 0 < j ∧ j < 2 ^ 100) fun i j => i / j
noncomputable abbrev pMod : P2 := pI (fun _ j => 0 < j) fun i j => i % j
noncomputable abbrev pPow : P2 := pI CPow fun i j => i ^ j.toNat
noncomputable abbrev pShl : P2 := pI CPow fun i j => i * 2 ^ j.toNat
noncomputable abbrev pBand : P2 := pI0 fun i j => Builtin.bitAnd i j
noncomputable abbrev pBor : P2 := pI0 fun i j => Builtin.bitOr i j
noncomputable abbrev pLtI : P2 := pB0 fun i j => decide (i < j)
noncomputable abbrev pLe : P2 := pB0 fun i j => decide (i ≤ j)
noncomputable abbrev pGt : P2 := pB0 fun i j => decide (j < i)
theorem ok_sub : OpR X (binaryOp .Sub) (r2 X.K pSub) := pI0_ok op_sub
theorem op_fdivB : OpR X (binaryOp .FloorDiv) (rI (fun _ j => 0 < j ∧ j < 2 ^ 100) fun i j => .int (i / j)) := opI fun i j _ _ _ _ _ hc q => by
  have e : i.fdiv j = i / j := Int.fdiv_eq_ediv_of_nonneg i (by omega)
  refine PyProof.Rows.floordiv_int (by omega) (by rw [e]; exact q) (.inl (PyProof.noPylong_of_log2 ?_))
  have h1 : j.natAbs ≠ 0 := by omega
  rw [Nat.log2_lt h1]
  have h2 : j.natAbs < 2 ^ 100 := by
    have := hc.2
    omega
  exact Nat.lt_of_lt_of_le h2 (Nat.pow_le_pow_right (by decide) (by decide))
theorem ok_div : OpR X (binaryOp .FloorDiv) (r2 X.K pDiv) := pI_ok op_fdivB
theorem ok_mod : OpR X (binaryOp .Mod) (r2 X.K pMod) := pI_ok op_mod
theorem ok_pow : OpR X (binaryOp .Pow) (r2 X.K pPow) := pI_ok op_pow
theorem ok_shl : OpR X (binaryOp .LShift) (r2 X.K pShl) := pI_ok op_shl
theorem ok_band : OpR X (binaryOp .BitAnd) (r2 X.K pBand) := pI0_ok op_and
theorem ok_bor : OpR X (binaryOp .BitOr) (r2 X.K pBor) := pI0_ok op_or
theorem ok_le : OpR X (compareOp .LtE) (r2 X.K pLe) := pB0_ok op_le
theorem ok_gt : OpR X (compareOp .Gt) (r2 X.K pGt) := pB0_ok op_gt
theorem ok_ltI : OpR X (compareOp .Lt) (r2 X.K pLtI) := pB0_ok op_lt
theorem iok_add : OpR X (inplaceOp .Add) (r2 X.K (pI0 fun i j => i + j)) := pI0_ok iop_add
noncomputable def pAdd : P2 := fun x y h Q => match x, y with
  | .int i, .int j => Q (.int (i + j)) h
  | .str a, .str b => a.length + b.length ≤ 16777216 ∧ Q (.str (a ++ b)) h
  | .tup a, .tup b => a ≠ [] ∧ a.length + b.length ≤ 16777216 ∧ Q (.tup (a ++ b)) h
  | _, _ => False
theorem ok_add : OpR X (binaryOp .Add) (r2 X.K pAdd) := OpR.imp (op_add.or (op_add_str.or op_catT)) fun x y H Q zz0 => by
  obtain ⟨π, α, h, d, e, Q', R, r1, r2, f, k⟩ := zz0
  cases r1 with
  | int i =>
    cases r2 with
    | int j => exact .inl ⟨i, j, rfl, rfl, k _ h α H _ f (Ext.refl ..) R (.int _)⟩
    | _ => exact f.elim
  | str i =>
    cases r2 with
    | str j => exact .inr (.inl ⟨i, j, rfl, rfl, by rw [sizeLine_eq]; exact f.1, k _ h α H _ f.2 (Ext.refl ..) R (.str _)⟩)
    | _ => exact f.elim
  | @tup a us ds t r =>
    cases r2 with
    | @tup a' us' ds' t' r' =>
      obtain ⟨f1, f2, f3⟩ := f
      have l1 := r.length
      have l2 := r'.length
      refine .inr (.inr ⟨a, a', us, us', rfl, rfl, t.sq, t'.sq, ?_, by rw [sizeLine_eq, ← l1, ← l2]; exact f2, fun z => ?_, fun z p hp => ?_⟩)
      · intro z
        subst z
        cases r; exact f1 rfl
      · subst z
        cases r'
        rw [List.append_nil] at f3
        exact k _ h α H _ f3 (Ext.refl ..) R (.tup t r)
      · have e2 : Ext α H α (upd H p (.tup (us ++ us'))) := Ext.new hp
        exact k _ h α _ _ f3 e2 (R.new hp) (.tup ⟨R.out hp, R.outP hp, upd_same⟩ ((r.append r').mono e2))
    | _ => exact f.elim
  | _ => exact f.elim
noncomputable def pNeg : P1 := fun x h Q => match x with | .int i => Q (.int (-i)) h | _ => False
theorem ok_neg : UnR X (unaryOp .USub) (r1 X.K pNeg) := UnR.imp un_neg fun x H Q zz0 => by
  obtain ⟨π, α, h, d, Q', R, r1, f, k⟩ := zz0
  cases r1 with
  | int i => exact ⟨i, rfl, k _ h α H _ f (Ext.refl ..) R (.int _)⟩
  | _ => exact f.elim
noncomputable def isNon : D → Bool | .non => true | _ => false
noncomputable def pIs (neg : Bool) : P2 := fun x y h Q => match y with | .non => Q (.bl (if neg then !isNon x else isNon x)) h | _ => False
theorem isNon_rel {K : KP} {α : List Addr} {H : Hp} {d : D} {v : V} (r : RelD K α H d v) : decide (v = .non) = isNon d := by cases r <;> rfl
theorem ok_is : OpR X (compareOp .Is) (r2 X.K (pIs false)) := OpR.imp op_isN fun x y H Q zz0 => by
  obtain ⟨π, α, h, d, e, Q', R, r1, r2, f, k⟩ := zz0
  cases r2 with
  | non =>
    refine ⟨rfl, k _ h α H _ f (Ext.refl ..) R ?_⟩
    rw [isNon_rel r1]; exact .bl _
  | _ => exact f.elim
theorem atI_rel {K : KP} {α : List Addr} {H : Hp} {ds : List D} {us : List V} {i : Int} {d : D} (r : RelDs K α H ds us) (e : atI ds i = some d) : ∃ u, atI us i = some u ∧ RelD K α H d u := by
  unfold atI at e ⊢
  rw [← r.length]
  cases q : ixN ds.length i with
  | none => rw [q] at e; cases e
  | some j =>
    rw [q] at e
    exact r.get e
noncomputable def seqOf (h : Hh) : D → Option (List D)
  | .lst xs => some xs
  | .scr xs => some xs
  | .tup xs => some xs
  | .ref i => match h[i]? with | some (.lst xs) => some xs | _ => none
  | _ => none
theorem seqOf_sq {K : KP} {α : List Addr} {H : Hp} {h : Hh} (R : HRel K α H h) {d : D} {v : V} {xs : List D} (r : RelD K α H d v) (e : seqOf h d = some xs) : ∃ p us, v = .ref p ∧ (SqL K.K H p us ∨ SqT K.K H p us) ∧ RelDs K α H xs us := by
  by_cases z : ∃ ys, d = .tup ys
  · obtain ⟨ys, rfl⟩ := z
    cases e
    obtain ⟨p, us, a, b, c⟩ := tup_sq r
    exact ⟨p, us, a, .inr b, c⟩
  · have e' : lsOf h d = some xs := by
      cases d with
      | tup ys => exact absurd ⟨ys, rfl⟩ z
      | lst ys => exact e
      | scr ys => exact e
      | ref i => exact e
      | _ => cases e
    obtain ⟨p, us, a, b, c⟩ := lsOf_sq R r e'
    exact ⟨p, us, a, .inl b, c⟩
noncomputable def strAt (x : Str) (i : Int) : Option D := if x.length ≤ 16777216 then (atI x.cps.toList i).map fun c => .str ⟨#[c]⟩ else none
noncomputable def ixD (h : Hh) (x y : D) : Option D := match y with
  | .int i => match x with
    | .tup xs => atI xs i
    | .lst xs => atI xs i
    | .scr xs => atI xs i
    | .ref j => match h[j]? with | some (.lst xs) => atI xs i | _ => none
    | .str s => strAt s i
    | _ => none
  | _ => none
noncomputable def pIx : P2 := fun x y h Q => match ixD h x y with | some d => Q d h | none => False
theorem ok_ix : IxR X (r2 X.K pIx) := IxR.imp ix_seq fun x y H Q zz0 => by
  obtain ⟨π, α, h, d, e, Q', R, r1, r2, f, k⟩ := zz0
  unfold pIx at f
  cases q : ixD h d e with
  | none => rw [q] at f; exact f.elim
  | some z =>
    rw [q] at f
    cases r2 with
    | int i =>
      cases r1 with
      | @tup a us ds t r =>
        obtain ⟨u, e1, e2⟩ := atI_rel r q
        exact .inr (.inl ⟨_, us, i, u, rfl, rfl, t.sq, e1, k _ h α H _ f (Ext.refl ..) R e2⟩)
      | @lst a us ds t r =>
        obtain ⟨u, e1, e2⟩ := atI_rel r q
        exact .inl ⟨_, us, i, u, rfl, rfl, t.sq, e1, k _ h α H _ f (Ext.refl ..) R e2⟩
      | @scr a us ds t r =>
        obtain ⟨u, e1, e2⟩ := atI_rel r q
        exact .inl ⟨_, us, i, u, rfl, rfl, t.sq, e1, k _ h α H _ f (Ext.refl ..) R e2⟩
      | @ref j a hp =>
        have q : (match h[j]? with | some (.lst xs) => atI xs i | _ => none) = some z := q
        cases w : h[j]? with
        | none => rw [w] at q; cases q
        | some o =>
          rw [w] at q
          cases o with
          | lst ys =>
            obtain ⟨p, us, e1, e2, e3⟩ := R.lst w
            rw [hp] at e1; cases e1
            obtain ⟨u, e4, e5⟩ := atI_rel e3 q
            exact .inl ⟨_, us, i, u, rfl, rfl, SqL.of e2, e4, k _ h α H _ f (Ext.refl ..) R e5⟩
          | _ => cases q
      | str s =>
        have q : strAt s i = some z := q
        unfold strAt at q
        split at q
        · rename_i hl
          cases w : atI s.cps.toList i with
          | none => rw [w] at q; cases q
          | some c =>
            rw [w] at q
            cases q
            exact .inr (.inr ⟨s, i, c, rfl, rfl, by rw [sizeLine_eq]; exact hl, w, k _ h α H _ f (Ext.refl ..) R (.str _)⟩)
        · cases q
      | _ => cases q
    | _ => cases q
end
noncomputable def cutD (xs : List D) (lo hi : Option Int) : List D := (xs.drop (HT.sIx xs.length 0 lo)).take (HT.sIx xs.length xs.length hi - HT.sIx xs.length 0 lo)
theorem cut_rel {K : KP} {α : List Addr} {H : Hp} {ds : List D} {us : List V} (r : RelDs K α H ds us) (lo hi : Option Int) : RelDs K α H (cutD ds lo hi) (cutV us lo hi) := by
  unfold cutD cutV
  rw [r.length]
  exact (r.drop _).take _
noncomputable abbrev DO := Sl → Hh → (Option Int → Hh → Prop) → Prop
noncomputable def dNoPart : DO := fun _ h Q => Q none h
noncomputable def dPart (f : DE) : DO := fun δ h Q => f δ h fun d h1 => match d with | .int i => Q (some i) h1 | _ => False
inductive LO (K : PySem.W.Frag) (f : DO) (σ : St) (H : Hp) (Q : Option Int → Hp → Prop) : Prop
  | mk (π : List Addr) (α : List Addr) (δ : Sl) (h : Hh) (Q' : Option Int → Hh → Prop) : HRel ⟨K, π⟩ α H h → RelS ⟨K, π⟩ α H δ σ → f δ h Q' → (∀ i h' α' H', Q' i h' → Ext α H α' H' → HRel ⟨K, π⟩ α' H' h' → Q i H') → LO K f σ H Q
noncomputable def SO (X : Cx) (e : Option Expr) (f : DO) : Prop := PO X e (LO X.K f)
section
variable {X : Cx} {e : Expr} {fe : DE} {lo hi : Option Expr} {fl fh : DO} {pos p2 : Pos}
theorem PO.imp {o : Option Expr} {t t' : TO} (h : PO X o t) (k : ∀ σ H Q, t' σ H Q → t σ H Q) : PO X o t' := fun pins s σ H Q I q => h pins s σ H Q I (k σ H Q q)
theorem so_none : SO X none dNoPart := PO.imp po_none fun σ H Q ⟨π, α, δ, h, Q', R, S, f, k⟩ => k none h α H f (Ext.refl ..) R
theorem so_some (h : SE X e fe) : SO X (some e) (dPart fe) := PO.imp (po_some h) fun σ H Q zz0 => by
  obtain ⟨π, α, δ, h, Q', R, S, f, k⟩ := zz0
  refine ⟨π, α, δ, h, _, R, S, f, fun d h1 α1 H1 v1 f1 e1 R1 q1 => ?_⟩
  cases q1 with
  | int i => exact ⟨i, rfl, k (some i) h1 α1 H1 f1 e1 R1⟩
  | _ => exact f1.elim
noncomputable def rSlD (K : PySem.W.Frag) : V → Option Int → Option Int → Hp → VK → Prop := fun x lo hi H Q => ∃ a xs, x = .ref a ∧ SqT K H a xs ∧ (cutV xs lo hi = xs → Q (.ref a) H) ∧ ∀ p, H p = none → Q (.ref p) (upd H p (.tup (cutV xs lo hi)))
theorem sl_tupD : SlR X (rSlD X.K) := by
  intro pins s σ H x v vl vu lo hi sl Q I rx hs pl pu h
  obtain ⟨a, xs, rfl, hx, q1, q2⟩ := h
  by_cases hw : HT.sIx xs.length 0 lo = 0 ∧ HT.sIx xs.length xs.length hi = xs.length
  · cases rx
    obtain ⟨its, r, ht, hz⟩ := I.tuple hx
    have hlen : its.toArray.size = xs.length := by rw [List.size_toArray]; exact r.length.symm
    refine ⟨"tuple", _, PyProof.Rows.slot_tuple_getitem.lookup, ht.typeIs, ?_⟩
    have ec : cutV xs lo hi = xs := by
      unfold cutV
      rw [hw.1, hw.2, List.drop_zero, Nat.sub_zero, List.take_length]
    exact HT.getItem_tuple_all ht hs pl pu (by rw [hlen]; exact hw) ⟨.ref a, H, I, rfl, q1 ec⟩
  · exact sl_tup pins s σ H (.ref a) v vl vu lo hi sl Q I rx hs pl pu ⟨a, xs, rfl, hx, hw, fun p hp => q2 p hp⟩
noncomputable def dSlL (fe : DE) (fl fh : DO) : DN := fun δ h Q => fe δ h fun d h1 => fl δ h1 fun l h2 => fh δ h2 fun u h3 => match lsOf h3 d with | some xs => Q (cutD xs l u) h3 | none => False
end
end DL
namespace DL
open PySem PySem.Spec L2
noncomputable def dName (i : Nat) : DG := fun d δ h Q => Q (δ.set i (some d)) h
noncomputable def dGNil : DGs := fun ds δ h Q => match ds with | [] => Q δ h | _ => False
noncomputable def dGCons (t : DG) (u : DGs) : DGs := fun ds δ h Q => match ds with | d :: r => t d δ h fun δ' h' => u r δ' h' Q | [] => False
noncomputable def dUnp (n : Nat) (t : DGs) : DG := fun d δ h Q => match d with | .tup xs => xs.length = n ∧ t xs δ h Q | _ => False
section
variable {X : Cx} {pos : Pos}
theorem sg_name {i : Nat} {x : Str} (hN : X.N.Nodup) (hi : X.N[i]? = some x) (hx : Loc X.env.scope x) (hf : X.fn x = true ∨ X.env.scope.names.lookup x = some .local := by trivial) : SG X (.Name x pos) (dName i) := PG.imp (pg_name hN hi hx hf) fun v σ H Q ⟨π, α, δ, h, d, Q', R, S, r, f, k⟩ =>
  k _ h α H _ f (Ext.refl ..) R (S.set i r)
theorem sgs_nil : SGs X [] dGNil := PGs.imp pgs_nil fun vs σ H Q zz0 => by
  obtain ⟨π, α, δ, h, ds, Q', R, S, r, f, k⟩ := zz0
  cases r with
  | nil => exact ⟨rfl, k δ h α H σ f (Ext.refl ..) R S⟩
  | cons _ _ => exact f.elim
theorem sgs_cons {e : Expr} {es : List Expr} {t : DG} {u : DGs} (h1 : SG X e t) (h2 : SGs X es u) (hs : (assignEach (e :: es) X.env).map (·.2) = assign e X.env :: (assignEach es X.env).map (·.2) := by rfl) : SGs X (e :: es) (dGCons t u) := PGs.imp (pgs_cons h1 h2 hs) fun vs σ H Q zz0 => by
  obtain ⟨π, α, δ, h, ds, Q', R, S, r, f, k⟩ := zz0
  cases r with
  | nil => exact f.elim
  | @cons d v ds us rd rs =>
    refine ⟨v, us, rfl, π, α, δ, h, d, _, R, S, rd, f, fun δ1 h1 α1 H1 σ1 f1 e1 R1 S1 => ?_⟩
    exact ⟨π, α1, δ1, h1, ds, Q', R1, S1, rs.mono e1, f1, fun δ' h' α' H' σ' a b c d' => k δ' h' α' H' σ' a (e1.trans b) c d'⟩
theorem sg_tup {es : List Expr} {j : Nat} {t : DGs} {n : Nat} (hc : X.calm = true) (h : SGs X es t) (hn : (assignEach es X.env).length = n := by rfl) (hst : (assignEach es X.env).findIdx? (·.1) = none := by rfl) : SG X (.Tuple es j pos) (dUnp n t) := PG.imp (pg_tup hc h hn hst) fun v σ H Q zz0 => by
  obtain ⟨π, α, δ, h, d, Q', R, S, r, f, k⟩ := zz0
  cases r with
  | @tup a us ds t rs => exact ⟨a, us, rfl, t.sq, by rw [← rs.length]; exact f.1, π, α, δ, h, ds, Q', R, S, rs, f.2, k⟩
  | _ => exact f.elim
noncomputable def setD (o i v : D) (h : Hh) (Q : Hh → Prop) : Prop := match o, i with
  | .ref j, .int k => match h[j]? with
    | some (.lst xs) => match ixN xs.length k with
      | some m => Q (h.set j (.lst (xs.set m v)))
      | none => False
    | _ => False
  | _, _ => False
noncomputable def dSubL (fo fi : DE) : DG := fun v δ h Q => fo δ h fun o h1 => fi δ h1 fun i h2 => setD o i v h2 fun h3 => Q δ h3
theorem set_lift {K : PySem.W.Frag} {π α : List Addr} {H : Hp} {h : Hh} {o i v : D} {ov iv vv : V} {Q' : Hh → Prop} {Q : Hp → Prop} (R : HRel ⟨K, π⟩ α H h) (ro : RelD ⟨K, π⟩ α H o ov) (ri : RelD ⟨K, π⟩ α H i iv) (rv : RelD ⟨K, π⟩ α H v vv) (f : setD o i v h Q')
    (k : ∀ h' H', Q' h' → Ext α H α H' → HRel ⟨K, π⟩ α H' h' → Q H') : rSetL ov iv vv H Q := by
  unfold setD at f
  cases ro with
  | @ref j a hp =>
    cases ri with
    | int n =>
      dsimp only at f
      cases w : h[j]? with
      | none => rw [w] at f; exact f.elim
      | some ob =>
        rw [w] at f
        cases ob with
        | lst xs =>
          dsimp only at f
          obtain ⟨p, us, e1, e2, e3⟩ := R.lst w
          rw [hp] at e1; cases e1
          cases q : ixN xs.length n with
          | none => rw [q] at f; exact f.elim
          | some m =>
            rw [q] at f
            have e4 : Ext α H α (upd H a (.lst (us.set m vv))) := Ext.write (List.mem_of_getElem? hp)
            refine ⟨a, us, n, m, rfl, rfl, e2, by rw [← e3.length]; exact q, k _ _ f e4 (R.write hp (.lst upd_same ((RelDs.set rv m e3).mono e4)))⟩
        | _ => exact f.elim
    | _ => exact f.elim
  | _ => exact f.elim
theorem sg_subL {o i : Expr} {fo fi : DE} (ho : SE X o fo) (hi : SE X i fi)
    (ha : ∀ v, assign (.Subscript o i pos) X.env v = (do
      let ov ← holding [v] (eval o X.env)
      let iv ← holding [v, ov] (eval i X.env)
      standAt pos
      holding [v, ov, iv] (setItem ov iv v)
      release [v, ov, iv] []) := by intro _; rfl) : SG X (.Subscript o i pos) (dSubL fo fi) := PG.imp (pg_sub ho hi set_list ha) fun v σ H Q ⟨π, α, δ, h, d, Q', R, S, r, f, k⟩ => by
  refine ⟨π, α, δ, h, _, R, S, f, fun o h1 α1 H1 v1 f1 e1 R1 q1 => ?_⟩
  refine ⟨π, α1, δ, h1, _, R1, S.mono e1, f1, fun i h2 α2 H2 v2 f2 e2 R2 q2 => ?_⟩
  exact set_lift R2 (q1.mono e2) q2 (r.mono (e1.trans e2)) f2 fun h3 H3 f3 e3 R3 => k δ h3 α2 H3 σ f3 (e1.trans (e2.trans e3)) R3 (S.mono (e1.trans (e2.trans e3)))
end
noncomputable def dNext : DS := fun E δ h => E.nx δ h
noncomputable def dSeq (f g : DS) : DS := fun E δ h => f { E with nx := g E } δ h
noncomputable def dNever : DS := fun _ _ _ => False
noncomputable def dBreak : DS := fun E δ h => E.bk δ h
noncomputable def dCont : DS := fun E δ h => E.ct δ h
noncomputable def dDrop (f : DE) : DS := fun E δ h => f δ h fun _ h1 => E.nx δ h1
noncomputable def dRet (f : DE) : DS := fun E δ h => f δ h E.rt
noncomputable def dRetN : DS := fun E _ h => E.rt .non h
noncomputable def dIfS (t : DT) (f g : DS) : DS := fun E δ h => t δ h fun c h1 => if c = true then f E δ h1 else g E δ h1
noncomputable def dAsg (f : DE) (g : DG) : DS := fun E δ h => f δ h fun x h1 => g x δ h1 E.nx
noncomputable def dAug (i : Nat) (f : DE) (p : P2) : DS := fun E δ h => match δ[i]? with | some (some x) => f δ h fun y h1 => p x y h1 fun z h2 => E.nx (δ.set i (some z)) h2 | _ => False
section
variable {X : Cx} {s : Stmt} {ss : List Stmt} {f g : DS} {e : Expr} {fe : DE} {pos : Pos}
theorem seq_lift {K : PySem.W.Frag} {Ex : XK} {F : Ends} {σ : L2.St} {H : Hp} (w : LS K Ex (dSeq f g) F σ H) : tSeq (LS K Ex f) (LS K Ex g) F σ H := by
  obtain ⟨π, α, δ, h, E, R, S, q, k⟩ := w
  exact ⟨π, α, δ, h, { E with nx := g E }, R, S, q, ⟨fun δ' h' α' H' σ' a b c d => ⟨π, α', δ', h', E, c, d, a, k.mono b⟩, k.rt, k.bk, k.ct, k.ex⟩⟩
theorem ss_nil : SSs X [] dNext := PSs.imp pss_nil fun F σ H ⟨π, α, δ, h, E, R, S, q, k⟩ => k.nx δ h α H σ q (Ext.refl ..) R S
theorem ss_one (h : SS X s f) : SSs X [s] f := pss_one h
theorem ss_cons (h1 : SS X s f) (h2 : SSs X ss g) : SSs X (s :: ss) (dSeq f g) := PSs.imp (pss_cons h1 h2) fun _ _ _ w => seq_lift w
theorem s_expr (he : SE X e fe) (hs : swapsWith e none pos.line X.env = pure false := by rfl) : SS X (.Expr e pos) (dDrop fe) := PS.imp (ps_expr he hs) fun F σ H ⟨π, α, δ, h, E, R, S, q, k⟩ =>
  ⟨π, α, δ, h, _, R, S, q, fun d h1 α1 H1 v1 f1 e1 R1 q1 => k.nx δ h1 α1 H1 σ f1 e1 R1 (S.mono e1)⟩
theorem s_ret (he : SE X e fe) : SS X (.Return (some e) pos) (dRet fe) := PS.imp (ps_ret he) fun F σ H ⟨π, α, δ, h, E, R, S, q, k⟩ => ⟨π, α, δ, h, _, R, S, q, fun d h1 α1 H1 v1 f1 e1 R1 q1 => k.rt d h1 α1 H1 v1 f1 e1 R1 q1⟩
theorem s_retN : SS X (.Return none pos) dRetN := PS.imp ps_retN fun F σ H ⟨π, α, δ, h, E, R, S, q, k⟩ => k.rt .non h α H .non q (Ext.refl ..) R .non
theorem s_if {c : Expr} {a b : List Stmt} {t : DT} (hc : ST X c t) (ha : SSs X a f) (hb : SSs X b g) : SS X (.If c a b pos) (dIfS t f g) := PS.imp (ps_if hc ha hb) fun F σ H zz0 => by
  obtain ⟨π, α, δ, h, E, R, S, q, k⟩ := zz0
  refine ⟨π, α, δ, h, _, R, S, q, fun c h1 α1 H1 f1 e1 R1 => ?_⟩
  cases c with
  | true => exact iteT ⟨π, α1, δ, h1, E, R1, S.mono e1, by simpa using f1, k.mono e1⟩
  | false => exact iteF ⟨π, α1, δ, h1, E, R1, S.mono e1, by simpa using f1, k.mono e1⟩
theorem asg_lift {K : PySem.W.Frag} {Ex : XK} {tg : DG} {F : Ends} {σ : L2.St} {H : Hp} (w : LS K Ex (dAsg fe tg) F σ H) : tAsg (LE K fe) (LG K tg) F σ H := by
  obtain ⟨π, α, δ, h, E, R, S, q, k⟩ := w
  refine ⟨π, α, δ, h, _, R, S, q, fun d h1 α1 H1 v1 f1 e1 R1 q1 => ?_⟩
  exact ⟨π, α1, δ, h1, d, E.nx, R1, S.mono e1, q1, f1, fun δ' h' α' H' σ' a b c d' => k.nx δ' h' α' H' σ' a (e1.trans b) c d'⟩
theorem s_asg {tg : Expr} {t : DG} (he : SE X e fe) (hg : SG X tg t) (hs : swapsWithSole [tg] e pos.line X.env = pure false := by rfl) (hw : swappedStores [tg] e X.env = pure none := by rfl)
    (h1 : (assignEach [tg] X.env).map (·.2) = [assign tg X.env] := by rfl) : SS X (.Assign [tg] e pos) (dAsg fe t) := PS.imp (ps_asg he hg hs hw h1) fun _ _ _ w => asg_lift w
theorem asgN_lift {K : PySem.W.Frag} {Ex : XK} {i : Nat} {F : Ends} {σ : L2.St} {H : Hp} (w : LS K Ex (dAsg fe (dName i)) F σ H) : tAsg (LE K fe) (gName i) F σ H := by
  obtain ⟨π, α, δ, h, E, R, S, q, k⟩ := w
  exact ⟨π, α, δ, h, _, R, S, q, fun d h1 α1 H1 v1 f1 e1 R1 q1 => k.nx _ h1 α1 H1 _ f1 e1 R1 ((S.mono e1).set i q1)⟩
theorem s_set {i : Nat} {x : Str} {pos' : Pos} (hN : X.N.Nodup) (hi : X.N[i]? = some x) (hx : Loc X.env.scope x) (he : SE X e fe) (hs : swapsWith e (some (.Name x pos')) pos.line X.env = pure false := by rfl) (hf : X.fn x = true ∨ X.env.scope.names.lookup x = some .local := by trivial) :
    SS X (.Assign [.Name x pos'] e pos) (dAsg fe (dName i)) := PS.imp (ps_set hN hi hx he hs hf) fun _ _ _ w => asgN_lift w
theorem s_aug {i : Nat} {x : Str} {op : Operator} {p : P2} {pos' : Pos} (hN : X.N.Nodup) (hi : X.N[i]? = some x) (hx : Loc X.env.scope x) (he : SE X e fe) (ho : OpR X (inplaceOp op) (r2 X.K p)) (hf : X.fn x = true ∨ X.env.scope.names.lookup x = some .local := by trivial) :
    SS X (.AugAssign (.Name x pos') op e pos) (dAug i fe p) := PS.imp (ps_aug hN hi hx he ho hf) fun F σ H ⟨π, α, δ, h, E, R, S, q, k⟩ => by
  unfold dAug at q
  split at q
  · rename_i d w
    obtain ⟨v, h1, h2⟩ := S.get i d w
    refine ⟨v, h1, π, α, δ, h, _, R, S, q, fun y h1 α1 H1 v1 f1 e1 R1 q1 => ?_⟩
    exact ⟨π, α1, h1, d, y, _, R1, h2.mono e1, q1, f1, fun z h2 α2 H2 v2 f2 e2 R2 q2 => k.nx _ h2 α2 H2 _ f2 (e1.trans e2) R2 ((S.mono (e1.trans e2)).set i q2)⟩
  · exact q.elim
noncomputable def dAugS (fo fi fe : DE) (p : P2) : DS := fun E δ h => fo δ h fun o h1 => fi δ h1 fun i h2 => match o, i with
  | .ref j, .int n => 0 ≤ n ∧ match h2[j]? with
    | some (.lst xs) => match xs[n.toNat]? with
      | some x => fe δ h2 fun y h3 => p x y h3 fun z h4 => setD o i z h4 fun h5 => E.nx δ h5
      | none => False
    | _ => False
  | _, _ => False
end
structure Src where
  items : List D
  w : List (Nat × O)
noncomputable def Src.ok (S : Src) (h : Hh) : Prop := ∀ p ∈ S.w, h[p.1]? = some p.2
theorem Src.ok_nil {xs : List D} {h : Hh} : (Src.mk xs []).ok h := fun p hp => nomatch hp
noncomputable abbrev DI := Sl → Hh → (Src → Hh → Prop) → Prop
structure ItOk (K : KP) (J : It) (S : Src) (St : List Addr → Hp → Prop) : Prop where
  keep : ∀ α H α' H', St α H → Ext α H α' H' → St α' H'
  priv : ∀ α H H' D, St α H → Priv D H H' → D ∈ K.π → St α H'
  item : ∀ α H h i d, HRel K α H h → St α H → S.ok h → S.items[i]? = some d → J.go i H ∧ ∀ x H', J.yld i H x H' → Ext α H α H' ∧ HRel K α H' h ∧ RelD K α H' d x
  stop : ∀ α H h, HRel K α H h → St α H → S.ok h → J.stop S.items.length H
noncomputable def ItA (K : PySem.W.Frag) (π : List Addr) (α : List Addr) (H : Hp) (J : It) (S : Src) : Prop := ∀ π', (∀ p ∈ π', p ∈ π ∨ H p = none) → ∃ St, ItOk ⟨K, π'⟩ J S St ∧ St α H
inductive LI (K : PySem.W.Frag) (f : DI) (σ : St) (H : Hp) (R : It → Hp → Prop) : Prop
  | mk (π : List Addr) (α : List Addr) (δ : Sl) (h : Hh) (Q' : Src → Hh → Prop) : HRel ⟨K, π⟩ α H h → RelS ⟨K, π⟩ α H δ σ → f δ h Q' → (∀ S h' α' H' J, Q' S h' → Ext α H α' H' → HRel ⟨K, π⟩ α' H' h' → ItA K π α' H' J S → S.ok h' → R J H') → LI K f σ H R
noncomputable def SI (X : Cx) (tg iter : Expr) (f : DI) : Prop := PI X tg iter (LI X.K f)
noncomputable def forL (S : Src) (t : DG) (b : DS) (E : DEnds) : List D → Sl → Hh → Prop
  | [], δ, h => S.ok h ∧ E.nx δ h
  | x :: r, δ, h => S.ok h ∧ t x δ h fun δ2 h2 => b { E with nx := forL S t b E r, ct := forL S t b E r, bk := E.nx } δ2 h2
noncomputable def dFor (s : DI) (t : DG) (b : DS) : DS := fun E δ h => s δ h fun S h1 => forL S t b E S.items δ h1
theorem s_for {X : Cx} {tg iter : Expr} {body : List Stmt} {s : DI} {t : DG} {b : DS} {pos : Pos} (hp : PassesOwn (model X.prog X.w) X.A X.env X.xe) (hc : X.calm = true) (hi : SI X tg iter s) (hg : SG X tg t) (hb : SSs X body b)
    (hs : ∀ x, foldedSetIterable iter X.env x = pure x := by intro _; rfl) : SS X (.For tg iter body [] pos) (dFor s t b) := PS.imp (ps_for hp hc hi hg hb hs) fun F σ H ⟨π, α, δ, h, E, R, S, q, k⟩ => by
  refine ⟨π, α, δ, h, _, R, S, q, fun Sr h1 α1 H1 J f1 e1 R1 ia ok1 => ?_⟩
  obtain ⟨St, io, st1⟩ := ia π (fun p z => .inl z)
  refine ⟨fun i m σ' H' => m = Sr.items.length - i ∧ i ≤ Sr.items.length ∧ ∃ α' δ' h', Ext α H α' H' ∧ HRel ⟨X.K, π⟩ α' H' h' ∧ RelS ⟨X.K, π⟩ α' H' δ' σ' ∧ St α' H' ∧ forL Sr t b E (Sr.items.drop i) δ' h', ⟨_, rfl, Nat.zero_le _, α1, δ, h1, e1, R1, S.mono e1, st1, f1⟩, ?_⟩
  rintro i m σ' H' ⟨rfl, hi, α', δ', h', e', R', S', st', q'⟩
  by_cases hlt : i < Sr.items.length
  · rw [List.drop_eq_getElem_cons hlt] at q'
    obtain ⟨okh, q'⟩ := q'
    obtain ⟨go, yl⟩ := io.item α' H' h' i Sr.items[i] R' st' okh (List.getElem?_eq_getElem hlt)
    refine .inr ⟨go, fun σ2 H2 => ∃ α2 δ2 h2, Ext α H α2 H2 ∧ HRel ⟨X.K, π⟩ α2 H2 h2 ∧ RelS ⟨X.K, π⟩ α2 H2 δ2 σ2 ∧ St α2 H2 ∧ forL Sr t b E (Sr.items.drop (i + 1)) δ2 h2, fun σ2 H2 z => ⟨_, by omega, rfl, hlt, z⟩, fun x H2 y2 => ?_⟩
    obtain ⟨e2, R2, r2⟩ := yl x H2 y2
    refine ⟨π, α', δ', h', Sr.items[i], _, R2, S'.mono e2, r2, q', fun δ3 h3 α3 H3 σ3 f3 e3 R3 S3 => ?_⟩
    have e4 := e'.trans (e2.trans e3)
    have k3 := k.mono e4
    have st3 := io.keep _ _ _ _ st' (e2.trans e3)
    exact ⟨π, α3, δ3, h3, _, R3, S3, f3, ⟨fun δ5 h5 α5 H5 σ5 a b c d => ⟨α5, δ5, h5, e4.trans b, c, d, io.keep _ _ _ _ st3 b, a⟩, k3.rt, k3.nx, fun δ5 h5 α5 H5 σ5 a b c d => ⟨α5, δ5, h5, e4.trans b, c, d, io.keep _ _ _ _ st3 b, a⟩, k3.ex⟩⟩
  · have ei : i = Sr.items.length := by omega
    subst ei
    rw [List.drop_length] at q'
    exact .inl ⟨io.stop α' H' h' R' st' q'.1, k.nx δ' h' α' H' σ' q'.2 e' R' S'⟩
noncomputable def compSl (js : List (Option Nat)) (δ : Sl) : Sl := js.map fun j => match j with
  | some j => (δ[j]?).getD none
  | none => none
noncomputable def compL (S : Src) (t : DG) (tf : DT) (te : DE) : List D → List D → Sl → Hh → (List D → Hh → Prop) → Prop
  | [], acc, _, h, Q => S.ok h ∧ Q acc h
  | x :: r, acc, δ, h, Q => S.ok h ∧ t x δ h fun δ2 h2 => tf δ2 h2 fun b h3 => if b = true then te δ2 h3 fun y h4 => compL S t tf te r (acc ++ [y]) δ2 h4 Q else compL S t tf te r acc δ2 h3 Q
noncomputable def dComp (js : List (Option Nat)) (s : DI) (t : DG) (tf : DT) (te : DE) : DN := fun δ h Q => s δ h fun S h1 => S.items.length ≤ 16777216 ∧ compL S t tf te S.items [] (compSl js δ) h1 Q
theorem compS_rel {K : KP} {α : List Addr} {H : Hp} {δ : Sl} {σ : L2.St} (S : RelS K α H δ σ) (js : List (Option Nat)) : RelS K α H (compSl js δ) (compSt js σ) := by
  refine ⟨by unfold compSl compSt; simp, fun i d e => ?_⟩
  unfold compSl at e
  rw [List.getElem?_map] at e
  unfold compSt
  rw [List.getElem?_map]
  cases q : js[i]? with
  | none => rw [q] at e; cases e
  | some j =>
    rw [q] at e
    cases j with
    | none => cases e
    | some j =>
      have e : (δ[j]?).getD none = some d := Option.some.inj e
      cases w : δ[j]? with
      | none => rw [w] at e; cases e
      | some z =>
        rw [w] at e
        have e : z = some d := e
        subst e
        obtain ⟨v, h1, h2⟩ := S.get j d w
        exact ⟨v, by show some ((σ[j]?).getD none) = _; rw [h1]; rfl, h2⟩
theorem comp_lift {K : PySem.W.Frag} {js : List (Option Nat)} {s : DI} {t : DG} {tf : DT} {te : DE} {σ : L2.St} {H : Hp} {Q : VK} (w : LN K (dComp js s t tf te) σ H Q) :
    tComp js (LI K s) (fun _ _ _ => LG K t) (fun _ _ _ => LT K tf) (fun _ _ _ => LE K te) σ H Q := by
  obtain ⟨π, α, δ, h, Q', R, S, q, k⟩ := w
  refine ⟨π, α, δ, h, _, R, S, q, fun Sr h1 α1 H1 J f1 e1 R1 ia ok1 => fun Da hD s0 H0 fp => ?_⟩
  obtain ⟨hlen, f1⟩ := f1
  have sub : ∀ p ∈ Da :: π, p ∈ π ∨ H1 p = none := fun p hp => by
    rcases List.mem_cons.mp hp with rfl | z
    · exact .inr hD
    · exact .inl z
  obtain ⟨St, io, st1⟩ := ia (Da :: π) sub
  have eN : Ext α1 H1 α1 (upd H1 Da (.lst [])) := Ext.new hD
  have hin : Da ∈ (KP.mk K (Da :: π)).π := List.mem_cons_self
  refine ⟨fun i m σ' H' => m = Sr.items.length - i ∧ i ≤ Sr.items.length ∧ ∃ α' δ' h' acc us, Ext α1 H1 α' H' ∧ HRel ⟨K, Da :: π⟩ α' H' h' ∧ RelS ⟨K, Da :: π⟩ α' H' δ' σ' ∧ St α' H' ∧ H' Da = some (.lst us) ∧ RelDs ⟨K, Da :: π⟩ α' H' acc us ∧ acc.length ≤ i ∧
      compL Sr t tf te (Sr.items.drop i) acc δ' h' Q', ⟨_, rfl, Nat.zero_le _, α1, compSl js δ, h1, [], [], eN, R1.under hD, (compS_rel ((S.mono e1).more sub) js).mono eN, io.keep _ _ _ _ st1 eN, upd_same, .nil, Nat.le_refl _, f1⟩, ?_⟩
  rintro i m σ' H' ⟨rfl, hi, α', δ', h', acc, us, e', R', S', st', hus, ra, la, q'⟩
  have nD : Da ∉ α' := (R'.dis Da hin).1
  by_cases hlt : i < Sr.items.length
  · rw [List.drop_eq_getElem_cons hlt] at q'
    obtain ⟨okh, q'⟩ := q'
    obtain ⟨go, yl⟩ := io.item α' H' h' i Sr.items[i] R' st' okh (List.getElem?_eq_getElem hlt)
    refine .inr ⟨go, fun x H2 y2 => ?_⟩
    obtain ⟨e2, R2, r2⟩ := yl x H2 y2
    refine ⟨Da :: π, α', δ', h', Sr.items[i], _, R2, S'.mono e2, r2, q', fun δ3 h3 α3 H3 σ3 f3 e3 R3 S3 => ?_⟩
    refine ⟨Da :: π, α3, δ3, h3, _, R3, S3, f3, fun b h4 α4 H4 f4 e4 R4 => ?_⟩
    have e24 := e2.trans (e3.trans e4)
    cases b with
    | false =>
      refine iteF ⟨_, by omega, rfl, hlt, α4, δ3, h4, acc, us, e'.trans e24, R4, S3.mono e4, io.keep _ _ _ _ st' e24, e24.keep _ _ hus nD, ra.mono e24, by omega, by simpa using f4⟩
    | true =>
      have f4 : te δ3 h4 fun y h5 => compL Sr t tf te (Sr.items.drop (i + 1)) (acc ++ [y]) δ3 h5 Q' := by simpa using f4
      refine iteT ⟨Da :: π, α4, δ3, h4, _, R4, S3.mono e4, f4, fun y h5 α5 H5 v5 f5 e5 R5 q5 => ?_⟩
      have e25 := e24.trans e5
      have h5D : H5 Da = some (.lst us) := e25.keep _ _ hus nD
      have pv : Priv Da H5 (upd H5 Da (.lst (us ++ [v5]))) := ⟨fun b hb => upd_ne hb⟩
      have ra5 := ra.mono e25
      refine ⟨us, h5D, by rw [← ra5.length, sizeLine_eq]; omega, _, by omega, rfl, hlt, α5, δ3, h5, acc ++ [y], us ++ [v5], (e'.trans e25).grow hD, R5.priv pv hin (by rw [upd_same]; exact fun z => nomatch z), (S3.mono (e4.trans e5)).priv pv hin, io.priv _ _ _ _ (io.keep _ _ _ _ st' e25) pv hin, upd_same, (ra5.snoc q5).priv pv hin, by rw [List.length_append, List.length_singleton]; omega, f5⟩
  · have ei : i = Sr.items.length := by omega
    subst ei
    rw [List.drop_length] at q'
    exact .inl ⟨io.stop α' H' h' R' st' q'.1, k _ h' α' H' us Da q'.2 (e1.trans e') R' ra hus (e1.dom Da hD) (R1.outP hD)⟩
noncomputable def dNoIf : DT := fun _ h Q => Q true h
section
variable {X : Cx} {pins : List (Addr × Obj)} {σ : L2.St} {H : Hp} {s : Shared} {N' : List Str} {js : List (Option Nat)} {scope : Scope}
noncomputable def SF (X : Cx) (es : List Expr) (t : DT) : Prop := PF X es (LT X.K t)
theorem PF.imp {es : List Expr} {t t' : TT} (h : PF X es t) (k : ∀ σ H Q, t' σ H Q → t σ H Q) : PF X es t' := fun pins s σ H Q I q => h pins s σ H Q I (k σ H Q q)
theorem sf_nil : SF X [] dNoIf := PF.imp pf_nil fun σ H Q ⟨π, α, δ, h, Q', R, S, f, k⟩ => k true h α H f (Ext.refl ..) R
theorem sf_one {c : Expr} {t : DT} (h : ST X c t) : SF X [c] t := pf_one h
variable {tg iter elt : Expr} {ifs : List Expr} {pos : Pos} {sr : DI} {g : DG} {tf : DT} {te : DE}
theorem sn_comp (hc : X.calm = true) (C : CompOk X N' js scope) (hi : SI X tg iter sr)
    (body : ∀ (s0 : Shared) (H0 : Hp) (fp : List Addr), SG (cxComp X N' scope s0 H0 fp) tg g ∧ SF (cxComp X N' scope s0 H0 fp) ifs tf ∧ SE (cxComp X N' scope s0 H0 fp) elt te)
    (hs : ∀ x, foldedSetIterable iter X.env x = pure x := by intro _; rfl) : SN X (.ListComp elt [⟨tg, iter, ifs, 0⟩] scope pos) (dComp js sr g tf te) :=
  PE.imp (pe_comp hc C hi (g := fun _ _ _ => LG X.K g) (tf := fun _ _ _ => LT X.K tf) (te := fun _ _ _ => LE X.K te) body hs) fun _ _ _ w => comp_lift w
theorem s_setcV {i : Nat} {x : Str} {px cpos : Pos} (hc : X.calm = true) (C : CompOk X N' js scope) (hi : SI X tg iter sr)
    (body : ∀ (s0 : Shared) (H0 : Hp) (fp : List Addr), SG (cxComp X N' scope s0 H0 fp) tg g ∧ SF (cxComp X N' scope s0 H0 fp) ifs tf ∧ SE (cxComp X N' scope s0 H0 fp) elt te)
    (hN : X.N.Nodup) (hix : X.N[i]? = some x) (hx : Loc X.env.scope x)
    (hsw : swapsWith (.ListComp elt [⟨tg, iter, ifs, 0⟩] scope cpos) (some (.Name x px)) pos.line X.env = pure true := by rfl) (hf : X.fn x = true ∨ X.env.scope.names.lookup x = some .local := by trivial)
    (hs : ∀ x, foldedSetIterable iter X.env x = pure x := by intro _; rfl) : SS X (.Assign [.Name x px] (.ListComp elt [⟨tg, iter, ifs, 0⟩] scope cpos) pos) (dAsg (dV (dComp js sr g tf te)) (dName i)) :=
  PS.imp (ps_setc hc C hi (g := fun _ _ _ => LG X.K g) (tf := fun _ _ _ => LT X.K tf) (te := fun _ _ _ => LE X.K te) body hN hix hx hsw hf hs) fun F σ H w => by
    obtain ⟨π, α, δ, h, E, R, S, q, k⟩ := w
    exact comp_lift (Q := fun x H1 => gName i x σ H1 F.nx) ⟨π, α, δ, h, _, R, S, q, fun ds h1 α1 H1 us p f1 e1 R1 q1 hus hp np => k.nx _ h1 α1 H1 _ f1 e1 R1.less (((S.mono e1)).set i (.lst ⟨(R1.dis p List.mem_cons_self).1, np, hus⟩ (q1.more fun q hq => .inl (List.mem_cons_of_mem _ hq))))⟩
end
end DL
namespace DL
open PySem PySem.Spec L2
mutual
inductive IsP (h : Hh) : D → PyData → Prop
  | non : IsP h .non .none
  | bl (b : Bool) : IsP h (.bl b) (.bool b)
  | int (i : Int) : IsP h (.int i) (.int i)
  | str (x : Str) : IsP h (.str x) (.str x)
  | tup {ds : List D} {ps : List PyData} : IsPs h ds ps → IsP h (.tup ds) (.tuple ps)
  | lst {ds : List D} {ps : List PyData} : IsPs h ds ps → IsP h (.lst ds) (.list ps)
  | ref {i : Nat} {ds : List D} {ps : List PyData} : h[i]? = some (.lst ds) → IsPs h ds ps → IsP h (.ref i) (.list ps)
inductive IsPs (h : Hh) : List D → List PyData → Prop
  | nil : IsPs h [] []
  | cons {d : D} {p : PyData} {ds : List D} {ps : List PyData} : IsP h d p → IsPs h ds ps → IsPs h (d :: ds) (p :: ps)
end
section
variable {X : Cx} {pins : List (Addr × Obj)} {σ : L2.St} {H : Hp} {s : Shared} {π α : List Addr} {h : Hh}
theorem IsP.reads (I : Inv X pins σ H s) (R : HRel ⟨X.K, π⟩ α H h) {d : D} {p : PyData} (e : IsP h d p) : ∀ {v : V} {u : Value}, RelD ⟨X.K, π⟩ α H d v → RelV v u → ∃ as, Reads s.heap u p as := by
  refine IsP.rec (motive_1 := fun d p _ => ∀ {v : V} {u : Value}, RelD ⟨X.K, π⟩ α H d v → RelV v u → ∃ as, Reads s.heap u p as) (motive_2 := fun ds ps _ => ∀ {vs : List V} {us : List Value}, RelDs ⟨X.K, π⟩ α H ds vs → Vals vs us → ∃ as, ReadsAll s.heap us ps as) ?_ ?_ ?_ ?_ ?_ ?_ ?_ ?_ ?_ e
  · intro v u q r; cases q; cases r; exact ⟨_, .none⟩
  · intro b v u q r; cases q; cases r; exact ⟨_, .bool b⟩
  · intro i v u q r; cases q; obtain ⟨t, rfl⟩ := r; exact ⟨_, .int i t⟩
  · intro x v u q r; cases q; obtain ⟨t, rfl⟩ := r; exact ⟨_, .str x t⟩
  · intro ds ps _ ih v u q0 r
    cases q0 with
    | tup t rr =>
      cases r
      obtain ⟨its, rv, ⟨o, q, c, n, d⟩, _⟩ := I.tuple t.sq
      obtain ⟨as, ra⟩ := ih rr rv
      exact ⟨_, .tuple q c d (by simpa using ra)⟩
  · intro ds ps _ ih v u q0 r
    cases q0 with
    | lst t rr =>
      cases r
      obtain ⟨its, rv, ⟨o, n, q, c, _, d⟩, _⟩ := I.list t.sq
      obtain ⟨as, ra⟩ := ih rr rv
      exact ⟨_, .list q c d (by simpa using ra)⟩
  · intro i ds ps hh _ ih v u q0 r
    cases q0 with
    | ref hp =>
      cases r
      obtain ⟨a, us, e1, e2, e3⟩ := R.lst hh
      rw [hp] at e1; cases e1
      obtain ⟨its, rv, ⟨o, n, q, c, _, d⟩, _⟩ := I.list (SqL.of (K := X.K) e2)
      obtain ⟨as, ra⟩ := ih e3 rv
      exact ⟨_, .list q c d (by simpa using ra)⟩
  · intro vs us q r; cases q; cases r; exact ⟨_, .nil⟩
  · intro d ds p ps _ _ ih iht vs us q r
    cases q with
    | cons rr rs =>
      cases r with
      | cons r1 r2 =>
        obtain ⟨as, ra⟩ := ih rr r1
        obtain ⟨bs, rb⟩ := iht rs r2
        exact ⟨_, .cons ra rb⟩
end
noncomputable def eqS : D → D → Option Bool
  | .int i, .int j => some (i == j)
  | .str a, .str b => if PyData.strOk a && PyData.strOk b then some (a == b) else none
  | .bl a, .bl b => some (a == b)
  | .non, .non => some true
  | .int _, .str b => if PyData.strOk b then some false else none
  | .str a, .int _ => if PyData.strOk a then some false else none
  | .non, .int _ => some false
  | .int _, .non => some false
  | .non, .tup _ => none
  | _, _ => none
noncomputable def pEq (neg : Bool) : P2 := fun x y h Q => match eqS x y with
  | some b => Q (.bl (if neg then !b else b)) h
  | none => ∃ a b, IsP h x a ∧ IsP h y b ∧ SeqAt.shaped a = true ∧ SeqAt.shaped b = true ∧ Q (.bl (if neg then !PyData.eqv a b else PyData.eqv a b)) h
theorem eqS_ok {h : Hh} {x y : D} {b : Bool} (e : eqS x y = some b) : ∃ p q, IsP h x p ∧ IsP h y q ∧ SeqAt.shaped p = true ∧ SeqAt.shaped q = true ∧ PyData.eqv p q = b := by
  have si : ∀ i : Int, SeqAt.shaped (.int i) = true := fun i => by simp [SeqAt.shaped, PyData.canLay0, PyData.depth]
  have sn : SeqAt.shaped .none = true := by simp [SeqAt.shaped, PyData.canLay0, PyData.depth]
  have sb : ∀ b : Bool, SeqAt.shaped (.bool b) = true := fun i => by simp [SeqAt.shaped, PyData.canLay0, PyData.depth]
  have ss : ∀ x : Str, PyData.strOk x = true → SeqAt.shaped (.str x) = true := fun x hx => by simp [SeqAt.shaped, PyData.canLay0, PyData.depth, hx]
  cases x with
  | int i =>
    cases y with
    | int j => cases e; exact ⟨_, _, .int _, .int _, si _, si _, rfl⟩
    | str t =>
      have e : (if PyData.strOk t = true then some false else none) = some b := e
      by_cases q : PyData.strOk t = true
      · rw [if_pos q] at e; cases e; exact ⟨_, _, .int _, .str _, si _, ss _ q, rfl⟩
      · rw [if_neg q] at e; cases e
    | non => cases e; exact ⟨_, _, .int _, .non, si _, sn, rfl⟩
    | _ => cases e
  | str a =>
    cases y with
    | int j =>
      have e : (if PyData.strOk a = true then some false else none) = some b := e
      by_cases q : PyData.strOk a = true
      · rw [if_pos q] at e; cases e; exact ⟨_, _, .str _, .int _, ss _ q, si _, rfl⟩
      · rw [if_neg q] at e; cases e
    | str t =>
      have e : (if (PyData.strOk a && PyData.strOk t) = true then some (a == t) else none) = some b := e
      by_cases q : (PyData.strOk a && PyData.strOk t) = true
      · rw [if_pos q] at e
        rw [Bool.and_eq_true] at q
        cases e; exact ⟨_, _, .str _, .str _, ss _ q.1, ss _ q.2, rfl⟩
      · rw [if_neg q] at e; cases e
    | _ => cases e
  | bl a =>
    cases y with
    | bl c => cases e; exact ⟨_, _, .bl _, .bl _, sb _, sb _, rfl⟩
    | _ => cases e
  | non =>
    cases y with
    | non => cases e; exact ⟨_, _, .non, .non, sn, sn, rfl⟩
    | int j => cases e; exact ⟨_, _, .non, .int _, sn, si _, rfl⟩
    | _ => cases e
  | _ => cases e
section
variable {X : Cx}
theorem pEq_all {neg : Bool} {x y : D} {h : Hh} {Q : DK} (f : pEq neg x y h Q) : ∃ a b, IsP h x a ∧ IsP h y b ∧ SeqAt.shaped a = true ∧ SeqAt.shaped b = true ∧ Q (.bl (if neg then !PyData.eqv a b else PyData.eqv a b)) h := by
  unfold pEq at f
  cases q : eqS x y with
  | none => rw [q] at f; exact f
  | some b =>
    rw [q] at f
    obtain ⟨p, q, a, b', c, d, e⟩ := eqS_ok (h := h) q
    exact ⟨p, q, a, b', c, d, by rw [e]; exact f⟩
theorem ok_eq (hu : X.A.units + 64 < cLine) : OpR X (compareOp .Eq) (r2 X.K (pEq false)) := by
  intro pins s σ H x y v u Q I rx ry ⟨π, α, h, d, e, Q', R, r1, r2, f, k⟩
  obtain ⟨a, b, ia, ib, sa, sb, q⟩ := pEq_all f
  obtain ⟨as, ra⟩ := ia.reads I R r1 rx
  obtain ⟨bs, rb⟩ := ib.reads I R r2 ry
  exact SeqAt.compareEq_shaped ra rb sa sb hu ⟨.bl (PyData.eqv a b), H, I, rfl, k _ h α H _ q (Ext.refl ..) R (.bl _)⟩
theorem ok_ne (hu : X.A.units + 64 < cLine) : OpR X (compareOp .NotEq) (r2 X.K (pEq true)) := by
  intro pins s σ H x y v u Q I rx ry ⟨π, α, h, d, e, Q', R, r1, r2, f, k⟩
  obtain ⟨a, b, ia, ib, sa, sb, q⟩ := pEq_all f
  obtain ⟨as, ra⟩ := ia.reads I R r1 rx
  obtain ⟨bs, rb⟩ := ib.reads I R r2 ry
  exact SeqAt.compareNe_shaped ra rb sa sb hu ⟨.bl (!PyData.eqv a b), H, I, rfl, k _ h α H _ q (Ext.refl ..) R (.bl _)⟩
end
structure SeqIt (K : KP) (Sq : Hp → List V → Prop) (xs : List D) (w : List (Nat × O)) (St : List Addr → Hp → Prop) : Prop where
  keep : ∀ α H α' H', St α H → Ext α H α' H' → St α' H'
  priv : ∀ α H H' D, St α H → Priv D H H' → D ∈ K.π → St α H'
  get : ∀ α H h, HRel K α H h → St α H → (∀ p ∈ w, h[p.1]? = some p.2) → ∃ us, Sq H us ∧ RelDs K α H xs us
noncomputable def SeqA (K : PySem.W.Frag) (π α : List Addr) (H : Hp) (Sq : Hp → List V → Prop) (xs : List D) (w : List (Nat × O)) : Prop := ∀ π', (∀ p ∈ π', p ∈ π ∨ H p = none) → ∃ St, SeqIt ⟨K, π'⟩ Sq xs w St ∧ St α H
noncomputable def seqSrc (h : Hh) : D → Option Src
  | .tup xs => some ⟨xs, []⟩
  | .lst xs => some ⟨xs, []⟩
  | .scr xs => some ⟨xs, []⟩
  | .ref i => match h[i]? with | some (.lst xs) => some ⟨xs, [(i, .lst xs)]⟩ | _ => none
  | _ => none
theorem seqSrc_ok {K : PySem.W.Frag} {π α : List Addr} {H : Hp} {h : Hh} (R : HRel ⟨K, π⟩ α H h) {d : D} {v : V} {S : Src} (r : RelD ⟨K, π⟩ α H d v) (e : seqSrc h d = some S) :
    ∃ a, v = .ref a ∧ S.ok h ∧ (((∃ us, SqL K H a us) ∧ SeqA K π α H (fun H us => SqL K H a us) S.items S.w) ∨ ((∃ us, SqT K H a us) ∧ SeqA K π α H (fun H us => SqT K H a us) S.items S.w)) := by
  cases r with
  | @tup a us ds t rs =>
    cases e
    exact ⟨a, rfl, Src.ok_nil, .inr ⟨⟨us, t.sq⟩, fun π' s => ⟨fun α H => VT ⟨K, π'⟩ α H a us ∧ RelDs ⟨K, π'⟩ α H ds us, ⟨fun α H α' H' st e => ⟨st.1.mono e, st.2.mono e⟩, fun α H H' D st e hD => ⟨st.1.priv e hD, st.2.priv e hD⟩, fun α H h R st _ => ⟨us, st.1.sq, st.2⟩⟩, t.more s, rs.more s⟩⟩⟩
  | @lst a us ds t rs =>
    cases e
    exact ⟨a, rfl, Src.ok_nil, .inl ⟨⟨us, t.sq⟩, fun π' s => ⟨fun α H => VL ⟨K, π'⟩ α H a us ∧ RelDs ⟨K, π'⟩ α H ds us, ⟨fun α H α' H' st e => ⟨st.1.mono e, st.2.mono e⟩, fun α H H' D st e hD => ⟨st.1.priv e hD, st.2.priv e hD⟩, fun α H h R st _ => ⟨us, st.1.sq, st.2⟩⟩, t.more s, rs.more s⟩⟩⟩
  | @scr a us ds t rs =>
    cases e
    exact ⟨a, rfl, Src.ok_nil, .inl ⟨⟨us, t.sq⟩, fun π' s => ⟨fun α H => VS ⟨K, π'⟩ α H a us ∧ RelDs ⟨K, π'⟩ α H ds us, ⟨fun α H α' H' st e => ⟨st.1.mono e, st.2.mono e⟩, fun α H H' D st e hD => ⟨st.1.priv e hD, st.2.priv e hD⟩, fun α H h R st _ => ⟨us, st.1.sq, st.2⟩⟩, t.more s, rs.more s⟩⟩⟩
  | @ref i a hp =>
    have e : (match h[i]? with | some (.lst xs) => some (Src.mk xs [(i, .lst xs)]) | _ => none) = some S := e
    cases q : h[i]? with
    | none => rw [q] at e; cases e
    | some o =>
      rw [q] at e
      cases o with
      | lst xs =>
        cases e
        obtain ⟨p, us, e1, e2, e3⟩ := R.lst q
        rw [hp] at e1; cases e1
        refine ⟨a, rfl, fun z hz => by rw [List.mem_singleton.mp hz]; exact q, .inl ⟨⟨us, SqL.of e2⟩, fun π' s => ⟨fun α H => α[i]? = some a, ⟨fun α H α' H' st e => e.get st, fun α H H' D st e hD => st, fun α H h R st w => ?_⟩, hp⟩⟩⟩
        obtain ⟨p, us, e1, e2, e3⟩ := R.lst (w (i, .lst xs) (List.mem_singleton.mpr rfl))
        rw [st] at e1; cases e1
        exact ⟨us, SqL.of e2, e3⟩
      | _ => cases e
  | _ => cases e
theorem it_list {K : PySem.W.Frag} {π α : List Addr} {H : Hp} {a : Addr} {S : Src} (s : SeqA K π α H (fun H us => SqL K H a us) S.items S.w) : ItA K π α H (Itl K a) S := fun π' sub => by
  obtain ⟨St, si, st⟩ := s π' sub
  refine ⟨St, ⟨si.keep, si.priv, fun α H h i d R st ok hi => ?_, fun α H h R st ok => ?_⟩, st⟩
  · obtain ⟨us, hq, rs⟩ := si.get α H h R st ok
    obtain ⟨u, hu, ru⟩ := rs.get hi
    refine ⟨⟨us, u, hq, hu⟩, fun x H' ⟨e1, e2⟩ => ?_⟩
    subst e1
    have := (e2 us hq).symm.trans hu
    cases this
    exact ⟨Ext.refl .., R, ru⟩
  · obtain ⟨us, hq, rs⟩ := si.get α H h R st ok
    exact ⟨us, hq, by rw [← rs.length]; exact Nat.le_refl _⟩
theorem it_tup {K : PySem.W.Frag} {π α : List Addr} {H : Hp} {a : Addr} {S : Src} (s : SeqA K π α H (fun H us => SqT K H a us) S.items S.w) : ItA K π α H (Itt K a) S := fun π' sub => by
  obtain ⟨St, si, st⟩ := s π' sub
  refine ⟨St, ⟨si.keep, si.priv, fun α H h i d R st ok hi => ?_, fun α H h R st ok => ?_⟩, st⟩
  · obtain ⟨us, hq, rs⟩ := si.get α H h R st ok
    obtain ⟨u, hu, ru⟩ := rs.get hi
    refine ⟨⟨us, u, hq, hu⟩, fun x H' ⟨e1, e2⟩ => ?_⟩
    subst e1
    have := (e2 us hq).symm.trans hu
    cases this
    exact ⟨Ext.refl .., R, ru⟩
  · obtain ⟨us, hq, rs⟩ := si.get α H h R st ok
    exact ⟨us, hq, by rw [← rs.length]; exact Nat.le_refl _⟩
noncomputable def enumD : Int → List D → List D
  | _, [] => []
  | n, x :: r => .tup [.int n, x] :: enumD (n + 1) r
theorem enumD_get : ∀ (n : Int) (xs : List D) (i : Nat), (enumD n xs)[i]? = (xs[i]?).map fun x => .tup [.int (n + i), x]
  | n, [], i => by simp [enumD]
  | n, x :: r, 0 => by simp [enumD]
  | n, x :: r, i + 1 => by
    have := enumD_get (n + 1) r i
    simp only [enumD, List.getElem?_cons_succ, this]
    congr 1; funext y; congr 3; push_cast; omega
theorem enumD_length : ∀ (n : Int) (xs : List D), (enumD n xs).length = xs.length
  | _, [] => rfl
  | n, x :: r => by simp [enumD, enumD_length (n + 1) r]
theorem it_enum {K : PySem.W.Frag} {π α : List Addr} {H : Hp} {Sq : Hp → List V → Prop} {S : Src} (s : SeqA K π α H Sq S.items S.w) : ItA K π α H (Ite Sq) ⟨enumD 0 S.items, S.w⟩ := fun π' sub => by
  obtain ⟨St, si, st⟩ := s π' sub
  refine ⟨St, ⟨si.keep, si.priv, fun α H h i d R st ok hi => ?_, fun α H h R st ok => ?_⟩, st⟩
  · rw [enumD_get] at hi
    cases q : S.items[i]? with
    | none => rw [q] at hi; cases hi
    | some y =>
      rw [q] at hi
      cases hi
      obtain ⟨us, hq, rs⟩ := si.get α H h R st ok
      obtain ⟨u, hu, ru⟩ := rs.get q
      refine ⟨⟨us, u, hq, hu⟩, fun x H' ⟨T, v, e0, hT, e1, e2⟩ => ?_⟩
      subst e0 e1
      have := (e2 us hq).symm.trans hu
      obtain rfl := Option.some.inj this
      have e3 : Ext α H α (upd H T (.tup [.int (i : Nat), v])) := Ext.new hT
      refine ⟨e3, R.new hT, .tup ⟨R.out hT, R.outP hT, upd_same⟩ (.cons ?_ (.cons (ru.mono e3) .nil))⟩
      rw [Int.zero_add]; exact .int _
  · obtain ⟨us, hq, rs⟩ := si.get α H h R st ok
    exact ⟨us, hq, by rw [enumD_length, rs.length]⟩
noncomputable def rangeD (lo : Int) : Nat → List D
  | 0 => []
  | n + 1 => .int lo :: rangeD (lo + 1) n
theorem rangeD_get : ∀ (lo : Int) (n i : Nat), (rangeD lo n)[i]? = if i < n then some (.int (lo + i)) else none
  | lo, 0, i => by simp [rangeD]
  | lo, n + 1, 0 => by simp [rangeD]
  | lo, n + 1, i + 1 => by
    have := rangeD_get (lo + 1) n i
    simp only [rangeD, List.getElem?_cons_succ, this, Nat.add_lt_add_iff_right]
    have e : lo + 1 + (i : Int) = lo + ((i + 1 : Nat) : Int) := by push_cast; omega
    rw [e]
theorem rangeD_length : ∀ (lo : Int) (n : Nat), (rangeD lo n).length = n
  | _, 0 => rfl
  | lo, n + 1 => by simp [rangeD, rangeD_length (lo + 1) n]
theorem it_range {K : PySem.W.Frag} {π α : List Addr} {H : Hp} {lo : Int} {n : Nat} : ItA K π α H (Itr lo n) ⟨rangeD lo n, []⟩ := fun π' sub => by
  refine ⟨fun _ _ => True, ⟨fun _ _ _ _ _ _ => trivial, fun _ _ _ _ _ _ _ => trivial, fun α H h i d R st ok hi => ?_, fun α H h R st ok => ?_⟩, trivial⟩
  · have hi : (rangeD lo n)[i]? = some d := hi
    rw [rangeD_get] at hi
    split at hi
    · rename_i hlt
      cases hi
      exact ⟨hlt, fun x H' ⟨e1, e2⟩ => by subst e1 e2; exact ⟨Ext.refl .., R, .int _⟩⟩
    · cases hi
  · show n ≤ (rangeD lo n).length
    rw [rangeD_length]; exact Nat.le_refl _
noncomputable def dISeq (f : DE) : DI := fun δ h Q => f δ h fun d h1 => match seqSrc h1 d with | some S => Q S h1 | none => False
noncomputable def dIEnum (f : DA) : DI := fun δ h Q => f δ h fun ds h1 => match ds with | [d] => (match seqSrc h1 d with | some S => Q ⟨enumD 0 S.items, S.w⟩ h1 | none => False) | _ => False
noncomputable def dIRange (f : DA) : DI := fun δ h Q => f δ h fun ds h1 => match ds with
  | [.int j] => (-(2 ^ 62) ≤ j ∧ j < 2 ^ 62) ∧ Q ⟨rangeD 0 j.toNat, []⟩ h1
  | [.int i, .int j] => (-(2 ^ 62) ≤ i ∧ i < 2 ^ 62 ∧ -(2 ^ 62) ≤ j ∧ j < 2 ^ 62) ∧ Q ⟨rangeD i (j - i).toNat, []⟩ h1
  | _ => False
section
variable {X : Cx} {tg : Expr}
theorem PI.imp {e : Expr} {t t' : TI} (h : PI X tg e t) (k : ∀ σ H Q, t' σ H Q → t σ H Q) : PI X tg e t' := fun pins s σ H Q I q => h pins s σ H Q I (k σ H Q q)
noncomputable def iSeq (K : PySem.W.Frag) (tl : TE) : TI := fun σ H R => tl σ H fun x H1 => ∃ a, x = .ref a ∧ (((∃ xs, SqL K H1 a xs) ∧ R (Itl K a) H1) ∨ ((∃ xs, SqT K H1 a xs) ∧ R (Itt K a) H1))
theorem pi_seq {l : Expr} {tl : TE} (hl : PE X l tl) : PI X tg l (iSeq X.K tl) := by
  intro pins s σ H R I h
  refine thn (hl pins s σ H _ I h) fun v s1 zz0 => ?_
  obtain ⟨x, H1, I1, r1, q1⟩ := zz0
  obtain ⟨a, e, ⟨⟨xs, hq⟩, q⟩ | ⟨⟨xs, hq⟩, q⟩⟩ := q1
  · subst e
    cases r1
    obtain ⟨its, rv, p, hz⟩ := I1.list hq
    refine wpAny_pyIter_list p.isList ?_
    refine ⟨s1.heap.objs.size, [s1.heap.objs.size], _, _, H1, rfl, I1.kept (t' := s1.toks) fun b o e => Heap.get?_push_of_some _ e, turn_list a _, ⟨_, Heap.get?_push_size _ rfl, rfl, rfl⟩, fun b hb => ?_, q⟩
    have e : b = s1.heap.objs.size := by simpa using hb
    subst e
    exact I1.fpOk (Nat.le_refl _) (I1.hok.fresh (Nat.le_refl _))
  · subst e
    cases r1
    obtain ⟨its, rv, p, hz⟩ := I1.tuple hq
    refine wpAny_pyIter_tuple (show s1.heap.IsTuple a its.toArray from p) ?_
    refine ⟨s1.heap.objs.size, [s1.heap.objs.size], _, _, H1, rfl, I1.kept (t' := s1.toks) fun b o e => Heap.get?_push_of_some _ e, turn_tuple a _, ⟨_, Heap.get?_push_size _ rfl, rfl, rfl⟩, fun b hb => ?_, q⟩
    have e : b = s1.heap.objs.size := by simpa using hb
    subst e
    exact I1.fpOk (Nat.le_refl _) (I1.hok.fresh (Nat.le_refl _))
theorem si_seq {l : Expr} {f : DE} (hl : SE X l f) : SI X tg l (dISeq f) := PI.imp (pi_seq hl) fun σ H Q zz0 => by
  obtain ⟨π, α, δ, h, Q', R, S, f, k⟩ := zz0
  refine ⟨π, α, δ, h, _, R, S, f, fun d h1 α1 H1 v1 f1 e1 R1 q1 => ?_⟩
  cases q : seqSrc h1 d with
  | none => rw [q] at f1; exact f1.elim
  | some Sr =>
    rw [q] at f1
    obtain ⟨a, rfl, ok, ⟨hu, sa⟩ | ⟨hu, sa⟩⟩ := seqSrc_ok R1 q1 q
    · exact ⟨a, rfl, .inl ⟨hu, k Sr h1 α1 H1 _ f1 e1 R1 (it_list sa) ok⟩⟩
    · exact ⟨a, rfl, .inr ⟨hu, k Sr h1 α1 H1 _ f1 e1 R1 (it_tup sa) ok⟩⟩
noncomputable def iEnumS (K : PySem.W.Frag) (ta : TA) : TI := fun σ H R => ta σ H fun vs H1 => ∃ a, vs = [.ref a] ∧ (((∃ xs, SqL K H1 a xs) ∧ R (Ite fun H xs => SqL K H a xs) H1) ∨ ((∃ xs, SqT K H1 a xs) ∧ R (Ite fun H xs => SqT K H a xs) H1))
theorem pi_enumS {a : Expr} {ta : TA} {p pos : Pos} (hg : Gl X "enumerate") (hm : X.mg "enumerate" = none) (ha : PA X [a] ta) (htg : ∃ es x1 pos, tg = .Tuple es x1 pos := by exact ⟨_, _, _, rfl⟩) (hs : starEach [a] X.env = [(false, eval a X.env)] := by rfl) : PI X tg (.Call (.Name "enumerate" p) [a] [] pos) (iEnumS X.K ta) := by
  intro pins s σ H R I h
  refine PyProof.Rows.Call_ (ld_blt I hg hm PyProof.Rows.boot_enumerate (PyProof.Rows.callWith_type1 (thn (ha pos pins s σ H _ I h) fun us s1 ⟨vs, H1, I1, r1, q1⟩ => ?_) hs rfl))
  obtain ⟨a, e, ⟨⟨xs, hq⟩, q⟩ | ⟨⟨xs, hq⟩, q⟩⟩ := q1
  · subst e
    obtain ⟨u, rfl, ru⟩ := vals1 r1
    cases ru
    obtain ⟨its, rv, p, hz⟩ := I1.list hq
    exact call_enumerate_list p.isList fun h' he hit _ hk => enum_fin htg I1 (src_list a _) he hit hk q
  · subst e
    obtain ⟨u, rfl, ru⟩ := vals1 r1
    cases ru
    obtain ⟨its, rv, p, hz⟩ := I1.tuple hq
    exact call_enumerate_tuple (show s1.heap.IsTuple a its.toArray from p) fun h' he hit _ hk => enum_fin htg I1 (src_tup a _) he hit hk q
theorem si_enum {a : Expr} {n : Nat} {fs : DA} {p pos : Pos} (hg : Gl X "enumerate") (hm : X.mg "enumerate" = none) (ha : SA X [a] n fs) (htg : ∃ es x1 pos, tg = .Tuple es x1 pos := by exact ⟨_, _, _, rfl⟩) (hs : starEach [a] X.env = [(false, eval a X.env)] := by rfl) : SI X tg (.Call (.Name "enumerate" p) [a] [] pos) (dIEnum fs) := PI.imp (pi_enumS hg hm ha htg hs) fun σ H Q zz0 => by
  obtain ⟨π, α, δ, h, Q', R, S, f, k⟩ := zz0
  refine ⟨π, α, δ, h, _, R, S, f, fun ds h1 α1 H1 vs f1 e1 R1 q1 l1 => ?_⟩
  split at f1
  · rename_i d
    obtain ⟨v, rfl, q3⟩ := q1.inv1
    cases q : seqSrc h1 d with
    | none => rw [q] at f1; exact f1.elim
    | some Sr =>
      rw [q] at f1
      obtain ⟨a, rfl, ok, ⟨hu, sa⟩ | ⟨hu, sa⟩⟩ := seqSrc_ok R1 q3 q
      · exact ⟨a, rfl, .inl ⟨hu, k ⟨enumD 0 Sr.items, Sr.w⟩ h1 α1 H1 _ f1 e1 R1 (it_enum sa) ok⟩⟩
      · exact ⟨a, rfl, .inr ⟨hu, k ⟨enumD 0 Sr.items, Sr.w⟩ h1 α1 H1 _ f1 e1 R1 (it_enum sa) ok⟩⟩
  · exact f1.elim
theorem si_range1 {a : Expr} {n : Nat} {fs : DA} {p pos : Pos} (hg : Gl X "range") (hm : X.mg "range" = none) (ha : SA X [a] n fs) (hs : starEach [a] X.env = [(false, eval a X.env)] := by rfl) (hn : n = 1 := by rfl) : SI X tg (.Call (.Name "range" p) [a] [] pos) (dIRange fs) := PI.imp (pi_range1 hg hm ha hs) fun σ H Q zz0 => by
  obtain ⟨π, α, δ, h, Q', R, S, f, k⟩ := zz0
  refine ⟨π, α, δ, h, _, R, S, f, fun ds h1 α1 H1 vs f1 e1 R1 q1 l1 => ?_⟩
  split at f1
  · obtain ⟨v, rfl, q3⟩ := q1.inv1
    cases q3 with
    | int => exact ⟨_, rfl, f1.1.1, f1.1.2, k _ h1 α1 H1 _ f1.2 e1 R1 it_range Src.ok_nil⟩
  · subst hn; cases l1
  · exact f1.elim
end
end DL
namespace DL
open PySem PySem.Spec L2
noncomputable def dCB (p : PN) (f : DA) : DE := fun δ h Q => f δ h fun ds h1 => p ds h1 Q
theorem cb_lift {K : PySem.W.Frag} {p : PN} {n : Nat} {f : DA} {σ : L2.St} {H : Hp} {Q : VK} (g : LE K (dCB p f) σ H Q) : LA K n f σ H fun vs H1 => rN K p vs H1 Q := by
  obtain ⟨π, α, δ, h, Q', R, S, f, k⟩ := g
  exact ⟨π, α, δ, h, _, R, S, f, fun ds h1 α1 H1 vs f1 e1 R1 q1 l1 => ⟨π, α1, h1, ds, Q', R1, q1, f1, fun d h' α' H' v a b c d' => k d h' α' H' v a (e1.trans b) c d'⟩⟩
section
variable {X : Cx} {x : Str} {p pos : Pos} {e : Expr} {es : List Expr} {n : Nat} {f : DA} {id T : String} {r : PN}
theorem se_callB (hc : CallR X (.builtin id) (rN X.K r)) (hg : Gl X x) (hm : X.mg x = none) (hv : bootBuiltins x = some (.builtin id)) (ha : SA X (e :: es) n f) (hn : x ≠ "__name__" := by decide) (hdb : (x == ("__debug__" : Str)) = false := by decide)
    (he : starEach (e :: es) X.env = (false, eval e X.env) :: starEach es X.env := by rfl) (hpl : (backTo pos (starEach es X.env)).any (·.1) = false := by rfl) : SE X (.Call (.Name x p) (e :: es) [] pos) (dCB r f) :=
  PE.imp (pe_callB hc hg hm hv ha hn hdb he hpl) fun _ _ _ g => cb_lift g
theorem se_callTy (hc : CallR X (.type T) (rN X.K r)) (hg : Gl X x) (hm : X.mg x = none) (hv : bootBuiltins x = some (.type T)) (ha : SA X (e :: es) n f) (hn : x ≠ "__name__" := by decide) (hdb : (x == ("__debug__" : Str)) = false := by decide)
    (he : starEach (e :: es) X.env = (false, eval e X.env) :: starEach es X.env := by rfl) (hpl : (backTo pos (starEach es X.env)).any (·.1) = false := by rfl) : SE X (.Call (.Name x p) (e :: es) [] pos) (dCB r f) :=
  PE.imp (pe_callTy hc hg hm hv ha hn hdb he hpl) fun _ _ _ g => cb_lift g
noncomputable def lenD (h : Hh) : D → Option Nat
  | .str x => if x.length ≤ 16777216 then some x.length else none
  | d => (seqOf h d).map List.length
noncomputable def pLen : PN := fun ds h Q => match ds with | [d] => (match lenD h d with | some n => Q (.int n) h | none => False) | _ => False
theorem ok_len : CallR X (.builtin "len") (rN X.K pLen) := CallR.imp call_len fun xs H Q zz0 => by
  obtain ⟨π, α, h, ds, Q', R, rs, f, k⟩ := zz0
  unfold pLen at f
  split at f
  · rename_i d
    obtain ⟨v, rfl, rd⟩ := rs.inv1
    cases q : lenD h d with
    | none => rw [q] at f; exact f.elim
    | some n =>
      rw [q] at f
      refine ⟨v, n, rfl, ?_, k _ h α H _ f (Ext.refl ..) R (.int _)⟩
      by_cases z : ∃ x, d = .str x
      · obtain ⟨x, rfl⟩ := z
        cases rd
        have q : (if x.length ≤ 16777216 then some x.length else none) = some n := q
        split at q
        · rename_i hl
          cases q
          exact ⟨by rw [sizeLine_eq]; exact hl, rfl⟩
        · cases q
      · have q' : (seqOf h d).map List.length = some n := by
          cases d with
          | str x => exact absurd ⟨x, rfl⟩ z
          | _ => exact q
        cases w : seqOf h d with
        | none => rw [w] at q'; cases q'
        | some ys =>
          rw [w] at q'
          cases q'
          obtain ⟨p, us, rfl, b, c⟩ := seqOf_sq R rd w
          rcases b with b | b
          · exact .inl ⟨us, b, c.length⟩
          · exact .inr ⟨us, b, c.length⟩
  · exact f.elim
noncomputable def pTuple : PN := fun ds h Q => match ds with | [d] => (match seqOf h d with | some xs => Q (.tup xs) h | none => False) | _ => False
theorem ok_tuple : CallR X (.type "tuple") (rN X.K pTuple) := CallR.imp call_tuple_of fun xs H Q zz0 => by
  obtain ⟨π, α, h, ds, Q', R, rs, f, k⟩ := zz0
  unfold pTuple at f
  split at f
  · rename_i d
    obtain ⟨v, rfl, rd⟩ := rs.inv1
    cases w : seqOf h d with
    | none => rw [w] at f; exact f.elim
    | some ys =>
      rw [w] at f
      by_cases z : ∃ x, d = .tup x
      · obtain ⟨x, rfl⟩ := z
        cases w
        cases rd with
        | tup t r => exact ⟨_, _, rfl, .inr ⟨t.sq, k _ h α H _ f (Ext.refl ..) R (.tup t r)⟩⟩
      · have w' : lsOf h d = some ys := by
          cases d with
          | tup x => exact absurd ⟨x, rfl⟩ z
          | lst x => exact w
          | scr x => exact w
          | ref x => exact w
          | _ => cases w
        obtain ⟨p, us, rfl, b, c⟩ := lsOf_sq R rd w'
        refine ⟨p, us, rfl, .inl ⟨b, fun l hl => ?_⟩⟩
        have e2 : Ext α H α (upd H l (.tup us)) := Ext.new hl
        exact k _ h α _ _ f e2 (R.new hl) (.tup ⟨R.out hl, R.outP hl, upd_same⟩ (c.mono e2))
  · exact f.elim
noncomputable def dListOf (f : DA) : DN := fun δ h Q => f δ h fun ds h1 => match ds with | [d] => (match seqOf h1 d with | some xs => Q xs h1 | none => False) | _ => False
theorem sn_list (hg : Gl X "list") (hm : X.mg "list" = none) (ha : SA X (e :: es) n f) (he : starEach (e :: es) X.env = (false, eval e X.env) :: starEach es X.env := by rfl) (hpl : (backTo pos (starEach es X.env)).any (·.1) = false := by rfl) :
    SN X (.Call (.Name "list" p) (e :: es) [] pos) (dListOf f) := PE.imp (pe_callTy call_list_of hg hm PyProof.Rows.boot_list ha (by decide) (by decide) he hpl) fun σ H Q ⟨π, α, δ, h, Q', R, S, f, k⟩ => by
  refine ⟨π, α, δ, h, _, R, S, f, fun ds h1 α1 H1 vs f1 e1 R1 q1 l1 => ?_⟩
  split at f1
  · rename_i d
    obtain ⟨v, rfl, rd⟩ := q1.inv1
    cases w : seqOf h1 d with
    | none => rw [w] at f1; exact f1.elim
    | some ys =>
      rw [w] at f1
      obtain ⟨p, us, rfl, b, c⟩ := seqOf_sq R1 rd w
      exact ⟨p, us, rfl, b, fun l hl => LN.last (h := h) k f1 e1 R1 c hl⟩
  · exact f1.elim
noncomputable def pInt : PN := fun ds h Q => match ds with | [.int i] => Q (.int i) h | [.bl b] => Q (.int (if b then 1 else 0)) h | _ => False
theorem ok_int : CallR X (.type "int") (rN X.K pInt) := CallR.imp call_int1 fun xs H Q zz0 => by
  obtain ⟨π, α, h, ds, Q', R, rs, f, k⟩ := zz0
  unfold pInt at f
  split at f
  · obtain ⟨v, rfl, rd⟩ := rs.inv1
    cases rd
    exact .inl ⟨_, rfl, k _ h α H _ f (Ext.refl ..) R (.int _)⟩
  · obtain ⟨v, rfl, rd⟩ := rs.inv1
    cases rd
    exact .inr ⟨_, rfl, k _ h α H _ f (Ext.refl ..) R (.int _)⟩
  · exact f.elim
noncomputable def pMin : PN := fun ds h Q => match ds with | [.int i, .int j] => Q (.int (if j < i then j else i)) h | _ => False
noncomputable def pMax : PN := fun ds h Q => match ds with | [.int i, .int j] => Q (.int (if j > i then j else i)) h | _ => False
noncomputable def pAbs : PN := fun ds h Q => match ds with | [.int i] => Q (.int (if i < 0 then -i else i)) h | _ => False
noncomputable def pAll : PN := fun ds h Q => ∃ (d : D) (bs : List Bool), ds = [d] ∧ lsOf h d = some (bs.map D.bl) ∧ Q (.bl (bs.all fun b => b)) h
theorem ok_all (hc : X.calm = true) : CallR X (.builtin "all") (rN X.K pAll) := CallR.imp (call_all_bools hc) fun xs H Q zz0 => by
  obtain ⟨π, α, h, ds, Q', R, rs, f, k⟩ := zz0
  obtain ⟨d, ns, rfl, w, f⟩ := f
  obtain ⟨v, rfl, rd⟩ := rs.inv1
  obtain ⟨p, us, rfl, b, c⟩ := lsOf_sq R rd w
  cases c.bls_inv
  exact ⟨p, ns, rfl, b, k _ h α H _ f (Ext.refl ..) R (.bl _)⟩
end
section
variable {X : Cx} {o e : Expr} {fo fe : DE} {fs : DA} {n : Nat} {apos cpos : Pos}
noncomputable def dBits (fo : DE) : DE := fun δ h Q => fo δ h fun d h1 => match d with | .int i => Q (.int (Builtin.Int.intBits i : Nat)) h1 | _ => False
noncomputable def dAppend (fo : DE) (fs : DA) : DE := fun δ h Q => fo δ h fun d h1 => match d with
  | .ref i => (match h1[i]? with
    | some (.lst _) => fs δ h1 fun ds h2 => (match ds, h2[i]? with
      | [v], some (.lst ys) => ys.length < 16777216 ∧ Q .non (h2.set i (.lst (ys ++ [v])))
      | _, _ => False)
    | _ => False)
  | _ => False
theorem refL {K : PySem.W.Frag} {π α : List Addr} {H : Hp} {h : Hh} (R : HRel ⟨K, π⟩ α H h) {i : Nat} {a : Addr} {xs : List D} (hp : α[i]? = some a) (w : h[i]? = some (.lst xs)) : ∃ us, H a = some (.lst us) ∧ RelDs ⟨K, π⟩ α H xs us := by
  obtain ⟨p, us, e1, e2, e3⟩ := R.lst w
  rw [hp] at e1; cases e1
  exact ⟨us, e2, e3⟩
theorem se_append (ho : SE X o fo) (ha : SA X [e] n fs) (hbase : attributeBase o "append" X.env (eval o X.env) = eval o X.env := by rfl)
    (hfew : ((backTo cpos (starEach [e] X.env)).all (fun x => !x.1) && (backToKw cpos (keywordEach [] X.env)).all (fun x => x.1.isSome)
      && decide ([e].length + ([] : List Keyword).length + (if ([] : List Keyword).isEmpty then 0 else 1) < 30)) = true := by rfl)
    (hline : (apos.endLine == cpos.line) = true := by rfl) (hs : starEach [e] X.env = (false, eval e X.env) :: starEach [] X.env := by rfl) (hplain : (backTo cpos (starEach [] X.env)).any (·.1) = false := by rfl) :
    SE X (.Call (.Attribute o "append" apos) [e] [] cpos) (dAppend fo fs) :=
  PE.imp (pe_bm PySem.F.plainAttrs_list PySem.F.slot_list_append PySem.F.type_list_append mt_append ho ha hbase hfew hline hs hplain) fun σ H Q zz0 => by
    obtain ⟨π, α, δ, h, Q', R, S, f, k⟩ := zz0
    refine ⟨π, α, δ, h, _, R, S, f, fun d h1 α1 H1 v1 f1 e1 R1 q1 => ?_⟩
    cases q1 with
    | @ref i a hp =>
      dsimp only at f1
      cases w : h1[i]? with
      | none => rw [w] at f1; exact f1.elim
      | some ob =>
        rw [w] at f1
        cases ob with
        | lst xs =>
          obtain ⟨us, e2, e3⟩ := refL R1 hp w
          refine ⟨.inl ⟨rfl, us, SqL.of e2⟩, π, α1, δ, h1, _, R1, S.mono e1, f1, fun ds h2 α2 H2 vs f2 e2 R2 q2 l2 => ?_⟩
          split at f2
          · rename_i v ys w2
            obtain ⟨u, rfl, q9⟩ := q2.inv1
            have hp2 := e2.get hp
            obtain ⟨us2, g2, g3⟩ := refL R2 hp2 w2
            have e4 : Ext α2 H2 α2 (upd H2 a (.lst (us2 ++ [u]))) := Ext.write (List.mem_of_getElem? hp2)
            exact ⟨a, us2, u, rfl, rfl, g2, by rw [← g3.length, sizeLine_eq]; exact f2.1, k _ _ α2 _ _ f2.2 (e1.trans (e2.trans e4)) (R2.write hp2 (.lst upd_same ((g3.snoc q9).mono e4))) .non⟩
          · exact f2.elim
        | _ => exact f1.elim
    | _ => exact f1.elim
noncomputable def dPop (fo : DE) : DE := fun δ h Q => fo δ h fun d h1 => match d with
  | .ref i => (match h1[i]? with
    | some (.lst xs) => (match xs[xs.length - 1]? with | some y => Q y (h1.set i (.lst xs.dropLast)) | none => False)
    | _ => False)
  | _ => False
noncomputable def dClear (fo : DE) : DE := fun δ h Q => fo δ h fun d h1 => match d with
  | .ref i => (match h1[i]? with | some (.lst _) => Q .non (h1.set i (.lst [])) | _ => False)
  | _ => False
end
noncomputable abbrev DSp := List D → Hh → DK → Prop
inductive spD (K : PySem.W.Frag) (n : Nat) (g : DSp) (vs : List V) (H : Hp) (Q : VK) (X9 : XK) : Prop
  | mk (π : List Addr) (α : List Addr) (h : Hh) (ds : List D) (Q' : DK) : HRel ⟨K, π⟩ α H h → RelDs ⟨K, π⟩ α H ds vs → ds.length = n → g ds h Q' → (∀ d h' α' H' v, Q' d h' → Ext α H α' H' → HRel ⟨K, π⟩ α' H' h' → RelD ⟨K, π⟩ α' H' d v → Q v H') → spD K n g vs H Q X9
noncomputable def dCal (g : DSp) (f : DA) : DE := fun δ h Q => f δ h fun ds h1 => g ds h1 Q
section
variable {X : Cx} {k m : Nat} {ps : List Str} {g : DSp} {x : Str} {p pos : Pos} {e : Expr} {es : List Expr} {n : Nat} {f : DA}
theorem se_cal (c : Cal X.prog X.w X.K X.mg X.base k x ps (spD X.K m g)) (hr : Room k X.A) (hg : Gl X x) (ha : SA X (e :: es) n f) (hn : n = m := by rfl) (hdb : (x == ("__debug__" : Str)) = false := by decide)
    (he : starEach (e :: es) X.env = (false, eval e X.env) :: starEach es X.env := by rfl) (hpl : (backTo pos (starEach es X.env)).any (·.1) = false := by rfl) : SE X (.Call (.Name x p) (e :: es) [] pos) (dCal g f) :=
  PE.imp (pe_cal c hr hg ha hdb he hpl) fun σ H Q zz0 => by
    obtain ⟨π, α, δ, h, Q', R, S, f, k⟩ := zz0
    refine ⟨π, α, δ, h, _, R, S, f, fun ds h1 α1 H1 vs f1 e1 R1 q1 l1 => ?_⟩
    show spD X.K m g (vs ++ []) H1 Q E0
    rw [List.append_nil]
    exact ⟨π, α1, h1, ds, Q', R1, q1, l1.trans hn, f1, fun d h' α' H' v a b c d' => k d h' α' H' v a (e1.trans b) c d'⟩
end
noncomputable def runD (n : Nat) (b : DS) : DSp := fun ds h Q => b { nx := fun _ h' => Q .non h', rt := Q } (ds.map some ++ List.replicate (n - ds.length) none) h
theorem relS_start {K : KP} {α : List Addr} {H : Hp} {ds : List D} {vs : List V} {N : List Str} (r : RelDs K α H ds vs) : RelS K α H (ds.map some ++ List.replicate (N.length - ds.length) none) (L2.start N vs) := by
  refine ⟨by unfold L2.start; simp [r.length], fun i d e => ?_⟩
  by_cases hi : i < ds.length
  · rw [List.getElem?_append_left (by simpa using hi), List.getElem?_map] at e
    cases q : ds[i]? with
    | none => rw [q] at e; cases e
    | some z =>
      rw [q] at e
      cases e
      obtain ⟨u, h1, h2⟩ := r.get q
      refine ⟨u, ?_, h2⟩
      unfold L2.start
      rw [List.getElem?_append_left (by rw [List.length_map, ← r.length]; exact hi), List.getElem?_map, h1]; rfl
  · rw [List.getElem?_append_right (by simpa using hi), List.getElem?_replicate] at e
    split at e <;> cases e
section
variable {P : Program} {w : World} {K : PySem.W.Frag} {mg : Str → Option Value} {base : Heap}
theorem fn_ok {x qual : Str} {st : Stmt} {f : Addr} {fd : FuncData} {N ps : List Str} {k : Nat} {b : DS} {g : DSp} (F : Fun K x qual st f fd) (S : FnScope N ps (defScope st))
    (hb : ∀ (cdv : Value) (A : Around) (outer : List Env) (s : Shared) (H : Hp) (E : XK), Room k (A.deeper (PyProof.Rows.envOfC qual (defScope st) s.heap.objs.size f cdv)) → SSs (cxOf CX0 P w K mg base N qual (defScope st) f cdv A outer s H E).nox (defBody st) b)
    (hg : ∀ ds h Q, g ds h Q → runD N.length b ds h Q) : FnOk P w K mg base CX0 (k + 1) f fd ps (spD K ps.length g) := by
  refine F.ok S (fun vs H Q E h => ?_) fun cdv A outer s H vs Q E hr h => ?_
  · obtain ⟨π, α, h, ds, Q', R, r, l, _⟩ := h
    rw [← r.length, l]
  · obtain ⟨π, α, h, ds, Q', R, r, l, q, kk⟩ := h
    refine ⟨_, hb cdv A outer s H E hr, π, α, _, h, { nx := fun _ h' => Q' .non h', rt := Q' }, R, relS_start r, hg ds h Q' q, ⟨fun _ h' α' H' σ' a b c _ => kk .non h' α' H' .non a b c .non, fun d h' α' H' v a b c d' => kk d h' α' H' v a b c d', fun _ _ _ _ _ a _ _ _ => a.elim, fun _ _ _ _ _ a _ _ _ => a.elim, fun _ _ _ _ _ _ _ a _ _ _ => a.elim⟩⟩
end
end DL
namespace DL
open PySem PySem.Spec L2
noncomputable def lsP (h : Hh) : D → Option (List D)
  | .lst xs => some xs
  | .ref i => match h[i]? with | some (.lst xs) => some xs | _ => none
  | _ => none
theorem lsP_sq {K : KP} {α : List Addr} {H : Hp} {h : Hh} (R : HRel K α H h) {d : D} {v : V} {xs : List D} (r : RelD K α H d v) (e : lsP h d = some xs) : ∃ p us, v = .ref p ∧ H p = some (.lst us) ∧ RelDs K α H xs us := by
  cases r with
  | lst t r => cases e; exact ⟨_, _, rfl, t.2.2, r⟩
  | @ref i a hp =>
    have e : (match h[i]? with | some (.lst xs) => some xs | _ => none) = some xs := e
    cases q : h[i]? with
    | none => rw [q] at e; cases e
    | some o =>
      rw [q] at e
      cases o with
      | lst ys =>
        cases e
        obtain ⟨p, us, e1, e2, e3⟩ := R.lst q
        rw [hp] at e1; cases e1
        exact ⟨_, us, rfl, e2, e3⟩
      | _ => cases e
  | _ => cases e
noncomputable def pPlus : P2 := fun x y h Q => match lsP h x, lsP h y with
  | some xs, some ys => xs.length + ys.length ≤ 16777216 ∧ Q (.lst (xs ++ ys)) h
  | _, _ => pAdd x y h Q
section
variable {X : Cx}
theorem ok_plus : OpR X (binaryOp .Add) (r2 X.K pPlus) := OpR.imp (op_cat.or ok_add) fun x y H Q zz0 => by
  obtain ⟨π, α, h, d, e, Q', R, r1, r2, f, k⟩ := zz0
  unfold pPlus at f
  cases w : lsP h d with
  | none => rw [w] at f; exact .inr ⟨π, α, h, d, e, Q', R, r1, r2, f, k⟩
  | some xs =>
    cases w' : lsP h e with
    | none => rw [w, w'] at f; exact .inr ⟨π, α, h, d, e, Q', R, r1, r2, f, k⟩
    | some ys =>
      rw [w, w'] at f
      obtain ⟨p, us, rfl, b, c⟩ := lsP_sq R r1 w
      obtain ⟨p', us', rfl, b', c'⟩ := lsP_sq R r2 w'
      refine .inl ⟨p, p', us, us', rfl, rfl, b, b', by rw [← c.length, ← c'.length, sizeLine_eq]; exact f.1, fun l hl => ?_⟩
      have e2 : Ext α H α (upd H l (.lst (us ++ us'))) := Ext.new hl
      exact k _ h α _ _ f.2 e2 (R.new hl) (.lst ⟨R.out hl, R.outP hl, upd_same⟩ ((c.append c').mono e2))
noncomputable def dCatN (fa fb : DE) : DN := fun δ h Q => fa δ h fun x h1 => fb δ h1 fun y h2 => match lsP h2 x, lsP h2 y with
  | some xs, some ys => xs.length + ys.length ≤ 16777216 ∧ Q (xs ++ ys) h2
  | _, _ => False
theorem rel_rep {K : KP} {α : List Addr} {H : Hp} {ds : List D} {us : List V} (r : RelDs K α H ds us) : ∀ n : Nat, RelDs K α H (List.replicate n ds).flatten (List.replicate n us).flatten
  | 0 => .nil
  | n + 1 => by rw [List.replicate_succ, List.replicate_succ, List.flatten_cons, List.flatten_cons]; exact r.append (rel_rep r n)
noncomputable def dRepN (fa fb : DE) : DN := fun δ h Q => fa δ h fun x h1 => fb δ h1 fun y h2 => match lsP h2 x, y with
  | some xs, .int n => (-(2 ^ 63) ≤ n ∧ n < 2 ^ 63 ∧ xs.length * n.toNat ≤ 16777216) ∧ Q (List.replicate n.toNat xs).flatten h2
  | _, _ => False
theorem sn_rep {a b : Expr} {fa fb : DE} {pos : Pos} (ha : SE X a fa) (hb : SE X b fb) : SN X (.BinOp a .Mult b pos) (dRepN fa fb) := PE.imp (pe_op op_rep ha hb) fun σ H Q zz0 => by
  obtain ⟨π, α, δ, h, Q', R, S, f, k⟩ := zz0
  refine ⟨π, α, δ, h, _, R, S, f, fun x h1 α1 H1 v1 f1 e1 R1 q1 => ?_⟩
  refine ⟨π, α1, δ, h1, _, R1, S.mono e1, f1, fun y h2 α2 H2 v2 f2 e2 R2 q2 => ?_⟩
  split at f2
  · rename_i xs n w
    cases q2
    obtain ⟨p, us, rfl, b, c⟩ := lsP_sq R2 (q1.mono e2) w
    exact ⟨p, n, us, rfl, rfl, b, f2.1.1, f2.1.2.1, by rw [← c.length, sizeLine_eq]; exact f2.1.2.2, fun l hl => LN.last (h := h) k f2.2 (e1.trans e2) R2 (rel_rep c _) hl⟩
  · exact f2.elim
theorem op_mulB : OpR X (binaryOp .Mult) (rI IntMulOk fun i j => .int (i * j)) := opI fun _ _ _ _ _ _ _ hc q => PyProof.Rows.mul_int q hc
noncomputable def pMulI : P2 := pI IntMulOk fun i j => i * j
theorem ok_timesI : OpR X (binaryOp .Mult) (r2 X.K pMulI) := pI_ok op_mulB
noncomputable def pMul : P2 := fun x y h Q => match x, y with
  | .int i, .int j => IntMulOk i j ∧ Q (.int (i * j)) h
  | .tup xs, .int n => (xs ≠ [] ∧ xs.length ≤ 10 ∧ 1 ≤ n ∧ n < 100) ∧ Q (.tup (List.replicate n.toNat xs).flatten) h
  | x, .int n => (match lsP h x with | some xs => (-(2 ^ 63) ≤ n ∧ n < 2 ^ 63 ∧ xs.length * n.toNat ≤ 16777216) ∧ Q (.lst (List.replicate n.toNat xs).flatten) h | none => False)
  | _, _ => False
theorem ok_times : OpR X (binaryOp .Mult) (r2 X.K pMul) := OpR.imp (op_mulB.or (op_repT.or op_rep)) fun x y H Q zz0 => by
  obtain ⟨π, α, h, d, e, Q', R, r1, r2, f, k⟩ := zz0
  unfold pMul at f
  split at f
  · cases r1; cases r2
    exact .inl ⟨_, _, rfl, rfl, f.1, k _ h α H _ f.2 (Ext.refl ..) R (.int _)⟩
  · rename_i xs n
    cases r2
    cases r1 with
    | @tup a us ds t r =>
      obtain ⟨⟨f1, f2, f3, f4⟩, f5⟩ := f
      refine .inr (.inl ⟨a, _, us, rfl, rfl, t.sq, ?_, by rw [← r.length]; exact f2, f3, f4, fun z => ?_, fun z p hp => ?_⟩)
      · intro z; subst z; cases r; exact f1 rfl
      · subst z
        rw [show ∀ zs : List D, (List.replicate (1 : Int).toNat zs).flatten = zs from fun zs => by simp] at f5
        exact k _ h α H _ f5 (Ext.refl ..) R (.tup t r)
      · have e2 : Ext α H α (upd H p (.tup (List.replicate n.toNat us).flatten)) := Ext.new hp
        exact k _ h α _ _ f5 e2 (R.new hp) (.tup ⟨R.out hp, R.outP hp, upd_same⟩ ((rel_rep r _).mono e2))
  · rename_i n _ _
    cases r2
    split at f
    · rename_i xs w
      obtain ⟨p, us, rfl, b, c⟩ := lsP_sq R r1 w
      refine .inr (.inr ⟨p, _, us, rfl, rfl, b, f.1.1, f.1.2.1, by rw [← c.length, sizeLine_eq]; exact f.1.2.2, fun l hl => ?_⟩)
      have e2 : Ext α H α (upd H l (.lst (List.replicate n.toNat us).flatten)) := Ext.new hl
      exact k _ h α _ _ f.2 e2 (R.new hl) (.lst ⟨R.out hl, R.outP hl, upd_same⟩ ((rel_rep c _).mono e2))
    · exact f.elim
  · exact f.elim
noncomputable def dSl (fe : DE) (fl fh : DO) : DE := fun δ h Q => fe δ h fun d h1 => fl δ h1 fun l h2 => fh δ h2 fun u h3 => match d with
  | .tup xs => Q (.tup (cutD xs l u)) h3
  | d => match lsOf h3 d with | some xs => Q (.lst (cutD xs l u)) h3 | none => False
theorem se_sl {e : Expr} {fe : DE} {lo hi : Option Expr} {fl fh : DO} {pos p2 : Pos} (he : SE X e fe) (hl : SO X lo fl) (hu : SO X hi fh) : SE X (.Subscript e (.Slice lo hi none p2) pos) (dSl fe fl fh) := PE.imp (pe_slice (sl_tupD.or sl_list) he hl hu) fun σ H Q zz0 => by
  obtain ⟨π, α, δ, h, Q', R, S, f, k⟩ := zz0
  refine ⟨π, α, δ, h, _, R, S, f, fun d h1 α1 H1 v1 f1 e1 R1 q1 => ?_⟩
  refine ⟨π, α1, δ, h1, _, R1, S.mono e1, f1, fun l h2 α2 H2 f2 e2 R2 => ?_⟩
  refine ⟨π, α2, δ, h2, _, R2, S.mono (e1.trans e2), f2, fun u h3 α3 H3 f3 e3 R3 => ?_⟩
  have q3 := (q1.mono e2).mono e3
  split at f3
  · cases q3 with
    | @tup a us ds t r =>
      refine .inl ⟨a, us, rfl, t.sq, fun z => ?_, fun p hp => ?_⟩
      · have c := cut_rel r l u
        rw [z] at c
        exact k _ h3 α3 H3 _ f3 (e1.trans (e2.trans e3)) R3 (.tup t c)
      · have e4 : Ext α3 H3 α3 (upd H3 p (.tup (cutV us l u))) := Ext.new hp
        exact k _ h3 α3 _ _ f3 (e1.trans (e2.trans (e3.trans e4))) (R3.new hp) (.tup ⟨R3.out hp, R3.outP hp, upd_same⟩ ((cut_rel r l u).mono e4))
  · split at f3
    · rename_i xs w
      obtain ⟨p, us, rfl, b, c⟩ := lsOf_sq R3 q3 w
      refine .inr ⟨p, us, rfl, b, fun l' hl => ?_⟩
      have e4 : Ext α3 H3 α3 (upd H3 l' (.lst (cutV us l u))) := Ext.new hl
      exact k _ h3 α3 _ _ f3 (e1.trans (e2.trans (e3.trans e4))) (R3.new hl) (.lst ⟨R3.out hl, R3.outP hl, upd_same⟩ ((cut_rel c l u).mono e4))
    · exact f3.elim
noncomputable def dExtend (fo : DE) (fs : DA) : DE := fun δ h Q => fo δ h fun d h1 => match d with
  | .ref i => (match h1[i]? with
    | some (.lst _) => fs δ h1 fun ds h2 => (match ds, h2[i]? with
      | [v], some (.lst ys) => (match lsP h2 v with | some zs => ys.length + zs.length ≤ 16777216 ∧ Q .non (h2.set i (.lst (ys ++ zs))) | none => False)
      | _, _ => False)
    | _ => False)
  | _ => False
theorem se_extend {o e : Expr} {fo : DE} {fs : DA} {n : Nat} {apos cpos : Pos} (ho : SE X o fo) (ha : SA X [e] n fs) (hbase : attributeBase o "extend" X.env (eval o X.env) = eval o X.env := by rfl)
    (hfew : ((backTo cpos (starEach [e] X.env)).all (fun x => !x.1) && (backToKw cpos (keywordEach [] X.env)).all (fun x => x.1.isSome)
      && decide ([e].length + ([] : List Keyword).length + (if ([] : List Keyword).isEmpty then 0 else 1) < 30)) = true := by rfl)
    (hline : (apos.endLine == cpos.line) = true := by rfl) (hs : starEach [e] X.env = (false, eval e X.env) :: starEach [] X.env := by rfl) (hplain : (backTo cpos (starEach [] X.env)).any (·.1) = false := by rfl) :
    SE X (.Call (.Attribute o "extend" apos) [e] [] cpos) (dExtend fo fs) :=
  PE.imp (pe_bm PySem.F.plainAttrs_list PySem.F.slot_list_extend PySem.F.type_list_extend mt_extend ho ha hbase hfew hline hs hplain) fun σ H Q zz0 => by
    obtain ⟨π, α, δ, h, Q', R, S, f, k⟩ := zz0
    refine ⟨π, α, δ, h, _, R, S, f, fun d h1 α1 H1 v1 f1 e1 R1 q1 => ?_⟩
    cases q1 with
    | @ref i a hp =>
      dsimp only at f1
      cases w : h1[i]? with
      | none => rw [w] at f1; exact f1.elim
      | some ob =>
        rw [w] at f1
        cases ob with
        | lst xs =>
          obtain ⟨us, e2, e3⟩ := refL R1 hp w
          refine ⟨.inl ⟨rfl, us, SqL.of e2⟩, π, α1, δ, h1, _, R1, S.mono e1, f1, fun ds h2 α2 H2 vs f2 e2 R2 q2 l2 => ?_⟩
          split at f2
          · rename_i v ys w2
            obtain ⟨u, rfl, q9⟩ := q2.inv1
            split at f2
            · rename_i zs w3
              have hp2 := e2.get hp
              obtain ⟨us2, g2, g3⟩ := refL R2 hp2 w2
              obtain ⟨b, us3, rfl, g4, g5⟩ := lsP_sq R2 q9 w3
              have e4 : Ext α2 H2 α2 (upd H2 a (.lst (us2 ++ us3))) := Ext.write (List.mem_of_getElem? hp2)
              exact ⟨a, b, us2, us3, rfl, rfl, g2, g4, by rw [← g3.length, ← g5.length, sizeLine_eq]; exact f2.1, k _ _ α2 _ _ f2.2 (e1.trans (e2.trans e4)) (R2.write hp2 (.lst upd_same ((g3.append g5).mono e4))) .non⟩
            · exact f2.elim
          · exact f2.elim
        | _ => exact f1.elim
    | _ => exact f1.elim
noncomputable def kindD (h : Hh) : D → Option String
  | .non => some "NoneType"
  | .bl _ => some "bool"
  | .int _ => some "int"
  | .str _ => some "str"
  | .tup _ => some "tuple"
  | .lst _ => some "list"
  | .ref i => match h[i]? with | some (.lst _) => some "list" | some (.dT _) => some "dict" | some (.dK _) => some "dict" | _ => none
  | _ => none
noncomputable def isKind (t T : String) : Bool := t == T || (t == "bool" && T == "int")
theorem kit_of {K : PySem.W.Frag} {t T : String} (ht : t ∈ ["NoneType", "bool", "int", "str", "tuple", "list", "dict"]) (hT : T ∈ ["bool", "int", "str", "tuple", "list", "dict"]) : PySem.W.kitOne K (.type t) (.type T) = some (isKind t T) := by
  simp only [List.mem_cons, List.not_mem_nil, or_false] at ht hT
  rcases ht with rfl | rfl | rfl | rfl | rfl | rfl | rfl <;> rcases hT with rfl | rfl | rfl | rfl | rfl | rfl <;> rfl
noncomputable def dIsinst (T : String) (fa : DE) : DE := fun δ h Q => fa δ h fun d h1 => match kindD h1 d with | some t => Q (.bl (isKind t T)) h1 | none => False
theorem kind_in {h : Hh} {d : D} {t : String} (e : kindD h d = some t) : t ∈ ["NoneType", "bool", "int", "str", "tuple", "list", "dict"] := by
  unfold kindD at e
  split at e
  all_goals first | (cases e; done) | (cases e; decide) | skip
  split at e
  all_goals first | (cases e; done) | (cases e; decide)
theorem call_isinstD {T : String} : CallR X (.builtin "isinstance") (fun xs H Q => ∃ x t b, xs = [x, .ty T] ∧ (TyOf X.K H x t ∨ (t = .type "tuple" ∧ ∃ a us, x = .ref a ∧ SqT X.K H a us)) ∧ PySem.W.kitOne X.K t (.type T) = some b ∧ Q (.bl b) H) := by
  intro pins s σ H xs us Q I r h
  obtain ⟨x, t, b, rfl, ty, e, q⟩ := h
  obtain ⟨u, w', rfl, ru, rw'⟩ := vals2 r
  cases rw'
  rcases ty with ty | ⟨rfl, a, us, rfl, hq⟩
  · exact isinst_ok I ru ty e fun tk => ⟨.bl b, H, I.tok _, rfl, q⟩
  · cases ru
    obtain ⟨its, rv, ⟨o, h1, h2, _⟩, _⟩ := I.tuple hq
    exact PySem.W.kia_one PySem.W.kitx_tuple I.kIn ⟨o, h1, h2⟩ e (fun z => nomatch z) fun tk => ⟨.bl b, H, I.tok _, rfl, q⟩
theorem kind_ty {K : PySem.W.Frag} {π α : List Addr} {H : Hp} {h : Hh} {d : D} {v : V} {t : String} (R : HRel ⟨K, π⟩ α H h) (r : RelD ⟨K, π⟩ α H d v) (e : kindD h d = some t) : TyOf K H v (.type t) ∨ (Value.type t = .type "tuple" ∧ ∃ a us, v = .ref a ∧ SqT K H a us) := by
  cases r with
  | non => cases e; exact .inl .non
  | bl b => cases e; exact .inl (.bl b)
  | int i => cases e; exact .inl (.int i)
  | str x => cases e; exact .inl (.str x)
  | tup t r => cases e; exact .inr ⟨rfl, _, _, rfl, t.sq⟩
  | lst t r => cases e; exact .inl (.lst t.2.2)
  | scr t r => cases e
  | exc _ _ _ => cases e
  | @ref i a hp =>
    have e : (match h[i]? with | some (.lst _) => some "list" | some (.dT _) => some "dict" | some (.dK _) => some "dict" | _ => none) = some t := e
    cases q : h[i]? with
    | none => rw [q] at e; cases e
    | some o =>
      rw [q] at e
      cases o with
      | lst ys =>
        cases e
        obtain ⟨us, e2, e3⟩ := refL R hp q
        exact .inl (.lst e2)
      | dT ys =>
        cases e
        obtain ⟨p, us, e1, e2, e3⟩ := R.dT q
        rw [hp] at e1; cases e1
        exact .inl (.dT e2)
      | dK ys =>
        cases e
        obtain ⟨p, us, e1, e2, e3⟩ := R.dK q
        rw [hp] at e1; cases e1
        exact .inl (.dK e2)
      | ins C fs => cases e
theorem se_isinst {T : String} {a : Expr} {fa : DE} {x : Str} {p p2 pos : Pos} (hT : T ∈ ["bool", "int", "str", "tuple", "list", "dict"]) (hg : Gl X "isinstance") (hm : X.mg "isinstance" = none) (ha : SE X a fa) (ht : PE X (.Name x p2) (tC (.ty T)))
    (he : starEach [a, .Name x p2] X.env = (false, eval a X.env) :: starEach [.Name x p2] X.env := by rfl) (he2 : starEach [.Name x p2] X.env = (false, eval (.Name x p2) X.env) :: starEach [] X.env := by rfl) (hpl : (backTo pos (starEach [.Name x p2] X.env)).any (·.1) = false := by rfl) :
    SE X (.Call (.Name "isinstance" p) [a, .Name x p2] [] pos) (dIsinst T fa) := PE.imp (pe_callB call_isinstD hg hm PyProof.Rows.boot_isinstance (pa_cons ha (pa_cons ht pa_nil he2) he) (by decide) (by decide) he hpl) fun σ H Q ⟨π, α, δ, h, Q', R, S, f, k⟩ => by
  refine ⟨π, α, δ, h, _, R, S, f, fun d h1 α1 H1 v1 f1 e1 R1 q1 => ?_⟩
  split at f1
  · rename_i t w
    exact ⟨v1, .type t, _, rfl, kind_ty R1 q1 w, kit_of (kind_in w) hT, k _ h1 α1 H1 _ f1 e1 R1 (.bl _)⟩
  · exact f1.elim
noncomputable def flatD : D → Bool
  | .non => true
  | .bl _ => true
  | .int _ => true
  | .str _ => true
  | _ => false
noncomputable def eqF : D → D → Bool
  | .non, .non => true
  | .bl a, .bl b => a == b
  | .bl a, .int b => (if a then 1 else 0) == b
  | .int a, .bl b => a == (if b then 1 else 0)
  | .int a, .int b => a == b
  | .str a, .str b => a == b
  | _, _ => false
noncomputable def inF (x : D) (xs : List D) : Bool := xs.any fun y => eqF y x
theorem flat_rel {K : KP} {α : List Addr} {H : Hp} {d : D} {v : V} (r : RelD K α H d v) : flatV v = flatD d := by cases r <;> rfl
theorem flats_rel {K : KP} {α : List Addr} {H : Hp} : ∀ {ds : List D} {vs : List V}, RelDs K α H ds vs → vs.all flatV = ds.all flatD
  | _, _, .nil => rfl
  | _, _, .cons r t => by rw [List.all_cons, List.all_cons, flat_rel r, flats_rel t]
theorem eqF_rel {K : KP} {α : List Addr} {H : Hp} {d e : D} {v u : V} (r : RelD K α H d v) (s : RelD K α H e u) : eqV v u = eqF d e := by
  cases r <;> cases s <;> rfl
theorem inF_rel {K : KP} {α : List Addr} {H : Hp} {d : D} {v : V} (r : RelD K α H d v) : ∀ {ds : List D} {vs : List V}, RelDs K α H ds vs → inV v vs = inF d ds
  | _, _, .nil => rfl
  | _, _, .cons s t => by
    have := inF_rel r t
    unfold inV inF at this ⊢
    rw [List.any_cons, List.any_cons, this, eqF_rel s r]
noncomputable def pIn (neg : Bool) : P2 := fun x y h Q => match seqOf h y with
  | some xs => (flatD x && xs.all flatD) = true ∧ Q (.bl (if neg then !inF x xs else inF x xs)) h
  | none => False
theorem pIn_r {neg : Bool} {x y : V} {H : Hp} {Q : VK} (g : r2 X.K (pIn neg) x y H Q) : rIn X.K neg x y H Q := by
  obtain ⟨π, α, h, d, e, Q', R, r1, r2, f, k⟩ := g
  unfold pIn at f
  split at f
  · rename_i xs w
    obtain ⟨p, us, rfl, b, c⟩ := seqOf_sq R r2 w
    obtain ⟨f1, f2⟩ := f
    rw [Bool.and_eq_true] at f1
    refine ⟨p, us, rfl, b, by rw [flat_rel r1]; exact f1.1, by rw [flats_rel c]; exact f1.2, k _ h α H _ f2 (Ext.refl ..) R ?_⟩
    rw [inF_rel r1 c]; exact .bl _
  · exact f.elim
theorem ok_in : OpR X (compareOp .In) (r2 X.K (pIn false)) := OpR.imp op_in_seq fun _ _ _ _ g => pIn_r g
end
end DL
namespace DL
open PySem PySem.Spec L2
section
variable {X : Cx}
noncomputable def intsOf : List D → Option (List Int)
  | [] => some []
  | .int i :: r => (intsOf r).map (i :: ·)
  | _ :: _ => none
noncomputable def pLt : P2 := fun x y h Q => match x, y with
  | .int i, .int j => Q (.bl (decide (i < j))) h
  | .tup a, .tup b => (match intsOf a, intsOf b with | some ns, some ms => Q (.bl (HT.lexLt ns ms)) h | _, _ => False)
  | .str a, .str b => Q (.bl (decide (a.cps.toList < b.cps.toList))) h
  | _, _ => False
noncomputable def keyS : D → Option Key
  | .int i => some (.inl i)
  | .str x => some (.inr x)
  | _ => none
noncomputable def lkG (kvs : List (Key × Int)) (k : Key) : Option Int := (kvs.find? fun kv => decide (kv.1 = k)).map (·.2)
noncomputable def dGet (kvs : List (Key × Int)) (fi : DE) : DE := fun δ h Q => fi δ h fun d h1 => match (keyS d).bind fun k => lkG kvs k with | some v => Q (.int v) h1 | none => False
noncomputable def dIEnum1 (f : DA) : DI := fun δ h Q => f δ h fun ds h1 => match ds with | [d] => (match d with | .tup _ => False | d => match seqSrc h1 d with | some S => Q ⟨enumD 1 S.items, S.w⟩ h1 | none => False) | _ => False
end
end DL
namespace Att
open PySem PySem.W PySem.Calls PyProof.Rows
theorem bits_weight : ∀ (ns : List Int) (x : Int), x ∈ ns → Builtin.Int.intBits x ≤ WData.weightAll (ns.map WData.int)
  | n :: r, x, h => by
    rw [List.map_cons]
    show _ ≤ WData.weight (.int n) + 1 + WData.weightAll (r.map WData.int)
    rcases List.mem_cons.mp h with rfl | h
    · have e : WData.weight (.int x) = Builtin.Int.intBits x := rfl
      rw [e]; omega
    · have := bits_weight r x h
      omega
theorem bits_args {ns : List Int} (h : WData.layableAll [WData.list (ns.map WData.int)] = true) : ∀ x ∈ ns, Builtin.Int.intBits x ≤ 1048576 := fun x hx => by
  have h : (WData.layable (.list (ns.map WData.int)) && true) = true := h
  rw [Bool.and_true] at h
  unfold WData.layable at h
  rw [Bool.and_eq_true] at h
  have h2 : WData.weight (.list (ns.map WData.int)) ≤ 2 ^ 20 := of_decide_eq_true h.2
  exact Nat.le_trans (bits_weight ns x hx) h2
theorem attach_call2 {l : OpenLaw} {n : Nat} {q : Program} {loose : List Str} {XP : (Str → Option Value) → Heap → Prop} {YP : World → Heap → Prop} {d : DefRec}
    (hn : l.most = some n) (hdf : d.params.defaults = [])
    (call : ∀ (w : World) (s₀ s₁ : Shared) (mg mb : Str → Option Value) (fa : Addr) (o : Obj) (pm cd doc : Value) (a : Addr) (vs : List Value) (ns : List Int),
      Ground q loose [] XP w s₀ mg mb s₁.heap → YP w s₁.heap →
      s₁.heap.get? fa = some o → o.data = .func (docDef d.name d.params d.body d.scope pm cd doc) → s₁.heap.CodeRec cd d.name → mg d.name = some (.ref fa) →
      s₁.heap.get? a = some { cls := .type "list", data := .seq vs.toArray } → IntsAre vs ns → ns.length ≤ n → (∀ x ∈ ns, Builtin.Int.intBits x ≤ 1048576) → s₁.gens = #[] →
      codeAny (model l.prog w) callerA (.call (.ref fa) ⟨[.ref a], []⟩) (fun r s' => r = .ok (.ret (.bool true)) ∧ OldK s₁.heap s'.heap ∧ s'.os = s₁.os ∧ AllBare s'.gens) s₁) :
    WalkO q loose XP YP l.row.toRowW d [] (fun f vs => PySem.call f vs) := by
  intro w s₀ s₁ mg mb G Y fa o pm cd doc dV kV ho hd hcd hD hmg hg args vals as hpre hlay hrd hwl hlo
  obtain rfl : dV = .none := Dflts.none hD hdf
  obtain rfl : kV = .none := Dflts.noKw hD
  obtain ⟨a, vs, ns, rfl, rfl, hobj, hints, hlen⟩ := script_of hn hpre hwl
  refine enter_call (codeAny_mono (call w s₀ s₁ mg mb fa o pm cd doc a vs ns G Y ho (fd_plain hd) hcd hmg hobj hints hlen (bits_args hlay) hg) fun r s' hq => ?_)
  obtain ⟨rfl, h2, h3, h4⟩ := hq
  exact ⟨.inl ⟨.bool true, .bool true, [], rfl, fun _ => rfl, .bool true, post_true l _, fun _ => ⟨List.Pairwise.nil, fun _ hm => (nomatch hm)⟩⟩, h2, h3, h4⟩
end Att
namespace DL
open PySem PySem.Spec L2 PySem.W PyProof.Rows
theorem walkD {l : OpenLaw} {n k : Nat} {q : Program} {loose : List Str} {XP : (Str → Option Value) → Heap → Prop} {YP : World → Heap → Prop} {d : DefRec} {K : Params → PySem.W.Frag} {S : DSp} {x : Str}
    (hn : l.most = some n) (hn2 : n ≤ sizeLine) (hdf : d.params.defaults = []) (hr : Room k callerA)
    (hY : ∀ (w : World) (h : Heap), YP w h → (K w.params).In h)
    (F : ∀ (w : World) (mg : Str → Option Value) (fa : Addr) (h : Heap), (K w.params).In h → h.Ns mainGlobals mg → mg d.name = some (.ref fa) →
      ∃ fd : FuncData, (∀ (s : Shared) (u : Value), BindsTo s fd ⟨[u], []⟩ [(x, u)]) ∧
        ∀ base : Heap, (K w.params).In base → base.Ns mainGlobals mg → FnOk l.prog w (K w.params) mg base CX0 k fa fd [x] (spD (K w.params) 1 S))
    (hS : ∀ ns : List Int, ns.length ≤ n → (∀ x ∈ ns, Builtin.Int.intBits x ≤ 1048576) → S [.scr (ns.map D.int)] [] (fun v _ => v = .bl true)) :
    WalkO q loose XP YP l.row.toRowW d [] (fun f vs => PySem.call f vs) := by
  refine Att.attach_call2 hn hdf fun w s₀ s₁ mg mb fa o pm cd doc a vs ns G Y ho hd hcd hmg hobj hints hlen hbits hg => ?_
  have KX := hY w _ Y
  obtain ⟨fd, hb, hF⟩ := F w mg fa _ KX G.T.g hmg
  refine L2.law_call KX G.T.g G.T.b G.T.builtins G.T.nolimit hg hobj hints (Nat.le_trans hlen hn2) hr hF hb (fun H hO hS' => ?_) fun H e s' z => z
  refine ⟨[], [], [], [.scr (ns.map D.int)], _, ⟨rfl, List.nodup_nil, fun p hp => (nomatch hp), fun i o e => ?_⟩, .cons (.scr (a := a) (us := ns.map V.int) ?_ (RelDs.ints ns)) .nil, rfl, hS ns hlen hbits, fun d h' α' H' v a b c r => ?_⟩
  · simp at e
  · rcases hS' with h | h
    · exact .inl ⟨fun z => (nomatch z), fun z => (nomatch z), h⟩
    · exact .inr h
  · have a : d = .bl true := a
    subst a
    cases r; rfl
end DL
namespace DL
open PySem PySem.Spec L2
mutual
noncomputable def nrD : D → Bool
  | .tup xs => nrDs xs
  | .lst xs => nrDs xs
  | .scr xs => nrDs xs
  | .ref _ => false
  | _ => true
noncomputable def nrDs : List D → Bool
  | [] => true
  | d :: ds => nrD d && nrDs ds
end
noncomputable def nrO : O → Bool
  | .lst xs => nrDs xs
  | .dT kvs => nrDs (kvs.map (·.2))
  | .dK kvs => nrDs (kvs.map (·.2))
  | .ins _ fs => nrDs (fs.map (·.2))
mutual
inductive Vw (n : Nat) (h : Hh) : D → D → Prop
  | nr {d : D} : nrD d = true → Vw n h d d
  | old {i : Nat} : i < n → Vw n h (.ref i) (.ref i)
  | opn {i : Nat} {xs ys : List D} : n ≤ i → h[i]? = some (.lst xs) → Vws n h xs ys → Vw n h (.ref i) (.lst ys)
  | tup {xs ys : List D} : Vws n h xs ys → Vw n h (.tup xs) (.tup ys)
  | lst {xs ys : List D} : Vws n h xs ys → Vw n h (.lst xs) (.lst ys)
inductive Vws (n : Nat) (h : Hh) : List D → List D → Prop
  | nil : Vws n h [] []
  | cons {d e : D} {ds es : List D} : Vw n h d e → Vws n h ds es → Vws n h (d :: ds) (e :: es)
end
section
variable {K : PySem.W.Frag} {π α β : List Addr} {H H' : Hp} {h : Hh}
theorem VT.less {a : Addr} {us : List V} (t : VT ⟨K, π⟩ (α ++ β) H a us) : VT ⟨K, π⟩ α H a us := ⟨fun z => t.1 (List.mem_append_left _ z), t.2⟩
theorem VS.less {a : Addr} {us : List V} (t : VS ⟨K, π⟩ (α ++ β) H a us) : VS ⟨K, π⟩ α H a us := by
  rcases t with ⟨n, m, t⟩ | t
  · exact .inl ⟨fun z => n (List.mem_append_left _ z), m, t⟩
  · exact .inr t
theorem VL.less {a : Addr} {us : List V} (t : VL ⟨K, π⟩ (α ++ β) H a us) : VL ⟨K, π⟩ α H a us := ⟨fun z => t.1 (List.mem_append_left _ z), t.2⟩
theorem VE.less {a : Addr} {u : HO} (t : VE ⟨K, π⟩ (α ++ β) H a u) : VE ⟨K, π⟩ α H a u := ⟨fun z => t.1 (List.mem_append_left _ z), t.2⟩
theorem nrDs_and {x : D} {r : List D} (e : nrDs (x :: r) = true) : nrD x = true ∧ nrDs r = true := by
  have e : (nrD _ && nrDs _) = true := e
  rw [Bool.and_eq_true] at e
  exact e
theorem RelD.nr {d : D} {v : V} (e : nrD d = true) (r : RelD ⟨K, π⟩ (α ++ β) H d v) : RelD ⟨K, π⟩ α H d v :=
  RelD.rec (motive_1 := fun d v _ => nrD d = true → RelD ⟨K, π⟩ α H d v) (motive_2 := fun ds us _ => nrDs ds = true → RelDs ⟨K, π⟩ α H ds us) (fun _ => .non) (fun b _ => .bl b) (fun i _ => .int i) (fun x _ => .str x) (fun t _ h e => .tup t.less (h e)) (fun t _ h e => .lst t.less (h e)) (fun t _ h e => .scr t.less (h e)) (fun _ e => nomatch e) (fun n t r _ => .exc n t.less (r.map fun _ _ z => z.less)) (fun _ => .nil) (fun _ _ h t e => .cons (h (nrDs_and e).1) (t (nrDs_and e).2)) r e
theorem RelDs.nr {ds : List D} {vs : List V} (e : nrDs ds = true) (r : RelDs ⟨K, π⟩ (α ++ β) H ds vs) : RelDs ⟨K, π⟩ α H ds vs := by
  induction ds generalizing vs with
  | nil => cases r; exact .nil
  | cons d ds ih => cases r with | cons h t => exact .cons (h.nr (nrDs_and e).1) (ih (nrDs_and e).2 t)
mutual
noncomputable def rfD (n : Nat) : D → Bool
  | .tup xs => rfDs n xs
  | .lst xs => rfDs n xs
  | .scr xs => rfDs n xs
  | .ref i => decide (i < n)
  | _ => true
noncomputable def rfDs (n : Nat) : List D → Bool
  | [] => true
  | x :: r => rfD n x && rfDs n r
end
theorem RelD.rf {d : D} {v : V} (r : RelD ⟨K, π⟩ α H d v) : rfD α.length d = true :=
  RelD.rec (motive_1 := fun d _ _ => rfD α.length d = true) (motive_2 := fun ds _ _ => rfDs α.length ds = true) rfl (fun _ => rfl) (fun _ => rfl) (fun _ => rfl) (fun _ _ h => h) (fun _ _ h => h) (fun _ _ h => h) (fun h => decide_eq_true (List.getElem?_eq_some_iff.mp h).1) (fun _ _ _ => rfl) rfl (fun _ _ h t => Bool.and_eq_true_iff.mpr ⟨h, t⟩) r
theorem RelDs.rf {ds : List D} {vs : List V} (r : RelDs ⟨K, π⟩ α H ds vs) : rfDs α.length ds = true := by
  induction ds generalizing vs with
  | nil => rfl
  | cons d ds ih => cases r with | cons h t => exact Bool.and_eq_true_iff.mpr ⟨h.rf, ih t⟩
theorem RelD.old2 {d : D} {v : V} (e : rfD α.length d = true) (r : RelD ⟨K, π⟩ (α ++ β) H d v) : RelD ⟨K, π⟩ α H d v :=
  RelD.rec (motive_1 := fun d v _ => rfD α.length d = true → RelD ⟨K, π⟩ α H d v) (motive_2 := fun ds us _ => rfDs α.length ds = true → RelDs ⟨K, π⟩ α H ds us) (fun _ => .non) (fun b _ => .bl b) (fun i _ => .int i) (fun x _ => .str x) (fun t _ h e => .tup t.less (h e)) (fun t _ h e => .lst t.less (h e)) (fun t _ h e => .scr t.less (h e)) (fun h1 e => .ref (by rw [List.getElem?_append_left (of_decide_eq_true e)] at h1; exact h1)) (fun n t r _ => .exc n t.less (r.map fun _ _ z => z.less)) (fun _ => .nil) (fun _ _ h t e => .cons (h (Bool.and_eq_true_iff.mp e).1) (t (Bool.and_eq_true_iff.mp e).2)) r e
theorem RelDs.old2 {ds : List D} {vs : List V} (e : rfDs α.length ds = true) (r : RelDs ⟨K, π⟩ (α ++ β) H ds vs) : RelDs ⟨K, π⟩ α H ds vs := by
  induction ds generalizing vs with
  | nil => cases r; exact .nil
  | cons d ds ih => cases r with | cons h t => exact .cons (h.old2 (Bool.and_eq_true_iff.mp e).1) (ih (Bool.and_eq_true_iff.mp e).2 t)
theorem RelD.old {d : D} {v v0 : V} (r0 : RelD ⟨K, π⟩ α H d v0) (r : RelD ⟨K, π⟩ (α ++ β) H' d v) : RelD ⟨K, π⟩ α H' d v := r.old2 r0.rf
theorem RelDs.old {ds : List D} {vs vs0 : List V} (r0 : RelDs ⟨K, π⟩ α H ds vs0) (r : RelDs ⟨K, π⟩ (α ++ β) H' ds vs) : RelDs ⟨K, π⟩ α H' ds vs := r.old2 r0.rf
theorem RelKV.old {κ : Type} : ∀ {ds : List (κ × D)} {vs vs0 : List (κ × V)}, RelKV ⟨K, π⟩ α H ds vs0 → RelKV ⟨K, π⟩ (α ++ β) H' ds vs → RelKV ⟨K, π⟩ α H' ds vs
  | _, _, _, .nil, r => by cases r; exact .nil
  | _, _, _, .cons r0 t0, r => by cases r with | cons r t => exact .cons (RelD.old r0 r) (RelKV.old t0 t)
theorem RelKV.nr {κ : Type} : ∀ {ds : List (κ × D)} {vs : List (κ × V)}, nrDs (ds.map (·.2)) = true → RelKV ⟨K, π⟩ (α ++ β) H ds vs → RelKV ⟨K, π⟩ α H ds vs
  | _, _, _, .nil => .nil
  | _, _, e, .cons r t => by
    have e : (nrD _ && nrDs _) = true := e
    rw [Bool.and_eq_true] at e
    exact .cons (RelD.nr e.1 r) (RelKV.nr e.2 t)
theorem RelO'.nr {p : Addr} {o : O} (e : nrO o = true) (r : RelO' ⟨K, π⟩ (α ++ β) H p o) : RelO' ⟨K, π⟩ α H p o := by
  cases r with
  | lst h t => exact .lst h (t.nr e)
  | dT h t => exact .dT h (t.nr e)
  | dK h t => exact .dK h (t.nr e)
  | ins n h t => exact .ins n h (t.nr e)
theorem RelO'.old {p p0 : Addr} {o : O} (r0 : RelO' ⟨K, π⟩ α H p0 o) (r : RelO' ⟨K, π⟩ (α ++ β) H' p o) : RelO' ⟨K, π⟩ α H' p o := by
  cases r0 with
  | lst h0 t0 => cases r with | lst h t => exact .lst h (t0.old t)
  | dT h0 t0 => cases r with | dT h t => exact .dT h (t0.old t)
  | dK h0 t0 => cases r with | dK h t => exact .dK h (t0.old t)
  | ins n0 h0 t0 => cases r with | ins n h t => exact .ins n h (t0.old t)
mutual
theorem Vw.rel (R : HRel ⟨K, π⟩ (α ++ β) H h) {n : Nat} (hn : α.length = n) : ∀ {d e : D} {v : V}, Vw n h d e → RelD ⟨K, π⟩ (α ++ β) H d v → RelD ⟨K, π⟩ α H e v
  | _, _, _, .nr e, r => r.nr e
  | _, _, _, .old hi, r => by
    cases r with
    | ref hp => exact .ref (by rw [List.getElem?_append_left (by omega)] at hp; exact hp)
  | _, _, _, .opn hi e t, r => by
    cases r with
    | ref hp =>
    obtain ⟨us, e2, e3⟩ := refL R hp e
    have hm := List.mem_of_getElem? hp
    refine .lst ⟨fun z => ?_, fun z => (R.dis _ z).1 hm, e2⟩ (Vws.rel R hn t e3)
    obtain ⟨j, hj, ej⟩ := List.getElem_of_mem z
    subst ej
    have q : (α ++ β)[j]? = some α[j] := by rw [List.getElem?_append_left hj, List.getElem?_eq_getElem hj]
    have := (List.getElem?_inj (List.getElem?_eq_some_iff.mp hp).1 R.nd).mp (hp.trans q.symm)
    omega
  | _, _, _, .tup t, r => by
    cases r with
    | tup q r => exact .tup q.less (Vws.rel R hn t r)
  | _, _, _, .lst t, r => by
    cases r with
    | lst q r => exact .lst q.less (Vws.rel R hn t r)
theorem Vws.rel (R : HRel ⟨K, π⟩ (α ++ β) H h) {n : Nat} (hn : α.length = n) : ∀ {ds es : List D} {vs : List V}, Vws n h ds es → RelDs ⟨K, π⟩ (α ++ β) H ds vs → RelDs ⟨K, π⟩ α H es vs
  | _, _, _, .nil, .nil => .nil
  | _, _, _, .cons e t, .cons r s => .cons (Vw.rel R hn e r) (Vws.rel R hn t s)
end
end
noncomputable def Dr (h : Hh) (Q : DK) : DK := fun d h' => ∃ h2 g d', h' = h2 ++ g ∧ h2.length = h.length ∧ (∀ (i : Nat) (o : O), h2[i]? = some o → h[i]? = some o ∨ nrO o = true) ∧ Vw h.length h' d d' ∧ Q d' h2
theorem Dr.rel {K : PySem.W.Frag} {π α α' : List Addr} {H H' : Hp} {h h' : Hh} {Q : DK} {d : D} {v : V} (R : HRel ⟨K, π⟩ α H h) (e : Ext α H α' H') (R' : HRel ⟨K, π⟩ α' H' h') (r : RelD ⟨K, π⟩ α' H' d v) (q : Dr h Q d h') :
    ∃ d' h2, Q d' h2 ∧ Ext α H α H' ∧ HRel ⟨K, π⟩ α H' h2 ∧ RelD ⟨K, π⟩ α H' d' v := by
  obtain ⟨h2, g, d', rfl, hl, ho, vw, q⟩ := q
  obtain ⟨⟨β, rfl, hb⟩, ek, ed⟩ := e
  have hn := R.len
  refine ⟨d', h2, q, ⟨⟨[], by simp, fun p hp => nomatch hp⟩, ek, ed⟩, ⟨by omega, ?_, fun p hp => ?_, fun i o eo => ?_⟩, vw.rel R' hn r⟩
  · exact R.nd
  · exact ⟨fun z => (R'.dis p hp).1 (List.mem_append_left _ z), (R'.dis p hp).2⟩
  · have hi : i < h2.length := (List.getElem?_eq_some_iff.mp eo).1
    obtain ⟨p, ep, ro⟩ := R'.obj i o (by rw [List.getElem?_append_left hi]; exact eo)
    refine ⟨p, by rw [List.getElem?_append_left (by omega)] at ep; exact ep, ?_⟩
    rcases ho i o eo with z | z
    · obtain ⟨p0, _, r0⟩ := R.obj i o z
      exact r0.old ro
    · exact ro.nr z
theorem fn_okD {P : Program} {w : World} {K : PySem.W.Frag} {mg : Str → Option Value} {base : Heap} {x qual : Str} {st : Stmt} {f : Addr} {fd : FuncData} {N ps : List Str} {k : Nat} {b : DS} {g : DSp} (F : Fun K x qual st f fd) (S : FnScope N ps (defScope st))
    (hb : ∀ (cdv : Value) (A : Around) (outer : List Env) (s : Shared) (H : Hp) (E : XK), Room k (A.deeper (PyProof.Rows.envOfC qual (defScope st) s.heap.objs.size f cdv)) → SSs (cxOf CX0 P w K mg base N qual (defScope st) f cdv A outer s H E).nox (defBody st) b)
    (hg : ∀ ds h Q, g ds h Q → runD N.length b ds h (Dr h Q)) : FnOk P w K mg base CX0 (k + 1) f fd ps (spD K ps.length g) := by
  refine F.ok S (fun vs H Q E h => ?_) fun cdv A outer s H vs Q E hr h => ?_
  · obtain ⟨π, α, h, ds, Q', R, r, l, _⟩ := h
    rw [← r.length, l]
  · obtain ⟨π, α, h, ds, Q', R, r, l, q, kk⟩ := h
    refine ⟨_, hb cdv A outer s H E hr, π, α, _, h, { nx := fun _ h' => Dr h Q' .non h', rt := Dr h Q' }, R, relS_start r, hg ds h Q' q, ⟨fun _ h' α' H' σ' a b c _ => ?_, fun d h' α' H' v a b c d' => ?_, fun _ _ _ _ _ a _ _ _ => a.elim, fun _ _ _ _ _ a _ _ _ => a.elim, fun _ _ _ _ _ _ _ a _ _ _ => a.elim⟩⟩
    · obtain ⟨d', h2, q, e, R2, r2⟩ := a.rel R b c .non
      exact kk d' h2 α H' .non q e R2 r2
    · obtain ⟨d', h2, q, e, R2, r2⟩ := a.rel R b c d'
      exact kk d' h2 α H' v q e R2 r2
theorem nrDs_map {τ : Type} {g : τ → D} (hg : ∀ x, nrD (g x) = true) : ∀ xs : List τ, nrDs (xs.map g) = true
  | [] => rfl
  | x :: r => by
    show (nrD (g x) && nrDs (r.map g)) = true
    rw [hg x, nrDs_map hg r]; rfl
theorem Vws.of {n : Nat} {h : Hh} : ∀ {xs : List D}, nrDs xs = true → Vws n h xs xs
  | [], _ => .nil
  | x :: r, e => by
    have e : (nrD x && nrDs r) = true := e
    rw [Bool.and_eq_true] at e
    exact .cons (.nr e.1) (Vws.of e.2)
theorem Vws.of_get {n : Nat} {h : Hh} : ∀ {xs ys : List D}, xs.length = ys.length → (∀ (i : Nat) (x y : D), xs[i]? = some x → ys[i]? = some y → Vw n h x y) → Vws n h xs ys
  | [], [], _, _ => .nil
  | x :: xs, y :: ys, e, k => .cons (k 0 x y rfl rfl) (Vws.of_get (by simpa using e) fun i a b h1 h2 => k (i + 1) a b (by simpa using h1) (by simpa using h2))
theorem Dr.same {h : Hh} {Q : DK} {d : D} (e : nrD d = true) (q : Q d h) : Dr h Q d h := ⟨h, [], d, by simp, rfl, fun _ _ e => .inl e, .nr e, q⟩
theorem Dr.drop {h g : Hh} {Q : DK} {d : D} (e : nrD d = true) (q : Q d h) : Dr h Q d (h ++ g) := ⟨h, g, d, rfl, rfl, fun _ _ e => .inl e, .nr e, q⟩
end DL
namespace DL
open PySem L2
theorem atN {α : Type} (xs : List α) (i : Nat) : atI xs (i : Int) = xs[i]? := by
  unfold atI ixN
  by_cases h : i < xs.length
  · rw [if_pos (by omega), if_pos (by omega)]; simp
  · rw [if_pos (by omega), if_neg (by omega)]
    simp; omega
theorem atI_0 {α : Type} (a : α) (l : List α) : atI (a :: l) 0 = some a := atN _ 0
theorem atI_1 {α : Type} (a b : α) (l : List α) : atI (a :: b :: l) 1 = some b := atN _ 1
theorem atI_2 {α : Type} (a b c : α) (l : List α) : atI (a :: b :: c :: l) 2 = some c := atN _ 2
theorem atI_3 {α : Type} (a b c d : α) (l : List α) : atI (a :: b :: c :: d :: l) 3 = some d := atN _ 3
theorem at1_0 {α : Type} (a : α) : atI [a] 0 = some a := rfl
theorem at2_0 {α : Type} (a b : α) : atI [a, b] 0 = some a := rfl
theorem at2_1 {α : Type} (a b : α) : atI [a, b] 1 = some b := rfl
theorem at3_0 {α : Type} (a b c : α) : atI [a, b, c] 0 = some a := rfl
theorem at3_1 {α : Type} (a b c : α) : atI [a, b, c] 1 = some b := rfl
theorem at3_2 {α : Type} (a b c : α) : atI [a, b, c] 2 = some c := rfl
theorem at4_0 {α : Type} (a b c d : α) : atI [a, b, c, d] 0 = some a := rfl
theorem at4_1 {α : Type} (a b c d : α) : atI [a, b, c, d] 1 = some b := rfl
theorem at4_2 {α : Type} (a b c d : α) : atI [a, b, c, d] 2 = some c := rfl
theorem at4_3 {α : Type} (a b c d : α) : atI [a, b, c, d] 3 = some d := rfl
theorem at5_0 {α : Type} (a b c d e : α) : atI [a, b, c, d, e] 0 = some a := rfl
theorem at5_1 {α : Type} (a b c d e : α) : atI [a, b, c, d, e] 1 = some b := rfl
theorem at5_2 {α : Type} (a b c d e : α) : atI [a, b, c, d, e] 2 = some c := rfl
theorem at5_3 {α : Type} (a b c d e : α) : atI [a, b, c, d, e] 3 = some d := rfl
theorem at5_4 {α : Type} (a b c d e : α) : atI [a, b, c, d, e] 4 = some e := rfl
theorem at6_0 {α : Type} (a b c d e f : α) : atI [a, b, c, d, e, f] 0 = some a := rfl
theorem at6_1 {α : Type} (a b c d e f : α) : atI [a, b, c, d, e, f] 1 = some b := rfl
theorem at6_2 {α : Type} (a b c d e f : α) : atI [a, b, c, d, e, f] 2 = some c := rfl
theorem at6_3 {α : Type} (a b c d e f : α) : atI [a, b, c, d, e, f] 3 = some d := rfl
theorem at6_4 {α : Type} (a b c d e f : α) : atI [a, b, c, d, e, f] 4 = some e := rfl
theorem at6_5 {α : Type} (a b c d e f : α) : atI [a, b, c, d, e, f] 5 = some f := rfl
theorem at7_0 {α : Type} (a b c d e f g : α) : atI [a, b, c, d, e, f, g] 0 = some a := rfl
theorem at7_1 {α : Type} (a b c d e f g : α) : atI [a, b, c, d, e, f, g] 1 = some b := rfl
theorem at7_2 {α : Type} (a b c d e f g : α) : atI [a, b, c, d, e, f, g] 2 = some c := rfl
theorem at7_3 {α : Type} (a b c d e f g : α) : atI [a, b, c, d, e, f, g] 3 = some d := rfl
theorem at7_4 {α : Type} (a b c d e f g : α) : atI [a, b, c, d, e, f, g] 4 = some e := rfl
theorem at7_5 {α : Type} (a b c d e f g : α) : atI [a, b, c, d, e, f, g] 5 = some f := rfl
theorem at7_6 {α : Type} (a b c d e f g : α) : atI [a, b, c, d, e, f, g] 6 = some g := rfl
theorem at8_0 {α : Type} (a b c d e f g i : α) : atI [a, b, c, d, e, f, g, i] 0 = some a := rfl
theorem at8_1 {α : Type} (a b c d e f g i : α) : atI [a, b, c, d, e, f, g, i] 1 = some b := rfl
theorem at8_2 {α : Type} (a b c d e f g i : α) : atI [a, b, c, d, e, f, g, i] 2 = some c := rfl
theorem at8_3 {α : Type} (a b c d e f g i : α) : atI [a, b, c, d, e, f, g, i] 3 = some d := rfl
theorem at8_4 {α : Type} (a b c d e f g i : α) : atI [a, b, c, d, e, f, g, i] 4 = some e := rfl
theorem at8_5 {α : Type} (a b c d e f g i : α) : atI [a, b, c, d, e, f, g, i] 5 = some f := rfl
theorem at8_6 {α : Type} (a b c d e f g i : α) : atI [a, b, c, d, e, f, g, i] 6 = some g := rfl
theorem at8_7 {α : Type} (a b c d e f g i : α) : atI [a, b, c, d, e, f, g, i] 7 = some i := rfl
theorem ix_ls {h : Hh} {d : D} {xs : List D} (e : lsOf h d = some xs) (k : Int) : ixD h d (.int k) = atI xs k := by
  cases d with
  | lst ys => cases e; rfl
  | scr ys => cases e; rfl
  | ref i =>
    have e : (match h[i]? with | some (.lst xs) => some xs | _ => none) = some xs := e
    show (match h[i]? with | some (.lst xs) => atI xs k | _ => none) = atI xs k
    cases q : h[i]? with
    | none => rw [q] at e; cases e
    | some o =>
      rw [q] at e
      cases o with
      | lst ys => cases e; rfl
      | _ => cases e
  | _ => cases e
theorem seq_ls {h : Hh} {d : D} {xs : List D} (e : lsOf h d = some xs) : seqOf h d = some xs := by
  cases d with
  | lst ys => exact e
  | scr ys => exact e
  | ref i => exact e
  | _ => cases e
theorem len_ls {h : Hh} {d : D} {xs : List D} (e : lsOf h d = some xs) : lenD h d = some xs.length := by
  have s := seq_ls e
  cases d with
  | lst ys => cases e; rfl
  | scr ys => cases e; rfl
  | ref i => show (seqOf h (.ref i)).map List.length = _; rw [s]; rfl
  | _ => cases e
theorem src_ls {h : Hh} {d : D} {xs : List D} (e : lsOf h d = some xs) : ∃ w, seqSrc h d = some ⟨xs, w⟩ ∧ (Src.mk xs w).ok h ∧ ∀ p ∈ w, ∃ i, d = .ref i ∧ p = (i, .lst xs) := by
  cases d with
  | lst ys => cases e; exact ⟨[], rfl, Src.ok_nil, fun p hp => nomatch hp⟩
  | scr ys => cases e; exact ⟨[], rfl, Src.ok_nil, fun p hp => nomatch hp⟩
  | ref i =>
    have e : (match h[i]? with | some (.lst xs) => some xs | _ => none) = some xs := e
    cases q : h[i]? with
    | none => rw [q] at e; cases e
    | some o =>
      rw [q] at e
      cases o with
      | lst ys =>
        cases e
        refine ⟨[(i, .lst xs)], ?_, fun p hp => ?_, fun p hp => ⟨i, rfl, List.mem_singleton.mp hp⟩⟩
        · show (match h[i]? with | some (.lst xs) => some (Src.mk xs [(i, .lst xs)]) | _ => none) = _
          rw [q]
        · rw [List.mem_singleton.mp hp]; exact q
      | _ => cases e
  | _ => cases e
noncomputable def Pre (h h' : Hh) : Prop := ∀ (i : Nat) (o : O), h[i]? = some o → h'[i]? = some o
theorem Pre.refl (h : Hh) : Pre h h := fun _ _ e => e
theorem Pre.trans {a b c : Hh} (x : Pre a b) (y : Pre b c) : Pre a c := fun i o e => y i o (x i o e)
theorem Pre.app (h g : Hh) : Pre h (h ++ g) := fun i o e => by
  rw [List.getElem?_append_left (List.getElem?_eq_some_iff.mp e).1]; exact e
theorem Pre.ls {h h' : Hh} (p : Pre h h') {d : D} {xs : List D} (e : lsOf h d = some xs) : lsOf h' d = some xs := by
  cases d with
  | ref i =>
    have e : (match h[i]? with | some (.lst xs) => some xs | _ => none) = some xs := e
    show (match h'[i]? with | some (.lst xs) => some xs | _ => none) = some xs
    cases q : h[i]? with
    | none => rw [q] at e; cases e
    | some o => rw [q] at e; rw [p i o q]; exact e
  | _ => exact e
theorem ls_new (h : Hh) (xs : List D) : lsOf (h ++ [.lst xs]) (.ref h.length) = some xs := by
  show (match (h ++ [O.lst xs])[h.length]? with | some (.lst xs) => some xs | _ => none) = some xs
  rw [List.getElem?_append_right (Nat.le_refl _)]; simp
theorem get_new (h : Hh) (o : O) : (h ++ [o])[h.length]? = some o := by
  rw [List.getElem?_append_right (Nat.le_refl _)]; simp
theorem set_new (h : Hh) (o u : O) : (h ++ [o]).set h.length u = h ++ [u] := by
  rw [List.set_append_right _ _ (Nat.le_refl _)]; simp
theorem forL_map {τ : Type} {S : Src} {t : DG} {b : DS} {E : DEnds} (P : List τ → Sl → Hh → Prop) {g : τ → D} {ys : List τ} {δ : Sl} {h : Hh} (h0 : P [] δ h) (ok : ∀ p δ h, P p δ h → S.ok h)
    (hs : ∀ (p : List τ) (y : τ) (r : List τ) (δ : Sl) (h : Hh) (N : Sl → Hh → Prop), ys = p ++ y :: r → P p δ h → (∀ δ h, P (p ++ [y]) δ h → N δ h) → t (g y) δ h fun δ2 h2 => b { E with nx := N, ct := N, bk := E.nx } δ2 h2)
    (hd : ∀ δ h, P ys δ h → E.nx δ h) : forL S t b E (ys.map g) δ h := by
  have go : ∀ (r p : List τ) δ h, ys = p ++ r → P p δ h → forL S t b E (r.map g) δ h := by
    intro r
    induction r with
    | nil => intro p δ h e q; rw [List.append_nil] at e; subst e; exact ⟨ok _ _ _ q, hd _ _ q⟩
    | cons y r ih =>
      intro p δ h e q
      exact ⟨ok _ _ _ q, hs p y r δ h _ e q fun δ3 h3 p3 => ih (p ++ [y]) δ3 h3 (by rw [e]; simp) p3⟩
  exact go ys [] δ h rfl h0
theorem compL_map {τ : Type} {S : Src} {t : DG} {tf : DT} {te : DE} (P : List τ → List D → Sl → Hh → Prop) {g : τ → D} {ys : List τ} {δ : Sl} {h : Hh} {Q : List D → Hh → Prop} (h0 : P [] [] δ h) (ok : ∀ p a δ h, P p a δ h → S.ok h)
    (hs : ∀ (p : List τ) (y : τ) (r : List τ) (acc : List D) (δ : Sl) (h : Hh) (N : List D → Sl → Hh → Prop), ys = p ++ y :: r → P p acc δ h → (∀ a δ h, P (p ++ [y]) a δ h → N a δ h) →
      t (g y) δ h fun δ2 h2 => tf δ2 h2 fun b h3 => if b = true then te δ2 h3 fun z h4 => N (acc ++ [z]) δ2 h4 else N acc δ2 h3)
    (hd : ∀ a δ h, P ys a δ h → Q a h) : compL S t tf te (ys.map g) [] δ h Q := by
  have go : ∀ (r p : List τ) a δ h, ys = p ++ r → P p a δ h → compL S t tf te (r.map g) a δ h Q := by
    intro r
    induction r with
    | nil => intro p a δ h e q; rw [List.append_nil] at e; subst e; exact ⟨ok _ _ _ _ q, hd _ _ _ q⟩
    | cons y r ih =>
      intro p a δ h e q
      exact ⟨ok _ _ _ _ q, hs p y r a δ h (fun a δ h => compL S t tf te (r.map g) a δ h Q) e q fun a3 δ3 h3 p3 => ih (p ++ [y]) a3 δ3 h3 (by rw [e]; simp) p3⟩
  exact go ys [] [] δ h rfl h0
theorem comp1 {τ : Type} {S : Src} {tf : DT} {te : DE} {g : τ → D} {ys : List τ} {h : Hh} {fr : Sl} {Q : List D → Hh → Prop} (c : τ → Bool) (v : τ → D) (ok : S.ok h) (o : Option D)
    (htf : ∀ y ∈ ys, ∀ K : Bool → Hh → Prop, K (c y) h → tf (some (g y) :: fr) h K) (hte : ∀ y ∈ ys, c y = true → ∀ K : DK, K (v y) h → te (some (g y) :: fr) h K)
    (hd : Q ((ys.filter c).map v) h) : compL S (dName 0) tf te (ys.map g) [] (o :: fr) h Q := by
  refine compL_map (fun p a δ h' => h' = h ∧ (∃ o, δ = o :: fr) ∧ a = (p.filter c).map v) ⟨rfl, ⟨o, rfl⟩, rfl⟩ (fun p a δ h' q => by rw [q.1]; exact ok) ?_ ?_
  · rintro p y r acc δ h' N e ⟨rfl, ⟨o, rfl⟩, rfl⟩ hN
    have hy : y ∈ ys := by rw [e]; simp
    refine htf y hy _ ?_
    cases hc : c y with
    | true =>
      refine iteT (hte y hy hc _ (hN _ _ _ ⟨rfl, ⟨_, rfl⟩, ?_⟩))
      simp [List.filter_append, hc]
    | false =>
      refine iteF (hN _ _ _ ⟨rfl, ⟨_, rfl⟩, ?_⟩)
      simp [List.filter_append, hc]
  · rintro a δ h' ⟨rfl, _, rfl⟩
    exact hd
theorem comp1n {τ : Type} {S : Src} {te : DE} {g : τ → D} {ys : List τ} {h : Hh} {fr : Sl} {Q : List D → Hh → Prop} (v : τ → D) (ok : S.ok h) (o : Option D)
    (hte : ∀ y ∈ ys, ∀ K : DK, K (v y) h → te (some (g y) :: fr) h K) (hd : Q (ys.map v) h) : compL S (dName 0) dNoIf te (ys.map g) [] (o :: fr) h Q :=
  comp1 (fun _ => true) v ok o (fun _ _ K k => k) (fun y hy _ => hte y hy) ((show ys.filter (fun _ => true) = ys by simp).symm ▸ hd)
theorem rangeD_map (lo : Int) : ∀ n : Nat, rangeD lo n = (List.range n).map fun i => D.int (lo + (i : Nat)) := by
  intro n
  apply List.ext_getElem?
  intro i
  rw [rangeD_get]
  by_cases h : i < n <;> simp [h]
theorem enumD_map {τ : Type} (lo : Int) (g : τ → D) (ys : List τ) : enumD lo (ys.map g) = ys.zipIdx.map fun p => .tup [.int (lo + (p.2 : Nat)), g p.1] := by
  apply List.ext_getElem?
  intro i
  rw [enumD_get]
  simp [List.getElem?_zipIdx]
  cases ys[i]? <;> simp
theorem isN_non : isNon .non = true := rfl
theorem isN_bl (b : Bool) : isNon (.bl b) = false := rfl
theorem isN_int (b : Int) : isNon (.int b) = false := rfl
theorem isN_str (b : Str) : isNon (.str b) = false := rfl
theorem isN_tup (b : List D) : isNon (.tup b) = false := rfl
theorem isN_lst (b : List D) : isNon (.lst b) = false := rfl
theorem isN_ref (b : Nat) : isNon (.ref b) = false := rfl
theorem lsOf_lst (h : Hh) (xs : List D) : lsOf h (.lst xs) = some xs := rfl
theorem seqOf_lst (h : Hh) (xs : List D) : seqOf h (.lst xs) = some xs := rfl
theorem seqSrc_lst (h : Hh) (xs : List D) : seqSrc h (.lst xs) = some ⟨xs, []⟩ := rfl
theorem lenD_lst (h : Hh) (xs : List D) : lenD h (.lst xs) = some xs.length := rfl
theorem ixD_lst (h : Hh) (xs : List D) (i : Int) : ixD h (.lst xs) (.int i) = atI xs i := rfl
theorem trD_lst (h : Hh) (xs : List D) : trD h (.lst xs) = some (!xs.isEmpty) := rfl
theorem lsOf_scr (h : Hh) (xs : List D) : lsOf h (.scr xs) = some xs := rfl
theorem seqOf_scr (h : Hh) (xs : List D) : seqOf h (.scr xs) = some xs := rfl
theorem seqSrc_scr (h : Hh) (xs : List D) : seqSrc h (.scr xs) = some ⟨xs, []⟩ := rfl
theorem lenD_scr (h : Hh) (xs : List D) : lenD h (.scr xs) = some xs.length := rfl
theorem ixD_scr (h : Hh) (xs : List D) (i : Int) : ixD h (.scr xs) (.int i) = atI xs i := rfl
theorem trD_scr (h : Hh) (xs : List D) : trD h (.scr xs) = some (!xs.isEmpty) := rfl
theorem lsP_lst (h : Hh) (xs : List D) : lsP h (.lst xs) = some xs := rfl
theorem lsP_tup (h : Hh) (xs : List D) : lsP h (.tup xs) = none := rfl
theorem lsP_int (h : Hh) (x : Int) : lsP h (.int x) = none := rfl
theorem lsP_str (h : Hh) (x : Str) : lsP h (.str x) = none := rfl
theorem seqOf_tup (h : Hh) (xs : List D) : seqOf h (.tup xs) = some xs := rfl
theorem seqSrc_tup (h : Hh) (xs : List D) : seqSrc h (.tup xs) = some ⟨xs, []⟩ := rfl
theorem lenD_tup (h : Hh) (xs : List D) : lenD h (.tup xs) = some xs.length := rfl
theorem ixD_tup (h : Hh) (xs : List D) (i : Int) : ixD h (.tup xs) (.int i) = atI xs i := rfl
theorem trD_tup (h : Hh) (xs : List D) : trD h (.tup xs) = some (!xs.isEmpty) := rfl
theorem trD_non (h : Hh) : trD h .non = some false := rfl
theorem trD_bl (h : Hh) (b : Bool) : trD h (.bl b) = some b := rfl
theorem trD_int (h : Hh) (i : Int) : trD h (.int i) = some (i != 0) := rfl
theorem kindD_non (h : Hh)  : kindD h (.non) = some "NoneType" := rfl
theorem kindD_bl (h : Hh) (x : Bool) : kindD h (.bl x) = some "bool" := rfl
theorem kindD_int (h : Hh) (x : Int) : kindD h (.int x) = some "int" := rfl
theorem kindD_str (h : Hh) (x : Str) : kindD h (.str x) = some "str" := rfl
theorem kindD_tup (h : Hh) (x : List D) : kindD h (.tup x) = some "tuple" := rfl
theorem kindD_lst (h : Hh) (x : List D) : kindD h (.lst x) = some "list" := rfl
theorem isK_NoneType_bool : isKind "NoneType" "bool" = false := rfl
theorem isK_NoneType_int : isKind "NoneType" "int" = false := rfl
theorem isK_NoneType_str : isKind "NoneType" "str" = false := rfl
theorem isK_NoneType_tuple : isKind "NoneType" "tuple" = false := rfl
theorem isK_NoneType_list : isKind "NoneType" "list" = false := rfl
theorem isK_NoneType_dict : isKind "NoneType" "dict" = false := rfl
theorem isK_bool_bool : isKind "bool" "bool" = true := rfl
theorem isK_bool_int : isKind "bool" "int" = true := rfl
theorem isK_bool_str : isKind "bool" "str" = false := rfl
theorem isK_bool_tuple : isKind "bool" "tuple" = false := rfl
theorem isK_bool_list : isKind "bool" "list" = false := rfl
theorem isK_bool_dict : isKind "bool" "dict" = false := rfl
theorem isK_int_bool : isKind "int" "bool" = false := rfl
theorem isK_int_int : isKind "int" "int" = true := rfl
theorem isK_int_str : isKind "int" "str" = false := rfl
theorem isK_int_tuple : isKind "int" "tuple" = false := rfl
theorem isK_int_list : isKind "int" "list" = false := rfl
theorem isK_int_dict : isKind "int" "dict" = false := rfl
theorem isK_str_bool : isKind "str" "bool" = false := rfl
theorem isK_str_int : isKind "str" "int" = false := rfl
theorem isK_str_str : isKind "str" "str" = true := rfl
theorem isK_str_tuple : isKind "str" "tuple" = false := rfl
theorem isK_str_list : isKind "str" "list" = false := rfl
theorem isK_str_dict : isKind "str" "dict" = false := rfl
theorem isK_tuple_bool : isKind "tuple" "bool" = false := rfl
theorem isK_tuple_int : isKind "tuple" "int" = false := rfl
theorem isK_tuple_str : isKind "tuple" "str" = false := rfl
theorem isK_tuple_tuple : isKind "tuple" "tuple" = true := rfl
theorem isK_tuple_list : isKind "tuple" "list" = false := rfl
theorem isK_tuple_dict : isKind "tuple" "dict" = false := rfl
theorem isK_list_bool : isKind "list" "bool" = false := rfl
theorem isK_list_int : isKind "list" "int" = false := rfl
theorem isK_list_str : isKind "list" "str" = false := rfl
theorem isK_list_tuple : isKind "list" "tuple" = false := rfl
theorem isK_list_list : isKind "list" "list" = true := rfl
theorem isK_list_dict : isKind "list" "dict" = false := rfl
theorem isK_dict_bool : isKind "dict" "bool" = false := rfl
theorem isK_dict_int : isKind "dict" "int" = false := rfl
theorem isK_dict_str : isKind "dict" "str" = false := rfl
theorem isK_dict_tuple : isKind "dict" "tuple" = false := rfl
theorem isK_dict_list : isKind "dict" "list" = false := rfl
theorem isK_dict_dict : isKind "dict" "dict" = true := rfl
theorem kindD_ref {h : Hh} {i : Nat} {xs : List D} (e : h[i]? = some (.lst xs)) : kindD h (.ref i) = some "list" := by show (match h[i]? with | some (.lst _) => some "list" | some (.dT _) => some "dict" | some (.dK _) => some "dict" | _ => none) = _; rw [e]
theorem lsOf_ref {h : Hh} {i : Nat} {xs : List D} (e : h[i]? = some (.lst xs)) : lsOf h (.ref i) = some xs := by show (match h[i]? with | some (.lst xs) => some xs | _ => none) = _; rw [e]
theorem lsP_ref {h : Hh} {i : Nat} {xs : List D} (e : h[i]? = some (.lst xs)) : lsP h (.ref i) = some xs := by show (match h[i]? with | some (.lst xs) => some xs | _ => none) = _; rw [e]
theorem seqSrc_ref {h : Hh} {i : Nat} {xs : List D} (e : h[i]? = some (.lst xs)) : seqSrc h (.ref i) = some ⟨xs, [(i, .lst xs)]⟩ := by show (match h[i]? with | some (.lst xs) => some (Src.mk xs [(i, .lst xs)]) | _ => none) = _; rw [e]
theorem ixN_0 (n : Nat) : ixN (n + 1) 0 = some 0 := by unfold ixN; rw [if_pos (by decide), if_pos (by omega)]; rfl
theorem ixN_10 : ixN 1 0 = some 0 := rfl
theorem range_split {n d : Nat} {p r : List Nat} (e : List.range n = p ++ d :: r) : d = p.length ∧ d < n := by
  have h9 : p.length < n := by
    have : p.length < (List.range n).length := by rw [e]; simp
    simpa using this
  have h8 : (List.range n)[p.length]? = some d := by rw [e]; simp
  rw [List.getElem?_range h9] at h8
  cases h8; exact ⟨rfl, h9⟩
theorem seq_intro {f g : DS} {E : DEnds} {δ : Sl} {h : Hh} (k : ∀ N : Sl → Hh → Prop, N = g E → f { E with nx := N } δ h) : dSeq f g E δ h := k _ rfl
theorem if_intro {t : DT} {a b : DS} {E : DEnds} {δ : Sl} {h : Hh} (k : ∀ A B : Sl → Hh → Prop, A = a E → B = b E → t δ h fun c h1 => if c = true then A δ h1 else B δ h1) : dIfS t a b E δ h := k _ _ rfl rfl
theorem mulS {i j : Int} (h : -(2 ^ 64) < i ∧ i < 2 ^ 64) : IntMulOk i j := .of_left (intBits_le_64 h.1 h.2)
theorem mulS' {i j : Int} (h : -(2 ^ 64) < j ∧ j < 2 ^ 64) : IntMulOk i j := .of_right (intBits_le_64 h.1 h.2)
end DL
namespace CM
open PySem L2 DL
theorem sk_step : PyData.strOk (Str.ofString "step") = true := by decide +kernel
theorem sq_step_step : ((Str.ofString "step") == (Str.ofString "step")) = true := by decide +kernel
theorem sq_step_call : ((Str.ofString "step") == (Str.ofString "call")) = false := by decide +kernel
theorem sq_step_in : ((Str.ofString "step") == (Str.ofString "in")) = false := by decide +kernel
theorem sq_step_over : ((Str.ofString "step") == (Str.ofString "over")) = false := by decide +kernel
theorem sq_step_begin : ((Str.ofString "step") == (Str.ofString "begin")) = false := by decide +kernel
theorem sq_step_start : ((Str.ofString "step") == (Str.ofString "start")) = false := by decide +kernel
theorem sq_step_short : ((Str.ofString "step") == (Str.ofString "short")) = false := by decide +kernel
theorem sq_step_along : ((Str.ofString "step") == (Str.ofString "along")) = false := by decide +kernel
theorem sq_step_within : ((Str.ofString "step") == (Str.ofString "within")) = false := by decide +kernel
theorem sq_step_at : ((Str.ofString "step") == (Str.ofString "at")) = false := by decide +kernel
theorem sq_step_out : ((Str.ofString "step") == (Str.ofString "out")) = false := by decide +kernel
theorem sk_call : PyData.strOk (Str.ofString "call") = true := by decide +kernel
theorem sq_call_step : ((Str.ofString "call") == (Str.ofString "step")) = false := by decide +kernel
theorem sq_call_call : ((Str.ofString "call") == (Str.ofString "call")) = true := by decide +kernel
theorem sq_call_in : ((Str.ofString "call") == (Str.ofString "in")) = false := by decide +kernel
theorem sq_call_over : ((Str.ofString "call") == (Str.ofString "over")) = false := by decide +kernel
theorem sq_call_begin : ((Str.ofString "call") == (Str.ofString "begin")) = false := by decide +kernel
theorem sq_call_start : ((Str.ofString "call") == (Str.ofString "start")) = false := by decide +kernel
theorem sq_call_short : ((Str.ofString "call") == (Str.ofString "short")) = false := by decide +kernel
theorem sq_call_along : ((Str.ofString "call") == (Str.ofString "along")) = false := by decide +kernel
theorem sq_call_within : ((Str.ofString "call") == (Str.ofString "within")) = false := by decide +kernel
theorem sq_call_at : ((Str.ofString "call") == (Str.ofString "at")) = false := by decide +kernel
theorem sq_call_out : ((Str.ofString "call") == (Str.ofString "out")) = false := by decide +kernel
theorem sk_in : PyData.strOk (Str.ofString "in") = true := by decide +kernel
theorem sq_in_step : ((Str.ofString "in") == (Str.ofString "step")) = false := by decide +kernel
theorem sq_in_call : ((Str.ofString "in") == (Str.ofString "call")) = false := by decide +kernel
theorem sq_in_in : ((Str.ofString "in") == (Str.ofString "in")) = true := by decide +kernel
theorem sq_in_over : ((Str.ofString "in") == (Str.ofString "over")) = false := by decide +kernel
theorem sq_in_begin : ((Str.ofString "in") == (Str.ofString "begin")) = false := by decide +kernel
theorem sq_in_start : ((Str.ofString "in") == (Str.ofString "start")) = false := by decide +kernel
theorem sq_in_short : ((Str.ofString "in") == (Str.ofString "short")) = false := by decide +kernel
theorem sq_in_along : ((Str.ofString "in") == (Str.ofString "along")) = false := by decide +kernel
theorem sq_in_within : ((Str.ofString "in") == (Str.ofString "within")) = false := by decide +kernel
theorem sq_in_at : ((Str.ofString "in") == (Str.ofString "at")) = false := by decide +kernel
theorem sq_in_out : ((Str.ofString "in") == (Str.ofString "out")) = false := by decide +kernel
theorem sk_over : PyData.strOk (Str.ofString "over") = true := by decide +kernel
theorem sq_over_step : ((Str.ofString "over") == (Str.ofString "step")) = false := by decide +kernel
theorem sq_over_call : ((Str.ofString "over") == (Str.ofString "call")) = false := by decide +kernel
theorem sq_over_in : ((Str.ofString "over") == (Str.ofString "in")) = false := by decide +kernel
theorem sq_over_over : ((Str.ofString "over") == (Str.ofString "over")) = true := by decide +kernel
theorem sq_over_begin : ((Str.ofString "over") == (Str.ofString "begin")) = false := by decide +kernel
theorem sq_over_start : ((Str.ofString "over") == (Str.ofString "start")) = false := by decide +kernel
theorem sq_over_short : ((Str.ofString "over") == (Str.ofString "short")) = false := by decide +kernel
theorem sq_over_along : ((Str.ofString "over") == (Str.ofString "along")) = false := by decide +kernel
theorem sq_over_within : ((Str.ofString "over") == (Str.ofString "within")) = false := by decide +kernel
theorem sq_over_at : ((Str.ofString "over") == (Str.ofString "at")) = false := by decide +kernel
theorem sq_over_out : ((Str.ofString "over") == (Str.ofString "out")) = false := by decide +kernel
theorem sk_begin : PyData.strOk (Str.ofString "begin") = true := by decide +kernel
theorem sq_begin_step : ((Str.ofString "begin") == (Str.ofString "step")) = false := by decide +kernel
theorem sq_begin_call : ((Str.ofString "begin") == (Str.ofString "call")) = false := by decide +kernel
theorem sq_begin_in : ((Str.ofString "begin") == (Str.ofString "in")) = false := by decide +kernel
theorem sq_begin_over : ((Str.ofString "begin") == (Str.ofString "over")) = false := by decide +kernel
theorem sq_begin_begin : ((Str.ofString "begin") == (Str.ofString "begin")) = true := by decide +kernel
theorem sq_begin_start : ((Str.ofString "begin") == (Str.ofString "start")) = false := by decide +kernel
theorem sq_begin_short : ((Str.ofString "begin") == (Str.ofString "short")) = false := by decide +kernel
theorem sq_begin_along : ((Str.ofString "begin") == (Str.ofString "along")) = false := by decide +kernel
theorem sq_begin_within : ((Str.ofString "begin") == (Str.ofString "within")) = false := by decide +kernel
theorem sq_begin_at : ((Str.ofString "begin") == (Str.ofString "at")) = false := by decide +kernel
theorem sq_begin_out : ((Str.ofString "begin") == (Str.ofString "out")) = false := by decide +kernel
theorem sk_start : PyData.strOk (Str.ofString "start") = true := by decide +kernel
theorem sq_start_step : ((Str.ofString "start") == (Str.ofString "step")) = false := by decide +kernel
theorem sq_start_call : ((Str.ofString "start") == (Str.ofString "call")) = false := by decide +kernel
theorem sq_start_in : ((Str.ofString "start") == (Str.ofString "in")) = false := by decide +kernel
theorem sq_start_over : ((Str.ofString "start") == (Str.ofString "over")) = false := by decide +kernel
theorem sq_start_begin : ((Str.ofString "start") == (Str.ofString "begin")) = false := by decide +kernel
theorem sq_start_start : ((Str.ofString "start") == (Str.ofString "start")) = true := by decide +kernel
theorem sq_start_short : ((Str.ofString "start") == (Str.ofString "short")) = false := by decide +kernel
theorem sq_start_along : ((Str.ofString "start") == (Str.ofString "along")) = false := by decide +kernel
theorem sq_start_within : ((Str.ofString "start") == (Str.ofString "within")) = false := by decide +kernel
theorem sq_start_at : ((Str.ofString "start") == (Str.ofString "at")) = false := by decide +kernel
theorem sq_start_out : ((Str.ofString "start") == (Str.ofString "out")) = false := by decide +kernel
theorem sk_short : PyData.strOk (Str.ofString "short") = true := by decide +kernel
theorem sq_short_step : ((Str.ofString "short") == (Str.ofString "step")) = false := by decide +kernel
theorem sq_short_call : ((Str.ofString "short") == (Str.ofString "call")) = false := by decide +kernel
theorem sq_short_in : ((Str.ofString "short") == (Str.ofString "in")) = false := by decide +kernel
theorem sq_short_over : ((Str.ofString "short") == (Str.ofString "over")) = false := by decide +kernel
theorem sq_short_begin : ((Str.ofString "short") == (Str.ofString "begin")) = false := by decide +kernel
theorem sq_short_start : ((Str.ofString "short") == (Str.ofString "start")) = false := by decide +kernel
theorem sq_short_short : ((Str.ofString "short") == (Str.ofString "short")) = true := by decide +kernel
theorem sq_short_along : ((Str.ofString "short") == (Str.ofString "along")) = false := by decide +kernel
theorem sq_short_within : ((Str.ofString "short") == (Str.ofString "within")) = false := by decide +kernel
theorem sq_short_at : ((Str.ofString "short") == (Str.ofString "at")) = false := by decide +kernel
theorem sq_short_out : ((Str.ofString "short") == (Str.ofString "out")) = false := by decide +kernel
theorem sk_along : PyData.strOk (Str.ofString "along") = true := by decide +kernel
theorem sq_along_step : ((Str.ofString "along") == (Str.ofString "step")) = false := by decide +kernel
theorem sq_along_call : ((Str.ofString "along") == (Str.ofString "call")) = false := by decide +kernel
theorem sq_along_in : ((Str.ofString "along") == (Str.ofString "in")) = false := by decide +kernel
theorem sq_along_over : ((Str.ofString "along") == (Str.ofString "over")) = false := by decide +kernel
theorem sq_along_begin : ((Str.ofString "along") == (Str.ofString "begin")) = false := by decide +kernel
theorem sq_along_start : ((Str.ofString "along") == (Str.ofString "start")) = false := by decide +kernel
theorem sq_along_short : ((Str.ofString "along") == (Str.ofString "short")) = false := by decide +kernel
theorem sq_along_along : ((Str.ofString "along") == (Str.ofString "along")) = true := by decide +kernel
theorem sq_along_within : ((Str.ofString "along") == (Str.ofString "within")) = false := by decide +kernel
theorem sq_along_at : ((Str.ofString "along") == (Str.ofString "at")) = false := by decide +kernel
theorem sq_along_out : ((Str.ofString "along") == (Str.ofString "out")) = false := by decide +kernel
theorem sk_within : PyData.strOk (Str.ofString "within") = true := by decide +kernel
theorem sq_within_step : ((Str.ofString "within") == (Str.ofString "step")) = false := by decide +kernel
theorem sq_within_call : ((Str.ofString "within") == (Str.ofString "call")) = false := by decide +kernel
theorem sq_within_in : ((Str.ofString "within") == (Str.ofString "in")) = false := by decide +kernel
theorem sq_within_over : ((Str.ofString "within") == (Str.ofString "over")) = false := by decide +kernel
theorem sq_within_begin : ((Str.ofString "within") == (Str.ofString "begin")) = false := by decide +kernel
theorem sq_within_start : ((Str.ofString "within") == (Str.ofString "start")) = false := by decide +kernel
theorem sq_within_short : ((Str.ofString "within") == (Str.ofString "short")) = false := by decide +kernel
theorem sq_within_along : ((Str.ofString "within") == (Str.ofString "along")) = false := by decide +kernel
theorem sq_within_within : ((Str.ofString "within") == (Str.ofString "within")) = true := by decide +kernel
theorem sq_within_at : ((Str.ofString "within") == (Str.ofString "at")) = false := by decide +kernel
theorem sq_within_out : ((Str.ofString "within") == (Str.ofString "out")) = false := by decide +kernel
theorem sk_at : PyData.strOk (Str.ofString "at") = true := by decide +kernel
theorem sq_at_step : ((Str.ofString "at") == (Str.ofString "step")) = false := by decide +kernel
theorem sq_at_call : ((Str.ofString "at") == (Str.ofString "call")) = false := by decide +kernel
theorem sq_at_in : ((Str.ofString "at") == (Str.ofString "in")) = false := by decide +kernel
theorem sq_at_over : ((Str.ofString "at") == (Str.ofString "over")) = false := by decide +kernel
theorem sq_at_begin : ((Str.ofString "at") == (Str.ofString "begin")) = false := by decide +kernel
theorem sq_at_start : ((Str.ofString "at") == (Str.ofString "start")) = false := by decide +kernel
theorem sq_at_short : ((Str.ofString "at") == (Str.ofString "short")) = false := by decide +kernel
theorem sq_at_along : ((Str.ofString "at") == (Str.ofString "along")) = false := by decide +kernel
theorem sq_at_within : ((Str.ofString "at") == (Str.ofString "within")) = false := by decide +kernel
theorem sq_at_at : ((Str.ofString "at") == (Str.ofString "at")) = true := by decide +kernel
theorem sq_at_out : ((Str.ofString "at") == (Str.ofString "out")) = false := by decide +kernel
theorem sk_out : PyData.strOk (Str.ofString "out") = true := by decide +kernel
theorem sq_out_step : ((Str.ofString "out") == (Str.ofString "step")) = false := by decide +kernel
theorem sq_out_call : ((Str.ofString "out") == (Str.ofString "call")) = false := by decide +kernel
theorem sq_out_in : ((Str.ofString "out") == (Str.ofString "in")) = false := by decide +kernel
theorem sq_out_over : ((Str.ofString "out") == (Str.ofString "over")) = false := by decide +kernel
theorem sq_out_begin : ((Str.ofString "out") == (Str.ofString "begin")) = false := by decide +kernel
theorem sq_out_start : ((Str.ofString "out") == (Str.ofString "start")) = false := by decide +kernel
theorem sq_out_short : ((Str.ofString "out") == (Str.ofString "short")) = false := by decide +kernel
theorem sq_out_along : ((Str.ofString "out") == (Str.ofString "along")) = false := by decide +kernel
theorem sq_out_within : ((Str.ofString "out") == (Str.ofString "within")) = false := by decide +kernel
theorem sq_out_at : ((Str.ofString "out") == (Str.ofString "at")) = false := by decide +kernel
theorem sq_out_out : ((Str.ofString "out") == (Str.ofString "out")) = true := by decide +kernel
end CM
namespace CM
open PySem L2 DL
inductive Kind where
  | step (t : List Nat) | call (g : Nat) (into back over : List Nat)
structure Edge where
  p : Nat
  q : Nat
  cost : Nat
  k : Kind
structure Fn where
  places : Nat
  facts : Nat
  edges : List Edge
noncomputable abbrev Chart := List Fn
inductive Mv where | step | over | inn
  deriving DecidableEq
noncomputable abbrev nD (n : Nat) : D := .int (n : Int)
noncomputable def tD (t : List Nat) : D := .tup (t.map nD)
noncomputable def eD (e : Edge) : D := match e.k with
  | .step t => .tup [.str "step", nD e.p, nD e.q, nD e.cost, tD t]
  | .call g i b o => .tup [.str "call", nD e.p, nD e.q, nD e.cost, nD g, tD i, tD b, tD o]
noncomputable def Edge.isStep (e : Edge) : Bool := match e.k with | .step _ => true | .call _ _ _ _ => false
noncomputable def tOk (t : List Nat) (n m : Nat) : Prop := t.length = n ∧ ∀ x ∈ t, x < 2 ^ m
noncomputable def eOk (C : Chart) (F : Fn) (e : Edge) : Prop := e.p < F.places ∧ e.q < F.places ∧ 1 ≤ e.cost ∧ e.cost ≤ 10 ^ 18 ∧ match e.k with
  | .step t => tOk t F.facts F.facts
  | .call g i b o => ∃ G, C[g]? = some G ∧ tOk i F.facts G.facts ∧ tOk b G.facts F.facts ∧ tOk o F.facts F.facts
structure WF (C : Chart) : Prop where
  one : 1 ≤ C.length
  six : C.length ≤ 6
  fn : ∀ (f : Nat) (F : Fn), C[f]? = some F → 1 ≤ F.places ∧ F.places ≤ 10 ∧ 1 ≤ F.facts ∧ F.facts ≤ 6 ∧ F.edges.length ≤ 100 ∧ ∀ e ∈ F.edges, eOk C F e
noncomputable def ChD (h : Hh) (d : D) (C : Chart) : Prop := ∃ fs, lsOf h d = some fs ∧ fs.length = C.length ∧ ∀ (i : Nat) (F : Fn), C[i]? = some F → ∃ e, fs[i]? = some (.tup [nD F.places, nD F.facts, e]) ∧ lsOf h e = some (F.edges.map eD)
theorem ChD.mono {h h' : Hh} {d : D} {C : Chart} (p : Pre h h') (c : ChD h d C) : ChD h' d C := by
  obtain ⟨fs, h1, h2, h3⟩ := c
  exact ⟨fs, p.ls h1, h2, fun i F e => let ⟨x, a, b⟩ := h3 i F e; ⟨x, a, p.ls b⟩⟩
theorem ChD.len {h : Hh} {d : D} {C : Chart} (c : ChD h d C) : lenD h d = some C.length := by
  obtain ⟨fs, h1, h2, h3⟩ := c
  rw [len_ls h1, h2]
noncomputable def fD (F : Fn) : D := .tup [nD F.places, nD F.facts, .lst (F.edges.map eD)]
noncomputable def cD (C : Chart) : D := .lst (C.map fD)
theorem band1 (x : Nat) : Builtin.bitAnd (x : Int) 1 = ((x % 2 : Nat) : Int) := by
  unfold Builtin.bitAnd
  rw [decide_eq_true (show (0 : Int) ≤ (x : Int) by omega), decide_eq_true (show (0 : Int) ≤ 1 by decide)]
  show (((x : Int).toNat &&& (1 : Int).toNat : Nat) : Int) = _
  have e1 : ((x : Int).toNat) = x := by omega
  have e2 : ((1 : Int).toNat) = 1 := rfl
  rw [e1, e2, Nat.and_one_is_mod]
theorem band_nat (a b : Nat) : Builtin.bitAnd (a : Int) (b : Int) = ((a &&& b : Nat) : Int) := by
  unfold Builtin.bitAnd
  rw [decide_eq_true (show (0 : Int) ≤ (a : Int) by omega), decide_eq_true (show (0 : Int) ≤ (b : Int) by omega)]
  show (((a : Int).toNat &&& (b : Int).toNat : Nat) : Int) = _
  simp
theorem bor_nat (a b : Nat) : Builtin.bitOr (a : Int) (b : Int) = ((a ||| b : Nat) : Int) := by
  unfold Builtin.bitOr Builtin.bitAnd Builtin.bitNot
  rw [decide_eq_false (show ¬ (0 : Int) ≤ -(a : Int) - 1 by omega), decide_eq_false (show ¬ (0 : Int) ≤ -(b : Int) - 1 by omega)]
  dsimp only
  rw [show (-(-(a : Int) - 1) - 1).toNat = a by omega, show (-(-(b : Int) - 1) - 1).toNat = b by omega]
  omega
theorem shl1 (k : Nat) : (1 : Int) * 2 ^ ((k : Nat) : Int).toNat = ((2 ^ k : Nat) : Int) := by
  rw [Int.one_mul, Int.toNat_natCast]; simp
theorem nrD_tD (t : List Nat) : nrD (tD t) = true := nrDs_map (fun _ => rfl) t
theorem nrD_eD (e : Edge) : nrD (eD e) = true := by
  unfold eD
  cases e.k with
  | step t => show (true && (true && (true && (true && (nrD (tD t) && true))))) = true; rw [nrD_tD]; rfl
  | call g i b o => show (true && (true && (true && (true && (true && (nrD (tD i) && (nrD (tD b) && (nrD (tD o) && true)))))))) = true; rw [nrD_tD, nrD_tD, nrD_tD]; rfl
noncomputable def br (t : List Nat) (d : Nat) (e : Int) : Bool := decide (0 ≤ e) && (t.getD d 0).testBit e.toNat
noncomputable def edgeAt (C : Chart) (f : Nat) (n : Int) : Option Edge := if 0 ≤ n then (C[f]?).bind fun F => F.edges[n.toNat]? else none
noncomputable def Edge.tab (e : Edge) (w : Mv) : List Nat := match w, e.k with
  | .step, .step t => t
  | .inn, .call _ i _ _ => i
  | .over, .call _ _ _ o => o
  | _, _ => []
noncomputable def takes (C : Chart) (f p d : Nat) (w : Mv) (n e : Int) : Option Edge := (edgeAt C f n).bind fun E => if (E.isStep == (w == .step)) = true ∧ E.p = p ∧ br (E.tab w) d e = true then some E else none
end CM
namespace CM
open PySem L2 DL
noncomputable def Pd (h : Hh) (d : D) (p : PyData) (n : Nat) : Prop := IsP h d p ∧ p.canLay0 = true ∧ p.depth ≤ n
noncomputable def Pds (h : Hh) (ds : List D) (ps : List PyData) (n : Nat) : Prop := IsPs h ds ps ∧ PyData.canLayAll0 ps = true ∧ PyData.depthAll ps ≤ n
theorem Pd.int {h : Hh} {n : Nat} (i : Int) : Pd h (.int i) (.int i) n := ⟨.int i, rfl, Nat.zero_le _⟩
theorem Pd.str {h : Hh} {n : Nat} {x : Str} (e : PyData.strOk x = true) : Pd h (.str x) (.str x) n := ⟨.str x, e, Nat.zero_le _⟩
theorem Pds.nil {h : Hh} {n : Nat} : Pds h [] [] n := ⟨.nil, rfl, Nat.zero_le _⟩
theorem Pds.cons {h : Hh} {n : Nat} {d : D} {p : PyData} {ds : List D} {ps : List PyData} (a : Pd h d p n) (b : Pds h ds ps n) : Pds h (d :: ds) (p :: ps) n :=
  ⟨.cons a.1 b.1, by show (p.canLay0 && PyData.canLayAll0 ps) = true; rw [a.2.1, b.2.1]; rfl, by show max p.depth (PyData.depthAll ps) ≤ n; exact Nat.max_le.mpr ⟨a.2.2, b.2.2⟩⟩
theorem Pd.tup {h : Hh} {n : Nat} {ds : List D} {ps : List PyData} (a : Pds h ds ps n) : Pd h (.tup ds) (.tuple ps) (n + 1) := ⟨.tup a.1, a.2.1, Nat.succ_le_succ a.2.2⟩
theorem Pd.lst {h : Hh} {n : Nat} {ds : List D} {ps : List PyData} (a : Pds h ds ps n) : Pd h (.lst ds) (.list ps) (n + 1) := ⟨.lst a.1, a.2.1, Nat.succ_le_succ a.2.2⟩
theorem Pd.ref {h : Hh} {n i : Nat} {ds : List D} {ps : List PyData} (e : h[i]? = some (.lst ds)) (a : Pds h ds ps n) : Pd h (.ref i) (.list ps) (n + 1) := ⟨.ref e a.1, a.2.1, Nat.succ_le_succ a.2.2⟩
theorem Pd.up {h : Hh} {n m : Nat} {d : D} {p : PyData} (a : Pd h d p n) (e : n ≤ m) : Pd h d p m := ⟨a.1, a.2.1, Nat.le_trans a.2.2 e⟩
theorem Pds.map {τ : Type} {h : Hh} {n : Nat} {f : τ → D} {g : τ → PyData} : ∀ {xs : List τ}, (∀ x, Pd h (f x) (g x) n) → Pds h (xs.map f) (xs.map g) n
  | [], _ => .nil
  | x :: xs, k => .cons (k x) (Pds.map k)
theorem Pds.get {h : Hh} {n : Nat} : ∀ {ds : List D} {ps : List PyData}, ds.length = ps.length → (∀ (i : Nat) (d : D) (p : PyData), ds[i]? = some d → ps[i]? = some p → Pd h d p n) → Pds h ds ps n
  | [], [], _, _ => .nil
  | d :: ds, p :: ps, e, k => .cons (k 0 d p rfl rfl) (Pds.get (by simpa using e) fun i a b h1 h2 => k (i + 1) a b (by simpa using h1) (by simpa using h2))
theorem Pd.shaped {h : Hh} {n : Nat} {d : D} {p : PyData} (a : Pd h d p n) (e : n ≤ 64) : SeqAt.shaped p = true := by
  unfold SeqAt.shaped
  rw [a.2.1, decide_eq_true (Nat.le_trans a.2.2 e)]; rfl
theorem pEq_same {neg : Bool} {x y : D} {h : Hh} {Q : DK} {p : PyData} {n : Nat} (e : eqS x y = none) (a : Pd h x p n) (b : Pd h y p n) (hn : n ≤ 64) (q : Q (.bl (!neg)) h) : pEq neg x y h Q := by
  unfold pEq
  rw [e]
  refine ⟨p, p, a.1, b.1, a.shaped hn, b.shaped hn, ?_⟩
  rw [SeqAt.eqv_refl p a.2.1]
  cases neg <;> exact q
noncomputable def tP (t : List Nat) : PyData := .tuple (t.map fun x : Nat => .int (x : Int))
noncomputable def eP (e : Edge) : PyData := match e.k with
  | .step t => .tuple [.str "step", .int e.p, .int e.q, .int e.cost, tP t]
  | .call g i b o => .tuple [.str "call", .int e.p, .int e.q, .int e.cost, .int g, tP i, tP b, tP o]
theorem pd_t (h : Hh) (t : List Nat) : Pd h (tD t) (tP t) 1 := Pd.tup (n := 0) (Pds.map fun x => .int _)
theorem pd_e (h : Hh) (e : Edge) : Pd h (eD e) (eP e) 2 := by
  unfold eD eP
  cases e.k with
  | step t => exact .tup (.cons (.str sk_step) (.cons (.int _) (.cons (.int _) (.cons (.int _) (.cons (pd_t h t) .nil)))))
  | call g i b o => exact .tup (.cons (.str sk_call) (.cons (.int _) (.cons (.int _) (.cons (.int _) (.cons (.int _) (.cons (pd_t h i) (.cons (pd_t h b) (.cons (pd_t h o) .nil))))))))
noncomputable def fP (F : Fn) : PyData := .tuple [.int F.places, .int F.facts, .list (F.edges.map eP)]
theorem pd_f (h : Hh) (F : Fn) : Pd h (fD F) (fP F) 4 := .tup (.cons (.int _) (.cons (.int _) (.cons (.lst (Pds.map (pd_e h))) .nil)))
theorem pd_c (h : Hh) (C : Chart) : Pd h (cD C) (.list (C.map fP)) 5 := .lst (Pds.map (pd_f h))
end CM
namespace CM
open PySem L2 DL
inductive Mo where
  | go (w : Mv) (k e : Nat) | out (e : Nat)
structure Spot where
  f : Nat
  p : Nat
  d : Nat
  cost : Nat
  op : List (Nat × Nat)
noncomputable def stOk (C : Chart) : Nat → List (Nat × Nat) → Prop
  | _, [] => True
  | f, x :: r => ∃ G E i b o, C[x.1]? = some G ∧ G.edges[x.2]? = some E ∧ E.k = .call f i b o ∧ stOk C x.1 r
noncomputable def sOk (C : Chart) (s : Spot) : Prop := ∃ F, C[s.f]? = some F ∧ s.p < F.places ∧ s.d < F.facts ∧ stOk C s.f s.op
inductive Nx (C : Chart) : Spot → Mo → Spot → Prop
  | go {s : Spot} {w : Mv} {k e : Nat} {E : Edge} : w ≠ .inn → takes C s.f s.p s.d w (k : Int) (e : Int) = some E → Nx C s (.go w k e) ⟨s.f, E.q, e, s.cost + E.cost, s.op⟩
  | inn {s : Spot} {k e : Nat} {E : Edge} {g : Nat} {i b o : List Nat} : takes C s.f s.p s.d .inn (k : Int) (e : Int) = some E → E.k = .call g i b o → Nx C s (.go .inn k e) ⟨g, 0, e, s.cost + E.cost, (s.f, k) :: s.op⟩
  | out {s : Spot} {x : Nat × Nat} {r : List (Nat × Nat)} {e : Nat} {F G : Fn} {E : Edge} {g : Nat} {i b o : List Nat} : s.op = x :: r → C[s.f]? = some F → s.p + 1 = F.places → C[x.1]? = some G → G.edges[x.2]? = some E → E.k = .call g i b o → br b s.d (e : Int) = true → Nx C s (.out e) ⟨x.1, E.q, e, s.cost, r⟩
structure Way (C : Chart) (fact : Nat) (ms : List Mo) (ss : List Spot) : Prop where
  len : ss.length = ms.length + 1
  one : ss[0]? = some ⟨0, 0, fact, 0, []⟩
  ok : ∀ s ∈ ss, sOk C s
  nx : ∀ (i : Nat) (m : Mo) (s s' : Spot), ms[i]? = some m → ss[i]? = some s → ss[i + 1]? = some s' → Nx C s m s'
theorem Way.nil {C : Chart} {fact : Nat} {F : Fn} (wf : WF C) (hF : C[0]? = some F) (hd : fact < F.facts) : Way C fact [] [⟨0, 0, fact, 0, []⟩] :=
  ⟨rfl, rfl, fun s hs => by rw [List.mem_singleton.mp hs]; exact ⟨F, hF, (wf.fn 0 F hF).1, hd, trivial⟩, fun i m s s' h => by simp at h⟩
theorem Nx.len {C : Chart} {s s' : Spot} {m : Mo} (n : Nx C s m s') : s'.op.length ≤ s.op.length + 1 := by
  cases n with
  | go => exact Nat.le_succ _
  | inn => exact Nat.le_refl _
  | out h => rw [h]; show _ ≤ (_ :: _).length + 1; simp; omega
theorem pEq_nil {neg : Bool} {x : D} {h : Hh} {Q : DK} {ps : List PyData} {n : Nat} (e : eqS x (.lst []) = none) (a : Pd h x (.list ps) n) (hn : n ≤ 64) (q : Q (.bl (if neg then !ps.isEmpty else ps.isEmpty)) h) : pEq neg x (.lst []) h Q := by
  unfold pEq
  rw [e]
  refine ⟨.list ps, .list [], a.1, .lst .nil, a.shaped hn, rfl, ?_⟩
  have : PyData.eqv (.list ps) (.list []) = ps.isEmpty := by cases ps <;> rfl
  rw [this]; exact q
theorem cutLast (xs : List D) (x : D) : cutD (xs ++ [x]) none (some (-1)) = xs := by
  unfold cutD HT.sIx
  have : (-1 + ((xs.length : Int) + 1)).toNat = xs.length := by omega
  simp [this]
theorem src_pre {h : Hh} {d : D} {xs : List D} (e : lsOf h d = some xs) : ∃ w, (∀ h', Pre h h' → seqSrc h' d = some ⟨xs, w⟩) ∧ ∀ ys h', Pre h h' → (Src.mk ys w).ok h' := by
  obtain ⟨w, e1, e2, e3⟩ := src_ls e
  refine ⟨w, fun h' p => ?_, fun ys h' p z hz => p _ _ (e2 z hz)⟩
  obtain ⟨w', e4, e5, e6⟩ := src_ls (p.ls e)
  rw [e4]
  cases d with
  | lst ys => cases e1; cases e4; rfl
  | scr ys => cases e1; cases e4; rfl
  | ref i =>
    have e : (match h[i]? with | some (.lst xs) => some xs | _ => none) = some xs := e
    cases q : h[i]? with
    | none => rw [q] at e; cases e
    | some o =>
      cases o with
      | lst ys =>
        rw [q] at e; cases e
        rw [seqSrc_ref q] at e1
        rw [seqSrc_ref (p _ _ q)] at e4
        cases e1; cases e4; rfl
      | dT _ => rw [q] at e; cases e
      | dK _ => rw [q] at e; cases e
      | ins _ _ => rw [q] at e; cases e
  | non => cases e
  | bl _ => cases e
  | int _ => cases e
  | str _ => cases e
  | tup _ => cases e
  | exc _ _ => cases e
end CM
namespace CM
open PySem L2 DL
noncomputable def many (C : Chart) : Nat := (C.map fun F => F.edges.length).sum
end CM
namespace CM
open PySem L2 DL
theorem eqv_tup (x y : List PyData) : PyData.eqv (.tuple x) (.tuple y) = PyData.eqvAll x y := rfl
theorem eqv_cons (x y : PyData) (xs ys : List PyData) : PyData.eqvAll (x :: xs) (y :: ys) = (PyData.eqv x y && PyData.eqvAll xs ys) := rfl
theorem eqv_int (x y : Int) : PyData.eqv (.int x) (.int y) = (x == y) := rfl
section
variable {C : Chart} {s s' : Spot} {w : Mv} {n e : Int} {F G : Fn} {E E' : Edge} {x : Nat × Nat} {r : List (Nat × Nat)}
end
section
variable {C : Chart} {s : Spot} {F : Fn} {E : Edge} {n : Nat} {l : List (Mo × Spot)}
section
variable {x : Nat × Nat} {r : List (Nat × Nat)} {G : Fn} {ep eq ec g : Nat} {i b o : List Nat}
end
end
end CM
namespace L2
open PySem PySem.Spec PyProof.Rows
structure Exc (h : Heap) (a : Addr) (cls : Value) (dx : Option Addr) (T : Option Addr) (fl : Value) : Prop where
  ob : ∃ o vs, h.get? a = some o ∧ o.cls = cls ∧ o.dict = dx ∧ o.data = .fields vs ∧ vs[1]? = some (T.elim .none .ref)
  tb : ∀ t, T = some t → t ≠ a ∧ ∃ o ts, h.get? t = some o ∧ o.data = .fields ts ∧ ts[3]? = some fl
structure Chg (fs : List Addr) (a : Addr) (T : Option Addr) (h h' : Heap) : Prop where
  keep : ∀ b o, h.get? b = some o → b ∉ fs → b ≠ a → T ≠ some b → h'.get? b = some o
  slot : ∀ b o, h.get? b = some o → b ≠ a → T ≠ some b → ∃ sl, h'.get? b = some { o with slots := sl }
  there : ∀ b o, h.get? b = some o → ∃ o', h'.get? b = some o'
section
variable {M : Model} {A : Around} {E : Value → Shared → Prop} {s : Shared} {env : Env} {outer : List Env} {L a : Addr} {cls : Value} {dx T : Option Addr} {fl : Value} {base : Heap}
theorem note_entry {head : Value} {hadNext : Bool} {oe : Obj} {vs : Array Value} {Q : Unit → Shared → Prop} (hfr : A.frames = some (env :: outer)) (hl : s.heap.FunFrames base (env :: outer)) (hf : env.frame = some L)
    (he : s.heap.get? a = some oe) (hd : oe.data = .fields vs) (hsz : 1 < vs.size)
    (h : ∀ h' t, Chg (frs (env :: outer)) a none s.heap h' → s.heap.objs.size ≤ t → Exc h' a oe.cls oe.dict (some t) (rawInt L) → Q () { s with heap := h' }) :
    wpAny M A (do let a' ← frameOf env; let pl ← entryPlaceOf L hadNext; let b ← EntryCells.newEntry head a' .none (rawInt L) .none pl; setField (.ref a) 1 b) Q E s := by
  have hene : a ∉ (env :: outer).filterMap (·.frame) := fun hm => by
    obtain ⟨_, o, ho, hnf⟩ := hl.mem hm
    rw [he] at ho; injection ho with ho; subst ho; exact hnf vs hd
  refine wpAny_bind (wpAny_frameOf_fun hfr hl hf fun h₁ hs₁ => ?_)
  refine wpAny_bind (wpAny_entryPlaceOf fun pl hpl => ?_)
  unfold EntryCells.newEntry newFields
  refine wpAny_bind (wpAny_newObj_type ?_ (hpl.sizeOk5 _ _ _ _ _))
  have he₁ : h₁.get? a = some oe := (hs₁.2.1 a hene).trans he
  have he₂ := Heap.get?_push_of_some (h := h₁) { cls := .type "traceback", dict := none, data := .fields ([head, .ref L, .none, rawInt L, .none] ++ (if pl.isEmpty then List.replicate 6 Value.none else pl)).toArray } he₁
  refine wpAny_setField he₂ hd hsz (h _ h₁.objs.size ⟨?_, ?_, ?_⟩ (by rw [hs₁.1]; exact Nat.le_refl _) ?_)
  · intro b o hb hnf hba _
    rw [Heap.get?_update_other _ _ (Ne.symm hba)]
    exact Heap.get?_push_of_some _ ((hs₁.2.1 b hnf).trans hb)
  · intro b o hb hba _
    obtain ⟨sl, hs⟩ := hs₁.2.2 b o hb
    exact ⟨sl, by rw [Heap.get?_update_other _ _ (Ne.symm hba)]; exact Heap.get?_push_of_some _ hs⟩
  · intro b o hb
    obtain ⟨sl, hs⟩ := hs₁.2.2 b o hb
    by_cases hba : b = a
    · subst hba
      exact ⟨_, Heap.get?_update_self _ he₂ (Obj.isFreed_of_fields (Obj.data_mapFields hd _))⟩
    · exact ⟨_, by rw [Heap.get?_update_other _ _ (Ne.symm hba)]; exact Heap.get?_push_of_some _ hs⟩
  · have hTe : h₁.objs.size ≠ a := Nat.ne_of_gt (Heap.lt_size he₁)
    have hd₃ := Obj.data_mapFields hd (·.setIfInBounds 1 (Value.ref h₁.objs.size))
    refine ⟨⟨_, _, Heap.get?_update_self _ he₂ (Obj.isFreed_of_fields hd₃), Obj.cls_mapFields _ _, ?_, hd₃, by simp [hsz]⟩, fun t ht => ?_⟩
    · obtain ⟨c, d, dt, sl⟩ := oe
      cases hd; rfl
    · cases ht
      refine ⟨hTe, _, _, (Heap.get?_update_other _ _ (Ne.symm hTe)).trans (Heap.get?_push_size h₁ rfl), rfl, ?_⟩
      first | (simp; done) | (rcases hpl with rfl | ⟨_, _, _, _, _, _, _, rfl⟩ <;> simp)
theorem note_ok {Q : Unit → Shared → Prop} (hfr : A.frames = some (env :: outer)) (hl : s.heap.FunFrames base (env :: outer)) (hf : env.frame = some L) (x : Exc s.heap a cls dx T fl) (hfl : fl = .none ∨ fl = rawInt L)
    (h : ∀ h' t, Chg (frs (env :: outer)) a T s.heap h' → (T = some t ∨ s.heap.objs.size ≤ t) → Exc h' a cls dx (some t) (rawInt L) → Q () { s with heap := h' }) : wpAny M A (noteFrame (.ref a) env) Q E s := by
  obtain ⟨⟨oe, vs, he, rfl, rfl, hd, h1⟩, tb⟩ := id x
  unfold noteFrame
  simp only [hf]
  refine wpAny_bind (wpAny_field he hd h1 ?_)
  cases T with
  | none =>
    rw [if_neg (by simp)]
    exact note_entry hfr hl hf he hd (Array.getElem?_eq_some_iff.mp h1).1 fun h' t c n e => h h' t c (.inr n) e
  | some t =>
    obtain ⟨hte, oT, ts, hT, hdT, h3⟩ := tb t rfl
    show wpAny M A (if (Value.ref t != Value.none) = true then _ else _) Q E s
    rw [if_pos (show (Value.ref t != Value.none) = true from by simp)]
    refine wpAny_bind (wpAny_field hT hdT h3 ?_)
    rcases hfl with rfl | rfl
    · rw [if_neg (show ¬ ((Value.none == rawInt L) = true) from by simp [rawInt])]
      refine wpAny_bind (wpAny_setField hT hdT (Array.getElem?_eq_some_iff.mp h3).1 ?_)
      have other : ∀ b, b ≠ t → (s.heap.update t (Obj.mapFields (·.setIfInBounds 3 Value.none))).get? b = s.heap.get? b := fun b hb => Heap.get?_update_other _ _ (Ne.symm hb)
      have noRecord : ∀ b o, s.heap.get? b = some o → (∀ vs, o.data ≠ .fields vs) → b ≠ t := fun b o hb hnf q => by
        rw [q, hT] at hb; injection hb with hb; subst hb; exact hnf ts hdT
      have ht' := Heap.get?_update_self (Obj.mapFields (·.setIfInBounds 3 Value.none)) hT (Obj.isFreed_of_fields (Obj.data_mapFields hdT _))
      refine note_entry (hfr := hfr) (hl := hl.of_keeps fun b o hb hnf => ⟨o, (other b (noRecord b o hb hnf)).trans hb, rfl⟩) (hf := hf) (he := (other a (Ne.symm hte)).trans he) (hd := hd) (hsz := (Array.getElem?_eq_some_iff.mp h1).1)
        fun h' t' c n e => h h' t' ⟨fun b o hb hnf hba hbt => ?_, fun b o hb hba hbt => ?_, fun b o hb => ?_⟩ (.inr ?_) e
      · exact c.keep b o ((other b fun q => hbt (by rw [q])).trans hb) hnf hba (by simp)
      · exact c.slot b o ((other b fun q => hbt (by rw [q])).trans hb) hba (by simp)
      · by_cases q : b = t
        · subst q; exact c.there _ _ ht'
        · exact c.there b o ((other b q).trans hb)
      · have n : (s.heap.update t (Obj.mapFields (·.setIfInBounds 3 Value.none))).objs.size ≤ t' := n
        rw [Heap.size_after_update] at n; exact n
    · rw [if_pos (show (rawInt L == rawInt L) = true from by simp)]
      exact wpAny_pure (h _ t ⟨fun b o hb _ _ _ => hb, fun b o hb _ _ => ⟨o.slots, hb⟩, fun b o hb => ⟨o, hb⟩⟩ (.inl rfl) x)
theorem flight_ok {t : Addr} {fr : Option Addr} {Q : Unit → Shared → Prop} (x : Exc s.heap a cls dx (some t) fl)
    (h : ∀ h', (∀ b o, h' = h' → s.heap.get? b = some o → b ≠ t → h'.get? b = some o) → (∀ b o, s.heap.get? b = some o → ∃ o', h'.get? b = some o') → Exc h' a cls dx (some t) (fr.elim .none fun f => rawInt f) → Q () { s with heap := h' }) :
    wpAny M A (setFlight (.ref a) fr) Q E s := by
  obtain ⟨⟨oe, vs, he, rfl, rfl, hd, h1⟩, tb⟩ := x
  obtain ⟨hte, oT, ts, hT, hdT, h3⟩ := tb t rfl
  have hsz := (Array.getElem?_eq_some_iff.mp h3).1
  unfold setFlight
  refine wpAny_bind (wpAny_field he hd h1 ?_)
  show wpAny M A (if (Value.ref t != Value.none) = true then _ else _) Q E s
  rw [if_pos (show (Value.ref t != Value.none) = true from by simp)]
  have ht' := Heap.get?_update_self (Obj.mapFields (·.setIfInBounds 3 (fr.elim .none fun f => rawInt f))) hT (Obj.isFreed_of_fields (Obj.data_mapFields hdT _))
  have other : ∀ b, b ≠ t → (s.heap.update t (Obj.mapFields (·.setIfInBounds 3 (fr.elim .none fun f => rawInt f)))).get? b = s.heap.get? b := fun b hb => Heap.get?_update_other _ _ (Ne.symm hb)
  refine wpAny_setField hT hdT hsz (h _ (fun b o _ hb hbt => (other b hbt).trans hb) (fun b o hb => ?_) ⟨⟨oe, vs, (other a (Ne.symm hte)).trans he, rfl, rfl, hd, h1⟩, fun t' ht => ?_⟩)
  · by_cases q : b = t
    · subst q; exact ⟨_, ht'⟩
    · exact ⟨o, (other b q).trans hb⟩
  · cases ht
    exact ⟨hte, _, _, ht', Obj.data_mapFields hdT _, by simp [hsz]⟩
end
end L2
namespace L2
open PySem PySem.Spec PyProof.Rows
noncomputable def Away (X : Cx) (pins : List (Addr × Obj)) (b : Addr) : Prop :=
  X.s₀.heap.objs.size ≤ b ∧ b ≠ X.env.locals ∧ (∀ x c, X.env.cells.lookup x = some c → c ≠ b) ∧ ∀ p ∈ X.pn ++ pins, p.1 ≠ b
section
variable {X : Cx} {pins : List (Addr × Obj)} {σ : St} {H H' : Hp} {s s' : Shared} {h' : Heap} {a : Addr} {cls : Value} {dx T : Option Addr} {fl : Value}
theorem Inv.away (I : Inv X pins σ H s) {b : Addr} (hb : s.heap.objs.size ≤ b) : Away X pins b := by
  refine ⟨Nat.le_trans I.sz hb, fun z => ?_, fun x c e z => ?_, fun p hp z => ?_⟩
  · obtain ⟨m, ⟨o, es, ep, ho, r⟩, _⟩ := I.loc
    have := Heap.lt_size ho
    rw [← z] at this; exact absurd (Nat.lt_of_lt_of_le this hb) (Nat.lt_irrefl _)
  · obtain ⟨v, o, ho, _⟩ := I.cell x c e
    have := Heap.lt_size ho
    rw [z] at this; exact absurd (Nat.lt_of_lt_of_le this hb) (Nat.lt_irrefl _)
  · obtain ⟨e, _⟩ := I.pin p hp
    have := Heap.lt_size e
    rw [z] at this; exact absurd (Nat.lt_of_lt_of_le this hb) (Nat.lt_irrefl _)
theorem Inv.unpin (I : Inv X pins σ H s) : Inv X [] σ H s := I.pins_of fun p hp => nomatch hp
theorem Away.unpin {b : Addr} (w : Away X pins b) : Away X [] b := ⟨w.1, w.2.1, w.2.2.1, fun p hp => w.2.2.2 p (by simp at hp; exact List.mem_append_left _ hp)⟩
theorem Inv.chg (I : Inv X pins σ H s) (c : Chg (frs X.stack) a T s.heap h') (ha : H a = none) (hT : ∀ t, T = some t → H t = none) (wa : Away X pins a) (wT : ∀ t, T = some t → Away X pins t) :
    Inv X pins σ H { s with heap := h' } := by
  have nt : ∀ b u, H b = some u → b ∉ frs X.stack ∧ b ≠ a ∧ T ≠ some b := fun b u e => ⟨fun z => (by rw [I.stkFree b z] at e; cases e), fun z => (by rw [z, ha] at e; cases e), fun z => (by rw [hT b z] at e; cases e)⟩
  have hm : ∀ b, b ∉ (a :: T.toList) → b ≠ a ∧ T ≠ some b := fun b hb => ⟨fun z => hb (by simp [z]), fun z => hb (by simp [z])⟩
  refine I.call' (s' := { s with heap := h' }) (ch := a :: T.toList) rfl ⟨fun b o e n hf hc => c.keep b o e hf (hm b hc).1 (hm b hc).2, fun b o e n hf hc => c.slot b o e (hm b hc).1 (hm b hc).2, fun b o e n hc => n, fun b o e hc => c.there b o e, fun _ _ e => e, fun _ _ _ e => e, fun b ps e => ⟨#[], by rw [e]; simp⟩⟩ (fun b u e => ?_) I.bare fun b hb => ?_
  · refine (I.hok b u e).stay (fun c' v hc q => ?_) (fun _ q => q) fun _ _ q => q
    have : ∃ u', H c' = some u' := by
      rcases hc with z | z
      · rw [z]; exact ⟨u, e⟩
      · exact ⟨_, z⟩
    obtain ⟨u', e'⟩ := this
    obtain ⟨n1, n2, n3⟩ := nt c' u' e'
    exact c.keep c' v q n1 n2 n3
  · have w : Away X pins b := by
      rcases List.mem_cons.mp hb with z | z
      · rw [z]; exact wa
      · exact wT b (by simpa using z)
    exact ⟨.inr w.1, w.2⟩
noncomputable def XF (X : Cx) (E : XK) (e : Value) (s' : Shared) : Prop := ∃ a cls dx T fl σ H, e = .ref a ∧ Inv X [] σ H s' ∧ Exc s'.heap a cls dx T fl ∧ Away X [] a ∧ H a = none ∧ (∀ t, T = some t → Away X [] t ∧ H t = none) ∧
  (fl = .none ∨ fl = rawInt X.env.locals) ∧ E cls dx H
noncomputable def CXE (P : Program) (w : World) : CXT := fun outer H s E e s' => ∃ a cls dx t H', e = .ref a ∧ s'.os = s.os ∧ AllBare s'.gens ∧ Un (frs outer) [] H H' s.heap s'.heap ∧ HOk P w H' s'.heap ∧
  Exc s'.heap a cls dx (some t) .none ∧ s.heap.objs.size ≤ a ∧ H' a = none ∧ s.heap.objs.size ≤ t ∧ H' t = none ∧ E cls dx H'
theorem flight_chg {h h' : Heap} {fs : List Addr} {t : Addr} (k : ∀ b o, h.get? b = some o → b ≠ t → h'.get? b = some o) (th : ∀ b o, h.get? b = some o → ∃ o', h'.get? b = some o') : Chg fs a (some t) h h' :=
  ⟨fun b o e _ _ n => k b o e fun z => n (by rw [z]), fun b o e _ n => ⟨o.slots, k b o e fun z => n (by rw [z])⟩, th⟩
theorem XF.noted {E : XK} {e : Value} {M : Model} {E2 : Value → Shared → Prop} {fr : Option Addr} {Q : Unit → Shared → Prop} (hst : X.stack = X.env :: X.outer ∧ X.env.frame = some X.env.locals) (x : XF X E e s)
    (k : ∀ h' a cls dx t σ H, e = .ref a → Inv X [] σ H { s with heap := h' } → Exc h' a cls dx (some t) (fr.elim .none fun f => rawInt f) → Away X [] a → H a = none → Away X [] t → H t = none → E cls dx H → Q () { s with heap := h' }) :
    wpAny M X.A (noteFrame e X.env) (fun _ s1 => wpAny M X.A (setFlight e fr) Q E2 s1) E2 s := by
  obtain ⟨a, cls, dx, T, fl, σ, H, rfl, I, ex, wa, ha, wT, hfl, q⟩ := x
  refine note_ok (base := X.base) (outer := X.outer) (by rw [I.ok.frames, hst.1]) (by have := I.stack; rw [hst.1] at this; exact this) hst.2 ex hfl fun h1 t c ht e1 => ?_
  rw [← hst.1] at c
  have I1 := I.chg c ha (fun t h => (wT t h).2) wa (fun t h => (wT t h).1)
  have wt : Away X [] t ∧ H t = none := by
    rcases ht with z | z
    · exact wT t z
    · exact ⟨I.away z, I.hok.fresh z⟩
  refine flight_ok (s := { s with heap := h1 }) e1 fun h2 k1 k2 e2 => ?_
  have c2 : Chg (frs X.stack) a (some t) h1 h2 := flight_chg (fun b o e n => k1 b o rfl e n) k2
  have I2 := I1.chg (a := a) (T := some t) c2 ha (fun t' h => by cases h; exact wt.2) wa (fun t' h => by cases h; exact wt.1)
  exact k h2 a cls dx t σ H rfl I2 e2 wa ha wt.1 wt.2 q
theorem XF.own {E : XK} (hst : X.stack = X.env :: X.outer ∧ X.env.frame = some X.env.locals) : PassesOwn (model X.prog X.w) X.A X.env (XF X E) := by
  intro e s x
  obtain ⟨a, cls, dx, T, fl, σ, H, rfl, I, ex, wa, ha, wT, hfl, q⟩ := x
  unfold notedBy
  refine note_ok (base := X.base) (outer := X.outer) (by rw [I.ok.frames, hst.1]) (by have := I.stack; rw [hst.1] at this; exact this) hst.2 ex hfl fun h1 t c ht e1 => ?_
  rw [← hst.1] at c
  have I1 := I.chg c ha (fun t h => (wT t h).2) wa (fun t h => (wT t h).1)
  have wt : Away X [] t ∧ H t = none := by
    rcases ht with z | z
    · exact wT t z
    · exact ⟨I.away z, I.hok.fresh z⟩
  unfold cameBackBy
  obtain ⟨⟨oe, vs, he, hc, hdx, hd, h1'⟩, _⟩ := id e1
  refine wpAny_bind (wpAny_field (s := { s with heap := h1 }) he hd h1' ?_)
  show wpAny _ _ (if (Value.ref t == Value.none) = true then _ else _) _ _ _
  rw [if_neg (show ¬ (Value.ref t == Value.none) = true from by simp)]
  refine flight_ok (s := { s with heap := h1 }) e1 fun h2 k1 k2 e2 => ?_
  have c2 : Chg (frs X.stack) a (some t) h1 h2 := flight_chg (fun b o e n => k1 b o rfl e n) k2
  have I2 := I1.chg (a := a) (T := some t) c2 ha (fun t' h => by cases h; exact wt.2) wa (fun t' h => by cases h; exact wt.1)
  exact ⟨a, cls, dx, some t, _, σ, H, rfl, I2, e2, wa, ha, fun t' h => by cases h; exact wt, .inr (by rw [hst.2]; rfl), q⟩
theorem XF.leave {E : XK} {e : Value} {M : Model} {E2 : Value → Shared → Prop} (hst : X.stack = X.env :: X.outer ∧ X.env.frame = some X.env.locals) (hex : X.ex = []) (x : XF X E e s) :
    wpAny M X.A (leaving X.env e) (fun _ s' => CXE X.prog X.w X.outer X.H₀ X.s₀ E e s') E2 s := by
  unfold leaving
  refine wpAny_bind (XF.noted (fr := none) hst x fun h' a cls dx t σ H he I ex wa ha wt ht q => ?_)
  exact ⟨a, cls, dx, t, H, he, I.os, I.bare, by have := I.base; rw [hex] at this; exact this, I.hok, ex, wa.1, ha, wt.1, ht, q⟩
noncomputable abbrev Cx.wishX (X : Cx) (E : XK) : Cx := { X with xe := XF X E, ex9 := E }
theorem Cx.Ok.wishX {X : Cx} (ok : X.Ok) (E : XK) : (X.wishX E).Ok :=
  ⟨ok.mod, ok.kind, ok.glob, ok.blt, ok.above, ok.inj, ok.has, ok.cab, ok.hd, ok.frames, ok.stk, ok.exf, ok.bs, ok.bsz, ok.noex, ok.exfs, ok.funs, ok.frf⟩
theorem Cx.Ok.unwishX {X : Cx} {E : XK} (ok : (X.wishX E).Ok) : X.Ok :=
  ⟨ok.mod, ok.kind, ok.glob, ok.blt, ok.above, ok.inj, ok.has, ok.cab, ok.hd, ok.frames, ok.stk, ok.exf, ok.bs, ok.bsz, ok.noex, ok.exfs, ok.funs, ok.frf⟩
theorem Inv.wishX (I : Inv X pins σ H s) (E : XK) : Inv (X.wishX E) pins σ H s := ⟨I.ok.wishX E, I.os, I.bare, I.base, I.loc, I.cell, I.free, I.freeC, I.pin, I.hok, I.len⟩
theorem Inv.unwishX {E : XK} (I : Inv (X.wishX E) pins σ H s) : Inv X pins σ H s := ⟨I.ok.unwishX, I.os, I.bare, I.base, I.loc, I.cell, I.free, I.freeC, I.pin, I.hok, I.len⟩
theorem SP.unwishX {E : XK} {D : Ends} {f : Flow} {s' : Shared} (h : SP (X.wishX E) pins D f s') : SP X pins D f s' := by
  cases f with
  | next => obtain ⟨σ', H', I, q⟩ := h; exact ⟨σ', H', I.unwishX, q⟩
  | brk => obtain ⟨σ', H', I, q⟩ := h; exact ⟨σ', H', I.unwishX, q⟩
  | cont => obtain ⟨σ', H', I, q⟩ := h; exact ⟨σ', H', I.unwishX, q⟩
  | ret u => obtain ⟨v, σ', H', I, r, q⟩ := h; exact ⟨v, σ', H', I.unwishX, r, q⟩
theorem PSs.wishX {st : List Stmt} {t : TS} {E : XK} (h : PSs (X.wishX E) st t) (k : ∀ e s, XF X E e s → X.xe e s) : PSs X st t := fun pins s σ H D I hw =>
  wpAny_mono (h pins s σ H D (I.wishX _) hw) (fun _ _ q => q.unwishX) k
theorem passX {E E' : XK} (le : ∀ c d H, E c d H → E' c d H) : Passes (CXE X.prog X.w) (X.wishX E') E := by
  intro pins σ H s e s' I h
  obtain ⟨a, cls, dx, t, H', rfl, os, bare, un, hok, ex, wa, ha, wt, ht, q⟩ := h
  have I0 : Inv X [] σ H s := I.unwishX.unpin
  refine ⟨a, cls, dx, some t, _, σ, H', rfl, I0.call' (ch := []) os un hok bare (fun b z => absurd z (by simp)), ex, I0.away wa, ha, fun t' h => by cases h; exact ⟨I0.away wt, ht⟩, .inl rfl, le _ _ _ q⟩
theorem pass0X {X : Cx} : Passes (CXE X.prog X.w) X E0 := fun _ _ _ _ _ _ _ z => by
  obtain ⟨_, _, _, _, _, _, _, _, _, _, _, _, _, _, _, q⟩ := z
  exact q.elim
theorem ownX {E : XK} (hst : X.stack = X.env :: X.outer ∧ X.env.frame = some X.env.locals) : PassesOwn (model (X.wishX E).prog (X.wishX E).w) (X.wishX E).A (X.wishX E).env (X.wishX E).xe := XF.own hst
end
section
variable {P : Program} {w : World} {K : PySem.W.Frag} {mg : Str → Option Value} {base : Heap}
theorem Fun.okX {x qual : Str} {st : Stmt} {f : Addr} {fd : FuncData} {N ps : List Str} {k : Nat} {sp : Sp} (F : Fun K x qual st f fd) (S : FnScope N ps (defScope st)) (len : ∀ vs H Q E, sp vs H Q E → vs.length = ps.length)
    (hbody : ∀ (cdv : Value) (A : Around) (outer : List Env) (s : Shared) (H : Hp) (vs : List V) (Q : VK) (E : XK), Room k (A.deeper (envOfC qual (defScope st) s.heap.objs.size f cdv)) → sp vs H Q E →
      ∃ t, PSs ((cxOf (CXE P w) P w K mg base N qual (defScope st) f cdv A outer s H E).wishX E) (defBody st) t ∧ t { nx := fun _ H' => Q .non H', rt := Q } (start N vs) H) :
    FnOk P w K mg base (CXE P w) (k + 1) f fd ps sp := by
  obtain ⟨oc, od, dV, kV, doc, pm, an, cdv, ct, osl, rfl, lk, hcd⟩ := F.ex
  refine fn_of lk hcd S len fun A outer s H vs Q E hr hsp => ?_
  obtain ⟨t, h, q⟩ := hbody cdv A outer s H vs Q E hr hsp
  exact ⟨t, h.wishX fun e s' x => XF.leave (X := cxOf (CXE P w) P w K mg base N qual (defScope st) f cdv A outer s H E) ⟨rfl, rfl⟩ rfl x, q⟩
end
end L2
namespace L2
open PySem PySem.Spec PyProof.Rows
open Sem (wp)
section
variable {M : Model} {A : Around} {E : Value → Shared → Prop} {env : Env}
variable {nm q : Str} {C N : Addr} {bs bm : List Value} {hdct : Bool} {sn : List Str} {sub : List Value} {ab : Bool} {col : Option Bool} {dd : Option Addr} {k0 k1 k2 k3 k5 : Option Value} {newId : String}
theorem raise_any {s : Shared} {x : Sem Value} {Q : Flow → Shared → Prop} (hbase : bm.contains (.type "BaseException") = true) (hh : A.handled = none)
    (h : wpAny M A x (fun v s₁ => ∃ e dx a0 sl, v = .ref e ∧ s₁.heap.get? C = some (excClassObj nm q C N bs bm hdct sn sub ab col dd k0 k1 k2 k3 k5 newId) ∧
      s₁.heap.get? e = some { cls := .ref C, dict := dx, data := .fields #[a0, .none, .none, .none, .bool false, .none], slots := sl } ∧ E (.ref e) s₁) E s) :
    wpAny M A (raiseStmt env (some x) none) Q E s := by
  have hcB : (Value.ref C :: bm).contains (.type "BaseException") = true := by rw [List.contains_cons, hbase, Bool.or_true]
  unfold raiseStmt
  refine wpAny_bind (wpAny_mono h (fun v s₁ h₁ => ?_) fun _ _ x => x)
  obtain ⟨e, dx, a0, sl, rfl, hC, he, hE⟩ := h₁
  obtain ⟨hp, g, d, tk, os⟩ := s₁
  repeat (first | with_reducible refine wpAny_loadPart_at he ?_ | with_reducible refine wpAny_loadPart_at hC ?_ | (with_reducible refine wpAny_isSubtype_exc hC ?_; rw [hcB]) | wp_step)
  exact wpAny_raiseNew_none hh hE
end
section
variable {prog : Program} {w : World} {A : Around} {E : Value → Shared → Prop} {h : Heap} {g : Array GenState} {d : Drawn} {t : Nat} {os : OsState}
variable {nm q : Str} {C N : Addr} {bs bm bmB : List Value} {hdct : Bool} {sn : List Str} {sub : List Value} {ab : Bool} {col : Option Bool} {dd : Option Addr} {k0 k1 k2 k3 k5 : Option Value} {B Bn newId nid initId inN : String} {bmN : List Value}
theorem type_call_initU (Fn : ExcBaseFacts Bn newId inN bmN) (hBn : bmB.contains (.type Bn) = true) (F : ExcBaseFacts B nid initId bmB) (T : OwnTail h bmB bm) {mN : Str → Option Value} {rest : List Value} {fI : Addr} {oI : Obj} {Q : Fin → Shared → Prop}
    (hC : h.get? C = some (excClassObj nm q C N bs bm hdct sn sub ab col dd k0 k1 k2 k3 k5 newId)) (hn : h.Ns N mN) (hi : mN "__init__" = some (.ref fI))
    (hfI : h.get? fI = some oI) (hfc : oI.cls = .type "function")
    (hq : ∀ h' e, Heap.MadeExcOf h h' e (.ref C) rest → h.objs.size ≤ e →
      wpAny (model prog w) A (call (.ref fI) (.ref e :: rest)) (fun r s' => r = .none ∧ Q (.done (.ret (.ref e))) s') E ⟨h', g, d, t, os⟩) (hrest : rest.length ≤ sizeLine := by size_fits) :
    wpAny (model prog w) A (Builtin.«type.__call__» ⟨.ref C :: rest, []⟩) Q E ⟨h, g, d, t, os⟩ := by
  repeat (first | with_reducible refine wpAny_loadPart_at hC ?_ | with_reducible refine wpAny_madeBy_exc hC ?_ | wp_step)
  refine codeAny_call_builtin_code (Code.quiet_builtin _ Fn.quiet) (wpAny_check_new_subU Fn hBn T hC ?_)
  refine codeAny_exc_new_subU Fn hBn F T hC ?_ hrest
  show wpAny _ _ _ _ _ _
  have hC₁ := Heap.get?_push_of_some { cls := .ref C, data := .fields #[.ref h.objs.size, .none, .none, .none, .bool false, .none] }
    (Heap.get?_push_of_some { cls := .type "tuple", data := .seq rest.toArray } hC)
  have hfI₁ := Heap.get?_push_of_some { cls := .ref C, data := .fields #[.ref h.objs.size, .none, .none, .none, .bool false, .none] }
    (Heap.get?_push_of_some { cls := .type "tuple", data := .seq rest.toArray } hfI)
  have hn₁ : ((h.push { cls := .type "tuple", data := .seq rest.toArray }).push { cls := .ref C, data := .fields #[.ref h.objs.size, .none, .none, .none, .bool false, .none] }).Ns N mN :=
    let ⟨o, es, ep, e, r⟩ := hn; ⟨o, es, ep, Heap.get?_push_of_some _ (Heap.get?_push_of_some _ e), r⟩
  have hget : ((h.push { cls := .type "tuple", data := .seq rest.toArray }).push
      { cls := .ref C, data := .fields #[.ref h.objs.size, .none, .none, .none, .bool false, .none] }).get? (h.objs.size + 1) = some
      { cls := .ref C, data := .fields #[.ref h.objs.size, .none, .none, .none, .bool false, .none] } := by heap_get
  have hcC : (Value.ref C :: bm).contains (.ref C) = true := by simp
  have T₁ := T.keeps (h' := (h.push { cls := .type "tuple", data := .seq rest.toArray }).push { cls := .ref C, data := .fields #[.ref h.objs.size, .none, .none, .none, .bool false, .none] })
    fun b o e => Heap.get?_push_of_some _ (Heap.get?_push_of_some _ e)
  unfold isInstance
  repeat (first | with_reducible refine wpAny_loadPart_at hget ?_ | (with_reducible refine wpAny_isSubtype_exc hC₁ ?_; rw [hcC]) | wp_step)
  show wpAny _ _ (typeLookup (.ref C) _) _ _ _
  refine wpAny_typeLookup_tail hC₁ hn₁ T₁ F.mroIs F.init.lookup ?_
  rw [hi]
  refine wpAny_holding (wpAny_bind ?_)
  unfold bindSpecial
  refine wpAny_bind (wpAny_typeOf (T := "function") ⟨_, hfI₁, hfc⟩ ?_)
  rw [if_pos (by decide)]
  refine wpAny_pure (wpAny_bind (wpAny_mono (hq _ (h.objs.size + 1) ⟨fun b o hb => Heap.get?_push_of_some _ (Heap.get?_push_of_some _ hb), Heap.get?_none_of_le (Nat.le_succ _), h.objs.size, hget, Heap.get?_none_of_le (Nat.le_refl _), ?_⟩ (Nat.le_succ _)) (fun r s' hr => ?_) fun _ _ x => x))
  · exact Heap.get?_push_of_some _ (Heap.get?_push_at rfl rfl)
  · obtain ⟨rfl, hQ⟩ := hr
    wp_walk
    exact hQ
theorem call_initU (Fn : ExcBaseFacts Bn newId inN bmN) (hBn : bmB.contains (.type Bn) = true) (F : ExcBaseFacts B nid initId bmB) (T : OwnTail h bmB bm) {mN : Str → Option Value} {rest : List Value} {fI : Addr} {oI : Obj} {Q : Value → Shared → Prop}
    (hC : h.get? C = some (excClassObj nm q C N bs bm hdct sn sub ab col dd k0 k1 k2 k3 k5 newId)) (hn : h.Ns N mN) (hi : mN "__init__" = some (.ref fI))
    (hfI : h.get? fI = some oI) (hfc : oI.cls = .type "function")
    (hq : ∀ h' e, Heap.MadeExcOf h h' e (.ref C) rest → h.objs.size ≤ e →
      wpAny (model prog w) (A.under (.builtin "type.__call__" ⟨.ref C :: rest, []⟩)) (call (.ref fI) (.ref e :: rest)) (fun r s' => r = .none ∧ Q (.ref e) s') E ⟨h', g, d, t, os⟩) (hrest : rest.length ≤ sizeLine := by size_fits) :
    wpAny (model prog w) A (call (.ref C) rest) Q E ⟨h, g, d, t, os⟩ := by
  have f1 := tc_lookup
  have f2 := tc_bind (.ref C)
  have hT : (⟨h, g, d, t, os⟩ : Shared).TypeIs (.ref C) "type" := ⟨_, hC, rfl⟩
  refine wpAny_call (codeAny_of_tree ?_)
  show wpAny _ _ (callAny (.ref C) _) _ _ _
  repeat (any_goals (first | assumption | with_reducible refine wpAny_loadPart_at hC ?_ | wp_step))
  refine ⟨rfl, ?_⟩
  refine codeAny_call_builtin_at (Code.quiet_builtin _ (by decide +kernel)) entry_typeCall (wpAny_check_type_call_sub hC (type_call_initU (hrest := hrest) Fn hBn F T hC hn hi hfI hfc fun h' e hm he => ?_))
  exact hq h' e hm he
end
section
variable {prog : Program} {w : World} {A : Around} {E : Value → Shared → Prop} {s : Shared} {env : Env}
variable {nm q : Str} {C N : Addr} {bs bm bmB : List Value} {hdct : Bool} {sn : List Str} {sub : List Value} {ab : Bool} {col : Option Bool} {dd : Option Addr} {k0 k1 k2 k3 k5 : Option Value} {B Bn newId nid initId inN : String} {bmN : List Value}
theorem raise_call {x : Str} {np cpos pos : Pos} {args : List Expr} {Q : Flow → Shared → Prop}
    (hbase : bm.contains (.type "BaseException") = true) (hh : A.handled = none) (hplain : (backTo cpos (starEach args env)).any (·.1) = false)
    (h : wpAny (model prog w) A (eval (.Name x np) env) (fun f s₁ => f = .ref C ∧ wpAny (model prog w) A (evalArgs (.ref C) true (backTo cpos (starEach args env)) [])
      (fun a s₂ => a.kw = [] ∧ s₂.heap.get? C = some (excClassObj nm q C N bs bm hdct sn sub ab col dd k0 k1 k2 k3 k5 newId) ∧
        wpAny (model prog w) A (call (.ref C) a.pos) (fun v s₃ => ∃ e dx a0 sl, v = .ref e ∧ s₃.heap.get? C = some (excClassObj nm q C N bs bm hdct sn sub ab col dd k0 k1 k2 k3 k5 newId) ∧
          s₃.heap.get? e = some { cls := .ref C, dict := dx, data := .fields #[a0, .none, .none, .none, .bool false, .none], slots := sl } ∧ E (.ref e) s₃) E s₂) E s₁) E s) :
    wpAny (model prog w) A (exec (.Raise (some (.Call (.Name x np) args [] cpos)) none pos) env) Q E s := by
  rw [arm_exec_Raise]
  refine wpAny_bind (wpAny_standAt ?_)
  refine raise_any (C := C) (nm := nm) (q := q) (N := N) (bs := bs) (bm := bm) (hdct := hdct) (sn := sn) (sub := sub) (ab := ab) (col := col) (dd := dd) (k0 := k0) (k1 := k1) (k2 := k2) (k3 := k3) (k5 := k5) (newId := newId) hbase hh ?_
  refine wpAny_bind (wpAny_mono (wpAny_Call_ofName (wpAny_mono h (fun f s₁ h₁ => ?_) fun _ _ x => x)) (fun v s₃ h₃ => wpAny_bind (wpAny_standAt (wpAny_pure h₃))) fun _ _ x => x)
  obtain ⟨rfl, h₁⟩ := h₁
  unfold callWith
  refine wpAny_bind (wpAny_holding (wpAny_mono h₁ (fun a s₂ h₂ => wpAny_bind (wpAny_standAt ?_)) fun _ _ x => x))
  obtain ⟨apos, akw⟩ := a
  obtain ⟨hkw, hC, h₂⟩ := h₂
  obtain rfl : akw = [] := hkw
  obtain ⟨hp, g, d, tk, os⟩ := s₂
  simp only [hplain]
  refine wpAny_bind (wpAny_keeperOf_exc hC ?_)
  exact wpAny_bind (wpAny_mono h₂ (fun v s₃ h₃ => wpAny_bind (wpAny_holding (wpAny_point (wpAny_pure h₃)))) fun _ _ z => z)
end
end L2
namespace L2
open PySem PySem.Spec PyProof.Rows
open Sem (wp)
section
variable {prog : Program} {w : World} {A : Around} {E : Value → Shared → Prop} {h : Heap} {g : Array GenState} {d : Drawn} {tk : Nat} {os : OsState}
variable {nm q : Str} {C N : Addr} {bs bm bmB : List Value} {hdct : Bool} {sn : List Str} {sub : List Value} {ab : Bool} {col : Option Bool} {dd : Option Addr} {k0 k1 k2 k3 k5 : Option Value} {B newId nid initId : String}
theorem base_init (F : ExcBaseFacts B nid initId bmB) (T : OwnTail h bmB bm) {e : Addr} {dx : Option Addr} {t0 : Addr} {sl : Array (Option Value)} {rest : List Value} {Q : Value → Shared → Prop}
    (hC : h.get? C = some (excClassObj nm q C N bs bm hdct sn sub ab col dd k0 k1 k2 k3 k5 newId)) (he : h.get? e = some { cls := .ref C, dict := dx, data := .fields #[.ref t0, .none, .none, .none, .bool false, .none], slots := sl })
    (hq : ∀ h' t1, (∀ b o, b ≠ e → h.get? b = some o → h'.get? b = some o) → h'.get? e = some { cls := .ref C, dict := dx, data := .fields #[.ref t1, .none, .none, .none, .bool false, .none], slots := sl } → Q .none ⟨h', g, d, tk, os⟩) (hrest : rest.length ≤ sizeLine := by size_fits) :
    wpAny (model prog w) A (call (.builtin initId) (.ref e :: rest)) Q E ⟨h, g, d, tk, os⟩ := by
  refine wpAny_call (codeAny_call_builtin F.init.plain F.initEntry (wpAny_check_init_subU F T hC he rfl ?_))
  wp_walk
  refine hq _ h.objs.size (fun b o hb ho => ?_) ?_
  · rw [Heap.get?_update_other _ _ (Ne.symm hb)]
    exact Heap.get?_push_of_some _ ho
  · rw [Heap.get?_update_self _ (Heap.get?_push_of_some _ he) rfl]
    rfl
end
section
variable {prog : Program} {w : World} {A : Around} {E : Value → Shared → Prop} {h : Heap} {g : Array GenState} {d : Drawn} {t : Nat} {os : OsState} {K : PySem.W.Frag}
variable {nm q : Str} {C N x : Addr} {bs bm : List Value} {sn : List Str} {sub : List Value} {ab : Bool} {col : Option Bool} {dd : Option Addr} {k0 k1 k2 k3 k5 : Option Value} {newId : String}
  {mA : Str → Option Value} {name : Str} {v : Value}
noncomputable abbrev bmV : List Value := [.type "ValueError", .type "Exception", .type "BaseException", .type "object"]
theorem refuse_tail {self : Value} {l : List Value} (T : OwnTail h bmV l) : refuseLoop self "__setattr__" l = pure () := by
  induction T with
  | base => exact PySem.F.store_ValueError.passes self
  | own _ _ _ _ ih => rw [refuseLoop_ref]; exact ih
theorem xs_check {M : Model} {o : Obj} {nameV : Value} {Q : Unit → Shared → Prop}
    (hC : h.get? C = some (excClassObj nm q C N bs bm true sn sub ab col dd k0 k1 k2 k3 k5 newId)) (T : OwnTail h bmV bm) (hx : h.get? x = some o) (hc : o.cls = .ref C) (hq : Q () ⟨h, g, d, t, os⟩) :
    wpAny M A (checkBuiltinCall "object.__setattr__" ⟨[.ref x, nameV, v], []⟩) Q E ⟨h, g, d, t, os⟩ := by
  have SF := PySem.F.store_ValueError
  have hcB : (Value.ref C :: bm).contains (.type "object") = true := by rw [List.contains_cons, T.hasType SF.hasOwner, Bool.or_true]
  have ha := SF.args (.ref x) nameV v
  simp only [checkBuiltinCall, SF.kind, SF.split]
  refine wpAny_bind ?_
  · unfold isInstance
    repeat (first | (with_reducible refine wpAny_loadPart_at hx ?_; rw [hc]) | (with_reducible refine wpAny_isSubtype_exc hC ?_; rw [hcB]) | wp_step)
    exact hq
theorem xs_entry {tk : Tok} {Q : Fin → Shared → Prop} {ns : List Str} (X : K.In h)
    (hC : h.get? C = some (excClassObj nm q C N bs bm true sn sub ab col dd k0 k1 k2 k3 k5 newId)) (T : OwnTail h bmV bm) (hna : PySem.W.findIn K (.ref C) name = some none)
    (I : h.Inst x C mA)
    (hq : ∀ h' tk', h'.Inst x C (fun y => if y = name then some v else mA y) →
      (∀ b o, b ≠ x → (∀ o₀ dx, h.get? x = some o₀ → o₀.dict = some dx → b ≠ dx) → h.get? b = some o → h'.get? b = some o) →
      (∀ o₀, h.get? x = some o₀ → ∃ o₁ dx, h'.get? x = some o₁ ∧ o₁.cls = o₀.cls ∧ o₁.data = o₀.data ∧ o₁.slots = o₀.slots ∧ o₁.dict = some dx ∧ (o₀.dict = none → h.objs.size ≤ dx) ∧ ∀ dx', o₀.dict = some dx' → dx = dx') → Q (.done (.ret .none)) ⟨h', g, d, tk', os⟩) (hw : PySem.Within mA ns) (hsz : ns.length < sizeLine) :
    wpAny (model prog w) A (Builtin.«object.__setattr__» ⟨[.ref x, .str name tk, v], []⟩) Q E ⟨h, g, d, t, os⟩ := by
  obtain ⟨o, hx, hc, hnc, hd⟩ := I
  have hpass := refuse_tail (self := .ref x) T
  have L2 : PySem.W.Looks (model prog w) h (typeLookup (.ref C) name) none := PySem.W.looks_findIn X hna
  unfold Builtin.«object.__setattr__»
  repeat (first | rw [refuse_eq] | (rw [refuseLoop_ref, hpass]) | (with_reducible refine wpAny_loadPart_at hx ?_; rw [hc]) | with_reducible refine wpAny_mroOf_exc hC ?_ | (with_reducible refine L2.at ?_) | wp_step)
  rcases hd with ⟨hdn, hmA⟩ | ⟨dx, hdx, hne, hns⟩
  ·
    rw [hdn, if_neg (by simp [typeHasDict])]
    split
    · rename_i hcd
      cases hcd
    split
    · rename_i c hcd
      exact absurd hcd (hnc c)
    · have hx₁ : (h.push { cls := .type "dict", data := .dict #[] }).get? x = some o := Heap.get?_push_of_some _ hx
      have hxs : x ≠ h.objs.size := Nat.ne_of_lt (Heap.lt_size hx)
      refine wpAny_bind (wpAny_alloc' ?_)
      refine wpAny_bind (wpAny_update' hx₁ ?_)
      refine wpAny_pure ?_
      have hgd : ((h.push { cls := .type "dict", data := .dict #[] }).update x fun o => { cls := o.cls, dict := some h.objs.size, data := o.data, slots := o.slots }).get? h.objs.size
          = some { cls := .type "dict", data := .dict #[] } :=
        (Heap.get?_update_ne _ _ _ _ hxs.symm).trans (Heap.get?_push_at rfl rfl)
      have hnd : ((h.push { cls := .type "dict", data := .dict #[] }).update x fun o => { cls := o.cls, dict := some h.objs.size, data := o.data, slots := o.slots }).Ns h.objs.size (fun _ => none) :=
        ⟨_, #[], _, hgd, rfl, fun e he => absurd he (by simp), fun _ => rfl⟩
      show wpAny _ _ (Builtin.ObjectAttr.storeInDict h.objs.size (.str name tk) name v) _ _ _
      unfold Builtin.ObjectAttr.storeInDict Builtin.ObjectAttr.newKeyGuard
      refine wpAny_bind (wpAny_pure (wpAny_bind (wpAny_nsSet1 (Heap.Ns1.of_empty hnd) fun h' hn' hs => ?_)))
      obtain ⟨oD, esD, epD, hoD, hdD, hcD⟩ := hn'.count (Within.cons name v Within.nil)
      refine wpAny_bind (wpAny_lookBehind hoD (by rw [hdD]; exact pastItsLine_dict (Nat.le_trans hcD (by rw [List.length_cons, List.length_nil, sizeLine_eq]; omega))) ?_)
      wp_walk
      have hx' : h'.get? x = some { cls := o.cls, dict := some h.objs.size, data := o.data, slots := o.slots } := ?_
      refine hq h' _ ⟨{ cls := o.cls, dict := some h.objs.size, data := o.data, slots := o.slots }, hx', hc, hnc, .inr ⟨h.objs.size, rfl, hxs.symm, ?_⟩⟩ (fun b ob hbx _ hb => ?_)
        (fun o₀ h₀ => by obtain rfl : o = o₀ := Option.some.inj (hx.symm.trans h₀); exact ⟨_, _, hx', rfl, rfl, rfl, rfl, (fun _ => Nat.le_refl _), fun dx e => by rw [hdn] at e; cases e⟩)
      · obtain ⟨o', es, ep, e1, e2, e3, eu, e4⟩ := hn'
        exact ⟨o', es, ep, e1, e2, e3, eu, fun y => by rw [e4 y]; by_cases hy : y = name <;> simp [hy, hmA]⟩
      · exact (hs.2 b (Nat.ne_of_lt (Heap.lt_size hb))).trans ((Heap.get?_update_ne _ _ _ _ hbx).trans (Heap.get?_push_of_some _ hb))
      · refine (hs.2 x hxs).trans (Heap.get?_update_self _ hx₁ ?_)
        have hfr := (Heap.get?_some_iff.mp hx).2
        obtain ⟨oc, od, odt, osl⟩ := o
        cases odt <;> first | rfl | exact hfr
  ·
    rw [hdx]
    refine wpAny_pure ?_
    show wpAny _ _ (Builtin.ObjectAttr.storeInDict dx (.str name tk) name v) _ _ _
    unfold Builtin.ObjectAttr.storeInDict Builtin.ObjectAttr.newKeyGuard
    refine wpAny_bind (wpAny_pure (wpAny_bind (wpAny_nsSet1 hns fun h' hn' hs => ?_)))
    obtain ⟨oD, esD, epD, hoD, hdD, hcD⟩ := hn'.count (Within.cons name v hw)
    refine wpAny_bind (wpAny_lookBehind hoD (by rw [hdD]; exact pastItsLine_dict (Nat.le_trans hcD (by rw [List.length_cons]; omega))) ?_)
    wp_walk
    refine hq h' _ ⟨o, (hs.2 x hne.symm).trans hx, hc, hnc, .inr ⟨dx, hdx, hne, hn'⟩⟩ (fun b ob _ hbd hb => ?_)
      (fun o₀ h₀ => by obtain rfl : o = o₀ := Option.some.inj (hx.symm.trans h₀); exact ⟨_, _, (hs.2 x hne.symm).trans hx, rfl, rfl, rfl, hdx, (fun e => by rw [hdx] at e; cases e), fun dx' e => by rw [hdx] at e; exact Option.some.inj e⟩)
    exact (hs.2 b (hbd o dx hx hdx)).trans hb
theorem xstore {Q : Unit → Shared → Prop} {ns : List Str} (X : K.In h)
    (hC : h.get? C = some (excClassObj nm q C N bs bm true sn sub ab col dd k0 k1 k2 k3 k5 newId)) (T : OwnTail h bmV bm) (hs : PySem.W.findIn K (.ref C) "__setattr__" = some (some (.builtin "object.__setattr__"))) (hna : PySem.W.findIn K (.ref C) name = some none)
    (I : h.Inst x C mA)
    (hq : ∀ h' tk', h'.Inst x C (fun y => if y = name then some v else mA y) →
      (∀ b o, b ≠ x → (∀ o₀ dx, h.get? x = some o₀ → o₀.dict = some dx → b ≠ dx) → h.get? b = some o → h'.get? b = some o) →
      (∀ o₀, h.get? x = some o₀ → ∃ o₁ dx, h'.get? x = some o₁ ∧ o₁.cls = o₀.cls ∧ o₁.data = o₀.data ∧ o₁.slots = o₀.slots ∧ o₁.dict = some dx ∧ (o₀.dict = none → h.objs.size ≤ dx) ∧ ∀ dx', o₀.dict = some dx' → dx = dx') → Q () ⟨h', g, d, tk', os⟩) (hw : PySem.Within mA ns) (hsz : ns.length < sizeLine) :
    wpAny (model prog w) A (setAttr (.ref x) name v) Q E ⟨h, g, d, t, os⟩ := by
  obtain ⟨o, hx, hc, hnc, hd⟩ := id I
  have SF := PySem.F.store_ValueError
  have L1 : PySem.W.Looks (model prog w) h (typeLookup (.ref C) "__setattr__") (some (.builtin "object.__setattr__")) := PySem.W.looks_findIn X hs
  have f3 := SF.slot.bind (.ref x)
  unfold setAttr callSpecial? specialOf
  repeat (any_goals (first | assumption | (with_reducible refine wpAny_loadPart_at hx ?_; rw [hc]) | (with_reducible refine L1.at ?_) | wp_step))
  refine codeAny_call_builtin SF.slot.plain SF.entry (xs_check hC T hx hc (xs_entry X hC T hna I (fun h' tk' I' hk hsame => ?_) hw hsz))
  repeat (any_goals (first | assumption | wp_step))
  exact hq h' tk' I' hk hsame
theorem xl_check {M : Model} {o : Obj} {nameV : Value} {Q : Unit → Shared → Prop} (hC : h.get? C = some (excClassObj nm q C N bs bm true sn sub ab col dd k0 k1 k2 k3 k5 newId)) (T : OwnTail h bmV bm)
    (hx : h.get? x = some o) (hc : o.cls = .ref C) (hq : Q () ⟨h, g, d, t, os⟩) : wpAny M A (checkBuiltinCall "BaseException.__getattribute__" ⟨[.ref x, nameV], []⟩) Q E ⟨h, g, d, t, os⟩ := by
  have hk : builtinKind "BaseException.__getattribute__" = some .slot := by decide +kernel
  have hsplit : splitId "BaseException.__getattribute__" = some ("BaseException", "__getattribute__") := by decide +kernel
  have hcB : (Value.ref C :: bm).contains (.type "BaseException") = true := by rw [List.contains_cons, T.hasType (b := true) (by decide +kernel), Bool.or_true]
  have ha := F.args_bexc_ga (.ref x) nameV
  simp only [checkBuiltinCall, hk, hsplit]
  refine wpAny_bind ?_
  · unfold isInstance
    repeat (first | (with_reducible refine wpAny_loadPart_at hx ?_; rw [hc]) | (with_reducible refine wpAny_isSubtype_exc hC ?_; rw [hcB]) | wp_step)
    exact hq
theorem xl_entry {ox : Obj} {od : Option Obj} {tk : Tok} {Q : Fin → Shared → Prop} (X : K.In h) (I : PySem.W.InstAt h x ox C od) (hf : PySem.W.findObj K C od name = some (.value v)) (hq : Q (.done (.ret v)) ⟨h, g, d, t, os⟩) :
    wpAny (model prog w) A (Builtin.«object.__getattribute__» ⟨[.ref x, .str name tk], []⟩) Q E ⟨h, g, d, t, os⟩ := by
  have L0 := I.type (M := model prog w)
  have L3 := PySem.W.looks_find (M := model prog w) X I hf
  unfold Builtin.«object.__getattribute__»
  refine wpAny_bind (wpAny_pure (wpAny_bind (wpAny_pure (wpAny_bind (L0.at (wpAny_bind (L3.at ?_)))))))
  exact wpAny_pure hq
theorem xload {expr : Bool} {ox : Obj} {od : Option Obj} {Q : Value → Shared → Prop} (X : K.In h)
    (hC : h.get? C = some (excClassObj nm q C N bs bm true sn sub ab col dd k0 k1 k2 k3 k5 newId)) (T : OwnTail h bmV bm)
    (hg : PySem.W.findIn K (.ref C) "__getattribute__" = some (some (.builtin "BaseException.__getattribute__"))) (hgg : PySem.W.findIn K (.ref C) "__getattr__" = some none)
    (I : PySem.W.InstAt h x ox C od) (hf : PySem.W.findObj K C od name = some (.value v)) (hh : PySem.W.handedIn v = true) (hq : Q v ⟨h, g, d, t + 1, os⟩) :
    wpAny (model prog w) A (getAttr (.ref x) name expr) Q E ⟨h, g, d, t, os⟩ := by
  have hx := I.at_
  have hc := I.cls
  have L1 : PySem.W.Looks (model prog w) h (typeLookup (.ref C) "__getattribute__") (some (.builtin "BaseException.__getattribute__")) := PySem.W.looks_findIn X hg
  have L2 : PySem.W.Looks (model prog w) h (typeLookup (.ref C) "__getattr__") none := PySem.W.looks_findIn X hgg
  have FB := PySem.F.attrBase_ValueError
  have f3 := FB.ga.bind (.ref x)
  have hx0 : (expr && onTheHeap (Value.builtin "BaseException.__getattribute__")) = false := by cases expr <;> rfl
  have hx2 : (Value.builtin "BaseException.__getattribute__" == Value.builtin "object.__getattribute__") = false := by decide +kernel
  have hx1 : (onTheHeap (Value.ref C) && Value.builtin "BaseException.__getattribute__" == Value.builtin "object.__getattribute__") = false := by rw [hx2]; rfl
  unfold getAttr
  repeat (any_goals (first | assumption | (with_reducible refine wpAny_loadPart_at hx ?_; rw [hc]) | (with_reducible refine L1.at ?_) | (with_reducible refine L2.at ?_) | wp_step))
  refine codeAny_call_builtin FB.ga.plain F.entry_bexc_ga (xl_check hC T hx hc (xl_entry X I hf ?_))
  repeat (any_goals (first | assumption | (rw [PySem.W.handedOut_of hh]) | wp_step))
end
end L2
namespace L2
open PySem PySem.Spec PyProof.Rows
noncomputable def xObj (C : Addr) (dx : Option Addr) (e : Addr) (h : Heap) : Prop := ∃ t0 sl, h.get? e = some { cls := .ref C, dict := dx, data := .fields #[.ref t0, .none, .none, .none, .bool false, .none], slots := sl }
noncomputable def rmv (H : Hp) (e : Addr) : Hp := fun b => if b = e then none else H b
theorem rmv_ne {H : Hp} {e b : Addr} (h : b ≠ e) : rmv H e b = H b := by unfold rmv; rw [if_neg h]
theorem rmv_same {H : Hp} {e : Addr} : rmv H e e = none := by unfold rmv; rw [if_pos rfl]
theorem ext_ok {P : Program} {w : World} {H : Hp} {h : Heap} {a : Addr} {φ : Heap → Prop} (p : φ h) (o : ∃ o, h.get? a = some o) (k : ∀ h1 h2 : Heap, φ h1 → (∀ o, h1.get? a = some o → h2.get? a = some o) → φ h2) : ObjOk P w H h a (.ext φ) := ⟨p, o, k⟩
theorem xObj_ok {P : Program} {w : World} {H : Hp} {h : Heap} {C e : Addr} {dx : Option Addr} (p : xObj C dx e h) : ObjOk P w H h e (.ext (xObj C dx e)) :=
  ext_ok p (let ⟨_, _, q⟩ := p; ⟨_, q⟩) fun _ _ ⟨t0, sl, q⟩ k => ⟨t0, sl, k _ q⟩
section
variable {X : Cx} {pins : List (Addr × Obj)} {σ : St} {H : Hp} {s : Shared} {e : Addr} {φ : Heap → Prop}
theorem Inv.untrack (I : Inv X pins σ H s) (he : H e = some (.ext φ)) : Inv X pins σ (rmv H e) s := by
  have nn : ∀ b, H b = none → rmv H e b = none := fun b q => by
    unfold rmv; split
    · rfl
    · exact q
  have ne : ∀ b u, H b = some u → (∀ φ, u ≠ .ext φ) → rmv H e b = some u := fun b u q d => by
    rw [rmv_ne fun z => by rw [z, he] at q; exact d φ (Option.some.inj q).symm]; exact q
  refine ⟨I.ok, I.os, I.bare, ⟨I.base.keep, I.base.slot, fun b o q n x => nn b (I.base.free b o q n x), I.base.there, fun b xs q => ne b _ (I.base.tups b xs q) (fun _ z => by cases z), fun b o u q => ne b _ (I.base.frzs b o u q) (fun _ z => by cases z), fun b ps q => ?_⟩, I.loc, I.cell, nn _ I.free, fun x c q => nn _ (I.freeC x c q), fun p hp => ?_, fun b u q => ?_, I.len⟩
  · obtain ⟨more, z⟩ := I.base.tbls b ps q
    exact ⟨more, ne b _ z (fun _ z => by cases z)⟩
  · obtain ⟨a1, a2, a3⟩ := I.pin p hp
    exact ⟨a1, nn _ a2, a3⟩
  · have hb : b ≠ e := fun z => by rw [z, rmv_same] at q; cases q
    rw [rmv_ne hb] at q
    exact (I.hok b u q).stay (fun _ _ _ z => z) (fun c z => ne c _ z (fun _ z => by cases z)) fun c xs z => ne c _ z (fun _ z => by cases z)
end
theorem ns_some_of {K : PySem.W.Frag} {h : Heap} {N : Addr} {mg : Str → Option Value} {n : Str} {v : Value} (X : K.In h) (G : h.Ns N mg) (e : PySem.W.nsIn K N n = some (some v)) : mg n = some v := by
  obtain ⟨o, es, ep, ho, hd, _, hf⟩ := G
  unfold PySem.W.nsIn at e
  split at e
  · rename_i c d es' n' sl q
    have := X _ _ q
    rw [ho] at this
    cases this
    cases hd
    split at e
    · rename_i y he
      cases e
      rw [← hf]
      unfold nsFind findBy
      rw [← Array.find?_toList, he]
      rfl
    · split at e <;> cases e
  · cases e
structure XCls (K : PySem.W.Frag) (C f : Addr) : Prop where
  cls : ∃ nm q N bs bm sn sub ab col dd k0 k1 k2 k3 k5, K.lookup C = some (excClassObj nm q C N bs bm true sn sub ab col dd k0 k1 k2 k3 k5 "ValueError.__new__") ∧ PySem.W.tailIn K bmV bm = true ∧ PySem.W.nsOkIn K N = true ∧ PySem.W.nsIn K N "__init__" = some (some (.ref f))
  fn : ∃ o, K.lookup f = some o ∧ o.cls = .type "function"
  sa : PySem.W.findIn K (.ref C) "__setattr__" = some (some (.builtin "object.__setattr__"))
  ga : PySem.W.findIn K (.ref C) "__getattribute__" = some (some (.builtin "BaseException.__getattribute__"))
  gg : PySem.W.findIn K (.ref C) "__getattr__" = some none
  cl : PySem.W.findIn K (.ref C) "__class__" = some (some (.builtin "object.__class__"))
  cg : PySem.W.specialIn K (.builtin "object.__class__") "__get__" = some (some (.builtin "getset_descriptor.__get__"))
  ct : PySem.W.takesIn K (.builtin "object.__class__") = some true
  mo : PySem.W.mroIn K C (.type "object") = some true
noncomputable def tRaise (C : Addr) (sp : Sp) (E : XK) (t : TA) : TS := fun _ σ H => t σ H fun vs H1 => ∀ e, H1 e = none → sp (.ref e :: vs) (upd H1 e (.ext (xObj C none e)))
  (fun v H2 => v = .non ∧ ∃ dx, H2 e = some (.ext (xObj C (some dx) e)) ∧ E (.ref C) (some dx) (rmv H2 e)) E0
section
variable {X : Cx} {E : XK} {k : Nat} {f C : Addr} {fd : FuncData} {ps : List Str} {sp : Sp} {x : Str} {p pos cpos : Pos} {e : Expr} {es : List Expr} {t : TA}
theorem ps_raise (c : XCls X.K C f) (F : FnOk X.prog X.w X.K X.mg X.base CX0 k f fd ps sp) (hr : Room (k + 1) X.A) (hg : Gl X x) (hm : X.mg x = some (.ref C)) (hb : Binds X.K fd ps [])
    (ha : PA (X.wishX E) (e :: es) t) (hps : ps.length ≤ 100 := by decide) (hdb : (x == ("__debug__" : Str)) = false := by decide) (he : starEach (e :: es) X.env = (false, eval e X.env) :: starEach es X.env := by rfl) (hpl : (backTo cpos (starEach (e :: es) X.env)).any (·.1) = false := by rfl) :
    PS (X.wishX E) (.Raise (some (.Call (.Name x p) (e :: es) [] cpos)) none pos) (tRaise C sp E t) := by
  intro pins s σ H D I h
  obtain ⟨nm, q, N, bs, bm, sn, sub, ab, col, dd, k0, k1, k2, k3, k5, lC, hT, hok, hi⟩ := c.cls
  obtain ⟨oI, lI, fI⟩ := c.fn
  have hbase : bm.contains (.type "BaseException") = true := (PySem.W.tail_of_in I.kIn hT).hasType (by decide +kernel)
  refine raise_call (C := C) (nm := nm) (q := q) (N := N) (bs := bs) (bm := bm) (hdct := true) (sn := sn) (sub := sub) (ab := ab) (col := col) (dd := dd) (k0 := k0) (k1 := k1) (k2 := k2) (k3 := k3) (k5 := k5) (newId := "ValueError.__new__") hbase hr.hd hpl ?_
  refine ld_glob (X := X.wishX E) I hg hm ⟨rfl, ?_⟩ hdb
  have hA := ha cpos pins s σ H _ I h
  rw [he] at hA ⊢
  refine Calls.evalArgs_plain (thn hA fun us s1 ⟨vs, H1, I1, r1, q1⟩ => ⟨rfl, I1.kIn _ _ lC, ?_⟩)
  have KX : X.K.In s1.heap := I1.kIn
  have T := PySem.W.tail_of_in KX hT
  have Ns : s1.heap.Ns N (s1.heap.nsMap N) := .of_isNs (PySem.W.isNs_of_in KX hok)
  have hi' : s1.heap.nsMap N "__init__" = some (.ref f) := ns_some_of KX Ns hi
  obtain ⟨hp, g, d, tk, os⟩ := s1
  have FV := _root_.PySem.F.excBase_ValueError
  refine call_initU (mN := hp.nsMap N) FV (by decide +kernel) FV T (KX _ _ lC) Ns hi' (KX _ _ lI) fI (fun h' e' hm' hle => ?_) ?_
  · have I2 := I1.laid (t' := tk) (a := e') (o := .ext (xObj C none e')) hm'.keeps hle (xObj_ok (let ⟨t, ht, _⟩ := hm'.there; ⟨t, _, ht⟩))
    have hq := q1 e' (I1.hok.fresh hle)
    have r2 : Vals (V.ref e' :: vs) (Value.ref e' :: us) := .cons rfl r1
    have hl : (Value.ref e' :: us ++ []).length = ps.length := by
      rw [List.append_nil, ← r2.length, F.len _ _ _ _ hq]
    refine wpAny_call (codeAny_mono (F.run _ X.stack _ _ ⟨Value.ref e' :: us, []⟩ (Value.ref e' :: us ++ []) _ _ E0 (hr.make C us []) (I2.env0.make C us []) (hb _ _ I2.kIn hl) (by rw [List.append_nil]; exact r2) hq) fun r s' hq' => ?_)
    cases r with
    | error z => exact hq'.elim
    | ok fl =>
      cases fl with
      | ret u =>
        obtain ⟨v, H', I3, rv, ⟨rfl, dx, hx, hE⟩⟩ := I2.after hq'
        obtain ⟨⟨t0, sl, ho⟩, _⟩ := I3.hok _ _ hx
        refine ⟨rv, e', some dx, .ref t0, sl, rfl, I3.kIn _ _ lC, ho, ?_⟩
        exact ⟨e', .ref C, some dx, none, .none, σ, rmv H' e', rfl, I3.unwishX.unpin.untrack hx, ⟨⟨_, _, ho, rfl, rfl, rfl, rfl⟩, (fun t h => nomatch h)⟩, (I1.unwishX.away hle).unpin, rmv_same, (fun t h => nomatch h), .inl rfl, hE⟩
      | next => exact False.elim hq'
      | brk => exact False.elim hq'
      | cont => exact False.elim hq'
  · have hl := F.len _ _ _ _ (q1 hp.objs.size (I1.hok.fresh (Nat.le_refl _)))
    rw [List.length_cons, r1.length] at hl
    exact Nat.le_trans (show us.length ≤ 100 by omega) (by decide)
end
end L2
namespace L2
open PySem PySem.Spec PyProof.Rows DL
section
variable {X : Cx} {pins : List (Addr × Obj)} {σ : St} {H : Hp} {s : Shared} {a : Addr} {o : HO}
theorem Inv.adopt (I : Inv X pins σ H s) (w : Away X pins a) (hn : H a = none) (new : ObjOk X.prog X.w (upd H a o) s.heap a o) : Inv X pins σ (upd H a o) s := by
  have nn : ∀ b, b ≠ a → H b = none → upd H a o b = none := fun b q z => by rw [upd_ne q]; exact z
  have ne : ∀ b u, H b = some u → upd H a o b = some u := fun b u q => by rw [upd_ne fun z => by rw [z, hn] at q; cases q]; exact q
  refine ⟨I.ok, I.os, I.bare, ⟨I.base.keep, I.base.slot, fun b ob q n x => nn b (fun z => ?_) (I.base.free b ob q n x), I.base.there, fun b xs q => ne b _ (I.base.tups b xs q), fun b ob u q => ne b _ (I.base.frzs b ob u q), fun b ps q => ?_⟩, I.loc, I.cell, nn _ (Ne.symm w.2.1) I.free, fun x c q => nn _ (w.2.2.1 x c q) (I.freeC x c q), fun p hp => ?_, fun b u q => ?_, I.len⟩
  · have := Heap.lt_size q
    rw [z] at this
    exact absurd (Nat.lt_of_lt_of_le this w.1) (Nat.lt_irrefl _)
  · obtain ⟨more, z⟩ := I.base.tbls b ps q
    exact ⟨more, ne b _ z⟩
  · obtain ⟨a1, a2, a3⟩ := I.pin p hp
    exact ⟨a1, nn _ (w.2.2.2 p hp) a2, a3⟩
  · by_cases hb : b = a
    · subst hb
      rw [upd_same] at q; cases q
      exact new
    · rw [upd_ne hb] at q
      exact (I.hok b u q).stay (fun _ _ _ z => z) (fun c z => ne c _ z) fun c xs z => ne c _ z
theorem xDict_ok {P : Program} {w : World} {h : Heap} {fs : List (Str × Int)} {dx : Addr} (p : xDict fs dx h) : ObjOk P w H h dx (.ext (xDict fs dx)) :=
  ext_ok p (let ⟨_, ⟨o, _, _, q, _⟩, _⟩ := p; ⟨o, q⟩) fun _ _ ⟨mA, ⟨o, es, ep, q, r⟩, z⟩ k => ⟨mA, ⟨o, es, ep, k _ q, r⟩, z⟩
end
noncomputable def PJ (X : Cx) (parts : List Expr) (n : Nat) (t : St → Hp → Prop) : Prop := ∀ (pins : List (Addr × Obj)) (s : Shared) (σ : St) (H : Hp) (out : Str) (Q : Value → Shared → Prop), Inv X pins σ H s → t σ H → out.length + n ≤ 1000000 →
  (∀ txt tk s', Inv X pins σ H s' → Q (.str txt tk) s') → wpAny (model X.prog X.w) X.A (joinParts out (evalEach parts X.env)) Q X.xe s
section
variable {X : Cx} {e v : Expr} {rest : List Expr} {n : Nat} {t : St → Hp → Prop} {pos p : Pos}
theorem pj_nil : PJ X [] 0 fun _ _ => True := fun pins s σ H out Q I _ hl k => joinParts_nil (k _ _ _ (I.tok _)) (by rw [sizeLine_eq]; omega)
theorem pj_str {c : Str} (he : PE X e (tC (.str c))) (hr : PJ X rest n t) : PJ X (e :: rest) (c.length + n) t := fun pins s σ H out Q I h hl k =>
  joinParts_cons (thn (he pins s σ H (fun v H' => v = .str c ∧ H' = H) I ⟨rfl, rfl⟩) fun u s1 zz0 => by
    obtain ⟨v, H1, I1, r1, e1, e2⟩ := zz0
    subst e1; subst e2
    obtain ⟨tk, rfl⟩ := r1
    have z : (out ++ c).length = out.length + c.length := strLen_append out c
    exact ⟨by rw [z, sizeLine_eq]; omega, hr pins s1 σ H1 _ Q I1 h (by rw [z]; omega) k⟩)
theorem pj_int {i : Nat} (he : PE X v (tVar i)) (hr : PJ X rest n t) : PJ X (.FormattedValue v (-1) none p :: rest) (2000 + n) fun σ H => (∃ a : Int, σ[i]? = some (some (.int a)) ∧ a.natAbs.log2 < 1920) ∧ t σ H := fun pins s σ H out Q I ⟨⟨a, ha, hb⟩, h⟩ hl k =>
  joinParts_cons (FormattedValue_plain (thn (he pins s σ H (fun v H' => v = .int a ∧ H' = H) I ⟨_, ha, rfl, rfl⟩) fun u s1 zz0 => by
    obtain ⟨v, H1, I1, r1, e1, e2⟩ := zz0
    subst e1; subst e2
    obtain ⟨tk, rfl⟩ := r1
    refine formatField_int_small hb ?_
    have e3 := int_text_length_le (k := 1920) (by decide) hb
    have z : (out ++ Str.ofString (toString a)).length = out.length + (toString a).length := by rw [strLen_append, PySem.ofString_length]
    exact ⟨by rw [z, sizeLine_eq]; omega, hr pins _ σ H1 _ Q (I1.tok _) h (by rw [z]; omega) k⟩))
noncomputable def tTxt (t : St → Hp → Prop) : TE := fun σ H Q => t σ H ∧ ∀ txt, Q (.str txt) H
theorem pe_joined {e2 : Expr} (h : PJ X (e :: e2 :: rest) n t) (hn : n ≤ 1000000 := by decide) : PE X (.JoinedStr (e :: e2 :: rest) pos) (tTxt t) := fun pins s σ H Q I ⟨ht, hq⟩ =>
  JoinedStr_many (h pins s σ H Str.empty _ I ht (by show 0 + n ≤ _; omega) fun txt tk s' I' => ⟨.str txt, H, I', ⟨tk, rfl⟩, hq txt⟩)
end
structure XBase (K : PySem.W.Frag) (C0 : Addr) : Prop where
  rd : PySem.W.readsIn K C0 (.type "type") = true
  fc : PySem.W.findCls K (.ref C0) (.type "type") "__init__" = some (.val (.builtin "ValueError.__init__"))
  sp : PySem.W.specialIn K (.ref C0) "__getattribute__" = some (some (.builtin "type.__getattribute__"))
noncomputable def tBInit (K : PySem.W.Frag) (t : TA) : TE := fun σ H Q => t σ H fun vs H1 => ∃ e C f txt dx, vs = [.ref e, .str txt] ∧ XCls K C f ∧ H1 e = some (.ext (xObj C dx e)) ∧ Q .non H1
section
variable {X : Cx} {x : Str} {C0 : Addr} {p1 apos cpos : Pos} {e1 : Expr} {es : List Expr} {t : TA}
theorem pe_binit {pl : Sem Bool} (hg : Gl X x) (hm : X.mg x = some (.ref C0)) (b : XBase X.K C0) (ha : PA X (e1 :: es) t) (hdb : (x == ("__debug__" : Str)) = false := by decide)
    (hst : starEach (e1 :: es) X.env = (false, eval e1 X.env) :: starEach es X.env := by rfl) (hpl : (backTo cpos (starEach (e1 :: es) X.env)).any (·.1) = false := by rfl)
    (ht : eval (.Call (.Attribute (.Name x p1) "__init__" apos) (e1 :: es) [] cpos) X.env = (do
      let ov ← eval (.Name x p1) X.env
      standAt apos.atName
      let (f, first) ← holding [ov] (getMethod ov "__init__" pl)
      callWith cpos f first (backTo cpos (starEach (e1 :: es) X.env)) (backToKw cpos (keywordEach [] X.env))) := by rfl) :
    PE X (.Call (.Attribute (.Name x p1) "__init__" apos) (e1 :: es) [] cpos) (tBInit X.K t) := by
  intro pins s σ H Q I h
  refine PySem.W.methodCall_KW (pl := pl) (ld_glob I hg hm ?_ hdb) ht
  refine PySem.W.method_cls I.kIn b.sp (PySem.W.cls_value I.kIn b.rd b.fc (by decide +kernel) ?_)
  have I0 := I.tok (s.toks + 1)
  have hA := ha cpos pins _ σ H _ I0 h
  rw [hst] at hA hpl ⊢
  refine Calls.callWith_builtin hpl (Calls.evalArgs_plain ?_)
  refine thn hA fun us s2 zz0 => ?_
  obtain ⟨vs, H2, I2, r2, e, C, f, txt, dx, ev, c, he, q⟩ := zz0
  subst ev
  obtain ⟨nm, q', N, bs, bm, sn, sub, ab, col, dd, k0, k1, k2, k3, k5, lC, hT, hok, hi⟩ := c.cls
  obtain ⟨⟨t0, sl, ho⟩, _⟩ := I2.hok _ _ he
  have KX := I2.kIn
  have hl : us.length ≤ sizeLine := by rw [← r2.length]; show 2 ≤ sizeLine; decide
  cases r2 with
  | cons ra r3 =>
    obtain rfl := ra
    obtain ⟨hp, g, d, tk, os⟩ := s2
    refine base_init (_root_.PySem.F.excBase_ValueError) (PySem.W.tail_of_in KX hT) (KX _ _ lC) ho (fun h' t1 k eo => ?_) (Nat.le_trans (Nat.le_succ _) hl)
    have J := I2.write (t' := tk) (x := e) (e := e) (o := .ext (xObj C dx e)) (by rw [he]; exact True.intro) (.inl rfl) (fun b u n z => k b u n z) ⟨_, eo⟩ (xObj_ok ⟨t1, sl, eo⟩)
    have eH : upd H2 e (.ext (xObj C dx e)) = H2 := by
      funext b; unfold upd; split
      · rename_i z; rw [z, he]
      · rfl
    rw [eH] at J
    exact ⟨.non, H2, J, rfl, q⟩
end
noncomputable def sX (K : PySem.W.Frag) (ta tv : TE) (f : Str) : TS := fun D σ H => tv σ H fun y H1 => ta σ H1 fun x H2 => ∃ e C g i, x = .ref e ∧ y = .int i ∧ XCls K C g ∧ NoAttr K C f ∧
  ((H2 e = some (.ext (xObj C none e)) ∧ ∀ dx, H2 dx = none → dx ≠ e → D.nx σ (upd (upd H2 e (.ext (xObj C (some dx) e))) dx (.ext (xDict [(f, i)] dx)))) ∨
   ∃ dx fs, H2 e = some (.ext (xObj C (some dx) e)) ∧ XD H2 dx fs ∧ dx ≠ e ∧ fs.lookup f = none ∧ fs.length < 100 ∧ D.nx σ (upd H2 dx (.ext (xDict (fs ++ [(f, i)]) dx))))
theorem lookup_snoc (fs : List (Str × Int)) (f g : Str) (i : Int) (h : fs.lookup f = none) : (fs ++ [(f, i)]).lookup g = if g = f then some i else fs.lookup g := by
  induction fs with
  | nil =>
    by_cases q : g = f
    · subst q; simp
    · have : (g == f) = false := beq_eq_false_iff_ne.mpr q
      simp [List.lookup, this, q]
  | cons x r ih =>
    obtain ⟨a, b⟩ := x
    rw [List.cons_append, List.lookup_cons, List.lookup_cons]
    rw [List.lookup_cons] at h
    by_cases q : (f == a) = true
    · rw [q] at h; cases h
    · have q : (f == a) = false := by simpa using q
      rw [q] at h
      rw [ih h]
      by_cases z : (g == a) = true
      · rw [z]
        have : g ≠ f := fun y => by rw [y, q] at z; cases z
        simp [this]
      · have z : (g == a) = false := by simpa using z
        rw [z]
section
variable {X : Cx} {o value : Expr} {f : Str} {pos pos' : Pos} {ta tv : TE}
theorem ps_x (ha : PE X o ta) (hv : PE X value tv) (hs : swapsWith value (some (.Attribute o f pos')) pos.line X.env = pure false := by rfl) : PS X (.Assign [.Attribute o f pos'] value pos) (sX X.K ta tv f) := by
  intro pins s σ H D I h
  refine plainObj_wpAny_Assign_Attribute (thn (hv pins s σ H _ I h) fun u s1 zz0 => ?_) hs
  obtain ⟨y, H1, I1, ry, q⟩ := zz0
  refine thn (ha pins s1 σ H1 _ I1 q) fun ov s2 zz0 => ?_
  obtain ⟨x, H2, I2, rx, e, C, g, i, ex, ey, c, n, q2⟩ := zz0
  subst ex; subst ey
  obtain rfl : ov = Value.ref e := rx
  obtain ⟨tku, rfl⟩ := ry
  obtain ⟨nm, q', N, bs, bm, sn, sub, ab, col, dd, k0, k1, k2, k3, k5, lC, hT, hok, hi⟩ := c.cls
  have KX := I2.kIn
  have T := PySem.W.tail_of_in KX hT
  obtain ⟨hp, gg, d, tk, os⟩ := s2
  rcases q2 with ⟨he, q2⟩ | ⟨dx, fs, he, hd, hne, hl, hlen, q2⟩
  · obtain ⟨⟨t0, sl, ho⟩, _⟩ := I2.hok _ _ he
    refine xstore (mA := fun _ => none) (ns := []) KX (KX _ _ lC) T c.sa n ⟨_, ho, rfl, (fun c z => by cases z), .inl ⟨rfl, fun _ => rfl⟩⟩ (fun h' tk' I' hk hsame => ?_) (fun y hy => absurd rfl hy) (by decide)
    obtain ⟨o1, dx, e1, ec, ed, es, edx, enew, _⟩ := hsame _ ho
    have hdx : hp.objs.size ≤ dx := enew rfl
    have hne : dx ≠ e := fun z => absurd (Nat.lt_of_lt_of_le (Heap.lt_size ho) (z ▸ hdx)) (Nat.lt_irrefl _)
    have J := I2.write (t' := tk') (x := e) (e := e) (o := .ext (xObj C (some dx) e)) (by rw [he]; exact True.intro) (.inl rfl) (fun b u nb z => hk b u nb (fun o₀ dx' z1 z2 => by rw [ho] at z1; cases z1; cases z2) z) ⟨_, e1⟩ (xObj_ok ⟨t0, sl, by
      rw [e1]; obtain ⟨a1, a2, a3, a4⟩ := o1; cases ec; cases ed; cases es; cases edx; rfl⟩)
    have hn0 : H2 dx = none := I2.hok.fresh hdx
    have J2 := J.adopt (a := dx) (o := .ext (xDict [(f, i)] dx)) (I2.away hdx) (by rw [upd_ne hne]; exact hn0) (xDict_ok (by
      obtain ⟨o2, z1, _, _, z2⟩ := I'
      rw [e1] at z1; cases z1
      rcases z2 with ⟨z2, _⟩ | ⟨d2, z2, _, z3⟩
      · rw [edx] at z2; cases z2
      · rw [edx] at z2; cases z2
        refine ⟨_, z3, fun y hy => ?_, fun y => ?_⟩
        · by_cases zz : y = f
          · simp [zz]
          · exact absurd (if_neg zz) hy
        · by_cases zz : y = f
          · subst zz; show RelO (Option.map V.int (List.lookup y [(y, i)])) _
            rw [if_pos rfl]; simp; exact ⟨tku, rfl⟩
          · have : (y == f) = false := beq_eq_false_iff_ne.mpr zz
            show RelO (Option.map V.int (List.lookup y [(f, i)])) _
            rw [if_neg zz]; simp [List.lookup, this]; exact True.intro))
    exact ⟨σ, _, J2, q2 dx hn0 hne⟩
  · obtain ⟨⟨t0, sl, ho⟩, _⟩ := I2.hok _ _ he
    obtain ⟨⟨mA, hns, hw, hr⟩, _⟩ := I2.hok _ _ hd
    refine xstore (mA := mA) (ns := fs.map (·.1)) KX (KX _ _ lC) T c.sa n ⟨_, ho, rfl, (fun c z => by cases z), .inr ⟨dx, rfl, hne, hns⟩⟩ (fun h' tk' I' hk hsame => ?_) hw (by rw [List.length_map, sizeLine_eq]; omega)
    obtain ⟨o1, dx1, e1, ec, ed, es, edx, _, eold⟩ := hsame _ ho
    obtain rfl := eold dx rfl
    have eo : o1 = { cls := .ref C, dict := some dx1, data := .fields #[.ref t0, .none, .none, .none, .bool false, .none], slots := sl } := by
      obtain ⟨a1, a2, a3, a4⟩ := o1; cases ec; cases ed; cases es; cases edx; rfl
    have hd' : H2 dx1 = some (.ext (xDict fs dx1)) := hd
    have J := I2.write (t' := tk') (x := dx1) (e := dx1) (o := .ext (xDict (fs ++ [(f, i)]) dx1)) (by rw [hd']; exact True.intro) (.inl rfl) (fun b u nb z => by
      by_cases zb : b = e
      · subst zb
        rw [ho] at z; cases z
        rw [e1, eo]
      · exact hk b u zb (fun o₀ dx' z1 z2 => by rw [ho] at z1; cases z1; cases z2; exact nb) z) ?_ ?_
    · exact ⟨σ, _, J, q2⟩
    · obtain ⟨o2, z1, _, _, z2⟩ := I'
      rw [e1] at z1; cases z1
      rcases z2 with ⟨z2, _⟩ | ⟨d2, z2, _, o3, _, _, z3, _⟩
      · rw [edx] at z2; cases z2
      · rw [edx] at z2; cases z2; exact ⟨_, z3⟩
    · refine xDict_ok ?_
      obtain ⟨o2, z1, _, _, z2⟩ := I'
      rw [e1] at z1; cases z1
      rcases z2 with ⟨z2, _⟩ | ⟨d2, z2, _, z3⟩
      · rw [edx] at z2; cases z2
      · rw [edx] at z2; cases z2
        refine ⟨_, z3, fun y hy => ?_, fun y => ?_⟩
        · by_cases zz : y = f
          · simp [zz]
          · have : mA y ≠ none := fun w => hy (by show (if y = f then _ else mA y) = none; rw [if_neg zz]; exact w)
            have := hw y this
            rw [List.map_append]; exact List.mem_append_left _ this
        · rw [lookup_snoc fs f y i hl]
          by_cases zz : y = f
          · rw [if_pos zz]
            show RelO (some (V.int i)) (if y = f then _ else mA y)
            rw [if_pos zz]; exact ⟨tku, rfl⟩
          · rw [if_neg zz]
            show RelO _ (if y = f then _ else mA y)
            rw [if_neg zz]; exact hr y
end
end L2
namespace L2
open PySem PySem.Spec PyProof.Rows
section
variable {prog : Program} {w : World} {A : Around} {E : Value → Shared → Prop} {h : Heap} {g : Array GenState} {d : Drawn} {t : Nat} {os : OsState} {K : PySem.W.Frag}
variable {nm q : Str} {C N x : Addr} {bs bm : List Value} {sn : List Str} {sub : List Value} {ab : Bool} {col : Option Bool} {dd : Option Addr} {k0 k1 k2 k3 k5 : Option Value} {newId : String}
theorem xl_class {ox : Obj} {od : Option Obj} {Q : Option Value → Shared → Prop} (X : K.In h)
    (hC : h.get? C = some (excClassObj nm q C N bs bm true sn sub ab col dd k0 k1 k2 k3 k5 newId)) (T : OwnTail h bmV bm)
    (hg : PySem.W.findIn K (.ref C) "__getattribute__" = some (some (.builtin "BaseException.__getattribute__"))) (hgg : PySem.W.findIn K (.ref C) "__getattr__" = some none)
    (I : PySem.W.InstAt h x ox C od) (hf : PySem.W.findObj K C od "__class__" = some (.bind (.builtin "getset_descriptor.__get__") (.builtin "object.__class__"))) (hm : PySem.W.mroIn K C (.type "object") = some true)
    (hq : Q (some (.ref C)) ⟨h, g, d, t + 1, os⟩) : wpAny (model prog w) A (getAttr? (.ref x) "__class__") Q E ⟨h, g, d, t, os⟩ := by
  have hx := I.at_
  have hc := I.cls
  have L0 := I.type (M := model prog w)
  have L1 : PySem.W.Looks (model prog w) h (typeLookup (.ref C) "__getattribute__") (some (.builtin "BaseException.__getattribute__")) := PySem.W.looks_findIn X hg
  have L2 : PySem.W.Looks (model prog w) h (typeLookup (.ref C) "__getattr__") none := PySem.W.looks_findIn X hgg
  have L3 := PySem.W.looks_find (M := model prog w) X I hf
  have FB := PySem.F.attrBase_ValueError
  have f3 := FB.ga.bind (.ref x)
  have hx2 : (Value.builtin "BaseException.__getattribute__" == Value.builtin "object.__getattribute__") = false := by decide +kernel
  have hx1 : (onTheHeap (Value.ref C) && Value.builtin "BaseException.__getattribute__" == Value.builtin "object.__getattribute__") = false := by rw [hx2]; rfl
  have hx0 : (false && onTheHeap (Value.builtin "BaseException.__getattribute__")) = false := rfl
  unfold getAttr? getAttrBy?
  repeat (any_goals (first | assumption | (with_reducible refine wpAny_loadPart_at hx ?_; rw [hc]) | (with_reducible refine L1.at ?_) | (with_reducible refine L2.at ?_) | wp_step))
  refine codeAny_call_builtin FB.ga.plain F.entry_bexc_ga (xl_check hC T hx hc ?_)
  unfold Builtin.«object.__getattribute__»
  refine wpAny_bind (wpAny_pure (wpAny_bind (wpAny_pure (wpAny_bind (L0.at (wpAny_bind (L3.at ?_)))))))
  show wpAny _ _ (Builtin.ObjectAttr.bindTo _ _ _ _) _ _ _
  unfold Builtin.ObjectAttr.bindTo
  dsimp only
  refine wpAny_bind (wpAny_holding (wpAny_call (PySem.W.class_get (s := ⟨h, g, d, t + 1, os⟩) X I hm ?_)))
  repeat (any_goals (first | assumption | wp_step))
end
end L2
namespace L2
open PySem PySem.Spec PyProof.Rows DL
section
variable {X : Cx} {pins : List (Addr × Obj)} {σ : St} {H : Hp} {s : Shared}
theorem goes_ok {M : Model} {A : Around} {E : Value → Shared → Prop} {j : Nat} {n : Str} {pos : Pos} {Q : Unit → Shared → Prop} (I : Inv X pins σ H s) (hN : X.N.Nodup) (hj : X.N[j]? = some n) (hk : X.env.kindOf n = some .local)
    (h : ∀ s', Inv X pins (σ.set j none) H s' → Q () s') : wpAny M A (do bindName X.env n .none; unbindBehindTheSuite X.env n pos) Q E s := by
  obtain ⟨m, hn, hl⟩ := id I.loc
  have hcls : (X.env.scope.kind == .class || (X.env.scope.kind == .module && X.env.locals != X.env.globals)) = false := by rw [I.ok.kind]; rfl
  have cne := I.cne
  have tracked : ∀ {a : Addr} {h' : Heap}, (∃ o, s.heap.get? a = some o ∧ H a = none) → Heap.SameBut a s.heap h' → HOk X.prog X.w H h' := fun {a h'} ha hs b ob e => by
    obtain ⟨_, _, hfree⟩ := ha
    refine (I.hok b ob e).stay (fun c w' hc q => (hs.2 c ?_).trans q) (fun _ q => q) fun _ _ q => q
    rintro rfl
    rcases hc with rfl | hc
    · rw [hfree] at e; cases e
    · rw [hfree] at hc; cases hc
  refine wpAny_nameGoes_keeps hk hn hcls fun h' v hn' hs => ?_
  obtain ⟨oL, _, _, hoL, _⟩ := id hn
  refine h _ ⟨I.ok, I.os, I.bare, ⟨fun b o e n hb hx => ?_, fun b o e n hb hx => ?_, I.base.free, fun b o e hx => ?_, I.base.tups, I.base.frzs, I.base.tbls⟩, ⟨_, hn', fun i y v' e1 e2 e3 => ?_⟩, fun y c e => ?_, I.free, I.freeC, fun p hp => ?_, tracked ⟨oL, hoL, I.free⟩ hs, by simpa using I.len⟩
  · exact (hs.2 b (Nat.ne_of_lt (Nat.lt_of_lt_of_le (Heap.lt_size e) I.ok.above))).trans (I.base.keep b o e n hb hx)
  · obtain ⟨sl, e1⟩ := I.base.slot b o e n hb hx
    exact ⟨sl, (hs.2 b (Nat.ne_of_lt (Nat.lt_of_lt_of_le (Heap.lt_size e) I.ok.above))).trans e1⟩
  · obtain ⟨o', e1⟩ := I.base.there b o e hx
    exact ⟨o', (hs.2 b (Nat.ne_of_lt (Nat.lt_of_lt_of_le (Heap.lt_size e) I.ok.above))).trans e1⟩
  · by_cases hi : i = j
    · subst hi
      have : i < σ.length := by
        have := (List.getElem?_eq_some_iff.mp e2).1
        simpa using this
      rw [List.getElem?_set_self this] at e2
      cases e2
    · rw [List.getElem?_set_ne (Ne.symm hi)] at e2
      obtain ⟨u', r', q⟩ := hl i y v' e1 e2 e3
      refine ⟨u', r', ?_⟩
      rcases q with ⟨k, e⟩ | ⟨k, c, e, z⟩
      · refine .inl ⟨k, ?_⟩
        have : y ≠ n := fun e => hi (nodup_ix hN e1 (e ▸ hj))
        simp [this, e]
      · exact .inr ⟨k, c, e, z.sameBut hs (cne y c e)⟩
  · obtain ⟨w', z⟩ := I.cell y c e
    exact ⟨w', z.sameBut hs (cne y c e)⟩
  · obtain ⟨e, n, ne, nf, d⟩ := I.pin p hp
    exact ⟨(hs.2 p.1 ne).trans e, n, ne, nf, d⟩
end
noncomputable def PEX (X : Cx) (e : Expr) (t : St → Hp → VK → XK → Prop) : Prop := ∀ (pins : List (Addr × Obj)) (s : Shared) (σ : St) (H : Hp) (Q : VK) (E : XK), Inv X pins σ H s → t σ H Q E →
  wpAny (model X.prog X.w) X.A (eval e X.env) (EP X pins σ Q) (fun x s' => X.xe x s' ∨ ∃ H1 s1, Inv X pins σ H1 s1 ∧ CXE X.prog X.w X.stack H1 s1 E x s') s
noncomputable def PSX (X : Cx) (st : Stmt) (t : Ends → XK → St → Hp → Prop) : Prop := ∀ (pins : List (Addr × Obj)) (s : Shared) (σ : St) (H : Hp) (D : Ends) (E : XK), Inv X pins σ H s → t D E σ H →
  wpAny (model X.prog X.w) X.A (exec st X.env) (SP X pins D) (fun x s' => X.xe x s' ∨ ∃ H1 s1, Inv X pins σ H1 s1 ∧ CXE X.prog X.w X.stack H1 s1 E x s') s
section
variable {X : Cx} {k : Nat} {f : Addr} {fd : FuncData} {ps : List Str} {sp : Sp} {x : Str} {p pos : Pos} {e : Expr} {es : List Expr} {t : TA} {te : St → Hp → VK → XK → Prop}
theorem pex_call (F : FnOk X.prog X.w X.K X.mg X.base (CXE X.prog X.w) k f fd ps sp) (hr : Room k X.A) (hg : Gl X x) (hm : X.mg x = some (.ref f)) (hk : PySem.W.keepIn X.K (.ref f) = true) (hb : Binds X.K fd ps [])
    (ha : PA X (e :: es) t) (hdb : (x == ("__debug__" : Str)) = false := by decide) (he : starEach (e :: es) X.env = (false, eval e X.env) :: starEach es X.env := by rfl) (hpl : (backTo pos (starEach es X.env)).any (·.1) = false := by rfl) :
    PEX X (.Call (.Name x p) (e :: es) [] pos) (fun σ H Q E => t σ H fun vs H1 => sp vs H1 Q E) := by
  intro pins s σ H Q E I h
  refine wpAny_Call_Name_kw (ld_glob I hg hm ?_ hdb)
  refine PySem.W.callWith_K (h₀ := X.base) I.ok.mod.kin hk (wpAny_mono (ha pos pins s σ H _ I h) (fun us s1 ⟨vs, H1, I1, r, q⟩ => ⟨I1.kIn, ?_⟩) (fun _ _ z => .inl z)) he hpl
  have hl : (us ++ []).length = ps.length := by rw [List.append_nil, ← r.length]; exact F.len _ _ _ _ q
  refine wpAny_call (codeAny_mono (F.run X.A X.stack s1 H1 ⟨us, []⟩ (us ++ []) vs Q E hr I1.env0 (hb s1 us I1.kIn hl) (by rw [List.append_nil]; exact r) q) fun r s' hq => ?_)
  cases r with
  | error z => exact .inr ⟨H1, s1, I1, hq⟩
  | ok fl =>
    cases fl with
    | ret u => exact I1.after hq
    | next => exact False.elim hq
    | brk => exact False.elim hq
    | cont => exact False.elim hq
theorem psx_expr (he : PEX X e te) (hs : swapsWith e none pos.line X.env = pure false := by rfl) : PSX X (.Expr e pos) (fun D E σ H => te σ H (fun _ H1 => D.nx σ H1) E) := by
  intro pins s σ H D E I h
  exact wpAny_Expr_any (thn (he pins s σ H _ E I h) fun v s1 ⟨x, H1, I1, r1, q1⟩ => ⟨σ, H1, I1, q1⟩) I.quiet hs
end
noncomputable abbrev Cx.hnd (X : Cx) (a : Addr) : Cx := { X with A := X.A.mark (some (.ref a)), calm := false, xe := fun _ _ => False }
section
variable {X : Cx} {pins : List (Addr × Obj)} {σ : St} {H : Hp} {s : Shared} {a : Addr}
theorem Inv.hnd (I : Inv X pins σ H s) (a : Addr) : Inv (X.hnd a) pins σ H s :=
  ⟨⟨I.ok.mod, I.ok.kind, I.ok.glob, I.ok.blt, I.ok.above, I.ok.inj, I.ok.has, I.ok.cab, (fun z => nomatch z), I.ok.frames, I.ok.stk, I.ok.exf, I.ok.bs, I.ok.bsz, I.ok.noex, I.ok.exfs, I.ok.funs, I.ok.frf⟩, I.os, I.bare, I.base, I.loc, I.cell, I.free, I.freeC, I.pin, I.hok, I.len⟩
theorem Inv.unhnd (ok : X.Ok) (I : Inv (X.hnd a) pins σ H s) : Inv X pins σ H s := ⟨ok, I.os, I.bare, I.base, I.loc, I.cell, I.free, I.freeC, I.pin, I.hok, I.len⟩
end
noncomputable def tTry (K : PySem.W.Frag) (CB : Addr) (j : Nat) (tb : Ends → XK → St → Hp → Prop) (th : TS) : TS := fun D σ H => tb D (fun cls dx H' => ∃ C d, cls = .ref C ∧ dx = d ∧ PySem.W.exmOne K cls (.ref CB) = some true ∧
  ∀ a, H' a = none → th { nx := fun σ' H'' => D.nx (σ'.set j none) H'', rt := D.rt, bk := fun σ' H'' => D.bk (σ'.set j none) H'', ct := fun σ' H'' => D.ct (σ'.set j none) H'' } (σ.set j (some (.ref a))) (upd H' a (.ext (xAny C d a)))) σ H
section
variable {X : Cx} {st b₀ : Stmt} {suite : List Stmt} {tb : Ends → XK → St → Hp → Prop} {th : TS} {cx n : Str} {CB : Addr} {cp hpos pos : Pos} {j : Nat}
theorem ps_try (hst : X.stack = X.env :: X.outer ∧ X.env.frame = some X.env.locals) (hxe : ∀ e s, ¬ X.xe e s) (hb : PSX X st tb) (hgc : Gl X cx) (hmc : X.mg cx = some (.ref CB)) (hN : X.N.Nodup) (hj : X.N[j]? = some n) (hk : X.env.kindOf n = some .local)
    (hB : ∀ a, PSs (X.hnd a) (b₀ :: suite) th) (hf : X.fn n = true ∨ X.env.scope.names.lookup n = some .local := by trivial) (hdb : (cx == ("__debug__" : Str)) = false := by decide) :
    PS X (.Try [st] [.ExceptHandler (some (.Name cx cp)) (some n) (b₀ :: suite) hpos] [] [] pos) (tTry X.K CB j tb th) := by
  intro pins s σ H D I h
  refine wpAny_Try_except ?_
  have hb' := hb pins s σ H D _ I h
  refine wpAny_execs_cons (wpAny_mono hb' (fun f s1 q => ?_) fun x s' hx => ?_)
  · cases f with
    | next => exact wpAny_execs_nil (wpAny_execs_nil q)
    | ret v => exact q
    | brk => exact q
    | cont => exact q
  rcases hx with hx | ⟨H1, s1, I1, a, cls, dx, t, H', rfl, os, bare, un, hok, ex, wa, ha, wt, ht, C, d, rfl, hdd, exm, kk⟩
  · exact absurd hx (hxe _ _)
  obtain rfl : d = dx := hdd.symm
  have I2 : Inv X pins σ H' s' := I1.call' (ch := []) os un hok bare (fun b z => absurd z (by simp))
  have aw := I1.away wa
  have tw := I1.away wt
  refine note_ok (base := X.base) (outer := X.outer) (by rw [I2.ok.frames, hst.1]) (by have := I2.stack; rw [hst.1] at this; exact this) hst.2 ex (.inl rfl) fun h1 t1 c1 ht1 e1 => ?_
  rw [← hst.1] at c1
  have I3 := I2.chg c1 ha (fun t' h => by cases h; exact ht) aw (fun t' h => by cases h; exact tw)
  have wt1 : Away X pins t1 ∧ H' t1 = none := by
    rcases ht1 with z | z
    · cases z; exact ⟨tw, ht⟩
    · exact ⟨I2.away z, I2.hok.fresh z⟩
  refine flight_ok (s := { s' with heap := h1 }) e1 fun h2 k1 k2 e2 => ?_
  have c2 : Chg (frs X.stack) a (some t1) h1 h2 := flight_chg (fun b o e n => k1 b o rfl e n) k2
  have I4 := I3.chg (a := a) (T := some t1) c2 ha (fun t' h => by cases h; exact wt1.2) aw (fun t' h => by cases h; exact wt1.1)
  refine wpAny_handleBy_cons (codeAny_handlers_test ?_) (by intro q; cases q)
  refine ld_glob (X := X.hnd a) (I4.hnd a) hgc hmc ?_ hdb
  have LT : PySem.W.Looks (model X.prog X.w) h2 (typeOf (.ref a)) (.ref C) := by
    obtain ⟨⟨o, vs, z1, z2, _⟩, _⟩ := e2
    rw [← z2]
    exact (PySem.W.Looks.ld z1).andThen .now
  refine (PySem.W.exm_one (M := model X.prog X.w) (h := h2) I4.kIn LT exm).here ?_
  refine codeAny_handlers_suite_as ?_
  refine flight_ok (s := { s' with heap := h2 }) e2 fun h3 k3 k4 e3 => ?_
  have c3 : Chg (frs X.stack) a (some t1) h2 h3 := flight_chg (fun b o e n => k3 b o rfl e n) k4
  have I5 := I4.chg (a := a) (T := some t1) c3 ha (fun t' h => by cases h; exact wt1.2) aw (fun t' h => by cases h; exact wt1.1)
  have xa : xAny C d a h3 := by
    obtain ⟨⟨o, vs, z1, z2, z3, z4, _⟩, _⟩ := e3
    exact ⟨o, vs, z1, z2, z3, z4⟩
  have I6 := I5.adopt (a := a) (o := .ext (xAny C d a)) aw ha (ext_ok xa (let ⟨o, _, q, _⟩ := xa; ⟨o, q⟩) fun _ _ ⟨o, vs, z1, z2⟩ k => ⟨o, vs, k _ z1, z2⟩)
  refine store_ok (X := X.hnd a) (v := .ref a) (I6.hnd a) hN hj (.inl hk) rfl (fun s7 I7 => ?_) hf
  refine wpAny_mono (hB a pins s7 _ _ _ I7 (kk a ha)) (fun f s8 q => ?_) fun _ _ z => z.elim
  have ok := I.ok
  cases f with
  | next => obtain ⟨σ', H'', J, q⟩ := q; exact goes_ok (J.unhnd ok) hN hj hk fun s9 J9 => ⟨_, H'', J9, q⟩
  | brk => obtain ⟨σ', H'', J, q⟩ := q; exact goes_ok (J.unhnd ok) hN hj hk fun s9 J9 => ⟨_, H'', J9, q⟩
  | cont => obtain ⟨σ', H'', J, q⟩ := q; exact goes_ok (J.unhnd ok) hN hj hk fun s9 J9 => ⟨_, H'', J9, q⟩
  | ret u => obtain ⟨v, σ', H'', J, r, q⟩ := q; exact goes_ok (J.unhnd ok) hN hj hk fun s9 J9 => ⟨v, _, H'', J9, r, q⟩
end
end L2
namespace DL
open PySem PySem.Spec L2
noncomputable abbrev DSpX := List D → Hh → DK → DX → Prop
inductive spX (K : PySem.W.Frag) (n : Nat) (g : DSpX) (vs : List V) (H : Hp) (Q : VK) (E : XK) : Prop
  | mk (π : List Addr) (α : List Addr) (h : Hh) (ds : List D) (Q' : DK) (X' : DX) : HRel ⟨K, π⟩ α H h → RelDs ⟨K, π⟩ α H ds vs → ds.length = n → g ds h Q' X' →
      (∀ d h' α' H' v, Q' d h' → Ext α H α' H' → HRel ⟨K, π⟩ α' H' h' → RelD ⟨K, π⟩ α' H' d v → Q v H') →
      (∀ cn fs h' α' H' C dx, X' cn fs h' → Ext α H α' H' → HRel ⟨K, π⟩ α' H' h' → PySem.W.nsIn K mainGlobals cn = some (some (.ref C)) → XQ ⟨K, π⟩ α' H' dx fs → E (.ref C) dx H') → spX K n g vs H Q E
noncomputable def runX (n : Nat) (b : DS) : DSpX := fun ds h Q X' => b { nx := fun _ h' => Q .non h', rt := Q, ex := X' } (ds.map some ++ List.replicate (n - ds.length) none) h
noncomputable def DrX (h : Hh) (X' : DX) : DX := fun cn fs h' => Dr h (fun _ h2 => X' cn fs h2) .non h'
structure CalX (P : Program) (w : World) (K : PySem.W.Frag) (mg : Str → Option Value) (base : Heap) (k : Nat) (x : Str) (ps : List Str) (sp : Sp) : Prop where
  ex : ∃ (f : Addr) (fd : FuncData), FnOk P w K mg base (CXE P w) k f fd ps sp ∧ mg x = some (.ref f) ∧ PySem.W.keepIn K (.ref f) = true ∧ Binds K fd ps []
section
variable {P : Program} {w : World} {K : PySem.W.Frag} {mg : Str → Option Value} {base : Heap}
theorem fn_okX {x qual : Str} {st : Stmt} {f : Addr} {fd : FuncData} {N ps : List Str} {k : Nat} {b : DS} {g : DSpX} (F : Fun K x qual st f fd) (S : FnScope N ps (defScope st))
    (hb : ∀ (cdv : Value) (A : Around) (outer : List Env) (s : Shared) (H : Hp) (E : XK), Room k (A.deeper (PyProof.Rows.envOfC qual (defScope st) s.heap.objs.size f cdv)) → SSs ((cxOf (CXE P w) P w K mg base N qual (defScope st) f cdv A outer s H E).wishX E) (defBody st) b)
    (hg : ∀ ds h Q X', g ds h Q X' → runX N.length b ds h (Dr h Q) (DrX h X')) : FnOk P w K mg base (CXE P w) (k + 1) f fd ps (spX K ps.length g) := by
  refine F.okX S (fun vs H Q E h => ?_) fun cdv A outer s H vs Q E hr h => ?_
  · obtain ⟨π, α, h, ds, Q', X', R, r, l, _⟩ := h
    rw [← r.length, l]
  · obtain ⟨π, α, h, ds, Q', X', R, r, l, q, kk, kx⟩ := h
    refine ⟨_, hb cdv A outer s H E hr, π, α, _, h, { nx := fun _ h' => Dr h Q' .non h', rt := Dr h Q', ex := DrX h X' }, R, relS_start r, hg ds h Q' X' q, ⟨fun _ h' α' H' σ' a b c _ => ?_, fun d h' α' H' v a b c d' => ?_, fun _ _ _ _ _ a _ _ _ => a.elim, fun _ _ _ _ _ a _ _ _ => a.elim, fun cn fs h' α' H' C dx a b c d d2 => ?_⟩⟩
    · obtain ⟨d', h2, q, e, R2, r2⟩ := a.rel R b c .non
      exact kk d' h2 α H' .non q e R2 r2
    · obtain ⟨d', h2, q, e, R2, r2⟩ := a.rel R b c d'
      exact kk d' h2 α H' v q e R2 r2
    · obtain ⟨d', h2, q, e, R2, r2⟩ := Dr.rel R b c .non a
      exact kx cn fs h2 α H' C dx q e R2 d (d2.map fun _ _ d2 => ⟨fun z => d2.1 (by obtain ⟨β, hβ, _⟩ := b.pre; rw [hβ]; exact List.mem_append_left _ z), d2.2⟩)
end
section
variable {X : Cx} {k m : Nat} {ps : List Str} {g : DSpX} {x : Str} {p pos : Pos} {e : Expr} {es : List Expr} {n : Nat} {f : DA}
theorem se_calX (c : CalX X.prog X.w X.K X.mg X.base k x ps (spX X.K m g)) (hr : Room k X.A) (hg : Gl X x) (ha : SA X (e :: es) n f) (hn : n = m := by rfl) (hdb : (x == ("__debug__" : Str)) = false := by decide)
    (he : starEach (e :: es) X.env = (false, eval e X.env) :: starEach es X.env := by rfl) (hpl : (backTo pos (starEach es X.env)).any (·.1) = false := by rfl) : SE X (.Call (.Name x p) (e :: es) [] pos) (dCal (fun ds h Q => g ds h Q fun _ _ _ => False) f) := by
  obtain ⟨fa, fd, F, hm, hk, hb⟩ := c.ex
  refine PE.imp (pe_call F hr hg hm hk hb .nil pass0X ha hdb he hpl) fun σ H Q zz0 => ?_
  obtain ⟨π, α, δ, h, Q', R, S, f, k⟩ := zz0
  refine ⟨π, α, δ, h, _, R, S, f, fun ds h1 α1 H1 vs f1 e1 R1 q1 l1 => ?_⟩
  show spX X.K m g (vs ++ []) H1 Q E0
  rw [List.append_nil]
  exact ⟨π, α1, h1, ds, Q', _, R1, q1, l1.trans hn, f1, fun d h' α' H' v a b c d' => k d h' α' H' v a (e1.trans b) c d', fun _ _ _ _ _ _ _ a _ _ _ => a.elim⟩
end
noncomputable abbrev DEX := Sl → Hh → DK → DX → Prop
inductive LEx (K : PySem.W.Frag) (Ex : XK) (f : DEX) (σ : L2.St) (H : Hp) (Q : VK) : Prop
  | mk (π : List Addr) (α : List Addr) (δ : Sl) (h : Hh) (Q' : DK) (X' : DX) : HRel ⟨K, π⟩ α H h → RelS ⟨K, π⟩ α H δ σ → f δ h Q' X' → (∀ d h' α' H' v, Q' d h' → Ext α H α' H' → HRel ⟨K, π⟩ α' H' h' → RelD ⟨K, π⟩ α' H' d v → Q v H') →
      (∀ cn fs h' α' H' C dx, X' cn fs h' → Ext α H α' H' → HRel ⟨K, π⟩ α' H' h' → PySem.W.nsIn K mainGlobals cn = some (some (.ref C)) → XQ ⟨K, π⟩ α' H' dx fs → Ex (.ref C) dx H') → LEx K Ex f σ H Q
noncomputable def SEX (X : Cx) (e : Expr) (f : DEX) : Prop := PE X e (LEx X.K X.ex9 f)
noncomputable def dCalX (g : DSpX) (f : DA) : DEX := fun δ h Q X' => f δ h fun ds h1 => g ds h1 Q X'
noncomputable def dIxX (fa : DEX) (fc : DE) : DEX := fun δ h Q X' => fa δ h (fun x h1 => fc δ h1 fun y h2 => pIx x y h2 Q) X'
noncomputable def dDropX (f : DEX) : DS := fun En δ h => f δ h (fun _ h1 => En.nx δ h1) En.ex
noncomputable def dRetX (f : DEX) : DS := fun En δ h => f δ h En.rt En.ex
section
variable {X : Cx} {E : XK} {k m : Nat} {ps : List Str} {g : DSpX} {x : Str} {p pos : Pos} {e a c : Expr} {es : List Expr} {n : Nat} {f : DA} {fa : DEX} {fc : DE}
theorem sex_cal (c : CalX X.prog X.w X.K X.mg X.base k x ps (spX X.K m g)) (hr : Room k X.A) (hg : Gl X x) (ha : SA (X.wishX E) (e :: es) n f) (hn : n = m := by rfl) (hdb : (x == ("__debug__" : Str)) = false := by decide)
    (he : starEach (e :: es) X.env = (false, eval e X.env) :: starEach es X.env := by rfl) (hpl : (backTo pos (starEach es X.env)).any (·.1) = false := by rfl) : SEX (X.wishX E) (.Call (.Name x p) (e :: es) [] pos) (dCalX g f) := by
  obtain ⟨fa, fd, F, hm, hk, hb⟩ := c.ex
  refine PE.imp (pe_call (X := X.wishX E) (E := E) F hr hg hm hk hb .nil (passX fun _ _ _ z => z) ha hdb he hpl) fun σ H Q zz0 => ?_
  obtain ⟨π, α, δ, h, Q', X', R, S, f, k, kx⟩ := zz0
  refine ⟨π, α, δ, h, _, R, S, f, fun ds h1 α1 H1 vs f1 e1 R1 q1 l1 => ?_⟩
  show spX X.K m g (vs ++ []) H1 Q E
  rw [List.append_nil]
  exact ⟨π, α1, h1, ds, Q', X', R1, q1, l1.trans hn, f1, fun d h' α' H' v a b c d' => k d h' α' H' v a (e1.trans b) c d', fun cn fs h' α' H' C dx a b c d => kx cn fs h' α' H' C dx a (e1.trans b) c d⟩
theorem s_exprX (he : SEX X e fa) (hs : swapsWith e none pos.line X.env = pure false := by rfl) : SS X (.Expr e pos) (dDropX fa) := PS.imp (ps_expr he hs) fun F σ H ⟨π, α, δ, h, En, R, S, q, k⟩ =>
  ⟨π, α, δ, h, _, _, R, S, q, fun d h1 α1 H1 v1 f1 e1 R1 q1 => k.nx δ h1 α1 H1 σ f1 e1 R1 (S.mono e1), k.ex⟩
end
noncomputable def spI (C : Addr) (ns : List Str) : Sp := fun vs H Q _ => ∃ (e : Addr) (is : List Int), vs = .ref e :: is.map V.int ∧ is.length = ns.length ∧ (∀ i ∈ is, i.natAbs.log2 < 1920) ∧ H e = some (.ext (xObj C none e)) ∧
  ∀ dx, H dx = none → dx ≠ e → Q .non (upd (upd H e (.ext (xObj C (some dx) e))) dx (.ext (xDict (ns.zip is) dx)))
noncomputable def dRaise (cn : Str) (ns : List Str) (f : DA) : DS := fun En δ h => f δ h fun ds h1 => ∃ is : List Int, ds = is.map D.int ∧ is.length = ns.length ∧ (∀ i ∈ is, i.natAbs.log2 < 1920) ∧ En.ex cn (ns.zip is) h1
theorem rel_ints {K : KP} {α : List Addr} {H : Hp} : ∀ {is : List Int} {vs : List V}, RelDs K α H (is.map D.int) vs → vs = is.map V.int
  | [], _, .nil => rfl
  | i :: is, _, .cons r t => by cases r; rw [rel_ints t]; rfl
structure RaiseX (P : Program) (w : World) (K : PySem.W.Frag) (mg : Str → Option Value) (base : Heap) (k : Nat) (x : Str) (ps ns : List Str) : Prop where
  ex : ∃ (C f : Addr) (fd : FuncData), mg x = some (.ref C) ∧ PySem.W.nsIn K mainGlobals x = some (some (.ref C)) ∧ XCls K C f ∧ FnOk P w K mg base CX0 k f fd ps (spI C ns) ∧ Binds K fd ps []
section
variable {X : Cx} {E : XK} {k : Nat} {ps ns : List Str} {x : Str} {p pos cpos : Pos} {e : Expr} {es : List Expr} {n : Nat} {f : DA}
theorem s_raise (c : RaiseX X.prog X.w X.K X.mg X.base k x ps ns) (hr : Room (k + 1) X.A) (hg : Gl X x) (ha : SA (X.wishX E) (e :: es) n f) (hps : ps.length ≤ 100 := by decide) (hdb : (x == ("__debug__" : Str)) = false := by decide)
    (he : starEach (e :: es) X.env = (false, eval e X.env) :: starEach es X.env := by rfl) (hpl : (backTo cpos (starEach (e :: es) X.env)).any (·.1) = false := by rfl) :
    SS (X.wishX E) (.Raise (some (.Call (.Name x p) (e :: es) [] cpos)) none pos) (dRaise x ns f) := by
  obtain ⟨C, fi, fd, hbd, hns, cl, F, hb⟩ := c.ex
  refine PS.imp (ps_raise (X := X) (E := E) cl F hr hg hbd hb ha hps hdb he hpl) fun F' σ H zz0 => ?_
  obtain ⟨π, α, δ, h, En, R, S, q, k⟩ := zz0
  refine ⟨π, α, δ, h, _, R, S, q, fun ds h1 α1 H1 vs f1 e1 R1 r1 l1 => ?_⟩
  obtain ⟨is, rfl, hl, hb', hex⟩ := f1
  intro e' he'
  refine ⟨e', is, by rw [rel_ints r1], hl, hb', upd_same, fun dx hdx hne => ⟨rfl, dx, ?_, ?_⟩⟩
  · rw [upd_ne (Ne.symm hne), upd_same]
  · have hn1 : H1 dx = none := by rw [upd_ne hne] at hdx; exact hdx
    have eH : rmv (upd (upd (upd H1 e' (.ext (xObj C none e'))) e' (.ext (xObj C (some dx) e'))) dx (.ext (xDict (ns.zip is) dx))) e' = upd H1 dx (.ext (xDict (ns.zip is) dx)) := by
      funext b
      by_cases hb : b = e'
      · rw [hb, rmv_same, upd_ne (Ne.symm hne), he']
      · rw [rmv_ne hb]
        by_cases hd : b = dx
        · rw [hd, upd_same, upd_same]
        · rw [upd_ne hd, upd_ne hd, upd_ne hb, upd_ne hb]
    rw [eH]
    exact k.ex x _ h1 α1 _ C (some dx) hex (e1.trans (Ext.new hn1)) (R1.new hn1) hns (.inr ⟨dx, rfl, R1.out hn1, R1.outP hn1, upd_same⟩)
end
end DL
namespace DL
open PySem PySem.Spec L2
noncomputable def dTryE (En : DEnds) (j : Nat) : DEnds := { nx := fun δ h => En.nx (δ.set j none) h, rt := En.rt, bk := fun δ h => En.bk (δ.set j none) h, ct := fun δ h => En.ct (δ.set j none) h, ex := En.ex }
noncomputable def dTryS (i : Nat) (g : DSpX) (fa : DA) (cn : Str) (j : Nat) (bh : DS) : DS := fun En δ h => fa δ h fun ds h1 => g ds h1 (fun d h2 => En.nx (δ.set i (some d)) h2) (fun c fs h2 => c = cn ∧ bh (dTryE En j) (δ.set j (some (.exc cn fs))) h2)
noncomputable def dTryD (g : DSpX) (fa : DA) (cn : Str) (j : Nat) (bh : DS) : DS := fun En δ h => fa δ h fun ds h1 => g ds h1 (fun _ h2 => En.nx δ h2) (fun c fs h2 => c = cn ∧ bh (dTryE En j) (δ.set j (some (.exc cn fs))) h2)
theorem RelS.unset {K : KP} {α : List Addr} {H : Hp} {δ : Sl} {σ : L2.St} (r : RelS K α H δ σ) (j : Nat) : RelS K α H (δ.set j none) (σ.set j none) := by
  refine ⟨by simp [r.len], fun i d q => ?_⟩
  by_cases z : j = i
  · subst z
    have hi : j < δ.length := by
      have := (List.getElem?_eq_some_iff.mp q).1
      simpa using this
    rw [List.getElem?_set_self hi] at q
    cases q
  · rw [List.getElem?_set_ne z] at q
    obtain ⟨w, h1, h2⟩ := r.get i d q
    exact ⟨w, by rw [List.getElem?_set_ne z]; exact h1, h2⟩
structure CatchX (K : PySem.W.Frag) (mg : Str → Option Value) (cx cn : Str) : Prop where
  ex : ∃ CB, mg cx = some (.ref CB) ∧ ∀ C, PySem.W.nsIn K mainGlobals cn = some (some (.ref C)) → PySem.W.exmOne K (.ref C) (.ref CB) = some true
section
variable {K : PySem.W.Frag} {Ex : XK} {π α : List Addr} {H : Hp} {δ : Sl} {σ : L2.St} {h : Hh} {En : DEnds} {F : Ends} {CB : Addr} {cn : Str} {j : Nat} {bh : DS}
theorem try_link (hex : ∀ C, PySem.W.nsIn K mainGlobals cn = some (some (.ref C)) → PySem.W.exmOne K (.ref C) (.ref CB) = some true) (S : RelS ⟨K, π⟩ α H δ σ) (k : EndsOk ⟨K, π⟩ Ex α H En F) :
    ∀ c fs h2 α2 H2 C dx, (c = cn ∧ bh (dTryE En j) (δ.set j (some (.exc cn fs))) h2) → Ext α H α2 H2 → HRel ⟨K, π⟩ α2 H2 h2 → PySem.W.nsIn K mainGlobals c = some (some (.ref C)) → XQ ⟨K, π⟩ α2 H2 dx fs →
      ∃ C' d, Value.ref C = .ref C' ∧ dx = d ∧ PySem.W.exmOne K (.ref C) (.ref CB) = some true ∧ ∀ a, H2 a = none → LS K Ex bh { nx := fun σ' H'' => F.nx (σ'.set j none) H'', rt := F.rt, bk := fun σ' H'' => F.bk (σ'.set j none) H'', ct := fun σ' H'' => F.ct (σ'.set j none) H'' } (σ.set j (some (.ref a))) (upd H2 a (.ext (xAny C' d a))) := by
  rintro c fs h2 α2 H2 C dx ⟨rfl, b⟩ e2 R2 hns hve
  refine ⟨C, dx, rfl, rfl, hex C hns, fun a ha => ?_⟩
  have e3 : Ext α2 H2 α2 (upd H2 a (.ext (xAny C dx a))) := Ext.new ha
  have k2 := k.mono (e2.trans e3)
  refine ⟨π, α2, _, h2, dTryE En j, R2.new ha, ((S.mono (e2.trans e3)).set j (.exc hns ⟨R2.out ha, R2.outP ha, upd_same⟩ (hve.map fun _ _ z => z.mono e3))), b, ⟨fun δ' h' α' H' σ' x y z w => ?_, k2.rt, fun δ' h' α' H' σ' x y z w => ?_, fun δ' h' α' H' σ' x y z w => ?_, k2.ex⟩⟩
  · exact k2.nx _ h' α' H' _ x y z (w.unset j)
  · exact k2.bk _ h' α' H' _ x y z (w.unset j)
  · exact k2.ct _ h' α' H' _ x y z (w.unset j)
end
section
variable {X : Cx} {k m : Nat} {ps : List Str} {g : DSpX} {x cx cn n : Str} {p pos cpos cp hpos tpos : Pos} {e : Expr} {es : List Expr} {l : Nat} {fa : DA} {b₀ : Stmt} {suite : List Stmt} {bh : DS} {j : Nat}
theorem s_tryD (hst : X.stack = X.env :: X.outer ∧ X.env.frame = some X.env.locals) (hxe : ∀ e s, ¬ X.xe e s) (hN : X.N.Nodup) (hj : X.N[j]? = some n) (hk : X.env.kindOf n = some .local)
    (c : CalX X.prog X.w X.K X.mg X.base k x ps (spX X.K m g)) (hr : Room k X.A) (hg : Gl X x) (ha : SA X (e :: es) l fa) (hc : CatchX X.K X.mg cx cn) (hgc : Gl X cx) (hB : ∀ a, SSs (X.hnd a) (b₀ :: suite) bh) (hl : l = m := by rfl) (hdb : (x == ("__debug__" : Str)) = false := by decide) (hdc : (cx == ("__debug__" : Str)) = false := by decide)
    (he : starEach (e :: es) X.env = (false, eval e X.env) :: starEach es X.env := by rfl) (hpl : (backTo cpos (starEach es X.env)).any (·.1) = false := by rfl) (hs : swapsWith (.Call (.Name x p) (e :: es) [] cpos) none pos.line X.env = pure false := by rfl)
    (hf2 : X.fn n = true ∨ X.env.scope.names.lookup n = some .local := by trivial) :
    SS X (.Try [.Expr (.Call (.Name x p) (e :: es) [] cpos) pos] [.ExceptHandler (some (.Name cx cp)) (some n) (b₀ :: suite) hpos] [] [] tpos) (dTryD g fa cn j bh) := by
  obtain ⟨CB, hmc, hex⟩ := hc.ex
  obtain ⟨f, fd, F, hm, hkp, hb⟩ := c.ex
  refine PS.imp (ps_try (th := LS X.K X.ex9 bh) hst hxe (psx_expr (pex_call F hr hg hm hkp hb ha hdb he hpl) hs) hgc hmc hN hj hk hB hf2 hdc) fun F σ H zz0 => ?_
  obtain ⟨π, α, δ, h, En, R, S, q, k⟩ := zz0
  refine ⟨π, α, δ, h, _, R, S, q, fun ds h1 α1 H1 vs f1 e1 R1 q1 l1 => ?_⟩
  exact ⟨π, α1, h1, ds, _, _, R1, q1, l1.trans hl, f1, fun d h' α' H' v a b c d' => k.nx _ h' α' H' _ a (e1.trans b) c (S.mono (e1.trans b)), try_link hex (S.mono e1) (k.mono e1)⟩
end
end DL
namespace L2
open PySem PySem.Spec PyProof.Rows DL
structure XIs (K : PySem.W.Frag) (C : Addr) : Prop where
  cls : ∃ nm q N bs bm sn sub ab col dd k0 k1 k2 k3 k5, K.lookup C = some (excClassObj nm q C N bs bm true sn sub ab col dd k0 k1 k2 k3 k5 "ValueError.__new__") ∧ PySem.W.tailIn K bmV bm = true
  ga : PySem.W.findIn K (.ref C) "__getattribute__" = some (some (.builtin "BaseException.__getattribute__"))
  gg : PySem.W.findIn K (.ref C) "__getattr__" = some none
  cl : PySem.W.findIn K (.ref C) "__class__" = some (some (.builtin "object.__class__"))
  cg : PySem.W.specialIn K (.builtin "object.__class__") "__get__" = some (some (.builtin "getset_descriptor.__get__"))
  ct : PySem.W.takesIn K (.builtin "object.__class__") = some true
  mo : PySem.W.mroIn K C (.type "object") = some true
section
variable {K : PySem.W.Frag} {C f x : Addr} {ox : Obj} {od : Option Obj}
theorem XCls.is (c : XCls K C f) : XIs K C := by
  obtain ⟨nm, q, N, bs, bm, sn, sub, ab, col, dd, k0, k1, k2, k3, k5, lC, hT, _⟩ := c.cls
  exact ⟨⟨nm, q, N, bs, bm, sn, sub, ab, col, dd, k0, k1, k2, k3, k5, lC, hT⟩, c.ga, c.gg, c.cl, c.cg, c.ct, c.mo⟩
theorem XIs.cls_in (c : XIs K C) : ∃ cd, PySem.W.clsIn K C = some cd ∧ cd.hasDict = true := by
  obtain ⟨nm, q, N, bs, bm, sn, sub, ab, col, dd, k0, k1, k2, k3, k5, lC, _⟩ := c.cls
  exact ⟨_, by unfold PySem.W.clsIn; rw [lC], rfl⟩
theorem findObj_dataO {name : Str} {a g : Value} (hc : (PySem.W.clsIn K C).isSome = true) (ha : PySem.W.findIn K (.ref C) name = some (some a)) (hg : PySem.W.specialIn K a "__get__" = some (some g)) (ht : PySem.W.takesIn K a = some true) : PySem.W.findObj K C od name = some (.bind g a) := by
  obtain ⟨cd, hc⟩ := Option.isSome_iff_exists.mp hc
  unfold PySem.W.findObj
  rw [hc, Option.bind_some, ha, Option.bind_some]
  simp [hg, ht]
theorem kitx_exc (c : XIs K C) : PySem.W.KitX K (.ref x) (.ref C) (fun h => PySem.W.InstAt h x ox C od) where
  ty := fun _ _ _ I => I.type
  it := fun _ _ X _ => by
    obtain ⟨nm, q, N, bs, bm, sn, sub, ab, col, dd, k0, k1, k2, k3, k5, lC, _⟩ := c.cls
    intro A' Q' E' s' k q
    unfold isType loadHead
    exact wpAny_bind (wpAny_loadPart (k _ _ (X _ _ lC)) (wpAny_pure q))
  ne := fun h tp dd its n sl X htp => by
    obtain ⟨nm, q, N, bs, bm, sn, sub, ab, col, dd, k0, k1, k2, k3, k5, lC, _⟩ := c.cls
    refine Bool.eq_false_iff.mpr fun q => ?_
    have e : C = tp := Value.ref.inj (beq_iff_eq.mp q)
    subst e
    have z := (X _ _ lC).symm.trans htp
    exact absurd (Value.type.inj (congrArg Obj.cls (Option.some.inj z))) (by decide)
  ca := fun {prog w A E Q s} X I k => by
    obtain ⟨nm, q, N, bs, bm, sn, sub, ab, col, dd, k0, k1, k2, k3, k5, lC, hT⟩ := c.cls
    obtain ⟨cd, hcd, _⟩ := c.cls_in
    obtain ⟨hp, g, d, t, os⟩ := s
    exact xl_class X (X _ _ lC) (PySem.W.tail_of_in X hT) c.ga c.gg I (findObj_dataO (by rw [hcd]; rfl) c.cl c.cg c.ct) c.mo k
end
theorem exc_at {P : Program} {w : World} {H : Hp} {h : Heap} {a C d : Addr} {fs : List (Str × Int)} (hok : HOk P w H h) (ha : H a = some (.ext (xAny C (some d) a))) (hd : H d = some (.ext (xDict fs d))) :
    ∃ ox od, PySem.W.InstAt h a ox C (some od) ∧ ∀ name, ∃ r, PySem.W.lookIn name od = some r ∧ RelO ((fs.lookup name).map V.int) r := by
  obtain ⟨⟨o, vs, z1, z2, z3, z4⟩, _⟩ := hok _ _ ha
  obtain ⟨⟨mA, hns, _, hr⟩, _⟩ := hok _ _ hd
  obtain ⟨od, ho, hl⟩ := lookIn_ns hns
  refine ⟨o, od, ⟨z1, z2, ?_, by rw [z3]; exact ho⟩, fun name => ⟨mA name, hl name, hr name⟩⟩
  unfold PySem.W.notCls
  rw [z4]
theorem exc_atO {P : Program} {w : World} {H : Hp} {h : Heap} {a C : Addr} {d : Option Addr} (hok : HOk P w H h) (ha : H a = some (.ext (xAny C d a))) (hd : ∀ d', d = some d' → ∃ fs, H d' = some (.ext (xDict fs d'))) : ∃ ox od, PySem.W.InstAt h a ox C od := by
  cases d with
  | none =>
    obtain ⟨⟨o, vs, z1, z2, z3, z4⟩, _⟩ := hok _ _ ha
    refine ⟨o, none, z1, z2, ?_, by rw [z3]; trivial⟩
    unfold PySem.W.notCls
    rw [z4]
  | some d =>
    obtain ⟨fs, hd⟩ := hd d rfl
    obtain ⟨ox, od, J, _⟩ := exc_at hok ha hd
    exact ⟨ox, some od, J⟩
section
variable {X : Cx}
theorem call_isinstX : CallR X (.builtin "isinstance") (fun xs H Q => ∃ a d C v u b, xs = [.ref a, v] ∧ H a = some (.ext (xAny C d a)) ∧ (∀ d', d = some d' → ∃ fs, H d' = some (.ext (xDict fs d'))) ∧ XIs X.K C ∧ PySem.W.kitOne X.K (.ref C) u = some b ∧ (∀ u', RelV v u' → u' = u) ∧ Q (.bl b) H) := by
  intro pins s σ H xs us Q I r h
  obtain ⟨a, d, C, v, u, b, rfl, ha, hd, c, e, hu, q⟩ := h
  obtain ⟨u1, u2, rfl, ru, rw'⟩ := vals2 r
  cases ru
  obtain rfl := hu _ rw'
  obtain ⟨ox, od, J⟩ := exc_atO I.hok ha hd
  exact PySem.W.kia_one (kitx_exc c) I.kIn J e (fun z => nomatch z) fun tk => ⟨.bl b, H, I.tok _, rfl, q⟩
noncomputable def tXA (K : PySem.W.Frag) (te : TE) (name : Str) : TE := fun σ H Q => te σ H fun x H1 => ∃ a d C f fs i, x = .ref a ∧ H1 a = some (.ext (xAny C (some d) a)) ∧ H1 d = some (.ext (xDict fs d)) ∧ XCls K C f ∧ NoAttr K C name ∧ fs.lookup name = some i ∧ Q (.int i) H1
theorem pe_xa {e : Expr} {te : TE} {name : Str} {pos : Pos} (he : PE X e te) (hb : attributeBase e name X.env (eval e X.env) = eval e X.env) : PE X (.Attribute e name pos) (tXA X.K te name) := by
  intro pins s σ H Q I h
  refine attr_of hb (thn (he pins s σ H _ I h) fun u s1 z9 => ?_)
  obtain ⟨x, H1, I1, rx, a, d, C, f, fs, i, ex, ha, hd, c, n, l, q⟩ := z9
  subst ex
  obtain rfl : u = Value.ref a := rx
  obtain ⟨ox, od, J, hl⟩ := exc_at I1.hok ha hd
  obtain ⟨r, h1, h2⟩ := hl name
  rw [l] at h2
  obtain ⟨nm, q', N, bs, bm, sn, sub, ab, col, dd, k0, k1, k2, k3, k5, lC, hT, _⟩ := c.cls
  obtain ⟨cd, hcd, hdct⟩ := c.is.cls_in
  have KX := I1.kIn
  cases r with
  | none => exact h2.elim
  | some v =>
    obtain ⟨tk, rfl⟩ := h2
    obtain ⟨hp, g, dr, t, os⟩ := s1
    exact xload KX (KX _ _ lC) (PySem.W.tail_of_in KX hT) c.ga c.gg J (PySem.W.findObj_own (by show Option.any _ _ = true; rw [hcd]; exact hdct) n rfl h1) rfl ⟨.int i, H1, I1.tok _, ⟨tk, rfl⟩, q⟩
end
end L2
namespace DL
open PySem PySem.Spec L2
theorem XQ.dict {K : KP} {α : List Addr} {H : Hp} {dx : Option Addr} {fs : List (Str × Int)} (h : XQ K α H dx fs) : ∀ d', dx = some d' → ∃ fs, H d' = some (.ext (xDict fs d')) := by
  rintro d' rfl
  rcases h with ⟨h, _⟩ | ⟨d, e, v⟩
  · cases h
  · cases e; exact ⟨fs, v.2.2⟩
noncomputable def dIsX (cn : Str) (b : Bool) (fa : DE) : DE := fun δ h Q => fa δ h fun d h1 => match d with | .exc c _ => c = cn ∧ Q (.bl b) h1 | _ => False
noncomputable def dXA (cn name : Str) (fa : DE) : DE := fun δ h Q => fa δ h fun d h1 => match d with | .exc c fs => c = cn ∧ (match fs.lookup name with | some i => Q (.int i) h1 | none => False) | _ => False
structure ClassX (K : PySem.W.Frag) (cn : Str) : Prop where
  ex : ∃ C, PySem.W.nsIn K mainGlobals cn = some (some (.ref C)) ∧ XIs K C
structure AttrX (K : PySem.W.Frag) (cn name : Str) : Prop where
  ex : ∃ C f, PySem.W.nsIn K mainGlobals cn = some (some (.ref C)) ∧ XCls K C f ∧ NoAttr K C name
structure IsX (K : PySem.W.Frag) (cn : Str) (u : Value) (b : Bool) : Prop where
  ex : ∃ C, PySem.W.nsIn K mainGlobals cn = some (some (.ref C)) ∧ PySem.W.kitOne K (.ref C) u = some b
section
variable {X : Cx} {cn : Str} {b : Bool} {a t : Expr} {fa : DE} {p pos : Pos} {u : Value} {v : V}
theorem se_isX (hg : Gl X "isinstance") (hm : X.mg "isinstance" = none) (c : ClassX X.K cn) (i : IsX X.K cn u b) (ha : SE X a fa) (ht : PE X t (tC v)) (hv : ∀ u', RelV v u' → u' = u)
    (he : starEach [a, t] X.env = (false, eval a X.env) :: starEach [t] X.env := by rfl) (he2 : starEach [t] X.env = (false, eval t X.env) :: starEach [] X.env := by rfl) (hpl : (backTo pos (starEach [t] X.env)).any (·.1) = false := by rfl) :
    SE X (.Call (.Name "isinstance" p) [a, t] [] pos) (dIsX cn b fa) := PE.imp (pe_callB call_isinstX hg hm PyProof.Rows.boot_isinstance (pa_cons ha (pa_cons ht pa_nil he2) he) (by decide) (by decide) he hpl) fun σ H Q ⟨π, α, δ, h, Q', R, S, f, k⟩ => by
  obtain ⟨C, hns, cl⟩ := c.ex
  obtain ⟨C', hns', e⟩ := i.ex
  rw [hns] at hns'; cases hns'
  refine ⟨π, α, δ, h, _, R, S, f, fun d h1 α1 H1 v1 f1 e1 R1 q1 => ?_⟩
  cases q1 with
  | @exc a' C2 dx cn2 fs n2 va vd =>
    obtain ⟨rfl, f1⟩ := f1
    rw [hns] at n2; cases n2
    exact ⟨a', dx, C, v, u, b, rfl, va.2.2, vd.dict, cl, e, hv, k _ h1 α1 H1 _ f1 e1 R1 (.bl _)⟩
  | _ => exact f1.elim
theorem se_isN {x : Str} {p2 : Pos} (hg : Gl X "isinstance") (hm : X.mg "isinstance" = none) (c : ClassX X.K cn) (i : ∃ CX, X.mg x = some (.ref CX) ∧ IsX X.K cn (.ref CX) b) (hx : Gl X x) (ha : SE X a fa) (hdb : (x == ("__debug__" : Str)) = false := by decide)
    (he : starEach [a, .Name x p2] X.env = (false, eval a X.env) :: starEach [.Name x p2] X.env := by rfl) (he2 : starEach [.Name x p2] X.env = (false, eval (.Name x p2) X.env) :: starEach [] X.env := by rfl) (hpl : (backTo pos (starEach [.Name x p2] X.env)).any (·.1) = false := by rfl) :
    SE X (.Call (.Name "isinstance" p) [a, .Name x p2] [] pos) (dIsX cn b fa) := by
  obtain ⟨CX, h1, h2⟩ := i
  exact se_isX hg hm c h2 ha (pe_glob (v := .ref CX) hx h1 rfl hdb) (fun _ h => h) he he2 hpl
theorem boot_ValueError : bootBuiltins "ValueError" = some (.type "ValueError") := by kernel_rfl
theorem se_isV {p2 : Pos} (hg : Gl X "isinstance") (hm : X.mg "isinstance" = none) (c : ClassX X.K cn) (i : IsX X.K cn (.type "ValueError") b) (hx : Gl X "ValueError") (hv : X.mg "ValueError" = none) (ha : SE X a fa)
    (he : starEach [a, .Name "ValueError" p2] X.env = (false, eval a X.env) :: starEach [.Name "ValueError" p2] X.env := by rfl) (he2 : starEach [.Name "ValueError" p2] X.env = (false, eval (.Name "ValueError" p2) X.env) :: starEach [] X.env := by rfl) (hpl : (backTo pos (starEach [.Name "ValueError" p2] X.env)).any (·.1) = false := by rfl) :
    SE X (.Call (.Name "isinstance" p) [a, .Name "ValueError" p2] [] pos) (dIsX cn b fa) := se_isX hg hm c i ha (pe_bltn (v := .ty "ValueError") hx hv boot_ValueError rfl) (fun _ h => h) he he2 hpl
theorem se_xa {name : Str} (c : AttrX X.K cn name) (ha : SE X a fa) (hb : attributeBase a name X.env (eval a X.env) = eval a X.env := by rfl) : SE X (.Attribute a name pos) (dXA cn name fa) := PE.imp (pe_xa ha hb) fun σ H Q zz0 => by
  obtain ⟨π, α, δ, h, Q', R, S, f, k⟩ := zz0
  obtain ⟨C, f', hns, cl, na⟩ := c.ex
  refine ⟨π, α, δ, h, _, R, S, f, fun d h1 α1 H1 v1 f1 e1 R1 q1 => ?_⟩
  cases q1 with
  | @exc a' C2 dx cn2 fs n2 va vd =>
    obtain ⟨rfl, f1⟩ := f1
    rw [hns] at n2; cases n2
    cases l : fs.lookup name with
    | none => rw [l] at f1; exact f1.elim
    | some i =>
      rw [l] at f1
      rcases vd with ⟨_, rfl⟩ | ⟨dx, rfl, vd⟩
      · cases l
      exact ⟨a', dx, C, f', fs, i, rfl, va.2.2, vd.2.2, cl, na, l, k _ h1 α1 H1 _ f1 e1 R1 (.int _)⟩
  | _ => exact f1.elim
end
end DL
namespace L2
open PySem PySem.Spec PyProof.Rows
open Sem (wp)
section
variable {prog : Program} {w : World} {A : Around} {E : Value → Shared → Prop} {h : Heap} {g : Array GenState} {d : Drawn} {t : Nat} {os : OsState}
variable {nm q : Str} {C N : Addr} {bs bm bmB : List Value} {hdct : Bool} {sn : List Str} {sub : List Value} {ab : Bool} {col : Option Bool} {dd : Option Addr} {k0 k1 k2 k3 k5 : Option Value} {B Bn newId nid initId inN : String} {bmN : List Value}
end
section
variable {X : Cx} {E : XK} {k : Nat} {C : Addr} {x : Str} {p pos cpos : Pos} {e : Expr} {t : TA}
end
end L2
namespace DL
open PySem PySem.Spec L2
noncomputable def dRaise0 (cn : Str) (js : List Nat) : DS := fun En δ h => (∀ j ∈ js, ∃ a : Int, δ[j]? = some (some (.int a)) ∧ a.natAbs.log2 < 1920) ∧ En.ex cn [] h
section
variable {X : Cx} {E : XK} {k n : Nat} {x : Str} {p pos p2 cpos : Pos} {e e2 : Expr} {rest : List Expr} {t : L2.St → Hp → Prop} {js : List Nat}
end
end DL
namespace L2
open PySem PySem.Spec PyProof.Rows DL
section
variable {X : Cx}
noncomputable def rInsert : V → List V → Hp → VK → Prop := fun x vs H Q => ∃ l xs i y, x = .ref l ∧ vs = [.int i, y] ∧ H l = some (.lst xs) ∧ 0 ≤ i ∧ i.toNat ≤ xs.length ∧ xs.length < 16777216 ∧ Q .non (upd H l (.lst (xs.take i.toNat ++ y :: xs.drop i.toNat)))
theorem Vals.ins : ∀ {xs : List V} {us : List Value} (n : Nat) {y : V} {u : Value}, Vals xs us → RelV y u → Vals (xs.take n ++ y :: xs.drop n) (us.take n ++ u :: us.drop n)
  | xs, us, 0, _, _, r, q => .cons q r
  | _, _, n + 1, _, _, .nil, q => .cons q .nil
  | _, _, n + 1, _, _, .cons h t, q => .cons h (Vals.ins n t q)
theorem mt_insert : MtM X "list.insert" rInsert := by
  intro pins s σ H x vs v us Q I rx rv h
  obtain ⟨l, xs, i, y, rfl, rfl, hH, h0, hi, hz, q⟩ := h
  cases rx
  obtain ⟨u1, u2, rfl, r1, r2⟩ := vals2 rv
  obtain ⟨t, rfl⟩ := r1
  obtain ⟨z, its, n, r, hl, e⟩ := I.lstM hH
  have hf : ¬ (!Builtin.List.listFitsIndex i) = true := by rw [fitsIndex_both (by omega) (by omega)]; simp
  have hlen : its.toArray.size = xs.length := by rw [List.size_toArray]; exact hl.symm
  refine call_meets PySem.F.slot_list_insert ⟨_, e, rfl⟩ PySem.F.entry_list_insert (PySem.F.args_list_insert_3 _ _ _) (PySem.AutoListH.list_insert_list_int_val_1 l its.toArray n i t u2 hf (by rw [hlen, sizeLine_eq]; omega)) ⟨e, ?_⟩
  refine ⟨.non, _, I.lset (its' := its.take i.toNat ++ u2 :: its.drop i.toNat) hH e ?_ (r.ins i.toNat r2) ?_, rfl, q⟩
  · dsimp only
    rw [if_neg (by omega), hlen, Nat.min_eq_left hi]
    apply Array.toList_inj.mp
    simp [List.extract_eq_take_drop, List.take_of_length_le]
    exact List.take_of_length_le (by rw [List.length_drop]; omega)
  · rw [List.length_append, List.length_cons, List.length_take, List.length_drop, sizeLine_eq]
    omega
end
end L2
namespace DL
open PySem PySem.Spec L2
section
variable {X : Cx} {cn : Str} {a : Expr} {fa : DE} {p pos : Pos} {x1 x2 x3 : Str} {p1 p2 p3 tpos : Pos} {ctx : Nat}
end
noncomputable def dInsert (fo : DE) (fs : DA) : DE := fun δ h Q => fo δ h fun d h1 => match d with
  | .ref i => (match h1[i]? with
    | some (.lst _) => fs δ h1 fun ds h2 => (match ds, h2[i]? with
      | [.int n, y], some (.lst xs) => (0 ≤ n ∧ n.toNat ≤ xs.length ∧ xs.length < 16777216) ∧ Q .non (h2.set i (.lst (xs.take n.toNat ++ y :: xs.drop n.toNat)))
      | _, _ => False)
    | _ => False)
  | _ => False
theorem RelDs.ins {K : KP} {α : List Addr} {H : Hp} : ∀ {ds : List D} {us : List V} (n : Nat) {d : D} {u : V}, RelDs K α H ds us → RelD K α H d u → RelDs K α H (ds.take n ++ d :: ds.drop n) (us.take n ++ u :: us.drop n)
  | _, _, 0, _, _, r, q => .cons q r
  | _, _, n + 1, _, _, .nil, q => .cons q .nil
  | _, _, n + 1, _, _, .cons h t, q => .cons h (RelDs.ins n t q)
section
variable {X : Cx} {o e e2 : Expr} {fo : DE} {cpos apos : Pos}
theorem se_insert {fs : DA} {n : Nat} (ho : SE X o fo) (ha : SA X [e, e2] n fs) (hbase : attributeBase o "insert" X.env (eval o X.env) = eval o X.env := by rfl)
    (hfew : ((backTo cpos (starEach [e, e2] X.env)).all (fun x => !x.1) && (backToKw cpos (keywordEach [] X.env)).all (fun x => x.1.isSome)
      && decide ([e, e2].length + ([] : List Keyword).length + (if ([] : List Keyword).isEmpty then 0 else 1) < 30)) = true := by rfl)
    (hline : (apos.endLine == cpos.line) = true := by rfl) (hs : starEach [e, e2] X.env = (false, eval e X.env) :: starEach [e2] X.env := by rfl) (hplain : (backTo cpos (starEach [e2] X.env)).any (·.1) = false := by rfl) :
    SE X (.Call (.Attribute o "insert" apos) [e, e2] [] cpos) (dInsert fo fs) :=
  PE.imp (pe_bm PySem.F.plainAttrs_list PySem.F.slot_list_insert PySem.F.type_list_insert mt_insert ho ha hbase hfew hline hs hplain) fun σ H Q zz0 => by
    obtain ⟨π, α, δ, h, Q', R, S, f, k⟩ := zz0
    refine ⟨π, α, δ, h, _, R, S, f, fun d h1 α1 H1 v1 f1 e1 R1 q1 => ?_⟩
    cases q1 with
    | @ref i a hp =>
      dsimp only at f1
      cases w : h1[i]? with
      | none => rw [w] at f1; exact f1.elim
      | some ob =>
        rw [w] at f1
        cases ob with
        | lst xs =>
          obtain ⟨us, e2, e3⟩ := refL R1 hp w
          refine ⟨.inl ⟨rfl, us, SqL.of e2⟩, π, α1, δ, h1, _, R1, S.mono e1, f1, fun ds h2 α2 H2 vs f2 e2 R2 q2 l2 => ?_⟩
          split at f2
          · rename_i m y ys w2
            obtain ⟨u, u', rfl, q9, q8⟩ := q2.inv2
            cases q9
            have hp2 := e2.get hp
            obtain ⟨us2, g2, g3⟩ := refL R2 hp2 w2
            obtain ⟨⟨h0, hi, hz⟩, f2⟩ := f2
            have e4 : Ext α2 H2 α2 (upd H2 a (.lst (us2.take m.toNat ++ u' :: us2.drop m.toNat))) := Ext.write (List.mem_of_getElem? hp2)
            have gl := g3.length
            exact ⟨a, us2, m, u', rfl, rfl, g2, h0, by omega, by omega, k _ _ α2 _ _ f2 (e1.trans (e2.trans e4)) (R2.write hp2 (.lst upd_same ((g3.ins m.toNat q8).mono e4))) .non⟩
          · exact f2.elim
        | _ => exact f1.elim
    | _ => exact f1.elim
end
end DL
namespace L2
open PySem PySem.Spec PyProof.Rows
open Classical in
noncomputable def eData (h : Heap) (b : PyData) (v : Value) : Bool := if ∃ a as, Reads h v a as ∧ PyData.eqv a b = true then true else false
theorem eData_of {h : Heap} {b a : PyData} {v : Value} {as : List Addr} (ha : a.canLay0 = true) (r : Reads h v a as) : eData h b v = PyData.eqv a b := by
  unfold eData
  by_cases q : PyData.eqv a b = true
  · rw [if_pos ⟨a, as, r, q⟩, q]
  · rw [if_neg, Bool.eq_false_iff.mpr q]
    rintro ⟨a', as', r', q'⟩
    rw [SeqAt.Reads.unique a a' v as as' ha r r'] at q
    exact q q'
theorem eData_any {h : Heap} {b : PyData} : ∀ {vs : List Value} {ds : List PyData} {as : List Addr}, ReadsAll h vs ds as → PyData.canLayAll0 ds = true → vs.any (eData h b) = ds.any (fun a => PyData.eqv a b) ∧ ∀ v ∈ vs, ∃ a as', a.canLay0 = true ∧ Reads h v a as'
  | _, _, _, .nil, _ => ⟨rfl, fun v hv => nomatch hv⟩
  | _, _, _, .cons r t, c => by
    have c : (_ && _) = true := c
    rw [Bool.and_eq_true] at c
    obtain ⟨e, k⟩ := eData_any t c.2
    refine ⟨by rw [List.any_cons, List.any_cons, e, eData_of c.1 r], fun v hv => ?_⟩
    rcases List.mem_cons.mp hv with rfl | hv
    · exact ⟨_, _, c.1, r⟩
    · exact k v hv
theorem notin_data {prog : Program} {w : World} {A : Around} {E : Value → Shared → Prop} {s : Shared} {x y : Value} {Q : Value → Shared → Prop} {b : PyData} {ds : List PyData} {as bs : List Addr} (rb : Reads s.heap x b bs) (ra : Reads s.heap y (.list ds) as)
    (cb : b.canLay0 = true) (ca : PyData.canLayAll0 ds = true) (hd : b.depth ≤ 60) (hu : A.units + 64 < cLine) (q : Q (.bool (!ds.any fun a => PyData.eqv a b)) s) : wpAny (model prog w) A (compareOp .NotIn x y) Q E s := by
  cases ra with
  | @list a o vs n xs as ho hc hd' ra =>
    obtain ⟨e, k⟩ := eData_any (b := b) ra ca
    refine SeqAt.notIn_listAt (eData s.heap b) ⟨o, ho, hc, n, hd'⟩ (fun v hv => ?_) ?_
    · obtain ⟨d, as', c, r⟩ := k v (by simpa using hv)
      rw [eData_of c r]
      exact SeqAt.eqAt_reads d b A.in1 s v x as' bs r rb c cb (by show A.units + 1 + _ < _; omega)
    · have : vs.any (eData s.heap b) = ds.any fun a => PyData.eqv a b := by rw [← e]; simp
      rw [this]; exact q
section
variable {prog : Program} {w : World} {A : Around} {R : Result → Shared → Prop} {I : Addr} {fp wr : List Addr} {n : Nat} {P : Nat → Value → Prop} {St : Nat → Heap → Prop}
theorem min_loopK (W : Walks prog w A.in1 I fp wr n P St) (bt : Nat → Nat → Bool) (S : Addr) (hSf : S ∉ fp) (h0 : Heap)
    (hc : ∀ (i j : Nat) (vi vj : Value) (s : Shared) (Q E : Value → Shared → Prop), (∀ b o, b ∉ wr → b ≠ S → h0.get? b = some o → s.heap.get? b = some o) → P i vi → P j vj → Q (.bool (bt i j)) s → wpAny (model prog w) A.in1 (richCompare .Lt vi vj) Q E s) :
    ∀ (k j : Nat) (s : Shared) (vb : Value) (c : Nat), n - (j + 1) = k → j + 1 ≤ n → St (j + 1) s.heap → P (argBest bt j) vb → s.heap.get? S = some { cls := .type "list", dict := none, data := .seq #[vb, vb] c, slots := #[] } →
    (∀ b o, b ∉ wr → b ≠ S → h0.get? b = some o → s.heap.get? b = some o) →
    (∀ v h' tk, P (argBest bt (n - 1)) v → (∀ b o, b ∉ wr → b ≠ S → h0.get? b = some o → h'.get? b = some o) → R (.ok (.ret v)) { s with heap := h', toks := tk }) →
    codeAny (model prog w) A (.builtin "min.loop" ⟨[.ref I, .none, .ref S], []⟩) R s := by
  have hSw : S ∉ wr := fun h => hSf (W.sub _ h)
  have hname : (toString "min" ++ toString ".loop" : String) = "min.loop" := by decide
  intro k
  induction k with
  | zero =>
    intro j s vb c hk hj st p hS h0k hR
    refine codeAny_builtin F.entry_min_loop ?_
    rw [Around.under_plainId F.plain_min_loop _]
    refine wpAny_bind (wpAny_seqItems hS rfl ?_)
    refine wpAny_bind (wpAny_tryCatch (W.done s _ _ ((show j + 1 = n by omega) ▸ st) fun h' tk hk' => ?_))
    have hS' := hk' S _ hSw hS
    refine wpAny_bind ?_
    refine wpAny_updateSeq hS' rfl (wpAny_bind (wpAny_letGo (wpAny_pure ?_)))
    exact hR vb _ tk (by rw [show n - 1 = j by omega]; exact p) fun b o h1 h2 e => (Heap.get?_update_other _ _ (Ne.symm h2)).trans (hk' b o h1 (h0k b o h1 h2 e))
  | succ k ih =>
    intro j s vb c hk hj st p hS h0k hR
    refine codeAny_builtin F.entry_min_loop ?_
    rw [Around.under_plainId F.plain_min_loop _]
    refine wpAny_bind (wpAny_seqItems hS rfl ?_)
    refine wpAny_bind (wpAny_tryCatch (W.item (j + 1) s _ _ (by omega) st fun v h' tk hP st' hk' => ?_))
    have hS' := hk' S _ hSw hS
    have h0k' : ∀ b o, b ∉ wr → b ≠ S → h0.get? b = some o → h'.get? b = some o := fun b o h1 h2 e => hk' b o h1 (h0k b o h1 h2 e)
    show wpAny _ A.in1 (tryCatch (holding [v, v] (richCompare .Lt v vb >>= _)) _ >>= _) _ _ _
    refine wpAny_bind (wpAny_tryCatch (wpAny_holding (wpAny_bind (hc (j + 1) (argBest bt j) v vb _ _ _ h0k' hP p ?_))))
    refine wpAny_bind (wpAny_holding (wpAny_truthy_bool ?_))
    refine wpAny_bind (wpAny_letGo (wpAny_pure ?_))
    have up : argBest bt (j + 1) = if bt (j + 1) (argBest bt j) = true then j + 1 else argBest bt j := rfl
    cases hb : bt (j + 1) (argBest bt j) with
    | true =>
      rw [hb, if_pos rfl] at up
      simp only [if_true]
      refine wpAny_bind ?_
      refine wpAny_updateSeq hS' rfl (wpAny_bind (wpAny_letGo ?_))
      rw [hname]
      refine wpAny_pure ⟨plainId_quiet F.plain_min_loop _, ih (j + 1) _ v _ (by omega) (by omega) (W.frame _ _ _ st' fun b hb o e => ?_) (by rw [up]; exact hP) (Heap.get?_update_self _ hS' rfl) (fun b o h1 h2 e => ?_) fun v' h'' tk' hP' kk => hR v' h'' tk' hP' kk⟩
      · exact (Heap.get?_update_other _ _ (fun h : S = b => hSf (by rw [h]; exact hb))).trans e
      · exact (Heap.get?_update_other _ _ (Ne.symm h2)).trans (h0k' b o h1 h2 e)
    | false =>
      rw [hb, if_neg (by decide)] at up
      simp only [Bool.false_eq_true, if_false]
      refine wpAny_bind (wpAny_letGo ?_)
      rw [hname]
      exact wpAny_pure ⟨plainId_quiet F.plain_min_loop _, ih (j + 1) _ vb c (by omega) (by omega) st' (by rw [up]; exact p) hS' h0k' fun v' h'' tk' hP' kk => hR v' h'' tk' hP' kk⟩
end
section
variable {prog : Program} {w : World} {A : Around} {E : Value → Shared → Prop} {s : Shared}
theorem min_list_by {l : Addr} {items : Array Value} {Q : Value → Shared → Prop} (hh : A.handled = none) (hl : s.heap.IsList l items) (hne : 0 < items.size) (bt : Nat → Nat → Bool)
    (hc : ∀ (i j : Nat) (vi vj : Value) (s' : Shared) (Q E : Value → Shared → Prop), (∀ b o, s.heap.get? b = some o → s'.heap.get? b = some o) → items[i]? = some vi → items[j]? = some vj → Q (.bool (bt i j)) s' → wpAny (model prog w) A.in1 (richCompare .Lt vi vj) Q E s')
    (h : ∀ v h' tk, items[argBest bt (items.size - 1)]? = some v → (∀ b o, s.heap.get? b = some o → h'.get? b = some o) → Q v { s with heap := h', toks := tk }) : wpAny (model prog w) A (call (.builtin "min") [.ref l]) Q E s := by
  have hname : (toString "min" ++ toString ".loop" : String) = "min.loop" := by decide
  have hlt : l < s.heap.objs.size := by obtain ⟨_, e, _⟩ := hl; exact Heap.lt_size e
  refine call_function_tree F.kind_min F.plain_min F.entry_min (F.args_min1 _) ?_
  refine wpAny_bind (wpAny_of_eq (show Builtin.Builtins.bindParams "min" ["key", "default"] 0 ⟨[], []⟩ = pure [none, none] from rfl) ?_)
  refine wpAny_bind (wpAny_pure ?_)
  refine wpAny_bind (wpAny_pyIter_list hl ?_)
  have W := Walks.list (prog := prog) (w := w) (A := A.in1) hh s.heap.objs.size l (Nat.ne_of_lt hlt) items
  refine wpAny_bind (wpAny_newObj_type ?_)
  rw [hname]
  have hsz : (s.heap.push { cls := .type "list_iterator", data := .fields #[.ref l, .int 0 0] }).objs.size = s.heap.objs.size + 1 := Heap.size_push ..
  have old : ∀ b o, s.heap.get? b = some o → b ∉ [s.heap.objs.size] ∧ b ≠ s.heap.objs.size + 1 := fun b o e => by
    have z : b < s.heap.objs.size := Heap.lt_size e
    exact ⟨fun hm => Nat.lt_irrefl _ ((List.mem_singleton.mp hm) ▸ z), Nat.ne_of_lt (Nat.lt_succ_of_lt z)⟩
  refine wpAny_pure ⟨plainId_quiet F.plain_min_loop _, ?_⟩
  refine codeAny_builtin F.entry_min_loop ?_
  rw [Around.under_plainId F.plain_min_loop _]
  refine wpAny_bind (wpAny_seqItems (Heap.get?_push_size _ rfl) rfl ?_)
  refine wpAny_bind (wpAny_tryCatch (W.item 0 _ _ _ hne ⟨⟨_, Heap.get?_push_of_some _ (Heap.get?_push_size _ rfl), rfl, rfl⟩, (hl.push _).push _⟩ fun v h' tk hP st' hk' => ?_))
  have hSn : (s.heap.push { cls := .type "list_iterator", data := .fields #[.ref l, .int 0 0] }).objs.size ∉ [s.heap.objs.size] := fun hm => by rw [List.mem_singleton, hsz] at hm; exact Nat.succ_ne_self _ hm
  have hS' := hk' _ _ hSn (Heap.get?_push_size _ rfl)
  show wpAny _ A.in1 (updateSeq _ (fun _ => #[v, v]) >>= _) _ _ _
  refine wpAny_bind ?_
  refine wpAny_updateSeq hS' rfl ?_
  rw [hname]
  refine wpAny_pure ⟨plainId_quiet F.plain_min_loop _, min_loopK W bt _ (fun hm => ?_) s.heap (fun i j vi vj s' Q E k h1 h2 q => hc i j vi vj s' Q E (fun b o e => k b o (old b o e).1 (by rw [hsz]; exact (old b o e).2) e) h1 h2 q) _ 0 _ v _ rfl hne (W.frame _ _ _ st' fun b hb o e => ?_) hP (Heap.get?_update_self _ hS' rfl) (fun b o h1 h2 e => ?_) fun v' h'' tk' hP' kk => ?_⟩
  · rw [hsz] at hm
    rcases List.mem_cons.mp hm with z | z
    · exact Nat.succ_ne_self _ z
    · exact Nat.ne_of_gt (Nat.lt_succ_of_lt hlt) (List.mem_singleton.mp z)
  · refine (Heap.get?_update_other _ _ (fun z => ?_)).trans e
    rw [← z, hsz] at hb
    rcases List.mem_cons.mp hb with z | z
    · exact Nat.succ_ne_self _ z
    · exact Nat.ne_of_gt (Nat.lt_succ_of_lt hlt) (List.mem_singleton.mp z)
  · exact (Heap.get?_update_other _ _ (Ne.symm h2)).trans (hk' b o h1 (Heap.get?_push_of_some _ (Heap.get?_push_of_some _ e)))
  · exact h v' h'' tk' hP' fun b o e => kk b o (old b o e).1 (by rw [hsz]; exact (old b o e).2) e
end
theorem argBest_least {α : Type} {lt : α → α → Prop} (f : Nat → α) (bt : Nat → Nat → Bool) (hb : ∀ i j, bt i j = true ↔ lt (f i) (f j)) (ir : ∀ a, ¬ lt a a) (tr : ∀ a b c, lt a b → lt b c → lt a c) : ∀ k, argBest bt k ≤ k ∧ ∀ i, i ≤ k → ¬ lt (f i) (f (argBest bt k))
  | 0 => ⟨Nat.le_refl 0, fun i hi => by rw [show i = 0 by omega]; exact ir _⟩
  | k + 1 => by
    obtain ⟨h1, h2⟩ := argBest_least f bt hb ir tr k
    have up : argBest bt (k + 1) = if bt (k + 1) (argBest bt k) = true then k + 1 else argBest bt k := rfl
    by_cases c : bt (k + 1) (argBest bt k) = true
    · rw [up, if_pos c]
      refine ⟨Nat.le_refl _, fun i hi z => ?_⟩
      rcases Nat.lt_or_ge i (k + 1) with y | y
      · exact h2 i (by omega) (tr _ _ _ z ((hb _ _).mp c))
      · rw [show i = k + 1 by omega] at z; exact ir _ z
    · rw [up, if_neg c]
      refine ⟨by omega, fun i hi z => ?_⟩
      rcases Nat.lt_or_ge i (k + 1) with y | y
      · exact h2 i (by omega) z
      · rw [show i = k + 1 by omega] at z; exact c ((hb _ _).mpr z)
noncomputable abbrev ZP := Int × Int
noncomputable def ltZ (a b : ZP) : Prop := a.1 < b.1 ∨ a.1 = b.1 ∧ a.2 < b.2
theorem lexLt_two (a b c d : Int) : HT.lexLt [a, b] [c, d] = true ↔ ltZ (a, b) (c, d) := by
  unfold ltZ
  rw [HT.lexLt_cons]
  by_cases h : a = c
  · rw [if_pos h, HT.lexLt_cons]
    by_cases h2 : b = d
    · rw [if_pos h2, HT.lexLt_nil_nil]; simp; omega
    · rw [if_neg h2, decide_eq_true_iff]; show _ ↔ a < c ∨ a = c ∧ b < d; omega
  · rw [if_neg h, decide_eq_true_iff]; show _ ↔ a < c ∨ a = c ∧ b < d; omega
section
variable {X : Cx}
theorem op_isB : OpR X (compareOp .Is) (fun x y H Q => ∃ a b, x = .bl a ∧ y = .bl b ∧ Q (.bl (a == b)) H) := by
  intro pins s σ H x y v u Q I rx ry h
  obtain ⟨a, b, rfl, rfl, q⟩ := h
  cases rx
  cases ry
  exact is_bool (fin_bl I q rfl)
theorem op_cat0 : OpR X (binaryOp .Add) (fun x y H Q => ∃ a b ys, x = .ref a ∧ y = .ref b ∧ SqT X.K H a [] ∧ SqT X.K H b ys ∧ Q (.ref b) H) := by
  intro pins s σ H x y v u Q I rx ry h
  obtain ⟨a, b, ys, rfl, rfl, ha, hb, q⟩ := h
  cases rx
  cases ry
  obtain ⟨its, r1, p1, _⟩ := I.tuple ha
  obtain ⟨its2, r2, p2, _⟩ := I.tuple hb
  cases r1
  obtain ⟨⟨cls, dd, data, sl⟩, ho, hc, n, hd⟩ := p1
  obtain ⟨⟨cls2, dd2, data2, sl2⟩, ho2, hc2, n2, hd2⟩ := p2
  simp only at hc hd hc2 hd2
  subst hc hd hc2 hd2
  exact concat_meets ⟨_, ho, rfl⟩ ⟨_, ho2, rfl⟩ noFill_tuple_add seq_tuple_add PySem.F.slot_tuple_add PySem.F.entry_tuple_add (PySem.F.args_tuple_add_2 _ _) (tuple_addW0 a b _ _ n n2 dd dd2 sl sl2 rfl) ⟨ho, ho2, ⟨.ref b, H, I, rfl, q⟩⟩
theorem call_minI (hc : X.calm = true) : CallR X (.builtin "min") (fun xs H Q => ∃ (l : Addr) (ns : List Int), xs = [.ref l] ∧ SqL X.K H l (ns.map V.int) ∧ ns ≠ [] ∧ ∀ n ∈ ns, (∀ m ∈ ns, n ≤ m) → Q (.int n) H) := by
  intro pins s σ H xs us Q I r h
  obtain ⟨l, ns, rfl, hq, hn, q⟩ := h
  obtain ⟨u, rfl, ru⟩ := vals1 r
  cases ru
  obtain ⟨its, rv, p, hz⟩ := I.list hq
  have hi : IntsAre its ns := intsAre_of rv
  obtain ⟨ys, e⟩ := hi.allInts.items
  have en : ys.toList.map (·.1) = ns := by rw [← nums_intItems, ← e]; simpa using hi.numsOf
  have hl : ns.length = ys.size := by rw [← en]; simp
  have hp : 0 < ns.length := List.length_pos_iff.mpr hn
  have at' : ∀ i, i < ys.size → ns[i]? = some (numAt ys i) := fun i hi => by
    rw [← en, List.getElem?_map]
    unfold numAt
    rw [Array.getElem?_eq_getElem hi]
    simp [hi]
  refine min_intList (xs := ys) (I.ok.hd hc) (by rw [← e]; exact p.isList) (by omega) fun v h' tk hv hk => ?_
  obtain ⟨b1, b2⟩ := argBest_least (lt := fun a b : Int => a < b) (numAt ys) (fun i j => decide (numAt ys i < numAt ys j)) (fun i j => decide_eq_true_iff) (fun a => Int.lt_irrefl a) (fun a b c => Int.lt_trans) (ys.size - 1)
  obtain ⟨t, rfl⟩ := intItems_at hv
  refine ⟨.int _, H, I.kept hk, ⟨t, rfl⟩, q _ (List.mem_of_getElem? (at' _ (by omega))) fun m hm => ?_⟩
  obtain ⟨i, hi', rfl⟩ := List.mem_iff_getElem.mp hm
  have z := at' i (by omega)
  rw [List.getElem?_eq_getElem hi'] at z
  have := b2 i (by omega)
  rw [Option.some.inj z]
  omega
noncomputable abbrev ZS := List (Addr × ZP)
theorem zvals : ∀ {src : ZS} {us : List Value}, Vals (src.map fun e => V.ref e.1) us → us = src.map fun e => Value.ref e.1
  | [], _, .nil => rfl
  | e :: src, _, .cons r t => by cases r; rw [zvals t]; rfl
theorem call_minP (hc : X.calm = true) (hu : X.A.units + 64 < cLine) : CallR X (.builtin "min") (fun xs H Q => ∃ (l : Addr) (src : ZS), xs = [.ref l] ∧ SqL X.K H l (src.map fun e => V.ref e.1) ∧ (∀ e ∈ src, SqT X.K H e.1 [.int e.2.1, .int e.2.2]) ∧ src ≠ [] ∧ ∀ e ∈ src, (∀ e' ∈ src, ¬ ltZ e'.2 e.2) → Q (.ref e.1) H) := by
  intro pins s σ H xs us Q I r h
  obtain ⟨l, src, rfl, hq, hs, hn, q⟩ := h
  obtain ⟨u, rfl, ru⟩ := vals1 r
  cases ru
  obtain ⟨its, rv, p, hz⟩ := I.list hq
  obtain rfl := zvals rv
  have hp : 0 < src.length := List.length_pos_iff.mpr hn
  let f : Nat → ZP := fun i => (src[i]?.map (·.2)).getD (0, 0)
  let bt : Nat → Nat → Bool := fun i j => HT.lexLt [(f i).1, (f i).2] [(f j).1, (f j).2]
  have get : ∀ {i : Nat} {v : Value}, (src.map fun e => Value.ref e.1).toArray[i]? = some v → ∃ e, src[i]? = some e ∧ v = .ref e.1 ∧ f i = e.2 := fun {i v} h => by
    rw [List.getElem?_toArray, List.getElem?_map] at h
    cases z : src[i]? with
    | none => rw [z] at h; cases h
    | some e => rw [z] at h; cases h; exact ⟨e, rfl, rfl, by show (src[i]?.map (·.2)).getD (0, 0) = _; rw [z]; rfl⟩
  refine min_list_by (I.ok.hd hc) p.isList (by simpa using hp) bt (fun i j vi vj s' Q E k h1 h2 qq => ?_) fun v h' tk hv hk => ?_
  · obtain ⟨e, he, rfl, fe⟩ := get h1
    obtain ⟨e', he', rfl, fe'⟩ := get h2
    obtain ⟨i1, r1, ⟨o1, g1, c1, m1, d1⟩, _⟩ := I.tuple (hs e (List.mem_of_getElem? he))
    obtain ⟨i2, r2, ⟨o2, g2, c2, m2, d2⟩, _⟩ := I.tuple (hs e' (List.mem_of_getElem? he'))
    have a1 : IntsAre i1.toArray.toList [e.2.1, e.2.2] := intsAre_of (ns := [e.2.1, e.2.2]) r1
    have a2 : IntsAre i2.toArray.toList [e'.2.1, e'.2.2] := intsAre_of (ns := [e'.2.1, e'.2.2]) r2
    have qq : Q (.bool (HT.lexLt [(f i).1, (f i).2] [(f j).1, (f j).2])) s' := qq
    rw [fe, fe'] at qq
    exact HT.lt_tupInts ⟨o1, k _ _ g1, c1, m1, d1⟩ ⟨o2, k _ _ g2, c2, m2, d2⟩ a1 a2 (show X.A.units + 1 < cLine by omega) qq
  · obtain ⟨b1, b2⟩ := argBest_least (lt := ltZ) f bt (fun i j => lexLt_two ..) (fun a z => by unfold ltZ at z; omega) (fun a b c h1 h2 => by unfold ltZ at *; omega) ((src.map fun e => Value.ref e.1).toArray.size - 1)
    obtain ⟨e, he, rfl, fe⟩ := get hv
    refine ⟨.ref e.1, H, I.kept hk, rfl, q e (List.mem_of_getElem? he) fun e' he' => ?_⟩
    obtain ⟨i, hi, rfl⟩ := List.mem_iff_getElem.mp he'
    have := b2 i (by simp; omega)
    rw [fe] at this
    have fi : f i = (src[i]).2 := by show (src[i]?.map (·.2)).getD (0, 0) = _; rw [List.getElem?_eq_getElem hi]; rfl
    rw [fi] at this
    exact this
end
end L2
namespace DL
open PySem PySem.Spec L2
noncomputable def zD (p : ZP) : D := .tup [.int p.1, .int p.2]
noncomputable def pIsB : P2 := fun x y h Q => match x, y with | .bl a, .bl b => Q (.bl (a == b)) h | _, _ => False
noncomputable def pCatT : P2 := fun x y h Q => match x, y with | .tup a, .tup b => a.length + b.length ≤ 16777216 ∧ Q (.tup (a ++ b)) h | _, _ => False
noncomputable def pNinS : P2 := fun x y h Q => ∃ b as, IsP h x b ∧ IsP h y (.list as) ∧ b.canLay0 = true ∧ PyData.canLayAll0 as = true ∧ b.depth ≤ 60 ∧ Q (.bl (!as.any fun a => PyData.eqv a b)) h
noncomputable def pMinL : PN := fun ds h Q => ∃ (d : D) (ns : List Int), ds = [d] ∧ lsOf h d = some (ns.map D.int) ∧ ns ≠ [] ∧ ∀ n ∈ ns, (∀ m ∈ ns, n ≤ m) → Q (.int n) h
noncomputable def pMinP : PN := fun ds h Q => ∃ (d : D) (ps : List ZP), ds = [d] ∧ lsOf h d = some (ps.map zD) ∧ ps ≠ [] ∧ ∀ p ∈ ps, (∀ q ∈ ps, ¬ ltZ q p) → Q (zD p) h
theorem rel_zs {K : KP} {α : List Addr} {H : Hp} : ∀ {ps : List ZP} {us : List V}, RelDs K α H (ps.map zD) us → ∃ src : ZS, us = (src.map fun e => V.ref e.1) ∧ src.map (·.2) = ps ∧ ∀ e ∈ src, RelD K α H (zD e.2) (.ref e.1)
  | [], _, .nil => ⟨[], rfl, rfl, fun e h => (nomatch h)⟩
  | p :: ps, _, .cons r t => by
    obtain ⟨src, rfl, e2, e3⟩ := rel_zs t
    obtain ⟨a, us, e, _, _⟩ := tup_sq r
    subst e
    refine ⟨(a, p) :: src, rfl, by rw [List.map_cons, e2], fun e he => ?_⟩
    rcases List.mem_cons.mp he with rfl | he
    · exact r
    · exact e3 e he
theorem z_sq {K : KP} {α : List Addr} {H : Hp} {e : Addr × ZP} (r : RelD K α H (zD e.2) (.ref e.1)) : SqT K.K H e.1 [.int e.2.1, .int e.2.2] := by
  obtain ⟨a, us, ea, hq, rs⟩ := tup_sq r
  cases ea
  obtain ⟨u, v, rfl, r1, r2⟩ := rs.inv2
  cases r1
  cases r2
  exact hq
section
variable {X : Cx}
theorem ok_isB : OpR X (compareOp .Is) (r2 X.K pIsB) := OpR.imp op_isB fun x y H Q zz0 => by
  obtain ⟨π, α, h, d, e, Q', R, r1, r2, f, k⟩ := zz0
  unfold pIsB at f
  split at f
  · cases r1; cases r2
    exact ⟨_, _, rfl, rfl, k _ h α H _ f (Ext.refl ..) R (.bl _)⟩
  · exact f.elim
theorem ok_catT : OpR X (binaryOp .Add) (r2 X.K pCatT) := OpR.imp (op_cat0.or ok_add) fun x y H Q zz0 => by
  obtain ⟨π, α, h, d, e, Q', R, r1, r2, f, k⟩ := zz0
  unfold pCatT at f
  split at f
  · rename_i a b
    by_cases z : a = []
    · subst z
      obtain ⟨p, us, rfl, hq, rs⟩ := tup_sq r1
      obtain ⟨p2, us2, rfl, hq2, rs2⟩ := tup_sq r2
      cases rs
      exact .inl ⟨p, p2, us2, rfl, rfl, hq, hq2, k _ h α H _ f.2 (Ext.refl ..) R r2⟩
    · exact .inr ⟨π, α, h, _, _, Q', R, r1, r2, ⟨z, f⟩, k⟩
  · exact f.elim
theorem ok_ninS (hu : X.A.units + 64 < cLine) : OpR X (compareOp .NotIn) (r2 X.K pNinS) := by
  intro pins s σ H x y v u Q I rx ry ⟨π, α, h, d, e, Q', R, r1, r2, f, k⟩
  obtain ⟨b, as, ib, ia, cb, ca, hd, f⟩ := f
  obtain ⟨bs, rb⟩ := ib.reads I R r1 rx
  obtain ⟨as', ra⟩ := ia.reads I R r2 ry
  exact notin_data rb ra cb ca hd hu ⟨.bl _, H, I, rfl, k _ h α H _ f (Ext.refl ..) R (.bl _)⟩
theorem ok_minL (hc : X.calm = true) : CallR X (.builtin "min") (rN X.K pMinL) := CallR.imp (call_minI hc) fun xs H Q zz0 => by
  obtain ⟨π, α, h, ds, Q', R, rs, f, k⟩ := zz0
  obtain ⟨d, ns, rfl, w, hn, f⟩ := f
  obtain ⟨v, rfl, rd⟩ := rs.inv1
  obtain ⟨p, us, rfl, b, c⟩ := lsOf_sq R rd w
  cases rel_ints c
  exact ⟨p, ns, rfl, b, hn, fun n h1 h2 => k _ h α H _ (f n h1 h2) (Ext.refl ..) R (.int _)⟩
theorem ok_minP (hc : X.calm = true) (hu : X.A.units + 64 < cLine) : CallR X (.builtin "min") (rN X.K pMinP) := CallR.imp (call_minP hc hu) fun xs H Q zz0 => by
  obtain ⟨π, α, h, ds, Q', R, rs, f, k⟩ := zz0
  obtain ⟨d, ps, rfl, w, hn, f⟩ := f
  obtain ⟨v, rfl, rd⟩ := rs.inv1
  obtain ⟨p, us, rfl, b, c⟩ := lsOf_sq R rd w
  obtain ⟨src, rfl, ep, hs⟩ := rel_zs c
  subst ep
  refine ⟨p, src, rfl, b, fun e he => z_sq (hs e he), fun z => hn (by rw [z]; rfl), fun e he hl => ?_⟩
  refine k _ h α H _ (f e.2 (List.mem_map.mpr ⟨e, he, rfl⟩) fun q hq => ?_) (Ext.refl ..) R (hs e he)
  obtain ⟨e', he', rfl⟩ := List.mem_map.mp hq
  exact hl e' he'
end
theorem fn_okXK {P : Program} {w : World} {K : PySem.W.Frag} {mg : Str → Option Value} {base : Heap} {x qual : Str} {st : Stmt} {f : Addr} {fd : FuncData} {N ps : List Str} {k : Nat} {b : DS} {g : DSpX} (F : Fun K x qual st f fd) (S : FnScope N ps (defScope st))
    (hb : ∀ (cdv : Value) (A : Around) (outer : List Env) (s : Shared) (H : Hp) (E : XK), Room k (A.deeper (PyProof.Rows.envOfC qual (defScope st) s.heap.objs.size f cdv)) → SSs ((cxOf (CXE P w) P w K mg base N qual (defScope st) f cdv A outer s H E).wishX E) (defBody st) b)
    (hg : ∀ ds h Q X', g ds h Q X' → runX N.length b ds h Q X') : FnOk P w K mg base (CXE P w) (k + 1) f fd ps (spX K ps.length g) := by
  refine F.okX S (fun vs H Q E h => ?_) fun cdv A outer s H vs Q E hr h => ?_
  · obtain ⟨π, α, h, ds, Q', X', R, r, l, _⟩ := h
    rw [← r.length, l]
  · obtain ⟨π, α, h, ds, Q', X', R, r, l, q, kk, kx⟩ := h
    exact ⟨_, hb cdv A outer s H E hr, π, α, _, h, { nx := fun _ h' => Q' .non h', rt := Q', ex := X' }, R, relS_start r, hg ds h Q' X' q, ⟨fun _ h' α' H' σ' a b c _ => kk .non h' α' H' .non a b c .non, fun d h' α' H' v a b c d' => kk d h' α' H' v a b c d', fun _ _ _ _ _ a _ _ _ => a.elim, fun _ _ _ _ _ a _ _ _ => a.elim, fun cn fs h' α' H' C dx a b c d d2 => kx cn fs h' α' H' C dx a b c d d2⟩⟩
end DL
namespace CM
open PySem L2 DL
inductive GK where
  | step (t : List Int) | call (g : Int) (i b o : List Int)
structure GE where
  p : Int
  q : Int
  c : Int
  k : GK
noncomputable def zT (t : List Int) : D := .tup (t.map .int)
noncomputable def geD (e : GE) : D := match e.k with
  | .step t => .tup [.str "step", .int e.p, .int e.q, .int e.c, zT t]
  | .call g i b o => .tup [.str "call", .int e.p, .int e.q, .int e.c, .int g, zT i, zT b, zT o]
noncomputable def gT (t : List Nat) : List Int := t.map fun x : Nat => (x : Int)
noncomputable def gE (e : Edge) : GE := ⟨e.p, e.q, e.cost, match e.k with | .step t => .step (gT t) | .call g i b o => .call g (gT i) (gT b) (gT o)⟩
theorem zT_gT (t : List Nat) : zT (gT t) = tD t := by unfold zT gT tD; rw [List.map_map]; rfl
theorem geD_gE (e : Edge) : geD (gE e) = eD e := by
  obtain ⟨p, q, c, k⟩ := e
  cases k with
  | step t => show D.tup [_, _, _, _, zT (gT t)] = _; rw [zT_gT]; rfl
  | call g i b o => show D.tup [_, _, _, _, _, zT (gT i), zT (gT b), zT (gT o)] = _; rw [zT_gT, zT_gT, zT_gT]; rfl
noncomputable abbrev GF := (Int × Int) × List GE
noncomputable def szF (x : Int × Int) : Bool := decide (1 ≤ x.1 ∧ x.1 ≤ 10 ∧ 1 ≤ x.2 ∧ x.2 ≤ 6)
noncomputable def tF (t : List Int) (n m : Int) : Bool := ((t.length : Int) == n) && t.all fun x => decide (0 ≤ x ∧ x < 2 ^ m.toNat)
noncomputable def cF (ns : List Int) (n g : Int) (i b o : List Int) : Bool := if 0 ≤ g ∧ g < (ns.length : Int) then (tF i n (ns.getD g.toNat 0) && (tF b (ns.getD g.toNat 0) n && tF o n n)) else false
noncomputable def eF (ns : List Int) (x : Int × Int) (e : GE) : Bool := decide (0 ≤ e.p ∧ e.p < x.1 ∧ 0 ≤ e.q ∧ e.q < x.1 ∧ 1 ≤ e.c ∧ e.c ≤ 10 ^ 18) && match e.k with
  | .step t => tF t x.2 x.2
  | .call g i b o => cF ns x.2 g i b o
noncomputable def nsG (G : List GF) : List Int := G.map fun F => F.1.2
noncomputable def cnt (G : List GF) : Nat := (G.map fun F => F.2.length).sum
inductive Refu (G : List GF) : Int → Int → Prop
  | len : ¬ (1 ≤ G.length ∧ G.length ≤ 6) → Refu G (-1) (-1)
  | size {p r : List GF} {F : GF} : 1 ≤ G.length → G.length ≤ 6 → G = p ++ F :: r → (∀ F' ∈ p, szF F'.1 = true) → szF F.1 = false → Refu G p.length (-1)
  | edge {p r : List GF} {F : GF} {q s : List GE} {e : GE} : 1 ≤ G.length → G.length ≤ 6 → (∀ F' ∈ G, szF F'.1 = true) → G = p ++ F :: r → F.2 = q ++ e :: s → cnt p + q.length ≤ 24 → (∀ F' ∈ p, ∀ e' ∈ F'.2, eF (nsG G) F'.1 e' = true) → (∀ e' ∈ q, eF (nsG G) F.1 e' = true) →
      (cnt p + q.length = 24 ∨ eF (nsG G) F.1 e = false) → Refu G p.length q.length
structure Good (G : List GF) : Prop where
  one : 1 ≤ G.length
  six : G.length ≤ 6
  sz : ∀ F ∈ G, szF F.1 = true
  few : cnt G ≤ 24
  fit : ∀ F ∈ G, ∀ e ∈ F.2, eF (nsG G) F.1 e = true
noncomputable def GfD (h : Hh) (d : D) (F : GF) : Prop := ∃ e, d = .tup [.int F.1.1, .int F.1.2, e] ∧ lsOf h e = some (F.2.map geD)
noncomputable def GfDs (h : Hh) (xs : List D) (G : List GF) : Prop := xs.length = G.length ∧ ∀ (i : Nat) (d : D) (F : GF), xs[i]? = some d → G[i]? = some F → GfD h d F
noncomputable def GC (h : Hh) (d : D) (G : List GF) : Prop := ∃ xs, lsOf h d = some xs ∧ GfDs h xs G
theorem GfDs.len {h : Hh} {xs : List D} {G : List GF} (t : GfDs h xs G) : xs.length = G.length := t.1
theorem GfDs.of {h : Hh} {xs : List D} {G : List GF} (e : xs.length = G.length) (k : ∀ (i : Nat) (d : D) (F : GF), xs[i]? = some d → G[i]? = some F → GfD h d F) : GfDs h xs G := ⟨e, k⟩
theorem GfDs.get {h : Hh} {xs : List D} {G : List GF} (t : GfDs h xs G) {i : Nat} {F : GF} (e : G[i]? = some F) : ∃ d, xs[i]? = some d ∧ GfD h d F := by
  have hi : i < xs.length := by rw [t.1]; exact (List.getElem?_eq_some_iff.mp e).1
  exact ⟨xs[i], List.getElem?_eq_getElem hi, t.2 i _ F (List.getElem?_eq_getElem hi) e⟩
theorem GC.len {h : Hh} {d : D} {G : List GF} (c : GC h d G) : lenD h d = some G.length := by
  obtain ⟨xs, e, t⟩ := c
  rw [len_ls e, t.len]
theorem GC.get {h : Hh} {d : D} {G : List GF} (c : GC h d G) {i : Nat} {F : GF} (e : G[i]? = some F) : ∃ x, ixD h d (nD i) = some (.tup [.int F.1.1, .int F.1.2, x]) ∧ lsOf h x = some (F.2.map geD) := by
  obtain ⟨xs, e1, t⟩ := c
  obtain ⟨d', h1, x, rfl, h2⟩ := t.get e
  exact ⟨x, by rw [ix_ls e1, atN]; exact h1, h2⟩
theorem split_at {τ : Type} : ∀ {l : List τ} {i : Nat} {x : τ}, l[i]? = some x → l = l.take i ++ x :: l.drop (i + 1)
  | [], i, x, h => by simp at h
  | a :: l, 0, x, h => by simp at h; subst h; rfl
  | a :: l, i + 1, x, h => by
    have := split_at (l := l) (i := i) (x := x) (by simpa using h)
    show a :: l = a :: (l.take i ++ x :: l.drop (i + 1))
    rw [← this]
theorem take_in {τ : Type} {l : List τ} {i : Nat} {x : τ} (h : x ∈ l.take i) : ∃ j, j < i ∧ l[j]? = some x := by
  obtain ⟨j, hj, rfl⟩ := List.mem_iff_getElem.mp h
  rw [List.length_take] at hj
  exact ⟨j, by omega, by rw [List.getElem_take]; exact List.getElem?_eq_getElem (by omega)⟩
theorem zip_at {τ : Type} {l : List τ} {p : List (τ × Nat)} {y : τ} {i : Nat} {r : List (τ × Nat)} (e : l.zipIdx = p ++ (y, i) :: r) : l[p.length]? = some y ∧ i = p.length := by
  have : l.zipIdx[p.length]? = some (y, i) := by rw [e]; simp
  rw [List.getElem?_zipIdx] at this
  cases z : l[p.length]? with
  | none => rw [z] at this; cases this
  | some m' => rw [z] at this; cases this; exact ⟨rfl, by simp⟩
theorem cnt_app (p r : List GF) : cnt (p ++ r) = cnt p + cnt r := by unfold cnt; rw [List.map_append, List.sum_append]
theorem cnt_take {G : List GF} {i : Nat} {F : GF} (h : G[i]? = some F) : cnt (G.take (i + 1)) = cnt (G.take i) + F.2.length := by
  rw [List.take_add_one, h, cnt_app]; show _ + ([F.2.length].sum) = _; simp
theorem cnt_le {G : List GF} (i : Nat) : cnt (G.take i) ≤ cnt G := by
  have := cnt_app (G.take i) (G.drop i)
  rw [List.take_append_drop] at this
  omega
noncomputable def gF (F : Fn) : GF := ((F.places, F.facts), F.edges.map gE)
noncomputable def gC (C : Chart) : List GF := C.map gF
theorem ge_map (l : List Edge) : (l.map gE).map geD = l.map eD := by rw [List.map_map]; exact List.map_congr_left fun e _ => geD_gE e
theorem GC.of (h : Hh) (C : Chart) : GC h (cD C) (gC C) := by
  refine ⟨C.map fD, rfl, GfDs.of (by unfold gC; simp) fun i d F h1 h2 => ?_⟩
  unfold gC at h2
  rw [List.getElem?_map] at h1 h2
  cases q : C[i]? with
  | none => rw [q] at h1; cases h1
  | some F' =>
    rw [q] at h1 h2; cases h1; cases h2
    exact ⟨_, rfl, by show some (F'.edges.map eD) = some ((F'.edges.map gE).map geD); rw [ge_map]⟩
theorem tF_of {t : List Nat} {n m : Nat} (h : tOk t n m) : tF (gT t) n m = true := by
  obtain ⟨h1, h2⟩ := h
  unfold tF gT
  rw [List.length_map, h1, Bool.and_eq_true]
  refine ⟨beq_self_eq_true _, ?_⟩
  rw [List.all_map, List.all_eq_true]
  intro x hx
  have := h2 x hx
  refine decide_eq_true ⟨Int.natCast_nonneg x, ?_⟩
  rw [Int.toNat_natCast]
  have e : (2 : Int) ^ m = ((2 ^ m : Nat) : Int) := by simp
  rw [e]; exact Int.ofNat_lt.mpr this
theorem nsC_get {C : Chart} {g : Nat} {F : Fn} (h : C[g]? = some F) : (nsG (gC C)).getD g 0 = F.facts := by
  unfold nsG gC
  rw [List.map_map, List.getD_eq_getElem?_getD, List.getElem?_map, h]; rfl
theorem eF_of {C : Chart} {F : Fn} {e : Edge} (h : eOk C F e) : eF (nsG (gC C)) (gF F).1 (gE e) = true := by
  obtain ⟨h1, h2, h3, h4, h5⟩ := h
  obtain ⟨p, q, c, k⟩ := e
  dsimp only at h1 h2 h3 h4
  unfold eF
  rw [Bool.and_eq_true]
  refine ⟨decide_eq_true ⟨by show (0 : Int) ≤ (p : Int); omega, by show (p : Int) < (F.places : Int); omega, by show (0 : Int) ≤ (q : Int); omega, by show (q : Int) < (F.places : Int); omega, by show (1 : Int) ≤ (c : Int); omega, by show (c : Int) ≤ 10 ^ 18; omega⟩, ?_⟩
  cases k with
  | step t => exact tF_of h5
  | call g i b o =>
    obtain ⟨G, hG, t1, t2, t3⟩ := h5
    have hg : g < C.length := (List.getElem?_eq_some_iff.mp hG).1
    have ln : (nsG (gC C)).length = C.length := by unfold nsG gC; simp
    show cF _ _ _ _ _ _ = true
    unfold cF
    rw [if_pos ⟨by omega, by rw [ln]; omega⟩, Int.toNat_natCast, nsC_get hG, Bool.and_eq_true, Bool.and_eq_true]
    exact ⟨tF_of t1, tF_of t2, tF_of t3⟩
theorem sz_of {C : Chart} (wf : WF C) {f : Nat} {F : Fn} (h : C[f]? = some F) : szF (gF F).1 = true := by
  obtain ⟨h1, h2, h3, h4, _⟩ := wf.fn f F h
  exact decide_eq_true ⟨by show (1 : Int) ≤ (F.places : Int); omega, by show (F.places : Int) ≤ 10; omega, by show (1 : Int) ≤ (F.facts : Int); omega, by show (F.facts : Int) ≤ 6; omega⟩
theorem cnt_gC (C : Chart) : cnt (gC C) = many C := by
  unfold cnt gC many
  rw [List.map_map]
  exact congrArg List.sum (List.map_congr_left fun F _ => by show (F.edges.map gE).length = _; rw [List.length_map])
theorem good_of {C : Chart} (wf : WF C) (hm : many C ≤ 24) : Good (gC C) := by
  have ln : (gC C).length = C.length := by unfold gC; simp
  refine ⟨by rw [ln]; exact wf.one, by rw [ln]; exact wf.six, fun F hF => ?_, by rw [cnt_gC]; exact hm, fun F hF e he => ?_⟩
  · obtain ⟨F', hF', rfl⟩ := List.mem_map.mp hF
    obtain ⟨i, hi, rfl⟩ := List.mem_iff_getElem.mp hF'
    exact sz_of wf (List.getElem?_eq_getElem hi)
  · obtain ⟨F', hF', rfl⟩ := List.mem_map.mp hF
    obtain ⟨i, hi, rfl⟩ := List.mem_iff_getElem.mp hF'
    obtain ⟨e', he', rfl⟩ := List.mem_map.mp he
    exact eF_of ((wf.fn i _ (List.getElem?_eq_getElem hi)).2.2.2.2.2 e' he')
theorem app_at {τ : Type} {p r p' r' : List τ} {x x' : τ} (e : p ++ x :: r = p' ++ x' :: r') : x ∈ p' ∨ x' ∈ p ∨ p = p' ∧ x = x' ∧ r = r' := by
  rcases Nat.lt_trichotomy p.length p'.length with z | z | z
  · left
    have : (p' ++ x' :: r')[p.length]? = some x := by rw [← e]; simp
    rw [List.getElem?_append_left z] at this
    exact List.mem_of_getElem? this
  · obtain ⟨h1, h2⟩ := List.append_inj e z
    injection h2 with h3 h4
    exact .inr (.inr ⟨h1, h3, h4⟩)
  · right; left
    have : (p ++ x :: r)[p'.length]? = some x' := by rw [e]; simp
    rw [List.getElem?_append_left z] at this
    exact List.mem_of_getElem? this
theorem cnt_mem {p : List GF} {F : GF} (h : F ∈ p) : F.2.length ≤ cnt p := by
  obtain ⟨i, hi, rfl⟩ := List.mem_iff_getElem.mp h
  have h1 := cnt_take (List.getElem?_eq_getElem hi)
  have h2 := cnt_le (G := p) (i + 1)
  omega
theorem Refu.bad {G : List GF} {f k : Int} (h : Refu G f k) : ¬ Good G := fun g => by
  cases h with
  | len c => exact c ⟨g.one, g.six⟩
  | size _ _ e _ s =>
    rw [g.sz _ (by rw [e]; simp)] at s; cases s
  | @edge p r F q s e h1 h2 h3 h4 h5 h6 h7 h8 h9 =>
    have mF : F ∈ G := by rw [h4]; simp
    rcases h9 with z | z
    · have := g.few
      rw [h4, cnt_app] at this
      have : F.2.length ≤ cnt (F :: r) := cnt_mem List.mem_cons_self
      rw [h5, List.length_append, List.length_cons] at this
      omega
    · rw [g.fit F mF e (by rw [h5]; simp)] at z; cases z
theorem cnt_mem2 {p : List GF} {F : GF} {p' r' : List GF} (e : p = p' ++ F :: r') : cnt p' + F.2.length ≤ cnt p := by
  rw [e, cnt_app]
  have : F.2.length ≤ cnt (F :: r') := cnt_mem List.mem_cons_self
  omega
theorem edge_lt {ns : List Int} {G p r p' r' : List GF} {F F' : GF} {q s : List GE} {e : GE} (h4 : G = p ++ F :: r) (h5 : F.2 = q ++ e :: s) (h9 : cnt p + q.length = 24 ∨ eF ns F.1 e = false) (h4' : G = p' ++ F' :: r') (h6' : cnt p' ≤ 24) (h7' : ∀ F' ∈ p', ∀ e' ∈ F'.2, eF ns F'.1 e' = true) : ¬ p.length < p'.length := fun z => by
  have ee : p ++ F :: r = p' ++ F' :: r' := h4.symm.trans h4'
  have hF : p'[p.length]? = some F := by
    have : (p' ++ F' :: r')[p.length]? = some F := by rw [← ee]; simp
    rw [List.getElem?_append_left z] at this; exact this
  have tk : p'.take p.length = p := by
    have : (p' ++ F' :: r').take p.length = p := by rw [← ee]; simp
    rw [List.take_append_of_le_length (by omega)] at this; exact this
  rcases h9 with c | c
  · have := cnt_mem2 (split_at hF)
    rw [tk, h5, List.length_append, List.length_cons] at this
    omega
  · rw [h7' F (List.mem_of_getElem? hF) e (by rw [h5]; simp)] at c; cases c
theorem Refu.one {G : List GF} {f k f' k' : Int} (h : Refu G f k) (h' : Refu G f' k') : f = f' ∧ k = k' := by
  cases h with
  | len c =>
    cases h' with
    | len _ => exact ⟨rfl, rfl⟩
    | size a b => exact absurd ⟨a, b⟩ c
    | edge a b => exact absurd ⟨a, b⟩ c
  | @size p r F a b e s1 s2 =>
    cases h' with
    | len c => exact absurd ⟨a, b⟩ c
    | @size p' r' F' a' b' e' s1' s2' =>
      rcases app_at (e.symm.trans e') with z | z | ⟨z, _, _⟩
      · rw [s1' F z] at s2; cases s2
      · rw [s1 F' z] at s2'; cases s2'
      · exact ⟨by rw [z], rfl⟩
    | edge _ _ s => rw [s F (by rw [e]; simp)] at s2; cases s2
  | @edge p r F q s e h1 h2 h3 h4 h5 h6 h7 h8 h9 =>
    cases h' with
    | len c => exact absurd ⟨h1, h2⟩ c
    | @size p' r' F' a' b' e' s1' s2' => rw [h3 F' (by rw [e']; simp)] at s2'; cases s2'
    | @edge p' r' F' q' s' e' h1' h2' h3' h4' h5' h6' h7' h8' h9' =>
      have n1 := edge_lt h4 h5 h9 h4' (by omega) h7'
      have n2 := edge_lt h4' h5' h9' h4 (by omega) h7
      obtain ⟨z1, z2⟩ := List.append_inj (h4.symm.trans h4') (by omega)
      injection z2 with z3 z4
      subst z1
      subst z3
      refine ⟨rfl, ?_⟩
      rcases Nat.lt_trichotomy q.length q'.length with z | z | z
      · have : (q' ++ e' :: s')[q.length]? = some e := by rw [← h5', h5]; simp
        rw [List.getElem?_append_left z] at this
        rcases h9 with c | c
        · omega
        · rw [h8' e (List.mem_of_getElem? this)] at c; cases c
      · rw [z]
      · have : (q ++ e :: s)[q'.length]? = some e' := by rw [← h5, h5']; simp
        rw [List.getElem?_append_left z] at this
        rcases h9' with c | c
        · omega
        · rw [h8 e' (List.mem_of_getElem? this)] at c; cases c
theorem cut_take {xs : List D} (k : Nat) : cutD xs none (some (k : Int)) = xs.take k := by
  unfold cutD
  rw [HT.sIx_none, HT.sIx_nat, List.drop_zero, Nat.sub_zero, ← List.take_eq_take_min]
theorem cut_drop {xs : List D} (k : Nat) : cutD xs (some (k : Int)) none = xs.drop k := by
  unfold cutD
  rw [HT.sIx_none, HT.sIx_nat, List.take_of_length_le (by rw [List.length_drop]; exact Nat.le_refl _)]
  rcases Nat.le_total k xs.length with z | z
  · rw [Nat.min_eq_left z]
  · rw [Nat.min_eq_right z, List.drop_of_length_le z, List.drop_of_length_le (Nat.le_refl _)]
noncomputable def gwK : GK → Str | .step _ => "step" | .call _ _ _ _ => "call"
noncomputable def geR : GK → List D | .step t => [zT t] | .call g i b o => [.int g, zT i, zT b, zT o]
theorem geD_eq (p q c : Int) (k : GK) : geD ⟨p, q, c, k⟩ = .tup (.str (gwK k) :: .int p :: .int q :: .int c :: geR k) := by cases k <;> rfl
theorem eF_k {ns : List Int} {x : Int × Int} {p q c : Int} {k : GK} (h : ¬ (0 ≤ p ∧ p < x.1 ∧ 0 ≤ q ∧ q < x.1 ∧ 1 ≤ c ∧ c ≤ 10 ^ 18)) : eF ns x ⟨p, q, c, k⟩ = false := by
  unfold eF
  rw [decide_eq_false h]; rfl
theorem eF_t {ns : List Int} {x : Int × Int} {p q c : Int} {t : List Int} (h : tF t x.2 x.2 = false) : eF ns x ⟨p, q, c, .step t⟩ = false := by
  show (_ && tF t x.2 x.2) = false
  rw [h, Bool.and_false]
theorem eF_c {ns : List Int} {x : Int × Int} {p q c g : Int} {i b o : List Int} (h : cF ns x.2 g i b o = false) : eF ns x ⟨p, q, c, .call g i b o⟩ = false := by
  show (_ && cF ns x.2 g i b o) = false
  rw [h, Bool.and_false]
theorem tF_len {t : List Int} {n m : Int} (h : (t.length : Int) ≠ n) : tF t n m = false := by
  unfold tF
  rw [show ((t.length : Int) == n) = false from Bool.eq_false_iff.mpr fun z => h (eq_of_beq z)]; rfl
theorem tF_mem {t : List Int} {n m x : Int} (hx : x ∈ t) (h : ¬ (0 ≤ x ∧ x < 2 ^ m.toNat)) : tF t n m = false := by
  unfold tF
  have : (t.all fun x => decide (0 ≤ x ∧ x < 2 ^ m.toNat)) = false := by
    rw [Bool.eq_false_iff]
    intro z
    exact h (of_decide_eq_true (List.all_eq_true.mp z x hx))
  rw [this, Bool.and_false]
noncomputable def geO (l : List GE) : O := .lst (l.map geD)
noncomputable def hdD (b : Nat) (hs : List (Int × Int)) : List D := hs.zipIdx.map fun x => .tup [.int x.1.1, .int x.1.2, .ref (b + x.2)]
noncomputable def trG (b : Nat) (G : List GF) : Hh := (G.map fun F => geO F.2) ++ [.lst (hdD b (G.map (·.1)))]
section
variable {h : Hh} {G : List GF} {b : Nat}
theorem hdD_get {hs : List (Int × Int)} {i : Nat} {x : Int × Int} (e : hs[i]? = some x) : (hdD b hs)[i]? = some (.tup [.int x.1, .int x.2, .ref (b + i)]) := by
  unfold hdD
  rw [List.getElem?_map, List.getElem?_zipIdx, e]; simp
theorem hdD_len {hs : List (Int × Int)} : (hdD b hs).length = hs.length := by unfold hdD; simp
theorem hdD_set {hs : List (Int × Int)} {i : Nat} {x : Int × Int} : (hdD b hs).set i (.tup [.int x.1, .int x.2, .ref (b + i)]) = hdD b (hs.set i x) := by
  apply List.ext_getElem?
  intro j
  unfold hdD
  rw [List.getElem?_set, List.getElem?_map, List.getElem?_map, List.getElem?_zipIdx, List.getElem?_zipIdx, List.getElem?_set]
  simp only [List.length_map, List.length_zipIdx]
  by_cases c : i = j
  · subst c
    by_cases z : i < hs.length <;> simp [z]
  · simp [c]
theorem trG_es {i : Nat} {F : GF} (e : G[i]? = some F) : (h ++ trG b G)[h.length + i]? = some (geO F.2) := by
  have hi := (List.getElem?_eq_some_iff.mp e).1
  unfold trG
  rw [List.getElem?_append_right (by omega), show h.length + i - h.length = i by omega, List.getElem?_append_left (by simpa using hi), List.getElem?_map, e]; rfl
theorem trG_hd : (h ++ trG b G)[h.length + G.length]? = some (.lst (hdD b (G.map (·.1)))) := by
  unfold trG
  rw [List.getElem?_append_right (by omega), show h.length + G.length - h.length = G.length by omega, List.getElem?_append_right (by simp)]; simp
theorem trG_setE {i : Nat} {F : GF} {l : List GE} (e : G[i]? = some F) : (h ++ trG b G).set (h.length + i) (geO l) = h ++ trG b (G.set i (F.1, l)) := by
  have hi := (List.getElem?_eq_some_iff.mp e).1
  unfold trG
  rw [List.set_append_right _ _ (by omega), show h.length + i - h.length = i by omega, List.set_append_left _ _ (by simpa using hi), List.map_set, List.map_set]
  have : (G.map (·.1)).set i F.1 = G.map (·.1) := by
    apply List.ext_getElem?
    intro j
    rw [List.getElem?_set]
    by_cases c : i = j
    · subst c; rw [if_pos rfl, List.getElem?_map, e]; simp [hi]
    · simp [c]
  rw [this]
theorem trG_setH {i : Nat} {F : GF} {x : Int × Int} (e : G[i]? = some F) : (h ++ trG b G).set (h.length + G.length) (.lst ((hdD b (G.map (·.1))).set i (.tup [.int x.1, .int x.2, .ref (b + i)]))) = h ++ trG b (G.set i (x, F.2)) := by
  have hi := (List.getElem?_eq_some_iff.mp e).1
  unfold trG
  rw [List.set_append_right _ _ (by omega), show h.length + G.length - h.length = G.length by omega, List.set_append_right _ _ (by simp), hdD_set, List.map_set, List.map_set]
  have : (G.map fun F => geO F.2).set i (geO F.2) = G.map fun F => geO F.2 := by
    apply List.ext_getElem?
    intro j
    rw [List.getElem?_set]
    by_cases c : i = j
    · subst c; rw [if_pos rfl, List.getElem?_map, e]; simp [hi]
    · simp [c]
  rw [this]; simp
theorem trG_GC (hb : b = h.length) : GC (h ++ trG b G) (.ref (h.length + G.length)) G := by
  refine ⟨_, lsOf_ref trG_hd, GfDs.of (by rw [hdD_len]; simp) fun i d F h1 h2 => ?_⟩
  rw [hdD_get (x := F.1) (by rw [List.getElem?_map, h2]; rfl)] at h1
  cases h1
  exact ⟨_, rfl, lsOf_ref (by rw [hb]; exact trG_es h2)⟩
end
structure Sp (C : Chart) (G : List GF) (ps : List ZP) : Prop where
  len : G.length = C.length
  fn : ∀ (f : Nat) (F : Fn), C[f]? = some F → ∃ g, G[f]? = some g ∧ g.2.length = F.edges.length ∧ (((f : Int), (-1 : Int)) ∈ ps → szF g.1 = false) ∧ (((f : Int), (-1 : Int)) ∉ ps → g.1 = (gF F).1) ∧
    ∀ (k : Nat) (e : Edge), F.edges[k]? = some e → ∃ e', g.2[k]? = some e' ∧ (((f : Int), (k : Int)) ∈ ps → eF (nsG (gC C)) (gF F).1 e' = false) ∧ (((f : Int), (k : Int)) ∉ ps → e' = gE e)
  at' : ∀ p ∈ ps, ∃ (f : Nat) (F : Fn), C[f]? = some F ∧ p.1 = f ∧ (p.2 = -1 ∨ ∃ (k : Nat) (e : Edge), F.edges[k]? = some e ∧ p.2 = k)
theorem Sp.nil (C : Chart) : Sp C (gC C) [] := by
  refine ⟨by unfold gC; simp, fun f F hF => ⟨gF F, by unfold gC; rw [List.getElem?_map, hF]; rfl, by unfold gF; simp, fun z => (nomatch z), fun _ => rfl, fun k e he => ⟨gE e, by unfold gF; rw [List.getElem?_map, he]; rfl, fun z => (nomatch z), fun _ => rfl⟩⟩, fun p hp => nomatch hp⟩
theorem Sp.size {C : Chart} {G : List GF} {ps : List ZP} (s : Sp C G ps) {f : Nat} {F : Fn} {g : GF} {x : Int × Int} (hF : C[f]? = some F) (hg : G[f]? = some g) (hx : szF x = false) : Sp C (G.set f (x, g.2)) (ps ++ [((f : Int), (-1 : Int))]) := by
  refine ⟨by rw [List.length_set]; exact s.len, fun f' F' hF' => ?_, fun p hp => ?_⟩
  · obtain ⟨g', h1, h2, h3, h4, h5⟩ := s.fn f' F' hF'
    have pk : ∀ k : Nat, (((f' : Int), (k : Int)) ∈ ps ++ [((f : Int), (-1 : Int))] ↔ ((f' : Int), (k : Int)) ∈ ps) := fun k => by
      rw [List.mem_append, List.mem_singleton]
      exact ⟨fun z => z.resolve_right fun e => by injection e with _ e; omega, .inl⟩
    by_cases c : f = f'
    · subst c
      rw [hg] at h1; cases h1
      refine ⟨(x, g.2), by rw [List.getElem?_set_self (List.getElem?_eq_some_iff.mp hg).1], h2, fun _ => hx, fun z => absurd (List.mem_append_right _ (List.mem_singleton.mpr rfl)) z, fun k e he => ?_⟩
      obtain ⟨e', a1, a2, a3⟩ := h5 k e he
      exact ⟨e', a1, fun z => a2 ((pk k).mp z), fun z => a3 fun y => z ((pk k).mpr y)⟩
    · have p1 : ((f' : Int), (-1 : Int)) ∈ ps ++ [((f : Int), (-1 : Int))] ↔ ((f' : Int), (-1 : Int)) ∈ ps := by
        rw [List.mem_append, List.mem_singleton]
        exact ⟨fun z => z.resolve_right fun e => by injection e with e _; omega, .inl⟩
      refine ⟨g', by rw [List.getElem?_set_ne c]; exact h1, h2, fun z => h3 (p1.mp z), fun z => h4 fun y => z (p1.mpr y), fun k e he => ?_⟩
      obtain ⟨e', a1, a2, a3⟩ := h5 k e he
      exact ⟨e', a1, fun z => a2 ((pk k).mp z), fun z => a3 fun y => z ((pk k).mpr y)⟩
  · rcases List.mem_append.mp hp with z | z
    · exact s.at' p z
    · rw [List.mem_singleton.mp z]; exact ⟨f, F, hF, rfl, .inl rfl⟩
theorem Sp.edge {C : Chart} {G : List GF} {ps : List ZP} (s : Sp C G ps) {f k : Nat} {F : Fn} {g : GF} {e : Edge} {e' : GE} (hF : C[f]? = some F) (hg : G[f]? = some g) (he : F.edges[k]? = some e) (hx : eF (nsG (gC C)) (gF F).1 e' = false) : Sp C (G.set f (g.1, g.2.set k e')) (ps ++ [((f : Int), (k : Int))]) := by
  have pm : ∀ f' : Nat, ((f' : Int), (-1 : Int)) ∈ ps ++ [((f : Int), (k : Int))] ↔ ((f' : Int), (-1 : Int)) ∈ ps := fun f' => by
    rw [List.mem_append, List.mem_singleton]
    exact ⟨fun z => z.resolve_right fun e => by injection e with _ e; omega, .inl⟩
  have pk : ∀ f' k' : Nat, ¬ (f = f' ∧ k = k') → (((f' : Int), (k' : Int)) ∈ ps ++ [((f : Int), (k : Int))] ↔ ((f' : Int), (k' : Int)) ∈ ps) := fun f' k' c => by
    rw [List.mem_append, List.mem_singleton]
    exact ⟨fun z => z.resolve_right fun e => by injection e with e1 e2; exact c ⟨by omega, by omega⟩, .inl⟩
  refine ⟨by rw [List.length_set]; exact s.len, fun f' F' hF' => ?_, fun p hp => ?_⟩
  · obtain ⟨g', h1, h2, h3, h4, h5⟩ := s.fn f' F' hF'
    by_cases c : f = f'
    · subst c
      rw [hg] at h1; cases h1
      rw [hF] at hF'; cases hF'
      refine ⟨(g.1, g.2.set k e'), by rw [List.getElem?_set_self (List.getElem?_eq_some_iff.mp hg).1], by rw [List.length_set]; exact h2, fun z => h3 ((pm f).mp z), fun z => h4 fun y => z ((pm f).mpr y), fun k' e1 he1 => ?_⟩
      obtain ⟨e2, a1, a2, a3⟩ := h5 k' e1 he1
      by_cases c2 : k = k'
      · subst c2
        exact ⟨e', List.getElem?_set_self (List.getElem?_eq_some_iff.mp a1).1, fun _ => hx, fun z => absurd (List.mem_append_right _ (List.mem_singleton.mpr rfl)) z⟩
      · exact ⟨e2, by rw [List.getElem?_set_ne c2]; exact a1, fun z => a2 ((pk f k' fun y => c2 y.2).mp z), fun z => a3 fun y => z ((pk f k' fun y => c2 y.2).mpr y)⟩
    · refine ⟨g', by rw [List.getElem?_set_ne c]; exact h1, h2, fun z => h3 ((pm f').mp z), fun z => h4 fun y => z ((pm f').mpr y), fun k' e1 he1 => ?_⟩
      obtain ⟨e2, a1, a2, a3⟩ := h5 k' e1 he1
      exact ⟨e2, a1, fun z => a2 ((pk f' k' fun y => c y.1).mp z), fun z => a3 fun y => z ((pk f' k' fun y => c y.1).mpr y)⟩
  · rcases List.mem_append.mp hp with z | z
    · exact s.at' p z
    · rw [List.mem_singleton.mp z]; exact ⟨f, F, hF, rfl, .inr ⟨k, e, he, rfl⟩⟩
theorem Sp.sizes {C : Chart} {G : List GF} {ps : List ZP} (s : Sp C G ps) (wf : WF C) {f : Nat} (h1 : ((f : Int), (-1 : Int)) ∈ ps) (h2 : ∀ f' : Nat, ((f' : Int), (-1 : Int)) ∈ ps → f ≤ f') : Refu G f (-1) := by
  obtain ⟨f', F, hF, e, _⟩ := s.at' _ h1
  have e : (f : Int) = f' := e
  obtain rfl : f = f' := by omega
  obtain ⟨g, hg, _, a3, _⟩ := s.fn f F hF
  have hl : f < G.length := (List.getElem?_eq_some_iff.mp hg).1
  have := Refu.size (G := G) (by rw [s.len]; exact wf.one) (by rw [s.len]; exact wf.six) (split_at hg) (fun F' hF' => ?_) (a3 h1)
  · rw [List.length_take, Nat.min_eq_left (by omega)] at this; exact this
  · obtain ⟨j, hj, e9⟩ := take_in hF'
    have jl : j < C.length := by rw [← s.len]; omega
    obtain ⟨g', b1, _, _, b4, _⟩ := s.fn j _ (List.getElem?_eq_getElem jl)
    rw [e9] at b1; cases b1
    rw [b4 fun z => by have := h2 j z; omega]
    exact sz_of wf (List.getElem?_eq_getElem jl)
theorem Sp.edges {C : Chart} {G : List GF} {ps : List ZP} (s : Sp C G ps) (wf : WF C) (hm : many C ≤ 24) (h0 : ∀ p ∈ ps, p.2 ≠ -1) {p : ZP} (h1 : p ∈ ps) (h2 : ∀ p' ∈ ps, ¬ ltZ p' p) : Refu G p.1 p.2 := by
  obtain ⟨f, F, hF, e1, h3⟩ := s.at' _ h1
  obtain ⟨k, e, he, e2⟩ := h3.resolve_left (h0 p h1)
  obtain ⟨p1, p2⟩ := p
  cases e1
  cases e2
  obtain ⟨g, hg, a2, _, a4, a5⟩ := s.fn f F hF
  obtain ⟨e', he', b2, _⟩ := a5 k e he
  have hl : f < G.length := (List.getElem?_eq_some_iff.mp hg).1
  have kl : k < g.2.length := (List.getElem?_eq_some_iff.mp he').1
  have all : ∀ (i : Nat) (g : GF), G[i]? = some g → ∃ F, C[i]? = some F ∧ g.1 = (gF F).1 ∧ g.2.length = F.edges.length := fun i g' hg' => by
    have il : i < C.length := by rw [← s.len]; exact (List.getElem?_eq_some_iff.mp hg').1
    obtain ⟨g2, b1, b2, _, b4, _⟩ := s.fn i _ (List.getElem?_eq_getElem il)
    rw [hg'] at b1; cases b1
    exact ⟨_, List.getElem?_eq_getElem il, b4 fun z => h0 _ z rfl, b2⟩
  have ns : nsG G = nsG (gC C) := by
    apply List.ext_getElem?
    intro i
    unfold nsG gC
    rw [List.map_map, List.getElem?_map, List.getElem?_map]
    cases z : G[i]? with
    | none =>
      rw [List.getElem?_eq_none (by rw [← s.len]; exact List.getElem?_eq_none_iff.mp z)]; rfl
    | some g' =>
      obtain ⟨F', c1, c2, _⟩ := all i g' z
      rw [c1]
      show some g'.1.2 = some _
      rw [c2]; rfl
  have cn : cnt G = many C := by
    unfold cnt many
    congr 1
    apply List.ext_getElem?
    intro i
    rw [List.getElem?_map, List.getElem?_map]
    cases z : G[i]? with
    | none => rw [List.getElem?_eq_none (by rw [← s.len]; exact List.getElem?_eq_none_iff.mp z)]; rfl
    | some g' =>
      obtain ⟨F', c1, _, c3⟩ := all i g' z
      rw [c1]
      exact congrArg some c3
  have before : ∀ (f' k' : Nat) (g' : GF) (e9 : GE), G[f']? = some g' → g'.2[k']? = some e9 → (f' < f ∨ f' = f ∧ k' < k) → eF (nsG G) g'.1 e9 = true := fun f' k' g' e9 hg' he9 lt => by
    have il : f' < C.length := by rw [← s.len]; exact (List.getElem?_eq_some_iff.mp hg').1
    obtain ⟨g2, b1, b2, _, b4, b5⟩ := s.fn f' _ (List.getElem?_eq_getElem il)
    rw [hg'] at b1; cases b1
    have kl' : k' < (C[f']).edges.length := by rw [← b2]; exact (List.getElem?_eq_some_iff.mp he9).1
    obtain ⟨e3, d1, _, d3⟩ := b5 k' _ (List.getElem?_eq_getElem kl')
    rw [he9] at d1; cases d1
    have nin : ((f' : Int), (k' : Int)) ∉ ps := fun z => h2 _ z (by unfold ltZ; show (f' : Int) < f ∨ (f' : Int) = f ∧ (k' : Int) < k; omega)
    rw [d3 nin, ns, b4 fun z => h0 _ z rfl]
    exact eF_of ((wf.fn f' _ (List.getElem?_eq_getElem il)).2.2.2.2.2 _ (List.getElem_mem kl'))
  have tl : (G.take f).length = f := by rw [List.length_take]; omega
  have tl2 : (g.2.take k).length = k := by rw [List.length_take]; omega
  have le24 : cnt (G.take f) + k ≤ 24 := by
    have := cnt_take hg
    have := cnt_le (G := G) (f + 1)
    omega
  have := Refu.edge (G := G) (by rw [s.len]; exact wf.one) (by rw [s.len]; exact wf.six) (fun F' hF' => ?_) (split_at hg) (split_at he') (by rw [tl2]; exact le24) (fun F' hF' e9 he9 => ?_) (fun e9 he9 => ?_) (.inr (by rw [ns, a4 fun z => h0 _ z rfl]; exact b2 h1))
  · rw [tl, tl2] at this; exact this
  · obtain ⟨i, hi, rfl⟩ := List.mem_iff_getElem.mp hF'
    obtain ⟨F9, c1, c2, _⟩ := all i _ (List.getElem?_eq_getElem hi)
    rw [c2]; exact sz_of wf c1
  · obtain ⟨j, hj, c1⟩ := take_in hF'
    obtain ⟨k', hk', rfl⟩ := List.mem_iff_getElem.mp he9
    exact before j k' F' _ c1 (List.getElem?_eq_getElem hk') (.inl hj)
  · obtain ⟨k', hk', c1⟩ := take_in he9
    exact before f k' g _ hg c1 (.inr ⟨rfl, hk'⟩)
noncomputable def zP (p : ZP) : PyData := .tuple [.int p.1, .int p.2]
noncomputable def zTP (t : List Int) : PyData := .tuple (t.map .int)
noncomputable def geP (e : GE) : PyData := match e.k with
  | .step t => .tuple [.str "step", .int e.p, .int e.q, .int e.c, zTP t]
  | .call g i b o => .tuple [.str "call", .int e.p, .int e.q, .int e.c, .int g, zTP i, zTP b, zTP o]
theorem pd_z (h : Hh) (p : ZP) : Pd h (zD p) (zP p) 1 := .tup (.cons (.int _) (.cons (.int _) .nil))
theorem pd_zT (h : Hh) (t : List Int) : Pd h (zT t) (zTP t) 1 := Pd.tup (n := 0) (Pds.map fun x => .int _)
theorem pd_ge (h : Hh) (e : GE) : Pd h (geD e) (geP e) 2 := by
  unfold geD geP
  cases e.k with
  | step t => exact .tup (.cons (.str sk_step) (.cons (.int _) (.cons (.int _) (.cons (.int _) (.cons (pd_zT h t) .nil)))))
  | call g i b o => exact .tup (.cons (.str sk_call) (.cons (.int _) (.cons (.int _) (.cons (.int _) (.cons (.int _) (.cons (pd_zT h i) (.cons (pd_zT h b) (.cons (pd_zT h o) .nil))))))))
theorem zP_eqv (p q : ZP) : PyData.eqv (zP p) (zP q) = decide (q = p) := by
  obtain ⟨a, b⟩ := p
  obtain ⟨c, d⟩ := q
  show ((a == c) && ((b == d) && true)) = _
  rw [Bool.eq_iff_iff, decide_eq_true_iff, Bool.and_eq_true, Bool.and_eq_true]
  constructor
  · rintro ⟨h1, h2, _⟩
    rw [eq_of_beq h1, eq_of_beq h2]
  · intro h
    injection h with h1 h2
    subst h1; subst h2
    exact ⟨beq_self_eq_true _, beq_self_eq_true _, rfl⟩
theorem nin_sp {h : Hh} {Q : DK} {p : ZP} {j : Nat} {C : Chart} {ps : List ZP} (e : h[j]? = some (.lst (cD C :: ps.map zD))) (q : Q (.bl (!decide (p ∈ ps))) h) : pNinS (zD p) (.ref j) h Q := by
  have a : Pds h (cD C :: ps.map zD) (.list (C.map fP) :: ps.map zP) 5 := .cons (pd_c h C) (Pds.map fun x => (pd_z h x).up (by decide))
  refine ⟨zP p, _, (pd_z h p).1, .ref e a.1, rfl, a.2.1, Nat.le_trans (pd_z h p).2.2 (by decide), ?_⟩
  have : (PyData.list (C.map fP) :: ps.map zP).any (fun a => PyData.eqv a (zP p)) = decide (p ∈ ps) := by
    rw [List.any_cons, show PyData.eqv (.list (C.map fP)) (zP p) = false from rfl, Bool.false_or, Bool.eq_iff_iff, List.any_map, List.any_eq_true, decide_eq_true_iff]
    constructor
    · rintro ⟨x, hx, z⟩
      rw [Function.comp, zP_eqv, decide_eq_true_iff] at z
      rw [z]; exact hx
    · intro hp
      exact ⟨p, hp, by rw [Function.comp, zP_eqv]; exact decide_eq_true rfl⟩
  rw [this]; exact q
noncomputable def zer (n : Nat) : List Int := List.replicate n 0
noncomputable def eOne (n : Nat) : GE := ⟨0, 0, 1, .step (zer n)⟩
noncomputable def eWr (n : Nat) : GE := ⟨0, 0, 0, .step (zer n)⟩
theorem zer_D (n : Nat) : (List.replicate n [D.int 0]).flatten = (zer n).map D.int := by unfold zer; rw [List.map_replicate]; simp
theorem eWr_bad {ns : List Int} {x : Int × Int} {n : Nat} : eF ns x (eWr n) = false := eF_k fun z => absurd z.2.2.2.2.1 (by decide)
theorem eOne_fit {ns : List Int} {C : Chart} (wf : WF C) {f : Nat} {F : Fn} (hF : C[f]? = some F) : eF ns (gF F).1 (eOne F.facts) = true := by
  obtain ⟨h1, h2, h3, h4, _⟩ := wf.fn f F hF
  unfold eF eOne
  rw [Bool.and_eq_true]
  refine ⟨decide_eq_true ⟨Int.le_refl 0, by show (0 : Int) < (F.places : Int); omega, Int.le_refl 0, by show (0 : Int) < (F.places : Int); omega, Int.le_refl 1, show (1 : Int) ≤ 10 ^ 18 by decide⟩, ?_⟩
  show tF (zer F.facts) (F.facts : Int) (F.facts : Int) = true
  unfold tF zer
  rw [List.length_replicate, Bool.and_eq_true]
  refine ⟨beq_self_eq_true _, List.all_eq_true.mpr fun x hx => ?_⟩
  rw [List.eq_of_mem_replicate hx]
  exact decide_eq_true ⟨by decide, Int.pow_pos (by decide)⟩
structure Full (C : Chart) (G : List GF) (w : GE) : Prop where
  hd : G.map (·.1) = (gC C).map (·.1)
  fit : ∀ g ∈ G, ∀ e ∈ g.2, e = w ∨ eF (nsG (gC C)) g.1 e = true
theorem Full.len {C : Chart} {G : List GF} {w : GE} (a : Full C G w) : G.length = C.length := by
  have := congrArg List.length a.hd
  rw [List.length_map, List.length_map] at this
  rw [this]; unfold gC; simp
theorem Full.ns {C : Chart} {G : List GF} {w : GE} (a : Full C G w) : nsG G = nsG (gC C) := by
  have := congrArg (List.map fun x : Int × Int => x.2) a.hd
  rw [List.map_map, List.map_map] at this
  exact this
theorem Full.sz {C : Chart} {G : List GF} {w : GE} (a : Full C G w) (wf : WF C) {g : GF} (hg : g ∈ G) : szF g.1 = true := by
  have : g.1 ∈ (gC C).map (·.1) := by rw [← a.hd]; exact List.mem_map.mpr ⟨g, hg, rfl⟩
  obtain ⟨F, hF, e⟩ := List.mem_map.mp this
  obtain ⟨F', hF', rfl⟩ := List.mem_map.mp hF
  obtain ⟨i, hi, rfl⟩ := List.mem_iff_getElem.mp hF'
  rw [← e]
  exact sz_of wf (List.getElem?_eq_getElem hi)
theorem Full.size {C : Chart} {G : List GF} {w : GE} (a : Full C G w) (wf : WF C) {f : Nat} {g : GF} (hg : G[f]? = some g) : Refu (G.set f ((0, g.1.2), g.2)) f (-1) := by
  have hl : f < G.length := (List.getElem?_eq_some_iff.mp hg).1
  have hs : (G.set f ((0, g.1.2), g.2))[f]? = some ((0, g.1.2), g.2) := List.getElem?_set_self hl
  have := Refu.size (G := G.set f ((0, g.1.2), g.2)) (by rw [List.length_set, a.len]; exact wf.one) (by rw [List.length_set, a.len]; exact wf.six) (split_at hs) (fun F' hF' => ?_) rfl
  · rw [List.length_take, List.length_set, Nat.min_eq_left (by omega)] at this; exact this
  · obtain ⟨j, hj, e⟩ := take_in hF'
    rw [List.getElem?_set_ne (by omega)] at e
    exact a.sz wf (List.mem_of_getElem? e)
theorem Full.edge {C : Chart} {G : List GF} {n : Nat} (a : Full C G (eWr n)) (wf : WF C) {f k : Nat} {g : GF} {e : GE} (hg : G[f]? = some g) (he : g.2[k]? = some e) (h24 : cnt (G.take f) + k ≤ 24) (h1 : ∀ (i : Nat) (g' : GF), G[i]? = some g' → i < f → ∀ e' ∈ g'.2, e' ≠ eWr n) (h2 : ∀ (i : Nat) (e' : GE), g.2[i]? = some e' → i < k → e' ≠ eWr n) (h3 : cnt (G.take f) + k = 24 ∨ e = eWr n) : Refu G f k := by
  have hl : f < G.length := (List.getElem?_eq_some_iff.mp hg).1
  have kl : k < g.2.length := (List.getElem?_eq_some_iff.mp he).1
  have tl : (G.take f).length = f := by rw [List.length_take]; omega
  have tl2 : (g.2.take k).length = k := by rw [List.length_take]; omega
  have := Refu.edge (G := G) (by rw [a.len]; exact wf.one) (by rw [a.len]; exact wf.six) (fun F' hF' => a.sz wf hF') (split_at hg) (split_at he) (by rw [tl2]; exact h24) (fun F' hF' e9 he9 => ?_) (fun e9 he9 => ?_) (by rw [tl2]; exact h3.imp_right fun z => by rw [z]; exact eWr_bad)
  · rw [tl, tl2] at this; exact this
  · obtain ⟨j, hj, c1⟩ := take_in hF'
    rw [a.ns]
    exact (a.fit F' (List.mem_of_getElem? c1) e9 he9).resolve_left (h1 j F' c1 hj e9 he9)
  · obtain ⟨k', hk', c1⟩ := take_in he9
    rw [a.ns]
    exact (a.fit g (List.mem_of_getElem? hg) e9 (List.mem_of_getElem? c1)).resolve_left (h2 k' e9 c1 hk')
theorem full_of {C : Chart} {F : Fn} {n : Nat} {es : List GE} (wf : WF (F :: C)) (hm : many (F :: C) ≤ 24) (h : ∀ e ∈ es, e = eWr n ∨ eF (nsG (gC (F :: C))) (gF F).1 e = true) : Full (F :: C) (((gF F).1, es) :: gC C) (eWr n) := by
  refine ⟨rfl, fun g hg e he => ?_⟩
  rcases List.mem_cons.mp hg with rfl | hg
  · exact h e he
  · exact .inr ((good_of wf hm).fit g (List.mem_cons_of_mem _ hg) e he)
theorem geP_ne {n : Nat} {e : GE} (h : 1 ≤ e.c) : PyData.eqv (geP e) (geP (eWr n)) = false := by
  obtain ⟨p, q, c, k⟩ := e
  have hc : (c == 0) = false := by rw [Bool.eq_false_iff]; intro z; have := eq_of_beq z; dsimp only at h; omega
  cases k <;> simp only [geP, eWr, eqv_tup, eqv_cons, eqv_int, hc, Bool.false_and, Bool.and_false]
theorem eF_cost {ns : List Int} {x : Int × Int} {e : GE} (h : eF ns x e = true) : 1 ≤ e.c := by
  unfold eF at h
  rw [Bool.and_eq_true] at h
  exact (of_decide_eq_true h.1).2.2.2.2.1
theorem pEq_by {x y : D} {h : Hh} {Q : DK} {p q : PyData} {n : Nat} (e : eqS x y = none) (a : Pd h x p n) (b : Pd h y q n) (hn : n ≤ 64) (k : Q (.bl (PyData.eqv p q)) h) : pEq false x y h Q := by
  unfold pEq
  rw [e]
  exact ⟨p, q, a.1, b.1, a.shaped hn, b.shaped hn, k⟩
theorem geD_eqS (e e' : GE) : eqS (geD e) (geD e') = none := by
  unfold geD
  cases e.k <;> cases e'.k <;> rfl
theorem rep_at {τ : Type} (l : List τ) (hl : 1 ≤ l.length) (i : Nat) (hi : i < 7) : ((List.replicate 7 l).flatten.take 7)[i]? = l[i % l.length]? := by
  have go : ∀ (n i : Nat), i < n → (List.replicate n l).flatten[i]? = l[i % l.length]? := fun n => by
    induction n with
    | zero => intro i hi; omega
    | succ n ih =>
      intro i hi
      rw [List.replicate_succ, List.flatten_cons]
      rcases Nat.lt_or_ge i l.length with z | z
      · rw [List.getElem?_append_left z, Nat.mod_eq_of_lt z]
      · rw [List.getElem?_append_right z, ih _ (by omega), ← Nat.mod_eq_sub_mod z]
  rw [List.getElem?_take, if_pos hi, go 7 i hi]
theorem rep_len {τ : Type} (l : List τ) : ∀ n : Nat, (List.replicate n l).flatten.length = n * l.length
  | 0 => by simp
  | n + 1 => by rw [List.replicate_succ, List.flatten_cons, List.length_append, rep_len l n, Nat.succ_mul]; omega
theorem seven {h : Hh} {xs : List D} {G : List GF} (t : GfDs h xs G) (hp : 1 ≤ G.length) : ∃ G', GC h (.lst (cutD (List.replicate 7 xs).flatten none (some 7))) G' ∧ G'.length = 7 := by
  have l7 : ∀ {τ : Type} (l : List τ), 1 ≤ l.length → ((List.replicate 7 l).flatten.take 7).length = 7 := fun l hl => by rw [List.length_take, rep_len]; omega
  refine ⟨(List.replicate 7 G).flatten.take 7, ⟨_, rfl, ?_⟩, l7 G hp⟩
  rw [show cutD (List.replicate 7 xs).flatten none (some 7) = (List.replicate 7 xs).flatten.take 7 from cut_take 7]
  have hx : 1 ≤ xs.length := by rw [t.1]; exact hp
  refine ⟨by rw [l7 G hp, l7 xs hx], fun i d F h1 h2 => ?_⟩
  have hi : i < 7 := by rw [← l7 G hp]; exact (List.getElem?_eq_some_iff.mp h2).1
  rw [rep_at xs hx i hi] at h1
  rw [rep_at G hp i hi, ← t.1] at h2
  exact t.2 _ d F h1 h2
theorem pd_cref {h : Hh} {i b : Nat} {C : Chart} (e : h[i]? = some (.lst (hdD b ((gC C).map (·.1))))) (k : ∀ (f : Nat) (F : Fn), C[f]? = some F → h[b + f]? = some (.lst (F.edges.map eD))) : Pd h (.ref i) (.list (C.map fP)) 5 := by
  refine .ref e (Pds.get (by rw [hdD_len, List.length_map, List.length_map]; unfold gC; simp) fun i d p hd hp => ?_)
  rw [List.getElem?_map] at hp
  cases q : C[i]? with
  | none => rw [q] at hp; cases hp
  | some F =>
    rw [q] at hp; cases hp
    rw [hdD_get (x := (gF F).1) (by unfold gC; rw [List.getElem?_map, List.getElem?_map, q]; rfl)] at hd
    cases hd
    exact .tup (.cons (.int _) (.cons (.int _) (.cons (.ref (k i F q) (Pds.map (pd_e h))) .nil)))
theorem tr_es {h : Hh} {C : Chart} {f : Nat} {F : Fn} (e : C[f]? = some F) : (h ++ trG h.length (gC C))[h.length + f]? = some (.lst (F.edges.map eD)) := by
  have := trG_es (h := h) (b := h.length) (G := gC C) (i := f) (F := gF F) (by unfold gC; rw [List.getElem?_map, e]; rfl)
  rw [this]
  show some (O.lst ((F.edges.map gE).map geD)) = _
  rw [ge_map]
theorem gC_len (C : Chart) : (gC C).length = C.length := by unfold gC; simp
end CM
namespace K21
open PySem L2 DL CM
def vvA : String := "dAsg dName dVar dC dOp dUn dTst dTr dAnd dOr dNot dAndV dOrV dNotV dIf dIfS dRet dRetN dDrop dNext dNever dCB dCal dCons dNil dTup dV dTk dListOf dBits dIsinst dChain dPart dNoPart dSl dGNil dGCons dUnp dAug dAugS dSubL dAppend dExtend dPop dClear dFor dISeq dIRange dIEnum dIEnum1 dComp dNoIf dCatN dRepN dSlL dBreak dCont pI pI0 pB0 pNeg pIs pIx pEq pLtI pLen pTuple pInt pMin pMax pAbs pPlus pAdd pMulI pIn dGet dRaise dRaise0 dTryS dTryD dTryE dIsX dXA dCalX dIxX dDropX dRetX dInsert pIsB pNinS pCatT pMul pMinL pMinP reduceIte"
def vvB : String := "setD compSl isN_non isN_bl isN_int isN_str isN_tup isN_lst isN_ref eqS List.map_cons List.map_nil List.cons_append List.nil_append List.length_cons List.length_nil List.replicate List.getElem?_cons_zero List.getElem?_cons_succ List.set_cons_zero List.set_cons_succ Option.getD_some Option.getD_none List.getElem?_nil Bool.false_eq_true Bool.not_true Bool.not_false if_true if_false ite_true ite_false eq_self_iff_true decide_true decide_false Nat.reduceSub Nat.reduceAdd Nat.sub_zero Nat.sub_self Nat.zero_add Option.map_some Option.map_none Option.bind_some Option.bind_none lsOf_lst seqOf_lst seqSrc_lst lenD_lst ixD_lst trD_lst lsOf_scr seqOf_scr seqSrc_scr lenD_scr ixD_scr trD_scr lsP_lst lsP_tup lsP_int lsP_str seqOf_tup seqSrc_tup lenD_tup ixD_tup trD_tup trD_non trD_bl trD_int kindD_non kindD_bl kindD_int kindD_str kindD_tup kindD_lst isK_NoneType_bool isK_NoneType_int isK_NoneType_str isK_NoneType_tuple isK_NoneType_list isK_NoneType_dict isK_bool_bool isK_bool_int isK_bool_str isK_bool_tuple isK_bool_list isK_bool_dict isK_int_bool isK_int_int isK_int_str isK_int_tuple isK_int_list isK_int_dict isK_str_bool isK_str_int isK_str_str isK_str_tuple isK_str_list isK_str_dict isK_tuple_bool isK_tuple_int isK_tuple_str isK_tuple_tuple isK_tuple_list isK_tuple_dict isK_list_bool isK_list_int isK_list_str isK_list_tuple isK_list_list isK_list_dict isK_dict_bool isK_dict_int isK_dict_str isK_dict_tuple isK_dict_list isK_dict_dict ixN_10 ixN_0 at1_0 at2_0 at2_1 at3_0 at3_1 at3_2 at4_0 at4_1 at4_2 at4_3 at5_0 at5_1 at5_2 at5_3 at5_4 at6_0 at6_1 at6_2 at6_3 at6_4 at6_5 at7_0 at7_1 at7_2 at7_3 at7_4 at7_5 at7_6 at8_0 at8_1 at8_2 at8_3 at8_4 at8_5 at8_6 at8_7 sk_step sq_step_step sq_step_call sq_step_in sq_step_over sq_step_begin sq_step_start sq_step_short sq_step_along sq_step_within sq_step_at sq_step_out sk_call sq_call_step sq_call_call sq_call_in sq_call_over sq_call_begin sq_call_start sq_call_short sq_call_along sq_call_within sq_call_at sq_call_out sk_in sq_in_step sq_in_call sq_in_in sq_in_over sq_in_begin sq_in_start sq_in_short sq_in_along sq_in_within sq_in_at sq_in_out sk_over sq_over_step sq_over_call sq_over_in sq_over_over sq_over_begin sq_over_start sq_over_short sq_over_along sq_over_within sq_over_at sq_over_out sk_begin sq_begin_step sq_begin_call sq_begin_in sq_begin_over sq_begin_begin sq_begin_start sq_begin_short sq_begin_along sq_begin_within sq_begin_at sq_begin_out sk_start sq_start_step sq_start_call sq_start_in sq_start_over sq_start_begin sq_start_start sq_start_short sq_start_along sq_start_within sq_start_at sq_start_out sk_short sq_short_step sq_short_call sq_short_in sq_short_over sq_short_begin sq_short_start sq_short_short sq_short_along sq_short_within sq_short_at sq_short_out sk_along sq_along_step sq_along_call sq_along_in sq_along_over sq_along_begin sq_along_start sq_along_short sq_along_along sq_along_within sq_along_at sq_along_out sk_within sq_within_step sq_within_call sq_within_in sq_within_over sq_within_begin sq_within_start sq_within_short sq_within_along sq_within_within sq_within_at sq_within_out sk_at sq_at_step sq_at_call sq_at_in sq_at_over sq_at_begin sq_at_start sq_at_short sq_at_along sq_at_within sq_at_at sq_at_out sk_out sq_out_step sq_out_call sq_out_in sq_out_over sq_out_begin sq_out_start sq_out_short sq_out_along sq_out_within sq_out_at sq_out_out Bool.and_self Bool.and_true"
local macro_rules | `(tactic| simp only [VV]) => do
  let as := ((vvA.splitOn " ")).toArray.map fun s => Lean.mkIdent s.toName
  let bs := ((vvB.splitOn " ")).toArray.map fun s => Lean.mkIdent s.toName
  `(tactic| simp only [$[↓$as:ident],*, $[$bs:ident],*])
local macro_rules | `(tactic| simp only [$xs,*, VV]) => do
  let as := ((vvA.splitOn " ")).toArray.map fun s => Lean.mkIdent s.toName
  let bs := ((vvB.splitOn " ")).toArray.map fun s => Lean.mkIdent s.toName
  `(tactic| simp only [$xs,*, $[↓$as:ident],*, $[$bs:ident],*])
local macro_rules | `(tactic| simp only [VV0]) => do
  let as := ((vvA.splitOn " ").filter (fun s => !(["pEq"] : List String).contains s)).toArray.map fun s => Lean.mkIdent s.toName
  let bs := ((vvB.splitOn " ").filter (fun s => !(["pEq"] : List String).contains s)).toArray.map fun s => Lean.mkIdent s.toName
  `(tactic| simp only [$[↓$as:ident],*, $[$bs:ident],*])
local macro_rules | `(tactic| simp only [$xs,*, VV0]) => do
  let as := ((vvA.splitOn " ").filter (fun s => !(["pEq"] : List String).contains s)).toArray.map fun s => Lean.mkIdent s.toName
  let bs := ((vvB.splitOn " ").filter (fun s => !(["pEq"] : List String).contains s)).toArray.map fun s => Lean.mkIdent s.toName
  `(tactic| simp only [$xs,*, $[↓$as:ident],*, $[$bs:ident],*])
local macro_rules | `(tactic| simp only [VV1]) => do
  let as := ((vvA.splitOn " ").filter (fun s => !(["pNinS"] : List String).contains s)).toArray.map fun s => Lean.mkIdent s.toName
  let bs := ((vvB.splitOn " ").filter (fun s => !(["pNinS"] : List String).contains s)).toArray.map fun s => Lean.mkIdent s.toName
  `(tactic| simp only [$[↓$as:ident],*, $[$bs:ident],*])
local macro_rules | `(tactic| simp only [$xs,*, VV1]) => do
  let as := ((vvA.splitOn " ").filter (fun s => !(["pNinS"] : List String).contains s)).toArray.map fun s => Lean.mkIdent s.toName
  let bs := ((vvB.splitOn " ").filter (fun s => !(["pNinS"] : List String).contains s)).toArray.map fun s => Lean.mkIdent s.toName
  `(tactic| simp only [$xs,*, $[↓$as:ident],*, $[$bs:ident],*])
local macro_rules | `(tactic| simp only [VV2]) => do
  let as := ((vvA.splitOn " ").filter (fun s => !(["pEq", "pMul"] : List String).contains s)).toArray.map fun s => Lean.mkIdent s.toName
  let bs := ((vvB.splitOn " ").filter (fun s => !(["pEq", "pMul"] : List String).contains s)).toArray.map fun s => Lean.mkIdent s.toName
  `(tactic| simp only [$[↓$as:ident],*, $[$bs:ident],*])
local macro_rules | `(tactic| simp only [$xs,*, VV2]) => do
  let as := ((vvA.splitOn " ").filter (fun s => !(["pEq", "pMul"] : List String).contains s)).toArray.map fun s => Lean.mkIdent s.toName
  let bs := ((vvB.splitOn " ").filter (fun s => !(["pEq", "pMul"] : List String).contains s)).toArray.map fun s => Lean.mkIdent s.toName
  `(tactic| simp only [$xs,*, $[↓$as:ident],*, $[$bs:ident],*])
local macro_rules | `(tactic| simp only [VV3]) => do
  let as := ((vvA.splitOn " ").filter (fun s => !(["pMinP"] : List String).contains s)).toArray.map fun s => Lean.mkIdent s.toName
  let bs := ((vvB.splitOn " ").filter (fun s => !(["pMinP"] : List String).contains s)).toArray.map fun s => Lean.mkIdent s.toName
  `(tactic| simp only [$[↓$as:ident],*, $[$bs:ident],*])
local macro_rules | `(tactic| simp only [$xs,*, VV3]) => do
  let as := ((vvA.splitOn " ").filter (fun s => !(["pMinP"] : List String).contains s)).toArray.map fun s => Lean.mkIdent s.toName
  let bs := ((vvB.splitOn " ").filter (fun s => !(["pMinP"] : List String).contains s)).toArray.map fun s => Lean.mkIdent s.toName
  `(tactic| simp only [$xs,*, $[↓$as:ident],*, $[$bs:ident],*])
local macro_rules | `(tactic| simp only [VV4]) => do
  let as := ((vvA.splitOn " ").filter (fun s => !(["pMinL"] : List String).contains s)).toArray.map fun s => Lean.mkIdent s.toName
  let bs := ((vvB.splitOn " ").filter (fun s => !(["pMinL"] : List String).contains s)).toArray.map fun s => Lean.mkIdent s.toName
  `(tactic| simp only [$[↓$as:ident],*, $[$bs:ident],*])
local macro_rules | `(tactic| simp only [$xs,*, VV4]) => do
  let as := ((vvA.splitOn " ").filter (fun s => !(["pMinL"] : List String).contains s)).toArray.map fun s => Lean.mkIdent s.toName
  let bs := ((vvB.splitOn " ").filter (fun s => !(["pMinL"] : List String).contains s)).toArray.map fun s => Lean.mkIdent s.toName
  `(tactic| simp only [$xs,*, $[↓$as:ident],*, $[$bs:ident],*])
noncomputable def top (i : Nat) : Stmt := PySem.Challenge.pw_callmatch_k21_charts_looked_at.main.body.getD i (.Pass ⟨0, 0, 0, 0⟩)
noncomputable def clsFn : Stmt → Nat → Stmt
  | .ClassDef _ _ _ body _ _ _ _ _ _ _, k => body.getD k (.Pass ⟨0, 0, 0, 0⟩)
  | s, _ => s
noncomputable abbrev s_table_fits : Stmt := top 19
noncomputable abbrev s__law_cell_at : Stmt := top 21
noncomputable abbrev s__law_pick : Stmt := top 22
noncomputable abbrev s__law_copied : Stmt := top 30
noncomputable abbrev s_call_fits : Stmt := top 18
noncomputable abbrev s__law_table : Stmt := top 23
noncomputable abbrev s__law_spoilt_mask : Stmt := top 26
noncomputable abbrev s_check_functions : Stmt := top 15
noncomputable abbrev s_edge_fits : Stmt := top 17
noncomputable abbrev s__law_edge : Stmt := top 24
noncomputable abbrev s__law_spoilt_edge : Stmt := top 27
noncomputable abbrev s_check_edges : Stmt := top 16
noncomputable abbrev s__law_chart : Stmt := top 25
noncomputable abbrev s__law_wrong : Stmt := top 28
noncomputable abbrev s_checked : Stmt := top 14
noncomputable abbrev s__law_refusal : Stmt := top 29
noncomputable abbrev s__law_too_many : Stmt := top 31
noncomputable abbrev s_law : Stmt := top 32
theorem sc_table_fits : FnScope ["table", "n", "to"] ["table", "n", "to"] (defScope s_table_fits) := ⟨rfl, rfl, rfl, by decide +kernel, rfl, by decide +kernel, by decide +kernel⟩
theorem sc__law_cell_at : FnScope ["_law_script", "_law_k"] ["_law_script", "_law_k"] (defScope s__law_cell_at) := ⟨rfl, rfl, rfl, by decide +kernel, rfl, by decide +kernel, by decide +kernel⟩
theorem sc__law_pick : FnScope ["_law_cell", "_law_k", "_law_many", "_law_by", "_law_number"] ["_law_cell", "_law_k", "_law_many"] (defScope s__law_pick) := ⟨rfl, rfl, rfl, by decide +kernel, rfl, by decide +kernel, by decide +kernel⟩
theorem sc__law_copied : FnScope ["_law_chart_here"] ["_law_chart_here"] (defScope s__law_copied) := ⟨rfl, rfl, rfl, by decide +kernel, rfl, by decide +kernel, by decide +kernel⟩
theorem sc_call_fits : FnScope ["chart", "facts", "edge", "inner_facts"] ["chart", "facts", "edge"] (defScope s_call_fits) := ⟨rfl, rfl, rfl, by decide +kernel, rfl, by decide +kernel, by decide +kernel⟩
theorem sc__law_table : FnScope ["_law_cell", "_law_k", "_law_n", "_law_to", "_law_rows", "_law_fact", "_law_mask"] ["_law_cell", "_law_k", "_law_n", "_law_to"] (defScope s__law_table) := ⟨rfl, rfl, rfl, by decide +kernel, rfl, by decide +kernel, by decide +kernel⟩
theorem sc__law_spoilt_mask : FnScope ["_law_table_here", "_law_cell", "_law_facts", "_law_at", "_law_wrong_here"] ["_law_table_here", "_law_cell", "_law_facts"] (defScope s__law_spoilt_mask) := ⟨rfl, rfl, rfl, by decide +kernel, rfl, by decide +kernel, by decide +kernel⟩
theorem sc_check_functions : FnScope ["chart", "f", "function"] ["chart"] (defScope s_check_functions) := ⟨rfl, rfl, rfl, by decide +kernel, rfl, by decide +kernel, by decide +kernel⟩
theorem sc_edge_fits : FnScope ["chart", "function", "edge", "places", "facts"] ["chart", "function", "edge"] (defScope s_edge_fits) := ⟨rfl, rfl, rfl, by decide +kernel, rfl, by decide +kernel, by decide +kernel⟩
theorem sc__law_edge : FnScope ["_law_sizes", "_law_f", "_law_cell", "_law_places", "_law_facts", "_law_some", "_law_cost", "_law_head", "_law_g", "_law_into", "_law_outward"] ["_law_sizes", "_law_f", "_law_cell"] (defScope s__law_edge) := ⟨rfl, rfl, rfl, by decide +kernel, rfl, by decide +kernel, by decide +kernel⟩
theorem sc__law_spoilt_edge : FnScope ["_law_chart_here", "_law_f", "_law_edge_here", "_law_cell", "_law_kind", "_law_far", "_law_at", "_law_facts"] ["_law_chart_here", "_law_f", "_law_edge_here", "_law_cell"] (defScope s__law_spoilt_edge) := ⟨rfl, rfl, rfl, by decide +kernel, rfl, by decide +kernel, by decide +kernel⟩
theorem sc_check_edges : FnScope ["chart", "ahead", "f", "function", "k", "edge"] ["chart"] (defScope s_check_edges) := ⟨rfl, rfl, rfl, by decide +kernel, rfl, by decide +kernel, by decide +kernel⟩
theorem sc__law_chart : FnScope ["_law_cells", "_law_way", "_law_most", "_law_sizes", "_law_f", "_law_edges", "_law_k", "_law_cell"] ["_law_cells", "_law_way"] (defScope s__law_chart) := ⟨rfl, rfl, rfl, by decide +kernel, rfl, by decide +kernel, by decide +kernel⟩
theorem sc__law_wrong : FnScope ["_law_chart_here", "_law_cell", "_law_spoilt", "_law_f", "_law_places", "_law_facts", "_law_edges", "_law_far", "_law_at"] ["_law_chart_here", "_law_cell", "_law_spoilt"] (defScope s__law_wrong) := ⟨rfl, rfl, rfl, by decide +kernel, rfl, by decide +kernel, by decide +kernel⟩
theorem sc_checked : FnScope ["chart"] ["chart"] (defScope s_checked) := ⟨rfl, rfl, rfl, by decide +kernel, rfl, by decide +kernel, by decide +kernel⟩
theorem sc__law_refusal : FnScope ["_law_chart_here", "_law_due", "e", "_law_others"] ["_law_chart_here"] (defScope s__law_refusal) := ⟨rfl, rfl, rfl, by decide +kernel, rfl, by decide +kernel, by decide +kernel⟩
theorem sc__law_too_many : FnScope ["_law_chart_here", "_law_cell", "_law_full", "_law_more", "_law_function", "_law_wrong_here", "_law_count", "_law_f", "_law_number", "_law_edge_here"] ["_law_chart_here", "_law_cell"] (defScope s__law_too_many) := ⟨rfl, rfl, rfl, by decide +kernel, rfl, by decide +kernel, by decide +kernel⟩
theorem sc_law : FnScope ["_law_script", "_law_way", "_law_chart_here", "_law_handed", "_law_found", "_law_function", "_law_cell", "_law_spoilt", "_law_wrong_here", "_law_sizes", "_law_due"] ["_law_script"] (defScope s_law) := ⟨rfl, rfl, rfl, by decide +kernel, rfl, by decide +kernel, by decide +kernel⟩
structure Txt (P : Program) (w : World) (K : PySem.W.Frag) (mg : Str → Option Value) : Prop where
  b_ValueError : mg "ValueError" = none
  b_all : mg "all" = none
  b_enumerate : mg "enumerate" = none
  b_int : mg "int" = none
  b_isinstance : mg "isinstance" = none
  b_len : mg "len" = none
  b_list : mg "list" = none
  b_min : mg "min" = none
  b_range : mg "range" = none
  b_tuple : mg "tuple" = none
  c_MOST_EDGES : ∃ t, mg "MOST_EDGES" = some (.int 24 t)
  c_MOST_FACTS : ∃ t, mg "MOST_FACTS" = some (.int 6 t)
  c_MOST_FUNCTIONS : ∃ t, mg "MOST_FUNCTIONS" = some (.int 6 t)
  c_MOST_PLACES : ∃ t, mg "MOST_PLACES" = some (.int 10 t)
  k_CallError : CatchX K mg "CallError" "NoChart"
  x_NoChart : ClassX K "NoChart"
  i_NoChart : ∃ CX, mg "NoChart" = some (.ref CX) ∧ IsX K "NoChart" (.ref CX) true
  i_NoName : ∃ CX, mg "NoName" = some (.ref CX) ∧ IsX K "NoChart" (.ref CX) false
  i_NoPaper : ∃ CX, mg "NoPaper" = some (.ref CX) ∧ IsX K "NoChart" (.ref CX) false
  i_NoTable : ∃ CX, mg "NoTable" = some (.ref CX) ∧ IsX K "NoChart" (.ref CX) false
  i_NoText : ∃ CX, mg "NoText" = some (.ref CX) ∧ IsX K "NoChart" (.ref CX) false
  i_NoWay : ∃ CX, mg "NoWay" = some (.ref CX) ∧ IsX K "NoChart" (.ref CX) false
  i_TooLong : ∃ CX, mg "TooLong" = some (.ref CX) ∧ IsX K "NoChart" (.ref CX) false
  i_ValueError : IsX K "NoChart" (.type "ValueError") true
  a_edge : AttrX K "NoChart" "edge"
  a_function : AttrX K "NoChart" "function"
noncomputable abbrev s_NoChart__init__ : Stmt := clsFn (top 5) 0
theorem sc_NoChart__init__ : FnScope ["self", "function", "edge"] ["self", "function", "edge"] (defScope s_NoChart__init__) := ⟨rfl, rfl, rfl, by decide +kernel, rfl, by decide +kernel, by decide +kernel⟩
theorem ok_NoChart__init__ {P : Program} {w : World} {K : PySem.W.Frag} {mg : Str → Option Value} {base : Heap} {C0 C f : Addr} {fd : FuncData} (F : Fun K "__init__" "NoChart.__init__" s_NoChart__init__ f fd) (hb : mg "CallError" = some (.ref C0)) (b : XBase K C0) (c : XCls K C f) (n0 : NoAttr K C "function") (n1 : NoAttr K C "edge") : FnOk P w K mg base CX0 1 f fd ["self", "function", "edge"] (spI C ["function", "edge"]) := by
  refine F.ok sc_NoChart__init__ (fun vs H Q E h => ?_) fun cdv A outer s H vs Q E hr h => ?_
  · obtain ⟨e, is, rfl, hl, _⟩ := h
    rw [List.length_cons, List.length_map, hl]; rfl
  · obtain ⟨e, is, rfl, hl, hs, he, k⟩ := h
    match is, hl, hs, k with
    | [i0, i1], _, hs, k =>
    refine ⟨_, pss_cons (ps_expr (pe_binit (X := (cxOf CX0 P w K mg base ["self", "function", "edge"] "NoChart.__init__" (defScope s_NoChart__init__) f cdv A outer s H E).nox) rfl hb b (pa_cons (pv 0) (pa_cons (pe_joined (pj_str pe_str (pj_int (pv 1) (pj_str pe_str (pj_int (pv 2) pj_nil))))) pa_nil)))) (pss_cons (ps_x (pv 0) (pv 1)) (pss_one (ps_x (pv 0) (pv 2)))), ?_⟩
    exact ⟨_, rfl, ⟨⟨i0, rfl, hs _ (by simp)⟩, ⟨⟨i1, rfl, hs _ (by simp)⟩, trivial⟩⟩, fun txt => ⟨e, C, f, txt, none, rfl, c, he, ⟨_, rfl, _, rfl, e, C, f, i0, rfl, rfl, c, n0, .inl ⟨he, fun dx h1 h2 => ⟨_, rfl, _, rfl, e, C, f, i1, rfl, rfl, c, n1, .inr ⟨dx, [("function", i0)], by rw [upd_ne (Ne.symm h2), upd_same], upd_same, h2, rfl, (show 1 < 100 by decide), by rw [upd_upd]; exact k dx h1 h2⟩⟩⟩⟩⟩⟩
section
variable {P : Program} {w : World} {K : PySem.W.Frag} {mg : Str → Option Value} {base : Heap}
noncomputable def b_table_fits : DS := (dRet (dAndV (dOp (pEq false) (dCB pLen (dCons (dVar 0) dNil)) (dVar 1)) (dCB pAll (dCons (dV (dComp [none, some 2] (dISeq (dVar 0)) (dName 0) dNoIf (dChain pLe pLtI (dC (.int 0)) (dVar 0) (dOp pShl (dC (.int 1)) (dVar 1))))) dNil))))
noncomputable def S_table_fits : DSp := fun ds h Q => ∃ (t : List Int) (n m : Int), ds = [zT t, .int n, .int m] ∧ n ≤ 6 ∧ 0 ≤ m ∧ m ≤ 6 ∧ Q (.bl (tF t n m)) h
theorem imp_table_fits : ∀ ds h Q, S_table_fits ds h Q → runD 3 b_table_fits ds h Q := by
  rintro ds h Q ⟨t, n, m, rfl, n6, h0, h6, q⟩
  unfold tF at q
  simp only [zT, List.length_map, ↓b_table_fits, ↓runD, ↓dSeq, ↓runX, VV]
  by_cases c : ((t.length : Int) == n) = true
  · rw [c] at q
    have c' : (t.length : Int) = n := by simpa using c
    simp only [c, ↓b_table_fits, ↓runD, ↓dSeq, ↓runX, VV]
    refine ⟨by first | decide | omega, ?_⟩
    refine comp1n (fun x => D.bl (decide (0 ≤ x ∧ x < 2 ^ m.toNat))) Src.ok_nil none (fun x hx K k => ?_) ?_
    · by_cases c1 : 0 ≤ x
      · simp only [c1, ↓b_table_fits, ↓runD, ↓dSeq, ↓runX, VV]
        refine ⟨⟨by first | decide | omega, by first | decide | omega, by decide⟩, ?_⟩
        rw [Int.one_mul]
        rw [show decide (0 ≤ x ∧ x < 2 ^ m.toNat) = decide (x < 2 ^ m.toNat) from decide_eq_decide.mpr ⟨fun z => z.2, fun z => ⟨c1, z⟩⟩] at k
        exact k
      · simp only [c1, ↓b_table_fits, ↓runD, ↓dSeq, ↓runX, VV]
        rw [decide_eq_false fun z => c1 z.1] at k
        exact k
    · refine ⟨_, t.map fun x => decide (0 ≤ x ∧ x < 2 ^ m.toNat), rfl, by rw [List.map_map]; rfl, ?_⟩
      rw [List.all_map]; exact q
  · have c : ((t.length : Int) == n) = false := by simpa using c
    rw [c] at q
    simp only [c, ↓b_table_fits, ↓runD, ↓dSeq, ↓runX, VV]
    exact q
theorem ok_table_fits {f : Addr} {fd : FuncData} (F : Fun K "table_fits" "table_fits" s_table_fits f fd) (T : Txt P w K mg) : FnOk P w K mg base CX0 1 f fd ["table", "n", "to"] (spD K 3 S_table_fits) :=
  fn_ok (k := 0) (b := b_table_fits) F sc_table_fits (fun cdv A outer s H E hr => by
    refine ss_one ?_
    refine s_ret ?_
    exact se_and (se_cmp (ok_eq hr.units) (se_callB ok_len rfl T.b_len PySem.boot_len (sa_cons (sv 0) sa_nil)) (sv 1) (nomark _)) (se_one (se_callB (ok_all rfl) rfl T.b_all PyProof.Rows.boot_all (sa_cons (se_v (sn_comp rfl (N' := ["mask", "to"]) (js := [none, some 2]) ⟨rfl, by decide +kernel, rfl, rfl, rfl⟩ (si_seq (sv 0)) (fun s0 H0 fp => ⟨(sg_name (i := 0) (show (["mask", "to"] : List Str).Nodup by decide +kernel) rfl (Or.inl rfl)), sf_nil, (se_chain ok_le ok_ltI se_int (sv 0) (se_op ok_shl se_int (sv 1)))⟩))) sa_nil)))) imp_table_fits
noncomputable def b__law_cell_at : DS := (dSeq (dIfS (dTst (dOp pLtI (dVar 1) (dCB pLen (dCons (dVar 0) dNil)))) (dRet (dOp pIx (dVar 0) (dVar 1))) dNext)
    (dRet (dOp pPlus (dOp pMulI (dC (.int 7919)) (dVar 1)) (dCB pLen (dCons (dVar 0) dNil)))))
noncomputable def S__law_cell_at : DSp := fun ds h Q => ∃ (ns : List Int) (k : Nat), ds = [.scr (ns.map .int), nD k] ∧ ns.length ≤ 63 ∧ k ≤ 1000 ∧ ∀ r : Int, Q (.int r) h
theorem imp__law_cell_at : ∀ ds h Q, S__law_cell_at ds h Q → runD 2 b__law_cell_at ds h Q := by
  rintro ds h Q ⟨ns, k, rfl, hl, hk, q⟩
  simp only [runD, runX, b__law_cell_at, List.map_cons, List.map_nil, List.cons_append, List.nil_append, List.length_cons, List.length_nil, List.replicate, Nat.reduceSub, Nat.reduceAdd, Nat.zero_add, Nat.sub_self]
  (try dsimp only); refine seq_intro fun N hN => ?_
  by_cases c : (k : Int) < (ns.length : Int)
  · obtain ⟨x, hx⟩ : ∃ x, ns[k]? = some x := ⟨_, List.getElem?_eq_getElem (by first | decide | omega)⟩
    have ax : atI (ns.map D.int) (k : Int) = some (.int x) := by rw [atN, List.getElem?_map, hx]; rfl
    simp only [List.length_map, c, ax, VV]
    exact q x
  · simp only [List.length_map, c, VV]
    subst hN
    simp only [List.length_map, VV]
    exact ⟨mulS (by first | decide | omega), q _⟩
theorem ok__law_cell_at {f : Addr} {fd : FuncData} (F : Fun K "_law_cell_at" "_law_cell_at" s__law_cell_at f fd) (T : Txt P w K mg) : FnOk P w K mg base CX0 1 f fd ["_law_script", "_law_k"] (spD K 2 S__law_cell_at) :=
  fn_ok (k := 0) (b := b__law_cell_at) F sc__law_cell_at (fun cdv A outer s H E hr => by
    refine ss_cons ?_ ?_
    · refine s_if ?_ ?_ ?_
      · exact st_cmp ok_ltI (sv 1) (se_callB ok_len rfl T.b_len PySem.boot_len (sa_cons (sv 0) sa_nil)) (nomark _)
      · refine ss_one ?_
        refine s_ret ?_
        exact se_ix ok_ix (sv 0) (sv 1) (fun _ _ => rfl)
      exact ss_nil
    refine ss_one ?_
    refine s_ret ?_
    exact se_op ok_plus (se_op ok_timesI se_int (sv 1)) (se_callB ok_len rfl T.b_len PySem.boot_len (sa_cons (sv 0) sa_nil))) imp__law_cell_at
noncomputable def b__law_pick : DS := (dSeq (dAsg (dOp pIx (dV (dCons (dC (.int 48271)) (dCons (dC (.int 69621)) (dCons (dC (.int 39373)) (dCons (dC (.int 16807)) (dCons (dC (.int 40692)) (dCons (dC (.int 52774)) (dCons (dC (.int 33614)) dNil)))))))) (dOp pMod (dVar 1) (dC (.int 7)))) (dName 3))
    (dSeq (dAsg (dOp pPlus (dOp pPlus (dOp pMulI (dOp pMod (dVar 0) (dC (.int 2147483647))) (dVar 3)) (dOp pMulI (dC (.int 7919)) (dVar 1))) (dC (.int 13))) (dName 4))
    (dRet (dOp pMod (dOp pMod (dOp pMulI (dVar 4) (dOp pPlus (dOp pMod (dVar 4) (dC (.int 104729))) (dC (.int 1)))) (dOp pIx (dV (dCons (dC (.int 2147483629)) (dCons (dC (.int 2147483587)) (dCons (dC (.int 2147483579)) dNil)))) (dOp pMod (dVar 1) (dC (.int 3))))) (dVar 2)))))
noncomputable def S__law_pick : DSp := fun ds h Q => ∃ (c : Int) (k m : Nat), ds = [.int c, nD k, nD m] ∧ k ≤ 100000 ∧ 1 ≤ m ∧ ∀ r : Nat, r < m → Q (nD r) h
theorem imp__law_pick : ∀ ds h Q, S__law_pick ds h Q → runD 5 b__law_pick ds h Q := by
  rintro ds h Q ⟨c, k, m, rfl, hk, hm, q⟩
  simp only [runD, runX, b__law_pick, List.map_cons, List.map_nil, List.cons_append, List.nil_append, List.length_cons, List.length_nil, List.replicate, Nat.reduceSub, Nat.reduceAdd, Nat.zero_add, Nat.sub_self]
  (try dsimp only); refine seq_intro fun N hN => ?_
  obtain ⟨b, b0, b1, eb⟩ : ∃ b : Int, 0 < b ∧ b ≤ 69621 ∧ atI [D.int 48271, D.int 69621, D.int 39373, D.int 16807, D.int 40692, D.int 52774, D.int 33614] ((k : Int) % 7) = some (.int b) := by
    have : (k : Int) % 7 = 0 ∨ (k : Int) % 7 = 1 ∨ (k : Int) % 7 = 2 ∨ (k : Int) % 7 = 3 ∨ (k : Int) % 7 = 4 ∨ (k : Int) % 7 = 5 ∨ (k : Int) % 7 = 6 := by first | decide | omega
    rcases this with e | e | e | e | e | e | e <;> rw [e]
    · exact ⟨48271, by decide, by decide, rfl⟩
    · exact ⟨69621, by decide, by decide, rfl⟩
    · exact ⟨39373, by decide, by decide, rfl⟩
    · exact ⟨16807, by decide, by decide, rfl⟩
    · exact ⟨40692, by decide, by decide, rfl⟩
    · exact ⟨52774, by decide, by decide, rfl⟩
    · exact ⟨33614, by decide, by decide, rfl⟩
  obtain ⟨b', b2, b3, eb'⟩ : ∃ b : Int, 0 < b ∧ b ≤ 2147483629 ∧ atI [D.int 2147483629, D.int 2147483587, D.int 2147483579] ((k : Int) % 3) = some (.int b) := by
    have : (k : Int) % 3 = 0 ∨ (k : Int) % 3 = 1 ∨ (k : Int) % 3 = 2 := by first | decide | omega
    rcases this with e | e | e <;> rw [e]
    · exact ⟨2147483629, by decide, by decide, rfl⟩
    · exact ⟨2147483587, by decide, by decide, rfl⟩
    · exact ⟨2147483579, by decide, by decide, rfl⟩
  simp only [eb, VV]
  refine ⟨by first | decide | omega, ?_⟩
  subst hN
  (try dsimp only); refine seq_intro fun N hN => ?_
  simp only [VV]
  refine ⟨by first | decide | omega, mulS' (by first | decide | omega), mulS (by first | decide | omega), ?_⟩
  generalize c % 2147483647 * b + 7919 * (k : Int) + 13 = z
  subst hN
  have z0 := Int.emod_nonneg z (show (104729 : Int) ≠ 0 by first | decide | omega)
  have z1 := Int.emod_lt_of_pos z (show (0 : Int) < 104729 by first | decide | omega)
  simp only [eb', VV]
  have m0 : (0 : Int) < (m : Int) := by first | decide | omega
  refine ⟨by first | decide | omega, mulS' (by first | decide | omega), by first | decide | omega, by first | decide | omega, by first | decide | omega, ?_⟩
  have r0 := Int.emod_nonneg (z * (z % 104729 + 1) % b') (show (m : Int) ≠ 0 by first | decide | omega)
  have r1 := Int.emod_lt_of_pos (z * (z % 104729 + 1) % b') m0
  rw [show z * (z % 104729 + 1) % b' % (m : Int) = (((z * (z % 104729 + 1) % b' % (m : Int)).toNat : Nat) : Int) by first | decide | omega]
  exact q _ (by first | decide | omega)
theorem ok__law_pick {f : Addr} {fd : FuncData} (F : Fun K "_law_pick" "_law_pick" s__law_pick f fd) (T : Txt P w K mg) : FnOk P w K mg base CX0 1 f fd ["_law_cell", "_law_k", "_law_many"] (spD K 3 S__law_pick) :=
  fn_ok (k := 0) (b := b__law_pick) F sc__law_pick (fun cdv A outer s H E hr => by
    refine ss_cons ?_ ?_
    · refine s_set (i := 3) ?_ ?_ ?_ ?_
      · exact sc__law_pick.nd
      · exact rfl
      · exact Or.inl rfl
      exact se_ix ok_ix (se_v (sn_lst (sa_cons se_int (sa_cons se_int (sa_cons se_int (sa_cons se_int (sa_cons se_int (sa_cons se_int (sa_cons se_int sa_nil))))))))) (se_op ok_mod (sv 1) se_int) (fun _ _ => rfl)
    refine ss_cons ?_ ?_
    · refine s_set (i := 4) ?_ ?_ ?_ ?_
      · exact sc__law_pick.nd
      · exact rfl
      · exact Or.inl rfl
      exact se_op ok_plus (se_op ok_plus (se_op ok_timesI (se_op ok_mod (sv 0) se_int) (sv 3)) (se_op ok_timesI se_int (sv 1))) se_int
    refine ss_one ?_
    refine s_ret ?_
    exact se_op ok_mod (se_op ok_mod (se_op ok_timesI (sv 4) (se_op ok_plus (se_op ok_mod (sv 4) se_int) se_int)) (se_ix ok_ix (se_v (sn_lst (sa_cons se_int (sa_cons se_int (sa_cons se_int sa_nil))))) (se_op ok_mod (sv 1) se_int) (fun _ _ => rfl))) (sv 2)) imp__law_pick
noncomputable def b__law_copied : DS := (dRet (dTk (dComp [none, none, none] (dISeq (dVar 0)) (dUnp 3 (dGCons (dName 0) (dGCons (dName 1) (dGCons (dName 2) dGNil)))) dNoIf (dTup (dCons (dVar 0) (dCons (dVar 1) (dCons (dTk (dListOf (dCons (dVar 2) dNil))) dNil)))))))
noncomputable def cpO (G : List GF) : Hh := G.map fun F => geO F.2
theorem copy_comp {h : Hh} {d : D} {xs : List D} {w : List (Nat × O)} {G : List GF} {Q : List D → Hh → Prop} (e1 : lsOf h d = some xs) (t : GfDs h xs G) (ok : ∀ h', Pre h h' → (Src.mk xs w).ok h') (q : Q (hdD h.length (G.map (·.1))) (h ++ cpO G)) (o1 o2 o3 : Option D) :
    compL ⟨xs, w⟩ (dUnp 3 (dGCons (dName 0) (dGCons (dName 1) (dGCons (dName 2) dGNil)))) dNoIf (dTup (dCons (dVar 0) (dCons (dVar 1) (dCons (dTk (dListOf (dCons (dVar 2) dNil))) dNil)))) xs [] [o1, o2, o3] h Q := by
  have em : xs = xs.map id := by simp
  have key : compL ⟨xs, w⟩ (dUnp 3 (dGCons (dName 0) (dGCons (dName 1) (dGCons (dName 2) dGNil)))) dNoIf (dTup (dCons (dVar 0) (dCons (dVar 1) (dCons (dTk (dListOf (dCons (dVar 2) dNil))) dNil)))) (xs.map id) [] [o1, o2, o3] h Q := by
    refine compL_map (fun p a δ h' => (∃ o1 o2 o3 : Option D, δ = [o1, o2, o3]) ∧ h' = h ++ cpO (G.take p.length) ∧ a = hdD h.length ((G.take p.length).map (·.1))) ⟨⟨_, _, _, rfl⟩, by simp [cpO], rfl⟩ (fun p a δ h' hp => by rw [hp.2.1]; exact ok _ (Pre.app _ _)) ?_ ?_
    · rintro p y r acc δ h' N e ⟨⟨o1, o2, o3, rfl⟩, rfl, rfl⟩ hN
      have hy : xs[p.length]? = some y := by rw [e]; simp
      obtain ⟨hl, _⟩ := List.getElem?_eq_some_iff.mp hy
      rw [t.len] at hl
      obtain ⟨F, hF⟩ : ∃ F, G[p.length]? = some F := ⟨_, List.getElem?_eq_getElem hl⟩
      obtain ⟨y', hy', e9, rfl, e8⟩ := t.get hF
      rw [hy] at hy'; cases hy'
      have pr : Pre h (h ++ cpO (G.take p.length)) := Pre.app _ _
      simp only [id, seq_ls (pr.ls e8), VV]
      refine ⟨trivial, ?_⟩
      refine hN _ _ _ ⟨⟨_, _, _, rfl⟩, ?_, ?_⟩
      · rw [List.length_append, List.length_singleton, List.take_add_one, hF]
        unfold cpO geO
        rw [List.map_append, List.append_assoc]; rfl
      · have cl : (cpO (G.take p.length)).length = p.length := by unfold cpO; rw [List.length_map, List.length_take]; omega
        rw [List.length_append, List.length_append, List.length_singleton, cl, List.take_add_one, hF, List.map_append]
        unfold hdD
        rw [List.zipIdx_append, List.map_append]
        simp
        omega
    · rintro a δ h' ⟨_, rfl, rfl⟩
      rw [t.len, List.take_length]
      exact q
  rw [← em] at key
  exact key
noncomputable def S__law_copied : DSp := fun ds h Q => ∃ (d : D) (G : List GF), ds = [d] ∧ GC h d G ∧ G.length ≤ 60 ∧ Q (.ref (h.length + G.length)) (h ++ trG h.length G)
theorem imp__law_copied : ∀ ds h Q, S__law_copied ds h Q → runD 1 b__law_copied ds h Q := by
  rintro ds h Q ⟨d, G, rfl, ⟨xs, e1, t⟩, g60, q⟩
  obtain ⟨w, e2, ok⟩ := src_pre e1
  have e2 := e2 h (Pre.refl h)
  simp only [e2, ↓b__law_copied, ↓runD, ↓dSeq, ↓runX, VV]
  have hl := t.len
  refine ⟨by first | decide | omega, ?_⟩
  refine copy_comp e1 t (ok xs) ?_ none none none
  rw [List.length_append, List.append_assoc]
  unfold trG at q
  have : (cpO G).length = G.length := by unfold cpO; simp
  rw [this]
  exact q
theorem ok__law_copied {f : Addr} {fd : FuncData} (F : Fun K "_law_copied" "_law_copied" s__law_copied f fd) (T : Txt P w K mg) : FnOk P w K mg base CX0 1 f fd ["_law_chart_here"] (spD K 1 S__law_copied) :=
  fn_ok (k := 0) (b := b__law_copied) F sc__law_copied (fun cdv A outer s H E hr => by
    refine ss_one ?_
    refine s_ret ?_
    exact se_t (sn_comp rfl (N' := ["_law_places", "_law_facts", "_law_edges"]) (js := [none, none, none]) ⟨rfl, by decide +kernel, rfl, rfl, rfl⟩ (si_seq (sv 0)) (fun s0 H0 fp => ⟨(sg_tup rfl (sgs_cons (sg_name (i := 0) (show (["_law_places", "_law_facts", "_law_edges"] : List Str).Nodup by decide +kernel) rfl (Or.inl rfl)) (sgs_cons (sg_name (i := 1) (show (["_law_places", "_law_facts", "_law_edges"] : List Str).Nodup by decide +kernel) rfl (Or.inl rfl)) (sgs_cons (sg_name (i := 2) (show (["_law_places", "_law_facts", "_law_edges"] : List Str).Nodup by decide +kernel) rfl (Or.inl rfl)) sgs_nil)))), sf_nil, (se_tup (sa_cons (sv 0) (sa_cons (sv 1) (sa_cons (se_t (sn_list rfl T.b_list (sa_cons (sv 2) sa_nil))) sa_nil))))⟩))) imp__law_copied
noncomputable def b_call_fits : DS := (dSeq (dIfS (dNot (dTst (dChain pLe pLtI (dC (.int 0)) (dOp pIx (dVar 2) (dC (.int 4))) (dCB pLen (dCons (dVar 0) dNil))))) (dRet (dC (.bl false))) dNext)
    (dSeq (dAsg (dOp pIx (dOp pIx (dVar 0) (dOp pIx (dVar 2) (dC (.int 4)))) (dC (.int 1))) (dName 3))
    (dRet (dAndV (dCal S_table_fits (dCons (dOp pIx (dVar 2) (dC (.int 5))) (dCons (dVar 1) (dCons (dVar 3) dNil)))) (dAndV (dCal S_table_fits (dCons (dOp pIx (dVar 2) (dC (.int 6))) (dCons (dVar 3) (dCons (dVar 1) dNil)))) (dCal S_table_fits (dCons (dOp pIx (dVar 2) (dC (.int 7))) (dCons (dVar 1) (dCons (dVar 1) dNil)))))))))
noncomputable def S_call_fits : DSp := fun ds h Q => ∃ (d : D) (G : List GF) (n p q c g : Int) (i b o : List Int), ds = [d, .int n, geD ⟨p, q, c, .call g i b o⟩] ∧ GC h d G ∧ (∀ F ∈ G, szF F.1 = true) ∧ 0 ≤ n ∧ n ≤ 6 ∧ Q (.bl (cF (nsG G) n g i b o)) h
theorem imp_call_fits : ∀ ds h Q, S_call_fits ds h Q → runD 4 b_call_fits ds h Q := by
  rintro ds h Q ⟨d, G, n, p, q', c, g, i, b, o, rfl, gc, sz, n0, n6, q⟩
  unfold cF at q
  have ln : (nsG G).length = G.length := by unfold nsG; simp
  rw [ln] at q
  simp only [runD, runX, b_call_fits, List.map_cons, List.map_nil, List.cons_append, List.nil_append, List.length_cons, List.length_nil, List.replicate, Nat.reduceSub, Nat.reduceAdd, Nat.zero_add, Nat.sub_self]
  (try dsimp only); refine seq_intro fun N hN => ?_
  by_cases c1 : 0 ≤ g ∧ g < (G.length : Int)
  · rw [if_pos c1] at q
    obtain ⟨k, rfl⟩ : ∃ k : Nat, g = k := ⟨g.toNat, by first | decide | omega⟩
    obtain ⟨F, hF⟩ : ∃ F, G[k]? = some F := ⟨_, List.getElem?_eq_getElem (by first | decide | omega)⟩
    obtain ⟨x, h1, h2⟩ := gc.get hF
    have hn : (nsG G).getD k 0 = F.1.2 := by unfold nsG; rw [List.getD_eq_getElem?_getD, List.getElem?_map, hF]; rfl
    have s := sz F (List.mem_of_getElem? hF)
    have s := of_decide_eq_true s
    rw [Int.toNat_natCast, hn] at q
    simp only [geD, gc.len, c1, VV]
    subst hN
    (try dsimp only); refine seq_intro fun N hN => ?_
    simp only [geD, h1, VV]
    subst hN
    simp only [geD, VV]
    refine ⟨i, n, F.1.2, rfl, n6, by first | decide | omega, by first | decide | omega, ?_⟩
    by_cases z1 : tF i n F.1.2 = true
    · rw [z1] at q
      simp only [z1, geD, VV]
      refine ⟨b, F.1.2, n, rfl, by first | decide | omega, n0, n6, ?_⟩
      by_cases z2 : tF b F.1.2 n = true
      · rw [z2] at q
        simp only [z2, geD, VV]
        exact ⟨o, n, n, rfl, n6, n0, n6, q⟩
      · have z2 : tF b F.1.2 n = false := by simpa using z2
        rw [z2] at q
        simp only [z2, VV]
        exact q
    · have z1 : tF i n F.1.2 = false := by simpa using z1
      rw [z1] at q
      simp only [z1, VV]
      exact q
  · rw [if_neg c1] at q
    by_cases c2 : 0 ≤ g
    · have c3 : ¬ g < (G.length : Int) := fun z => c1 ⟨c2, z⟩
      simp only [geD, gc.len, c2, c3, VV]
      exact q
    · simp only [geD, gc.len, c2, VV]
      exact q
theorem ok_call_fits {f : Addr} {fd : FuncData} (F : Fun K "call_fits" "call_fits" s_call_fits f fd) (T : Txt P w K mg) (C_table_fits : Cal P w K mg base 1 "table_fits" ["table", "n", "to"] (spD K 3 S_table_fits)) : FnOk P w K mg base CX0 2 f fd ["chart", "facts", "edge"] (spD K 3 S_call_fits) :=
  fn_ok (k := 1) (b := b_call_fits) F sc_call_fits (fun cdv A outer s H E hr => by
    refine ss_cons ?_ ?_
    · refine s_if ?_ ?_ ?_
      · exact st_not (st_chain ok_le ok_ltI se_int (se_ix ok_ix (sv 2) se_int (fun _ _ => rfl)) (se_callB ok_len rfl T.b_len PySem.boot_len (sa_cons (sv 0) sa_nil)))
      · refine ss_one ?_
        refine s_ret ?_
        exact se_bl
      exact ss_nil
    refine ss_cons ?_ ?_
    · refine s_set (i := 3) ?_ ?_ ?_ ?_
      · exact sc_call_fits.nd
      · exact rfl
      · exact Or.inl rfl
      exact se_ix ok_ix (se_ix ok_ix (sv 0) (se_ix ok_ix (sv 2) se_int (fun _ _ => rfl)) (fun _ _ => rfl)) se_int (fun _ _ => rfl)
    refine ss_one ?_
    refine s_ret ?_
    exact se_and (se_cal C_table_fits (hr.mono (by decide)) rfl (sa_cons (se_ix ok_ix (sv 2) se_int (fun _ _ => rfl)) (sa_cons (sv 1) (sa_cons (sv 3) sa_nil)))) (se_and (se_cal C_table_fits (hr.mono (by decide)) rfl (sa_cons (se_ix ok_ix (sv 2) se_int (fun _ _ => rfl)) (sa_cons (sv 3) (sa_cons (sv 1) sa_nil)))) (se_one (se_cal C_table_fits (hr.mono (by decide)) rfl (sa_cons (se_ix ok_ix (sv 2) se_int (fun _ _ => rfl)) (sa_cons (sv 1) (sa_cons (sv 1) sa_nil))))))) imp_call_fits
noncomputable def b__law_table : DS := (dSeq (dAsg (dTk dNil) (dName 4))
    (dSeq (dFor (dIRange (dCons (dVar 2) dNil)) (dName 5) (dSeq (dAsg (dCal S__law_pick (dCons (dVar 0) (dCons (dOp pPlus (dVar 1) (dOp pMulI (dC (.int 2)) (dVar 5))) (dCons (dOp pShl (dC (.int 1)) (dVar 3)) dNil)))) (dName 6))
    (dSeq (dIfS (dTst (dOp pGt (dCal S__law_pick (dCons (dVar 0) (dCons (dOp pPlus (dVar 1) (dC (.int 19))) (dCons (dC (.int 3)) dNil)))) (dC (.int 0)))) (dAsg (dOp pBand (dVar 6) (dCal S__law_pick (dCons (dVar 0) (dCons (dOp pPlus (dOp pPlus (dVar 1) (dOp pMulI (dC (.int 2)) (dVar 5))) (dC (.int 1))) (dCons (dOp pShl (dC (.int 1)) (dVar 3)) dNil))))) (dName 6)) dNext)
    (dSeq (dIfS (dTst (dOp pGt (dCal S__law_pick (dCons (dVar 0) (dCons (dOp pPlus (dVar 1) (dC (.int 20))) (dCons (dC (.int 3)) dNil)))) (dC (.int 0)))) (dAsg (dOp pBor (dVar 6) (dOp pShl (dC (.int 1)) (dOp pMod (dVar 5) (dVar 3)))) (dName 6)) dNext)
    (dDrop (dAppend (dVar 4) (dCons (dVar 6) dNil)))))))
    (dRet (dCB pTuple (dCons (dVar 4) dNil)))))
noncomputable def S__law_table : DSp := fun ds h Q => ∃ (c : Int) (k n m : Nat), ds = [.int c, nD k, nD n, nD m] ∧ k ≤ 1000 ∧ n ≤ 6 ∧ 1 ≤ m ∧ m ≤ 6 ∧ ∀ t : List Nat, tOk t n m → Q (tD t) h
theorem imp__law_table : ∀ ds h Q, S__law_table ds h Q → runD 7 b__law_table ds h (Dr h Q) := by
  rintro ds h Q ⟨c, k, n, m, rfl, hk, hn, hm1, hm6, q⟩
  simp only [runD, runX, b__law_table, List.map_cons, List.map_nil, List.cons_append, List.nil_append, List.length_cons, List.length_nil, List.replicate, Nat.reduceSub, Nat.reduceAdd, Nat.zero_add, Nat.sub_self]
  (try dsimp only); refine seq_intro fun N hN => ?_
  simp only [VV]
  subst hN
  (try dsimp only); refine seq_intro fun N hN => ?_
  simp only [VV]
  refine ⟨by first | decide | omega, ?_⟩
  rw [rangeD_map, Int.toNat_natCast]
  have h64 : 2 ^ m ≤ 64 := Nat.pow_le_pow_right (n := 2) (by decide) hm6
  have hp : (1 : Int) * 2 ^ (m : Int).toNat = ((2 ^ m : Nat) : Int) := shl1 m
  have hpos : 0 < 2 ^ m := Nat.two_pow_pos m
  refine forL_map (fun p δ h' => ∃ (t : List Nat) (x1 x2 : Option D), δ = [some (.int c), some (nD k), some (nD n), some (nD m), some (.ref h.length), x1, x2] ∧ h' = h ++ [.lst (t.map nD)] ∧ t.length = p.length ∧ ∀ x ∈ t, x < 2 ^ m) ⟨[], none, none, rfl, rfl, rfl, fun x hx => nomatch hx⟩ (fun _ _ _ _ => Src.ok_nil) ?_ ?_
  · rintro p d r δ h' N1 e ⟨t, x1, x2, rfl, rfl, hl, ht⟩ hN1
    obtain ⟨hdp, hd⟩ := range_split e
    have hlen : t.length < 16777216 := by first | decide | omega
    simp only [VV]
    (try dsimp only); refine seq_intro fun N hN => ?_
    simp only [VV]
    refine ⟨mulS (by first | decide | omega), ⟨by first | decide | omega, by first | decide | omega, by decide⟩, c, k + 2 * d, 2 ^ m, ?_, by first | decide | omega, by first | decide | omega, fun r1 hr1 => ?_⟩
    · rw [hp, show (k : Int) + 2 * (0 + (d : Int)) = ((k + 2 * d : Nat) : Int) by first | decide | omega]
    simp only [VV]
    subst hN
    (try dsimp only); refine seq_intro fun N hN => ?_
    have s3 : ∀ r3 : Nat, r3 < 2 ^ m → N [some (.int c), some (nD k), some (nD n), some (nD m), some (.ref h.length), some (.int (0 + (d : Int))), some (nD r3)] (h ++ [.lst (t.map nD)]) := by
      intro r3 hr3
      subst hN
      (try dsimp only); refine seq_intro fun N hN => ?_
      have fin : ∀ r4 : Nat, r4 < 2 ^ m → N [some (.int c), some (nD k), some (nD n), some (nD m), some (.ref h.length), some (.int (0 + (d : Int))), some (nD r4)] (h ++ [.lst (t.map nD)]) := by
        intro r4 hr4
        subst hN
        simp only [get_new, set_new, List.length_map, VV]
        refine ⟨hlen, hN1 _ _ ⟨t ++ [r4], _, _, rfl, by simp, by simp [hl], fun x hx => ?_⟩⟩
        rcases List.mem_append.mp hx with z | z
        · exact ht x z
        · rw [List.mem_singleton.mp z]; exact hr4
      simp only [VV]
      refine ⟨c, k + 20, 3, rfl, by first | decide | omega, by first | decide | omega, fun r5 hr5 => ?_⟩
      simp only [VV]
      by_cases z5 : (0 : Int) < (r5 : Int)
      · simp only [z5, VV]
        have em : (0 + (d : Int)) % (m : Int) = ((d % m : Nat) : Int) := by rw [Int.zero_add]; exact (Int.natCast_emod d m).symm
        have hdm : d % m < m := Nat.mod_lt _ (by first | decide | omega)
        rw [em]
        refine ⟨by first | decide | omega, ⟨by first | decide | omega, by first | decide | omega, by decide⟩, ?_⟩
        rw [shl1, bor_nat]
        exact fin _ (Nat.or_lt_two_pow hr3 (Nat.pow_lt_pow_right (by decide) hdm))
      · simp only [z5, VV]
        exact fin _ hr3
    simp only [VV]
    refine ⟨c, k + 19, 3, rfl, by first | decide | omega, by first | decide | omega, fun r2 hr2 => ?_⟩
    simp only [VV]
    by_cases z2 : (0 : Int) < (r2 : Int)
    · simp only [z2, VV]
      refine ⟨mulS (by first | decide | omega), ⟨by first | decide | omega, by first | decide | omega, by decide⟩, c, k + 2 * d + 1, 2 ^ m, ?_, by first | decide | omega, by first | decide | omega, fun r6 hr6 => ?_⟩
      · rw [hp, show (k : Int) + 2 * (0 + (d : Int)) + 1 = ((k + 2 * d + 1 : Nat) : Int) by first | decide | omega]
      simp only [VV]
      rw [band_nat]
      exact s3 _ (Nat.and_lt_two_pow _ hr6)
    · simp only [z2, VV]
      exact s3 _ hr1
  · rintro δ h' ⟨t, x1, x2, rfl, rfl, hl, ht⟩
    subst hN
    simp only [seq_ls (ls_new h (t.map nD)), VV]
    exact Dr.drop (nrD_tD t) (q t ⟨by rw [hl]; simp, ht⟩)
theorem ok__law_table {f : Addr} {fd : FuncData} (F : Fun K "_law_table" "_law_table" s__law_table f fd) (T : Txt P w K mg) (C__law_pick : Cal P w K mg base 1 "_law_pick" ["_law_cell", "_law_k", "_law_many"] (spD K 3 S__law_pick)) : FnOk P w K mg base CX0 2 f fd ["_law_cell", "_law_k", "_law_n", "_law_to"] (spD K 4 S__law_table) :=
  fn_okD (k := 1) (b := b__law_table) F sc__law_table (fun cdv A outer s H E hr => by
    refine ss_cons ?_ ?_
    · refine s_set (i := 4) ?_ ?_ ?_ ?_
      · exact sc__law_table.nd
      · exact rfl
      · exact Or.inl rfl
      exact se_t (sn_lst sa_nil)
    refine ss_cons ?_ ?_
    · refine s_for ?_ ?_ ?_ ?_ ?_
      · exact PassesOwn.never
      · exact rfl
      · exact si_range1 rfl T.b_range (sa_cons (sv 2) sa_nil)
      · exact sg_name (i := 5) sc__law_table.nd rfl (Or.inl rfl)
      refine ss_cons ?_ ?_
      · refine s_set (i := 6) ?_ ?_ ?_ ?_
        · exact sc__law_table.nd
        · exact rfl
        · exact Or.inl rfl
        exact se_cal C__law_pick (hr.mono (by decide)) rfl (sa_cons (sv 0) (sa_cons (se_op ok_plus (sv 1) (se_op ok_timesI se_int (sv 5))) (sa_cons (se_op ok_shl se_int (sv 3)) sa_nil)))
      refine ss_cons ?_ ?_
      · refine s_if ?_ ?_ ?_
        · exact st_cmp ok_gt (se_cal C__law_pick (hr.mono (by decide)) rfl (sa_cons (sv 0) (sa_cons (se_op ok_plus (sv 1) se_int) (sa_cons se_int sa_nil)))) se_int (nomark _)
        · refine ss_one ?_
          refine s_set (i := 6) ?_ ?_ ?_ ?_
          · exact sc__law_table.nd
          · exact rfl
          · exact Or.inl rfl
          exact se_op ok_band (sv 6) (se_cal C__law_pick (hr.mono (by decide)) rfl (sa_cons (sv 0) (sa_cons (se_op ok_plus (se_op ok_plus (sv 1) (se_op ok_timesI se_int (sv 5))) se_int) (sa_cons (se_op ok_shl se_int (sv 3)) sa_nil))))
        exact ss_nil
      refine ss_cons ?_ ?_
      · refine s_if ?_ ?_ ?_
        · exact st_cmp ok_gt (se_cal C__law_pick (hr.mono (by decide)) rfl (sa_cons (sv 0) (sa_cons (se_op ok_plus (sv 1) se_int) (sa_cons se_int sa_nil)))) se_int (nomark _)
        · refine ss_one ?_
          refine s_set (i := 6) ?_ ?_ ?_ ?_
          · exact sc__law_table.nd
          · exact rfl
          · exact Or.inl rfl
          exact se_op ok_bor (sv 6) (se_op ok_shl se_int (se_op ok_mod (sv 5) (sv 3)))
        exact ss_nil
      refine ss_one ?_
      refine s_expr ?_
      exact se_append (sv 4) (sa_cons (sv 6) sa_nil)
    refine ss_one ?_
    refine s_ret ?_
    exact se_callTy ok_tuple rfl T.b_tuple PyProof.Rows.boot_tuple (sa_cons (sv 4) sa_nil)) imp__law_table
noncomputable def b__law_spoilt_mask : DS := (dSeq (dAsg (dCal S__law_pick (dCons (dVar 1) (dCons (dC (.int 20)) (dCons (dCB pLen (dCons (dVar 0) dNil)) dNil)))) (dName 3))
    (dSeq (dAsg (dOp pIx (dV (dCons (dOp pShl (dC (.int 1)) (dVar 2)) (dCons (dUn pNeg (dC (.int 1))) (dCons (dOp pPlus (dOp pShl (dC (.int 1)) (dVar 2)) (dOp pMod (dVar 1) (dOp pPow (dC (.int 10)) (dC (.int 9))))) dNil)))) (dCal S__law_pick (dCons (dVar 1) (dCons (dC (.int 21)) (dCons (dC (.int 3)) dNil))))) (dName 4))
    (dRet (dOp pIx (dV (dCons (dOp pPlus (dOp pCatT (dSl (dVar 0) dNoPart (dPart (dVar 3))) (dTup (dCons (dVar 4) dNil))) (dSl (dVar 0) (dPart (dOp pPlus (dVar 3) (dC (.int 1)))) dNoPart)) (dCons (dOp pPlus (dVar 0) (dTup (dCons (dC (.int 0)) dNil))) (dCons (dSl (dVar 0) dNoPart (dPart (dUn pNeg (dC (.int 1))))) dNil)))) (dCal S__law_pick (dCons (dVar 1) (dCons (dC (.int 22)) (dCons (dC (.int 3)) dNil))))))))
noncomputable def S__law_spoilt_mask : DSp := fun ds h Q => ∃ (t : List Nat) (cell : Int) (m : Nat), ds = [tD t, .int cell, nD m] ∧ t ≠ [] ∧ t.length ≤ 6 ∧ m ≤ 6 ∧ ∀ t' : List Int, tF t' t.length m = false → Q (zT t') h
theorem imp__law_spoilt_mask : ∀ ds h Q, S__law_spoilt_mask ds h Q → runD 5 b__law_spoilt_mask ds h Q := by
  rintro ds h Q ⟨t, cell, m, rfl, t0, t6, m6, q⟩
  have tp : 0 < t.length := List.length_pos_iff.mpr t0
  simp only [runD, runX, b__law_spoilt_mask, List.map_cons, List.map_nil, List.cons_append, List.nil_append, List.length_cons, List.length_nil, List.replicate, Nat.reduceSub, Nat.reduceAdd, Nat.zero_add, Nat.sub_self]
  (try dsimp only); refine seq_intro fun N hN => ?_
  simp only [tD, List.length_map, VV]
  refine ⟨cell, 20, t.length, rfl, by first | decide | omega, by first | decide | omega, fun a ha => ?_⟩
  simp only [VV]
  subst hN
  (try dsimp only); refine seq_intro fun N hN => ?_
  simp only [VV]
  have e9 : (10 : Int) ^ (9 : Int).toNat = 1000000000 := by decide
  rw [e9]
  refine ⟨⟨by first | decide | omega, by first | decide | omega, by decide⟩, ⟨by first | decide | omega, by first | decide | omega, by decide⟩, ⟨by decide, by decide, by decide⟩, by decide, cell, 21, 3, rfl, by first | decide | omega, by first | decide | omega, fun r1 hr1 => ?_⟩
  rw [shl1]
  obtain ⟨w, hw, ew⟩ : ∃ w : Int, ¬ (0 ≤ w ∧ w < 2 ^ (m : Int).toNat) ∧ atI [D.int ((2 ^ m : Nat) : Int), D.int (-1), D.int (((2 ^ m : Nat) : Int) + cell % 1000000000)] (r1 : Int) = some (.int w) := by
    have e : (2 : Int) ^ (m : Int).toNat = ((2 ^ m : Nat) : Int) := by rw [Int.toNat_natCast]; simp
    rw [e]
    have h0 := Int.emod_nonneg cell (show (1000000000 : Int) ≠ 0 by decide)
    obtain rfl | rfl | rfl : r1 = 0 ∨ r1 = 1 ∨ r1 = 2 := by first | decide | omega
    · exact ⟨_, by first | decide | omega, rfl⟩
    · exact ⟨_, by first | decide | omega, rfl⟩
    · exact ⟨_, by first | decide | omega, rfl⟩
  simp only [ew, VV]
  subst hN
  simp only [tD, VV]
  have c1 : cutD (t.map nD) none (some (a : Int)) = (t.take a).map nD := by rw [cut_take, List.map_take]
  have c2 : cutD (t.map nD) (some ((a : Int) + 1)) none = (t.drop (a + 1)).map nD := by rw [List.map_drop]; exact cut_drop (a + 1)
  have c3 : ∃ u : List Nat, u.length + 1 = t.length ∧ cutD (t.map nD) none (some (-1)) = u.map nD := by
    refine ⟨t.dropLast, by rw [List.length_dropLast]; omega, ?_⟩
    have : t.map nD = t.dropLast.map nD ++ [nD (t.getLast t0)] := by rw [← List.map_singleton, ← List.map_append, List.dropLast_concat_getLast]
    rw [this]; exact cutLast _ _
  obtain ⟨u, hu, c3⟩ := c3
  rw [c1, c2, c3]
  have z : ∀ v : List Nat, v.map nD = (gT v).map D.int := fun v => by unfold gT; rw [List.map_map]; rfl
  refine ⟨by rw [List.length_map, List.length_take]; omega, by simp, by rw [List.length_append, List.length_map, List.length_map, List.length_take, List.length_drop, List.length_singleton]; omega, fun y => t0 (by simpa using y), by rw [List.length_map]; omega, cell, 22, 3, rfl, by first | decide | omega, by first | decide | omega, fun r2 hr2 => ?_⟩
  obtain rfl | rfl | rfl : r2 = 0 ∨ r2 = 1 ∨ r2 = 2 := by first | decide | omega
  · have := q (gT (t.take a) ++ [w] ++ gT (t.drop (a + 1))) (tF_mem (x := w) (by simp) hw)
    unfold zT at this
    rw [List.map_append, List.map_append, ← z, ← z] at this
    exact this
  · have := q (gT t ++ [0]) (tF_len (by rw [List.length_append]; unfold gT; rw [List.length_map]; simp; omega))
    unfold zT at this
    rw [List.map_append, ← z] at this
    exact this
  · have := q (gT u) (tF_len (by unfold gT; rw [List.length_map]; omega))
    unfold zT at this
    rw [← z] at this
    exact this
theorem ok__law_spoilt_mask {f : Addr} {fd : FuncData} (F : Fun K "_law_spoilt_mask" "_law_spoilt_mask" s__law_spoilt_mask f fd) (T : Txt P w K mg) (C__law_pick : Cal P w K mg base 1 "_law_pick" ["_law_cell", "_law_k", "_law_many"] (spD K 3 S__law_pick)) : FnOk P w K mg base CX0 2 f fd ["_law_table_here", "_law_cell", "_law_facts"] (spD K 3 S__law_spoilt_mask) :=
  fn_ok (k := 1) (b := b__law_spoilt_mask) F sc__law_spoilt_mask (fun cdv A outer s H E hr => by
    refine ss_cons ?_ ?_
    · refine s_set (i := 3) ?_ ?_ ?_ ?_
      · exact sc__law_spoilt_mask.nd
      · exact rfl
      · exact Or.inl rfl
      exact se_cal C__law_pick (hr.mono (by decide)) rfl (sa_cons (sv 1) (sa_cons se_int (sa_cons (se_callB ok_len rfl T.b_len PySem.boot_len (sa_cons (sv 0) sa_nil)) sa_nil)))
    refine ss_cons ?_ ?_
    · refine s_set (i := 4) ?_ ?_ ?_ ?_
      · exact sc__law_spoilt_mask.nd
      · exact rfl
      · exact Or.inl rfl
      exact se_ix ok_ix (se_v (sn_lst (sa_cons (se_op ok_shl se_int (sv 2)) (sa_cons (se_un ok_neg se_int) (sa_cons (se_op ok_plus (se_op ok_shl se_int (sv 2)) (se_op ok_mod (sv 1) (se_op ok_pow se_int se_int))) sa_nil))))) (se_cal C__law_pick (hr.mono (by decide)) rfl (sa_cons (sv 1) (sa_cons se_int (sa_cons se_int sa_nil)))) (fun _ _ => rfl)
    refine ss_one ?_
    refine s_ret ?_
    exact se_ix ok_ix (se_v (sn_lst (sa_cons (se_op ok_plus (se_op ok_catT (se_sl (sv 0) so_none (so_some (sv 3))) (se_tup (sa_cons (sv 4) sa_nil))) (se_sl (sv 0) (so_some (se_op ok_plus (sv 3) se_int)) so_none)) (sa_cons (se_op ok_plus (sv 0) (se_tup (sa_cons se_int sa_nil))) (sa_cons (se_sl (sv 0) so_none (so_some (se_un ok_neg se_int))) sa_nil))))) (se_cal C__law_pick (hr.mono (by decide)) rfl (sa_cons (sv 1) (sa_cons se_int (sa_cons se_int sa_nil)))) (fun _ _ => rfl)) imp__law_spoilt_mask
noncomputable def b_check_functions : DS := (dSeq (dIfS (dNot (dTst (dChain pLe pLe (dC (.int 1)) (dCB pLen (dCons (dVar 0) dNil)) (dC (.int 6))))) (dRaise "NoChart" ["function", "edge"] (dCons (dUn pNeg (dC (.int 1))) (dCons (dUn pNeg (dC (.int 1))) dNil))) dNext)
    (dFor (dIEnum (dCons (dVar 0) dNil)) (dUnp 2 (dGCons (dName 1) (dGCons (dName 2) dGNil))) (dIfS (dNot (dAnd (dTst (dChain pLe pLe (dC (.int 1)) (dOp pIx (dVar 2) (dC (.int 0))) (dC (.int 10)))) (dTst (dChain pLe pLe (dC (.int 1)) (dOp pIx (dVar 2) (dC (.int 1))) (dC (.int 6)))))) (dRaise "NoChart" ["function", "edge"] (dCons (dVar 1) (dCons (dUn pNeg (dC (.int 1))) dNil))) dNext)))
theorem log_small {i : Int} (h1 : -1 ≤ i) (h2 : i ≤ 1000) : i.natAbs.log2 < 1920 := by
  have : i.natAbs ≤ 1000 := by first | decide | omega
  exact Nat.lt_of_le_of_lt (Nat.log2_le_self _) (by first | decide | omega)
noncomputable def S_check_functions : DSpX := fun ds h Q X' => ∃ (d : D) (G : List GF), ds = [d] ∧ GC h d G ∧ G.length ≤ 60 ∧ (1 ≤ G.length → G.length ≤ 6 → (∀ F ∈ G, szF F.1 = true) → Q .non h) ∧ (¬ (1 ≤ G.length ∧ G.length ≤ 6) → X' "NoChart" [("function", -1), ("edge", -1)] h) ∧ (∀ (p r : List GF) (F : GF), 1 ≤ G.length → G.length ≤ 6 → G = p ++ F :: r → (∀ F' ∈ p, szF F'.1 = true) → szF F.1 = false → X' "NoChart" [("function", p.length), ("edge", -1)] h)
theorem imp_check_functions : ∀ ds h Q X', S_check_functions ds h Q X' → runX 3 b_check_functions ds h (Dr h Q) (DrX h X') := by
  rintro ds h Q X' ⟨d, G, rfl, gc, g60, q, x0, x1⟩
  obtain ⟨xs, e1, t⟩ := gc
  have gc : GC h d G := ⟨xs, e1, t⟩
  simp only [runD, runX, b_check_functions, List.map_cons, List.map_nil, List.cons_append, List.nil_append, List.length_cons, List.length_nil, List.replicate, Nat.reduceSub, Nat.reduceAdd, Nat.zero_add, Nat.sub_self]
  (try dsimp only); refine seq_intro fun N hN => ?_
  by_cases c : 1 ≤ G.length ∧ G.length ≤ 6
  · obtain ⟨c1, c2⟩ := c
    have c1' : (1 : Int) ≤ (G.length : Int) := by first | decide | omega
    have c2' : (G.length : Int) ≤ 6 := by first | decide | omega
    simp only [gc.len, c1', c2', VV]
    subst hN
    obtain ⟨w, e2, ok, _⟩ := src_ls e1
    simp only [e2, VV]
    have em : xs = xs.map id := by simp
    rw [em, enumD_map]
    refine forL_map (fun p δ h' => h' = h ∧ (∃ x1 x2 : Option D, δ = [some d, x1, x2]) ∧ ∀ i F, G[i]? = some F → i < p.length → szF F.1 = true) ⟨rfl, ⟨none, none, rfl⟩, fun i F _ z => absurd z (Nat.not_lt_zero _)⟩ (fun p δ h' hp => by rw [hp.1]; exact ok) ?_ ?_
    · rintro p ⟨y, i⟩ r δ h' N1 e ⟨rfl, ⟨a1, a2, rfl⟩, sz⟩ hN1
      obtain ⟨hy, rfl⟩ := zip_at e
      obtain ⟨hl, _⟩ := List.getElem?_eq_some_iff.mp hy
      rw [t.len] at hl
      obtain ⟨F, hF⟩ : ∃ F, G[p.length]? = some F := ⟨_, List.getElem?_eq_getElem hl⟩
      obtain ⟨y', hy', e9, rfl, _⟩ := t.get hF
      rw [hy] at hy'; cases hy'
      have done : szF F.1 = true → ∀ δ, (∃ x1 x2 : Option D, δ = [some d, x1, x2]) → N1 δ h' := fun s δ hδ => by
        refine hN1 _ _ ⟨rfl, hδ, fun i F' h1 h2 => ?_⟩
        rw [List.length_append, List.length_singleton] at h2
        rcases Nat.lt_or_ge i p.length with z | z
        · exact sz i F' h1 z
        · rw [show i = p.length by first | decide | omega, hF] at h1; cases h1; exact s
      have fail : szF F.1 = false → DrX h' X' "NoChart" [("function", (0 + (p.length : Int))), ("edge", -1)] h' := fun s => by
        rw [Int.zero_add]
        have := x1 (G.take p.length) _ F c1 c2 (split_at hF) (fun F' hF' => let ⟨j, h1, h2⟩ := take_in hF'; sz j _ h2 h1) s
        rw [List.length_take, Nat.min_eq_left (by first | decide | omega)] at this
        exact Dr.same rfl this
      simp only [id, VV]
      refine ⟨trivial, ?_⟩
      by_cases s : szF F.1 = true
      · obtain ⟨s1, s2, s3, s4⟩ := of_decide_eq_true s
        simp only [s1, s2, s3, s4, VV]
        exact done s _ ⟨_, _, rfl⟩
      · have s : szF F.1 = false := by simpa using s
        have f := fail s
        have s' := of_decide_eq_false s
        have rz : ∃ is : List Int, [D.int (0 + (p.length : Int)), D.int (-1)] = is.map D.int ∧ is.length = (["function", "edge"] : List Str).length ∧ (∀ i ∈ is, i.natAbs.log2 < 1920) ∧ DrX h' X' "NoChart" ((["function", "edge"] : List Str).zip is) h' := ⟨[0 + (p.length : Int), -1], rfl, rfl, fun i hi => by
          rcases List.mem_cons.mp hi with z | z
          · rw [z]; exact log_small (by first | decide | omega) (by first | decide | omega)
          · rw [List.mem_singleton.mp z]; exact log_small (by first | decide | omega) (by first | decide | omega), f⟩
        by_cases s1 : 1 ≤ F.1.1
        · by_cases s2 : F.1.1 ≤ 10
          · by_cases s3 : 1 ≤ F.1.2
            · have s4 : ¬ F.1.2 ≤ 6 := fun z => s' ⟨s1, s2, s3, z⟩
              simp only [s1, s2, s3, s4, VV]
              exact rz
            · simp only [s1, s2, s3, VV]
              exact rz
          · simp only [s1, s2, VV]
            exact rz
        · simp only [s1, VV]
          exact rz
    · rintro δ h' ⟨rfl, _, sz⟩
      refine Dr.same rfl (q c1 c2 fun F hF => ?_)
      obtain ⟨i, hi, rfl⟩ := List.mem_iff_getElem.mp hF
      exact sz i _ (List.getElem?_eq_getElem hi) (by rw [List.length_zipIdx, t.len]; exact hi)
  · have f := x0 c
    have rz : ∃ is : List Int, [D.int (-1), D.int (-1)] = is.map D.int ∧ is.length = (["function", "edge"] : List Str).length ∧ (∀ i ∈ is, i.natAbs.log2 < 1920) ∧ DrX h X' "NoChart" ((["function", "edge"] : List Str).zip is) h := ⟨[-1, -1], rfl, rfl, fun i hi => by
      rcases List.mem_cons.mp hi with z | z
      · rw [z]; exact log_small (by first | decide | omega) (by first | decide | omega)
      · rw [List.mem_singleton.mp z]; exact log_small (by first | decide | omega) (by first | decide | omega), Dr.same rfl f⟩
    by_cases c1 : (1 : Int) ≤ (G.length : Int)
    · have c2 : ¬ (G.length : Int) ≤ 6 := by first | decide | omega
      simp only [gc.len, c1, c2, VV]
      exact rz
    · simp only [gc.len, c1, VV]
      exact rz
theorem ok_check_functions {f : Addr} {fd : FuncData} (F : Fun K "check_functions" "check_functions" s_check_functions f fd) (T : Txt P w K mg) (R_NoChart : RaiseX P w K mg base 1 "NoChart" ["self", "function", "edge"] ["function", "edge"]) : FnOk P w K mg base (CXE P w) 3 f fd ["chart"] (spX K 1 S_check_functions) :=
  fn_okX (k := 2) (b := b_check_functions) F sc_check_functions (fun cdv A outer s H E hr => by
    refine ss_cons ?_ ?_
    · refine s_if ?_ ?_ ?_
      · exact st_not (st_chain ok_le ok_le se_int (se_callB ok_len rfl T.b_len PySem.boot_len (sa_cons (sv 0) sa_nil)) (se_globI rfl T.c_MOST_FUNCTIONS))
      · refine ss_one ?_
        exact s_raise R_NoChart (hr.mono (by decide)) rfl (sa_cons (se_un ok_neg se_int) (sa_cons (se_un ok_neg se_int) sa_nil))
      exact ss_nil
    refine ss_one ?_
    refine s_for ?_ ?_ ?_ ?_ ?_
    · exact ownX ⟨rfl, rfl⟩
    · exact rfl
    · exact si_enum rfl T.b_enumerate (sa_cons (sv 0) sa_nil)
    · exact sg_tup rfl (sgs_cons (sg_name (i := 1) sc_check_functions.nd rfl (Or.inl rfl)) (sgs_cons (sg_name (i := 2) sc_check_functions.nd rfl (Or.inl rfl)) sgs_nil))
    refine ss_one ?_
    refine s_if ?_ ?_ ?_
    · exact st_not (st_w (sw_and (st_chain ok_le ok_le se_int (se_ix ok_ix (sv 2) se_int (fun _ _ => rfl)) (se_globI rfl T.c_MOST_PLACES)) (sw_and1 (st_chain ok_le ok_le se_int (se_ix ok_ix (sv 2) se_int (fun _ _ => rfl)) (se_globI rfl T.c_MOST_FACTS)))))
    · refine ss_one ?_
      exact s_raise R_NoChart (hr.mono (by decide)) rfl (sa_cons (sv 1) (sa_cons (se_un ok_neg se_int) sa_nil))
    exact ss_nil) imp_check_functions
noncomputable def b_edge_fits : DS := (dSeq (dAsg (dOp pIx (dVar 1) (dC (.int 0))) (dName 3))
    (dSeq (dAsg (dOp pIx (dVar 1) (dC (.int 1))) (dName 4))
    (dSeq (dIfS (dNot (dAnd (dTst (dChain pLe pLtI (dC (.int 0)) (dOp pIx (dVar 2) (dC (.int 1))) (dVar 3))) (dAnd (dTst (dChain pLe pLtI (dC (.int 0)) (dOp pIx (dVar 2) (dC (.int 2))) (dVar 3))) (dTst (dChain pLe pLe (dC (.int 1)) (dOp pIx (dVar 2) (dC (.int 3))) (dOp pPow (dC (.int 10)) (dC (.int 18)))))))) (dRet (dC (.bl false))) dNext)
    (dSeq (dIfS (dTst (dOp (pEq false) (dOp pIx (dVar 2) (dC (.int 0))) (dC (.str "step")))) (dRet (dCal S_table_fits (dCons (dOp pIx (dVar 2) (dC (.int 4))) (dCons (dVar 4) (dCons (dVar 4) dNil))))) dNext)
    (dSeq (dIfS (dTst (dOp (pEq false) (dOp pIx (dVar 2) (dC (.int 0))) (dC (.str "call")))) (dRet (dCal S_call_fits (dCons (dVar 0) (dCons (dVar 4) (dCons (dVar 2) dNil))))) dNext)
    (dRet (dC (.bl false))))))))
noncomputable def S_edge_fits : DSp := fun ds h Q => ∃ (d e : D) (G : List GF) (x : Int × Int) (E : GE), ds = [d, .tup [.int x.1, .int x.2, e], geD E] ∧ GC h d G ∧ (∀ F ∈ G, szF F.1 = true) ∧ szF x = true ∧ Q (.bl (eF (nsG G) x E)) h
theorem geD_0 (h : Hh) (e : GE) : ixD h (geD e) (.int 0) = some (.str (match e.k with | .step _ => "step" | .call _ _ _ _ => "call")) := by
  unfold geD; cases e.k <;> exact atI_0 ..
theorem geD_1 (h : Hh) (e : GE) : ixD h (geD e) (.int 1) = some (.int e.p) := by
  unfold geD; cases e.k <;> exact atI_1 ..
theorem geD_2 (h : Hh) (e : GE) : ixD h (geD e) (.int 2) = some (.int e.q) := by
  unfold geD; cases e.k <;> exact atI_2 ..
theorem geD_3 (h : Hh) (e : GE) : ixD h (geD e) (.int 3) = some (.int e.c) := by
  unfold geD; cases e.k <;> exact atI_3 ..
theorem imp_edge_fits : ∀ ds h Q, S_edge_fits ds h Q → runD 5 b_edge_fits ds h Q := by
  rintro ds h Q ⟨d, e, G, x, E, rfl, gc, sz, sx, q⟩
  have s := of_decide_eq_true sx
  unfold eF at q
  have e10 : (10 : Int) ^ (18 : Int).toNat = 1000000000000000000 := by decide
  simp only [runD, runX, b_edge_fits, List.map_cons, List.map_nil, List.cons_append, List.nil_append, List.length_cons, List.length_nil, List.replicate, Nat.reduceSub, Nat.reduceAdd, Nat.zero_add, Nat.sub_self]
  (try dsimp only); refine seq_intro fun N hN => ?_
  simp only [VV]
  subst hN
  (try dsimp only); refine seq_intro fun N hN => ?_
  simp only [VV]
  subst hN
  (try dsimp only); refine seq_intro fun N hN => ?_
  by_cases c : 0 ≤ E.p ∧ E.p < x.1 ∧ 0 ≤ E.q ∧ E.q < x.1 ∧ 1 ≤ E.c ∧ E.c ≤ 10 ^ 18
  · rw [decide_eq_true c] at q
    obtain ⟨c1, c2, c3, c4, c5, c6⟩ := c
    have c6 : E.c ≤ 1000000000000000000 := c6
    simp only [geD_1, geD_2, geD_3, c1, c2, c3, c4, c5, VV]
    refine ⟨⟨by decide, by decide, by decide⟩, ?_⟩
    rw [e10]
    simp only [c6, VV]
    subst hN
    obtain ⟨p, q', cc, k⟩ := E
    cases k with
    | step t =>
      (try dsimp only); refine seq_intro fun N hN => ?_
      simp only [geD, sk_step, sq_step_step, VV]
      exact ⟨t, x.2, x.2, rfl, by first | decide | omega, by first | decide | omega, by first | decide | omega, q⟩
    | call g i b o =>
      (try dsimp only); refine seq_intro fun N hN => ?_
      simp only [geD, sk_step, sk_call, sq_call_step, VV]
      subst hN
      (try dsimp only); refine seq_intro fun N hN => ?_
      simp only [geD, sk_call, sq_call_call, VV]
      exact ⟨d, G, x.2, p, q', cc, g, i, b, o, rfl, gc, sz, by first | decide | omega, by first | decide | omega, q⟩
  · rw [decide_eq_false c] at q
    have q : Q (.bl false) h := q
    by_cases c1 : 0 ≤ E.p
    · by_cases c2 : E.p < x.1
      · by_cases c3 : 0 ≤ E.q
        · by_cases c4 : E.q < x.1
          · by_cases c5 : 1 ≤ E.c
            · have c6 : ¬ E.c ≤ 1000000000000000000 := fun z => c ⟨c1, c2, c3, c4, c5, z⟩
              simp only [geD_1, geD_2, geD_3, c1, c2, c3, c4, c5, VV]
              refine ⟨⟨by decide, by decide, by decide⟩, ?_⟩
              rw [e10]
              simp only [c6, VV]
              exact q
            · simp only [geD_1, geD_2, geD_3, c1, c2, c3, c4, c5, VV]
              exact q
          · simp only [geD_1, geD_2, c1, c2, c3, c4, VV]
            exact q
        · simp only [geD_1, geD_2, c1, c2, c3, VV]
          exact q
      · simp only [geD_1, c1, c2, VV]
        exact q
    · simp only [geD_1, c1, VV]
      exact q
theorem ok_edge_fits {f : Addr} {fd : FuncData} (F : Fun K "edge_fits" "edge_fits" s_edge_fits f fd) (T : Txt P w K mg) (C_table_fits : Cal P w K mg base 1 "table_fits" ["table", "n", "to"] (spD K 3 S_table_fits)) (C_call_fits : Cal P w K mg base 2 "call_fits" ["chart", "facts", "edge"] (spD K 3 S_call_fits)) : FnOk P w K mg base CX0 3 f fd ["chart", "function", "edge"] (spD K 3 S_edge_fits) :=
  fn_ok (k := 2) (b := b_edge_fits) F sc_edge_fits (fun cdv A outer s H E hr => by
    refine ss_cons ?_ ?_
    · refine s_set (i := 3) ?_ ?_ ?_ ?_
      · exact sc_edge_fits.nd
      · exact rfl
      · exact Or.inl rfl
      exact se_ix ok_ix (sv 1) se_int (fun _ _ => rfl)
    refine ss_cons ?_ ?_
    · refine s_set (i := 4) ?_ ?_ ?_ ?_
      · exact sc_edge_fits.nd
      · exact rfl
      · exact Or.inl rfl
      exact se_ix ok_ix (sv 1) se_int (fun _ _ => rfl)
    refine ss_cons ?_ ?_
    · refine s_if ?_ ?_ ?_
      · exact st_not (st_w (sw_and (st_chain ok_le ok_ltI se_int (se_ix ok_ix (sv 2) se_int (fun _ _ => rfl)) (sv 3)) (sw_and (st_chain ok_le ok_ltI se_int (se_ix ok_ix (sv 2) se_int (fun _ _ => rfl)) (sv 3)) (sw_and1 (st_chain ok_le ok_le se_int (se_ix ok_ix (sv 2) se_int (fun _ _ => rfl)) (se_op ok_pow se_int se_int))))))
      · refine ss_one ?_
        refine s_ret ?_
        exact se_bl
      exact ss_nil
    refine ss_cons ?_ ?_
    · refine s_if ?_ ?_ ?_
      · exact st_cmp (ok_eq hr.units) (se_ix ok_ix (sv 2) se_int (fun _ _ => rfl)) se_str (nomark _)
      · refine ss_one ?_
        refine s_ret ?_
        exact se_cal C_table_fits (hr.mono (by decide)) rfl (sa_cons (se_ix ok_ix (sv 2) se_int (fun _ _ => rfl)) (sa_cons (sv 4) (sa_cons (sv 4) sa_nil)))
      exact ss_nil
    refine ss_cons ?_ ?_
    · refine s_if ?_ ?_ ?_
      · exact st_cmp (ok_eq hr.units) (se_ix ok_ix (sv 2) se_int (fun _ _ => rfl)) se_str (nomark _)
      · refine ss_one ?_
        refine s_ret ?_
        exact se_cal C_call_fits (hr.mono (by decide)) rfl (sa_cons (sv 0) (sa_cons (sv 4) (sa_cons (sv 2) sa_nil)))
      exact ss_nil
    refine ss_one ?_
    refine s_ret ?_
    exact se_bl) imp_edge_fits
noncomputable def b__law_edge : DS := (dSeq (dAsg (dOp pIx (dVar 0) (dVar 1)) (dUnp 2 (dGCons (dName 3) (dGCons (dName 4) dGNil))))
    (dSeq (dAsg (dV (dCons (dOp pPlus (dC (.int 1)) (dOp pMod (dVar 2) (dOp pPow (dC (.int 10)) (dC (.int 18))))) (dCons (dOp pPlus (dC (.int 1)) (dCal S__law_pick (dCons (dVar 2) (dCons (dC (.int 2)) (dCons (dC (.int 9)) dNil))))) (dCons (dOp pSub (dOp pPow (dC (.int 10)) (dC (.int 18))) (dCal S__law_pick (dCons (dVar 2) (dCons (dC (.int 8)) (dCons (dC (.int 2)) dNil))))) dNil)))) (dName 5))
    (dSeq (dAsg (dOp pIx (dVar 5) (dCal S__law_pick (dCons (dVar 2) (dCons (dC (.int 3)) (dCons (dC (.int 3)) dNil))))) (dName 6))
    (dSeq (dAsg (dTup (dCons (dCal S__law_pick (dCons (dVar 2) (dCons (dC (.int 4)) (dCons (dVar 3) dNil)))) (dCons (dCal S__law_pick (dCons (dVar 2) (dCons (dC (.int 5)) (dCons (dVar 3) dNil)))) (dCons (dVar 6) dNil)))) (dName 7))
    (dSeq (dIfS (dTst (dOp pLtI (dCal S__law_pick (dCons (dVar 2) (dCons (dC (.int 6)) (dCons (dC (.int 5)) dNil)))) (dC (.int 3)))) (dRet (dOp pPlus (dOp pPlus (dTup (dCons (dC (.str "step")) dNil)) (dVar 7)) (dTup (dCons (dCal S__law_table (dCons (dVar 2) (dCons (dC (.int 30)) (dCons (dVar 4) (dCons (dVar 4) dNil))))) dNil)))) dNext)
    (dSeq (dAsg (dCal S__law_pick (dCons (dVar 2) (dCons (dC (.int 7)) (dCons (dCB pLen (dCons (dVar 0) dNil)) dNil)))) (dName 8))
    (dSeq (dAsg (dCal S__law_table (dCons (dVar 2) (dCons (dC (.int 60)) (dCons (dVar 4) (dCons (dOp pIx (dOp pIx (dVar 0) (dVar 8)) (dC (.int 1))) dNil))))) (dName 9))
    (dSeq (dAsg (dCal S__law_table (dCons (dVar 2) (dCons (dC (.int 90)) (dCons (dOp pIx (dOp pIx (dVar 0) (dVar 8)) (dC (.int 1))) (dCons (dVar 4) dNil))))) (dName 10))
    (dRet (dOp pPlus (dOp pPlus (dTup (dCons (dC (.str "call")) dNil)) (dVar 7)) (dTup (dCons (dVar 8) (dCons (dVar 9) (dCons (dVar 10) (dCons (dCal S__law_table (dCons (dVar 2) (dCons (dC (.int 120)) (dCons (dVar 4) (dCons (dVar 4) dNil))))) dNil)))))))))))))))
noncomputable abbrev Hd := List (Nat × Nat)
noncomputable def pD (x : Nat × Nat) : D := .tup [nD x.1, nD x.2]
noncomputable def hOk (hs : Hd) : Prop := ∀ (f : Nat) (x : Nat × Nat), hs[f]? = some x → 1 ≤ x.1 ∧ x.1 ≤ 10 ∧ 1 ≤ x.2 ∧ x.2 ≤ 6
noncomputable def eOkH (hs : Hd) (x : Nat × Nat) (e : Edge) : Prop := e.p < x.1 ∧ e.q < x.1 ∧ 1 ≤ e.cost ∧ e.cost ≤ 10 ^ 18 ∧ match e.k with
  | .step t => tOk t x.2 x.2
  | .call g i b o => ∃ y, hs[g]? = some y ∧ tOk i x.2 y.2 ∧ tOk b y.2 x.2 ∧ tOk o x.2 x.2
noncomputable def S__law_edge : DSp := fun ds h Q => ∃ (c : Int) (hd : D) (hs : Hd) (f : Nat) (x : Nat × Nat), ds = [hd, nD f, .int c] ∧ lsOf h hd = some (hs.map pD) ∧ hs[f]? = some x ∧ hOk hs ∧ hs.length ≤ 6 ∧ ∀ e, eOkH hs x e → Q (eD e) h
theorem imp__law_edge : ∀ ds h Q, S__law_edge ds h Q → runD 11 b__law_edge ds h Q := by
  rintro ds h Q ⟨c, hd, hs, f, x, rfl, hh, hx, ok, h6, q⟩
  obtain ⟨x1, x2, x3, x4⟩ := ok f x hx
  have ax : atI (hs.map pD) (f : Int) = some (pD x) := by rw [atN, List.getElem?_map, hx]; rfl
  simp only [runD, runX, b__law_edge, List.map_cons, List.map_nil, List.cons_append, List.nil_append, List.length_cons, List.length_nil, List.replicate, Nat.reduceSub, Nat.reduceAdd, Nat.zero_add, Nat.sub_self]
  (try dsimp only); refine seq_intro fun N hN => ?_
  simp only [ix_ls hh, ax, pD, VV]
  refine ⟨trivial, ?_⟩
  subst hN
  (try dsimp only); refine seq_intro fun N hN => ?_
  have e10 : (10 : Int) ^ (18 : Int).toNat = 1000000000000000000 := by decide
  simp only [VV]
  rw [e10]
  refine ⟨⟨by decide, by decide, by decide⟩, by decide, c, 2, 9, rfl, by first | decide | omega, by first | decide | omega, fun r1 hr1 => ?_⟩
  simp only [VV]
  refine ⟨⟨by decide, by decide, by decide⟩, c, 8, 2, rfl, by first | decide | omega, by first | decide | omega, fun r2 hr2 => ?_⟩
  simp only [pSub, VV]
  have h0 := Int.emod_nonneg c (show (1000000000000000000 : Int) ≠ 0 by decide)
  have h1 := Int.emod_lt_of_pos c (show (0 : Int) < 1000000000000000000 by decide)
  have costs : ∀ r3 : Nat, r3 < 3 → ∃ z : Nat, 1 ≤ z ∧ z ≤ 10 ^ 18 ∧ atI [D.int (1 + c % 1000000000000000000), D.int (1 + (r1 : Int)), D.int (1000000000000000000 - (r2 : Int))] (r3 : Int) = some (nD z) := by
    intro r3 hr3
    have : r3 = 0 ∨ r3 = 1 ∨ r3 = 2 := by first | decide | omega
    rcases this with rfl | rfl | rfl
    · exact ⟨(1 + c % 1000000000000000000).toNat, by first | decide | omega, by first | decide | omega, by show some (D.int _) = some (D.int _); rw [Int.toNat_of_nonneg (by first | decide | omega)]⟩
    · exact ⟨1 + r1, by first | decide | omega, by first | decide | omega, by show some (D.int _) = some (D.int _); rw [Int.natCast_add]; rfl⟩
    · exact ⟨(1000000000000000000 - (r2 : Int)).toNat, by first | decide | omega, by first | decide | omega, by show some (D.int _) = some (D.int _); rw [Int.toNat_of_nonneg (by first | decide | omega)]⟩
  subst hN
  (try dsimp only); refine seq_intro fun N hN => ?_
  simp only [VV]
  refine ⟨c, 3, 3, rfl, by first | decide | omega, by first | decide | omega, fun r3 hr3 => ?_⟩
  obtain ⟨z, z1, z2, ez⟩ := costs r3 hr3
  simp only [ez, VV]
  subst hN
  (try dsimp only); refine seq_intro fun N hN => ?_
  simp only [VV]
  refine ⟨c, 4, x.1, rfl, by first | decide | omega, by first | decide | omega, fun r4 hr4 => ⟨c, 5, x.1, rfl, by first | decide | omega, by first | decide | omega, fun r5 hr5 => ?_⟩⟩
  subst hN
  (try dsimp only); refine seq_intro fun N hN => ?_
  simp only [VV]
  refine ⟨c, 6, 5, rfl, by first | decide | omega, by first | decide | omega, fun r6 hr6 => ?_⟩
  simp only [VV]
  by_cases c6 : (r6 : Int) < 3
  · simp only [c6, VV]
    refine ⟨by simp, by decide, c, 30, x.2, x.2, rfl, by first | decide | omega, by first | decide | omega, by first | decide | omega, by first | decide | omega, fun t ht => ?_⟩
    simp only [VV]
    refine ⟨by simp, by decide, ?_⟩
    exact q ⟨r4, r5, z, .step t⟩ ⟨hr4, hr5, z1, z2, ht⟩
  · simp only [c6, VV]
    have hp : 0 < hs.length := by have := (List.getElem?_eq_some_iff.mp hx).1; omega
    subst hN
    (try dsimp only); refine seq_intro fun N hN => ?_
    simp only [len_ls hh, List.length_map, VV]
    refine ⟨c, 7, hs.length, rfl, by first | decide | omega, by first | decide | omega, fun g hg => ?_⟩
    obtain ⟨y, hy⟩ : ∃ y, hs[g]? = some y := ⟨_, List.getElem?_eq_getElem hg⟩
    obtain ⟨y1, y2, y3, y4⟩ := ok g y hy
    have ay : atI (hs.map pD) (g : Int) = some (pD y) := by rw [atN, List.getElem?_map, hy]; rfl
    subst hN
    (try dsimp only); refine seq_intro fun N hN => ?_
    simp only [ix_ls hh, ay, pD, VV]
    refine ⟨c, 60, x.2, y.2, rfl, by first | decide | omega, by first | decide | omega, by first | decide | omega, by first | decide | omega, fun t1 ht1 => ?_⟩
    subst hN
    (try dsimp only); refine seq_intro fun N hN => ?_
    simp only [ix_ls hh, ay, pD, VV]
    refine ⟨c, 90, y.2, x.2, rfl, by first | decide | omega, by first | decide | omega, by first | decide | omega, by first | decide | omega, fun t2 ht2 => ?_⟩
    subst hN
    simp only [VV]
    refine ⟨by simp, by decide, c, 120, x.2, x.2, rfl, by first | decide | omega, by first | decide | omega, by first | decide | omega, by first | decide | omega, fun t3 ht3 => ?_⟩
    simp only [VV]
    refine ⟨by simp, by decide, ?_⟩
    exact q ⟨r4, r5, z, .call g t1 t2 t3⟩ ⟨hr4, hr5, z1, z2, y, hy, ht1, ht2, ht3⟩
theorem ok__law_edge {f : Addr} {fd : FuncData} (F : Fun K "_law_edge" "_law_edge" s__law_edge f fd) (T : Txt P w K mg) (C__law_pick : Cal P w K mg base 1 "_law_pick" ["_law_cell", "_law_k", "_law_many"] (spD K 3 S__law_pick)) (C__law_table : Cal P w K mg base 2 "_law_table" ["_law_cell", "_law_k", "_law_n", "_law_to"] (spD K 4 S__law_table)) : FnOk P w K mg base CX0 3 f fd ["_law_sizes", "_law_f", "_law_cell"] (spD K 3 S__law_edge) :=
  fn_ok (k := 2) (b := b__law_edge) F sc__law_edge (fun cdv A outer s H E hr => by
    refine ss_cons ?_ ?_
    · exact s_asg (se_ix ok_ix (sv 0) (sv 1) (fun _ _ => rfl)) (sg_tup rfl (sgs_cons (sg_name (i := 3) sc__law_edge.nd rfl (Or.inl rfl)) (sgs_cons (sg_name (i := 4) sc__law_edge.nd rfl (Or.inl rfl)) sgs_nil)))
    refine ss_cons ?_ ?_
    · refine s_set (i := 5) ?_ ?_ ?_ ?_
      · exact sc__law_edge.nd
      · exact rfl
      · exact Or.inl rfl
      refine se_v ?_
      refine sn_lst (n := 3) ?_
      refine sa_cons ?_ ?_
      · exact se_op ok_plus se_int (se_op ok_mod (sv 2) (se_op ok_pow se_int se_int))
      refine sa_cons ?_ ?_
      · exact se_op ok_plus se_int (se_cal C__law_pick (hr.mono (by decide)) rfl (sa_cons (sv 2) (sa_cons se_int (sa_cons se_int sa_nil))))
      refine sa_cons ?_ ?_
      · exact se_op ok_sub (se_op ok_pow se_int se_int) (se_cal C__law_pick (hr.mono (by decide)) rfl (sa_cons (sv 2) (sa_cons se_int (sa_cons se_int sa_nil))))
      exact sa_nil
    refine ss_cons ?_ ?_
    · refine s_set (i := 6) ?_ ?_ ?_ ?_
      · exact sc__law_edge.nd
      · exact rfl
      · exact Or.inl rfl
      exact se_ix ok_ix (sv 5) (se_cal C__law_pick (hr.mono (by decide)) rfl (sa_cons (sv 2) (sa_cons se_int (sa_cons se_int sa_nil)))) (fun _ _ => rfl)
    refine ss_cons ?_ ?_
    · refine s_set (i := 7) ?_ ?_ ?_ ?_
      · exact sc__law_edge.nd
      · exact rfl
      · exact Or.inl rfl
      refine se_tup (n := 3) ?_
      refine sa_cons ?_ ?_
      · exact se_cal C__law_pick (hr.mono (by decide)) rfl (sa_cons (sv 2) (sa_cons se_int (sa_cons (sv 3) sa_nil)))
      refine sa_cons ?_ ?_
      · exact se_cal C__law_pick (hr.mono (by decide)) rfl (sa_cons (sv 2) (sa_cons se_int (sa_cons (sv 3) sa_nil)))
      refine sa_cons ?_ ?_
      · exact sv 6
      exact sa_nil
    refine ss_cons ?_ ?_
    · refine s_if ?_ ?_ ?_
      · exact st_cmp ok_ltI (se_cal C__law_pick (hr.mono (by decide)) rfl (sa_cons (sv 2) (sa_cons se_int (sa_cons se_int sa_nil)))) se_int (nomark _)
      · refine ss_one ?_
        refine s_ret ?_
        exact se_op ok_plus (se_op ok_plus (se_tup (sa_cons se_str sa_nil)) (sv 7)) (se_tup (sa_cons (se_cal C__law_table (hr.mono (by decide)) rfl (sa_cons (sv 2) (sa_cons se_int (sa_cons (sv 4) (sa_cons (sv 4) sa_nil))))) sa_nil))
      exact ss_nil
    refine ss_cons ?_ ?_
    · refine s_set (i := 8) ?_ ?_ ?_ ?_
      · exact sc__law_edge.nd
      · exact rfl
      · exact Or.inl rfl
      exact se_cal C__law_pick (hr.mono (by decide)) rfl (sa_cons (sv 2) (sa_cons se_int (sa_cons (se_callB ok_len rfl T.b_len PySem.boot_len (sa_cons (sv 0) sa_nil)) sa_nil)))
    refine ss_cons ?_ ?_
    · refine s_set (i := 9) ?_ ?_ ?_ ?_
      · exact sc__law_edge.nd
      · exact rfl
      · exact Or.inl rfl
      exact se_cal C__law_table (hr.mono (by decide)) rfl (sa_cons (sv 2) (sa_cons se_int (sa_cons (sv 4) (sa_cons (se_ix ok_ix (se_ix ok_ix (sv 0) (sv 8) (fun _ _ => rfl)) se_int (fun _ _ => rfl)) sa_nil))))
    refine ss_cons ?_ ?_
    · refine s_set (i := 10) ?_ ?_ ?_ ?_
      · exact sc__law_edge.nd
      · exact rfl
      · exact Or.inl rfl
      exact se_cal C__law_table (hr.mono (by decide)) rfl (sa_cons (sv 2) (sa_cons se_int (sa_cons (se_ix ok_ix (se_ix ok_ix (sv 0) (sv 8) (fun _ _ => rfl)) se_int (fun _ _ => rfl)) (sa_cons (sv 4) sa_nil))))
    refine ss_one ?_
    refine s_ret ?_
    exact se_op ok_plus (se_op ok_plus (se_tup (sa_cons se_str sa_nil)) (sv 7)) (se_tup (sa_cons (sv 8) (sa_cons (sv 9) (sa_cons (sv 10) (sa_cons (se_cal C__law_table (hr.mono (by decide)) rfl (sa_cons (sv 2) (sa_cons se_int (sa_cons (sv 4) (sa_cons (sv 4) sa_nil))))) sa_nil)))))) imp__law_edge
noncomputable def b__law_spoilt_edge : DS := (dSeq (dAsg (dCal S__law_pick (dCons (dVar 3) (dCons (dC (.int 23)) (dCons (dC (.int 5)) dNil)))) (dName 4))
    (dSeq (dAsg (dOp pMulI (dOp pMod (dOp pDiv (dVar 3) (dC (.int 7))) (dOp pPow (dC (.int 10)) (dC (.int 18)))) (dCal S__law_pick (dCons (dVar 3) (dCons (dC (.int 31)) (dCons (dC (.int 2)) dNil))))) (dName 5))
    (dSeq (dIfS (dTst (dOp (pEq false) (dVar 4) (dC (.int 0)))) (dRet (dOp pPlus (dOp pPlus (dSl (dVar 2) dNoPart (dPart (dC (.int 1)))) (dTup (dCons (dOp pIx (dV (dCons (dOp pPlus (dOp pIx (dOp pIx (dVar 0) (dVar 1)) (dC (.int 0))) (dVar 5)) (dCons (dUn pNeg (dC (.int 1))) dNil))) (dCal S__law_pick (dCons (dVar 3) (dCons (dC (.int 24)) (dCons (dC (.int 2)) dNil))))) dNil))) (dSl (dVar 2) (dPart (dC (.int 2))) dNoPart))) dNext)
    (dSeq (dIfS (dTst (dOp (pEq false) (dVar 4) (dC (.int 1)))) (dRet (dOp pPlus (dOp pPlus (dSl (dVar 2) dNoPart (dPart (dC (.int 2)))) (dTup (dCons (dOp pIx (dV (dCons (dOp pPlus (dOp pIx (dOp pIx (dVar 0) (dVar 1)) (dC (.int 0))) (dVar 5)) (dCons (dUn pNeg (dC (.int 1))) dNil))) (dCal S__law_pick (dCons (dVar 3) (dCons (dC (.int 24)) (dCons (dC (.int 2)) dNil))))) dNil))) (dSl (dVar 2) (dPart (dC (.int 3))) dNoPart))) dNext)
    (dSeq (dIfS (dTst (dOp (pEq false) (dVar 4) (dC (.int 2)))) (dRet (dOp pPlus (dOp pPlus (dSl (dVar 2) dNoPart (dPart (dC (.int 3)))) (dTup (dCons (dOp pIx (dV (dCons (dC (.int 0)) (dCons (dOp pPlus (dOp pPlus (dOp pPow (dC (.int 10)) (dC (.int 18))) (dC (.int 1))) (dVar 5)) (dCons (dUn pNeg (dC (.int 1))) dNil)))) (dCal S__law_pick (dCons (dVar 3) (dCons (dC (.int 24)) (dCons (dC (.int 3)) dNil))))) dNil))) (dSl (dVar 2) (dPart (dC (.int 4))) dNoPart))) dNext)
    (dSeq (dIfS (dTst (dOp (pEq false) (dOp pIx (dVar 2) (dC (.int 0))) (dC (.str "step")))) (dRet (dOp pPlus (dSl (dVar 2) dNoPart (dPart (dC (.int 4)))) (dTup (dCons (dCal S__law_spoilt_mask (dCons (dOp pIx (dVar 2) (dC (.int 4))) (dCons (dVar 3) (dCons (dOp pIx (dOp pIx (dVar 0) (dVar 1)) (dC (.int 1))) dNil)))) dNil)))) dNext)
    (dSeq (dIfS (dTst (dOp (pEq false) (dVar 4) (dC (.int 3)))) (dRet (dOp pPlus (dOp pPlus (dSl (dVar 2) dNoPart (dPart (dC (.int 4)))) (dTup (dCons (dOp pIx (dV (dCons (dOp pPlus (dCB pLen (dCons (dVar 0) dNil)) (dVar 5)) (dCons (dUn pNeg (dC (.int 1))) dNil))) (dCal S__law_pick (dCons (dVar 3) (dCons (dC (.int 24)) (dCons (dC (.int 2)) dNil))))) dNil))) (dSl (dVar 2) (dPart (dC (.int 5))) dNoPart))) dNext)
    (dSeq (dAsg (dOp pPlus (dC (.int 5)) (dCal S__law_pick (dCons (dVar 3) (dCons (dC (.int 25)) (dCons (dC (.int 3)) dNil))))) (dName 6))
    (dSeq (dAsg (dOp pIx (dOp pIx (dVar 0) (dOp pIx (dV (dCons (dOp pIx (dVar 2) (dC (.int 4))) (dCons (dVar 1) (dCons (dVar 1) dNil)))) (dOp pSub (dVar 6) (dC (.int 5))))) (dC (.int 1))) (dName 7))
    (dRet (dOp pPlus (dOp pPlus (dSl (dVar 2) dNoPart (dPart (dVar 6))) (dTup (dCons (dCal S__law_spoilt_mask (dCons (dOp pIx (dVar 2) (dVar 6)) (dCons (dVar 3) (dCons (dVar 7) dNil)))) dNil))) (dSl (dVar 2) (dPart (dOp pPlus (dVar 6) (dC (.int 1)))) dNoPart))))))))))))
noncomputable def S__law_spoilt_edge : DSp := fun ds h Q => ∃ (C : Chart) (f : Nat) (F : Fn) (e : Edge) (cell : Int), ds = [cD C, nD f, eD e, .int cell] ∧ WF C ∧ C[f]? = some F ∧ eOk C F e ∧ ∀ e' : GE, eF (nsG (gC C)) (gF F).1 e' = false → Q (geD e') h
theorem cDx (h : Hh) {C : Chart} {f : Nat} {F : Fn} (hF : C[f]? = some F) : ixD h (cD C) (nD f) = some (.tup [nD F.places, nD F.facts, .lst (F.edges.map eD)]) := by
  show atI (C.map fD) (f : Int) = _
  rw [atN, List.getElem?_map, hF]; rfl
theorem imp__law_spoilt_edge : ∀ ds h Q, S__law_spoilt_edge ds h Q → runD 8 b__law_spoilt_edge ds h Q := by
  rintro ds h Q ⟨C, f, F, e, cell, rfl, wf, hF, eok, q⟩
  obtain ⟨w1, w2, w3, w4, w5, w6⟩ := wf.fn f F hF
  obtain ⟨p, q', c, k⟩ := e
  obtain ⟨o1, o2, o3, o4, o5⟩ := eok
  dsimp only at o1 o2 o3 o4 o5
  have eD1 : eD ⟨p, q', c, k⟩ = .tup (.str (gwK (gE ⟨p, q', c, k⟩).k) :: nD p :: nD q' :: nD c :: geR (gE ⟨p, q', c, k⟩).k) := by rw [← geD_gE]; exact geD_eq ..
  have t1 : ∀ xs : List D, cutD xs none (some 1) = xs.take 1 := fun xs => cut_take 1
  have t2 : ∀ xs : List D, cutD xs none (some 2) = xs.take 2 := fun xs => cut_take 2
  have t3 : ∀ xs : List D, cutD xs none (some 3) = xs.take 3 := fun xs => cut_take 3
  have t4 : ∀ xs : List D, cutD xs none (some 4) = xs.take 4 := fun xs => cut_take 4
  have d2 : ∀ xs : List D, cutD xs (some 2) none = xs.drop 2 := fun xs => cut_drop 2
  have d3 : ∀ xs : List D, cutD xs (some 3) none = xs.drop 3 := fun xs => cut_drop 3
  have d4 : ∀ xs : List D, cutD xs (some 4) none = xs.drop 4 := fun xs => cut_drop 4
  have d5 : ∀ xs : List D, cutD xs (some 5) none = xs.drop 5 := fun xs => cut_drop 5
  have e18 : (10 : Int) ^ (18 : Int).toNat = 1000000000000000000 := by decide
  have gl : ∀ k : GK, (geR k).length ≤ 4 := fun k => by cases k <;> simp [geR]
  simp only [runD, runX, b__law_spoilt_edge, List.map_cons, List.map_nil, List.cons_append, List.nil_append, List.length_cons, List.length_nil, List.replicate, Nat.reduceSub, Nat.reduceAdd, Nat.zero_add, Nat.sub_self]
  (try dsimp only); refine seq_intro fun N hN => ?_
  simp only [VV]
  refine ⟨cell, 23, 5, rfl, by first | decide | omega, by first | decide | omega, fun kd hkd => ?_⟩
  subst hN
  (try dsimp only); refine seq_intro fun N hN => ?_
  simp only [VV]
  rw [e18]
  refine ⟨by decide, ⟨by decide, by decide, by decide⟩, by decide, cell, 31, 2, rfl, by first | decide | omega, by first | decide | omega, fun r2 hr2 => ?_⟩
  have f0 := Int.emod_nonneg (cell / 7) (show (1000000000000000000 : Int) ≠ 0 by decide)
  have f1 := Int.emod_lt_of_pos (cell / 7) (show (0 : Int) < 1000000000000000000 by decide)
  simp only [VV]
  refine ⟨mulS' (by first | decide | omega), ?_⟩
  have far0 : 0 ≤ cell / 7 % 1000000000000000000 * (r2 : Int) := Int.mul_nonneg f0 (by first | decide | omega)
  generalize cell / 7 % 1000000000000000000 * (r2 : Int) = far at far0
  subst hN
  have two : ∀ r : Nat, r < 2 → ∃ v : Int, ¬ (0 ≤ v ∧ v < (F.places : Int)) ∧ atI [D.int ((F.places : Int) + far), D.int (-1)] (r : Int) = some (.int v) := fun r hr => by
    obtain rfl | rfl : r = 0 ∨ r = 1 := by first | decide | omega
    · exact ⟨_, by first | decide | omega, rfl⟩
    · exact ⟨_, by first | decide | omega, rfl⟩
  (try dsimp only); refine seq_intro fun N hN => ?_
  by_cases k0 : ((kd : Int) == 0) = true
  · simp only [k0, eD1, cDx _ hF, t1, d2, List.take_succ_cons, List.take_zero, List.drop_succ_cons, List.drop_zero, VV]
    refine ⟨cell, 24, 2, rfl, by first | decide | omega, by first | decide | omega, fun r hr => ?_⟩
    obtain ⟨v, hv, ev⟩ := two r hr
    simp only [ev, VV]
    refine ⟨by simp, by decide, by simp, by have := gl (gE ⟨p, q', c, k⟩).k; omega, ?_⟩
    have := q ⟨v, q', c, (gE ⟨p, q', c, k⟩).k⟩ (eF_k fun z => hv ⟨z.1, z.2.1⟩)
    rw [geD_eq] at this
    exact this
  simp only [k0, VV]
  subst hN
  (try dsimp only); refine seq_intro fun N hN => ?_
  by_cases k1 : ((kd : Int) == 1) = true
  · simp only [k1, eD1, cDx _ hF, t2, d3, List.take_succ_cons, List.take_zero, List.drop_succ_cons, List.drop_zero, VV]
    refine ⟨cell, 24, 2, rfl, by first | decide | omega, by first | decide | omega, fun r hr => ?_⟩
    obtain ⟨v, hv, ev⟩ := two r hr
    simp only [ev, VV]
    refine ⟨by simp, by decide, by simp, by have := gl (gE ⟨p, q', c, k⟩).k; omega, ?_⟩
    have := q ⟨p, v, c, (gE ⟨p, q', c, k⟩).k⟩ (eF_k fun z => hv ⟨z.2.2.1, z.2.2.2.1⟩)
    rw [geD_eq] at this
    exact this
  simp only [k1, VV]
  subst hN
  (try dsimp only); refine seq_intro fun N hN => ?_
  by_cases k2 : ((kd : Int) == 2) = true
  · simp only [k2, eD1, t3, d4, List.take_succ_cons, List.take_zero, List.drop_succ_cons, List.drop_zero, VV]
    rw [e18]
    refine ⟨⟨by decide, by decide, by decide⟩, cell, 24, 3, rfl, by first | decide | omega, by first | decide | omega, fun r hr => ?_⟩
    obtain ⟨v, hv, ev⟩ : ∃ v : Int, ¬ (1 ≤ v ∧ v ≤ 1000000000000000000) ∧ atI [D.int 0, D.int (1000000000000000000 + 1 + far), D.int (-1)] (r : Int) = some (.int v) := by
      obtain rfl | rfl | rfl : r = 0 ∨ r = 1 ∨ r = 2 := by first | decide | omega
      · exact ⟨_, by first | decide | omega, rfl⟩
      · exact ⟨_, by first | decide | omega, rfl⟩
      · exact ⟨_, by first | decide | omega, rfl⟩
    simp only [ev, VV]
    refine ⟨by simp, by decide, by simp, by have := gl (gE ⟨p, q', c, k⟩).k; omega, ?_⟩
    have := q ⟨p, q', v, (gE ⟨p, q', c, k⟩).k⟩ (eF_k fun z => hv ⟨z.2.2.2.2.1, z.2.2.2.2.2⟩)
    rw [geD_eq] at this
    exact this
  simp only [k2, VV]
  clear eD1
  subst hN
  cases k with
  | step t =>
    (try dsimp only); refine seq_intro fun N hN => ?_
    simp only [eD, sk_step, sq_step_step, t4, List.take_succ_cons, List.take_zero, cDx _ hF, VV]
    refine ⟨t, cell, F.facts, rfl, fun z => ?_, by rw [o5.1]; exact w4, w4, fun t' ht' => ?_⟩
    · have := o5.1; rw [z] at this; simp at this; omega
    · simp only [VV]
      refine ⟨by simp, by decide, ?_⟩
      rw [o5.1] at ht'
      exact q ⟨p, q', c, .step t'⟩ (eF_t ht')
  | call g i b o =>
    obtain ⟨G, hG, t5, t6, t7⟩ := o5
    obtain ⟨_, _, g3, g4, _⟩ := wf.fn g G hG
    have hg : g < C.length := (List.getElem?_eq_some_iff.mp hG).1
    have lnN : (nsG (gC C)).length = C.length := by unfold nsG gC; simp
    have lc : lenD h (cD C) = some C.length := by show some (C.map fD).length = _; rw [List.length_map]
    (try dsimp only); refine seq_intro fun N hN => ?_
    simp only [eD, sk_step, sk_call, sq_call_step, VV]
    subst hN
    (try dsimp only); refine seq_intro fun N hN => ?_
    by_cases k3 : ((kd : Int) == 3) = true
    · simp only [k3, eD, t4, d5, lc, List.take_succ_cons, List.take_zero, List.drop_succ_cons, List.drop_zero, VV]
      refine ⟨cell, 24, 2, rfl, by first | decide | omega, by first | decide | omega, fun r hr => ?_⟩
      obtain ⟨v, hv, ev⟩ : ∃ v : Int, ¬ (0 ≤ v ∧ v < (C.length : Int)) ∧ atI [D.int ((C.length : Int) + far), D.int (-1)] (r : Int) = some (.int v) := by
        obtain rfl | rfl : r = 0 ∨ r = 1 := by first | decide | omega
        · exact ⟨_, by first | decide | omega, rfl⟩
        · exact ⟨_, by first | decide | omega, rfl⟩
      simp only [ev, VV]
      refine ⟨by simp, by decide, by simp, by decide, ?_⟩
      have := q ⟨p, q', c, .call v (gT i) (gT b) (gT o)⟩ (eF_c (by unfold cF; rw [lnN, if_neg hv]))
      have this : Q (.tup [.str "call", nD p, nD q', nD c, .int v, zT (gT i), zT (gT b), zT (gT o)]) h := this
      rw [zT_gT, zT_gT, zT_gT] at this
      exact this
    simp only [k3, VV]
    subst hN
    (try dsimp only); refine seq_intro fun N hN => ?_
    simp only [VV]
    refine ⟨cell, 25, 3, rfl, by first | decide | omega, by first | decide | omega, fun r hr => ?_⟩
    simp only [VV]
    have mk : ∀ (i' b' o' : List Int), (tF i' F.facts G.facts && (tF b' G.facts F.facts && tF o' F.facts F.facts)) = false → Q (.tup [.str "call", nD p, nD q', nD c, nD g, zT i', zT b', zT o']) h := fun i' b' o' z => by
      refine q ⟨p, q', c, .call g i' b' o'⟩ (eF_c ?_)
      unfold cF
      rw [if_pos ⟨by first | decide | omega, by rw [lnN]; omega⟩, Int.toNat_natCast, nsC_get hG]
      exact z
    obtain rfl | rfl | rfl : r = 0 ∨ r = 1 ∨ r = 2 := by first | decide | omega
    · subst hN
      (try dsimp only); refine seq_intro fun N hN => ?_
      have a1 : ∀ a b c : D, atI [a, b, c] (5 + ((0 : Nat) : Int) - 5) = some a := fun _ _ _ => rfl
      simp only [eD, a1, cDx _ hG, pSub, VV]
      subst hN
      have a2 : ∀ a b c d e f g k : D, atI [a, b, c, d, e, f, g, k] (5 + ((0 : Nat) : Int)) = some f := fun _ _ _ _ _ _ _ _ => rfl
      have a3 : ∀ xs : List D, cutD xs none (some (5 + ((0 : Nat) : Int))) = xs.take 5 := fun xs => cut_take 5
      have a4 : ∀ xs : List D, cutD xs (some (5 + ((0 : Nat) : Int) + 1)) none = xs.drop 6 := fun xs => cut_drop 6
      simp only [eD, a2, a3, a4, List.take_succ_cons, List.take_zero, List.drop_succ_cons, List.drop_zero, VV]
      refine ⟨i, cell, G.facts, rfl, fun z => ?_, by rw [t5.1]; exact w4, g4, fun t' ht' => ?_⟩
      · have := t5.1; rw [z] at this; simp at this; omega
      · simp only [VV]
        refine ⟨by simp, by decide, by simp, by decide, ?_⟩
        rw [t5.1] at ht'
        have := mk t' (gT b) (gT o) (by rw [ht']; rfl)
        rw [zT_gT, zT_gT] at this
        exact this
    · subst hN
      (try dsimp only); refine seq_intro fun N hN => ?_
      have a1 : ∀ a b c : D, atI [a, b, c] (5 + ((1 : Nat) : Int) - 5) = some b := fun _ _ _ => rfl
      simp only [eD, a1, cDx _ hF, pSub, VV]
      subst hN
      have a2 : ∀ a b c d e f g k : D, atI [a, b, c, d, e, f, g, k] (5 + ((1 : Nat) : Int)) = some g := fun _ _ _ _ _ _ _ _ => rfl
      have a3 : ∀ xs : List D, cutD xs none (some (5 + ((1 : Nat) : Int))) = xs.take 6 := fun xs => cut_take 6
      have a4 : ∀ xs : List D, cutD xs (some (5 + ((1 : Nat) : Int) + 1)) none = xs.drop 7 := fun xs => cut_drop 7
      simp only [eD, a2, a3, a4, List.take_succ_cons, List.take_zero, List.drop_succ_cons, List.drop_zero, VV]
      refine ⟨b, cell, F.facts, rfl, fun z => ?_, by rw [t6.1]; exact g4, w4, fun t' ht' => ?_⟩
      · have := t6.1; rw [z] at this; simp at this; omega
      · simp only [VV]
        refine ⟨by simp, by decide, by simp, by decide, ?_⟩
        rw [t6.1] at ht'
        have := mk (gT i) t' (gT o) (by rw [ht', Bool.false_and, Bool.and_false])
        rw [zT_gT, zT_gT] at this
        exact this
    · subst hN
      (try dsimp only); refine seq_intro fun N hN => ?_
      have a1 : ∀ a b c : D, atI [a, b, c] (5 + ((2 : Nat) : Int) - 5) = some c := fun _ _ _ => rfl
      simp only [eD, a1, cDx _ hF, pSub, VV]
      subst hN
      have a2 : ∀ a b c d e f g k : D, atI [a, b, c, d, e, f, g, k] (5 + ((2 : Nat) : Int)) = some k := fun _ _ _ _ _ _ _ _ => rfl
      have a3 : ∀ xs : List D, cutD xs none (some (5 + ((2 : Nat) : Int))) = xs.take 7 := fun xs => cut_take 7
      have a4 : ∀ xs : List D, cutD xs (some (5 + ((2 : Nat) : Int) + 1)) none = xs.drop 8 := fun xs => cut_drop 8
      simp only [eD, a2, a3, a4, List.take_succ_cons, List.take_zero, List.drop_succ_cons, List.drop_zero, VV]
      refine ⟨o, cell, F.facts, rfl, fun z => ?_, by rw [t7.1]; exact w4, w4, fun t' ht' => ?_⟩
      · have := t7.1; rw [z] at this; simp at this; omega
      · simp only [VV]
        refine ⟨by simp, by decide, by simp, by decide, ?_⟩
        rw [t7.1] at ht'
        have := mk (gT i) (gT b) t' (by rw [ht', Bool.and_false, Bool.and_false])
        rw [zT_gT, zT_gT] at this
        exact this
theorem ok__law_spoilt_edge {f : Addr} {fd : FuncData} (F : Fun K "_law_spoilt_edge" "_law_spoilt_edge" s__law_spoilt_edge f fd) (T : Txt P w K mg) (C__law_pick : Cal P w K mg base 1 "_law_pick" ["_law_cell", "_law_k", "_law_many"] (spD K 3 S__law_pick)) (C__law_spoilt_mask : Cal P w K mg base 2 "_law_spoilt_mask" ["_law_table_here", "_law_cell", "_law_facts"] (spD K 3 S__law_spoilt_mask)) : FnOk P w K mg base CX0 3 f fd ["_law_chart_here", "_law_f", "_law_edge_here", "_law_cell"] (spD K 4 S__law_spoilt_edge) :=
  fn_ok (k := 2) (b := b__law_spoilt_edge) F sc__law_spoilt_edge (fun cdv A outer s H E hr => by
    refine ss_cons ?_ ?_
    · refine s_set (i := 4) ?_ ?_ ?_ ?_
      · exact sc__law_spoilt_edge.nd
      · exact rfl
      · exact Or.inl rfl
      exact se_cal C__law_pick (hr.mono (by decide)) rfl (sa_cons (sv 3) (sa_cons se_int (sa_cons se_int sa_nil)))
    refine ss_cons ?_ ?_
    · refine s_set (i := 5) ?_ ?_ ?_ ?_
      · exact sc__law_spoilt_edge.nd
      · exact rfl
      · exact Or.inl rfl
      exact se_op ok_timesI (se_op ok_mod (se_op ok_div (sv 3) se_int) (se_op ok_pow se_int se_int)) (se_cal C__law_pick (hr.mono (by decide)) rfl (sa_cons (sv 3) (sa_cons se_int (sa_cons se_int sa_nil))))
    refine ss_cons ?_ ?_
    · refine s_if ?_ ?_ ?_
      · exact st_cmp (ok_eq hr.units) (sv 4) se_int (nomark _)
      · refine ss_one ?_
        refine s_ret ?_
        exact se_op ok_plus (se_op ok_plus (se_sl (sv 2) so_none (so_some se_int)) (se_tup (sa_cons (se_ix ok_ix (se_v (sn_lst (sa_cons (se_op ok_plus (se_ix ok_ix (se_ix ok_ix (sv 0) (sv 1) (fun _ _ => rfl)) se_int (fun _ _ => rfl)) (sv 5)) (sa_cons (se_un ok_neg se_int) sa_nil)))) (se_cal C__law_pick (hr.mono (by decide)) rfl (sa_cons (sv 3) (sa_cons se_int (sa_cons se_int sa_nil)))) (fun _ _ => rfl)) sa_nil))) (se_sl (sv 2) (so_some se_int) so_none)
      exact ss_nil
    refine ss_cons ?_ ?_
    · refine s_if ?_ ?_ ?_
      · exact st_cmp (ok_eq hr.units) (sv 4) se_int (nomark _)
      · refine ss_one ?_
        refine s_ret ?_
        exact se_op ok_plus (se_op ok_plus (se_sl (sv 2) so_none (so_some se_int)) (se_tup (sa_cons (se_ix ok_ix (se_v (sn_lst (sa_cons (se_op ok_plus (se_ix ok_ix (se_ix ok_ix (sv 0) (sv 1) (fun _ _ => rfl)) se_int (fun _ _ => rfl)) (sv 5)) (sa_cons (se_un ok_neg se_int) sa_nil)))) (se_cal C__law_pick (hr.mono (by decide)) rfl (sa_cons (sv 3) (sa_cons se_int (sa_cons se_int sa_nil)))) (fun _ _ => rfl)) sa_nil))) (se_sl (sv 2) (so_some se_int) so_none)
      exact ss_nil
    refine ss_cons ?_ ?_
    · refine s_if ?_ ?_ ?_
      · exact st_cmp (ok_eq hr.units) (sv 4) se_int (nomark _)
      · refine ss_one ?_
        refine s_ret ?_
        exact se_op ok_plus (se_op ok_plus (se_sl (sv 2) so_none (so_some se_int)) (se_tup (sa_cons (se_ix ok_ix (se_v (sn_lst (sa_cons se_int (sa_cons (se_op ok_plus (se_op ok_plus (se_op ok_pow se_int se_int) se_int) (sv 5)) (sa_cons (se_un ok_neg se_int) sa_nil))))) (se_cal C__law_pick (hr.mono (by decide)) rfl (sa_cons (sv 3) (sa_cons se_int (sa_cons se_int sa_nil)))) (fun _ _ => rfl)) sa_nil))) (se_sl (sv 2) (so_some se_int) so_none)
      exact ss_nil
    refine ss_cons ?_ ?_
    · refine s_if ?_ ?_ ?_
      · exact st_cmp (ok_eq hr.units) (se_ix ok_ix (sv 2) se_int (fun _ _ => rfl)) se_str (nomark _)
      · refine ss_one ?_
        refine s_ret ?_
        exact se_op ok_plus (se_sl (sv 2) so_none (so_some se_int)) (se_tup (sa_cons (se_cal C__law_spoilt_mask (hr.mono (by decide)) rfl (sa_cons (se_ix ok_ix (sv 2) se_int (fun _ _ => rfl)) (sa_cons (sv 3) (sa_cons (se_ix ok_ix (se_ix ok_ix (sv 0) (sv 1) (fun _ _ => rfl)) se_int (fun _ _ => rfl)) sa_nil)))) sa_nil))
      exact ss_nil
    refine ss_cons ?_ ?_
    · refine s_if ?_ ?_ ?_
      · exact st_cmp (ok_eq hr.units) (sv 4) se_int (nomark _)
      · refine ss_one ?_
        refine s_ret ?_
        exact se_op ok_plus (se_op ok_plus (se_sl (sv 2) so_none (so_some se_int)) (se_tup (sa_cons (se_ix ok_ix (se_v (sn_lst (sa_cons (se_op ok_plus (se_callB ok_len rfl T.b_len PySem.boot_len (sa_cons (sv 0) sa_nil)) (sv 5)) (sa_cons (se_un ok_neg se_int) sa_nil)))) (se_cal C__law_pick (hr.mono (by decide)) rfl (sa_cons (sv 3) (sa_cons se_int (sa_cons se_int sa_nil)))) (fun _ _ => rfl)) sa_nil))) (se_sl (sv 2) (so_some se_int) so_none)
      exact ss_nil
    refine ss_cons ?_ ?_
    · refine s_set (i := 6) ?_ ?_ ?_ ?_
      · exact sc__law_spoilt_edge.nd
      · exact rfl
      · exact Or.inl rfl
      exact se_op ok_plus se_int (se_cal C__law_pick (hr.mono (by decide)) rfl (sa_cons (sv 3) (sa_cons se_int (sa_cons se_int sa_nil))))
    refine ss_cons ?_ ?_
    · refine s_set (i := 7) ?_ ?_ ?_ ?_
      · exact sc__law_spoilt_edge.nd
      · exact rfl
      · exact Or.inl rfl
      exact se_ix ok_ix (se_ix ok_ix (sv 0) (se_ix ok_ix (se_v (sn_lst (sa_cons (se_ix ok_ix (sv 2) se_int (fun _ _ => rfl)) (sa_cons (sv 1) (sa_cons (sv 1) sa_nil))))) (se_op ok_sub (sv 6) se_int) (fun _ _ => rfl)) (fun _ _ => rfl)) se_int (fun _ _ => rfl)
    refine ss_one ?_
    refine s_ret ?_
    exact se_op ok_plus (se_op ok_plus (se_sl (sv 2) so_none (so_some (sv 6))) (se_tup (sa_cons (se_cal C__law_spoilt_mask (hr.mono (by decide)) rfl (sa_cons (se_ix ok_ix (sv 2) (sv 6) (fun _ _ => rfl)) (sa_cons (sv 3) (sa_cons (sv 7) sa_nil)))) sa_nil))) (se_sl (sv 2) (so_some (se_op ok_plus (sv 6) se_int)) so_none)) imp__law_spoilt_edge
noncomputable def b_check_edges : DS := (dSeq (dAsg (dC (.int 0)) (dName 1))
    (dFor (dIEnum (dCons (dVar 0) dNil)) (dUnp 2 (dGCons (dName 2) (dGCons (dName 3) dGNil))) (dFor (dIEnum (dCons (dOp pIx (dVar 3) (dC (.int 2))) dNil)) (dUnp 2 (dGCons (dName 4) (dGCons (dName 5) dGNil))) (dSeq (dIfS (dOr (dTst (dOp (pEq false) (dVar 1) (dC (.int 24)))) (dNot (dTr (dCal S_edge_fits (dCons (dVar 0) (dCons (dVar 3) (dCons (dVar 5) dNil))))))) (dRaise "NoChart" ["function", "edge"] (dCons (dVar 2) (dCons (dVar 4) dNil))) dNext)
    (dAug 1 (dC (.int 1)) (pI0 fun i j => i + j))))))
noncomputable def S_check_edges : DSpX := fun ds h Q X' => ∃ (d : D) (G : List GF), ds = [d] ∧ GC h d G ∧ G.length ≤ 6 ∧ (∀ F ∈ G, szF F.1 = true) ∧ (cnt G ≤ 24 → (∀ F ∈ G, ∀ e ∈ F.2, eF (nsG G) F.1 e = true) → Q .non h) ∧ (∀ (p r : List GF) (F : GF) (q s : List GE) (e : GE), G = p ++ F :: r → F.2 = q ++ e :: s → cnt p + q.length ≤ 24 → (∀ F' ∈ p, ∀ e' ∈ F'.2, eF (nsG G) F'.1 e' = true) → (∀ e' ∈ q, eF (nsG G) F.1 e' = true) → (cnt p + q.length = 24 ∨ eF (nsG G) F.1 e = false) → X' "NoChart" [("function", p.length), ("edge", q.length)] h)
theorem imp_check_edges : ∀ ds h Q X', S_check_edges ds h Q X' → runX 6 b_check_edges ds h (Dr h Q) (DrX h X') := by
  rintro ds h Q X' ⟨d, G, rfl, gc, g6, sz, q, x1⟩
  obtain ⟨xs, e1, t⟩ := gc
  have gc : GC h d G := ⟨xs, e1, t⟩
  simp only [runD, runX, b_check_edges, List.map_cons, List.map_nil, List.cons_append, List.nil_append, List.length_cons, List.length_nil, List.replicate, Nat.reduceSub, Nat.reduceAdd, Nat.zero_add, Nat.sub_self]
  (try dsimp only); refine seq_intro fun N hN => ?_
  simp only [VV]
  subst hN
  obtain ⟨w, e2, ok, _⟩ := src_ls e1
  simp only [e2, VV]
  have em : xs = xs.map id := by simp
  rw [em, enumD_map]
  refine forL_map (fun p δ h' => h' = h ∧ (∃ x2 x3 x4 x5 : Option D, δ = [some d, some (nD (cnt (G.take p.length))), x2, x3, x4, x5]) ∧ cnt (G.take p.length) ≤ 24 ∧ ∀ i F, G[i]? = some F → i < p.length → ∀ e ∈ F.2, eF (nsG G) F.1 e = true) ⟨rfl, ⟨none, none, none, none, rfl⟩, by simp [cnt], fun i F _ z => absurd z (Nat.not_lt_zero _)⟩ (fun p δ h' hp => by rw [hp.1]; exact ok) ?_ ?_
  · rintro p ⟨y, i⟩ r δ h' N1 e ⟨rfl, ⟨x2, x3, x4, x5, rfl⟩, c24, fit⟩ hN1
    obtain ⟨hy, rfl⟩ := zip_at e
    obtain ⟨hl, _⟩ := List.getElem?_eq_some_iff.mp hy
    rw [t.len] at hl
    obtain ⟨F, hF⟩ : ∃ F, G[p.length]? = some F := ⟨_, List.getElem?_eq_getElem hl⟩
    obtain ⟨y', hy', e9, rfl, e8⟩ := t.get hF
    rw [hy] at hy'; cases hy'
    obtain ⟨w2, e7, ok2, _⟩ := src_ls e8
    simp only [id, e7, VV]
    refine ⟨trivial, ?_⟩
    rw [enumD_map]
    refine forL_map (fun p2 δ h'' => h'' = h' ∧ (∃ x4 x5 : Option D, δ = [some d, some (nD (cnt (G.take p.length) + p2.length)), some (.int (0 + (p.length : Int))), some (.tup [.int F.1.1, .int F.1.2, e9]), x4, x5]) ∧ cnt (G.take p.length) + p2.length ≤ 24 ∧ ∀ i e, F.2[i]? = some e → i < p2.length → eF (nsG G) F.1 e = true) ⟨rfl, ⟨x4, x5, rfl⟩, c24, fun i F _ z => absurd z (Nat.not_lt_zero _)⟩ (fun p δ h' hp => by rw [hp.1]; exact ok2) ?_ ?_
    · rintro p2 ⟨E, k⟩ r2 δ h'' N2 ee ⟨rfl, ⟨x4, x5, rfl⟩, c242, fit2⟩ hN2
      obtain ⟨hE, rfl⟩ := zip_at ee
      obtain ⟨hl2, _⟩ := List.getElem?_eq_some_iff.mp hE
      have rz : (cnt (G.take p.length) + p2.length = 24 ∨ eF (nsG G) F.1 E = false) → ∃ is : List Int, [D.int (0 + (p.length : Int)), D.int (0 + (p2.length : Int))] = is.map D.int ∧ is.length = (["function", "edge"] : List Str).length ∧ (∀ i ∈ is, i.natAbs.log2 < 1920) ∧ DrX h'' X' "NoChart" ((["function", "edge"] : List Str).zip is) h'' := fun z => ⟨[0 + (p.length : Int), 0 + (p2.length : Int)], rfl, rfl, fun i hi => by
          rcases List.mem_cons.mp hi with z | z
          · rw [z]; exact log_small (by first | decide | omega) (by first | decide | omega)
          · rw [List.mem_singleton.mp z]; exact log_small (by first | decide | omega) (by first | decide | omega), by
          have tl : (G.take p.length).length = p.length := by rw [List.length_take]; omega
          have tl2 : (F.2.take p2.length).length = p2.length := by rw [List.length_take]; omega
          have := x1 (G.take p.length) _ F (F.2.take p2.length) _ E (split_at hF) (split_at hE) (by rw [tl2]; exact c242) (fun F' hF' => let ⟨j, h1, h2⟩ := take_in hF'; fit j _ h2 h1) (fun e' he' => let ⟨j, h1, h2⟩ := take_in he'; fit2 j _ h2 h1) (by rw [tl2]; exact z)
          rw [tl, tl2] at this
          rw [Int.zero_add, Int.zero_add]
          exact Dr.same rfl this⟩
      simp only [VV]
      refine ⟨trivial, ?_⟩
      (try dsimp only); refine seq_intro fun N hN => ?_
      by_cases c : cnt (G.take p.length) + p2.length = 24
      · have c' : (((cnt (G.take p.length) + p2.length : Nat) : Int) == 24) = true := by rw [c]; rfl
        simp only [c', VV]
        exact rz (.inl c)
      · have c' : (((cnt (G.take p.length) + p2.length : Nat) : Int) == 24) = false := by
          rw [Bool.eq_false_iff]; intro z; exact c (by have := eq_of_beq z; omega)
        simp only [c', VV]
        refine ⟨d, e9, G, F.1, E, rfl, gc, sz, sz F (List.mem_of_getElem? hF), ?_⟩
        by_cases z : eF (nsG G) F.1 E = true
        · simp only [z, VV]
          subst hN
          simp only [VV]
          refine hN2 _ _ ⟨rfl, ⟨some (.int (0 + (p2.length : Int))), some (geD E), ?_⟩, by rw [List.length_append, List.length_singleton]; omega, fun i e' h1 h2 => ?_⟩
          · rw [List.length_append, List.length_singleton, ← Nat.add_assoc]; rfl
          · rw [List.length_append, List.length_singleton] at h2
            rcases Nat.lt_or_ge i p2.length with z1 | z1
            · exact fit2 i e' h1 z1
            · rw [show i = p2.length by first | decide | omega, hE] at h1; cases h1; exact z
        · have z : eF (nsG G) F.1 E = false := by simpa using z
          simp only [z, VV]
          exact rz (.inr z)
    · rintro δ h'' ⟨rfl, ⟨x4, x5, rfl⟩, c242, fit2⟩
      rw [List.length_zipIdx] at c242 fit2
      refine hN1 _ _ ⟨rfl, ⟨some (.int (0 + (p.length : Int))), some (.tup [.int F.1.1, .int F.1.2, e9]), x4, x5, ?_⟩, by rw [List.length_append, List.length_singleton, cnt_take hF]; exact c242, fun i F' h1 h2 e' he' => ?_⟩
      · rw [List.length_append, List.length_singleton, cnt_take hF, List.length_zipIdx]
      · rw [List.length_append, List.length_singleton] at h2
        rcases Nat.lt_or_ge i p.length with z1 | z1
        · exact fit i F' h1 z1 e' he'
        · rw [show i = p.length by first | decide | omega, hF] at h1; cases h1
          obtain ⟨j, hj, rfl⟩ := List.mem_iff_getElem.mp he'
          exact fit2 j _ (List.getElem?_eq_getElem hj) hj
  · rintro δ h' ⟨rfl, _, c24, fit⟩
    rw [List.length_zipIdx, t.len] at c24 fit
    rw [List.take_length] at c24
    refine Dr.same rfl (q c24 fun F hF => ?_)
    obtain ⟨i, hi, rfl⟩ := List.mem_iff_getElem.mp hF
    exact fit i _ (List.getElem?_eq_getElem hi) hi
theorem ok_check_edges {f : Addr} {fd : FuncData} (F : Fun K "check_edges" "check_edges" s_check_edges f fd) (T : Txt P w K mg) (R_NoChart : RaiseX P w K mg base 1 "NoChart" ["self", "function", "edge"] ["function", "edge"]) (C_edge_fits : Cal P w K mg base 3 "edge_fits" ["chart", "function", "edge"] (spD K 3 S_edge_fits)) : FnOk P w K mg base (CXE P w) 4 f fd ["chart"] (spX K 1 S_check_edges) :=
  fn_okX (k := 3) (b := b_check_edges) F sc_check_edges (fun cdv A outer s H E hr => by
    refine ss_cons ?_ ?_
    · refine s_set (i := 1) ?_ ?_ ?_ ?_
      · exact sc_check_edges.nd
      · exact rfl
      · exact Or.inl rfl
      exact se_int
    refine ss_one ?_
    refine s_for ?_ ?_ ?_ ?_ ?_
    · exact ownX ⟨rfl, rfl⟩
    · exact rfl
    · exact si_enum rfl T.b_enumerate (sa_cons (sv 0) sa_nil)
    · exact sg_tup rfl (sgs_cons (sg_name (i := 2) sc_check_edges.nd rfl (Or.inl rfl)) (sgs_cons (sg_name (i := 3) sc_check_edges.nd rfl (Or.inl rfl)) sgs_nil))
    refine ss_one ?_
    refine s_for ?_ ?_ ?_ ?_ ?_
    · exact ownX ⟨rfl, rfl⟩
    · exact rfl
    · exact si_enum rfl T.b_enumerate (sa_cons (se_ix ok_ix (sv 3) se_int (fun _ _ => rfl)) sa_nil)
    · exact sg_tup rfl (sgs_cons (sg_name (i := 4) sc_check_edges.nd rfl (Or.inl rfl)) (sgs_cons (sg_name (i := 5) sc_check_edges.nd rfl (Or.inl rfl)) sgs_nil))
    refine ss_cons ?_ ?_
    · refine s_if ?_ ?_ ?_
      · exact st_w (sw_or (st_cmp (ok_eq hr.units) (sv 1) (se_globI rfl T.c_MOST_EDGES) (nomark _)) (sw_or1 (st_not (st_truth (se_cal C_edge_fits (hr.mono (by decide)) rfl (sa_cons (sv 0) (sa_cons (sv 3) (sa_cons (sv 5) sa_nil))))))))
      · refine ss_one ?_
        exact s_raise R_NoChart (hr.mono (by decide)) rfl (sa_cons (sv 2) (sa_cons (sv 4) sa_nil))
      exact ss_nil
    refine ss_one ?_
    exact s_aug (i := 1) sc_check_edges.nd rfl (Or.inl rfl) se_int iok_add) imp_check_edges
noncomputable def b__law_chart : DS := (dSeq (dAsg (dOp pIx (dV (dCons (dTup (dCons (dC (.int 3)) (dCons (dC (.int 4)) (dCons (dC (.int 4)) dNil)))) (dCons (dTup (dCons (dC (.int 6)) (dCons (dC (.int 10)) (dCons (dC (.int 6)) dNil)))) dNil))) (dCB pInt (dCons (dOp (pEq false) (dCal S__law_pick (dCons (dVar 1) (dCons (dC (.int 0)) (dCons (dC (.int 6)) dNil)))) (dC (.int 1))) dNil))) (dName 2))
    (dSeq (dAsg (dTk dNil) (dName 3))
    (dSeq (dFor (dIRange (dCons (dOp pPlus (dC (.int 1)) (dCal S__law_pick (dCons (dVar 1) (dCons (dC (.int 1)) (dCons (dOp pIx (dVar 2) (dC (.int 0))) dNil))))) dNil)) (dName 4) (dDrop (dAppend (dVar 3) (dCons (dTup (dCons (dOp pPlus (dC (.int 1)) (dCal S__law_pick (dCons (dVar 1) (dCons (dOp pPlus (dC (.int 10)) (dOp pMulI (dC (.int 2)) (dVar 4))) (dCons (dOp pIx (dVar 2) (dC (.int 1))) dNil))))) (dCons (dOp pPlus (dC (.int 1)) (dCal S__law_pick (dCons (dVar 1) (dCons (dOp pPlus (dC (.int 11)) (dOp pMulI (dC (.int 2)) (dVar 4))) (dCons (dOp pIx (dVar 2) (dC (.int 2))) dNil))))) dNil))) dNil))))
    (dSeq (dAsg (dV (dComp [none] (dISeq (dVar 3)) (dName 0) dNoIf (dTk dNil))) (dName 5))
    (dSeq (dFor (dIEnum (dCons (dSl (dVar 0) dNoPart (dPart (dC (.int 24)))) dNil)) (dUnp 2 (dGCons (dName 6) (dGCons (dName 7) dGNil))) (dSeq (dAsg (dCal S__law_pick (dCons (dVar 7) (dCons (dC (.int 1)) (dCons (dCB pLen (dCons (dVar 3) dNil)) dNil)))) (dName 4))
    (dDrop (dAppend (dOp pIx (dVar 5) (dVar 4)) (dCons (dCal S__law_edge (dCons (dVar 3) (dCons (dVar 4) (dCons (dOp pPlus (dVar 7) (dOp pMulI (dC (.int 31)) (dVar 6))) dNil)))) dNil)))))
    (dRet (dV (dComp [none, some 3, some 5] (dIRange (dCons (dCB pLen (dCons (dVar 3) dNil)) dNil)) (dName 0) dNoIf (dTup (dCons (dOp pIx (dOp pIx (dVar 1) (dVar 0)) (dC (.int 0))) (dCons (dOp pIx (dOp pIx (dVar 1) (dVar 0)) (dC (.int 1))) (dCons (dOp pIx (dVar 2) (dVar 0)) dNil))))))))))))
noncomputable def eO (l : List Edge) : O := .lst (l.map eD)
theorem tl_get {h : Hh} {o : O} {es : List (List Edge)} {f : Nat} {l : List Edge} (e : es[f]? = some l) : (h ++ (o :: es.map eO))[h.length + 1 + f]? = some (eO l) := by
  rw [List.getElem?_append_right (by first | decide | omega), show h.length + 1 + f - h.length = f + 1 by first | decide | omega]
  show (o :: es.map eO)[f + 1]? = _
  rw [List.getElem?_cons_succ, List.getElem?_map, e]; rfl
theorem tl_set {h : Hh} {o : O} {es : List (List Edge)} {f : Nat} {l : List Edge} : (h ++ (o :: es.map eO)).set (h.length + 1 + f) (eO l) = h ++ (o :: (es.set f l).map eO) := by
  rw [List.set_append_right _ _ (by first | decide | omega), show h.length + 1 + f - h.length = f + 1 by first | decide | omega]
  show h ++ (o :: es.map eO).set (f + 1) (eO l) = _
  rw [List.set_cons_succ, List.map_set]
theorem tl_hd {h : Hh} {o : O} {g : Hh} : (h ++ (o :: g))[h.length]? = some o := by
  rw [List.getElem?_append_right (Nat.le_refl _)]; simp
theorem cut_ints (ns : List Int) (lo hi : Option Int) : ∃ ms : List Int, cutD (ns.map D.int) lo hi = ms.map D.int ∧ ms.length ≤ ns.length := by
  refine ⟨(ns.drop (HT.sIx ns.length 0 lo)).take (HT.sIx ns.length ns.length hi - HT.sIx ns.length 0 lo), ?_, ?_⟩
  · unfold cutD; rw [List.length_map, ← List.map_drop, ← List.map_take]
  · rw [List.length_take, List.length_drop]; omega
noncomputable def mkC (hs : Hd) (es : List (List Edge)) : Chart := (hs.zip es).map fun x => ⟨x.1.1, x.1.2, x.2⟩
theorem mkC_get {hs : Hd} {es : List (List Edge)} (hl : es.length = hs.length) {f : Nat} {F : Fn} (e : (mkC hs es)[f]? = some F) : ∃ x l, hs[f]? = some x ∧ es[f]? = some l ∧ F = ⟨x.1, x.2, l⟩ := by
  unfold mkC at e
  rw [List.getElem?_map] at e
  cases q : (hs.zip es)[f]? with
  | none => rw [q] at e; cases e
  | some y =>
    rw [q] at e
    cases e
    rw [List.getElem?_zip_eq_some] at q
    exact ⟨y.1, y.2, q.1, q.2, rfl⟩
theorem mkC_at {hs : Hd} {es : List (List Edge)} {f : Nat} {x : Nat × Nat} {l : List Edge} (h1 : hs[f]? = some x) (h2 : es[f]? = some l) : (mkC hs es)[f]? = some ⟨x.1, x.2, l⟩ := by
  unfold mkC
  rw [List.getElem?_map, List.getElem?_zip_eq_some (z := (x, l)) |>.mpr ⟨h1, h2⟩]; rfl
theorem mkC_wf {hs : Hd} {es : List (List Edge)} (ok : hOk hs) (h1 : 1 ≤ hs.length) (h6 : hs.length ≤ 6) (hl : es.length = hs.length) (he : ∀ (f : Nat) (x : Nat × Nat) (l : List Edge), hs[f]? = some x → es[f]? = some l → l.length ≤ 100 ∧ ∀ e ∈ l, eOkH hs x e) : WF (mkC hs es) := by
  have len : (mkC hs es).length = hs.length := by unfold mkC; rw [List.length_map, List.length_zip, hl]; omega
  refine ⟨by first | decide | omega, by first | decide | omega, fun f F hF => ?_⟩
  obtain ⟨x, l, hx, hl', rfl⟩ := mkC_get hl hF
  obtain ⟨o1, o2, o3, o4⟩ := ok f x hx
  obtain ⟨o5, o6⟩ := he f x l hx hl'
  refine ⟨o1, o2, o3, o4, o5, fun e hm => ?_⟩
  obtain ⟨p1, p2, p3, p4, p5⟩ := o6 e hm
  refine ⟨p1, p2, p3, p4, ?_⟩
  obtain ⟨a, b, c, k⟩ := e
  cases k with
  | step t => exact p5
  | call g i b o =>
    obtain ⟨y, hy, t1, t2, t3⟩ := p5
    have hg : g < es.length := by rw [hl]; exact (List.getElem?_eq_some_iff.mp hy).1
    exact ⟨⟨y.1, y.2, es[g]⟩, mkC_at hy (List.getElem?_eq_getElem hg), t1, t2, t3⟩
theorem cut_map {τ : Type} (g : τ → D) (ns : List τ) (lo hi : Option Int) : ∃ ms : List τ, cutD (ns.map g) lo hi = ms.map g ∧ ms.length ≤ ns.length ∧ ∀ x ∈ ms, x ∈ ns := by
  refine ⟨(ns.drop (HT.sIx ns.length 0 lo)).take (HT.sIx ns.length ns.length hi - HT.sIx ns.length 0 lo), ?_, ?_, fun x hx => List.mem_of_mem_drop (List.mem_of_mem_take hx)⟩
  · unfold cutD; rw [List.length_map, ← List.map_drop, ← List.map_take]
  · rw [List.length_take, List.length_drop]; omega
theorem len_set : ∀ (es : List (List Edge)) (f : Nat) (l : List Edge) (E : Edge), es[f]? = some l → ((es.set f (l ++ [E])).map List.length).sum = (es.map List.length).sum + 1
  | [], _, _, _, h => by simp at h
  | a :: r, 0, l, E, h => by
    simp at h
    subst h
    rw [List.set_cons_zero, List.map_cons, List.map_cons, List.sum_cons, List.sum_cons, List.length_append, List.length_singleton]; omega
  | a :: r, f + 1, l, E, h => by
    have := len_set r f l E (by simpa using h)
    rw [List.set_cons_succ, List.map_cons, List.map_cons, List.sum_cons, List.sum_cons, this]; omega
theorem mkC_many {hs : Hd} {es : List (List Edge)} (hl : es.length = hs.length) : many (mkC hs es) = (es.map List.length).sum := by
  unfold many mkC
  rw [List.map_map]
  have : (hs.zip es).map ((fun F : Fn => F.edges.length) ∘ fun x => ⟨x.1.1, x.1.2, x.2⟩) = ((hs.zip es).map Prod.snd).map List.length := by rw [List.map_map]; rfl
  rw [this, List.map_snd_zip (by first | decide | omega)]
theorem cut24 (xs : List D) : (cutD xs none (some 24)).length ≤ 24 := by
  unfold cutD HT.sIx
  rw [List.length_take]
  simp
  omega
noncomputable def S__law_chart : DSp := fun ds h Q => ∃ (ns : List Int) (way : Int), ds = [.lst (ns.map .int), .int way] ∧ ns.length ≤ 63 ∧ ∀ C, WF C → many C ≤ 24 → Q (cD C) h
theorem imp__law_chart : ∀ ds h Q, S__law_chart ds h Q → runD 8 b__law_chart ds h (Dr h Q) := by
  rintro ds h Q ⟨ns, way, rfl, hl, q⟩
  simp only [runD, runX, b__law_chart, List.map_cons, List.map_nil, List.cons_append, List.nil_append, List.length_cons, List.length_nil, List.replicate, Nat.reduceSub, Nat.reduceAdd, Nat.zero_add, Nat.sub_self]
  (try dsimp only); refine seq_intro fun N hN => ?_
  simp only [VV]
  refine ⟨way, 0, 6, rfl, by first | decide | omega, by first | decide | omega, fun r0 hr0 => ?_⟩
  obtain ⟨many, wide, deep, m1, m6, w1, w10, d1, d6, em⟩ : ∃ many wide deep : Nat, 1 ≤ many ∧ many ≤ 6 ∧ 1 ≤ wide ∧ wide ≤ 10 ∧ 1 ≤ deep ∧ deep ≤ 6 ∧ atI [D.tup [.int 3, .int 4, .int 4], D.tup [.int 6, .int 10, .int 6]] (if ((r0 : Int) == 1) = true then 1 else 0) = some (.tup [nD many, nD wide, nD deep]) := by
    cases ((r0 : Int) == 1) with
    | true => exact ⟨6, 10, 6, by decide, by decide, by decide, by decide, by decide, by decide, rfl⟩
    | false => exact ⟨3, 4, 4, by decide, by decide, by decide, by decide, by decide, by decide, rfl⟩
  simp only [em, VV]
  subst hN
  (try dsimp only); refine seq_intro fun N hN => ?_
  simp only [VV]
  subst hN
  (try dsimp only); refine seq_intro fun N hN => ?_
  simp only [VV]
  refine ⟨way, 1, many, rfl, by first | decide | omega, by first | decide | omega, fun r hr => ?_⟩
  simp only [VV]
  refine ⟨by first | decide | omega, ?_⟩
  obtain ⟨n, hn⟩ : ∃ n : Nat, (1 + (r : Int)).toNat = n := ⟨_, rfl⟩
  have n1 : 1 ≤ n := by first | decide | omega
  have n6 : n ≤ 6 := by first | decide | omega
  rw [hn, rangeD_map]
  refine forL_map (fun p δ h' => ∃ (hs : Hd) (x4 : Option D), δ = [some (.lst (ns.map .int)), some (.int way), some (.tup [nD many, nD wide, nD deep]), some (.ref h.length), x4, none, none, none] ∧ h' = h ++ [.lst (hs.map pD)] ∧ hs.length = p.length ∧ hOk hs) ⟨[], none, rfl, rfl, rfl, fun f x e => by simp at e⟩ (fun _ _ _ _ => Src.ok_nil) ?_ ?_
  · rintro p d r' δ h' N1 e ⟨hs, x4, rfl, rfl, hlen, ok⟩ hN1
    obtain ⟨hdp, hd⟩ := range_split e
    have ng := get_new h (.lst (hs.map pD))
    simp only [ng, VV]
    refine ⟨mulS (by first | decide | omega), way, 10 + 2 * d, wide, by rw [show (10 : Int) + 2 * (0 + (d : Int)) = ((10 + 2 * d : Nat) : Int) by first | decide | omega], by first | decide | omega, by first | decide | omega, fun a ha => ?_⟩
    simp only [VV]
    refine ⟨mulS (by first | decide | omega), way, 11 + 2 * d, deep, by rw [show (11 : Int) + 2 * (0 + (d : Int)) = ((11 + 2 * d : Nat) : Int) by first | decide | omega], by first | decide | omega, by first | decide | omega, fun b hb => ?_⟩
    simp only [ng, set_new, List.length_map, VV]
    refine ⟨by first | decide | omega, hN1 _ _ ⟨hs ++ [(1 + a, 1 + b)], _, rfl, ?_, by simp [hlen], fun f x hx => ?_⟩⟩
    · rw [List.map_append]
      show _ = h ++ [O.lst (hs.map pD ++ [.tup [.int ((1 + a : Nat) : Int), .int ((1 + b : Nat) : Int)]])]
      rw [Int.natCast_add, Int.natCast_add]; rfl
    · by_cases hf : f < hs.length
      · rw [List.getElem?_append_left hf] at hx; exact ok f x hx
      · rw [List.getElem?_append_right (by first | decide | omega)] at hx
        have : f - hs.length = 0 := by
          have := (List.getElem?_eq_some_iff.mp hx).1
          simp at this; omega
        rw [this] at hx
        cases hx
        exact ⟨by show 1 ≤ 1 + a; omega, by show 1 + a ≤ 10; omega, by show 1 ≤ 1 + b; omega, by show 1 + b ≤ 6; omega⟩
  · rintro δ h' ⟨hs, x4, rfl, rfl, hlen, ok⟩
    rw [List.length_range] at hlen
    subst hN
    (try dsimp only); refine seq_intro fun N hN => ?_
    have src := seqSrc_ref (get_new h (.lst (hs.map pD)))
    simp only [src, VV]
    refine ⟨by rw [List.length_map]; omega, ?_⟩
    refine compL_map (g := pD) (fun p acc δ h' => (∃ o, δ = [o]) ∧ acc = (List.range p.length).map (fun j => .ref (h.length + 1 + j)) ∧ h' = h ++ (.lst (hs.map pD) :: (List.replicate p.length ([] : List Edge)).map eO)) ⟨⟨none, rfl⟩, rfl, by simp⟩ ?_ ?_ ?_
    · rintro p acc δ h' ⟨_, _, rfl⟩ z hz
      rw [List.mem_singleton.mp hz]; exact tl_hd
    · rintro p y r' acc δ h' N1 e ⟨⟨o, rfl⟩, rfl, rfl⟩ hN1
      simp only [VV]
      refine hN1 _ _ _ ⟨⟨_, rfl⟩, ?_, ?_⟩
      · rw [show (p ++ [y]).length = p.length + 1 by simp, List.range_succ, List.map_append]
        simp; omega
      · rw [show (p ++ [y]).length = p.length + 1 by simp, List.replicate_succ', List.map_append]
        simp [eO]
    · rintro acc δ h' ⟨⟨o, rfl⟩, rfl, rfl⟩
      subst hN
      (try dsimp only); refine seq_intro fun N hN => ?_
      obtain ⟨ms, hms, hml, _⟩ := cut_map D.int ns none (some 24)
      simp only [hms, VV]
      rw [enumD_map]
      refine forL_map (fun p δ h' => ∃ (es : List (List Edge)) (x4 x6 x7 : Option D), δ = [some (.lst (ns.map .int)), some (.int way), some (.tup [nD many, nD wide, nD deep]), some (.ref h.length), x4, some (.lst ((List.range hs.length).map (fun j => .ref (h.length + 1 + j)))), x6, x7] ∧ h' = h ++ (.lst (hs.map pD) :: es.map eO) ∧ es.length = hs.length ∧ (∀ (f : Nat) (x : Nat × Nat) (l : List Edge), hs[f]? = some x → es[f]? = some l → l.length ≤ p.length ∧ ∀ e ∈ l, eOkH hs x e) ∧ (es.map List.length).sum ≤ p.length) ⟨List.replicate hs.length [], _, _, _, rfl, rfl, by simp, fun f x l hf hl2 => ?_, by simp⟩ (fun _ _ _ _ => Src.ok_nil) ?_ ?_
      · have := List.eq_of_mem_replicate (List.mem_of_getElem? hl2)
        subst this
        exact ⟨Nat.zero_le _, fun e he => nomatch he⟩
      · rintro p y r' δ h' N1 e ⟨es, x4, x6, x7, rfl, rfl, hel, hes, hsum⟩ hN1
        obtain ⟨cl, kk⟩ := y
        simp only [VV]
        refine ⟨trivial, ?_⟩
        (try dsimp only); refine seq_intro fun N hN => ?_
        have hg0 : lsOf (h ++ (.lst (hs.map pD) :: es.map eO)) (.ref h.length) = some (hs.map pD) := lsOf_ref tl_hd
        simp only [len_ls hg0, List.length_map, VV]
        refine ⟨cl, 1, hs.length, rfl, by first | decide | omega, by first | decide | omega, fun f fl => ?_⟩
        obtain ⟨x, hx⟩ : ∃ x, hs[f]? = some x := ⟨_, List.getElem?_eq_getElem fl⟩
        obtain ⟨l, hl2⟩ : ∃ l, es[f]? = some l := ⟨_, List.getElem?_eq_getElem (by first | decide | omega)⟩
        have ixe : atI ((List.range hs.length).map (fun j => D.ref (h.length + 1 + j))) (f : Int) = some (.ref (h.length + 1 + f)) := by rw [atN, List.getElem?_map, List.getElem?_range fl]; rfl
        have tg : (h ++ (O.lst (hs.map pD) :: es.map eO))[h.length + 1 + f]? = some (.lst (l.map eD)) := tl_get hl2
        subst hN
        simp only [ixe, tg, VV]
        refine ⟨mulS (by first | decide | omega), _, .ref h.length, hs, f, x, rfl, hg0, hx, ok, by first | decide | omega, fun E hE => ?_⟩
        simp only [tg, List.length_map, VV]
        obtain ⟨q1, q2⟩ := hes f x l hx hl2
        have pl : p.length < ms.zipIdx.length := by rw [e]; simp
        rw [List.length_zipIdx] at pl
        have se : (h ++ (O.lst (hs.map pD) :: es.map eO)).set (h.length + 1 + f) (.lst (l.map eD ++ [eD E])) = h ++ (O.lst (hs.map pD) :: (es.set f (l ++ [E])).map eO) := by
          rw [← tl_set]; unfold eO; rw [List.map_append]; rfl
        rw [se]
        refine ⟨by first | decide | omega, hN1 _ _ ⟨es.set f (l ++ [E]), _, _, _, rfl, rfl, by simp [hel], fun f' x' l' hx' hl' => ?_, by rw [len_set _ _ _ _ hl2]; simp; omega⟩⟩
        by_cases z : f = f'
        · subst z
          rw [hx] at hx'; cases hx'
          rw [List.getElem?_set_self (by first | decide | omega)] at hl'
          cases hl'
          refine ⟨by simp; omega, fun e9 he9 => ?_⟩
          rcases List.mem_append.mp he9 with w | w
          · exact q2 e9 w
          · rw [List.mem_singleton.mp w]; exact hE
        · rw [List.getElem?_set_ne z] at hl'
          obtain ⟨u1, u2⟩ := hes f' x' l' hx' hl'
          exact ⟨by simp; omega, u2⟩
      · rintro δ h' ⟨es, x4, x6, x7, rfl, rfl, hel, hes, hsum⟩
        subst hN
        have hg0 : lsOf (h ++ (.lst (hs.map pD) :: es.map eO)) (.ref h.length) = some (hs.map pD) := lsOf_ref tl_hd
        simp only [len_ls hg0, List.length_map, VV]
        refine ⟨⟨by first | decide | omega, by first | decide | omega⟩, by rw [rangeD_length]; omega, ?_⟩
        rw [rangeD_map, Int.toNat_natCast]
        refine comp1n (fun f => .tup [nD (hs.getD f (0, 0)).1, nD (hs.getD f (0, 0)).2, .ref (h.length + 1 + f)]) Src.ok_nil none (fun f hf K k => ?_) ?_
        · have fl : f < hs.length := List.mem_range.mp hf
          have ixe : atI ((List.range hs.length).map (fun j => D.ref (h.length + 1 + j))) (0 + (f : Int)) = some (.ref (h.length + 1 + f)) := by rw [Int.zero_add, atN, List.getElem?_map, List.getElem?_range fl]; rfl
          have ixh : ixD (h ++ (.lst (hs.map pD) :: es.map eO)) (.ref h.length) (.int (0 + (f : Int))) = some (pD (hs.getD f (0, 0))) := by
            rw [ix_ls hg0, Int.zero_add, atN, List.getElem?_map, List.getD_eq_getElem?_getD, List.getElem?_eq_getElem fl]; rfl
          simp only [ixe, ixh, pD, VV]
          exact k
        · have wf : WF (mkC hs es) := mkC_wf ok (by first | decide | omega) (by first | decide | omega) hel (fun f x l h1 h2 => ⟨Nat.le_trans (hes f x l h1 h2).1 (by rw [List.length_zipIdx]; omega), (hes f x l h1 h2).2⟩)
          refine ⟨h, _, cD (mkC hs es), rfl, rfl, fun _ _ e => .inl e, ?_, q _ wf ?_⟩
          rotate_left
          · rw [mkC_many hel]
            have := cut24 (ns.map D.int)
            rw [hms, List.length_map] at this
            rw [List.length_zipIdx] at hsum; omega
          have len : (mkC hs es).length = hs.length := by unfold mkC; rw [List.length_map, List.length_zip, hel]; omega
          refine .lst (.of_get (by rw [List.length_map, List.length_map, List.length_range, len]) fun f x y hx hy => ?_)
          rw [List.getElem?_map] at hx hy
          have fl : f < hs.length := by
            rcases Nat.lt_or_ge f hs.length with z | z
            · exact z
            · rw [List.getElem?_eq_none (by rw [List.length_range]; exact z)] at hx; cases hx
          rw [List.getElem?_range fl] at hx
          cases hx
          obtain ⟨xx, hxx⟩ : ∃ x, hs[f]? = some x := ⟨_, List.getElem?_eq_getElem fl⟩
          obtain ⟨l, hl2⟩ : ∃ l, es[f]? = some l := ⟨_, List.getElem?_eq_getElem (by first | decide | omega)⟩
          rw [mkC_at hxx hl2] at hy
          cases hy
          dsimp only
          rw [List.getD_eq_getElem?_getD, hxx]
          exact .tup (.cons (.nr rfl) (.cons (.nr rfl) (.cons (.opn (by first | decide | omega) (tl_get hl2) (.of (nrDs_map nrD_eD l))) .nil)))
theorem ok__law_chart {f : Addr} {fd : FuncData} (F : Fun K "_law_chart" "_law_chart" s__law_chart f fd) (T : Txt P w K mg) (C__law_pick : Cal P w K mg base 1 "_law_pick" ["_law_cell", "_law_k", "_law_many"] (spD K 3 S__law_pick)) (C__law_edge : Cal P w K mg base 3 "_law_edge" ["_law_sizes", "_law_f", "_law_cell"] (spD K 3 S__law_edge)) : FnOk P w K mg base CX0 4 f fd ["_law_cells", "_law_way"] (spD K 2 S__law_chart) :=
  fn_okD (k := 3) (b := b__law_chart) F sc__law_chart (fun cdv A outer s H E hr => by
    refine ss_cons ?_ ?_
    · refine s_set (i := 2) ?_ ?_ ?_ ?_
      · exact sc__law_chart.nd
      · exact rfl
      · exact Or.inl rfl
      exact se_ix ok_ix (se_v (sn_lst (sa_cons (se_tup (sa_cons se_int (sa_cons se_int (sa_cons se_int sa_nil)))) (sa_cons (se_tup (sa_cons se_int (sa_cons se_int (sa_cons se_int sa_nil)))) sa_nil)))) (se_callTy ok_int rfl T.b_int PyProof.Rows.boot_int (sa_cons (se_cmp (ok_eq hr.units) (se_cal C__law_pick (hr.mono (by decide)) rfl (sa_cons (sv 1) (sa_cons se_int (sa_cons se_int sa_nil)))) se_int (nomark _)) sa_nil)) (fun _ _ => rfl)
    refine ss_cons ?_ ?_
    · refine s_set (i := 3) ?_ ?_ ?_ ?_
      · exact sc__law_chart.nd
      · exact rfl
      · exact Or.inr rfl
      exact se_t (sn_lst sa_nil)
    refine ss_cons ?_ ?_
    · refine s_for ?_ ?_ ?_ ?_ ?_
      · exact PassesOwn.never
      · exact rfl
      · exact si_range1 rfl T.b_range (sa_cons (se_op ok_plus se_int (se_cal C__law_pick (hr.mono (by decide)) rfl (sa_cons (sv 1) (sa_cons se_int (sa_cons (se_ix ok_ix (sv 2) se_int (fun _ _ => rfl)) sa_nil))))) sa_nil)
      · exact sg_name (i := 4) sc__law_chart.nd rfl (Or.inl rfl)
      refine ss_one ?_
      refine s_expr ?_
      exact se_append (sv 3) (sa_cons (se_tup (sa_cons (se_op ok_plus se_int (se_cal C__law_pick (hr.mono (by decide)) rfl (sa_cons (sv 1) (sa_cons (se_op ok_plus se_int (se_op ok_timesI se_int (sv 4))) (sa_cons (se_ix ok_ix (sv 2) se_int (fun _ _ => rfl)) sa_nil))))) (sa_cons (se_op ok_plus se_int (se_cal C__law_pick (hr.mono (by decide)) rfl (sa_cons (sv 1) (sa_cons (se_op ok_plus se_int (se_op ok_timesI se_int (sv 4))) (sa_cons (se_ix ok_ix (sv 2) se_int (fun _ _ => rfl)) sa_nil))))) sa_nil))) sa_nil)
    refine ss_cons ?_ ?_
    · refine s_set (i := 5) ?_ ?_ ?_ ?_
      · exact sc__law_chart.nd
      · exact rfl
      · exact Or.inr rfl
      refine se_v ?_
      exact sn_comp rfl (N' := ["_law_size"]) (js := [none]) ⟨rfl, by decide +kernel, rfl, rfl, rfl⟩ (si_seq (sv 3)) (fun s0 H0 fp => ⟨(sg_name (i := 0) (show (["_law_size"] : List Str).Nodup by decide +kernel) rfl (Or.inl rfl)), sf_nil, (se_t (sn_lst sa_nil))⟩)
    refine ss_cons ?_ ?_
    · refine s_for ?_ ?_ ?_ ?_ ?_
      · exact PassesOwn.never
      · exact rfl
      · exact si_enum rfl T.b_enumerate (sa_cons (se_sl (sv 0) so_none (so_some se_int)) sa_nil)
      · exact sg_tup rfl (sgs_cons (sg_name (i := 6) sc__law_chart.nd rfl (Or.inl rfl)) (sgs_cons (sg_name (i := 7) sc__law_chart.nd rfl (Or.inl rfl)) sgs_nil))
      refine ss_cons ?_ ?_
      · refine s_set (i := 4) ?_ ?_ ?_ ?_
        · exact sc__law_chart.nd
        · exact rfl
        · exact Or.inl rfl
        exact se_cal C__law_pick (hr.mono (by decide)) rfl (sa_cons (sv 7) (sa_cons se_int (sa_cons (se_callB ok_len rfl T.b_len PySem.boot_len (sa_cons (sv 3) sa_nil)) sa_nil)))
      refine ss_one ?_
      refine s_expr ?_
      exact se_append (se_ix ok_ix (sv 5) (sv 4) (fun _ _ => rfl)) (sa_cons (se_cal C__law_edge (hr.mono (by decide)) rfl (sa_cons (sv 3) (sa_cons (sv 4) (sa_cons (se_op ok_plus (sv 7) (se_op ok_timesI se_int (sv 6))) sa_nil)))) sa_nil)
    refine ss_one ?_
    refine s_ret ?_
    refine se_v ?_
    exact sn_comp rfl (N' := ["_law_f", "_law_sizes", "_law_edges"]) (js := [none, some 3, some 5]) ⟨rfl, by decide +kernel, rfl, rfl, rfl⟩ (si_range1 rfl T.b_range (sa_cons (se_callB ok_len rfl T.b_len PySem.boot_len (sa_cons (sv 3) sa_nil)) sa_nil)) (fun s0 H0 fp => ⟨(sg_name (i := 0) (show (["_law_f", "_law_sizes", "_law_edges"] : List Str).Nodup by decide +kernel) rfl (Or.inl rfl)), sf_nil, (se_tup (sa_cons (se_ix ok_ix (se_ix ok_ix (sv 1) (sv 0) (fun _ _ => rfl)) se_int (fun _ _ => rfl)) (sa_cons (se_ix ok_ix (se_ix ok_ix (sv 1) (sv 0) (fun _ _ => rfl)) se_int (fun _ _ => rfl)) (sa_cons (se_ix ok_ix (sv 2) (sv 0) (fun _ _ => rfl)) sa_nil))))⟩)) imp__law_chart
noncomputable def b__law_wrong : DS := (dSeq (dAsg (dCal S__law_pick (dCons (dVar 1) (dCons (dC (.int 26)) (dCons (dCB pLen (dCons (dVar 0) dNil)) dNil)))) (dName 3))
    (dSeq (dAsg (dOp pIx (dVar 0) (dVar 3)) (dUnp 3 (dGCons (dName 4) (dGCons (dName 5) (dGCons (dName 6) dGNil)))))
    (dSeq (dIfS (dOr (dTst (dOp (pEq false) (dVar 6) (dV dNil))) (dTst (dOp (pEq false) (dCal S__law_pick (dCons (dVar 1) (dCons (dC (.int 27)) (dCons (dC (.int 4)) dNil)))) (dC (.int 0))))) (dSeq (dAsg (dOp pIx (dV (dCons (dC (.int 0)) (dCons (dOp pPlus (dC (.int 11)) (dOp pMod (dVar 1) (dOp pPow (dC (.int 10)) (dC (.int 9))))) (dCons (dUn pNeg (dC (.int 1))) (dCons (dC (.int 11)) dNil))))) (dCal S__law_pick (dCons (dVar 1) (dCons (dC (.int 28)) (dCons (dC (.int 4)) dNil))))) (dName 7))
    (dSeq (dIfS (dTst (dOp (pEq false) (dCal S__law_pick (dCons (dVar 1) (dCons (dC (.int 29)) (dCons (dC (.int 2)) dNil)))) (dC (.int 0)))) (dAsg (dTup (dCons (dVar 7) (dCons (dVar 5) (dCons (dVar 6) dNil)))) (dSubL (dVar 0) (dVar 3))) (dAsg (dTup (dCons (dVar 4) (dCons (dOp pIx (dV (dCons (dC (.int 0)) (dCons (dOp pPlus (dC (.int 7)) (dOp pMod (dVar 1) (dOp pPow (dC (.int 10)) (dC (.int 9))))) (dCons (dUn pNeg (dC (.int 1))) (dCons (dC (.int 7)) dNil))))) (dCal S__law_pick (dCons (dVar 1) (dCons (dC (.int 28)) (dCons (dC (.int 4)) dNil))))) (dCons (dVar 6) dNil)))) (dSubL (dVar 0) (dVar 3))))
    (dSeq (dDrop (dAppend (dVar 2) (dCons (dTup (dCons (dVar 3) (dCons (dUn pNeg (dC (.int 1))) dNil))) dNil)))
    dRetN))) dNext)
    (dSeq (dAsg (dCal S__law_pick (dCons (dVar 1) (dCons (dC (.int 30)) (dCons (dCB pLen (dCons (dVar 6) dNil)) dNil)))) (dName 8))
    (dIfS (dTst (dOp pNinS (dTup (dCons (dVar 3) (dCons (dVar 8) dNil))) (dVar 2))) (dSeq (dAsg (dCal S__law_spoilt_edge (dCons (dOp pIx (dVar 2) (dC (.int 0))) (dCons (dVar 3) (dCons (dOp pIx (dVar 6) (dVar 8)) (dCons (dVar 1) dNil))))) (dSubL (dVar 6) (dVar 8)))
    (dDrop (dAppend (dVar 2) (dCons (dTup (dCons (dVar 3) (dCons (dVar 8) dNil))) dNil)))) dNext)))))
noncomputable def S__law_wrong : DSp := fun ds h Q => ∃ (h1 : Hh) (j : Nat) (C : Chart) (G : List GF) (ps : List ZP) (cell : Int), ds = [.ref (h1.length + G.length), .int cell, .ref j] ∧ h = h1 ++ trG h1.length G ∧ h1[j]? = some (.lst (cD C :: ps.map zD)) ∧ WF C ∧ Sp C G ps ∧ ps.length ≤ 5 ∧
  ∀ G' ps', Sp C G' ps' → ps' ≠ [] → ps'.length ≤ ps.length + 1 → Q .non (h1.set j (.lst (cD C :: ps'.map zD)) ++ trG h1.length G')
theorem ixN_nat {n i : Nat} (h : i < n) : ixN n (i : Int) = some i := by
  unfold ixN; rw [if_pos (by first | decide | omega), if_pos (by first | decide | omega), Int.toNat_natCast]
theorem imp__law_wrong : ∀ ds h Q, S__law_wrong ds h Q → runD 9 b__law_wrong ds h Q := by
  rintro ds h Q ⟨h1, j, C, G, ps, cell, rfl, rfl, hj, wf, sp, p5, q⟩
  have jl : j < h1.length := (List.getElem?_eq_some_iff.mp hj).1
  have hj' : ∀ G, (h1 ++ trG h1.length G)[j]? = some (.lst (cD C :: ps.map zD)) := fun G => by rw [List.getElem?_append_left jl]; exact hj
  have sj : ∀ (G : List GF) (ps' : List ZP), (h1 ++ trG h1.length G).set j (.lst (cD C :: ps'.map zD)) = h1.set j (.lst (cD C :: ps'.map zD)) ++ trG h1.length G := fun G ps' => List.set_append_left _ _ jl
  have lh : lsOf (h1 ++ trG h1.length G) (.ref (h1.length + G.length)) = some (hdD h1.length (G.map (·.1))) := lsOf_ref trG_hd
  have gl : 0 < G.length := by rw [sp.len]; exact wf.one
  have fin : ∀ (G' : List GF) (p : ZP), Sp C G' (ps ++ [p]) → Q .non (h1.set j (.lst (cD C :: (ps ++ [p]).map zD)) ++ trG h1.length G') := fun G' p s => q G' _ s (by simp) (by simp)
  have e9 : (10 : Int) ^ (9 : Int).toNat = 1000000000 := by decide
  have c0 := Int.emod_nonneg cell (show (1000000000 : Int) ≠ 0 by decide)
  simp only [runD, runX, b__law_wrong, List.map_cons, List.map_nil, List.cons_append, List.nil_append, List.length_cons, List.length_nil, List.replicate, Nat.reduceSub, Nat.reduceAdd, Nat.zero_add, Nat.sub_self]
  (try dsimp only); refine seq_intro fun N hN => ?_
  simp only [len_ls lh, hdD_len, List.length_map, VV]
  refine ⟨cell, 26, G.length, rfl, by first | decide | omega, by first | decide | omega, fun f hf => ?_⟩
  obtain ⟨g, hg⟩ : ∃ g, G[f]? = some g := ⟨_, List.getElem?_eq_getElem hf⟩
  obtain ⟨F, hF⟩ : ∃ F, C[f]? = some F := ⟨_, List.getElem?_eq_getElem (by rw [← sp.len]; exact hf)⟩
  obtain ⟨g', hg', s2, s3, s4, s5⟩ := sp.fn f F hF
  rw [hg] at hg'; cases hg'
  have hx : atI (hdD h1.length (G.map (·.1))) (f : Int) = some (.tup [.int g.1.1, .int g.1.2, .ref (h1.length + f)]) := by rw [atN]; exact hdD_get (by rw [List.getElem?_map, hg]; rfl)
  have he : (h1 ++ trG h1.length G)[h1.length + f]? = some (.lst (g.2.map geD)) := trG_es hg
  have le : lsOf (h1 ++ trG h1.length G) (.ref (h1.length + f)) = some (g.2.map geD) := lsOf_ref he
  subst hN
  (try dsimp only); refine seq_intro fun N hN => ?_
  simp only [ix_ls lh, hx, VV]
  refine ⟨trivial, ?_⟩
  subst hN
  (try dsimp only); refine seq_intro fun N hN => ?_
  (try dsimp only); refine if_intro fun A1 B1 hA hB => ?_
  have A : A1 [some (.ref (h1.length + G.length)), some (.int cell), some (.ref j), some (nD f), some (.int g.1.1), some (.int g.1.2), some (.ref (h1.length + f)), none, none] (h1 ++ trG h1.length G) := by
    subst hA
    (try dsimp only); refine seq_intro fun N2 hN2 => ?_
    simp only [VV]
    rw [e9]
    refine ⟨⟨by decide, by decide, by decide⟩, by decide, cell, 28, 4, rfl, by first | decide | omega, by first | decide | omega, fun r1 hr1 => ?_⟩
    obtain ⟨v, hv, ev⟩ : ∃ v : Int, ¬ (1 ≤ v ∧ v ≤ 10) ∧ atI [D.int 0, D.int (11 + cell % 1000000000), D.int (-1), D.int 11] (r1 : Int) = some (.int v) := by
      obtain rfl | rfl | rfl | rfl : r1 = 0 ∨ r1 = 1 ∨ r1 = 2 ∨ r1 = 3 := by first | decide | omega
      · exact ⟨_, by first | decide | omega, rfl⟩
      · exact ⟨_, by first | decide | omega, rfl⟩
      · exact ⟨_, by first | decide | omega, rfl⟩
      · exact ⟨_, by first | decide | omega, rfl⟩
    simp only [ev, VV]
    subst hN2
    (try dsimp only); refine seq_intro fun N2 hN2 => ?_
    have tail : ∀ x : Int × Int, szF x = false → N2 [some (.ref (h1.length + G.length)), some (.int cell), some (.ref j), some (nD f), some (.int g.1.1), some (.int g.1.2), some (.ref (h1.length + f)), some (.int v), none] (h1 ++ trG h1.length (G.set f (x, g.2))) := fun x hx => by
      subst hN2
      (try dsimp only); refine seq_intro fun N3 hN3 => ?_
      simp only [hj', List.length_map, VV]
      refine ⟨by first | decide | omega, ?_⟩
      have ee : cD C :: (ps.map zD ++ [D.tup [nD f, D.int (-1)]]) = cD C :: (ps ++ [((f : Int), (-1 : Int))]).map zD := by rw [List.map_append]; rfl
      rw [ee, sj]
      subst hN3
      simp only [VV]
      exact fin _ _ (sp.size hF hg hx)
    have put : ∀ x : Int × Int, szF x = false → N2 [some (.ref (h1.length + G.length)), some (.int cell), some (.ref j), some (nD f), some (.int g.1.1), some (.int g.1.2), some (.ref (h1.length + f)), some (.int v), none] ((h1 ++ trG h1.length G).set (h1.length + G.length) (.lst ((hdD h1.length (G.map (·.1))).set f (.tup [.int x.1, .int x.2, .ref (h1.length + f)])))) := fun x hx => by
      rw [trG_setH hg]; exact tail x hx
    have ixf : ixN (hdD h1.length (G.map (·.1))).length (f : Int) = some f := ixN_nat (by rw [hdD_len, List.length_map]; exact hf)
    simp only [VV]
    refine ⟨cell, 29, 2, rfl, by first | decide | omega, by first | decide | omega, fun r2 hr2 => ?_⟩
    by_cases c2 : ((r2 : Int) == 0) = true
    · simp only [c2, trG_hd, ixf, VV]
      exact put (v, g.1.2) (decide_eq_false fun z => hv ⟨z.1, z.2.1⟩)
    · simp only [c2, VV]
      rw [e9]
      refine ⟨⟨by decide, by decide, by decide⟩, by decide, cell, 28, 4, rfl, by first | decide | omega, by first | decide | omega, fun r3 hr3 => ?_⟩
      obtain ⟨u, hu, eu⟩ : ∃ v : Int, ¬ (1 ≤ v ∧ v ≤ 6) ∧ atI [D.int 0, D.int (7 + cell % 1000000000), D.int (-1), D.int 7] (r3 : Int) = some (.int v) := by
        obtain rfl | rfl | rfl | rfl : r3 = 0 ∨ r3 = 1 ∨ r3 = 2 ∨ r3 = 3 := by first | decide | omega
        · exact ⟨_, by first | decide | omega, rfl⟩
        · exact ⟨_, by first | decide | omega, rfl⟩
        · exact ⟨_, by first | decide | omega, rfl⟩
        · exact ⟨_, by first | decide | omega, rfl⟩
      simp only [eu, trG_hd, ixf, VV]
      exact put (g.1.1, u) (decide_eq_false fun z => hu ⟨z.2.2.1, z.2.2.2⟩)
  clear hA
  simp only [VV0]
  refine pEq_nil rfl (Pd.ref he (Pds.map (pd_ge _))) (by decide) ?_
  by_cases ge : g.2 = []
  · have hh : (g.2.map geP).isEmpty = true := by rw [ge]; rfl
    simp only [hh, VV]
    exact A
  have hh : (g.2.map geP).isEmpty = false := by
    cases z : g.2 with
    | nil => exact absurd z ge
    | cons _ _ => rfl
  have gp : 0 < g.2.length := List.length_pos_iff.mpr ge
  simp only [hh, VV]
  refine ⟨cell, 27, 4, rfl, by first | decide | omega, by first | decide | omega, fun r4 hr4 => ?_⟩
  by_cases c4 : ((r4 : Int) == 0) = true
  · simp only [c4, VV]
    exact A
  clear A
  simp only [c4, VV]
  subst hB
  simp only [VV]
  subst hN
  (try dsimp only); refine seq_intro fun N hN => ?_
  simp only [len_ls le, List.length_map, VV]
  have g100 : g.2.length ≤ 100 := by rw [s2]; exact (wf.fn f F hF).2.2.2.2.1
  refine ⟨cell, 30, g.2.length, rfl, by first | decide | omega, by first | decide | omega, fun k hk => ?_⟩
  obtain ⟨E, hE⟩ : ∃ E, F.edges[k]? = some E := ⟨_, List.getElem?_eq_getElem (by first | decide | omega)⟩
  obtain ⟨e', he', t2, t3⟩ := s5 k E hE
  subst hN
  simp only [VV1]
  refine nin_sp (p := ((f : Int), (k : Int))) (hj' G) ?_
  by_cases mem : ((f : Int), (k : Int)) ∈ ps
  · simp only [mem, VV]
    have := q G ps sp (fun z => by rw [z] at mem; cases mem) (by first | decide | omega)
    rw [show h1.set j (.lst (cD C :: ps.map zD)) = h1 from by
      apply List.ext_getElem?
      intro i
      rw [List.getElem?_set]
      by_cases c : j = i
      · subst c; rw [if_pos rfl, if_pos jl, hj]
      · rw [if_neg c]] at this
    exact this
  · have ek := t3 mem
    subst ek
    simp only [mem, VV]
    (try dsimp only); refine seq_intro fun N hN => ?_
    have i0 : ixD (h1 ++ trG h1.length G) (.ref j) (.int 0) = some (cD C) := by rw [ix_ls (lsOf_ref (hj' G))]; exact atI_0 ..
    have ik : atI (g.2.map geD) (k : Int) = some (eD E) := by rw [atN, List.getElem?_map, he']; show some (geD (gE E)) = _; rw [geD_gE]
    have ixk : ixN (g.2.map geD).length (k : Int) = some k := ixN_nat (by rw [List.length_map]; exact hk)
    simp only [i0, ix_ls le, ik, VV]
    refine ⟨C, f, F, E, cell, rfl, wf, hF, (wf.fn f F hF).2.2.2.2.2 E (List.mem_of_getElem? hE), fun e'' he'' => ?_⟩
    simp only [he, ixk, VV]
    have st : (h1 ++ trG h1.length G).set (h1.length + f) (.lst ((g.2.map geD).set k (geD e''))) = h1 ++ trG h1.length (G.set f (g.1, g.2.set k e'')) := by
      rw [← trG_setE hg]; unfold geO; rw [List.map_set]
    rw [st]
    subst hN
    simp only [hj', List.length_map, VV]
    refine ⟨by first | decide | omega, ?_⟩
    have ee : cD C :: (ps.map zD ++ [D.tup [nD f, nD k]]) = cD C :: (ps ++ [((f : Int), (k : Int))]).map zD := by rw [List.map_append]; rfl
    rw [ee, sj]
    exact fin _ _ (sp.edge hF hg hE he'')
theorem ok__law_wrong {f : Addr} {fd : FuncData} (F : Fun K "_law_wrong" "_law_wrong" s__law_wrong f fd) (T : Txt P w K mg) (C__law_pick : Cal P w K mg base 1 "_law_pick" ["_law_cell", "_law_k", "_law_many"] (spD K 3 S__law_pick)) (C__law_spoilt_edge : Cal P w K mg base 3 "_law_spoilt_edge" ["_law_chart_here", "_law_f", "_law_edge_here", "_law_cell"] (spD K 4 S__law_spoilt_edge)) : FnOk P w K mg base CX0 4 f fd ["_law_chart_here", "_law_cell", "_law_spoilt"] (spD K 3 S__law_wrong) :=
  fn_ok (k := 3) (b := b__law_wrong) F sc__law_wrong (fun cdv A outer s H E hr => by
    refine ss_cons ?_ ?_
    · refine s_set (i := 3) ?_ ?_ ?_ ?_
      · exact sc__law_wrong.nd
      · exact rfl
      · exact Or.inl rfl
      exact se_cal C__law_pick (hr.mono (by decide)) rfl (sa_cons (sv 1) (sa_cons se_int (sa_cons (se_callB ok_len rfl T.b_len PySem.boot_len (sa_cons (sv 0) sa_nil)) sa_nil)))
    refine ss_cons ?_ ?_
    · exact s_asg (se_ix ok_ix (sv 0) (sv 3) (fun _ _ => rfl)) (sg_tup rfl (sgs_cons (sg_name (i := 4) sc__law_wrong.nd rfl (Or.inl rfl)) (sgs_cons (sg_name (i := 5) sc__law_wrong.nd rfl (Or.inl rfl)) (sgs_cons (sg_name (i := 6) sc__law_wrong.nd rfl (Or.inl rfl)) sgs_nil))))
    refine ss_cons ?_ ?_
    · refine s_if ?_ ?_ ?_
      · exact st_w (sw_or (st_cmp (ok_eq hr.units) (sv 6) (se_v (sn_lst sa_nil)) (nomark _)) (sw_or1 (st_cmp (ok_eq hr.units) (se_cal C__law_pick (hr.mono (by decide)) rfl (sa_cons (sv 1) (sa_cons se_int (sa_cons se_int sa_nil)))) se_int (nomark _))))
      · refine ss_cons ?_ ?_
        · refine s_set (i := 7) ?_ ?_ ?_ ?_
          · exact sc__law_wrong.nd
          · exact rfl
          · exact Or.inl rfl
          exact se_ix ok_ix (se_v (sn_lst (sa_cons se_int (sa_cons (se_op ok_plus se_int (se_op ok_mod (sv 1) (se_op ok_pow se_int se_int))) (sa_cons (se_un ok_neg se_int) (sa_cons se_int sa_nil)))))) (se_cal C__law_pick (hr.mono (by decide)) rfl (sa_cons (sv 1) (sa_cons se_int (sa_cons se_int sa_nil)))) (fun _ _ => rfl)
        refine ss_cons ?_ ?_
        · refine s_if ?_ ?_ ?_
          · exact st_cmp (ok_eq hr.units) (se_cal C__law_pick (hr.mono (by decide)) rfl (sa_cons (sv 1) (sa_cons se_int (sa_cons se_int sa_nil)))) se_int (nomark _)
          · refine ss_one ?_
            exact s_asg (se_tup (sa_cons (sv 7) (sa_cons (sv 5) (sa_cons (sv 6) sa_nil)))) (sg_subL (sv 0) (sv 3))
          refine ss_one ?_
          exact s_asg (se_tup (sa_cons (sv 4) (sa_cons (se_ix ok_ix (se_v (sn_lst (sa_cons se_int (sa_cons (se_op ok_plus se_int (se_op ok_mod (sv 1) (se_op ok_pow se_int se_int))) (sa_cons (se_un ok_neg se_int) (sa_cons se_int sa_nil)))))) (se_cal C__law_pick (hr.mono (by decide)) rfl (sa_cons (sv 1) (sa_cons se_int (sa_cons se_int sa_nil)))) (fun _ _ => rfl)) (sa_cons (sv 6) sa_nil)))) (sg_subL (sv 0) (sv 3))
        refine ss_cons ?_ ?_
        · refine s_expr ?_
          exact se_append (sv 2) (sa_cons (se_tup (sa_cons (sv 3) (sa_cons (se_un ok_neg se_int) sa_nil))) sa_nil)
        refine ss_one ?_
        exact s_retN
      exact ss_nil
    refine ss_cons ?_ ?_
    · refine s_set (i := 8) ?_ ?_ ?_ ?_
      · exact sc__law_wrong.nd
      · exact rfl
      · exact Or.inl rfl
      exact se_cal C__law_pick (hr.mono (by decide)) rfl (sa_cons (sv 1) (sa_cons se_int (sa_cons (se_callB ok_len rfl T.b_len PySem.boot_len (sa_cons (sv 6) sa_nil)) sa_nil)))
    refine ss_one ?_
    refine s_if ?_ ?_ ?_
    · exact st_cmp (ok_ninS hr.units) (se_tup (sa_cons (sv 3) (sa_cons (sv 8) sa_nil))) (sv 2) rfl
    · refine ss_cons ?_ ?_
      · exact s_asg (se_cal C__law_spoilt_edge (hr.mono (by decide)) rfl (sa_cons (se_ix ok_ix (sv 2) se_int (fun _ _ => rfl)) (sa_cons (sv 3) (sa_cons (se_ix ok_ix (sv 6) (sv 8) (fun _ _ => rfl)) (sa_cons (sv 1) sa_nil))))) (sg_subL (sv 6) (sv 8))
      refine ss_one ?_
      refine s_expr ?_
      exact se_append (sv 2) (sa_cons (se_tup (sa_cons (sv 3) (sa_cons (sv 8) sa_nil))) sa_nil)
    exact ss_nil) imp__law_wrong
noncomputable def b_checked : DS := (dSeq (dDropX (dCalX S_check_functions (dCons (dVar 0) dNil)))
    (dSeq (dDropX (dCalX S_check_edges (dCons (dVar 0) dNil)))
    (dRet (dTk (dComp [none, none, none] (dISeq (dVar 0)) (dUnp 3 (dGCons (dName 0) (dGCons (dName 1) (dGCons (dName 2) dGNil)))) dNoIf (dTup (dCons (dVar 0) (dCons (dVar 1) (dCons (dTk (dListOf (dCons (dVar 2) dNil))) dNil)))))))))
noncomputable def S_checked : DSpX := fun ds h Q X' => ∃ (d : D) (G : List GF), ds = [d] ∧ GC h d G ∧ G.length ≤ 60 ∧ (Good G → Q (.ref (h.length + G.length)) (h ++ trG h.length G)) ∧ (∀ f k, Refu G f k → X' "NoChart" [("function", f), ("edge", k)] h)
theorem imp_checked : ∀ ds h Q X', S_checked ds h Q X' → runX 1 b_checked ds h Q X' := by
  rintro ds h Q X' ⟨d, G, rfl, gc, g60, q, x⟩
  obtain ⟨xs, e1, t⟩ := gc
  have gc : GC h d G := ⟨xs, e1, t⟩
  simp only [runD, runX, b_checked, List.map_cons, List.map_nil, List.cons_append, List.nil_append, List.length_cons, List.length_nil, List.replicate, Nat.reduceSub, Nat.reduceAdd, Nat.zero_add, Nat.sub_self]
  (try dsimp only); refine seq_intro fun N hN => ?_
  simp only [VV]
  refine ⟨d, G, rfl, gc, g60, fun c1 c2 sz => ?_, fun c => x _ _ (.len c), fun p r F c1 c2 e s1 s2 => x _ _ (.size c1 c2 e s1 s2)⟩
  subst hN
  (try dsimp only); refine seq_intro fun N hN => ?_
  simp only [VV]
  refine ⟨d, G, rfl, gc, c2, sz, fun few fit => ?_, fun p r F q' s e a1 a2 a3 a4 a5 a6 => x _ _ (.edge c1 c2 sz a1 a2 a3 a4 a5 a6)⟩
  subst hN
  obtain ⟨w, e2, ok⟩ := src_pre e1
  have e2 := e2 h (Pre.refl h)
  simp only [e2, VV]
  have hl := t.len
  refine ⟨by first | decide | omega, ?_⟩
  refine copy_comp e1 t (ok xs) ?_ none none none
  have q := q ⟨c1, c2, sz, few, fit⟩
  rw [List.length_append, List.append_assoc]
  unfold trG at q
  have : (cpO G).length = G.length := by unfold cpO; simp
  rw [this]
  exact q
theorem ok_checked {f : Addr} {fd : FuncData} (F : Fun K "checked" "checked" s_checked f fd) (T : Txt P w K mg) (C_check_functions : CalX P w K mg base 3 "check_functions" ["chart"] (spX K 1 S_check_functions)) (C_check_edges : CalX P w K mg base 4 "check_edges" ["chart"] (spX K 1 S_check_edges)) : FnOk P w K mg base (CXE P w) 5 f fd ["chart"] (spX K 1 S_checked) :=
  fn_okXK (k := 4) (b := b_checked) F sc_checked (fun cdv A outer s H E hr => by
    refine ss_cons ?_ ?_
    · exact s_exprX (sex_cal C_check_functions (hr.mono (by decide)) rfl (sa_cons (sv 0) sa_nil))
    refine ss_cons ?_ ?_
    · exact s_exprX (sex_cal C_check_edges (hr.mono (by decide)) rfl (sa_cons (sv 0) sa_nil))
    refine ss_one ?_
    refine s_ret ?_
    exact se_t (sn_comp rfl (N' := ["places", "facts", "edges"]) (js := [none, none, none]) ⟨rfl, by decide +kernel, rfl, rfl, rfl⟩ (si_seq (sv 0)) (fun s0 H0 fp => ⟨(sg_tup rfl (sgs_cons (sg_name (i := 0) (show (["places", "facts", "edges"] : List Str).Nodup by decide +kernel) rfl (Or.inl rfl)) (sgs_cons (sg_name (i := 1) (show (["places", "facts", "edges"] : List Str).Nodup by decide +kernel) rfl (Or.inl rfl)) (sgs_cons (sg_name (i := 2) (show (["places", "facts", "edges"] : List Str).Nodup by decide +kernel) rfl (Or.inl rfl)) sgs_nil)))), sf_nil, (se_tup (sa_cons (sv 0) (sa_cons (sv 1) (sa_cons (se_t (sn_list rfl T.b_list (sa_cons (sv 2) sa_nil))) sa_nil))))⟩))) imp_checked
noncomputable def b__law_refusal : DS := (dSeq (dAsg (dC .non) (dName 1))
    (dSeq (dTryD S_checked (dCons (dVar 0) dNil) "NoChart" 2 (dSeq (dAsg (dV (dCons (dIsX "NoChart" false (dVar 2)) (dCons (dIsX "NoChart" false (dVar 2)) (dCons (dIsX "NoChart" false (dVar 2)) (dCons (dIsX "NoChart" false (dVar 2)) dNil))))) (dName 3))
    (dSeq (dAsg (dOp pPlus (dVar 3) (dV (dCons (dIsX "NoChart" false (dVar 2)) (dCons (dIsX "NoChart" false (dVar 2)) (dCons (dNotV (dIsX "NoChart" true (dVar 2))) dNil))))) (dName 3))
    (dAsg (dV (dCons (dIsX "NoChart" true (dVar 2)) (dCons (dOp (pIn false) (dC (.bl true)) (dVar 3)) (dCons (dVar 2) dNil)))) (dName 1)))))
    (dSeq (dIfS (dOr (dTst (dOp (pIs false) (dVar 1) (dC .non))) (dOr (dTst (dOp pIsB (dOp pIx (dVar 1) (dC (.int 0))) (dC (.bl false)))) (dTr (dOp pIx (dVar 1) (dC (.int 1)))))) (dRet (dC .non)) dNext)
    (dRet (dTup (dCons (dXA "NoChart" "function" (dOp pIx (dVar 1) (dC (.int 2)))) (dCons (dXA "NoChart" "edge" (dOp pIx (dVar 1) (dC (.int 2)))) dNil)))))))
noncomputable def S__law_refusal : DSp := fun ds h Q => ∃ (d : D) (G : List GF) (f k : Int), ds = [d] ∧ GC h d G ∧ G.length ≤ 60 ∧ Refu G f k ∧ Q (.tup [.int f, .int k]) h
theorem imp__law_refusal : ∀ ds h Q, S__law_refusal ds h Q → runD 4 b__law_refusal ds h Q := by
  rintro ds h Q ⟨d, G, f, k, rfl, gc, g60, rf, q⟩
  simp only [runD, runX, b__law_refusal, List.map_cons, List.map_nil, List.cons_append, List.nil_append, List.length_cons, List.length_nil, List.replicate, Nat.reduceSub, Nat.reduceAdd, Nat.zero_add, Nat.sub_self]
  (try dsimp only); refine seq_intro fun N hN => ?_
  simp only [VV]
  subst hN
  (try dsimp only); refine seq_intro fun N hN => ?_
  simp only [VV]
  refine ⟨d, G, rfl, gc, g60, fun g => absurd g rf.bad, fun f' k' rf' => ⟨rfl, ?_⟩⟩
  obtain ⟨rfl, rfl⟩ := rf.one rf'
  (try dsimp only); refine seq_intro fun N2 hN2 => ?_
  simp only [VV]
  refine ⟨trivial, trivial, trivial, trivial, ?_⟩
  subst hN2
  (try dsimp only); refine seq_intro fun N2 hN2 => ?_
  simp only [VV]
  refine ⟨trivial, trivial, trivial, by decide, ?_⟩
  subst hN2
  simp only [VV]
  refine ⟨trivial, rfl, ?_⟩
  have ei : inF (D.bl true) [D.bl false, D.bl false, D.bl false, D.bl false, D.bl false, D.bl false, D.bl false] = false := rfl
  rw [ei]
  subst hN
  (try dsimp only); refine seq_intro fun N hN => ?_
  have bt : (true == false) = false := rfl
  have nn : isNon (D.lst [D.bl true, D.bl false, D.exc (Str.ofString "NoChart") [(Str.ofString "function", f), (Str.ofString "edge", k)]]) = false := rfl
  simp only [nn, bt, VV]
  subst hN
  have l1 : ([(Str.ofString "function", f), (Str.ofString "edge", k)] : List (Str × Int)).lookup (Str.ofString "function") = some f := rfl
  have l2 : ([(Str.ofString "function", f), (Str.ofString "edge", k)] : List (Str × Int)).lookup (Str.ofString "edge") = some k := rfl
  simp only [l1, l2, VV]
  exact ⟨trivial, trivial, q⟩
theorem ok__law_refusal {f : Addr} {fd : FuncData} (F : Fun K "_law_refusal" "_law_refusal" s__law_refusal f fd) (T : Txt P w K mg) (C_checked : CalX P w K mg base 5 "checked" ["chart"] (spX K 1 S_checked)) : FnOk P w K mg base CX0 6 f fd ["_law_chart_here"] (spD K 1 S__law_refusal) :=
  fn_ok (k := 5) (b := b__law_refusal) F sc__law_refusal (fun cdv A outer s H E hr => by
    refine ss_cons ?_ ?_
    · refine s_set (i := 1) ?_ ?_ ?_ ?_
      · exact sc__law_refusal.nd
      · exact rfl
      · exact Or.inl rfl
      exact se_non
    refine ss_cons ?_ ?_
    · exact s_tryD ⟨rfl, rfl⟩ (fun _ _ z => z) sc__law_refusal.nd rfl rfl C_checked (hr.mono (by decide)) rfl (sa_cons (sv 0) sa_nil) T.k_CallError rfl (fun a => (ss_cons (s_set (i := 3) sc__law_refusal.nd rfl (Or.inl rfl) (se_v (sn_lst (sa_cons (se_isN rfl T.b_isinstance T.x_NoChart T.i_NoName rfl (sv 2)) (sa_cons (se_isN rfl T.b_isinstance T.x_NoChart T.i_NoPaper rfl (sv 2)) (sa_cons (se_isN rfl T.b_isinstance T.x_NoChart T.i_NoTable rfl (sv 2)) (sa_cons (se_isN rfl T.b_isinstance T.x_NoChart T.i_NoText rfl (sv 2)) sa_nil)))))))     (ss_cons (s_set (i := 3) sc__law_refusal.nd rfl (Or.inl rfl) (se_op ok_plus (sv 3) (se_v (sn_lst (sa_cons (se_isN rfl T.b_isinstance T.x_NoChart T.i_NoWay rfl (sv 2)) (sa_cons (se_isN rfl T.b_isinstance T.x_NoChart T.i_TooLong rfl (sv 2)) (sa_cons (se_not (se_isV rfl T.b_isinstance T.x_NoChart T.i_ValueError rfl T.b_ValueError (sv 2))) sa_nil)))))))     (ss_one (s_set (i := 1) sc__law_refusal.nd rfl (Or.inl rfl) (se_v (sn_lst (sa_cons (se_isN rfl T.b_isinstance T.x_NoChart T.i_NoChart rfl (sv 2)) (sa_cons (se_cmp ok_in se_bl (sv 3) rfl) (sa_cons (sv 2) sa_nil))))))))))
    refine ss_cons ?_ ?_
    · refine s_if ?_ ?_ ?_
      · exact st_w (sw_or (st_cmp ok_is (sv 1) se_non (nomark _)) (sw_or (st_cmp ok_isB (se_ix ok_ix (sv 1) se_int (fun _ _ => rfl)) se_bl (nomark _)) (sw_or1 (st_truth (se_ix ok_ix (sv 1) se_int (fun _ _ => rfl))))))
      · refine ss_one ?_
        refine s_ret ?_
        exact se_non
      exact ss_nil
    refine ss_one ?_
    refine s_ret ?_
    refine se_tup (n := 2) ?_
    refine sa_cons ?_ ?_
    · exact se_xa T.a_function (se_ix ok_ix (sv 1) se_int (fun _ _ => rfl))
    refine sa_cons ?_ ?_
    · exact se_xa T.a_edge (se_ix ok_ix (sv 1) se_int (fun _ _ => rfl))
    exact sa_nil) imp__law_refusal
noncomputable def b__law_too_many : DS := (dSeq (dAsg (dCal S__law_copied (dCons (dVar 0) dNil)) (dName 2))
    (dSeq (dAsg (dOp pPlus (dC (.int 25)) (dCal S__law_pick (dCons (dVar 1) (dCons (dC (.int 32)) (dCons (dC (.int 8)) dNil))))) (dName 3))
    (dSeq (dFor (dISeq (dVar 2)) (dName 4) (dAsg (dOp pSub (dVar 3) (dCB pLen (dCons (dOp pIx (dVar 4) (dC (.int 2))) dNil))) (dName 3)))
    (dSeq (dDrop (dExtend (dOp pIx (dOp pIx (dVar 2) (dC (.int 0))) (dC (.int 2))) (dCons (dV (dRepN (dV (dCons (dTup (dCons (dC (.str "step")) (dCons (dC (.int 0)) (dCons (dC (.int 0)) (dCons (dC (.int 1)) (dCons (dOp pMul (dTup (dCons (dC (.int 0)) dNil)) (dOp pIx (dOp pIx (dVar 0) (dC (.int 0))) (dC (.int 1)))) dNil)))))) dNil)) (dVar 3))) dNil)))
    (dSeq (dAsg (dTup (dCons (dC (.str "step")) (dCons (dC (.int 0)) (dCons (dC (.int 0)) (dCons (dC (.int 0)) (dCons (dOp pMul (dTup (dCons (dC (.int 0)) dNil)) (dOp pIx (dOp pIx (dVar 0) (dC (.int 0))) (dC (.int 1)))) dNil)))))) (dName 5))
    (dSeq (dIfS (dTst (dOp (pEq false) (dCal S__law_pick (dCons (dVar 1) (dCons (dC (.int 33)) (dCons (dC (.int 2)) dNil)))) (dC (.int 0)))) (dDrop (dInsert (dOp pIx (dOp pIx (dVar 2) (dC (.int 0))) (dC (.int 2))) (dCons (dCal S__law_pick (dCons (dVar 1) (dCons (dC (.int 34)) (dCons (dOp pPlus (dCB pLen (dCons (dOp pIx (dOp pIx (dVar 2) (dC (.int 0))) (dC (.int 2))) dNil)) (dC (.int 1))) dNil)))) (dCons (dVar 5) dNil)))) dNext)
    (dSeq (dAsg (dC (.int 0)) (dName 6))
    (dSeq (dIfS (dTst (dOp (pEq false) (dCal S__law_pick (dCons (dVar 1) (dCons (dC (.int 35)) (dCons (dC (.int 4)) dNil)))) (dC (.int 0)))) (dSeq (dAsg (dCal S__law_pick (dCons (dVar 1) (dCons (dC (.int 36)) (dCons (dCB pLen (dCons (dVar 2) dNil)) dNil)))) (dName 7))
    (dSeq (dAsg (dTup (dCons (dC (.int 0)) (dCons (dOp pIx (dOp pIx (dVar 2) (dVar 7)) (dC (.int 1))) (dCons (dOp pIx (dOp pIx (dVar 2) (dVar 7)) (dC (.int 2))) dNil)))) (dSubL (dVar 2) (dVar 7)))
    (dRet (dOp (pEq false) (dCal S__law_refusal (dCons (dVar 2) dNil)) (dTup (dCons (dVar 7) (dCons (dUn pNeg (dC (.int 1))) dNil))))))) dNext)
    (dSeq (dFor (dIEnum (dCons (dVar 2) dNil)) (dUnp 2 (dGCons (dName 7) (dGCons (dName 4) dGNil))) (dFor (dIEnum (dCons (dOp pIx (dVar 4) (dC (.int 2))) dNil)) (dUnp 2 (dGCons (dName 8) (dGCons (dName 9) dGNil))) (dSeq (dAsg (dOp pPlus (dVar 6) (dC (.int 1))) (dName 6))
    (dIfS (dOr (dTst (dOp (pEq false) (dVar 6) (dC (.int 25)))) (dTst (dOp (pEq false) (dVar 9) (dVar 5)))) (dRet (dOp (pEq false) (dCal S__law_refusal (dCons (dVar 2) dNil)) (dTup (dCons (dVar 7) (dCons (dVar 8) dNil))))) dNext))))
    (dRet (dC (.bl false))))))))))))
theorem pEq_int (i j : Int) (h : Hh) (Q : DK) : pEq false (.int i) (.int j) h Q = Q (.bl (i == j)) h := rfl
noncomputable def S__law_too_many : DSp := fun ds h Q => ∃ (C : Chart) (cell : Int), ds = [cD C, .int cell] ∧ WF C ∧ many C ≤ 24 ∧ Q (.bl true) h
theorem imp__law_too_many : ∀ ds h Q, S__law_too_many ds h Q → runD 10 b__law_too_many ds h (Dr h Q) := by
  rintro ds h Q ⟨C, cell, rfl, wf, hm, q⟩
  obtain ⟨F, R, rfl⟩ : ∃ F R, C = F :: R := by
    cases C with
    | nil => exact absurd wf.one (by decide)
    | cons F R => exact ⟨F, R, rfl⟩
  obtain ⟨w1, w2, w3, w4, w5, w6⟩ := wf.fn 0 F rfl
  have c6 := wf.six
  have gl : (gC (F :: R)).length = (F :: R).length := by unfold gC; simp
  have cm := cnt_gC (F :: R)
  simp only [runD, runX, b__law_too_many, List.map_cons, List.map_nil, List.cons_append, List.nil_append, List.length_cons, List.length_nil, List.replicate, Nat.reduceSub, Nat.reduceAdd, Nat.zero_add, Nat.sub_self]
  (try dsimp only); refine seq_intro fun N hN => ?_
  simp only [VV]
  refine ⟨cD (F :: R), gC (F :: R), rfl, GC.of _ _, by first | decide | omega, ?_⟩
  have q : ∀ G, Dr h Q (.bl true) (h ++ trG h.length G) := fun G => Dr.drop rfl q
  have lh : ∀ G, lsOf (h ++ trG h.length G) (.ref (h.length + G.length)) = some (hdD h.length (G.map (·.1))) := fun G => lsOf_ref trG_hd
  subst hN
  (try dsimp only); refine seq_intro fun N hN => ?_
  simp only [VV]
  refine ⟨cell, 32, 8, rfl, by first | decide | omega, by first | decide | omega, fun m hm8 => ?_⟩
  subst hN
  (try dsimp only); refine seq_intro fun N hN => ?_
  have hs : ∀ (G : List GF) (i : Nat) (d : D), (hdD h.length (G.map (·.1)))[i]? = some d → ∃ g, G[i]? = some g ∧ d = .tup [.int g.1.1, .int g.1.2, .ref (h.length + i)] := fun G i d e => by
    have il := (List.getElem?_eq_some_iff.mp e).1
    rw [hdD_len, List.length_map] at il
    rw [hdD_get (x := (G[i]).1) (by rw [List.getElem?_map, List.getElem?_eq_getElem il]; rfl)] at e
    cases e
    exact ⟨_, List.getElem?_eq_getElem il, rfl⟩
  obtain ⟨w, e2, ok, _⟩ := src_ls (lh (gC (F :: R)))
  simp only [e2, VV]
  have em : hdD h.length ((gC (F :: R)).map (·.1)) = (hdD h.length ((gC (F :: R)).map (·.1))).map id := by simp
  rw [em]
  refine forL_map (fun p δ h' => h' = h ++ trG h.length (gC (F :: R)) ∧ ∃ x4 : Option D, δ = [some (cD (F :: R)), some (.int cell), some (.ref (h.length + (gC (F :: R)).length)), some (.int (25 + (m : Int) - (cnt ((gC (F :: R)).take p.length) : Int))), x4, none, none, none, none, none]) ⟨rfl, none, by simp [cnt]⟩ (fun p δ h' hp => by rw [hp.1]; exact ok) ?_ ?_
  · rintro p y r δ h' N1 e ⟨rfl, x4, rfl⟩ hN1
    obtain ⟨g, hg, rfl⟩ := hs _ p.length y (by rw [e]; simp)
    simp only [id, len_ls (lsOf_ref (trG_es hg)), List.length_map, pSub, VV]
    refine hN1 _ _ ⟨rfl, some (.tup [.int g.1.1, .int g.1.2, .ref (h.length + p.length)]), ?_⟩
    rw [List.length_append, List.length_singleton, cnt_take hg]
    rw [show (25 : Int) + (m : Int) - (cnt ((gC (F :: R)).take p.length) : Int) - (g.2.length : Int) = 25 + (m : Int) - ((cnt ((gC (F :: R)).take p.length) + g.2.length : Nat) : Int) by first | decide | omega]
  · rintro δ h' ⟨rfl, x4, rfl⟩
    rw [hdD_len, List.length_map, List.take_length, cm]
    clear e2 ok em
    obtain ⟨mo, hmo⟩ : ∃ mo : Nat, 25 + (m : Int) - (many (F :: R) : Int) = mo := ⟨(25 + (m : Int) - (many (F :: R) : Int)).toNat, by first | decide | omega⟩
    rw [hmo]
    have gcE : gC (F :: R) = gF F :: gC R := rfl
    rw [gcE]
    rw [gcE] at gl
    have i0 : ∀ (g : GF) (G : List GF), ixD (h ++ trG h.length (g :: G)) (.ref (h.length + (G.length + 1))) (.int 0) = some (.tup [.int g.1.1, .int g.1.2, .ref (h.length + 0)]) := fun g G => by rw [ix_ls (show lsOf _ (.ref (h.length + (G.length + 1))) = _ from lh (g :: G))]; exact atI_0 ..
    have g0 : ∀ g G, (h ++ trG h.length (g :: G))[h.length + 0]? = some (.lst (g.2.map geD)) := fun g G => trG_es (i := 0) rfl
    have s0 : ∀ g G es, (h ++ trG h.length (g :: G)).set (h.length + 0) (.lst (es.map geD)) = h ++ trG h.length ((g.1, es) :: G) := fun g G es => trG_setE (i := 0) (G := g :: G) (F := g) rfl
    have cx : ∀ h', ixD h' (cD (F :: R)) (.int 0) = some (.tup [nD F.places, nD F.facts, .lst (F.edges.map eD)]) := fun _ => atI_0 ..
    have fl : ((gF F).2).length = F.edges.length := by unfold gF; simp
    subst hN
    (try dsimp only); refine seq_intro fun N hN => ?_
    simp only [i0, g0, cx, VV]
    refine ⟨⟨by simp, by decide, by first | decide | omega, by first | decide | omega⟩, ?_⟩
    simp only [Int.toNat_natCast]
    rw [zer_D]
    have oneD : D.tup [.str (Str.ofString "step"), .int 0, .int 0, .int 1, .tup ((zer F.facts).map D.int)] = geD (eOne F.facts) := rfl
    have rp : (List.replicate mo [geD (eOne F.facts)]).flatten = (List.replicate mo (eOne F.facts)).map geD := by rw [List.map_replicate]; simp
    rw [oneD, rp, ← List.map_append]
    refine ⟨⟨by first | decide | omega, by first | decide | omega, by first | decide | omega⟩, by rw [List.length_map, List.length_map, List.length_replicate]; omega, ?_⟩
    rw [s0]
    have f1 : ∀ e ∈ (gF F).2 ++ List.replicate mo (eOne F.facts), e = eWr F.facts ∨ eF (nsG (gC (F :: R))) (gF F).1 e = true := fun e he => by
      rcases List.mem_append.mp he with z | z
      · exact .inr ((good_of wf hm).fit (gF F) List.mem_cons_self e z)
      · rw [List.eq_of_mem_replicate z]; exact .inr (eOne_fit wf (f := 0) rfl)
    have l1 : ((gF F).2 ++ List.replicate mo (eOne F.facts)).length + cnt (gC R) ≥ 25 ∧ ((gF F).2 ++ List.replicate mo (eOne F.facts)).length ≤ 200 := by
      have : cnt (gC (F :: R)) = (gF F).2.length + cnt (gC R) := by rw [gcE]; rfl
      rw [List.length_append, List.length_replicate]
      omega
    generalize (gF F).2 ++ List.replicate mo (eOne F.facts) = es1 at f1 l1
    subst hN
    (try dsimp only); refine seq_intro fun N hN => ?_
    simp only [cx, VV]
    refine ⟨⟨by simp, by decide, by first | decide | omega, by first | decide | omega⟩, ?_⟩
    simp only [Int.toNat_natCast]
    rw [zer_D]
    have wrD : D.tup [.str (Str.ofString "step"), .int 0, .int 0, .int 0, .tup ((zer F.facts).map D.int)] = geD (eWr F.facts) := rfl
    rw [wrD]
    subst hN
    (try dsimp only); refine seq_intro fun N hN => ?_
    have main : ∀ es, (∀ e ∈ es, e = eWr F.facts ∨ eF (nsG (gC (F :: R))) (gF F).1 e = true) → 25 ≤ es.length + cnt (gC R) → es.length ≤ 300 → N [some (cD (F :: R)), some (D.int cell), some (D.ref (h.length + ((gC R).length + 1))), some (D.int mo), x4, some (geD (eWr F.facts)), none, none, none, none] (h ++ trG h.length (((gF F).1, es) :: gC R)) := by
      intro es fes les l300
      have fu := full_of wf hm fes
      generalize eG : (((gF F).1, es) : GF) :: gC R = G at fu
      have lG : (gC R).length + 1 = G.length := by rw [← eG]; rfl
      have cG : 25 ≤ cnt G := by rw [← eG]; exact les
      have l6 : G.length ≤ 6 := by rw [fu.len]; exact c6
      have l1 : 1 ≤ G.length := by rw [fu.len]; exact wf.one
      rw [lG]
      clear i0 g0 s0 cx
      subst hN
      (try dsimp only); refine seq_intro fun N hN => ?_
      simp only [VV]
      subst hN
      (try dsimp only); refine seq_intro fun N hN => ?_
      have lg := lh G
      simp only [VV]
      refine ⟨cell, 35, 4, rfl, by first | decide | omega, by first | decide | omega, fun r3 hr3 => ?_⟩
      by_cases c3 : ((r3 : Int) == 0) = true
      · simp only [c3, VV]
        (try dsimp only); refine seq_intro fun N2 hN2 => ?_
        simp only [len_ls lg, hdD_len, List.length_map, VV]
        refine ⟨cell, 36, G.length, rfl, by first | decide | omega, by first | decide | omega, fun f hf => ?_⟩
        obtain ⟨g, hg⟩ : ∃ g, G[f]? = some g := ⟨_, List.getElem?_eq_getElem hf⟩
        have hx : atI (hdD h.length (G.map (·.1))) (f : Int) = some (.tup [.int g.1.1, .int g.1.2, .ref (h.length + f)]) := by rw [atN]; exact hdD_get (by rw [List.getElem?_map, hg]; rfl)
        have ixf : ixN (hdD h.length (G.map (·.1))).length (f : Int) = some f := ixN_nat (by rw [hdD_len, List.length_map]; exact hf)
        subst hN2
        (try dsimp only); refine seq_intro fun N2 hN2 => ?_
        simp only [ix_ls lg, hx, trG_hd, ixf, VV]
        have st := trG_setH (h := h) (b := h.length) (x := (0, g.1.2)) hg
        dsimp only at st
        rw [st]
        subst hN2
        simp only [VV0]
        refine ⟨.ref (h.length + G.length), G.set f ((0, g.1.2), g.2), f, -1, rfl, ?_, by rw [List.length_set]; omega, fu.size wf hg, ?_⟩
        · have := trG_GC (h := h) (b := h.length) (G := G.set f ((0, g.1.2), g.2)) rfl
          rw [List.length_set] at this
          exact this
        · exact pEq_same (p := zP ((f : Int), (-1 : Int))) (n := 1) rfl (pd_z _ ((f : Int), (-1 : Int))) (pd_z _ ((f : Int), (-1 : Int))) (by decide) (q _)
      simp only [c3, VV]
      subst hN
      (try dsimp only); refine seq_intro fun N hN => ?_
      obtain ⟨xs, e1, t⟩ : GC (h ++ trG h.length G) (.ref (h.length + G.length)) G := trG_GC rfl
      have gc : GC (h ++ trG h.length G) (.ref (h.length + G.length)) G := ⟨xs, e1, t⟩
      obtain ⟨w, e2, ok, _⟩ := src_ls e1
      simp only [e2, VV]
      have em : xs = xs.map id := by simp
      rw [em, enumD_map]
      refine forL_map (fun p δ h' => h' = h ++ trG h.length G ∧ (∃ x4 x7 x8 x9 : Option D, δ = [some (cD (F :: R)), some (.int cell), some (.ref (h.length + G.length)), some (.int mo), x4, some (geD (eWr F.facts)), some (nD (cnt (G.take p.length))), x7, x8, x9]) ∧ cnt (G.take p.length) ≤ 24 ∧ ∀ i g, G[i]? = some g → i < p.length → ∀ e ∈ g.2, e ≠ eWr F.facts) ⟨rfl, ⟨x4, none, none, none, rfl⟩, by simp [cnt], fun i g _ z => absurd z (Nat.not_lt_zero _)⟩ (fun p δ h' hp => by rw [hp.1]; exact ok) ?_ ?_
      · rintro p ⟨y, i⟩ r δ h' N1 e ⟨rfl, ⟨x4, x7, x8, x9, rfl⟩, c24, fit⟩ hN1
        obtain ⟨hy, rfl⟩ := zip_at e
        obtain ⟨hl, _⟩ := List.getElem?_eq_some_iff.mp hy
        rw [t.len] at hl
        obtain ⟨g, hg⟩ : ∃ g, G[p.length]? = some g := ⟨_, List.getElem?_eq_getElem hl⟩
        obtain ⟨y', hy', e9, rfl, e8⟩ := t.get hg
        rw [hy] at hy'; cases hy'
        obtain ⟨w2, e7, ok2, _⟩ := src_ls e8
        simp only [id, e7, VV]
        refine ⟨trivial, ?_⟩
        rw [enumD_map]
        refine forL_map (fun p2 δ h'' => h'' = h ++ trG h.length G ∧ (∃ x8 x9 : Option D, δ = [some (cD (F :: R)), some (.int cell), some (.ref (h.length + G.length)), some (.int mo), some (.tup [.int g.1.1, .int g.1.2, e9]), some (geD (eWr F.facts)), some (nD (cnt (G.take p.length) + p2.length)), some (.int (0 + (p.length : Int))), x8, x9]) ∧ cnt (G.take p.length) + p2.length ≤ 24 ∧ ∀ i e, g.2[i]? = some e → i < p2.length → e ≠ eWr F.facts) ⟨rfl, ⟨x8, x9, rfl⟩, c24, fun i F _ z => absurd z (Nat.not_lt_zero _)⟩ (fun p δ h' hp => by rw [hp.1]; exact ok2) ?_ ?_
        · rintro p2 ⟨E, k⟩ r2 δ h'' N2 ee ⟨rfl, ⟨x8, x9, rfl⟩, c242, fit2⟩ hN2
          obtain ⟨hE, rfl⟩ := zip_at ee
          simp only [VV]
          refine ⟨trivial, ?_⟩
          (try dsimp only); refine seq_intro fun N3 hN3 => ?_
          simp only [VV]
          subst hN3
          have stop : (cnt (G.take p.length) + p2.length = 24 ∨ E = eWr F.facts) → S__law_refusal [D.ref (h.length + G.length)] (h ++ trG h.length G) fun x h1 => pEq false x (.tup [.int (0 + (p.length : Int)), .int (0 + (p2.length : Int))]) h1 (Dr h Q) := fun z => by
            rw [Int.zero_add, Int.zero_add]
            exact ⟨_, G, p.length, p2.length, rfl, gc, by first | decide | omega, fu.edge wf hg hE c242 fit fit2 z, pEq_same (p := zP ((p.length : Int), (p2.length : Int))) (n := 1) rfl (pd_z _ ((p.length : Int), (p2.length : Int))) (pd_z _ ((p.length : Int), (p2.length : Int))) (by decide) (q _)⟩
          by_cases c5 : cnt (G.take p.length) + p2.length = 24
          · have c' : ((((cnt (G.take p.length) + p2.length : Nat) : Int) + 1) == 25) = true := by rw [c5]; rfl
            simp only [c', pEq_int, VV0]
            exact stop (.inl c5)
          · have c' : ((((cnt (G.take p.length) + p2.length : Nat) : Int) + 1) == 25) = false := by
              rw [Bool.eq_false_iff]; intro z; exact c5 (by have := eq_of_beq z; omega)
            simp only [c', pEq_int, VV0]
            by_cases c6 : E = eWr F.facts
            · subst c6
              refine pEq_same (geD_eqS _ _) (pd_ge _ _) (pd_ge _ _) (by decide) ?_
              simp only [VV0]
              exact stop (.inr rfl)
            · have fE := (fu.fit g (List.mem_of_getElem? hg) E (List.mem_of_getElem? hE)).resolve_left c6
              refine pEq_by (geD_eqS _ _) (pd_ge _ _) (pd_ge _ _) (by decide) ?_
              rw [geP_ne (eF_cost fE)]
              simp only [VV0]
              refine hN2 _ _ ⟨rfl, ⟨some (.int (0 + (p2.length : Int))), some (geD E), ?_⟩, by rw [List.length_append, List.length_singleton]; omega, fun i e' h1 h2 => ?_⟩
              · rw [List.length_append, List.length_singleton, ← Nat.add_assoc]; rfl
              · rw [List.length_append, List.length_singleton] at h2
                rcases Nat.lt_or_ge i p2.length with z1 | z1
                · exact fit2 i e' h1 z1
                · rw [show i = p2.length by first | decide | omega, hE] at h1; cases h1; exact c6
        · rintro δ h'' ⟨rfl, ⟨x8, x9, rfl⟩, c242, fit2⟩
          rw [List.length_zipIdx] at c242 fit2
          refine hN1 _ _ ⟨rfl, ⟨some (.tup [.int g.1.1, .int g.1.2, e9]), some (.int (0 + (p.length : Int))), x8, x9, ?_⟩, by rw [List.length_append, List.length_singleton, cnt_take hg]; exact c242, fun i g' h1 h2 e' he' => ?_⟩
          · rw [List.length_append, List.length_singleton, cnt_take hg, List.length_zipIdx]
          · rw [List.length_append, List.length_singleton] at h2
            rcases Nat.lt_or_ge i p.length with z1 | z1
            · exact fit i g' h1 z1 e' he'
            · rw [show i = p.length by first | decide | omega, hg] at h1; cases h1
              obtain ⟨j, hj, rfl⟩ := List.mem_iff_getElem.mp he'
              exact fit2 j _ (List.getElem?_eq_getElem hj) hj
      · rintro δ h' ⟨rfl, _, c24, fit⟩
        rw [List.length_zipIdx, t.len, List.take_length] at c24
        omega
    simp only [VV]
    refine ⟨cell, 33, 2, rfl, by first | decide | omega, by first | decide | omega, fun r1 hr1 => ?_⟩
    by_cases c1 : ((r1 : Int) == 0) = true
    · simp only [c1, i0, g0, len_ls (lsOf_ref (g0 ((gF F).1, es1) (gC R))), List.length_map, VV]
      refine ⟨cell, 34, es1.length + 1, by rfl, by first | decide | omega, by first | decide | omega, fun r2 hr2 => ?_⟩
      simp only [g0, List.length_map, VV]
      refine ⟨⟨by first | decide | omega, by first | decide | omega, by first | decide | omega⟩, ?_⟩
      rw [Int.toNat_natCast, ← List.map_take, ← List.map_drop, ← List.map_cons, ← List.map_append, s0]
      refine main _ (fun e he => ?_) ?_ ?_
      · rcases List.mem_append.mp he with z | z
        · exact f1 e (List.mem_of_mem_take z)
        · rcases List.mem_cons.mp z with z | z
          · exact .inl z
          · exact f1 e (List.mem_of_mem_drop z)
      · rw [List.length_append, List.length_cons, List.length_take, List.length_drop]; omega
      · rw [List.length_append, List.length_cons, List.length_take, List.length_drop]; omega
    · simp only [c1, VV]
      exact main es1 f1 l1.1 (by first | decide | omega)
theorem ok__law_too_many {f : Addr} {fd : FuncData} (F : Fun K "_law_too_many" "_law_too_many" s__law_too_many f fd) (T : Txt P w K mg) (C__law_copied : Cal P w K mg base 1 "_law_copied" ["_law_chart_here"] (spD K 1 S__law_copied)) (C__law_pick : Cal P w K mg base 1 "_law_pick" ["_law_cell", "_law_k", "_law_many"] (spD K 3 S__law_pick)) (C__law_refusal : Cal P w K mg base 6 "_law_refusal" ["_law_chart_here"] (spD K 1 S__law_refusal)) : FnOk P w K mg base CX0 7 f fd ["_law_chart_here", "_law_cell"] (spD K 2 S__law_too_many) :=
  fn_okD (k := 6) (b := b__law_too_many) F sc__law_too_many (fun cdv A outer s H E hr => by
    refine ss_cons ?_ ?_
    · refine s_set (i := 2) ?_ ?_ ?_ ?_
      · exact sc__law_too_many.nd
      · exact rfl
      · exact Or.inl rfl
      exact se_cal C__law_copied (hr.mono (by decide)) rfl (sa_cons (sv 0) sa_nil)
    refine ss_cons ?_ ?_
    · refine s_set (i := 3) ?_ ?_ ?_ ?_
      · exact sc__law_too_many.nd
      · exact rfl
      · exact Or.inl rfl
      exact se_op ok_plus se_int (se_cal C__law_pick (hr.mono (by decide)) rfl (sa_cons (sv 1) (sa_cons se_int (sa_cons se_int sa_nil))))
    refine ss_cons ?_ ?_
    · refine s_for ?_ ?_ ?_ ?_ ?_
      · exact PassesOwn.never
      · exact rfl
      · exact si_seq (sv 2)
      · exact sg_name (i := 4) sc__law_too_many.nd rfl (Or.inl rfl)
      refine ss_one ?_
      refine s_set (i := 3) ?_ ?_ ?_ ?_
      · exact sc__law_too_many.nd
      · exact rfl
      · exact Or.inl rfl
      exact se_op ok_sub (sv 3) (se_callB ok_len rfl T.b_len PySem.boot_len (sa_cons (se_ix ok_ix (sv 4) se_int (fun _ _ => rfl)) sa_nil))
    refine ss_cons ?_ ?_
    · refine s_expr ?_
      refine se_extend (n := 1) ?_ ?_
      · exact se_ix ok_ix (se_ix ok_ix (sv 2) se_int (fun _ _ => rfl)) se_int (fun _ _ => rfl)
      refine sa_cons ?_ ?_
      · refine se_v ?_
        refine sn_rep ?_ ?_
        · refine se_v ?_
          refine sn_lst (n := 1) ?_
          refine sa_cons ?_ ?_
          · refine se_tup (n := 5) ?_
            refine sa_cons ?_ ?_
            · exact se_str
            refine sa_cons ?_ ?_
            · exact se_int
            refine sa_cons ?_ ?_
            · exact se_int
            refine sa_cons ?_ ?_
            · exact se_int
            refine sa_cons ?_ ?_
            · exact se_op ok_times (se_tup (sa_cons se_int sa_nil)) (se_ix ok_ix (se_ix ok_ix (sv 0) se_int (fun _ _ => rfl)) se_int (fun _ _ => rfl))
            exact sa_nil
          exact sa_nil
        exact sv 3
      exact sa_nil
    refine ss_cons ?_ ?_
    · refine s_set (i := 5) ?_ ?_ ?_ ?_
      · exact sc__law_too_many.nd
      · exact rfl
      · exact Or.inl rfl
      refine se_tup (n := 5) ?_
      refine sa_cons ?_ ?_
      · exact se_str
      refine sa_cons ?_ ?_
      · exact se_int
      refine sa_cons ?_ ?_
      · exact se_int
      refine sa_cons ?_ ?_
      · exact se_int
      refine sa_cons ?_ ?_
      · exact se_op ok_times (se_tup (sa_cons se_int sa_nil)) (se_ix ok_ix (se_ix ok_ix (sv 0) se_int (fun _ _ => rfl)) se_int (fun _ _ => rfl))
      exact sa_nil
    refine ss_cons ?_ ?_
    · refine s_if ?_ ?_ ?_
      · exact st_cmp (ok_eq hr.units) (se_cal C__law_pick (hr.mono (by decide)) rfl (sa_cons (sv 1) (sa_cons se_int (sa_cons se_int sa_nil)))) se_int (nomark _)
      · refine ss_one ?_
        refine s_expr ?_
        exact se_insert (se_ix ok_ix (se_ix ok_ix (sv 2) se_int (fun _ _ => rfl)) se_int (fun _ _ => rfl)) (sa_cons (se_cal C__law_pick (hr.mono (by decide)) rfl (sa_cons (sv 1) (sa_cons se_int (sa_cons (se_op ok_plus (se_callB ok_len rfl T.b_len PySem.boot_len (sa_cons (se_ix ok_ix (se_ix ok_ix (sv 2) se_int (fun _ _ => rfl)) se_int (fun _ _ => rfl)) sa_nil)) se_int) sa_nil)))) (sa_cons (sv 5) sa_nil))
      exact ss_nil
    refine ss_cons ?_ ?_
    · refine s_set (i := 6) ?_ ?_ ?_ ?_
      · exact sc__law_too_many.nd
      · exact rfl
      · exact Or.inl rfl
      exact se_int
    refine ss_cons ?_ ?_
    · refine s_if ?_ ?_ ?_
      · exact st_cmp (ok_eq hr.units) (se_cal C__law_pick (hr.mono (by decide)) rfl (sa_cons (sv 1) (sa_cons se_int (sa_cons se_int sa_nil)))) se_int (nomark _)
      · refine ss_cons ?_ ?_
        · refine s_set (i := 7) ?_ ?_ ?_ ?_
          · exact sc__law_too_many.nd
          · exact rfl
          · exact Or.inl rfl
          exact se_cal C__law_pick (hr.mono (by decide)) rfl (sa_cons (sv 1) (sa_cons se_int (sa_cons (se_callB ok_len rfl T.b_len PySem.boot_len (sa_cons (sv 2) sa_nil)) sa_nil)))
        refine ss_cons ?_ ?_
        · exact s_asg (se_tup (sa_cons se_int (sa_cons (se_ix ok_ix (se_ix ok_ix (sv 2) (sv 7) (fun _ _ => rfl)) se_int (fun _ _ => rfl)) (sa_cons (se_ix ok_ix (se_ix ok_ix (sv 2) (sv 7) (fun _ _ => rfl)) se_int (fun _ _ => rfl)) sa_nil)))) (sg_subL (sv 2) (sv 7))
        refine ss_one ?_
        refine s_ret ?_
        exact se_cmp (ok_eq hr.units) (se_cal C__law_refusal (hr.mono (by decide)) rfl (sa_cons (sv 2) sa_nil)) (se_tup (sa_cons (sv 7) (sa_cons (se_un ok_neg se_int) sa_nil))) (nomark _)
      exact ss_nil
    refine ss_cons ?_ ?_
    · refine s_for ?_ ?_ ?_ ?_ ?_
      · exact PassesOwn.never
      · exact rfl
      · exact si_enum rfl T.b_enumerate (sa_cons (sv 2) sa_nil)
      · exact sg_tup rfl (sgs_cons (sg_name (i := 7) sc__law_too_many.nd rfl (Or.inl rfl)) (sgs_cons (sg_name (i := 4) sc__law_too_many.nd rfl (Or.inl rfl)) sgs_nil))
      refine ss_one ?_
      refine s_for ?_ ?_ ?_ ?_ ?_
      · exact PassesOwn.never
      · exact rfl
      · exact si_enum rfl T.b_enumerate (sa_cons (se_ix ok_ix (sv 4) se_int (fun _ _ => rfl)) sa_nil)
      · exact sg_tup rfl (sgs_cons (sg_name (i := 8) sc__law_too_many.nd rfl (Or.inl rfl)) (sgs_cons (sg_name (i := 9) sc__law_too_many.nd rfl (Or.inl rfl)) sgs_nil))
      refine ss_cons ?_ ?_
      · refine s_set (i := 6) ?_ ?_ ?_ ?_
        · exact sc__law_too_many.nd
        · exact rfl
        · exact Or.inl rfl
        exact se_op ok_plus (sv 6) se_int
      refine ss_one ?_
      refine s_if ?_ ?_ ?_
      · exact st_w (sw_or (st_cmp (ok_eq hr.units) (sv 6) se_int (nomark _)) (sw_or1 (st_cmp (ok_eq hr.units) (sv 9) (sv 5) (nomark _))))
      · refine ss_one ?_
        refine s_ret ?_
        exact se_cmp (ok_eq hr.units) (se_cal C__law_refusal (hr.mono (by decide)) rfl (sa_cons (sv 2) sa_nil)) (se_tup (sa_cons (sv 7) (sa_cons (sv 8) sa_nil))) (nomark _)
      exact ss_nil
    refine ss_one ?_
    refine s_ret ?_
    exact se_bl) imp__law_too_many
noncomputable def b_law : DS := (dSeq (dAsg (dCal S__law_cell_at (dCons (dVar 0) (dCons (dC (.int 0)) dNil))) (dName 1))
    (dSeq (dAsg (dCal S__law_chart (dCons (dSl (dVar 0) (dPart (dC (.int 3))) dNoPart) (dCons (dVar 1) dNil))) (dName 2))
    (dSeq (dAsg (dCal S__law_copied (dCons (dVar 2) dNil)) (dName 3))
    (dSeq (dAsg (dCal (fun ds h Q => S_checked ds h Q fun _ _ _ => False) (dCons (dVar 3) dNil)) (dName 4))
    (dSeq (dIfS (dOr (dNot (dTr (dIsinst "list" (dVar 4)))) (dOr (dTst (dOp (pEq true) (dVar 4) (dVar 2))) (dTst (dOp (pEq true) (dVar 3) (dVar 2))))) (dRet (dC (.bl false))) dNext)
    (dSeq (dFor (dISeq (dVar 4)) (dName 5) (dDrop (dAppend (dOp pIx (dVar 5) (dC (.int 2))) (dCons (dC (.int 1)) dNil))))
    (dSeq (dDrop (dAppend (dVar 4) (dCons (dC (.int 2)) dNil)))
    (dSeq (dAsg (dCal S__law_cell_at (dCons (dVar 0) (dCons (dC (.int 1)) dNil))) (dName 6))
    (dSeq (dIfS (dOr (dTst (dOp (pEq true) (dVar 3) (dVar 2))) (dOr (dTst (dOp (pEq true) (dCal S__law_refusal (dCons (dV dNil) dNil)) (dTup (dCons (dUn pNeg (dC (.int 1))) (dCons (dUn pNeg (dC (.int 1))) dNil))))) (dTst (dOp (pEq true) (dCal S__law_refusal (dCons (dSl (dOp pMul (dVar 3) (dC (.int 7))) dNoPart (dPart (dC (.int 7)))) dNil)) (dTup (dCons (dUn pNeg (dC (.int 1))) (dCons (dUn pNeg (dC (.int 1))) dNil))))))) (dRet (dC (.bl false))) dNext)
    (dSeq (dIfS (dOr (dTst (dOp pLtI (dCB pLen (dCons (dOp pMul (dVar 3) (dC (.int 7))) dNil)) (dC (.int 7)))) (dTst (dOp (pEq false) (dCal S__law_pick (dCons (dVar 6) (dCons (dC (.int 1)) (dCons (dC (.int 3)) dNil)))) (dC (.int 0))))) (dRet (dC (.bl true))) dNext)
    (dSeq (dIfS (dNot (dTr (dCal S__law_too_many (dCons (dVar 2) (dCons (dVar 6) dNil))))) (dRet (dC (.bl false))) dNext)
    (dSeq (dAsg (dTk (dCons (dVar 2) dNil)) (dName 7))
    (dSeq (dAsg (dCal S__law_copied (dCons (dVar 2) dNil)) (dName 8))
    (dSeq (dDrop (dCal S__law_wrong (dCons (dVar 8) (dCons (dVar 6) (dCons (dVar 7) dNil)))))
    (dSeq (dIfS (dTst (dOp (pEq false) (dCal S__law_pick (dCons (dVar 6) (dCons (dC (.int 2)) (dCons (dC (.int 3)) dNil)))) (dC (.int 0)))) (dDrop (dCal S__law_wrong (dCons (dVar 8) (dCons (dCal S__law_cell_at (dCons (dVar 0) (dCons (dC (.int 2)) dNil))) (dCons (dVar 7) dNil))))) dNext)
    (dSeq (dAsg (dV (dComp [none, none] (dISeq (dSl (dVar 7) (dPart (dC (.int 1))) dNoPart)) (dUnp 2 (dGCons (dName 0) (dGCons (dName 1) dGNil))) (dTst (dOp (pEq false) (dVar 1) (dUn pNeg (dC (.int 1))))) (dVar 0))) (dName 9))
    (dSeq (dAsg (dCB pMinP (dCons (dSl (dVar 7) (dPart (dC (.int 1))) dNoPart) dNil)) (dName 10))
    (dSeq (dIfS (dTst (dOp (pEq true) (dVar 9) (dV dNil))) (dAsg (dTup (dCons (dCB pMinL (dCons (dVar 9) dNil)) (dCons (dUn pNeg (dC (.int 1))) dNil))) (dName 10)) dNext)
    (dRet (dAndV (dOp (pEq false) (dCal S__law_refusal (dCons (dVar 8) dNil)) (dVar 10)) (dOp (pEq false) (dCal (fun ds h Q => S_checked ds h Q fun _ _ _ => False) (dCons (dVar 3) dNil)) (dVar 2))))))))))))))))))))))
noncomputable def S_law : DSp := runD 11 b_law
theorem imp_law : ∀ ds h Q, S_law ds h Q → runD 11 b_law ds h Q := fun _ _ _ h => h
theorem law_true (ns : List Int) (hl : ns.length ≤ 63) (hb : ∀ x ∈ ns, Builtin.Int.intBits x ≤ 1048576) : S_law [.scr (ns.map D.int)] [] (fun v _ => v = .bl true) := by
  unfold S_law
  simp only [runD, runX, b_law, List.map_cons, List.map_nil, List.cons_append, List.nil_append, List.length_cons, List.length_nil, List.replicate, Nat.reduceSub, Nat.reduceAdd, Nat.zero_add, Nat.sub_self]
  (try dsimp only); refine seq_intro fun N hN => ?_
  simp only [VV]
  refine ⟨ns, 0, rfl, hl, by first | decide | omega, fun way => ?_⟩
  subst hN
  (try dsimp only); refine seq_intro fun N hN => ?_
  simp only [VV]
  obtain ⟨ms, hms, hml⟩ := cut_ints ns (some 3) none
  rw [hms]
  refine ⟨ms, way, rfl, by first | decide | omega, fun C wf hm => ?_⟩
  have gl := gC_len C
  have l6 := wf.six
  have l1 := wf.one
  subst hN
  (try dsimp only); refine seq_intro fun N hN => ?_
  simp only [VV]
  refine ⟨cD C, gC C, rfl, GC.of _ _, by first | decide | omega, ?_⟩
  have a1 : ([] ++ trG ([] : Hh).length (gC C))[([] : Hh).length + (gC C).length]? = some (.lst (hdD ([] : Hh).length ((gC C).map (·.1)))) := trG_hd
  have a2 : ∀ (f : Nat) (F : Fn), C[f]? = some F → ([] ++ trG ([] : Hh).length (gC C))[([] : Hh).length + f]? = some (.lst (F.edges.map eD)) := fun f F e => tr_es e
  have a3 : GC ([] ++ trG ([] : Hh).length (gC C)) (.ref (([] : Hh).length + (gC C).length)) (gC C) := trG_GC rfl
  generalize eb : ([] : Hh).length = b at a1 a2 a3
  generalize [] ++ trG b (gC C) = H0 at a1 a2 a3
  subst hN
  (try dsimp only); refine seq_intro fun N hN => ?_
  simp only [VV]
  refine ⟨_, gC C, rfl, a3, by first | decide | omega, fun _ => ?_, fun f k rf => rf.bad (good_of wf hm)⟩
  generalize b + (gC C).length = i0 at a1 a3
  have pdh : ∀ h', Pre H0 h' → Pd h' (.ref i0) (.list (C.map fP)) 5 := fun h' p => pd_cref (p _ _ a1) fun f F e => p _ _ (a2 f F e)
  obtain ⟨xs, b1, t0⟩ := a3
  cases b1.symm.trans (lsOf_ref a1)
  have gch : ∀ h', Pre H0 h' → GC h' (.ref i0) (gC C) := fun h' p => ⟨_, lsOf_ref (p _ _ a1), GfDs.of (by rw [hdD_len, List.length_map]) fun i d F h1 h2 => by
    unfold gC at h2
    rw [List.getElem?_map] at h2
    cases z : C[i]? with
    | none => rw [z] at h2; cases h2
    | some F' =>
      rw [z] at h2; cases h2
      rw [hdD_get (x := (gF F').1) (by unfold gC; rw [List.getElem?_map, List.getElem?_map, z]; rfl)] at h1
      cases h1
      exact ⟨_, rfl, by rw [lsOf_ref (p _ _ (a2 i F' z))]; show _ = some ((F'.edges.map gE).map geD); rw [ge_map]⟩⟩
  subst hN
  (try dsimp only); refine seq_intro fun N hN => ?_
  simp only [kindD_ref trG_hd, VV0]
  refine pEq_same rfl (pd_cref trG_hd fun f F e => tr_es e) (pd_c _ C) (by decide) ?_
  simp only [VV0]
  refine pEq_same rfl (pdh _ (Pre.app _ _)) (pd_c _ C) (by decide) ?_
  simp only [VV]
  subst hN
  (try dsimp only); refine seq_intro fun N hN => ?_
  simp only [seqSrc_ref trG_hd, VV]
  have hxs : ∀ (i : Nat) (d : D), (hdD H0.length ((gC C).map (·.1)))[i]? = some d → i < (gC C).length ∧ ∃ x y, d = .tup [x, y, .ref (H0.length + i)] := fun i d e => by
    have il := (List.getElem?_eq_some_iff.mp e).1
    rw [hdD_len, List.length_map] at il
    rw [hdD_get (x := ((gC C)[i]).1) (by rw [List.getElem?_map, List.getElem?_eq_getElem il]; rfl)] at e
    cases e
    exact ⟨il, _, _, rfl⟩
  have g1 : (H0 ++ trG H0.length (gC C))[H0.length + (gC C).length]? = some (.lst (hdD H0.length ((gC C).map (·.1)))) := trG_hd
  have g2 : ∀ j, j < (gC C).length → ∃ l, (H0 ++ trG H0.length (gC C))[H0.length + j]? = some (.lst l) ∧ l.length ≤ 100 + ([] : List D).length := fun j hj => by
    obtain ⟨F, hF⟩ : ∃ F, C[j]? = some F := ⟨_, List.getElem?_eq_getElem (by first | decide | omega)⟩
    exact ⟨_, tr_es hF, by rw [List.length_map]; exact Nat.le_trans (wf.fn j F hF).2.2.2.2.1 (by first | decide | omega)⟩
  have g3 : Pre H0 (H0 ++ trG H0.length (gC C)) := Pre.app _ _
  have xl : (hdD H0.length ((gC C).map (·.1))).length = (gC C).length := by rw [hdD_len, List.length_map]
  generalize H0 ++ trG H0.length (gC C) = H1 at g1 g2 g3
  generalize hdD H0.length ((gC C).map (·.1)) = xs at hxs g1 xl
  have pset : ∀ (h' : Hh) (i : Nat) (o : O), Pre H0 h' → H0.length ≤ i → Pre H0 (h'.set i o) := fun h' i o p hi k o' e => by
    have := (List.getElem?_eq_some_iff.mp e).1
    rw [List.getElem?_set_ne (by first | decide | omega)]; exact p k o' e
  have fl : forL ⟨xs, [(H0.length + (gC C).length, O.lst xs)]⟩ (dName 5) (dDrop (dAppend (dOp pIx (dVar 5) (dC (D.int 2))) (dCons (dC (D.int 1)) dNil))) { nx := N, rt := fun v x => v = D.bl true } (xs.map id)
      [some (D.scr (List.map D.int ns)), some (D.int way), some (cD C), some (D.ref i0), some (D.ref (H0.length + (gC C).length)), none, none, none, none, none, none] H1 := by
    refine forL_map (fun p δ h' => Pre H0 h' ∧ h'[H0.length + (gC C).length]? = some (.lst xs) ∧ (∀ j, j < (gC C).length → ∃ l, h'[H0.length + j]? = some (.lst l) ∧ l.length ≤ 100 + p.length) ∧ ∃ x5, δ = [some (D.scr (List.map D.int ns)), some (D.int way), some (cD C), some (D.ref i0), some (D.ref (H0.length + (gC C).length)), x5, none, none, none, none, none]) ⟨g3, g1, g2, none, rfl⟩ (fun p δ h' hp q hq => by rw [List.mem_singleton.mp hq]; exact hp.2.1) ?_ ?_
    · rintro p y r δ h' N1 e ⟨p1, p2, p3, x5, rfl⟩ hN1
      have pl := congrArg List.length e
      rw [List.length_append, List.length_cons] at pl
      obtain ⟨il, x, z, rfl⟩ := hxs p.length y (by rw [e]; simp)
      obtain ⟨l, hl1, hl2⟩ := p3 p.length il
      simp only [id, hl1, VV]
      refine ⟨by first | decide | omega, hN1 _ _ ⟨pset _ _ _ p1 (by first | decide | omega), by rw [List.getElem?_set_ne (by first | decide | omega)]; exact p2, fun j hj => ?_, _, rfl⟩⟩
      rw [List.length_append, List.length_singleton]
      by_cases c : p.length = j
      · subst c
        exact ⟨_, List.getElem?_set_self (List.getElem?_eq_some_iff.mp hl1).1, by rw [List.length_append, List.length_singleton]; omega⟩
      · obtain ⟨l', h1, h2⟩ := p3 j hj
        exact ⟨l', by rw [List.getElem?_set_ne (by first | decide | omega)]; exact h1, by first | decide | omega⟩
    · rintro δ h' ⟨p1, p2, _, x5, rfl⟩
      subst hN
      (try dsimp only); refine seq_intro fun N hN => ?_
      simp only [p2, VV]
      refine ⟨by first | decide | omega, ?_⟩
      have p1 := pset h' (H0.length + (gC C).length) (.lst (xs ++ [.int 2])) p1 (by first | decide | omega)
      generalize h'.set (H0.length + (gC C).length) (.lst (xs ++ [.int 2])) = h2 at p1
      clear p2 g1 g2 g3 hxs xl pset t0 b1
      obtain ⟨ys, y1, y2⟩ := gch h2 p1
      have lp := lsP_ref (p1 _ _ a1)
      have yl := y2.len
      cases y1.symm.trans (lsOf_ref (p1 _ _ a1))
      subst hN
      (try dsimp only); refine seq_intro fun N hN => ?_
      simp only [VV]
      refine ⟨ns, 1, rfl, hl, by first | decide | omega, fun cell => ?_⟩
      subst hN
      (try dsimp only); refine seq_intro fun N hN => ?_
      simp only [VV2]
      refine pEq_same rfl (pdh _ p1) (pd_c _ C) (by decide) ?_
      simp only [VV2]
      refine ⟨.lst [], [], -1, -1, rfl, ⟨[], rfl, rfl, fun _ _ _ z => by cases z⟩, by decide, .len (fun z => absurd z.1 (by decide)), ?_⟩
      refine pEq_same (p := zP ((-1 : Int), (-1 : Int))) (n := 1) rfl (pd_z _ ((-1 : Int), (-1 : Int))) (pd_z _ ((-1 : Int), (-1 : Int))) (by decide) ?_
      simp only [lp, VV0]
      have t7 : Int.toNat 7 = 7 := rfl
      rw [t7]
      obtain ⟨G7, gc7, l7⟩ := seven y2 (by first | decide | omega)
      refine ⟨⟨by first | decide | omega, by first | decide | omega, by first | decide | omega⟩, _, G7, -1, -1, rfl, gc7, by first | decide | omega, .len (by first | decide | omega), ?_⟩
      refine pEq_same (p := zP ((-1 : Int), (-1 : Int))) (n := 1) rfl (pd_z _ ((-1 : Int), (-1 : Int))) (pd_z _ ((-1 : Int), (-1 : Int))) (by decide) ?_
      simp only [VV]
      subst hN
      (try dsimp only); refine seq_intro fun N hN => ?_
      have c7 : ¬ ((List.replicate (Int.toNat 7) (hdD b ((gC C).map (·.1)))).flatten.length : Int) < 7 := by rw [rep_len, t7]; omega
      simp only [lp, VV]
      refine ⟨⟨by first | decide | omega, by first | decide | omega, by rw [t7]; omega⟩, ?_⟩
      simp only [c7, VV]
      refine ⟨cell, 1, 3, rfl, by first | decide | omega, by first | decide | omega, fun r1 hr1 => ?_⟩
      by_cases c1 : ((r1 : Int) == 0) = true
      · simp only [c1, VV]
      simp only [c1, VV]
      clear yl y1 y2 gc7 l7 c7 c1 hr1 r1
      subst hN
      (try dsimp only); refine seq_intro fun N hN => ?_
      simp only [VV]
      refine ⟨C, cell, rfl, wf, hm, ?_⟩
      simp only [VV]
      subst hN
      (try dsimp only); refine seq_intro fun N hN => ?_
      simp only [VV]
      subst hN
      (try dsimp only); refine seq_intro fun N hN => ?_
      simp only [VV]
      refine ⟨cD C, gC C, rfl, GC.of _ _, by first | decide | omega, ?_⟩
      subst hN
      (try dsimp only); refine seq_intro fun N hN => ?_
      simp only [VV]
      have ln : ∀ o : O, (h2 ++ [o]).length = h2.length + 1 := fun o => by simp
      rw [ln, gl]
      refine ⟨h2 ++ [.lst [cD C]], h2.length, C, gC C, [], cell, by rw [ln, gl], by rw [ln], get_new _ _, wf, Sp.nil C, by decide, fun G1 ps1 sp1 ne1 le1 => ?_⟩
      rw [set_new, ln]
      have pz : ∀ o g, Pre H0 (h2 ++ [o] ++ g) := fun o g k o' e => by
        have := p1 k o' e
        rw [List.append_assoc, List.getElem?_append_left (List.getElem?_eq_some_iff.mp this).1]; exact this
      subst hN
      (try dsimp only); refine seq_intro fun N hN => ?_
      have tail : ∀ (G : List GF) (ps : List ZP), CM.Sp C G ps → ps ≠ [] → ps.length ≤ 2 → N [some (D.scr (List.map D.int ns)), some (D.int way), some (cD C), some (D.ref i0), some (D.ref (H0.length + C.length)), x5, some (D.int cell), some (D.ref h2.length), some (D.ref (h2.length + 1 + C.length)), none, none] (h2 ++ [O.lst (cD C :: ps.map zD)] ++ trG (h2.length + 1) G) := by
        intro G ps sp ne l2
        have g7 : (h2 ++ [O.lst (cD C :: ps.map zD)] ++ trG (h2.length + 1) G)[h2.length]? = some (.lst (cD C :: ps.map zD)) := by rw [List.getElem?_append_left (by rw [ln]; omega)]; exact get_new _ _
        have l7 := lsOf_ref g7
        have d1 : cutD (cD C :: ps.map zD) (some 1) none = ps.map zD := cut_drop 1
        have pH := pz (O.lst (cD C :: ps.map zD)) (trG (h2.length + 1) G)
        have gcG : GC (h2 ++ [O.lst (cD C :: ps.map zD)] ++ trG (h2.length + 1) G) (.ref (h2.length + 1 + C.length)) G := by
          have := trG_GC (h := h2 ++ [O.lst (cD C :: ps.map zD)]) (b := h2.length + 1) (G := G) (ln _).symm
          rw [ln, sp.len] at this; exact this
        generalize h2 ++ [O.lst (cD C :: ps.map zD)] ++ trG (h2.length + 1) G = h3 at g7 l7 pH gcG
        subst hN
        (try dsimp only); refine seq_intro fun N hN => ?_
        simp only [l7, d1, List.length_map, VV]
        refine ⟨by first | decide | omega, ?_⟩
        refine compL_map (fun p a δ h' => h' = h3 ∧ (∃ o1 o2 : Option D, δ = [o1, o2]) ∧ a = ((p.filter fun x => x.2 == -1).map fun x : ZP => x.1).map D.int) ⟨rfl, ⟨none, none, rfl⟩, rfl⟩ (fun p a δ h' hp => by rw [hp.1]; exact Src.ok_nil) ?_ ?_
        · rintro p ⟨y1, y2⟩ r acc δ h' N1 e ⟨rfl, ⟨o1, o2, rfl⟩, rfl⟩ hN1
          by_cases c : (y2 == (-1 : Int)) = true
          · simp only [zD, c, VV]
            refine ⟨trivial, hN1 _ _ _ ⟨rfl, ⟨_, _, rfl⟩, ?_⟩⟩
            rw [List.filter_append, List.filter_cons, if_pos c, List.map_append, List.map_append]; rfl
          · simp only [zD, c, VV]
            refine ⟨trivial, hN1 _ _ _ ⟨rfl, ⟨_, _, rfl⟩, ?_⟩⟩
            rw [List.filter_append, List.filter_cons, if_neg c]; simp
        · rintro a δ h' ⟨rfl, _, rfl⟩
          subst hN
          (try dsimp only); refine seq_intro fun N hN => ?_
          simp only [l7, d1, VV3]
          refine ⟨_, ps, rfl, rfl, ne, fun pm hpm hmin => ?_⟩
          subst hN
          (try dsimp only); refine seq_intro fun N hN => ?_
          have last : ∀ (f k : Int) (x9 : Option D), Refu G f k → N [some (D.scr (List.map D.int ns)), some (D.int way), some (cD C), some (D.ref i0), some (D.ref (H0.length + C.length)), x5, some (D.int cell), some (D.ref h2.length), some (D.ref (h2.length + 1 + C.length)), x9, some (zD (f, k))] h' := by
            intro f k x9 rf
            subst hN
            simp only [VV0]
            refine ⟨_, G, f, k, rfl, gcG, by rw [sp.len]; omega, rf, pEq_same (p := zP (f, k)) (n := 1) rfl (pd_z _ (f, k)) (pd_z _ (f, k)) (by decide) ?_⟩
            simp only [VV0]
            refine ⟨_, gC C, rfl, gch _ pH, by first | decide | omega, fun _ => ?_, fun f k rf => rf.bad (good_of wf hm)⟩
            refine pEq_same rfl (pd_cref trG_hd fun f F e => tr_es e) (pd_c _ C) (by decide) ?_
            simp only [VV]
          simp only [VV0]
          have pd9 : Pd h' (.lst (((ps.filter fun x => x.2 == -1).map fun x : ZP => x.1).map D.int)) (.list (((ps.filter fun x => x.2 == -1).map fun x : ZP => x.1).map PyData.int)) 1 := .lst (n := 0) (Pds.map fun x => .int _)
          refine pEq_nil rfl pd9 (by decide) ?_
          by_cases c : (ps.filter fun x : ZP => x.2 == -1) = []
          · rw [c]
            simp only [List.isEmpty_nil, VV]
            exact last pm.1 pm.2 _ (sp.edges wf hm (fun p hp z => by
              have : p ∈ ps.filter fun x : ZP => x.2 == -1 := List.mem_filter.mpr ⟨hp, by rw [z]; rfl⟩
              rw [c] at this; cases this) hpm hmin)
          · have hh : (((ps.filter fun x => x.2 == -1).map fun x : ZP => x.1).map PyData.int).isEmpty = false := by
              cases z : (ps.filter fun x : ZP => x.2 == -1) with
              | nil => exact absurd z c
              | cons _ _ => rfl
            simp only [hh, VV4]
            refine ⟨_, (ps.filter fun x => x.2 == -1).map fun x : ZP => x.1, rfl, rfl, fun z => c (by simpa using z), fun m hm1 hm2 => ?_⟩
            obtain ⟨⟨x, y⟩, hx, rfl⟩ := List.mem_map.mp hm1
            obtain ⟨hx1, hx2⟩ := List.mem_filter.mp hx
            have hy : y = -1 := eq_of_beq hx2
            subst hy
            obtain ⟨f, F, hF, e1, _⟩ := sp.at' _ hx1
            have e1 : x = (f : Int) := e1
            subst e1
            refine last (f : Int) (-1) _ (sp.sizes wf hx1 fun f' hf' => ?_)
            have := hm2 (f' : Int) (List.mem_map.mpr ⟨((f' : Int), (-1 : Int)), List.mem_filter.mpr ⟨hf', rfl⟩, rfl⟩)
            have this : (f : Int) ≤ (f' : Int) := this
            omega
      have le1 : ps1.length ≤ 1 := le1
      simp only [VV]
      refine ⟨cell, 2, 3, rfl, by first | decide | omega, by first | decide | omega, fun r2 hr2 => ?_⟩
      by_cases c2 : ((r2 : Int) == 0) = true
      · simp only [c2, VV]
        refine ⟨ns, 2, rfl, hl, by first | decide | omega, fun cell2 => ?_⟩
        refine ⟨h2 ++ [.lst (cD C :: ps1.map zD)], h2.length, C, G1, ps1, cell2, by rw [ln, sp1.len], by rw [ln], get_new _ _, wf, sp1, by first | decide | omega, fun G2 ps2 sp2 ne2 le2 => ?_⟩
        rw [set_new, ln]
        exact tail G2 ps2 sp2 ne2 (by first | decide | omega)
      · simp only [c2, VV]
        exact tail G1 ps1 sp1 ne1 (by first | decide | omega)
  rw [List.map_id] at fl
  exact fl
theorem ok_law {f : Addr} {fd : FuncData} (F : Fun K "law" "law" s_law f fd) (T : Txt P w K mg) (C__law_cell_at : Cal P w K mg base 1 "_law_cell_at" ["_law_script", "_law_k"] (spD K 2 S__law_cell_at)) (C__law_chart : Cal P w K mg base 4 "_law_chart" ["_law_cells", "_law_way"] (spD K 2 S__law_chart)) (C__law_copied : Cal P w K mg base 1 "_law_copied" ["_law_chart_here"] (spD K 1 S__law_copied)) (C_checked : CalX P w K mg base 5 "checked" ["chart"] (spX K 1 S_checked)) (C__law_refusal : Cal P w K mg base 6 "_law_refusal" ["_law_chart_here"] (spD K 1 S__law_refusal)) (C__law_pick : Cal P w K mg base 1 "_law_pick" ["_law_cell", "_law_k", "_law_many"] (spD K 3 S__law_pick)) (C__law_too_many : Cal P w K mg base 7 "_law_too_many" ["_law_chart_here", "_law_cell"] (spD K 2 S__law_too_many)) (C__law_wrong : Cal P w K mg base 4 "_law_wrong" ["_law_chart_here", "_law_cell", "_law_spoilt"] (spD K 3 S__law_wrong)) : FnOk P w K mg base CX0 8 f fd ["_law_script"] (spD K 1 S_law) :=
  fn_ok (k := 7) (b := b_law) F sc_law (fun cdv A outer s H E hr => by
    refine ss_cons ?_ ?_
    · refine s_set (i := 1) ?_ ?_ ?_ ?_
      · exact sc_law.nd
      · exact rfl
      · exact Or.inl rfl
      exact se_cal C__law_cell_at (hr.mono (by decide)) rfl (sa_cons (sv 0) (sa_cons se_int sa_nil))
    refine ss_cons ?_ ?_
    · refine s_set (i := 2) ?_ ?_ ?_ ?_
      · exact sc_law.nd
      · exact rfl
      · exact Or.inl rfl
      exact se_cal C__law_chart (hr.mono (by decide)) rfl (sa_cons (se_sl (sv 0) (so_some se_int) so_none) (sa_cons (sv 1) sa_nil))
    refine ss_cons ?_ ?_
    · refine s_set (i := 3) ?_ ?_ ?_ ?_
      · exact sc_law.nd
      · exact rfl
      · exact Or.inl rfl
      exact se_cal C__law_copied (hr.mono (by decide)) rfl (sa_cons (sv 2) sa_nil)
    refine ss_cons ?_ ?_
    · refine s_set (i := 4) ?_ ?_ ?_ ?_
      · exact sc_law.nd
      · exact rfl
      · exact Or.inl rfl
      exact se_calX C_checked (hr.mono (by decide)) rfl (sa_cons (sv 3) sa_nil)
    refine ss_cons ?_ ?_
    · refine s_if ?_ ?_ ?_
      · exact st_w (sw_or (st_not (st_truth (se_isinst (by decide) rfl T.b_isinstance (sv 4) (pe_bltn (v := .ty "list") rfl T.b_list PyProof.Rows.boot_list rfl)))) (sw_or (st_cmp (ok_ne hr.units) (sv 4) (sv 2) (nomark _)) (sw_or1 (st_cmp (ok_ne hr.units) (sv 3) (sv 2) (nomark _)))))
      · refine ss_one ?_
        refine s_ret ?_
        exact se_bl
      exact ss_nil
    refine ss_cons ?_ ?_
    · refine s_for ?_ ?_ ?_ ?_ ?_
      · exact PassesOwn.never
      · exact rfl
      · exact si_seq (sv 4)
      · exact sg_name (i := 5) sc_law.nd rfl (Or.inl rfl)
      refine ss_one ?_
      refine s_expr ?_
      exact se_append (se_ix ok_ix (sv 5) se_int (fun _ _ => rfl)) (sa_cons se_int sa_nil)
    refine ss_cons ?_ ?_
    · refine s_expr ?_
      exact se_append (sv 4) (sa_cons se_int sa_nil)
    refine ss_cons ?_ ?_
    · refine s_set (i := 6) ?_ ?_ ?_ ?_
      · exact sc_law.nd
      · exact rfl
      · exact Or.inl rfl
      exact se_cal C__law_cell_at (hr.mono (by decide)) rfl (sa_cons (sv 0) (sa_cons se_int sa_nil))
    refine ss_cons ?_ ?_
    · refine s_if ?_ ?_ ?_
      · exact st_w (sw_or (st_cmp (ok_ne hr.units) (sv 3) (sv 2) (nomark _)) (sw_or (st_cmp (ok_ne hr.units) (se_cal C__law_refusal (hr.mono (by decide)) rfl (sa_cons (se_v (sn_lst sa_nil)) sa_nil)) (se_tup (sa_cons (se_un ok_neg se_int) (sa_cons (se_un ok_neg se_int) sa_nil))) (nomark _)) (sw_or1 (st_cmp (ok_ne hr.units) (se_cal C__law_refusal (hr.mono (by decide)) rfl (sa_cons (se_sl (se_op ok_times (sv 3) se_int) so_none (so_some se_int)) sa_nil)) (se_tup (sa_cons (se_un ok_neg se_int) (sa_cons (se_un ok_neg se_int) sa_nil))) (nomark _)))))
      · refine ss_one ?_
        refine s_ret ?_
        exact se_bl
      exact ss_nil
    refine ss_cons ?_ ?_
    · refine s_if ?_ ?_ ?_
      · exact st_w (sw_or (st_cmp ok_ltI (se_callB ok_len rfl T.b_len PySem.boot_len (sa_cons (se_op ok_times (sv 3) se_int) sa_nil)) se_int (nomark _)) (sw_or1 (st_cmp (ok_eq hr.units) (se_cal C__law_pick (hr.mono (by decide)) rfl (sa_cons (sv 6) (sa_cons se_int (sa_cons se_int sa_nil)))) se_int (nomark _))))
      · refine ss_one ?_
        refine s_ret ?_
        exact se_bl
      exact ss_nil
    refine ss_cons ?_ ?_
    · refine s_if ?_ ?_ ?_
      · exact st_not (st_truth (se_cal C__law_too_many (hr.mono (by decide)) rfl (sa_cons (sv 2) (sa_cons (sv 6) sa_nil))))
      · refine ss_one ?_
        refine s_ret ?_
        exact se_bl
      exact ss_nil
    refine ss_cons ?_ ?_
    · refine s_set (i := 7) ?_ ?_ ?_ ?_
      · exact sc_law.nd
      · exact rfl
      · exact Or.inl rfl
      exact se_t (sn_lst (sa_cons (sv 2) sa_nil))
    refine ss_cons ?_ ?_
    · refine s_set (i := 8) ?_ ?_ ?_ ?_
      · exact sc_law.nd
      · exact rfl
      · exact Or.inl rfl
      exact se_cal C__law_copied (hr.mono (by decide)) rfl (sa_cons (sv 2) sa_nil)
    refine ss_cons ?_ ?_
    · refine s_expr ?_
      exact se_cal C__law_wrong (hr.mono (by decide)) rfl (sa_cons (sv 8) (sa_cons (sv 6) (sa_cons (sv 7) sa_nil)))
    refine ss_cons ?_ ?_
    · refine s_if ?_ ?_ ?_
      · exact st_cmp (ok_eq hr.units) (se_cal C__law_pick (hr.mono (by decide)) rfl (sa_cons (sv 6) (sa_cons se_int (sa_cons se_int sa_nil)))) se_int (nomark _)
      · refine ss_one ?_
        refine s_expr ?_
        exact se_cal C__law_wrong (hr.mono (by decide)) rfl (sa_cons (sv 8) (sa_cons (se_cal C__law_cell_at (hr.mono (by decide)) rfl (sa_cons (sv 0) (sa_cons se_int sa_nil))) (sa_cons (sv 7) sa_nil)))
      exact ss_nil
    refine ss_cons ?_ ?_
    · exact s_setcV (i := 9) (hN := sc_law.nd) (hix := rfl) (hx := (Or.inl rfl)) rfl (N' := ["_law_f", "_law_at"]) (js := [none, none]) ⟨rfl, by decide +kernel, rfl, rfl, rfl⟩ (si_seq (se_sl (sv 7) (so_some se_int) so_none)) (fun s0 H0 fp => ⟨(sg_tup rfl (sgs_cons (sg_name (i := 0) (show (["_law_f", "_law_at"] : List Str).Nodup by decide +kernel) rfl (Or.inl rfl)) (sgs_cons (sg_name (i := 1) (show (["_law_f", "_law_at"] : List Str).Nodup by decide +kernel) rfl (Or.inl rfl)) sgs_nil))), (sf_one (st_cmp (ok_eq hr.units) (sv 1) (se_un ok_neg se_int) (nomark _))), (sv 0)⟩)
    refine ss_cons ?_ ?_
    · refine s_set (i := 10) ?_ ?_ ?_ ?_
      · exact sc_law.nd
      · exact rfl
      · exact Or.inl rfl
      exact se_callB (ok_minP rfl hr.units) rfl T.b_min PyProof.Rows.boot_min (sa_cons (se_sl (sv 7) (so_some se_int) so_none) sa_nil)
    refine ss_cons ?_ ?_
    · refine s_if ?_ ?_ ?_
      · exact st_cmp (ok_ne hr.units) (sv 9) (se_v (sn_lst sa_nil)) (nomark _)
      · refine ss_one ?_
        refine s_set (i := 10) ?_ ?_ ?_ ?_
        · exact sc_law.nd
        · exact rfl
        · exact Or.inl rfl
        refine se_tup (n := 2) ?_
        refine sa_cons ?_ ?_
        · exact se_callB (ok_minL rfl) rfl T.b_min PyProof.Rows.boot_min (sa_cons (sv 9) sa_nil)
        refine sa_cons ?_ ?_
        · exact se_un ok_neg se_int
        exact sa_nil
      exact ss_nil
    refine ss_one ?_
    refine s_ret ?_
    exact se_and (se_cmp (ok_eq hr.units) (se_cal C__law_refusal (hr.mono (by decide)) rfl (sa_cons (sv 8) sa_nil)) (sv 10) (nomark _)) (se_one (se_cmp (ok_eq hr.units) (se_calX C_checked (hr.mono (by decide)) rfl (sa_cons (sv 3) sa_nil)) (sv 2) (nomark _)))) imp_law
end
theorem len_s {α : Type} {n : Nat} {us : List α} (h : us.length = n + 1) : ∃ a t, us = a :: t ∧ t.length = n := by
  cases us with
  | nil => cases h
  | cons a t => exact ⟨a, t, rfl, Nat.succ.inj h⟩
theorem len_z {α : Type} {us : List α} (h : us.length = 0) : us = [] := List.length_eq_zero_iff.mp h
theorem ln1 {F : FuncData} {ps : List Str} {us : List Value} (h : us.length = 1) (k : ∀ a, bindArgs F ⟨[a], []⟩ = pure (ps.zip [a])) : bindArgs F ⟨us, []⟩ = pure (ps.zip us) := by
  obtain ⟨a, us1, rfl, h1⟩ := len_s h
  cases len_z h1
  exact k a
theorem ln2 {F : FuncData} {ps : List Str} {us : List Value} (h : us.length = 2) (k : ∀ a b, bindArgs F ⟨[a, b], []⟩ = pure (ps.zip [a, b])) : bindArgs F ⟨us, []⟩ = pure (ps.zip us) := by
  obtain ⟨a, us1, rfl, h1⟩ := len_s h
  obtain ⟨b, us2, rfl, h2⟩ := len_s h1
  cases len_z h2
  exact k a b
theorem ln3 {F : FuncData} {ps : List Str} {us : List Value} (h : us.length = 3) (k : ∀ a b c, bindArgs F ⟨[a, b, c], []⟩ = pure (ps.zip [a, b, c])) : bindArgs F ⟨us, []⟩ = pure (ps.zip us) := by
  obtain ⟨a, us1, rfl, h1⟩ := len_s h
  obtain ⟨b, us2, rfl, h2⟩ := len_s h1
  obtain ⟨c, us3, rfl, h3⟩ := len_s h2
  cases len_z h3
  exact k a b c
theorem ln4 {F : FuncData} {ps : List Str} {us : List Value} (h : us.length = 4) (k : ∀ a b c d, bindArgs F ⟨[a, b, c, d], []⟩ = pure (ps.zip [a, b, c, d])) : bindArgs F ⟨us, []⟩ = pure (ps.zip us) := by
  obtain ⟨a, us1, rfl, h1⟩ := len_s h
  obtain ⟨b, us2, rfl, h2⟩ := len_s h1
  obtain ⟨c, us3, rfl, h3⟩ := len_s h2
  obtain ⟨d, us4, rfl, h4⟩ := len_s h3
  cases len_z h4
  exact k a b c d
theorem all_mk {l : PySem.W.OpenLaw} {w : World} {K : PySem.W.Frag} {h : Heap} {mg : Str → Option Value} {fa a_checked a_check_functions a_check_edges a_edge_fits a_call_fits a_table_fits a__law_cell_at a__law_pick a__law_table a__law_edge a__law_chart a__law_spoilt_mask a__law_spoilt_edge a__law_wrong a__law_refusal a__law_copied a__law_too_many a_law : Addr} (X : K.In h) (G : h.Ns mainGlobals mg) (hfa : mg "law" = some (.ref fa))
    {od_checked an_checked : Option Addr} {sl_checked : Array (Option Value)} {oc_checked kV_checked dc_checked pm_checked cd_checked ct_checked : Value}
    {od_check_functions an_check_functions : Option Addr} {sl_check_functions : Array (Option Value)} {oc_check_functions kV_check_functions dc_check_functions pm_check_functions cd_check_functions ct_check_functions : Value}
    {od_check_edges an_check_edges : Option Addr} {sl_check_edges : Array (Option Value)} {oc_check_edges kV_check_edges dc_check_edges pm_check_edges cd_check_edges ct_check_edges : Value}
    {od_edge_fits an_edge_fits : Option Addr} {sl_edge_fits : Array (Option Value)} {oc_edge_fits kV_edge_fits dc_edge_fits pm_edge_fits cd_edge_fits ct_edge_fits : Value}
    {od_call_fits an_call_fits : Option Addr} {sl_call_fits : Array (Option Value)} {oc_call_fits kV_call_fits dc_call_fits pm_call_fits cd_call_fits ct_call_fits : Value}
    {od_table_fits an_table_fits : Option Addr} {sl_table_fits : Array (Option Value)} {oc_table_fits kV_table_fits dc_table_fits pm_table_fits cd_table_fits ct_table_fits : Value}
    {od__law_cell_at an__law_cell_at : Option Addr} {sl__law_cell_at : Array (Option Value)} {oc__law_cell_at kV__law_cell_at dc__law_cell_at pm__law_cell_at cd__law_cell_at ct__law_cell_at : Value}
    {od__law_pick an__law_pick : Option Addr} {sl__law_pick : Array (Option Value)} {oc__law_pick kV__law_pick dc__law_pick pm__law_pick cd__law_pick ct__law_pick : Value}
    {od__law_table an__law_table : Option Addr} {sl__law_table : Array (Option Value)} {oc__law_table kV__law_table dc__law_table pm__law_table cd__law_table ct__law_table : Value}
    {od__law_edge an__law_edge : Option Addr} {sl__law_edge : Array (Option Value)} {oc__law_edge kV__law_edge dc__law_edge pm__law_edge cd__law_edge ct__law_edge : Value}
    {od__law_chart an__law_chart : Option Addr} {sl__law_chart : Array (Option Value)} {oc__law_chart kV__law_chart dc__law_chart pm__law_chart cd__law_chart ct__law_chart : Value}
    {od__law_spoilt_mask an__law_spoilt_mask : Option Addr} {sl__law_spoilt_mask : Array (Option Value)} {oc__law_spoilt_mask kV__law_spoilt_mask dc__law_spoilt_mask pm__law_spoilt_mask cd__law_spoilt_mask ct__law_spoilt_mask : Value}
    {od__law_spoilt_edge an__law_spoilt_edge : Option Addr} {sl__law_spoilt_edge : Array (Option Value)} {oc__law_spoilt_edge kV__law_spoilt_edge dc__law_spoilt_edge pm__law_spoilt_edge cd__law_spoilt_edge ct__law_spoilt_edge : Value}
    {od__law_wrong an__law_wrong : Option Addr} {sl__law_wrong : Array (Option Value)} {oc__law_wrong kV__law_wrong dc__law_wrong pm__law_wrong cd__law_wrong ct__law_wrong : Value}
    {od__law_refusal an__law_refusal : Option Addr} {sl__law_refusal : Array (Option Value)} {oc__law_refusal kV__law_refusal dc__law_refusal pm__law_refusal cd__law_refusal ct__law_refusal : Value}
    {od__law_copied an__law_copied : Option Addr} {sl__law_copied : Array (Option Value)} {oc__law_copied kV__law_copied dc__law_copied pm__law_copied cd__law_copied ct__law_copied : Value}
    {od__law_too_many an__law_too_many : Option Addr} {sl__law_too_many : Array (Option Value)} {oc__law_too_many kV__law_too_many dc__law_too_many pm__law_too_many cd__law_too_many ct__law_too_many : Value}
    {od_law an_law : Option Addr} {sl_law : Array (Option Value)} {oc_law kV_law dc_law pm_law cd_law ct_law : Value}
    (e_checked : PySem.W.nsIn K mainGlobals "checked" = some (some (.ref a_checked))) (l_checked : K.lookup a_checked = some ⟨oc_checked, od_checked, .func (PySem.W.fnOf "checked" "checked" (defArgs s_checked) (defBody s_checked) (defScope s_checked) .none kV_checked dc_checked pm_checked an_checked cd_checked ct_checked), sl_checked⟩) (c_checked : PySem.W.codeIn K cd_checked "checked" = true) (k_checked : PySem.W.keepIn K (.ref a_checked) = true)
    (e_check_functions : PySem.W.nsIn K mainGlobals "check_functions" = some (some (.ref a_check_functions))) (l_check_functions : K.lookup a_check_functions = some ⟨oc_check_functions, od_check_functions, .func (PySem.W.fnOf "check_functions" "check_functions" (defArgs s_check_functions) (defBody s_check_functions) (defScope s_check_functions) .none kV_check_functions dc_check_functions pm_check_functions an_check_functions cd_check_functions ct_check_functions), sl_check_functions⟩) (c_check_functions : PySem.W.codeIn K cd_check_functions "check_functions" = true) (k_check_functions : PySem.W.keepIn K (.ref a_check_functions) = true)
    (e_check_edges : PySem.W.nsIn K mainGlobals "check_edges" = some (some (.ref a_check_edges))) (l_check_edges : K.lookup a_check_edges = some ⟨oc_check_edges, od_check_edges, .func (PySem.W.fnOf "check_edges" "check_edges" (defArgs s_check_edges) (defBody s_check_edges) (defScope s_check_edges) .none kV_check_edges dc_check_edges pm_check_edges an_check_edges cd_check_edges ct_check_edges), sl_check_edges⟩) (c_check_edges : PySem.W.codeIn K cd_check_edges "check_edges" = true) (k_check_edges : PySem.W.keepIn K (.ref a_check_edges) = true)
    (e_edge_fits : PySem.W.nsIn K mainGlobals "edge_fits" = some (some (.ref a_edge_fits))) (l_edge_fits : K.lookup a_edge_fits = some ⟨oc_edge_fits, od_edge_fits, .func (PySem.W.fnOf "edge_fits" "edge_fits" (defArgs s_edge_fits) (defBody s_edge_fits) (defScope s_edge_fits) .none kV_edge_fits dc_edge_fits pm_edge_fits an_edge_fits cd_edge_fits ct_edge_fits), sl_edge_fits⟩) (c_edge_fits : PySem.W.codeIn K cd_edge_fits "edge_fits" = true) (k_edge_fits : PySem.W.keepIn K (.ref a_edge_fits) = true)
    (e_call_fits : PySem.W.nsIn K mainGlobals "call_fits" = some (some (.ref a_call_fits))) (l_call_fits : K.lookup a_call_fits = some ⟨oc_call_fits, od_call_fits, .func (PySem.W.fnOf "call_fits" "call_fits" (defArgs s_call_fits) (defBody s_call_fits) (defScope s_call_fits) .none kV_call_fits dc_call_fits pm_call_fits an_call_fits cd_call_fits ct_call_fits), sl_call_fits⟩) (c_call_fits : PySem.W.codeIn K cd_call_fits "call_fits" = true) (k_call_fits : PySem.W.keepIn K (.ref a_call_fits) = true)
    (e_table_fits : PySem.W.nsIn K mainGlobals "table_fits" = some (some (.ref a_table_fits))) (l_table_fits : K.lookup a_table_fits = some ⟨oc_table_fits, od_table_fits, .func (PySem.W.fnOf "table_fits" "table_fits" (defArgs s_table_fits) (defBody s_table_fits) (defScope s_table_fits) .none kV_table_fits dc_table_fits pm_table_fits an_table_fits cd_table_fits ct_table_fits), sl_table_fits⟩) (c_table_fits : PySem.W.codeIn K cd_table_fits "table_fits" = true) (k_table_fits : PySem.W.keepIn K (.ref a_table_fits) = true)
    (e__law_cell_at : PySem.W.nsIn K mainGlobals "_law_cell_at" = some (some (.ref a__law_cell_at))) (l__law_cell_at : K.lookup a__law_cell_at = some ⟨oc__law_cell_at, od__law_cell_at, .func (PySem.W.fnOf "_law_cell_at" "_law_cell_at" (defArgs s__law_cell_at) (defBody s__law_cell_at) (defScope s__law_cell_at) .none kV__law_cell_at dc__law_cell_at pm__law_cell_at an__law_cell_at cd__law_cell_at ct__law_cell_at), sl__law_cell_at⟩) (c__law_cell_at : PySem.W.codeIn K cd__law_cell_at "_law_cell_at" = true) (k__law_cell_at : PySem.W.keepIn K (.ref a__law_cell_at) = true)
    (e__law_pick : PySem.W.nsIn K mainGlobals "_law_pick" = some (some (.ref a__law_pick))) (l__law_pick : K.lookup a__law_pick = some ⟨oc__law_pick, od__law_pick, .func (PySem.W.fnOf "_law_pick" "_law_pick" (defArgs s__law_pick) (defBody s__law_pick) (defScope s__law_pick) .none kV__law_pick dc__law_pick pm__law_pick an__law_pick cd__law_pick ct__law_pick), sl__law_pick⟩) (c__law_pick : PySem.W.codeIn K cd__law_pick "_law_pick" = true) (k__law_pick : PySem.W.keepIn K (.ref a__law_pick) = true)
    (e__law_table : PySem.W.nsIn K mainGlobals "_law_table" = some (some (.ref a__law_table))) (l__law_table : K.lookup a__law_table = some ⟨oc__law_table, od__law_table, .func (PySem.W.fnOf "_law_table" "_law_table" (defArgs s__law_table) (defBody s__law_table) (defScope s__law_table) .none kV__law_table dc__law_table pm__law_table an__law_table cd__law_table ct__law_table), sl__law_table⟩) (c__law_table : PySem.W.codeIn K cd__law_table "_law_table" = true) (k__law_table : PySem.W.keepIn K (.ref a__law_table) = true)
    (e__law_edge : PySem.W.nsIn K mainGlobals "_law_edge" = some (some (.ref a__law_edge))) (l__law_edge : K.lookup a__law_edge = some ⟨oc__law_edge, od__law_edge, .func (PySem.W.fnOf "_law_edge" "_law_edge" (defArgs s__law_edge) (defBody s__law_edge) (defScope s__law_edge) .none kV__law_edge dc__law_edge pm__law_edge an__law_edge cd__law_edge ct__law_edge), sl__law_edge⟩) (c__law_edge : PySem.W.codeIn K cd__law_edge "_law_edge" = true) (k__law_edge : PySem.W.keepIn K (.ref a__law_edge) = true)
    (e__law_chart : PySem.W.nsIn K mainGlobals "_law_chart" = some (some (.ref a__law_chart))) (l__law_chart : K.lookup a__law_chart = some ⟨oc__law_chart, od__law_chart, .func (PySem.W.fnOf "_law_chart" "_law_chart" (defArgs s__law_chart) (defBody s__law_chart) (defScope s__law_chart) .none kV__law_chart dc__law_chart pm__law_chart an__law_chart cd__law_chart ct__law_chart), sl__law_chart⟩) (c__law_chart : PySem.W.codeIn K cd__law_chart "_law_chart" = true) (k__law_chart : PySem.W.keepIn K (.ref a__law_chart) = true)
    (e__law_spoilt_mask : PySem.W.nsIn K mainGlobals "_law_spoilt_mask" = some (some (.ref a__law_spoilt_mask))) (l__law_spoilt_mask : K.lookup a__law_spoilt_mask = some ⟨oc__law_spoilt_mask, od__law_spoilt_mask, .func (PySem.W.fnOf "_law_spoilt_mask" "_law_spoilt_mask" (defArgs s__law_spoilt_mask) (defBody s__law_spoilt_mask) (defScope s__law_spoilt_mask) .none kV__law_spoilt_mask dc__law_spoilt_mask pm__law_spoilt_mask an__law_spoilt_mask cd__law_spoilt_mask ct__law_spoilt_mask), sl__law_spoilt_mask⟩) (c__law_spoilt_mask : PySem.W.codeIn K cd__law_spoilt_mask "_law_spoilt_mask" = true) (k__law_spoilt_mask : PySem.W.keepIn K (.ref a__law_spoilt_mask) = true)
    (e__law_spoilt_edge : PySem.W.nsIn K mainGlobals "_law_spoilt_edge" = some (some (.ref a__law_spoilt_edge))) (l__law_spoilt_edge : K.lookup a__law_spoilt_edge = some ⟨oc__law_spoilt_edge, od__law_spoilt_edge, .func (PySem.W.fnOf "_law_spoilt_edge" "_law_spoilt_edge" (defArgs s__law_spoilt_edge) (defBody s__law_spoilt_edge) (defScope s__law_spoilt_edge) .none kV__law_spoilt_edge dc__law_spoilt_edge pm__law_spoilt_edge an__law_spoilt_edge cd__law_spoilt_edge ct__law_spoilt_edge), sl__law_spoilt_edge⟩) (c__law_spoilt_edge : PySem.W.codeIn K cd__law_spoilt_edge "_law_spoilt_edge" = true) (k__law_spoilt_edge : PySem.W.keepIn K (.ref a__law_spoilt_edge) = true)
    (e__law_wrong : PySem.W.nsIn K mainGlobals "_law_wrong" = some (some (.ref a__law_wrong))) (l__law_wrong : K.lookup a__law_wrong = some ⟨oc__law_wrong, od__law_wrong, .func (PySem.W.fnOf "_law_wrong" "_law_wrong" (defArgs s__law_wrong) (defBody s__law_wrong) (defScope s__law_wrong) .none kV__law_wrong dc__law_wrong pm__law_wrong an__law_wrong cd__law_wrong ct__law_wrong), sl__law_wrong⟩) (c__law_wrong : PySem.W.codeIn K cd__law_wrong "_law_wrong" = true) (k__law_wrong : PySem.W.keepIn K (.ref a__law_wrong) = true)
    (e__law_refusal : PySem.W.nsIn K mainGlobals "_law_refusal" = some (some (.ref a__law_refusal))) (l__law_refusal : K.lookup a__law_refusal = some ⟨oc__law_refusal, od__law_refusal, .func (PySem.W.fnOf "_law_refusal" "_law_refusal" (defArgs s__law_refusal) (defBody s__law_refusal) (defScope s__law_refusal) .none kV__law_refusal dc__law_refusal pm__law_refusal an__law_refusal cd__law_refusal ct__law_refusal), sl__law_refusal⟩) (c__law_refusal : PySem.W.codeIn K cd__law_refusal "_law_refusal" = true) (k__law_refusal : PySem.W.keepIn K (.ref a__law_refusal) = true)
    (e__law_copied : PySem.W.nsIn K mainGlobals "_law_copied" = some (some (.ref a__law_copied))) (l__law_copied : K.lookup a__law_copied = some ⟨oc__law_copied, od__law_copied, .func (PySem.W.fnOf "_law_copied" "_law_copied" (defArgs s__law_copied) (defBody s__law_copied) (defScope s__law_copied) .none kV__law_copied dc__law_copied pm__law_copied an__law_copied cd__law_copied ct__law_copied), sl__law_copied⟩) (c__law_copied : PySem.W.codeIn K cd__law_copied "_law_copied" = true) (k__law_copied : PySem.W.keepIn K (.ref a__law_copied) = true)
    (e__law_too_many : PySem.W.nsIn K mainGlobals "_law_too_many" = some (some (.ref a__law_too_many))) (l__law_too_many : K.lookup a__law_too_many = some ⟨oc__law_too_many, od__law_too_many, .func (PySem.W.fnOf "_law_too_many" "_law_too_many" (defArgs s__law_too_many) (defBody s__law_too_many) (defScope s__law_too_many) .none kV__law_too_many dc__law_too_many pm__law_too_many an__law_too_many cd__law_too_many ct__law_too_many), sl__law_too_many⟩) (c__law_too_many : PySem.W.codeIn K cd__law_too_many "_law_too_many" = true) (k__law_too_many : PySem.W.keepIn K (.ref a__law_too_many) = true)
    (e_law : PySem.W.nsIn K mainGlobals "law" = some (some (.ref a_law))) (l_law : K.lookup a_law = some ⟨oc_law, od_law, .func (PySem.W.fnOf "law" "law" (defArgs s_law) (defBody s_law) (defScope s_law) .none kV_law dc_law pm_law an_law cd_law ct_law), sl_law⟩) (c_law : PySem.W.codeIn K cd_law "law" = true) (k_law : PySem.W.keepIn K (.ref a_law) = true)
    (z_ValueError : PySem.W.nsIn K mainGlobals "ValueError" = some none)
    (z_all : PySem.W.nsIn K mainGlobals "all" = some none)
    (z_enumerate : PySem.W.nsIn K mainGlobals "enumerate" = some none)
    (z_int : PySem.W.nsIn K mainGlobals "int" = some none)
    (z_isinstance : PySem.W.nsIn K mainGlobals "isinstance" = some none)
    (z_len : PySem.W.nsIn K mainGlobals "len" = some none)
    (z_list : PySem.W.nsIn K mainGlobals "list" = some none)
    (z_min : PySem.W.nsIn K mainGlobals "min" = some none)
    (z_range : PySem.W.nsIn K mainGlobals "range" = some none)
    (z_tuple : PySem.W.nsIn K mainGlobals "tuple" = some none)
    {tk_MOST_EDGES : Tok} (y_MOST_EDGES : PySem.W.nsIn K mainGlobals "MOST_EDGES" = some (some (.int 24 tk_MOST_EDGES)))
    {tk_MOST_FACTS : Tok} (y_MOST_FACTS : PySem.W.nsIn K mainGlobals "MOST_FACTS" = some (some (.int 6 tk_MOST_FACTS)))
    {tk_MOST_FUNCTIONS : Tok} (y_MOST_FUNCTIONS : PySem.W.nsIn K mainGlobals "MOST_FUNCTIONS" = some (some (.int 6 tk_MOST_FUNCTIONS)))
    {tk_MOST_PLACES : Tok} (y_MOST_PLACES : PySem.W.nsIn K mainGlobals "MOST_PLACES" = some (some (.int 10 tk_MOST_PLACES)))
    {C_NoChart : Addr} (e_NoChart : PySem.W.nsIn K mainGlobals "NoChart" = some (some (.ref C_NoChart)))
    {C_CallError : Addr} (e_CallError : PySem.W.nsIn K mainGlobals "CallError" = some (some (.ref C_CallError)))
    {C_NoName : Addr} (e_NoName : PySem.W.nsIn K mainGlobals "NoName" = some (some (.ref C_NoName)))
    {C_NoPaper : Addr} (e_NoPaper : PySem.W.nsIn K mainGlobals "NoPaper" = some (some (.ref C_NoPaper)))
    {C_NoTable : Addr} (e_NoTable : PySem.W.nsIn K mainGlobals "NoTable" = some (some (.ref C_NoTable)))
    {C_NoText : Addr} (e_NoText : PySem.W.nsIn K mainGlobals "NoText" = some (some (.ref C_NoText)))
    {C_NoWay : Addr} (e_NoWay : PySem.W.nsIn K mainGlobals "NoWay" = some (some (.ref C_NoWay)))
    {C_TooLong : Addr} (e_TooLong : PySem.W.nsIn K mainGlobals "TooLong" = some (some (.ref C_TooLong)))
    {xnm xq : Str} {xN xf : Addr} {xbs xbm xsub : List Value} {xsn : List Str} {xab : Bool} {xcol : Option Bool} {xdd : Option Addr} {x0 x1 x2 x3 x5 : Option Value}
    (l_NoChart : K.lookup C_NoChart = some (excClassObj xnm xq C_NoChart xN xbs xbm true xsn xsub xab xcol xdd x0 x1 x2 x3 x5 "ValueError.__new__")) (t_NoChart : PySem.W.tailIn K bmV xbm = true) (o_NoChart : PySem.W.nsOkIn K xN = true) (i_NoChart : PySem.W.nsIn K xN "__init__" = some (some (.ref xf)))
    {od_i an_i : Option Addr} {sl_i : Array (Option Value)} {kV_i dc_i pm_i cd_i ct_i : Value}
    (l_i : K.lookup xf = some ⟨.type "function", od_i, .func (PySem.W.fnOf "__init__" "NoChart.__init__" (defArgs s_NoChart__init__) (defBody s_NoChart__init__) (defScope s_NoChart__init__) .none kV_i dc_i pm_i an_i cd_i ct_i), sl_i⟩) (c_i : PySem.W.codeIn K cd_i "NoChart.__init__" = true) (k_i : PySem.W.keepIn K (.ref xf) = true)
    (sa_NoChart : PySem.W.findIn K (.ref C_NoChart) "__setattr__" = some (some (.builtin "object.__setattr__"))) (ga_NoChart : PySem.W.findIn K (.ref C_NoChart) "__getattribute__" = some (some (.builtin "BaseException.__getattribute__"))) (gg_NoChart : PySem.W.findIn K (.ref C_NoChart) "__getattr__" = some none) (cl_NoChart : PySem.W.findIn K (.ref C_NoChart) "__class__" = some (some (.builtin "object.__class__"))) (cg_NoChart : PySem.W.specialIn K (.builtin "object.__class__") "__get__" = some (some (.builtin "getset_descriptor.__get__"))) (ct_NoChart : PySem.W.takesIn K (.builtin "object.__class__") = some true) (mo_NoChart : PySem.W.mroIn K C_NoChart (.type "object") = some true)
    (n_function : PySem.W.findIn K (.ref C_NoChart) "function" = some none)
    (n_edge : PySem.W.findIn K (.ref C_NoChart) "edge" = some none)
    (rd_CallError : PySem.W.readsIn K C_CallError (.type "type") = true) (fc_CallError : PySem.W.findCls K (.ref C_CallError) (.type "type") "__init__" = some (.val (.builtin "ValueError.__init__"))) (sp_CallError : PySem.W.specialIn K (.ref C_CallError) "__getattribute__" = some (some (.builtin "type.__getattribute__")))
    (m_CallError : PySem.W.exmOne K (.ref C_NoChart) (.ref C_CallError) = some true)
    (q_NoChart : PySem.W.kitOne K (.ref C_NoChart) (.ref C_NoChart) = some true)
    (q_NoName : PySem.W.kitOne K (.ref C_NoChart) (.ref C_NoName) = some false)
    (q_NoPaper : PySem.W.kitOne K (.ref C_NoChart) (.ref C_NoPaper) = some false)
    (q_NoTable : PySem.W.kitOne K (.ref C_NoChart) (.ref C_NoTable) = some false)
    (q_NoText : PySem.W.kitOne K (.ref C_NoChart) (.ref C_NoText) = some false)
    (q_NoWay : PySem.W.kitOne K (.ref C_NoChart) (.ref C_NoWay) = some false)
    (q_TooLong : PySem.W.kitOne K (.ref C_NoChart) (.ref C_TooLong) = some false)
    (q_ValueError : PySem.W.kitOne K (.ref C_NoChart) (.type "ValueError") = some true)
    : ∃ fd : FuncData, (∀ (s : Shared) (v : Value), BindsTo s fd ⟨[v], []⟩ [("_law_script", v)]) ∧ ∀ base : Heap, K.In base → base.Ns mainGlobals mg → FnOk l.prog w K mg base CX0 8 fa fd ["_law_script"] (spD K 1 S_law) := by
  have e := hfa.symm.trans (PySem.W.mg_of X G e_law)
  cases e
  have XC : XCls K C_NoChart xf := ⟨⟨_, _, _, _, _, _, _, _, _, _, _, _, _, _, _, l_NoChart, t_NoChart, o_NoChart, i_NoChart⟩, ⟨_, l_i, rfl⟩, sa_NoChart, ga_NoChart, gg_NoChart, cl_NoChart, cg_NoChart, ct_NoChart, mo_NoChart⟩
  have T : Txt l.prog w K mg := ⟨PySem.W.mg_none_of X G z_ValueError, PySem.W.mg_none_of X G z_all, PySem.W.mg_none_of X G z_enumerate, PySem.W.mg_none_of X G z_int, PySem.W.mg_none_of X G z_isinstance, PySem.W.mg_none_of X G z_len, PySem.W.mg_none_of X G z_list, PySem.W.mg_none_of X G z_min, PySem.W.mg_none_of X G z_range, PySem.W.mg_none_of X G z_tuple, ⟨_, PySem.W.mg_of X G y_MOST_EDGES⟩, ⟨_, PySem.W.mg_of X G y_MOST_FACTS⟩, ⟨_, PySem.W.mg_of X G y_MOST_FUNCTIONS⟩, ⟨_, PySem.W.mg_of X G y_MOST_PLACES⟩, ⟨_, PySem.W.mg_of X G e_CallError, fun C h => by rw [e_NoChart] at h; cases h; exact m_CallError⟩, ⟨_, e_NoChart, XC.is⟩, ⟨_, PySem.W.mg_of X G e_NoChart, ⟨_, e_NoChart, q_NoChart⟩⟩, ⟨_, PySem.W.mg_of X G e_NoName, ⟨_, e_NoChart, q_NoName⟩⟩, ⟨_, PySem.W.mg_of X G e_NoPaper, ⟨_, e_NoChart, q_NoPaper⟩⟩, ⟨_, PySem.W.mg_of X G e_NoTable, ⟨_, e_NoChart, q_NoTable⟩⟩, ⟨_, PySem.W.mg_of X G e_NoText, ⟨_, e_NoChart, q_NoText⟩⟩, ⟨_, PySem.W.mg_of X G e_NoWay, ⟨_, e_NoChart, q_NoWay⟩⟩, ⟨_, PySem.W.mg_of X G e_TooLong, ⟨_, e_NoChart, q_TooLong⟩⟩, ⟨_, e_NoChart, q_ValueError⟩, ⟨_, _, e_NoChart, XC, n_edge⟩, ⟨_, _, e_NoChart, XC, n_function⟩⟩
  have F_checked := fun_mk (st := s_checked) l_checked c_checked k_checked
  have F_check_functions := fun_mk (st := s_check_functions) l_check_functions c_check_functions k_check_functions
  have F_check_edges := fun_mk (st := s_check_edges) l_check_edges c_check_edges k_check_edges
  have F_edge_fits := fun_mk (st := s_edge_fits) l_edge_fits c_edge_fits k_edge_fits
  have F_call_fits := fun_mk (st := s_call_fits) l_call_fits c_call_fits k_call_fits
  have F_table_fits := fun_mk (st := s_table_fits) l_table_fits c_table_fits k_table_fits
  have F__law_cell_at := fun_mk (st := s__law_cell_at) l__law_cell_at c__law_cell_at k__law_cell_at
  have F__law_pick := fun_mk (st := s__law_pick) l__law_pick c__law_pick k__law_pick
  have F__law_table := fun_mk (st := s__law_table) l__law_table c__law_table k__law_table
  have F__law_edge := fun_mk (st := s__law_edge) l__law_edge c__law_edge k__law_edge
  have F__law_chart := fun_mk (st := s__law_chart) l__law_chart c__law_chart k__law_chart
  have F__law_spoilt_mask := fun_mk (st := s__law_spoilt_mask) l__law_spoilt_mask c__law_spoilt_mask k__law_spoilt_mask
  have F__law_spoilt_edge := fun_mk (st := s__law_spoilt_edge) l__law_spoilt_edge c__law_spoilt_edge k__law_spoilt_edge
  have F__law_wrong := fun_mk (st := s__law_wrong) l__law_wrong c__law_wrong k__law_wrong
  have F__law_refusal := fun_mk (st := s__law_refusal) l__law_refusal c__law_refusal k__law_refusal
  have F__law_copied := fun_mk (st := s__law_copied) l__law_copied c__law_copied k__law_copied
  have F__law_too_many := fun_mk (st := s__law_too_many) l__law_too_many c__law_too_many k__law_too_many
  have F_law := fun_mk (st := s_law) l_law c_law k_law
  have b_checked : Binds K (PySem.W.fnOf "checked" "checked" (defArgs s_checked) (defBody s_checked) (defScope s_checked) .none kV_checked dc_checked pm_checked an_checked cd_checked ct_checked) ["chart"] [] := .all fun us hl => ln1 hl fun _ => rfl
  have b_check_functions : Binds K (PySem.W.fnOf "check_functions" "check_functions" (defArgs s_check_functions) (defBody s_check_functions) (defScope s_check_functions) .none kV_check_functions dc_check_functions pm_check_functions an_check_functions cd_check_functions ct_check_functions) ["chart"] [] := .all fun us hl => ln1 hl fun _ => rfl
  have b_check_edges : Binds K (PySem.W.fnOf "check_edges" "check_edges" (defArgs s_check_edges) (defBody s_check_edges) (defScope s_check_edges) .none kV_check_edges dc_check_edges pm_check_edges an_check_edges cd_check_edges ct_check_edges) ["chart"] [] := .all fun us hl => ln1 hl fun _ => rfl
  have b_edge_fits : Binds K (PySem.W.fnOf "edge_fits" "edge_fits" (defArgs s_edge_fits) (defBody s_edge_fits) (defScope s_edge_fits) .none kV_edge_fits dc_edge_fits pm_edge_fits an_edge_fits cd_edge_fits ct_edge_fits) ["chart", "function", "edge"] [] := .all fun us hl => ln3 hl fun _ _ _ => rfl
  have b_call_fits : Binds K (PySem.W.fnOf "call_fits" "call_fits" (defArgs s_call_fits) (defBody s_call_fits) (defScope s_call_fits) .none kV_call_fits dc_call_fits pm_call_fits an_call_fits cd_call_fits ct_call_fits) ["chart", "facts", "edge"] [] := .all fun us hl => ln3 hl fun _ _ _ => rfl
  have b_table_fits : Binds K (PySem.W.fnOf "table_fits" "table_fits" (defArgs s_table_fits) (defBody s_table_fits) (defScope s_table_fits) .none kV_table_fits dc_table_fits pm_table_fits an_table_fits cd_table_fits ct_table_fits) ["table", "n", "to"] [] := .all fun us hl => ln3 hl fun _ _ _ => rfl
  have b__law_cell_at : Binds K (PySem.W.fnOf "_law_cell_at" "_law_cell_at" (defArgs s__law_cell_at) (defBody s__law_cell_at) (defScope s__law_cell_at) .none kV__law_cell_at dc__law_cell_at pm__law_cell_at an__law_cell_at cd__law_cell_at ct__law_cell_at) ["_law_script", "_law_k"] [] := .all fun us hl => ln2 hl fun _ _ => rfl
  have b__law_pick : Binds K (PySem.W.fnOf "_law_pick" "_law_pick" (defArgs s__law_pick) (defBody s__law_pick) (defScope s__law_pick) .none kV__law_pick dc__law_pick pm__law_pick an__law_pick cd__law_pick ct__law_pick) ["_law_cell", "_law_k", "_law_many"] [] := .all fun us hl => ln3 hl fun _ _ _ => rfl
  have b__law_table : Binds K (PySem.W.fnOf "_law_table" "_law_table" (defArgs s__law_table) (defBody s__law_table) (defScope s__law_table) .none kV__law_table dc__law_table pm__law_table an__law_table cd__law_table ct__law_table) ["_law_cell", "_law_k", "_law_n", "_law_to"] [] := .all fun us hl => ln4 hl fun _ _ _ _ => rfl
  have b__law_edge : Binds K (PySem.W.fnOf "_law_edge" "_law_edge" (defArgs s__law_edge) (defBody s__law_edge) (defScope s__law_edge) .none kV__law_edge dc__law_edge pm__law_edge an__law_edge cd__law_edge ct__law_edge) ["_law_sizes", "_law_f", "_law_cell"] [] := .all fun us hl => ln3 hl fun _ _ _ => rfl
  have b__law_chart : Binds K (PySem.W.fnOf "_law_chart" "_law_chart" (defArgs s__law_chart) (defBody s__law_chart) (defScope s__law_chart) .none kV__law_chart dc__law_chart pm__law_chart an__law_chart cd__law_chart ct__law_chart) ["_law_cells", "_law_way"] [] := .all fun us hl => ln2 hl fun _ _ => rfl
  have b__law_spoilt_mask : Binds K (PySem.W.fnOf "_law_spoilt_mask" "_law_spoilt_mask" (defArgs s__law_spoilt_mask) (defBody s__law_spoilt_mask) (defScope s__law_spoilt_mask) .none kV__law_spoilt_mask dc__law_spoilt_mask pm__law_spoilt_mask an__law_spoilt_mask cd__law_spoilt_mask ct__law_spoilt_mask) ["_law_table_here", "_law_cell", "_law_facts"] [] := .all fun us hl => ln3 hl fun _ _ _ => rfl
  have b__law_spoilt_edge : Binds K (PySem.W.fnOf "_law_spoilt_edge" "_law_spoilt_edge" (defArgs s__law_spoilt_edge) (defBody s__law_spoilt_edge) (defScope s__law_spoilt_edge) .none kV__law_spoilt_edge dc__law_spoilt_edge pm__law_spoilt_edge an__law_spoilt_edge cd__law_spoilt_edge ct__law_spoilt_edge) ["_law_chart_here", "_law_f", "_law_edge_here", "_law_cell"] [] := .all fun us hl => ln4 hl fun _ _ _ _ => rfl
  have b__law_wrong : Binds K (PySem.W.fnOf "_law_wrong" "_law_wrong" (defArgs s__law_wrong) (defBody s__law_wrong) (defScope s__law_wrong) .none kV__law_wrong dc__law_wrong pm__law_wrong an__law_wrong cd__law_wrong ct__law_wrong) ["_law_chart_here", "_law_cell", "_law_spoilt"] [] := .all fun us hl => ln3 hl fun _ _ _ => rfl
  have b__law_refusal : Binds K (PySem.W.fnOf "_law_refusal" "_law_refusal" (defArgs s__law_refusal) (defBody s__law_refusal) (defScope s__law_refusal) .none kV__law_refusal dc__law_refusal pm__law_refusal an__law_refusal cd__law_refusal ct__law_refusal) ["_law_chart_here"] [] := .all fun us hl => ln1 hl fun _ => rfl
  have b__law_copied : Binds K (PySem.W.fnOf "_law_copied" "_law_copied" (defArgs s__law_copied) (defBody s__law_copied) (defScope s__law_copied) .none kV__law_copied dc__law_copied pm__law_copied an__law_copied cd__law_copied ct__law_copied) ["_law_chart_here"] [] := .all fun us hl => ln1 hl fun _ => rfl
  have b__law_too_many : Binds K (PySem.W.fnOf "_law_too_many" "_law_too_many" (defArgs s__law_too_many) (defBody s__law_too_many) (defScope s__law_too_many) .none kV__law_too_many dc__law_too_many pm__law_too_many an__law_too_many cd__law_too_many ct__law_too_many) ["_law_chart_here", "_law_cell"] [] := .all fun us hl => ln2 hl fun _ _ => rfl
  refine ⟨PySem.W.fnOf "law" "law" (defArgs s_law) (defBody s_law) (defScope s_law) .none kV_law dc_law pm_law an_law cd_law ct_law, fun s v => .of_eq rfl, fun base _ _ => ?_⟩
  have F_i := fun_mk (st := s_NoChart__init__) l_i c_i k_i
  have b_i : Binds K (PySem.W.fnOf "__init__" "NoChart.__init__" (defArgs s_NoChart__init__) (defBody s_NoChart__init__) (defScope s_NoChart__init__) .none kV_i dc_i pm_i an_i cd_i ct_i) ["self", "function", "edge"] [] := .all fun us hl => ln3 hl fun _ _ _ => rfl
  have R_NoChart : RaiseX l.prog w K mg base 1 "NoChart" ["self", "function", "edge"] ["function", "edge"] := ⟨_, _, _, PySem.W.mg_of X G e_NoChart, e_NoChart, XC, ok_NoChart__init__ F_i (PySem.W.mg_of X G e_CallError) ⟨rd_CallError, fc_CallError, sp_CallError⟩ XC n_function n_edge, b_i⟩
  have C_table_fits : Cal l.prog w K mg base 1 "table_fits" ["table", "n", "to"] (spD K 3 S_table_fits) := ⟨a_table_fits, _, ok_table_fits F_table_fits T , PySem.W.mg_of X G e_table_fits, k_table_fits, b_table_fits⟩
  have C__law_cell_at : Cal l.prog w K mg base 1 "_law_cell_at" ["_law_script", "_law_k"] (spD K 2 S__law_cell_at) := ⟨a__law_cell_at, _, ok__law_cell_at F__law_cell_at T , PySem.W.mg_of X G e__law_cell_at, k__law_cell_at, b__law_cell_at⟩
  have C__law_pick : Cal l.prog w K mg base 1 "_law_pick" ["_law_cell", "_law_k", "_law_many"] (spD K 3 S__law_pick) := ⟨a__law_pick, _, ok__law_pick F__law_pick T , PySem.W.mg_of X G e__law_pick, k__law_pick, b__law_pick⟩
  have C__law_copied : Cal l.prog w K mg base 1 "_law_copied" ["_law_chart_here"] (spD K 1 S__law_copied) := ⟨a__law_copied, _, ok__law_copied F__law_copied T , PySem.W.mg_of X G e__law_copied, k__law_copied, b__law_copied⟩
  have C_call_fits : Cal l.prog w K mg base 2 "call_fits" ["chart", "facts", "edge"] (spD K 3 S_call_fits) := ⟨a_call_fits, _, ok_call_fits F_call_fits T C_table_fits, PySem.W.mg_of X G e_call_fits, k_call_fits, b_call_fits⟩
  have C__law_table : Cal l.prog w K mg base 2 "_law_table" ["_law_cell", "_law_k", "_law_n", "_law_to"] (spD K 4 S__law_table) := ⟨a__law_table, _, ok__law_table F__law_table T C__law_pick, PySem.W.mg_of X G e__law_table, k__law_table, b__law_table⟩
  have C__law_spoilt_mask : Cal l.prog w K mg base 2 "_law_spoilt_mask" ["_law_table_here", "_law_cell", "_law_facts"] (spD K 3 S__law_spoilt_mask) := ⟨a__law_spoilt_mask, _, ok__law_spoilt_mask F__law_spoilt_mask T C__law_pick, PySem.W.mg_of X G e__law_spoilt_mask, k__law_spoilt_mask, b__law_spoilt_mask⟩
  have C_check_functions : CalX l.prog w K mg base 3 "check_functions" ["chart"] (spX K 1 S_check_functions) := ⟨a_check_functions, _, ok_check_functions F_check_functions T R_NoChart , PySem.W.mg_of X G e_check_functions, k_check_functions, b_check_functions⟩
  have C_edge_fits : Cal l.prog w K mg base 3 "edge_fits" ["chart", "function", "edge"] (spD K 3 S_edge_fits) := ⟨a_edge_fits, _, ok_edge_fits F_edge_fits T C_table_fits C_call_fits, PySem.W.mg_of X G e_edge_fits, k_edge_fits, b_edge_fits⟩
  have C__law_edge : Cal l.prog w K mg base 3 "_law_edge" ["_law_sizes", "_law_f", "_law_cell"] (spD K 3 S__law_edge) := ⟨a__law_edge, _, ok__law_edge F__law_edge T C__law_pick C__law_table, PySem.W.mg_of X G e__law_edge, k__law_edge, b__law_edge⟩
  have C__law_spoilt_edge : Cal l.prog w K mg base 3 "_law_spoilt_edge" ["_law_chart_here", "_law_f", "_law_edge_here", "_law_cell"] (spD K 4 S__law_spoilt_edge) := ⟨a__law_spoilt_edge, _, ok__law_spoilt_edge F__law_spoilt_edge T C__law_pick C__law_spoilt_mask, PySem.W.mg_of X G e__law_spoilt_edge, k__law_spoilt_edge, b__law_spoilt_edge⟩
  have C_check_edges : CalX l.prog w K mg base 4 "check_edges" ["chart"] (spX K 1 S_check_edges) := ⟨a_check_edges, _, ok_check_edges F_check_edges T R_NoChart C_edge_fits, PySem.W.mg_of X G e_check_edges, k_check_edges, b_check_edges⟩
  have C__law_chart : Cal l.prog w K mg base 4 "_law_chart" ["_law_cells", "_law_way"] (spD K 2 S__law_chart) := ⟨a__law_chart, _, ok__law_chart F__law_chart T C__law_pick C__law_edge, PySem.W.mg_of X G e__law_chart, k__law_chart, b__law_chart⟩
  have C__law_wrong : Cal l.prog w K mg base 4 "_law_wrong" ["_law_chart_here", "_law_cell", "_law_spoilt"] (spD K 3 S__law_wrong) := ⟨a__law_wrong, _, ok__law_wrong F__law_wrong T C__law_pick C__law_spoilt_edge, PySem.W.mg_of X G e__law_wrong, k__law_wrong, b__law_wrong⟩
  have C_checked : CalX l.prog w K mg base 5 "checked" ["chart"] (spX K 1 S_checked) := ⟨a_checked, _, ok_checked F_checked T C_check_functions C_check_edges, PySem.W.mg_of X G e_checked, k_checked, b_checked⟩
  have C__law_refusal : Cal l.prog w K mg base 6 "_law_refusal" ["_law_chart_here"] (spD K 1 S__law_refusal) := ⟨a__law_refusal, _, ok__law_refusal F__law_refusal T C_checked, PySem.W.mg_of X G e__law_refusal, k__law_refusal, b__law_refusal⟩
  have C__law_too_many : Cal l.prog w K mg base 7 "_law_too_many" ["_law_chart_here", "_law_cell"] (spD K 2 S__law_too_many) := ⟨a__law_too_many, _, ok__law_too_many F__law_too_many T C__law_copied C__law_pick C__law_refusal, PySem.W.mg_of X G e__law_too_many, k__law_too_many, b__law_too_many⟩
  exact ok_law F_law T C__law_cell_at C__law_chart C__law_copied C_checked C__law_refusal C__law_pick C__law_too_many C__law_wrong
end K21
open PySem PySem.W PyProof.Rows
set_option maxRecDepth 100000 in
set_option maxHeartbeats 0 in
theorem PySem.Challenge.cw_callmatch_k21_charts_looked_at_holds : PySem.Challenge.rw_callmatch_k21_charts_looked_at.Holds := by
  w_on; o_law; k_head; (case hw => w_witness2)
  k_fill
  refine DL.walkD (l := PySem.Challenge.rw_callmatch_k21_charts_looked_at) (n := 63) (k := 8) (S := K21.S_law) (x := "_law_script") rfl (by decide) rfl ⟨rfl, by decide, by decide⟩ (fun w h Y => PySem.W.kIn_of Y) ?F K21.law_true
  case F =>
    intro w mg fa h KX G hmg
    refine' K21.all_mk KX G hmg ?e_checked ?l_checked ?c_checked ?k_checked ?e_check_functions ?l_check_functions ?c_check_functions ?k_check_functions ?e_check_edges ?l_check_edges ?c_check_edges ?k_check_edges ?e_edge_fits ?l_edge_fits ?c_edge_fits ?k_edge_fits ?e_call_fits ?l_call_fits ?c_call_fits ?k_call_fits ?e_table_fits ?l_table_fits ?c_table_fits ?k_table_fits ?e__law_cell_at ?l__law_cell_at ?c__law_cell_at ?k__law_cell_at ?e__law_pick ?l__law_pick ?c__law_pick ?k__law_pick ?e__law_table ?l__law_table ?c__law_table ?k__law_table ?e__law_edge ?l__law_edge ?c__law_edge ?k__law_edge ?e__law_chart ?l__law_chart ?c__law_chart ?k__law_chart ?e__law_spoilt_mask ?l__law_spoilt_mask ?c__law_spoilt_mask ?k__law_spoilt_mask ?e__law_spoilt_edge ?l__law_spoilt_edge ?c__law_spoilt_edge ?k__law_spoilt_edge ?e__law_wrong ?l__law_wrong ?c__law_wrong ?k__law_wrong ?e__law_refusal ?l__law_refusal ?c__law_refusal ?k__law_refusal ?e__law_copied ?l__law_copied ?c__law_copied ?k__law_copied ?e__law_too_many ?l__law_too_many ?c__law_too_many ?k__law_too_many ?e_law ?l_law ?c_law ?k_law ?z_ValueError ?z_all ?z_enumerate ?z_int ?z_isinstance ?z_len ?z_list ?z_min ?z_range ?z_tuple ?y_MOST_EDGES ?y_MOST_FACTS ?y_MOST_FUNCTIONS ?y_MOST_PLACES ?e_NoChart ?e_CallError ?e_NoName ?e_NoPaper ?e_NoTable ?e_NoText ?e_NoWay ?e_TooLong ?l_NoChart ?t_NoChart ?o_NoChart ?i_NoChart ?l_i ?c_i ?k_i ?sa_NoChart ?ga_NoChart ?gg_NoChart ?cl_NoChart ?cg_NoChart ?ct_NoChart ?mo_NoChart ?n_function ?n_edge ?rd_CallError ?fc_CallError ?sp_CallError ?m_CallError ?q_NoChart ?q_NoName ?q_NoPaper ?q_NoTable ?q_NoText ?q_NoWay ?q_TooLong ?q_ValueError
    (case e_checked => k_is)
    (case l_checked => k_is)
    (case c_checked => k_is)
    (case k_checked => k_is)
    (case e_check_functions => k_is)
    (case l_check_functions => k_is)
    (case c_check_functions => k_is)
    (case k_check_functions => k_is)
    (case e_check_edges => k_is)
    (case l_check_edges => k_is)
    (case c_check_edges => k_is)
    (case k_check_edges => k_is)
    (case e_edge_fits => k_is)
    (case l_edge_fits => k_is)
    (case c_edge_fits => k_is)
    (case k_edge_fits => k_is)
    (case e_call_fits => k_is)
    (case l_call_fits => k_is)
    (case c_call_fits => k_is)
    (case k_call_fits => k_is)
    (case e_table_fits => k_is)
    (case l_table_fits => k_is)
    (case c_table_fits => k_is)
    (case k_table_fits => k_is)
    (case e__law_cell_at => k_is)
    (case l__law_cell_at => k_is)
    (case c__law_cell_at => k_is)
    (case k__law_cell_at => k_is)
    (case e__law_pick => k_is)
    (case l__law_pick => k_is)
    (case c__law_pick => k_is)
    (case k__law_pick => k_is)
    (case e__law_table => k_is)
    (case l__law_table => k_is)
    (case c__law_table => k_is)
    (case k__law_table => k_is)
    (case e__law_edge => k_is)
    (case l__law_edge => k_is)
    (case c__law_edge => k_is)
    (case k__law_edge => k_is)
    (case e__law_chart => k_is)
    (case l__law_chart => k_is)
    (case c__law_chart => k_is)
    (case k__law_chart => k_is)
    (case e__law_spoilt_mask => k_is)
    (case l__law_spoilt_mask => k_is)
    (case c__law_spoilt_mask => k_is)
    (case k__law_spoilt_mask => k_is)
    (case e__law_spoilt_edge => k_is)
    (case l__law_spoilt_edge => k_is)
    (case c__law_spoilt_edge => k_is)
    (case k__law_spoilt_edge => k_is)
    (case e__law_wrong => k_is)
    (case l__law_wrong => k_is)
    (case c__law_wrong => k_is)
    (case k__law_wrong => k_is)
    (case e__law_refusal => k_is)
    (case l__law_refusal => k_is)
    (case c__law_refusal => k_is)
    (case k__law_refusal => k_is)
    (case e__law_copied => k_is)
    (case l__law_copied => k_is)
    (case c__law_copied => k_is)
    (case k__law_copied => k_is)
    (case e__law_too_many => k_is)
    (case l__law_too_many => k_is)
    (case c__law_too_many => k_is)
    (case k__law_too_many => k_is)
    (case e_law => k_is)
    (case l_law => k_is)
    (case c_law => k_is)
    (case k_law => k_is)
    (case z_ValueError => k_is)
    (case z_all => k_is)
    (case z_enumerate => k_is)
    (case z_int => k_is)
    (case z_isinstance => k_is)
    (case z_len => k_is)
    (case z_list => k_is)
    (case z_min => k_is)
    (case z_range => k_is)
    (case z_tuple => k_is)
    (case y_MOST_EDGES => k_is)
    (case y_MOST_FACTS => k_is)
    (case y_MOST_FUNCTIONS => k_is)
    (case y_MOST_PLACES => k_is)
    (case e_NoChart => k_is)
    (case e_CallError => k_is)
    (case e_NoName => k_is)
    (case e_NoPaper => k_is)
    (case e_NoTable => k_is)
    (case e_NoText => k_is)
    (case e_NoWay => k_is)
    (case e_TooLong => k_is)
    (case l_NoChart => k_is)
    (case t_NoChart => kernel_rfl)
    (case o_NoChart => kernel_rfl)
    (case i_NoChart => k_is)
    (case l_i => k_is)
    (case c_i => k_is)
    (case k_i => k_is)
    (case sa_NoChart => k_is)
    (case ga_NoChart => k_is)
    (case gg_NoChart => k_is)
    (case cl_NoChart => k_is)
    (case cg_NoChart => k_is)
    (case ct_NoChart => k_is)
    (case mo_NoChart => k_is)
    (case n_function => k_is)
    (case n_edge => k_is)
    (case rd_CallError => k_is)
    (case fc_CallError => k_is)
    (case sp_CallError => k_is)
    (case m_CallError => kernel_rfl)
    (case q_NoChart => kernel_rfl)
    (case q_NoName => kernel_rfl)
    (case q_NoPaper => kernel_rfl)
    (case q_NoTable => kernel_rfl)
    (case q_NoText => kernel_rfl)
    (case q_NoWay => kernel_rfl)
    (case q_TooLong => kernel_rfl)
    (case q_ValueError => kernel_rfl)
#print axioms PySem.Challenge.cw_callmatch_k21_charts_looked_at_holds
