import PyProof.Rows.All
import Wide.All
import OpenK.AllK
import Wide.FinOn
import Lean
import PyProof.EqAt
import PyProof.EqKinds
import PyProof.TupleCall
import PyProof.EqLayable
import PyProof.P3In
import PyProof.Draws
import PyProof.EnumMake
import PyProof.CompFree
import PyProof.CompUse
import KE.KRevIter
import PyProof.DictIter
import PyProof.ZipIter
import PyProof.ListMulRoad
import PyProof.ConsumeWalk
import PySem.Challenge.RW_callmatch_k41_a_queue
set_option Elab.async false
set_option linter.all false
set_option maxRecDepth 100000
set_option genSizeOfSpec false
set_option compiler.extract_closed false
set_option maxHeartbeats 4000000
local macro_rules | `(tactic| trivial) => `(tactic| first | exact .inl rfl | exact .inr (.inl rfl) | exact .inr (.inr rfl) | exact .inr rfl | assumption)
namespace L2
open PySem PySem.Spec PyProof.Rows
noncomputable abbrev Key := Sum Int Str
noncomputable def keyIs : Key → Value → Bool
  | .inl k, v => Value.isInt k v
  | .inr x, v => Value.isStrOf x v
noncomputable def keyH (w : World) : Key → Int
  | .inl k => hashInt k
  | .inr x => hashStr w x
theorem keyIs_shape : ∀ {k : Key} {v : Value}, keyIs k v = true → (∃ i t, k = Sum.inl i ∧ v = Value.int i t) ∨ (∃ x t, k = Sum.inr x ∧ v = Value.str x t)
  | .inl i, v, h => by
    obtain ⟨t, e⟩ := Value.isInt_shape (k := i) (v := v) h
    exact .inl ⟨i, t, rfl, e⟩
  | .inr x, v, h => by
    obtain ⟨t, e⟩ := Value.isStrOf_shape (x := x) (v := v) h
    exact .inr ⟨x, t, rfl, e⟩
theorem key_ll (a b : Int) : decide ((Sum.inl a : Key) = Sum.inl b) = (a == b) := by
  by_cases e : a = b
  · subst e; simp
  · have h : ¬ (Sum.inl a : Key) = Sum.inl b := fun q => e (Sum.inl.inj q)
    rw [decide_eq_false h]
    exact (beq_eq_false_iff_ne.mpr e).symm
theorem key_rr (a b : Str) : decide ((Sum.inr a : Key) = Sum.inr b) = decide (a = b) := by
  by_cases e : a = b
  · subst e; simp
  · have h : ¬ (Sum.inr a : Key) = Sum.inr b := fun q => e (Sum.inr.inj q)
    rw [decide_eq_false h, decide_eq_false e]
theorem key_lr (a : Int) (b : Str) : decide ((Sum.inl a : Key) = Sum.inr b) = false := decide_eq_false (fun q => nomatch q)
theorem key_rl (a : Str) (b : Int) : decide ((Sum.inr a : Key) = Sum.inl b) = false := decide_eq_false (fun q => nomatch q)
noncomputable def mixKind (prog : Program) (w : World) : PySem.KeyKind prog w Key where
  is := keyIs
  hash := keyH w
  inj := fun v a b ha hb => by
    rcases keyIs_shape ha with ⟨i, t, rfl, rfl⟩ | ⟨x, t, rfl, rfl⟩
    · rcases keyIs_shape hb with ⟨j, u, rfl, e⟩ | ⟨y, u, rfl, e⟩
      · injection e with e1 _; rw [e1]
      · exact nomatch e
    · rcases keyIs_shape hb with ⟨j, u, rfl, e⟩ | ⟨y, u, rfl, e⟩
      · exact nomatch e
      · injection e with e1 _; rw [e1]
  byValue := fun k v h => by
    rcases keyIs_shape h with ⟨i, t, rfl, rfl⟩ | ⟨x, t, rfl, rfl⟩ <;> rfl
  pyHash := fun hv h => by
    rcases keyIs_shape hv with ⟨i, t, rfl, rfl⟩ | ⟨x, t, rfl, rfl⟩
    · exact wpAny_pyHash_int h
    · exact wpAny_pyHash_str h
  eqBool := fun hu hv h => by
    rcases keyIs_shape hu with ⟨i, t, rfl, rfl⟩ | ⟨x, t, rfl, rfl⟩
    · rcases keyIs_shape hv with ⟨j, u, rfl, rfl⟩ | ⟨y, u, rfl, rfl⟩
      · rw [key_ll] at h; exact wpAny_eqBool_int h
      · rw [key_lr] at h; exact SeqAt.EqAt.int_str i t y u _ _ _ _ h
    · rcases keyIs_shape hv with ⟨j, u, rfl, rfl⟩ | ⟨y, u, rfl, rfl⟩
      · rw [key_rl] at h; exact SeqAt.EqAt.str_int x t j u _ _ _ _ h
      · rw [key_rr] at h; exact wpAny_eqBool_str h
  «strs» := fun k x t v h => by
    rcases keyIs_shape h with ⟨i, u, rfl, e⟩ | ⟨y, u, rfl, e⟩
    · exact nomatch e
    · injection e with e1 _
      subst e1
      cases v <;> rfl
end L2
namespace L2
open PySem PySem.Spec PyProof.Rows
inductive V where
  | non | bl (b : Bool) | int (i : Int) | str (x : Str) | byt (b : Array UInt8) | flt (b : UInt64) | ref (a : Addr) | ty (n : String)
  deriving DecidableEq
noncomputable def RelV : V → Value → Prop
  | .non, u => u = Value.none
  | .bl b, u => u = Value.bool b
  | .int i, u => ∃ t, u = Value.int i t
  | .str x, u => ∃ t, u = Value.str x t
  | .byt b, u => ∃ t, u = Value.bytes b t
  | .flt b, u => ∃ t, u = Value.float b t
  | .ref a, u => u = Value.ref a
  | .ty n, u => u = Value.type n
noncomputable abbrev Vals : List V → List Value → Prop := Paired RelV
theorem Vals.length {xs : List V} {us : List Value} (r : Vals xs us) : xs.length = us.length := Paired.length r
theorem Vals.get : ∀ {xs : List V} {us : List Value} {i : Nat} {x : V}, Vals xs us → xs[i]? = some x → ∃ u, us[i]? = some u ∧ RelV x u
  | _, _, _, _, .nil, e => by simp at e
  | _, _, 0, _, .cons r _, e => by simp at e; subst e; exact ⟨_, rfl, r⟩
  | _, _, i + 1, x, .cons _ t, e => by
    obtain ⟨u, h1, h2⟩ := Vals.get (i := i) (x := x) t (by simpa using e)
    exact ⟨u, by simpa using h1, h2⟩
theorem Vals.set {x : V} {u : Value} (r : RelV x u) : ∀ {xs : List V} {us : List Value} (i : Nat), Vals xs us → Vals (xs.set i x) (us.set i u)
  | _, _, _, .nil => .nil
  | _, _, 0, .cons _ t => .cons r t
  | _, _, i + 1, .cons q t => .cons q (Vals.set r i t)
theorem Vals.append : ∀ {xs ys : List V} {us ws : List Value}, Vals xs us → Vals ys ws → Vals (xs ++ ys) (us ++ ws)
  | _, _, _, _, .nil, s => s
  | _, _, _, _, .cons r t, s => .cons r (Vals.append t s)
theorem Vals.take : ∀ {xs : List V} {us : List Value} (n : Nat), Vals xs us → Vals (xs.take n) (us.take n)
  | _, _, 0, _ => .nil
  | _, _, _ + 1, .nil => .nil
  | _, _, n + 1, .cons r t => .cons r (Vals.take n t)
theorem Vals.drop : ∀ {xs : List V} {us : List Value} (n : Nat), Vals xs us → Vals (xs.drop n) (us.drop n)
  | _, _, 0, r => r
  | _, _, _ + 1, .nil => .nil
  | _, _, n + 1, .cons _ t => Vals.drop n t
noncomputable def RelO : Option V → Option Value → Prop
  | some v, some u => RelV v u
  | none, none => True
  | _, _ => False
noncomputable def KV {κ : Type} : List (κ × V) → List (κ × Value) → Prop := Paired fun (p : κ × V) (q : κ × Value) => p.1 = q.1 ∧ RelV p.2 q.2
noncomputable def kV : Key → V
  | .inl i => .int i
  | .inr x => .str x
inductive HO where
  | lst (xs : List V)
  | tup (xs : List V)
  | dK (kvs : List (Key × V)) | dT (kvs : List (List Key × V))
  | set (S : Int → Bool) (n : Nat)
  | ins (C dx : Addr) (fs : List (Str × V))
  | own (x : Addr)
  | xd (fs : List (Str × V))
  | met (f x : Addr)
  | rng (lo hi : Int)
  | frz (o : Obj) (u : HO)
  | tbl (ps : Array Value)
  | ext (φ : Heap → Prop)
noncomputable abbrev Hp := Addr → Option HO
noncomputable def upd (H : Hp) (a : Addr) (o : HO) : Hp := fun b => if b = a then some o else H b
theorem upd_same {H : Hp} {a : Addr} {o : HO} : upd H a o a = some o := by unfold upd; rw [if_pos rfl]
theorem upd_ne {H : Hp} {a b : Addr} {o : HO} (h : b ≠ a) : upd H a o b = H b := by unfold upd; rw [if_neg h]
theorem ne_of_none {H : Hp} {a b : Addr} {o : HO} (h : H a = some o) (h' : H b = none) : a ≠ b := by
  intro e; subst e; rw [h] at h'; cases h'
section
variable (P : Program) (w : World)
noncomputable def ObjOk (H : Hp) (h : Heap) (a : Addr) : HO → Prop
  | .lst xs => xs.length ≤ sizeLine ∧ ∃ (its : List Value) (n : Nat), Vals xs its ∧ h.get? a = some { cls := .type "list", data := .seq its.toArray n }
  | .tup xs => xs.length ≤ sizeLine ∧ ∃ its : List Value, Vals xs its ∧ IsTup h a its.toArray
  | .dK kvs => kvs.length ≤ sizeLine ∧ (a == sysModules) = false ∧ ∃ vs, KV kvs vs ∧ h.DictOf (mixKind P w) a vs
  | .dT kvs => kvs.length ≤ sizeLine ∧ (a == sysModules) = false ∧ ∃ xs : List (List Key × Addr × Value),
      Paired (fun (p : List Key × V) (q : List Key × Addr × Value) => p.1 = q.1 ∧ H q.2.1 = some (.tup (p.1.map kV)) ∧ RelV p.2 q.2.2) kvs xs ∧
      ∃ o es ep, h.get? a = some o ∧ o.ExactDict ∧ o.data = .dict es ep ∧ es.toList = xs.map (entryOfKey (tupleKind (mixKind P w))) ∧ (xs.map (·.1)).Nodup
  | .set S n => h.SetOf (intKind P w) a S n
  | .ins C dx fs => H dx = some (.own a) ∧ fs.length ≤ 1000 ∧ dx ≠ a ∧ h.get? a = some (PySem.W.instObj C dx) ∧
      ∃ mA, h.Ns1 dx mA ∧ (∀ f, RelO (fs.lookup f) (mA f)) ∧ PySem.Within mA (fs.map (·.1))
  | .own _ => ∃ o, h.get? a = some o
  | .xd fs => ∃ mA, h.Ns1 a mA ∧ ∀ f, RelO (fs.lookup f) (mA f)
  | .rng lo hi => ∃ t u v, h.get? a = some { cls := .type "range", data := .fields #[.int lo t, .int hi u, .int 1 v] }
  | .frz o u => h.get? a = some o ∧ ObjOk H h a u
  | .tbl ps => h.get? a = some { cls := .none, data := .fields ps }
  | .met f x => h.get? a = some (PySem.W.methodObj (.ref f) (.ref x))
  | .ext φ => φ h ∧ (∃ o, h.get? a = some o) ∧ ∀ h1 h2 : Heap, φ h1 → (∀ o, h1.get? a = some o → h2.get? a = some o) → φ h2
noncomputable def HOk (H : Hp) (h : Heap) : Prop := ∀ a o, H a = some o → ObjOk P w H h a o
end
section
variable {P : Program} {w : World} {H H' : Hp} {h h' : Heap} {a : Addr} {o : HO}
theorem ObjOk.lt (x : ObjOk P w H h a o) : a < h.objs.size := by
  cases o with
  | lst xs => obtain ⟨_, _, _, _, e⟩ := x; exact Heap.lt_size e
  | tup xs => obtain ⟨_, _, _, p⟩ := x; exact p.lt
  | dK kvs => obtain ⟨_, _, _, _, o, _, _, e, _⟩ := x; exact Heap.lt_size e
  | dT kvs => obtain ⟨_, _, _, _, o, _, _, e, _⟩ := x; exact Heap.lt_size e
  | set S n => obtain ⟨o, _, _, _, e, _⟩ := x; exact Heap.lt_size e
  | ins C dx fs => obtain ⟨_, _, _, e, _⟩ := x; exact Heap.lt_size e
  | own y => obtain ⟨_, e⟩ := x; exact Heap.lt_size e
  | xd fs => obtain ⟨_, ⟨_, _, _, e, _⟩, _⟩ := x; exact Heap.lt_size e
  | rng lo hi => obtain ⟨_, _, _, e⟩ := x; exact Heap.lt_size e
  | frz ob u => obtain ⟨e, _⟩ := x; exact Heap.lt_size e
  | tbl ps => exact Heap.lt_size (show h.get? a = some _ from x)
  | met f y => exact Heap.lt_size (show h.get? a = some _ from x)
  | ext φ => obtain ⟨_, ⟨_, e⟩, _⟩ := x; exact Heap.lt_size e
theorem Paired.mapP {α β : Type} {F G : α → β → Prop} : ∀ {l₁ : List α} {l₂ : List β}, Paired F l₁ l₂ → (∀ a b, F a b → G a b) → Paired G l₁ l₂
  | _, _, .nil, _ => .nil
  | _, _, .cons r t, f => .cons (f _ _ r) (Paired.mapP t f)
theorem ObjOk.stay (x : ObjOk P w H h a o) (k : ∀ b u, (b = a ∨ H b = some (.own a)) → h.get? b = some u → h'.get? b = some u)
    (ho : ∀ b, H b = some (.own a) → H' b = some (.own a)) (ht : ∀ b xs, H b = some (.tup xs) → H' b = some (.tup xs)) : ObjOk P w H' h' a o := by
  induction o with
  | lst xs => obtain ⟨z, its, n, r, e⟩ := x; exact ⟨z, its, n, r, k _ _ (.inl rfl) e⟩
  | tup xs => obtain ⟨z, its, r, ob, e, c⟩ := x; exact ⟨z, its, r, ob, k _ _ (.inl rfl) e, c⟩
  | dK kvs => obtain ⟨z, y, vs, r, ob, es, ep, e, c⟩ := x; exact ⟨z, y, vs, r, ob, es, ep, k _ _ (.inl rfl) e, c⟩
  | dT kvs =>
    obtain ⟨z, y, xs, r, ob, es, ep, e, c⟩ := x
    exact ⟨z, y, xs, Paired.mapP r fun p q z => ⟨z.1, ht _ _ z.2.1, z.2.2⟩, ob, es, ep, k _ _ (.inl rfl) e, c⟩
  | set S n => obtain ⟨ob, es, ep, t, e, c⟩ := x; exact ⟨ob, es, ep, t, k _ _ (.inl rfl) e, c⟩
  | ins C dx fs =>
    obtain ⟨d, z, ne, e, mA, ⟨od, es, ep, e2, c⟩, r⟩ := x
    exact ⟨ho _ d, z, ne, k _ _ (.inl rfl) e, mA, ⟨od, es, ep, k _ _ (.inr d) e2, c⟩, r⟩
  | own y => obtain ⟨ob, e⟩ := x; exact ⟨ob, k _ _ (.inl rfl) e⟩
  | xd fs => obtain ⟨mA, ⟨od, es, ep, e, c⟩, r⟩ := x; exact ⟨mA, ⟨od, es, ep, k _ _ (.inl rfl) e, c⟩, r⟩
  | rng lo hi => obtain ⟨t, u, v, e⟩ := x; exact ⟨t, u, v, k _ _ (.inl rfl) e⟩
  | frz ob u ih => obtain ⟨e, q⟩ := x; exact ⟨k _ _ (.inl rfl) e, ih q⟩
  | tbl ps =>
    have e : h.get? a = some { cls := .none, data := .fields ps } := x
    show h'.get? a = some { cls := .none, data := .fields ps }
    exact k a _ (.inl rfl) e
  | met f y =>
    have e : h.get? a = some (PySem.W.methodObj (.ref f) (.ref y)) := x
    show h'.get? a = some (PySem.W.methodObj (.ref f) (.ref y))
    exact k a _ (.inl rfl) e
  | ext φ => obtain ⟨p, ⟨o, e⟩, st⟩ := x; exact ⟨st _ _ p fun o q => k _ _ (.inl rfl) q, ⟨o, k _ _ (.inl rfl) e⟩, st⟩
theorem HOk.lt (x : HOk P w H h) (e : H a = some o) : a < h.objs.size := (x a o e).lt
theorem HOk.fresh (x : HOk P w H h) (e : h.objs.size ≤ a) : H a = none := by
  cases q : H a with
  | none => rfl
  | some u => exact absurd (Nat.lt_of_lt_of_le (x.lt q) e) (Nat.lt_irrefl _)
theorem HOk.kept (x : HOk P w H h) (k : ∀ b u, h.get? b = some u → h'.get? b = some u) : HOk P w H h' := fun a o e =>
  (x a o e).stay (fun b u _ q => k b u q) (fun _ q => q) fun _ _ q => q
theorem HOk.laid (x : HOk P w H h) (k : ∀ b u, h.get? b = some u → h'.get? b = some u) (hp : h.objs.size ≤ a) (new : ObjOk P w (upd H a o) h' a o) : HOk P w (upd H a o) h' := fun b u e => by
  have hn := x.fresh hp
  by_cases hb : b = a
  · subst hb; rw [upd_same] at e; cases e; exact new
  · rw [upd_ne hb] at e
    exact (x b u e).stay (fun c v _ q => k c v q) (fun c q => by rw [upd_ne (ne_of_none q hn)]; exact q) fun c xs q => by rw [upd_ne (ne_of_none q hn)]; exact q
end
noncomputable def Rd (H : Hp) (a : Addr) (u : HO) : Prop := H a = some u ∨ ∃ o, H a = some (.frz o u)
theorem Rd.ok {P : Program} {w : World} {H : Hp} {h : Heap} {a : Addr} {u : HO} (r : Rd H a u) (x : HOk P w H h) : ObjOk P w H h a u := by
  rcases r with r | ⟨o, r⟩
  · exact x a u r
  · obtain ⟨_, q⟩ := x a _ r
    exact q
noncomputable def Mut : Option HO → Prop
  | some (.lst _) => True
  | some (.dK _) => True
  | some (.dT _) => True
  | some (.set _ _) => True
  | some (.ins _ _ _) => True
  | some (.ext _) => True
  | _ => False
section
variable {P : Program} {w : World} {H : Hp} {h h' : Heap} {x e : Addr} {o' : HO}
theorem HOk.write (ok : HOk P w H h) (mu : Mut (H x)) (he : e = x ∨ H e = some (.own x)) (k : ∀ b u, b ≠ e → h.get? b = some u → h'.get? b = some u) (heo : ∃ u, h'.get? e = some u)
    (new : ObjOk P w (upd H x o') h' x o') : HOk P w (upd H x o') h' := fun b u q => by
  have nown : ∀ c y, H c = some (.own y) → c ≠ x := fun c y r z => by subst z; rw [r] at mu; exact mu
  have ntup : ∀ c xs, H c = some (.tup xs) → c ≠ x := fun c xs r z => by subst z; rw [r] at mu; exact mu
  by_cases hb : b = x
  · subst hb; rw [upd_same] at q; cases q; exact new
  · rw [upd_ne hb] at q
    by_cases hbe : b = e
    · have q' : H b = some (.own x) := by
        rcases he with z | z
        · exact absurd (hbe.trans z) hb
        · rw [hbe]; exact z
      rw [q] at q'; cases q'
      obtain ⟨v, hv⟩ := heo
      exact ⟨v, by rw [hbe]; exact hv⟩
    · refine (ok b u q).stay (fun c v hc r => k c v ?_ r) (fun c r => by rw [upd_ne (nown c b r)]; exact r) fun c xs r => by rw [upd_ne (ntup c xs r)]; exact r
      rcases hc with rfl | hc
      · exact hbe
      · rintro rfl
        rcases he with z | z
        · exact nown c b hc z
        · rw [hc] at z; cases z; exact hb rfl
end
structure Un (fs ex : List Addr) (H H' : Hp) (h h' : Heap) : Prop where
  keep : ∀ b o, h.get? b = some o → H b = none → b ∉ fs → b ∉ ex → h'.get? b = some o
  slot : ∀ b o, h.get? b = some o → H b = none → b ∈ fs → b ∉ ex → ∃ sl, h'.get? b = some { o with slots := sl }
  free : ∀ b o, h.get? b = some o → H b = none → b ∉ ex → H' b = none
  there : ∀ b o, h.get? b = some o → b ∉ ex → ∃ o', h'.get? b = some o'
  tups : ∀ b xs, H b = some (.tup xs) → H' b = some (.tup xs)
  frzs : ∀ b o u, H b = some (.frz o u) → H' b = some (.frz o u)
  tbls : ∀ b ps, H b = some (.tbl ps) → ∃ more, H' b = some (.tbl (ps ++ more))
section
variable {fs fs' ex ex' : List Addr} {H H1 H2 : Hp} {h h1 h2 h' : Heap} {a x e : Addr} {o : HO}
theorem Un.any (u : Un fs ex H H1 h h1) {b : Addr} {ob : Obj} (q : h.get? b = some ob) (n : H b = none) (hx : b ∉ ex) : ∃ sl, h1.get? b = some { ob with slots := sl } := by
  by_cases hb : b ∈ fs
  · exact u.slot b ob q n hb hx
  · exact ⟨ob.slots, u.keep b ob q n hb hx⟩
theorem Un.trans (a : Un fs ex H H1 h h1) (b : Un fs ex H1 H2 h1 h2) : Un fs ex H H2 h h2 where
  keep := fun c ob q n hc hx => b.keep c ob (a.keep c ob q n hc hx) (a.free c ob q n hx) hc hx
  slot := fun c ob q n hc hx => by
    obtain ⟨sl, e1⟩ := a.slot c ob q n hc hx
    obtain ⟨sl', e2⟩ := b.slot c _ e1 (a.free c ob q n hx) hc hx
    exact ⟨sl', e2⟩
  free := fun c ob q n hx => by
    obtain ⟨o', e1⟩ := a.there c ob q hx
    exact b.free c o' e1 (a.free c ob q n hx) hx
  there := fun c ob q hx => by
    obtain ⟨o', e1⟩ := a.there c ob q hx
    exact b.there c o' e1 hx
  tups := fun c xs q => b.tups c xs (a.tups c xs q)
  frzs := fun c ob xs q => b.frzs c ob xs (a.frzs c ob xs q)
  tbls := fun c ps q => by
    obtain ⟨m1, e1⟩ := a.tbls c ps q
    obtain ⟨m2, e2⟩ := b.tbls c _ e1
    exact ⟨m1 ++ m2, by rw [e2, Array.append_assoc]⟩
theorem Un.kept (k : ∀ b u, h.get? b = some u → h'.get? b = some u) : Un fs ex H H h h' :=
  ⟨fun b ob q _ _ _ => k b ob q, fun b ob q _ _ _ => ⟨ob.slots, k b ob q⟩, fun _ _ _ n _ => n, fun b ob q _ => ⟨ob, k b ob q⟩, fun _ _ q => q, fun _ _ _ q => q, fun _ ps q => ⟨#[], by rw [q]; simp⟩⟩
theorem Un.refl : Un fs ex H H h h := Un.kept fun _ _ q => q
theorem Un.laid (k : ∀ b u, h.get? b = some u → h'.get? b = some u) (hp : h.objs.size ≤ a) (hn : H a = none) : Un fs ex H (upd H a o) h h' where
  keep := fun b u q _ _ _ => k b u q
  slot := fun b u q _ _ _ => ⟨u.slots, k b u q⟩
  free := fun b u q n _ => by rw [upd_ne (Nat.ne_of_lt (Nat.lt_of_lt_of_le (Heap.lt_size q) hp))]; exact n
  there := fun b u q _ => ⟨u, k b u q⟩
  tups := fun b xs q => by rw [upd_ne (ne_of_none q hn)]; exact q
  frzs := fun b u xs q => by rw [upd_ne (ne_of_none q hn)]; exact q
  tbls := fun b ps q => ⟨#[], by rw [upd_ne (ne_of_none q hn), q]; simp⟩
theorem Un.write (mu : Mut (H x)) (he : e = x ∨ H e = some (.own x)) (k : ∀ b u, b ≠ e → h.get? b = some u → h'.get? b = some u) (heo : ∃ u, h'.get? e = some u) : Un fs ex H (upd H x o) h h' := by
  have hx : ∀ b, H b = none → b ≠ x := fun b n z => by subst z; rw [n] at mu; exact mu
  have hb : ∀ b, H b = none → b ≠ e := fun b n z => by
    subst z
    rcases he with r | r
    · exact hx b n r
    · rw [n] at r; cases r
  have hm : ∀ b u, H b = some u → ¬ Mut (some u) → b ≠ x := fun b u q nm z => by subst z; rw [q] at mu; exact nm mu
  refine ⟨fun b u q n _ _ => k b u (hb b n) q, fun b u q n _ _ => ⟨u.slots, k b u (hb b n) q⟩, fun b u q n _ => by rw [upd_ne (hx b n)]; exact n, fun b u q _ => ?_,
    fun b xs q => by rw [upd_ne (hm b _ q fun z => z)]; exact q, fun b u xs q => by rw [upd_ne (hm b _ q fun z => z)]; exact q, fun b ps q => ⟨#[], by rw [upd_ne (hm b _ q fun z => z), q]; simp⟩⟩
  by_cases hbe : b = e
  · subst hbe; exact heo
  · exact ⟨u, k b u hbe q⟩
theorem Un.mono (u : Un fs ex H H1 h h1) (hs : ∀ b ∈ fs, b ∈ fs') (hx : ∀ b ∈ ex, b ∈ ex') : Un fs' ex' H H1 h h1 :=
  ⟨fun b ob q n hb he => u.keep b ob q n (fun z => hb (hs b z)) fun z => he (hx b z), fun _ _ q n _ he => u.any q n fun z => he (hx _ z), fun b ob q n he => u.free b ob q n fun z => he (hx b z), fun b ob q he => u.there b ob q fun z => he (hx b z), u.tups, u.frzs, u.tbls⟩
end
noncomputable def trk (h : Heap) (H : Hp) : List Addr := (List.range h.objs.size).filter fun a => (H a).isSome
noncomputable def hidT (h : Heap) (H : Hp) : Heap := PySem.W.hideAll h (trk h H)
theorem hidT_size (h : Heap) (H : Hp) : (hidT h H).objs.size = h.objs.size := PySem.W.hideAll_size _ _
theorem hidT_get {h : Heap} {H : Hp} {b : Addr} {o : Obj} (e : h.get? b = some o) (n : H b = none) : (hidT h H).get? b = some o :=
  PySem.W.hideAll_get _ e fun hm => by
    have q : (H b).isSome = true := (List.mem_filter.mp hm).2
    rw [n] at q; simp at q
theorem of_hidT {h : Heap} {H : Hp} {b : Addr} {o : Obj} (e : (hidT h H).get? b = some o) : h.get? b = some o ∧ H b = none := by
  have e' : h.get? b = some o := PySem.W.of_hideAll (trk h H) e
  refine ⟨e', ?_⟩
  cases q : H b with
  | none => rfl
  | some x =>
    have hm : b ∈ trk h H := List.mem_filter.mpr ⟨List.mem_range.mpr (Heap.lt_size e'), by simp [q]⟩
    have z : (hidT h H).get? b = none := PySem.W.hideAll_none (trk h H) hm
    rw [z] at e; cases e
end L2
namespace L2
open PySem PySem.Spec PyProof.Rows
structure Mod (K : PySem.W.Frag) (mg : Str → Option Value) (base : Heap) : Prop where
  kin : K.In base
  glob : base.Ns mainGlobals mg
  blt : ∃ mb, base.Ns builtinsNs mb ∧ ∀ x : Str, x ≠ "__name__" → mb x = bootBuiltins x
  nolimit : base.NoLimit
structure Cx where
  prog : Program
  w : World
  K : PySem.W.Frag
  mg : Str → Option Value
  base : Heap
  A : Around
  N : List Str
  s₀ : Shared
  H₀ : Hp
  env : Env
  outer : List Env
  stack : List Env
  ex : List Addr
  fn : Str → Bool
  calm : Bool
  pn : List (Addr × Obj)
  xe : Value → Shared → Prop
  ex9 : Value → Option Addr → Hp → Prop := fun _ _ _ => False
noncomputable def frs (l : List Env) : List Addr := l.filterMap (·.frame)
noncomputable abbrev Cx.fs (X : Cx) : List Addr := frs X.outer
noncomputable def Vis (sc : Scope) (x : Str) : Prop := sc.names.lookup x = some .local ∨ sc.names.lookup x = some .cell ∨ sc.names.lookup x = some .free
noncomputable def Loc (sc : Scope) (x : Str) : Prop := sc.names.lookup x = some .local ∨ sc.names.lookup x = some .cell
noncomputable def Look (env : Env) (h : Heap) (m : Str → Option Value) (x : Str) (u : Value) : Prop :=
  (env.kindOf x = some .local ∧ m x = some u) ∨ ((env.kindOf x = some .cell ∨ env.kindOf x = some .free) ∧ ∃ c, env.cells.lookup x = some c ∧ h.IsCell c (some u))
structure Cx.Ok (X : Cx) : Prop where
  mod : Mod X.K X.mg X.base
  kind : X.env.scope.kind = .function
  glob : X.env.globals = mainGlobals
  blt : X.env.builtins = builtinsNs
  above : X.s₀.heap.objs.size ≤ X.env.locals
  inj : ∀ x y c, X.env.cells.lookup x = some c → X.env.cells.lookup y = some c → x = y
  has : ∀ x, (X.env.kindOf x = some .cell ∨ X.env.kindOf x = some .free) → ∃ c, X.env.cells.lookup x = some c
  cab : ∀ x c, X.fn x = true → X.env.cells.lookup x = some c → X.s₀.heap.objs.size ≤ c
  hd : X.calm = true → X.A.handled = none
  frames : X.A.frames = some X.stack
  stk : X.stack = X.outer ∨ (X.stack = X.env :: X.outer ∧ X.env.frame = some X.env.locals)
  exf : ∀ b ∈ X.ex, b ≠ X.env.locals ∧ ∀ x c, X.env.cells.lookup x = some c → c ≠ b
  bs : ∀ b o, X.base.get? b = some o → X.s₀.heap.get? b = some o ∧ X.H₀ b = none
  bsz : X.base.objs.size ≤ X.s₀.heap.objs.size
  noex : ∀ b o, X.base.get? b = some o → b ∉ X.ex
  exfs : ∀ b ∈ X.ex, b ∉ X.fs
  funs : X.s₀.heap.FunFrames X.base X.outer
  frf : ∀ b ∈ X.fs, X.H₀ b = none
structure Inv (X : Cx) (pins : List (Addr × Obj)) (σ : List (Option V)) (H : Hp) (s : Shared) : Prop where
  ok : X.Ok
  os : s.os = X.s₀.os
  bare : AllBare s.gens
  base : Un X.fs X.ex X.H₀ H X.s₀.heap s.heap
  loc : ∃ m, s.heap.Ns X.env.locals m ∧ ∀ (i : Nat) (x : Str) (v : V), X.N[i]? = some x → σ[i]? = some (some v) → Vis X.env.scope x → ∃ u, RelV v u ∧ Look X.env s.heap m x u
  cell : ∀ x c, X.env.cells.lookup x = some c → ∃ v, s.heap.IsCell c v
  free : H X.env.locals = none
  freeC : ∀ x c, X.env.cells.lookup x = some c → H c = none
  pin : ∀ p ∈ X.pn ++ pins, s.heap.get? p.1 = some p.2 ∧ H p.1 = none ∧ p.1 ≠ X.env.locals ∧ p.1 ∉ X.fs ∧ ∀ v, p.2.data ≠ .cell v
  hok : HOk X.prog X.w H s.heap
  len : σ.length = X.N.length
section
variable {X : Cx} {pins : List (Addr × Obj)} {σ : List (Option V)} {H H' : Hp} {s : Shared} {h' : Heap}
theorem Cx.Ok.nofr (ok : X.Ok) {b : Addr} {o : Obj} (e : X.base.get? b = some o) : b ∉ X.fs := fun hb => by
  have := (ok.funs.mem hb).1
  rw [e] at this; cases this
theorem Inv.bs (I : Inv X pins σ H s) : ∀ b o, X.base.get? b = some o → s.heap.get? b = some o ∧ H b = none := fun b o e =>
  ⟨I.base.keep b o (I.ok.bs b o e).1 (I.ok.bs b o e).2 (I.ok.nofr e) (I.ok.noex b o e), I.base.free b o (I.ok.bs b o e).1 (I.ok.bs b o e).2 (I.ok.noex b o e)⟩
theorem Inv.bk (I : Inv X pins σ H s) : ∀ b o, X.base.get? b = some o → s.heap.get? b = some o := fun b o e => (I.bs b o e).1
theorem Inv.mod (I : Inv X pins σ H s) : Mod X.K X.mg X.base := I.ok.mod
theorem Inv.kIn (I : Inv X pins σ H s) : X.K.In s.heap := I.ok.mod.kin.keeps I.bk
theorem Inv.lt (I : Inv X pins σ H s) : X.env.locals < s.heap.objs.size := let ⟨_, hn, _⟩ := I.loc; hn.lt
theorem Inv.sz (I : Inv X pins σ H s) : X.s₀.heap.objs.size ≤ s.heap.objs.size := Nat.le_trans I.ok.above (Nat.le_of_lt I.lt)
theorem Inv.nofs (I : Inv X pins σ H s) {a : Addr} (h : s.heap.objs.size ≤ a) : a ∉ X.fs := fun hb => by
  obtain ⟨_, o, ho, _⟩ := I.ok.funs.mem hb
  exact absurd (Nat.lt_of_lt_of_le (Heap.lt_size ho) (Nat.le_trans I.sz h)) (Nat.lt_irrefl _)
theorem Inv.cne (I : Inv X pins σ H s) : ∀ x c, X.env.cells.lookup x = some c → c ≠ X.env.locals := fun x c e z => by
  obtain ⟨v, o, ho, hd⟩ := I.cell x c e
  obtain ⟨m, ⟨o', es, ep, ho', hd', _⟩, _⟩ := I.loc
  rw [z, ho'] at ho; cases ho; rw [hd'] at hd; cases hd
theorem Inv.funs (I : Inv X pins σ H s) : s.heap.FunFrames X.base X.outer := by
  have all : ∀ (l : List Env), (∀ b ∈ frs l, b ∈ X.fs) → X.s₀.heap.FunFrames X.base l → s.heap.FunFrames X.base l := by
    intro l
    induction l with
    | nil => intro _ _; trivial
    | cons env r ih =>
      intro hs hl
      obtain ⟨hk, ⟨L, o, hf, hn, ho, hd⟩, hr⟩ := hl
      have hL : L ∈ X.fs := hs L (by unfold frs; rw [List.filterMap_cons, hf]; exact List.mem_cons_self)
      obtain ⟨sl, e⟩ := I.base.slot L o ho (I.ok.frf L hL) hL fun z => I.ok.exfs L z hL
      exact ⟨hk, ⟨L, _, hf, hn, e, hd⟩, ih (fun b hb => hs b (by unfold frs; rw [List.filterMap_cons, hf]; exact List.mem_cons_of_mem _ hb)) hr⟩
  exact all X.outer (fun _ hb => hb) I.ok.funs
theorem Inv.stack (I : Inv X pins σ H s) : s.heap.FunFrames X.base X.stack := by
  rcases I.ok.stk with e | ⟨e, hf⟩
  · rw [e]; exact I.funs
  · rw [e]
    obtain ⟨m, hn, _⟩ := I.loc
    refine .cons (by rw [I.ok.kind]; decide) hf hn ?_ I.funs
    exact Heap.get?_none_of_le (Nat.le_trans I.ok.bsz I.ok.above)
theorem Inv.stkSub (I : Inv X pins σ H s) : ∀ b ∈ frs X.stack, b ∈ X.env.locals :: X.fs := fun b hb => by
  rcases I.ok.stk with e | ⟨e, hf⟩
  · rw [e] at hb; exact List.mem_cons_of_mem _ hb
  · rw [e] at hb
    unfold frs at hb
    rw [List.filterMap_cons, hf] at hb
    exact hb
theorem Inv.stkFree (I : Inv X pins σ H s) : ∀ b ∈ frs X.stack, H b = none := fun b hb => by
  rcases List.mem_cons.mp (I.stkSub b hb) with e | hb
  · rw [e]; exact I.free
  · obtain ⟨_, o, ho, _⟩ := I.ok.funs.mem hb
    exact I.base.free b o ho (I.ok.frf b hb) fun z => I.ok.exfs b z hb
theorem Inv.step {g' : Array GenState} {t' : Nat} {d' : Drawn} {ch : List Addr} (I : Inv X pins σ H s)
    (hch : ∀ b ∈ ch, (b ∈ X.ex ∨ X.s₀.heap.objs.size ≤ b) ∧ b ≠ X.env.locals ∧ (∀ x c, X.env.cells.lookup x = some c → c ≠ b) ∧ ∀ p ∈ X.pn ++ pins, p.1 ≠ b)
    (keep : ∀ b o, b ≠ X.env.locals → b ∉ X.fs → b ∉ ch → s.heap.get? b = some o → H b = none → h'.get? b = some o)
    (slot : ∀ b o, b ≠ X.env.locals → b ∈ X.fs → b ∉ ch → s.heap.get? b = some o → H b = none → ∃ sl, h'.get? b = some { o with slots := sl }) (free : ∀ b o, b ∉ ch → s.heap.get? b = some o → H b = none → H' b = none)
    (there : ∀ b o, b ∉ ch → s.heap.get? b = some o → ∃ o', h'.get? b = some o')
    (tups : ∀ b xs, H b = some (.tup xs) → H' b = some (.tup xs)) (frzs : ∀ b o u, H b = some (.frz o u) → H' b = some (.frz o u)) (tbls : ∀ b ps, H b = some (.tbl ps) → ∃ more, H' b = some (.tbl (ps ++ more)))
    (ns : ∀ m, s.heap.Ns X.env.locals m → h'.Ns X.env.locals m) (hok : HOk X.prog X.w H' h') (hg : AllBare g') :
    Inv X pins σ H' { s with heap := h', gens := g', drawn := d', toks := t' } := by
  have neL : ∀ b o, X.s₀.heap.get? b = some o → b ≠ X.env.locals := fun b o e => Nat.ne_of_lt (Nat.lt_of_lt_of_le (Heap.lt_size e) I.ok.above)
  have neC : ∀ b o, X.s₀.heap.get? b = some o → b ∉ X.ex → b ∉ ch := fun b o e hx hb => by
    rcases (hch b hb).1 with z | z
    · exact hx z
    · exact absurd (Nat.lt_of_lt_of_le (Heap.lt_size e) z) (Nat.lt_irrefl _)
  have cellK : ∀ x c, X.env.cells.lookup x = some c → ∀ v, s.heap.IsCell c v → h'.IsCell c v := fun x c e v ⟨o, ho, hd⟩ => by
    have nch : c ∉ ch := fun z => (hch c z).2.2.1 x c e rfl
    by_cases hc : c ∈ X.fs
    · obtain ⟨sl, q⟩ := slot c o (I.cne x c e) hc nch ho (I.freeC x c e)
      exact ⟨_, q, hd⟩
    · exact ⟨o, keep c o (I.cne x c e) hc nch ho (I.freeC x c e), hd⟩
  refine ⟨I.ok, I.os, hg, ⟨fun b o e n hb hx => ?_, fun b o e n hb hx => ?_, fun b o e n hx => ?_, fun b o e hx => ?_, fun b xs e => tups b xs (I.base.tups b xs e), fun b o xs e => frzs b o xs (I.base.frzs b o xs e), fun b ps e => ?_⟩, ?_, fun x c e => ?_, ?_, fun x c e => ?_, fun p hp => ?_, hok, I.len⟩
  · exact keep b o (neL b o e) hb (neC b o e hx) (I.base.keep b o e n hb hx) (I.base.free b o e n hx)
  · obtain ⟨sl, e1⟩ := I.base.slot b o e n hb hx
    obtain ⟨sl', e2⟩ := slot b _ (neL b o e) hb (neC b o e hx) e1 (I.base.free b o e n hx)
    exact ⟨sl', e2⟩
  · obtain ⟨o', e1⟩ := I.base.there b o e hx
    exact free b o' (neC b o e hx) e1 (I.base.free b o e n hx)
  · obtain ⟨o', e1⟩ := I.base.there b o e hx
    exact there b o' (neC b o e hx) e1
  · obtain ⟨m1, e1⟩ := I.base.tbls b ps e
    obtain ⟨m2, e2⟩ := tbls b _ e1
    exact ⟨m1 ++ m2, by rw [e2, Array.append_assoc]⟩
  · obtain ⟨m, hn, hl⟩ := I.loc
    refine ⟨m, ns m hn, fun i x v e1 e2 e3 => ?_⟩
    obtain ⟨u, r, l⟩ := hl i x v e1 e2 e3
    refine ⟨u, r, ?_⟩
    rcases l with l | ⟨k, c, e, z⟩
    · exact .inl l
    · exact .inr ⟨k, c, e, cellK x c e _ z⟩
  · obtain ⟨v, z⟩ := I.cell x c e
    exact ⟨v, cellK x c e v z⟩
  · obtain ⟨m, ⟨o, _, _, ho, _⟩, _⟩ := I.loc
    exact free _ o (fun z => (hch _ z).2.1 rfl) ho I.free
  · obtain ⟨v, o, ho, hd⟩ := I.cell x c e
    exact free c o (fun z => (hch c z).2.2.1 x c e rfl) ho (I.freeC x c e)
  · obtain ⟨e, n, ne, nf, d⟩ := I.pin p hp
    have nch : p.1 ∉ ch := fun z => (hch p.1 z).2.2.2 p hp rfl
    exact ⟨keep p.1 p.2 ne nf nch e n, free p.1 p.2 nch e n, ne, nf, d⟩
theorem Inv.un {t' : Nat} (I : Inv X pins σ H s) (u : Un X.fs [] H H' s.heap h') (hok : HOk X.prog X.w H' h') : Inv X pins σ H' { s with heap := h', toks := t' } := by
  obtain ⟨m, ⟨o, es, ep, ho, r⟩, _⟩ := id I.loc
  obtain ⟨sl, hL⟩ := u.any ho I.free (by simp)
  exact I.step (g' := s.gens) (d' := s.drawn) (ch := []) (fun _ z => nomatch z) (fun b o _ hb _ e n => u.keep b o e n hb (by simp)) (fun b o _ hb _ e n => u.slot b o e n hb (by simp)) (fun b o _ e n => u.free b o e n (by simp)) (fun b o _ e => u.there b o e (by simp)) u.tups u.frzs u.tbls (fun m' hm => by
    obtain ⟨o', es', ep', ho', r'⟩ := hm
    rw [ho] at ho'; cases ho'
    exact ⟨_, es', ep', hL, r'⟩) hok I.bare
theorem Inv.call {g' : Array GenState} {t' : Nat} {d' : Drawn} {ch : List Addr} (I : Inv X pins σ H s) (u : Un (frs X.stack) ch H H' s.heap h') (hok : HOk X.prog X.w H' h') (hg : AllBare g')
    (hch : ∀ b ∈ ch, (b ∈ X.ex ∨ X.s₀.heap.objs.size ≤ b) ∧ b ≠ X.env.locals ∧ (∀ x c, X.env.cells.lookup x = some c → c ≠ b) ∧ ∀ p ∈ X.pn ++ pins, p.1 ≠ b) :
    Inv X pins σ H' { s with heap := h', gens := g', drawn := d', toks := t' } := by
  obtain ⟨m, ⟨o, es, ep, ho, r⟩, _⟩ := id I.loc
  obtain ⟨sl, hL⟩ := u.any ho I.free fun z => (hch _ z).2.1 rfl
  exact I.step (ch := ch) hch (fun b o hL hb hc e n => u.keep b o e n (fun z => (List.mem_cons.mp (I.stkSub b z)).elim hL hb) hc) (fun b o _ _ hc e n => u.any e n hc) (fun b o hc e n => u.free b o e n hc) (fun b o hc e => u.there b o e hc) u.tups u.frzs u.tbls (fun m' hm => by
    obtain ⟨o', es', ep', ho', r'⟩ := hm
    rw [ho] at ho'; cases ho'
    exact ⟨_, es', ep', hL, r'⟩) hok hg
theorem Inv.turned {t' : Nat} {it : Addr} (I : Inv X pins σ H s) (k : ∀ b o, b ≠ it → s.heap.get? b = some o → h'.get? b = some o) (hn : H it = none) (hL : it ≠ X.env.locals)
    (h1 : it ∈ X.ex ∨ X.s₀.heap.objs.size ≤ it) (h2 : ∀ x c, X.env.cells.lookup x = some c → c ≠ it) (h3 : ∀ p ∈ X.pn ++ pins, p.1 ≠ it) : Inv X pins σ H { s with heap := h', toks := t' } := by
  have nit : ∀ b u, H b = some u → b ≠ it := fun b u e z => by rw [z, hn] at e; cases e
  refine I.step (g' := s.gens) (d' := s.drawn) (ch := [it]) (fun b hb => ?_) (fun b o _ _ hc e _ => k b o (fun z => hc (by simp [z])) e) (fun b o _ _ hc e _ => ⟨o.slots, k b o (fun z => hc (by simp [z])) e⟩) (fun _ _ _ _ n => n)
    (fun b o hc e => ⟨o, k b o (fun z => hc (by simp [z])) e⟩) (fun _ _ e => e) (fun _ _ _ e => e) (fun b ps e => ⟨#[], by rw [e]; simp⟩) (fun m hm => ?_) (fun b u e => ?_) I.bare
  · have e : b = it := by simpa using hb
    subst e
    exact ⟨h1, hL, h2, h3⟩
  · obtain ⟨o, es, ep, ho, r⟩ := hm
    exact ⟨o, es, ep, k _ o (Ne.symm hL) ho, r⟩
  · refine (I.hok b u e).stay (fun c v hc q => k c v ?_ q) (fun _ q => q) fun _ _ q => q
    rcases hc with z | z
    · rw [z]; exact nit b u e
    · exact nit c _ z
theorem Inv.tok (I : Inv X pins σ H s) (t : Nat) : Inv X pins σ H { s with toks := t } := I.un (h' := s.heap) (t' := t) Un.refl I.hok
theorem Inv.kept {t' : Nat} (I : Inv X pins σ H s) (k : ∀ b u, s.heap.get? b = some u → h'.get? b = some u) : Inv X pins σ H { s with heap := h', toks := t' } := I.un (Un.kept k) (I.hok.kept k)
theorem Inv.laid {a : Addr} {o : HO} {t' : Nat} (I : Inv X pins σ H s) (k : ∀ b u, s.heap.get? b = some u → h'.get? b = some u) (hp : s.heap.objs.size ≤ a) (new : ObjOk X.prog X.w (upd H a o) h' a o) :
    Inv X pins σ (upd H a o) { s with heap := h', toks := t' } := I.un (Un.laid k hp (I.hok.fresh hp)) (I.hok.laid k hp new)
theorem Inv.write {x e : Addr} {o : HO} {t' : Nat} (I : Inv X pins σ H s) (mu : Mut (H x)) (he : e = x ∨ H e = some (.own x)) (k : ∀ b u, b ≠ e → s.heap.get? b = some u → h'.get? b = some u) (heo : ∃ u, h'.get? e = some u)
    (new : ObjOk X.prog X.w (upd H x o) h' x o) : Inv X pins σ (upd H x o) { s with heap := h', toks := t' } := I.un (Un.write mu he k heo) (I.hok.write mu he k heo new)
theorem Inv.pins_of {pins' : List (Addr × Obj)} (I : Inv X pins σ H s) (h : ∀ p ∈ pins', s.heap.get? p.1 = some p.2 ∧ H p.1 = none ∧ p.1 ≠ X.env.locals ∧ p.1 ∉ X.fs ∧ ∀ v, p.2.data ≠ .cell v) : Inv X pins' σ H s :=
  ⟨I.ok, I.os, I.bare, I.base, I.loc, I.cell, I.free, I.freeC, fun p hp => (List.mem_append.mp hp).elim (fun z => I.pin p (List.mem_append_left _ z)) (h p), I.hok, I.len⟩
theorem nodup_ix {N : List Str} (hN : N.Nodup) {i j : Nat} {x : Str} (a : N[i]? = some x) (b : N[j]? = some x) : i = j := by
  obtain ⟨h1, e1⟩ := List.getElem?_eq_some_iff.mp a
  obtain ⟨h2, e2⟩ := List.getElem?_eq_some_iff.mp b
  exact (List.getElem_inj hN).mp (e1.trans e2.symm)
theorem store_ok2 {M : Model} {A : Around} {E : Value → Shared → Prop} {i : Nat} {x : Str} {v : V} {u : Value} {Q : Unit → Shared → Prop} (I : Inv X pins σ H s) (hN : X.N.Nodup) (hi : X.N[i]? = some x) (hx : Loc X.env.scope x) (r : RelV v u)
    (h : ∀ s', Inv X pins (σ.set i (some v)) H s' → (∃ a, Heap.SameBut a s.heap s'.heap ∧ (a = X.env.locals ∨ X.env.cells.lookup x = some a)) → Q () s') (hf : X.fn x = true ∨ X.env.scope.names.lookup x = some .local := by trivial) : wpAny M A (storeName X.env x u) Q E s := by
  obtain ⟨m, hn, hl⟩ := id I.loc
  have hcls : (X.env.scope.kind == .class || (X.env.scope.kind == .module && X.env.locals != X.env.globals)) = false := by rw [I.ok.kind]; rfl
  have hiσ : i < σ.length := by rw [I.len]; exact (List.getElem?_eq_some_iff.mp hi).1
  have cne := I.cne
  have tracked : ∀ {a : Addr} {h' : Heap}, (∃ o, s.heap.get? a = some o ∧ H a = none) → Heap.SameBut a s.heap h' → HOk X.prog X.w H h' := fun {a h'} ha hs b ob e => by
    obtain ⟨_, _, hfree⟩ := ha
    refine (I.hok b ob e).stay (fun c w' hc q => (hs.2 c ?_).trans q) (fun _ q => q) fun _ _ q => q
    rintro rfl
    rcases hc with rfl | hc
    · rw [hfree] at e; cases e
    · rw [hfree] at hc; cases hc
  rcases hx with hk | hk
  · refine wpAny_storeName_local hk hn (fun h' hn' hs => ?_) hcls
    obtain ⟨oL, _, _, hoL, _⟩ := id hn
    refine h _ ⟨I.ok, I.os, I.bare, ⟨fun b o e n hb hx => ?_, fun b o e n hb hx => ?_, I.base.free, fun b o e hx => ?_, I.base.tups, I.base.frzs, I.base.tbls⟩, ⟨_, hn', fun j y v' e1 e2 e3 => ?_⟩, fun y c e => ?_, I.free, I.freeC, fun p hp => ?_, tracked ⟨oL, hoL, I.free⟩ hs, by simpa using I.len⟩ ⟨_, hs, .inl rfl⟩
    · exact (hs.2 b (Nat.ne_of_lt (Nat.lt_of_lt_of_le (Heap.lt_size e) I.ok.above))).trans (I.base.keep b o e n hb hx)
    · obtain ⟨sl, e1⟩ := I.base.slot b o e n hb hx
      exact ⟨sl, (hs.2 b (Nat.ne_of_lt (Nat.lt_of_lt_of_le (Heap.lt_size e) I.ok.above))).trans e1⟩
    · obtain ⟨o', e1⟩ := I.base.there b o e hx
      exact ⟨o', (hs.2 b (Nat.ne_of_lt (Nat.lt_of_lt_of_le (Heap.lt_size e) I.ok.above))).trans e1⟩
    · by_cases hj : j = i
      · subst hj
        rw [hi] at e1; cases e1
        rw [List.getElem?_set_self hiσ] at e2
        cases e2
        exact ⟨u, r, .inl ⟨hk, by simp⟩⟩
      · rw [List.getElem?_set_ne (Ne.symm hj)] at e2
        obtain ⟨u', r', q⟩ := hl j y v' e1 e2 e3
        refine ⟨u', r', ?_⟩
        rcases q with ⟨k, e⟩ | ⟨k, c, e, z⟩
        · refine .inl ⟨k, ?_⟩
          have : y ≠ x := fun e => hj (nodup_ix hN e1 (e ▸ hi))
          simp [this, e]
        · exact .inr ⟨k, c, e, z.sameBut hs (cne y c e)⟩
    · obtain ⟨w', z⟩ := I.cell y c e
      exact ⟨w', z.sameBut hs (cne y c e)⟩
    · obtain ⟨e, n, ne, nf, d⟩ := I.pin p hp
      exact ⟨(hs.2 p.1 ne).trans e, n, ne, nf, d⟩
  · have hfn : X.fn x = true := by
      rcases hf with z | z
      · exact z
      · rw [z] at hk; cases hk
    obtain ⟨c, hc⟩ := I.ok.has x (.inl hk)
    obtain ⟨w', z⟩ := I.cell x c hc
    refine wpAny_storeName_cell I.ok.kind hk hc z (fun h' hc' hs => ?_)
    obtain ⟨oc, hoc, hocd⟩ := id z
    refine h { s with heap := h' } ⟨I.ok, I.os, I.bare, ⟨fun b o e n hb hx => ?_, fun b o e n hb hx => ?_, I.base.free, fun b o e hx => ?_, I.base.tups, I.base.frzs, I.base.tbls⟩, ⟨m, hn.sameBut hs (Ne.symm (cne x c hc)), fun j y v' e1 e2 e3 => ?_⟩, fun y c' e => ?_, I.free, I.freeC, fun p hp => ?_, tracked ⟨oc, hoc, I.freeC x c hc⟩ hs, by simpa using I.len⟩ ⟨c, hs, .inr hc⟩
    · exact (hs.2 b (Nat.ne_of_lt (Nat.lt_of_lt_of_le (Heap.lt_size e) (I.ok.cab x c hfn hc)))).trans (I.base.keep b o e n hb hx)
    · obtain ⟨sl, e1⟩ := I.base.slot b o e n hb hx
      exact ⟨sl, (hs.2 b (Nat.ne_of_lt (Nat.lt_of_lt_of_le (Heap.lt_size e) (I.ok.cab x c hfn hc)))).trans e1⟩
    · obtain ⟨o', e1⟩ := I.base.there b o e hx
      exact ⟨o', (hs.2 b (Nat.ne_of_lt (Nat.lt_of_lt_of_le (Heap.lt_size e) (I.ok.cab x c hfn hc)))).trans e1⟩
    · by_cases hj : j = i
      · subst hj
        rw [hi] at e1; cases e1
        rw [List.getElem?_set_self hiσ] at e2
        cases e2
        exact ⟨u, r, .inr ⟨.inl hk, c, hc, hc'⟩⟩
      · rw [List.getElem?_set_ne (Ne.symm hj)] at e2
        obtain ⟨u', r', q⟩ := hl j y v' e1 e2 e3
        refine ⟨u', r', ?_⟩
        rcases q with q | ⟨k, c', e, z'⟩
        · exact .inl q
        · refine .inr ⟨k, c', e, z'.sameBut hs ?_⟩
          rintro rfl
          exact hj (nodup_ix hN e1 (I.ok.inj _ _ _ e hc ▸ hi))
    · by_cases hcc : c' = c
      · subst hcc; exact ⟨_, hc'⟩
      · obtain ⟨w2, z2⟩ := I.cell y c' e
        exact ⟨w2, z2.sameBut hs hcc⟩
    · obtain ⟨e, n, ne, nf, d⟩ := I.pin p hp
      refine ⟨(hs.2 p.1 ?_).trans e, n, ne, nf, d⟩
      intro q
      rw [q, hoc] at e
      have q' : oc = p.2 := Option.some.inj e
      exact d w' (by rw [← q']; exact hocd)
theorem store_ok {M : Model} {A : Around} {E : Value → Shared → Prop} {i : Nat} {x : Str} {v : V} {u : Value} {Q : Unit → Shared → Prop} (I : Inv X pins σ H s) (hN : X.N.Nodup) (hi : X.N[i]? = some x) (hx : Loc X.env.scope x) (r : RelV v u)
    (h : ∀ s', Inv X pins (σ.set i (some v)) H s' → Q () s') (hf : X.fn x = true ∨ X.env.scope.names.lookup x = some .local := by trivial) : wpAny M A (storeName X.env x u) Q E s :=
  store_ok2 I hN hi hx r (fun s' I' _ => h s' I') hf
end
noncomputable abbrev XK := Value → Option Addr → Hp → Prop
noncomputable abbrev St := List (Option V)
noncomputable abbrev VK := V → Hp → Prop
noncomputable abbrev TE := St → Hp → VK → Prop
noncomputable abbrev TT := St → Hp → (Bool → Hp → Prop) → Prop
noncomputable abbrev TA := St → Hp → (List V → Hp → Prop) → Prop
structure Ends where
  nx : St → Hp → Prop
  rt : VK
  bk : St → Hp → Prop := fun _ _ => False
  ct : St → Hp → Prop := fun _ _ => False
noncomputable abbrev TS := Ends → St → Hp → Prop
noncomputable def EP (X : Cx) (pins : List (Addr × Obj)) (σ : St) (Q : VK) (u : Value) (s' : Shared) : Prop := ∃ v H', Inv X pins σ H' s' ∧ RelV v u ∧ Q v H'
noncomputable def TP (X : Cx) (pins : List (Addr × Obj)) (σ : St) (Q : Bool → Hp → Prop) (b : Bool) (s' : Shared) : Prop := ∃ H', Inv X pins σ H' s' ∧ Q b H'
noncomputable def AP (X : Cx) (pins : List (Addr × Obj)) (σ : St) (Q : List V → Hp → Prop) (us : List Value) (s' : Shared) : Prop := ∃ vs H', Inv X pins σ H' s' ∧ Vals vs us ∧ Q vs H'
noncomputable def SP (X : Cx) (pins : List (Addr × Obj)) (D : Ends) (f : Flow) (s' : Shared) : Prop :=
  match f with
  | .next => ∃ σ' H', Inv X pins σ' H' s' ∧ D.nx σ' H'
  | .brk => ∃ σ' H', Inv X pins σ' H' s' ∧ D.bk σ' H'
  | .cont => ∃ σ' H', Inv X pins σ' H' s' ∧ D.ct σ' H'
  | .ret u => ∃ v σ' H', Inv X pins σ' H' s' ∧ RelV v u ∧ D.rt v H'
noncomputable def PE (X : Cx) (e : Expr) (t : TE) : Prop :=
  ∀ (pins : List (Addr × Obj)) (s : Shared) (σ : St) (H : Hp) (Q : VK), Inv X pins σ H s → t σ H Q → wpAny (model X.prog X.w) X.A (eval e X.env) (EP X pins σ Q) X.xe s
noncomputable def PT (X : Cx) (e : Expr) (t : TT) : Prop :=
  ∀ (pins : List (Addr × Obj)) (s : Shared) (σ : St) (H : Hp) (Q : Bool → Hp → Prop), Inv X pins σ H s → t σ H Q → wpAny (model X.prog X.w) X.A (isTrue e X.env (eval e X.env)) (TP X pins σ Q) X.xe s
noncomputable def PW (X : Cx) (e : Expr) (t : TT) : Prop :=
  ∀ (whole : Sem Value) (pins : List (Addr × Obj)) (s : Shared) (σ : St) (H : Hp) (Q : Bool → Hp → Prop), Inv X pins σ H s → t σ H Q → wpAny (model X.prog X.w) X.A (isTrue e X.env whole) (TP X pins σ Q) X.xe s
theorem PW.pt {X : Cx} {e : Expr} {t : TT} (h : PW X e t) : PT X e t := h _
noncomputable def PA (X : Cx) (es : List Expr) (t : TA) : Prop :=
  ∀ (pos : Pos) (pins : List (Addr × Obj)) (s : Shared) (σ : St) (H : Hp) (Q : List V → Hp → Prop), Inv X pins σ H s → t σ H Q → wpAny (model X.prog X.w) X.A (spliced (backTo pos (starEach es X.env))) (AP X pins σ Q) X.xe s
noncomputable def PS (X : Cx) (st : Stmt) (t : TS) : Prop :=
  ∀ (pins : List (Addr × Obj)) (s : Shared) (σ : St) (H : Hp) (D : Ends), Inv X pins σ H s → t D σ H → wpAny (model X.prog X.w) X.A (exec st X.env) (SP X pins D) X.xe s
noncomputable def PSs (X : Cx) (st : List Stmt) (t : TS) : Prop :=
  ∀ (pins : List (Addr × Obj)) (s : Shared) (σ : St) (H : Hp) (D : Ends), Inv X pins σ H s → t D σ H → wpAny (model X.prog X.w) X.A (execs st X.env) (SP X pins D) X.xe s
theorem thn {α : Type} {t : Sem α} {Q Q' : α → Shared → Prop} {M : Model} {A : Around} {E : Value → Shared → Prop} {s : Shared} (h : wpAny M A t Q E s) (hQ : ∀ a s, Q a s → Q' a s) : wpAny M A t Q' E s := wpAny_mono h hQ fun _ _ x => x
end L2
namespace L2
open PySem PySem.Spec PyProof.Rows
section
variable {X : Cx}
theorem bin {a b : Expr} {ta tb : TE} (ha : PE X a ta) (hb : PE X b tb) {pins : List (Addr × Obj)} {s : Shared} {σ : St} {H : Hp} {R : V → V → Hp → Prop} (I : Inv X pins σ H s) (h : ta σ H fun x H1 => tb σ H1 fun y H2 => R x y H2)
    {α : Type} {Q : α → Shared → Prop} {f : Value → Value → Sem α}
    (hf : ∀ v u s2 x y H2, Inv X pins σ H2 s2 → RelV x v → RelV y u → R x y H2 → wpAny (model X.prog X.w) X.A (f v u) Q X.xe s2) :
    wpAny (model X.prog X.w) X.A (eval a X.env) (fun v s₁ => wpAny (model X.prog X.w) X.A (eval b X.env) (fun u s₂ => wpAny (model X.prog X.w) X.A (f v u) Q X.xe s₂) X.xe s₁) X.xe s := by
  refine thn (ha pins s σ H _ I h) fun v s1 ⟨x, H1, I1, r1, q1⟩ => ?_
  refine thn (hb pins s1 σ H1 _ I1 q1) fun u s2 ⟨y, H2, I2, r2, q2⟩ => ?_
  exact hf v u s2 x y H2 I2 r1 r2 q2
noncomputable def tVar (i : Nat) : TE := fun σ H Q => ∃ v, σ[i]? = some (some v) ∧ Q v H
noncomputable def tC (v : V) : TE := fun _ H Q => Q v H
theorem pe_var {i : Nat} {x : Str} {pos : Pos} (hN : X.N[i]? = some x) (hv : Vis X.env.scope x) (hd : (x == ("__debug__" : Str)) = false := by decide) (hcd : (x == ("__classdict__" : Str)) = false := by decide) : PE X (.Name x pos) (tVar i) := by
  intro pins s σ H Q I h
  obtain ⟨v, e, h⟩ := h
  obtain ⟨m, hn, hl⟩ := I.loc
  obtain ⟨u, r, l⟩ := hl i x v hN e hv
  have fin : EP X pins σ Q u s := ⟨v, H, I, r, h⟩
  rcases l with ⟨hk, hm⟩ | ⟨hk, c, hc, hcell⟩
  · exact wpAny_Name (wpAny_loadName_local I.ok.kind hk hn hm fin) hd
  · rcases hk with hk | hk
    · exact wpAny_Name (wpAny_loadName_cell I.ok.kind hk hc hcell fin) hd
    · exact wpAny_Name (wpAny_loadName_free I.ok.kind hk hc hcell fin hcd) hd
theorem pe_int {i j pos} : PE X (.Constant (.int i) j pos) (tC (.int i)) := fun _ _ _ H _ I h => wpAny_Constant_int ⟨.int i, H, I.tok _, ⟨_, rfl⟩, h⟩
theorem pe_bl {b j pos} : PE X (.Constant (.bool b) j pos) (tC (.bl b)) := fun _ _ _ H _ I h => Constant_bool ⟨.bl b, H, I, rfl, h⟩
theorem pe_non {j pos} : PE X (.Constant .none j pos) (tC .non) := fun _ _ _ H _ I h => Constant_none ⟨.non, H, I, rfl, h⟩
theorem pe_str {x j pos} : PE X (.Constant (.str x) j pos) (tC (.str x)) := fun _ _ _ H _ I h => Calls.Constant_str ⟨.str x, H, I.tok _, ⟨_, rfl⟩, h⟩
noncomputable def Gl (X : Cx) (x : Str) : Prop := X.env.kindOf x = some .globalImplicit
theorem ld_glob {E : Value → Shared → Prop} {pins : List (Addr × Obj)} {s : Shared} {σ : St} {H : Hp} {x : Str} {u : Value} {pos : Pos} {Q : Value → Shared → Prop} (I : Inv X pins σ H s) (hg : Gl X x) (hm : X.mg x = some u) (h : Q u s)
    (hd : (x == ("__debug__" : Str)) = false := by decide) : wpAny (model X.prog X.w) X.A (eval (.Name x pos) X.env) Q E s :=
  Calls.Name_function_global I.ok.kind hg (Calls.loadGlobal_global (by rw [I.ok.glob]; exact I.mod.glob.keeps I.bk) hm h) hd
theorem ld_blt {E : Value → Shared → Prop} {pins : List (Addr × Obj)} {s : Shared} {σ : St} {H : Hp} {x : Str} {u : Value} {pos : Pos} {Q : Value → Shared → Prop} (I : Inv X pins σ H s) (hg : Gl X x) (hm : X.mg x = none) (hv : bootBuiltins x = some u) (h : Q u s)
    (hn : x ≠ "__name__" := by decide) (hd : (x == ("__debug__" : Str)) = false := by decide) : wpAny (model X.prog X.w) X.A (eval (.Name x pos) X.env) Q E s := by
  obtain ⟨mb, h1, h2⟩ := I.mod.blt
  exact Calls.Name_function_global I.ok.kind hg (Calls.loadGlobal_builtin (by rw [I.ok.glob]; exact I.mod.glob.keeps I.bk) hm (by rw [I.ok.blt]; exact h1.keeps I.bk) ((h2 x hn).trans hv) h) hd
theorem pe_bltn {x : Str} {v : V} {u : Value} {pos : Pos} (hg : Gl X x) (hm : X.mg x = none) (hv : bootBuiltins x = some u) (r : RelV v u) (hn : x ≠ "__name__" := by decide) (hd : (x == ("__debug__" : Str)) = false := by decide) : PE X (.Name x pos) (tC v) :=
  fun _ _ _ H _ I h => ld_blt I hg hm hv ⟨v, H, I, r, h⟩ hn hd
variable {a b : Expr} {ta tb : TE} {pos : Pos}
variable {tA tB' : TT} {rest : List Expr}
noncomputable def tAnd (t u : TT) : TT := fun σ H Q => t σ H fun c H1 => if c = true then u σ H1 Q else Q false H1
noncomputable def tOr (t u : TT) : TT := fun σ H Q => t σ H fun c H1 => if c = true then Q true H1 else u σ H1 Q
noncomputable def tNot (t : TT) : TT := fun σ H Q => t σ H fun c H1 => Q (!c) H1
theorem pw_and1 (ha : PT X a tA) : PW X (.BoolOp .And [a] pos) tA := by
  intro wh pins s σ H Q I h
  refine isTrue_and (thn (ha pins s σ H Q I h) fun c s1 e => ?_)
  cases c with
  | true => exact isTrue_and_nil e
  | false => exact e
theorem pw_or1 (ha : PT X a tA) : PW X (.BoolOp .Or [a] pos) tA := by
  intro wh pins s σ H Q I h
  refine isTrue_or (thn (ha pins s σ H Q I h) fun c s1 e => ?_)
  cases c with
  | false => exact isTrue_or_nil e
  | true => exact e
theorem pw_and (ha : PT X a tA) (hb : PW X (.BoolOp .And (b :: rest) pos) tB') : PW X (.BoolOp .And (a :: b :: rest) pos) (tAnd tA tB') := by
  intro wh pins s σ H Q I h
  refine isTrue_and (thn (ha pins s σ H _ I h) fun c s1 ⟨H1, I1, q1⟩ => ?_)
  cases c with
  | true => exact hb wh pins s1 σ H1 Q I1 q1
  | false => exact ⟨H1, I1, q1⟩
theorem pw_or (ha : PT X a tA) (hb : PW X (.BoolOp .Or (b :: rest) pos) tB') : PW X (.BoolOp .Or (a :: b :: rest) pos) (tOr tA tB') := by
  intro wh pins s σ H Q I h
  refine isTrue_or (thn (ha pins s σ H _ I h) fun c s1 ⟨H1, I1, q1⟩ => ?_)
  cases c with
  | true => exact ⟨H1, I1, q1⟩
  | false => exact hb wh pins s1 σ H1 Q I1 q1
theorem pt_not (ha : PT X a tA) : PT X (.UnaryOp .Not a pos) (tNot tA) := by
  intro pins s σ H Q I h
  exact isTrue_not (ha pins s σ H (fun c H1 => Q (!c) H1) I h)
noncomputable def tAndV (ta tb : TE) : TE := fun σ H Q => ta σ H fun x H1 => ∃ c, x = .bl c ∧ if c = true then tb σ H1 Q else Q (.bl false) H1
noncomputable def tNotV (ta : TE) : TE := fun σ H Q => ta σ H fun x H1 => ∃ c, x = .bl c ∧ Q (.bl (!c)) H1
theorem pe_one {op} {t : TE} (h : PE X a t) : PE X (.BoolOp op [a] pos) t := fun pins s σ H Q I hw => BoolOp_one (h pins s σ H Q I hw)
theorem pe_and (ha : PE X a ta) (hb : PE X (.BoolOp .And (b :: rest) pos) tb) : PE X (.BoolOp .And (a :: b :: rest) pos) (tAndV ta tb) := by
  intro pins s σ H Q I h
  refine BoolOp_and (thn (ha pins s σ H _ I h) fun v s1 ⟨x, H1, I1, r1, q1⟩ => ?_)
  obtain ⟨c, rfl, q1⟩ := q1
  cases r1
  refine wpAny_truthy_bool ?_
  cases c with
  | true => exact hb pins s1 σ H1 Q I1 q1
  | false => exact ⟨.bl false, H1, I1, rfl, q1⟩
theorem pe_not (ha : PE X a ta) : PE X (.UnaryOp .Not a pos) (tNotV ta) := by
  intro pins s σ H Q I h
  refine UnaryOp_ (thn (ha pins s σ H _ I h) fun v s1 ⟨x, H1, I1, r1, q1⟩ => ?_)
  obtain ⟨c, rfl, q1⟩ := q1
  cases r1
  exact not_of (wpAny_truthy_bool ⟨.bl (!c), H1, I1, rfl, q1⟩)
end
end L2
namespace L2
open PySem PySem.Spec PyProof.Rows
noncomputable def SqL (K : PySem.W.Frag) (H : Hp) (a : Addr) (xs : List V) : Prop :=
  Rd H a (.lst xs) ∨
    ∃ (o : Obj) (its : Array Value) (n : Nat), K.lookup a = some o ∧ o.cls = .type "list" ∧ o.dict = none ∧ o.data = .seq its n ∧ its.size ≤ sizeLine ∧ Vals xs its.toList
noncomputable def SqT (K : PySem.W.Frag) (H : Hp) (a : Addr) (xs : List V) : Prop :=
  Rd H a (.tup xs) ∨
    ∃ (o : Obj) (its : Array Value) (n : Nat), K.lookup a = some o ∧ o.cls = .type "tuple" ∧ o.data = .seq its n ∧ its.size ≤ sizeLine ∧ Vals xs its.toList
noncomputable def absV : Value → Option V
  | .none => some .non
  | .bool b => some (.bl b)
  | .int i _ => some (.int i)
  | .str x _ => some (.str x)
  | .bytes b _ => some (.byt b)
  | .float b _ => some (.flt b)
  | .ref a => some (.ref a)
  | .type n => some (.ty n)
  | _ => none
theorem RelV.abs {x : V} {u : Value} (r : RelV x u) : absV u = some x := by
  cases x with
  | non => cases r; rfl
  | bl _ => cases r; rfl
  | int _ => obtain ⟨t, rfl⟩ := r; rfl
  | str _ => obtain ⟨t, rfl⟩ := r; rfl
  | byt _ => obtain ⟨t, rfl⟩ := r; rfl
  | flt _ => obtain ⟨t, rfl⟩ := r; rfl
  | ref _ => cases r; rfl
  | ty _ => cases r; rfl
theorem RelV.inj {x y : V} {u : Value} (r : RelV x u) (q : RelV y u) : x = y := Option.some.inj (r.abs.symm.trans q.abs)
theorem Vals.inj : ∀ {xs ys : List V} {us : List Value}, Vals xs us → Vals ys us → xs = ys
  | _, _, _, .nil, .nil => rfl
  | _, _, _, .cons r t, .cons r' t' => by rw [r.inj r', Vals.inj t t']
section
variable {X : Cx} {pins : List (Addr × Obj)} {σ : St} {H : Hp} {s : Shared} {a : Addr} {xs ys : List V}
theorem SqL.of {K : PySem.W.Frag} (h : H a = some (.lst xs)) : SqL K H a xs := .inl (.inl h)
theorem Inv.list (I : Inv X pins σ H s) (h : SqL X.K H a xs) : ∃ its : List Value, Vals xs its ∧ PlainL s.heap a its.toArray ∧ xs.length ≤ sizeLine := by
  rcases h with h | ⟨o, its, n, hk, hc, hd, hs, hz, r⟩
  · obtain ⟨z, its, n, r, e⟩ := h.ok I.hok
    exact ⟨its, r, ⟨_, n, e, rfl, rfl, rfl⟩, z⟩
  · refine ⟨its.toList, r, ⟨o, n, I.kIn a o hk, hc, hd, by simpa using hs⟩, ?_⟩
    have e := r.length
    simp only [Array.length_toList] at e
    omega
theorem Inv.tuple (I : Inv X pins σ H s) (h : SqT X.K H a xs) : ∃ its : List Value, Vals xs its ∧ IsTup s.heap a its.toArray ∧ xs.length ≤ sizeLine := by
  rcases h with h | ⟨o, its, n, hk, hc, hs, hz, r⟩
  · obtain ⟨z, its, r, p⟩ := h.ok I.hok
    exact ⟨its, r, p, z⟩
  · refine ⟨its.toList, r, ⟨o, I.kIn a o hk, hc, n, by simpa using hs⟩, ?_⟩
    have e := r.length
    simp only [Array.length_toList] at e
    omega
theorem Inv.list_inj (I : Inv X pins σ H s) (h : SqL X.K H a xs) (h' : SqL X.K H a ys) : xs = ys := by
  obtain ⟨its, r, ⟨o, n, e, _, _, d⟩, _⟩ := I.list h
  obtain ⟨its', r', ⟨o', n', e', _, _, d'⟩, _⟩ := I.list h'
  rw [e] at e'; cases e'
  rw [d] at d'
  injection d' with d1 _
  have : its = its' := by simpa using congrArg Array.toList d1
  subst this
  exact r.inj r'
theorem Inv.tuple_inj (I : Inv X pins σ H s) (h : SqT X.K H a xs) (h' : SqT X.K H a ys) : xs = ys := by
  obtain ⟨its, r, ⟨o, e, _, n, d⟩, _⟩ := I.tuple h
  obtain ⟨its', r', ⟨o', e', _, n', d'⟩, _⟩ := I.tuple h'
  rw [e] at e'; cases e'
  rw [d] at d'
  injection d' with d1 _
  have : its = its' := by simpa using congrArg Array.toList d1
  subst this
  exact r.inj r'
end
noncomputable abbrev Cx.wish (X : Cx) (E : Value → Shared → Prop) : Cx := { X with xe := E }
noncomputable abbrev Cx.nox (X : Cx) : Cx := X.wish fun _ _ => False
theorem Cx.Ok.wish {X : Cx} (ok : X.Ok) (E : Value → Shared → Prop) : (X.wish E).Ok :=
  ⟨ok.mod, ok.kind, ok.glob, ok.blt, ok.above, ok.inj, ok.has, ok.cab, ok.hd, ok.frames, ok.stk, ok.exf, ok.bs, ok.bsz, ok.noex, ok.exfs, ok.funs, ok.frf⟩
theorem Cx.Ok.unwish {X : Cx} {E : Value → Shared → Prop} (ok : (X.wish E).Ok) : X.Ok :=
  ⟨ok.mod, ok.kind, ok.glob, ok.blt, ok.above, ok.inj, ok.has, ok.cab, ok.hd, ok.frames, ok.stk, ok.exf, ok.bs, ok.bsz, ok.noex, ok.exfs, ok.funs, ok.frf⟩
section
variable {X : Cx} {pins : List (Addr × Obj)} {σ : St} {H : Hp} {s : Shared} {E : Value → Shared → Prop}
theorem Inv.wish (I : Inv X pins σ H s) (E : Value → Shared → Prop) : Inv (X.wish E) pins σ H s := ⟨I.ok.wish E, I.os, I.bare, I.base, I.loc, I.cell, I.free, I.freeC, I.pin, I.hok, I.len⟩
theorem Inv.unwish (I : Inv (X.wish E) pins σ H s) : Inv X pins σ H s := ⟨I.ok.unwish, I.os, I.bare, I.base, I.loc, I.cell, I.free, I.freeC, I.pin, I.hok, I.len⟩
theorem SP.unwish {D : Ends} {f : Flow} {s' : Shared} (h : SP (X.wish E) pins D f s') : SP X pins D f s' := by
  cases f with
  | next => obtain ⟨σ', H', I, q⟩ := h; exact ⟨σ', H', I.unwish, q⟩
  | brk => obtain ⟨σ', H', I, q⟩ := h; exact ⟨σ', H', I.unwish, q⟩
  | cont => obtain ⟨σ', H', I, q⟩ := h; exact ⟨σ', H', I.unwish, q⟩
  | ret u => obtain ⟨v, σ', H', I, r, q⟩ := h; exact ⟨v, σ', H', I.unwish, r, q⟩
theorem PSs.nox {st : List Stmt} {t : TS} (h : PSs X.nox st t) : PSs X st t := fun pins s σ H D I hw =>
  wpAny_mono (h pins s σ H D (I.wish _) hw) (fun _ _ q => q.unwish) fun _ _ z => False.elim z
end
section
variable {X : Cx} {st : Stmt} {rest : List Stmt} {t u : TS} {e : Expr} {te : TE} {pos : Pos}
noncomputable def tNext : TS := fun D σ H => D.nx σ H
noncomputable def tSeq (t u : TS) : TS := fun D σ H => t { D with nx := u D } σ H
theorem pss_nil : PSs X [] tNext := fun _ _ σ H _ I h => wpAny_execs_nil ⟨σ, H, I, h⟩
theorem pss_cons (h1 : PS X st t) (h2 : PSs X rest u) : PSs X (st :: rest) (tSeq t u) := by
  intro pins s σ H D I h
  refine wpAny_execs_cons (thn (h1 pins s σ H { D with nx := u D } I h) fun f s1 q => ?_)
  cases f with
  | next =>
    obtain ⟨σ', H', I', q⟩ := q
    exact h2 pins s1 σ' H' D I' q
  | ret v => exact q
  | brk => exact q
  | cont => exact q
theorem pss_one (h1 : PS X st t) : PSs X [st] t := by
  intro pins s σ H D I h
  refine wpAny_execs_cons (thn (h1 pins s σ H D I h) fun f s1 q => ?_)
  cases f with
  | next => exact wpAny_execs_nil q
  | ret v => exact q
  | brk => exact q
  | cont => exact q
theorem Inv.quiet {pins : List (Addr × Obj)} {σ : St} {H : Hp} {s : Shared} (I : Inv X pins σ H s) : interactive X.env = false := by simp [interactive, I.ok.kind]
noncomputable def tDrop (te : TE) : TS := fun D σ H => te σ H fun _ H1 => D.nx σ H1
theorem ps_expr (he : PE X e te) (hs : swapsWith e none pos.line X.env = pure false := by rfl) : PS X (.Expr e pos) (tDrop te) := by
  intro pins s σ H D I h
  exact wpAny_Expr_any (thn (he pins s σ H _ I h) fun v s1 ⟨x, H1, I1, r1, q1⟩ => ⟨σ, H1, I1, q1⟩) I.quiet hs
noncomputable def tRet (te : TE) : TS := fun D σ H => te σ H D.rt
theorem ps_ret (he : PE X e te) : PS X (.Return (some e) pos) (tRet te) := by
  intro pins s σ H D I h
  exact wpAny_Return_some (thn (he pins s σ H _ I h) fun v s1 ⟨x, H1, I1, r1, q1⟩ => ⟨x, σ, H1, I1, r1, q1⟩)
noncomputable def tIfS (c : TT) (t u : TS) : TS := fun D σ H => c σ H fun b H1 => if b = true then t D σ H1 else u D σ H1
theorem ps_if {c : Expr} {a b : List Stmt} {tc : TT} (hc : PT X c tc) (ha : PSs X a t) (hb : PSs X b u) : PS X (.If c a b pos) (tIfS tc t u) := by
  intro pins s σ H D I h
  refine wpAny_If (thn (hc pins s σ H _ I h) fun d s1 ⟨H1, I1, q1⟩ => ?_)
  cases d with
  | true => exact ha pins s1 σ H1 D I1 q1
  | false => exact hb pins s1 σ H1 D I1 q1
end
noncomputable abbrev TG := V → St → Hp → (St → Hp → Prop) → Prop
noncomputable abbrev TGs := List V → St → Hp → (St → Hp → Prop) → Prop
noncomputable def PG (X : Cx) (target : Expr) (t : TG) : Prop :=
  ∀ (pins : List (Addr × Obj)) (s : Shared) (σ : St) (H : Hp) (v : V) (u : Value) (Q : St → Hp → Prop), Inv X pins σ H s → RelV v u → t v σ H Q →
    wpAny (model X.prog X.w) X.A (assign target X.env u) (fun _ s' => ∃ σ' H', Inv X pins σ' H' s' ∧ Q σ' H') X.xe s
noncomputable def PGs (X : Cx) (ts : List Expr) (t : TGs) : Prop :=
  ∀ (pins : List (Addr × Obj)) (s : Shared) (σ : St) (H : Hp) (vs : List V) (us : List Value) (Q : St → Hp → Prop), Inv X pins σ H s → Vals vs us → t vs σ H Q →
    wpAny (model X.prog X.w) X.A (assignInOrder ((assignEach ts X.env).map (·.2)) us) (fun _ s' => ∃ σ' H', Inv X pins σ' H' s' ∧ Q σ' H') X.xe s
noncomputable abbrev TSet := V → V → V → Hp → (Hp → Prop) → Prop
noncomputable def PSet (X : Cx) (t : TSet) : Prop :=
  ∀ (pins : List (Addr × Obj)) (s : Shared) (σ : St) (H : Hp) (o i v : V) (ov iv u : Value) (Q : Hp → Prop), Inv X pins σ H s → RelV o ov → RelV i iv → RelV v u → t o i v H Q →
    wpAny (model X.prog X.w) X.A (setItem ov iv u) (fun _ s' => ∃ H', Inv X pins σ H' s' ∧ Q H') X.xe s
section
variable {X : Cx} {pos : Pos}
noncomputable def gName (i : Nat) : TG := fun v σ H Q => Q (σ.set i (some v)) H
theorem pg_name {i : Nat} {x : Str} (hN : X.N.Nodup) (hi : X.N[i]? = some x) (hx : Loc X.env.scope x) (hf : X.fn x = true ∨ X.env.scope.names.lookup x = some .local := by trivial) : PG X (.Name x pos) (gName i) := by
  intro pins s σ H v u Q I r h
  exact wpAny_assign_Name (store_ok I hN hi hx r (fun s' I' => ⟨_, H, I', h⟩) hf)
noncomputable def gNil : TGs := fun vs σ H Q => vs = [] ∧ Q σ H
noncomputable def gCons (t : TG) (u : TGs) : TGs := fun vs σ H Q => ∃ v r, vs = v :: r ∧ t v σ H fun σ' H' => u r σ' H' Q
theorem pgs_nil : PGs X [] gNil := by
  intro pins s σ H vs us Q I r h
  obtain ⟨e, h⟩ := h
  subst e
  cases r
  exact assignInOrder_nil ⟨σ, H, I, h⟩
theorem pgs_cons {e : Expr} {es : List Expr} {t : TG} {u : TGs} (h1 : PG X e t) (h2 : PGs X es u)
    (hs : (assignEach (e :: es) X.env).map (·.2) = assign e X.env :: (assignEach es X.env).map (·.2) := by rfl) : PGs X (e :: es) (gCons t u) := by
  intro pins s σ H vs us Q I r h
  obtain ⟨v, vr, e1, h⟩ := h
  subst e1
  cases r with
  | cons r rr =>
    rw [hs]
    refine assignInOrder_cons (thn (h1 pins s σ H _ _ _ I r h) fun _ s1 ⟨σ1, H1, I1, q1⟩ => ?_)
    exact h2 pins s1 σ1 H1 _ _ Q I1 rr q1
noncomputable def gTup (K : PySem.W.Frag) (n : Nat) (t : TGs) : TG := fun v σ H Q => ∃ a xs, v = .ref a ∧ SqT K H a xs ∧ xs.length = n ∧ t xs σ H Q
theorem pg_tup {es : List Expr} {k : Nat} {t : TGs} {n : Nat} (hc : X.calm = true) (h : PGs X es t)
    (hn : (assignEach es X.env).length = n := by rfl) (hst : (assignEach es X.env).findIdx? (·.1) = none := by rfl) : PG X (.Tuple es k pos) (gTup X.K n t) := by
  intro pins s σ H v u Q I r hw
  obtain ⟨a, xs, e1, hq, hl, hw⟩ := hw
  subst e1
  cases r
  obtain ⟨its, rv, ht, hz⟩ := I.tuple hq
  refine assign_Tuple_tuple (I.ok.hd hc) ht (by simp [hn, ← hl, rv.length]) hst fun h' hx => ?_
  have I1 : Inv X pins σ H { s with heap := h' } := I.kept (t' := s.toks) fun b o e => hx b o (Nat.ne_of_lt (Heap.lt_size e)) e
  exact h pins _ σ H xs _ Q I1 (by simpa using rv) hw
noncomputable def gSub (to ti : TE) (t : TSet) : TG := fun v σ H Q => to σ H fun o H1 => ti σ H1 fun i H2 => t o i v H2 fun H3 => Q σ H3
theorem pg_sub {o i : Expr} {to ti : TE} {t : TSet} (ho : PE X o to) (hi : PE X i ti) (hs : PSet X t)
    (ha : ∀ v, assign (.Subscript o i pos) X.env v = (do
      let ov ← holding [v] (eval o X.env)
      let iv ← holding [v, ov] (eval i X.env)
      standAt pos
      holding [v, ov, iv] (setItem ov iv v)
      release [v, ov, iv] []) := by intro _; rfl) : PG X (.Subscript o i pos) (gSub to ti t) := by
  intro pins s σ H v u Q I r h
  rw [ha]
  refine wpAny_bind (wpAny_holding (thn (ho pins s σ H _ I h) fun ov s1 ⟨x, H1, I1, r1, q1⟩ => ?_))
  refine wpAny_bind (wpAny_holding (thn (hi pins s1 σ H1 _ I1 q1) fun iv s2 ⟨y, H2, I2, r2, q2⟩ => ?_))
  refine wpAny_bind (wpAny_standAt (wpAny_bind (wpAny_holding (thn (hs pins s2 σ H2 x y v ov iv u _ I2 r1 r2 r q2) fun _ s3 ⟨H3, I3, q3⟩ => ?_))))
  exact wpAny_release ⟨σ, H3, I3, q3⟩
noncomputable def tAsg (te : TE) (g : TG) : TS := fun D σ H => te σ H fun x H1 => g x σ H1 D.nx
theorem ps_asg {tg e : Expr} {te : TE} {g : TG} (he : PE X e te) (hg : PG X tg g) (hs : swapsWithSole [tg] e pos.line X.env = pure false := by rfl) (hw : swappedStores [tg] e X.env = pure none := by rfl)
    (h1 : (assignEach [tg] X.env).map (·.2) = [assign tg X.env] := by rfl) : PS X (.Assign [tg] e pos) (tAsg te g) := by
  intro pins s σ H D I h
  refine wpAny_Assign_stores (thn (he pins s σ H _ I h) fun v s1 ⟨x, H1, I1, r1, q1⟩ => ?_) hs hw
  rw [h1]
  exact thn (hg pins s1 σ H1 x v _ I1 r1 q1) fun _ s2 q => q
theorem ps_set {i : Nat} {x : Str} {e : Expr} {te : TE} {pos' : Pos} (hN : X.N.Nodup) (hi : X.N[i]? = some x) (hx : Loc X.env.scope x) (he : PE X e te) (hs : swapsWith e (some (.Name x pos')) pos.line X.env = pure false := by rfl) (hf : X.fn x = true ∨ X.env.scope.names.lookup x = some .local := by trivial) :
    PS X (.Assign [.Name x pos'] e pos) (tAsg te (gName i)) := by
  intro pins s σ H D I h
  refine wpAny_Assign_Name (thn (he pins s σ H _ I h) fun v s1 ⟨y, H1, I1, r1, q1⟩ => ?_) hs
  exact store_ok I1 hN hi hx r1 (fun s2 I2 => ⟨_, H1, I2, q1⟩) hf
end
section
variable {X : Cx} {pos : Pos}
noncomputable def tWhile (c : TT) (tb : TS) : TS := fun D σ H => ∃ W : Nat → St → Hp → Prop, (∃ m, W m σ H) ∧ ∀ m σ H, W m σ H →
  c σ H fun b H1 => if b = true then ∃ N : St → Hp → Prop, (∀ σ' H', N σ' H' → ∃ m', m' < m ∧ W m' σ' H') ∧ tb { D with nx := N, ct := N, bk := D.nx } σ H1 else D.nx σ H1
theorem ps_while {c : Expr} {body : List Stmt} {tc : TT} {tb : TS} (hp : PassesOwn (model X.prog X.w) X.A X.env X.xe) (hc : PT X c tc) (hb : PSs X body tb) : PS X (.While c body [] pos) (tWhile tc tb) := by
  intro pins s σ H D I h
  obtain ⟨W, ⟨m0, w0⟩, turn⟩ := h
  refine wpAny_While (codeAny_whileLoop (fun n s' => ∃ σ' H', Inv X pins σ' H' s' ∧ W n σ' H') ?_ m0 ⟨σ, H, I, w0⟩)
  rintro n s1 ⟨σ1, H1, I1, w1⟩
  refine wpAny_passesOwn hp (thn (hc pins s1 σ1 H1 _ I1 (turn n σ1 H1 w1)) fun b s2 ⟨H2, I2, q2⟩ => ?_)
  cases b with
  | true =>
    obtain ⟨N, hN, q2⟩ := q2
    rw [if_pos rfl]
    refine wpAny_passesOwn hp (thn (hb pins s2 σ1 H2 _ I2 q2) fun f s3 q3 => ?_)
    cases f with
    | next =>
      obtain ⟨σ3, H3, I3, n3⟩ := q3
      obtain ⟨m', hm, w3⟩ := hN σ3 H3 n3
      exact ⟨m', hm, σ3, H3, I3, w3⟩
    | cont =>
      obtain ⟨σ3, H3, I3, n3⟩ := q3
      obtain ⟨m', hm, w3⟩ := hN σ3 H3 n3
      exact ⟨m', hm, σ3, H3, I3, w3⟩
    | brk => exact q3
    | ret v => exact q3
  | false =>
    rw [if_neg Bool.false_ne_true]
    exact wpAny_execs_nil ⟨σ1, H2, I2, q2⟩
end
structure It where
  go : Nat → Hp → Prop
  yld : Nat → Hp → V → Hp → Prop
  stop : Nat → Hp → Prop
noncomputable def FpOk (X : Cx) (pins : List (Addr × Obj)) (H : Hp) (b : Addr) : Prop :=
  H b = none ∧ b ≠ X.env.locals ∧ b ∉ X.fs ∧ (b ∈ X.ex ∨ X.s₀.heap.objs.size ≤ b) ∧ (∀ x c, X.env.cells.lookup x = some c → c ≠ b) ∧ ∀ p ∈ X.pn ++ pins, p.1 ≠ b
theorem Inv.fpOk {X : Cx} {pins : List (Addr × Obj)} {σ : St} {H H' : Hp} {s : Shared} {b : Addr} (I : Inv X pins σ H s) (hb : s.heap.objs.size ≤ b) (hn : H' b = none) : FpOk X pins H' b := by
  refine ⟨hn, Nat.ne_of_gt (Nat.lt_of_lt_of_le I.lt hb), I.nofs hb, .inr (Nat.le_trans I.sz hb), fun x c e z => ?_, fun p hp z => ?_⟩
  · obtain ⟨v, q⟩ := I.cell x c e
    exact absurd (Nat.lt_of_lt_of_le q.lt (by rw [z]; exact hb)) (Nat.lt_irrefl _)
  · exact absurd (Nat.lt_of_lt_of_le (Heap.lt_size (I.pin p hp).1) (by rw [z]; exact hb)) (Nat.lt_irrefl _)
structure Turn (P : Program) (w : World) (K : PySem.W.Frag) (tg : Expr) (J : It) (fp : List Addr) (it : Addr) (tn : Nat → Heap → Prop) : Prop where
  mem : it ∈ fp
  obj : ∀ i h, tn i h → ∀ b ∈ fp, ∃ o, h.get? b = some o ∧ ∀ v, o.data ≠ .cell v
  keep : ∀ i h h', tn i h → (∀ b ∈ fp, ∀ o, h.get? b = some o → h'.get? b = some o) → tn i h'
  item : ∀ (X : Cx), X.prog = P → X.w = w → X.K = K → X.calm = true → ∀ (i : Nat) (pins : List (Addr × Obj)) (s : Shared) (σ : St) (H : Hp) (E : Value → Shared → Prop), Inv X pins σ H s → (∀ b ∈ fp, FpOk X pins H b) → tn i s.heap → J.go i H →
    wpAny (model P w) X.A (pyNext (.ref it)) (fun r s1 => ∃ u, r = some u ∧
      wpAny (model P w) X.A (letOwnedTupleGo tg (.ref it) u) (fun _ s2 => ∃ x H', Inv X pins σ H' s2 ∧ RelV x u ∧ J.yld i H x H' ∧ tn (i + 1) s2.heap ∧ ∀ b ∈ fp, H' b = none) E s1) E s
  done : ∀ (X : Cx), X.prog = P → X.w = w → X.K = K → X.calm = true → ∀ (i : Nat) (pins : List (Addr × Obj)) (s : Shared) (σ : St) (H : Hp) (E : Value → Shared → Prop), Inv X pins σ H s → (∀ b ∈ fp, FpOk X pins H b) → tn i s.heap → J.stop i H →
    wpAny (model P w) X.A (pyNext (.ref it)) (fun r s1 => r = none ∧ Inv X pins σ H s1) E s
  self : ∀ (A : Around) (i : Nat) (s : Shared) (Q : Value → Shared → Prop) (E : Value → Shared → Prop), tn i s.heap → Q (.ref it) s → wpAny (model P w) A (pyIter (.ref it)) Q E s
noncomputable abbrev TI := St → Hp → (It → Hp → Prop) → Prop
noncomputable def PIE (X : Cx) (pins : List (Addr × Obj)) (σ : St) (tg : Expr) (R : It → Hp → Prop) (itv : Value) (s2 : Shared) : Prop :=
  ∃ (it : Addr) (fp : List Addr) (tn : Nat → Heap → Prop) (J : It) (H' : Hp), itv = .ref it ∧ Inv X pins σ H' s2 ∧ Turn X.prog X.w X.K tg J fp it tn ∧ tn 0 s2.heap ∧ (∀ b ∈ fp, FpOk X pins H' b) ∧ R J H'
noncomputable def PI (X : Cx) (tg iter : Expr) (wi : TI) : Prop :=
  ∀ (pins : List (Addr × Obj)) (s : Shared) (σ : St) (H : Hp) (R : It → Hp → Prop), Inv X pins σ H s → wi σ H R →
    wpAny (model X.prog X.w) X.A (eval iter X.env) (fun v s1 => wpAny (model X.prog X.w) X.A (pyIter v) (PIE X pins σ tg R) X.xe s1) X.xe s
theorem go_of {M : Model} {A : Around} {E : Value → Shared → Prop} {s : Shared} {tg : Expr} {it : Addr} {u : Value} {o : Obj} {n : String} {vs : Array Value} {Q : Unit → Shared → Prop} (ho : s.heap.get? it = some o) (hc : o.cls = .type n) (hd : o.data = .fields vs)
    (hn : ["enumerate", "zip", "dict_itemiterator", "dict_reverseitemiterator", "odict_iterator", "itertools.zip_longest", "itertools.pairwise"].contains n = false) (hQ : Q () s) : wpAny M A (letOwnedTupleGo tg (.ref it) u) Q E s := by
  unfold letOwnedTupleGo
  cases tg <;> first
    | exact wpAny_pure hQ
    | (cases u <;> first
        | exact wpAny_pure hQ
        | (refine wpAny_bind (wpAny_load ho ?_)
           rw [hc, hd]
           show wpAny M A (if (["enumerate", "zip", "dict_itemiterator", "dict_reverseitemiterator", "odict_iterator", "itertools.zip_longest", "itertools.pairwise"].contains n && vs[0]? == some (rawInt _)) = true then _ else _) Q E s
           rw [if_neg (by intro h; rw [hn, Bool.false_and] at h; cases h)]
           exact wpAny_pure hQ))
noncomputable def Itl (K : PySem.W.Frag) (a : Addr) : It :=
  ⟨fun i H => ∃ xs x, SqL K H a xs ∧ xs[i]? = some x, fun i H x H' => H' = H ∧ ∀ xs, SqL K H a xs → xs[i]? = some x, fun i H => ∃ xs, SqL K H a xs ∧ xs.length ≤ i⟩
noncomputable def Itt (K : PySem.W.Frag) (a : Addr) : It :=
  ⟨fun i H => ∃ xs x, SqT K H a xs ∧ xs[i]? = some x, fun i H x H' => H' = H ∧ ∀ xs, SqT K H a xs → xs[i]? = some x, fun i H => ∃ xs, SqT K H a xs ∧ xs.length ≤ i⟩
noncomputable def Itr (lo : Int) (n : Nat) : It := ⟨fun i _ => i < n, fun i H x H' => H' = H ∧ x = .int (lo + i), fun i _ => n ≤ i⟩
theorem turn_list {P : Program} {w : World} {K : PySem.W.Frag} {tg : Expr} (a it : Addr) : Turn P w K tg (Itl K a) [it] it (fun i h => h.IsListIter it a i) where
  mem := by simp
  obj := fun i h st b hb => by
    have e : b = it := by simpa using hb
    subst e
    obtain ⟨o, e, c, d⟩ := st
    exact ⟨o, e, fun v z => by rw [d] at z; cases z⟩
  keep := fun i h h' st k => st.at fun o e => k it (by simp) o e
  item := by
    intro X hP hw hK hc i pins s σ H E I hf st hg
    subst hP hw hK
    obtain ⟨xs, x, hq, hx⟩ := hg
    obtain ⟨its, rv, p, hz⟩ := I.list hq
    obtain ⟨u, hu, ru⟩ := rv.get hx
    obtain ⟨f0, f1, f2, f3, f4, f5⟩ := hf it (by simp)
    refine wpAny_pyNext_list_item st p.isList (x := u) (by simpa using hu) fun h' st' sb => ?_
    have I1 : Inv X pins σ H { s with heap := h' } := I.turned (t' := s.toks) (fun b o hb e => (sb.2 b hb).trans e) f0 f1 f3 f4 f5
    obtain ⟨o, e, c, d⟩ := id st'
    exact ⟨u, rfl, go_of (s := { s with heap := h' }) e c d (by decide) ⟨x, H, I1, ru, ⟨rfl, fun ys hy => by rw [I.list_inj hy hq]; exact hx⟩, st', fun b hb => (hf b hb).1⟩⟩
  done := by
    intro X hP hw hK hc i pins s σ H E I hf st hg
    subst hP hw hK
    obtain ⟨xs, hq, hx⟩ := hg
    obtain ⟨its, rv, p, hz⟩ := I.list hq
    obtain ⟨f0, f1, f2, f3, f4, f5⟩ := hf it (by simp)
    have hl := rv.length
    exact wpAny_pyNext_list_end (I.ok.hd hc) st p.isList (by simp; omega) fun h' eb => ⟨rfl, I.turned (t' := s.toks) (fun b o hb e => eb b o hb e) f0 f1 f3 f4 f5⟩
  self := fun _ _ _ _ _ st h => wpAny_pyIter_listiter st h
theorem turn_tuple {P : Program} {w : World} {K : PySem.W.Frag} {tg : Expr} (a it : Addr) : Turn P w K tg (Itt K a) [it] it (fun i h => h.IsTupleIter it a i) where
  mem := by simp
  obj := fun i h st b hb => by
    have e : b = it := by simpa using hb
    subst e
    obtain ⟨o, e, c, d⟩ := st
    exact ⟨o, e, fun v z => by rw [d] at z; cases z⟩
  keep := fun i h h' st k => st.at fun o e => k it (by simp) o e
  item := by
    intro X hP hw hK hc i pins s σ H E I hf st hg
    subst hP hw hK
    obtain ⟨xs, x, hq, hx⟩ := hg
    obtain ⟨its, rv, p, hz⟩ := I.tuple hq
    obtain ⟨u, hu, ru⟩ := rv.get hx
    obtain ⟨f0, f1, f2, f3, f4, f5⟩ := hf it (by simp)
    refine wpAny_pyNext_tuple_item st (show s.heap.IsTuple a its.toArray from p) (x := u) (by simpa using hu) fun h' st' sb => ?_
    have I1 : Inv X pins σ H { s with heap := h' } := I.turned (t' := s.toks) (fun b o hb e => (sb.2 b hb).trans e) f0 f1 f3 f4 f5
    obtain ⟨o, e, c, d⟩ := id st'
    exact ⟨u, rfl, go_of (s := { s with heap := h' }) e c d (by decide) ⟨x, H, I1, ru, ⟨rfl, fun ys hy => by rw [I.tuple_inj hy hq]; exact hx⟩, st', fun b hb => (hf b hb).1⟩⟩
  done := by
    intro X hP hw hK hc i pins s σ H E I hf st hg
    subst hP hw hK
    obtain ⟨xs, hq, hx⟩ := hg
    obtain ⟨its, rv, p, hz⟩ := I.tuple hq
    obtain ⟨f0, f1, f2, f3, f4, f5⟩ := hf it (by simp)
    have hl := rv.length
    exact wpAny_pyNext_tuple_end (I.ok.hd hc) st (show s.heap.IsTuple a its.toArray from p) (by simp; omega) fun h' eb => ⟨rfl, I.turned (t' := s.toks) (fun b o hb e => eb b o hb e) f0 f1 f3 f4 f5⟩
  self := fun _ _ _ _ _ st h => wpAny_pyIter_tupleiter st h
theorem turn_range {P : Program} {w : World} {K : PySem.W.Frag} {tg : Expr} (it : Addr) (lo : Int) (n : Nat) : Turn P w K tg (Itr lo n) [it] it (fun i h => IsRangeIter h it (lo + (i : Nat) * 1) ((n : Int) - (i : Nat)) 1) where
  mem := by simp
  obj := fun i h st b hb => by
    have e : b = it := by simpa using hb
    subst e
    exact ⟨_, st, fun v z => by
      have z' : Data.fields _ = Data.cell v := z
      cases z'⟩
  keep := fun i h h' st k => k it (by simp) _ st
  item := by
    intro X hP hw hK hc i pins s σ H E I hf st hg
    subst hP hw hK
    obtain ⟨f0, f1, f2, f3, f4, f5⟩ := hf it (by simp)
    have W := Walks.range (prog := X.prog) (w := X.w) (I.ok.hd hc) it lo 1 n
    refine W.item i s _ _ hg st fun v h' tk hv st' kk => ?_
    obtain ⟨t, rfl⟩ := hv
    have I1 : Inv X pins σ H { s with heap := h', toks := tk } := I.turned (fun b o hb e => kk b o (by simpa using hb) e) f0 f1 f3 f4 f5
    refine ⟨_, rfl, go_of (s := { s with heap := h', toks := tk }) (n := "range_iterator") st' rfl rfl (by decide) ⟨.int (lo + i), H, I1, ⟨t, ?_⟩, ⟨rfl, rfl⟩, st', fun b hb => (hf b hb).1⟩⟩
    rw [Int.mul_one]
  done := by
    intro X hP hw hK hc i pins s σ H E I hf st hg
    subst hP hw hK
    obtain ⟨f0, f1, f2, f3, f4, f5⟩ := hf it (by simp)
    exact wpAny_pyNext_range_end (I.ok.hd hc) st (by have : n ≤ i := hg; omega) fun h' eb => ⟨rfl, I.turned (t' := s.toks) (fun b o hb e => eb b o hb e) f0 f1 f3 f4 f5⟩
  self := fun _ _ _ _ _ st h => wpAny_pyIter_rangeiter st h
end L2
namespace L2
open PySem PySem.Spec PyProof.Rows
section
variable {X : Cx} {tg : Expr}
theorem range_it {pins : List (Addr × Obj)} {σ : St} {H : Hp} {s : Shared} {R : It → Hp → Prop} {E : Value → Shared → Prop} {lo hi : Int} {t u v : Tok} {tk : Nat} (I : Inv X pins σ H s) (h1 : -(2 ^ 62) ≤ lo) (h2 : lo < 2 ^ 62) (h3 : -(2 ^ 62) ≤ hi) (h4 : hi < 2 ^ 62)
    (q : R (Itr lo (hi - lo).toNat) H) : wpAny (model X.prog X.w) X.A (pyIter (.ref s.heap.objs.size)) (PIE X pins σ tg R) E { s with heap := s.heap.push { cls := .type "range", data := .fields #[.int lo t, .int hi u, .int 1 v] }, toks := tk } := by
  refine wpAny_pyIter_range (IsRange.new ..) (small_one h1 h2 h3 h4) ?_
  have I1 : Inv X pins σ H { s with heap := s.heap.push { cls := .type "range", data := .fields #[.int lo t, .int hi u, .int 1 v] }, toks := tk } := I.kept fun b o e => Heap.get?_push_of_some _ e
  refine ⟨(s.heap.push { cls := .type "range", data := .fields #[.int lo t, .int hi u, .int 1 v] }).objs.size, [(s.heap.push { cls := .type "range", data := .fields #[.int lo t, .int hi u, .int 1 v] }).objs.size], _, _, H, rfl,
    I1.kept (t' := tk) fun b o e => Heap.get?_push_of_some _ e, turn_range _ lo (hi - lo).toNat, ?_, fun b hb => ?_, q⟩
  · have e1 : lo + ((0 : Nat) : Int) * 1 = lo := by simp
    have e2 : (((hi - lo).toNat : Nat) : Int) - ((0 : Nat) : Int) = Builtin.Range.rangeSize lo hi 1 := by rw [rangeSize_one]; split <;> omega
    show IsRangeIter _ _ (lo + ((0 : Nat) : Int) * 1) ((((hi - lo).toNat : Nat) : Int) - ((0 : Nat) : Int)) 1
    rw [e1, e2]
    exact Heap.get?_push_size _ rfl
  · have e : b = (s.heap.push { cls := .type "range", data := .fields #[.int lo t, .int hi u, .int 1 v] }).objs.size := by simpa using hb
    subst e
    exact I1.fpOk (Nat.le_refl _) (I1.hok.fresh (Nat.le_refl _))
noncomputable def iRng1 (ta : TA) : TI := fun σ H R => ta σ H fun vs H1 => ∃ j : Int, vs = [.int j] ∧ -(2 ^ 62) ≤ j ∧ j < 2 ^ 62 ∧ R (Itr 0 j.toNat) H1
theorem pi_range1 {a : Expr} {ta : TA} {p pos : Pos} (hg : Gl X "range") (hm : X.mg "range" = none) (ha : PA X [a] ta) (hs : starEach [a] X.env = [(false, eval a X.env)] := by rfl) : PI X tg (.Call (.Name "range" p) [a] [] pos) (iRng1 ta) := by
  intro pins s σ H R I h
  refine Call_ (ld_blt I hg hm boot_range (PyProof.Rows.callWith_type1 (thn (ha pos pins s σ H _ I h) fun us s1 ⟨vs, H1, I1, r1, q1⟩ => ?_) hs rfl))
  obtain ⟨j, e, q1, q2, q⟩ := q1
  subst e
  cases r1 with
  | cons r rr =>
    cases rr
    obtain ⟨t, rfl⟩ := r
    exact call_range_1 (range_it I1 (by omega) (by omega) q1 q2 (by simpa using q))
noncomputable def tFor (wi : TI) (g : TG) (tb : TS) : TS := fun D σ H => wi σ H fun J H1 => ∃ W : Nat → Nat → St → Hp → Prop, (∃ m, W 0 m σ H1) ∧ ∀ i m σ H, W i m σ H →
  (J.stop i H ∧ D.nx σ H) ∨ (J.go i H ∧ ∃ N : St → Hp → Prop, (∀ σ' H', N σ' H' → ∃ m', m' < m ∧ W (i + 1) m' σ' H') ∧ ∀ x H', J.yld i H x H' → g x σ H' fun σ2 H2 => tb { D with nx := N, ct := N, bk := D.nx } σ2 H2)
noncomputable def pinsAt (fp : List Addr) (h : Heap) : List (Addr × Obj) := fp.filterMap fun b => (h.get? b).map fun o => (b, o)
theorem mem_pinsAt {fp : List Addr} {h : Heap} {b : Addr} {o : Obj} (hb : b ∈ fp) (e : h.get? b = some o) : (b, o) ∈ pinsAt fp h := List.mem_filterMap.mpr ⟨b, hb, by rw [e]; rfl⟩
theorem of_pinsAt {fp : List Addr} {h : Heap} {p : Addr × Obj} (hp : p ∈ pinsAt fp h) : p.1 ∈ fp ∧ h.get? p.1 = some p.2 := by
  obtain ⟨b, hb, e⟩ := List.mem_filterMap.mp hp
  cases q : h.get? b with
  | none => rw [q] at e; cases e
  | some o =>
    rw [q] at e
    have e' : (b, o) = p := Option.some.inj e
    subst e'
    exact ⟨hb, q⟩
theorem Inv.pinned {pins : List (Addr × Obj)} {σ : St} {H : Hp} {s : Shared} {fp : List Addr} (I : Inv X pins σ H s) (hf : ∀ b ∈ fp, FpOk X pins H b) (ho : ∀ b ∈ fp, ∃ o, s.heap.get? b = some o ∧ ∀ v, o.data ≠ .cell v) : Inv X (pins ++ pinsAt fp s.heap) σ H s :=
  I.pins_of fun p hp => (List.mem_append.mp hp).elim (fun z => I.pin p (List.mem_append_right _ z)) fun z => by
    obtain ⟨hb, e⟩ := of_pinsAt z
    obtain ⟨f0, f1, f2, _⟩ := hf p.1 hb
    obtain ⟨o, e', d⟩ := ho p.1 hb
    rw [e] at e'; cases e'
    exact ⟨e, f0, f1, f2, d⟩
theorem Inv.unpinned {pins pl : List (Addr × Obj)} {σ : St} {H : Hp} {s : Shared} (I : Inv X (pins ++ pl) σ H s) : Inv X pins σ H s := I.pins_of fun p hp => I.pin p (List.mem_append_right _ (List.mem_append_left _ hp))
theorem ps_for {iter : Expr} {body : List Stmt} {wi : TI} {g : TG} {tb : TS} {pos : Pos} (hp : PassesOwn (model X.prog X.w) X.A X.env X.xe) (hc : X.calm = true) (hi : PI X tg iter wi) (hg : PG X tg g) (hb : PSs X body tb)
    (hs : ∀ x, foldedSetIterable iter X.env x = pure x := by intro _; rfl) : PS X (.For tg iter body [] pos) (tFor wi g tb) := by
  intro pins s σ H D I h
  refine wpAny_For (thn (hi pins s σ H _ I h) fun v s1 h1 => thn h1 fun itv s2 h2 => ?_) hs
  obtain ⟨it, fp, tn, J, H2, e, I2, T, st2, f2, W, ⟨m0, w0⟩, turn⟩ := h2
  subst e
  have stat : ∀ {H' : Hp}, (∀ b ∈ fp, H' b = none) → ∀ b ∈ fp, FpOk X pins H' b := fun hn b hb => ⟨hn b hb, (f2 b hb).2⟩
  refine codeAny_forLoop_any (fun n s' => ∃ i σ' H', Inv X pins σ' H' s' ∧ tn i s'.heap ∧ (∀ b ∈ fp, H' b = none) ∧ W i n σ' H') ?_ m0 ⟨0, σ, H2, I2, st2, fun b hb => (f2 b hb).1, w0⟩
  rintro n s3 ⟨i, σ3, H3, I3, st3, fr3, w3⟩
  rcases turn i n σ3 H3 w3 with ⟨stop, qn⟩ | ⟨go, N, hN, step⟩
  · refine wpAny_passesOwn hp (thn (T.done X rfl rfl rfl hc i pins s3 σ3 H3 X.xe I3 (stat fr3) st3 stop) fun r s4 ⟨hr, I4⟩ => ?_)
    subst hr
    exact wpAny_execs_nil ⟨σ3, H3, I4, qn⟩
  · refine wpAny_passesOwn hp (thn (T.item X rfl rfl rfl hc i pins s3 σ3 H3 X.xe I3 (stat fr3) st3 go) fun r s4 ⟨u, hr, h4⟩ => ?_)
    subst hr
    refine wpAny_passesOwn hp (thn h4 fun _ s5 ⟨x, H5, I5, r5, y5, st5, fr5⟩ => ?_)
    have I5' := I5.pinned (stat fr5) (T.obj _ _ st5)
    refine wpAny_passesOwn hp (thn (hg _ s5 σ3 H5 x u _ I5' r5 (step x H5 y5)) fun _ s6 ⟨σ6, H6, I6, q6⟩ => ?_)
    refine wpAny_passesOwn hp (thn (hb _ s6 σ6 H6 _ I6 q6) fun f s7 q7 => ?_)
    have again : ∀ {σ7 : St} {H7 : Hp}, Inv X (pins ++ pinsAt fp s5.heap) σ7 H7 s7 → N σ7 H7 → ∃ m, m < n ∧ ∃ i σ' H', Inv X pins σ' H' s7 ∧ tn i s7.heap ∧ (∀ b ∈ fp, H' b = none) ∧ W i m σ' H' := fun {σ7 H7} I7 n7 => by
      obtain ⟨m', hm, w7⟩ := hN σ7 H7 n7
      refine ⟨m', hm, i + 1, σ7, H7, I7.unpinned, T.keep _ _ _ st5 fun b hb o e => (I7.pin (b, o) (List.mem_append_right _ (List.mem_append_right _ (mem_pinsAt hb e)))).1, fun b hb => ?_, w7⟩
      obtain ⟨o, e, d⟩ := T.obj _ _ st5 b hb
      exact (I7.pin (b, o) (List.mem_append_right _ (List.mem_append_right _ (mem_pinsAt hb e)))).2.1
    cases f with
    | next => obtain ⟨σ7, H7, I7, n7⟩ := q7; exact again I7 n7
    | cont => obtain ⟨σ7, H7, I7, n7⟩ := q7; exact again I7 n7
    | brk => obtain ⟨σ7, H7, I7, q7⟩ := q7; exact ⟨σ7, H7, I7.unpinned, q7⟩
    | ret v => obtain ⟨x7, σ7, H7, I7, r7, q7⟩ := q7; exact ⟨x7, σ7, H7, I7.unpinned, r7, q7⟩
end
end L2
namespace L2
open PySem PySem.Spec PyProof.Rows
noncomputable abbrev R2 := V → V → Hp → VK → Prop
noncomputable def OpR (X : Cx) (f : Value → Value → Sem Value) (r : R2) : Prop :=
  ∀ (pins : List (Addr × Obj)) (s : Shared) (σ : St) (H : Hp) (x y : V) (v u : Value) (Q : VK), Inv X pins σ H s → RelV x v → RelV y u → r x y H Q →
    wpAny (model X.prog X.w) X.A (f v u) (EP X pins σ Q) X.xe s
noncomputable def CallR (X : Cx) (f : Value) (r : List V → Hp → VK → Prop) : Prop :=
  ∀ (pins : List (Addr × Obj)) (s : Shared) (σ : St) (H : Hp) (xs : List V) (us : List Value) (Q : VK), Inv X pins σ H s → Vals xs us → r xs H Q →
    wpAny (model X.prog X.w) X.A (call f us) (EP X pins σ Q) X.xe s
noncomputable def TruR (X : Cx) (r : V → Hp → (Bool → Hp → Prop) → Prop) : Prop :=
  ∀ (pins : List (Addr × Obj)) (s : Shared) (σ : St) (H : Hp) (x : V) (v : Value) (Q : Bool → Hp → Prop), Inv X pins σ H s → RelV x v → r x H Q →
    wpAny (model X.prog X.w) X.A (truthy v) (TP X pins σ Q) X.xe s
noncomputable def tOp (r : R2) (ta tb : TE) : TE := fun σ H Q => ta σ H fun x H1 => tb σ H1 fun y H2 => r x y H2 Q
noncomputable def rI (C : Int → Int → Prop) (g : Int → Int → V) : R2 := fun x y H Q => ∃ i j, x = .int i ∧ y = .int j ∧ C i j ∧ Q (g i j) H
noncomputable def rI0 (g : Int → Int → V) : R2 := fun x y H Q => ∃ i j, x = .int i ∧ y = .int j ∧ Q (g i j) H
section
variable {X : Cx} {a b c : Expr} {ta tb tc : TE} {pos : Pos}
theorem binT (ha : PE X a ta) (hb : PE X b tb) {pins : List (Addr × Obj)} {s : Shared} {σ : St} {H : Hp} {R : V → V → Hp → Prop} (I : Inv X pins σ H s)
    (h : ta σ H fun x H1 => tb σ H1 fun y H2 => R x y H2) {Q : Value → Shared → Prop} {f : Value → Value → Sem Value}
    (hf : ∀ v u s2 x y H2, Inv X pins σ H2 s2 → RelV x v → RelV y u → R x y H2 → wpAny (model X.prog X.w) X.A (f v u) Q X.xe s2) :
    wpAny (model X.prog X.w) X.A (eval a X.env) (fun v s₁ => wpAny (model X.prog X.w) X.A (eval b X.env) (fun u s₂ => wpAny (model X.prog X.w) X.A (f v u) Q X.xe s₂) X.xe s₁) X.xe s := by
  refine thn (ha pins s σ H _ I h) fun v s1 ⟨x, H1, I1, r1, q1⟩ => ?_
  refine thn (hb pins s1 σ H1 _ I1 q1) fun u s2 ⟨y, H2, I2, r2, q2⟩ => ?_
  exact hf v u s2 x y H2 I2 r1 r2 q2
theorem pe_op {op : Operator} {r : R2} (ho : OpR X (binaryOp op) r) (ha : PE X a ta) (hb : PE X b tb) : PE X (.BinOp a op b pos) (tOp r ta tb) := by
  intro pins s σ H Q I h
  exact wpAny_BinOp (binT ha hb I h fun v u s2 x y H2 I2 rx ry q => ho pins s2 σ H2 x y v u Q I2 rx ry q)
theorem opI {f : Value → Value → Sem Value} {C : Int → Int → Prop} {g : Int → Int → Int}
    (rule : ∀ (i j : Int) (t u : Tok) (s : Shared) (Q : Value → Shared → Prop) (E : Value → Shared → Prop), C i j → Q (.int (g i j) s.toks) { s with toks := s.toks + 1 } → wpAny (model X.prog X.w) X.A (f (.int i t) (.int j u)) Q E s) :
    OpR X f (rI C fun i j => .int (g i j)) := by
  intro pins s σ H x y v u Q I rx ry h
  obtain ⟨i, j, rfl, rfl, hc, q⟩ := h
  obtain ⟨t, rfl⟩ := rx
  obtain ⟨t', rfl⟩ := ry
  exact rule i j t t' s _ _ hc ⟨.int (g i j), H, I.tok _, ⟨_, rfl⟩, q⟩
theorem opI0 {f : Value → Value → Sem Value} {g : Int → Int → Int}
    (rule : ∀ (i j : Int) (t u : Tok) (s : Shared) (Q : Value → Shared → Prop) (E : Value → Shared → Prop), Q (.int (g i j) s.toks) { s with toks := s.toks + 1 } → wpAny (model X.prog X.w) X.A (f (.int i t) (.int j u)) Q E s) :
    OpR X f (rI0 fun i j => .int (g i j)) := by
  intro pins s σ H x y v u Q I rx ry h
  obtain ⟨i, j, rfl, rfl, q⟩ := h
  obtain ⟨t, rfl⟩ := rx
  obtain ⟨t', rfl⟩ := ry
  exact rule i j t t' s _ _ ⟨.int (g i j), H, I.tok _, ⟨_, rfl⟩, q⟩
theorem opB0 {f : Value → Value → Sem Value} {g : Int → Int → Bool}
    (rule : ∀ (i j : Int) (t u : Tok) (s : Shared) (Q : Value → Shared → Prop) (E : Value → Shared → Prop), Q (.bool (g i j)) s → wpAny (model X.prog X.w) X.A (f (.int i t) (.int j u)) Q E s) :
    OpR X f (rI0 fun i j => .bl (g i j)) := by
  intro pins s σ H x y v u Q I rx ry h
  obtain ⟨i, j, rfl, rfl, q⟩ := h
  obtain ⟨t, rfl⟩ := rx
  obtain ⟨t', rfl⟩ := ry
  exact rule i j t t' s _ _ ⟨.bl (g i j), H, I, rfl, q⟩
noncomputable def CPow (i j : Int) : Prop := 0 ≤ j ∧ j ≤ 1000000 ∧ i.natAbs < 2 ^ 64
theorem op_add : OpR X (binaryOp .Add) (rI0 fun i j => .int (i + j)) := opI0 fun _ _ _ _ _ _ _ q => add_int q
theorem op_sub : OpR X (binaryOp .Sub) (rI0 fun i j => .int (i - j)) := opI0 fun _ _ _ _ _ _ _ q => sub_int q
theorem op_mod : OpR X (binaryOp .Mod) (rI (fun _ j => 0 < j) fun i j => .int (i % j)) := opI fun i j _ _ _ _ _ hc q => by
  have h1 : (0 : Int) < j := hc
  exact mod_int' (by omega) (by rw [Int.fmod_eq_emod_of_nonneg i (by omega)]; exact q)
theorem op_pow : OpR X (binaryOp .Pow) (rI CPow fun i j => .int (i ^ j.toNat)) := opI fun _ _ _ _ _ _ _ hc q => pow_int_small hc.1 hc.2.1 hc.2.2 q
theorem iop_add : OpR X (inplaceOp .Add) (rI0 fun i j => .int (i + j)) := opI0 fun _ _ _ _ _ _ _ q => iadd_int q
end
section
variable {X : Cx} {a b c : Expr} {ta tb tc : TE} {pos : Pos}
theorem fin_bl {pins : List (Addr × Obj)} {σ : St} {H : Hp} {s : Shared} {Q : VK} {k k' : Bool} (I : Inv X pins σ H s) (q : Q (.bl k) H) (e : k = k') : EP X pins σ Q (.bool k') s := by
  subst e
  exact ⟨.bl k, H, I, rfl, q⟩
theorem op_lt : OpR X (compareOp .Lt) (rI0 fun i j => .bl (decide (i < j))) := opB0 fun _ _ _ _ _ _ _ q => lt_int q
theorem op_gt : OpR X (compareOp .Gt) (rI0 fun i j => .bl (decide (j < i))) := opB0 fun _ _ _ _ _ _ _ q => gt_int q
theorem op_isN : OpR X (compareOp .Is) (fun x y H Q => y = .non ∧ Q (.bl (decide (x = .non))) H) := by
  intro pins s σ H x y v u Q I rx ry h
  obtain ⟨rfl, q⟩ := h
  cases ry
  refine is_none_gen (fin_bl I q ?_)
  cases x <;> first
    | (cases rx; rfl)
    | (obtain ⟨t, rfl⟩ := rx; rfl)
theorem OpR.or {f : Value → Value → Sem Value} {r r' : R2} (h : OpR X f r) (h' : OpR X f r') : OpR X f (fun x y H Q => r x y H Q ∨ r' x y H Q) := by
  intro pins s σ H x y v u Q I rx ry q
  rcases q with q | q
  · exact h pins s σ H x y v u Q I rx ry q
  · exact h' pins s σ H x y v u Q I rx ry q
theorem nomark (b : Expr) {op : CmpOp} (h : op ≠ .In := by decide) (h2 : op ≠ .NotIn := by decide) : behindInMarks op b = false := by
  have e1 : (op == CmpOp.In) = false := by cases op <;> first | rfl | exact absurd rfl h
  have e2 : (op == CmpOp.NotIn) = false := by cases op <;> first | rfl | exact absurd rfl h2
  cases b <;> simp [behindInMarks, e1, e2]
theorem pe_cmpR {op : CmpOp} {r : R2} (ho : OpR X (compareOp op) r) (ha : PE X a ta) (hb : PE X b tb) (hm : behindInMarks op b = false) : PE X (.Compare a [op] [b] pos) (tOp r ta tb) := by
  intro pins s σ H Q I h
  exact wpAny_Compare1 (binT ha hb I h fun v u s2 x y H2 I2 rx ry q => ho pins s2 σ H2 x y v u Q I2 rx ry q) hm
noncomputable def tTest (t : TE) : TT := fun σ H Q => t σ H fun x H' => ∃ k, x = .bl k ∧ Q k H'
theorem pt_cmpR {op : CmpOp} {r : R2} (ho : OpR X (compareOp op) r) (ha : PE X a ta) (hb : PE X b tb) (hm : behindInMarks op b = false) : PT X (.Compare a [op] [b] pos) (tTest (tOp r ta tb)) := by
  intro pins s σ H Q I h
  refine wpAny_isTrue_Compare1 (thn (ha pins s σ H _ I h) fun v s1 ⟨x, H1, I1, r1, q1⟩ => thn (hb pins s1 σ H1 _ I1 q1) fun u s2 ⟨y, H2, I2, r2, q2⟩ =>
    thn (ho pins s2 σ H2 x y v u _ I2 r1 r2 q2) fun c s3 ⟨z, H3, I3, r3, k, e, q3⟩ => ?_) hm
  subst e
  cases r3
  exact wpAny_truthy_bool ⟨H3, I3, q3⟩
noncomputable def TruV (K : PySem.W.Frag) (x : V) (H : Hp) (k : Bool) : Prop :=
  match x with
  | .non => k = false
  | .bl b => k = b
  | .int i => k = (i != 0)
  | .str y => y.length ≤ sizeLine ∧ k = ((y.length : Int) != 0)
  | .byt y => y.size ≤ sizeLine ∧ k = ((y.size : Int) != 0)
  | .ref p => (∃ xs, SqL K H p xs ∧ k = !xs.isEmpty) ∨ (∃ xs, SqT K H p xs ∧ k = !xs.isEmpty) ∨ ∃ kvs, H p = some (.dK kvs) ∧ k = !kvs.isEmpty
  | _ => False
theorem isEmpty_kv {κ : Type} {kvs : List (κ × V)} {vs : List (κ × Value)} (r : KV kvs vs) : (!vs.isEmpty) = !kvs.isEmpty := by
  cases r <;> rfl
theorem isEmpty_of {xs : List V} {its : List Value} (r : Vals xs its) : (!its.toArray.isEmpty) = !xs.isEmpty := by
  cases r <;> simp
theorem line63 : (sizeLine : Nat) < 2 ^ 63 := by rw [sizeLine_eq]; decide
theorem tru_ok : TruR X (fun x H Q => ∃ k, TruV X.K x H k ∧ Q k H) := by
  intro pins s σ H x v Q I rx h
  obtain ⟨k, e, q⟩ := h
  have hl := line63
  have hs : sizeLine = 16777216 := sizeLine_eq
  cases x with
  | non =>
    cases rx
    have e' : k = false := e
    subst e'
    exact truthy_none ⟨H, I, q⟩
  | bl b =>
    cases rx
    have e' : k = b := e
    subst e'
    exact wpAny_truthy_bool ⟨H, I, q⟩
  | int i =>
    obtain ⟨t, rfl⟩ := rx
    have e' : k = (i != 0) := e
    subst e'
    exact PySem.P.truthy_int ⟨H, I, q⟩
  | str y =>
    obtain ⟨t, rfl⟩ := rx
    obtain ⟨hy, e'⟩ : y.length ≤ sizeLine ∧ k = ((y.length : Int) != 0) := e
    subst e'
    exact PySem.P.truthy_str (by omega) ⟨H, I.tok _, q⟩
  | byt y =>
    obtain ⟨t, rfl⟩ := rx
    obtain ⟨hy, e'⟩ : y.size ≤ sizeLine ∧ k = ((y.size : Int) != 0) := e
    subst e'
    exact PySem.W.truthy_bytes (by omega) ⟨H, I.tok _, q⟩
  | ref p =>
    cases rx
    have e' : (∃ xs, SqL X.K H p xs ∧ k = !xs.isEmpty) ∨ (∃ xs, SqT X.K H p xs ∧ k = !xs.isEmpty) ∨ ∃ kvs, H p = some (.dK kvs) ∧ k = !kvs.isEmpty := e
    rcases e' with ⟨xs, hx, e'⟩ | ⟨xs, hx, e'⟩ | ⟨kvs, hx, e'⟩
    · subst e'
      obtain ⟨its, r, pl, hz⟩ := I.list hx
      have hlen := r.length
      exact wpAny_truthy_list pl.isList (by simp only [List.size_toArray]; omega) ⟨H, I.tok _, by rw [isEmpty_of r]; exact q⟩
    · subst e'
      obtain ⟨its, r, pl, hz⟩ := I.tuple hx
      have hlen := r.length
      exact truthy_tuple pl (by simp only [List.size_toArray]; omega) ⟨H, I.tok _, by rw [isEmpty_of r]; exact q⟩
    · subst e'
      obtain ⟨hz, hS, vs, r, m⟩ : kvs.length ≤ sizeLine ∧ (p == sysModules) = false ∧ ∃ vs, KV kvs vs ∧ s.heap.DictOf (mixKind X.prog X.w) p vs := I.hok p _ hx
      have hlen : kvs.length = vs.length := Paired.length r
      exact wpAny_truthy_dict hS m (by omega) ⟨H, I.tok _, by rw [isEmpty_kv r]; exact q⟩
  | _ => exact (show False from e).elim
theorem pt_truth (ha : PE X a ta) (he : ∀ whole, isTrue a X.env whole = (do let v ← whole; standAt a.pos; holding [v] (truthy v))) :
    PT X a (fun σ H Q => ta σ H fun x H' => ∃ k, TruV X.K x H' k ∧ Q k H') := by
  intro pins s σ H Q I h
  exact isTrue_plain (thn (ha pins s σ H _ I h) fun v s1 ⟨x, H1, I1, r1, q1⟩ => tru_ok pins s1 σ H1 x v Q I1 r1 q1) (he _)
theorem op_add_str : OpR X (binaryOp .Add) (fun x y H Q => ∃ i j, x = .str i ∧ y = .str j ∧ i.length + j.length ≤ sizeLine ∧ Q (.str (i ++ j)) H) := by
  intro pins s σ H x y v u Q I rx ry h
  obtain ⟨i, j, rfl, rfl, hz, q⟩ := h
  obtain ⟨t, rfl⟩ := rx
  obtain ⟨t', rfl⟩ := ry
  exact add_str (fun t' tk => ⟨.str (i ++ j), H, I.tok _, ⟨_, rfl⟩, q⟩) hz
theorem vals1 {x : V} {us : List Value} (r : Vals [x] us) : ∃ u, us = [u] ∧ RelV x u := by
  cases r with
  | cons r1 r2 => cases r2; exact ⟨_, rfl, r1⟩
theorem vals2 {x y : V} {us : List Value} (r : Vals [x, y] us) : ∃ u w', us = [u, w'] ∧ RelV x u ∧ RelV y w' := by
  cases r with
  | cons r1 r2 =>
    cases r2 with
    | cons r3 r4 => cases r4; exact ⟨_, _, rfl, r1, r3⟩
theorem call_str_int : CallR X (.type "str") (fun xs H Q => ∃ i, xs = [.int i] ∧ i.natAbs.log2 < 1920 ∧ Q (.str (toString i)) H) := by
  intro pins s σ H xs us Q I r h
  obtain ⟨i, rfl, hz, q⟩ := h
  obtain ⟨u, rfl, t, rfl⟩ := vals1 r
  exact PySem.P.str_of_int hz ⟨.str _, H, I.tok _, ⟨_, rfl⟩, q⟩
noncomputable def LenV (K : PySem.W.Frag) (x : V) (H : Hp) (n : Nat) : Prop :=
  match x with
  | .str y => y.length ≤ sizeLine ∧ n = y.length
  | .byt y => y.size ≤ sizeLine ∧ n = y.size
  | .ref p => (∃ xs, SqL K H p xs ∧ n = xs.length) ∨ ∃ xs, SqT K H p xs ∧ n = xs.length
  | _ => False
theorem call_len : CallR X (.builtin "len") (fun xs H Q => ∃ x n, xs = [x] ∧ LenV X.K x H n ∧ Q (.int n) H) := by
  intro pins s σ H xs us Q I r h
  obtain ⟨x, n, rfl, e, q⟩ := h
  obtain ⟨u, rfl, rx⟩ := vals1 r
  have hl := line63
  have hs : sizeLine = 16777216 := sizeLine_eq
  cases x with
  | str y =>
    obtain ⟨t, rfl⟩ := rx
    obtain ⟨hy, e'⟩ : y.length ≤ sizeLine ∧ n = y.length := e
    subst e'
    exact len_str (by omega) ⟨.int _, H, I.tok _, ⟨_, rfl⟩, q⟩
  | byt y =>
    obtain ⟨t, rfl⟩ := rx
    obtain ⟨hy, e'⟩ : y.size ≤ sizeLine ∧ n = y.size := e
    subst e'
    exact PySem.W.len_bytes (by omega) ⟨.int _, H, I.tok _, ⟨_, rfl⟩, q⟩
  | ref p =>
    cases rx
    have e' : (∃ xs, SqL X.K H p xs ∧ n = xs.length) ∨ ∃ xs, SqT X.K H p xs ∧ n = xs.length := e
    rcases e' with ⟨xs, hx, e'⟩ | ⟨xs, hx, e'⟩
    · subst e'
      obtain ⟨its, r', pl, hz⟩ := I.list hx
      have hlen := r'.length
      exact Calls.call_len_list pl.isList (by simp only [List.size_toArray]; omega) ⟨.int xs.length, H, I.tok _, ⟨_, by simp only [List.size_toArray]; rw [hlen]⟩, q⟩
    · subst e'
      obtain ⟨its, r', pl, hz⟩ := I.tuple hx
      have hlen := r'.length
      exact len_tuple pl (by simp only [List.size_toArray]; omega) ⟨.int xs.length, H, I.tok _, ⟨_, by simp only [List.size_toArray]; rw [hlen]⟩, q⟩
  | _ => exact (show False from e).elim
end
end L2
namespace L2
open PySem PySem.Spec PyProof.Rows
structure ObjM (h : Heap) (x dx C : Addr) (mA : Str → Option Value) : Prop where
  obj : h.get? x = some (PySem.W.instObj C dx)
  ns : h.Ns1 dx mA
  ne : dx ≠ x
theorem lookIn_ns {h : Heap} {dx : Addr} {mA : Str → Option Value} (n : h.Ns1 dx mA) : ∃ od, h.get? dx = some od ∧ ∀ name, PySem.W.lookIn name od = some (mA name) := by
  obtain ⟨o, es, ep, ho, hd, hk, _, hm⟩ := n
  refine ⟨o, ho, fun name => ?_⟩
  have e := hm name
  unfold nsFind findBy at e
  rw [← Array.find?_toList] at e
  unfold PySem.W.lookIn
  rw [hd]
  dsimp only
  split
  · rename_i y q
    rw [q] at e
    exact congrArg some e
  · rename_i q
    rw [q] at e
    have a : es.toList.any (·.refKey) = false := by
      rw [List.any_eq_false]
      intro y hy
      obtain ⟨z, t, hkey⟩ := hk y (Array.mem_toList_iff.mp hy)
      simp [DictEntry.refKey, hkey]
    have a' : ¬ es.toList.any (·.refKey) = true := by rw [a]; exact Bool.false_ne_true
    rw [if_neg a']
    exact congrArg some e
theorem ObjM.look {h : Heap} {x dx C : Addr} {mA : Str → Option Value} (I : ObjM h x dx C mA) : ∃ od, PySem.W.InstAt h x (PySem.W.instObj C dx) C (some od) ∧ ∀ name, PySem.W.lookIn name od = some (mA name) :=
  let ⟨od, ho, hl⟩ := lookIn_ns I.ns
  ⟨od, ⟨I.obj, rfl, rfl, ho⟩, hl⟩
section
variable {prog : Program} {w : World} {A : Around} {E : Value → Shared → Prop} {s : Shared} {K : PySem.W.Frag} {x dx C f : Addr} {mA : Str → Option Value} {name : Str} {v : Value}
theorem get_map {expr : Bool} {Q : Value → Shared → Prop} (X : K.In s.heap) (I : ObjM s.heap x dx C mA) (hg : PySem.W.plainGet K C name = true) (hh : PySem.W.hasDictIn K C = true)
    (ha : PySem.W.findIn K (.ref C) name = some none) (hv : mA name = some v) (hv' : PySem.W.handedIn v = true) (h : Q v { s with toks := s.toks + 1 }) :
    wpAny (model prog w) A (getAttr (.ref x) name expr) Q E s := by
  obtain ⟨od, J, hl⟩ := I.look
  exact PySem.W.get_value X J (PySem.W.plainGet_of hg).1 (PySem.W.findObj_own hh ha rfl (by rw [hl, hv])) hv' h
theorem get_meth {pl : Sem Bool} {Q : Value × List Value → Shared → Prop} (X : K.In s.heap) (I : ObjM s.heap x dx C mA) (hg : PySem.W.plainGet K C name = true)
    (hf : PySem.W.findIn K (.ref C) name = some (some (.ref f))) (ht : PySem.W.isFn K (.ref f) = true) (hv : mA name = none) (h : Q (.ref f, [.ref x]) s) :
    wpAny (model prog w) A (getMethod (.ref x) name pl) Q E s := by
  obtain ⟨od, J, hl⟩ := I.look
  exact PySem.W.method_fn X J (PySem.W.plainGet_of hg).1 (PySem.W.plainGet_of hg).2 hf (beq_iff_eq.mp ht) (by show (PySem.W.lookIn name od).map (·.isSome) = some false; rw [hl, hv]; rfl) h
theorem set_map {ns : List Str} {Q : Unit → Shared → Prop} (X : K.In s.heap) (I : ObjM s.heap x dx C mA)
    (hs : PySem.W.findIn K (.ref C) "__setattr__" = some (some (.builtin "object.__setattr__"))) (hp : PySem.W.plainOver K C = true) (ht : PySem.W.takerIn K C name = some none) (hh : PySem.W.hasDictIn K C = true)
    (hw : PySem.Within mA ns) (hsz : ns.length ≤ sizeLine)
    (h : ∀ h', ObjM h' x dx C (fun y => if y = name then some v else mA y) → Heap.SameBut dx s.heap h' → Q () { s with heap := h', toks := s.toks + 2 }) :
    wpAny (model prog w) A (setAttr (.ref x) name v) Q E s := by
  obtain ⟨od, J, hl⟩ := I.look
  refine PySem.W.set_plain X J hs (PySem.W.osa_open (s := { s with toks := s.toks + 1 }) (r := none) X J hp ht fun b => ?_)
  obtain ⟨cd, hc, hd'⟩ := PySem.W.any_some hh
  have hx : s.heap.get? x = some ⟨.ref C, some dx, .plain, #[]⟩ := I.obj
  refine wpAny_bind (wpAny_pure (wpAny_bind (wpAny_bind (wpAny_loadPart hx (wpAny_bind (PySem.W.Looks.here (s := { s with toks := s.toks + 1 }) (PySem.W.looks_clsIn X hc) ?_))))))
  rw [hd']
  refine wpAny_pure (a := some dx) (wpAny_bind (wpAny_pure (wpAny_bind ?_)))
  refine wpAny_nsSet1 (s := { s with toks := s.toks + 1 }) I.ns fun h' hn2 hs2 => ?_
  obtain ⟨oD, esD, epD, hoD, hdD, hcD⟩ := hn2.count (PySem.Within.cons name v hw)
  refine wpAny_bind (wpAny_lookBehind hoD (by rw [hdD]; exact pastItsLine_dict (Nat.le_trans hcD (by rw [List.length_cons]; omega))) ?_)
  exact wpAny_pure (h _ ⟨(hs2.2 _ (Ne.symm I.ne)).trans I.obj, hn2, I.ne⟩ hs2)
theorem make_map {R : Result → Shared → Prop} {vs : List Value} {kw : List (Str × Value)} (X : K.In s.heap) (hm : PySem.W.makesIn K C = true)
    (hi : PySem.W.findIn K (.ref C) "__init__" = some (some (.ref f))) (hf : PySem.W.typeIn K (.ref f) = some (.type "function"))
    (h : codeAny (model prog w) (A.under (.builtin "type.__call__" ⟨.ref C :: vs, kw⟩)) (.call (.ref f) ⟨.ref (s.heap.objs.size + 1) :: vs, kw⟩) (PySem.W.InitBack (s.heap.objs.size + 1) R)
      { s with heap := (s.heap.push PySem.W.emptyDict).push (PySem.W.instObj C s.heap.objs.size) }) :
    codeAny (model prog w) A (.call (.ref C) ⟨vs, kw⟩) R s := by
  obtain ⟨hh, g, d, t, os⟩ := s
  exact PySem.W.make_core (PySem.W.makes_of X hm) (PySem.W.looks_findIn X hi) (fun self => PySem.W.bind_fn X self hf) (.inl rfl) h
end
noncomputable def putF (f : Str) (v : V) : List (Str × V) → List (Str × V)
  | [] => [(f, v)]
  | (g, x) :: r => if g = f then (g, v) :: r else (g, x) :: putF f v r
theorem lookup_putF (f g : Str) (v : V) : ∀ fs : List (Str × V), (putF f v fs).lookup g = if g = f then some v else fs.lookup g
  | [] => by
    show List.lookup g [(f, v)] = _
    by_cases h : g = f
    · have hb : (g == f) = true := beq_iff_eq.mpr h
      simp only [List.lookup, hb, if_pos h]
    · have hb : (g == f) = false := beq_eq_false_iff_ne.mpr h
      simp only [List.lookup, hb, if_neg h]
  | (k, x) :: r => by
    have ih := lookup_putF f g v r
    rw [show putF f v ((k, x) :: r) = (if k = f then (k, v) :: r else (k, x) :: putF f v r) from rfl]
    by_cases hk : k = f
    · rw [if_pos hk]
      by_cases h : g = k
      · have hb : (g == k) = true := beq_iff_eq.mpr h
        simp only [List.lookup, hb, if_pos (h.trans hk)]
      · have hb : (g == k) = false := beq_eq_false_iff_ne.mpr h
        simp only [List.lookup, hb, if_neg (fun e : g = f => h (e.trans hk.symm))]
    · rw [if_neg hk]
      by_cases h : g = k
      · have hb : (g == k) = true := beq_iff_eq.mpr h
        simp only [List.lookup, hb, if_neg (fun e : g = f => hk (h.symm.trans e))]
      · have hb : (g == k) = false := beq_eq_false_iff_ne.mpr h
        simp only [List.lookup, hb]
        exact ih
theorem keys_putF (f : Str) (v : V) : ∀ fs : List (Str × V), f ∈ (putF f v fs).map (·.1) ∧ ∀ g, g ∈ fs.map (·.1) → g ∈ (putF f v fs).map (·.1)
  | [] => ⟨by simp [putF], fun g h => by simp at h⟩
  | (k, x) :: r => by
    obtain ⟨i1, i2⟩ := keys_putF f v r
    rw [show putF f v ((k, x) :: r) = (if k = f then (k, v) :: r else (k, x) :: putF f v r) from rfl]
    by_cases hk : k = f
    · rw [if_pos hk]
      subst hk
      exact ⟨by simp, fun g h => by simpa using h⟩
    · rw [if_neg hk]
      refine ⟨?_, fun g h => ?_⟩
      · rw [List.map_cons]
        exact List.mem_cons_of_mem _ i1
      · rw [List.map_cons] at h ⊢
        rcases List.mem_cons.mp h with e | e
        · exact List.mem_cons.mpr (.inl e)
        · exact List.mem_cons_of_mem _ (i2 g e)
theorem length_putF (f : Str) (v : V) : ∀ fs : List (Str × V), (putF f v fs).length ≤ fs.length + 1
  | [] => by simp [putF]
  | (k, x) :: r => by
    have ih := length_putF f v r
    rw [show putF f v ((k, x) :: r) = (if k = f then (k, v) :: r else (k, x) :: putF f v r) from rfl]
    by_cases hk : k = f
    · rw [if_pos hk, List.length_cons, List.length_cons]; omega
    · rw [if_neg hk, List.length_cons, List.length_cons]; omega
theorem RelO.some_of {v : V} {o : Option Value} (r : RelO (some v) o) : ∃ u, o = some u ∧ RelV v u := by
  cases o with
  | none => exact (show False from r).elim
  | some u => exact ⟨u, rfl, r⟩
theorem RelO.none_of {o : Option Value} (r : RelO none o) : o = none := by
  cases o with
  | none => rfl
  | some u => exact (show False from r).elim
theorem handed_of {v : V} {u : Value} (r : RelV v u) : PySem.W.handedIn u = true := by
  cases v with
  | non => cases (show u = Value.none from r); rfl
  | bl b => cases (show u = Value.bool b from r); rfl
  | int i => obtain ⟨t, e⟩ := (show ∃ t, u = Value.int i t from r); cases e; rfl
  | str x => obtain ⟨t, e⟩ := (show ∃ t, u = Value.str x t from r); cases e; rfl
  | byt b => obtain ⟨t, e⟩ := (show ∃ t, u = Value.bytes b t from r); cases e; rfl
  | flt b => obtain ⟨t, e⟩ := (show ∃ t, u = Value.float b t from r); cases e; rfl
  | ref a => cases (show u = Value.ref a from r); rfl
  | ty n => cases (show u = Value.type n from r); rfl
section
variable {P : Program} {w : World} {H H' : Hp} {h h' : Heap} {a C dx : Addr} {fs fs' : List (Str × V)}
theorem ins_get (hok : HOk P w H h) (e : H a = some (.ins C dx fs)) : ∃ mA, ObjM h a dx C mA ∧ (∀ f, RelO (fs.lookup f) (mA f)) ∧ PySem.Within mA (fs.map (·.1)) ∧ fs.length ≤ 1000 ∧ H dx = some (.own a) := by
  obtain ⟨d, z, ne, ob, mA, n, r, q⟩ := (show ObjOk P w H h a (.ins C dx fs) from hok a _ e)
  exact ⟨mA, ⟨ob, n, ne⟩, r, q, z, d⟩
end
structure Cls (K : PySem.W.Frag) (C : Addr) : Prop where
  pg : PySem.W.plainGet K C Str.empty = true
  hd : PySem.W.hasDictIn K C = true
  po : PySem.W.plainOver K C = true
  sa : PySem.W.findIn K (.ref C) "__setattr__" = some (some (.builtin "object.__setattr__"))
theorem Cls.get {K : PySem.W.Frag} {C : Addr} (c : Cls K C) (f : Str) : PySem.W.plainGet K C f = true := c.pg
noncomputable def NoAttr (K : PySem.W.Frag) (C : Addr) (f : Str) : Prop := PySem.W.findIn K (.ref C) f = some none
theorem NoAttr.taker {K : PySem.W.Frag} {C : Addr} {f : Str} (n : NoAttr K C f) : PySem.W.takerIn K C f = some none := by
  unfold PySem.W.takerIn
  rw [show PySem.W.findIn K (.ref C) f = some none from n]
  rfl
structure Meth (K : PySem.W.Frag) (C : Addr) (m : Str) (f : Addr) : Prop where
  at_ : PySem.W.findIn K (.ref C) m = some (some (.ref f))
  fn : PySem.W.isFn K (.ref f) = true
  kp : PySem.W.keepIn K (.ref f) = true
section
variable {X : Cx} {pins : List (Addr × Obj)} {σ : St} {H : Hp} {s : Shared} {a C dx : Addr} {fs : List (Str × V)} {f : Str} {v : V} {A : Around} {E : Value → Shared → Prop}
theorem getattr_ok {b : Bool} {Q : Value → Shared → Prop} (I : Inv X pins σ H s) (e : H a = some (.ins C dx fs)) (c : Cls X.K C) (n : NoAttr X.K C f) (l : fs.lookup f = some v)
    (h : ∀ u s', Inv X pins σ H s' → RelV v u → Q u s') : wpAny (model X.prog X.w) A (getAttr (.ref a) f b) Q E s := by
  obtain ⟨mA, O, r, _, _, _⟩ := ins_get I.hok e
  obtain ⟨u, hu, ru⟩ := RelO.some_of (v := v) (o := mA f) (by rw [← l]; exact r f)
  exact get_map I.kIn O (c.get f) c.hd n hu (handed_of ru) (h u _ (I.tok _) ru)
theorem getmeth_ok {m : Str} {g : Addr} {pl : Sem Bool} {Q : Value × List Value → Shared → Prop} (I : Inv X pins σ H s) (e : H a = some (.ins C dx fs)) (c : Cls X.K C) (k : Meth X.K C m g) (l : fs.lookup m = none)
    (h : Q (.ref g, [.ref a]) s) : wpAny (model X.prog X.w) A (getMethod (.ref a) m pl) Q E s := by
  obtain ⟨mA, O, r, _, _, _⟩ := ins_get I.hok e
  have hn : mA m = none := RelO.none_of (by rw [← l]; exact r m)
  exact get_meth I.kIn O (c.get m) k.at_ k.fn hn h
theorem setattr_ok {y : V} {u : Value} {Q : Unit → Shared → Prop} (I : Inv X pins σ H s) (e : H a = some (.ins C dx fs)) (c : Cls X.K C) (n : NoAttr X.K C f) (hl : fs.length < 1000) (ry : RelV y u)
    (h : ∀ s', Inv X pins σ (upd H a (.ins C dx (putF f y fs))) s' → Q () s') : wpAny (model X.prog X.w) A (setAttr (.ref a) f u) Q E s := by
  obtain ⟨mA, O, r, wi, _, ho⟩ := ins_get I.hok e
  have hz : (fs.map (·.1)).length ≤ sizeLine := by rw [List.length_map, sizeLine_eq]; omega
  refine set_map I.kIn O c.sa c.po n.taker c.hd wi hz fun h' O' sb => h _ ?_
  have hd : ∃ o, h'.get? dx = some o := let ⟨o, _, _, e', _⟩ := O'.ns; ⟨o, e'⟩
  refine I.write (x := a) (e := dx) (by rw [e]; exact True.intro) (.inr ho) (fun b q hb z => (sb.2 b hb).trans z) hd ?_
  refine ⟨by rw [upd_ne O.ne]; exact ho, ?_, O.ne, O'.obj, _, O'.ns, fun g => ?_, fun g hg => ?_⟩
  · have := length_putF f y fs; omega
  · show RelO ((putF f y fs).lookup g) (if g = f then some u else mA g)
    rw [lookup_putF]
    by_cases q : g = f
    · rw [if_pos q, if_pos q]; exact ry
    · rw [if_neg q, if_neg q]; exact r g
  · by_cases q : g = f
    · rw [q]; exact (keys_putF f y fs).1
    · refine (keys_putF f y fs).2 g (wi g fun z => hg ?_)
      show (if g = f then some u else mA g) = none
      rw [if_neg q]; exact z
theorem Inv.made (I : Inv X pins σ H s) : Inv X pins σ (upd (upd H s.heap.objs.size (.own (s.heap.objs.size + 1))) (s.heap.objs.size + 1) (.ins C s.heap.objs.size []))
    { s with heap := (s.heap.push PySem.W.emptyDict).push (PySem.W.instObj C s.heap.objs.size) } := by
  have e1 : (s.heap.push PySem.W.emptyDict).get? s.heap.objs.size = some PySem.W.emptyDict := Heap.get?_push_size s.heap rfl
  have e2 : ((s.heap.push PySem.W.emptyDict).push (PySem.W.instObj C s.heap.objs.size)).get? (s.heap.objs.size + 1) = some (PySem.W.instObj C s.heap.objs.size) := by
    have := Heap.get?_push_size (s.heap.push PySem.W.emptyDict) (o := PySem.W.instObj C s.heap.objs.size) rfl
    rwa [Heap.size_push] at this
  have e3 : (s.heap.push PySem.W.emptyDict).Ns s.heap.objs.size (fun _ => none) := ⟨PySem.W.emptyDict, #[], _, e1, rfl, (fun e he => absurd he (by simp)), fun _ => rfl⟩
  have I1 := I.laid (a := s.heap.objs.size) (o := .own (s.heap.objs.size + 1)) (h' := s.heap.push PySem.W.emptyDict) (t' := s.toks) (fun b u q => Heap.get?_push_of_some _ q) (Nat.le_refl _) ⟨_, e1⟩
  refine I1.laid (a := s.heap.objs.size + 1) (o := .ins C s.heap.objs.size []) (t' := s.toks) (fun b u q => Heap.get?_push_of_some _ q) (Nat.le_of_eq (Heap.size_push _ _)) ?_
  have ne : s.heap.objs.size ≠ s.heap.objs.size + 1 := Nat.ne_of_lt (Nat.lt_succ_self _)
  refine ⟨by rw [upd_ne ne, upd_same], Nat.zero_le _, ne, e2, fun _ => none, (Heap.Ns1.of_empty e3).at fun o q => Heap.get?_push_of_some _ q, fun _ => True.intro, fun y hy => absurd rfl hy⟩
theorem attr_of {prog : Program} {w : World} {env : Env} {e : Expr} {f : Str} {pos : Pos} {s : Shared} {Q : Value → Shared → Prop} (hb : attributeBase e f env (eval e env) = eval e env)
    (h : wpAny (model prog w) A (eval e env) (fun o s₁ => wpAny (model prog w) A (getAttr o f true) Q E s₁) E s) : wpAny (model prog w) A (eval (.Attribute e f pos) env) Q E s :=
  Attribute_any_ h (by rw [arm_eval_Attribute, hb])
end
noncomputable def tFld (K : PySem.W.Frag) (ta : TE) (f : Str) : TE := fun σ H Q => ta σ H fun x H1 => ∃ a C dx fs v, x = .ref a ∧ H1 a = some (.ins C dx fs) ∧ Cls K C ∧ NoAttr K C f ∧ fs.lookup f = some v ∧ Q v H1
noncomputable def sFld (K : PySem.W.Frag) (ta tv : TE) (f : Str) : TS := fun D σ H => tv σ H fun y H1 => ta σ H1 fun x H2 => ∃ a C dx fs, x = .ref a ∧ H2 a = some (.ins C dx fs) ∧ Cls K C ∧ NoAttr K C f ∧ fs.length < 1000 ∧
  D.nx σ (upd H2 a (.ins C dx (putF f y fs)))
noncomputable def InOp (X : Cx) (op : Operator) (rd : V → V → Hp → VK → Prop) : Prop :=
  ∀ (pins : List (Addr × Obj)) (s : Shared) (σ : St) (H : Hp) (x y : V) (u v : Value) (Q : VK), Inv X pins σ H s → RelV x u → RelV y v → rd x y H Q → wpAny (model X.prog X.w) X.A (inplaceOp op u v) (EP X pins σ Q) X.xe s
noncomputable def sFldAug (K : PySem.W.Frag) (ta tv : TE) (rd : V → V → Hp → VK → Prop) (f : Str) : TS := fun D σ H => ta σ H fun x H1 => ∃ a C dx fs v, x = .ref a ∧ H1 a = some (.ins C dx fs) ∧ Cls K C ∧ NoAttr K C f ∧ fs.lookup f = some v ∧
  tv σ H1 fun y H2 => rd v y H2 fun z H3 => ∃ dx' fs', H3 a = some (.ins C dx' fs') ∧ fs'.length < 1000 ∧ D.nx σ (upd H3 a (.ins C dx' (putF f z fs')))
section
variable {X : Cx} {o e value : Expr} {f : Str} {pos pos' tpos : Pos} {ta tv : TE}
theorem pe_fld (he : PE X e ta) (hb : attributeBase e f X.env (eval e X.env) = eval e X.env) : PE X (.Attribute e f pos) (tFld X.K ta f) := by
  intro pins s σ H Q I h
  refine attr_of hb (thn (he pins s σ H _ I h) fun u s1 ⟨x, H1, I1, rx, a, C, dx, fs, v, ex, ea, c, n, l, q⟩ => ?_)
  subst ex
  obtain rfl : u = Value.ref a := rx
  exact getattr_ok I1 ea c n l fun u' s2 I2 ru => ⟨v, H1, I2, ru, q⟩
theorem ps_fld (ha : PE X o ta) (hv : PE X value tv) (hs : swapsWith value (some (.Attribute o f pos')) pos.line X.env = pure false) : PS X (.Assign [.Attribute o f pos'] value pos) (sFld X.K ta tv f) := by
  intro pins s σ H D I h
  refine plainObj_wpAny_Assign_Attribute (thn (hv pins s σ H _ I h) fun u s1 ⟨y, H1, I1, ry, q⟩ => thn (ha pins s1 σ H1 _ I1 q) fun ov s2 ⟨x, H2, I2, rx, a, C, dx, fs, ex, ea, c, n, l, q2⟩ => ?_) hs
  subst ex
  obtain rfl : ov = Value.ref a := rx
  exact setattr_ok I2 ea c n l ry fun s3 I3 => ⟨σ, _, I3, q2⟩
theorem ps_fldaug {op : Operator} {rd : V → V → Hp → VK → Prop} (ha : PE X o ta) (hv : PE X value tv) (hop : InOp X op rd) : PS X (.AugAssign (.Attribute o f tpos) op value pos) (sFldAug X.K ta tv rd f) := by
  intro pins s σ H D I h
  refine wpAny_AugAssign_AttributeAny (thn (ha pins s σ H _ I h) fun ov s1 ⟨x, H1, I1, rx, a, C, dx, fs, v, ex, ea, c, n, l, q⟩ => ?_)
  subst ex
  obtain rfl : ov = Value.ref a := rx
  refine getattr_ok I1 ea c n l fun u s2 I2 ru => thn (hv pins s2 σ H1 _ I2 q) fun w3 s3 ⟨y, H2, I3, ry, q3⟩ => thn (hop pins s3 σ H2 v y u w3 _ I3 ru ry q3) fun w4 s4 ⟨z, H3, I4, rz, dx', fs', ea', l', q4⟩ => ?_
  exact setattr_ok I4 ea' c n l' rz fun s5 I5 => ⟨σ, _, I5, q4⟩
theorem methcall_of {pl : Sem Bool} {m : Str} {apos : Pos} {args : List Expr} {pins : List (Addr × Obj)} {s : Shared} {σ : St} {H : Hp} {Q : Value → Shared → Prop} {te : TE} (he : PE X e te) (I : Inv X pins σ H s)
    (h : te σ H fun x H1 => ∃ a C dx fs g, x = .ref a ∧ H1 a = some (.ins C dx fs) ∧ Cls X.K C ∧ Meth X.K C m g ∧ fs.lookup m = none ∧
      ∀ s1, Inv X pins σ H1 s1 → wpAny (model X.prog X.w) X.A (callWith pos (.ref g) [.ref a] (backTo pos (starEach args X.env)) (backToKw pos (keywordEach [] X.env))) Q X.xe s1)
    (ht : eval (.Call (.Attribute e m apos) args [] pos) X.env = (do
      let ov ← eval e X.env
      standAt apos.atName
      let (f, first) ← holding [ov] (getMethod ov m pl)
      callWith pos f first (backTo pos (starEach args X.env)) (backToKw pos (keywordEach [] X.env)))) :
    wpAny (model X.prog X.w) X.A (eval (.Call (.Attribute e m apos) args [] pos) X.env) Q X.xe s := by
  refine PySem.W.methodCall_KW (pl := pl) (thn (he pins s σ H _ I h) fun u s1 ⟨x, H1, I1, rx, a, C, dx, fs, g, ex, ea, c, k, l, q⟩ => ?_) ht
  subst ex
  obtain rfl : u = Value.ref a := rx
  exact getmeth_ok I1 ea c k l (q s1 I1)
end
section
variable {X : Cx} {pins : List (Addr × Obj)} {σ : St} {H : Hp} {s : Shared} {A : Around} {E : Value → Shared → Prop} {Q : Value → Shared → Prop} {c : Value} {b : Bool}
inductive TyOf (K : PySem.W.Frag) (H : Hp) : V → Value → Prop where
  | non : TyOf K H .non (.type "NoneType")
  | bl (x : Bool) : TyOf K H (.bl x) (.type "bool")
  | int (i : Int) : TyOf K H (.int i) (.type "int")
  | str (x : Str) : TyOf K H (.str x) (.type "str")
  | flt (x : UInt64) : TyOf K H (.flt x) (.type "float")
  | lst {a : Addr} {xs : List V} (e : H a = some (.lst xs)) : TyOf K H (.ref a) (.type "list")
  | frz {a : Addr} {o : Obj} {xs : List V} (e : H a = some (.frz o (.lst xs))) : TyOf K H (.ref a) (.type "list")
  | tup {a : Addr} {xs : List V} (e : H a = some (.tup xs)) : TyOf K H (.ref a) (.type "tuple")
  | dK {a : Addr} {kvs : List (Key × V)} (e : H a = some (.dK kvs)) : TyOf K H (.ref a) (.type "dict")
  | dT {a : Addr} {kvs : List (List Key × V)} (e : H a = some (.dT kvs)) : TyOf K H (.ref a) (.type "dict")
  | ins {a C dx : Addr} {fs : List (Str × V)} (e : H a = some (.ins C dx fs)) (cl : Cls K C) (ha : PySem.W.findIn K (.ref C) "__class__" = some (some (.builtin "object.__class__")))
      (hn : PySem.W.specialIn K (.builtin "object.__class__") "__get__" = some (some (.builtin "getset_descriptor.__get__"))) (htk : PySem.W.takesIn K (.builtin "object.__class__") = some true)
      (hm : PySem.W.mroIn K C (.type "object") = some true) : TyOf K H (.ref a) (.ref C)
theorem isinst_ok {x : V} {u t : Value} (I : Inv X pins σ H s) (rx : RelV x u) (ty : TyOf X.K H x t) (e : PySem.W.kitOne X.K t c = some b) (h : ∀ tk, Q (.bool b) { s with toks := tk }) :
    wpAny (model X.prog X.w) A (call (.builtin "isinstance") [u, c]) Q E s := by
  cases ty with
  | non => cases (show u = Value.none from rx); exact PySem.W.kia_one PySem.W.kitx_none I.kIn True.intro e (fun z => nomatch z) h
  | bl y => cases (show u = Value.bool y from rx); exact PySem.W.kia_one PySem.W.kitx_bool I.kIn True.intro e (fun z => nomatch z) h
  | int i => obtain ⟨t, q⟩ := (show ∃ t, u = Value.int i t from rx); cases q; exact PySem.W.kia_one PySem.W.kitx_int I.kIn True.intro e (fun z => nomatch z) h
  | str y => obtain ⟨t, q⟩ := (show ∃ t, u = Value.str y t from rx); cases q; exact PySem.W.kia_one PySem.W.kitx_str I.kIn True.intro e (fun z => nomatch z) h
  | flt y => obtain ⟨t, q⟩ := (show ∃ t, u = Value.float y t from rx); cases q; exact PySem.W.kia_one PySem.W.kitx_float I.kIn True.intro e (fun z => nomatch z) h
  | @lst a xs ea =>
    cases (show u = Value.ref a from rx)
    obtain ⟨_, _, n, _, h1⟩ := (show ObjOk X.prog X.w H s.heap a (.lst xs) from I.hok a _ ea)
    exact PySem.W.kia_one PySem.W.kitx_list I.kIn ⟨_, h1, rfl⟩ e (fun z => nomatch z) h
  | @frz a ob xs ea =>
    cases (show u = Value.ref a from rx)
    obtain ⟨_, _, _, n, _, h1⟩ := (show ObjOk X.prog X.w H s.heap a (.frz ob (.lst xs)) from I.hok a _ ea)
    exact PySem.W.kia_one PySem.W.kitx_list I.kIn ⟨_, h1, rfl⟩ e (fun z => nomatch z) h
  | @tup a xs ea =>
    cases (show u = Value.ref a from rx)
    obtain ⟨_, _, _, p⟩ := (show ObjOk X.prog X.w H s.heap a (.tup xs) from I.hok a _ ea)
    obtain ⟨o, h1, h2, _⟩ := p
    exact PySem.W.kia_one PySem.W.kitx_tuple I.kIn ⟨o, h1, h2⟩ e (fun z => nomatch z) h
  | @dK a kvs ea =>
    cases (show u = Value.ref a from rx)
    obtain ⟨_, _, vs, _, p⟩ := (show ObjOk X.prog X.w H s.heap a (.dK kvs) from I.hok a _ ea)
    obtain ⟨o, es, ep, h1, h2, _⟩ := p
    exact PySem.W.kia_one PySem.W.kitx_dict I.kIn ⟨o, h1, h2.1⟩ e (fun z => nomatch z) h
  | @dT a kvs ea =>
    cases (show u = Value.ref a from rx)
    obtain ⟨_, _, xs, _, o, es, ep, h1, h2, _⟩ := (show ObjOk X.prog X.w H s.heap a (.dT kvs) from I.hok a _ ea)
    exact PySem.W.kia_one PySem.W.kitx_dict I.kIn ⟨o, h1, h2.1⟩ e (fun z => nomatch z) h
  | @ins a C dx fs ea cl ha hn htk hm =>
    cases (show u = Value.ref a from rx)
    obtain ⟨mA, O, _⟩ := ins_get I.hok ea
    obtain ⟨od, J, _⟩ := O.look
    exact PySem.W.kia_one (PySem.W.kitx_own (cl.get _) cl.hd ha hn htk hm) I.kIn J e (fun z => nomatch z) h
end
end L2
namespace L2
open PySem PySem.Spec PyProof.Rows
structure Room (k : Nat) (A : Around) : Prop where
  hd : A.handled = none
  dp : A.depth + 3 * k + 5 < recursionLimit
  un : A.units + 16 * k + 200 < cLine
theorem Room.mono {j k : Nat} {A : Around} (r : Room k A) (h : j ≤ k) : Room j A := ⟨r.hd, by have := r.dp; omega, by have := r.un; omega⟩
theorem Room.deeper {k : Nat} {A : Around} (r : Room (k + 1) A) (env : Env) : Room k (A.deeper env) :=
  ⟨r.hd, by have := r.dp; show A.depth + 1 + 3 * k + 5 < _; omega, by have := r.un; show A.units + 3 + 16 * k + 200 < _; omega⟩
theorem make_depth {A : Around} {C : Addr} {us : List Value} {kw : List (Str × Value)} : (A.under (.builtin "type.__call__" ⟨.ref C :: us, kw⟩)).depth = A.depth + 1 := by
  first | rfl | simp [Around.under, Code.weight, Code.isCreation, Code.isGuard, Code.isCaller, Code.frames, Code.isFrame, guardIds]
theorem make_units {A : Around} {C : Addr} {us : List Value} {kw : List (Str × Value)} : (A.under (.builtin "type.__call__" ⟨.ref C :: us, kw⟩)).units = A.units + 1 := by
  first | rfl | simp [Around.under, Code.cUnits, Code.frames, Code.isFrame]
theorem Room.make {k : Nat} {A : Around} (r : Room (k + 1) A) (C : Addr) (us : List Value) (kw : List (Str × Value)) : Room k (A.under (.builtin "type.__call__" ⟨.ref C :: us, kw⟩)) :=
  ⟨r.hd, by have := r.dp; rw [make_depth]; omega, by have := r.un; rw [make_units]; omega⟩
theorem Room.depth {k : Nat} {A : Around} (r : Room k A) : A.depth < recursionLimit := by have := r.dp; omega
theorem Room.units {k : Nat} {A : Around} (r : Room k A) : A.units + 64 < cLine := by have := r.un; omega
theorem Room.units0 {k : Nat} {A : Around} (r : Room k A) : A.units < cLine := by have := r.un; omega
noncomputable def tNil : TA := fun _ H Q => Q [] H
noncomputable def tCons (ta : TE) (tr : TA) : TA := fun σ H Q => ta σ H fun x H1 => tr σ H1 fun xs H2 => Q (x :: xs) H2
section
variable {X : Cx} {e : Expr} {es : List Expr} {te : TE} {t : TA} {pos : Pos}
theorem pa_nil : PA X [] tNil := fun _ _ _ _ H Q I h => Calls.spliced_nil ⟨[], H, I, .nil, h⟩
theorem pa_cons (ha : PE X e te) (hr : PA X es t) (hs : starEach (e :: es) X.env = (false, eval e X.env) :: starEach es X.env := by rfl) : PA X (e :: es) (tCons te t) := by
  intro pos pins s σ H Q I h
  rw [hs]
  show wpAny _ _ (spliced ((false, eval e X.env) :: backTo pos (starEach es X.env))) _ _ s
  refine Calls.spliced_cons (thn (ha pins s σ H _ I h) fun u s1 ⟨x, H1, I1, r1, q1⟩ => ?_)
  exact thn (hr pos pins s1 σ H1 _ I1 q1) fun us s2 ⟨xs, H2, I2, r2, q2⟩ => ⟨x :: xs, H2, I2, .cons r1 r2, q2⟩
noncomputable def tTup (t : TA) : TE := fun σ H Q => t σ H fun xs H1 => xs.length ≤ sizeLine ∧ ∀ p, H1 p = none → Q (.ref p) (upd H1 p (.tup xs))
noncomputable def tLst (t : TA) : TE := fun σ H Q => t σ H fun xs H1 => xs.length ≤ sizeLine ∧ ∀ p, H1 p = none → Q (.ref p) (upd H1 p (.lst xs))
theorem pe_tup {x1} (h : PA X es t) : PE X (.Tuple es x1 pos) (tTup t) := by
  intro pins s σ H Q I hq
  refine wpAny_Tuple_spliced (thn (h pos pins s σ H _ I hq) fun us s1 ⟨xs, H1, I1, r, z, q⟩ => ⟨by rw [← r.length]; exact z, ?_⟩)
  have hf : H1 s1.heap.objs.size = none := I1.hok.fresh (Nat.le_refl _)
  refine ⟨.ref s1.heap.objs.size, upd H1 s1.heap.objs.size (.tup xs), I1.laid (t' := s1.toks) (fun b u e => Heap.get?_push_of_some _ e) (Nat.le_refl _) ?_, rfl, q _ hf⟩
  exact ⟨z, us, r, ⟨_, Heap.get?_push_size _ rfl, rfl, _, rfl⟩⟩
theorem pe_lst (h : PA X es t) : PE X (.List es pos) (tLst t) := by
  intro pins s σ H Q I hq
  refine wpAny_List_spliced (thn (h pos pins s σ H _ I hq) fun us s1 ⟨xs, H1, I1, r, z, q⟩ => ⟨by rw [← r.length]; exact z, ?_⟩)
  have hf : H1 s1.heap.objs.size = none := I1.hok.fresh (Nat.le_refl _)
  refine ⟨.ref s1.heap.objs.size, upd H1 s1.heap.objs.size (.lst xs), I1.laid (t' := s1.toks) (fun b u e => Heap.get?_push_of_some _ e) (Nat.le_refl _) ?_, rfl, q _ hf⟩
  exact ⟨z, us, 0, r, Heap.get?_push_size _ rfl⟩
end
noncomputable abbrev Sp := List V → Hp → VK → XK → Prop
noncomputable abbrev CXT := List Env → Hp → Shared → XK → Value → Shared → Prop
structure Env0 (P : Program) (w : World) (K : PySem.W.Frag) (mg : Str → Option Value) (base : Heap) (A : Around) (outer : List Env) (s : Shared) (H : Hp) : Prop where
  frames : A.frames = some outer
  mod : Mod K mg base
  bs : ∀ b o, base.get? b = some o → s.heap.get? b = some o ∧ H b = none
  bsz : base.objs.size ≤ s.heap.objs.size
  funs : s.heap.FunFrames base outer
  frf : ∀ b ∈ frs outer, H b = none
  hok : HOk P w H s.heap
  bare : AllBare s.gens
noncomputable def CE (outer : List Env) (P : Program) (w : World) (H : Hp) (s : Shared) (Q : VK) (u : Value) (s' : Shared) : Prop :=
  ∃ v H', s'.os = s.os ∧ AllBare s'.gens ∧ Un (frs outer) [] H H' s.heap s'.heap ∧ HOk P w H' s'.heap ∧ RelV v u ∧ Q v H'
noncomputable def CR (CX : CXT) (outer : List Env) (P : Program) (w : World) (H : Hp) (s : Shared) (Q : VK) (E : XK) (r : Result) (s' : Shared) : Prop :=
  match r with
  | .ok (.ret u) => CE outer P w H s Q u s'
  | .ok _ => False
  | .error e => CX outer H s E e s'
structure FnOk (P : Program) (w : World) (K : PySem.W.Frag) (mg : Str → Option Value) (base : Heap) (CX : CXT) (k : Nat) (f : Addr) (fd : FuncData) (ps : List Str) (sp : Sp) : Prop where
  len : ∀ vs H Q E, sp vs H Q E → vs.length = ps.length
  run : ∀ (A : Around) (outer : List Env) (s : Shared) (H : Hp) (args : Args) (us : List Value) (vs : List V) (Q : VK) (E : XK), Room k A → Env0 P w K mg base A outer s H → BindsTo s fd args (ps.zip us) → Vals vs us → sp vs H Q E →
    codeAny (model P w) A (.call (.ref f) args) (CR CX outer P w H s Q E) s
theorem FnOk.mono {P : Program} {w : World} {K : PySem.W.Frag} {mg : Str → Option Value} {base : Heap} {CX : CXT} {j k : Nat} {f : Addr} {fd : FuncData} {ps : List Str} {sp : Sp} (F : FnOk P w K mg base CX j f fd ps sp) (h : j ≤ k) :
    FnOk P w K mg base CX k f fd ps sp := ⟨F.len, fun A outer s H args us vs Q E hr => F.run A outer s H args us vs Q E (hr.mono h)⟩
theorem Env0.make {P : Program} {w : World} {K : PySem.W.Frag} {mg : Str → Option Value} {base : Heap} {A : Around} {outer : List Env} {s : Shared} {H : Hp} (e : Env0 P w K mg base A outer s H) (C : Addr) (us : List Value) (kw : List (Str × Value)) :
    Env0 P w K mg base (A.under (.builtin "type.__call__" ⟨.ref C :: us, kw⟩)) outer s H := ⟨by first | exact e.frames | (simpa [Around.under, Code.envs, Code.isFrame, pushEnvs] using e.frames), e.mod, e.bs, e.bsz, e.funs, e.frf, e.hok, e.bare⟩
section
variable {X : Cx} {pins : List (Addr × Obj)} {σ : St} {H : Hp} {s s' : Shared}
theorem Inv.env0 (I : Inv X pins σ H s) : Env0 X.prog X.w X.K X.mg X.base X.A X.stack s H :=
  ⟨I.ok.frames, I.ok.mod, I.bs, Nat.le_trans I.ok.bsz I.sz, I.stack, I.stkFree, I.hok, I.bare⟩
theorem Inv.after {Q : VK} {u : Value} (I : Inv X pins σ H s) (h : CE X.stack X.prog X.w H s Q u s') : EP X pins σ Q u s' := by
  obtain ⟨v, H', os, bare, un, hok, r, q⟩ := h
  obtain ⟨hh, g, d, t, os'⟩ := s'
  obtain rfl : os' = s.os := os
  exact ⟨v, H', I.call (h' := hh) (g' := g) (d' := d) (t' := t) (ch := []) un hok bare (fun b z => absurd z (by simp)), r, q⟩
end
noncomputable def tCall (sp : Sp) (dvs : List V) (E : XK) (t : TA) : TE := fun σ H Q => t σ H fun vs H1 => sp (vs ++ dvs) H1 Q E
noncomputable def tMeth (C : Addr) (m : Str) (sp : Sp) (dvs : List V) (E : XK) (ta : TE) (t : TA) : TE := fun σ H Q => ta σ H fun x H1 => ∃ a dx fs, x = .ref a ∧ H1 a = some (.ins C dx fs) ∧ fs.lookup m = none ∧
  t σ H1 fun vs H2 => sp (x :: (vs ++ dvs)) H2 Q E
noncomputable def tMake (C : Addr) (sp : Sp) (dvs : List V) (E : XK) (t : TA) : TE := fun σ H Q => t σ H fun vs H1 => ∀ x dx, H1 x = none → H1 dx = none → dx ≠ x →
  sp (.ref x :: (vs ++ dvs)) (upd (upd H1 dx (.own x)) x (.ins C dx [])) (fun v H2 => v = .non ∧ Q (.ref x) H2) E
noncomputable def Binds (K : PySem.W.Frag) (fd : FuncData) (ps : List Str) (ds : List Value) : Prop :=
  ∀ (s : Shared) (us : List Value), K.In s.heap → (us ++ ds).length = ps.length → BindsTo s fd ⟨us, []⟩ (ps.zip (us ++ ds))
theorem Binds.all {K : PySem.W.Frag} {fd : FuncData} {ps : List Str} (h : ∀ us : List Value, us.length = ps.length → bindArgs fd ⟨us, []⟩ = pure (ps.zip us)) : Binds K fd ps [] := fun s us _ hl => by
  rw [List.append_nil] at hl ⊢
  exact .of_eq (h us hl)
noncomputable def Passes (CX : CXT) (X : Cx) (E : XK) : Prop := ∀ (pins : List (Addr × Obj)) (σ : St) (H : Hp) (s : Shared) (e : Value) (s' : Shared), Inv X pins σ H s → CX X.stack H s E e s' → X.xe e s'
section
variable {X : Cx} {CX : CXT} {k : Nat} {f C : Addr} {fd : FuncData} {ps : List Str} {sp : Sp} {dvs : List V} {ds : List Value} {E : XK} {x m : Str} {p pos apos : Pos} {e o : Expr} {es : List Expr} {ta : TE} {t : TA}
theorem run_fn {pins : List (Addr × Obj)} {σ : St} {H : Hp} {s : Shared} {Q : VK} {us : List Value} {vs : List V} (F : FnOk X.prog X.w X.K X.mg X.base CX k f fd ps sp) (hr : Room k X.A) (hb : Binds X.K fd ps ds) (hd : Vals dvs ds) (hx : Passes CX X E)
    (I : Inv X pins σ H s) (r : Vals vs us) (h : sp (vs ++ dvs) H Q E) : wpAny (model X.prog X.w) X.A (call (.ref f) us) (EP X pins σ Q) X.xe s := by
  have r2 : Vals (vs ++ dvs) (us ++ ds) := r.append hd
  have hl : (us ++ ds).length = ps.length := by rw [← r2.length]; exact F.len _ _ _ _ h
  refine wpAny_call (codeAny_mono (F.run X.A X.stack s H ⟨us, []⟩ (us ++ ds) (vs ++ dvs) Q E hr I.env0 (hb s us I.kIn hl) r2 h) fun r s' hq => ?_)
  cases r with
  | error e => exact hx pins σ H s e s' I hq
  | ok fl =>
    cases fl with
    | ret u => exact I.after hq
    | next => exact False.elim hq
    | brk => exact False.elim hq
    | cont => exact False.elim hq
theorem pe_call (F : FnOk X.prog X.w X.K X.mg X.base CX k f fd ps sp) (hr : Room k X.A) (hg : Gl X x) (hm : X.mg x = some (.ref f)) (hk : PySem.W.keepIn X.K (.ref f) = true) (hb : Binds X.K fd ps ds) (hd : Vals dvs ds) (hx : Passes CX X E)
    (ha : PA X (e :: es) t) (hdb : (x == ("__debug__" : Str)) = false := by decide) (he : starEach (e :: es) X.env = (false, eval e X.env) :: starEach es X.env := by rfl) (hpl : (backTo pos (starEach es X.env)).any (·.1) = false := by rfl) :
    PE X (.Call (.Name x p) (e :: es) [] pos) (tCall sp dvs E t) := by
  intro pins s σ H Q I h
  refine wpAny_Call_Name_kw (ld_glob I hg hm ?_ hdb)
  refine PySem.W.callWith_K (h₀ := X.base) I.ok.mod.kin hk (thn (ha pos pins s σ H _ I h) fun us s1 ⟨vs, H1, I1, r, q⟩ => ⟨I1.kIn, ?_⟩) he hpl
  exact run_fn F hr hb hd hx I1 r q
theorem pe_meth {pl : Sem Bool} (he : PE X o ta) (c : Cls X.K C) (hm : Meth X.K C m f) (F : FnOk X.prog X.w X.K X.mg X.base CX k f fd ps sp) (hr : Room k X.A) (hb : Binds X.K fd ps ds) (hd : Vals dvs ds) (hx : Passes CX X E) (ha : PA X (e :: es) t)
    (hst : starEach (e :: es) X.env = (false, eval e X.env) :: starEach es X.env := by rfl) (hpl : (backTo pos (starEach es X.env)).any (·.1) = false := by rfl)
    (ht : eval (.Call (.Attribute o m apos) (e :: es) [] pos) X.env = (do
      let ov ← eval o X.env
      standAt apos.atName
      let (f, first) ← holding [ov] (getMethod ov m pl)
      callWith pos f first (backTo pos (starEach (e :: es) X.env)) (backToKw pos (keywordEach [] X.env))) := by rfl) :
    PE X (.Call (.Attribute o m apos) (e :: es) [] pos) (tMeth C m sp dvs E ta t) := by
  intro pins s σ H Q I h
  refine PySem.W.methodCall_KW (pl := pl) (thn (he pins s σ H _ I h) fun u s1 ⟨x, H1, I1, rx, a, dx, fs, ex, ea, l, q⟩ => ?_) ht
  subst ex
  obtain rfl : u = Value.ref a := rx
  refine getmeth_ok I1 ea c hm l ?_
  refine PySem.W.callWith_K (first := [.ref a]) (h₀ := X.base) I.ok.mod.kin hm.kp (thn (ha pos pins s1 σ H1 _ I1 q) fun us s2 ⟨vs, H2, I2, r, q2⟩ => ⟨I2.kIn, ?_⟩) hst hpl
  exact run_fn (us := .ref a :: us) (vs := .ref a :: vs) F hr hb hd hx I2 (.cons rfl r) q2
theorem pe_meth0 {pl : Sem Bool} (he : PE X o ta) (c : Cls X.K C) (hm : Meth X.K C m f) (F : FnOk X.prog X.w X.K X.mg X.base CX k f fd ps sp) (hr : Room k X.A) (hb : Binds X.K fd ps ds) (hd : Vals dvs ds) (hx : Passes CX X E)
    (ht : eval (.Call (.Attribute o m apos) [] [] pos) X.env = (do
      let ov ← eval o X.env
      standAt apos.atName
      let (f, first) ← holding [ov] (getMethod ov m pl)
      callWith pos f first (backTo pos (starEach [] X.env)) (backToKw pos (keywordEach [] X.env))) := by rfl) :
    PE X (.Call (.Attribute o m apos) [] [] pos) (tMeth C m sp dvs E ta tNil) := by
  intro pins s σ H Q I h
  refine PySem.W.methodCall_KW (pl := pl) (thn (he pins s σ H _ I h) fun u s1 ⟨x, H1, I1, rx, a, dx, fs, ex, ea, l, q⟩ => ?_) ht
  subst ex
  obtain rfl : u = Value.ref a := rx
  refine getmeth_ok I1 ea c hm l ?_
  exact PySem.W.callWith_K0 (first := [.ref a]) I1.kIn hm.kp (run_fn (us := [.ref a]) (vs := [.ref a]) F hr hb hd hx I1 (.cons rfl .nil) q)
structure Mk (K : PySem.W.Frag) (C f : Addr) : Prop where
  makes : PySem.W.makesIn K C = true
  init : PySem.W.findIn K (.ref C) "__init__" = some (some (.ref f))
  fn : PySem.W.isFn K (.ref f) = true
  kp : PySem.W.keepIn K (.ref C) = true
theorem run_make {pins : List (Addr × Obj)} {σ : St} {H : Hp} {s : Shared} {Q : VK} {us : List Value} {vs : List V} (M : Mk X.K C f) (F : FnOk X.prog X.w X.K X.mg X.base CX k f fd ps sp) (hr : Room (k + 1) X.A) (hb : Binds X.K fd ps ds) (hd : Vals dvs ds)
    (hx : Passes CX X E) (I : Inv X pins σ H s) (r : Vals vs us)
    (h : ∀ x dx, H x = none → H dx = none → dx ≠ x → sp (.ref x :: (vs ++ dvs)) (upd (upd H dx (.own x)) x (.ins C dx [])) (fun v H2 => v = .non ∧ Q (.ref x) H2) E) :
    wpAny (model X.prog X.w) X.A (call (.ref C) us) (EP X pins σ Q) X.xe s := by
  have hq := h (s.heap.objs.size + 1) s.heap.objs.size (I.hok.fresh (Nat.le_succ _)) (I.hok.fresh (Nat.le_refl _)) (Nat.ne_of_lt (Nat.lt_succ_self _))
  have I2 := Inv.made (C := C) I
  have r2 : Vals (V.ref (s.heap.objs.size + 1) :: (vs ++ dvs)) (Value.ref (s.heap.objs.size + 1) :: (us ++ ds)) := .cons rfl (r.append hd)
  have hl : (Value.ref (s.heap.objs.size + 1) :: us ++ ds).length = ps.length := by
    have e := r2.length
    rw [F.len _ _ _ _ hq] at e
    exact e.symm
  refine wpAny_call (make_map (f := f) I.kIn M.makes M.init (beq_iff_eq.mp M.fn) (codeAny_mono (F.run _ X.stack _ _ ⟨Value.ref (s.heap.objs.size + 1) :: us, []⟩ (Value.ref (s.heap.objs.size + 1) :: (us ++ ds)) _ _ E (hr.make C us [])
    (I2.env0.make C us []) (hb _ (Value.ref (s.heap.objs.size + 1) :: us) I2.kIn hl) r2 hq) fun r s' hq' => ?_))
  cases r with
  | error e => exact hx pins σ _ _ e s' I2 hq'
  | ok fl =>
    cases fl with
    | ret u =>
      obtain ⟨v, H', I3, rv, ev, q3⟩ := I2.after hq'
      subst ev
      exact ⟨rv, ⟨V.ref (s.heap.objs.size + 1), H', I3, rfl, q3⟩⟩
    | next => exact False.elim hq'
    | brk => exact False.elim hq'
    | cont => exact False.elim hq'
theorem pe_make0 (M : Mk X.K C f) (F : FnOk X.prog X.w X.K X.mg X.base CX k f fd ps sp) (hr : Room (k + 1) X.A) (hg : Gl X x) (hm : X.mg x = some (.ref C)) (hb : Binds X.K fd ps ds) (hd : Vals dvs ds) (hx : Passes CX X E)
    (hdb : (x == ("__debug__" : Str)) = false := by decide) : PE X (.Call (.Name x p) [] [] pos) (tMake C sp dvs E tNil) := by
  intro pins s σ H Q I h
  refine wpAny_Call_Name_kw (ld_glob I hg hm ?_ hdb)
  exact PySem.W.callWith_K0 I.kIn M.kp (run_make (us := []) M F hr hb hd hx I .nil h)
end
section
variable {X : Cx} {CX : CXT} {k : Nat} {f C : Addr} {fd : FuncData} {ps ks : List Str} {sp : Sp} {E : XK} {x m : Str} {p pos apos kpos : Pos} {e o : Expr} {es : List Expr} {kws : List Keyword} {te ta : TE} {t tk : TA} {nm : Option Str}
variable {g : List Value → List Value → List Value} {gV : List V → List V → List V}
end
structure FnScope (N P : List Str) (sc : Scope) : Prop where
  kind : sc.kind = .function
  co : sc.isCoroutine = false
  gen : sc.isGenerator = false
  nd : N.Nodup
  pre : N.take P.length = P
  par : ∀ x ∈ P, sc.names.lookup x = some .local ∨ sc.names.lookup x = some .cell
  nofree : ∀ y ∈ sc.names, y.2 ≠ .free
theorem bindL_out {kindOf : Str → Option NameKind} {x : Str} : ∀ {binds : List (Str × Value)} {m : Str → Option Value}, (∀ v, (x, v) ∉ binds) → bindL kindOf binds m x = m x
  | [], _, _ => rfl
  | (n, v) :: r, m, h => by
    unfold bindL
    rw [bindL_out fun w hw => h w (List.mem_cons_of_mem _ hw)]
    split
    · have : x ≠ n := by rintro rfl; exact h v List.mem_cons_self
      simp [this]
    · rfl
theorem bindC_out {kindOf : Str → Option NameKind} {x : Str} : ∀ {binds : List (Str × Value)} {m : Str → Option Value}, (∀ v, (x, v) ∉ binds) → bindC kindOf binds m x = m x
  | [], _, _ => rfl
  | (n, v) :: r, m, h => by
    unfold bindC
    rw [bindC_out fun w hw => h w (List.mem_cons_of_mem _ hw)]
    split
    · rfl
    · have : x ≠ n := by rintro rfl; exact h v List.mem_cons_self
      simp [this]
theorem bindL_get {kindOf : Str → Option NameKind} {x : Str} {v : Value} : ∀ {P : List Str} {vs : List Value} {i : Nat} {m : Str → Option Value}, P.Nodup → P[i]? = some x → vs[i]? = some v → kindOf x = some .local →
    bindL kindOf (P.zip vs) m x = some v
  | [], _, _, _, _, h, _, _ => by simp at h
  | _ :: _, [], _, _, _, _, h, _ => by simp at h
  | p :: P, w :: vs, 0, m, nd, h1, h2, hk => by
    simp at h1 h2; subst h1; subst h2
    show bindL kindOf ((p, w) :: P.zip vs) m p = _
    unfold bindL
    rw [bindL_out fun v hv => (List.nodup_cons.mp nd).1 (List.of_mem_zip hv).1, if_pos hk]
    simp
  | p :: P, w :: vs, i + 1, m, nd, h1, h2, hk => by
    show bindL kindOf ((p, w) :: P.zip vs) m x = _
    unfold bindL
    exact bindL_get (i := i) (List.nodup_cons.mp nd).2 (by simpa using h1) (by simpa using h2) hk
theorem bindC_get {kindOf : Str → Option NameKind} {x : Str} {v : Value} : ∀ {P : List Str} {vs : List Value} {i : Nat} {m : Str → Option Value}, P.Nodup → P[i]? = some x → vs[i]? = some v → kindOf x ≠ some .local →
    bindC kindOf (P.zip vs) m x = some v
  | [], _, _, _, _, h, _, _ => by simp at h
  | _ :: _, [], _, _, _, _, h, _ => by simp at h
  | p :: P, w :: vs, 0, m, nd, h1, h2, hk => by
    simp at h1 h2; subst h1; subst h2
    show bindC kindOf ((p, w) :: P.zip vs) m p = _
    unfold bindC
    rw [bindC_out fun v hv => (List.nodup_cons.mp nd).1 (List.of_mem_zip hv).1, if_neg hk]
    simp
  | p :: P, w :: vs, i + 1, m, nd, h1, h2, hk => by
    show bindC kindOf ((p, w) :: P.zip vs) m x = _
    unfold bindC
    exact bindC_get (i := i) (List.nodup_cons.mp nd).2 (by simpa using h1) (by simpa using h2) hk
noncomputable def start (N : List Str) (vs : List V) : St := vs.map some ++ List.replicate (N.length - vs.length) none
noncomputable def cxOf (CX : CXT) (P : Program) (w : World) (K : PySem.W.Frag) (mg : Str → Option Value) (base : Heap) (N : List Str) (qual : Str) (scope : Scope) (f : Addr) (cd : Value) (A : Around) (outer : List Env) (s : Shared) (H : Hp) (E : XK) : Cx where
  prog := P
  w := w
  K := K
  mg := mg
  base := base
  A := A.deeper (envOfC qual scope s.heap.objs.size f cd)
  N := N
  s₀ := s
  H₀ := H
  env := envOfC qual scope s.heap.objs.size f cd
  outer := outer
  stack := envOfC qual scope s.heap.objs.size f cd :: outer
  ex := []
  calm := true
  fn := fun _ => true
  pn := []
  xe := fun e s' => wpAny (model P w) (A.deeper (envOfC qual scope s.heap.objs.size f cd)) (leaving (envOfC qual scope s.heap.objs.size f cd) e) (fun _ s'' => CX outer H s E e s'') (fun e' s'' => CX outer H s E e' s'') s'
theorem cell_has {sc : Scope} {n : Nat} {x : Str} (h : sc.names.lookup x = some .cell) : ∃ c, (cellsFrom n sc.names []).lookup x = some c := by
  have q := PySem.W.cellsFrom_some sc.names n [] (.inl h)
  exact Option.isSome_iff_exists.mp q
theorem inv_start {CX : CXT} {P : Program} {w : World} {K : PySem.W.Frag} {mg : Str → Option Value} {base : Heap} {N ps : List Str} {qual : Str} {scope : Scope} {f : Addr} {cd : Value} {A : Around} {outer : List Env} {s s1 : Shared} {H : Hp} {E : XK} {us : List Value} {vs : List V}
    (S : FnScope N ps scope) (hd : A.handled = none) (e0 : Env0 P w K mg base A outer s H) (hl : vs.length = ps.length) (r : Vals vs us)
    (x : InCallC s s.heap.objs.size (bindL (envOfC qual scope s.heap.objs.size f cd).kindOf (ps.zip us) fun _ => none) (cellsFrom (s.heap.objs.size + 1) scope.names []) (bindC (envOfC qual scope s.heap.objs.size f cd).kindOf (ps.zip us) fun _ => none) s1) :
    Inv (cxOf CX P w K mg base N qual scope f cd A outer s H E) [] (start N vs) H s1 := by
  have hpl : ps.length ≤ N.length := by have := congrArg List.length S.pre; rw [List.length_take] at this; omega
  obtain ⟨h1, tk, rfl, hk⟩ := x.done
  have noA : ∀ b : Addr, b ∉ (cxOf CX P w K mg base N qual scope f cd A outer s H E).ex := fun b z => absurd (show b ∈ ([] : List Addr) from z) (by simp)
  refine ⟨⟨e0.mod, S.kind, rfl, rfl, Nat.le_refl _, fun y z c h1 h2 => ?_, fun y hy => ?_, fun y c _ h => ?_, fun _ => hd, Around.frames_deeper e0.frames, .inr ⟨rfl, rfl⟩, fun b z => absurd z (noA b), e0.bs, e0.bsz, fun b _ _ => noA b, fun b z => absurd z (noA b), e0.funs, e0.frf⟩,
    rfl, e0.bare, Un.kept hk, ⟨_, x.toInCall.ns, fun i y v h1 h2 h3 => ?_⟩, fun y c h => ⟨_, x.cell y c h⟩, e0.hok.fresh (Nat.le_refl _), fun y c h => ?_, fun p hp => absurd (show p ∈ ([] : List (Addr × Obj)) from hp) (by simp), e0.hok.kept hk, ?_⟩
  · exact name_of_addr x.apart (PySem.mem_of_lookup h1) (PySem.mem_of_lookup h2)
  · have hy : scope.names.lookup y = some .cell ∨ scope.names.lookup y = some .free := hy
    rcases hy with hy | hy
    · exact cell_has hy
    · exact absurd rfl (S.nofree _ (PySem.mem_of_lookup hy))
  · exact Nat.le_of_lt (x.above y c (PySem.mem_of_lookup h))
  · have hi : i < vs.length := by
      unfold start at h2
      by_cases hi : i < vs.length
      · exact hi
      · rw [List.getElem?_append_right (by simpa using hi)] at h2
        rw [List.getElem?_replicate] at h2
        split at h2 <;> cases h2
    have ha : vs[i]? = some v := by
      unfold start at h2
      rw [List.getElem?_append_left (by simpa using hi), List.getElem?_map] at h2
      cases e : vs[i]? with
      | none => rw [e] at h2; cases h2
      | some a => rw [e] at h2; cases h2; rfl
    obtain ⟨u, hu, rv⟩ := r.get ha
    have hp : ps[i]? = some y := by
      rw [← S.pre, List.getElem?_take_of_lt (by omega)]; exact h1
    have ndP : ps.Nodup := by rw [← S.pre]; exact S.nd.sublist (List.take_sublist _ _)
    refine ⟨u, rv, ?_⟩
    rcases S.par y (List.mem_of_getElem? hp) with k | k
    · exact .inl ⟨k, bindL_get ndP hp hu k⟩
    · obtain ⟨c, e⟩ := cell_has (n := s.heap.objs.size + 1) k
      refine .inr ⟨.inl k, c, e, ?_⟩
      have q := x.cell y c e
      rw [bindC_get ndP hp hu (by show scope.names.lookup y ≠ _; rw [k]; decide)] at q
      exact q
  · exact e0.hok.fresh (Nat.le_of_lt (x.above y c (PySem.mem_of_lookup h)))
  · unfold start
    show _ = N.length
    rw [List.length_append, List.length_map, List.length_replicate]
    omega
theorem fn_of {CX : CXT} {P : Program} {w : World} {K : PySem.W.Frag} {mg : Str → Option Value} {base : Heap} {k : Nat} {f : Addr} {name qual : Str} {params : Arguments} {body : List Stmt} {scope : Scope} {dV kV doc pm cdv ct oc : Value} {an od : Option Addr}
    {osl : Array (Option Value)} {N ps : List Str} {sp : Sp} (lk : K.lookup f = some ⟨oc, od, .func (PySem.W.fnOf name qual params body scope dV kV doc pm an cdv ct), osl⟩) (hcd : PySem.W.codeIn K cdv qual = true) (S : FnScope N ps scope)
    (len : ∀ vs H Q E, sp vs H Q E → vs.length = ps.length)
    (hbody : ∀ (A : Around) (outer : List Env) (s : Shared) (H : Hp) (vs : List V) (Q : VK) (E : XK), Room k (A.deeper (envOfC qual scope s.heap.objs.size f cdv)) → sp vs H Q E →
      ∃ t, PSs (cxOf CX P w K mg base N qual scope f cdv A outer s H E) body t ∧ t { nx := fun _ H' => Q .non H', rt := Q } (start N vs) H) :
    FnOk P w K mg base CX (k + 1) f (PySem.W.fnOf name qual params body scope dV kV doc pm an cdv ct) ps sp := by
  refine ⟨len, fun A outer s H args us vs Q E hr e0 hb r hsp => ?_⟩
  have hl := len _ _ _ _ hsp
  have KX : K.In s.heap := e0.mod.kin.keeps fun b o e => (e0.bs b o e).1
  have lim : s.heap.NoLimit := e0.mod.nolimit.keeps fun b o e => (e0.bs b o e).1
  have hkind : ∀ y ∈ ps.zip us, scope.names.lookup y.1 = some .local ∨ (scope.names.lookup y.1 = some .cell ∧ ((cellsFrom (s.heap.objs.size + 1) scope.names []).lookup y.1).isSome = true) := fun ⟨n, v⟩ hy => by
    rcases S.par n (List.of_mem_zip hy).1 with q | q
    · exact .inl q
    · exact .inr ⟨q, PySem.W.cellsFrom_some _ _ _ (.inl q)⟩
  refine codeAny_call_function hr.depth (KX _ _ lk) rfl S.co S.gen rfl (PySem.W.codeRec_of KX hcd) (hb _ _ _ _ ?_)
  refine wpAny_newFunctionEnv_cells S.kind hkind fun env he s1 x => ?_
  subst he
  refine ⟨lim.keeps x.toInCall.keep, codeAny_func ?_⟩
  obtain ⟨t, ht, hq⟩ := hbody A outer s H vs Q E (hr.deeper _) hsp
  have I : Inv (cxOf CX P w K mg base N qual scope f cdv A outer s H E) [] (start N vs) H s1 := inv_start S hr.hd e0 hl r x
  refine wpAny_mono (ht [] s1 (start N vs) H _ I hq) (fun fl s' hs => ?_) fun e s' hs => hs
  have fin : ∀ {σ' : St} {H' : Hp} {v : V} {u : Value}, Inv (cxOf CX P w K mg base N qual scope f cdv A outer s H E) [] σ' H' s' → RelV v u → Q v H' → CE outer P w H s Q u s' :=
    fun {σ' H' v u} J rv q => ⟨v, H', J.os, J.bare, J.base, J.hok, rv, q⟩
  cases fl with
  | ret u =>
    obtain ⟨v, σ', H', J, rv, q⟩ := hs
    exact fin J rv q
  | next =>
    obtain ⟨σ', H', J, q⟩ := hs
    exact fin (v := V.non) (u := Value.none) J rfl q
  | brk =>
    obtain ⟨_, _, _, q⟩ := hs
    exact False.elim q
  | cont =>
    obtain ⟨_, _, _, q⟩ := hs
    exact False.elim q
end L2
namespace L2
open PySem PySem.Spec PyProof.Rows
section
variable {X : Cx} {x : Str} {p pos : Pos} {e : Expr} {es : List Expr} {t : TA} {id T : String} {r : List V → Hp → VK → Prop}
noncomputable def tCB (r : List V → Hp → VK → Prop) (t : TA) : TE := fun σ H Q => t σ H fun vs H1 => r vs H1 Q
theorem pe_callB (hc : CallR X (.builtin id) r) (hg : Gl X x) (hm : X.mg x = none) (hv : bootBuiltins x = some (.builtin id)) (ha : PA X (e :: es) t) (hn : x ≠ "__name__" := by decide) (hdb : (x == ("__debug__" : Str)) = false := by decide)
    (he : starEach (e :: es) X.env = (false, eval e X.env) :: starEach es X.env := by rfl) (hpl : (backTo pos (starEach es X.env)).any (·.1) = false := by rfl) : PE X (.Call (.Name x p) (e :: es) [] pos) (tCB r t) := by
  intro pins s σ H Q I h
  refine wpAny_Call_Name_kw (ld_blt I hg hm hv ?_ hn hdb)
  exact PyProof.Rows.callWith_builtin1 (thn (ha pos pins s σ H _ I h) fun us s1 ⟨vs, H1, I1, r1, q1⟩ => hc pins s1 σ H1 vs us Q I1 r1 q1) he hpl
theorem pe_callTy (hc : CallR X (.type T) r) (hg : Gl X x) (hm : X.mg x = none) (hv : bootBuiltins x = some (.type T)) (ha : PA X (e :: es) t) (hn : x ≠ "__name__" := by decide) (hdb : (x == ("__debug__" : Str)) = false := by decide)
    (he : starEach (e :: es) X.env = (false, eval e X.env) :: starEach es X.env := by rfl) (hpl : (backTo pos (starEach es X.env)).any (·.1) = false := by rfl) : PE X (.Call (.Name x p) (e :: es) [] pos) (tCB r t) := by
  intro pins s σ H Q I h
  refine wpAny_Call_Name_kw (ld_blt I hg hm hv ?_ hn hdb)
  exact PyProof.Rows.callWith_type1 (thn (ha pos pins s σ H _ I h) fun us s1 ⟨vs, H1, I1, r1, q1⟩ => hc pins s1 σ H1 vs us Q I1 r1 q1) he hpl
end
end L2
namespace L2
open PySem PySem.Spec PyProof.Rows
section
variable {κ : Type} [DecidableEq κ]
noncomputable def valV (kvs : List (κ × V)) (k : κ) : Option V := (kvs.find? fun kv => decide (kv.1 = k)).map (·.2)
noncomputable def putK (kvs : List (κ × V)) (k : κ) (v : V) : List (κ × V) :=
  if (kvs.any fun kv => decide (kv.1 = k)) = true then kvs.map (fun kv => if kv.1 = k then (kv.1, v) else kv) else kvs ++ [(k, v)]
theorem valV_pos {p : κ × V} {r : List (κ × V)} {k : κ} (e : p.1 = k) : valV (p :: r) k = some p.2 := by simp [valV, List.find?_cons, e]
theorem valV_neg {p : κ × V} {r : List (κ × V)} {k : κ} (e : ¬ p.1 = k) : valV (p :: r) k = valV r k := by simp [valV, List.find?_cons, e]
theorem valV_any (k : κ) : ∀ kvs : List (κ × V), (kvs.any fun kv => decide (kv.1 = k)) = (valV kvs k).isSome
  | [] => rfl
  | p :: r => by
    rw [List.any_cons]
    by_cases e : p.1 = k
    · simp only [valV_pos e, decide_eq_true e, Bool.true_or, Option.isSome_some]
    · rw [valV_neg e, decide_eq_false e, Bool.false_or]; exact valV_any k r
theorem RelO.isSome_eq {o : Option V} {u : Option Value} (r : RelO o u) : o.isSome = u.isSome := by
  cases o with
  | none => cases u with
    | none => rfl
    | some _ => exact (show False from r).elim
  | some _ => cases u with
    | none => exact (show False from r).elim
    | some _ => rfl
theorem KV.any {kvs : List (κ × V)} {vs : List (κ × Value)} (r : KV kvs vs) (k : κ) : (kvs.any fun kv => decide (kv.1 = k)) = vs.any fun kv => decide (kv.1 = k) := by
  unfold KV at r
  induction r with
  | nil => rfl
  | cons h t ih => rw [List.any_cons, List.any_cons, ih, h.1]
theorem KV.repl {kvs : List (κ × V)} {vs : List (κ × Value)} (r : KV kvs vs) (k : κ) {y : V} {u : Value} (ry : RelV y u) :
    KV (kvs.map fun kv => if kv.1 = k then (kv.1, y) else kv) (vs.map fun kv => if kv.1 = k then (kv.1, u) else kv) := by
  unfold KV at r ⊢
  induction r with
  | nil => exact .nil
  | @cons p q ps qs h t ih =>
    rw [List.map_cons, List.map_cons]
    refine .cons ?_ ih
    obtain ⟨h1, h2⟩ := h
    by_cases e : p.1 = k
    · rw [if_pos e, if_pos (h1.symm.trans e)]; exact ⟨h1, ry⟩
    · rw [if_neg e, if_neg (fun z => e (h1.trans z))]; exact ⟨h1, h2⟩
theorem KV.put {kvs : List (κ × V)} {vs : List (κ × Value)} (r : KV kvs vs) (k : κ) {y : V} {u : Value} (ry : RelV y u) : KV (putK kvs k y) (stored vs k u) := by
  unfold putK stored
  rw [r.any k]
  by_cases e : (vs.any fun kv => decide (kv.1 = k)) = true
  · rw [if_pos e, if_pos e]; exact r.repl k ry
  · rw [if_neg e, if_neg e]; exact Paired.snoc r ⟨rfl, ry⟩
theorem KV.length {kvs : List (κ × V)} {vs : List (κ × Value)} (r : KV kvs vs) : kvs.length = vs.length := Paired.length r
end
noncomputable abbrev KT (H : Hp) : List (List Key × V) → List (List Key × Addr × Value) → Prop := Paired fun p q => p.1 = q.1 ∧ H q.2.1 = some (.tup (p.1.map kV)) ∧ RelV p.2 q.2.2
theorem KT.val {H : Hp} {kvs : List (List Key × V)} {xs : List (List Key × Addr × Value)} (r : KT H kvs xs) (k : List Key) : RelO (valV kvs k) ((atKey xs k).map (·.2)) := by
  induction r with
  | nil => exact True.intro
  | @cons p q ps qs h t ih =>
    obtain ⟨h1, _, h2⟩ := h
    by_cases e : p.1 = k
    · have e' : q.1 = k := h1.symm.trans e
      have b : atKey (q :: qs) k = some q.2 := by simp [atKey, List.find?_cons, e']
      rw [valV_pos e, b]; exact h2
    · have e' : ¬ q.1 = k := fun z => e (h1.trans z)
      have b : atKey (q :: qs) k = atKey qs k := by simp [atKey, List.find?_cons, e']
      rw [valV_neg e, b]; exact ih
theorem KT.repl {H : Hp} {kvs : List (List Key × V)} {xs : List (List Key × Addr × Value)} (r : KT H kvs xs) (k : List Key) {y : V} {u : Value} (ry : RelV y u) :
    KT H (kvs.map fun kv => if kv.1 = k then (kv.1, y) else kv) (xs.map (putAt k u)) := by
  induction r with
  | nil => exact .nil
  | @cons p q ps qs h t ih =>
    rw [List.map_cons, List.map_cons]
    refine .cons ?_ ih
    obtain ⟨h1, h2, h3⟩ := h
    unfold putAt
    by_cases e : p.1 = k
    · rw [if_pos e, if_pos (h1.symm.trans e)]; exact ⟨h1, h2, ry⟩
    · rw [if_neg e, if_neg (fun z => e (h1.trans z))]; exact ⟨h1, h2, h3⟩
theorem KT.put {H : Hp} {kvs : List (List Key × V)} {xs : List (List Key × Addr × Value)} (r : KT H kvs xs) (k : List Key) {b : Addr} {y : V} {u : Value} (hb : H b = some (.tup (k.map kV))) (ry : RelV y u) :
    KT H (putK kvs k y) (storedH xs k b u) := by
  have e : (kvs.any fun kv => decide (kv.1 = k)) = (atKey xs k).isSome := by
    rw [valV_any, (r.val k).isSome_eq, Option.isSome_map]
  unfold putK storedH
  rw [e]
  by_cases q : (atKey xs k).isSome = true
  · rw [if_pos q, if_pos q]; exact r.repl k ry
  · rw [if_neg q, if_neg q]; exact Paired.snoc r ⟨rfl, hb, ry⟩
section
variable {P : Program} {w : World} {H : Hp} {h : Heap} {a : Addr}
end
section
variable {X : Cx} {pins : List (Addr × Obj)} {σ : St} {H : Hp} {s : Shared} {a : Addr} {y v : V} {u r : Value} {o : Option V} {A : Around} {E : Value → Shared → Prop}
end
section
variable {X : Cx} {pins : List (Addr × Obj)} {σ : St} {H : Hp} {s : Shared} {a : Addr} {kvs : List (Key × V)} {k : Key} {u : Value} {A : Around} {E : Value → Shared → Prop}
end
section
variable {X : Cx} {o i e value : Expr} {pos pos' tpos : Pos} {td ty tv : TE}
end
section
variable {X : Cx} {pos : Pos}
end
section
variable {X : Cx} {pins : List (Addr × Obj)} {σ : St} {H : Hp} {s : Shared} {a : Addr} {y d : V} {u r : Value} {o : Option V} {A : Around} {E : Value → Shared → Prop}
end
section
variable {X : Cx} {o e f : Expr} {apos cpos : Pos} {td ty tx : TE}
end
section
variable {X : Cx} {pins : List (Addr × Obj)} {σ : St} {H : Hp} {s : Shared} {a : Addr} {kvs : List (Key × V)} {A : Around} {E : Value → Shared → Prop}
end
section
variable {X : Cx} {pins : List (Addr × Obj)} {σ : St} {H : Hp} {s : Shared} {a : Addr} {y : V} {u : Value} {A : Around} {E : Value → Shared → Prop}
end
end L2
namespace HT
open PySem PyProof.Rows
noncomputable def lexLt : List Int → List Int → Bool
  | [], [] => false
  | [], _ :: _ => true
  | _ :: _, [] => false
  | x :: xs, y :: ys => if x = y then lexLt xs ys else decide (x < y)
theorem lexLt_cons (x y : Int) (xs ys : List Int) : lexLt (x :: xs) (y :: ys) = if x = y then lexLt xs ys else decide (x < y) := rfl
theorem lexLt_nil_nil : lexLt [] [] = false := rfl
theorem lexLt_nil_cons (y : Int) (ys : List Int) : lexLt [] (y :: ys) = true := rfl
theorem lexLt_cons_nil (x : Int) (xs : List Int) : lexLt (x :: xs) [] = false := rfl
theorem eqAt_int (A : Around) (s : Shared) (a : Int) (t : Tok) (c : Int) (u : Tok) : ∃ e, SeqAt.EqAt A s (.int a t) (.int c u) e ∧ (e = true ↔ a = c) :=
  ⟨(a == c), SeqAt.EqAt.int_int a t c u, by simp⟩
theorem rcLt_int (A : Around) (s : Shared) (a : Int) (t : Tok) (c : Int) (u : Tok) (prog : Program) (w : World) (E : Value → Shared → Prop) (Q : Value → Shared → Prop) (h : Q (.bool (decide (a < c))) s) :
    wpAny (model prog w) A (richCompare .Lt (.int a t) (.int c u)) Q E s :=
  (PyProof.Rows.lt_int h : wpAny (model prog w) A (compareOp .Lt (.int a t) (.int c u)) Q E s)
section
open PySem.SeqAt
open PySem.AutoSeq1 (wpAny_loadPart')
open PySem.MeetsSeq PySem.MeetsSeq2 PySem.MeetsSeq3
theorem tuple_lt_ints (l b : Addr) (items items2 : Array Value) (n n2 : Nat) (dd dd2 : Option Addr) (sl sl2 : Array (Option Value)) (ns ms : List Int) (hi : IntsAre items.toList ns) (hj : IntsAre items2.toList ms) :
    Meets (Builtin.«tuple.__lt__» ⟨[.ref l, .ref b], []⟩)
      (fun _ R s => s.heap.get? l = some { cls := .type "tuple", dict := dd, data := .seq items n, slots := sl } ∧ s.heap.get? b = some { cls := .type "tuple", dict := dd2, data := .seq items2 n2, slots := sl2 } ∧
        R (.ok (.ret (.bool (lexLt ns ms)))) s) :=
  .of_wp fun prog w A R s h => by
    obtain ⟨hp, g, d, tk, os⟩ := s; obtain ⟨hl, hb, h⟩ := h
    have f2 := AutoSeq1.sub_tuple_tuple
    have z1 : items.size = ns.length := by rw [← hi.length]; simp
    have z2 : items2.size = ms.length := by rw [← hj.length]; simp
    wp_walk using wpAny_loadPart' hl, wpAny_loadPart' hb, wpAny_forIn_list _ (fun rest b s' => b.1 = none ∧ s' = ⟨hp, g, d, tk, os⟩ ∧ ∃ (vs ws : List Value) (ns' ms' : List Int), rest = vs.zip ws ∧
      IntsAre vs ns' ∧ IntsAre ws ms' ∧ ns'.length + items2.size = ms'.length + items.size ∧ R (.ok (.ret (.bool (lexLt ns' ms')))) ⟨hp, g, d, tk, os⟩) _
    case turn =>
      rintro ⟨y, x⟩ rest b s' ⟨hb', rfl, vs, ws, ns', ms', hz, hvi, hwi, hlen, hR⟩
      cases hvi with
      | nil => rw [List.zip_nil_left] at hz; cases hz
      | cons a t hvi' =>
        cases hwi with
        | nil => rw [List.zip_nil_right] at hz; cases hz
        | cons c u hwi' =>
          rw [List.zip_cons_cons] at hz
          injection hz with hyx hrest
          injection hyx with hy hx
          subst hy hx
          rw [lexLt_cons] at hR
          simp only [List.length_cons] at hlen
          obtain ⟨e, he, hiff⟩ := eqAt_int A.in1 ⟨hp, g, d, tk, os⟩ a t c u
          refine wpAny_bind (he prog w _ _ ?_)
          cases e with
          | true =>
            rw [if_pos (hiff.mp rfl)] at hR
            wp_walk
            exact ⟨rfl, rfl, _, _, _, _, hrest, hvi', hwi', by omega, hR⟩
          | false =>
            rw [if_neg (fun q => absurd (hiff.mpr q) Bool.false_ne_true)] at hR
            have hri := rcLt_int A.in1 ⟨hp, g, d, tk, os⟩ a t c u prog w
            wp_walk using hri
            exact ⟨_, rfl, by simpa using hR⟩
    case fin =>
      rintro ⟨b1, b2⟩ s' ⟨hb', rfl, vs, ws, ns', ms', hz, hvi, hwi, hlen, hR⟩
      simp only at hb'
      subst hb'
      have hv : lexLt ns' ms' = decide (items.size < items2.size) := by
        cases hvi with
        | nil =>
          cases hwi with
          | nil =>
            simp only [List.length_nil] at hlen
            rw [lexLt_nil_nil]
            exact (decide_eq_false (by omega)).symm
          | cons c u hw =>
            simp only [List.length_nil, List.length_cons] at hlen
            rw [lexLt_nil_cons]
            exact (decide_eq_true (by omega)).symm
        | cons a t hv =>
          cases hwi with
          | nil =>
            simp only [List.length_nil, List.length_cons] at hlen
            rw [lexLt_cons_nil]
            exact (decide_eq_false (by omega)).symm
          | cons c u hw =>
            rw [List.zip_cons_cons] at hz
            cases hz
      rw [hv] at hR
      wp_walk
      exact ⟨_, rfl, by simpa [Builtin.Tuple.tupleCompareSizes] using hR⟩
    case h =>
      exact ⟨rfl, rfl, items.toList, items2.toList, ns, ms, rfl, hi, hj, by omega, h⟩
end
section
variable {prog : Program} {w : World} {A : Around} {E : Value → Shared → Prop} {s : Shared}
theorem lt_tupInts {l b : Addr} {items items2 : Array Value} {ns ms : List Int} {Q : Value → Shared → Prop} (hl : IsTup s.heap l items) (hb : IsTup s.heap b items2) (hi : IntsAre items.toList ns) (hj : IntsAre items2.toList ms)
    (hu : A.units < cLine) (h : Q (.bool (lexLt ns ms)) s) : wpAny (model prog w) A (compareOp .Lt (.ref l) (.ref b)) Q E s := by
  obtain ⟨⟨cls, dd, data, sl⟩, ho, hc, n, hd⟩ := id hl
  obtain ⟨⟨cls2, dd2, data2, sl2⟩, ho2, hc2, n2, hd2⟩ := id hb
  simp only at hc hd hc2 hd2
  subst hc hd hc2 hd2
  exact richCompare_meets_room (op := .Lt) ⟨_, ho, rfl⟩ ⟨_, ho2, rfl⟩ PySem.F.slot_tuple_lt PySem.F.entry_tuple_lt (PySem.F.args_tuple_lt_2 _ _) (tuple_lt_ints l b items items2 n n2 dd dd2 sl sl2 ns ms hi hj)
    ⟨ho, ho2, show Value.bool (lexLt ns ms) ≠ Value.notImplemented ∧ Q (.bool (lexLt ns ms)) s from ⟨(fun x => nomatch x), h⟩⟩ hu
theorem cat_tup {t b : Addr} {vs ws : List Value} {Q : Value → Shared → Prop} (ht : IsTup s.heap t vs.toArray) (hb : IsTup s.heap b ws.toArray) (hv : vs ≠ [])
    (h1 : ws = [] → Q (.ref t) s) (h2 : ws ≠ [] → Q (.ref s.heap.objs.size) { s with heap := s.heap.push { cls := .type "tuple", data := .seq (vs ++ ws).toArray } })
    (hsz : vs.length + ws.length ≤ sizeLine) : wpAny (model prog w) A (binaryOp .Add (.ref t) (.ref b)) Q E s := by
  obtain ⟨⟨cls, dd, data, sl⟩, ho, hc, n, hd⟩ := id ht
  obtain ⟨⟨cls2, dd2, data2, sl2⟩, ho2, hc2, n2, hd2⟩ := id hb
  simp only at hc hd hc2 hd2
  subst hc hd hc2 hd2
  have e : vs.toArray ++ ws.toArray = (vs ++ ws).toArray := by simp
  by_cases hw : ws = []
  · exact concat_meets ⟨_, ho, rfl⟩ ⟨_, ho2, rfl⟩ noFill_tuple_add seq_tuple_add PySem.F.slot_tuple_add PySem.F.entry_tuple_add (PySem.F.args_tuple_add_2 _ _)
      (tuple_addW1 t b vs.toArray ws.toArray n n2 dd dd2 sl sl2 (by simpa using hv) (by simp [hw])) ⟨ho, ho2, h1 hw⟩
  · refine concat_meets ⟨_, ho, rfl⟩ ⟨_, ho2, rfl⟩ noFill_tuple_add seq_tuple_add PySem.F.slot_tuple_add PySem.F.entry_tuple_add (PySem.F.args_tuple_add_2 _ _)
      (tuple_addW2 t b vs.toArray ws.toArray n n2 dd dd2 sl sl2 (by simpa using hv) (by simpa using hw) (by rw [List.size_toArray, List.size_toArray]; exact hsz)) ⟨ho, ho2, ?_⟩
    rw [e]
    exact h2 hw
noncomputable def sIx (n d : Nat) : Option Int → Nat
  | none => d
  | some v => if v < 0 then (v + (n : Int)).toNat else min v.toNat n
theorem sIx_le (n d : Nat) (hd : d ≤ n) (o : Option Int) : sIx n d o ≤ n := by
  cases o with
  | none => exact hd
  | some v =>
    show (if v < 0 then (v + (n : Int)).toNat else min v.toNat n) ≤ n
    by_cases hv : v < 0
    · rw [if_pos hv]; omega
    · rw [if_neg hv]; exact Nat.min_le_right _ _
theorem clip_eq (v : Int) (n d : Nat) : (if v < 0 then max (v + (n : Int)) 0 else min v (n : Int)) = ((sIx n d (some v) : Nat) : Int) := by
  show (if v < 0 then max (v + (n : Int)) 0 else min v (n : Int)) = (((if v < 0 then (v + (n : Int)).toNat else min v.toNat n) : Nat) : Int)
  by_cases hv : v < 0
  · simp only [if_pos hv]; omega
  · simp only [if_neg hv]; omega
theorem adjust_gen (lo hi : Option Int) (n : Nat) : Builtin.Slice.sliceAdjust lo hi 1 (n : Int) = (((sIx n 0 lo : Nat) : Int), ((sIx n n hi : Nat) : Int)) := by
  have h1 : ¬ ((1 : Int) < 0) := by omega
  unfold Builtin.Slice.sliceAdjust
  simp only [h1, if_false]
  refine Prod.ext ?_ ?_
  · cases lo with
    | none => rfl
    | some v => exact clip_eq v n 0
  · cases hi with
    | none => rfl
    | some v => exact clip_eq v n n
theorem places_gen (i j : Nat) : Builtin.Slice.slicePlaces (i : Int) (j : Int) 1 = j - i := by
  unfold Builtin.Slice.slicePlaces
  have h1 : (1 : Int) > 0 := by omega
  simp only [h1, if_true, Int.ediv_one]
  split <;> omega
theorem slicePart_ {v : Value} {o : Option Int} {Q : Option Int → Shared → Prop} (p : IsPart v o) (h : Q o s) : wpAny (model prog w) A (Builtin.Slice.slicePartIndex v) Q E s := by
  cases p with
  | none => exact slicePart_none h
  | int i t => exact slicePart_int h
theorem sliceApplied_gen {sl : Addr} {vl vu : Value} {lo hi : Option Int} {n : Nat} {Q : Int × Int × Nat → Shared → Prop} (hs : s.heap.IsSliceOf sl vl vu .none) (pl : IsPart vl lo) (pu : IsPart vu hi)
    (h : Q (((sIx n 0 lo : Nat) : Int), 1, sIx n n hi - sIx n 0 lo) s) : wpAny (model prog w) A (Builtin.Slice.sliceApplied (.ref sl) (pure (n : Int))) Q E s := by
  obtain ⟨os, hos, hcs, hds⟩ := id hs
  unfold Builtin.Slice.sliceApplied Builtin.Slice.sliceFields
  refine wpAny_bind (wpAny_bind (wpAny_field hos hds (x := vl) rfl (wpAny_bind (wpAny_field hos hds (x := vu) rfl (wpAny_bind (wpAny_field hos hds (x := .none) rfl (wpAny_pure ?_)))))))
  refine wpAny_bind (slicePart_none ?_)
  show wpAny _ _ (if ((1 : Int) == 0) = true then _ else _) _ _ s
  rw [if_neg (by decide)]
  refine wpAny_bind (slicePart_ pl (wpAny_bind (slicePart_ pu (wpAny_bind (wpAny_pure ?_)))))
  show wpAny _ _ (match Builtin.Slice.sliceAdjust lo hi 1 (n : Int) with | (lo, hi) => pure (lo, (1 : Int), Builtin.Slice.slicePlaces lo hi 1)) _ _ s
  rw [adjust_gen lo hi n]
  show wpAny _ _ (pure (((sIx n 0 lo : Nat) : Int), (1 : Int), Builtin.Slice.slicePlaces ((sIx n 0 lo : Nat) : Int) ((sIx n n hi : Nat) : Int) 1)) _ _ s
  rw [places_gen]
  exact wpAny_pure h
theorem pick_gen (xs : Array Value) (i k : Nat) : ((List.range k).filterMap fun (m : Nat) => xs[((i : Int) + (m : Int) * 1).toNat]?).toArray = ((xs.toList.drop i).take k).toArray := by
  have e : (fun (m : Nat) => xs[((i : Int) + (m : Int) * 1).toNat]?) = fun m => xs[i + m]? := by
    funext m
    have : ((i : Int) + (m : Int) * 1).toNat = i + m := by omega
    rw [this]
  rw [e]
  have := pick_run xs i k
  rw [List.filterMap_map] at this
  have e2 : ((fun x => xs[x]?) ∘ fun x => i + x) = fun m => xs[i + m]? := rfl
  rw [e2] at this
  rw [this]
theorem getItem_tuple_cut {t sl : Addr} {items : Array Value} {vl vu : Value} {lo hi : Option Int} {Q : Value → Shared → Prop} (ht : IsTup s.heap t items) (hs : s.heap.IsSliceOf sl vl vu .none) (pl : IsPart vl lo) (pu : IsPart vu hi)
    (hw : ¬ (sIx items.size 0 lo = 0 ∧ sIx items.size items.size hi = items.size))
    (h : Q (.ref s.heap.objs.size) { s with heap := s.heap.push { cls := .type "tuple", data := .seq ((items.toList.drop (sIx items.size 0 lo)).take (sIx items.size items.size hi - sIx items.size 0 lo)).toArray } })
    (hsz : items.size ≤ sizeLine) : wpAny (model prog w) A (getItem (.ref t) (.ref sl)) Q E s := by
  have htake : sizeOk (.seq ((items.toList.drop (sIx items.size 0 lo)).take (sIx items.size items.size hi - sIx items.size 0 lo)).toArray) := by
    show ((items.toList.drop (sIx items.size 0 lo)).take (sIx items.size items.size hi - sIx items.size 0 lo)).toArray.size ≤ sizeLine
    rw [List.size_toArray, List.length_take, List.length_drop, Array.length_toList]
    omega
  have hj : sIx items.size items.size hi ≤ items.size := sIx_le _ _ (Nat.le_refl _) hi
  obtain ⟨os, hos, hcs, hds⟩ := id hs
  have hTs : s.TypeIs (.ref sl) "slice" := ⟨os, hos, hcs⟩
  unfold getItem
  try with_reducible refine wpAny_holding ?_
  first | refine wpAny_bind (wpAny_pure ?_) | skip
  refine wpAny_bind (wpAny_sequenceKey ht.typeIs (by decide) ?_)
  refine wpAny_bind (wpAny_callSpecial?_slot (name := Str.ofString "__getitem__") ht.typeIs PyProof.Rows.slot_tuple_getitem
    (wpAny_call_entry PyProof.Rows.slot_tuple_getitem ht.typeIs entry_tuple_getitem ?_ (args_tuple_getitem _ _)))
  show wpAny _ _ (Builtin.Tuple.tupleItemsOf (.ref t) >>= _) _ _ s
  refine wpAny_bind (tupleItemsOf_ ht ?_)
  refine wpAny_bind (wpAny_typeOf hTs ?_)
  rw [if_pos (by decide)]
  refine wpAny_bind (sliceApplied_gen hs pl pu ?_)
  have hno : ¬ ((((sIx items.size 0 lo : Nat) : Int) == 0 && (1 : Int) == 1 && (sIx items.size items.size hi - sIx items.size 0 lo) == items.size) = true) := by
    intro q
    rw [Bool.and_eq_true, Bool.and_eq_true] at q
    have q1 : ((sIx items.size 0 lo : Nat) : Int) = 0 := eq_of_beq q.1.1
    have q2 : sIx items.size items.size hi - sIx items.size 0 lo = items.size := eq_of_beq q.2
    exact hw ⟨by omega, by omega⟩
  show wpAny _ _ (if (((sIx items.size 0 lo : Nat) : Int) == 0 && (1 : Int) == 1 && (sIx items.size items.size hi - sIx items.size 0 lo) == items.size) = true then _ else _) _ _ s
  rw [if_neg hno, pick_gen]
  first
    | exact wpAny_bind (m := Builtin.Tuple.tupleExact _) (wpAny_newObj_type (wpAny_pure ⟨_, rfl, wpAny_pure h⟩) htake)
    | exact wpAny_bind (m := Builtin.Tuple.tupleExact _) (wpAny_newObj_type (wpAny_bind (wpAny_pure (wpAny_pure ⟨_, rfl, wpAny_pure h⟩))) htake)
    | exact wpAny_bind (wpAny_bind (m := Builtin.Tuple.tupleExact _) (wpAny_newObj_type (wpAny_pure (wpAny_pure ⟨_, rfl, wpAny_pure h⟩)) htake))
    | exact wpAny_bind (wpAny_bind (m := Builtin.Tuple.tupleExact _) (wpAny_newObj_type (wpAny_pure ⟨_, rfl, wpAny_pure h⟩) htake))
end
end HT
namespace L2
open PySem PySem.Spec PyProof.Rows
noncomputable abbrev TO := St → Hp → (Option Int → Hp → Prop) → Prop
noncomputable def PO (X : Cx) (e : Option Expr) (t : TO) : Prop :=
  ∀ (pins : List (Addr × Obj)) (s : Shared) (σ : St) (H : Hp) (Q : Option Int → Hp → Prop), Inv X pins σ H s → t σ H Q →
    wpAny (model X.prog X.w) X.A (evalPart e X.env) (fun u s' => ∃ o H', Inv X pins σ H' s' ∧ IsPart u o ∧ Q o H') X.xe s
noncomputable def tNoPart : TO := fun _ H Q => Q none H
noncomputable def tPart (t : TE) : TO := fun σ H Q => t σ H fun x H1 => ∃ i, x = .int i ∧ Q (some i) H1
theorem intsAre_of {ns : List Int} : ∀ {us : List Value}, Vals (ns.map V.int) us → IntsAre us ns := by
  induction ns with
  | nil => intro us r; rw [List.map_nil] at r; cases r; exact .nil
  | cons n ns ih =>
    intro us r
    rw [List.map_cons] at r
    cases r with
    | cons r1 r2 =>
      obtain ⟨t, e⟩ := r1
      subst e
      exact .cons n t (ih r2)
section
variable {X : Cx} {e : Expr} {te : TE} {lo hi : Option Expr} {tl th : TO} {pos p2 : Pos}
theorem po_none : PO X none tNoPart := by
  intro pins s σ H Q I h
  rw [evalPart_none]
  exact wpAny_pure ⟨none, H, I, .none, h⟩
theorem po_some (h : PE X e te) : PO X (some e) (tPart te) := by
  intro pins s σ H Q I hw
  rw [evalPart_some]
  refine thn (h pins s σ H _ I hw) fun u s1 ⟨x, H1, I1, r1, q1⟩ => ?_
  obtain ⟨i, rfl, q⟩ := q1
  obtain ⟨t, rfl⟩ := r1
  exact ⟨some i, H1, I1, .int i t, q⟩
noncomputable def SlR (X : Cx) (r : V → Option Int → Option Int → Hp → VK → Prop) : Prop :=
  ∀ (pins : List (Addr × Obj)) (s : Shared) (σ : St) (H : Hp) (x : V) (v vl vu : Value) (lo hi : Option Int) (sl : Addr) (Q : VK), Inv X pins σ H s → RelV x v → s.heap.IsSliceOf sl vl vu .none → IsPart vl lo → IsPart vu hi → r x lo hi H Q →
    ∃ T id, typeLookup (.type T) "__getitem__" = pure (some (.builtin id)) ∧ s.TypeIs v T ∧ wpAny (model X.prog X.w) X.A (getItem v (.ref sl)) (EP X pins σ Q) X.xe s
theorem SlR.or {r r' : V → Option Int → Option Int → Hp → VK → Prop} (h : SlR X r) (h' : SlR X r') : SlR X (fun x lo hi H Q => r x lo hi H Q ∨ r' x lo hi H Q) := by
  intro pins s σ H x v vl vu lo hi sl Q I rx hs pl pu q
  rcases q with q | q
  · exact h pins s σ H x v vl vu lo hi sl Q I rx hs pl pu q
  · exact h' pins s σ H x v vl vu lo hi sl Q I rx hs pl pu q
noncomputable def tSl (r : V → Option Int → Option Int → Hp → VK → Prop) (te : TE) (tl th : TO) : TE := fun σ H Q => te σ H fun x H1 => tl σ H1 fun l H2 => th σ H2 fun u H3 => r x l u H3 Q
theorem pe_slice {r : V → Option Int → Option Int → Hp → VK → Prop} (hr : SlR X r) (he : PE X e te) (hl : PO X lo tl) (hu : PO X hi th) : PE X (.Subscript e (.Slice lo hi none p2) pos) (tSl r te tl th) := by
  intro pins s σ H Q I h
  refine Subscript_ (thn (he pins s σ H _ I h) fun v s1 ⟨x, H1, I1, r1, q1⟩ => ?_)
  refine wpAny_Slice (thn (hl pins s1 σ H1 _ I1 q1) fun vl s2 ⟨l, H2, I2, pl, q2⟩ => thn (hu pins s2 σ H2 _ I2 q2) fun vu s3 ⟨u, H3, I3, pu, q3⟩ => ?_)
  rw [evalPart_none]
  refine wpAny_pure ?_
  have I4 : Inv X pins σ H3 { s3 with heap := s3.heap.push { cls := .type "slice", data := .fields #[vl, vu, .none] } } := I3.kept (t' := s3.toks) fun b ob q => Heap.get?_push_of_some _ q
  obtain ⟨T, id, hT, ht, hg⟩ := hr pins { s3 with heap := s3.heap.push { cls := .type "slice", data := .fields #[vl, vu, .none] } } σ H3 x v vl vu l u s3.heap.objs.size Q I4 r1 (Heap.IsSliceOf.new ..) pl pu q3
  show wpAny (model X.prog X.w) X.A (subscriptTail e (.Slice lo hi none p2) v (.ref s3.heap.objs.size)) (EP X pins σ Q) X.xe { s3 with heap := s3.heap.push { cls := .type "slice", data := .fields #[vl, vu, .none] } }
  exact tail_any (ops := [.ref s3.heap.objs.size, v]) ht hT hg (by with_unfolding_all rfl)
noncomputable def cutV (xs : List V) (lo hi : Option Int) : List V := (xs.drop (HT.sIx xs.length 0 lo)).take (HT.sIx xs.length xs.length hi - HT.sIx xs.length 0 lo)
theorem cutV_length (xs : List V) (lo hi : Option Int) : (cutV xs lo hi).length ≤ xs.length := by
  unfold cutV
  rw [List.length_take, List.length_drop]
  omega
noncomputable def rSlT (K : PySem.W.Frag) : V → Option Int → Option Int → Hp → VK → Prop := fun x lo hi H Q => ∃ a xs, x = .ref a ∧ SqT K H a xs ∧
  ¬ (HT.sIx xs.length 0 lo = 0 ∧ HT.sIx xs.length xs.length hi = xs.length) ∧ ∀ p, H p = none → Q (.ref p) (upd H p (.tup (cutV xs lo hi)))
theorem sl_tup : SlR X (rSlT X.K) := by
  intro pins s σ H x v vl vu lo hi sl Q I rx hs pl pu h
  obtain ⟨a, xs, rfl, hx, hw, q⟩ := h
  cases rx
  obtain ⟨its, r, ht, hz⟩ := I.tuple hx
  have hlen : its.toArray.size = xs.length := by rw [List.size_toArray]; exact r.length.symm
  refine ⟨"tuple", _, PyProof.Rows.slot_tuple_getitem.lookup, ht.typeIs, ?_⟩
  refine HT.getItem_tuple_cut ht hs pl pu (by rw [hlen]; exact hw) ?_ (by rw [hlen]; exact hz)
  rw [hlen]
  refine ⟨.ref s.heap.objs.size, _, I.laid (t' := s.toks) (o := .tup (cutV xs lo hi)) (fun b ob q => Heap.get?_push_of_some _ q) (Nat.le_refl _) ?_, rfl, q _ (I.hok.fresh (Nat.le_refl _))⟩
  exact ⟨Nat.le_trans (cutV_length xs lo hi) hz, _, (r.drop (HT.sIx xs.length 0 lo)).take (HT.sIx xs.length xs.length hi - HT.sIx xs.length 0 lo), IsTup.new _ _⟩
noncomputable def rLtT (K : PySem.W.Frag) : R2 := fun x y H Q => ∃ a b ns ms, x = .ref a ∧ y = .ref b ∧ SqT K H a (ns.map V.int) ∧ SqT K H b (ms.map V.int) ∧ Q (.bl (HT.lexLt ns ms)) H
theorem op_ltT (hu : X.A.units < cLine) : OpR X (compareOp .Lt) (rLtT X.K) := by
  intro pins s σ H x y v u Q I rx ry h
  obtain ⟨a, b, ns, ms, rfl, rfl, ha, hb, q⟩ := h
  cases rx
  cases ry
  obtain ⟨its, r1, p1, _⟩ := I.tuple ha
  obtain ⟨its2, r2, p2, _⟩ := I.tuple hb
  have i1 : IntsAre its.toArray.toList ns := intsAre_of r1
  have i2 : IntsAre its2.toArray.toList ms := intsAre_of r2
  exact HT.lt_tupInts p1 p2 i1 i2 hu ⟨.bl (HT.lexLt ns ms), H, I, rfl, q⟩
noncomputable def rCatT (K : PySem.W.Frag) : R2 := fun x y H Q => ∃ a b xs ys, x = .ref a ∧ y = .ref b ∧ SqT K H a xs ∧ SqT K H b ys ∧ xs ≠ [] ∧ xs.length + ys.length ≤ sizeLine ∧
  (ys = [] → Q (.ref a) H) ∧ (ys ≠ [] → ∀ p, H p = none → Q (.ref p) (upd H p (.tup (xs ++ ys))))
theorem Vals.nil_iff {xs : List V} {us : List Value} (r : Vals xs us) : us = [] ↔ xs = [] := by
  cases r with
  | nil => simp
  | cons _ _ => simp
theorem op_catT : OpR X (binaryOp .Add) (rCatT X.K) := by
  intro pins s σ H x y v u Q I rx ry h
  obtain ⟨a, b, xs, ys, rfl, rfl, ha, hb, hx, hz, q1, q2⟩ := h
  cases rx
  cases ry
  obtain ⟨its, r1, p1, _⟩ := I.tuple ha
  obtain ⟨its2, r2, p2, _⟩ := I.tuple hb
  refine HT.cat_tup p1 p2 (fun z => hx (r1.nil_iff.mp z)) (fun z => ⟨.ref a, H, I, rfl, q1 (r2.nil_iff.mp z)⟩) (fun z => ?_) (by rw [← r1.length, ← r2.length]; exact hz)
  refine ⟨.ref s.heap.objs.size, _, I.laid (t' := s.toks) (o := .tup (xs ++ ys)) (fun b ob q => Heap.get?_push_of_some _ q) (Nat.le_refl _) ?_, rfl, q2 (fun w => z (r2.nil_iff.mpr w)) _ (I.hok.fresh (Nat.le_refl _))⟩
  exact ⟨by rw [List.length_append]; exact hz, _, r1.append r2, IsTup.new _ _⟩
end
end L2
namespace L2
open PySem PySem.Spec PyProof.Rows
noncomputable def ixN (n : Nat) (i : Int) : Option Nat := if 0 ≤ i then (if i < n then some i.toNat else none) else if -(n : Int) ≤ i then some (i + n).toNat else none
noncomputable def atI {α : Type} (xs : List α) (i : Int) : Option α := (ixN xs.length i).bind fun j => xs[j]?
theorem ixN_seq {n : Nat} {i : Int} {j : Nat} (h : ixN n i = some j) : seqIndex? i n = some j ∧ j < n ∧ -(n : Int) ≤ i ∧ i < n := by
  unfold ixN at h
  by_cases h0 : 0 ≤ i
  · rw [if_pos h0] at h
    by_cases h1 : i < n
    · rw [if_pos h1] at h
      have e : i.toNat = j := Option.some.inj h
      exact ⟨by rw [seqIndex_of h0 h1, e], by omega, by omega, h1⟩
    · rw [if_neg h1] at h; cases h
  · rw [if_neg h0] at h
    by_cases h1 : -(n : Int) ≤ i
    · rw [if_pos h1] at h
      have e : (i + n).toNat = j := Option.some.inj h
      exact ⟨by rw [seqIndex_neg (by omega) h1, e], by omega, h1, by omega⟩
    · rw [if_neg h1] at h; cases h
theorem atI_get {α : Type} {xs : List α} {i : Int} {v : α} (h : atI xs i = some v) : ∃ j, seqIndex? i xs.length = some j ∧ xs[j]? = some v ∧ j < xs.length ∧ -(xs.length : Int) ≤ i ∧ i < xs.length := by
  unfold atI at h
  cases e : ixN xs.length i with
  | none => rw [e] at h; cases h
  | some j =>
    rw [e] at h
    obtain ⟨h1, h2, h3, h4⟩ := ixN_seq e
    exact ⟨j, h1, h, h2, h3, h4⟩
noncomputable def PlainIx (b : Expr) : Prop := ∀ o i, subscripted b false o i = operate [o, i] (getItem o i)
noncomputable def IxR (X : Cx) (r : R2) : Prop :=
  ∀ (value slice : Expr) (pins : List (Addr × Obj)) (s : Shared) (σ : St) (H : Hp) (x y : V) (v u : Value) (Q : VK), Inv X pins σ H s → RelV x v → RelV y u → r x y H Q →
    subscripted slice false v u = operate [v, u] (getItem v u) → wpAny (model X.prog X.w) X.A (subscriptTail value slice v u) (EP X pins σ Q) X.xe s
noncomputable def MtR (X : Cx) (id : String) (r : V → List V → Hp → VK → Prop) : Prop :=
  ∀ (pins : List (Addr × Obj)) (s : Shared) (σ : St) (H : Hp) (x : V) (xs : List V) (v : Value) (us : List Value) (Q : VK), Inv X pins σ H s → RelV x v → Vals xs us → r x xs H Q →
    wpAny (model X.prog X.w) X.A (call (.builtin id) (v :: us)) (EP X pins σ Q) X.xe s
section
variable {X : Cx} {a b : Expr} {ta tb : TE} {pos : Pos}
theorem IxR.or {r r' : R2} (h : IxR X r) (h' : IxR X r') : IxR X (fun x y H Q => r x y H Q ∨ r' x y H Q) := by
  intro value slice pins s σ H x y v u Q I rx ry q hs
  rcases q with q | q
  · exact h value slice pins s σ H x y v u Q I rx ry q hs
  · exact h' value slice pins s σ H x y v u Q I rx ry q hs
theorem pe_ix {r : R2} (hr : IxR X r) (ha : PE X a ta) (hb : PE X b tb) (hs : PlainIx b) : PE X (.Subscript a b pos) (tOp r ta tb) := by
  intro pins s σ H Q I h
  exact Subscript_ (binT ha hb I h fun v u s2 x y H2 I2 rx ry q => hr a b pins s2 σ H2 x y v u Q I2 rx ry q (hs _ _))
noncomputable def rIxL (K : PySem.W.Frag) : R2 := fun x y H Q => ∃ p xs i v, x = .ref p ∧ y = .int i ∧ SqL K H p xs ∧ atI xs i = some v ∧ Q v H
noncomputable def rIxT (K : PySem.W.Frag) : R2 := fun x y H Q => ∃ p xs i v, x = .ref p ∧ y = .int i ∧ SqT K H p xs ∧ atI xs i = some v ∧ Q v H
noncomputable def rIxS : R2 := fun x y H Q => ∃ z i c, x = .str z ∧ y = .int i ∧ z.length ≤ sizeLine ∧ atI z.cps.toList i = some c ∧ Q (.str ⟨#[c]⟩) H
theorem ix_list : IxR X (rIxL X.K) := by
  intro value slice pins s σ H x y v u Q I rx ry h hs
  obtain ⟨p, xs, i, z, rfl, rfl, hq, he, q⟩ := h
  cases rx
  obtain ⟨t, rfl⟩ := ry
  obtain ⟨its, r, pl, hz⟩ := I.list hq
  obtain ⟨j, h1, h2, h3, h4, h5⟩ := atI_get he
  obtain ⟨w, ew, rw'⟩ := r.get h2
  have hl := r.length
  have hn := line63
  have fin : EP X pins σ Q w s := ⟨z, H, I, rw', q⟩
  by_cases h0 : 0 ≤ i
  · have hj : i.toNat = j := by
      rw [seqIndex_of h0 h5] at h1
      exact Option.some.inj h1
    exact item_listR pl.isList h0 (by omega) (by rw [hj]; simpa using ew) fin hs
  · have hj : (i + (its.toArray.size : Int)).toNat = j := by
      rw [seqIndex_neg (by omega) h4] at h1
      rw [List.size_toArray, ← hl]
      exact Option.some.inj h1
    exact subscriptTail_builtinR (x := w) pl.isList.typeIs slot_list_getitem.lookup
      (wpAny_getItem_list_neg (Q := fun r s' => r = w ∧ EP X pins σ Q r s') pl.isList (by omega) (by rw [List.size_toArray] <;> omega) (by omega) (by rw [hj]; simpa using ew) ⟨rfl, fin⟩) hs
theorem ix_tup : IxR X (rIxT X.K) := by
  intro value slice pins s σ H x y v u Q I rx ry h hs
  obtain ⟨p, xs, i, z, rfl, rfl, hq, he, q⟩ := h
  cases rx
  obtain ⟨t, rfl⟩ := ry
  obtain ⟨its, r, pl, hz⟩ := I.tuple hq
  obtain ⟨j, h1, h2, h3, h4, h5⟩ := atI_get he
  obtain ⟨w, ew, rw'⟩ := r.get h2
  have hl := r.length
  have hn := line63
  have fin : EP X pins σ Q w s := ⟨z, H, I, rw', q⟩
  exact subscriptTail_builtinR (x := w) pl.typeIs slot_tuple_getitem.lookup
    (getItem_tuple (j := j) (Q := fun r s' => r = w ∧ EP X pins σ Q r s') pl (by omega) (by omega) (by rw [List.size_toArray, ← hl]; exact h1) (by simpa using ew) ⟨rfl, fin⟩) hs
theorem ix_str : IxR X rIxS := by
  intro value slice pins s σ H x y v u Q I rx ry h hs
  obtain ⟨z, i, c, rfl, rfl, hz, he, q⟩ := h
  obtain ⟨t, rfl⟩ := rx
  obtain ⟨t', rfl⟩ := ry
  obtain ⟨j, h1, h2, h3, h4, h5⟩ := atI_get he
  have hl : z.cps.toList.length = z.length := by simp [Str.length]
  rw [hl] at h1 h4 h5
  have hn := line63
  exact tail_any (typeIs_str s z t) slot_str_getitem.lookup (getItem_str (c := c) (by
    have e1 : decide (i < -(2 ^ 63 : Int)) = false := decide_eq_false (by omega)
    have e2 : decide (i ≥ 2 ^ 63) = false := decide_eq_false (by omega)
    rw [e1, e2, Bool.or_false]) (by rw [h1]; simpa using h2) ⟨.str ⟨#[c]⟩, H, I.tok _, ⟨_, rfl⟩, q⟩) hs
noncomputable def rIx (K : PySem.W.Frag) : R2 := fun x y H Q => rIxL K x y H Q ∨ rIxT K x y H Q ∨ rIxS x y H Q
theorem ix_seq : IxR X (rIx X.K) := ix_list.or (ix_tup.or ix_str)
theorem mapSeq_set (its : List Value) (n j : Nat) (u : Value) : Obj.mapSeq (·.setIfInBounds j u) { cls := .type "list", data := .seq its.toArray n } = { cls := .type "list", data := .seq (its.set j u).toArray n } := by
  simp [Obj.mapSeq]
theorem Inv.lst {pins : List (Addr × Obj)} {σ : St} {H : Hp} {s : Shared} {p : Addr} {xs : List V} (I : Inv X pins σ H s) (h : H p = some (.lst xs)) :
    ∃ (its : List Value) (n : Nat), Vals xs its ∧ s.heap.get? p = some { cls := .type "list", data := .seq its.toArray n } ∧ xs.length ≤ sizeLine := by
  obtain ⟨z, its, n, r, e⟩ := I.hok p _ h
  exact ⟨its, n, r, e, z⟩
theorem Inv.lstUpd {pins : List (Addr × Obj)} {σ : St} {H : Hp} {s : Shared} {p : Addr} {xs ys : List V} {its its' : List Value} {n n' : Nat} {f : Obj → Obj} (I : Inv X pins σ H s) (h : H p = some (.lst xs))
    (ho : s.heap.get? p = some { cls := .type "list", data := .seq its.toArray n }) (hf : f { cls := .type "list", data := .seq its.toArray n } = { cls := .type "list", data := .seq its'.toArray n' }) (r : Vals ys its') (hz : ys.length ≤ sizeLine) (t : Nat) :
    Inv X pins σ (upd H p (.lst ys)) { s with heap := s.heap.update p f, toks := t } := by
  have e : (s.heap.update p f).get? p = some { cls := .type "list", data := .seq its'.toArray n' } := by
    rw [Heap.get?_update_self f ho (by rw [hf] <;> rfl), hf]
  refine I.write (x := p) (e := p) (by rw [h]; trivial) (.inl rfl) (fun b u hb q => (Heap.get?_update_other _ _ (Ne.symm hb)).trans q) ⟨_, e⟩ ?_
  exact ⟨hz, its', n', r, e⟩
noncomputable def rSetL : V → V → V → Hp → (Hp → Prop) → Prop := fun o i v H Q => ∃ p xs k j, o = .ref p ∧ i = .int k ∧ H p = some (.lst xs) ∧ ixN xs.length k = some j ∧ Q (upd H p (.lst (xs.set j v)))
theorem set_list : PSet X rSetL := by
  intro pins s σ H o i v ov iv u Q I ro ri rv h
  obtain ⟨p, xs, k, j, rfl, rfl, hp, hj, q⟩ := h
  cases ro
  obtain ⟨t, rfl⟩ := ri
  obtain ⟨its, n, r, ho, hz⟩ := I.lst hp
  obtain ⟨h1, h2, h3, h4⟩ := ixN_seq hj
  have hl := r.length
  have hn := line63
  have I' : Inv X pins σ (upd H p (.lst (xs.set j v))) { s with heap := s.heap.update p (Obj.mapSeq (·.setIfInBounds j u)) } :=
    I.lstUpd hp ho (mapSeq_set its n j u) (r.set rv j) (by rw [List.length_set]; exact hz) s.toks
  by_cases h0 : 0 ≤ k
  · have hk : k.toNat = j := by
      rw [seqIndex_of h0 h4] at h1
      exact Option.some.inj h1
    exact PySem.W.ki_setAt ho h0 (by omega) (by rw [List.size_toArray, ← hl]; exact h4) (by rw [hk]; exact ⟨_, I', q⟩)
  · have hk : (k + (its.toArray.size : Int)).toNat = j := by
      rw [seqIndex_neg (by omega) h3] at h1
      rw [List.size_toArray, ← hl]
      exact Option.some.inj h1
    exact PySem.W.ki_setBack ho (by omega) (by rw [List.size_toArray, ← hl]; exact h3) (by omega) (by rw [hk]; exact ⟨_, I', q⟩)
theorem slice_bounds (lo hi : Option Int) (n : Nat) : (sliceBounds lo hi none n).1 = ((HT.sIx n 0 lo : Nat) : Int) ∧ (sliceBounds lo hi none n).2.1 = ((HT.sIx n n hi : Nat) : Int) ∧ (sliceBounds lo hi none n).2.2 = 1 := by
  refine ⟨?_, ?_, rfl⟩
  · cases lo with
    | none => simp [sliceBounds, HT.sIx]
    | some i =>
      simp only [sliceBounds, HT.sIx, Option.getD_none, show (1 : Int) > 0 by decide, if_true]
      by_cases h : i < 0
      · simp only [h, if_true] <;> omega
      · simp only [h, if_false] <;> omega
  · cases hi with
    | none => simp [sliceBounds, HT.sIx]
    | some i =>
      simp only [sliceBounds, HT.sIx, Option.getD_none, show (1 : Int) > 0 by decide, if_true]
      by_cases h : i < 0
      · simp only [h, if_true] <;> omega
      · simp only [h, if_false] <;> omega
theorem slicePick_cut (its : List Value) (lo hi : Option Int) : slicePick its.toArray lo hi none = ((its.drop (HT.sIx its.length 0 lo)).take (HT.sIx its.length its.length hi - HT.sIx its.length 0 lo)).toArray := by
  obtain ⟨h1, h2, h3⟩ := slice_bounds lo hi its.toArray.size
  unfold slicePick
  rw [h1, h2, h3]
  simp only [sliceRange_one, pick_run, List.size_toArray] <;> rfl
noncomputable def rSlL (K : PySem.W.Frag) : V → Option Int → Option Int → Hp → VK → Prop := fun x lo hi H Q => ∃ a xs, x = .ref a ∧ SqL K H a xs ∧ ∀ p, H p = none → Q (.ref p) (upd H p (.lst (cutV xs lo hi)))
theorem sl_list : SlR X (rSlL X.K) := by
  intro pins s σ H x v vl vu lo hi sl Q I rx hs pl pu h
  obtain ⟨a, xs, rfl, hx, q⟩ := h
  cases rx
  obtain ⟨its, r, ht, hz⟩ := I.list hx
  have hlen := r.length
  refine ⟨"list", _, slot_list_getitem.lookup, ht.isList.typeIs, ?_⟩
  refine wpAny_getItem_list_slice ht.isList hs pl pu .none (by simp) ?_ (by rw [List.size_toArray] <;> omega)
  rw [slicePick_cut, ← hlen]
  refine ⟨.ref s.heap.objs.size, _, I.laid (t' := s.toks) (o := .lst (cutV xs lo hi)) (fun b ob q => Heap.get?_push_of_some _ q) (Nat.le_refl _) ?_, rfl, q _ (I.hok.fresh (Nat.le_refl _))⟩
  exact ⟨Nat.le_trans (cutV_length xs lo hi) hz, _, 0, (r.drop (HT.sIx xs.length 0 lo)).take (HT.sIx xs.length xs.length hi - HT.sIx xs.length 0 lo), Heap.get?_push_size _ rfl⟩
noncomputable def tyV (K : PySem.W.Frag) (T : String) (x : V) (H : Hp) : Prop := match x with
  | .str _ => T = "str"
  | .int _ => T = "int"
  | .ref p => (T = "list" ∧ ∃ xs, SqL K H p xs) ∨ (T = "tuple" ∧ ∃ o, K.lookup p = some o ∧ o.cls = .type "tuple" ∧ o.dict = none) ∨
      (T = "dict" ∧ ((∃ kvs, H p = some (.dK kvs)) ∨ ∃ kvs, H p = some (.dT kvs))) ∨ (T = "set" ∧ ∃ S n, H p = some (.set S n))
  | _ => False
theorem tyV_is {pins : List (Addr × Obj)} {σ : St} {H : Hp} {s : Shared} {T : String} {x : V} {v : Value} (I : Inv X pins σ H s) (r : RelV x v) (ty : tyV X.K T x H) :
    s.TypeIs v T ∧ ∀ a, v = .ref a → ∃ ob, s.heap.get? a = some ob ∧ ob.dict = none := by
  cases x with
  | str z =>
    obtain ⟨t, rfl⟩ := r
    cases (show T = "str" from ty)
    exact ⟨typeIs_str s z t, fun _ e => nomatch e⟩
  | int i =>
    obtain ⟨t, rfl⟩ := r
    cases (show T = "int" from ty)
    exact ⟨typeIs_int s i t, fun _ e => nomatch e⟩
  | ref p =>
    cases r
    rcases ty with ⟨rfl, xs, hq⟩ | ⟨rfl, o, hk, hc, hd⟩ | ⟨rfl, hk⟩ | ⟨rfl, S, n, hk⟩
    · obtain ⟨its, _, pl, _⟩ := I.list hq
      refine ⟨pl.isList.typeIs, fun a e => ?_⟩
      cases e
      obtain ⟨o, n, e, c, hd, _⟩ := pl
      exact ⟨o, e, hd⟩
    · refine ⟨⟨o, I.kIn p o hk, hc⟩, fun a e => ?_⟩
      cases e
      exact ⟨o, I.kIn _ o hk, hd⟩
    · have z : ∃ o, s.heap.get? p = some o ∧ o.ExactDict := by
        rcases hk with ⟨kvs, hk⟩ | ⟨kvs, hk⟩
        · obtain ⟨_, _, _, _, o, _, _, e, ex, _⟩ := I.hok p _ hk
          exact ⟨o, e, ex⟩
        · obtain ⟨_, _, _, _, o, _, _, e, ex, _⟩ := I.hok p _ hk
          exact ⟨o, e, ex⟩
      obtain ⟨o, e, ex⟩ := z
      refine ⟨⟨o, e, ex.1⟩, fun a e2 => ?_⟩
      cases e2
      exact ⟨o, e, ex.2.1⟩
    · obtain ⟨o, _, _, _, e, ex, _⟩ := I.hok p _ hk
      refine ⟨⟨o, e, ex.1⟩, fun a e2 => ?_⟩
      cases e2
      exact ⟨o, e, ex.2.1⟩
  | _ => exact False.elim ty
noncomputable def tBM0 (K : PySem.W.Frag) (T : String) (r : V → List V → Hp → VK → Prop) (to : TE) : TE := fun σ H Q => to σ H fun x H1 => tyV K T x H1 ∧ r x [] H1 Q
noncomputable def tBM (K : PySem.W.Frag) (T : String) (r : V → List V → Hp → VK → Prop) (to : TE) (t : TA) : TE := fun σ H Q => to σ H fun x H1 => tyV K T x H1 ∧ t σ H1 fun xs H2 => r x xs H2 Q
variable {o e : Expr} {es : List Expr} {to : TE} {t : TA} {name : Str} {apos cpos : Pos} {T id : String} {r : V → List V → Hp → VK → Prop}
theorem pe_bm0 (pa : PlainAttrs T) (slot : Slot T name id) (hty : typeOf (.builtin id) = pure (.type "method_descriptor")) (hm : MtR X id r) (ho : PE X o to)
    (hbase : attributeBase o name X.env (eval o X.env) = eval o X.env := by rfl) (hline : (apos.endLine == cpos.line) = true := by rfl) : PE X (.Call (.Attribute o name apos) [] [] cpos) (tBM0 X.K T r to) := by
  intro pins s σ H Q I h
  refine wpAny_Call_method0_late hbase hline (thn (ho pins s σ H _ I h) fun v s1 ⟨x, H1, I1, r1, ty, q1⟩ => ?_)
  obtain ⟨h1, h2⟩ := tyV_is I1 r1 ty
  exact ⟨T, id, pa, slot, hty, h1, h2, Calls.callWith_builtin rfl (PySem.evalArgs_none (hm pins s1 σ H1 x [] v [] Q I1 r1 .nil q1))⟩
theorem pe_bm (pa : PlainAttrs T) (slot : Slot T name id) (hty : typeOf (.builtin id) = pure (.type "method_descriptor")) (hm : MtR X id r) (ho : PE X o to) (ha : PA X (e :: es) t)
    (hbase : attributeBase o name X.env (eval o X.env) = eval o X.env := by rfl)
    (hfew : ((backTo cpos (starEach (e :: es) X.env)).all (fun x => !x.1) && (backToKw cpos (keywordEach [] X.env)).all (fun x => x.1.isSome)
      && decide ((e :: es).length + ([] : List Keyword).length + (if ([] : List Keyword).isEmpty then 0 else 1) < 30)) = true := by rfl)
    (hline : (apos.endLine == cpos.line) = true := by rfl) (hs : starEach (e :: es) X.env = (false, eval e X.env) :: starEach es X.env := by rfl) (hplain : (backTo cpos (starEach es X.env)).any (·.1) = false := by rfl) :
    PE X (.Call (.Attribute o name apos) (e :: es) [] cpos) (tBM X.K T r to t) := by
  intro pins s σ H Q I h
  refine wpAny_Call_method_late hbase hfew hline rfl (thn (ho pins s σ H _ I h) fun v s1 ⟨x, H1, I1, r1, ty, q1⟩ => ?_)
  obtain ⟨h1, h2⟩ := tyV_is I1 r1 ty
  refine ⟨T, id, pa, slot, hty, h1, h2, ?_⟩
  have hA := ha cpos pins s1 σ H1 _ I1 q1
  rw [hs] at hA ⊢
  refine Calls.callWith_builtin (by show (false || (backTo cpos (starEach es X.env)).any (·.1)) = false; rw [hplain] <;> rfl) (Calls.evalArgs_plain ?_)
  exact thn hA fun us s2 ⟨vs, H2, I2, r2, q2⟩ => hm pins s2 σ H2 x vs v us Q I2 r1 r2 q2
end
end L2
namespace L2
open PySem PySem.Spec PyProof.Rows
noncomputable def MtM (X : Cx) (id : String) (r : V → List V → Hp → VK → Prop) : Prop :=
  ∀ (pins : List (Addr × Obj)) (s : Shared) (σ : St) (H : Hp) (x : V) (xs : List V) (v : Value) (us : List Value) (Q : VK), Inv X pins σ H s → RelV x v → Vals xs us → r x xs H Q →
    wpAny (model X.prog X.w) X.A (call (.builtin id) (v :: us)) (EP X pins σ Q) X.xe s
theorem Vals.one : ∀ {x : V} {us : List Value}, Vals [x] us → ∃ u, us = [u] ∧ RelV x u
  | _, _, .cons r .nil => ⟨_, rfl, r⟩
theorem Vals.zero : ∀ {us : List Value}, Vals [] us → us = []
  | _, .nil => rfl
theorem Vals.dropLast {xs : List V} {us : List Value} (h : Vals xs us) : Vals xs.dropLast us.dropLast := by
  induction h with
  | nil => exact .nil
  | cons r t ih =>
    cases t with
    | nil => exact .nil
    | cons q t' => exact .cons r ih
theorem Vals.eraseIdx : ∀ {xs : List V} {us : List Value} (i : Nat), Vals xs us → Vals (xs.eraseIdx i) (us.eraseIdx i)
  | _, _, _, .nil => .nil
  | _, _, 0, .cons _ t => t
  | _, _, i + 1, .cons r t => .cons r (Vals.eraseIdx i t)
theorem erase_last {α : Type} (l : List α) : l.eraseIdx (l.length - 1) = l.dropLast := by
  induction l with
  | nil => rfl
  | cons a r ih =>
    cases r with
    | nil => rfl
    | cons b r =>
      have e : (a :: b :: r).length - 1 = ((b :: r).length - 1) + 1 := by
        have h1 : (a :: b :: r).length = r.length + 2 := rfl
        have h2 : (b :: r).length = r.length + 1 := rfl
        omega
      rw [e, List.eraseIdx_cons_succ, ih]
      all_goals rfl
theorem len_erase {α : Type} : ∀ (l : List α) (i : Nat), (l.eraseIdx i).length ≤ l.length
  | [], _ => Nat.le_refl _
  | _ :: _, 0 => Nat.le_succ _
  | _ :: r, i + 1 => Nat.succ_le_succ (len_erase r i)
section
variable {X : Cx} {pins : List (Addr × Obj)} {σ : St} {H : Hp} {s : Shared} {l b : Addr} {xs ys zs : List V}
theorem Inv.lset {its its' : List Value} {n : Nat} {f : Array Value → Array Value} {t' : Nat} (I : Inv X pins σ H s) (hH : H l = some (.lst xs))
    (e : s.heap.get? l = some { cls := .type "list", data := .seq its.toArray n }) (hf : f its.toArray = its'.toArray) (hv : Vals ys its') (hz : ys.length ≤ sizeLine) :
    Inv X pins σ (upd H l (.lst ys)) { s with heap := s.heap.update l (Obj.mapSeq f), toks := t' } := by
  have q := PySem.IsL.update e f
  rw [hf] at q
  refine I.write (x := l) (e := l) (by rw [hH]; exact trivial) (.inl rfl) (fun b' u hb hu => (Heap.get?_update_other s.heap (Obj.mapSeq f) (Ne.symm hb)).trans hu) ⟨_, q⟩ ?_
  exact ⟨hz, its', _, hv, q⟩
theorem Inv.lnew {its : List Value} {t' : Nat} (I : Inv X pins σ H s) (hv : Vals ys its) (hz : ys.length ≤ sizeLine) :
    Inv X pins σ (upd H s.heap.objs.size (.lst ys)) { s with heap := s.heap.push { cls := .type "list", data := .seq its.toArray }, toks := t' } :=
  I.laid (fun _ _ q => Heap.get?_push_of_some _ q) (Nat.le_refl _) ⟨hz, its, 0, hv, Heap.get?_push_size _ rfl⟩
theorem Inv.fresh (I : Inv X pins σ H s) : H s.heap.objs.size = none := I.hok.fresh (Nat.le_refl _)
theorem Inv.lstM (I : Inv X pins σ H s) (hH : H l = some (.lst xs)) : xs.length ≤ sizeLine ∧ ∃ (its : List Value) (n : Nat), Vals xs its ∧ xs.length = its.length ∧ s.heap.get? l = some { cls := .type "list", data := .seq its.toArray n } := by
  obtain ⟨z, its, n, r, e⟩ := I.hok l _ hH
  exact ⟨z, its, n, r, r.length, e⟩
theorem notLongL {n : Nat} (h : n ≤ sizeLine) : Builtin.List.listTooLong n = false := by
  unfold Builtin.List.listTooLong
  exact decide_eq_false (by omega)
end
section
variable {X : Cx}
noncomputable def rAppend : V → List V → Hp → VK → Prop := fun x vs H Q => ∃ l xs y, x = .ref l ∧ vs = [y] ∧ H l = some (.lst xs) ∧ xs.length < sizeLine ∧ Q .non (upd H l (.lst (xs ++ [y])))
theorem mt_append : MtM X "list.append" rAppend := by
  intro pins s σ H x vs v us Q I rx rv h
  obtain ⟨l, xs, y, rfl, rfl, hH, hz, q⟩ := h
  cases rx
  obtain ⟨u, rfl, ru⟩ := rv.one
  obtain ⟨z, its, n, r, hl, e⟩ := I.lstM hH
  refine call_meets F.slot_list_append ⟨_, e, rfl⟩ F.entry_list_append (F.args_list_append_2 _ _) (PySem.list_append l its.toArray n u (by rw [List.size_toArray]; omega)) ⟨e, ?_⟩
  refine ⟨.non, _, I.lset (its' := its ++ [u]) hH e (by simp) (r.append (.cons ru .nil)) ?_, rfl, q⟩
  rw [List.length_append, List.length_singleton]
  omega
noncomputable def rExtend : V → List V → Hp → VK → Prop := fun x vs H Q => ∃ l b xs zs, x = .ref l ∧ vs = [.ref b] ∧ H l = some (.lst xs) ∧ H b = some (.lst zs) ∧ xs.length + zs.length ≤ sizeLine ∧ Q .non (upd H l (.lst (xs ++ zs)))
theorem mt_extend : MtM X "list.extend" rExtend := by
  intro pins s σ H x vs v us Q I rx rv h
  obtain ⟨l, b, xs, zs, rfl, rfl, hH, hB, hz, q⟩ := h
  cases rx
  obtain ⟨u, rfl, ru⟩ := rv.one
  cases ru
  obtain ⟨z, its, n, r, hl, e⟩ := I.lstM hH
  obtain ⟨z2, its2, n2, r2, hl2, e2⟩ := I.lstM hB
  have hsz : its.toArray.size + its2.toArray.size ≤ sizeLine := by rw [List.size_toArray, List.size_toArray]; omega
  have hlong : ¬ (!its.toArray.isEmpty && Builtin.List.listTooLong (its.toArray.size + its2.toArray.size)) = true := by
    rw [notLongL hsz, Bool.and_false]
    exact Bool.false_ne_true
  refine call_meets F.slot_list_extend ⟨_, e, rfl⟩ F.entry_list_extend (F.args_list_extend_2 _ _)
    (AutoSeq1.list_extend_list_list_0 l its.toArray n b its2.toArray n2 hlong (by rw [List.size_toArray]; omega) (by omega)) ⟨e, e2, ?_⟩
  refine ⟨.non, _, I.lset (its' := its ++ its2) hH e (by simp) (r.append r2) ?_, rfl, q⟩
  rw [List.length_append]
  omega
noncomputable def rPop : V → List V → Hp → VK → Prop := fun x vs H Q => ∃ l xs y, x = .ref l ∧ vs = [] ∧ H l = some (.lst xs) ∧ xs[xs.length - 1]? = some y ∧ Q y (upd H l (.lst xs.dropLast))
theorem mt_pop : MtM X "list.pop" rPop := by
  intro pins s σ H x vs v us Q I rx rv h
  obtain ⟨l, xs, y, rfl, rfl, hH, hy, q⟩ := h
  cases rx
  have hus := rv.zero
  subst hus
  obtain ⟨z, its, n, r, hl, e⟩ := I.lstM hH
  obtain ⟨u, hu, ru⟩ := r.get hy
  have hy' : its.toArray[its.toArray.size - 1]? = some u := by
    show its.toArray[its.length - 1]? = some u
    rw [← Array.getElem?_toList, ← hl]
    exact hu
  refine call_meets F.slot_list_pop ⟨_, e, rfl⟩ F.entry_list_pop (F.args_list_pop_1 _) (MeetsSeq.list_pop_last l its.toArray n u hy' (by rw [List.size_toArray]; omega)) ⟨e, ?_⟩
  refine ⟨y, _, I.lset (its' := its.dropLast) hH e ?_ r.dropLast ?_, ru, q⟩
  · show its.toArray.eraseIdxIfInBounds (its.toArray.size - 1) = its.dropLast.toArray
    rw [List.size_toArray, List.eraseIdxIfInBounds_toArray, erase_last]
  · rw [List.length_dropLast]
    omega
noncomputable def rPopAt : V → List V → Hp → VK → Prop := fun x vs H Q => ∃ l xs i k y, x = .ref l ∧ vs = [.int i] ∧ H l = some (.lst xs) ∧ -(2 ^ 63) ≤ i ∧ i < 2 ^ 63 ∧ seqIndex? i xs.length = some k ∧ xs[k]? = some y ∧ Q y (upd H l (.lst (xs.eraseIdx k)))
theorem mt_popAt : MtM X "list.pop" rPopAt := by
  intro pins s σ H x vs v us Q I rx rv h
  obtain ⟨l, xs, i, k, y, rfl, rfl, hH, h1, h2, hk, hy, q⟩ := h
  cases rx
  obtain ⟨u, rfl, ru⟩ := rv.one
  obtain ⟨t, rfl⟩ := ru
  obtain ⟨z, its, n, r, hl, e⟩ := I.lstM hH
  obtain ⟨w, hw, rw'⟩ := r.get hy
  refine call_meets F.slot_list_pop ⟨_, e, rfl⟩ F.entry_list_pop (F.args_list_pop_2 _ _)
    (MeetsSeq.list_pop_at l its.toArray n i t k w (fitsIndex_both h1 h2) (by rw [List.size_toArray, ← hl]; exact hk) (by rw [← Array.getElem?_toList]; exact hw) (by rw [List.size_toArray]; omega)) ⟨e, ?_⟩
  refine ⟨y, _, I.lset (its' := its.eraseIdx k) hH e ?_ (r.eraseIdx k) ?_, rw', q⟩
  · show its.toArray.eraseIdxIfInBounds k = (its.eraseIdx k).toArray
    rw [List.eraseIdxIfInBounds_toArray]
  · have := len_erase xs k
    omega
noncomputable def rCat : R2 := fun x y H Q => ∃ l b xs zs, x = .ref l ∧ y = .ref b ∧ H l = some (.lst xs) ∧ H b = some (.lst zs) ∧ xs.length + zs.length ≤ sizeLine ∧ ∀ p, H p = none → Q (.ref p) (upd H p (.lst (xs ++ zs)))
theorem op_cat : OpR X (binaryOp .Add) rCat := by
  intro pins s σ H x y v u Q I rx ry h
  obtain ⟨l, b, xs, zs, rfl, rfl, hH, hB, hz, q⟩ := h
  cases rx
  cases ry
  obtain ⟨z, its, n, r, hl, e⟩ := I.lstM hH
  obtain ⟨z2, its2, n2, r2, hl2, e2⟩ := I.lstM hB
  refine PySem.P.add_list e e2 ?_ (by rw [List.size_toArray, List.size_toArray]; omega)
  have ea : its.toArray ++ its2.toArray = (its ++ its2).toArray := by simp
  rw [ea]
  exact ⟨.ref _, _, I.lnew (t' := s.toks) (r.append r2) (by rw [List.length_append]; omega), rfl, q _ I.fresh⟩
end
section
variable {prog : Program} {w : World} {A : Around} {E : Value → Shared → Prop} {s : Shared}
end
section
variable {X : Cx}
end
end L2
namespace Att
open PySem PySem.W PySem.Calls PyProof.Rows
theorem ints_of_wellAll {P : Params} {h : Heap} : ∀ (ns : List Int) (vs : List Value), WellAll P h vs (ns.map WData.int) → IntsAre vs ns := by
  intro ns
  induction ns with
  | nil =>
    intro vs w
    rw [List.map_nil] at w
    cases w
    exact .nil
  | cons n ns ih =>
    intro vs w
    rw [List.map_cons] at w
    cases w with
    | cons a b =>
      cases a
      exact .cons _ _ (ih _ b)
theorem script_of {l : OpenLaw} {n : Nat} (hn : l.most = some n) {P : Params} {h : Heap} {args : List WData} {vals : List Value}
    (hpre : l.row.toRowW.claim.pre args = true) (hwl : WellAll P h vals args) :
    ∃ a vs ns, vals = [Value.ref a] ∧ args = [WData.list (ns.map WData.int)] ∧ h.get? a = some { cls := .type "list", data := .seq vs.toArray } ∧ IntsAre vs ns ∧ ns.length ≤ n := by
  have hsh : WShape.hasAll [] args [.list .int] = true := (pre_splitW hpre).1
  have hc : l.pre.holds [] { args := args } = true := (pre_splitW hpre).2
  obtain ⟨d, r, rfl, h1, h2⟩ := hasAllW_cons hsh
  obtain rfl := hasAllW_nil h2
  obtain ⟨xs, rfl, h3⟩ := hasW_list h1
  obtain ⟨ns, rfl⟩ := items_int h3
  have hlen : ns.length ≤ n := by
    unfold OpenLaw.pre at hc
    have h4 : (WTm.not (.lt (.lit (.int (n : Int))) (.len (.arg 0)))).holds [] { args := [.list (ns.map .int)] } = true := by
      have h4 := (holds_andW hc).1
      rw [hn] at h4
      exact h4
    have h5 := condW_of h4 (w_not (w_lt w_lit (w_len_list (w_arg rfl))))
    rw [List.length_map] at h5
    refine Nat.le_of_not_lt fun q => ?_
    have q' : (n : Int) < ((ns.length : Nat) : Int) := by omega
    first
      | (rw [decide_eq_true q'] at h5; exact absurd h5 (by decide))
      | (simp at h5; omega)
  cases hwl with
  | cons w1 w2 =>
    cases w2
    cases w1 with
    | list ho hall => exact ⟨_, _, ns, rfl, rfl, ho, ints_of_wellAll ns _ hall, hlen⟩
theorem post_true (l : OpenLaw) (args : List WData) : l.row.toRowW.claim.post args (.bool true) args = true :=
  postW_of (r := l.row.toRowW) (X := (true == true))
    (show WShape.has [] (.bool true) .bool = true by first | rfl | decide | simp [WShape.has, WShape.arms, WShape.armsAll])
    (show (WTm.eq .res (.lit (.bool true))).value [] { args := args, res := some (.bool true), after := args } = some (.bool (true == true)) from w_eq_bool (w_res rfl) w_lit) rfl
section
variable {prog : Program} {w : World} {A : Around} {E : Value → Shared → Prop} {s : Shared} {K : Frag}
end
end Att
namespace L2
open PySem PySem.Spec PyProof.Rows
theorem vals_ints : ∀ {vs : List Value} {ns : List Int}, IntsAre vs ns → Vals (ns.map V.int) vs
  | _, _, .nil => .nil
  | _, _, .cons n t h => .cons ⟨t, rfl⟩ (vals_ints h)
noncomputable def Only (H : Hp) : Prop := ∀ b, H b = none ∨ ∃ o xs, H b = some (.frz o (.lst xs))
theorem law_call {P : Program} {w : World} {K : PySem.W.Frag} {mg mb : Str → Option Value} {CX : CXT} {k : Nat} {fa a : Addr} {fd : FuncData} {x : Str} {sp : Sp} {s₁ : Shared} {vs : List Value} {ns : List Int}
    (KX : K.In s₁.heap) (hns : s₁.heap.Ns mainGlobals mg) (hb : s₁.heap.Ns builtinsNs mb) (hbb : ∀ x : Str, x ≠ "__name__" → mb x = bootBuiltins x) (hlim : s₁.heap.NoLimit) (hg : s₁.gens = #[])
    (ha : s₁.heap.get? a = some { cls := .type "list", data := .seq vs.toArray }) (hi : IntsAre vs ns) (hl : ns.length ≤ sizeLine) (hr : Room k callerA)
    (F : ∀ base : Heap, K.In base → base.Ns mainGlobals mg → FnOk P w K mg base CX k fa fd [x] sp) (hbind : ∀ (s : Shared) (u : Value), BindsTo s fd ⟨[u], []⟩ [(x, u)])
    (hsp : ∀ H : Hp, Only H → SqL K H a (ns.map V.int) → sp [.ref a] H (fun v _ => v = .bl true) fun _ _ _ => False)
    (hCX : ∀ H e s', CX [] H s₁ (fun _ _ _ => False) e s' → False) :
    codeAny (model P w) callerA (.call (.ref fa) ⟨[.ref a], []⟩) (fun r s' => r = .ok (.ret (.bool true)) ∧ OldK s₁.heap s'.heap ∧ s'.os = s₁.os ∧ AllBare s'.gens) s₁ := by
  have rv := vals_ints hi
  have lenV := hi.length
  have core : ∀ H : Hp, Only H → SqL K H a (ns.map V.int) → HOk P w H s₁.heap → (∀ b, H b ≠ none → b = a) → (H a ≠ none → K.lookup a = none) →
      codeAny (model P w) callerA (.call (.ref fa) ⟨[.ref a], []⟩) (fun r s' => r = .ok (.ret (.bool true)) ∧ OldK s₁.heap s'.heap ∧ s'.os = s₁.os ∧ AllBare s'.gens) s₁ := by
    intro H hO hS hok hA hK
    have base_of : ∀ {b : Addr} {o : Obj}, s₁.heap.get? b = some o → H b = none → (hidT s₁.heap H).get? b = some o := fun e n => hidT_get e n
    have noA : ∀ {b : Addr} {o : Obj} {es : Array DictEntry} {ep : Nat}, s₁.heap.get? b = some o → o.data = .dict es ep → H b = none := fun {b o es ep} e d => by
      cases q : H b with
      | none => rfl
      | some u =>
        have e' : b = a := hA b (by rw [q]; simp)
        subst e'
        rw [ha] at e; cases e
        have d' : Data.seq vs.toArray _ = Data.dict es ep := d
        cases d'
    have nsK : ∀ {b : Addr} {m : Str → Option Value}, s₁.heap.Ns b m → (hidT s₁.heap H).Ns b m := fun {b m} ⟨o, es, ep, e, d, r⟩ => ⟨o, es, ep, base_of e (noA e d), d, r⟩
    have hKb : K.In (hidT s₁.heap H) := fun b o e => base_of (KX b o e) (by
      cases q : H b with
      | none => rfl
      | some u =>
        have e' : b = a := hA b (by rw [q]; simp)
        subst e'
        rw [hK (by rw [q]; simp)] at e; cases e)
    have hM : Mod K mg (hidT s₁.heap H) := ⟨hKb, nsK hns, ⟨mb, nsK hb, hbb⟩, let ⟨mc, h1, h2⟩ := hlim; ⟨mc, nsK h1, h2⟩⟩
    have e0 : Env0 P w K mg (hidT s₁.heap H) callerA [] s₁ H := ⟨rfl, hM, fun b o e => of_hidT e, Nat.le_of_eq (hidT_size _ _), trivial, fun b hb => absurd (show b ∈ ([] : List Addr) from hb) (by simp), hok, .of_eq hg⟩
    refine codeAny_mono ((F _ hKb (nsK hns)).run callerA [] s₁ H ⟨[.ref a], []⟩ [.ref a] [.ref a] _ _ hr e0 (hbind s₁ (.ref a)) (.cons rfl .nil) (hsp H hO hS)) fun r s' h => ?_
    cases r with
    | error e => exact (hCX H e s' h).elim
    | ok fl =>
      cases fl with
      | next => exact False.elim h
      | brk => exact False.elim h
      | cont => exact False.elim h
      | ret u =>
        obtain ⟨v, H', os, bare, un, hok', r', q⟩ := h
        have q' : v = .bl true := q
        subst q'
        obtain rfl : u = Value.bool true := r'
        refine ⟨rfl, OldK.of_keep fun b o e => ?_, os, bare⟩
        cases q : H b with
        | none => exact un.keep b o e q (by intro z; exact absurd (show b ∈ ([] : List Addr) from z) (by simp)) (by simp)
        | some u =>
          rcases hO b with z | ⟨ob, xs, z⟩
          · rw [q] at z; cases z
          · have z2 := un.frzs b ob _ z
            obtain ⟨e1, _⟩ := hok b _ z
            obtain ⟨e2, _⟩ := hok' b _ z2
            rw [e] at e1; cases e1
            exact e2
  cases hk : K.lookup a with
  | some o =>
    have e := KX a o hk
    rw [ha] at e
    cases e
    refine core (fun _ => none) (fun _ => .inl rfl) (.inr ⟨_, vs.toArray, _, hk, rfl, rfl, rfl, by rw [List.size_toArray, lenV]; exact hl, by simpa using rv⟩) (fun b u z => by have z' : (none : Option HO) = some u := z; cases z') (fun b z => absurd rfl z) fun z => absurd rfl z
  | none =>
    refine core (fun b => if b = a then some (.frz { cls := .type "list", data := .seq vs.toArray } (.lst (ns.map V.int))) else none) (fun b => ?_) (.inl (.inr ⟨{ cls := .type "list", data := .seq vs.toArray }, if_pos rfl⟩)) (fun b u z => ?_) (fun b z => ?_) fun _ => hk
    · by_cases hb : b = a
      · exact .inr ⟨_, _, if_pos hb⟩
      · exact .inl (if_neg hb)
    · by_cases hb : b = a
      · have z' := (if_pos hb).symm.trans z
        cases z'
        subst hb
        exact ⟨ha, by rw [List.length_map]; exact hl, vs, _, rv, ha⟩
      · have z' := (if_neg hb).symm.trans z
        cases z'
    · by_cases hb : b = a
      · exact hb
      · exact absurd (if_neg hb) z
end L2
namespace L2
open PySem PySem.Spec PyProof.Rows
end L2
namespace L2
open PySem PySem.Spec PyProof.Rows
noncomputable def defArgs (s : Stmt) : Arguments := match s with
  | .FunctionDef _ a _ _ _ _ _ _ _ _ => a
  | _ => { posonlyargs := [], args := [], vararg := none, kwonlyargs := [], kw_defaults := [], kwarg := none, defaults := [] }
noncomputable def defBody (s : Stmt) : List Stmt := match s with
  | .FunctionDef _ _ b _ _ _ _ _ _ _ => b
  | _ => []
noncomputable def defScope (s : Stmt) : Scope := match s with
  | .FunctionDef _ _ _ _ _ _ sc _ _ _ => sc
  | _ => { kind := .function, names := [], isGenerator := false, isCoroutine := false }
noncomputable abbrev CX0 : CXT := fun _ _ _ _ _ _ => False
noncomputable abbrev E0 : XK := fun _ _ _ => False
theorem pass0 {X : Cx} : Passes CX0 X E0 := fun _ _ _ _ _ _ _ h => h.elim
structure Fun (K : PySem.W.Frag) (x qual : Str) (st : Stmt) (f : Addr) (fd : FuncData) : Prop where
  ex : ∃ (oc : Value) (od : Option Addr) (kV doc pm : Value) (an : Option Addr) (cdv ct : Value) (osl : Array (Option Value)),
    fd = PySem.W.fnOf x qual (defArgs st) (defBody st) (defScope st) .none kV doc pm an cdv ct ∧ K.lookup f = some ⟨oc, od, .func fd, osl⟩ ∧ PySem.W.codeIn K cdv qual = true
  kp : PySem.W.keepIn K (.ref f) = true
section
variable {P : Program} {w : World} {K : PySem.W.Frag} {mg : Str → Option Value} {base : Heap}
theorem Fun.ok {x qual : Str} {st : Stmt} {f : Addr} {fd : FuncData} {N ps : List Str} {k : Nat} {sp : Sp} (F : Fun K x qual st f fd) (S : FnScope N ps (defScope st)) (len : ∀ vs H Q E, sp vs H Q E → vs.length = ps.length)
    (hbody : ∀ (cdv : Value) (A : Around) (outer : List Env) (s : Shared) (H : Hp) (vs : List V) (Q : VK) (E : XK), Room k (A.deeper (envOfC qual (defScope st) s.heap.objs.size f cdv)) → sp vs H Q E →
      ∃ t, PSs (cxOf CX0 P w K mg base N qual (defScope st) f cdv A outer s H E).nox (defBody st) t ∧ t { nx := fun _ H' => Q .non H', rt := Q } (start N vs) H) : FnOk P w K mg base CX0 (k + 1) f fd ps sp := by
  obtain ⟨oc, od, kV, doc, pm, an, cdv, ct, osl, rfl, lk, hcd⟩ := F.ex
  refine fn_of lk hcd S len fun A outer s H vs Q E hr hsp => ?_
  obtain ⟨t, h, q⟩ := hbody cdv A outer s H vs Q E hr hsp
  exact ⟨t, h.nox, q⟩
theorem Fun.binds {x qual : Str} {st : Stmt} {f : Addr} {fd : FuncData} {ps : List Str} (F : Fun K x qual st f fd)
    (h : ∀ (kV doc pm : Value) (an : Option Addr) (cdv ct : Value) (us : List Value), us.length = ps.length → bindArgs (PySem.W.fnOf x qual (defArgs st) (defBody st) (defScope st) .none kV doc pm an cdv ct) ⟨us, []⟩ = pure (ps.zip us)) : Binds K fd ps [] := by
  obtain ⟨oc, od, kV, doc, pm, an, cdv, ct, osl, rfl, lk, hcd⟩ := F.ex
  exact .all (h kV doc pm an cdv ct)
theorem fun_mk {x qual : Str} {st : Stmt} {f : Addr} {oc : Value} {od an : Option Addr} {osl : Array (Option Value)} {kV doc pm cdv ct : Value} (l : K.lookup f = some ⟨oc, od, .func (PySem.W.fnOf x qual (defArgs st) (defBody st) (defScope st) .none kV doc pm an cdv ct), osl⟩)
    (c : PySem.W.codeIn K cdv qual = true) (k : PySem.W.keepIn K (.ref f) = true) : Fun K x qual st f (PySem.W.fnOf x qual (defArgs st) (defBody st) (defScope st) .none kV doc pm an cdv ct) := ⟨⟨oc, od, kV, doc, pm, an, cdv, ct, osl, rfl, l, c⟩, k⟩
end
section
variable {X : Cx}
end
theorem iteF {A B : Prop} (h : B) : if false = true then A else B := by
  rw [if_neg Bool.false_ne_true]
  exact h
theorem iteT {A B : Prop} (h : A) : if true = true then A else B := by
  rw [if_pos rfl]
  exact h
noncomputable def Same (H H' : Hp) : Prop := ∀ b o, H b = some o → H' b = some o
theorem Same.trans {H H1 H2 : Hp} (a : Same H H1) (b : Same H1 H2) : Same H H2 := fun c o h => b c o (a c o h)
end L2
namespace L2
open PySem PySem.Spec PyProof.Rows
section
variable {X : Cx} {pins : List (Addr × Obj)} {σ : St} {H : Hp} {s : Shared} {N' : List Str} {js : List (Option Nat)} {scope : Scope} {fp : List Addr}
variable {tg iter elt : Expr} {ifs : List Expr} {pos : Pos} {wi : TI} {g : Shared → Hp → List Addr → TG} {tf : Shared → Hp → List Addr → TT} {te : Shared → Hp → List Addr → TE}
end
end L2
namespace L2
open PySem PySem.Spec PyProof.Rows
section
variable {prog : Program} {w : World} {A : Around} {E : Value → Shared → Prop} {s : Shared}
theorem nextOf_tuple_item {it l : Addr} {i : Nat} {items : Array Value} {x : Value} {Q : Value → Shared → Prop} (hit : s.heap.IsTupleIter it l i)
    (hl : s.heap.IsTuple l items) (hx : items[i]? = some x)
    (hQ : ∀ h', h'.IsTupleIter it l (i + 1) → Heap.SameBut it s.heap h' → Q x { s with heap := h' }) :
    wpAny (model prog w) A (Builtin.SmallTypes.nextOf (.ref it)) Q E s := by
  obtain ⟨o, ho, hc, hd⟩ := id hit
  obtain ⟨ol, hol, _, nl, hdl⟩ := hl
  unfold Builtin.SmallTypes.nextOf
  refine wpAny_bind (wpAny_callSpecial?_slot (name := Str.ofString "__next__") hit.typeIs F.slot_tuple_iterator_next
    (wpAny_call_entry F.slot_tuple_iterator_next hit.typeIs F.entry_tuple_iterator_next ?_ (F.args_tuple_iterator_next_1 _)))
  show wpAny _ _ (field (.ref it) 0 >>= _) _ _ s
  refine wpAny_bind (wpAny_field ho hd (x := .ref l) rfl ?_)
  show wpAny _ _ (if (Value.ref l == Value.none) = true then _ else _) _ _ s
  rw [if_neg (show ¬ ((Value.ref l == Value.none) = true) from Bool.false_ne_true)]
  show wpAny _ _ (field (.ref it) 1 >>= _) _ _ s
  refine wpAny_bind (wpAny_field ho hd (x := .int i 0) rfl ?_)
  show wpAny _ _ (seqItems? (.ref l) >>= _) _ _ s
  refine wpAny_bind (wpAny_seqItems hol hdl ?_)
  simp only [Int.toNat_natCast, hx]
  refine wpAny_bind (wpAny_setField ho hd (by simp) (wpAny_pure ⟨x, rfl, wpAny_pure (hQ _ ?_ (Heap.SameBut.update ..))⟩))
  exact ⟨_, Heap.get?_update_self _ ho (Obj.isFreed_of_fields (Obj.data_mapFields hd _)), (Obj.cls_mapFields ..).trans hc, by
    rw [Obj.data_mapFields hd]; simp [rawInt]⟩
theorem nextOf_tuple_end {it l : Addr} {i : Nat} {items : Array Value} {Q : Value → Shared → Prop} (hh : A.handled = none)
    (hit : s.heap.IsTupleIter it l i) (hl : s.heap.IsTuple l items) (hx : items[i]? = none)
    (hE : ∀ h' e, Heap.ExtBut it s.heap h' → (∃ o, h'.get? e = some o ∧ o.cls = .type "StopIteration") → E (.ref e) { s with heap := h' }) :
    wpAny (model prog w) A (Builtin.SmallTypes.nextOf (.ref it)) Q E s := by
  obtain ⟨o, ho, hc, hd⟩ := id hit
  obtain ⟨ol, hol, _, nl, hdl⟩ := hl
  unfold Builtin.SmallTypes.nextOf
  refine wpAny_bind (wpAny_callSpecial?_slot (name := Str.ofString "__next__") hit.typeIs F.slot_tuple_iterator_next
    (wpAny_call_entry F.slot_tuple_iterator_next hit.typeIs F.entry_tuple_iterator_next ?_ (F.args_tuple_iterator_next_1 _)))
  show wpAny _ _ (field (.ref it) 0 >>= _) _ _ s
  refine wpAny_bind (wpAny_field ho hd (x := .ref l) rfl ?_)
  show wpAny _ _ (if (Value.ref l == Value.none) = true then _ else _) _ _ s
  rw [if_neg (show ¬ ((Value.ref l == Value.none) = true) from Bool.false_ne_true)]
  show wpAny _ _ (field (.ref it) 1 >>= _) _ _ s
  refine wpAny_bind (wpAny_field ho hd (x := .int i 0) rfl ?_)
  show wpAny _ _ (seqItems? (.ref l) >>= _) _ _ s
  refine wpAny_bind (wpAny_seqItems hol hdl ?_)
  simp only [Int.toNat_natCast, hx]
  refine wpAny_bind (wpAny_rule (wpAny_bind (wpAny_setField ho hd (by simp) ?_)))
  show wpAny _ _ (newExc (.type "StopIteration") [] >>= _) _ _ _
  refine wpAny_bind ?_
  simp only [newExc, newTuple]
  refine wpAny_bind (wpAny_newObj_type ?_ (by size_fits))
  refine wpAny_bind (m := firstArgMember _ _) (wpAny_of_eq (a := Value.none) (by first | rfl | (simp only [firstArgMember]; rfl)) ?_)
  refine wpAny_newObj_type ?_ (by size_fits)
  simp only [raiseNew]
  refine wpAny_bind (wpAny_handled ?_)
  first | rw [show A.in1.handled = none from hh] | rw [hh]
  refine wpAny_bind (wpAny_pure (wpAny_throw ?_))
  exact hE _ _ (((Heap.SameBut.update ..).extBut.push _).push _) ⟨_, Heap.get?_push_size _ rfl, rfl⟩
end
theorem draws_tuple {prog : Program} {w : World} {A : Around} (hh : A.handled = none) (it l : Addr) (hne : l ≠ it) (items : Array Value) :
    Draws prog w A it [it, l] items.size (fun i v => items[i]? = some v) (fun i h => h.IsTupleIter it l i ∧ h.IsTuple l items) where
  live := fun _ _ st => let ⟨o, ho, _⟩ := st.1; ⟨o, ho⟩
  frame := fun _ _ _ st hk => ⟨st.1.at fun o e => hk it (by simp) o e, let ⟨o, ho, r⟩ := st.2; ⟨o, hk l (by simp) o ho, r⟩⟩
  item := fun i s Q E hi st hQ => by
    refine nextOf_tuple_item st.1 st.2 (x := items[i]) (by simp [hi]) fun h' hit hs => ?_
    exact hQ _ h' s.toks (by simp [hi]) ⟨hit, st.2.extBut hs.extBut hne⟩ hs
  done := fun s Q E st hE => nextOf_tuple_end hh st.1 st.2 (by simp) hE
theorem meets_enumerate_newT (l : Addr) (items : Array Value) (n : Nat) (dct : Option Addr) (sl : Array (Option Value)) :
    Meets (Builtin.«enumerate.__new__» ⟨[.type "enumerate", .ref l], []⟩) (fun _ R s => s.heap.get? l = some { cls := .type "tuple", dict := dct, data := .seq items n, slots := sl } ∧
      R (.ok (.ret (.ref (s.heap.push { cls := .type "tuple_iterator", data := .fields #[.ref l, .int 0 0] }).objs.size)))
        { s with heap := (s.heap.push { cls := .type "tuple_iterator", data := .fields #[.ref l, .int 0 0] }).push { cls := .type "enumerate", data := .fields #[.none, .bool false, .ref s.heap.objs.size, rawInt 0, .none, .none] } }) :=
  .of_wp fun prog w A R s h => by
    obtain ⟨hp, g, d, tk, os⟩ := s; obtain ⟨hl, h⟩ := h
    have hsub := sub_enumerate
    have hL : Heap.IsTuple (Shared.heap ⟨hp, g, d, tk, os⟩) l items := ⟨_, hl, rfl, n, rfl⟩
    wp_walk using PySem.AutoSeq1.wpAny_loadPart' hl
    refine wpAny_stack_any fun st => wpAny_pure ?_
    split
    · rename_i c _ _ _ _ _
      cases (c == Value.type "enumerate")
      · wp_walk using PySem.AutoSeq1.wpAny_loadPart' hl, wpAny_pyIter_tuple hL
        exact ⟨_, rfl, h⟩
      · wp_walk using PySem.AutoSeq1.wpAny_loadPart' hl, wpAny_pyIter_tuple hL
        exact ⟨_, rfl, h⟩
    · wp_walk using PySem.AutoSeq1.wpAny_loadPart' hl, wpAny_pyIter_tuple hL
      exact ⟨_, rfl, h⟩
theorem call_enumerate_tuple {prog : Program} {w : World} {A : Around} {E : Value → Shared → Prop} {s : Shared} {l : Addr} {items : Array Value} {Q : Value → Shared → Prop} (hL : s.heap.IsTuple l items)
    (h : ∀ h', IsEnum h' (s.heap.objs.size + 1) s.heap.objs.size 0 .none → h'.IsTupleIter s.heap.objs.size l 0 → h'.objs.size = s.heap.objs.size + 2 →
      (∀ b o, s.heap.get? b = some o → h'.get? b = some o) → Q (.ref (s.heap.objs.size + 1)) { s with heap := h' }) :
    wpAny (model prog w) A (call (.type "enumerate") [.ref l]) Q E s := by
  obtain ⟨⟨c, dct, dt, sl⟩, hl, hc, n, hd⟩ := hL
  replace hc : c = .type "tuple" := hc
  replace hd : dt = .seq items n := hd
  subst hc hd
  refine callType_new F.called_enumerate (by decide) (F.typeCall_enumerate_1 _) (F.newCall_enumerate_1 _) (fun obj => F.args_object_init_2 obj _) F.entry_enumerate_new
    (meets_enumerate_newT l items n dct sl) ⟨hl, ?_⟩
  have hz : (s.heap.push { cls := .type "tuple_iterator", data := .fields #[.ref l, .int 0 0] }).objs.size = s.heap.objs.size + 1 := Heap.size_push ..
  show _ ∧ _
  rw [hz]
  have he : IsEnum ((s.heap.push { cls := .type "tuple_iterator", data := .fields #[.ref l, .int 0 0] }).push
      { cls := .type "enumerate", data := .fields #[.none, .bool false, .ref s.heap.objs.size, rawInt 0, .none, .none] }) (s.heap.objs.size + 1) s.heap.objs.size 0 .none := by
    have := Heap.get?_push_size (s.heap.push { cls := .type "tuple_iterator", data := .fields #[.ref l, .int 0 0] })
      (o := { cls := .type "enumerate", data := .fields #[.none, .bool false, .ref s.heap.objs.size, rawInt 0, .none, .none] }) rfl
    rw [hz] at this; exact this
  refine ⟨⟨_, he, rfl⟩, h _ he ⟨_, Heap.get?_push_of_some _ (Heap.get?_push_size _ rfl), rfl, rfl⟩ (by rw [Heap.size_push, hz]) fun b o x => Heap.get?_push_of_some _ (Heap.get?_push_of_some _ x)⟩
section
variable {X : Cx} {pins : List (Addr × Obj)} {σ : St} {H : Hp} {s : Shared} {h' : Heap}
theorem Inv.turned2 {t' : Nat} {e it : Addr} (I : Inv X pins σ H s) (k : ∀ b o, b ≠ e → b ≠ it → s.heap.get? b = some o → h'.get? b = some o) (fe : FpOk X pins H e) (fi : FpOk X pins H it) : Inv X pins σ H { s with heap := h', toks := t' } := by
  have ne1 : ∀ b, b ∉ [e, it] → b ≠ e ∧ b ≠ it := fun b hb => ⟨fun z => hb (by simp [z]), fun z => hb (by simp [z])⟩
  have nit : ∀ b u, H b = some u → b ≠ e ∧ b ≠ it := fun b u q => ⟨fun z => (by rw [z, fe.1] at q; cases q), fun z => (by rw [z, fi.1] at q; cases q)⟩
  refine I.step (g' := s.gens) (d' := s.drawn) (ch := [e, it]) (fun b hb => ?_) (fun b o _ _ hc q _ => k b o (ne1 b hc).1 (ne1 b hc).2 q) (fun b o _ _ hc q _ => ⟨o.slots, k b o (ne1 b hc).1 (ne1 b hc).2 q⟩) (fun _ _ _ _ n => n)
    (fun b o hc q => ⟨o, k b o (ne1 b hc).1 (ne1 b hc).2 q⟩) (fun _ _ q => q) (fun _ _ _ q => q) (fun b ps q => ⟨#[], by rw [q]; simp⟩) (fun m hm => ?_) (fun b u q => ?_) I.bare
  · rcases List.mem_cons.mp hb with z | z
    · subst z; exact ⟨fe.2.2.2.1, fe.2.1, fe.2.2.2.2.1, fe.2.2.2.2.2⟩
    · have z := List.mem_singleton.mp z
      subst z; exact ⟨fi.2.2.2.1, fi.2.1, fi.2.2.2.2.1, fi.2.2.2.2.2⟩
  · obtain ⟨o, es, ep, ho, r⟩ := hm
    exact ⟨o, es, ep, k _ o (Ne.symm fe.2.1) (Ne.symm fi.2.1) ho, r⟩
  · refine (I.hok b u q).stay (fun c v hc z => ?_) (fun _ z => z) fun _ _ z => z
    rcases hc with y | y
    · rw [y]; rw [y] at z; exact k b v (nit b u q).1 (nit b u q).2 z
    · exact k c v (nit c _ y).1 (nit c _ y).2 z
end
structure EnumSrc (P : Program) (w : World) (K : PySem.W.Frag) (a it : Addr) (Sq : Hp → List V → Prop) (IsIt : Nat → Heap → Prop) : Prop where
  at_ : ∀ i h h', IsIt i h → (∀ o, h.get? it = some o → h'.get? it = some o) → IsIt i h'
  live : ∀ i h, IsIt i h → ∃ o, h.get? it = some o ∧ ∀ v, o.data ≠ .cell v
  drw : ∀ (X : Cx), X.prog = P → X.w = w → X.K = K → X.calm = true → ∀ (i : Nat) (pins : List (Addr × Obj)) (s : Shared) (σ : St) (H : Hp) (xs : List V), Inv X pins σ H s → IsIt i s.heap → Sq H xs →
    ∃ its : List Value, Vals xs its ∧ (∃ oa, s.heap.get? a = some oa ∧ oa.cls ≠ .type "enumerate") ∧ ∃ St : Nat → Heap → Prop, Draws P w X.A.in1 it [it, a] its.length (fun i v => its[i]? = some v) St ∧ St i s.heap ∧ ∀ j h', St j h' → IsIt j h'
  inj : ∀ (X : Cx), X.prog = P → X.w = w → X.K = K → ∀ (pins : List (Addr × Obj)) (s : Shared) (σ : St) (H : Hp) (xs ys : List V), Inv X pins σ H s → Sq H xs → Sq H ys → xs = ys
noncomputable def Ite (Sq : Hp → List V → Prop) : It :=
  ⟨fun i H => ∃ xs x, Sq H xs ∧ xs[i]? = some x, fun i H x H' => ∃ T v, x = .ref T ∧ H T = none ∧ H' = upd H T (.tup [.int (i : Nat), v]) ∧ ∀ xs, Sq H xs → xs[i]? = some v, fun i H => ∃ xs, Sq H xs ∧ xs.length = i⟩
theorem in1_handled {A : Around} (h : A.handled = none) : A.in1.handled = none := h
theorem src_list {P : Program} {w : World} {K : PySem.W.Frag} (a it : Addr) : EnumSrc P w K a it (fun H xs => SqL K H a xs) (fun i h => h.IsListIter it a i) where
  at_ := fun i h h' st k => st.at k
  live := fun i h st => by
    obtain ⟨o, e, c, d⟩ := st
    exact ⟨o, e, fun v z => by rw [d] at z; cases z⟩
  drw := by
    intro X hP hw hK hc i pins s σ H xs I hit hq
    subst hP hw hK
    obtain ⟨its, rv, p, hz⟩ := I.list hq
    obtain ⟨oa, e1, c1, r1⟩ := id p.isList
    have hne : a ≠ it := fun z => by
      obtain ⟨o, e, c, _⟩ := hit
      rw [← z, e1] at e; cases e; rw [c1] at c; injection c with c; exact absurd c (by decide)
    refine ⟨its, rv, ⟨oa, e1, fun z => (by rw [c1] at z; injection z with z; exact absurd z (by decide))⟩, (fun i h => h.IsListIter it a i ∧ h.IsList a its.toArray), ?_, ⟨hit, p.isList⟩, fun j h' st => st.1⟩
    have D := Draws.list (prog := X.prog) (w := X.w) (A := X.A.in1) (in1_handled (I.ok.hd hc)) it a hne its.toArray
    simpa using D
  inj := by
    intro X hP hw hK pins s σ H xs ys I h1 h2
    subst hP hw hK
    exact I.list_inj h1 h2
theorem src_tup {P : Program} {w : World} {K : PySem.W.Frag} (a it : Addr) : EnumSrc P w K a it (fun H xs => SqT K H a xs) (fun i h => h.IsTupleIter it a i) where
  at_ := fun i h h' st k => st.at k
  live := fun i h st => by
    obtain ⟨o, e, c, d⟩ := st
    exact ⟨o, e, fun v z => by rw [d] at z; cases z⟩
  drw := by
    intro X hP hw hK hc i pins s σ H xs I hit hq
    subst hP hw hK
    obtain ⟨its, rv, p, hz⟩ := I.tuple hq
    obtain ⟨oa, e1, c1, r1⟩ := id p
    have hne : a ≠ it := fun z => by
      obtain ⟨o, e, c, _⟩ := hit
      rw [← z, e1] at e; cases e; rw [c1] at c; injection c with c; exact absurd c (by decide)
    refine ⟨its, rv, ⟨oa, e1, fun z => (by rw [c1] at z; injection z with z; exact absurd z (by decide))⟩, (fun i h => h.IsTupleIter it a i ∧ h.IsTuple a its.toArray), ?_, ⟨hit, p⟩, fun j h' st => st.1⟩
    have D := draws_tuple (prog := X.prog) (w := X.w) (A := X.A.in1) (in1_handled (I.ok.hd hc)) it a hne its.toArray
    simpa using D
  inj := by
    intro X hP hw hK pins s σ H xs ys I h1 h2
    subst hP hw hK
    exact I.tuple_inj h1 h2
theorem turn_enum {P : Program} {w : World} {K : PySem.W.Frag} {a it : Addr} {Sq : Hp → List V → Prop} {IsIt : Nat → Heap → Prop} (S : EnumSrc P w K a it Sq IsIt) (e : Addr) (hei : e ≠ it) {es : List Expr} {x1} {pos : Pos} :
    Turn P w K (.Tuple es x1 pos) (Ite Sq) [e, it] e (fun i h => (∃ old, IsEnum h e it ((i : Nat) : Int) old) ∧ IsIt i h) where
  mem := by simp
  obj := fun i h st b hb => by
    obtain ⟨⟨old, he⟩, hit⟩ := st
    rcases List.mem_cons.mp hb with z | z
    · subst z; exact ⟨_, he, fun v z => by cases z⟩
    · have z := List.mem_singleton.mp z
      subst z; exact S.live i h hit
  keep := fun i h h' st k => by
    obtain ⟨⟨old, he⟩, hit⟩ := st
    exact ⟨⟨old, k e (by simp) _ he⟩, S.at_ i h h' hit fun o q => k it (by simp) o q⟩
  item := by
    intro X hP hw hK hc i pins s σ H E I hf st hg
    obtain ⟨⟨old, he⟩, hit⟩ := st
    obtain ⟨xs, x, hq, hx⟩ := hg
    obtain ⟨its, rv, ⟨oa, ea, ca⟩, St, D, st0, fromSt⟩ := S.drw X hP hw hK hc i pins s σ H xs I hit hq
    obtain ⟨u, hu, ru⟩ := rv.get hx
    have hlt : i < its.length := (List.getElem?_eq_some_iff.mp hu).1
    have hef : e ∉ [it, a] := fun z => by
      rcases List.mem_cons.mp z with z | z
      · exact hei z
      · have z := List.mem_singleton.mp z
        have he' : s.heap.get? e = some _ := he
        rw [z, ea] at he'; cases he'; exact ca rfl
    refine wpAny_pyNext_enum_itemD D he st0 hlt hei hef fun y h1 tk hy heo hst1 htup hsz hk => ?_
    have ey : y = u := Option.some.inj (hy.symm.trans hu)
    subst ey
    refine ⟨_, rfl, wpAny_letOwnedTupleGo_enum heo fun h2 he2 sb2 => ?_⟩
    have fe := hf e (by simp)
    have fi := hf it (by simp)
    have hT : H s.heap.objs.size = none := I.hok.fresh (Nat.le_refl _)
    have Im : Inv X pins σ (upd H s.heap.objs.size (.tup [.int (i : Nat), x])) { s with heap := s.heap.push { cls := .type "tuple", data := .seq #[.int i tk, y] } } :=
      I.laid (t' := s.toks) (fun b v q => Heap.get?_push_of_some _ q) (Nat.le_refl _) ⟨by show 2 ≤ sizeLine; decide, [.int i tk, y], .cons ⟨tk, rfl⟩ (.cons ru .nil), ⟨_, Heap.get?_push_size _ rfl, rfl, _, rfl⟩⟩
    have lt : ∀ b o, s.heap.get? b = some o → b ≠ s.heap.objs.size := fun b o q => Nat.ne_of_lt (Heap.lt_size q)
    have ne : e ≠ s.heap.objs.size := lt e _ he
    have ni : it ≠ s.heap.objs.size := by
      obtain ⟨o, q, _⟩ := S.live i _ hit
      exact lt it o q
    have up : ∀ b, b ≠ s.heap.objs.size → (upd H s.heap.objs.size (.tup [.int (i : Nat), x])) b = H b := fun b hb => upd_ne hb
    have fe' : FpOk X pins (upd H s.heap.objs.size (.tup [.int (i : Nat), x])) e := ⟨by rw [up e ne]; exact fe.1, fe.2⟩
    have fi' : FpOk X pins (upd H s.heap.objs.size (.tup [.int (i : Nat), x])) it := ⟨by rw [up it ni]; exact fi.1, fi.2⟩
    have I2 : Inv X pins σ (upd H s.heap.objs.size (.tup [.int (i : Nat), x])) { s with heap := h2, toks := tk + 1 } :=
      Im.turned2 (t' := tk + 1) (h' := h2) (fun b o hbe hbi q => by
        have q : (s.heap.push { cls := .type "tuple", data := .seq #[.int i tk, y] }).get? b = some o := q
        refine (sb2.2 b hbe).trans ?_
        rcases Heap.get?_push_cases q with ⟨hb, ho⟩ | q'
        · subst hb; subst ho; exact htup
        · exact hk b o hbe hbi q') fe' fi'
    refine ⟨.ref s.heap.objs.size, _, I2, rfl, ⟨_, x, rfl, hT, rfl, fun ys hy => by rw [S.inj X hP hw hK pins s σ H ys xs I hy hq]; exact hx⟩, ⟨⟨y, ?_⟩, ?_⟩, fun b hb => ?_⟩
    · have ec : ((i + 1 : Nat) : Int) = (i : Int) + 1 := by push_cast; rfl
      rw [ec]; exact he2
    · exact S.at_ _ _ _ (fromSt _ _ hst1) fun o q => (sb2.2 it (Ne.symm hei)).trans q
    · rcases List.mem_cons.mp hb with z | z
      · subst z; exact fe'.1
      · have z := List.mem_singleton.mp z
        subst z; exact fi'.1
  done := by
    intro X hP hw hK hc i pins s σ H E I hf st hg
    obtain ⟨⟨old, he⟩, hit⟩ := st
    obtain ⟨xs, hq, hx⟩ := hg
    obtain ⟨its, rv, ⟨oa, ea, ca⟩, St, D, st0, fromSt⟩ := S.drw X hP hw hK hc i pins s σ H xs I hit hq
    have hl := rv.length
    have ei : its.length = i := by omega
    rw [← ei] at st0
    obtain ⟨f0, f1, f2, f3, f4, f5⟩ := hf it (by simp)
    exact wpAny_pyNext_enum_endD D he st0 fun h1 eb => ⟨rfl, I.turned (t' := s.toks) (fun b o hb q => eb b o hb q) f0 f1 f3 f4 f5⟩
  self := fun _ _ _ _ _ st h => wpAny_pyIter_enum st.1.choose_spec h
section
variable {X : Cx}
theorem enum_fin {pins : List (Addr × Obj)} {σ : St} {H : Hp} {s : Shared} {h' : Heap} {a : Addr} {Sq : Hp → List V → Prop} {IsIt : Nat → Heap → Prop} {R : It → Hp → Prop} {tg : Expr} (htg : ∃ es x1 pos, tg = .Tuple es x1 pos) (I : Inv X pins σ H s) (S : EnumSrc X.prog X.w X.K a s.heap.objs.size Sq IsIt)
    (he : IsEnum h' (s.heap.objs.size + 1) s.heap.objs.size 0 .none) (hit : IsIt 0 h') (hk : ∀ b o, s.heap.get? b = some o → h'.get? b = some o) (q : R (Ite Sq) H) {E : Value → Shared → Prop} :
    wpAny (model X.prog X.w) X.A (pyIter (.ref (s.heap.objs.size + 1))) (PIE X pins σ tg R) E { s with heap := h' } := by
  obtain ⟨es, x1, pos, rfl⟩ := htg
  refine wpAny_pyIter_enum (s := { s with heap := h' }) he ?_
  refine ⟨s.heap.objs.size + 1, [s.heap.objs.size + 1, s.heap.objs.size], _, _, H, rfl, I.kept (t' := s.toks) hk, turn_enum S (s.heap.objs.size + 1) (Nat.succ_ne_self _), ⟨⟨_, he⟩, hit⟩, fun b hb => ?_, q⟩
  rcases List.mem_cons.mp hb with z | z
  · subst z; exact I.fpOk (Nat.le_succ _) (I.hok.fresh (Nat.le_succ _))
  · have z := List.mem_singleton.mp z
    subst z; exact I.fpOk (Nat.le_refl _) (I.hok.fresh (Nat.le_refl _))
end
end L2
namespace HT
open PySem PySem.Spec PyProof.Rows
section
variable {prog : Program} {w : World} {A : Around} {E : Value → Shared → Prop} {s : Shared}
theorem getItem_tuple_all {t sl : Addr} {items : Array Value} {vl vu : Value} {lo hi : Option Int} {Q : Value → Shared → Prop} (ht : IsTup s.heap t items) (hs : s.heap.IsSliceOf sl vl vu .none) (pl : IsPart vl lo) (pu : IsPart vu hi)
    (hw : sIx items.size 0 lo = 0 ∧ sIx items.size items.size hi = items.size) (h : Q (.ref t) s) : wpAny (model prog w) A (getItem (.ref t) (.ref sl)) Q E s := by
  obtain ⟨os, hos, hcs, hds⟩ := id hs
  have hTs : s.TypeIs (.ref sl) "slice" := ⟨os, hos, hcs⟩
  unfold getItem
  try with_reducible refine wpAny_holding ?_
  first | refine wpAny_bind (wpAny_pure ?_) | skip
  refine wpAny_bind (wpAny_sequenceKey ht.typeIs (by decide) ?_)
  refine wpAny_bind (wpAny_callSpecial?_slot (name := Str.ofString "__getitem__") ht.typeIs PyProof.Rows.slot_tuple_getitem
    (wpAny_call_entry PyProof.Rows.slot_tuple_getitem ht.typeIs entry_tuple_getitem ?_ (args_tuple_getitem _ _)))
  show wpAny _ _ (Builtin.Tuple.tupleItemsOf (.ref t) >>= _) _ _ s
  refine wpAny_bind (tupleItemsOf_ ht ?_)
  refine wpAny_bind (wpAny_typeOf hTs ?_)
  rw [if_pos (by decide)]
  refine wpAny_bind (sliceApplied_gen hs pl pu ?_)
  have hyes : (((sIx items.size 0 lo : Nat) : Int) == 0 && (1 : Int) == 1 && (sIx items.size items.size hi - sIx items.size 0 lo) == items.size) = true := by
    rw [hw.1, hw.2]; simp
  show wpAny _ _ (if (((sIx items.size 0 lo : Nat) : Int) == 0 && (1 : Int) == 1 && (sIx items.size items.size hi - sIx items.size 0 lo) == items.size) = true then _ else _) _ _ s
  rw [if_pos hyes]
  refine wpAny_bind (m := Builtin.Tuple.tupleIsExact _) ?_
  unfold Builtin.Tuple.tupleIsExact
  refine wpAny_bind (wpAny_typeOf ht.typeIs (wpAny_pure ?_))
  rw [if_pos (by decide)]
  exact wpAny_bind (wpAny_rule (wpAny_bind (wpAny_pure (wpAny_pure ⟨_, rfl, wpAny_pure h⟩))))
end
end HT
namespace L2
open PySem PySem.Spec PyProof.Rows
section
variable {X : Cx}
end
end L2
namespace L2
open PySem PySem.Spec PyProof.Rows
mutual
inductive Is (H : Hp) : V → PyData → Prop
  | non : Is H .non .none
  | bl (b : Bool) : Is H (.bl b) (.bool b)
  | int (i : Int) : Is H (.int i) (.int i)
  | str (x : Str) : Is H (.str x) (.str x)
  | lst {a : Addr} {xs : List V} {ds : List PyData} : H a = some (.lst xs) → Iss H xs ds → Is H (.ref a) (.list ds)
  | tup {a : Addr} {xs : List V} {ds : List PyData} : H a = some (.tup xs) → Iss H xs ds → Is H (.ref a) (.tuple ds)
inductive Iss (H : Hp) : List V → List PyData → Prop
  | nil : Iss H [] []
  | cons {x : V} {d : PyData} {xs : List V} {ds : List PyData} : Is H x d → Iss H xs ds → Iss H (x :: xs) (d :: ds)
end
mutual
theorem Is.mono {H H' : Hp} (s : Same H H') : ∀ {v : V} {d : PyData}, Is H v d → Is H' v d
  | _, _, .non => .non
  | _, _, .bl b => .bl b
  | _, _, .int i => .int i
  | _, _, .str x => .str x
  | _, _, .lst e h => .lst (s _ _ e) (Iss.mono s h)
  | _, _, .tup e h => .tup (s _ _ e) (Iss.mono s h)
theorem Iss.mono {H H' : Hp} (s : Same H H') : ∀ {xs : List V} {ds : List PyData}, Iss H xs ds → Iss H' xs ds
  | _, _, .nil => .nil
  | _, _, .cons h t => .cons (Is.mono s h) (Iss.mono s t)
end
theorem Iss.length {H : Hp} : ∀ {xs : List V} {ds : List PyData}, Iss H xs ds → xs.length = ds.length
  | _, _, .nil => rfl
  | _, _, .cons _ t => by rw [List.length_cons, List.length_cons, Iss.length t]
section
variable {X : Cx} {pins : List (Addr × Obj)} {σ : St} {H : Hp} {s : Shared}
end
end L2
namespace L2
open PySem PySem.Spec PyProof.Rows
structure Cal (P : Program) (w : World) (K : PySem.W.Frag) (mg : Str → Option Value) (base : Heap) (k : Nat) (x : Str) (ps : List Str) (sp : Sp) : Prop where
  ex : ∃ (f : Addr) (fd : FuncData), FnOk P w K mg base CX0 k f fd ps sp ∧ mg x = some (.ref f) ∧ PySem.W.keepIn K (.ref f) = true ∧ Binds K fd ps []
section
variable {X : Cx} {k : Nat} {ps : List Str} {sp : Sp} {x : Str} {p pos : Pos} {e : Expr} {es : List Expr} {t : TA}
theorem pe_cal (c : Cal X.prog X.w X.K X.mg X.base k x ps sp) (hr : Room k X.A) (hg : Gl X x) (ha : PA X (e :: es) t) (hdb : (x == ("__debug__" : Str)) = false := by decide)
    (he : starEach (e :: es) X.env = (false, eval e X.env) :: starEach es X.env := by rfl) (hpl : (backTo pos (starEach es X.env)).any (·.1) = false := by rfl) : PE X (.Call (.Name x p) (e :: es) [] pos) (tCall sp [] E0 t) := by
  obtain ⟨f, fd, F, hm, hk, hb⟩ := c.ex
  exact pe_call F hr hg hm hk hb .nil pass0 ha hdb he hpl
end
end L2
namespace L2
open PySem PySem.Spec PyProof.Rows
section
variable {X : Cx}
end
end L2
namespace L2
open PySem PySem.Spec PyProof.Rows
section
variable {X : Cx} {e st : Expr} {te : TE} {lo hi : Option Expr} {tl th ts : TO} {pos p2 : Pos}
end
end L2
namespace L2
open PySem PySem.Spec PyProof.Rows
section
variable {X : Cx}
end
end L2
namespace L2
open PySem PySem.Spec PyProof.Rows
section
variable {prog : Program} {w : World} {A : Around} {E : Value → Shared → Prop} {s : Shared}
end
section
variable {X : Cx} {pos : Pos}
end
end L2
namespace L2
open PySem PySem.Spec PyProof.Rows
section
variable {prog : Program} {w : World} {A : Around} {E : Value → Shared → Prop} {s : Shared}
end
end L2
namespace L2
open PySem PySem.Spec PyProof.Rows
section
variable {X : Cx}
end
end L2
namespace L2
open PySem PySem.Spec PyProof.Rows
section
variable {X : Cx} {tg : Expr}
end
section
variable {X : Cx}
end
end L2
namespace L2
open PySem
end L2
namespace L2
open PySem PySem.Spec PyProof.Rows
section
variable {prog : Program} {w : World} {A : Around} {E : Value → Shared → Prop} {s : Shared}
end
end L2
namespace L2
open PySem PySem.Spec PyProof.Rows
section
variable {prog : Program} {w : World} {A : Around} {E : Value → Shared → Prop} {s : Shared}
end
end L2
namespace L2
open PySem PySem.Spec PyProof.Rows
section
variable {X : Cx}
end
end L2
namespace L2
open PySem
end L2
namespace L2
open PySem PySem.Spec PyProof.Rows
section
variable {X : Cx}
end
end L2
namespace DL
open PySem PySem.Spec L2
inductive D where
  | non | bl (b : Bool) | int (i : Int) | str (x : Str) | tup (xs : List D) | lst (xs : List D) | scr (xs : List D) | ref (i : Nat)
  | exc (cn : Str) (fs : List (Str × Int))
inductive O where
  | lst (xs : List D) | dT (kvs : List (List Key × D)) | dK (kvs : List (Key × D)) | ins (cn : Str) (fs : List (Str × D))
structure KP where
  K : PySem.W.Frag
  π : List Addr
noncomputable def VT (K : KP) (α : List Addr) (H : Hp) (a : Addr) (us : List V) : Prop := a ∉ α ∧ a ∉ K.π ∧ H a = some (.tup us)
noncomputable def VS (K : KP) (α : List Addr) (H : Hp) (a : Addr) (us : List V) : Prop :=
  (a ∉ α ∧ a ∉ K.π ∧ Rd H a (.lst us)) ∨ ∃ (o : Obj) (its : Array Value) (n : Nat), K.K.lookup a = some o ∧ o.cls = .type "list" ∧ o.dict = none ∧ o.data = .seq its n ∧ its.size ≤ sizeLine ∧ Vals us its.toList
noncomputable def VL (K : KP) (α : List Addr) (H : Hp) (a : Addr) (us : List V) : Prop := a ∉ α ∧ a ∉ K.π ∧ H a = some (.lst us)
noncomputable def VE (K : KP) (α : List Addr) (H : Hp) (a : Addr) (o : HO) : Prop := a ∉ α ∧ a ∉ K.π ∧ H a = some o
noncomputable def xDict (fs : List (Str × Int)) (dx : Addr) (h : Heap) : Prop := ∃ mA, h.Ns1 dx mA ∧ PySem.Within mA (fs.map (·.1)) ∧ ∀ f, RelO ((fs.lookup f).map V.int) (mA f)
noncomputable def xAny (C dx a : Addr) (h : Heap) : Prop := ∃ o vs, h.get? a = some o ∧ o.cls = .ref C ∧ o.dict = some dx ∧ o.data = .fields vs
theorem VT.sq {K : KP} {α : List Addr} {H : Hp} {a : Addr} {us : List V} (h : VT K α H a us) : SqT K.K H a us := .inl (.inl h.2.2)
theorem VS.sq {K : KP} {α : List Addr} {H : Hp} {a : Addr} {us : List V} (h : VS K α H a us) : SqL K.K H a us := by
  rcases h with ⟨_, _, h⟩ | h
  · exact .inl h
  · exact .inr h
theorem VL.sq {K : KP} {α : List Addr} {H : Hp} {a : Addr} {us : List V} (h : VL K α H a us) : SqL K.K H a us := SqL.of h.2.2
mutual
inductive RelD (K : KP) (α : List Addr) (H : Hp) : D → V → Prop
  | non : RelD K α H .non .non
  | bl (b : Bool) : RelD K α H (.bl b) (.bl b)
  | int (i : Int) : RelD K α H (.int i) (.int i)
  | str (x : Str) : RelD K α H (.str x) (.str x)
  | tup {a : Addr} {us : List V} {ds : List D} : VT K α H a us → RelDs K α H ds us → RelD K α H (.tup ds) (.ref a)
  | lst {a : Addr} {us : List V} {ds : List D} : VL K α H a us → RelDs K α H ds us → RelD K α H (.lst ds) (.ref a)
  | scr {a : Addr} {us : List V} {ds : List D} : VS K α H a us → RelDs K α H ds us → RelD K α H (.scr ds) (.ref a)
  | ref {i : Nat} {a : Addr} : α[i]? = some a → RelD K α H (.ref i) (.ref a)
  | exc {a dx C : Addr} {cn : Str} {fs : List (Str × Int)} : PySem.W.nsIn K.K mainGlobals cn = some (some (.ref C)) → VE K α H a (.ext (xAny C dx a)) → VE K α H dx (.ext (xDict fs dx)) → RelD K α H (.exc cn fs) (.ref a)
inductive RelDs (K : KP) (α : List Addr) (H : Hp) : List D → List V → Prop
  | nil : RelDs K α H [] []
  | cons {d : D} {u : V} {ds : List D} {us : List V} : RelD K α H d u → RelDs K α H ds us → RelDs K α H (d :: ds) (u :: us)
end
theorem RelD.map {K K' : KP} {α α' : List Addr} {H H' : Hp} (hK : K'.K = K.K) (hT : ∀ a us, VT K α H a us → VT K' α' H' a us) (hL : ∀ a us, VL K α H a us → VL K' α' H' a us) (hS : ∀ a us, VS K α H a us → VS K' α' H' a us) (hE : ∀ a o, VE K α H a o → VE K' α' H' a o)
    (hR : ∀ (i : Nat) (a : Addr), α[i]? = some a → α'[i]? = some a) {d : D} {v : V} (r : RelD K α H d v) : RelD K' α' H' d v :=
  RelD.rec (motive_1 := fun d v _ => RelD K' α' H' d v) (motive_2 := fun ds us _ => RelDs K' α' H' ds us) .non .bl .int .str (fun t _ r => .tup (hT _ _ t) r) (fun t _ r => .lst (hL _ _ t) r) (fun t _ r => .scr (hS _ _ t) r) (fun h => .ref (hR _ _ h)) (fun n t r => .exc (by rw [hK]; exact n) (hE _ _ t) (hE _ _ r)) .nil (fun _ _ r t => .cons r t) r
theorem RelDs.map {K K' : KP} {α α' : List Addr} {H H' : Hp} (hK : K'.K = K.K) (hT : ∀ a us, VT K α H a us → VT K' α' H' a us) (hL : ∀ a us, VL K α H a us → VL K' α' H' a us) (hS : ∀ a us, VS K α H a us → VS K' α' H' a us) (hE : ∀ a o, VE K α H a o → VE K' α' H' a o)
    (hR : ∀ (i : Nat) (a : Addr), α[i]? = some a → α'[i]? = some a) {ds : List D} {us : List V} (r : RelDs K α H ds us) : RelDs K' α' H' ds us := by
  induction ds generalizing us with
  | nil => cases r; exact .nil
  | cons d ds ih => cases r with | cons h t => exact .cons (h.map hK hT hL hS hE hR) (ih t)
structure Ext (α : List Addr) (H : Hp) (α' : List Addr) (H' : Hp) : Prop where
  pre : ∃ β, α' = α ++ β ∧ ∀ p ∈ β, H p = none
  keep : ∀ b o, H b = some o → b ∉ α → H' b = some o
  dom : ∀ b, H' b = none → H b = none
theorem Ext.refl (α : List Addr) (H : Hp) : Ext α H α H := ⟨⟨[], by simp, fun p h => nomatch h⟩, fun _ _ h _ => h, fun _ h => h⟩
theorem Ext.out {α α' : List Addr} {H H' : Hp} (e : Ext α H α' H') {a : Addr} {o : HO} (h : a ∉ α) (ho : H a = some o) : a ∉ α' := by
  obtain ⟨⟨β, rfl, hb⟩, _⟩ := e
  intro z
  rcases List.mem_append.mp z with z | z
  · exact h z
  · rw [hb a z] at ho; cases ho
theorem Ext.trans {α α' α'' : List Addr} {H H' H'' : Hp} (e : Ext α H α' H') (f : Ext α' H' α'' H'') : Ext α H α'' H'' := by
  refine ⟨?_, fun b o h n => f.keep b o (e.keep b o h n) (e.out n h), fun b h => e.dom b (f.dom b h)⟩
  obtain ⟨⟨β, rfl, hb⟩, k, d⟩ := e
  obtain ⟨⟨γ, rfl, hc⟩, _⟩ := f
  refine ⟨β ++ γ, by simp, fun p hp => ?_⟩
  rcases List.mem_append.mp hp with z | z
  · exact hb p z
  · exact d p (hc p z)
theorem Ext.get {α α' : List Addr} {H H' : Hp} (e : Ext α H α' H') {i : Nat} {a : Addr} (h : α[i]? = some a) : α'[i]? = some a := by
  obtain ⟨⟨β, rfl, _⟩, _⟩ := e
  have hi : i < α.length := (List.getElem?_eq_some_iff.mp h).1
  rw [List.getElem?_append_left hi]; exact h
theorem Ext.new {α : List Addr} {H : Hp} {p : Addr} {o : HO} (h : H p = none) : Ext α H α (upd H p o) :=
  ⟨⟨[], by simp, fun p h => nomatch h⟩, fun b u e _ => by rw [upd_ne (ne_of_none e h)]; exact e, fun b e => by
    by_cases z : b = p
    · subst z; rw [upd_same] at e; cases e
    · rw [upd_ne z] at e; exact e⟩
theorem Ext.newT {α : List Addr} {H : Hp} {p : Addr} {o : HO} (h : H p = none) : Ext α H (α ++ [p]) (upd H p o) :=
  ⟨⟨[p], rfl, fun q hq => by rw [List.mem_singleton.mp hq]; exact h⟩, (Ext.new h).keep (α := α), (Ext.new (α := α) h).dom⟩
theorem Ext.write {α : List Addr} {H : Hp} {p : Addr} {o : HO} (h : p ∈ α) : Ext α H α (upd H p o) :=
  ⟨⟨[], by simp, fun p h => nomatch h⟩, fun b u e n => by rw [upd_ne (fun (z : b = p) => n (by rw [z]; exact h))]; exact e, fun b e => by
    by_cases z : b = p
    · subst z; rw [upd_same] at e; cases e
    · rw [upd_ne z] at e; exact e⟩
theorem VT.mono {K : KP} {α α' : List Addr} {H H' : Hp} (e : Ext α H α' H') {a : Addr} {us : List V} (h : VT K α H a us) : VT K α' H' a us := ⟨e.out h.1 h.2.2, h.2.1, e.keep _ _ h.2.2 h.1⟩
theorem VS.mono {K : KP} {α α' : List Addr} {H H' : Hp} (e : Ext α H α' H') {a : Addr} {us : List V} (h : VS K α H a us) : VS K α' H' a us := by
  rcases h with ⟨n, m, h | ⟨o, h⟩⟩ | h
  · exact .inl ⟨e.out n h, m, .inl (e.keep _ _ h n)⟩
  · exact .inl ⟨e.out n h, m, .inr ⟨o, e.keep _ _ h n⟩⟩
  · exact .inr h
theorem VL.mono {K : KP} {α α' : List Addr} {H H' : Hp} (e : Ext α H α' H') {a : Addr} {us : List V} (h : VL K α H a us) : VL K α' H' a us := ⟨e.out h.1 h.2.2, h.2.1, e.keep _ _ h.2.2 h.1⟩
theorem VE.mono {K : KP} {α α' : List Addr} {H H' : Hp} (e : Ext α H α' H') {a : Addr} {u : HO} (h : VE K α H a u) : VE K α' H' a u := ⟨e.out h.1 h.2.2, h.2.1, e.keep _ _ h.2.2 h.1⟩
theorem RelD.mono {K : KP} {α α' : List Addr} {H H' : Hp} (e : Ext α H α' H') {d : D} {v : V} (r : RelD K α H d v) : RelD K α' H' d v := r.map rfl (fun _ _ t => t.mono e) (fun _ _ t => t.mono e) (fun _ _ t => t.mono e) (fun _ _ t => t.mono e) (fun _ _ h => e.get h)
theorem RelDs.mono {K : KP} {α α' : List Addr} {H H' : Hp} (e : Ext α H α' H') {ds : List D} {us : List V} (r : RelDs K α H ds us) : RelDs K α' H' ds us := r.map rfl (fun _ _ t => t.mono e) (fun _ _ t => t.mono e) (fun _ _ t => t.mono e) (fun _ _ t => t.mono e) (fun _ _ h => e.get h)
section
variable {K : KP} {α α' : List Addr} {H H' : Hp}
theorem RelDs.length : ∀ {ds : List D} {us : List V}, RelDs K α H ds us → ds.length = us.length
  | _, _, .nil => rfl
  | _, _, .cons _ t => by rw [List.length_cons, List.length_cons, RelDs.length t]
theorem RelDs.get : ∀ {ds : List D} {us : List V} {i : Nat} {d : D}, RelDs K α H ds us → ds[i]? = some d → ∃ u, us[i]? = some u ∧ RelD K α H d u
  | _, _, _, _, .nil, e => by simp at e
  | _, _, 0, _, .cons r _, e => by simp at e; subst e; exact ⟨_, rfl, r⟩
  | _, _, i + 1, d, .cons _ t, e => by
    obtain ⟨u, h1, h2⟩ := RelDs.get (i := i) (d := d) t (by simpa using e)
    exact ⟨u, by simpa using h1, h2⟩
theorem RelDs.append : ∀ {ds es : List D} {us ws : List V}, RelDs K α H ds us → RelDs K α H es ws → RelDs K α H (ds ++ es) (us ++ ws)
  | _, _, _, _, .nil, s => s
  | _, _, _, _, .cons r t, s => .cons r (RelDs.append t s)
theorem RelDs.take : ∀ {ds : List D} {us : List V} (n : Nat), RelDs K α H ds us → RelDs K α H (ds.take n) (us.take n)
  | _, _, 0, _ => .nil
  | _, _, _ + 1, .nil => .nil
  | _, _, n + 1, .cons r t => .cons r (RelDs.take n t)
theorem RelDs.drop : ∀ {ds : List D} {us : List V} (n : Nat), RelDs K α H ds us → RelDs K α H (ds.drop n) (us.drop n)
  | _, _, 0, r => r
  | _, _, _ + 1, .nil => .nil
  | _, _, n + 1, .cons _ t => RelDs.drop n t
theorem RelDs.set {d : D} {u : V} (r : RelD K α H d u) : ∀ {ds : List D} {us : List V} (i : Nat), RelDs K α H ds us → RelDs K α H (ds.set i d) (us.set i u)
  | _, _, _, .nil => .nil
  | _, _, 0, .cons _ t => .cons r t
  | _, _, i + 1, .cons q t => .cons q (RelDs.set r i t)
theorem RelDs.dropLast {ds : List D} {us : List V} (r : RelDs K α H ds us) : RelDs K α H ds.dropLast us.dropLast := by
  rw [List.dropLast_eq_take, List.dropLast_eq_take, r.length]; exact r.take _
theorem RelDs.snoc {ds : List D} {us : List V} {d : D} {u : V} (r : RelDs K α H ds us) (h : RelD K α H d u) : RelDs K α H (ds ++ [d]) (us ++ [u]) := r.append (.cons h .nil)
theorem RelDs.ints : ∀ ns : List Int, RelDs K α H (ns.map D.int) (ns.map V.int)
  | [] => .nil
  | n :: r => .cons (.int n) (RelDs.ints r)
theorem RelDs.inv1 {d : D} {us : List V} (h : RelDs K α H [d] us) : ∃ u, us = [u] ∧ RelD K α H d u := by
  cases h with
  | cons r t => cases t; exact ⟨_, rfl, r⟩
end
inductive RelKV (K : KP) (α : List Addr) (H : Hp) {κ : Type} : List (κ × D) → List (κ × V) → Prop
  | nil : RelKV K α H [] []
  | cons {k : κ} {d : D} {u : V} {ds : List (κ × D)} {us : List (κ × V)} : RelD K α H d u → RelKV K α H ds us → RelKV K α H ((k, d) :: ds) ((k, u) :: us)
theorem RelKV.mono {K : KP} {α α' : List Addr} {H H' : Hp} {κ : Type} (e : Ext α H α' H') {ds : List (κ × D)} {us : List (κ × V)} (r : RelKV K α H ds us) : RelKV K α' H' ds us := by
  induction r with
  | nil => exact .nil
  | cons h t ih => exact .cons (h.mono e) ih
inductive RelO' (K : KP) (α : List Addr) (H : Hp) (p : Addr) : O → Prop
  | lst {xs : List D} {us : List V} : H p = some (.lst us) → RelDs K α H xs us → RelO' K α H p (.lst xs)
  | dT {kvs : List (List Key × D)} {us : List (List Key × V)} : H p = some (.dT us) → RelKV K α H kvs us → RelO' K α H p (.dT kvs)
  | dK {kvs : List (Key × D)} {us : List (Key × V)} : H p = some (.dK us) → RelKV K α H kvs us → RelO' K α H p (.dK kvs)
  | ins {C dx : Addr} {cn : Str} {fs : List (Str × D)} {us : List (Str × V)} : PySem.W.nsIn K.K mainGlobals cn = some (some (.ref C)) → H p = some (.ins C dx us) → RelKV K α H fs us → RelO' K α H p (.ins cn fs)
structure HRel (K : KP) (α : List Addr) (H : Hp) (h : List O) : Prop where
  len : α.length = h.length
  nd : α.Nodup
  dis : ∀ p ∈ K.π, p ∉ α ∧ H p ≠ none
  obj : ∀ (i : Nat) (o : O), h[i]? = some o → ∃ p, α[i]? = some p ∧ RelO' K α H p o
theorem RelO'.mono {K : KP} {α α' : List Addr} {H H' : Hp} (e : Ext α H α' H') {p : Addr} {o : O} (r : RelO' K α H p o) (k : H' p = H p) : RelO' K α' H' p o := by
  cases r with
  | lst h t => exact .lst (k.trans h) (t.mono e)
  | dT h t => exact .dT (k.trans h) (t.mono e)
  | dK h t => exact .dK (k.trans h) (t.mono e)
  | ins n h t => exact .ins n (k.trans h) (t.mono e)
section
variable {K : KP} {α α' : List Addr} {H H' : Hp} {h : List O}
theorem HRel.some_ (R : HRel K α H h) {p : Addr} (hp : p ∈ α) : ∃ o, H p = some o := by
  obtain ⟨i, hi, rfl⟩ := List.getElem_of_mem hp
  have hh : i < h.length := by rw [← R.len]; exact hi
  obtain ⟨q, e, r⟩ := R.obj i h[i] (List.getElem?_eq_getElem hh)
  rw [List.getElem?_eq_getElem hi] at e
  cases e
  generalize h[i] = o at r
  cases r with
  | lst h t => exact ⟨_, h⟩
  | dT h t => exact ⟨_, h⟩
  | dK h t => exact ⟨_, h⟩
  | ins n h t => exact ⟨_, h⟩
theorem HRel.out (R : HRel K α H h) {p : Addr} (hp : H p = none) : p ∉ α := fun z => by
  obtain ⟨o, e⟩ := R.some_ z
  rw [hp] at e; cases e
theorem HRel.same (R : HRel K α H h) (e : Ext α H α H') (k : ∀ p ∈ α, H' p = H p) : HRel K α H' h :=
  ⟨R.len, R.nd, fun p hp => ⟨(R.dis p hp).1, fun z => (R.dis p hp).2 (e.dom p z)⟩, fun i o q => by
    obtain ⟨p, ep, r⟩ := R.obj i o q
    exact ⟨p, ep, r.mono e (k p (List.mem_of_getElem? ep))⟩⟩
theorem HRel.new (R : HRel K α H h) {p : Addr} {o : HO} (hp : H p = none) : HRel K α (upd H p o) h :=
  R.same (Ext.new hp) fun q hq => upd_ne fun z => R.out hp (z ▸ hq)
theorem HRel.newT (R : HRel K α H h) {p : Addr} {o : HO} {u : O} (hp : H p = none) (r : RelO' K (α ++ [p]) (upd H p o) p u) : HRel K (α ++ [p]) (upd H p o) (h ++ [u]) := by
  have np := R.out hp
  refine ⟨by simp [R.len], ?_, fun q hq => ⟨fun z => ?_, fun z => (R.dis q hq).2 ((Ext.new (α := α) hp).dom q z)⟩, fun i v q => ?_⟩
  · rw [List.nodup_append]
    exact ⟨R.nd, by simp, fun a ha b hb => by rw [List.mem_singleton.mp hb]; exact fun z => np (z ▸ ha)⟩
  · rcases List.mem_append.mp z with z | z
    · exact (R.dis q hq).1 z
    · rw [List.mem_singleton.mp z] at hq
      exact (R.dis p hq).2 hp
  · by_cases hi : i < h.length
    · rw [List.getElem?_append_left hi] at q
      obtain ⟨a, ea, ra⟩ := R.obj i v q
      refine ⟨a, (Ext.newT (o := o) hp).get ea, ra.mono (Ext.newT hp) (upd_ne fun z => np (z ▸ List.mem_of_getElem? ea))⟩
    · have hi' : i = h.length := by
        have := (List.getElem?_eq_some_iff.mp q).1
        rw [List.length_append, List.length_singleton] at this; omega
      subst hi'
      rw [List.getElem?_append_right (Nat.le_refl _)] at q
      simp at q; subst q
      exact ⟨p, by rw [List.getElem?_append_right (by rw [R.len]; exact Nat.le_refl _), R.len]; simp, r⟩
theorem HRel.write (R : HRel K α H h) {p : Addr} {i : Nat} {o : HO} {u : O} (hp : α[i]? = some p) (r : RelO' K α (upd H p o) p u) : HRel K α (upd H p o) (h.set i u) := by
  have hm := List.mem_of_getElem? hp
  refine ⟨by simp [R.len], R.nd, fun q hq => ⟨(R.dis q hq).1, fun z => (R.dis q hq).2 ((Ext.write (H := H) (o := o) hm).dom q z)⟩, fun j v q => ?_⟩
  by_cases e : i = j
  · subst e
    have hi : i < h.length := by
      have := (List.getElem?_eq_some_iff.mp q).1
      simpa using this
    rw [List.getElem?_set_self hi] at q
    cases q
    exact ⟨p, hp, r⟩
  · rw [List.getElem?_set_ne e] at q
    obtain ⟨a, ea, ra⟩ := R.obj j v q
    refine ⟨a, ea, ra.mono (Ext.write hm) (upd_ne fun z => e ?_)⟩
    subst z
    exact (List.getElem?_inj (List.getElem?_eq_some_iff.mp hp).1 R.nd).mp (hp.trans ea.symm)
theorem HRel.lst (R : HRel K α H h) {i : Nat} {xs : List D} (e : h[i]? = some (.lst xs)) : ∃ p us, α[i]? = some p ∧ H p = some (.lst us) ∧ RelDs K α H xs us := by
  obtain ⟨p, ep, r⟩ := R.obj i _ e
  cases r with
  | lst h t => exact ⟨p, _, ep, h, t⟩
theorem HRel.dT (R : HRel K α H h) {i : Nat} {xs : List (List Key × D)} (e : h[i]? = some (.dT xs)) : ∃ p us, α[i]? = some p ∧ H p = some (.dT us) ∧ RelKV K α H xs us := by
  obtain ⟨p, ep, r⟩ := R.obj i _ e
  cases r with
  | dT h t => exact ⟨p, _, ep, h, t⟩
theorem HRel.dK (R : HRel K α H h) {i : Nat} {xs : List (Key × D)} (e : h[i]? = some (.dK xs)) : ∃ p us, α[i]? = some p ∧ H p = some (.dK us) ∧ RelKV K α H xs us := by
  obtain ⟨p, ep, r⟩ := R.obj i _ e
  cases r with
  | dK h t => exact ⟨p, _, ep, h, t⟩
theorem HRel.ins (R : HRel K α H h) {i : Nat} {cn : Str} {xs : List (Str × D)} (e : h[i]? = some (.ins cn xs)) : ∃ p C dx us, PySem.W.nsIn K.K mainGlobals cn = some (some (.ref C)) ∧ α[i]? = some p ∧ H p = some (.ins C dx us) ∧ RelKV K α H xs us := by
  obtain ⟨p, ep, r⟩ := R.obj i _ e
  cases r with
  | ins n h t => exact ⟨p, _, _, _, n, ep, h, t⟩
end
theorem HRel.outP {K : KP} {α : List Addr} {H : Hp} {h : List O} (R : HRel K α H h) {p : Addr} (hp : H p = none) : p ∉ K.π := fun z => (R.dis p z).2 hp
structure Priv (D : Addr) (H H' : Hp) : Prop where
  same : ∀ b, b ≠ D → H' b = H b
theorem VT.priv {K : KP} {α : List Addr} {H H' : Hp} {D a : Addr} {us : List V} (e : Priv D H H') (hD : D ∈ K.π) (h : VT K α H a us) : VT K α H' a us :=
  ⟨h.1, h.2.1, (e.same a fun z => h.2.1 (z ▸ hD)).trans h.2.2⟩
theorem VS.priv {K : KP} {α : List Addr} {H H' : Hp} {D a : Addr} {us : List V} (e : Priv D H H') (hD : D ∈ K.π) (h : VS K α H a us) : VS K α H' a us := by
  rcases h with ⟨n, m, h⟩ | h
  · have z : a ≠ D := fun z => m (z ▸ hD)
    refine .inl ⟨n, m, ?_⟩
    unfold Rd at h ⊢
    rw [e.same a z]; exact h
  · exact .inr h
theorem VL.priv {K : KP} {α : List Addr} {H H' : Hp} {D a : Addr} {us : List V} (e : Priv D H H') (hD : D ∈ K.π) (h : VL K α H a us) : VL K α H' a us :=
  ⟨h.1, h.2.1, (e.same a fun z => h.2.1 (z ▸ hD)).trans h.2.2⟩
theorem VE.priv {K : KP} {α : List Addr} {H H' : Hp} {D a : Addr} {u : HO} (e : Priv D H H') (hD : D ∈ K.π) (h : VE K α H a u) : VE K α H' a u :=
  ⟨h.1, h.2.1, (e.same a fun z => h.2.1 (z ▸ hD)).trans h.2.2⟩
theorem RelDs.priv {K : KP} {α : List Addr} {H H' : Hp} {D' : Addr} (e : Priv D' H H') (hD : D' ∈ K.π) {ds : List D} {us : List V} (r : RelDs K α H ds us) : RelDs K α H' ds us := r.map rfl (fun _ _ t => t.priv e hD) (fun _ _ t => t.priv e hD) (fun _ _ t => t.priv e hD) (fun _ _ t => t.priv e hD) (fun _ _ h => h)
theorem VT.more {K : PySem.W.Frag} {π π' : List Addr} {α : List Addr} {H : Hp} {a : Addr} {us : List V} (s : ∀ p ∈ π', p ∈ π ∨ H p = none) (h : VT ⟨K, π⟩ α H a us) : VT ⟨K, π'⟩ α H a us :=
  ⟨h.1, fun z => (s a z).elim h.2.1 (fun w => by rw [h.2.2] at w; exact nomatch w), h.2.2⟩
theorem VS.more {K : PySem.W.Frag} {π π' : List Addr} {α : List Addr} {H : Hp} {a : Addr} {us : List V} (s : ∀ p ∈ π', p ∈ π ∨ H p = none) (h : VS ⟨K, π⟩ α H a us) : VS ⟨K, π'⟩ α H a us := by
  rcases h with ⟨n, m, h⟩ | h
  · refine .inl ⟨n, fun z => ?_, h⟩
    rcases s a z with z | z
    · exact m z
    · rcases h with h | ⟨o, h⟩ <;> rw [z] at h <;> cases h
  · exact .inr h
theorem VL.more {K : PySem.W.Frag} {π π' : List Addr} {α : List Addr} {H : Hp} {a : Addr} {us : List V} (s : ∀ p ∈ π', p ∈ π ∨ H p = none) (h : VL ⟨K, π⟩ α H a us) : VL ⟨K, π'⟩ α H a us :=
  ⟨h.1, fun z => (s a z).elim h.2.1 (fun w => by rw [h.2.2] at w; exact nomatch w), h.2.2⟩
theorem VE.more {K : PySem.W.Frag} {π π' : List Addr} {α : List Addr} {H : Hp} {a : Addr} {u : HO} (s : ∀ p ∈ π', p ∈ π ∨ H p = none) (h : VE ⟨K, π⟩ α H a u) : VE ⟨K, π'⟩ α H a u :=
  ⟨h.1, fun z => (s a z).elim h.2.1 (fun w => by rw [h.2.2] at w; exact nomatch w), h.2.2⟩
theorem RelD.more {K : PySem.W.Frag} {π π' : List Addr} {α : List Addr} {H : Hp} (s : ∀ p ∈ π', p ∈ π ∨ H p = none) {d : D} {v : V} (r : RelD ⟨K, π⟩ α H d v) : RelD ⟨K, π'⟩ α H d v := r.map (K := ⟨K, π⟩) (K' := ⟨K, π'⟩) rfl (fun _ _ t => t.more s) (fun _ _ t => t.more s) (fun _ _ t => t.more s) (fun _ _ t => t.more s) (fun _ _ h => h)
theorem RelDs.more {K : PySem.W.Frag} {π π' : List Addr} {α : List Addr} {H : Hp} (s : ∀ p ∈ π', p ∈ π ∨ H p = none) {ds : List D} {us : List V} (r : RelDs ⟨K, π⟩ α H ds us) : RelDs ⟨K, π'⟩ α H ds us := r.map (K := ⟨K, π⟩) (K' := ⟨K, π'⟩) rfl (fun _ _ t => t.more s) (fun _ _ t => t.more s) (fun _ _ t => t.more s) (fun _ _ t => t.more s) (fun _ _ h => h)
theorem RelKV.more {K : PySem.W.Frag} {π π' : List Addr} {α : List Addr} {H : Hp} {κ : Type} (s : ∀ p ∈ π', p ∈ π ∨ H p = none) {ds : List (κ × D)} {us : List (κ × V)} (r : RelKV ⟨K, π⟩ α H ds us) : RelKV ⟨K, π'⟩ α H ds us := by
  induction r with
  | nil => exact .nil
  | cons h t ih => exact .cons (h.more s) ih
theorem HRel.more {K : PySem.W.Frag} {π π' : List Addr} {α : List Addr} {H : Hp} {h : List O} (s : ∀ p ∈ π', p ∈ π ∨ H p = none) (d : ∀ p ∈ π', p ∉ α ∧ H p ≠ none) (R : HRel ⟨K, π⟩ α H h) : HRel ⟨K, π'⟩ α H h :=
  ⟨R.len, R.nd, d, fun i o q => by
    obtain ⟨p, ep, r⟩ := R.obj i o q
    refine ⟨p, ep, ?_⟩
    cases r with
    | lst h t => exact .lst h (t.more s)
    | dT h t => exact .dT h (t.more s)
    | dK h t => exact .dK h (t.more s)
    | ins n h t => exact .ins n h (t.more s)⟩
noncomputable abbrev Sl := List (Option D)
noncomputable abbrev Hh := List O
noncomputable abbrev DK := D → Hh → Prop
noncomputable abbrev DE := Sl → Hh → DK → Prop
noncomputable abbrev DT := Sl → Hh → (Bool → Hh → Prop) → Prop
noncomputable abbrev DA := Sl → Hh → (List D → Hh → Prop) → Prop
noncomputable abbrev DX := Str → List (Str × Int) → Hh → Prop
structure DEnds where
  nx : Sl → Hh → Prop
  rt : DK
  bk : Sl → Hh → Prop := fun _ _ => False
  ct : Sl → Hh → Prop := fun _ _ => False
  ex : DX := fun _ _ _ => False
noncomputable abbrev DS := DEnds → Sl → Hh → Prop
noncomputable abbrev DG := D → Sl → Hh → (Sl → Hh → Prop) → Prop
noncomputable abbrev DGs := List D → Sl → Hh → (Sl → Hh → Prop) → Prop
structure RelS (K : KP) (α : List Addr) (H : Hp) (δ : Sl) (σ : St) : Prop where
  len : δ.length = σ.length
  get : ∀ (i : Nat) (d : D), δ[i]? = some (some d) → ∃ v, σ[i]? = some (some v) ∧ RelD K α H d v
theorem RelS.mono {K : KP} {α α' : List Addr} {H H' : Hp} {δ : Sl} {σ : St} (e : Ext α H α' H') (r : RelS K α H δ σ) : RelS K α' H' δ σ :=
  ⟨r.len, fun i d q => let ⟨v, h1, h2⟩ := r.get i d q; ⟨v, h1, h2.mono e⟩⟩
theorem RelS.set {K : KP} {α : List Addr} {H : Hp} {δ : Sl} {σ : St} {d : D} {v : V} (r : RelS K α H δ σ) (i : Nat) (h : RelD K α H d v) : RelS K α H (δ.set i (some d)) (σ.set i (some v)) := by
  refine ⟨by simp [r.len], fun j e q => ?_⟩
  by_cases z : i = j
  · subst z
    have hi : i < δ.length := by
      have := (List.getElem?_eq_some_iff.mp q).1
      simpa using this
    rw [List.getElem?_set_self hi] at q
    cases q
    exact ⟨v, List.getElem?_set_self (by rw [← r.len]; exact hi), h⟩
  · rw [List.getElem?_set_ne z] at q
    obtain ⟨w, h1, h2⟩ := r.get j e q
    exact ⟨w, by rw [List.getElem?_set_ne z]; exact h1, h2⟩
inductive LE (K : PySem.W.Frag) (f : DE) (σ : St) (H : Hp) (Q : VK) : Prop
  | mk (π : List Addr) (α : List Addr) (δ : Sl) (h : Hh) (Q' : DK) : HRel ⟨K, π⟩ α H h → RelS ⟨K, π⟩ α H δ σ → f δ h Q' → (∀ d h' α' H' v, Q' d h' → Ext α H α' H' → HRel ⟨K, π⟩ α' H' h' → RelD ⟨K, π⟩ α' H' d v → Q v H') → LE K f σ H Q
inductive LT (K : PySem.W.Frag) (f : DT) (σ : St) (H : Hp) (Q : Bool → Hp → Prop) : Prop
  | mk (π : List Addr) (α : List Addr) (δ : Sl) (h : Hh) (Q' : Bool → Hh → Prop) : HRel ⟨K, π⟩ α H h → RelS ⟨K, π⟩ α H δ σ → f δ h Q' → (∀ b h' α' H', Q' b h' → Ext α H α' H' → HRel ⟨K, π⟩ α' H' h' → Q b H') → LT K f σ H Q
inductive LA (K : PySem.W.Frag) (n : Nat) (f : DA) (σ : St) (H : Hp) (Q : List V → Hp → Prop) : Prop
  | mk (π : List Addr) (α : List Addr) (δ : Sl) (h : Hh) (Q' : List D → Hh → Prop) : HRel ⟨K, π⟩ α H h → RelS ⟨K, π⟩ α H δ σ → f δ h Q' → (∀ ds h' α' H' vs, Q' ds h' → Ext α H α' H' → HRel ⟨K, π⟩ α' H' h' → RelDs ⟨K, π⟩ α' H' ds vs → ds.length = n → Q vs H') → LA K n f σ H Q
structure EndsOk (K : KP) (Ex : XK) (α : List Addr) (H : Hp) (E : DEnds) (F : Ends) : Prop where
  nx : ∀ δ' h' α' H' σ', E.nx δ' h' → Ext α H α' H' → HRel K α' H' h' → RelS K α' H' δ' σ' → F.nx σ' H'
  rt : ∀ d h' α' H' v, E.rt d h' → Ext α H α' H' → HRel K α' H' h' → RelD K α' H' d v → F.rt v H'
  bk : ∀ δ' h' α' H' σ', E.bk δ' h' → Ext α H α' H' → HRel K α' H' h' → RelS K α' H' δ' σ' → F.bk σ' H'
  ct : ∀ δ' h' α' H' σ', E.ct δ' h' → Ext α H α' H' → HRel K α' H' h' → RelS K α' H' δ' σ' → F.ct σ' H'
  ex : ∀ cn fs h' α' H' C dx, E.ex cn fs h' → Ext α H α' H' → HRel K α' H' h' → PySem.W.nsIn K.K mainGlobals cn = some (some (.ref C)) → VE K α' H' dx (.ext (xDict fs dx)) → Ex (.ref C) (some dx) H'
theorem EndsOk.mono {K : KP} {Ex : XK} {α α' : List Addr} {H H' : Hp} {E : DEnds} {F : Ends} (x : EndsOk K Ex α H E F) (e : Ext α H α' H') : EndsOk K Ex α' H' E F :=
  ⟨fun _ _ _ _ _ a b c d => x.nx _ _ _ _ _ a (e.trans b) c d, fun _ _ _ _ _ a b c d => x.rt _ _ _ _ _ a (e.trans b) c d, fun _ _ _ _ _ a b c d => x.bk _ _ _ _ _ a (e.trans b) c d, fun _ _ _ _ _ a b c d => x.ct _ _ _ _ _ a (e.trans b) c d, fun _ _ _ _ _ _ _ a b c d => x.ex _ _ _ _ _ _ _ a (e.trans b) c d⟩
inductive LS (K : PySem.W.Frag) (Ex : XK) (f : DS) (F : Ends) (σ : St) (H : Hp) : Prop
  | mk (π : List Addr) (α : List Addr) (δ : Sl) (h : Hh) (E : DEnds) : HRel ⟨K, π⟩ α H h → RelS ⟨K, π⟩ α H δ σ → f E δ h → EndsOk ⟨K, π⟩ Ex α H E F → LS K Ex f F σ H
inductive LG (K : PySem.W.Frag) (f : DG) (v : V) (σ : St) (H : Hp) (Q : St → Hp → Prop) : Prop
  | mk (π : List Addr) (α : List Addr) (δ : Sl) (h : Hh) (d : D) (Q' : Sl → Hh → Prop) : HRel ⟨K, π⟩ α H h → RelS ⟨K, π⟩ α H δ σ → RelD ⟨K, π⟩ α H d v → f d δ h Q' → (∀ δ' h' α' H' σ', Q' δ' h' → Ext α H α' H' → HRel ⟨K, π⟩ α' H' h' → RelS ⟨K, π⟩ α' H' δ' σ' → Q σ' H') → LG K f v σ H Q
inductive LGs (K : PySem.W.Frag) (f : DGs) (vs : List V) (σ : St) (H : Hp) (Q : St → Hp → Prop) : Prop
  | mk (π : List Addr) (α : List Addr) (δ : Sl) (h : Hh) (ds : List D) (Q' : Sl → Hh → Prop) : HRel ⟨K, π⟩ α H h → RelS ⟨K, π⟩ α H δ σ → RelDs ⟨K, π⟩ α H ds vs → f ds δ h Q' → (∀ δ' h' α' H' σ', Q' δ' h' → Ext α H α' H' → HRel ⟨K, π⟩ α' H' h' → RelS ⟨K, π⟩ α' H' δ' σ' → Q σ' H') → LGs K f vs σ H Q
theorem HRel.under {K : PySem.W.Frag} {π α : List Addr} {H : Hp} {h : Hh} {p : Addr} {o : HO} (R : HRel ⟨K, π⟩ α H h) (hp : H p = none) : HRel ⟨K, p :: π⟩ α (upd H p o) h := by
  have s : ∀ q ∈ p :: π, q ∈ π ∨ H q = none := fun q hq => by
    rcases List.mem_cons.mp hq with rfl | z
    · exact .inr hp
    · exact .inl z
  refine ⟨R.len, R.nd, fun q hq => ?_, fun i ob e => ?_⟩
  · rcases List.mem_cons.mp hq with rfl | z
    · exact ⟨R.out hp, by rw [upd_same]; exact fun z => nomatch z⟩
    · exact ⟨(R.dis q z).1, fun w => (R.dis q z).2 ((Ext.new (α := α) hp).dom q w)⟩
  · obtain ⟨a, ea, r⟩ := R.obj i ob e
    refine ⟨a, ea, ?_⟩
    have k : upd H p o a = H a := upd_ne fun z => R.out hp (z ▸ List.mem_of_getElem? ea)
    have e2 : Ext α H α (upd H p o) := Ext.new hp
    cases r with
    | lst h t => exact .lst (k.trans h) ((t.more s).mono e2)
    | dT h t => exact .dT (k.trans h) ((t.more s).mono e2)
    | dK h t => exact .dK (k.trans h) ((t.more s).mono e2)
    | ins n h t => exact .ins n (k.trans h) ((t.more s).mono e2)
theorem HRel.less {K : PySem.W.Frag} {π α : List Addr} {H : Hp} {h : Hh} {p : Addr} (R : HRel ⟨K, p :: π⟩ α H h) : HRel ⟨K, π⟩ α H h :=
  R.more (fun q hq => .inl (List.mem_cons_of_mem _ hq)) fun q hq => R.dis q (List.mem_cons_of_mem _ hq)
theorem VT.adopt {K : PySem.W.Frag} {π α : List Addr} {H : Hp} {p a : Addr} {us : List V} (h : VT ⟨K, p :: π⟩ α H a us) : VT ⟨K, π⟩ (α ++ [p]) H a us :=
  ⟨fun z => (List.mem_append.mp z).elim h.1 fun z => h.2.1 (by rw [List.mem_singleton.mp z]; exact List.mem_cons_self), fun z => h.2.1 (List.mem_cons_of_mem _ z), h.2.2⟩
theorem VS.adopt {K : PySem.W.Frag} {π α : List Addr} {H : Hp} {p a : Addr} {us : List V} (h : VS ⟨K, p :: π⟩ α H a us) : VS ⟨K, π⟩ (α ++ [p]) H a us := by
  rcases h with ⟨n, m, h⟩ | h
  · refine .inl ⟨fun z => ?_, fun z => m (List.mem_cons_of_mem _ z), h⟩
    rcases List.mem_append.mp z with z | z
    · exact n z
    · exact m (by rw [List.mem_singleton.mp z]; exact List.mem_cons_self)
  · exact .inr h
theorem VL.adopt {K : PySem.W.Frag} {π α : List Addr} {H : Hp} {p a : Addr} {us : List V} (h : VL ⟨K, p :: π⟩ α H a us) : VL ⟨K, π⟩ (α ++ [p]) H a us :=
  ⟨fun z => (List.mem_append.mp z).elim h.1 fun z => h.2.1 (by rw [List.mem_singleton.mp z]; exact List.mem_cons_self), fun z => h.2.1 (List.mem_cons_of_mem _ z), h.2.2⟩
theorem VE.adopt {K : PySem.W.Frag} {π α : List Addr} {H : Hp} {p a : Addr} {u : HO} (h : VE ⟨K, p :: π⟩ α H a u) : VE ⟨K, π⟩ (α ++ [p]) H a u :=
  ⟨fun z => (List.mem_append.mp z).elim h.1 fun z => h.2.1 (by rw [List.mem_singleton.mp z]; exact List.mem_cons_self), fun z => h.2.1 (List.mem_cons_of_mem _ z), h.2.2⟩
theorem get_app {α : List Addr} {p a : Addr} {i : Nat} (h : α[i]? = some a) : (α ++ [p])[i]? = some a := by
  rw [List.getElem?_append_left (List.getElem?_eq_some_iff.mp h).1]; exact h
theorem RelD.adopt {K : PySem.W.Frag} {π α : List Addr} {H : Hp} {p : Addr} {d : D} {v : V} (r : RelD ⟨K, p :: π⟩ α H d v) : RelD ⟨K, π⟩ (α ++ [p]) H d v := r.map (K := ⟨K, p :: π⟩) (K' := ⟨K, π⟩) (α' := α ++ [p]) (H' := H) rfl (fun _ _ t => t.adopt) (fun _ _ t => t.adopt) (fun _ _ t => t.adopt) (fun _ _ t => t.adopt) (fun _ _ h => get_app h)
theorem RelDs.adopt {K : PySem.W.Frag} {π α : List Addr} {H : Hp} {p : Addr} {ds : List D} {us : List V} (r : RelDs ⟨K, p :: π⟩ α H ds us) : RelDs ⟨K, π⟩ (α ++ [p]) H ds us := r.map (K := ⟨K, p :: π⟩) (K' := ⟨K, π⟩) (α' := α ++ [p]) (H' := H) rfl (fun _ _ t => t.adopt) (fun _ _ t => t.adopt) (fun _ _ t => t.adopt) (fun _ _ t => t.adopt) (fun _ _ h => get_app h)
theorem RelKV.adopt {K : PySem.W.Frag} {π α : List Addr} {H : Hp} {p : Addr} {κ : Type} {ds : List (κ × D)} {us : List (κ × V)} (r : RelKV ⟨K, p :: π⟩ α H ds us) : RelKV ⟨K, π⟩ (α ++ [p]) H ds us := by
  induction r with
  | nil => exact .nil
  | cons h t ih => exact .cons h.adopt ih
theorem HRel.adopt {K : PySem.W.Frag} {π α : List Addr} {H : Hp} {h : Hh} {p : Addr} {u : O} (R : HRel ⟨K, p :: π⟩ α H h) (np : p ∉ π) (r : RelO' ⟨K, π⟩ (α ++ [p]) H p u) : HRel ⟨K, π⟩ (α ++ [p]) H (h ++ [u]) := by
  have hp := R.dis p List.mem_cons_self
  refine ⟨by simp [R.len], ?_, fun q hq => ⟨fun z => ?_, (R.dis q (List.mem_cons_of_mem _ hq)).2⟩, fun i v q => ?_⟩
  · rw [List.nodup_append]
    exact ⟨R.nd, by simp, fun a ha b hb => by rw [List.mem_singleton.mp hb]; exact fun z => hp.1 (z ▸ ha)⟩
  · rcases List.mem_append.mp z with z | z
    · exact (R.dis q (List.mem_cons_of_mem _ hq)).1 z
    · rw [List.mem_singleton.mp z] at hq; exact np hq
  · by_cases hi : i < h.length
    · rw [List.getElem?_append_left hi] at q
      obtain ⟨a, ea, ra⟩ := R.obj i v q
      refine ⟨a, get_app ea, ?_⟩
      cases ra with
      | lst h t => exact .lst h t.adopt
      | dT h t => exact .dT h t.adopt
      | dK h t => exact .dK h t.adopt
      | ins n h t => exact .ins n h t.adopt
    · have hi' : i = h.length := by
        have := (List.getElem?_eq_some_iff.mp q).1
        rw [List.length_append, List.length_singleton] at this; omega
      subst hi'
      rw [List.getElem?_append_right (Nat.le_refl _)] at q
      simp at q; subst q
      exact ⟨p, by rw [List.getElem?_append_right (by rw [R.len]; exact Nat.le_refl _), R.len]; simp, r⟩
theorem Ext.adopt {α α' : List Addr} {H H' : Hp} {p : Addr} (e : Ext α H α' H') (hp : H p = none) : Ext α H (α' ++ [p]) H' := by
  refine ⟨?_, e.keep, e.dom⟩
  obtain ⟨⟨β, rfl, hb⟩, _⟩ := e
  exact ⟨β ++ [p], by simp, fun q hq => by
    rcases List.mem_append.mp hq with z | z
    · exact hb q z
    · rw [List.mem_singleton.mp z]; exact hp⟩
section
variable (X : Cx)
noncomputable def SE (e : Expr) (f : DE) : Prop := PE X e (LE X.K f)
noncomputable def ST (e : Expr) (f : DT) : Prop := PT X e (LT X.K f)
noncomputable def SW (e : Expr) (f : DT) : Prop := PW X e (LT X.K f)
noncomputable def SA (es : List Expr) (n : Nat) (f : DA) : Prop := PA X es (LA X.K n f)
noncomputable def SS (s : Stmt) (f : DS) : Prop := PS X s (LS X.K X.ex9 f)
noncomputable def SSs (ss : List Stmt) (f : DS) : Prop := PSs X ss (LS X.K X.ex9 f)
noncomputable def SG (t : Expr) (f : DG) : Prop := PG X t (LG X.K f)
noncomputable def SGs (ts : List Expr) (f : DGs) : Prop := PGs X ts (LGs X.K f)
end
section
variable {X : Cx}
theorem PE.imp {e : Expr} {t t' : TE} (h : PE X e t) (k : ∀ σ H Q, t' σ H Q → t σ H Q) : PE X e t' := fun pins s σ H Q I q => h pins s σ H Q I (k σ H Q q)
theorem PT.imp {e : Expr} {t t' : TT} (h : PT X e t) (k : ∀ σ H Q, t' σ H Q → t σ H Q) : PT X e t' := fun pins s σ H Q I q => h pins s σ H Q I (k σ H Q q)
theorem PW.imp {e : Expr} {t t' : TT} (h : PW X e t) (k : ∀ σ H Q, t' σ H Q → t σ H Q) : PW X e t' := fun wh pins s σ H Q I q => h wh pins s σ H Q I (k σ H Q q)
theorem PA.imp {es : List Expr} {t t' : TA} (h : PA X es t) (k : ∀ σ H Q, t' σ H Q → t σ H Q) : PA X es t' := fun pos pins s σ H Q I q => h pos pins s σ H Q I (k σ H Q q)
theorem PS.imp {e : Stmt} {t t' : TS} (h : PS X e t) (k : ∀ F σ H, t' F σ H → t F σ H) : PS X e t' := fun pins s σ H F I q => h pins s σ H F I (k F σ H q)
theorem PSs.imp {e : List Stmt} {t t' : TS} (h : PSs X e t) (k : ∀ F σ H, t' F σ H → t F σ H) : PSs X e t' := fun pins s σ H F I q => h pins s σ H F I (k F σ H q)
theorem PG.imp {e : Expr} {t t' : TG} (h : PG X e t) (k : ∀ v σ H Q, t' v σ H Q → t v σ H Q) : PG X e t' := fun pins s σ H v u Q I r q => h pins s σ H v u Q I r (k v σ H Q q)
theorem PGs.imp {e : List Expr} {t t' : TGs} (h : PGs X e t) (k : ∀ v σ H Q, t' v σ H Q → t v σ H Q) : PGs X e t' := fun pins s σ H v u Q I r q => h pins s σ H v u Q I r (k v σ H Q q)
end
end DL
namespace DL
open PySem PySem.Spec L2
noncomputable def dVar (i : Nat) : DE := fun δ h Q => match δ[i]? with | some (some d) => Q d h | _ => False
noncomputable def dC (d : D) : DE := fun _ h Q => Q d h
noncomputable abbrev P1 := D → Hh → DK → Prop
noncomputable abbrev P2 := D → D → Hh → DK → Prop
noncomputable abbrev PN := List D → Hh → DK → Prop
noncomputable def dUn (p : P1) (a : DE) : DE := fun δ h Q => a δ h fun x h1 => p x h1 Q
noncomputable def dOp (p : P2) (a b : DE) : DE := fun δ h Q => a δ h fun x h1 => b δ h1 fun y h2 => p x y h2 Q
inductive r2 (K : PySem.W.Frag) (p : P2) (x y : V) (H : Hp) (Q : VK) : Prop
  | mk (π : List Addr) (α : List Addr) (h : Hh) (d e : D) (Q' : DK) : HRel ⟨K, π⟩ α H h → RelD ⟨K, π⟩ α H d x → RelD ⟨K, π⟩ α H e y → p d e h Q' → (∀ d h' α' H' v, Q' d h' → Ext α H α' H' → HRel ⟨K, π⟩ α' H' h' → RelD ⟨K, π⟩ α' H' d v → Q v H') → r2 K p x y H Q
inductive rN (K : PySem.W.Frag) (p : PN) (xs : List V) (H : Hp) (Q : VK) : Prop
  | mk (π : List Addr) (α : List Addr) (h : Hh) (ds : List D) (Q' : DK) : HRel ⟨K, π⟩ α H h → RelDs ⟨K, π⟩ α H ds xs → p ds h Q' → (∀ d h' α' H' v, Q' d h' → Ext α H α' H' → HRel ⟨K, π⟩ α' H' h' → RelD ⟨K, π⟩ α' H' d v → Q v H') → rN K p xs H Q
section
variable {K : PySem.W.Frag} {σ : L2.St} {H : Hp} {Q : VK}
theorem op_lift {p : P2} {fa fb : DE} (g : LE K (dOp p fa fb) σ H Q) : LE K fa σ H fun x H1 => LE K fb σ H1 fun y H2 => r2 K p x y H2 Q := by
  obtain ⟨π, α, δ, h, Q', R, S, f, k⟩ := g
  refine ⟨π, α, δ, h, _, R, S, f, fun x h1 α1 H1 v1 f1 e1 R1 q1 => ?_⟩
  refine ⟨π, α1, δ, h1, _, R1, S.mono e1, f1, fun y h2 α2 H2 v2 f2 e2 R2 q2 => ?_⟩
  exact ⟨π, α2, h2, x, y, Q', R2, q1.mono e2, q2, f2, fun d h' α' H' v a b c d' => k d h' α' H' v a (e1.trans (e2.trans b)) c d'⟩
end
theorem OpR.imp {X : Cx} {f : Value → Value → Sem Value} {r r' : R2} (h : OpR X f r) (k : ∀ x y H Q, r' x y H Q → r x y H Q) : OpR X f r' := fun pins s σ H x y v u Q I rx ry q => h pins s σ H x y v u Q I rx ry (k x y H Q q)
theorem IxR.imp {X : Cx} {r r' : R2} (h : IxR X r) (k : ∀ x y H Q, r' x y H Q → r x y H Q) : IxR X r' := fun va sl pins s σ H x y v u Q I rx ry q => h va sl pins s σ H x y v u Q I rx ry (k x y H Q q)
theorem CallR.imp {X : Cx} {f : Value} {r r' : List V → Hp → VK → Prop} (h : CallR X f r) (k : ∀ x H Q, r' x H Q → r x H Q) : CallR X f r' := fun pins s σ H xs us Q I rx q => h pins s σ H xs us Q I rx (k xs H Q q)
noncomputable def lsOf (h : Hh) : D → Option (List D)
  | .lst xs => some xs
  | .scr xs => some xs
  | .ref i => match h[i]? with | some (.lst xs) => some xs | _ => none
  | _ => none
section
variable {K : KP} {α : List Addr} {H : Hp} {h : Hh}
theorem lsOf_sq (R : HRel K α H h) : ∀ {d : D} {v : V} {xs : List D}, RelD K α H d v → lsOf h d = some xs → ∃ p us, v = .ref p ∧ SqL K.K H p us ∧ RelDs K α H xs us
  | _, _, _, .lst t r, e => by cases e; exact ⟨_, _, rfl, t.sq, r⟩
  | _, _, _, .scr t r, e => by cases e; exact ⟨_, _, rfl, t.sq, r⟩
  | _, _, xs, .ref (i := i) hp, e => by
    have e : (match h[i]? with | some (.lst xs) => some xs | _ => none) = some xs := e
    cases q : h[i]? with
    | none => rw [q] at e; cases e
    | some o =>
      rw [q] at e
      cases o with
      | lst ys =>
        cases e
        obtain ⟨p, us, e1, e2, e3⟩ := R.lst q
        rw [hp] at e1; cases e1
        exact ⟨_, us, rfl, SqL.of e2, e3⟩
      | _ => cases e
  | _, _, _, .non, e => nomatch e
  | _, _, _, .bl _, e => nomatch e
  | _, _, _, .int _, e => nomatch e
  | _, _, _, .str _, e => nomatch e
  | _, _, _, .tup _ _, e => nomatch e
theorem tup_sq {d : List D} {v : V} (r : RelD K α H (.tup d) v) : ∃ p us, v = .ref p ∧ SqT K.K H p us ∧ RelDs K α H d us := by
  cases r with
  | tup t r => exact ⟨_, _, rfl, t.sq, r⟩
end
section
variable {X : Cx} {a b c e : Expr} {fa fb fc : DE} {pos : Pos}
theorem sv (i : Nat) {x : Str} {pos : Pos} (hN : X.N[i]? = some x := by rfl) (hv : Vis X.env.scope x := by trivial) (hd : (x == ("__debug__" : Str)) = false := by decide)
    (hcd : (x == ("__classdict__" : Str)) = false := by decide) : SE X (.Name x pos) (dVar i) := PE.imp (pe_var hN hv hd hcd) fun σ H Q ⟨π, α, δ, h, Q', R, S, f, k⟩ => by
  unfold dVar at f
  split at f
  · rename_i d e
    obtain ⟨v, h1, h2⟩ := S.get i d e
    exact ⟨v, h1, k d h α H v f (Ext.refl ..) R h2⟩
  · exact f.elim
theorem sc_lift {v : V} {d : D} (r : ∀ π α H, RelD ⟨X.K, π⟩ α H d v) (h : PE X e (tC v)) : SE X e (dC d) := PE.imp h fun σ H Q ⟨π, α, δ, h, Q', R, S, f, k⟩ => k d h α H v f (Ext.refl ..) R (r π α H)
theorem se_int {i j pos} : SE X (.Constant (.int i) j pos) (dC (.int i)) := sc_lift (fun _ _ _ => .int i) pe_int
theorem se_bl {i j pos} : SE X (.Constant (.bool i) j pos) (dC (.bl i)) := sc_lift (fun _ _ _ => .bl i) pe_bl
theorem se_non {j pos} : SE X (.Constant .none j pos) (dC .non) := sc_lift (fun _ _ _ => .non) pe_non
theorem se_str {i j pos} : SE X (.Constant (.str i) j pos) (dC (.str i)) := sc_lift (fun _ _ _ => .str i) pe_str
theorem se_op {op : Operator} {p : P2} (ho : OpR X (binaryOp op) (r2 X.K p)) (ha : SE X a fa) (hb : SE X b fb) : SE X (.BinOp a op b pos) (dOp p fa fb) := PE.imp (pe_op ho ha hb) fun _ _ _ g => op_lift g
theorem se_ix {p : P2} (ho : IxR X (r2 X.K p)) (ha : SE X a fa) (hb : SE X b fb) (hs : PlainIx b) : SE X (.Subscript a b pos) (dOp p fa fb) := PE.imp (pe_ix ho ha hb hs) fun _ _ _ g => op_lift g
theorem se_cmp {op : CmpOp} {p : P2} (ho : OpR X (compareOp op) (r2 X.K p)) (ha : SE X a fa) (hb : SE X b fb) (hm : behindInMarks op b = false) : SE X (.Compare a [op] [b] pos) (dOp p fa fb) := PE.imp (pe_cmpR ho ha hb hm) fun _ _ _ g => op_lift g
noncomputable def dTst (f : DE) : DT := fun δ h Q => f δ h fun d h' => match d with | .bl b => Q b h' | _ => False
theorem tst_lift {K : PySem.W.Frag} {f : DE} {σ : L2.St} {H : Hp} {Q : Bool → Hp → Prop} (g : LT K (dTst f) σ H Q) : LE K f σ H fun x H' => ∃ k, x = .bl k ∧ Q k H' := by
  obtain ⟨π, α, δ, h, Q', R, S, f, k⟩ := g
  refine ⟨π, α, δ, h, _, R, S, f, fun d h1 α1 H1 v1 f1 e1 R1 q1 => ?_⟩
  cases q1 with
  | bl b => exact ⟨b, rfl, k b h1 α1 H1 f1 e1 R1⟩
  | _ => exact f1.elim
theorem st_cmp {op : CmpOp} {p : P2} (ho : OpR X (compareOp op) (r2 X.K p)) (ha : SE X a fa) (hb : SE X b fb) (hm : behindInMarks op b = false) : ST X (.Compare a [op] [b] pos) (dTst (dOp p fa fb)) := PT.imp (pt_cmpR ho ha hb hm) fun _ _ _ g => by
  obtain ⟨π, α, δ, h, Q', R, S, f, k⟩ := tst_lift g
  exact op_lift (Q := fun x H' => ∃ k, x = .bl k ∧ _) ⟨π, α, δ, h, Q', R, S, f, k⟩
noncomputable def dChain (p q : P2) (a b c : DE) : DE := fun δ h Q => a δ h fun x h1 => b δ h1 fun y h2 => p x y h2 fun z h3 => match z with
  | .bl k => if k = true then c δ h3 fun w h4 => q y w h4 Q else Q (.bl false) h3
  | _ => False
noncomputable def trD (h : Hh) : D → Option Bool
  | .non => some false
  | .bl b => some b
  | .int i => some (i != 0)
  | .str x => if x.length ≤ 16777216 then some ((x.length : Int) != 0) else none
  | .tup xs => some (!xs.isEmpty)
  | .lst xs => some (!xs.isEmpty)
  | .scr xs => some (!xs.isEmpty)
  | .ref i => match h[i]? with | some (.lst xs) => some (!xs.isEmpty) | _ => none
  | .exc _ _ => none
noncomputable def dTr (f : DE) : DT := fun δ h Q => f δ h fun d h' => match trD h' d with | some b => Q b h' | none => False
theorem isEmpty_rel {K : KP} {α : List Addr} {H : Hp} {ds : List D} {us : List V} (r : RelDs K α H ds us) : ds.isEmpty = us.isEmpty := by cases r <;> rfl
theorem tr_ok {K : KP} {α : List Addr} {H : Hp} {h : Hh} (R : HRel K α H h) {d : D} {v : V} {k : Bool} (r : RelD K α H d v) (e : trD h d = some k) : TruV K.K v H k := by
  cases r with
  | non => cases e; exact rfl
  | bl b => cases e; exact rfl
  | int i => cases e; exact rfl
  | str x =>
    have e : (if x.length ≤ 16777216 then some ((x.length : Int) != 0) else none) = some k := e
    split at e
    · rename_i hl
      cases e
      exact ⟨by rw [sizeLine_eq]; exact hl, rfl⟩
    · cases e
  | tup t r => cases e; exact .inr (.inl ⟨_, t.sq, by rw [isEmpty_rel r]⟩)
  | lst t r => cases e; exact .inl ⟨_, t.sq, by rw [isEmpty_rel r]⟩
  | scr t r => cases e; exact .inl ⟨_, t.sq, by rw [isEmpty_rel r]⟩
  | exc _ _ _ => cases e
  | @ref i a hp =>
    have e : (match h[i]? with | some (.lst xs) => some (!xs.isEmpty) | _ => none) = some k := e
    cases q : h[i]? with
    | none => rw [q] at e; cases e
    | some o =>
      rw [q] at e
      cases o with
      | lst ys =>
        cases e
        obtain ⟨p, us, e1, e2, e3⟩ := R.lst q
        rw [hp] at e1; cases e1
        exact .inl ⟨us, SqL.of e2, by rw [isEmpty_rel e3]⟩
      | _ => cases e
theorem st_truth (ha : SE X a fa) (he : ∀ whole, isTrue a X.env whole = (do let v ← whole; standAt a.pos; holding [v] (truthy v)) := by intro _; rfl) : ST X a (dTr fa) := PT.imp (pt_truth ha he) fun σ H Q ⟨π, α, δ, h, Q', R, S, f, k⟩ => by
  refine ⟨π, α, δ, h, _, R, S, f, fun d h1 α1 H1 v1 f1 e1 R1 q1 => ?_⟩
  cases q : trD h1 d with
  | none => rw [q] at f1; exact f1.elim
  | some b => rw [q] at f1; exact ⟨b, tr_ok R1 q1 q, k b h1 α1 H1 f1 e1 R1⟩
noncomputable def dAnd (t u : DT) : DT := fun δ h Q => t δ h fun c h1 => if c = true then u δ h1 Q else Q false h1
noncomputable def dOr (t u : DT) : DT := fun δ h Q => t δ h fun c h1 => if c = true then Q true h1 else u δ h1 Q
noncomputable def dNot (t : DT) : DT := fun δ h Q => t δ h fun c h1 => Q (!c) h1
variable {ga gb : DT} {rest : List Expr}
theorem sw_and1 (ha : ST X a ga) : SW X (.BoolOp .And [a] pos) ga := pw_and1 ha
theorem sw_or1 (ha : ST X a ga) : SW X (.BoolOp .Or [a] pos) ga := pw_or1 ha
theorem sw_and (ha : ST X a ga) (hb : SW X (.BoolOp .And (b :: rest) pos) gb) : SW X (.BoolOp .And (a :: b :: rest) pos) (dAnd ga gb) := PW.imp (pw_and ha hb) fun σ H Q ⟨π, α, δ, h, Q', R, S, f, k⟩ => by
  refine ⟨π, α, δ, h, _, R, S, f, fun c h1 α1 H1 f1 e1 R1 => ?_⟩
  cases c with
  | true => exact iteT ⟨π, α1, δ, h1, Q', R1, S.mono e1, by simpa using f1, fun b h' α' H' a e c => k b h' α' H' a (e1.trans e) c⟩
  | false => exact iteF (k false h1 α1 H1 (by simpa using f1) e1 R1)
theorem sw_or (ha : ST X a ga) (hb : SW X (.BoolOp .Or (b :: rest) pos) gb) : SW X (.BoolOp .Or (a :: b :: rest) pos) (dOr ga gb) := PW.imp (pw_or ha hb) fun σ H Q ⟨π, α, δ, h, Q', R, S, f, k⟩ => by
  refine ⟨π, α, δ, h, _, R, S, f, fun c h1 α1 H1 f1 e1 R1 => ?_⟩
  cases c with
  | true => exact iteT (k true h1 α1 H1 (by simpa using f1) e1 R1)
  | false => exact iteF ⟨π, α1, δ, h1, Q', R1, S.mono e1, by simpa using f1, fun b h' α' H' a e c => k b h' α' H' a (e1.trans e) c⟩
theorem st_w (h : SW X e ga) : ST X e ga := PW.pt h
theorem st_not (ha : ST X a ga) : ST X (.UnaryOp .Not a pos) (dNot ga) := PT.imp (pt_not ha) fun σ H Q ⟨π, α, δ, h, Q', R, S, f, k⟩ => ⟨π, α, δ, h, _, R, S, f, fun c h1 α1 H1 f1 e1 R1 => k (!c) h1 α1 H1 f1 e1 R1⟩
noncomputable def dAndV (a b : DE) : DE := fun δ h Q => a δ h fun x h1 => match x with | .bl k => if k = true then b δ h1 Q else Q (.bl false) h1 | _ => False
noncomputable def dOrV (a b : DE) : DE := fun δ h Q => a δ h fun x h1 => match x with | .bl k => if k = true then Q (.bl true) h1 else b δ h1 Q | _ => False
noncomputable def dNotV (a : DE) : DE := fun δ h Q => a δ h fun x h1 => match x with | .bl b => Q (.bl (!b)) h1 | _ => False
theorem se_one {op} (h : SE X a fa) : SE X (.BoolOp op [a] pos) fa := pe_one h
theorem se_and (ha : SE X a fa) (hb : SE X (.BoolOp .And (b :: rest) pos) fb) : SE X (.BoolOp .And (a :: b :: rest) pos) (dAndV fa fb) := PE.imp (pe_and ha hb) fun σ H Q ⟨π, α, δ, h, Q', R, S, f, k⟩ => by
  refine ⟨π, α, δ, h, _, R, S, f, fun x h1 α1 H1 v1 f1 e1 R1 q1 => ?_⟩
  cases q1 with
  | bl c =>
    refine ⟨c, rfl, ?_⟩
    cases c with
    | true => exact iteT ⟨π, α1, δ, h1, Q', R1, S.mono e1, by simpa using f1, fun d h' α' H' v a e c d' => k d h' α' H' v a (e1.trans e) c d'⟩
    | false => exact iteF (k _ h1 α1 H1 _ (by simpa using f1) e1 R1 (.bl false))
  | _ => exact f1.elim
theorem se_not (ha : SE X a fa) : SE X (.UnaryOp .Not a pos) (dNotV fa) := PE.imp (pe_not ha) fun σ H Q ⟨π, α, δ, h, Q', R, S, f, k⟩ => by
  refine ⟨π, α, δ, h, _, R, S, f, fun x h1 α1 H1 v1 f1 e1 R1 q1 => ?_⟩
  cases q1 with
  | bl c => exact ⟨c, rfl, k _ h1 α1 H1 _ f1 e1 R1 (.bl (!c))⟩
  | _ => exact f1.elim
noncomputable def dIf (t : DT) (a b : DE) : DE := fun δ h Q => t δ h fun c h1 => if c = true then a δ h1 Q else b δ h1 Q
noncomputable def dNil : DA := fun _ h Q => Q [] h
noncomputable def dCons (a : DE) (r : DA) : DA := fun δ h Q => a δ h fun x h1 => r δ h1 fun xs h2 => Q (x :: xs) h2
variable {es : List Expr} {n : Nat} {fs : DA}
theorem sa_nil : SA X [] 0 dNil := PA.imp pa_nil fun σ H Q ⟨π, α, δ, h, Q', R, S, f, k⟩ => k [] h α H [] f (Ext.refl ..) R .nil rfl
theorem sa_cons (ha : SE X e fa) (hr : SA X es n fs) (hs : starEach (e :: es) X.env = (false, eval e X.env) :: starEach es X.env := by rfl) : SA X (e :: es) (n + 1) (dCons fa fs) := PA.imp (pa_cons ha hr hs) fun σ H Q ⟨π, α, δ, h, Q', R, S, f, k⟩ => by
  refine ⟨π, α, δ, h, _, R, S, f, fun x h1 α1 H1 v1 f1 e1 R1 q1 => ?_⟩
  refine ⟨π, α1, δ, h1, _, R1, S.mono e1, f1, fun ds h2 α2 H2 vs f2 e2 R2 q2 l2 => ?_⟩
  exact k (x :: ds) h2 α2 H2 (v1 :: vs) f2 (e1.trans e2) R2 (.cons (q1.mono e2) q2) (by rw [List.length_cons, l2])
noncomputable def dTup (f : DA) : DE := fun δ h Q => f δ h fun ds h1 => Q (.tup ds) h1
theorem se_tup {x1} (hf : SA X es n fs) (hn : n ≤ sizeLine := by decide) : SE X (.Tuple es x1 pos) (dTup fs) := PE.imp (pe_tup hf) fun σ H Q ⟨π, α, δ, h, Q', R, S, f, k⟩ => by
  refine ⟨π, α, δ, h, _, R, S, f, fun ds h1 α1 H1 vs f1 e1 R1 q1 l1 => ⟨by rw [← q1.length, l1]; exact hn, fun p hp => ?_⟩⟩
  have e2 : Ext α1 H1 α1 (upd H1 p (.tup vs)) := Ext.new hp
  exact k (.tup ds) h1 α1 _ _ f1 (e1.trans e2) (R1.new hp) (.tup ⟨R1.out hp, R1.outP hp, upd_same⟩ (q1.mono e2))
noncomputable abbrev DN := Sl → Hh → (List D → Hh → Prop) → Prop
inductive LN (K : PySem.W.Frag) (f : DN) (σ : St) (H : Hp) (Q : VK) : Prop
  | mk (π : List Addr) (α : List Addr) (δ : Sl) (h : Hh) (Q' : List D → Hh → Prop) : HRel ⟨K, π⟩ α H h → RelS ⟨K, π⟩ α H δ σ → f δ h Q' → (∀ ds h' α' H' us p, Q' ds h' → Ext α H α' H' → HRel ⟨K, p :: π⟩ α' H' h' → RelDs ⟨K, p :: π⟩ α' H' ds us → H' p = some (.lst us) → H p = none → p ∉ π → Q (.ref p) H') → LN K f σ H Q
theorem LN.last {K : PySem.W.Frag} {π α α' : List Addr} {H H' : Hp} {h h' : Hh} {Q : VK} {Q' : List D → Hh → Prop} (k : ∀ ds h' α' H' us p, Q' ds h' → Ext α H α' H' → HRel ⟨K, p :: π⟩ α' H' h' → RelDs ⟨K, p :: π⟩ α' H' ds us → H' p = some (.lst us) → H p = none → p ∉ π → Q (.ref p) H')
    {ds : List D} {us : List V} {p : Addr} (f : Q' ds h') (e : Ext α H α' H') (R : HRel ⟨K, π⟩ α' H' h') (r : RelDs ⟨K, π⟩ α' H' ds us) (hp : H' p = none) : Q (.ref p) (upd H' p (.lst us)) := by
  have e2 : Ext α' H' α' (upd H' p (.lst us)) := Ext.new hp
  refine k ds h' α' _ us p f (e.trans e2) (R.under hp) ((r.more fun q hq => ?_).mono e2) upd_same (e.dom p hp) (R.outP hp)
  rcases List.mem_cons.mp hq with rfl | z
  · exact .inr hp
  · exact .inl z
noncomputable def SN (X : Cx) (e : Expr) (f : DN) : Prop := PE X e (LN X.K f)
noncomputable def dV (f : DN) : DE := fun δ h Q => f δ h fun ds h' => Q (.lst ds) h'
noncomputable def dTk (f : DN) : DE := fun δ h Q => f δ h fun ds h' => Q (.ref h'.length) (h' ++ [.lst ds])
variable {fn : DN}
theorem se_v (hf : SN X e fn) : SE X e (dV fn) := PE.imp hf fun σ H Q ⟨π, α, δ, h, Q', R, S, f, k⟩ => by
  refine ⟨π, α, δ, h, _, R, S, f, fun ds h1 α1 H1 us p f1 e1 R1 q1 hus hp np => ?_⟩
  exact k (.lst ds) h1 α1 _ _ f1 e1 R1.less (.lst ⟨(R1.dis p List.mem_cons_self).1, np, hus⟩ (q1.more fun q hq => .inl (List.mem_cons_of_mem _ hq)))
theorem se_t (hf : SN X e fn) : SE X e (dTk fn) := PE.imp hf fun σ H Q ⟨π, α, δ, h, Q', R, S, f, k⟩ => by
  refine ⟨π, α, δ, h, _, R, S, f, fun ds h1 α1 H1 us p f1 e1 R1 q1 hus hp np => ?_⟩
  refine k (.ref h1.length) (h1 ++ [.lst ds]) (α1 ++ [p]) _ _ f1 (e1.adopt hp) (R1.adopt np (.lst hus q1.adopt)) (.ref ?_)
  rw [← R1.len]; simp
theorem sn_lst (hf : SA X es n fs) (hn : n ≤ sizeLine := by decide) : SN X (.List es pos) fs := PE.imp (pe_lst hf) fun σ H Q ⟨π, α, δ, h, Q', R, S, f, k⟩ => by
  refine ⟨π, α, δ, h, _, R, S, f, fun ds h1 α1 H1 vs f1 e1 R1 q1 l1 => ⟨by rw [← q1.length, l1]; exact hn, fun p hp => ?_⟩⟩
  exact LN.last (h := h) k f1 e1 R1 q1 hp
end
end DL
namespace DL
open PySem PySem.Spec L2
section
variable {X : Cx}
noncomputable def pI (C : Int → Int → Prop) (g : Int → Int → Int) : P2 := fun x y h Q => match x, y with | .int i, .int j => C i j ∧ Q (.int (g i j)) h | _, _ => False
noncomputable def pI0 (g : Int → Int → Int) : P2 := fun x y h Q => match x, y with | .int i, .int j => Q (.int (g i j)) h | _, _ => False
noncomputable def pB0 (g : Int → Int → Bool) : P2 := fun x y h Q => match x, y with | .int i, .int j => Q (.bl (g i j)) h | _, _ => False
theorem pI_ok {f : Value → Value → Sem Value} {C : Int → Int → Prop} {g : Int → Int → Int} (h : OpR X f (rI C fun i j => .int (g i j))) : OpR X f (r2 X.K (pI C g)) := OpR.imp h fun x y H Q ⟨π, α, h, d, e, Q', R, r1, r2, f, k⟩ => by
  cases r1 with
  | int i =>
    cases r2 with
    | int j => exact ⟨i, j, rfl, rfl, f.1, k _ h α H _ f.2 (Ext.refl ..) R (.int _)⟩
    | _ => exact f.elim
  | _ => exact f.elim
theorem pI0_ok {f : Value → Value → Sem Value} {g : Int → Int → Int} (h : OpR X f (rI0 fun i j => .int (g i j))) : OpR X f (r2 X.K (pI0 g)) := OpR.imp h fun x y H Q ⟨π, α, h, d, e, Q', R, r1, r2, f, k⟩ => by
  cases r1 with
  | int i =>
    cases r2 with
    | int j => exact ⟨i, j, rfl, rfl, k _ h α H _ f (Ext.refl ..) R (.int _)⟩
    | _ => exact f.elim
  | _ => exact f.elim
theorem pB0_ok {f : Value → Value → Sem Value} {g : Int → Int → Bool} (h : OpR X f (rI0 fun i j => .bl (g i j))) : OpR X f (r2 X.K (pB0 g)) := OpR.imp h fun x y H Q ⟨π, α, h, d, e, Q', R, r1, r2, f, k⟩ => by
  cases r1 with
  | int i =>
    cases r2 with
    | int j => exact ⟨i, j, rfl, rfl, k _ h α H _ f (Ext.refl ..) R (.bl _)⟩
    | _ => exact f.elim
  | _ => exact f.elim
noncomputable abbrev pSub : P2 := pI0 fun i j => i - j
noncomputable abbrev pDiv : P2 := pI (fun _ j => 0 < j ∧ j < 2 ^ 100) fun i j => i / j
noncomputable abbrev pMod : P2 := pI (fun _ j => 0 < j) fun i j => i % j
noncomputable abbrev pPow : P2 := pI CPow fun i j => i ^ j.toNat
noncomputable abbrev pLtI : P2 := pB0 fun i j => decide (i < j)
noncomputable abbrev pGt : P2 := pB0 fun i j => decide (j < i)
theorem ok_sub : OpR X (binaryOp .Sub) (r2 X.K pSub) := pI0_ok op_sub
theorem op_fdivB : OpR X (binaryOp .FloorDiv) (rI (fun _ j => 0 < j ∧ j < 2 ^ 100) fun i j => .int (i / j)) := opI fun i j _ _ _ _ _ hc q => by
  have e : i.fdiv j = i / j := Int.fdiv_eq_ediv_of_nonneg i (by omega)
  refine PyProof.Rows.floordiv_int (by omega) (by rw [e]; exact q) (.inl (PyProof.noPylong_of_log2 ?_))
  have h1 : j.natAbs ≠ 0 := by omega
  rw [Nat.log2_lt h1]
  have h2 : j.natAbs < 2 ^ 100 := by
    have := hc.2
    omega
  exact Nat.lt_of_lt_of_le h2 (Nat.pow_le_pow_right (by decide) (by decide))
theorem ok_div : OpR X (binaryOp .FloorDiv) (r2 X.K pDiv) := pI_ok op_fdivB
theorem ok_mod : OpR X (binaryOp .Mod) (r2 X.K pMod) := pI_ok op_mod
theorem ok_pow : OpR X (binaryOp .Pow) (r2 X.K pPow) := pI_ok op_pow
theorem ok_gt : OpR X (compareOp .Gt) (r2 X.K pGt) := pB0_ok op_gt
theorem ok_ltI : OpR X (compareOp .Lt) (r2 X.K pLtI) := pB0_ok op_lt
theorem iok_add : OpR X (inplaceOp .Add) (r2 X.K (pI0 fun i j => i + j)) := pI0_ok iop_add
noncomputable def pAdd : P2 := fun x y h Q => match x, y with
  | .int i, .int j => Q (.int (i + j)) h
  | .str a, .str b => a.length + b.length ≤ 16777216 ∧ Q (.str (a ++ b)) h
  | .tup a, .tup b => a ≠ [] ∧ a.length + b.length ≤ 16777216 ∧ Q (.tup (a ++ b)) h
  | _, _ => False
theorem ok_add : OpR X (binaryOp .Add) (r2 X.K pAdd) := OpR.imp (op_add.or (op_add_str.or op_catT)) fun x y H Q ⟨π, α, h, d, e, Q', R, r1, r2, f, k⟩ => by
  cases r1 with
  | int i =>
    cases r2 with
    | int j => exact .inl ⟨i, j, rfl, rfl, k _ h α H _ f (Ext.refl ..) R (.int _)⟩
    | _ => exact f.elim
  | str i =>
    cases r2 with
    | str j => exact .inr (.inl ⟨i, j, rfl, rfl, by rw [sizeLine_eq]; exact f.1, k _ h α H _ f.2 (Ext.refl ..) R (.str _)⟩)
    | _ => exact f.elim
  | @tup a us ds t r =>
    cases r2 with
    | @tup a' us' ds' t' r' =>
      obtain ⟨f1, f2, f3⟩ := f
      have l1 := r.length
      have l2 := r'.length
      refine .inr (.inr ⟨a, a', us, us', rfl, rfl, t.sq, t'.sq, ?_, by rw [sizeLine_eq, ← l1, ← l2]; exact f2, fun z => ?_, fun z p hp => ?_⟩)
      · intro z
        subst z
        cases r; exact f1 rfl
      · subst z
        cases r'
        rw [List.append_nil] at f3
        exact k _ h α H _ f3 (Ext.refl ..) R (.tup t r)
      · have e2 : Ext α H α (upd H p (.tup (us ++ us'))) := Ext.new hp
        exact k _ h α _ _ f3 e2 (R.new hp) (.tup ⟨R.out hp, R.outP hp, upd_same⟩ ((r.append r').mono e2))
    | _ => exact f.elim
  | _ => exact f.elim
noncomputable def pNeg : P1 := fun x h Q => match x with | .int i => Q (.int (-i)) h | _ => False
noncomputable def isNon : D → Bool | .non => true | _ => false
noncomputable def pIs (neg : Bool) : P2 := fun x y h Q => match y with | .non => Q (.bl (if neg then !isNon x else isNon x)) h | _ => False
theorem isNon_rel {K : KP} {α : List Addr} {H : Hp} {d : D} {v : V} (r : RelD K α H d v) : decide (v = .non) = isNon d := by cases r <;> rfl
theorem ok_is : OpR X (compareOp .Is) (r2 X.K (pIs false)) := OpR.imp op_isN fun x y H Q ⟨π, α, h, d, e, Q', R, r1, r2, f, k⟩ => by
  cases r2 with
  | non =>
    refine ⟨rfl, k _ h α H _ f (Ext.refl ..) R ?_⟩
    rw [isNon_rel r1]; exact .bl _
  | _ => exact f.elim
theorem atI_rel {K : KP} {α : List Addr} {H : Hp} {ds : List D} {us : List V} {i : Int} {d : D} (r : RelDs K α H ds us) (e : atI ds i = some d) : ∃ u, atI us i = some u ∧ RelD K α H d u := by
  unfold atI at e ⊢
  rw [← r.length]
  cases q : ixN ds.length i with
  | none => rw [q] at e; cases e
  | some j =>
    rw [q] at e
    exact r.get e
noncomputable def seqOf (h : Hh) : D → Option (List D)
  | .lst xs => some xs
  | .scr xs => some xs
  | .tup xs => some xs
  | .ref i => match h[i]? with | some (.lst xs) => some xs | _ => none
  | _ => none
theorem seqOf_sq {K : KP} {α : List Addr} {H : Hp} {h : Hh} (R : HRel K α H h) {d : D} {v : V} {xs : List D} (r : RelD K α H d v) (e : seqOf h d = some xs) : ∃ p us, v = .ref p ∧ (SqL K.K H p us ∨ SqT K.K H p us) ∧ RelDs K α H xs us := by
  by_cases z : ∃ ys, d = .tup ys
  · obtain ⟨ys, rfl⟩ := z
    cases e
    obtain ⟨p, us, a, b, c⟩ := tup_sq r
    exact ⟨p, us, a, .inr b, c⟩
  · have e' : lsOf h d = some xs := by
      cases d with
      | tup ys => exact absurd ⟨ys, rfl⟩ z
      | lst ys => exact e
      | scr ys => exact e
      | ref i => exact e
      | _ => cases e
    obtain ⟨p, us, a, b, c⟩ := lsOf_sq R r e'
    exact ⟨p, us, a, .inl b, c⟩
noncomputable def strAt (x : Str) (i : Int) : Option D := if x.length ≤ 16777216 then (atI x.cps.toList i).map fun c => .str ⟨#[c]⟩ else none
noncomputable def ixD (h : Hh) (x y : D) : Option D := match y with
  | .int i => match x with
    | .tup xs => atI xs i
    | .lst xs => atI xs i
    | .scr xs => atI xs i
    | .ref j => match h[j]? with | some (.lst xs) => atI xs i | _ => none
    | .str s => strAt s i
    | _ => none
  | _ => none
noncomputable def pIx : P2 := fun x y h Q => match ixD h x y with | some d => Q d h | none => False
theorem ok_ix : IxR X (r2 X.K pIx) := IxR.imp ix_seq fun x y H Q ⟨π, α, h, d, e, Q', R, r1, r2, f, k⟩ => by
  unfold pIx at f
  cases q : ixD h d e with
  | none => rw [q] at f; exact f.elim
  | some z =>
    rw [q] at f
    cases r2 with
    | int i =>
      cases r1 with
      | @tup a us ds t r =>
        obtain ⟨u, e1, e2⟩ := atI_rel r q
        exact .inr (.inl ⟨_, us, i, u, rfl, rfl, t.sq, e1, k _ h α H _ f (Ext.refl ..) R e2⟩)
      | @lst a us ds t r =>
        obtain ⟨u, e1, e2⟩ := atI_rel r q
        exact .inl ⟨_, us, i, u, rfl, rfl, t.sq, e1, k _ h α H _ f (Ext.refl ..) R e2⟩
      | @scr a us ds t r =>
        obtain ⟨u, e1, e2⟩ := atI_rel r q
        exact .inl ⟨_, us, i, u, rfl, rfl, t.sq, e1, k _ h α H _ f (Ext.refl ..) R e2⟩
      | @ref j a hp =>
        have q : (match h[j]? with | some (.lst xs) => atI xs i | _ => none) = some z := q
        cases w : h[j]? with
        | none => rw [w] at q; cases q
        | some o =>
          rw [w] at q
          cases o with
          | lst ys =>
            obtain ⟨p, us, e1, e2, e3⟩ := R.lst w
            rw [hp] at e1; cases e1
            obtain ⟨u, e4, e5⟩ := atI_rel e3 q
            exact .inl ⟨_, us, i, u, rfl, rfl, SqL.of e2, e4, k _ h α H _ f (Ext.refl ..) R e5⟩
          | _ => cases q
      | str s =>
        have q : strAt s i = some z := q
        unfold strAt at q
        split at q
        · rename_i hl
          cases w : atI s.cps.toList i with
          | none => rw [w] at q; cases q
          | some c =>
            rw [w] at q
            cases q
            exact .inr (.inr ⟨s, i, c, rfl, rfl, by rw [sizeLine_eq]; exact hl, w, k _ h α H _ f (Ext.refl ..) R (.str _)⟩)
        · cases q
      | _ => cases q
    | _ => cases q
end
noncomputable def cutD (xs : List D) (lo hi : Option Int) : List D := (xs.drop (HT.sIx xs.length 0 lo)).take (HT.sIx xs.length xs.length hi - HT.sIx xs.length 0 lo)
theorem cut_rel {K : KP} {α : List Addr} {H : Hp} {ds : List D} {us : List V} (r : RelDs K α H ds us) (lo hi : Option Int) : RelDs K α H (cutD ds lo hi) (cutV us lo hi) := by
  unfold cutD cutV
  rw [r.length]
  exact (r.drop _).take _
noncomputable abbrev DO := Sl → Hh → (Option Int → Hh → Prop) → Prop
noncomputable def dNoPart : DO := fun _ h Q => Q none h
noncomputable def dPart (f : DE) : DO := fun δ h Q => f δ h fun d h1 => match d with | .int i => Q (some i) h1 | _ => False
inductive LO (K : PySem.W.Frag) (f : DO) (σ : St) (H : Hp) (Q : Option Int → Hp → Prop) : Prop
  | mk (π : List Addr) (α : List Addr) (δ : Sl) (h : Hh) (Q' : Option Int → Hh → Prop) : HRel ⟨K, π⟩ α H h → RelS ⟨K, π⟩ α H δ σ → f δ h Q' → (∀ i h' α' H', Q' i h' → Ext α H α' H' → HRel ⟨K, π⟩ α' H' h' → Q i H') → LO K f σ H Q
noncomputable def SO (X : Cx) (e : Option Expr) (f : DO) : Prop := PO X e (LO X.K f)
section
variable {X : Cx} {e : Expr} {fe : DE} {lo hi : Option Expr} {fl fh : DO} {pos p2 : Pos}
theorem PO.imp {o : Option Expr} {t t' : TO} (h : PO X o t) (k : ∀ σ H Q, t' σ H Q → t σ H Q) : PO X o t' := fun pins s σ H Q I q => h pins s σ H Q I (k σ H Q q)
theorem so_none : SO X none dNoPart := PO.imp po_none fun σ H Q ⟨π, α, δ, h, Q', R, S, f, k⟩ => k none h α H f (Ext.refl ..) R
theorem so_some (h : SE X e fe) : SO X (some e) (dPart fe) := PO.imp (po_some h) fun σ H Q ⟨π, α, δ, h, Q', R, S, f, k⟩ => by
  refine ⟨π, α, δ, h, _, R, S, f, fun d h1 α1 H1 v1 f1 e1 R1 q1 => ?_⟩
  cases q1 with
  | int i => exact ⟨i, rfl, k (some i) h1 α1 H1 f1 e1 R1⟩
  | _ => exact f1.elim
noncomputable def rSlD (K : PySem.W.Frag) : V → Option Int → Option Int → Hp → VK → Prop := fun x lo hi H Q => ∃ a xs, x = .ref a ∧ SqT K H a xs ∧ (cutV xs lo hi = xs → Q (.ref a) H) ∧ ∀ p, H p = none → Q (.ref p) (upd H p (.tup (cutV xs lo hi)))
theorem sl_tupD : SlR X (rSlD X.K) := by
  intro pins s σ H x v vl vu lo hi sl Q I rx hs pl pu h
  obtain ⟨a, xs, rfl, hx, q1, q2⟩ := h
  by_cases hw : HT.sIx xs.length 0 lo = 0 ∧ HT.sIx xs.length xs.length hi = xs.length
  · cases rx
    obtain ⟨its, r, ht, hz⟩ := I.tuple hx
    have hlen : its.toArray.size = xs.length := by rw [List.size_toArray]; exact r.length.symm
    refine ⟨"tuple", _, PyProof.Rows.slot_tuple_getitem.lookup, ht.typeIs, ?_⟩
    have ec : cutV xs lo hi = xs := by
      unfold cutV
      rw [hw.1, hw.2, List.drop_zero, Nat.sub_zero, List.take_length]
    exact HT.getItem_tuple_all ht hs pl pu (by rw [hlen]; exact hw) ⟨.ref a, H, I, rfl, q1 ec⟩
  · exact sl_tup pins s σ H (.ref a) v vl vu lo hi sl Q I rx hs pl pu ⟨a, xs, rfl, hx, hw, fun p hp => q2 p hp⟩
noncomputable def dSlL (fe : DE) (fl fh : DO) : DN := fun δ h Q => fe δ h fun d h1 => fl δ h1 fun l h2 => fh δ h2 fun u h3 => match lsOf h3 d with | some xs => Q (cutD xs l u) h3 | none => False
end
end DL
namespace DL
open PySem PySem.Spec L2
noncomputable def dName (i : Nat) : DG := fun d δ h Q => Q (δ.set i (some d)) h
noncomputable def dGNil : DGs := fun ds δ h Q => match ds with | [] => Q δ h | _ => False
noncomputable def dGCons (t : DG) (u : DGs) : DGs := fun ds δ h Q => match ds with | d :: r => t d δ h fun δ' h' => u r δ' h' Q | [] => False
noncomputable def dUnp (n : Nat) (t : DGs) : DG := fun d δ h Q => match d with | .tup xs => xs.length = n ∧ t xs δ h Q | _ => False
section
variable {X : Cx} {pos : Pos}
theorem sg_name {i : Nat} {x : Str} (hN : X.N.Nodup) (hi : X.N[i]? = some x) (hx : Loc X.env.scope x) (hf : X.fn x = true ∨ X.env.scope.names.lookup x = some .local := by trivial) : SG X (.Name x pos) (dName i) := PG.imp (pg_name hN hi hx hf) fun v σ H Q ⟨π, α, δ, h, d, Q', R, S, r, f, k⟩ =>
  k _ h α H _ f (Ext.refl ..) R (S.set i r)
theorem sgs_nil : SGs X [] dGNil := PGs.imp pgs_nil fun vs σ H Q ⟨π, α, δ, h, ds, Q', R, S, r, f, k⟩ => by
  cases r with
  | nil => exact ⟨rfl, k δ h α H σ f (Ext.refl ..) R S⟩
  | cons _ _ => exact f.elim
theorem sgs_cons {e : Expr} {es : List Expr} {t : DG} {u : DGs} (h1 : SG X e t) (h2 : SGs X es u) (hs : (assignEach (e :: es) X.env).map (·.2) = assign e X.env :: (assignEach es X.env).map (·.2) := by rfl) : SGs X (e :: es) (dGCons t u) := PGs.imp (pgs_cons h1 h2 hs) fun vs σ H Q ⟨π, α, δ, h, ds, Q', R, S, r, f, k⟩ => by
  cases r with
  | nil => exact f.elim
  | @cons d v ds us rd rs =>
    refine ⟨v, us, rfl, π, α, δ, h, d, _, R, S, rd, f, fun δ1 h1 α1 H1 σ1 f1 e1 R1 S1 => ?_⟩
    exact ⟨π, α1, δ1, h1, ds, Q', R1, S1, rs.mono e1, f1, fun δ' h' α' H' σ' a b c d' => k δ' h' α' H' σ' a (e1.trans b) c d'⟩
theorem sg_tup {es : List Expr} {j : Nat} {t : DGs} {n : Nat} (hc : X.calm = true) (h : SGs X es t) (hn : (assignEach es X.env).length = n := by rfl) (hst : (assignEach es X.env).findIdx? (·.1) = none := by rfl) : SG X (.Tuple es j pos) (dUnp n t) := PG.imp (pg_tup hc h hn hst) fun v σ H Q ⟨π, α, δ, h, d, Q', R, S, r, f, k⟩ => by
  cases r with
  | @tup a us ds t rs => exact ⟨a, us, rfl, t.sq, by rw [← rs.length]; exact f.1, π, α, δ, h, ds, Q', R, S, rs, f.2, k⟩
  | _ => exact f.elim
noncomputable def setD (o i v : D) (h : Hh) (Q : Hh → Prop) : Prop := match o, i with
  | .ref j, .int k => match h[j]? with
    | some (.lst xs) => match ixN xs.length k with
      | some m => Q (h.set j (.lst (xs.set m v)))
      | none => False
    | _ => False
  | _, _ => False
noncomputable def dSubL (fo fi : DE) : DG := fun v δ h Q => fo δ h fun o h1 => fi δ h1 fun i h2 => setD o i v h2 fun h3 => Q δ h3
theorem set_lift {K : PySem.W.Frag} {π α : List Addr} {H : Hp} {h : Hh} {o i v : D} {ov iv vv : V} {Q' : Hh → Prop} {Q : Hp → Prop} (R : HRel ⟨K, π⟩ α H h) (ro : RelD ⟨K, π⟩ α H o ov) (ri : RelD ⟨K, π⟩ α H i iv) (rv : RelD ⟨K, π⟩ α H v vv) (f : setD o i v h Q')
    (k : ∀ h' H', Q' h' → Ext α H α H' → HRel ⟨K, π⟩ α H' h' → Q H') : rSetL ov iv vv H Q := by
  unfold setD at f
  cases ro with
  | @ref j a hp =>
    cases ri with
    | int n =>
      dsimp only at f
      cases w : h[j]? with
      | none => rw [w] at f; exact f.elim
      | some ob =>
        rw [w] at f
        cases ob with
        | lst xs =>
          dsimp only at f
          obtain ⟨p, us, e1, e2, e3⟩ := R.lst w
          rw [hp] at e1; cases e1
          cases q : ixN xs.length n with
          | none => rw [q] at f; exact f.elim
          | some m =>
            rw [q] at f
            have e4 : Ext α H α (upd H a (.lst (us.set m vv))) := Ext.write (List.mem_of_getElem? hp)
            refine ⟨a, us, n, m, rfl, rfl, e2, by rw [← e3.length]; exact q, k _ _ f e4 (R.write hp (.lst upd_same ((RelDs.set rv m e3).mono e4)))⟩
        | _ => exact f.elim
    | _ => exact f.elim
  | _ => exact f.elim
theorem sg_subL {o i : Expr} {fo fi : DE} (ho : SE X o fo) (hi : SE X i fi)
    (ha : ∀ v, assign (.Subscript o i pos) X.env v = (do
      let ov ← holding [v] (eval o X.env)
      let iv ← holding [v, ov] (eval i X.env)
      standAt pos
      holding [v, ov, iv] (setItem ov iv v)
      release [v, ov, iv] []) := by intro _; rfl) : SG X (.Subscript o i pos) (dSubL fo fi) := PG.imp (pg_sub ho hi set_list ha) fun v σ H Q ⟨π, α, δ, h, d, Q', R, S, r, f, k⟩ => by
  refine ⟨π, α, δ, h, _, R, S, f, fun o h1 α1 H1 v1 f1 e1 R1 q1 => ?_⟩
  refine ⟨π, α1, δ, h1, _, R1, S.mono e1, f1, fun i h2 α2 H2 v2 f2 e2 R2 q2 => ?_⟩
  exact set_lift R2 (q1.mono e2) q2 (r.mono (e1.trans e2)) f2 fun h3 H3 f3 e3 R3 => k δ h3 α2 H3 σ f3 (e1.trans (e2.trans e3)) R3 (S.mono (e1.trans (e2.trans e3)))
end
noncomputable def dNext : DS := fun E δ h => E.nx δ h
noncomputable def dSeq (f g : DS) : DS := fun E δ h => f { E with nx := g E } δ h
noncomputable def dNever : DS := fun _ _ _ => False
noncomputable def dBreak : DS := fun E δ h => E.bk δ h
noncomputable def dCont : DS := fun E δ h => E.ct δ h
noncomputable def dDrop (f : DE) : DS := fun E δ h => f δ h fun _ h1 => E.nx δ h1
noncomputable def dRet (f : DE) : DS := fun E δ h => f δ h E.rt
noncomputable def dRetN : DS := fun E _ h => E.rt .non h
noncomputable def dIfS (t : DT) (f g : DS) : DS := fun E δ h => t δ h fun c h1 => if c = true then f E δ h1 else g E δ h1
noncomputable def dAsg (f : DE) (g : DG) : DS := fun E δ h => f δ h fun x h1 => g x δ h1 E.nx
noncomputable def dAug (i : Nat) (f : DE) (p : P2) : DS := fun E δ h => match δ[i]? with | some (some x) => f δ h fun y h1 => p x y h1 fun z h2 => E.nx (δ.set i (some z)) h2 | _ => False
section
variable {X : Cx} {s : Stmt} {ss : List Stmt} {f g : DS} {e : Expr} {fe : DE} {pos : Pos}
theorem seq_lift {K : PySem.W.Frag} {Ex : XK} {F : Ends} {σ : L2.St} {H : Hp} (w : LS K Ex (dSeq f g) F σ H) : tSeq (LS K Ex f) (LS K Ex g) F σ H := by
  obtain ⟨π, α, δ, h, E, R, S, q, k⟩ := w
  exact ⟨π, α, δ, h, { E with nx := g E }, R, S, q, ⟨fun δ' h' α' H' σ' a b c d => ⟨π, α', δ', h', E, c, d, a, k.mono b⟩, k.rt, k.bk, k.ct, k.ex⟩⟩
theorem ss_nil : SSs X [] dNext := PSs.imp pss_nil fun F σ H ⟨π, α, δ, h, E, R, S, q, k⟩ => k.nx δ h α H σ q (Ext.refl ..) R S
theorem ss_one (h : SS X s f) : SSs X [s] f := pss_one h
theorem ss_cons (h1 : SS X s f) (h2 : SSs X ss g) : SSs X (s :: ss) (dSeq f g) := PSs.imp (pss_cons h1 h2) fun _ _ _ w => seq_lift w
theorem s_expr (he : SE X e fe) (hs : swapsWith e none pos.line X.env = pure false := by rfl) : SS X (.Expr e pos) (dDrop fe) := PS.imp (ps_expr he hs) fun F σ H ⟨π, α, δ, h, E, R, S, q, k⟩ =>
  ⟨π, α, δ, h, _, R, S, q, fun d h1 α1 H1 v1 f1 e1 R1 q1 => k.nx δ h1 α1 H1 σ f1 e1 R1 (S.mono e1)⟩
theorem s_ret (he : SE X e fe) : SS X (.Return (some e) pos) (dRet fe) := PS.imp (ps_ret he) fun F σ H ⟨π, α, δ, h, E, R, S, q, k⟩ => ⟨π, α, δ, h, _, R, S, q, fun d h1 α1 H1 v1 f1 e1 R1 q1 => k.rt d h1 α1 H1 v1 f1 e1 R1 q1⟩
theorem s_if {c : Expr} {a b : List Stmt} {t : DT} (hc : ST X c t) (ha : SSs X a f) (hb : SSs X b g) : SS X (.If c a b pos) (dIfS t f g) := PS.imp (ps_if hc ha hb) fun F σ H ⟨π, α, δ, h, E, R, S, q, k⟩ => by
  refine ⟨π, α, δ, h, _, R, S, q, fun c h1 α1 H1 f1 e1 R1 => ?_⟩
  cases c with
  | true => exact iteT ⟨π, α1, δ, h1, E, R1, S.mono e1, by simpa using f1, k.mono e1⟩
  | false => exact iteF ⟨π, α1, δ, h1, E, R1, S.mono e1, by simpa using f1, k.mono e1⟩
theorem asg_lift {K : PySem.W.Frag} {Ex : XK} {tg : DG} {F : Ends} {σ : L2.St} {H : Hp} (w : LS K Ex (dAsg fe tg) F σ H) : tAsg (LE K fe) (LG K tg) F σ H := by
  obtain ⟨π, α, δ, h, E, R, S, q, k⟩ := w
  refine ⟨π, α, δ, h, _, R, S, q, fun d h1 α1 H1 v1 f1 e1 R1 q1 => ?_⟩
  exact ⟨π, α1, δ, h1, d, E.nx, R1, S.mono e1, q1, f1, fun δ' h' α' H' σ' a b c d' => k.nx δ' h' α' H' σ' a (e1.trans b) c d'⟩
theorem s_asg {tg : Expr} {t : DG} (he : SE X e fe) (hg : SG X tg t) (hs : swapsWithSole [tg] e pos.line X.env = pure false := by rfl) (hw : swappedStores [tg] e X.env = pure none := by rfl)
    (h1 : (assignEach [tg] X.env).map (·.2) = [assign tg X.env] := by rfl) : SS X (.Assign [tg] e pos) (dAsg fe t) := PS.imp (ps_asg he hg hs hw h1) fun _ _ _ w => asg_lift w
theorem asgN_lift {K : PySem.W.Frag} {Ex : XK} {i : Nat} {F : Ends} {σ : L2.St} {H : Hp} (w : LS K Ex (dAsg fe (dName i)) F σ H) : tAsg (LE K fe) (gName i) F σ H := by
  obtain ⟨π, α, δ, h, E, R, S, q, k⟩ := w
  exact ⟨π, α, δ, h, _, R, S, q, fun d h1 α1 H1 v1 f1 e1 R1 q1 => k.nx _ h1 α1 H1 _ f1 e1 R1 ((S.mono e1).set i q1)⟩
theorem s_set {i : Nat} {x : Str} {pos' : Pos} (hN : X.N.Nodup) (hi : X.N[i]? = some x) (hx : Loc X.env.scope x) (he : SE X e fe) (hs : swapsWith e (some (.Name x pos')) pos.line X.env = pure false := by rfl) (hf : X.fn x = true ∨ X.env.scope.names.lookup x = some .local := by trivial) :
    SS X (.Assign [.Name x pos'] e pos) (dAsg fe (dName i)) := PS.imp (ps_set hN hi hx he hs hf) fun _ _ _ w => asgN_lift w
noncomputable def dAugS (fo fi fe : DE) (p : P2) : DS := fun E δ h => fo δ h fun o h1 => fi δ h1 fun i h2 => match o, i with
  | .ref j, .int n => 0 ≤ n ∧ match h2[j]? with
    | some (.lst xs) => match xs[n.toNat]? with
      | some x => fe δ h2 fun y h3 => p x y h3 fun z h4 => setD o i z h4 fun h5 => E.nx δ h5
      | none => False
    | _ => False
  | _, _ => False
end
noncomputable def whN (t : DT) (b : DS) (E : DEnds) : Nat → Sl → Hh → Prop
  | 0, _, _ => False
  | n + 1, δ, h => t δ h fun c h1 => if c = true then b { E with nx := whN t b E n, ct := whN t b E n, bk := E.nx } δ h1 else E.nx δ h1
noncomputable def dWhile (t : DT) (b : DS) : DS := fun E δ h => ∃ n, whN t b E n δ h
theorem s_while {X : Cx} {c : Expr} {body : List Stmt} {t : DT} {b : DS} {pos : Pos} (hp : PassesOwn (model X.prog X.w) X.A X.env X.xe) (hc : ST X c t) (hb : SSs X body b) : SS X (.While c body [] pos) (dWhile t b) := PS.imp (ps_while hp hc hb) fun F σ H ⟨π, α, δ, h, E, R, S, q, k⟩ => by
  obtain ⟨n, q⟩ := q
  refine ⟨fun m σ' H' => ∃ α' δ' h', Ext α H α' H' ∧ HRel ⟨X.K, π⟩ α' H' h' ∧ RelS ⟨X.K, π⟩ α' H' δ' σ' ∧ whN t b E m δ' h', ⟨n, α, δ, h, Ext.refl .., R, S, q⟩, ?_⟩
  rintro m σ' H' ⟨α', δ', h', e', R', S', q'⟩
  cases m with
  | zero => exact q'.elim
  | succ m =>
    refine ⟨π, α', δ', h', _, R', S', q', fun c h1 α1 H1 f1 e1 R1 => ?_⟩
    cases c with
    | false => exact iteF (k.nx δ' h1 α1 H1 σ' (by simpa using f1) (e'.trans e1) R1 (S'.mono e1))
    | true =>
      refine iteT ⟨fun σ2 H2 => ∃ α2 δ2 h2, Ext α H α2 H2 ∧ HRel ⟨X.K, π⟩ α2 H2 h2 ∧ RelS ⟨X.K, π⟩ α2 H2 δ2 σ2 ∧ whN t b E m δ2 h2, fun σ2 H2 z => ⟨m, Nat.lt_succ_self m, z⟩, ?_⟩
      have f1 : b { E with nx := whN t b E m, ct := whN t b E m, bk := E.nx } δ' h1 := by simpa using f1
      have k1 := k.mono (e'.trans e1)
      exact ⟨π, α1, δ', h1, _, R1, S'.mono e1, f1, ⟨fun δ2 h2 α2 H2 σ2 a b c d => ⟨α2, δ2, h2, e'.trans (e1.trans b), c, d, a⟩, k1.rt, k1.nx, fun δ2 h2 α2 H2 σ2 a b c d => ⟨α2, δ2, h2, e'.trans (e1.trans b), c, d, a⟩, k1.ex⟩⟩
structure Src where
  items : List D
  w : List (Nat × O)
noncomputable def Src.ok (S : Src) (h : Hh) : Prop := ∀ p ∈ S.w, h[p.1]? = some p.2
theorem Src.ok_nil {xs : List D} {h : Hh} : (Src.mk xs []).ok h := fun p hp => nomatch hp
noncomputable abbrev DI := Sl → Hh → (Src → Hh → Prop) → Prop
structure ItOk (K : KP) (J : It) (S : Src) (St : List Addr → Hp → Prop) : Prop where
  keep : ∀ α H α' H', St α H → Ext α H α' H' → St α' H'
  priv : ∀ α H H' D, St α H → Priv D H H' → D ∈ K.π → St α H'
  item : ∀ α H h i d, HRel K α H h → St α H → S.ok h → S.items[i]? = some d → J.go i H ∧ ∀ x H', J.yld i H x H' → Ext α H α H' ∧ HRel K α H' h ∧ RelD K α H' d x
  stop : ∀ α H h, HRel K α H h → St α H → S.ok h → J.stop S.items.length H
noncomputable def ItA (K : PySem.W.Frag) (π : List Addr) (α : List Addr) (H : Hp) (J : It) (S : Src) : Prop := ∀ π', (∀ p ∈ π', p ∈ π ∨ H p = none) → ∃ St, ItOk ⟨K, π'⟩ J S St ∧ St α H
inductive LI (K : PySem.W.Frag) (f : DI) (σ : St) (H : Hp) (R : It → Hp → Prop) : Prop
  | mk (π : List Addr) (α : List Addr) (δ : Sl) (h : Hh) (Q' : Src → Hh → Prop) : HRel ⟨K, π⟩ α H h → RelS ⟨K, π⟩ α H δ σ → f δ h Q' → (∀ S h' α' H' J, Q' S h' → Ext α H α' H' → HRel ⟨K, π⟩ α' H' h' → ItA K π α' H' J S → S.ok h' → R J H') → LI K f σ H R
noncomputable def SI (X : Cx) (tg iter : Expr) (f : DI) : Prop := PI X tg iter (LI X.K f)
noncomputable def forL (S : Src) (t : DG) (b : DS) (E : DEnds) : List D → Sl → Hh → Prop
  | [], δ, h => S.ok h ∧ E.nx δ h
  | x :: r, δ, h => S.ok h ∧ t x δ h fun δ2 h2 => b { E with nx := forL S t b E r, ct := forL S t b E r, bk := E.nx } δ2 h2
noncomputable def dFor (s : DI) (t : DG) (b : DS) : DS := fun E δ h => s δ h fun S h1 => forL S t b E S.items δ h1
theorem s_for {X : Cx} {tg iter : Expr} {body : List Stmt} {s : DI} {t : DG} {b : DS} {pos : Pos} (hp : PassesOwn (model X.prog X.w) X.A X.env X.xe) (hc : X.calm = true) (hi : SI X tg iter s) (hg : SG X tg t) (hb : SSs X body b)
    (hs : ∀ x, foldedSetIterable iter X.env x = pure x := by intro _; rfl) : SS X (.For tg iter body [] pos) (dFor s t b) := PS.imp (ps_for hp hc hi hg hb hs) fun F σ H ⟨π, α, δ, h, E, R, S, q, k⟩ => by
  refine ⟨π, α, δ, h, _, R, S, q, fun Sr h1 α1 H1 J f1 e1 R1 ia ok1 => ?_⟩
  obtain ⟨St, io, st1⟩ := ia π (fun p z => .inl z)
  refine ⟨fun i m σ' H' => m = Sr.items.length - i ∧ i ≤ Sr.items.length ∧ ∃ α' δ' h', Ext α H α' H' ∧ HRel ⟨X.K, π⟩ α' H' h' ∧ RelS ⟨X.K, π⟩ α' H' δ' σ' ∧ St α' H' ∧ forL Sr t b E (Sr.items.drop i) δ' h', ⟨_, rfl, Nat.zero_le _, α1, δ, h1, e1, R1, S.mono e1, st1, f1⟩, ?_⟩
  rintro i m σ' H' ⟨rfl, hi, α', δ', h', e', R', S', st', q'⟩
  by_cases hlt : i < Sr.items.length
  · rw [List.drop_eq_getElem_cons hlt] at q'
    obtain ⟨okh, q'⟩ := q'
    obtain ⟨go, yl⟩ := io.item α' H' h' i Sr.items[i] R' st' okh (List.getElem?_eq_getElem hlt)
    refine .inr ⟨go, fun σ2 H2 => ∃ α2 δ2 h2, Ext α H α2 H2 ∧ HRel ⟨X.K, π⟩ α2 H2 h2 ∧ RelS ⟨X.K, π⟩ α2 H2 δ2 σ2 ∧ St α2 H2 ∧ forL Sr t b E (Sr.items.drop (i + 1)) δ2 h2, fun σ2 H2 z => ⟨_, by omega, rfl, hlt, z⟩, fun x H2 y2 => ?_⟩
    obtain ⟨e2, R2, r2⟩ := yl x H2 y2
    refine ⟨π, α', δ', h', Sr.items[i], _, R2, S'.mono e2, r2, q', fun δ3 h3 α3 H3 σ3 f3 e3 R3 S3 => ?_⟩
    have e4 := e'.trans (e2.trans e3)
    have k3 := k.mono e4
    have st3 := io.keep _ _ _ _ st' (e2.trans e3)
    exact ⟨π, α3, δ3, h3, _, R3, S3, f3, ⟨fun δ5 h5 α5 H5 σ5 a b c d => ⟨α5, δ5, h5, e4.trans b, c, d, io.keep _ _ _ _ st3 b, a⟩, k3.rt, k3.nx, fun δ5 h5 α5 H5 σ5 a b c d => ⟨α5, δ5, h5, e4.trans b, c, d, io.keep _ _ _ _ st3 b, a⟩, k3.ex⟩⟩
  · have ei : i = Sr.items.length := by omega
    subst ei
    rw [List.drop_length] at q'
    exact .inl ⟨io.stop α' H' h' R' st' q'.1, k.nx δ' h' α' H' σ' q'.2 e' R' S'⟩
noncomputable def compSl (js : List (Option Nat)) (δ : Sl) : Sl := js.map fun j => match j with
  | some j => (δ[j]?).getD none
  | none => none
noncomputable def compL (S : Src) (t : DG) (tf : DT) (te : DE) : List D → List D → Sl → Hh → (List D → Hh → Prop) → Prop
  | [], acc, _, h, Q => S.ok h ∧ Q acc h
  | x :: r, acc, δ, h, Q => S.ok h ∧ t x δ h fun δ2 h2 => tf δ2 h2 fun b h3 => if b = true then te δ2 h3 fun y h4 => compL S t tf te r (acc ++ [y]) δ2 h4 Q else compL S t tf te r acc δ2 h3 Q
noncomputable def dComp (js : List (Option Nat)) (s : DI) (t : DG) (tf : DT) (te : DE) : DN := fun δ h Q => s δ h fun S h1 => S.items.length ≤ 16777216 ∧ compL S t tf te S.items [] (compSl js δ) h1 Q
noncomputable def dNoIf : DT := fun _ h Q => Q true h
section
variable {X : Cx} {pins : List (Addr × Obj)} {σ : L2.St} {H : Hp} {s : Shared} {N' : List Str} {js : List (Option Nat)} {scope : Scope}
variable {tg iter elt : Expr} {ifs : List Expr} {pos : Pos} {sr : DI} {g : DG} {tf : DT} {te : DE}
end
end DL
namespace DL
open PySem PySem.Spec L2
mutual
inductive IsP (h : Hh) : D → PyData → Prop
  | non : IsP h .non .none
  | bl (b : Bool) : IsP h (.bl b) (.bool b)
  | int (i : Int) : IsP h (.int i) (.int i)
  | str (x : Str) : IsP h (.str x) (.str x)
  | tup {ds : List D} {ps : List PyData} : IsPs h ds ps → IsP h (.tup ds) (.tuple ps)
  | lst {ds : List D} {ps : List PyData} : IsPs h ds ps → IsP h (.lst ds) (.list ps)
  | ref {i : Nat} {ds : List D} {ps : List PyData} : h[i]? = some (.lst ds) → IsPs h ds ps → IsP h (.ref i) (.list ps)
inductive IsPs (h : Hh) : List D → List PyData → Prop
  | nil : IsPs h [] []
  | cons {d : D} {p : PyData} {ds : List D} {ps : List PyData} : IsP h d p → IsPs h ds ps → IsPs h (d :: ds) (p :: ps)
end
section
variable {X : Cx} {pins : List (Addr × Obj)} {σ : L2.St} {H : Hp} {s : Shared} {π α : List Addr} {h : Hh}
theorem IsP.reads (I : Inv X pins σ H s) (R : HRel ⟨X.K, π⟩ α H h) {d : D} {p : PyData} (e : IsP h d p) : ∀ {v : V} {u : Value}, RelD ⟨X.K, π⟩ α H d v → RelV v u → ∃ as, Reads s.heap u p as := by
  refine IsP.rec (motive_1 := fun d p _ => ∀ {v : V} {u : Value}, RelD ⟨X.K, π⟩ α H d v → RelV v u → ∃ as, Reads s.heap u p as) (motive_2 := fun ds ps _ => ∀ {vs : List V} {us : List Value}, RelDs ⟨X.K, π⟩ α H ds vs → Vals vs us → ∃ as, ReadsAll s.heap us ps as) ?_ ?_ ?_ ?_ ?_ ?_ ?_ ?_ ?_ e
  · intro v u q r; cases q; cases r; exact ⟨_, .none⟩
  · intro b v u q r; cases q; cases r; exact ⟨_, .bool b⟩
  · intro i v u q r; cases q; obtain ⟨t, rfl⟩ := r; exact ⟨_, .int i t⟩
  · intro x v u q r; cases q; obtain ⟨t, rfl⟩ := r; exact ⟨_, .str x t⟩
  · intro ds ps _ ih v u q0 r
    cases q0 with
    | tup t rr =>
      cases r
      obtain ⟨its, rv, ⟨o, q, c, n, d⟩, _⟩ := I.tuple t.sq
      obtain ⟨as, ra⟩ := ih rr rv
      exact ⟨_, .tuple q c d (by simpa using ra)⟩
  · intro ds ps _ ih v u q0 r
    cases q0 with
    | lst t rr =>
      cases r
      obtain ⟨its, rv, ⟨o, n, q, c, _, d⟩, _⟩ := I.list t.sq
      obtain ⟨as, ra⟩ := ih rr rv
      exact ⟨_, .list q c d (by simpa using ra)⟩
  · intro i ds ps hh _ ih v u q0 r
    cases q0 with
    | ref hp =>
      cases r
      obtain ⟨a, us, e1, e2, e3⟩ := R.lst hh
      rw [hp] at e1; cases e1
      obtain ⟨its, rv, ⟨o, n, q, c, _, d⟩, _⟩ := I.list (SqL.of (K := X.K) e2)
      obtain ⟨as, ra⟩ := ih e3 rv
      exact ⟨_, .list q c d (by simpa using ra)⟩
  · intro vs us q r; cases q; cases r; exact ⟨_, .nil⟩
  · intro d ds p ps _ _ ih iht vs us q r
    cases q with
    | cons rr rs =>
      cases r with
      | cons r1 r2 =>
        obtain ⟨as, ra⟩ := ih rr r1
        obtain ⟨bs, rb⟩ := iht rs r2
        exact ⟨_, .cons ra rb⟩
end
noncomputable def eqS : D → D → Option Bool
  | .int i, .int j => some (i == j)
  | .str a, .str b => if PyData.strOk a && PyData.strOk b then some (a == b) else none
  | .bl a, .bl b => some (a == b)
  | .non, .non => some true
  | .int _, .str b => if PyData.strOk b then some false else none
  | .str a, .int _ => if PyData.strOk a then some false else none
  | .non, .int _ => some false
  | .int _, .non => some false
  | .non, .tup _ => none
  | _, _ => none
noncomputable def pEq (neg : Bool) : P2 := fun x y h Q => match eqS x y with
  | some b => Q (.bl (if neg then !b else b)) h
  | none => ∃ a b, IsP h x a ∧ IsP h y b ∧ SeqAt.shaped a = true ∧ SeqAt.shaped b = true ∧ Q (.bl (if neg then !PyData.eqv a b else PyData.eqv a b)) h
theorem eqS_ok {h : Hh} {x y : D} {b : Bool} (e : eqS x y = some b) : ∃ p q, IsP h x p ∧ IsP h y q ∧ SeqAt.shaped p = true ∧ SeqAt.shaped q = true ∧ PyData.eqv p q = b := by
  have si : ∀ i : Int, SeqAt.shaped (.int i) = true := fun i => by simp [SeqAt.shaped, PyData.canLay0, PyData.depth]
  have sn : SeqAt.shaped .none = true := by simp [SeqAt.shaped, PyData.canLay0, PyData.depth]
  have sb : ∀ b : Bool, SeqAt.shaped (.bool b) = true := fun i => by simp [SeqAt.shaped, PyData.canLay0, PyData.depth]
  have ss : ∀ x : Str, PyData.strOk x = true → SeqAt.shaped (.str x) = true := fun x hx => by simp [SeqAt.shaped, PyData.canLay0, PyData.depth, hx]
  unfold eqS at e
  split at e
  · cases e; exact ⟨_, _, .int _, .int _, si _, si _, by simp [PyData.eqv]⟩
  · split at e
    · rename_i hh
      rw [Bool.and_eq_true] at hh
      cases e; exact ⟨_, _, .str _, .str _, ss _ hh.1, ss _ hh.2, by simp [PyData.eqv]⟩
    · cases e
  · cases e; exact ⟨_, _, .bl _, .bl _, sb _, sb _, by simp [PyData.eqv]⟩
  · cases e; exact ⟨_, _, .non, .non, sn, sn, by simp [PyData.eqv]⟩
  · split at e
    · rename_i hh
      cases e; exact ⟨_, _, .int _, .str _, si _, ss _ hh, by simp [PyData.eqv]⟩
    · cases e
  · split at e
    · rename_i hh
      cases e; exact ⟨_, _, .str _, .int _, ss _ hh, si _, by simp [PyData.eqv]⟩
    · cases e
  · cases e; exact ⟨_, _, .non, .int _, sn, si _, by simp [PyData.eqv]⟩
  · cases e; exact ⟨_, _, .int _, .non, si _, sn, by simp [PyData.eqv]⟩
  · cases e
  · cases e
section
variable {X : Cx}
theorem pEq_all {neg : Bool} {x y : D} {h : Hh} {Q : DK} (f : pEq neg x y h Q) : ∃ a b, IsP h x a ∧ IsP h y b ∧ SeqAt.shaped a = true ∧ SeqAt.shaped b = true ∧ Q (.bl (if neg then !PyData.eqv a b else PyData.eqv a b)) h := by
  unfold pEq at f
  cases q : eqS x y with
  | none => rw [q] at f; exact f
  | some b =>
    rw [q] at f
    obtain ⟨p, q, a, b', c, d, e⟩ := eqS_ok (h := h) q
    exact ⟨p, q, a, b', c, d, by rw [e]; exact f⟩
theorem ok_eq (hu : X.A.units + 64 < cLine) : OpR X (compareOp .Eq) (r2 X.K (pEq false)) := by
  intro pins s σ H x y v u Q I rx ry ⟨π, α, h, d, e, Q', R, r1, r2, f, k⟩
  obtain ⟨a, b, ia, ib, sa, sb, q⟩ := pEq_all f
  obtain ⟨as, ra⟩ := ia.reads I R r1 rx
  obtain ⟨bs, rb⟩ := ib.reads I R r2 ry
  exact SeqAt.compareEq_shaped ra rb sa sb hu ⟨.bl (PyData.eqv a b), H, I, rfl, k _ h α H _ q (Ext.refl ..) R (.bl _)⟩
theorem ok_ne (hu : X.A.units + 64 < cLine) : OpR X (compareOp .NotEq) (r2 X.K (pEq true)) := by
  intro pins s σ H x y v u Q I rx ry ⟨π, α, h, d, e, Q', R, r1, r2, f, k⟩
  obtain ⟨a, b, ia, ib, sa, sb, q⟩ := pEq_all f
  obtain ⟨as, ra⟩ := ia.reads I R r1 rx
  obtain ⟨bs, rb⟩ := ib.reads I R r2 ry
  exact SeqAt.compareNe_shaped ra rb sa sb hu ⟨.bl (!PyData.eqv a b), H, I, rfl, k _ h α H _ q (Ext.refl ..) R (.bl _)⟩
end
structure SeqIt (K : KP) (Sq : Hp → List V → Prop) (xs : List D) (w : List (Nat × O)) (St : List Addr → Hp → Prop) : Prop where
  keep : ∀ α H α' H', St α H → Ext α H α' H' → St α' H'
  priv : ∀ α H H' D, St α H → Priv D H H' → D ∈ K.π → St α H'
  get : ∀ α H h, HRel K α H h → St α H → (∀ p ∈ w, h[p.1]? = some p.2) → ∃ us, Sq H us ∧ RelDs K α H xs us
noncomputable def SeqA (K : PySem.W.Frag) (π α : List Addr) (H : Hp) (Sq : Hp → List V → Prop) (xs : List D) (w : List (Nat × O)) : Prop := ∀ π', (∀ p ∈ π', p ∈ π ∨ H p = none) → ∃ St, SeqIt ⟨K, π'⟩ Sq xs w St ∧ St α H
noncomputable def seqSrc (h : Hh) : D → Option Src
  | .tup xs => some ⟨xs, []⟩
  | .lst xs => some ⟨xs, []⟩
  | .scr xs => some ⟨xs, []⟩
  | .ref i => match h[i]? with | some (.lst xs) => some ⟨xs, [(i, .lst xs)]⟩ | _ => none
  | _ => none
theorem seqSrc_ok {K : PySem.W.Frag} {π α : List Addr} {H : Hp} {h : Hh} (R : HRel ⟨K, π⟩ α H h) {d : D} {v : V} {S : Src} (r : RelD ⟨K, π⟩ α H d v) (e : seqSrc h d = some S) :
    ∃ a, v = .ref a ∧ S.ok h ∧ (((∃ us, SqL K H a us) ∧ SeqA K π α H (fun H us => SqL K H a us) S.items S.w) ∨ ((∃ us, SqT K H a us) ∧ SeqA K π α H (fun H us => SqT K H a us) S.items S.w)) := by
  cases r with
  | @tup a us ds t rs =>
    cases e
    exact ⟨a, rfl, Src.ok_nil, .inr ⟨⟨us, t.sq⟩, fun π' s => ⟨fun α H => VT ⟨K, π'⟩ α H a us ∧ RelDs ⟨K, π'⟩ α H ds us, ⟨fun α H α' H' st e => ⟨st.1.mono e, st.2.mono e⟩, fun α H H' D st e hD => ⟨st.1.priv e hD, st.2.priv e hD⟩, fun α H h R st _ => ⟨us, st.1.sq, st.2⟩⟩, t.more s, rs.more s⟩⟩⟩
  | @lst a us ds t rs =>
    cases e
    exact ⟨a, rfl, Src.ok_nil, .inl ⟨⟨us, t.sq⟩, fun π' s => ⟨fun α H => VL ⟨K, π'⟩ α H a us ∧ RelDs ⟨K, π'⟩ α H ds us, ⟨fun α H α' H' st e => ⟨st.1.mono e, st.2.mono e⟩, fun α H H' D st e hD => ⟨st.1.priv e hD, st.2.priv e hD⟩, fun α H h R st _ => ⟨us, st.1.sq, st.2⟩⟩, t.more s, rs.more s⟩⟩⟩
  | @scr a us ds t rs =>
    cases e
    exact ⟨a, rfl, Src.ok_nil, .inl ⟨⟨us, t.sq⟩, fun π' s => ⟨fun α H => VS ⟨K, π'⟩ α H a us ∧ RelDs ⟨K, π'⟩ α H ds us, ⟨fun α H α' H' st e => ⟨st.1.mono e, st.2.mono e⟩, fun α H H' D st e hD => ⟨st.1.priv e hD, st.2.priv e hD⟩, fun α H h R st _ => ⟨us, st.1.sq, st.2⟩⟩, t.more s, rs.more s⟩⟩⟩
  | @ref i a hp =>
    have e : (match h[i]? with | some (.lst xs) => some (Src.mk xs [(i, .lst xs)]) | _ => none) = some S := e
    cases q : h[i]? with
    | none => rw [q] at e; cases e
    | some o =>
      rw [q] at e
      cases o with
      | lst xs =>
        cases e
        obtain ⟨p, us, e1, e2, e3⟩ := R.lst q
        rw [hp] at e1; cases e1
        refine ⟨a, rfl, fun z hz => by rw [List.mem_singleton.mp hz]; exact q, .inl ⟨⟨us, SqL.of e2⟩, fun π' s => ⟨fun α H => α[i]? = some a, ⟨fun α H α' H' st e => e.get st, fun α H H' D st e hD => st, fun α H h R st w => ?_⟩, hp⟩⟩⟩
        obtain ⟨p, us, e1, e2, e3⟩ := R.lst (w (i, .lst xs) (List.mem_singleton.mpr rfl))
        rw [st] at e1; cases e1
        exact ⟨us, SqL.of e2, e3⟩
      | _ => cases e
  | _ => cases e
theorem it_list {K : PySem.W.Frag} {π α : List Addr} {H : Hp} {a : Addr} {S : Src} (s : SeqA K π α H (fun H us => SqL K H a us) S.items S.w) : ItA K π α H (Itl K a) S := fun π' sub => by
  obtain ⟨St, si, st⟩ := s π' sub
  refine ⟨St, ⟨si.keep, si.priv, fun α H h i d R st ok hi => ?_, fun α H h R st ok => ?_⟩, st⟩
  · obtain ⟨us, hq, rs⟩ := si.get α H h R st ok
    obtain ⟨u, hu, ru⟩ := rs.get hi
    refine ⟨⟨us, u, hq, hu⟩, fun x H' ⟨e1, e2⟩ => ?_⟩
    subst e1
    have := (e2 us hq).symm.trans hu
    cases this
    exact ⟨Ext.refl .., R, ru⟩
  · obtain ⟨us, hq, rs⟩ := si.get α H h R st ok
    exact ⟨us, hq, by rw [← rs.length]; exact Nat.le_refl _⟩
theorem it_tup {K : PySem.W.Frag} {π α : List Addr} {H : Hp} {a : Addr} {S : Src} (s : SeqA K π α H (fun H us => SqT K H a us) S.items S.w) : ItA K π α H (Itt K a) S := fun π' sub => by
  obtain ⟨St, si, st⟩ := s π' sub
  refine ⟨St, ⟨si.keep, si.priv, fun α H h i d R st ok hi => ?_, fun α H h R st ok => ?_⟩, st⟩
  · obtain ⟨us, hq, rs⟩ := si.get α H h R st ok
    obtain ⟨u, hu, ru⟩ := rs.get hi
    refine ⟨⟨us, u, hq, hu⟩, fun x H' ⟨e1, e2⟩ => ?_⟩
    subst e1
    have := (e2 us hq).symm.trans hu
    cases this
    exact ⟨Ext.refl .., R, ru⟩
  · obtain ⟨us, hq, rs⟩ := si.get α H h R st ok
    exact ⟨us, hq, by rw [← rs.length]; exact Nat.le_refl _⟩
noncomputable def enumD : Int → List D → List D
  | _, [] => []
  | n, x :: r => .tup [.int n, x] :: enumD (n + 1) r
theorem enumD_get : ∀ (n : Int) (xs : List D) (i : Nat), (enumD n xs)[i]? = (xs[i]?).map fun x => .tup [.int (n + i), x]
  | n, [], i => by simp [enumD]
  | n, x :: r, 0 => by simp [enumD]
  | n, x :: r, i + 1 => by
    have := enumD_get (n + 1) r i
    simp only [enumD, List.getElem?_cons_succ, this]
    congr 1; funext y; congr 3; push_cast; omega
theorem enumD_length : ∀ (n : Int) (xs : List D), (enumD n xs).length = xs.length
  | _, [] => rfl
  | n, x :: r => by simp [enumD, enumD_length (n + 1) r]
theorem it_enum {K : PySem.W.Frag} {π α : List Addr} {H : Hp} {Sq : Hp → List V → Prop} {S : Src} (s : SeqA K π α H Sq S.items S.w) : ItA K π α H (Ite Sq) ⟨enumD 0 S.items, S.w⟩ := fun π' sub => by
  obtain ⟨St, si, st⟩ := s π' sub
  refine ⟨St, ⟨si.keep, si.priv, fun α H h i d R st ok hi => ?_, fun α H h R st ok => ?_⟩, st⟩
  · rw [enumD_get] at hi
    cases q : S.items[i]? with
    | none => rw [q] at hi; cases hi
    | some y =>
      rw [q] at hi
      cases hi
      obtain ⟨us, hq, rs⟩ := si.get α H h R st ok
      obtain ⟨u, hu, ru⟩ := rs.get q
      refine ⟨⟨us, u, hq, hu⟩, fun x H' ⟨T, v, e0, hT, e1, e2⟩ => ?_⟩
      subst e0 e1
      have := (e2 us hq).symm.trans hu
      obtain rfl := Option.some.inj this
      have e3 : Ext α H α (upd H T (.tup [.int (i : Nat), v])) := Ext.new hT
      refine ⟨e3, R.new hT, .tup ⟨R.out hT, R.outP hT, upd_same⟩ (.cons ?_ (.cons (ru.mono e3) .nil))⟩
      rw [Int.zero_add]; exact .int _
  · obtain ⟨us, hq, rs⟩ := si.get α H h R st ok
    exact ⟨us, hq, by rw [enumD_length, rs.length]⟩
noncomputable def rangeD (lo : Int) : Nat → List D
  | 0 => []
  | n + 1 => .int lo :: rangeD (lo + 1) n
theorem rangeD_get : ∀ (lo : Int) (n i : Nat), (rangeD lo n)[i]? = if i < n then some (.int (lo + i)) else none
  | lo, 0, i => by simp [rangeD]
  | lo, n + 1, 0 => by simp [rangeD]
  | lo, n + 1, i + 1 => by
    have := rangeD_get (lo + 1) n i
    simp only [rangeD, List.getElem?_cons_succ, this, Nat.add_lt_add_iff_right]
    have e : lo + 1 + (i : Int) = lo + ((i + 1 : Nat) : Int) := by push_cast; omega
    rw [e]
theorem rangeD_length : ∀ (lo : Int) (n : Nat), (rangeD lo n).length = n
  | _, 0 => rfl
  | lo, n + 1 => by simp [rangeD, rangeD_length (lo + 1) n]
theorem it_range {K : PySem.W.Frag} {π α : List Addr} {H : Hp} {lo : Int} {n : Nat} : ItA K π α H (Itr lo n) ⟨rangeD lo n, []⟩ := fun π' sub => by
  refine ⟨fun _ _ => True, ⟨fun _ _ _ _ _ _ => trivial, fun _ _ _ _ _ _ _ => trivial, fun α H h i d R st ok hi => ?_, fun α H h R st ok => ?_⟩, trivial⟩
  · have hi : (rangeD lo n)[i]? = some d := hi
    rw [rangeD_get] at hi
    split at hi
    · rename_i hlt
      cases hi
      exact ⟨hlt, fun x H' ⟨e1, e2⟩ => by subst e1 e2; exact ⟨Ext.refl .., R, .int _⟩⟩
    · cases hi
  · show n ≤ (rangeD lo n).length
    rw [rangeD_length]; exact Nat.le_refl _
noncomputable def dISeq (f : DE) : DI := fun δ h Q => f δ h fun d h1 => match seqSrc h1 d with | some S => Q S h1 | none => False
noncomputable def dIEnum (f : DA) : DI := fun δ h Q => f δ h fun ds h1 => match ds with | [d] => (match seqSrc h1 d with | some S => Q ⟨enumD 0 S.items, S.w⟩ h1 | none => False) | _ => False
noncomputable def dIRange (f : DA) : DI := fun δ h Q => f δ h fun ds h1 => match ds with
  | [.int j] => (-(2 ^ 62) ≤ j ∧ j < 2 ^ 62) ∧ Q ⟨rangeD 0 j.toNat, []⟩ h1
  | [.int i, .int j] => (-(2 ^ 62) ≤ i ∧ i < 2 ^ 62 ∧ -(2 ^ 62) ≤ j ∧ j < 2 ^ 62) ∧ Q ⟨rangeD i (j - i).toNat, []⟩ h1
  | _ => False
section
variable {X : Cx} {tg : Expr}
theorem PI.imp {e : Expr} {t t' : TI} (h : PI X tg e t) (k : ∀ σ H Q, t' σ H Q → t σ H Q) : PI X tg e t' := fun pins s σ H Q I q => h pins s σ H Q I (k σ H Q q)
noncomputable def iSeq (K : PySem.W.Frag) (tl : TE) : TI := fun σ H R => tl σ H fun x H1 => ∃ a, x = .ref a ∧ (((∃ xs, SqL K H1 a xs) ∧ R (Itl K a) H1) ∨ ((∃ xs, SqT K H1 a xs) ∧ R (Itt K a) H1))
theorem pi_seq {l : Expr} {tl : TE} (hl : PE X l tl) : PI X tg l (iSeq X.K tl) := by
  intro pins s σ H R I h
  refine thn (hl pins s σ H _ I h) fun v s1 ⟨x, H1, I1, r1, q1⟩ => ?_
  obtain ⟨a, e, ⟨⟨xs, hq⟩, q⟩ | ⟨⟨xs, hq⟩, q⟩⟩ := q1
  · subst e
    cases r1
    obtain ⟨its, rv, p, hz⟩ := I1.list hq
    refine wpAny_pyIter_list p.isList ?_
    refine ⟨s1.heap.objs.size, [s1.heap.objs.size], _, _, H1, rfl, I1.kept (t' := s1.toks) fun b o e => Heap.get?_push_of_some _ e, turn_list a _, ⟨_, Heap.get?_push_size _ rfl, rfl, rfl⟩, fun b hb => ?_, q⟩
    have e : b = s1.heap.objs.size := by simpa using hb
    subst e
    exact I1.fpOk (Nat.le_refl _) (I1.hok.fresh (Nat.le_refl _))
  · subst e
    cases r1
    obtain ⟨its, rv, p, hz⟩ := I1.tuple hq
    refine wpAny_pyIter_tuple (show s1.heap.IsTuple a its.toArray from p) ?_
    refine ⟨s1.heap.objs.size, [s1.heap.objs.size], _, _, H1, rfl, I1.kept (t' := s1.toks) fun b o e => Heap.get?_push_of_some _ e, turn_tuple a _, ⟨_, Heap.get?_push_size _ rfl, rfl, rfl⟩, fun b hb => ?_, q⟩
    have e : b = s1.heap.objs.size := by simpa using hb
    subst e
    exact I1.fpOk (Nat.le_refl _) (I1.hok.fresh (Nat.le_refl _))
theorem si_seq {l : Expr} {f : DE} (hl : SE X l f) : SI X tg l (dISeq f) := PI.imp (pi_seq hl) fun σ H Q ⟨π, α, δ, h, Q', R, S, f, k⟩ => by
  refine ⟨π, α, δ, h, _, R, S, f, fun d h1 α1 H1 v1 f1 e1 R1 q1 => ?_⟩
  cases q : seqSrc h1 d with
  | none => rw [q] at f1; exact f1.elim
  | some Sr =>
    rw [q] at f1
    obtain ⟨a, rfl, ok, ⟨hu, sa⟩ | ⟨hu, sa⟩⟩ := seqSrc_ok R1 q1 q
    · exact ⟨a, rfl, .inl ⟨hu, k Sr h1 α1 H1 _ f1 e1 R1 (it_list sa) ok⟩⟩
    · exact ⟨a, rfl, .inr ⟨hu, k Sr h1 α1 H1 _ f1 e1 R1 (it_tup sa) ok⟩⟩
noncomputable def iEnumS (K : PySem.W.Frag) (ta : TA) : TI := fun σ H R => ta σ H fun vs H1 => ∃ a, vs = [.ref a] ∧ (((∃ xs, SqL K H1 a xs) ∧ R (Ite fun H xs => SqL K H a xs) H1) ∨ ((∃ xs, SqT K H1 a xs) ∧ R (Ite fun H xs => SqT K H a xs) H1))
theorem pi_enumS {a : Expr} {ta : TA} {p pos : Pos} (hg : Gl X "enumerate") (hm : X.mg "enumerate" = none) (ha : PA X [a] ta) (htg : ∃ es x1 pos, tg = .Tuple es x1 pos := by exact ⟨_, _, _, rfl⟩) (hs : starEach [a] X.env = [(false, eval a X.env)] := by rfl) : PI X tg (.Call (.Name "enumerate" p) [a] [] pos) (iEnumS X.K ta) := by
  intro pins s σ H R I h
  refine PyProof.Rows.Call_ (ld_blt I hg hm PyProof.Rows.boot_enumerate (PyProof.Rows.callWith_type1 (thn (ha pos pins s σ H _ I h) fun us s1 ⟨vs, H1, I1, r1, q1⟩ => ?_) hs rfl))
  obtain ⟨a, e, ⟨⟨xs, hq⟩, q⟩ | ⟨⟨xs, hq⟩, q⟩⟩ := q1
  · subst e
    obtain ⟨u, rfl, ru⟩ := vals1 r1
    cases ru
    obtain ⟨its, rv, p, hz⟩ := I1.list hq
    exact call_enumerate_list p.isList fun h' he hit _ hk => enum_fin htg I1 (src_list a _) he hit hk q
  · subst e
    obtain ⟨u, rfl, ru⟩ := vals1 r1
    cases ru
    obtain ⟨its, rv, p, hz⟩ := I1.tuple hq
    exact call_enumerate_tuple (show s1.heap.IsTuple a its.toArray from p) fun h' he hit _ hk => enum_fin htg I1 (src_tup a _) he hit hk q
theorem si_enum {a : Expr} {n : Nat} {fs : DA} {p pos : Pos} (hg : Gl X "enumerate") (hm : X.mg "enumerate" = none) (ha : SA X [a] n fs) (htg : ∃ es x1 pos, tg = .Tuple es x1 pos := by exact ⟨_, _, _, rfl⟩) (hs : starEach [a] X.env = [(false, eval a X.env)] := by rfl) : SI X tg (.Call (.Name "enumerate" p) [a] [] pos) (dIEnum fs) := PI.imp (pi_enumS hg hm ha htg hs) fun σ H Q ⟨π, α, δ, h, Q', R, S, f, k⟩ => by
  refine ⟨π, α, δ, h, _, R, S, f, fun ds h1 α1 H1 vs f1 e1 R1 q1 l1 => ?_⟩
  split at f1
  · rename_i d
    obtain ⟨v, rfl, q3⟩ := q1.inv1
    cases q : seqSrc h1 d with
    | none => rw [q] at f1; exact f1.elim
    | some Sr =>
      rw [q] at f1
      obtain ⟨a, rfl, ok, ⟨hu, sa⟩ | ⟨hu, sa⟩⟩ := seqSrc_ok R1 q3 q
      · exact ⟨a, rfl, .inl ⟨hu, k ⟨enumD 0 Sr.items, Sr.w⟩ h1 α1 H1 _ f1 e1 R1 (it_enum sa) ok⟩⟩
      · exact ⟨a, rfl, .inr ⟨hu, k ⟨enumD 0 Sr.items, Sr.w⟩ h1 α1 H1 _ f1 e1 R1 (it_enum sa) ok⟩⟩
  · exact f1.elim
theorem si_range1 {a : Expr} {n : Nat} {fs : DA} {p pos : Pos} (hg : Gl X "range") (hm : X.mg "range" = none) (ha : SA X [a] n fs) (hs : starEach [a] X.env = [(false, eval a X.env)] := by rfl) (hn : n = 1 := by rfl) : SI X tg (.Call (.Name "range" p) [a] [] pos) (dIRange fs) := PI.imp (pi_range1 hg hm ha hs) fun σ H Q ⟨π, α, δ, h, Q', R, S, f, k⟩ => by
  refine ⟨π, α, δ, h, _, R, S, f, fun ds h1 α1 H1 vs f1 e1 R1 q1 l1 => ?_⟩
  split at f1
  · obtain ⟨v, rfl, q3⟩ := q1.inv1
    cases q3 with
    | int => exact ⟨_, rfl, f1.1.1, f1.1.2, k _ h1 α1 H1 _ f1.2 e1 R1 it_range Src.ok_nil⟩
  · subst hn; cases l1
  · exact f1.elim
end
end DL
namespace DL
open PySem PySem.Spec L2
noncomputable def dCB (p : PN) (f : DA) : DE := fun δ h Q => f δ h fun ds h1 => p ds h1 Q
theorem cb_lift {K : PySem.W.Frag} {p : PN} {n : Nat} {f : DA} {σ : L2.St} {H : Hp} {Q : VK} (g : LE K (dCB p f) σ H Q) : LA K n f σ H fun vs H1 => rN K p vs H1 Q := by
  obtain ⟨π, α, δ, h, Q', R, S, f, k⟩ := g
  exact ⟨π, α, δ, h, _, R, S, f, fun ds h1 α1 H1 vs f1 e1 R1 q1 l1 => ⟨π, α1, h1, ds, Q', R1, q1, f1, fun d h' α' H' v a b c d' => k d h' α' H' v a (e1.trans b) c d'⟩⟩
section
variable {X : Cx} {x : Str} {p pos : Pos} {e : Expr} {es : List Expr} {n : Nat} {f : DA} {id T : String} {r : PN}
theorem se_callB (hc : CallR X (.builtin id) (rN X.K r)) (hg : Gl X x) (hm : X.mg x = none) (hv : bootBuiltins x = some (.builtin id)) (ha : SA X (e :: es) n f) (hn : x ≠ "__name__" := by decide) (hdb : (x == ("__debug__" : Str)) = false := by decide)
    (he : starEach (e :: es) X.env = (false, eval e X.env) :: starEach es X.env := by rfl) (hpl : (backTo pos (starEach es X.env)).any (·.1) = false := by rfl) : SE X (.Call (.Name x p) (e :: es) [] pos) (dCB r f) :=
  PE.imp (pe_callB hc hg hm hv ha hn hdb he hpl) fun _ _ _ g => cb_lift g
theorem se_callTy (hc : CallR X (.type T) (rN X.K r)) (hg : Gl X x) (hm : X.mg x = none) (hv : bootBuiltins x = some (.type T)) (ha : SA X (e :: es) n f) (hn : x ≠ "__name__" := by decide) (hdb : (x == ("__debug__" : Str)) = false := by decide)
    (he : starEach (e :: es) X.env = (false, eval e X.env) :: starEach es X.env := by rfl) (hpl : (backTo pos (starEach es X.env)).any (·.1) = false := by rfl) : SE X (.Call (.Name x p) (e :: es) [] pos) (dCB r f) :=
  PE.imp (pe_callTy hc hg hm hv ha hn hdb he hpl) fun _ _ _ g => cb_lift g
noncomputable def lenD (h : Hh) : D → Option Nat
  | .str x => if x.length ≤ 16777216 then some x.length else none
  | d => (seqOf h d).map List.length
noncomputable def pLen : PN := fun ds h Q => match ds with | [d] => (match lenD h d with | some n => Q (.int n) h | none => False) | _ => False
theorem ok_len : CallR X (.builtin "len") (rN X.K pLen) := CallR.imp call_len fun xs H Q ⟨π, α, h, ds, Q', R, rs, f, k⟩ => by
  unfold pLen at f
  split at f
  · rename_i d
    obtain ⟨v, rfl, rd⟩ := rs.inv1
    cases q : lenD h d with
    | none => rw [q] at f; exact f.elim
    | some n =>
      rw [q] at f
      refine ⟨v, n, rfl, ?_, k _ h α H _ f (Ext.refl ..) R (.int _)⟩
      by_cases z : ∃ x, d = .str x
      · obtain ⟨x, rfl⟩ := z
        cases rd
        have q : (if x.length ≤ 16777216 then some x.length else none) = some n := q
        split at q
        · rename_i hl
          cases q
          exact ⟨by rw [sizeLine_eq]; exact hl, rfl⟩
        · cases q
      · have q' : (seqOf h d).map List.length = some n := by
          cases d with
          | str x => exact absurd ⟨x, rfl⟩ z
          | _ => exact q
        cases w : seqOf h d with
        | none => rw [w] at q'; cases q'
        | some ys =>
          rw [w] at q'
          cases q'
          obtain ⟨p, us, rfl, b, c⟩ := seqOf_sq R rd w
          rcases b with b | b
          · exact .inl ⟨us, b, c.length⟩
          · exact .inr ⟨us, b, c.length⟩
  · exact f.elim
noncomputable def pTuple : PN := fun ds h Q => match ds with | [d] => (match seqOf h d with | some xs => Q (.tup xs) h | none => False) | _ => False
noncomputable def dListOf (f : DA) : DN := fun δ h Q => f δ h fun ds h1 => match ds with | [d] => (match seqOf h1 d with | some xs => Q xs h1 | none => False) | _ => False
noncomputable def pInt : PN := fun ds h Q => match ds with | [.int i] => Q (.int i) h | [.bl b] => Q (.int (if b then 1 else 0)) h | _ => False
noncomputable def pMin : PN := fun ds h Q => match ds with | [.int i, .int j] => Q (.int (if j < i then j else i)) h | _ => False
noncomputable def pMax : PN := fun ds h Q => match ds with | [.int i, .int j] => Q (.int (if j > i then j else i)) h | _ => False
noncomputable def pAbs : PN := fun ds h Q => match ds with | [.int i] => Q (.int (if i < 0 then -i else i)) h | _ => False
end
section
variable {X : Cx} {o e : Expr} {fo fe : DE} {fs : DA} {n : Nat} {apos cpos : Pos}
noncomputable def dBits (fo : DE) : DE := fun δ h Q => fo δ h fun d h1 => match d with | .int i => Q (.int (Builtin.Int.intBits i : Nat)) h1 | _ => False
noncomputable def dAppend (fo : DE) (fs : DA) : DE := fun δ h Q => fo δ h fun d h1 => match d with
  | .ref i => (match h1[i]? with
    | some (.lst _) => fs δ h1 fun ds h2 => (match ds, h2[i]? with
      | [v], some (.lst ys) => ys.length < 16777216 ∧ Q .non (h2.set i (.lst (ys ++ [v])))
      | _, _ => False)
    | _ => False)
  | _ => False
theorem refL {K : PySem.W.Frag} {π α : List Addr} {H : Hp} {h : Hh} (R : HRel ⟨K, π⟩ α H h) {i : Nat} {a : Addr} {xs : List D} (hp : α[i]? = some a) (w : h[i]? = some (.lst xs)) : ∃ us, H a = some (.lst us) ∧ RelDs ⟨K, π⟩ α H xs us := by
  obtain ⟨p, us, e1, e2, e3⟩ := R.lst w
  rw [hp] at e1; cases e1
  exact ⟨us, e2, e3⟩
theorem se_append (ho : SE X o fo) (ha : SA X [e] n fs) (hbase : attributeBase o "append" X.env (eval o X.env) = eval o X.env := by rfl)
    (hfew : ((backTo cpos (starEach [e] X.env)).all (fun x => !x.1) && (backToKw cpos (keywordEach [] X.env)).all (fun x => x.1.isSome)
      && decide ([e].length + ([] : List Keyword).length + (if ([] : List Keyword).isEmpty then 0 else 1) < 30)) = true := by rfl)
    (hline : (apos.endLine == cpos.line) = true := by rfl) (hs : starEach [e] X.env = (false, eval e X.env) :: starEach [] X.env := by rfl) (hplain : (backTo cpos (starEach [] X.env)).any (·.1) = false := by rfl) :
    SE X (.Call (.Attribute o "append" apos) [e] [] cpos) (dAppend fo fs) :=
  PE.imp (pe_bm PySem.F.plainAttrs_list PySem.F.slot_list_append PySem.F.type_list_append mt_append ho ha hbase hfew hline hs hplain) fun σ H Q ⟨π, α, δ, h, Q', R, S, f, k⟩ => by
    refine ⟨π, α, δ, h, _, R, S, f, fun d h1 α1 H1 v1 f1 e1 R1 q1 => ?_⟩
    cases q1 with
    | @ref i a hp =>
      dsimp only at f1
      cases w : h1[i]? with
      | none => rw [w] at f1; exact f1.elim
      | some ob =>
        rw [w] at f1
        cases ob with
        | lst xs =>
          obtain ⟨us, e2, e3⟩ := refL R1 hp w
          refine ⟨.inl ⟨rfl, us, SqL.of e2⟩, π, α1, δ, h1, _, R1, S.mono e1, f1, fun ds h2 α2 H2 vs f2 e2 R2 q2 l2 => ?_⟩
          split at f2
          · rename_i v ys w2
            obtain ⟨u, rfl, q9⟩ := q2.inv1
            have hp2 := e2.get hp
            obtain ⟨us2, g2, g3⟩ := refL R2 hp2 w2
            have e4 : Ext α2 H2 α2 (upd H2 a (.lst (us2 ++ [u]))) := Ext.write (List.mem_of_getElem? hp2)
            exact ⟨a, us2, u, rfl, rfl, g2, by rw [← g3.length, sizeLine_eq]; exact f2.1, k _ _ α2 _ _ f2.2 (e1.trans (e2.trans e4)) (R2.write hp2 (.lst upd_same ((g3.snoc q9).mono e4))) .non⟩
          · exact f2.elim
        | _ => exact f1.elim
    | _ => exact f1.elim
noncomputable def dPop (fo : DE) : DE := fun δ h Q => fo δ h fun d h1 => match d with
  | .ref i => (match h1[i]? with
    | some (.lst xs) => (match xs[xs.length - 1]? with | some y => Q y (h1.set i (.lst xs.dropLast)) | none => False)
    | _ => False)
  | _ => False
theorem se_pop (ho : SE X o fo) (hbase : attributeBase o "pop" X.env (eval o X.env) = eval o X.env := by rfl) (hline : (apos.endLine == cpos.line) = true := by rfl) : SE X (.Call (.Attribute o "pop" apos) [] [] cpos) (dPop fo) :=
  PE.imp (pe_bm0 PySem.F.plainAttrs_list PySem.F.slot_list_pop PySem.F.type_list_pop mt_pop ho hbase hline) fun σ H Q ⟨π, α, δ, h, Q', R, S, f, k⟩ => by
    refine ⟨π, α, δ, h, _, R, S, f, fun d h1 α1 H1 v1 f1 e1 R1 q1 => ?_⟩
    cases q1 with
    | @ref i a hp =>
      dsimp only at f1
      cases w : h1[i]? with
      | none => rw [w] at f1; exact f1.elim
      | some ob =>
        rw [w] at f1
        cases ob with
        | lst xs =>
          dsimp only at f1
          obtain ⟨us, e2, e3⟩ := refL R1 hp w
          cases y : xs[xs.length - 1]? with
          | none => rw [y] at f1; exact f1.elim
          | some z =>
            rw [y] at f1
            obtain ⟨u, g1, g2⟩ := e3.get y
            have e4 : Ext α1 H1 α1 (upd H1 a (.lst us.dropLast)) := Ext.write (List.mem_of_getElem? hp)
            exact ⟨.inl ⟨rfl, us, SqL.of e2⟩, a, us, u, rfl, rfl, e2, by rw [← e3.length]; exact g1, k _ _ α1 _ _ f1 (e1.trans e4) (R1.write hp (.lst upd_same (e3.dropLast.mono e4))) (g2.mono e4)⟩
        | _ => exact f1.elim
    | _ => exact f1.elim
noncomputable def dClear (fo : DE) : DE := fun δ h Q => fo δ h fun d h1 => match d with
  | .ref i => (match h1[i]? with | some (.lst _) => Q .non (h1.set i (.lst [])) | _ => False)
  | _ => False
end
noncomputable abbrev DSp := List D → Hh → DK → Prop
inductive spD (K : PySem.W.Frag) (n : Nat) (g : DSp) (vs : List V) (H : Hp) (Q : VK) (X9 : XK) : Prop
  | mk (π : List Addr) (α : List Addr) (h : Hh) (ds : List D) (Q' : DK) : HRel ⟨K, π⟩ α H h → RelDs ⟨K, π⟩ α H ds vs → ds.length = n → g ds h Q' → (∀ d h' α' H' v, Q' d h' → Ext α H α' H' → HRel ⟨K, π⟩ α' H' h' → RelD ⟨K, π⟩ α' H' d v → Q v H') → spD K n g vs H Q X9
noncomputable def dCal (g : DSp) (f : DA) : DE := fun δ h Q => f δ h fun ds h1 => g ds h1 Q
section
variable {X : Cx} {k m : Nat} {ps : List Str} {g : DSp} {x : Str} {p pos : Pos} {e : Expr} {es : List Expr} {n : Nat} {f : DA}
theorem se_cal (c : Cal X.prog X.w X.K X.mg X.base k x ps (spD X.K m g)) (hr : Room k X.A) (hg : Gl X x) (ha : SA X (e :: es) n f) (hn : n = m := by rfl) (hdb : (x == ("__debug__" : Str)) = false := by decide)
    (he : starEach (e :: es) X.env = (false, eval e X.env) :: starEach es X.env := by rfl) (hpl : (backTo pos (starEach es X.env)).any (·.1) = false := by rfl) : SE X (.Call (.Name x p) (e :: es) [] pos) (dCal g f) :=
  PE.imp (pe_cal c hr hg ha hdb he hpl) fun σ H Q ⟨π, α, δ, h, Q', R, S, f, k⟩ => by
    refine ⟨π, α, δ, h, _, R, S, f, fun ds h1 α1 H1 vs f1 e1 R1 q1 l1 => ?_⟩
    show spD X.K m g (vs ++ []) H1 Q E0
    rw [List.append_nil]
    exact ⟨π, α1, h1, ds, Q', R1, q1, l1.trans hn, f1, fun d h' α' H' v a b c d' => k d h' α' H' v a (e1.trans b) c d'⟩
end
noncomputable def runD (n : Nat) (b : DS) : DSp := fun ds h Q => b { nx := fun _ h' => Q .non h', rt := Q } (ds.map some ++ List.replicate (n - ds.length) none) h
theorem relS_start {K : KP} {α : List Addr} {H : Hp} {ds : List D} {vs : List V} {N : List Str} (r : RelDs K α H ds vs) : RelS K α H (ds.map some ++ List.replicate (N.length - ds.length) none) (L2.start N vs) := by
  refine ⟨by unfold L2.start; simp [r.length], fun i d e => ?_⟩
  by_cases hi : i < ds.length
  · rw [List.getElem?_append_left (by simpa using hi), List.getElem?_map] at e
    cases q : ds[i]? with
    | none => rw [q] at e; cases e
    | some z =>
      rw [q] at e
      cases e
      obtain ⟨u, h1, h2⟩ := r.get q
      refine ⟨u, ?_, h2⟩
      unfold L2.start
      rw [List.getElem?_append_left (by rw [List.length_map, ← r.length]; exact hi), List.getElem?_map, h1]; rfl
  · rw [List.getElem?_append_right (by simpa using hi), List.getElem?_replicate] at e
    split at e <;> cases e
section
variable {P : Program} {w : World} {K : PySem.W.Frag} {mg : Str → Option Value} {base : Heap}
theorem fn_ok {x qual : Str} {st : Stmt} {f : Addr} {fd : FuncData} {N ps : List Str} {k : Nat} {b : DS} {g : DSp} (F : Fun K x qual st f fd) (S : FnScope N ps (defScope st))
    (hb : ∀ (cdv : Value) (A : Around) (outer : List Env) (s : Shared) (H : Hp) (E : XK), Room k (A.deeper (PyProof.Rows.envOfC qual (defScope st) s.heap.objs.size f cdv)) → SSs (cxOf CX0 P w K mg base N qual (defScope st) f cdv A outer s H E).nox (defBody st) b)
    (hg : ∀ ds h Q, g ds h Q → runD N.length b ds h Q) : FnOk P w K mg base CX0 (k + 1) f fd ps (spD K ps.length g) := by
  refine F.ok S (fun vs H Q E h => ?_) fun cdv A outer s H vs Q E hr h => ?_
  · obtain ⟨π, α, h, ds, Q', R, r, l, _⟩ := h
    rw [← r.length, l]
  · obtain ⟨π, α, h, ds, Q', R, r, l, q, kk⟩ := h
    refine ⟨_, hb cdv A outer s H E hr, π, α, _, h, { nx := fun _ h' => Q' .non h', rt := Q' }, R, relS_start r, hg ds h Q' q, ⟨fun _ h' α' H' σ' a b c _ => kk .non h' α' H' .non a b c .non, fun d h' α' H' v a b c d' => kk d h' α' H' v a b c d', fun _ _ _ _ _ a _ _ _ => a.elim, fun _ _ _ _ _ a _ _ _ => a.elim, fun _ _ _ _ _ _ _ a _ _ _ => a.elim⟩⟩
end
end DL
namespace DL
open PySem PySem.Spec L2
noncomputable def lsP (h : Hh) : D → Option (List D)
  | .lst xs => some xs
  | .ref i => match h[i]? with | some (.lst xs) => some xs | _ => none
  | _ => none
theorem lsP_sq {K : KP} {α : List Addr} {H : Hp} {h : Hh} (R : HRel K α H h) {d : D} {v : V} {xs : List D} (r : RelD K α H d v) (e : lsP h d = some xs) : ∃ p us, v = .ref p ∧ H p = some (.lst us) ∧ RelDs K α H xs us := by
  cases r with
  | lst t r => cases e; exact ⟨_, _, rfl, t.2.2, r⟩
  | @ref i a hp =>
    have e : (match h[i]? with | some (.lst xs) => some xs | _ => none) = some xs := e
    cases q : h[i]? with
    | none => rw [q] at e; cases e
    | some o =>
      rw [q] at e
      cases o with
      | lst ys =>
        cases e
        obtain ⟨p, us, e1, e2, e3⟩ := R.lst q
        rw [hp] at e1; cases e1
        exact ⟨_, us, rfl, e2, e3⟩
      | _ => cases e
  | _ => cases e
noncomputable def pPlus : P2 := fun x y h Q => match lsP h x, lsP h y with
  | some xs, some ys => xs.length + ys.length ≤ 16777216 ∧ Q (.lst (xs ++ ys)) h
  | _, _ => pAdd x y h Q
section
variable {X : Cx}
theorem ok_plus : OpR X (binaryOp .Add) (r2 X.K pPlus) := OpR.imp (op_cat.or ok_add) fun x y H Q ⟨π, α, h, d, e, Q', R, r1, r2, f, k⟩ => by
  unfold pPlus at f
  cases w : lsP h d with
  | none => rw [w] at f; exact .inr ⟨π, α, h, d, e, Q', R, r1, r2, f, k⟩
  | some xs =>
    cases w' : lsP h e with
    | none => rw [w, w'] at f; exact .inr ⟨π, α, h, d, e, Q', R, r1, r2, f, k⟩
    | some ys =>
      rw [w, w'] at f
      obtain ⟨p, us, rfl, b, c⟩ := lsP_sq R r1 w
      obtain ⟨p', us', rfl, b', c'⟩ := lsP_sq R r2 w'
      refine .inl ⟨p, p', us, us', rfl, rfl, b, b', by rw [← c.length, ← c'.length, sizeLine_eq]; exact f.1, fun l hl => ?_⟩
      have e2 : Ext α H α (upd H l (.lst (us ++ us'))) := Ext.new hl
      exact k _ h α _ _ f.2 e2 (R.new hl) (.lst ⟨R.out hl, R.outP hl, upd_same⟩ ((c.append c').mono e2))
noncomputable def dCatN (fa fb : DE) : DN := fun δ h Q => fa δ h fun x h1 => fb δ h1 fun y h2 => match lsP h2 x, lsP h2 y with
  | some xs, some ys => xs.length + ys.length ≤ 16777216 ∧ Q (xs ++ ys) h2
  | _, _ => False
noncomputable def dRepN (fa fb : DE) : DN := fun δ h Q => fa δ h fun x h1 => fb δ h1 fun y h2 => match lsP h2 x, y with
  | some xs, .int n => (-(2 ^ 63) ≤ n ∧ n < 2 ^ 63 ∧ xs.length * n.toNat ≤ 16777216) ∧ Q (List.replicate n.toNat xs).flatten h2
  | _, _ => False
theorem op_mulB : OpR X (binaryOp .Mult) (rI IntMulOk fun i j => .int (i * j)) := opI fun _ _ _ _ _ _ _ hc q => PyProof.Rows.mul_int q hc
noncomputable def pMulI : P2 := pI IntMulOk fun i j => i * j
theorem ok_timesI : OpR X (binaryOp .Mult) (r2 X.K pMulI) := pI_ok op_mulB
noncomputable def pMul : P2 := fun x y h Q => match x, y with
  | .int i, .int j => IntMulOk i j ∧ Q (.int (i * j)) h
  | .tup xs, .int n => (xs ≠ [] ∧ xs.length ≤ 10 ∧ 1 ≤ n ∧ n < 100) ∧ Q (.tup (List.replicate n.toNat xs).flatten) h
  | x, .int n => (match lsP h x with | some xs => (-(2 ^ 63) ≤ n ∧ n < 2 ^ 63 ∧ xs.length * n.toNat ≤ 16777216) ∧ Q (.lst (List.replicate n.toNat xs).flatten) h | none => False)
  | _, _ => False
noncomputable def dSl (fe : DE) (fl fh : DO) : DE := fun δ h Q => fe δ h fun d h1 => fl δ h1 fun l h2 => fh δ h2 fun u h3 => match d with
  | .tup xs => Q (.tup (cutD xs l u)) h3
  | d => match lsOf h3 d with | some xs => Q (.lst (cutD xs l u)) h3 | none => False
theorem se_sl {e : Expr} {fe : DE} {lo hi : Option Expr} {fl fh : DO} {pos p2 : Pos} (he : SE X e fe) (hl : SO X lo fl) (hu : SO X hi fh) : SE X (.Subscript e (.Slice lo hi none p2) pos) (dSl fe fl fh) := PE.imp (pe_slice (sl_tupD.or sl_list) he hl hu) fun σ H Q ⟨π, α, δ, h, Q', R, S, f, k⟩ => by
  refine ⟨π, α, δ, h, _, R, S, f, fun d h1 α1 H1 v1 f1 e1 R1 q1 => ?_⟩
  refine ⟨π, α1, δ, h1, _, R1, S.mono e1, f1, fun l h2 α2 H2 f2 e2 R2 => ?_⟩
  refine ⟨π, α2, δ, h2, _, R2, S.mono (e1.trans e2), f2, fun u h3 α3 H3 f3 e3 R3 => ?_⟩
  have q3 := (q1.mono e2).mono e3
  split at f3
  · cases q3 with
    | @tup a us ds t r =>
      refine .inl ⟨a, us, rfl, t.sq, fun z => ?_, fun p hp => ?_⟩
      · have c := cut_rel r l u
        rw [z] at c
        exact k _ h3 α3 H3 _ f3 (e1.trans (e2.trans e3)) R3 (.tup t c)
      · have e4 : Ext α3 H3 α3 (upd H3 p (.tup (cutV us l u))) := Ext.new hp
        exact k _ h3 α3 _ _ f3 (e1.trans (e2.trans (e3.trans e4))) (R3.new hp) (.tup ⟨R3.out hp, R3.outP hp, upd_same⟩ ((cut_rel r l u).mono e4))
  · split at f3
    · rename_i xs w
      obtain ⟨p, us, rfl, b, c⟩ := lsOf_sq R3 q3 w
      refine .inr ⟨p, us, rfl, b, fun l' hl => ?_⟩
      have e4 : Ext α3 H3 α3 (upd H3 l' (.lst (cutV us l u))) := Ext.new hl
      exact k _ h3 α3 _ _ f3 (e1.trans (e2.trans (e3.trans e4))) (R3.new hl) (.lst ⟨R3.out hl, R3.outP hl, upd_same⟩ ((cut_rel c l u).mono e4))
    · exact f3.elim
noncomputable def dExtend (fo : DE) (fs : DA) : DE := fun δ h Q => fo δ h fun d h1 => match d with
  | .ref i => (match h1[i]? with
    | some (.lst _) => fs δ h1 fun ds h2 => (match ds, h2[i]? with
      | [v], some (.lst ys) => (match lsP h2 v with | some zs => ys.length + zs.length ≤ 16777216 ∧ Q .non (h2.set i (.lst (ys ++ zs))) | none => False)
      | _, _ => False)
    | _ => False)
  | _ => False
noncomputable def kindD (h : Hh) : D → Option String
  | .non => some "NoneType"
  | .bl _ => some "bool"
  | .int _ => some "int"
  | .str _ => some "str"
  | .tup _ => some "tuple"
  | .lst _ => some "list"
  | .ref i => match h[i]? with | some (.lst _) => some "list" | some (.dT _) => some "dict" | some (.dK _) => some "dict" | _ => none
  | _ => none
noncomputable def isKind (t T : String) : Bool := t == T || (t == "bool" && T == "int")
theorem kit_of {K : PySem.W.Frag} {t T : String} (ht : t ∈ ["NoneType", "bool", "int", "str", "tuple", "list", "dict"]) (hT : T ∈ ["bool", "int", "str", "tuple", "list", "dict"]) : PySem.W.kitOne K (.type t) (.type T) = some (isKind t T) := by
  simp only [List.mem_cons, List.not_mem_nil, or_false] at ht hT
  rcases ht with rfl | rfl | rfl | rfl | rfl | rfl | rfl <;> rcases hT with rfl | rfl | rfl | rfl | rfl | rfl <;> rfl
noncomputable def dIsinst (T : String) (fa : DE) : DE := fun δ h Q => fa δ h fun d h1 => match kindD h1 d with | some t => Q (.bl (isKind t T)) h1 | none => False
theorem kind_in {h : Hh} {d : D} {t : String} (e : kindD h d = some t) : t ∈ ["NoneType", "bool", "int", "str", "tuple", "list", "dict"] := by
  unfold kindD at e
  split at e
  all_goals first | (cases e; done) | (cases e; decide) | skip
  split at e
  all_goals first | (cases e; done) | (cases e; decide)
theorem call_isinstD {T : String} : CallR X (.builtin "isinstance") (fun xs H Q => ∃ x t b, xs = [x, .ty T] ∧ (TyOf X.K H x t ∨ (t = .type "tuple" ∧ ∃ a us, x = .ref a ∧ SqT X.K H a us)) ∧ PySem.W.kitOne X.K t (.type T) = some b ∧ Q (.bl b) H) := by
  intro pins s σ H xs us Q I r h
  obtain ⟨x, t, b, rfl, ty, e, q⟩ := h
  obtain ⟨u, w', rfl, ru, rw'⟩ := vals2 r
  cases rw'
  rcases ty with ty | ⟨rfl, a, us, rfl, hq⟩
  · exact isinst_ok I ru ty e fun tk => ⟨.bl b, H, I.tok _, rfl, q⟩
  · cases ru
    obtain ⟨its, rv, ⟨o, h1, h2, _⟩, _⟩ := I.tuple hq
    exact PySem.W.kia_one PySem.W.kitx_tuple I.kIn ⟨o, h1, h2⟩ e (fun z => nomatch z) fun tk => ⟨.bl b, H, I.tok _, rfl, q⟩
theorem kind_ty {K : PySem.W.Frag} {π α : List Addr} {H : Hp} {h : Hh} {d : D} {v : V} {t : String} (R : HRel ⟨K, π⟩ α H h) (r : RelD ⟨K, π⟩ α H d v) (e : kindD h d = some t) : TyOf K H v (.type t) ∨ (Value.type t = .type "tuple" ∧ ∃ a us, v = .ref a ∧ SqT K H a us) := by
  cases r with
  | non => cases e; exact .inl .non
  | bl b => cases e; exact .inl (.bl b)
  | int i => cases e; exact .inl (.int i)
  | str x => cases e; exact .inl (.str x)
  | tup t r => cases e; exact .inr ⟨rfl, _, _, rfl, t.sq⟩
  | lst t r => cases e; exact .inl (.lst t.2.2)
  | scr t r => cases e
  | exc _ _ _ => cases e
  | @ref i a hp =>
    have e : (match h[i]? with | some (.lst _) => some "list" | some (.dT _) => some "dict" | some (.dK _) => some "dict" | _ => none) = some t := e
    cases q : h[i]? with
    | none => rw [q] at e; cases e
    | some o =>
      rw [q] at e
      cases o with
      | lst ys =>
        cases e
        obtain ⟨us, e2, e3⟩ := refL R hp q
        exact .inl (.lst e2)
      | dT ys =>
        cases e
        obtain ⟨p, us, e1, e2, e3⟩ := R.dT q
        rw [hp] at e1; cases e1
        exact .inl (.dT e2)
      | dK ys =>
        cases e
        obtain ⟨p, us, e1, e2, e3⟩ := R.dK q
        rw [hp] at e1; cases e1
        exact .inl (.dK e2)
      | ins C fs => cases e
theorem se_isinst {T : String} {a : Expr} {fa : DE} {x : Str} {p p2 pos : Pos} (hT : T ∈ ["bool", "int", "str", "tuple", "list", "dict"]) (hg : Gl X "isinstance") (hm : X.mg "isinstance" = none) (ha : SE X a fa) (ht : PE X (.Name x p2) (tC (.ty T)))
    (he : starEach [a, .Name x p2] X.env = (false, eval a X.env) :: starEach [.Name x p2] X.env := by rfl) (he2 : starEach [.Name x p2] X.env = (false, eval (.Name x p2) X.env) :: starEach [] X.env := by rfl) (hpl : (backTo pos (starEach [.Name x p2] X.env)).any (·.1) = false := by rfl) :
    SE X (.Call (.Name "isinstance" p) [a, .Name x p2] [] pos) (dIsinst T fa) := PE.imp (pe_callB call_isinstD hg hm PyProof.Rows.boot_isinstance (pa_cons ha (pa_cons ht pa_nil he2) he) (by decide) (by decide) he hpl) fun σ H Q ⟨π, α, δ, h, Q', R, S, f, k⟩ => by
  refine ⟨π, α, δ, h, _, R, S, f, fun d h1 α1 H1 v1 f1 e1 R1 q1 => ?_⟩
  split at f1
  · rename_i t w
    exact ⟨v1, .type t, _, rfl, kind_ty R1 q1 w, kit_of (kind_in w) hT, k _ h1 α1 H1 _ f1 e1 R1 (.bl _)⟩
  · exact f1.elim
noncomputable def flatD : D → Bool
  | .non => true
  | .bl _ => true
  | .int _ => true
  | .str _ => true
  | _ => false
noncomputable def eqF : D → D → Bool
  | .non, .non => true
  | .bl a, .bl b => a == b
  | .bl a, .int b => (if a then 1 else 0) == b
  | .int a, .bl b => a == (if b then 1 else 0)
  | .int a, .int b => a == b
  | .str a, .str b => a == b
  | _, _ => false
noncomputable def inF (x : D) (xs : List D) : Bool := xs.any fun y => eqF y x
noncomputable def pIn (neg : Bool) : P2 := fun x y h Q => match seqOf h y with
  | some xs => (flatD x && xs.all flatD) = true ∧ Q (.bl (if neg then !inF x xs else inF x xs)) h
  | none => False
end
end DL
namespace DL
open PySem PySem.Spec L2
section
variable {X : Cx}
noncomputable def intsOf : List D → Option (List Int)
  | [] => some []
  | .int i :: r => (intsOf r).map (i :: ·)
  | _ :: _ => none
noncomputable def pLt : P2 := fun x y h Q => match x, y with
  | .int i, .int j => Q (.bl (decide (i < j))) h
  | .tup a, .tup b => (match intsOf a, intsOf b with | some ns, some ms => Q (.bl (HT.lexLt ns ms)) h | _, _ => False)
  | .str a, .str b => Q (.bl (decide (a.cps.toList < b.cps.toList))) h
  | _, _ => False
noncomputable def keyS : D → Option Key
  | .int i => some (.inl i)
  | .str x => some (.inr x)
  | _ => none
noncomputable def lkG (kvs : List (Key × Int)) (k : Key) : Option Int := (kvs.find? fun kv => decide (kv.1 = k)).map (·.2)
noncomputable def dGet (kvs : List (Key × Int)) (fi : DE) : DE := fun δ h Q => fi δ h fun d h1 => match (keyS d).bind fun k => lkG kvs k with | some v => Q (.int v) h1 | none => False
noncomputable def dIEnum1 (f : DA) : DI := fun δ h Q => f δ h fun ds h1 => match ds with | [d] => (match d with | .tup _ => False | d => match seqSrc h1 d with | some S => Q ⟨enumD 1 S.items, S.w⟩ h1 | none => False) | _ => False
end
end DL
namespace Att
open PySem PySem.W PySem.Calls PyProof.Rows
theorem bits_weight : ∀ (ns : List Int) (x : Int), x ∈ ns → Builtin.Int.intBits x ≤ WData.weightAll (ns.map WData.int)
  | n :: r, x, h => by
    rw [List.map_cons]
    show _ ≤ WData.weight (.int n) + 1 + WData.weightAll (r.map WData.int)
    rcases List.mem_cons.mp h with rfl | h
    · have e : WData.weight (.int x) = Builtin.Int.intBits x := rfl
      rw [e]; omega
    · have := bits_weight r x h
      omega
theorem bits_args {ns : List Int} (h : WData.layableAll [WData.list (ns.map WData.int)] = true) : ∀ x ∈ ns, Builtin.Int.intBits x ≤ 1048576 := fun x hx => by
  have h : (WData.layable (.list (ns.map WData.int)) && true) = true := h
  rw [Bool.and_true] at h
  unfold WData.layable at h
  rw [Bool.and_eq_true] at h
  have h2 : WData.weight (.list (ns.map WData.int)) ≤ 2 ^ 20 := of_decide_eq_true h.2
  exact Nat.le_trans (bits_weight ns x hx) h2
theorem attach_call2 {l : OpenLaw} {n : Nat} {q : Program} {loose : List Str} {XP : (Str → Option Value) → Heap → Prop} {YP : World → Heap → Prop} {d : DefRec}
    (hn : l.most = some n) (hdf : d.params.defaults = [])
    (call : ∀ (w : World) (s₀ s₁ : Shared) (mg mb : Str → Option Value) (fa : Addr) (o : Obj) (pm cd doc : Value) (a : Addr) (vs : List Value) (ns : List Int),
      Ground q loose [] XP w s₀ mg mb s₁.heap → YP w s₁.heap →
      s₁.heap.get? fa = some o → o.data = .func (docDef d.name d.params d.body d.scope pm cd doc) → s₁.heap.CodeRec cd d.name → mg d.name = some (.ref fa) →
      s₁.heap.get? a = some { cls := .type "list", data := .seq vs.toArray } → IntsAre vs ns → ns.length ≤ n → (∀ x ∈ ns, Builtin.Int.intBits x ≤ 1048576) → s₁.gens = #[] →
      codeAny (model l.prog w) callerA (.call (.ref fa) ⟨[.ref a], []⟩) (fun r s' => r = .ok (.ret (.bool true)) ∧ OldK s₁.heap s'.heap ∧ s'.os = s₁.os ∧ AllBare s'.gens) s₁) :
    WalkO q loose XP YP l.row.toRowW d [] (fun f vs => PySem.call f vs) := by
  intro w s₀ s₁ mg mb G Y fa o pm cd doc dV kV ho hd hcd hD hmg hg args vals as hpre hlay hrd hwl hlo
  obtain rfl : dV = .none := Dflts.none hD hdf
  obtain rfl : kV = .none := Dflts.noKw hD
  obtain ⟨a, vs, ns, rfl, rfl, hobj, hints, hlen⟩ := script_of hn hpre hwl
  refine enter_call (codeAny_mono (call w s₀ s₁ mg mb fa o pm cd doc a vs ns G Y ho (fd_plain hd) hcd hmg hobj hints hlen (bits_args hlay) hg) fun r s' hq => ?_)
  obtain ⟨rfl, h2, h3, h4⟩ := hq
  exact ⟨.inl ⟨.bool true, .bool true, [], rfl, fun _ => rfl, .bool true, post_true l _, fun _ => ⟨List.Pairwise.nil, fun _ hm => (nomatch hm)⟩⟩, h2, h3, h4⟩
end Att
namespace DL
open PySem PySem.Spec L2 PySem.W PyProof.Rows
theorem walkD {l : OpenLaw} {n k : Nat} {q : Program} {loose : List Str} {XP : (Str → Option Value) → Heap → Prop} {YP : World → Heap → Prop} {d : DefRec} {K : Params → PySem.W.Frag} {S : DSp} {x : Str}
    (hn : l.most = some n) (hn2 : n ≤ sizeLine) (hdf : d.params.defaults = []) (hr : Room k callerA)
    (hY : ∀ (w : World) (h : Heap), YP w h → (K w.params).In h)
    (F : ∀ (w : World) (mg : Str → Option Value) (fa : Addr) (h : Heap), (K w.params).In h → h.Ns mainGlobals mg → mg d.name = some (.ref fa) →
      ∃ fd : FuncData, (∀ (s : Shared) (u : Value), BindsTo s fd ⟨[u], []⟩ [(x, u)]) ∧
        ∀ base : Heap, (K w.params).In base → base.Ns mainGlobals mg → FnOk l.prog w (K w.params) mg base CX0 k fa fd [x] (spD (K w.params) 1 S))
    (hS : ∀ ns : List Int, ns.length ≤ n → (∀ x ∈ ns, Builtin.Int.intBits x ≤ 1048576) → S [.scr (ns.map D.int)] [] (fun v _ => v = .bl true)) :
    WalkO q loose XP YP l.row.toRowW d [] (fun f vs => PySem.call f vs) := by
  refine Att.attach_call2 hn hdf fun w s₀ s₁ mg mb fa o pm cd doc a vs ns G Y ho hd hcd hmg hobj hints hlen hbits hg => ?_
  have KX := hY w _ Y
  obtain ⟨fd, hb, hF⟩ := F w mg fa _ KX G.T.g hmg
  refine L2.law_call KX G.T.g G.T.b G.T.builtins G.T.nolimit hg hobj hints (Nat.le_trans hlen hn2) hr hF hb (fun H hO hS' => ?_) fun H e s' z => z
  refine ⟨[], [], [], [.scr (ns.map D.int)], _, ⟨rfl, List.nodup_nil, fun p hp => (nomatch hp), fun i o e => ?_⟩, .cons (.scr (a := a) (us := ns.map V.int) ?_ (RelDs.ints ns)) .nil, rfl, hS ns hlen hbits, fun d h' α' H' v a b c r => ?_⟩
  · simp at e
  · rcases hS' with h | h
    · exact .inl ⟨fun z => (nomatch z), fun z => (nomatch z), h⟩
    · exact .inr h
  · have a : d = .bl true := a
    subst a
    cases r; rfl
end DL
namespace DL
open PySem PySem.Spec L2
mutual
noncomputable def nrD : D → Bool
  | .tup xs => nrDs xs
  | .lst xs => nrDs xs
  | .scr xs => nrDs xs
  | .ref _ => false
  | _ => true
noncomputable def nrDs : List D → Bool
  | [] => true
  | d :: ds => nrD d && nrDs ds
end
mutual
inductive Vw (n : Nat) (h : Hh) : D → D → Prop
  | nr {d : D} : nrD d = true → Vw n h d d
  | old {i : Nat} : i < n → Vw n h (.ref i) (.ref i)
  | opn {i : Nat} {xs ys : List D} : n ≤ i → h[i]? = some (.lst xs) → Vws n h xs ys → Vw n h (.ref i) (.lst ys)
  | tup {xs ys : List D} : Vws n h xs ys → Vw n h (.tup xs) (.tup ys)
  | lst {xs ys : List D} : Vws n h xs ys → Vw n h (.lst xs) (.lst ys)
inductive Vws (n : Nat) (h : Hh) : List D → List D → Prop
  | nil : Vws n h [] []
  | cons {d e : D} {ds es : List D} : Vw n h d e → Vws n h ds es → Vws n h (d :: ds) (e :: es)
end
section
variable {K : PySem.W.Frag} {π α β : List Addr} {H H' : Hp} {h : Hh}
end
end DL
namespace DL
open PySem L2
theorem atN {α : Type} (xs : List α) (i : Nat) : atI xs (i : Int) = xs[i]? := by
  unfold atI ixN
  by_cases h : i < xs.length
  · rw [if_pos (by omega), if_pos (by omega)]; simp
  · rw [if_pos (by omega), if_neg (by omega)]
    simp; omega
theorem at1_0 {α : Type} (a : α) : atI [a] 0 = some a := rfl
theorem at2_0 {α : Type} (a b : α) : atI [a, b] 0 = some a := rfl
theorem at2_1 {α : Type} (a b : α) : atI [a, b] 1 = some b := rfl
theorem at3_0 {α : Type} (a b c : α) : atI [a, b, c] 0 = some a := rfl
theorem at3_1 {α : Type} (a b c : α) : atI [a, b, c] 1 = some b := rfl
theorem at3_2 {α : Type} (a b c : α) : atI [a, b, c] 2 = some c := rfl
theorem at4_0 {α : Type} (a b c d : α) : atI [a, b, c, d] 0 = some a := rfl
theorem at4_1 {α : Type} (a b c d : α) : atI [a, b, c, d] 1 = some b := rfl
theorem at4_2 {α : Type} (a b c d : α) : atI [a, b, c, d] 2 = some c := rfl
theorem at4_3 {α : Type} (a b c d : α) : atI [a, b, c, d] 3 = some d := rfl
theorem at5_0 {α : Type} (a b c d e : α) : atI [a, b, c, d, e] 0 = some a := rfl
theorem at5_1 {α : Type} (a b c d e : α) : atI [a, b, c, d, e] 1 = some b := rfl
theorem at5_2 {α : Type} (a b c d e : α) : atI [a, b, c, d, e] 2 = some c := rfl
theorem at5_3 {α : Type} (a b c d e : α) : atI [a, b, c, d, e] 3 = some d := rfl
theorem at5_4 {α : Type} (a b c d e : α) : atI [a, b, c, d, e] 4 = some e := rfl
theorem at6_0 {α : Type} (a b c d e f : α) : atI [a, b, c, d, e, f] 0 = some a := rfl
theorem at6_1 {α : Type} (a b c d e f : α) : atI [a, b, c, d, e, f] 1 = some b := rfl
theorem at6_2 {α : Type} (a b c d e f : α) : atI [a, b, c, d, e, f] 2 = some c := rfl
theorem at6_3 {α : Type} (a b c d e f : α) : atI [a, b, c, d, e, f] 3 = some d := rfl
theorem at6_4 {α : Type} (a b c d e f : α) : atI [a, b, c, d, e, f] 4 = some e := rfl
theorem at6_5 {α : Type} (a b c d e f : α) : atI [a, b, c, d, e, f] 5 = some f := rfl
theorem at7_0 {α : Type} (a b c d e f g : α) : atI [a, b, c, d, e, f, g] 0 = some a := rfl
theorem at7_1 {α : Type} (a b c d e f g : α) : atI [a, b, c, d, e, f, g] 1 = some b := rfl
theorem at7_2 {α : Type} (a b c d e f g : α) : atI [a, b, c, d, e, f, g] 2 = some c := rfl
theorem at7_3 {α : Type} (a b c d e f g : α) : atI [a, b, c, d, e, f, g] 3 = some d := rfl
theorem at7_4 {α : Type} (a b c d e f g : α) : atI [a, b, c, d, e, f, g] 4 = some e := rfl
theorem at7_5 {α : Type} (a b c d e f g : α) : atI [a, b, c, d, e, f, g] 5 = some f := rfl
theorem at7_6 {α : Type} (a b c d e f g : α) : atI [a, b, c, d, e, f, g] 6 = some g := rfl
theorem at8_0 {α : Type} (a b c d e f g i : α) : atI [a, b, c, d, e, f, g, i] 0 = some a := rfl
theorem at8_1 {α : Type} (a b c d e f g i : α) : atI [a, b, c, d, e, f, g, i] 1 = some b := rfl
theorem at8_2 {α : Type} (a b c d e f g i : α) : atI [a, b, c, d, e, f, g, i] 2 = some c := rfl
theorem at8_3 {α : Type} (a b c d e f g i : α) : atI [a, b, c, d, e, f, g, i] 3 = some d := rfl
theorem at8_4 {α : Type} (a b c d e f g i : α) : atI [a, b, c, d, e, f, g, i] 4 = some e := rfl
theorem at8_5 {α : Type} (a b c d e f g i : α) : atI [a, b, c, d, e, f, g, i] 5 = some f := rfl
theorem at8_6 {α : Type} (a b c d e f g i : α) : atI [a, b, c, d, e, f, g, i] 6 = some g := rfl
theorem at8_7 {α : Type} (a b c d e f g i : α) : atI [a, b, c, d, e, f, g, i] 7 = some i := rfl
theorem ix_ls {h : Hh} {d : D} {xs : List D} (e : lsOf h d = some xs) (k : Int) : ixD h d (.int k) = atI xs k := by
  cases d with
  | lst ys => cases e; rfl
  | scr ys => cases e; rfl
  | ref i =>
    have e : (match h[i]? with | some (.lst xs) => some xs | _ => none) = some xs := e
    show (match h[i]? with | some (.lst xs) => atI xs k | _ => none) = atI xs k
    cases q : h[i]? with
    | none => rw [q] at e; cases e
    | some o =>
      rw [q] at e
      cases o with
      | lst ys => cases e; rfl
      | _ => cases e
  | _ => cases e
theorem seq_ls {h : Hh} {d : D} {xs : List D} (e : lsOf h d = some xs) : seqOf h d = some xs := by
  cases d with
  | lst ys => exact e
  | scr ys => exact e
  | ref i => exact e
  | _ => cases e
theorem len_ls {h : Hh} {d : D} {xs : List D} (e : lsOf h d = some xs) : lenD h d = some xs.length := by
  have s := seq_ls e
  cases d with
  | lst ys => cases e; rfl
  | scr ys => cases e; rfl
  | ref i => show (seqOf h (.ref i)).map List.length = _; rw [s]; rfl
  | _ => cases e
noncomputable def Pre (h h' : Hh) : Prop := ∀ (i : Nat) (o : O), h[i]? = some o → h'[i]? = some o
theorem Pre.trans {a b c : Hh} (x : Pre a b) (y : Pre b c) : Pre a c := fun i o e => y i o (x i o e)
theorem Pre.ls {h h' : Hh} (p : Pre h h') {d : D} {xs : List D} (e : lsOf h d = some xs) : lsOf h' d = some xs := by
  cases d with
  | ref i =>
    have e : (match h[i]? with | some (.lst xs) => some xs | _ => none) = some xs := e
    show (match h'[i]? with | some (.lst xs) => some xs | _ => none) = some xs
    cases q : h[i]? with
    | none => rw [q] at e; cases e
    | some o => rw [q] at e; rw [p i o q]; exact e
  | _ => exact e
theorem forL_map {τ : Type} {S : Src} {t : DG} {b : DS} {E : DEnds} (P : List τ → Sl → Hh → Prop) {g : τ → D} {ys : List τ} {δ : Sl} {h : Hh} (h0 : P [] δ h) (ok : ∀ p δ h, P p δ h → S.ok h)
    (hs : ∀ (p : List τ) (y : τ) (r : List τ) (δ : Sl) (h : Hh) (N : Sl → Hh → Prop), ys = p ++ y :: r → P p δ h → (∀ δ h, P (p ++ [y]) δ h → N δ h) → t (g y) δ h fun δ2 h2 => b { E with nx := N, ct := N, bk := E.nx } δ2 h2)
    (hd : ∀ δ h, P ys δ h → E.nx δ h) : forL S t b E (ys.map g) δ h := by
  have go : ∀ (r p : List τ) δ h, ys = p ++ r → P p δ h → forL S t b E (r.map g) δ h := by
    intro r
    induction r with
    | nil => intro p δ h e q; rw [List.append_nil] at e; subst e; exact ⟨ok _ _ _ q, hd _ _ q⟩
    | cons y r ih =>
      intro p δ h e q
      exact ⟨ok _ _ _ q, hs p y r δ h _ e q fun δ3 h3 p3 => ih (p ++ [y]) δ3 h3 (by rw [e]; simp) p3⟩
  exact go ys [] δ h rfl h0
theorem rangeD_map (lo : Int) : ∀ n : Nat, rangeD lo n = (List.range n).map fun i => D.int (lo + (i : Nat)) := by
  intro n
  apply List.ext_getElem?
  intro i
  rw [rangeD_get]
  by_cases h : i < n <;> simp [h]
theorem enumD_map {τ : Type} (lo : Int) (g : τ → D) (ys : List τ) : enumD lo (ys.map g) = ys.zipIdx.map fun p => .tup [.int (lo + (p.2 : Nat)), g p.1] := by
  apply List.ext_getElem?
  intro i
  rw [enumD_get]
  simp [List.getElem?_zipIdx]
  cases ys[i]? <;> simp
theorem isN_non : isNon .non = true := rfl
theorem isN_bl (b : Bool) : isNon (.bl b) = false := rfl
theorem isN_int (b : Int) : isNon (.int b) = false := rfl
theorem isN_str (b : Str) : isNon (.str b) = false := rfl
theorem isN_tup (b : List D) : isNon (.tup b) = false := rfl
theorem isN_lst (b : List D) : isNon (.lst b) = false := rfl
theorem isN_ref (b : Nat) : isNon (.ref b) = false := rfl
theorem lsOf_lst (h : Hh) (xs : List D) : lsOf h (.lst xs) = some xs := rfl
theorem seqOf_lst (h : Hh) (xs : List D) : seqOf h (.lst xs) = some xs := rfl
theorem seqSrc_lst (h : Hh) (xs : List D) : seqSrc h (.lst xs) = some ⟨xs, []⟩ := rfl
theorem lenD_lst (h : Hh) (xs : List D) : lenD h (.lst xs) = some xs.length := rfl
theorem ixD_lst (h : Hh) (xs : List D) (i : Int) : ixD h (.lst xs) (.int i) = atI xs i := rfl
theorem trD_lst (h : Hh) (xs : List D) : trD h (.lst xs) = some (!xs.isEmpty) := rfl
theorem lsOf_scr (h : Hh) (xs : List D) : lsOf h (.scr xs) = some xs := rfl
theorem seqOf_scr (h : Hh) (xs : List D) : seqOf h (.scr xs) = some xs := rfl
theorem seqSrc_scr (h : Hh) (xs : List D) : seqSrc h (.scr xs) = some ⟨xs, []⟩ := rfl
theorem lenD_scr (h : Hh) (xs : List D) : lenD h (.scr xs) = some xs.length := rfl
theorem ixD_scr (h : Hh) (xs : List D) (i : Int) : ixD h (.scr xs) (.int i) = atI xs i := rfl
theorem trD_scr (h : Hh) (xs : List D) : trD h (.scr xs) = some (!xs.isEmpty) := rfl
theorem lsP_lst (h : Hh) (xs : List D) : lsP h (.lst xs) = some xs := rfl
theorem lsP_tup (h : Hh) (xs : List D) : lsP h (.tup xs) = none := rfl
theorem lsP_int (h : Hh) (x : Int) : lsP h (.int x) = none := rfl
theorem lsP_str (h : Hh) (x : Str) : lsP h (.str x) = none := rfl
theorem seqOf_tup (h : Hh) (xs : List D) : seqOf h (.tup xs) = some xs := rfl
theorem seqSrc_tup (h : Hh) (xs : List D) : seqSrc h (.tup xs) = some ⟨xs, []⟩ := rfl
theorem lenD_tup (h : Hh) (xs : List D) : lenD h (.tup xs) = some xs.length := rfl
theorem ixD_tup (h : Hh) (xs : List D) (i : Int) : ixD h (.tup xs) (.int i) = atI xs i := rfl
theorem trD_tup (h : Hh) (xs : List D) : trD h (.tup xs) = some (!xs.isEmpty) := rfl
theorem trD_non (h : Hh) : trD h .non = some false := rfl
theorem trD_bl (h : Hh) (b : Bool) : trD h (.bl b) = some b := rfl
theorem trD_int (h : Hh) (i : Int) : trD h (.int i) = some (i != 0) := rfl
theorem kindD_non (h : Hh)  : kindD h (.non) = some "NoneType" := rfl
theorem kindD_bl (h : Hh) (x : Bool) : kindD h (.bl x) = some "bool" := rfl
theorem kindD_int (h : Hh) (x : Int) : kindD h (.int x) = some "int" := rfl
theorem kindD_str (h : Hh) (x : Str) : kindD h (.str x) = some "str" := rfl
theorem kindD_tup (h : Hh) (x : List D) : kindD h (.tup x) = some "tuple" := rfl
theorem kindD_lst (h : Hh) (x : List D) : kindD h (.lst x) = some "list" := rfl
theorem isK_NoneType_bool : isKind "NoneType" "bool" = false := rfl
theorem isK_NoneType_int : isKind "NoneType" "int" = false := rfl
theorem isK_NoneType_str : isKind "NoneType" "str" = false := rfl
theorem isK_NoneType_tuple : isKind "NoneType" "tuple" = false := rfl
theorem isK_NoneType_list : isKind "NoneType" "list" = false := rfl
theorem isK_NoneType_dict : isKind "NoneType" "dict" = false := rfl
theorem isK_bool_bool : isKind "bool" "bool" = true := rfl
theorem isK_bool_int : isKind "bool" "int" = true := rfl
theorem isK_bool_str : isKind "bool" "str" = false := rfl
theorem isK_bool_tuple : isKind "bool" "tuple" = false := rfl
theorem isK_bool_list : isKind "bool" "list" = false := rfl
theorem isK_bool_dict : isKind "bool" "dict" = false := rfl
theorem isK_int_bool : isKind "int" "bool" = false := rfl
theorem isK_int_int : isKind "int" "int" = true := rfl
theorem isK_int_str : isKind "int" "str" = false := rfl
theorem isK_int_tuple : isKind "int" "tuple" = false := rfl
theorem isK_int_list : isKind "int" "list" = false := rfl
theorem isK_int_dict : isKind "int" "dict" = false := rfl
theorem isK_str_bool : isKind "str" "bool" = false := rfl
theorem isK_str_int : isKind "str" "int" = false := rfl
theorem isK_str_str : isKind "str" "str" = true := rfl
theorem isK_str_tuple : isKind "str" "tuple" = false := rfl
theorem isK_str_list : isKind "str" "list" = false := rfl
theorem isK_str_dict : isKind "str" "dict" = false := rfl
theorem isK_tuple_bool : isKind "tuple" "bool" = false := rfl
theorem isK_tuple_int : isKind "tuple" "int" = false := rfl
theorem isK_tuple_str : isKind "tuple" "str" = false := rfl
theorem isK_tuple_tuple : isKind "tuple" "tuple" = true := rfl
theorem isK_tuple_list : isKind "tuple" "list" = false := rfl
theorem isK_tuple_dict : isKind "tuple" "dict" = false := rfl
theorem isK_list_bool : isKind "list" "bool" = false := rfl
theorem isK_list_int : isKind "list" "int" = false := rfl
theorem isK_list_str : isKind "list" "str" = false := rfl
theorem isK_list_tuple : isKind "list" "tuple" = false := rfl
theorem isK_list_list : isKind "list" "list" = true := rfl
theorem isK_list_dict : isKind "list" "dict" = false := rfl
theorem isK_dict_bool : isKind "dict" "bool" = false := rfl
theorem isK_dict_int : isKind "dict" "int" = false := rfl
theorem isK_dict_str : isKind "dict" "str" = false := rfl
theorem isK_dict_tuple : isKind "dict" "tuple" = false := rfl
theorem isK_dict_list : isKind "dict" "list" = false := rfl
theorem isK_dict_dict : isKind "dict" "dict" = true := rfl
theorem lsOf_ref {h : Hh} {i : Nat} {xs : List D} (e : h[i]? = some (.lst xs)) : lsOf h (.ref i) = some xs := by show (match h[i]? with | some (.lst xs) => some xs | _ => none) = _; rw [e]
theorem ixN_0 (n : Nat) : ixN (n + 1) 0 = some 0 := by unfold ixN; rw [if_pos (by decide), if_pos (by omega)]; rfl
theorem ixN_10 : ixN 1 0 = some 0 := rfl
theorem ixN_nat {n i : Nat} (h : i < n) : ixN n (i : Int) = some i := by unfold ixN; rw [if_pos (by omega), if_pos (by omega)]; simp
theorem range_split {n d : Nat} {p r : List Nat} (e : List.range n = p ++ d :: r) : d = p.length ∧ d < n := by
  have h9 : p.length < n := by
    have : p.length < (List.range n).length := by rw [e]; simp
    simpa using this
  have h8 : (List.range n)[p.length]? = some d := by rw [e]; simp
  rw [List.getElem?_range h9] at h8
  cases h8; exact ⟨rfl, h9⟩
theorem seq_intro {f g : DS} {E : DEnds} {δ : Sl} {h : Hh} (k : ∀ N : Sl → Hh → Prop, N = g E → f { E with nx := N } δ h) : dSeq f g E δ h := k _ rfl
theorem mulS {i j : Int} (h : -(2 ^ 64) < i ∧ i < 2 ^ 64) : IntMulOk i j := .of_left (intBits_le_64 h.1 h.2)
theorem mulS' {i j : Int} (h : -(2 ^ 64) < j ∧ j < 2 ^ 64) : IntMulOk i j := .of_right (intBits_le_64 h.1 h.2)
end DL
namespace CM
open PySem L2 DL
theorem sk_step : PyData.strOk (Str.ofString "step") = true := by decide +kernel
theorem sq_step_step : ((Str.ofString "step") == (Str.ofString "step")) = true := by decide +kernel
theorem sq_step_call : ((Str.ofString "step") == (Str.ofString "call")) = false := by decide +kernel
theorem sq_step_in : ((Str.ofString "step") == (Str.ofString "in")) = false := by decide +kernel
theorem sq_step_over : ((Str.ofString "step") == (Str.ofString "over")) = false := by decide +kernel
theorem sq_step_begin : ((Str.ofString "step") == (Str.ofString "begin")) = false := by decide +kernel
theorem sq_step_start : ((Str.ofString "step") == (Str.ofString "start")) = false := by decide +kernel
theorem sq_step_short : ((Str.ofString "step") == (Str.ofString "short")) = false := by decide +kernel
theorem sq_step_along : ((Str.ofString "step") == (Str.ofString "along")) = false := by decide +kernel
theorem sq_step_within : ((Str.ofString "step") == (Str.ofString "within")) = false := by decide +kernel
theorem sq_step_at : ((Str.ofString "step") == (Str.ofString "at")) = false := by decide +kernel
theorem sq_step_out : ((Str.ofString "step") == (Str.ofString "out")) = false := by decide +kernel
theorem sk_call : PyData.strOk (Str.ofString "call") = true := by decide +kernel
theorem sq_call_step : ((Str.ofString "call") == (Str.ofString "step")) = false := by decide +kernel
theorem sq_call_call : ((Str.ofString "call") == (Str.ofString "call")) = true := by decide +kernel
theorem sq_call_in : ((Str.ofString "call") == (Str.ofString "in")) = false := by decide +kernel
theorem sq_call_over : ((Str.ofString "call") == (Str.ofString "over")) = false := by decide +kernel
theorem sq_call_begin : ((Str.ofString "call") == (Str.ofString "begin")) = false := by decide +kernel
theorem sq_call_start : ((Str.ofString "call") == (Str.ofString "start")) = false := by decide +kernel
theorem sq_call_short : ((Str.ofString "call") == (Str.ofString "short")) = false := by decide +kernel
theorem sq_call_along : ((Str.ofString "call") == (Str.ofString "along")) = false := by decide +kernel
theorem sq_call_within : ((Str.ofString "call") == (Str.ofString "within")) = false := by decide +kernel
theorem sq_call_at : ((Str.ofString "call") == (Str.ofString "at")) = false := by decide +kernel
theorem sq_call_out : ((Str.ofString "call") == (Str.ofString "out")) = false := by decide +kernel
theorem sk_in : PyData.strOk (Str.ofString "in") = true := by decide +kernel
theorem sq_in_step : ((Str.ofString "in") == (Str.ofString "step")) = false := by decide +kernel
theorem sq_in_call : ((Str.ofString "in") == (Str.ofString "call")) = false := by decide +kernel
theorem sq_in_in : ((Str.ofString "in") == (Str.ofString "in")) = true := by decide +kernel
theorem sq_in_over : ((Str.ofString "in") == (Str.ofString "over")) = false := by decide +kernel
theorem sq_in_begin : ((Str.ofString "in") == (Str.ofString "begin")) = false := by decide +kernel
theorem sq_in_start : ((Str.ofString "in") == (Str.ofString "start")) = false := by decide +kernel
theorem sq_in_short : ((Str.ofString "in") == (Str.ofString "short")) = false := by decide +kernel
theorem sq_in_along : ((Str.ofString "in") == (Str.ofString "along")) = false := by decide +kernel
theorem sq_in_within : ((Str.ofString "in") == (Str.ofString "within")) = false := by decide +kernel
theorem sq_in_at : ((Str.ofString "in") == (Str.ofString "at")) = false := by decide +kernel
theorem sq_in_out : ((Str.ofString "in") == (Str.ofString "out")) = false := by decide +kernel
theorem sk_over : PyData.strOk (Str.ofString "over") = true := by decide +kernel
theorem sq_over_step : ((Str.ofString "over") == (Str.ofString "step")) = false := by decide +kernel
theorem sq_over_call : ((Str.ofString "over") == (Str.ofString "call")) = false := by decide +kernel
theorem sq_over_in : ((Str.ofString "over") == (Str.ofString "in")) = false := by decide +kernel
theorem sq_over_over : ((Str.ofString "over") == (Str.ofString "over")) = true := by decide +kernel
theorem sq_over_begin : ((Str.ofString "over") == (Str.ofString "begin")) = false := by decide +kernel
theorem sq_over_start : ((Str.ofString "over") == (Str.ofString "start")) = false := by decide +kernel
theorem sq_over_short : ((Str.ofString "over") == (Str.ofString "short")) = false := by decide +kernel
theorem sq_over_along : ((Str.ofString "over") == (Str.ofString "along")) = false := by decide +kernel
theorem sq_over_within : ((Str.ofString "over") == (Str.ofString "within")) = false := by decide +kernel
theorem sq_over_at : ((Str.ofString "over") == (Str.ofString "at")) = false := by decide +kernel
theorem sq_over_out : ((Str.ofString "over") == (Str.ofString "out")) = false := by decide +kernel
theorem sk_begin : PyData.strOk (Str.ofString "begin") = true := by decide +kernel
theorem sq_begin_step : ((Str.ofString "begin") == (Str.ofString "step")) = false := by decide +kernel
theorem sq_begin_call : ((Str.ofString "begin") == (Str.ofString "call")) = false := by decide +kernel
theorem sq_begin_in : ((Str.ofString "begin") == (Str.ofString "in")) = false := by decide +kernel
theorem sq_begin_over : ((Str.ofString "begin") == (Str.ofString "over")) = false := by decide +kernel
theorem sq_begin_begin : ((Str.ofString "begin") == (Str.ofString "begin")) = true := by decide +kernel
theorem sq_begin_start : ((Str.ofString "begin") == (Str.ofString "start")) = false := by decide +kernel
theorem sq_begin_short : ((Str.ofString "begin") == (Str.ofString "short")) = false := by decide +kernel
theorem sq_begin_along : ((Str.ofString "begin") == (Str.ofString "along")) = false := by decide +kernel
theorem sq_begin_within : ((Str.ofString "begin") == (Str.ofString "within")) = false := by decide +kernel
theorem sq_begin_at : ((Str.ofString "begin") == (Str.ofString "at")) = false := by decide +kernel
theorem sq_begin_out : ((Str.ofString "begin") == (Str.ofString "out")) = false := by decide +kernel
theorem sk_start : PyData.strOk (Str.ofString "start") = true := by decide +kernel
theorem sq_start_step : ((Str.ofString "start") == (Str.ofString "step")) = false := by decide +kernel
theorem sq_start_call : ((Str.ofString "start") == (Str.ofString "call")) = false := by decide +kernel
theorem sq_start_in : ((Str.ofString "start") == (Str.ofString "in")) = false := by decide +kernel
theorem sq_start_over : ((Str.ofString "start") == (Str.ofString "over")) = false := by decide +kernel
theorem sq_start_begin : ((Str.ofString "start") == (Str.ofString "begin")) = false := by decide +kernel
theorem sq_start_start : ((Str.ofString "start") == (Str.ofString "start")) = true := by decide +kernel
theorem sq_start_short : ((Str.ofString "start") == (Str.ofString "short")) = false := by decide +kernel
theorem sq_start_along : ((Str.ofString "start") == (Str.ofString "along")) = false := by decide +kernel
theorem sq_start_within : ((Str.ofString "start") == (Str.ofString "within")) = false := by decide +kernel
theorem sq_start_at : ((Str.ofString "start") == (Str.ofString "at")) = false := by decide +kernel
theorem sq_start_out : ((Str.ofString "start") == (Str.ofString "out")) = false := by decide +kernel
theorem sk_short : PyData.strOk (Str.ofString "short") = true := by decide +kernel
theorem sq_short_step : ((Str.ofString "short") == (Str.ofString "step")) = false := by decide +kernel
theorem sq_short_call : ((Str.ofString "short") == (Str.ofString "call")) = false := by decide +kernel
theorem sq_short_in : ((Str.ofString "short") == (Str.ofString "in")) = false := by decide +kernel
theorem sq_short_over : ((Str.ofString "short") == (Str.ofString "over")) = false := by decide +kernel
theorem sq_short_begin : ((Str.ofString "short") == (Str.ofString "begin")) = false := by decide +kernel
theorem sq_short_start : ((Str.ofString "short") == (Str.ofString "start")) = false := by decide +kernel
theorem sq_short_short : ((Str.ofString "short") == (Str.ofString "short")) = true := by decide +kernel
theorem sq_short_along : ((Str.ofString "short") == (Str.ofString "along")) = false := by decide +kernel
theorem sq_short_within : ((Str.ofString "short") == (Str.ofString "within")) = false := by decide +kernel
theorem sq_short_at : ((Str.ofString "short") == (Str.ofString "at")) = false := by decide +kernel
theorem sq_short_out : ((Str.ofString "short") == (Str.ofString "out")) = false := by decide +kernel
theorem sk_along : PyData.strOk (Str.ofString "along") = true := by decide +kernel
theorem sq_along_step : ((Str.ofString "along") == (Str.ofString "step")) = false := by decide +kernel
theorem sq_along_call : ((Str.ofString "along") == (Str.ofString "call")) = false := by decide +kernel
theorem sq_along_in : ((Str.ofString "along") == (Str.ofString "in")) = false := by decide +kernel
theorem sq_along_over : ((Str.ofString "along") == (Str.ofString "over")) = false := by decide +kernel
theorem sq_along_begin : ((Str.ofString "along") == (Str.ofString "begin")) = false := by decide +kernel
theorem sq_along_start : ((Str.ofString "along") == (Str.ofString "start")) = false := by decide +kernel
theorem sq_along_short : ((Str.ofString "along") == (Str.ofString "short")) = false := by decide +kernel
theorem sq_along_along : ((Str.ofString "along") == (Str.ofString "along")) = true := by decide +kernel
theorem sq_along_within : ((Str.ofString "along") == (Str.ofString "within")) = false := by decide +kernel
theorem sq_along_at : ((Str.ofString "along") == (Str.ofString "at")) = false := by decide +kernel
theorem sq_along_out : ((Str.ofString "along") == (Str.ofString "out")) = false := by decide +kernel
theorem sk_within : PyData.strOk (Str.ofString "within") = true := by decide +kernel
theorem sq_within_step : ((Str.ofString "within") == (Str.ofString "step")) = false := by decide +kernel
theorem sq_within_call : ((Str.ofString "within") == (Str.ofString "call")) = false := by decide +kernel
theorem sq_within_in : ((Str.ofString "within") == (Str.ofString "in")) = false := by decide +kernel
theorem sq_within_over : ((Str.ofString "within") == (Str.ofString "over")) = false := by decide +kernel
theorem sq_within_begin : ((Str.ofString "within") == (Str.ofString "begin")) = false := by decide +kernel
theorem sq_within_start : ((Str.ofString "within") == (Str.ofString "start")) = false := by decide +kernel
theorem sq_within_short : ((Str.ofString "within") == (Str.ofString "short")) = false := by decide +kernel
theorem sq_within_along : ((Str.ofString "within") == (Str.ofString "along")) = false := by decide +kernel
theorem sq_within_within : ((Str.ofString "within") == (Str.ofString "within")) = true := by decide +kernel
theorem sq_within_at : ((Str.ofString "within") == (Str.ofString "at")) = false := by decide +kernel
theorem sq_within_out : ((Str.ofString "within") == (Str.ofString "out")) = false := by decide +kernel
theorem sk_at : PyData.strOk (Str.ofString "at") = true := by decide +kernel
theorem sq_at_step : ((Str.ofString "at") == (Str.ofString "step")) = false := by decide +kernel
theorem sq_at_call : ((Str.ofString "at") == (Str.ofString "call")) = false := by decide +kernel
theorem sq_at_in : ((Str.ofString "at") == (Str.ofString "in")) = false := by decide +kernel
theorem sq_at_over : ((Str.ofString "at") == (Str.ofString "over")) = false := by decide +kernel
theorem sq_at_begin : ((Str.ofString "at") == (Str.ofString "begin")) = false := by decide +kernel
theorem sq_at_start : ((Str.ofString "at") == (Str.ofString "start")) = false := by decide +kernel
theorem sq_at_short : ((Str.ofString "at") == (Str.ofString "short")) = false := by decide +kernel
theorem sq_at_along : ((Str.ofString "at") == (Str.ofString "along")) = false := by decide +kernel
theorem sq_at_within : ((Str.ofString "at") == (Str.ofString "within")) = false := by decide +kernel
theorem sq_at_at : ((Str.ofString "at") == (Str.ofString "at")) = true := by decide +kernel
theorem sq_at_out : ((Str.ofString "at") == (Str.ofString "out")) = false := by decide +kernel
theorem sk_out : PyData.strOk (Str.ofString "out") = true := by decide +kernel
theorem sq_out_step : ((Str.ofString "out") == (Str.ofString "step")) = false := by decide +kernel
theorem sq_out_call : ((Str.ofString "out") == (Str.ofString "call")) = false := by decide +kernel
theorem sq_out_in : ((Str.ofString "out") == (Str.ofString "in")) = false := by decide +kernel
theorem sq_out_over : ((Str.ofString "out") == (Str.ofString "over")) = false := by decide +kernel
theorem sq_out_begin : ((Str.ofString "out") == (Str.ofString "begin")) = false := by decide +kernel
theorem sq_out_start : ((Str.ofString "out") == (Str.ofString "start")) = false := by decide +kernel
theorem sq_out_short : ((Str.ofString "out") == (Str.ofString "short")) = false := by decide +kernel
theorem sq_out_along : ((Str.ofString "out") == (Str.ofString "along")) = false := by decide +kernel
theorem sq_out_within : ((Str.ofString "out") == (Str.ofString "within")) = false := by decide +kernel
theorem sq_out_at : ((Str.ofString "out") == (Str.ofString "at")) = false := by decide +kernel
theorem sq_out_out : ((Str.ofString "out") == (Str.ofString "out")) = true := by decide +kernel
end CM
namespace CM
open PySem L2 DL
inductive Kind where
  | step (t : List Nat) | call (g : Nat) (into back over : List Nat)
structure Edge where
  p : Nat
  q : Nat
  cost : Nat
  k : Kind
structure Fn where
  places : Nat
  facts : Nat
  edges : List Edge
noncomputable abbrev Chart := List Fn
inductive Mv where | step | over | inn
  deriving DecidableEq
noncomputable abbrev nD (n : Nat) : D := .int (n : Int)
noncomputable def tD (t : List Nat) : D := .tup (t.map nD)
noncomputable def eD (e : Edge) : D := match e.k with
  | .step t => .tup [.str "step", nD e.p, nD e.q, nD e.cost, tD t]
  | .call g i b o => .tup [.str "call", nD e.p, nD e.q, nD e.cost, nD g, tD i, tD b, tD o]
noncomputable def Edge.isStep (e : Edge) : Bool := match e.k with | .step _ => true | .call _ _ _ _ => false
noncomputable def tOk (t : List Nat) (n m : Nat) : Prop := t.length = n ∧ ∀ x ∈ t, x < 2 ^ m
noncomputable def eOk (C : Chart) (F : Fn) (e : Edge) : Prop := e.p < F.places ∧ e.q < F.places ∧ 1 ≤ e.cost ∧ e.cost ≤ 10 ^ 18 ∧ match e.k with
  | .step t => tOk t F.facts F.facts
  | .call g i b o => ∃ G, C[g]? = some G ∧ tOk i F.facts G.facts ∧ tOk b G.facts F.facts ∧ tOk o F.facts F.facts
structure WF (C : Chart) : Prop where
  one : 1 ≤ C.length
  six : C.length ≤ 6
  fn : ∀ (f : Nat) (F : Fn), C[f]? = some F → 1 ≤ F.places ∧ F.places ≤ 10 ∧ 1 ≤ F.facts ∧ F.facts ≤ 6 ∧ F.edges.length ≤ 100 ∧ ∀ e ∈ F.edges, eOk C F e
noncomputable def ChD (h : Hh) (d : D) (C : Chart) : Prop := ∃ fs, lsOf h d = some fs ∧ fs.length = C.length ∧ ∀ (i : Nat) (F : Fn), C[i]? = some F → ∃ e, fs[i]? = some (.tup [nD F.places, nD F.facts, e]) ∧ lsOf h e = some (F.edges.map eD)
theorem ChD.mono {h h' : Hh} {d : D} {C : Chart} (p : Pre h h') (c : ChD h d C) : ChD h' d C := by
  obtain ⟨fs, h1, h2, h3⟩ := c
  exact ⟨fs, p.ls h1, h2, fun i F e => let ⟨x, a, b⟩ := h3 i F e; ⟨x, a, p.ls b⟩⟩
theorem ChD.len {h : Hh} {d : D} {C : Chart} (c : ChD h d C) : lenD h d = some C.length := by
  obtain ⟨fs, h1, h2, h3⟩ := c
  rw [len_ls h1, h2]
noncomputable def br (t : List Nat) (d : Nat) (e : Int) : Bool := decide (0 ≤ e) && (t.getD d 0).testBit e.toNat
noncomputable def edgeAt (C : Chart) (f : Nat) (n : Int) : Option Edge := if 0 ≤ n then (C[f]?).bind fun F => F.edges[n.toNat]? else none
noncomputable def Edge.tab (e : Edge) (w : Mv) : List Nat := match w, e.k with
  | .step, .step t => t
  | .inn, .call _ i _ _ => i
  | .over, .call _ _ _ o => o
  | _, _ => []
noncomputable def takes (C : Chart) (f p d : Nat) (w : Mv) (n e : Int) : Option Edge := (edgeAt C f n).bind fun E => if (E.isStep == (w == .step)) = true ∧ E.p = p ∧ br (E.tab w) d e = true then some E else none
end CM
namespace CM
open PySem L2 DL
noncomputable def Pd (h : Hh) (d : D) (p : PyData) (n : Nat) : Prop := IsP h d p ∧ p.canLay0 = true ∧ p.depth ≤ n
noncomputable def Pds (h : Hh) (ds : List D) (ps : List PyData) (n : Nat) : Prop := IsPs h ds ps ∧ PyData.canLayAll0 ps = true ∧ PyData.depthAll ps ≤ n
theorem Pd.int {h : Hh} {n : Nat} (i : Int) : Pd h (.int i) (.int i) n := ⟨.int i, rfl, Nat.zero_le _⟩
theorem Pd.non {h : Hh} {n : Nat} : Pd h .non .none n := ⟨.non, rfl, Nat.zero_le _⟩
theorem Pd.str {h : Hh} {n : Nat} {x : Str} (e : PyData.strOk x = true) : Pd h (.str x) (.str x) n := ⟨.str x, e, Nat.zero_le _⟩
theorem Pds.nil {h : Hh} {n : Nat} : Pds h [] [] n := ⟨.nil, rfl, Nat.zero_le _⟩
theorem Pds.cons {h : Hh} {n : Nat} {d : D} {p : PyData} {ds : List D} {ps : List PyData} (a : Pd h d p n) (b : Pds h ds ps n) : Pds h (d :: ds) (p :: ps) n :=
  ⟨.cons a.1 b.1, by show (p.canLay0 && PyData.canLayAll0 ps) = true; rw [a.2.1, b.2.1]; rfl, by show max p.depth (PyData.depthAll ps) ≤ n; exact Nat.max_le.mpr ⟨a.2.2, b.2.2⟩⟩
theorem Pd.tup {h : Hh} {n : Nat} {ds : List D} {ps : List PyData} (a : Pds h ds ps n) : Pd h (.tup ds) (.tuple ps) (n + 1) := ⟨.tup a.1, a.2.1, Nat.succ_le_succ a.2.2⟩
theorem Pd.ref {h : Hh} {n i : Nat} {ds : List D} {ps : List PyData} (e : h[i]? = some (.lst ds)) (a : Pds h ds ps n) : Pd h (.ref i) (.list ps) (n + 1) := ⟨.ref e a.1, a.2.1, Nat.succ_le_succ a.2.2⟩
theorem Pds.map {τ : Type} {h : Hh} {n : Nat} {f : τ → D} {g : τ → PyData} : ∀ {xs : List τ}, (∀ x, Pd h (f x) (g x) n) → Pds h (xs.map f) (xs.map g) n
  | [], _ => .nil
  | x :: xs, k => .cons (k x) (Pds.map k)
theorem Pd.shaped {h : Hh} {n : Nat} {d : D} {p : PyData} (a : Pd h d p n) (e : n ≤ 64) : SeqAt.shaped p = true := by
  unfold SeqAt.shaped
  rw [a.2.1, decide_eq_true (Nat.le_trans a.2.2 e)]; rfl
theorem pEq_same {neg : Bool} {x y : D} {h : Hh} {Q : DK} {p : PyData} {n : Nat} (e : eqS x y = none) (a : Pd h x p n) (b : Pd h y p n) (hn : n ≤ 64) (q : Q (.bl (!neg)) h) : pEq neg x y h Q := by
  unfold pEq
  rw [e]
  refine ⟨p, p, a.1, b.1, a.shaped hn, b.shaped hn, ?_⟩
  rw [SeqAt.eqv_refl p a.2.1]
  cases neg <;> exact q
end CM
namespace CM
open PySem L2 DL
inductive Mo where
  | go (w : Mv) (k e : Nat) | out (e : Nat)
structure Spot where
  f : Nat
  p : Nat
  d : Nat
  cost : Nat
  op : List (Nat × Nat)
noncomputable def stOk (C : Chart) : Nat → List (Nat × Nat) → Prop
  | _, [] => True
  | f, x :: r => ∃ G E i b o, C[x.1]? = some G ∧ G.edges[x.2]? = some E ∧ E.k = .call f i b o ∧ stOk C x.1 r
noncomputable def sOk (C : Chart) (s : Spot) : Prop := ∃ F, C[s.f]? = some F ∧ s.p < F.places ∧ s.d < F.facts ∧ stOk C s.f s.op
inductive Nx (C : Chart) : Spot → Mo → Spot → Prop
  | go {s : Spot} {w : Mv} {k e : Nat} {E : Edge} : w ≠ .inn → takes C s.f s.p s.d w (k : Int) (e : Int) = some E → Nx C s (.go w k e) ⟨s.f, E.q, e, s.cost + E.cost, s.op⟩
  | inn {s : Spot} {k e : Nat} {E : Edge} {g : Nat} {i b o : List Nat} : takes C s.f s.p s.d .inn (k : Int) (e : Int) = some E → E.k = .call g i b o → Nx C s (.go .inn k e) ⟨g, 0, e, s.cost + E.cost, (s.f, k) :: s.op⟩
  | out {s : Spot} {x : Nat × Nat} {r : List (Nat × Nat)} {e : Nat} {F G : Fn} {E : Edge} {g : Nat} {i b o : List Nat} : s.op = x :: r → C[s.f]? = some F → s.p + 1 = F.places → C[x.1]? = some G → G.edges[x.2]? = some E → E.k = .call g i b o → br b s.d (e : Int) = true → Nx C s (.out e) ⟨x.1, E.q, e, s.cost, r⟩
structure Way (C : Chart) (fact : Nat) (ms : List Mo) (ss : List Spot) : Prop where
  len : ss.length = ms.length + 1
  one : ss[0]? = some ⟨0, 0, fact, 0, []⟩
  ok : ∀ s ∈ ss, sOk C s
  nx : ∀ (i : Nat) (m : Mo) (s s' : Spot), ms[i]? = some m → ss[i]? = some s → ss[i + 1]? = some s' → Nx C s m s'
theorem Way.nil {C : Chart} {fact : Nat} {F : Fn} (wf : WF C) (hF : C[0]? = some F) (hd : fact < F.facts) : Way C fact [] [⟨0, 0, fact, 0, []⟩] :=
  ⟨rfl, rfl, fun s hs => by rw [List.mem_singleton.mp hs]; exact ⟨F, hF, (wf.fn 0 F hF).1, hd, trivial⟩, fun i m s s' h => by simp at h⟩
theorem Way.take {C : Chart} {fact : Nat} {ms : List Mo} {ss : List Spot} (W : Way C fact ms ss) {n : Nat} (hn : n ≤ ms.length) : Way C fact (ms.take n) (ss.take (n + 1)) := by
  refine ⟨by rw [List.length_take, List.length_take, W.len]; omega, ?_, fun x hx => W.ok x (List.mem_of_mem_take hx), fun i m a b h1 h2 h3 => ?_⟩
  · rw [List.getElem?_take, if_pos (by omega)]; exact W.one
  · rw [List.getElem?_take] at h1 h2 h3
    split at h1
    · split at h2
      · split at h3
        · exact W.nx i m a b h1 h2 h3
        · cases h3
      · cases h2
    · cases h1
theorem Nx.len {C : Chart} {s s' : Spot} {m : Mo} (n : Nx C s m s') : s'.op.length ≤ s.op.length + 1 := by
  cases n with
  | go => exact Nat.le_succ _
  | inn => exact Nat.le_refl _
  | out h => rw [h]; show _ ≤ (_ :: _).length + 1; simp; omega
end CM
namespace CM
open PySem L2 DL
noncomputable def put (ms : List Nat) (p : Nat × Nat) : List Nat := ms.set p.1 (ms.getD p.1 0 ||| 2 ^ p.2)
noncomputable def many (C : Chart) : Nat := (C.map fun F => F.edges.length).sum
end CM
namespace DL
open PySem PySem.Spec L2
section
variable {K : KP} {α : List Addr} {H : Hp}
theorem RelKV.look {f : Str} : ∀ {ds : List (Str × D)} {us : List (Str × V)} {d : D}, RelKV K α H ds us → ds.lookup f = some d → ∃ u, us.lookup f = some u ∧ RelD K α H d u
  | _, _, _, .nil, e => nomatch e
  | _, _, d, .cons (k := g) r t, e => by
    rw [List.lookup_cons] at e ⊢
    cases q : f == g with
    | true => rw [q] at e; cases e; exact ⟨_, rfl, r⟩
    | false => rw [q] at e; exact RelKV.look t e
theorem RelKV.lookN {f : Str} : ∀ {ds : List (Str × D)} {us : List (Str × V)}, RelKV K α H ds us → ds.lookup f = none → us.lookup f = none
  | _, _, .nil, _ => rfl
  | _, _, .cons (k := g) r t, e => by
    rw [List.lookup_cons] at e ⊢
    cases q : f == g with
    | true => rw [q] at e; cases e
    | false => rw [q] at e; exact RelKV.lookN t e
noncomputable def putA (f : Str) (v : D) : List (Str × D) → List (Str × D)
  | [] => [(f, v)]
  | (g, x) :: r => if g = f then (g, v) :: r else (g, x) :: putA f v r
theorem RelKV.putA {f : Str} {d : D} {u : V} (h : RelD K α H d u) : ∀ {ds : List (Str × D)} {us : List (Str × V)}, RelKV K α H ds us → RelKV K α H (putA f d ds) (putF f u us)
  | _, _, .nil => .cons h .nil
  | _, _, .cons (k := g) (d := d') (u := u') (ds := ds) (us := us) r t => by
    show RelKV K α H (if g = f then (g, d) :: ds else (g, d') :: DL.putA f d ds) (if g = f then (g, u) :: us else (g, u') :: putF f u us)
    by_cases q : g = f
    · rw [if_pos q, if_pos q]; exact .cons h t
    · rw [if_neg q, if_neg q]; exact .cons r (RelKV.putA h t)
theorem RelKV.len {κ : Type} : ∀ {ds : List (κ × D)} {us : List (κ × V)}, RelKV K α H ds us → ds.length = us.length
  | _, _, .nil => rfl
  | _, _, .cons r t => by rw [List.length_cons, List.length_cons, RelKV.len t]
end
noncomputable def insO (cn : Str) (h : Hh) : D → Option (List (Str × D))
  | .ref i => match h[i]? with | some (.ins c fs) => if c = cn then some fs else none | _ => none
  | _ => none
theorem insO_ref {cn : Str} {h : Hh} {i : Nat} {fs : List (Str × D)} (e : h[i]? = some (.ins cn fs)) : insO cn h (.ref i) = some fs := by
  show (match h[i]? with | some (.ins c fs) => if c = cn then some fs else none | _ => none) = _
  rw [e]; exact if_pos rfl
theorem insO_inv {cn : Str} {h : Hh} {d : D} {fs : List (Str × D)} (e : insO cn h d = some fs) : ∃ i, d = .ref i ∧ h[i]? = some (.ins cn fs) := by
  cases d with
  | ref i =>
    have e : (match h[i]? with | some (.ins c fs) => if c = cn then some fs else none | _ => none) = some fs := e
    cases q : h[i]? with
    | none => rw [q] at e; cases e
    | some o =>
      rw [q] at e
      cases o with
      | ins c gs =>
        have e : (if c = cn then some gs else none) = some fs := e
        by_cases z : c = cn
        · rw [if_pos z] at e; cases e; subst z; exact ⟨i, rfl, q⟩
        · rw [if_neg z] at e; cases e
      | _ => cases e
  | _ => cases e
theorem ins_rel {K : KP} {α : List Addr} {H : Hp} {h : Hh} {cn : Str} {d : D} {v : V} {fs : List (Str × D)} (R : HRel K α H h) (r : RelD K α H d v) (e : insO cn h d = some fs) :
    ∃ i p C dx us, d = .ref i ∧ v = .ref p ∧ PySem.W.nsIn K.K mainGlobals cn = some (some (.ref C)) ∧ α[i]? = some p ∧ H p = some (.ins C dx us) ∧ RelKV K α H fs us := by
  obtain ⟨i, rfl, q⟩ := insO_inv e
  cases r with
  | ref hp =>
    obtain ⟨p, C, dx, us, n, e1, e2, e3⟩ := R.ins q
    rw [hp] at e1; cases e1
    exact ⟨i, _, C, dx, us, rfl, rfl, n, hp, e2, e3⟩
structure FldX (K : PySem.W.Frag) (cn f : Str) : Prop where
  ex : ∃ C, PySem.W.nsIn K mainGlobals cn = some (some (.ref C)) ∧ Cls K C ∧ NoAttr K C f
noncomputable def pFld (cn f : Str) : P1 := fun d h Q => match insO cn h d with | some fs => (match fs.lookup f with | some v => Q v h | none => False) | none => False
noncomputable def setF (cn f : Str) (o v : D) (h : Hh) (Q : Hh → Prop) : Prop := match o with
  | .ref i => match h[i]? with | some (.ins c fs) => (c = cn ∧ fs.length < 1000) ∧ Q (h.set i (.ins cn (putA f v fs))) | _ => False
  | _ => False
noncomputable def dSetF (cn f : Str) (fo fv : DE) : DS := fun E δ h => fv δ h fun y h1 => fo δ h1 fun x h2 => setF cn f x y h2 fun h3 => E.nx δ h3
noncomputable def dAugF (cn f : Str) (fo fv : DE) (p : P2) : DS := fun E δ h => fo δ h fun x h1 => match insO cn h1 x with
  | some fs => match fs.lookup f with
    | some v => fv δ h1 fun y h2 => p v y h2 fun z h3 => setF cn f x z h3 fun h4 => E.nx δ h4
    | none => False
  | none => False
theorem setF_lift {K : PySem.W.Frag} {π α : List Addr} {H : Hp} {h : Hh} {cn f : Str} {o v : D} {ov vv : V} {Q' : Hh → Prop} (R : HRel ⟨K, π⟩ α H h) (ro : RelD ⟨K, π⟩ α H o ov) (rv : RelD ⟨K, π⟩ α H v vv) (g : setF cn f o v h Q') :
    ∃ p C dx us, ov = .ref p ∧ PySem.W.nsIn K mainGlobals cn = some (some (.ref C)) ∧ H p = some (.ins C dx us) ∧ us.length < 1000 ∧ ∃ h', Q' h' ∧ Ext α H α (upd H p (.ins C dx (putF f vv us))) ∧ HRel ⟨K, π⟩ α (upd H p (.ins C dx (putF f vv us))) h' := by
  unfold setF at g
  cases ro with
  | @ref i a hp =>
    dsimp only at g
    cases w : h[i]? with
    | none => rw [w] at g; exact g.elim
    | some ob =>
      rw [w] at g
      cases ob with
      | ins c fs =>
        obtain ⟨⟨rfl, hl⟩, g⟩ := g
        obtain ⟨p, C, dx, us, n, e1, e2, e3⟩ := R.ins w
        rw [hp] at e1; cases e1
        have e4 : Ext α H α (upd H a (.ins C dx (putF f vv us))) := Ext.write (List.mem_of_getElem? hp)
        exact ⟨a, C, dx, us, rfl, n, e2, by rw [← e3.len]; exact hl, _, g, e4, R.write hp (.ins n upd_same ((RelKV.putA rv e3).mono e4))⟩
      | _ => exact g.elim
  | _ => exact g.elim
section
variable {X : Cx} {cn f : Str} {a value : Expr} {fa fv : DE} {pos pos' tpos : Pos}
theorem se_fld (c : FldX X.K cn f) (ha : SE X a fa) (hb : attributeBase a f X.env (eval a X.env) = eval a X.env := by rfl) : SE X (.Attribute a f pos) (dUn (pFld cn f) fa) := PE.imp (pe_fld ha hb) fun σ H Q ⟨π, α, δ, h, Q', R, S, g, k⟩ => by
  obtain ⟨C, hns, cl, na⟩ := c.ex
  refine ⟨π, α, δ, h, _, R, S, g, fun d h1 α1 H1 v1 f1 e1 R1 q1 => ?_⟩
  unfold pFld at f1
  cases w : insO cn h1 d with
  | none => rw [w] at f1; exact f1.elim
  | some fs =>
    rw [w] at f1
    dsimp only at f1
    cases l : fs.lookup f with
    | none => rw [l] at f1; exact f1.elim
    | some v =>
      rw [l] at f1
      obtain ⟨i, p, C', dx, us, rfl, rfl, n, hp, e2, e3⟩ := ins_rel R1 q1 w
      rw [hns] at n; cases n
      obtain ⟨u, l1, r1⟩ := e3.look l
      exact ⟨p, C, dx, us, u, rfl, e2, cl, na, l1, k v h1 α1 H1 u f1 e1 R1 r1⟩
theorem s_fld (c : FldX X.K cn f) (ha : SE X a fa) (hv : SE X value fv) (hs : swapsWith value (some (.Attribute a f pos')) pos.line X.env = pure false := by rfl) : SS X (.Assign [.Attribute a f pos'] value pos) (dSetF cn f fa fv) := PS.imp (ps_fld ha hv hs) fun F σ H ⟨π, α, δ, h, E, R, S, q, k⟩ => by
  obtain ⟨C, hns, cl, na⟩ := c.ex
  refine ⟨π, α, δ, h, _, R, S, q, fun y h1 α1 H1 v1 f1 e1 R1 q1 => ?_⟩
  refine ⟨π, α1, δ, h1, _, R1, S.mono e1, f1, fun x h2 α2 H2 v2 f2 e2 R2 q2 => ?_⟩
  obtain ⟨p, C', dx, us, rfl, n, e3, hl, h3, f3, e4, R3⟩ := setF_lift R2 q2 (q1.mono e2) f2
  rw [hns] at n; cases n
  exact ⟨p, C, dx, us, rfl, e3, cl, na, hl, k.nx δ h3 α2 _ σ f3 (e1.trans (e2.trans e4)) R3 (S.mono (e1.trans (e2.trans e4)))⟩
theorem s_fldaug {op : Operator} {p : P2} (c : FldX X.K cn f) (ha : SE X a fa) (hv : SE X value fv) (ho : OpR X (inplaceOp op) (r2 X.K p)) : SS X (.AugAssign (.Attribute a f tpos) op value pos) (dAugF cn f fa fv p) :=
  PS.imp (ps_fldaug (rd := r2 X.K p) ha hv (fun pins s σ H x y u v Q I rx ry q => ho pins s σ H x y u v Q I rx ry q)) fun F σ H ⟨π, α, δ, h, E, R, S, q, k⟩ => by
  obtain ⟨C, hns, cl, na⟩ := c.ex
  refine ⟨π, α, δ, h, _, R, S, q, fun x h1 α1 H1 v1 f1 e1 R1 q1 => ?_⟩
  cases w : insO cn h1 x with
  | none => rw [w] at f1; exact f1.elim
  | some fs =>
    rw [w] at f1
    dsimp only at f1
    cases l : fs.lookup f with
    | none => rw [l] at f1; exact f1.elim
    | some v =>
      rw [l] at f1
      obtain ⟨i, p', C', dx, us, rfl, rfl, n, hp, e2, e3⟩ := ins_rel R1 q1 w
      rw [hns] at n; cases n
      obtain ⟨u, l1, r1⟩ := e3.look l
      refine ⟨p', C, dx, us, u, rfl, e2, cl, na, l1, ?_⟩
      refine ⟨π, α1, δ, h1, _, R1, S.mono e1, f1, fun y h2 α2 H2 v2 f2 e4 R2 q2 => ?_⟩
      refine ⟨π, α2, h2, v, y, _, R2, r1.mono e4, q2, f2, fun z h3 α3 H3 v3 f3 e5 R3 q3 => ?_⟩
      obtain ⟨p2, C2, dx', us', ep, n2, e6, hl, h4, f4, e7, R4⟩ := setF_lift R3 (.ref ((e4.trans e5).get hp)) q3 f3
      cases ep
      rw [hns] at n2; cases n2
      exact ⟨dx', us', e6, hl, k.nx δ h4 α3 _ σ f4 (e1.trans (e4.trans (e5.trans e7))) R4 (S.mono (e1.trans (e4.trans (e5.trans e7))))⟩
end
structure CalM (P : Program) (w : World) (K : PySem.W.Frag) (mg : Str → Option Value) (base : Heap) (k : Nat) (cn m : Str) (ps : List Str) (sp : Sp) : Prop where
  ex : ∃ (C f : Addr) (fd : FuncData), PySem.W.nsIn K mainGlobals cn = some (some (.ref C)) ∧ Cls K C ∧ Meth K C m f ∧ FnOk P w K mg base CX0 k f fd ps sp ∧ Binds K fd ps []
noncomputable def hasM (cn m : Str) (h : Hh) (d : D) : Prop := match insO cn h d with | some fs => fs.lookup m = none | none => False
noncomputable def dMeth (cn m : Str) (g : DSp) (fo : DE) (f : DA) : DE := fun δ h Q => fo δ h fun x h1 => hasM cn m h1 x ∧ f δ h1 fun ds h2 => g (x :: ds) h2 Q
section
variable {X : Cx} {k l : Nat} {ps : List Str} {g : DSp} {cn m : Str} {o e : Expr} {es : List Expr} {fo : DE} {f : DA} {n : Nat} {pos apos : Pos}
theorem meth_lift {C : Addr} {σ : L2.St} {H : Hp} {Q : VK} (hns : PySem.W.nsIn X.K mainGlobals cn = some (some (.ref C))) (hl : l = n + 1) (w : LE X.K (dMeth cn m g fo f) σ H Q) : tMeth C m (spD X.K l g) [] E0 (LE X.K fo) (LA X.K n f) σ H Q := by
  obtain ⟨π, α, δ, h, Q', R, S, q, k⟩ := w
  refine ⟨π, α, δ, h, _, R, S, q, fun x h1 α1 H1 v1 f1 e1 R1 q1 => ?_⟩
  obtain ⟨hm, f1⟩ := f1
  unfold hasM at hm
  cases w : insO cn h1 x with
  | none => rw [w] at hm; exact hm.elim
  | some fs =>
    rw [w] at hm
    dsimp only at hm
    obtain ⟨i, p', C', dx, us, rfl, rfl, n', hp, e2, e3⟩ := ins_rel R1 q1 w
    rw [hns] at n'; cases n'
    refine ⟨p', dx, us, rfl, e2, e3.lookN hm, π, α1, δ, h1, _, R1, S.mono e1, f1, fun ds h2 α2 H2 vs f2 e4 R2 q2 l2 => ?_⟩
    rw [List.append_nil]
    exact ⟨π, α2, h2, .ref i :: ds, Q', R2, .cons (.ref (e4.get hp)) q2, by rw [List.length_cons, l2, hl], f2, fun d h' α' H' v a b c d' => k d h' α' H' v a (e1.trans (e4.trans b)) c d'⟩
theorem se_meth {pl : Sem Bool} (c : CalM X.prog X.w X.K X.mg X.base k cn m ps (spD X.K l g)) (hr : Room k X.A) (ho : SE X o fo) (ha : SA X (e :: es) n f) (hl : l = n + 1 := by rfl)
    (hst : starEach (e :: es) X.env = (false, eval e X.env) :: starEach es X.env := by rfl) (hpl : (backTo pos (starEach es X.env)).any (·.1) = false := by rfl)
    (ht : eval (.Call (.Attribute o m apos) (e :: es) [] pos) X.env = (do
      let ov ← eval o X.env
      standAt apos.atName
      let (f, first) ← holding [ov] (getMethod ov m pl)
      callWith pos f first (backTo pos (starEach (e :: es) X.env)) (backToKw pos (keywordEach [] X.env))) := by rfl) :
    SE X (.Call (.Attribute o m apos) (e :: es) [] pos) (dMeth cn m g fo f) := by
  obtain ⟨C, fa, fd, hns, cl, hm, F, hb⟩ := c.ex
  exact PE.imp (pe_meth (pl := pl) ho cl hm F hr hb .nil pass0 ha hst hpl ht) fun σ H Q w => meth_lift hns hl w
theorem se_meth0 {pl : Sem Bool} (c : CalM X.prog X.w X.K X.mg X.base k cn m ps (spD X.K 1 g)) (hr : Room k X.A) (ho : SE X o fo)
    (ht : eval (.Call (.Attribute o m apos) [] [] pos) X.env = (do
      let ov ← eval o X.env
      standAt apos.atName
      let (f, first) ← holding [ov] (getMethod ov m pl)
      callWith pos f first (backTo pos (starEach [] X.env)) (backToKw pos (keywordEach [] X.env))) := by rfl) :
    SE X (.Call (.Attribute o m apos) [] [] pos) (dMeth cn m g fo dNil) := by
  obtain ⟨C, fa, fd, hns, cl, hm, F, hb⟩ := c.ex
  refine PE.imp (pe_meth0 (pl := pl) ho cl hm F hr hb .nil pass0 ht) fun σ H Q w => ?_
  have w' := meth_lift (l := 1) (n := 0) hns rfl w
  unfold tMeth at w' ⊢
  obtain ⟨π, α, δ, h, Q', R, S, q, k⟩ := w'
  refine ⟨π, α, δ, h, Q', R, S, q, fun d h' α' H' v a b c d' => ?_⟩
  obtain ⟨p, dx, us, e1, e2, e3, π2, α2, δ2, h2, Q2, R2, S2, q2, k2⟩ := k d h' α' H' v a b c d'
  exact ⟨p, dx, us, e1, e2, e3, k2 [] h2 α2 H' [] q2 (Ext.refl ..) R2 .nil rfl⟩
end
structure MakeX (P : Program) (w : World) (K : PySem.W.Frag) (mg : Str → Option Value) (base : Heap) (k : Nat) (cn : Str) (ps : List Str) (sp : Sp) : Prop where
  ex : ∃ (C f : Addr) (fd : FuncData), mg cn = some (.ref C) ∧ PySem.W.nsIn K mainGlobals cn = some (some (.ref C)) ∧ Mk K C f ∧ FnOk P w K mg base CX0 k f fd ps sp ∧ Binds K fd ps []
noncomputable def dMake (cn : Str) (g : DSp) (f : DA) : DE := fun δ h Q => f δ h fun ds h1 => g (.ref h1.length :: ds) (h1 ++ [.ins cn []]) fun v h2 => v = .non ∧ Q (.ref h1.length) h2
section
variable {X : Cx} {k l : Nat} {ps : List Str} {g : DSp} {cn : Str} {e : Expr} {es : List Expr} {f : DA} {n : Nat} {p pos : Pos}
theorem make_lift {C : Addr} {σ : L2.St} {H : Hp} {Q : VK} (hns : PySem.W.nsIn X.K mainGlobals cn = some (some (.ref C))) (hl : l = n + 1) (w : LE X.K (dMake cn g f) σ H Q) : tMake C (spD X.K l g) [] E0 (LA X.K n f) σ H Q := by
  obtain ⟨π, α, δ, h, Q', R, S, q, k⟩ := w
  refine ⟨π, α, δ, h, _, R, S, q, fun ds h1 α1 H1 vs f1 e1 R1 q1 l1 => fun x dx hx hdx hne => ?_⟩
  rw [List.append_nil]
  have hx' : upd H1 dx (.own x) x = none := by rw [upd_ne (Ne.symm hne)]; exact hx
  have e2 : Ext α1 H1 (α1 ++ [x]) (upd (upd H1 dx (.own x)) x (.ins C dx [])) := (Ext.new hdx).trans (Ext.newT hx')
  have gx : (α1 ++ [x])[h1.length]? = some x := by rw [← R1.len]; simp
  refine ⟨π, α1 ++ [x], h1 ++ [.ins cn []], .ref h1.length :: ds, _, (R1.new hdx).newT hx' (.ins hns upd_same .nil), .cons (.ref gx) (q1.mono e2), by rw [List.length_cons, l1, hl], f1, fun d h' α' H' v a b c d' => ?_⟩
  obtain ⟨rfl, a⟩ := a
  cases d'
  exact ⟨rfl, k _ h' α' H' _ a (e1.trans (e2.trans b)) c (.ref (b.get gx))⟩
theorem se_make0 (c : MakeX X.prog X.w X.K X.mg X.base k cn ps (spD X.K 1 g)) (hr : Room (k + 1) X.A) (hg : Gl X cn) (hdb : (cn == ("__debug__" : Str)) = false := by decide) : SE X (.Call (.Name cn p) [] [] pos) (dMake cn g dNil) := by
  obtain ⟨C, fa, fd, hm, hns, M, F, hb⟩ := c.ex
  refine PE.imp (pe_make0 M F hr hg hm hb .nil pass0 hdb) fun σ H Q w => ?_
  obtain ⟨π, α, δ, h, Q', R, S, q, k⟩ := make_lift (l := 1) (n := 0) hns rfl w
  exact k [] h α H [] q (Ext.refl ..) R .nil rfl
end
end DL
namespace DL
open PySem PySem.Spec L2
noncomputable def intsO : List D → Option (List Int)
  | [] => some []
  | .int i :: r => match intsO r with | some ns => some (i :: ns) | none => none
  | _ => none
theorem intsO_rel {K : KP} {α : List Addr} {H : Hp} : ∀ {ds : List D} {us : List V} {ns : List Int}, RelDs K α H ds us → intsO ds = some ns → us = ns.map V.int
  | [], _, _, r, e => by cases r; cases e; rfl
  | d :: ds, _, _, r, e => by
    cases r with
    | cons h t =>
      cases h with
      | int i =>
        have e : (match intsO ds with | some ns => some (i :: ns) | none => none) = some _ := e
        cases q : intsO ds with
        | none => rw [q] at e; cases e
        | some ms => rw [q] at e; cases e; rw [intsO_rel t q]; rfl
      | _ => cases e
noncomputable def pLtT : P2 := fun x y h Q => match x, y with
  | .tup xs, .tup ys => (match intsO xs, intsO ys with | some ns, some ms => Q (.bl (HT.lexLt ns ms)) h | _, _ => False)
  | _, _ => False
noncomputable def pCatS : P2 := fun x y h Q => match x, y with
  | .str i, .str j => i.length + j.length ≤ 16777216 ∧ Q (.str (i ++ j)) h
  | _, _ => False
noncomputable def pStr : PN := fun ds h Q => match ds with | [.int i] => i.natAbs.log2 < 1920 ∧ Q (.str (toString i)) h | _ => False
section
variable {X : Cx} {o e : Expr} {fo fe : DE} {cpos apos : Pos}
theorem ok_ltT (hu : X.A.units < cLine) : OpR X (compareOp .Lt) (r2 X.K pLtT) := OpR.imp (op_ltT hu) fun x y H Q ⟨π, α, h, d, e, Q', R, r1, r2, f, k⟩ => by
  unfold pLtT at f
  cases r1 with
  | tup t1 s1 =>
    cases r2 with
    | tup t2 s2 =>
      dsimp only at f
      split at f
      · rename_i ns ms w1 w2
        have e1 := intsO_rel s1 w1
        have e2 := intsO_rel s2 w2
        subst e1; subst e2
        exact ⟨_, _, ns, ms, rfl, rfl, t1.sq, t2.sq, k _ h α H _ f (Ext.refl ..) R (.bl _)⟩
      · exact f.elim
    | _ => exact f.elim
  | _ => exact f.elim
theorem ok_catS : OpR X (binaryOp .Add) (r2 X.K pCatS) := OpR.imp op_add_str fun x y H Q ⟨π, α, h, d, e, Q', R, r1, r2, f, k⟩ => by
  unfold pCatS at f
  cases r1 with
  | str i =>
    cases r2 with
    | str j => exact ⟨i, j, rfl, rfl, by rw [sizeLine_eq]; exact f.1, k _ h α H _ f.2 (Ext.refl ..) R (.str _)⟩
    | _ => exact f.elim
  | _ => exact f.elim
theorem ok_str : CallR X (.type "str") (rN X.K pStr) := CallR.imp call_str_int fun xs H Q ⟨π, α, h, ds, Q', R, rs, f, k⟩ => by
  unfold pStr at f
  split at f
  · obtain ⟨v, rfl, rd⟩ := rs.inv1
    cases rd
    exact ⟨_, rfl, f.1, k _ h α H _ f.2 (Ext.refl ..) R (.str _)⟩
  · exact f.elim
noncomputable def dPopAt (fo : DE) (fs : DA) : DE := fun δ h Q => fo δ h fun d h1 => match d with
  | .ref i => (match h1[i]? with
    | some (.lst _) => fs δ h1 fun ds h2 => (match ds, h2[i]? with
      | [.int n], some (.lst xs) => (0 ≤ n ∧ n < 2 ^ 62) ∧ (match xs[n.toNat]? with | some y => Q y (h2.set i (.lst (xs.eraseIdx n.toNat))) | none => False)
      | _, _ => False)
    | _ => False)
  | _ => False
theorem seqIx {n : Int} {m : Nat} (h0 : 0 ≤ n) (h1 : n.toNat < m) : seqIndex? n m = some n.toNat := by
  unfold seqIndex?
  dsimp only
  have e : (if n < 0 then n + (m : Int) else n) = n := if_neg (by omega)
  rw [e, decide_eq_true h0, decide_eq_true (show n < (m : Int) by omega)]; rfl
theorem RelDs.erase {K : KP} {α : List Addr} {H : Hp} : ∀ {ds : List D} {us : List V} (k : Nat), RelDs K α H ds us → RelDs K α H (ds.eraseIdx k) (us.eraseIdx k)
  | [], _, k, r => by cases r; exact .nil
  | d :: ds, _, k, r => by
    cases r with
    | cons h t => cases k with
      | zero => exact t
      | succ k => exact .cons h (RelDs.erase k t)
theorem se_popAt {fs : DA} {n : Nat} (ho : SE X o fo) (ha : SA X [e] n fs) (hbase : attributeBase o "pop" X.env (eval o X.env) = eval o X.env := by rfl)
    (hfew : ((backTo cpos (starEach [e] X.env)).all (fun x => !x.1) && (backToKw cpos (keywordEach [] X.env)).all (fun x => x.1.isSome)
      && decide ([e].length + ([] : List Keyword).length + (if ([] : List Keyword).isEmpty then 0 else 1) < 30)) = true := by rfl)
    (hline : (apos.endLine == cpos.line) = true := by rfl) (hs : starEach [e] X.env = (false, eval e X.env) :: starEach [] X.env := by rfl) (hplain : (backTo cpos (starEach [] X.env)).any (·.1) = false := by rfl) :
    SE X (.Call (.Attribute o "pop" apos) [e] [] cpos) (dPopAt fo fs) :=
  PE.imp (pe_bm PySem.F.plainAttrs_list PySem.F.slot_list_pop PySem.F.type_list_pop mt_popAt ho ha hbase hfew hline hs hplain) fun σ H Q ⟨π, α, δ, h, Q', R, S, f, k⟩ => by
    refine ⟨π, α, δ, h, _, R, S, f, fun d h1 α1 H1 v1 f1 e1 R1 q1 => ?_⟩
    cases q1 with
    | @ref i a hp =>
      dsimp only at f1
      cases w : h1[i]? with
      | none => rw [w] at f1; exact f1.elim
      | some ob =>
        rw [w] at f1
        cases ob with
        | lst xs =>
          obtain ⟨us, e2, e3⟩ := refL R1 hp w
          refine ⟨.inl ⟨rfl, us, SqL.of e2⟩, π, α1, δ, h1, _, R1, S.mono e1, f1, fun ds h2 α2 H2 vs f2 e2 R2 q2 l2 => ?_⟩
          split at f2
          · rename_i m ys w2
            obtain ⟨u, rfl, q9⟩ := q2.inv1
            cases q9
            have hp2 := e2.get hp
            obtain ⟨us2, g2, g3⟩ := refL R2 hp2 w2
            obtain ⟨⟨h0, h62⟩, f2⟩ := f2
            cases y : ys[m.toNat]? with
            | none => rw [y] at f2; exact f2.elim
            | some z =>
              rw [y] at f2
              obtain ⟨u', g4, g5⟩ := g3.get y
              have e4 : Ext α2 H2 α2 (upd H2 a (.lst (us2.eraseIdx m.toNat))) := Ext.write (List.mem_of_getElem? hp2)
              exact ⟨a, us2, m, m.toNat, u', rfl, rfl, g2, by omega, by omega, seqIx h0 (List.getElem?_eq_some_iff.mp g4).1, g4, k _ _ α2 _ _ f2 (e1.trans (e2.trans e4)) (R2.write hp2 (.lst upd_same ((g3.erase m.toNat).mono e4))) (g5.mono e4)⟩
          · exact f2.elim
        | _ => exact f1.elim
    | _ => exact f1.elim
end
end DL
namespace CM
open PySem L2 DL
structure Ord (lt : Nat → Nat → Bool) : Prop where
  as : ∀ a b, lt a b = true → lt b a = false
  tr : ∀ a b c, lt a b = false → lt b c = false → lt a c = false
  eq : ∀ a b, lt a b = false → lt b a = false → a = b
noncomputable def at0 (xs : List Nat) (i : Nat) : Nat := xs.getD i 0
theorem at0_set (xs : List Nat) (i j v : Nat) (hi : i < xs.length) : at0 (xs.set i v) j = if i = j then v else at0 xs j := by
  unfold at0
  rw [List.getD_eq_getElem?_getD, List.getElem?_set, List.getD_eq_getElem?_getD]
  by_cases h : i = j
  · subst h; simp [hi]
  · simp [h]
noncomputable def HP (lt : Nat → Nat → Bool) (xs : List Nat) : Prop := ∀ i, 0 < i → i < xs.length → lt (at0 xs i) (at0 xs ((i - 1) / 2)) = false
noncomputable def Up (lt : Nat → Nat → Bool) (zs : List Nat) (k : Nat) : Prop := k < zs.length ∧ (∀ i, 0 < i → i < zs.length → i ≠ k → lt (at0 zs i) (at0 zs ((i - 1) / 2)) = false) ∧ ∀ i, i < zs.length → 0 < i → (i - 1) / 2 = k → 0 < k → lt (at0 zs i) (at0 zs ((k - 1) / 2)) = false
noncomputable def Dn (lt : Nat → Nat → Bool) (zs : List Nat) (k : Nat) : Prop := k < zs.length ∧ (∀ i, 0 < i → i < zs.length → (i - 1) / 2 ≠ k → lt (at0 zs i) (at0 zs ((i - 1) / 2)) = false) ∧ ∀ i, i < zs.length → 0 < i → (i - 1) / 2 = k → 0 < k → lt (at0 zs i) (at0 zs ((k - 1) / 2)) = false
noncomputable def swp2 (zs : List Nat) (k j : Nat) : List Nat := (zs.set k (at0 zs j)).set j (at0 zs k)
theorem swp2_len (zs : List Nat) (k j : Nat) : (swp2 zs k j).length = zs.length := by unfold swp2; simp
theorem swp2_at {zs : List Nat} {k j : Nat} (hk : k < zs.length) (hj : j < zs.length) (i : Nat) : at0 (swp2 zs k j) i = if j = i then at0 zs k else if k = i then at0 zs j else at0 zs i := by
  unfold swp2
  rw [at0_set _ _ _ _ (by simpa using hj), at0_set _ _ _ _ hk]
theorem at0_get {zs : List Nat} {k : Nat} (hk : k < zs.length) : zs[k] = at0 zs k := by unfold at0; rw [List.getD_eq_getElem?_getD, List.getElem?_eq_getElem hk]; rfl
theorem swp2_perm {zs : List Nat} {k j : Nat} (hk : k < zs.length) (hj : j < zs.length) (hkj : k ≠ j) : (swp2 zs k j).Perm zs := by
  rw [List.perm_iff_count]
  intro a
  unfold swp2
  have h1 : j < (zs.set k (at0 zs j)).length := by simpa using hj
  rw [List.count_set h1, List.count_set hk, List.getElem_set_ne hkj, at0_get hk, at0_get hj]
  have p1 : zs[k] = a → 0 < zs.count a := fun e => List.count_pos_iff.mpr (e ▸ List.getElem_mem hk)
  rw [at0_get hk] at p1
  generalize at0 zs k = x at *
  generalize at0 zs j = y at *
  generalize zs.count a = n at *
  by_cases e1 : x = a <;> by_cases e2 : y = a
  · have := p1 e1; simp [e1, e2]; omega
  · have := p1 e1; simp [e1, e2]; omega
  · simp [e1, e2]
  · simp [e1, e2]
section
variable {lt : Nat → Nat → Bool}
theorem Up.step (O : Ord lt) {zs : List Nat} {k : Nat} (u : Up lt zs k) (h0 : 0 < k) (hl : lt (at0 zs k) (at0 zs ((k - 1) / 2)) = true) : Up lt (swp2 zs k ((k - 1) / 2)) ((k - 1) / 2) := by
  obtain ⟨hk, u1, u2⟩ := u
  have hp : (k - 1) / 2 < k := by omega
  have at_ := swp2_at hk (Nat.lt_trans hp hk)
  refine ⟨by rw [swp2_len]; omega, fun i hi hl' hne => ?_, fun i hi hi0 hip hp0 => ?_⟩
  · rw [swp2_len] at hl'
    rw [at_, at_, if_neg (Ne.symm hne)]
    by_cases e1 : k = i
    · subst e1
      rw [if_pos rfl, if_pos rfl]
      exact O.as _ _ hl
    · rw [if_neg e1]
      by_cases e2 : (k - 1) / 2 = (i - 1) / 2
      · rw [if_pos e2]
        have := u1 i hi hl' (Ne.symm e1)
        rw [← e2] at this
        exact O.tr _ _ _ this (O.as _ _ hl)
      · rw [if_neg e2]
        by_cases e3 : k = (i - 1) / 2
        · rw [if_pos e3]
          exact u2 i hl' hi e3.symm h0
        · rw [if_neg e3]
          exact u1 i hi hl' (Ne.symm e1)
  · rw [swp2_len] at hi
    have hpp : ((k - 1) / 2 - 1) / 2 < (k - 1) / 2 := by omega
    rw [at_, at_, if_neg (show ¬ (k - 1) / 2 = i by omega), if_neg (show ¬ (k - 1) / 2 = ((k - 1) / 2 - 1) / 2 by omega), if_neg (show ¬ k = ((k - 1) / 2 - 1) / 2 by omega)]
    have hpar := u1 ((k - 1) / 2) hp0 (by omega) (by omega)
    by_cases e1 : k = i
    · rw [if_pos e1]; exact hpar
    · rw [if_neg e1]
      have := u1 i hi0 hi (Ne.symm e1)
      rw [hip] at this
      exact O.tr _ _ _ this hpar
theorem Up.done {zs : List Nat} {k : Nat} (u : Up lt zs k) (h : k = 0 ∨ lt (at0 zs k) (at0 zs ((k - 1) / 2)) = false) : HP lt zs := by
  intro i hi hl
  by_cases e : i = k
  · subst e
    rcases h with h | h
    · omega
    · exact h
  · exact u.2.1 i hi hl e
noncomputable def lsb (lt : Nat → Nat → Bool) (xs : List Nat) (k : Nat) : Nat := if 2 * k + 2 < xs.length ∧ lt (at0 xs (2 * k + 2)) (at0 xs (2 * k + 1)) = true then 2 * k + 2 else 2 * k + 1
theorem lsb_or (xs : List Nat) (k : Nat) : lsb lt xs k = 2 * k + 1 ∨ lsb lt xs k = 2 * k + 2 := by unfold lsb; split <;> simp
theorem lsb_le (O : Ord lt) {xs : List Nat} {k i : Nat} (h0 : 0 < i) (hp : (i - 1) / 2 = k) (hi : i < xs.length) : lt (at0 xs i) (at0 xs (lsb lt xs k)) = false := by
  have irr : ∀ a, lt a a = false := fun a => by cases h : lt a a with | false => rfl | true => exact h.symm.trans (O.as a a h)
  have : i = 2 * k + 1 ∨ i = 2 * k + 2 := by omega
  unfold lsb
  rcases this with rfl | rfl
  · split
    · rename_i h; exact O.as _ _ h.2
    · exact irr _
  · split
    · exact irr _
    · rename_i h
      cases q : lt (at0 xs (2 * k + 2)) (at0 xs (2 * k + 1)) with
      | false => rfl
      | true => exact absurd ⟨hi, q⟩ h
theorem lsb_lt {xs : List Nat} {k i : Nat} (h0 : 0 < i) (hp : (i - 1) / 2 = k) (hi : i < xs.length) : lsb lt xs k < xs.length := by
  unfold lsb
  split
  · rename_i h; exact h.1
  · omega
theorem Dn.step (O : Ord lt) {zs : List Nat} {k : Nat} (u : Dn lt zs k) (hj : lsb lt zs k < zs.length) (hl : lt (at0 zs (lsb lt zs k)) (at0 zs k) = true) : Dn lt (swp2 zs k (lsb lt zs k)) (lsb lt zs k) := by
  obtain ⟨hk, u1, u2⟩ := u
  have hor := lsb_or (lt := lt) zs k
  have le : ∀ i, 0 < i → (i - 1) / 2 = k → i < zs.length → lt (at0 zs i) (at0 zs (lsb lt zs k)) = false := fun i a b c => lsb_le O a b c
  generalize lsb lt zs k = j at *
  have at_ := swp2_at hk hj
  refine ⟨by rw [swp2_len]; omega, fun i hi hl' hne => ?_, fun i hi hi0 hip hp0 => ?_⟩
  · rw [swp2_len] at hl'
    rw [at_, at_, if_neg (Ne.symm hne)]
    by_cases e1 : j = i
    · subst e1
      rw [if_pos rfl, if_pos (show k = (j - 1) / 2 by omega)]
      exact O.as _ _ hl
    · rw [if_neg e1]
      by_cases e2 : k = (i - 1) / 2
      · rw [if_pos e2, if_neg (show ¬ k = i by omega)]
        exact le i hi e2.symm hl'
      · rw [if_neg e2]
        by_cases e3 : k = i
        · subst e3
          rw [if_pos rfl]
          exact u2 j hj (by omega) (by omega) hi
        · rw [if_neg e3]
          exact u1 i hi hl' (Ne.symm e2)
  · rw [swp2_len] at hi
    rw [at_, at_, if_neg (show ¬ j = i by omega), if_neg (show ¬ k = i by omega), if_neg (show ¬ j = (j - 1) / 2 by omega), if_pos (show k = (j - 1) / 2 by omega)]
    have := u1 i hi0 hi (by omega)
    rw [hip] at this
    exact this
theorem Dn.done (O : Ord lt) {zs : List Nat} {k : Nat} (u : Dn lt zs k) (h : zs.length ≤ lsb lt zs k ∨ lt (at0 zs (lsb lt zs k)) (at0 zs k) = false) : HP lt zs := by
  intro i hi hl
  by_cases e : (i - 1) / 2 = k
  · have h1 := lsb_lt (lt := lt) hi e hl
    rcases h with h | h
    · omega
    · rw [e]
      exact O.tr _ _ _ (lsb_le O hi e hl) h
  · exact u.2.1 i hi hl e
theorem HP.root (O : Ord lt) {xs : List Nat} (h : HP lt xs) : ∀ i, i < xs.length → lt (at0 xs i) (at0 xs 0) = false := by
  have irr : ∀ a, lt a a = false := fun a => by cases h : lt a a with | false => rfl | true => exact h.symm.trans (O.as a a h)
  intro i
  induction i using Nat.strongRecOn with
  | _ i ih =>
    intro hi
    by_cases z : i = 0
    · subst z; exact irr _
    · exact O.tr _ _ _ (h i (by omega) hi) (ih ((i - 1) / 2) (by omega) (by omega))
theorem HP.up {xs : List Nat} (h : HP lt xs) (v : Nat) : Up lt (xs ++ [v]) xs.length := by
  have at1 : ∀ i, i < xs.length → at0 (xs ++ [v]) i = at0 xs i := fun i hi => by
    unfold at0
    rw [List.getD_eq_getElem?_getD, List.getD_eq_getElem?_getD, List.getElem?_append_left hi]
  refine ⟨by simp, fun i hi hl hne => ?_, fun i hi hi0 hip hp0 => ?_⟩
  · have : i < xs.length := by simp at hl; omega
    rw [at1 i this, at1 _ (by omega)]
    exact h i hi this
  · simp at hi; omega
theorem HP.dn {xs : List Nat} (h : HP lt xs) (v : Nat) (h1 : 1 < xs.length) : Dn lt (xs.dropLast.set 0 v) 0 := by
  have hl : (xs.dropLast.set 0 v).length = xs.length - 1 := by simp
  have at1 : ∀ i, 0 < i → i < xs.length - 1 → at0 (xs.dropLast.set 0 v) i = at0 xs i := fun i h0 hi => by
    rw [at0_set _ _ _ _ (by rw [List.length_dropLast]; omega), if_neg (by omega)]
    unfold at0
    rw [List.getD_eq_getElem?_getD, List.getD_eq_getElem?_getD, List.getElem?_dropLast, if_pos hi]
  refine ⟨by rw [hl]; omega, fun i hi hi' hne => ?_, fun i hi hi0 hip hp0 => by omega⟩
  rw [hl] at hi'
  rw [at1 i hi hi', at1 _ (by omega) (by omega)]
  exact h i hi (by omega)
theorem take_perm {x v : Nat} {r zs : List Nat} (p : zs.Perm ((x :: r ++ [v]).dropLast.set 0 v)) : (x :: zs).Perm (x :: r ++ [v]) := by
  rw [List.dropLast_concat] at p
  exact (List.Perm.cons x p).trans ((List.perm_append_singleton v r).symm.cons x)
end
end CM
namespace DL
open PySem L2
theorem while_by {t : DT} {b : DS} {E : DEnds} (P : Nat → Sl → Hh → Prop) {m : Nat} {δ : Sl} {h : Hh} (h0 : P m δ h) (step : ∀ m δ h (N : Sl → Hh → Prop), P m δ h → (∀ m' δ' h', m' < m → P m' δ' h' → N δ' h') → t δ h fun c h1 => if c = true then b { E with nx := N, ct := N, bk := E.nx } δ h1 else E.nx δ h1) : dWhile t b E δ h := by
  refine ⟨m + 1, ?_⟩
  have key : ∀ n m δ h, m < n → P m δ h → whN t b E n δ h := by
    intro n
    induction n with
    | zero => intro m δ h hm; omega
    | succ n ih =>
      intro m δ h hm hp
      exact step m δ h _ hp fun m' δ' h' hm' hp' => ih m' δ' h' (by omega) hp'
  exact key _ m δ h (Nat.lt_succ_self _) h0
theorem set_same {h : Hh} {j : Nat} {o : O} (e : h[j]? = some o) : h.set j o = h := by
  obtain ⟨hl, e⟩ := List.getElem?_eq_some_iff.mp e
  rw [← e, List.set_getElem_self]
end DL
namespace CM
open PySem L2 DL
noncomputable def okT (t : D) : Prop := nrD t = true ∧ ∃ p, ∀ h, Pd h t p 3
noncomputable abbrev Tb := List (Int × D)
noncomputable def cst (T : Tb) (n : Nat) : Int := (T.getD n (0, .non)).1
noncomputable def thg (T : Tb) (n : Nat) : D := (T.getD n (0, .non)).2
noncomputable def hD (T : Tb) (n : Nat) : D := .tup [.int (cst T n), nD n, thg T n]
noncomputable def sD (T : Tb) (n : Nat) : D := .tup [.int (cst T n), thg T n]
noncomputable def ltT (T : Tb) (a b : Nat) : Bool := HT.lexLt [cst T a, (a : Int)] [cst T b, (b : Int)]
theorem ltT_iff {T : Tb} {a b : Nat} : ltT T a b = true ↔ cst T a < cst T b ∨ (cst T a = cst T b ∧ a < b) := by
  unfold ltT
  rw [HT.lexLt_cons, HT.lexLt_cons, HT.lexLt_nil_nil]
  by_cases e : cst T a = cst T b
  · rw [if_pos e]
    by_cases e2 : (a : Int) = b
    · rw [if_pos e2]; simp; omega
    · rw [if_neg e2, decide_eq_true_iff]; omega
  · rw [if_neg e, decide_eq_true_iff]; omega
theorem ltT_not {T : Tb} {a b : Nat} : ltT T a b = false ↔ ¬ (cst T a < cst T b ∨ (cst T a = cst T b ∧ a < b)) := by rw [← ltT_iff, Bool.not_eq_true]
theorem ordT (T : Tb) : Ord (ltT T) :=
  ⟨fun a b h => by rw [ltT_iff] at h; rw [ltT_not]; omega, fun a b c h1 h2 => by rw [ltT_not] at *; omega, fun a b h1 h2 => by rw [ltT_not] at *; omega⟩
theorem getD_app {T : Tb} {x : Int × D} {n : Nat} (h : n < T.length) : (T ++ [x]).getD n (0, .non) = T.getD n (0, .non) := by
  rw [List.getD_eq_getElem?_getD, List.getD_eq_getElem?_getD, List.getElem?_append_left h]
theorem getD_new (T : Tb) (x : Int × D) : (T ++ [x]).getD T.length (0, .non) = x := by
  rw [List.getD_eq_getElem?_getD, List.getElem?_append_right (Nat.le_refl _), Nat.sub_self]; rfl
theorem cst_app {T : Tb} {x : Int × D} {n : Nat} (h : n < T.length) : cst (T ++ [x]) n = cst T n := by unfold cst; rw [getD_app h]
theorem thg_app {T : Tb} {x : Int × D} {n : Nat} (h : n < T.length) : thg (T ++ [x]) n = thg T n := by unfold thg; rw [getD_app h]
theorem hD_new (T : Tb) (c : Int) (t : D) : hD (T ++ [(c, t)]) T.length = .tup [.int c, nD T.length, t] := by unfold hD cst thg; rw [getD_new]
theorem sD_new (T : Tb) (c : Int) (t : D) : sD (T ++ [(c, t)]) T.length = .tup [.int c, t] := by unfold sD cst thg; rw [getD_new]
theorem hD_app {T : Tb} {x : Int × D} {xs : List Nat} (h : ∀ n ∈ xs, n < T.length) : xs.map (hD (T ++ [x])) = xs.map (hD T) := List.map_congr_left fun n hn => by unfold hD; rw [cst_app (h n hn), thg_app (h n hn)]
theorem sD_app {T : Tb} {x : Int × D} {xs : List Nat} (h : ∀ n ∈ xs, n < T.length) : xs.map (sD (T ++ [x])) = xs.map (sD T) := List.map_congr_left fun n hn => by unfold sD; rw [cst_app (h n hn), thg_app (h n hn)]
theorem at0_mem {xs : List Nat} {i : Nat} (h : i < xs.length) : at0 xs i ∈ xs := by rw [← at0_get h]; exact List.getElem_mem h
theorem HP.app {T : Tb} {x : Int × D} {xs : List Nat} (h : HP (ltT T) xs) (hl : ∀ n ∈ xs, n < T.length) : HP (ltT (T ++ [x])) xs := fun i h0 hi => by
  have := h i h0 hi
  unfold ltT at this ⊢
  rw [cst_app (hl _ (at0_mem hi)), cst_app (hl _ (at0_mem (by omega)))]
  exact this
structure QInv (T : Tb) (hs ss : List Nat) : Prop where
  perm : hs.Perm ss
  hp : HP (ltT T) hs
  inc : ss.Pairwise (· < ·)
  lt : ∀ n ∈ ss, n < T.length
  ok : ∀ x ∈ T, okT x.2
  len : ss.length ≤ T.length
theorem QInv.nil : QInv [] [] [] := ⟨.refl _, fun i _ h => absurd h (Nat.not_lt_zero _), .nil, fun n h => (nomatch h), fun n h => (nomatch h), Nat.le_refl _⟩
theorem QInv.lth {T : Tb} {hs ss : List Nat} (q : QInv T hs ss) : ∀ n ∈ hs, n < T.length := fun n hn => q.lt n (q.perm.mem_iff.mp hn)
theorem QInv.put {T : Tb} {hs ss hs' : List Nat} {c : Int} {t : D} (q : QInv T hs ss) (ht : okT t) (p : hs'.Perm (hs ++ [T.length])) (h : HP (ltT (T ++ [(c, t)])) hs') : QInv (T ++ [(c, t)]) hs' (ss ++ [T.length]) := by
  refine ⟨p.trans (q.perm.append_right _), h, ?_, fun n hn => ?_, fun x hx => ?_, by simp; exact q.len⟩
  · rw [List.pairwise_append]
    exact ⟨q.inc, by simp, fun a ha b hb => by rw [List.mem_singleton.mp hb]; exact q.lt a ha⟩
  · rw [List.length_append, List.length_singleton]
    rcases List.mem_append.mp hn with z | z
    · have := q.lt n z; omega
    · rw [List.mem_singleton.mp z]; omega
  · rcases List.mem_append.mp hx with z | z
    · exact q.ok x z
    · rw [List.mem_singleton.mp z]; exact ht
theorem QInv.first {T : Tb} {hs ss : List Nat} (q : QInv T hs ss) {a : Nat} (ha : a < ss.length) (m1 : ∀ j (hj : j < ss.length), cst T ss[a] ≤ cst T ss[j]) (m2 : ∀ j (hj : j < ss.length), j < a → cst T ss[a] < cst T ss[j]) : ss[a] = at0 hs 0 := by
  have h0 : 0 < hs.length := by rw [q.perm.length_eq]; omega
  have inc := List.pairwise_iff_getElem.mp q.inc
  refine (ordT T).eq _ _ ?_ ?_
  · obtain ⟨i, hi, e⟩ := List.getElem_of_mem (q.perm.mem_iff.mpr (List.getElem_mem ha))
    rw [← e, at0_get hi]
    exact q.hp.root (ordT T) i hi
  · obtain ⟨j, hj, e⟩ := List.getElem_of_mem (q.perm.mem_iff.mp (at0_mem h0))
    rw [← e, ltT_not]
    rintro (z | ⟨z1, z2⟩)
    · have := m1 j hj; omega
    · rcases Nat.lt_trichotomy j a with w | w | w
      · have := m2 j hj w; omega
      · subst w; omega
      · have := inc a j ha hj w; omega
theorem QInv.take {T : Tb} {hs ss hs' : List Nat} (q : QInv T hs ss) {a : Nat} (ha : a < ss.length) (e : ss[a] = at0 hs 0) (p : (at0 hs 0 :: hs').Perm hs) (h : HP (ltT T) hs') : QInv T hs' (ss.eraseIdx a) := by
  have p2 : (ss[a] :: ss.eraseIdx a).Perm ss := by
    rw [List.eraseIdx_eq_take_drop_succ]
    refine List.perm_middle.symm.trans (.of_eq ?_)
    rw [List.getElem_cons_drop, List.take_append_drop]
  rw [← e] at p
  have sub := List.eraseIdx_sublist ss a
  exact ⟨(p.trans (q.perm.trans p2.symm)).cons_inv, h, q.inc.sublist sub, fun n hn => q.lt n (sub.subset hn), q.ok, Nat.le_trans sub.length_le q.len⟩
theorem QInv.thok {T : Tb} {hs ss : List Nat} (q : QInv T hs ss) {n : Nat} (h : n ∈ ss) : okT (thg T n) := by
  have hl := q.lt n h
  unfold thg
  rw [List.getD_eq_getElem?_getD, List.getElem?_eq_getElem hl]
  exact q.ok _ (List.getElem_mem hl)
noncomputable def qO (j n : Nat) : O := .ins "Queue" [("heap", .ref j), ("puts", nD n)]
theorem q_heap {h : Hh} {i j n : Nat} {Q : DK} (e : h[i]? = some (qO j n)) : pFld "Queue" "heap" (.ref i) h Q = Q (.ref j) h := by
  unfold pFld
  rw [insO_ref e]; rfl
theorem q_puts {h : Hh} {i j n : Nat} {Q : DK} (e : h[i]? = some (qO j n)) : pFld "Queue" "puts" (.ref i) h Q = Q (nD n) h := by
  unfold pFld
  rw [insO_ref e]; rfl
theorem map_erase {α β : Type} (f : α → β) : ∀ (xs : List α) (k : Nat), (xs.map f).eraseIdx k = (xs.eraseIdx k).map f
  | [], _ => rfl
  | _ :: _, 0 => rfl
  | x :: r, k + 1 => by
    show f x :: (r.map f).eraseIdx k = f x :: (r.eraseIdx k).map f
    rw [map_erase f r k]
theorem q_has {h : Hh} {i j n : Nat} {m : Str} (e : h[i]? = some (qO j n)) (l : ([(Str.ofString "heap", D.ref j), (Str.ofString "puts", nD n)] : List (Str × D)).lookup m = none) : hasM "Queue" m h (.ref i) := by
  unfold hasM
  rw [insO_ref e]; exact l
end CM
namespace K41
open PySem L2 DL CM
local macro_rules | `(tactic| simp only [VV]) => do
  let as := ("dAsg dName dVar dC dOp dUn dTst dTr dAnd dOr dNot dAndV dOrV dNotV dIf dIfS dRet dRetN dDrop dNext dNever dCB dCal dCons dNil dTup dV dTk dListOf dBits dIsinst dChain dPart dNoPart dSl dGNil dGCons dUnp dAug dAugS dSubL dAppend dExtend dPop dClear dFor dISeq dIRange dIEnum dIEnum1 dComp dNoIf dCatN dRepN dSlL dBreak dCont pI pI0 pB0 pNeg pIs pIx pEq pLtI pLen pTuple pInt pMin pMax pAbs pPlus pAdd pMulI pIn dGet dSetF dAugF dMeth dMake pFld pLtT pCatS pStr dPopAt reduceIte".splitOn " ").toArray.map fun s => Lean.mkIdent s.toName
  let bs := ("setD compSl isN_non isN_bl isN_int isN_str isN_tup isN_lst isN_ref eqS List.map_cons List.map_nil List.cons_append List.nil_append List.length_cons List.length_nil List.replicate List.getElem?_cons_zero List.getElem?_cons_succ List.set_cons_zero List.set_cons_succ Option.getD_some Option.getD_none List.getElem?_nil Bool.false_eq_true Bool.not_true Bool.not_false if_true if_false ite_true ite_false eq_self_iff_true decide_true decide_false Nat.reduceSub Nat.reduceAdd Nat.sub_zero Nat.sub_self Nat.zero_add Option.map_some Option.map_none Option.bind_some Option.bind_none lsOf_lst seqOf_lst seqSrc_lst lenD_lst ixD_lst trD_lst lsOf_scr seqOf_scr seqSrc_scr lenD_scr ixD_scr trD_scr lsP_lst lsP_tup lsP_int lsP_str seqOf_tup seqSrc_tup lenD_tup ixD_tup trD_tup trD_non trD_bl trD_int kindD_non kindD_bl kindD_int kindD_str kindD_tup kindD_lst isK_NoneType_bool isK_NoneType_int isK_NoneType_str isK_NoneType_tuple isK_NoneType_list isK_NoneType_dict isK_bool_bool isK_bool_int isK_bool_str isK_bool_tuple isK_bool_list isK_bool_dict isK_int_bool isK_int_int isK_int_str isK_int_tuple isK_int_list isK_int_dict isK_str_bool isK_str_int isK_str_str isK_str_tuple isK_str_list isK_str_dict isK_tuple_bool isK_tuple_int isK_tuple_str isK_tuple_tuple isK_tuple_list isK_tuple_dict isK_list_bool isK_list_int isK_list_str isK_list_tuple isK_list_list isK_list_dict isK_dict_bool isK_dict_int isK_dict_str isK_dict_tuple isK_dict_list isK_dict_dict ixN_10 ixN_0 at1_0 at2_0 at2_1 at3_0 at3_1 at3_2 at4_0 at4_1 at4_2 at4_3 at5_0 at5_1 at5_2 at5_3 at5_4 at6_0 at6_1 at6_2 at6_3 at6_4 at6_5 at7_0 at7_1 at7_2 at7_3 at7_4 at7_5 at7_6 at8_0 at8_1 at8_2 at8_3 at8_4 at8_5 at8_6 at8_7 sk_step sq_step_step sq_step_call sq_step_in sq_step_over sq_step_begin sq_step_start sq_step_short sq_step_along sq_step_within sq_step_at sq_step_out sk_call sq_call_step sq_call_call sq_call_in sq_call_over sq_call_begin sq_call_start sq_call_short sq_call_along sq_call_within sq_call_at sq_call_out sk_in sq_in_step sq_in_call sq_in_in sq_in_over sq_in_begin sq_in_start sq_in_short sq_in_along sq_in_within sq_in_at sq_in_out sk_over sq_over_step sq_over_call sq_over_in sq_over_over sq_over_begin sq_over_start sq_over_short sq_over_along sq_over_within sq_over_at sq_over_out sk_begin sq_begin_step sq_begin_call sq_begin_in sq_begin_over sq_begin_begin sq_begin_start sq_begin_short sq_begin_along sq_begin_within sq_begin_at sq_begin_out sk_start sq_start_step sq_start_call sq_start_in sq_start_over sq_start_begin sq_start_start sq_start_short sq_start_along sq_start_within sq_start_at sq_start_out sk_short sq_short_step sq_short_call sq_short_in sq_short_over sq_short_begin sq_short_start sq_short_short sq_short_along sq_short_within sq_short_at sq_short_out sk_along sq_along_step sq_along_call sq_along_in sq_along_over sq_along_begin sq_along_start sq_along_short sq_along_along sq_along_within sq_along_at sq_along_out sk_within sq_within_step sq_within_call sq_within_in sq_within_over sq_within_begin sq_within_start sq_within_short sq_within_along sq_within_within sq_within_at sq_within_out sk_at sq_at_step sq_at_call sq_at_in sq_at_over sq_at_begin sq_at_start sq_at_short sq_at_along sq_at_within sq_at_at sq_at_out sk_out sq_out_step sq_out_call sq_out_in sq_out_over sq_out_begin sq_out_start sq_out_short sq_out_along sq_out_within sq_out_at sq_out_out Bool.and_self Bool.and_true setF hasM".splitOn " ").toArray.map fun s => Lean.mkIdent s.toName
  `(tactic| simp only [$[↓$as:ident],*, $[$bs:ident],*])
local macro_rules | `(tactic| simp only [$xs,*, VV]) => do
  let as := ("dAsg dName dVar dC dOp dUn dTst dTr dAnd dOr dNot dAndV dOrV dNotV dIf dIfS dRet dRetN dDrop dNext dNever dCB dCal dCons dNil dTup dV dTk dListOf dBits dIsinst dChain dPart dNoPart dSl dGNil dGCons dUnp dAug dAugS dSubL dAppend dExtend dPop dClear dFor dISeq dIRange dIEnum dIEnum1 dComp dNoIf dCatN dRepN dSlL dBreak dCont pI pI0 pB0 pNeg pIs pIx pEq pLtI pLen pTuple pInt pMin pMax pAbs pPlus pAdd pMulI pIn dGet dSetF dAugF dMeth dMake pFld pLtT pCatS pStr dPopAt reduceIte".splitOn " ").toArray.map fun s => Lean.mkIdent s.toName
  let bs := ("setD compSl isN_non isN_bl isN_int isN_str isN_tup isN_lst isN_ref eqS List.map_cons List.map_nil List.cons_append List.nil_append List.length_cons List.length_nil List.replicate List.getElem?_cons_zero List.getElem?_cons_succ List.set_cons_zero List.set_cons_succ Option.getD_some Option.getD_none List.getElem?_nil Bool.false_eq_true Bool.not_true Bool.not_false if_true if_false ite_true ite_false eq_self_iff_true decide_true decide_false Nat.reduceSub Nat.reduceAdd Nat.sub_zero Nat.sub_self Nat.zero_add Option.map_some Option.map_none Option.bind_some Option.bind_none lsOf_lst seqOf_lst seqSrc_lst lenD_lst ixD_lst trD_lst lsOf_scr seqOf_scr seqSrc_scr lenD_scr ixD_scr trD_scr lsP_lst lsP_tup lsP_int lsP_str seqOf_tup seqSrc_tup lenD_tup ixD_tup trD_tup trD_non trD_bl trD_int kindD_non kindD_bl kindD_int kindD_str kindD_tup kindD_lst isK_NoneType_bool isK_NoneType_int isK_NoneType_str isK_NoneType_tuple isK_NoneType_list isK_NoneType_dict isK_bool_bool isK_bool_int isK_bool_str isK_bool_tuple isK_bool_list isK_bool_dict isK_int_bool isK_int_int isK_int_str isK_int_tuple isK_int_list isK_int_dict isK_str_bool isK_str_int isK_str_str isK_str_tuple isK_str_list isK_str_dict isK_tuple_bool isK_tuple_int isK_tuple_str isK_tuple_tuple isK_tuple_list isK_tuple_dict isK_list_bool isK_list_int isK_list_str isK_list_tuple isK_list_list isK_list_dict isK_dict_bool isK_dict_int isK_dict_str isK_dict_tuple isK_dict_list isK_dict_dict ixN_10 ixN_0 at1_0 at2_0 at2_1 at3_0 at3_1 at3_2 at4_0 at4_1 at4_2 at4_3 at5_0 at5_1 at5_2 at5_3 at5_4 at6_0 at6_1 at6_2 at6_3 at6_4 at6_5 at7_0 at7_1 at7_2 at7_3 at7_4 at7_5 at7_6 at8_0 at8_1 at8_2 at8_3 at8_4 at8_5 at8_6 at8_7 sk_step sq_step_step sq_step_call sq_step_in sq_step_over sq_step_begin sq_step_start sq_step_short sq_step_along sq_step_within sq_step_at sq_step_out sk_call sq_call_step sq_call_call sq_call_in sq_call_over sq_call_begin sq_call_start sq_call_short sq_call_along sq_call_within sq_call_at sq_call_out sk_in sq_in_step sq_in_call sq_in_in sq_in_over sq_in_begin sq_in_start sq_in_short sq_in_along sq_in_within sq_in_at sq_in_out sk_over sq_over_step sq_over_call sq_over_in sq_over_over sq_over_begin sq_over_start sq_over_short sq_over_along sq_over_within sq_over_at sq_over_out sk_begin sq_begin_step sq_begin_call sq_begin_in sq_begin_over sq_begin_begin sq_begin_start sq_begin_short sq_begin_along sq_begin_within sq_begin_at sq_begin_out sk_start sq_start_step sq_start_call sq_start_in sq_start_over sq_start_begin sq_start_start sq_start_short sq_start_along sq_start_within sq_start_at sq_start_out sk_short sq_short_step sq_short_call sq_short_in sq_short_over sq_short_begin sq_short_start sq_short_short sq_short_along sq_short_within sq_short_at sq_short_out sk_along sq_along_step sq_along_call sq_along_in sq_along_over sq_along_begin sq_along_start sq_along_short sq_along_along sq_along_within sq_along_at sq_along_out sk_within sq_within_step sq_within_call sq_within_in sq_within_over sq_within_begin sq_within_start sq_within_short sq_within_along sq_within_within sq_within_at sq_within_out sk_at sq_at_step sq_at_call sq_at_in sq_at_over sq_at_begin sq_at_start sq_at_short sq_at_along sq_at_within sq_at_at sq_at_out sk_out sq_out_step sq_out_call sq_out_in sq_out_over sq_out_begin sq_out_start sq_out_short sq_out_along sq_out_within sq_out_at sq_out_out Bool.and_self Bool.and_true setF hasM".splitOn " ").toArray.map fun s => Lean.mkIdent s.toName
  `(tactic| simp only [$xs,*, $[↓$as:ident],*, $[$bs:ident],*])
noncomputable def top (i : Nat) : Stmt := PySem.Challenge.pw_callmatch_k41_a_queue.main.body.getD i (.Pass ⟨0, 0, 0, 0⟩)
noncomputable def clsFn : Stmt → Nat → Stmt
  | .ClassDef _ _ _ body _ _ _ _ _ _ _, k => body.getD k (.Pass ⟨0, 0, 0, 0⟩)
  | s, _ => s
noncomputable abbrev s_is_ahead : Stmt := top 2
noncomputable abbrev s__law_whole : Stmt := top 7
noncomputable abbrev s__law_cost : Stmt := top 8
noncomputable abbrev s__law_thing : Stmt := top 9
noncomputable abbrev s__law_first : Stmt := top 10
noncomputable abbrev s_Queue____init__ : Stmt := clsFn (top 1) 0
noncomputable abbrev s_Queue__many : Stmt := clsFn (top 1) 3
noncomputable abbrev s_rise : Stmt := top 3
noncomputable abbrev s_lesser_below : Stmt := top 5
noncomputable abbrev s_sink : Stmt := top 4
noncomputable abbrev s_Queue__put : Stmt := clsFn (top 1) 1
noncomputable abbrev s__law_filled : Stmt := top 12
noncomputable abbrev s_Queue__take : Stmt := clsFn (top 1) 2
noncomputable abbrev s__law_taken_right : Stmt := top 11
noncomputable abbrev s_law : Stmt := top 13
theorem sc_is_ahead : FnScope ["one", "other"] ["one", "other"] (defScope s_is_ahead) := ⟨rfl, rfl, rfl, by decide +kernel, rfl, by decide +kernel, by decide +kernel⟩
theorem sc__law_whole : FnScope ["_law_found"] ["_law_found"] (defScope s__law_whole) := ⟨rfl, rfl, rfl, by decide +kernel, rfl, by decide +kernel, by decide +kernel⟩
theorem sc__law_cost : FnScope ["_law_cell"] ["_law_cell"] (defScope s__law_cost) := ⟨rfl, rfl, rfl, by decide +kernel, rfl, by decide +kernel, by decide +kernel⟩
theorem sc__law_thing : FnScope ["_law_cell", "_law_k"] ["_law_cell", "_law_k"] (defScope s__law_thing) := ⟨rfl, rfl, rfl, by decide +kernel, rfl, by decide +kernel, by decide +kernel⟩
theorem sc__law_first : FnScope ["_law_stored", "_law_at", "_law_k"] ["_law_stored"] (defScope s__law_first) := ⟨rfl, rfl, rfl, by decide +kernel, rfl, by decide +kernel, by decide +kernel⟩
theorem sc_Queue____init__ : FnScope ["self"] ["self"] (defScope s_Queue____init__) := ⟨rfl, rfl, rfl, by decide +kernel, rfl, by decide +kernel, by decide +kernel⟩
theorem sc_Queue__many : FnScope ["self"] ["self"] (defScope s_Queue__many) := ⟨rfl, rfl, rfl, by decide +kernel, rfl, by decide +kernel, by decide +kernel⟩
theorem sc_rise : FnScope ["heap", "k", "mover"] ["heap"] (defScope s_rise) := ⟨rfl, rfl, rfl, by decide +kernel, rfl, by decide +kernel, by decide +kernel⟩
theorem sc_lesser_below : FnScope ["heap", "k", "below"] ["heap", "k"] (defScope s_lesser_below) := ⟨rfl, rfl, rfl, by decide +kernel, rfl, by decide +kernel, by decide +kernel⟩
theorem sc_sink : FnScope ["heap", "k", "mover", "below"] ["heap"] (defScope s_sink) := ⟨rfl, rfl, rfl, by decide +kernel, rfl, by decide +kernel, by decide +kernel⟩
theorem sc_Queue__put : FnScope ["self", "cost", "thing"] ["self", "cost", "thing"] (defScope s_Queue__put) := ⟨rfl, rfl, rfl, by decide +kernel, rfl, by decide +kernel, by decide +kernel⟩
theorem sc__law_filled : FnScope ["_law_queue", "_law_stored", "_law_cell", "_law_k", "_law_cost_here"] ["_law_queue", "_law_stored", "_law_cell"] (defScope s__law_filled) := ⟨rfl, rfl, rfl, by decide +kernel, rfl, by decide +kernel, by decide +kernel⟩
theorem sc_Queue__take : FnScope ["self", "first", "last"] ["self"] (defScope s_Queue__take) := ⟨rfl, rfl, rfl, by decide +kernel, rfl, by decide +kernel, by decide +kernel⟩
theorem sc__law_taken_right : FnScope ["_law_queue", "_law_stored", "_law_found", "_law_cost_here", "_law_thing_here"] ["_law_queue", "_law_stored"] (defScope s__law_taken_right) := ⟨rfl, rfl, rfl, by decide +kernel, rfl, by decide +kernel, by decide +kernel⟩
theorem sc_law : FnScope ["_law_script", "_law_queues", "_law_stored", "_law_k", "_law_cell", "_law_side", "_law_cost_here", "_law_thing_here"] ["_law_script"] (defScope s_law) := ⟨rfl, rfl, rfl, by decide +kernel, rfl, by decide +kernel, by decide +kernel⟩
structure Txt (P : Program) (w : World) (K : PySem.W.Frag) (mg : Str → Option Value) : Prop where
  b_bool : mg "bool" = none
  b_enumerate : mg "enumerate" = none
  b_int : mg "int" = none
  b_isinstance : mg "isinstance" = none
  b_len : mg "len" = none
  b_range : mg "range" = none
  b_str : mg "str" = none
  b_tuple : mg "tuple" = none
  f_heap : FldX K "Queue" "heap"
  f_puts : FldX K "Queue" "puts"
section
variable {P : Program} {w : World} {K : PySem.W.Frag} {mg : Str → Option Value} {base : Heap}
noncomputable def b_is_ahead : DS := (dRet (dOp pLtT (dSl (dVar 0) dNoPart (dPart (dC (.int 2)))) (dSl (dVar 1) dNoPart (dPart (dC (.int 2))))))
noncomputable def S_is_ahead : DSp := fun ds h Q => ∃ (c n : Int) (t : D) (c' n' : Int) (t' : D), ds = [.tup [.int c, .int n, t], .tup [.int c', .int n', t']] ∧ Q (.bl (HT.lexLt [c, n] [c', n'])) h
theorem imp_is_ahead : ∀ ds h Q, S_is_ahead ds h Q → runD 2 b_is_ahead ds h Q := by
  rintro ds h Q ⟨c, n, t, c', n', t', rfl, q⟩
  have hc : ∀ a b c : D, cutD [a, b, c] none (some 2) = [a, b] := fun _ _ _ => rfl
  have i2 : ∀ a b : Int, intsO [.int a, .int b] = some [a, b] := fun _ _ => rfl
  simp only [hc, i2, ↓b_is_ahead, ↓runD, ↓dSeq, VV]
  exact q
theorem ok_is_ahead {f : Addr} {fd : FuncData} (F : Fun K "is_ahead" "is_ahead" s_is_ahead f fd) (T : Txt P w K mg) : FnOk P w K mg base CX0 1 f fd ["one", "other"] (spD K 2 S_is_ahead) :=
  fn_ok (k := 0) (b := b_is_ahead) F sc_is_ahead (fun cdv A outer s H E hr => (ss_one (s_ret (se_cmp (ok_ltT hr.units0) (se_sl (sv 0) so_none (so_some se_int)) (se_sl (sv 1) so_none (so_some se_int)) (nomark _))))) imp_is_ahead
noncomputable def b__law_whole : DS := (dRet (dAndV (dIsinst "int" (dVar 0)) (dNotV (dIsinst "bool" (dVar 0)))))
noncomputable def S__law_whole : DSp := fun ds h Q => ∃ i : Int, ds = [.int i] ∧ Q (.bl true) h
theorem imp__law_whole : ∀ ds h Q, S__law_whole ds h Q → runD 1 b__law_whole ds h Q := by
  rintro ds h Q ⟨i, rfl, q⟩
  simp only [↓b__law_whole, ↓runD, ↓dSeq, VV]
  exact q
theorem ok__law_whole {f : Addr} {fd : FuncData} (F : Fun K "_law_whole" "_law_whole" s__law_whole f fd) (T : Txt P w K mg) : FnOk P w K mg base CX0 1 f fd ["_law_found"] (spD K 1 S__law_whole) :=
  fn_ok (k := 0) (b := b__law_whole) F sc__law_whole (fun cdv A outer s H E hr => (ss_one (s_ret (se_and (se_isinst (by decide) rfl T.b_isinstance (sv 0) (pe_bltn (v := .ty "int") rfl T.b_int PyProof.Rows.boot_int rfl)) (se_one (se_not (se_isinst (by decide) rfl T.b_isinstance (sv 0) (pe_bltn (v := .ty "bool") rfl T.b_bool PyProof.Rows.boot_bool rfl)))))))) imp__law_whole
noncomputable def b__law_cost : DS := (dSeq (dIfS (dTst (dOp (pEq false) (dOp pMod (dVar 0) (dC (.int 3))) (dC (.int 0)))) (dRet (dOp pMod (dOp pDiv (dVar 0) (dC (.int 3))) (dOp pPow (dC (.int 10)) (dC (.int 24))))) dNext)
    (dRet (dOp pMod (dOp pDiv (dVar 0) (dC (.int 3))) (dC (.int 4)))))
noncomputable def S__law_cost : DSp := fun ds h Q => ∃ c : Int, ds = [.int c] ∧ ∀ r : Int, Q (.int r) h
theorem imp__law_cost : ∀ ds h Q, S__law_cost ds h Q → runD 1 b__law_cost ds h Q := by
  rintro ds h Q ⟨c, rfl, q⟩
  simp only [runD, b__law_cost, List.map_cons, List.map_nil, List.cons_append, List.nil_append, List.length_cons, List.length_nil, List.replicate, Nat.reduceSub, Nat.reduceAdd, Nat.zero_add, Nat.sub_self]
  (try dsimp only); refine seq_intro fun N hN => ?_
  simp only [VV]
  refine ⟨by decide, ?_⟩
  by_cases e : (c % 3 == 0) = true
  · simp only [e, VV]
    exact ⟨⟨by decide, by decide⟩, ⟨by decide, by decide, by decide⟩, by decide, q _⟩
  · simp only [e, VV]
    subst hN
    simp only [VV]
    exact ⟨⟨by decide, by decide⟩, by decide, q _⟩
theorem ok__law_cost {f : Addr} {fd : FuncData} (F : Fun K "_law_cost" "_law_cost" s__law_cost f fd) (T : Txt P w K mg) : FnOk P w K mg base CX0 1 f fd ["_law_cell"] (spD K 1 S__law_cost) :=
  fn_ok (k := 0) (b := b__law_cost) F sc__law_cost (fun cdv A outer s H E hr => (ss_cons (s_if (st_cmp (ok_eq hr.units) (se_op ok_mod (sv 0) se_int) se_int (nomark _)) (ss_one (s_ret (se_op ok_mod (se_op ok_div (sv 0) se_int) (se_op ok_pow se_int se_int)))) ss_nil)
    (ss_one (s_ret (se_op ok_mod (se_op ok_div (sv 0) se_int) se_int))))) imp__law_cost
noncomputable def b__law_thing : DS := (dRet (dOp pIx (dV (dCons (dVar 1) (dCons (dOp pCatS (dC (.str "n")) (dCB pStr (dCons (dVar 1) dNil))) (dCons (dTup (dCons (dVar 1) (dCons (dOp pMod (dVar 0) (dC (.int 5))) dNil))) (dCons (dC .non) (dCons (dTup (dCons (dOp pMod (dVar 0) (dC (.int 3))) (dCons (dTup (dCons (dC (.str "a")) (dCons (dVar 1) dNil))) dNil))) (dCons (dOp pMod (dVar 0) (dC (.int 2))) dNil))))))) (dOp pMod (dVar 0) (dC (.int 6)))))
theorem sk_a : PyData.strOk (Str.ofString "a") = true := by decide +kernel
theorem th_all : ∀ k : _root_.Fin 63, ((k.val : Int).natAbs.log2 < 1920) ∧ (Str.ofString "n").length + (Str.ofString (toString (k.val : Int))).length ≤ 16777216 ∧ PyData.strOk (Str.ofString "n" ++ Str.ofString (toString (k.val : Int))) = true := by decide +kernel
theorem th_ok (k : Nat) (hk : k < 63) : ((k : Int).natAbs.log2 < 1920) ∧ (Str.ofString "n").length + (Str.ofString (toString (k : Int))).length ≤ 16777216 ∧ PyData.strOk (Str.ofString "n" ++ Str.ofString (toString (k : Int))) = true := th_all ⟨k, hk⟩
noncomputable def S__law_thing : DSp := fun ds h Q => ∃ (c : Int) (k : Nat), ds = [.int c, nD k] ∧ k < 63 ∧ ∀ t, okT t → Q t h
theorem imp__law_thing : ∀ ds h Q, S__law_thing ds h Q → runD 2 b__law_thing ds h Q := by
  rintro ds h Q ⟨c, k, rfl, hk, q⟩
  obtain ⟨a1, a2, a3⟩ := th_ok k hk
  simp only [↓b__law_thing, ↓runD, ↓dSeq, VV]
  have h0 := Int.emod_nonneg c (show (6 : Int) ≠ 0 by decide)
  have h1 := Int.emod_lt_of_pos c (show (0 : Int) < 6 by decide)
  refine ⟨a1, a2, by decide, by decide, by decide, by decide, ?_⟩
  obtain e | e | e | e | e | e : c % 6 = 0 ∨ c % 6 = 1 ∨ c % 6 = 2 ∨ c % 6 = 3 ∨ c % 6 = 4 ∨ c % 6 = 5 := by first | decide | omega
  · rw [e]; exact q _ ⟨rfl, _, fun _ => .int _⟩
  · rw [e]; exact q _ ⟨rfl, _, fun _ => .str a3⟩
  · rw [e]; exact q _ ⟨rfl, _, fun _ => .tup (n := 2) (.cons (.int _) (.cons (.int _) .nil))⟩
  · rw [e]; exact q _ ⟨rfl, _, fun _ => .non⟩
  · rw [e]; exact q _ ⟨rfl, _, fun _ => .tup (n := 2) (.cons (.int _) (.cons (.tup (n := 1) (.cons (.str sk_a) (.cons (.int _) .nil))) .nil))⟩
  · rw [e]; exact q _ ⟨rfl, _, fun _ => .int _⟩
theorem ok__law_thing {f : Addr} {fd : FuncData} (F : Fun K "_law_thing" "_law_thing" s__law_thing f fd) (T : Txt P w K mg) : FnOk P w K mg base CX0 1 f fd ["_law_cell", "_law_k"] (spD K 2 S__law_thing) :=
  fn_ok (k := 0) (b := b__law_thing) F sc__law_thing (fun cdv A outer s H E hr => (ss_one (s_ret (se_ix ok_ix (se_v (sn_lst (sa_cons (sv 1) (sa_cons (se_op ok_catS se_str (se_callTy ok_str rfl T.b_str PyProof.Rows.boot_str (sa_cons (sv 1) sa_nil))) (sa_cons (se_tup (sa_cons (sv 1) (sa_cons (se_op ok_mod (sv 0) se_int) sa_nil))) (sa_cons se_non (sa_cons (se_tup (sa_cons (se_op ok_mod (sv 0) se_int) (sa_cons (se_tup (sa_cons se_str (sa_cons (sv 1) sa_nil))) sa_nil))) (sa_cons (se_op ok_mod (sv 0) se_int) sa_nil)))))))) (se_op ok_mod (sv 0) se_int) (fun _ _ => rfl))))) imp__law_thing
noncomputable def b__law_first : DS := (dSeq (dAsg (dC (.int 0)) (dName 1))
    (dSeq (dFor (dIRange (dCons (dCB pLen (dCons (dVar 0) dNil)) dNil)) (dName 2) (dIfS (dTst (dOp pLtI (dOp pIx (dOp pIx (dVar 0) (dVar 2)) (dC (.int 0))) (dOp pIx (dOp pIx (dVar 0) (dVar 1)) (dC (.int 0))))) (dAsg (dVar 2) (dName 1)) dNext))
    (dRet (dVar 1))))
noncomputable def S__law_first : DSp := fun ds h Q => ∃ (d : D) (T : Tb) (ss : List Nat), ds = [d] ∧ lsOf h d = some (ss.map (sD T)) ∧ 0 < ss.length ∧ ss.length ≤ 10000 ∧ ∀ a (ha : a < ss.length), (∀ j (hj : j < ss.length), cst T ss[a] ≤ cst T ss[j]) → (∀ j (hj : j < ss.length), j < a → cst T ss[a] < cst T ss[j]) → Q (nD a) h
theorem imp__law_first : ∀ ds h Q, S__law_first ds h Q → runD 3 b__law_first ds h Q := by
  rintro ds h Q ⟨d, T, ss, rfl, hl, h0, hb, q⟩
  simp only [runD, b__law_first, List.map_cons, List.map_nil, List.cons_append, List.nil_append, List.length_cons, List.length_nil, List.replicate, Nat.reduceSub, Nat.reduceAdd, Nat.zero_add, Nat.sub_self]
  (try dsimp only); refine seq_intro fun N hN => ?_
  simp only [VV]
  subst hN
  (try dsimp only); refine seq_intro fun N hN => ?_
  simp only [len_ls hl, List.length_map, VV]
  refine ⟨⟨by first | decide | omega, by first | decide | omega⟩, ?_⟩
  rw [rangeD_map, Int.toNat_natCast]
  have ix : ∀ (k : Nat) (hk : k < ss.length), atI (ss.map (sD T)) (k : Int) = some (sD T ss[k]) := fun k hk => by rw [atN, List.getElem?_map, List.getElem?_eq_getElem hk]; rfl
  refine forL_map (fun p δ h' => h' = h ∧ ∃ (a : Nat) (x2 : Option D), δ = [some d, some (nD a), x2] ∧ (∃ ha : a < ss.length, (∀ j (hj : j < ss.length), j < p.length → cst T ss[a] ≤ cst T ss[j]) ∧ (∀ j (hj : j < ss.length), j < a → cst T ss[a] < cst T ss[j])) ∧ a ≤ p.length) ⟨rfl, 0, none, rfl, ⟨h0, fun j hj z => absurd z (Nat.not_lt_zero _), fun j hj z => absurd z (Nat.not_lt_zero _)⟩, Nat.zero_le _⟩ (fun _ _ _ _ => Src.ok_nil) ?_ ?_
  · rintro p y r δ h' N1 e ⟨rfl, a, x2, rfl, ⟨ha, m1, m2⟩, hap⟩ hN1
    obtain ⟨e1, e2⟩ := range_split e
    subst e1
    simp only [ix_ls hl, VV]
    rw [Int.zero_add]
    simp only [ix _ e2, ix _ ha, sD, VV]
    have pl : (p ++ [p.length]).length = p.length + 1 := by simp
    by_cases c : cst T ss[p.length] < cst T ss[a]
    · simp only [c, VV]
      refine hN1 _ _ ⟨rfl, p.length, _, rfl, ⟨e2, fun j hj z => ?_, fun j hj z => ?_⟩, by first | decide | omega⟩
      · rw [pl] at z
        by_cases w : j = p.length
        · subst w; omega
        · have := m1 j hj (by first | decide | omega); omega
      · have := m1 j hj z; omega
    · simp only [c, VV]
      refine hN1 _ _ ⟨rfl, a, _, rfl, ⟨ha, fun j hj z => ?_, m2⟩, by first | decide | omega⟩
      rw [pl] at z
      by_cases w : j = p.length
      · subst w; omega
      · exact m1 j hj (by first | decide | omega)
  · rintro δ h' ⟨rfl, a, x2, rfl, ⟨ha, m1, m2⟩, hap⟩
    subst hN
    simp only [VV]
    rw [List.length_range] at m1
    exact q a ha (fun j hj => m1 j hj hj) m2
theorem ok__law_first {f : Addr} {fd : FuncData} (F : Fun K "_law_first" "_law_first" s__law_first f fd) (T : Txt P w K mg) : FnOk P w K mg base CX0 1 f fd ["_law_stored"] (spD K 1 S__law_first) :=
  fn_ok (k := 0) (b := b__law_first) F sc__law_first (fun cdv A outer s H E hr => (ss_cons (s_set (i := 1) sc__law_first.nd rfl (Or.inl rfl) se_int)
    (ss_cons (s_for PassesOwn.never rfl (si_range1 rfl T.b_range (sa_cons (se_callB ok_len rfl T.b_len PySem.boot_len (sa_cons (sv 0) sa_nil)) sa_nil)) (sg_name (i := 2) sc__law_first.nd rfl (Or.inl rfl)) (ss_one (s_if (st_cmp ok_ltI (se_ix ok_ix (se_ix ok_ix (sv 0) (sv 2) (fun _ _ => rfl)) se_int (fun _ _ => rfl)) (se_ix ok_ix (se_ix ok_ix (sv 0) (sv 1) (fun _ _ => rfl)) se_int (fun _ _ => rfl)) (nomark _)) (ss_one (s_set (i := 1) sc__law_first.nd rfl (Or.inl rfl) (sv 2))) ss_nil)))
    (ss_one (s_ret (sv 1)))))) imp__law_first
noncomputable def b_Queue____init__ : DS := (dSeq (dSetF "Queue" "heap" (dVar 0) (dTk dNil))
    (dSetF "Queue" "puts" (dVar 0) (dC (.int 0))))
noncomputable def S_Queue____init__ : DSp := fun ds h Q => ∃ i, ds = [.ref i] ∧ h[i]? = some (.ins "Queue" []) ∧ Q .non (h.set i (qO h.length 0) ++ [.lst []])
theorem imp_Queue____init__ : ∀ ds h Q, S_Queue____init__ ds h Q → runD 1 b_Queue____init__ ds h Q := by
  rintro ds h Q ⟨i, rfl, e, q⟩
  have hi : i < h.length := (List.getElem?_eq_some_iff.mp e).1
  have e1 : (h ++ [O.lst []])[i]? = some (.ins "Queue" []) := by rw [List.getElem?_append_left hi]; exact e
  simp only [runD, b_Queue____init__, List.map_cons, List.map_nil, List.cons_append, List.nil_append, List.length_cons, List.length_nil, List.replicate, Nat.reduceSub, Nat.reduceAdd, Nat.zero_add, Nat.sub_self]
  (try dsimp only); refine seq_intro fun N hN => ?_
  simp only [e1, VV]
  refine ⟨⟨trivial, by decide⟩, ?_⟩
  subst hN
  have e2 : ((h ++ [O.lst []]).set i (.ins "Queue" (putA "heap" (.ref h.length) [])))[i]? = some (.ins "Queue" (putA "heap" (.ref h.length) [])) := List.getElem?_set_self (by simp; omega)
  simp only [e2, VV]
  refine ⟨⟨trivial, show 1 < 1000 by decide⟩, ?_⟩
  rw [List.set_set, List.set_append_left _ _ hi]
  exact q
theorem ok_Queue____init__ {f : Addr} {fd : FuncData} (F : Fun K "__init__" "Queue.__init__" s_Queue____init__ f fd) (T : Txt P w K mg) : FnOk P w K mg base CX0 1 f fd ["self"] (spD K 1 S_Queue____init__) :=
  fn_ok (k := 0) (b := b_Queue____init__) F sc_Queue____init__ (fun cdv A outer s H E hr => (ss_cons (s_fld T.f_heap (sv 0) (se_t (sn_lst sa_nil)))
    (ss_one (s_fld T.f_puts (sv 0) se_int)))) imp_Queue____init__
noncomputable def b_Queue__many : DS := (dRet (dCB pLen (dCons (dUn (pFld "Queue" "heap") (dVar 0)) dNil)))
noncomputable def S_Queue__many : DSp := fun ds h Q => ∃ (i j n : Nat) (xs : List D), ds = [.ref i] ∧ h[i]? = some (qO j n) ∧ h[j]? = some (.lst xs) ∧ Q (nD xs.length) h
theorem imp_Queue__many : ∀ ds h Q, S_Queue__many ds h Q → runD 1 b_Queue__many ds h Q := by
  rintro ds h Q ⟨i, j, n, xs, rfl, e, e2, q⟩
  simp only [q_heap e, len_ls (lsOf_ref e2), ↓b_Queue__many, ↓runD, ↓dSeq, ↓dAsg, ↓dName, ↓dVar, ↓dC, ↓dOp, ↓dUn, ↓dTst, ↓dTr, ↓dAnd, ↓dOr, ↓dNot, ↓dAndV, ↓dOrV, ↓dNotV, ↓dIf, ↓dIfS, ↓dRet, ↓dRetN, ↓dDrop, ↓dNext, ↓dNever, ↓dCB, ↓dCal, ↓dCons, ↓dNil, ↓dTup, ↓dV, ↓dTk, ↓dListOf, ↓dBits, ↓dIsinst, ↓dChain, ↓dPart, ↓dNoPart, ↓dSl, ↓dGNil, ↓dGCons, ↓dUnp, ↓dAug, ↓dAugS, ↓dSubL, setD, ↓dAppend, ↓dExtend, ↓dPop, ↓dClear, ↓dFor, ↓dISeq, ↓dIRange, ↓dIEnum, ↓dIEnum1, ↓dComp, ↓dNoIf, compSl, ↓dCatN, ↓dRepN, ↓dSlL, ↓dBreak, ↓dCont, ↓pI, ↓pI0, ↓pB0, ↓pNeg, ↓pIs, isN_non, isN_bl, isN_int, isN_str, isN_tup, isN_lst, isN_ref, ↓pIx, ↓pEq, eqS, ↓pLtI, ↓pLen, ↓pTuple, ↓pInt, ↓pMin, ↓pMax, ↓pAbs, ↓pPlus, ↓pAdd, ↓pMulI, ↓pIn, ↓dGet, List.map_cons, List.map_nil, List.cons_append, List.nil_append, List.length_cons, List.length_nil, List.replicate, List.getElem?_cons_zero, List.getElem?_cons_succ, List.set_cons_zero, List.set_cons_succ, Option.getD_some, Option.getD_none, List.getElem?_nil, Bool.false_eq_true, Bool.not_true, Bool.not_false, if_true, if_false, ite_true, ite_false, eq_self_iff_true, decide_true, decide_false, Nat.reduceSub, Nat.reduceAdd, Nat.sub_zero, Nat.sub_self, Nat.zero_add, Option.map_some, Option.map_none, Option.bind_some, Option.bind_none, lsOf_lst, seqOf_lst, seqSrc_lst, lenD_lst, ixD_lst, trD_lst, lsOf_scr, seqOf_scr, seqSrc_scr, lenD_scr, ixD_scr, trD_scr, lsP_lst, lsP_tup, lsP_int, lsP_str, seqOf_tup, seqSrc_tup, lenD_tup, ixD_tup, trD_tup, trD_non, trD_bl, trD_int, kindD_non, kindD_bl, kindD_int, kindD_str, kindD_tup, kindD_lst, isK_NoneType_bool, isK_NoneType_int, isK_NoneType_str, isK_NoneType_tuple, isK_NoneType_list, isK_NoneType_dict, isK_bool_bool, isK_bool_int, isK_bool_str, isK_bool_tuple, isK_bool_list, isK_bool_dict, isK_int_bool, isK_int_int, isK_int_str, isK_int_tuple, isK_int_list, isK_int_dict, isK_str_bool, isK_str_int, isK_str_str, isK_str_tuple, isK_str_list, isK_str_dict, isK_tuple_bool, isK_tuple_int, isK_tuple_str, isK_tuple_tuple, isK_tuple_list, isK_tuple_dict, isK_list_bool, isK_list_int, isK_list_str, isK_list_tuple, isK_list_list, isK_list_dict, isK_dict_bool, isK_dict_int, isK_dict_str, isK_dict_tuple, isK_dict_list, isK_dict_dict, ixN_10, ixN_0, at1_0, at2_0, at2_1, at3_0, at3_1, at3_2, at4_0, at4_1, at4_2, at4_3, at5_0, at5_1, at5_2, at5_3, at5_4, at6_0, at6_1, at6_2, at6_3, at6_4, at6_5, at7_0, at7_1, at7_2, at7_3, at7_4, at7_5, at7_6, at8_0, at8_1, at8_2, at8_3, at8_4, at8_5, at8_6, at8_7, sk_step, sq_step_step, sq_step_call, sq_step_in, sq_step_over, sq_step_begin, sq_step_start, sq_step_short, sq_step_along, sq_step_within, sq_step_at, sq_step_out, sk_call, sq_call_step, sq_call_call, sq_call_in, sq_call_over, sq_call_begin, sq_call_start, sq_call_short, sq_call_along, sq_call_within, sq_call_at, sq_call_out, sk_in, sq_in_step, sq_in_call, sq_in_in, sq_in_over, sq_in_begin, sq_in_start, sq_in_short, sq_in_along, sq_in_within, sq_in_at, sq_in_out, sk_over, sq_over_step, sq_over_call, sq_over_in, sq_over_over, sq_over_begin, sq_over_start, sq_over_short, sq_over_along, sq_over_within, sq_over_at, sq_over_out, sk_begin, sq_begin_step, sq_begin_call, sq_begin_in, sq_begin_over, sq_begin_begin, sq_begin_start, sq_begin_short, sq_begin_along, sq_begin_within, sq_begin_at, sq_begin_out, sk_start, sq_start_step, sq_start_call, sq_start_in, sq_start_over, sq_start_begin, sq_start_start, sq_start_short, sq_start_along, sq_start_within, sq_start_at, sq_start_out, sk_short, sq_short_step, sq_short_call, sq_short_in, sq_short_over, sq_short_begin, sq_short_start, sq_short_short, sq_short_along, sq_short_within, sq_short_at, sq_short_out, sk_along, sq_along_step, sq_along_call, sq_along_in, sq_along_over, sq_along_begin, sq_along_start, sq_along_short, sq_along_along, sq_along_within, sq_along_at, sq_along_out, sk_within, sq_within_step, sq_within_call, sq_within_in, sq_within_over, sq_within_begin, sq_within_start, sq_within_short, sq_within_along, sq_within_within, sq_within_at, sq_within_out, sk_at, sq_at_step, sq_at_call, sq_at_in, sq_at_over, sq_at_begin, sq_at_start, sq_at_short, sq_at_along, sq_at_within, sq_at_at, sq_at_out, sk_out, sq_out_step, sq_out_call, sq_out_in, sq_out_over, sq_out_begin, sq_out_start, sq_out_short, sq_out_along, sq_out_within, sq_out_at, sq_out_out, Bool.and_self, Bool.and_true, ↓dSetF, ↓dAugF, ↓dMeth, ↓dMake, setF, hasM, ↓pLtT, ↓pCatS, ↓pStr, ↓dPopAt, ↓reduceIte]
  exact q
theorem ok_Queue__many {f : Addr} {fd : FuncData} (F : Fun K "many" "Queue.many" s_Queue__many f fd) (T : Txt P w K mg) : FnOk P w K mg base CX0 1 f fd ["self"] (spD K 1 S_Queue__many) :=
  fn_ok (k := 0) (b := b_Queue__many) F sc_Queue__many (fun cdv A outer s H E hr => (ss_one (s_ret (se_callB ok_len rfl T.b_len PySem.boot_len (sa_cons (se_fld T.f_heap (sv 0)) sa_nil))))) imp_Queue__many
noncomputable def b_rise : DS := (dSeq (dAsg (dOp pSub (dCB pLen (dCons (dVar 0) dNil)) (dC (.int 1))) (dName 1))
    (dSeq (dAsg (dOp pIx (dVar 0) (dVar 1)) (dName 2))
    (dSeq (dWhile (dAnd (dTst (dOp pGt (dVar 1) (dC (.int 0)))) (dTr (dCal S_is_ahead (dCons (dVar 2) (dCons (dOp pIx (dVar 0) (dOp pDiv (dOp pSub (dVar 1) (dC (.int 1))) (dC (.int 2)))) dNil))))) (dSeq (dAsg (dOp pIx (dVar 0) (dOp pDiv (dOp pSub (dVar 1) (dC (.int 1))) (dC (.int 2)))) (dSubL (dVar 0) (dVar 1)))
    (dAsg (dOp pDiv (dOp pSub (dVar 1) (dC (.int 1))) (dC (.int 2))) (dName 1))))
    (dAsg (dVar 2) (dSubL (dVar 0) (dVar 1))))))
noncomputable def S_rise : DSp := fun ds h Q => ∃ (j : Nat) (T : Tb) (xs : List Nat), ds = [.ref j] ∧ h[j]? = some (.lst (xs.map (hD T))) ∧ 0 < xs.length ∧ xs.length ≤ 10000 ∧ Up (ltT T) xs (xs.length - 1) ∧ ∀ zs, zs.Perm xs → HP (ltT T) zs → Q .non (h.set j (.lst (zs.map (hD T))))
theorem hD_ix (T : Tb) (xs : List Nat) (k : Nat) (hk : k < xs.length) : atI (xs.map (hD T)) (k : Int) = some (hD T (at0 xs k)) := by rw [atN, List.getElem?_map, List.getElem?_eq_getElem hk, at0_get hk]; rfl
theorem hD_set (T : Tb) (xs : List Nat) (k v : Nat) : (xs.map (hD T)).set k (hD T v) = (xs.set k v).map (hD T) := by rw [List.map_set]
theorem imp_rise : ∀ ds h Q, S_rise ds h Q → runD 3 b_rise ds h Q := by
  rintro ds h Q ⟨j, T, xs, rfl, e, h0, hb, up, q⟩
  have hj : j < h.length := (List.getElem?_eq_some_iff.mp e).1
  simp only [runD, b_rise, List.map_cons, List.map_nil, List.cons_append, List.nil_append, List.length_cons, List.length_nil, List.replicate, Nat.reduceSub, Nat.reduceAdd, Nat.zero_add, Nat.sub_self]
  (try dsimp only); refine seq_intro fun N hN => ?_
  simp only [len_ls (lsOf_ref e), List.length_map, VV]
  rw [show (xs.length : Int) - 1 = ((xs.length - 1 : Nat) : Int) by first | decide | omega]
  subst hN
  (try dsimp only); refine seq_intro fun N hN => ?_
  simp only [ix_ls (lsOf_ref e), hD_ix T xs _ (show xs.length - 1 < xs.length by first | decide | omega), VV]
  subst hN
  (try dsimp only); refine seq_intro fun N hN => ?_
  refine while_by (fun m δ h' => ∃ (v : Nat) (ys : List Nat), δ = [some (.ref j), some (nD m), some (hD T v)] ∧ h' = h.set j (.lst (ys.map (hD T))) ∧ m < ys.length ∧ ys.length = xs.length ∧ (ys.set m v).Perm xs ∧ Up (ltT T) (ys.set m v) m) (m := xs.length - 1) ⟨at0 xs (xs.length - 1), xs, rfl, (set_same e).symm, by first | decide | omega, rfl, ?_, ?_⟩ ?_
  · rw [← at0_get (show xs.length - 1 < xs.length by first | decide | omega), List.set_getElem_self]
  · rw [← at0_get (show xs.length - 1 < xs.length by first | decide | omega), List.set_getElem_self]; exact up
  · rintro m δ h' N1 ⟨v, ys, rfl, rfl, hk, hl, pm, u⟩ hN1
    have ej : (h.set j (O.lst (ys.map (hD T))))[j]? = some (.lst (ys.map (hD T))) := List.getElem?_set_self hj
    have fin : HP (ltT T) (ys.set m v) → N [some (.ref j), some (nD m), some (hD T v)] (h.set j (O.lst (ys.map (hD T)))) := by
      intro hp
      subst hN
      simp only [ej, List.length_map, ixN_nat hk, hD_set, List.set_set, VV]
      exact q _ pm hp
    have zm : at0 (ys.set m v) m = v := by rw [at0_set _ _ _ _ hk, if_pos rfl]
    by_cases h0' : 0 < m
    · have pe : ((m : Int) - 1) / 2 = (((m - 1) / 2 : Nat) : Int) := by first | decide | omega
      have hp : (m - 1) / 2 < ys.length := by first | decide | omega
      have zp : at0 (ys.set m v) ((m - 1) / 2) = at0 ys ((m - 1) / 2) := by rw [at0_set _ _ _ _ hk, if_neg (by first | decide | omega)]
      have d0 : decide ((0 : Int) < (m : Int)) = true := decide_eq_true (by first | decide | omega)
      simp only [d0, pe, ix_ls (lsOf_ref ej), hD_ix T ys _ hp, VV]
      refine ⟨⟨by decide, by decide⟩, cst T v, v, thg T v, cst T (at0 ys ((m - 1) / 2)), at0 ys ((m - 1) / 2), thg T (at0 ys ((m - 1) / 2)), rfl, ?_⟩
      have el : HT.lexLt [cst T v, (v : Int)] [cst T (at0 ys ((m - 1) / 2)), ((at0 ys ((m - 1) / 2) : Nat) : Int)] = ltT T v (at0 ys ((m - 1) / 2)) := rfl
      rw [el]
      cases c : ltT T v (at0 ys ((m - 1) / 2)) with
      | false =>
        simp only [VV]
        exact fin (u.done (.inr (by rw [zm, zp]; exact c)))
      | true =>
        have sw : swp2 (ys.set m v) m ((m - 1) / 2) = (ys.set m (at0 ys ((m - 1) / 2))).set ((m - 1) / 2) v := by unfold swp2; rw [zm, zp, List.set_set]
        have pm2 := (swp2_perm (zs := ys.set m v) (k := m) (j := (m - 1) / 2) (by simpa using hk) (by simpa using hp) (by first | decide | omega)).trans pm
        have u2 := u.step (ordT T) h0' (by rw [zm, zp]; exact c)
        rw [sw] at pm2 u2
        simp only [VV]
        (try dsimp only); refine seq_intro fun N2 hN2 => ?_
        simp only [pe, ix_ls (lsOf_ref ej), hD_ix T ys _ hp, ej, List.length_map, ixN_nat hk, hD_set, List.set_set, VV]
        refine ⟨⟨by decide, by decide⟩, ?_⟩
        subst hN2
        simp only [pe, VV]
        refine ⟨⟨by decide, by decide⟩, ?_⟩
        exact hN1 ((m - 1) / 2) _ _ (by first | decide | omega) ⟨v, _, rfl, rfl, by simpa using hp, by simpa using hl, pm2, u2⟩
    · have m0 : m = 0 := by first | decide | omega
      have d0 : decide ((0 : Int) < (m : Int)) = false := decide_eq_false (by first | decide | omega)
      simp only [d0, VV]
      exact fin (u.done (.inl m0))
theorem ok_rise {f : Addr} {fd : FuncData} (F : Fun K "rise" "rise" s_rise f fd) (T : Txt P w K mg) (C_is_ahead : Cal P w K mg base 1 "is_ahead" ["one", "other"] (spD K 2 S_is_ahead)) : FnOk P w K mg base CX0 2 f fd ["heap"] (spD K 1 S_rise) :=
  fn_ok (k := 1) (b := b_rise) F sc_rise (fun cdv A outer s H E hr => (ss_cons (s_set (i := 1) sc_rise.nd rfl (Or.inl rfl) (se_op ok_sub (se_callB ok_len rfl T.b_len PySem.boot_len (sa_cons (sv 0) sa_nil)) se_int))
    (ss_cons (s_set (i := 2) sc_rise.nd rfl (Or.inl rfl) (se_ix ok_ix (sv 0) (sv 1) (fun _ _ => rfl)))
    (ss_cons (s_while PassesOwn.never (st_w (sw_and (st_cmp ok_gt (sv 1) se_int (nomark _)) (sw_and1 (st_truth (se_cal C_is_ahead (hr.mono (by decide)) rfl (sa_cons (sv 2) (sa_cons (se_ix ok_ix (sv 0) (se_op ok_div (se_op ok_sub (sv 1) se_int) se_int) (fun _ _ => rfl)) sa_nil))))))) (ss_cons (s_asg (se_ix ok_ix (sv 0) (se_op ok_div (se_op ok_sub (sv 1) se_int) se_int) (fun _ _ => rfl)) (sg_subL (sv 0) (sv 1)))
    (ss_one (s_set (i := 1) sc_rise.nd rfl (Or.inl rfl) (se_op ok_div (se_op ok_sub (sv 1) se_int) se_int)))))
    (ss_one (s_asg (sv 2) (sg_subL (sv 0) (sv 1)))))))) imp_rise
noncomputable def b_lesser_below : DS := (dSeq (dAsg (dOp pPlus (dOp pMulI (dC (.int 2)) (dVar 1)) (dC (.int 1))) (dName 2))
    (dSeq (dIfS (dAnd (dTst (dOp pLtI (dOp pPlus (dVar 2) (dC (.int 1))) (dCB pLen (dCons (dVar 0) dNil)))) (dTr (dCal S_is_ahead (dCons (dOp pIx (dVar 0) (dOp pPlus (dVar 2) (dC (.int 1)))) (dCons (dOp pIx (dVar 0) (dVar 2)) dNil))))) (dRet (dOp pPlus (dVar 2) (dC (.int 1)))) dNext)
    (dRet (dVar 2))))
noncomputable def S_lesser_below : DSp := fun ds h Q => ∃ (j : Nat) (T : Tb) (xs : List Nat) (k : Nat), ds = [.ref j, nD k] ∧ h[j]? = some (.lst (xs.map (hD T))) ∧ k < 20000 ∧ Q (nD (lsb (ltT T) xs k)) h
theorem imp_lesser_below : ∀ ds h Q, S_lesser_below ds h Q → runD 3 b_lesser_below ds h Q := by
  rintro ds h Q ⟨j, T, xs, k, rfl, e, hk, q⟩
  simp only [runD, b_lesser_below, List.map_cons, List.map_nil, List.cons_append, List.nil_append, List.length_cons, List.length_nil, List.replicate, Nat.reduceSub, Nat.reduceAdd, Nat.zero_add, Nat.sub_self]
  (try dsimp only); refine seq_intro fun N hN => ?_
  simp only [VV]
  refine ⟨mulS (by first | decide | omega), ?_⟩
  rw [show (2 : Int) * (k : Int) + 1 = ((2 * k + 1 : Nat) : Int) by first | decide | omega]
  subst hN
  (try dsimp only); refine seq_intro fun N hN => ?_
  have e2 : ((2 * k + 1 : Nat) : Int) + 1 = ((2 * k + 2 : Nat) : Int) := by first | decide | omega
  simp only [len_ls (lsOf_ref e), List.length_map, e2, VV]
  by_cases c1 : 2 * k + 2 < xs.length
  · have d1 : decide (((2 * k + 2 : Nat) : Int) < (xs.length : Int)) = true := decide_eq_true (by first | decide | omega)
    simp only [d1, ix_ls (lsOf_ref e), hD_ix T xs _ c1, hD_ix T xs _ (show 2 * k + 1 < xs.length by first | decide | omega), VV]
    refine ⟨_, _, _, _, _, _, rfl, ?_⟩
    have el : HT.lexLt [cst T (at0 xs (2 * k + 2)), ((at0 xs (2 * k + 2) : Nat) : Int)] [cst T (at0 xs (2 * k + 1)), ((at0 xs (2 * k + 1) : Nat) : Int)] = ltT T (at0 xs (2 * k + 2)) (at0 xs (2 * k + 1)) := rfl
    rw [el]
    cases c : ltT T (at0 xs (2 * k + 2)) (at0 xs (2 * k + 1)) with
    | true =>
      simp only [e2, VV]
      unfold lsb at q
      rw [if_pos ⟨c1, c⟩] at q
      exact q
    | false =>
      simp only [VV]
      subst hN
      simp only [VV]
      unfold lsb at q
      rw [if_neg fun z => by rw [c] at z; cases z.2] at q
      exact q
  · have d1 : decide (((2 * k + 2 : Nat) : Int) < (xs.length : Int)) = false := decide_eq_false (by first | decide | omega)
    simp only [d1, VV]
    subst hN
    simp only [VV]
    unfold lsb at q
    rw [if_neg fun z => c1 z.1] at q
    exact q
theorem ok_lesser_below {f : Addr} {fd : FuncData} (F : Fun K "lesser_below" "lesser_below" s_lesser_below f fd) (T : Txt P w K mg) (C_is_ahead : Cal P w K mg base 1 "is_ahead" ["one", "other"] (spD K 2 S_is_ahead)) : FnOk P w K mg base CX0 2 f fd ["heap", "k"] (spD K 2 S_lesser_below) :=
  fn_ok (k := 1) (b := b_lesser_below) F sc_lesser_below (fun cdv A outer s H E hr => (ss_cons (s_set (i := 2) sc_lesser_below.nd rfl (Or.inl rfl) (se_op ok_plus (se_op ok_timesI se_int (sv 1)) se_int))
    (ss_cons (s_if (st_w (sw_and (st_cmp ok_ltI (se_op ok_plus (sv 2) se_int) (se_callB ok_len rfl T.b_len PySem.boot_len (sa_cons (sv 0) sa_nil)) (nomark _)) (sw_and1 (st_truth (se_cal C_is_ahead (hr.mono (by decide)) rfl (sa_cons (se_ix ok_ix (sv 0) (se_op ok_plus (sv 2) se_int) (fun _ _ => rfl)) (sa_cons (se_ix ok_ix (sv 0) (sv 2) (fun _ _ => rfl)) sa_nil))))))) (ss_one (s_ret (se_op ok_plus (sv 2) se_int))) ss_nil)
    (ss_one (s_ret (sv 2)))))) imp_lesser_below
noncomputable def b_sink : DS := (dSeq (dAsg (dC (.int 0)) (dName 1))
    (dSeq (dAsg (dOp pIx (dVar 0) (dC (.int 0))) (dName 2))
    (dSeq (dAsg (dCal S_lesser_below (dCons (dVar 0) (dCons (dC (.int 0)) dNil))) (dName 3))
    (dSeq (dWhile (dAnd (dTst (dOp pLtI (dVar 3) (dCB pLen (dCons (dVar 0) dNil)))) (dTr (dCal S_is_ahead (dCons (dOp pIx (dVar 0) (dVar 3)) (dCons (dVar 2) dNil))))) (dSeq (dAsg (dOp pIx (dVar 0) (dVar 3)) (dSubL (dVar 0) (dVar 1)))
    (dSeq (dAsg (dVar 3) (dName 1))
    (dAsg (dCal S_lesser_below (dCons (dVar 0) (dCons (dVar 1) dNil))) (dName 3)))))
    (dAsg (dVar 2) (dSubL (dVar 0) (dVar 1)))))))
noncomputable def S_sink : DSp := fun ds h Q => ∃ (j : Nat) (T : Tb) (xs : List Nat), ds = [.ref j] ∧ h[j]? = some (.lst (xs.map (hD T))) ∧ 0 < xs.length ∧ xs.length ≤ 10000 ∧ Dn (ltT T) xs 0 ∧ ∀ zs, zs.Perm xs → HP (ltT T) zs → Q .non (h.set j (.lst (zs.map (hD T))))
theorem lsb_set {lt : Nat → Nat → Bool} {xs : List Nat} {k v : Nat} (hk : k < xs.length) : lsb lt (xs.set k v) k = lsb lt xs k := by
  have e1 : at0 (xs.set k v) (2 * k + 2) = at0 xs (2 * k + 2) := by rw [at0_set _ _ _ _ hk, if_neg (by first | decide | omega)]
  have e2 : at0 (xs.set k v) (2 * k + 1) = at0 xs (2 * k + 1) := by rw [at0_set _ _ _ _ hk, if_neg (by first | decide | omega)]
  unfold lsb
  rw [List.length_set, e1, e2]
theorem imp_sink : ∀ ds h Q, S_sink ds h Q → runD 4 b_sink ds h Q := by
  rintro ds h Q ⟨j, T, xs, rfl, e, h0, hb, dn, q⟩
  have hj : j < h.length := (List.getElem?_eq_some_iff.mp e).1
  simp only [runD, b_sink, List.map_cons, List.map_nil, List.cons_append, List.nil_append, List.length_cons, List.length_nil, List.replicate, Nat.reduceSub, Nat.reduceAdd, Nat.zero_add, Nat.sub_self]
  (try dsimp only); refine seq_intro fun N hN => ?_
  simp only [VV]
  subst hN
  (try dsimp only); refine seq_intro fun N hN => ?_
  have ix0 : atI (xs.map (hD T)) (0 : Int) = some (hD T (at0 xs 0)) := hD_ix T xs 0 h0
  simp only [ix_ls (lsOf_ref e), ix0, VV]
  subst hN
  (try dsimp only); refine seq_intro fun N hN => ?_
  simp only [VV]
  refine ⟨j, T, xs, 0, rfl, e, by first | decide | omega, ?_⟩
  subst hN
  (try dsimp only); refine seq_intro fun N hN => ?_
  refine while_by (fun m δ h' => ∃ (k v : Nat) (ys : List Nat), m = xs.length - k ∧ δ = [some (.ref j), some (nD k), some (hD T v), some (nD (lsb (ltT T) ys k))] ∧ h' = h.set j (.lst (ys.map (hD T))) ∧ k < ys.length ∧ ys.length = xs.length ∧ (ys.set k v).Perm xs ∧ Dn (ltT T) (ys.set k v) k) (m := xs.length) ⟨0, at0 xs 0, xs, rfl, rfl, (set_same e).symm, h0, rfl, ?_, ?_⟩ ?_
  · rw [← at0_get h0, List.set_getElem_self]
  · rw [← at0_get h0, List.set_getElem_self]; exact dn
  · rintro m δ h' N1 ⟨k, v, ys, rfl, rfl, rfl, hk, hl, pm, u⟩ hN1
    have ej : (h.set j (O.lst (ys.map (hD T))))[j]? = some (.lst (ys.map (hD T))) := List.getElem?_set_self hj
    have fin : HP (ltT T) (ys.set k v) → N [some (.ref j), some (nD k), some (hD T v), some (nD (lsb (ltT T) ys k))] (h.set j (O.lst (ys.map (hD T)))) := by
      intro hp
      subst hN
      simp only [ej, List.length_map, ixN_nat hk, hD_set, List.set_set, VV]
      exact q _ pm hp
    have zm : at0 (ys.set k v) k = v := by rw [at0_set _ _ _ _ hk, if_pos rfl]
    have lb := lsb_set (lt := ltT T) (v := v) hk
    have hor := lsb_or (lt := ltT T) ys k
    have done := u.done (ordT T)
    have stp := u.step (ordT T)
    rw [lb, zm] at done stp
    generalize lsb (ltT T) ys k = b at *
    have zb : at0 (ys.set k v) b = at0 ys b := by rw [at0_set _ _ _ _ hk, if_neg (by first | decide | omega)]
    rw [zb] at done stp
    rw [List.length_set] at done stp
    simp only [len_ls (lsOf_ref ej), List.length_map, VV]
    by_cases hb' : b < ys.length
    · have d0 : decide ((b : Int) < (ys.length : Int)) = true := decide_eq_true (by first | decide | omega)
      simp only [d0, ix_ls (lsOf_ref ej), hD_ix T ys _ hb', VV]
      refine ⟨_, _, _, _, _, _, rfl, ?_⟩
      have el : HT.lexLt [cst T (at0 ys b), ((at0 ys b : Nat) : Int)] [cst T v, (v : Int)] = ltT T (at0 ys b) v := rfl
      rw [el]
      cases c : ltT T (at0 ys b) v with
      | false =>
        simp only [VV]
        exact fin (done (.inr c))
      | true =>
        have sw : swp2 (ys.set k v) k b = (ys.set k (at0 ys b)).set b v := by unfold swp2; rw [zm, zb, List.set_set]
        have pm2 := (swp2_perm (zs := ys.set k v) (k := k) (j := b) (by simpa using hk) (by simpa using hb') (by first | decide | omega)).trans pm
        have u2 := stp hb' c
        rw [sw] at pm2 u2
        simp only [VV]
        (try dsimp only); refine seq_intro fun N2 hN2 => ?_
        simp only [ix_ls (lsOf_ref ej), hD_ix T ys _ hb', ej, List.length_map, ixN_nat hk, hD_set, List.set_set, VV]
        subst hN2
        (try dsimp only); refine seq_intro fun N2 hN2 => ?_
        simp only [VV]
        subst hN2
        simp only [VV]
        refine ⟨j, T, ys.set k (at0 ys b), b, rfl, List.getElem?_set_self hj, by first | decide | omega, ?_⟩
        exact hN1 (xs.length - b) _ _ (by first | decide | omega) ⟨b, v, _, rfl, rfl, rfl, by simpa using hb', by simpa using hl, pm2, u2⟩
    · have d0 : decide ((b : Int) < (ys.length : Int)) = false := decide_eq_false (by first | decide | omega)
      simp only [d0, VV]
      exact fin (done (.inl (by first | decide | omega)))
theorem ok_sink {f : Addr} {fd : FuncData} (F : Fun K "sink" "sink" s_sink f fd) (T : Txt P w K mg) (C_lesser_below : Cal P w K mg base 2 "lesser_below" ["heap", "k"] (spD K 2 S_lesser_below)) (C_is_ahead : Cal P w K mg base 1 "is_ahead" ["one", "other"] (spD K 2 S_is_ahead)) : FnOk P w K mg base CX0 3 f fd ["heap"] (spD K 1 S_sink) :=
  fn_ok (k := 2) (b := b_sink) F sc_sink (fun cdv A outer s H E hr => (ss_cons (s_set (i := 1) sc_sink.nd rfl (Or.inl rfl) se_int)
    (ss_cons (s_set (i := 2) sc_sink.nd rfl (Or.inl rfl) (se_ix ok_ix (sv 0) se_int (fun _ _ => rfl)))
    (ss_cons (s_set (i := 3) sc_sink.nd rfl (Or.inl rfl) (se_cal C_lesser_below (hr.mono (by decide)) rfl (sa_cons (sv 0) (sa_cons se_int sa_nil))))
    (ss_cons (s_while PassesOwn.never (st_w (sw_and (st_cmp ok_ltI (sv 3) (se_callB ok_len rfl T.b_len PySem.boot_len (sa_cons (sv 0) sa_nil)) (nomark _)) (sw_and1 (st_truth (se_cal C_is_ahead (hr.mono (by decide)) rfl (sa_cons (se_ix ok_ix (sv 0) (sv 3) (fun _ _ => rfl)) (sa_cons (sv 2) sa_nil))))))) (ss_cons (s_asg (se_ix ok_ix (sv 0) (sv 3) (fun _ _ => rfl)) (sg_subL (sv 0) (sv 1)))
    (ss_cons (s_set (i := 1) sc_sink.nd rfl (Or.inl rfl) (sv 3))
    (ss_one (s_set (i := 3) sc_sink.nd rfl (Or.inl rfl) (se_cal C_lesser_below (hr.mono (by decide)) rfl (sa_cons (sv 0) (sa_cons (sv 1) sa_nil))))))))
    (ss_one (s_asg (sv 2) (sg_subL (sv 0) (sv 1))))))))) imp_sink
noncomputable def b_Queue__put : DS := (dSeq (dDrop (dAppend (dUn (pFld "Queue" "heap") (dVar 0)) (dCons (dTup (dCons (dVar 1) (dCons (dUn (pFld "Queue" "puts") (dVar 0)) (dCons (dVar 2) dNil)))) dNil)))
    (dSeq (dAugF "Queue" "puts" (dVar 0) (dC (.int 1)) (pI0 fun i j => i + j))
    (dDrop (dCal S_rise (dCons (dUn (pFld "Queue" "heap") (dVar 0)) dNil)))))
noncomputable def S_Queue__put : DSp := fun ds h Q => ∃ (i j : Nat) (c : Int) (t : D) (T : Tb) (hs : List Nat), ds = [.ref i, .int c, t] ∧ h[i]? = some (qO j T.length) ∧ h[j]? = some (.lst (hs.map (hD T))) ∧ (∀ n ∈ hs, n < T.length) ∧ HP (ltT T) hs ∧ hs.length < 10000 ∧
  ∀ hs', hs'.Perm (hs ++ [T.length]) → HP (ltT (T ++ [(c, t)])) hs' → Q .non ((h.set i (qO j (T.length + 1))).set j (.lst (hs'.map (hD (T ++ [(c, t)])))))
theorem imp_Queue__put : ∀ ds h Q, S_Queue__put ds h Q → runD 3 b_Queue__put ds h Q := by
  rintro ds h Q ⟨i, j, c, t, T, hs, rfl, ei, ej, hl, hp, hb, q⟩
  have hi : i < h.length := (List.getElem?_eq_some_iff.mp ei).1
  have hj : j < h.length := (List.getElem?_eq_some_iff.mp ej).1
  have ne : i ≠ j := fun z => by subst z; rw [ei] at ej; cases ej
  have en : hs.map (hD T) ++ [.tup [.int c, nD T.length, t]] = (hs ++ [T.length]).map (hD (T ++ [(c, t)])) := by
    rw [List.map_append, hD_app hl, List.map_singleton, hD_new]
  simp only [runD, b_Queue__put, List.map_cons, List.map_nil, List.cons_append, List.nil_append, List.length_cons, List.length_nil, List.replicate, Nat.reduceSub, Nat.reduceAdd, Nat.zero_add, Nat.sub_self]
  (try dsimp only); refine seq_intro fun N hN => ?_
  simp only [q_heap ei, q_puts ei, ej, List.length_map, ↓dAsg, ↓dName, ↓dVar, ↓dC, ↓dOp, ↓dUn, ↓dTst, ↓dTr, ↓dAnd, ↓dOr, ↓dNot, ↓dAndV, ↓dOrV, ↓dNotV, ↓dIf, ↓dIfS, ↓dRet, ↓dRetN, ↓dDrop, ↓dNext, ↓dNever, ↓dCB, ↓dCal, ↓dCons, ↓dNil, ↓dTup, ↓dV, ↓dTk, ↓dListOf, ↓dBits, ↓dIsinst, ↓dChain, ↓dPart, ↓dNoPart, ↓dSl, ↓dGNil, ↓dGCons, ↓dUnp, ↓dAug, ↓dAugS, ↓dSubL, setD, ↓dAppend, ↓dExtend, ↓dPop, ↓dClear, ↓dFor, ↓dISeq, ↓dIRange, ↓dIEnum, ↓dIEnum1, ↓dComp, ↓dNoIf, compSl, ↓dCatN, ↓dRepN, ↓dSlL, ↓dBreak, ↓dCont, ↓pI, ↓pI0, ↓pB0, ↓pNeg, ↓pIs, isN_non, isN_bl, isN_int, isN_str, isN_tup, isN_lst, isN_ref, ↓pIx, ↓pEq, eqS, ↓pLtI, ↓pLen, ↓pTuple, ↓pInt, ↓pMin, ↓pMax, ↓pAbs, ↓pPlus, ↓pAdd, ↓pMulI, ↓pIn, ↓dGet, List.map_cons, List.map_nil, List.cons_append, List.nil_append, List.length_cons, List.length_nil, List.replicate, List.getElem?_cons_zero, List.getElem?_cons_succ, List.set_cons_zero, List.set_cons_succ, Option.getD_some, Option.getD_none, List.getElem?_nil, Bool.false_eq_true, Bool.not_true, Bool.not_false, if_true, if_false, ite_true, ite_false, eq_self_iff_true, decide_true, decide_false, Nat.reduceSub, Nat.reduceAdd, Nat.sub_zero, Nat.sub_self, Nat.zero_add, Option.map_some, Option.map_none, Option.bind_some, Option.bind_none, lsOf_lst, seqOf_lst, seqSrc_lst, lenD_lst, ixD_lst, trD_lst, lsOf_scr, seqOf_scr, seqSrc_scr, lenD_scr, ixD_scr, trD_scr, lsP_lst, lsP_tup, lsP_int, lsP_str, seqOf_tup, seqSrc_tup, lenD_tup, ixD_tup, trD_tup, trD_non, trD_bl, trD_int, kindD_non, kindD_bl, kindD_int, kindD_str, kindD_tup, kindD_lst, isK_NoneType_bool, isK_NoneType_int, isK_NoneType_str, isK_NoneType_tuple, isK_NoneType_list, isK_NoneType_dict, isK_bool_bool, isK_bool_int, isK_bool_str, isK_bool_tuple, isK_bool_list, isK_bool_dict, isK_int_bool, isK_int_int, isK_int_str, isK_int_tuple, isK_int_list, isK_int_dict, isK_str_bool, isK_str_int, isK_str_str, isK_str_tuple, isK_str_list, isK_str_dict, isK_tuple_bool, isK_tuple_int, isK_tuple_str, isK_tuple_tuple, isK_tuple_list, isK_tuple_dict, isK_list_bool, isK_list_int, isK_list_str, isK_list_tuple, isK_list_list, isK_list_dict, isK_dict_bool, isK_dict_int, isK_dict_str, isK_dict_tuple, isK_dict_list, isK_dict_dict, ixN_10, ixN_0, at1_0, at2_0, at2_1, at3_0, at3_1, at3_2, at4_0, at4_1, at4_2, at4_3, at5_0, at5_1, at5_2, at5_3, at5_4, at6_0, at6_1, at6_2, at6_3, at6_4, at6_5, at7_0, at7_1, at7_2, at7_3, at7_4, at7_5, at7_6, at8_0, at8_1, at8_2, at8_3, at8_4, at8_5, at8_6, at8_7, sk_step, sq_step_step, sq_step_call, sq_step_in, sq_step_over, sq_step_begin, sq_step_start, sq_step_short, sq_step_along, sq_step_within, sq_step_at, sq_step_out, sk_call, sq_call_step, sq_call_call, sq_call_in, sq_call_over, sq_call_begin, sq_call_start, sq_call_short, sq_call_along, sq_call_within, sq_call_at, sq_call_out, sk_in, sq_in_step, sq_in_call, sq_in_in, sq_in_over, sq_in_begin, sq_in_start, sq_in_short, sq_in_along, sq_in_within, sq_in_at, sq_in_out, sk_over, sq_over_step, sq_over_call, sq_over_in, sq_over_over, sq_over_begin, sq_over_start, sq_over_short, sq_over_along, sq_over_within, sq_over_at, sq_over_out, sk_begin, sq_begin_step, sq_begin_call, sq_begin_in, sq_begin_over, sq_begin_begin, sq_begin_start, sq_begin_short, sq_begin_along, sq_begin_within, sq_begin_at, sq_begin_out, sk_start, sq_start_step, sq_start_call, sq_start_in, sq_start_over, sq_start_begin, sq_start_start, sq_start_short, sq_start_along, sq_start_within, sq_start_at, sq_start_out, sk_short, sq_short_step, sq_short_call, sq_short_in, sq_short_over, sq_short_begin, sq_short_start, sq_short_short, sq_short_along, sq_short_within, sq_short_at, sq_short_out, sk_along, sq_along_step, sq_along_call, sq_along_in, sq_along_over, sq_along_begin, sq_along_start, sq_along_short, sq_along_along, sq_along_within, sq_along_at, sq_along_out, sk_within, sq_within_step, sq_within_call, sq_within_in, sq_within_over, sq_within_begin, sq_within_start, sq_within_short, sq_within_along, sq_within_within, sq_within_at, sq_within_out, sk_at, sq_at_step, sq_at_call, sq_at_in, sq_at_over, sq_at_begin, sq_at_start, sq_at_short, sq_at_along, sq_at_within, sq_at_at, sq_at_out, sk_out, sq_out_step, sq_out_call, sq_out_in, sq_out_over, sq_out_begin, sq_out_start, sq_out_short, sq_out_along, sq_out_within, sq_out_at, sq_out_out, Bool.and_self, Bool.and_true, ↓dSetF, ↓dAugF, ↓dMeth, ↓dMake, setF, hasM, ↓pLtT, ↓pCatS, ↓pStr, ↓dPopAt, ↓reduceIte]
  refine ⟨by first | decide | omega, ?_⟩
  rw [en]
  subst hN
  (try dsimp only); refine seq_intro fun N hN => ?_
  have ei2 : (h.set j (O.lst ((hs ++ [T.length]).map (hD (T ++ [(c, t)])))))[i]? = some (qO j T.length) := by rw [List.getElem?_set_ne (Ne.symm ne)]; exact ei
  have ei3 := insO_ref ei2
  have lk : ([(Str.ofString "heap", D.ref j), (Str.ofString "puts", nD T.length)] : List (Str × D)).lookup (Str.ofString "puts") = some (nD T.length) := rfl
  have ei4 : (h.set j (O.lst ((hs ++ [T.length]).map (hD (T ++ [(c, t)])))))[i]? = some (.ins "Queue" [("heap", .ref j), ("puts", nD T.length)]) := ei2
  have pa : putA (Str.ofString "puts") (nD (T.length + 1)) [(Str.ofString "heap", D.ref j), (Str.ofString "puts", nD T.length)] = [(Str.ofString "heap", D.ref j), (Str.ofString "puts", nD (T.length + 1))] := by
    show (if _ then _ else _ :: (if _ then _ else _)) = _
    rw [if_neg (by decide +kernel), if_pos rfl]
  simp only [ei3, lk, ei4, VV]
  refine ⟨⟨trivial, by simp⟩, ?_⟩
  rw [show (T.length : Int) + 1 = ((T.length + 1 : Nat) : Int) by first | decide | omega, pa]
  subst hN
  have e5 : ((h.set j (O.lst ((hs ++ [T.length]).map (hD (T ++ [(c, t)]))))).set i (.ins "Queue" [("heap", .ref j), ("puts", nD (T.length + 1))]))[i]? = some (qO j (T.length + 1)) := List.getElem?_set_self (by simpa using hi)
  simp only [q_heap e5, ↓dAsg, ↓dName, ↓dVar, ↓dC, ↓dOp, ↓dUn, ↓dTst, ↓dTr, ↓dAnd, ↓dOr, ↓dNot, ↓dAndV, ↓dOrV, ↓dNotV, ↓dIf, ↓dIfS, ↓dRet, ↓dRetN, ↓dDrop, ↓dNext, ↓dNever, ↓dCB, ↓dCal, ↓dCons, ↓dNil, ↓dTup, ↓dV, ↓dTk, ↓dListOf, ↓dBits, ↓dIsinst, ↓dChain, ↓dPart, ↓dNoPart, ↓dSl, ↓dGNil, ↓dGCons, ↓dUnp, ↓dAug, ↓dAugS, ↓dSubL, setD, ↓dAppend, ↓dExtend, ↓dPop, ↓dClear, ↓dFor, ↓dISeq, ↓dIRange, ↓dIEnum, ↓dIEnum1, ↓dComp, ↓dNoIf, compSl, ↓dCatN, ↓dRepN, ↓dSlL, ↓dBreak, ↓dCont, ↓pI, ↓pI0, ↓pB0, ↓pNeg, ↓pIs, isN_non, isN_bl, isN_int, isN_str, isN_tup, isN_lst, isN_ref, ↓pIx, ↓pEq, eqS, ↓pLtI, ↓pLen, ↓pTuple, ↓pInt, ↓pMin, ↓pMax, ↓pAbs, ↓pPlus, ↓pAdd, ↓pMulI, ↓pIn, ↓dGet, List.map_cons, List.map_nil, List.cons_append, List.nil_append, List.length_cons, List.length_nil, List.replicate, List.getElem?_cons_zero, List.getElem?_cons_succ, List.set_cons_zero, List.set_cons_succ, Option.getD_some, Option.getD_none, List.getElem?_nil, Bool.false_eq_true, Bool.not_true, Bool.not_false, if_true, if_false, ite_true, ite_false, eq_self_iff_true, decide_true, decide_false, Nat.reduceSub, Nat.reduceAdd, Nat.sub_zero, Nat.sub_self, Nat.zero_add, Option.map_some, Option.map_none, Option.bind_some, Option.bind_none, lsOf_lst, seqOf_lst, seqSrc_lst, lenD_lst, ixD_lst, trD_lst, lsOf_scr, seqOf_scr, seqSrc_scr, lenD_scr, ixD_scr, trD_scr, lsP_lst, lsP_tup, lsP_int, lsP_str, seqOf_tup, seqSrc_tup, lenD_tup, ixD_tup, trD_tup, trD_non, trD_bl, trD_int, kindD_non, kindD_bl, kindD_int, kindD_str, kindD_tup, kindD_lst, isK_NoneType_bool, isK_NoneType_int, isK_NoneType_str, isK_NoneType_tuple, isK_NoneType_list, isK_NoneType_dict, isK_bool_bool, isK_bool_int, isK_bool_str, isK_bool_tuple, isK_bool_list, isK_bool_dict, isK_int_bool, isK_int_int, isK_int_str, isK_int_tuple, isK_int_list, isK_int_dict, isK_str_bool, isK_str_int, isK_str_str, isK_str_tuple, isK_str_list, isK_str_dict, isK_tuple_bool, isK_tuple_int, isK_tuple_str, isK_tuple_tuple, isK_tuple_list, isK_tuple_dict, isK_list_bool, isK_list_int, isK_list_str, isK_list_tuple, isK_list_list, isK_list_dict, isK_dict_bool, isK_dict_int, isK_dict_str, isK_dict_tuple, isK_dict_list, isK_dict_dict, ixN_10, ixN_0, at1_0, at2_0, at2_1, at3_0, at3_1, at3_2, at4_0, at4_1, at4_2, at4_3, at5_0, at5_1, at5_2, at5_3, at5_4, at6_0, at6_1, at6_2, at6_3, at6_4, at6_5, at7_0, at7_1, at7_2, at7_3, at7_4, at7_5, at7_6, at8_0, at8_1, at8_2, at8_3, at8_4, at8_5, at8_6, at8_7, sk_step, sq_step_step, sq_step_call, sq_step_in, sq_step_over, sq_step_begin, sq_step_start, sq_step_short, sq_step_along, sq_step_within, sq_step_at, sq_step_out, sk_call, sq_call_step, sq_call_call, sq_call_in, sq_call_over, sq_call_begin, sq_call_start, sq_call_short, sq_call_along, sq_call_within, sq_call_at, sq_call_out, sk_in, sq_in_step, sq_in_call, sq_in_in, sq_in_over, sq_in_begin, sq_in_start, sq_in_short, sq_in_along, sq_in_within, sq_in_at, sq_in_out, sk_over, sq_over_step, sq_over_call, sq_over_in, sq_over_over, sq_over_begin, sq_over_start, sq_over_short, sq_over_along, sq_over_within, sq_over_at, sq_over_out, sk_begin, sq_begin_step, sq_begin_call, sq_begin_in, sq_begin_over, sq_begin_begin, sq_begin_start, sq_begin_short, sq_begin_along, sq_begin_within, sq_begin_at, sq_begin_out, sk_start, sq_start_step, sq_start_call, sq_start_in, sq_start_over, sq_start_begin, sq_start_start, sq_start_short, sq_start_along, sq_start_within, sq_start_at, sq_start_out, sk_short, sq_short_step, sq_short_call, sq_short_in, sq_short_over, sq_short_begin, sq_short_start, sq_short_short, sq_short_along, sq_short_within, sq_short_at, sq_short_out, sk_along, sq_along_step, sq_along_call, sq_along_in, sq_along_over, sq_along_begin, sq_along_start, sq_along_short, sq_along_along, sq_along_within, sq_along_at, sq_along_out, sk_within, sq_within_step, sq_within_call, sq_within_in, sq_within_over, sq_within_begin, sq_within_start, sq_within_short, sq_within_along, sq_within_within, sq_within_at, sq_within_out, sk_at, sq_at_step, sq_at_call, sq_at_in, sq_at_over, sq_at_begin, sq_at_start, sq_at_short, sq_at_along, sq_at_within, sq_at_at, sq_at_out, sk_out, sq_out_step, sq_out_call, sq_out_in, sq_out_over, sq_out_begin, sq_out_start, sq_out_short, sq_out_along, sq_out_within, sq_out_at, sq_out_out, Bool.and_self, Bool.and_true, ↓dSetF, ↓dAugF, ↓dMeth, ↓dMake, setF, hasM, ↓pLtT, ↓pCatS, ↓pStr, ↓dPopAt, ↓reduceIte]
  refine ⟨j, T ++ [(c, t)], hs ++ [T.length], rfl, ?_, by simp, by simp; omega, ?_, fun zs p hz => ?_⟩
  · rw [List.getElem?_set_ne ne, List.getElem?_set_self hj]
  · rw [show (hs ++ [T.length]).length - 1 = hs.length by simp]
    exact (hp.app hl).up _
  · rw [List.set_comm _ _ (Ne.symm ne), List.set_set]
    exact q zs p hz
theorem ok_Queue__put {f : Addr} {fd : FuncData} (F : Fun K "put" "Queue.put" s_Queue__put f fd) (T : Txt P w K mg) (C_rise : Cal P w K mg base 2 "rise" ["heap"] (spD K 1 S_rise)) : FnOk P w K mg base CX0 3 f fd ["self", "cost", "thing"] (spD K 3 S_Queue__put) :=
  fn_ok (k := 2) (b := b_Queue__put) F sc_Queue__put (fun cdv A outer s H E hr => (ss_cons (s_expr (se_append (se_fld T.f_heap (sv 0)) (sa_cons (se_tup (sa_cons (sv 1) (sa_cons (se_fld T.f_puts (sv 0)) (sa_cons (sv 2) sa_nil)))) sa_nil)))
    (ss_cons (s_fldaug T.f_puts (sv 0) se_int iok_add)
    (ss_one (s_expr (se_cal C_rise (hr.mono (by decide)) rfl (sa_cons (se_fld T.f_heap (sv 0)) sa_nil))))))) imp_Queue__put
noncomputable def b__law_filled : DS := (dFor (dIRange (dCons (dOp pMod (dVar 2) (dC (.int 60))) dNil)) (dName 3) (dSeq (dAsg (dOp pMod (dOp pPlus (dOp pMulI (dOp pMod (dVar 2) (dC (.int 1000003))) (dOp pPlus (dVar 3) (dC (.int 1)))) (dOp pMulI (dVar 3) (dVar 3))) (dOp pIx (dV (dCons (dC (.int 3)) (dCons (dC (.int 7)) (dCons (dOp pPow (dC (.int 10)) (dC (.int 9))) dNil)))) (dOp pMod (dOp pDiv (dVar 2) (dC (.int 60))) (dC (.int 3))))) (dName 4))
    (dSeq (dDrop (dMeth "Queue" "put" S_Queue__put (dVar 0) (dCons (dVar 4) (dCons (dVar 3) dNil))))
    (dDrop (dAppend (dVar 1) (dCons (dTup (dCons (dVar 4) (dCons (dVar 3) dNil))) dNil))))))
noncomputable def st3 (h : Hh) (i j l : Nat) (a b c : O) : Hh := ((h.set i a).set j b).set l c
theorem st3_i {h : Hh} {i j l : Nat} {a b c : O} (hi : i < h.length) (ij : i ≠ j) (il : i ≠ l) : (st3 h i j l a b c)[i]? = some a := by
  unfold st3
  rw [List.getElem?_set_ne (Ne.symm il), List.getElem?_set_ne (Ne.symm ij), List.getElem?_set_self hi]
theorem st3_j {h : Hh} {i j l : Nat} {a b c : O} (hj : j < h.length) (jl : j ≠ l) : (st3 h i j l a b c)[j]? = some b := by
  unfold st3
  rw [List.getElem?_set_ne (Ne.symm jl), List.getElem?_set_self (by simpa using hj)]
theorem st3_l {h : Hh} {i j l : Nat} {a b c : O} (hl : l < h.length) : (st3 h i j l a b c)[l]? = some c := by
  unfold st3
  rw [List.getElem?_set_self (by simpa using hl)]
theorem st3_si {h : Hh} {i j l : Nat} {a b c a' : O} (ij : i ≠ j) (il : i ≠ l) : (st3 h i j l a b c).set i a' = st3 h i j l a' b c := by
  unfold st3
  rw [List.set_comm _ _ (Ne.symm il), List.set_comm (l := h.set i a) _ _ (Ne.symm ij), List.set_set]
theorem st3_sj {h : Hh} {i j l : Nat} {a b c b' : O} (jl : j ≠ l) : (st3 h i j l a b c).set j b' = st3 h i j l a b' c := by
  unfold st3
  rw [List.set_comm _ _ (Ne.symm jl), List.set_set]
theorem st3_sl {h : Hh} {i j l : Nat} {a b c c' : O} : (st3 h i j l a b c).set l c' = st3 h i j l a b c' := by
  unfold st3
  rw [List.set_set]
noncomputable def S__law_filled : DSp := fun ds h Q => ∃ (i j l : Nat) (cell : Int), ds = [.ref i, .ref l, .int cell] ∧ h[i]? = some (qO j 0) ∧ h[j]? = some (.lst []) ∧ h[l]? = some (.lst []) ∧ j ≠ l ∧ ∀ T hs ss, QInv T hs ss → T.length ≤ 60 → Q .non (st3 h i j l (qO j T.length) (.lst (hs.map (hD T))) (.lst (ss.map (sD T))))
theorem imp__law_filled : ∀ ds h Q, S__law_filled ds h Q → runD 5 b__law_filled ds h Q := by
  rintro ds h Q ⟨i, j, l, cell, rfl, ei, ej, el, jl, q⟩
  have hi : i < h.length := (List.getElem?_eq_some_iff.mp ei).1
  have hj : j < h.length := (List.getElem?_eq_some_iff.mp ej).1
  have hl : l < h.length := (List.getElem?_eq_some_iff.mp el).1
  have ij : i ≠ j := fun z => by subst z; rw [ei] at ej; cases ej
  have il : i ≠ l := fun z => by subst z; rw [ei] at el; cases el
  have c0 := Int.emod_nonneg cell (show (60 : Int) ≠ 0 by decide)
  have c1 := Int.emod_lt_of_pos cell (show (0 : Int) < 60 by decide)
  simp only [runD, b__law_filled, List.map_cons, List.map_nil, List.cons_append, List.nil_append, List.length_cons, List.length_nil, List.replicate, Nat.reduceSub, Nat.reduceAdd, Nat.zero_add, Nat.sub_self]
  simp only [VV]
  refine ⟨by decide, ⟨by first | decide | omega, by first | decide | omega⟩, ?_⟩
  rw [rangeD_map]
  refine forL_map (fun p δ h' => ∃ (T : Tb) (hs ss : List Nat) (x3 x4 : Option D), δ = [some (.ref i), some (.ref l), some (.int cell), x3, x4] ∧ h' = st3 h i j l (qO j T.length) (.lst (hs.map (hD T))) (.lst (ss.map (sD T))) ∧ QInv T hs ss ∧ T.length ≤ p.length) ⟨[], [], [], none, none, rfl, ?_, QInv.nil, Nat.le_refl _⟩ (fun _ _ _ _ => Src.ok_nil) ?_ ?_
  · show h = ((h.set i (qO j 0)).set j (.lst [])).set l (.lst [])
    rw [set_same ei, set_same ej, set_same el]
  · rintro p y r δ h' N1 e ⟨T, hs, ss, x3, x4, rfl, rfl, qi, hT⟩ hN1
    obtain ⟨e1, e2⟩ := range_split e
    have p60 : p.length < 60 := by first | decide | omega
    have hlen := qi.perm.length_eq
    have sl := qi.len
    simp only [VV]
    rw [Int.zero_add]
    (try dsimp only); refine seq_intro fun N2 hN2 => ?_
    obtain ⟨md, hmd, hm0⟩ : ∃ md : Int, atI [D.int 3, D.int 7, D.int (10 ^ Int.toNat 9)] (cell / 60 % 3) = some (.int md) ∧ 0 < md := by
      have a0 := Int.emod_nonneg (cell / 60) (show (3 : Int) ≠ 0 by decide)
      have a1 := Int.emod_lt_of_pos (cell / 60) (show (0 : Int) < 3 by decide)
      obtain e | e | e : cell / 60 % 3 = 0 ∨ cell / 60 % 3 = 1 ∨ cell / 60 % 3 = 2 := by first | decide | omega
      · rw [e]; exact ⟨3, rfl, by decide⟩
      · rw [e]; exact ⟨7, rfl, by decide⟩
      · rw [e]; exact ⟨_, rfl, by decide⟩
    simp only [hmd, VV]
    refine ⟨by decide, mulS' (by first | decide | omega), mulS (by first | decide | omega), ⟨by decide, by decide, by decide⟩, ⟨by decide, by decide⟩, by decide, hm0, ?_⟩
    generalize (cell % 1000003 * ((y : Int) + 1) + (y : Int) * (y : Int)) % md = c
    subst hN2
    (try dsimp only); refine seq_intro fun N2 hN2 => ?_
    simp only [↓dAsg, ↓dName, ↓dVar, ↓dC, ↓dOp, ↓dUn, ↓dTst, ↓dTr, ↓dAnd, ↓dOr, ↓dNot, ↓dAndV, ↓dOrV, ↓dNotV, ↓dIf, ↓dIfS, ↓dRet, ↓dRetN, ↓dDrop, ↓dNext, ↓dNever, ↓dCB, ↓dCal, ↓dCons, ↓dNil, ↓dTup, ↓dV, ↓dTk, ↓dListOf, ↓dBits, ↓dIsinst, ↓dChain, ↓dPart, ↓dNoPart, ↓dSl, ↓dGNil, ↓dGCons, ↓dUnp, ↓dAug, ↓dAugS, ↓dSubL, setD, ↓dAppend, ↓dExtend, ↓dPop, ↓dClear, ↓dFor, ↓dISeq, ↓dIRange, ↓dIEnum, ↓dIEnum1, ↓dComp, ↓dNoIf, compSl, ↓dCatN, ↓dRepN, ↓dSlL, ↓dBreak, ↓dCont, ↓pI, ↓pI0, ↓pB0, ↓pNeg, ↓pIs, isN_non, isN_bl, isN_int, isN_str, isN_tup, isN_lst, isN_ref, ↓pIx, ↓pEq, eqS, ↓pLtI, ↓pLen, ↓pTuple, ↓pInt, ↓pMin, ↓pMax, ↓pAbs, ↓pPlus, ↓pAdd, ↓pMulI, ↓pIn, ↓dGet, List.map_cons, List.map_nil, List.cons_append, List.nil_append, List.length_cons, List.length_nil, List.replicate, List.getElem?_cons_zero, List.getElem?_cons_succ, List.set_cons_zero, List.set_cons_succ, Option.getD_some, Option.getD_none, List.getElem?_nil, Bool.false_eq_true, Bool.not_true, Bool.not_false, if_true, if_false, ite_true, ite_false, eq_self_iff_true, decide_true, decide_false, Nat.reduceSub, Nat.reduceAdd, Nat.sub_zero, Nat.sub_self, Nat.zero_add, Option.map_some, Option.map_none, Option.bind_some, Option.bind_none, lsOf_lst, seqOf_lst, seqSrc_lst, lenD_lst, ixD_lst, trD_lst, lsOf_scr, seqOf_scr, seqSrc_scr, lenD_scr, ixD_scr, trD_scr, lsP_lst, lsP_tup, lsP_int, lsP_str, seqOf_tup, seqSrc_tup, lenD_tup, ixD_tup, trD_tup, trD_non, trD_bl, trD_int, kindD_non, kindD_bl, kindD_int, kindD_str, kindD_tup, kindD_lst, isK_NoneType_bool, isK_NoneType_int, isK_NoneType_str, isK_NoneType_tuple, isK_NoneType_list, isK_NoneType_dict, isK_bool_bool, isK_bool_int, isK_bool_str, isK_bool_tuple, isK_bool_list, isK_bool_dict, isK_int_bool, isK_int_int, isK_int_str, isK_int_tuple, isK_int_list, isK_int_dict, isK_str_bool, isK_str_int, isK_str_str, isK_str_tuple, isK_str_list, isK_str_dict, isK_tuple_bool, isK_tuple_int, isK_tuple_str, isK_tuple_tuple, isK_tuple_list, isK_tuple_dict, isK_list_bool, isK_list_int, isK_list_str, isK_list_tuple, isK_list_list, isK_list_dict, isK_dict_bool, isK_dict_int, isK_dict_str, isK_dict_tuple, isK_dict_list, isK_dict_dict, ixN_10, ixN_0, at1_0, at2_0, at2_1, at3_0, at3_1, at3_2, at4_0, at4_1, at4_2, at4_3, at5_0, at5_1, at5_2, at5_3, at5_4, at6_0, at6_1, at6_2, at6_3, at6_4, at6_5, at7_0, at7_1, at7_2, at7_3, at7_4, at7_5, at7_6, at8_0, at8_1, at8_2, at8_3, at8_4, at8_5, at8_6, at8_7, sk_step, sq_step_step, sq_step_call, sq_step_in, sq_step_over, sq_step_begin, sq_step_start, sq_step_short, sq_step_along, sq_step_within, sq_step_at, sq_step_out, sk_call, sq_call_step, sq_call_call, sq_call_in, sq_call_over, sq_call_begin, sq_call_start, sq_call_short, sq_call_along, sq_call_within, sq_call_at, sq_call_out, sk_in, sq_in_step, sq_in_call, sq_in_in, sq_in_over, sq_in_begin, sq_in_start, sq_in_short, sq_in_along, sq_in_within, sq_in_at, sq_in_out, sk_over, sq_over_step, sq_over_call, sq_over_in, sq_over_over, sq_over_begin, sq_over_start, sq_over_short, sq_over_along, sq_over_within, sq_over_at, sq_over_out, sk_begin, sq_begin_step, sq_begin_call, sq_begin_in, sq_begin_over, sq_begin_begin, sq_begin_start, sq_begin_short, sq_begin_along, sq_begin_within, sq_begin_at, sq_begin_out, sk_start, sq_start_step, sq_start_call, sq_start_in, sq_start_over, sq_start_begin, sq_start_start, sq_start_short, sq_start_along, sq_start_within, sq_start_at, sq_start_out, sk_short, sq_short_step, sq_short_call, sq_short_in, sq_short_over, sq_short_begin, sq_short_start, sq_short_short, sq_short_along, sq_short_within, sq_short_at, sq_short_out, sk_along, sq_along_step, sq_along_call, sq_along_in, sq_along_over, sq_along_begin, sq_along_start, sq_along_short, sq_along_along, sq_along_within, sq_along_at, sq_along_out, sk_within, sq_within_step, sq_within_call, sq_within_in, sq_within_over, sq_within_begin, sq_within_start, sq_within_short, sq_within_along, sq_within_within, sq_within_at, sq_within_out, sk_at, sq_at_step, sq_at_call, sq_at_in, sq_at_over, sq_at_begin, sq_at_start, sq_at_short, sq_at_along, sq_at_within, sq_at_at, sq_at_out, sk_out, sq_out_step, sq_out_call, sq_out_in, sq_out_over, sq_out_begin, sq_out_start, sq_out_short, sq_out_along, sq_out_within, sq_out_at, sq_out_out, Bool.and_self, Bool.and_true, ↓dSetF, ↓dAugF, ↓dMeth, ↓dMake, ↓pFld, setF, ↓pLtT, ↓pCatS, ↓pStr, ↓dPopAt, ↓reduceIte]
    refine ⟨q_has (st3_i hi ij il) rfl, i, j, c, nD y, T, hs, rfl, st3_i hi ij il, st3_j hj jl, qi.lth, qi.hp, by first | decide | omega, fun hs' p' hz => ?_⟩
    rw [st3_si ij il, st3_sj jl]
    subst hN2
    have gl : ∀ a b c, (st3 h i j l a b c)[l]? = some c := fun a b c => st3_l hl
    simp only [gl, List.length_map, st3_sl, VV]
    have en : ss.map (sD T) ++ [.tup [.int c, nD y]] = (ss ++ [T.length]).map (sD (T ++ [(c, nD y)])) := by
      rw [List.map_append, sD_app qi.lt, List.map_singleton, sD_new]
    refine ⟨by first | decide | omega, ?_⟩
    rw [en]
    exact hN1 _ _ ⟨T ++ [(c, nD y)], hs', ss ++ [T.length], _, _, rfl, by rw [List.length_append]; rfl, qi.put ⟨rfl, _, fun _ => .int _⟩ p' hz, by rw [List.length_append, List.length_append]; simp; omega⟩
  · rintro δ h' ⟨T, hs, ss, x3, x4, rfl, rfl, qi, hT⟩
    rw [List.length_range] at hT
    exact q T hs ss qi (by first | decide | omega)
theorem ok__law_filled {f : Addr} {fd : FuncData} (F : Fun K "_law_filled" "_law_filled" s__law_filled f fd) (T : Txt P w K mg) (C_Queue__put : CalM P w K mg base 3 "Queue" "put" ["self", "cost", "thing"] (spD K 3 S_Queue__put)) : FnOk P w K mg base CX0 4 f fd ["_law_queue", "_law_stored", "_law_cell"] (spD K 3 S__law_filled) :=
  fn_ok (k := 3) (b := b__law_filled) F sc__law_filled (fun cdv A outer s H E hr => (ss_one (s_for PassesOwn.never rfl (si_range1 rfl T.b_range (sa_cons (se_op ok_mod (sv 2) se_int) sa_nil)) (sg_name (i := 3) sc__law_filled.nd rfl (Or.inl rfl)) (ss_cons (s_set (i := 4) sc__law_filled.nd rfl (Or.inl rfl) (se_op ok_mod (se_op ok_plus (se_op ok_timesI (se_op ok_mod (sv 2) se_int) (se_op ok_plus (sv 3) se_int)) (se_op ok_timesI (sv 3) (sv 3))) (se_ix ok_ix (se_v (sn_lst (sa_cons se_int (sa_cons se_int (sa_cons (se_op ok_pow se_int se_int) sa_nil))))) (se_op ok_mod (se_op ok_div (sv 2) se_int) se_int) (fun _ _ => rfl))))
    (ss_cons (s_expr (se_meth C_Queue__put (hr.mono (by decide)) (sv 0) (sa_cons (sv 4) (sa_cons (sv 3) sa_nil))))
    (ss_one (s_expr (se_append (sv 1) (sa_cons (se_tup (sa_cons (sv 4) (sa_cons (sv 3) sa_nil))) sa_nil))))))))) imp__law_filled
noncomputable def b_Queue__take : DS := (dSeq (dIfS (dTst (dOp (pEq false) (dCB pLen (dCons (dUn (pFld "Queue" "heap") (dVar 0)) dNil)) (dC (.int 0)))) (dRet (dC .non)) dNext)
    (dSeq (dAsg (dOp pIx (dUn (pFld "Queue" "heap") (dVar 0)) (dC (.int 0))) (dName 1))
    (dSeq (dAsg (dPop (dUn (pFld "Queue" "heap") (dVar 0))) (dName 2))
    (dSeq (dIfS (dTst (dOp pGt (dCB pLen (dCons (dUn (pFld "Queue" "heap") (dVar 0)) dNil)) (dC (.int 0)))) (dSeq (dAsg (dVar 2) (dSubL (dUn (pFld "Queue" "heap") (dVar 0)) (dC (.int 0))))
    (dDrop (dCal S_sink (dCons (dUn (pFld "Queue" "heap") (dVar 0)) dNil)))) dNext)
    (dRet (dTup (dCons (dOp pIx (dVar 1) (dC (.int 0))) (dCons (dOp pIx (dVar 1) (dC (.int 2))) dNil))))))))
noncomputable def S_Queue__take : DSp := fun ds h Q => ∃ (i j n : Nat) (T : Tb) (hs : List Nat), ds = [.ref i] ∧ h[i]? = some (qO j n) ∧ h[j]? = some (.lst (hs.map (hD T))) ∧ HP (ltT T) hs ∧ hs.length ≤ 10000 ∧
  (hs = [] → Q .non h) ∧ (0 < hs.length → ∀ hs', (at0 hs 0 :: hs').Perm hs → HP (ltT T) hs' → Q (sD T (at0 hs 0)) (h.set j (.lst (hs'.map (hD T)))))
theorem imp_Queue__take : ∀ ds h Q, S_Queue__take ds h Q → runD 3 b_Queue__take ds h Q := by
  rintro ds h Q ⟨i, j, n, T, hs, rfl, ei, ej, hp, hb, q0, q1⟩
  have hi : i < h.length := (List.getElem?_eq_some_iff.mp ei).1
  have hj : j < h.length := (List.getElem?_eq_some_iff.mp ej).1
  have ne : i ≠ j := fun z => by subst z; rw [ei] at ej; cases ej
  simp only [runD, b_Queue__take, List.map_cons, List.map_nil, List.cons_append, List.nil_append, List.length_cons, List.length_nil, List.replicate, Nat.reduceSub, Nat.reduceAdd, Nat.zero_add, Nat.sub_self]
  (try dsimp only); refine seq_intro fun N hN => ?_
  simp only [q_heap ei, len_ls (lsOf_ref ej), List.length_map, ↓dAsg, ↓dName, ↓dVar, ↓dC, ↓dOp, ↓dUn, ↓dTst, ↓dTr, ↓dAnd, ↓dOr, ↓dNot, ↓dAndV, ↓dOrV, ↓dNotV, ↓dIf, ↓dIfS, ↓dRet, ↓dRetN, ↓dDrop, ↓dNext, ↓dNever, ↓dCB, ↓dCal, ↓dCons, ↓dNil, ↓dTup, ↓dV, ↓dTk, ↓dListOf, ↓dBits, ↓dIsinst, ↓dChain, ↓dPart, ↓dNoPart, ↓dSl, ↓dGNil, ↓dGCons, ↓dUnp, ↓dAug, ↓dAugS, ↓dSubL, setD, ↓dAppend, ↓dExtend, ↓dPop, ↓dClear, ↓dFor, ↓dISeq, ↓dIRange, ↓dIEnum, ↓dIEnum1, ↓dComp, ↓dNoIf, compSl, ↓dCatN, ↓dRepN, ↓dSlL, ↓dBreak, ↓dCont, ↓pI, ↓pI0, ↓pB0, ↓pNeg, ↓pIs, isN_non, isN_bl, isN_int, isN_str, isN_tup, isN_lst, isN_ref, ↓pIx, ↓pEq, eqS, ↓pLtI, ↓pLen, ↓pTuple, ↓pInt, ↓pMin, ↓pMax, ↓pAbs, ↓pPlus, ↓pAdd, ↓pMulI, ↓pIn, ↓dGet, List.map_cons, List.map_nil, List.cons_append, List.nil_append, List.length_cons, List.length_nil, List.replicate, List.getElem?_cons_zero, List.getElem?_cons_succ, List.set_cons_zero, List.set_cons_succ, Option.getD_some, Option.getD_none, List.getElem?_nil, Bool.false_eq_true, Bool.not_true, Bool.not_false, if_true, if_false, ite_true, ite_false, eq_self_iff_true, decide_true, decide_false, Nat.reduceSub, Nat.reduceAdd, Nat.sub_zero, Nat.sub_self, Nat.zero_add, Option.map_some, Option.map_none, Option.bind_some, Option.bind_none, lsOf_lst, seqOf_lst, seqSrc_lst, lenD_lst, ixD_lst, trD_lst, lsOf_scr, seqOf_scr, seqSrc_scr, lenD_scr, ixD_scr, trD_scr, lsP_lst, lsP_tup, lsP_int, lsP_str, seqOf_tup, seqSrc_tup, lenD_tup, ixD_tup, trD_tup, trD_non, trD_bl, trD_int, kindD_non, kindD_bl, kindD_int, kindD_str, kindD_tup, kindD_lst, isK_NoneType_bool, isK_NoneType_int, isK_NoneType_str, isK_NoneType_tuple, isK_NoneType_list, isK_NoneType_dict, isK_bool_bool, isK_bool_int, isK_bool_str, isK_bool_tuple, isK_bool_list, isK_bool_dict, isK_int_bool, isK_int_int, isK_int_str, isK_int_tuple, isK_int_list, isK_int_dict, isK_str_bool, isK_str_int, isK_str_str, isK_str_tuple, isK_str_list, isK_str_dict, isK_tuple_bool, isK_tuple_int, isK_tuple_str, isK_tuple_tuple, isK_tuple_list, isK_tuple_dict, isK_list_bool, isK_list_int, isK_list_str, isK_list_tuple, isK_list_list, isK_list_dict, isK_dict_bool, isK_dict_int, isK_dict_str, isK_dict_tuple, isK_dict_list, isK_dict_dict, ixN_10, ixN_0, at1_0, at2_0, at2_1, at3_0, at3_1, at3_2, at4_0, at4_1, at4_2, at4_3, at5_0, at5_1, at5_2, at5_3, at5_4, at6_0, at6_1, at6_2, at6_3, at6_4, at6_5, at7_0, at7_1, at7_2, at7_3, at7_4, at7_5, at7_6, at8_0, at8_1, at8_2, at8_3, at8_4, at8_5, at8_6, at8_7, sk_step, sq_step_step, sq_step_call, sq_step_in, sq_step_over, sq_step_begin, sq_step_start, sq_step_short, sq_step_along, sq_step_within, sq_step_at, sq_step_out, sk_call, sq_call_step, sq_call_call, sq_call_in, sq_call_over, sq_call_begin, sq_call_start, sq_call_short, sq_call_along, sq_call_within, sq_call_at, sq_call_out, sk_in, sq_in_step, sq_in_call, sq_in_in, sq_in_over, sq_in_begin, sq_in_start, sq_in_short, sq_in_along, sq_in_within, sq_in_at, sq_in_out, sk_over, sq_over_step, sq_over_call, sq_over_in, sq_over_over, sq_over_begin, sq_over_start, sq_over_short, sq_over_along, sq_over_within, sq_over_at, sq_over_out, sk_begin, sq_begin_step, sq_begin_call, sq_begin_in, sq_begin_over, sq_begin_begin, sq_begin_start, sq_begin_short, sq_begin_along, sq_begin_within, sq_begin_at, sq_begin_out, sk_start, sq_start_step, sq_start_call, sq_start_in, sq_start_over, sq_start_begin, sq_start_start, sq_start_short, sq_start_along, sq_start_within, sq_start_at, sq_start_out, sk_short, sq_short_step, sq_short_call, sq_short_in, sq_short_over, sq_short_begin, sq_short_start, sq_short_short, sq_short_along, sq_short_within, sq_short_at, sq_short_out, sk_along, sq_along_step, sq_along_call, sq_along_in, sq_along_over, sq_along_begin, sq_along_start, sq_along_short, sq_along_along, sq_along_within, sq_along_at, sq_along_out, sk_within, sq_within_step, sq_within_call, sq_within_in, sq_within_over, sq_within_begin, sq_within_start, sq_within_short, sq_within_along, sq_within_within, sq_within_at, sq_within_out, sk_at, sq_at_step, sq_at_call, sq_at_in, sq_at_over, sq_at_begin, sq_at_start, sq_at_short, sq_at_along, sq_at_within, sq_at_at, sq_at_out, sk_out, sq_out_step, sq_out_call, sq_out_in, sq_out_over, sq_out_begin, sq_out_start, sq_out_short, sq_out_along, sq_out_within, sq_out_at, sq_out_out, Bool.and_self, Bool.and_true, ↓dSetF, ↓dAugF, ↓dMeth, ↓dMake, setF, hasM, ↓pLtT, ↓pCatS, ↓pStr, ↓dPopAt, ↓reduceIte]
  by_cases h0 : hs = []
  · have d0 : ((hs.length : Int) == 0) = true := by rw [h0]; rfl
    simp only [d0, VV]
    exact q0 h0
  · have hl : 0 < hs.length := List.length_pos_iff.mpr h0
    have d0 : ((hs.length : Int) == 0) = false := beq_eq_false_iff_ne.mpr (by first | decide | omega)
    have q1 := q1 hl
    simp only [d0, VV]
    subst hN
    (try dsimp only); refine seq_intro fun N hN => ?_
    have ix0 : atI (hs.map (hD T)) (0 : Int) = some (hD T (at0 hs 0)) := hD_ix T hs 0 hl
    simp only [q_heap ei, ix_ls (lsOf_ref ej), ix0, ↓dAsg, ↓dName, ↓dVar, ↓dC, ↓dOp, ↓dUn, ↓dTst, ↓dTr, ↓dAnd, ↓dOr, ↓dNot, ↓dAndV, ↓dOrV, ↓dNotV, ↓dIf, ↓dIfS, ↓dRet, ↓dRetN, ↓dDrop, ↓dNext, ↓dNever, ↓dCB, ↓dCal, ↓dCons, ↓dNil, ↓dTup, ↓dV, ↓dTk, ↓dListOf, ↓dBits, ↓dIsinst, ↓dChain, ↓dPart, ↓dNoPart, ↓dSl, ↓dGNil, ↓dGCons, ↓dUnp, ↓dAug, ↓dAugS, ↓dSubL, setD, ↓dAppend, ↓dExtend, ↓dPop, ↓dClear, ↓dFor, ↓dISeq, ↓dIRange, ↓dIEnum, ↓dIEnum1, ↓dComp, ↓dNoIf, compSl, ↓dCatN, ↓dRepN, ↓dSlL, ↓dBreak, ↓dCont, ↓pI, ↓pI0, ↓pB0, ↓pNeg, ↓pIs, isN_non, isN_bl, isN_int, isN_str, isN_tup, isN_lst, isN_ref, ↓pIx, ↓pEq, eqS, ↓pLtI, ↓pLen, ↓pTuple, ↓pInt, ↓pMin, ↓pMax, ↓pAbs, ↓pPlus, ↓pAdd, ↓pMulI, ↓pIn, ↓dGet, List.map_cons, List.map_nil, List.cons_append, List.nil_append, List.length_cons, List.length_nil, List.replicate, List.getElem?_cons_zero, List.getElem?_cons_succ, List.set_cons_zero, List.set_cons_succ, Option.getD_some, Option.getD_none, List.getElem?_nil, Bool.false_eq_true, Bool.not_true, Bool.not_false, if_true, if_false, ite_true, ite_false, eq_self_iff_true, decide_true, decide_false, Nat.reduceSub, Nat.reduceAdd, Nat.sub_zero, Nat.sub_self, Nat.zero_add, Option.map_some, Option.map_none, Option.bind_some, Option.bind_none, lsOf_lst, seqOf_lst, seqSrc_lst, lenD_lst, ixD_lst, trD_lst, lsOf_scr, seqOf_scr, seqSrc_scr, lenD_scr, ixD_scr, trD_scr, lsP_lst, lsP_tup, lsP_int, lsP_str, seqOf_tup, seqSrc_tup, lenD_tup, ixD_tup, trD_tup, trD_non, trD_bl, trD_int, kindD_non, kindD_bl, kindD_int, kindD_str, kindD_tup, kindD_lst, isK_NoneType_bool, isK_NoneType_int, isK_NoneType_str, isK_NoneType_tuple, isK_NoneType_list, isK_NoneType_dict, isK_bool_bool, isK_bool_int, isK_bool_str, isK_bool_tuple, isK_bool_list, isK_bool_dict, isK_int_bool, isK_int_int, isK_int_str, isK_int_tuple, isK_int_list, isK_int_dict, isK_str_bool, isK_str_int, isK_str_str, isK_str_tuple, isK_str_list, isK_str_dict, isK_tuple_bool, isK_tuple_int, isK_tuple_str, isK_tuple_tuple, isK_tuple_list, isK_tuple_dict, isK_list_bool, isK_list_int, isK_list_str, isK_list_tuple, isK_list_list, isK_list_dict, isK_dict_bool, isK_dict_int, isK_dict_str, isK_dict_tuple, isK_dict_list, isK_dict_dict, ixN_10, ixN_0, at1_0, at2_0, at2_1, at3_0, at3_1, at3_2, at4_0, at4_1, at4_2, at4_3, at5_0, at5_1, at5_2, at5_3, at5_4, at6_0, at6_1, at6_2, at6_3, at6_4, at6_5, at7_0, at7_1, at7_2, at7_3, at7_4, at7_5, at7_6, at8_0, at8_1, at8_2, at8_3, at8_4, at8_5, at8_6, at8_7, sk_step, sq_step_step, sq_step_call, sq_step_in, sq_step_over, sq_step_begin, sq_step_start, sq_step_short, sq_step_along, sq_step_within, sq_step_at, sq_step_out, sk_call, sq_call_step, sq_call_call, sq_call_in, sq_call_over, sq_call_begin, sq_call_start, sq_call_short, sq_call_along, sq_call_within, sq_call_at, sq_call_out, sk_in, sq_in_step, sq_in_call, sq_in_in, sq_in_over, sq_in_begin, sq_in_start, sq_in_short, sq_in_along, sq_in_within, sq_in_at, sq_in_out, sk_over, sq_over_step, sq_over_call, sq_over_in, sq_over_over, sq_over_begin, sq_over_start, sq_over_short, sq_over_along, sq_over_within, sq_over_at, sq_over_out, sk_begin, sq_begin_step, sq_begin_call, sq_begin_in, sq_begin_over, sq_begin_begin, sq_begin_start, sq_begin_short, sq_begin_along, sq_begin_within, sq_begin_at, sq_begin_out, sk_start, sq_start_step, sq_start_call, sq_start_in, sq_start_over, sq_start_begin, sq_start_start, sq_start_short, sq_start_along, sq_start_within, sq_start_at, sq_start_out, sk_short, sq_short_step, sq_short_call, sq_short_in, sq_short_over, sq_short_begin, sq_short_start, sq_short_short, sq_short_along, sq_short_within, sq_short_at, sq_short_out, sk_along, sq_along_step, sq_along_call, sq_along_in, sq_along_over, sq_along_begin, sq_along_start, sq_along_short, sq_along_along, sq_along_within, sq_along_at, sq_along_out, sk_within, sq_within_step, sq_within_call, sq_within_in, sq_within_over, sq_within_begin, sq_within_start, sq_within_short, sq_within_along, sq_within_within, sq_within_at, sq_within_out, sk_at, sq_at_step, sq_at_call, sq_at_in, sq_at_over, sq_at_begin, sq_at_start, sq_at_short, sq_at_along, sq_at_within, sq_at_at, sq_at_out, sk_out, sq_out_step, sq_out_call, sq_out_in, sq_out_over, sq_out_begin, sq_out_start, sq_out_short, sq_out_along, sq_out_within, sq_out_at, sq_out_out, Bool.and_self, Bool.and_true, ↓dSetF, ↓dAugF, ↓dMeth, ↓dMake, setF, hasM, ↓pLtT, ↓pCatS, ↓pStr, ↓dPopAt, ↓reduceIte]
    subst hN
    (try dsimp only); refine seq_intro fun N hN => ?_
    have lst : (hs.map (hD T))[(hs.map (hD T)).length - 1]? = some (hD T (at0 hs (hs.length - 1))) := by
      rw [List.length_map, List.getElem?_map, List.getElem?_eq_getElem (show hs.length - 1 < hs.length by first | decide | omega), at0_get]; rfl
    simp only [q_heap ei, ej, lst, ↓dAsg, ↓dName, ↓dVar, ↓dC, ↓dOp, ↓dUn, ↓dTst, ↓dTr, ↓dAnd, ↓dOr, ↓dNot, ↓dAndV, ↓dOrV, ↓dNotV, ↓dIf, ↓dIfS, ↓dRet, ↓dRetN, ↓dDrop, ↓dNext, ↓dNever, ↓dCB, ↓dCal, ↓dCons, ↓dNil, ↓dTup, ↓dV, ↓dTk, ↓dListOf, ↓dBits, ↓dIsinst, ↓dChain, ↓dPart, ↓dNoPart, ↓dSl, ↓dGNil, ↓dGCons, ↓dUnp, ↓dAug, ↓dAugS, ↓dSubL, setD, ↓dAppend, ↓dExtend, ↓dPop, ↓dClear, ↓dFor, ↓dISeq, ↓dIRange, ↓dIEnum, ↓dIEnum1, ↓dComp, ↓dNoIf, compSl, ↓dCatN, ↓dRepN, ↓dSlL, ↓dBreak, ↓dCont, ↓pI, ↓pI0, ↓pB0, ↓pNeg, ↓pIs, isN_non, isN_bl, isN_int, isN_str, isN_tup, isN_lst, isN_ref, ↓pIx, ↓pEq, eqS, ↓pLtI, ↓pLen, ↓pTuple, ↓pInt, ↓pMin, ↓pMax, ↓pAbs, ↓pPlus, ↓pAdd, ↓pMulI, ↓pIn, ↓dGet, List.map_cons, List.map_nil, List.cons_append, List.nil_append, List.length_cons, List.length_nil, List.replicate, List.getElem?_cons_zero, List.getElem?_cons_succ, List.set_cons_zero, List.set_cons_succ, Option.getD_some, Option.getD_none, List.getElem?_nil, Bool.false_eq_true, Bool.not_true, Bool.not_false, if_true, if_false, ite_true, ite_false, eq_self_iff_true, decide_true, decide_false, Nat.reduceSub, Nat.reduceAdd, Nat.sub_zero, Nat.sub_self, Nat.zero_add, Option.map_some, Option.map_none, Option.bind_some, Option.bind_none, lsOf_lst, seqOf_lst, seqSrc_lst, lenD_lst, ixD_lst, trD_lst, lsOf_scr, seqOf_scr, seqSrc_scr, lenD_scr, ixD_scr, trD_scr, lsP_lst, lsP_tup, lsP_int, lsP_str, seqOf_tup, seqSrc_tup, lenD_tup, ixD_tup, trD_tup, trD_non, trD_bl, trD_int, kindD_non, kindD_bl, kindD_int, kindD_str, kindD_tup, kindD_lst, isK_NoneType_bool, isK_NoneType_int, isK_NoneType_str, isK_NoneType_tuple, isK_NoneType_list, isK_NoneType_dict, isK_bool_bool, isK_bool_int, isK_bool_str, isK_bool_tuple, isK_bool_list, isK_bool_dict, isK_int_bool, isK_int_int, isK_int_str, isK_int_tuple, isK_int_list, isK_int_dict, isK_str_bool, isK_str_int, isK_str_str, isK_str_tuple, isK_str_list, isK_str_dict, isK_tuple_bool, isK_tuple_int, isK_tuple_str, isK_tuple_tuple, isK_tuple_list, isK_tuple_dict, isK_list_bool, isK_list_int, isK_list_str, isK_list_tuple, isK_list_list, isK_list_dict, isK_dict_bool, isK_dict_int, isK_dict_str, isK_dict_tuple, isK_dict_list, isK_dict_dict, ixN_10, ixN_0, at1_0, at2_0, at2_1, at3_0, at3_1, at3_2, at4_0, at4_1, at4_2, at4_3, at5_0, at5_1, at5_2, at5_3, at5_4, at6_0, at6_1, at6_2, at6_3, at6_4, at6_5, at7_0, at7_1, at7_2, at7_3, at7_4, at7_5, at7_6, at8_0, at8_1, at8_2, at8_3, at8_4, at8_5, at8_6, at8_7, sk_step, sq_step_step, sq_step_call, sq_step_in, sq_step_over, sq_step_begin, sq_step_start, sq_step_short, sq_step_along, sq_step_within, sq_step_at, sq_step_out, sk_call, sq_call_step, sq_call_call, sq_call_in, sq_call_over, sq_call_begin, sq_call_start, sq_call_short, sq_call_along, sq_call_within, sq_call_at, sq_call_out, sk_in, sq_in_step, sq_in_call, sq_in_in, sq_in_over, sq_in_begin, sq_in_start, sq_in_short, sq_in_along, sq_in_within, sq_in_at, sq_in_out, sk_over, sq_over_step, sq_over_call, sq_over_in, sq_over_over, sq_over_begin, sq_over_start, sq_over_short, sq_over_along, sq_over_within, sq_over_at, sq_over_out, sk_begin, sq_begin_step, sq_begin_call, sq_begin_in, sq_begin_over, sq_begin_begin, sq_begin_start, sq_begin_short, sq_begin_along, sq_begin_within, sq_begin_at, sq_begin_out, sk_start, sq_start_step, sq_start_call, sq_start_in, sq_start_over, sq_start_begin, sq_start_start, sq_start_short, sq_start_along, sq_start_within, sq_start_at, sq_start_out, sk_short, sq_short_step, sq_short_call, sq_short_in, sq_short_over, sq_short_begin, sq_short_start, sq_short_short, sq_short_along, sq_short_within, sq_short_at, sq_short_out, sk_along, sq_along_step, sq_along_call, sq_along_in, sq_along_over, sq_along_begin, sq_along_start, sq_along_short, sq_along_along, sq_along_within, sq_along_at, sq_along_out, sk_within, sq_within_step, sq_within_call, sq_within_in, sq_within_over, sq_within_begin, sq_within_start, sq_within_short, sq_within_along, sq_within_within, sq_within_at, sq_within_out, sk_at, sq_at_step, sq_at_call, sq_at_in, sq_at_over, sq_at_begin, sq_at_start, sq_at_short, sq_at_along, sq_at_within, sq_at_at, sq_at_out, sk_out, sq_out_step, sq_out_call, sq_out_in, sq_out_over, sq_out_begin, sq_out_start, sq_out_short, sq_out_along, sq_out_within, sq_out_at, sq_out_out, Bool.and_self, Bool.and_true, ↓dSetF, ↓dAugF, ↓dMeth, ↓dMake, setF, hasM, ↓pLtT, ↓pCatS, ↓pStr, ↓dPopAt, ↓reduceIte]
    rw [← List.map_dropLast]
    have ei2 : (h.set j (O.lst (hs.dropLast.map (hD T))))[i]? = some (qO j n) := by rw [List.getElem?_set_ne (Ne.symm ne)]; exact ei
    have ej2 : (h.set j (O.lst (hs.dropLast.map (hD T))))[j]? = some (.lst (hs.dropLast.map (hD T))) := List.getElem?_set_self hj
    subst hN
    (try dsimp only); refine seq_intro fun N hN => ?_
    simp only [q_heap ei2, len_ls (lsOf_ref ej2), List.length_map, List.length_dropLast, ↓dAsg, ↓dName, ↓dVar, ↓dC, ↓dOp, ↓dUn, ↓dTst, ↓dTr, ↓dAnd, ↓dOr, ↓dNot, ↓dAndV, ↓dOrV, ↓dNotV, ↓dIf, ↓dIfS, ↓dRet, ↓dRetN, ↓dDrop, ↓dNext, ↓dNever, ↓dCB, ↓dCal, ↓dCons, ↓dNil, ↓dTup, ↓dV, ↓dTk, ↓dListOf, ↓dBits, ↓dIsinst, ↓dChain, ↓dPart, ↓dNoPart, ↓dSl, ↓dGNil, ↓dGCons, ↓dUnp, ↓dAug, ↓dAugS, ↓dSubL, setD, ↓dAppend, ↓dExtend, ↓dPop, ↓dClear, ↓dFor, ↓dISeq, ↓dIRange, ↓dIEnum, ↓dIEnum1, ↓dComp, ↓dNoIf, compSl, ↓dCatN, ↓dRepN, ↓dSlL, ↓dBreak, ↓dCont, ↓pI, ↓pI0, ↓pB0, ↓pNeg, ↓pIs, isN_non, isN_bl, isN_int, isN_str, isN_tup, isN_lst, isN_ref, ↓pIx, ↓pEq, eqS, ↓pLtI, ↓pLen, ↓pTuple, ↓pInt, ↓pMin, ↓pMax, ↓pAbs, ↓pPlus, ↓pAdd, ↓pMulI, ↓pIn, ↓dGet, List.map_cons, List.map_nil, List.cons_append, List.nil_append, List.length_cons, List.length_nil, List.replicate, List.getElem?_cons_zero, List.getElem?_cons_succ, List.set_cons_zero, List.set_cons_succ, Option.getD_some, Option.getD_none, List.getElem?_nil, Bool.false_eq_true, Bool.not_true, Bool.not_false, if_true, if_false, ite_true, ite_false, eq_self_iff_true, decide_true, decide_false, Nat.reduceSub, Nat.reduceAdd, Nat.sub_zero, Nat.sub_self, Nat.zero_add, Option.map_some, Option.map_none, Option.bind_some, Option.bind_none, lsOf_lst, seqOf_lst, seqSrc_lst, lenD_lst, ixD_lst, trD_lst, lsOf_scr, seqOf_scr, seqSrc_scr, lenD_scr, ixD_scr, trD_scr, lsP_lst, lsP_tup, lsP_int, lsP_str, seqOf_tup, seqSrc_tup, lenD_tup, ixD_tup, trD_tup, trD_non, trD_bl, trD_int, kindD_non, kindD_bl, kindD_int, kindD_str, kindD_tup, kindD_lst, isK_NoneType_bool, isK_NoneType_int, isK_NoneType_str, isK_NoneType_tuple, isK_NoneType_list, isK_NoneType_dict, isK_bool_bool, isK_bool_int, isK_bool_str, isK_bool_tuple, isK_bool_list, isK_bool_dict, isK_int_bool, isK_int_int, isK_int_str, isK_int_tuple, isK_int_list, isK_int_dict, isK_str_bool, isK_str_int, isK_str_str, isK_str_tuple, isK_str_list, isK_str_dict, isK_tuple_bool, isK_tuple_int, isK_tuple_str, isK_tuple_tuple, isK_tuple_list, isK_tuple_dict, isK_list_bool, isK_list_int, isK_list_str, isK_list_tuple, isK_list_list, isK_list_dict, isK_dict_bool, isK_dict_int, isK_dict_str, isK_dict_tuple, isK_dict_list, isK_dict_dict, ixN_10, ixN_0, at1_0, at2_0, at2_1, at3_0, at3_1, at3_2, at4_0, at4_1, at4_2, at4_3, at5_0, at5_1, at5_2, at5_3, at5_4, at6_0, at6_1, at6_2, at6_3, at6_4, at6_5, at7_0, at7_1, at7_2, at7_3, at7_4, at7_5, at7_6, at8_0, at8_1, at8_2, at8_3, at8_4, at8_5, at8_6, at8_7, sk_step, sq_step_step, sq_step_call, sq_step_in, sq_step_over, sq_step_begin, sq_step_start, sq_step_short, sq_step_along, sq_step_within, sq_step_at, sq_step_out, sk_call, sq_call_step, sq_call_call, sq_call_in, sq_call_over, sq_call_begin, sq_call_start, sq_call_short, sq_call_along, sq_call_within, sq_call_at, sq_call_out, sk_in, sq_in_step, sq_in_call, sq_in_in, sq_in_over, sq_in_begin, sq_in_start, sq_in_short, sq_in_along, sq_in_within, sq_in_at, sq_in_out, sk_over, sq_over_step, sq_over_call, sq_over_in, sq_over_over, sq_over_begin, sq_over_start, sq_over_short, sq_over_along, sq_over_within, sq_over_at, sq_over_out, sk_begin, sq_begin_step, sq_begin_call, sq_begin_in, sq_begin_over, sq_begin_begin, sq_begin_start, sq_begin_short, sq_begin_along, sq_begin_within, sq_begin_at, sq_begin_out, sk_start, sq_start_step, sq_start_call, sq_start_in, sq_start_over, sq_start_begin, sq_start_start, sq_start_short, sq_start_along, sq_start_within, sq_start_at, sq_start_out, sk_short, sq_short_step, sq_short_call, sq_short_in, sq_short_over, sq_short_begin, sq_short_start, sq_short_short, sq_short_along, sq_short_within, sq_short_at, sq_short_out, sk_along, sq_along_step, sq_along_call, sq_along_in, sq_along_over, sq_along_begin, sq_along_start, sq_along_short, sq_along_along, sq_along_within, sq_along_at, sq_along_out, sk_within, sq_within_step, sq_within_call, sq_within_in, sq_within_over, sq_within_begin, sq_within_start, sq_within_short, sq_within_along, sq_within_within, sq_within_at, sq_within_out, sk_at, sq_at_step, sq_at_call, sq_at_in, sq_at_over, sq_at_begin, sq_at_start, sq_at_short, sq_at_along, sq_at_within, sq_at_at, sq_at_out, sk_out, sq_out_step, sq_out_call, sq_out_in, sq_out_over, sq_out_begin, sq_out_start, sq_out_short, sq_out_along, sq_out_within, sq_out_at, sq_out_out, Bool.and_self, Bool.and_true, ↓dSetF, ↓dAugF, ↓dMeth, ↓dMake, setF, hasM, ↓pLtT, ↓pCatS, ↓pStr, ↓dPopAt, ↓reduceIte]
    by_cases h1 : 1 < hs.length
    · have d1 : decide ((0 : Int) < ((hs.length - 1 : Nat) : Int)) = true := decide_eq_true (by first | decide | omega)
      simp only [d1, VV]
      (try dsimp only); refine seq_intro fun N2 hN2 => ?_
      have hd0 : 0 < hs.dropLast.length := by rw [List.length_dropLast]; omega
      have i0 := ixN_nat hd0
      rw [List.length_dropLast] at i0
      have i0 : ixN (hs.length - 1) (0 : Int) = some 0 := i0
      simp only [q_heap ei2, ej2, List.length_map, List.length_dropLast, i0, hD_set, List.set_set, ↓dAsg, ↓dName, ↓dVar, ↓dC, ↓dOp, ↓dUn, ↓dTst, ↓dTr, ↓dAnd, ↓dOr, ↓dNot, ↓dAndV, ↓dOrV, ↓dNotV, ↓dIf, ↓dIfS, ↓dRet, ↓dRetN, ↓dDrop, ↓dNext, ↓dNever, ↓dCB, ↓dCal, ↓dCons, ↓dNil, ↓dTup, ↓dV, ↓dTk, ↓dListOf, ↓dBits, ↓dIsinst, ↓dChain, ↓dPart, ↓dNoPart, ↓dSl, ↓dGNil, ↓dGCons, ↓dUnp, ↓dAug, ↓dAugS, ↓dSubL, setD, ↓dAppend, ↓dExtend, ↓dPop, ↓dClear, ↓dFor, ↓dISeq, ↓dIRange, ↓dIEnum, ↓dIEnum1, ↓dComp, ↓dNoIf, compSl, ↓dCatN, ↓dRepN, ↓dSlL, ↓dBreak, ↓dCont, ↓pI, ↓pI0, ↓pB0, ↓pNeg, ↓pIs, isN_non, isN_bl, isN_int, isN_str, isN_tup, isN_lst, isN_ref, ↓pIx, ↓pEq, eqS, ↓pLtI, ↓pLen, ↓pTuple, ↓pInt, ↓pMin, ↓pMax, ↓pAbs, ↓pPlus, ↓pAdd, ↓pMulI, ↓pIn, ↓dGet, List.map_cons, List.map_nil, List.cons_append, List.nil_append, List.length_cons, List.length_nil, List.replicate, List.getElem?_cons_zero, List.getElem?_cons_succ, List.set_cons_zero, List.set_cons_succ, Option.getD_some, Option.getD_none, List.getElem?_nil, Bool.false_eq_true, Bool.not_true, Bool.not_false, if_true, if_false, ite_true, ite_false, eq_self_iff_true, decide_true, decide_false, Nat.reduceSub, Nat.reduceAdd, Nat.sub_zero, Nat.sub_self, Nat.zero_add, Option.map_some, Option.map_none, Option.bind_some, Option.bind_none, lsOf_lst, seqOf_lst, seqSrc_lst, lenD_lst, ixD_lst, trD_lst, lsOf_scr, seqOf_scr, seqSrc_scr, lenD_scr, ixD_scr, trD_scr, lsP_lst, lsP_tup, lsP_int, lsP_str, seqOf_tup, seqSrc_tup, lenD_tup, ixD_tup, trD_tup, trD_non, trD_bl, trD_int, kindD_non, kindD_bl, kindD_int, kindD_str, kindD_tup, kindD_lst, isK_NoneType_bool, isK_NoneType_int, isK_NoneType_str, isK_NoneType_tuple, isK_NoneType_list, isK_NoneType_dict, isK_bool_bool, isK_bool_int, isK_bool_str, isK_bool_tuple, isK_bool_list, isK_bool_dict, isK_int_bool, isK_int_int, isK_int_str, isK_int_tuple, isK_int_list, isK_int_dict, isK_str_bool, isK_str_int, isK_str_str, isK_str_tuple, isK_str_list, isK_str_dict, isK_tuple_bool, isK_tuple_int, isK_tuple_str, isK_tuple_tuple, isK_tuple_list, isK_tuple_dict, isK_list_bool, isK_list_int, isK_list_str, isK_list_tuple, isK_list_list, isK_list_dict, isK_dict_bool, isK_dict_int, isK_dict_str, isK_dict_tuple, isK_dict_list, isK_dict_dict, ixN_10, ixN_0, at1_0, at2_0, at2_1, at3_0, at3_1, at3_2, at4_0, at4_1, at4_2, at4_3, at5_0, at5_1, at5_2, at5_3, at5_4, at6_0, at6_1, at6_2, at6_3, at6_4, at6_5, at7_0, at7_1, at7_2, at7_3, at7_4, at7_5, at7_6, at8_0, at8_1, at8_2, at8_3, at8_4, at8_5, at8_6, at8_7, sk_step, sq_step_step, sq_step_call, sq_step_in, sq_step_over, sq_step_begin, sq_step_start, sq_step_short, sq_step_along, sq_step_within, sq_step_at, sq_step_out, sk_call, sq_call_step, sq_call_call, sq_call_in, sq_call_over, sq_call_begin, sq_call_start, sq_call_short, sq_call_along, sq_call_within, sq_call_at, sq_call_out, sk_in, sq_in_step, sq_in_call, sq_in_in, sq_in_over, sq_in_begin, sq_in_start, sq_in_short, sq_in_along, sq_in_within, sq_in_at, sq_in_out, sk_over, sq_over_step, sq_over_call, sq_over_in, sq_over_over, sq_over_begin, sq_over_start, sq_over_short, sq_over_along, sq_over_within, sq_over_at, sq_over_out, sk_begin, sq_begin_step, sq_begin_call, sq_begin_in, sq_begin_over, sq_begin_begin, sq_begin_start, sq_begin_short, sq_begin_along, sq_begin_within, sq_begin_at, sq_begin_out, sk_start, sq_start_step, sq_start_call, sq_start_in, sq_start_over, sq_start_begin, sq_start_start, sq_start_short, sq_start_along, sq_start_within, sq_start_at, sq_start_out, sk_short, sq_short_step, sq_short_call, sq_short_in, sq_short_over, sq_short_begin, sq_short_start, sq_short_short, sq_short_along, sq_short_within, sq_short_at, sq_short_out, sk_along, sq_along_step, sq_along_call, sq_along_in, sq_along_over, sq_along_begin, sq_along_start, sq_along_short, sq_along_along, sq_along_within, sq_along_at, sq_along_out, sk_within, sq_within_step, sq_within_call, sq_within_in, sq_within_over, sq_within_begin, sq_within_start, sq_within_short, sq_within_along, sq_within_within, sq_within_at, sq_within_out, sk_at, sq_at_step, sq_at_call, sq_at_in, sq_at_over, sq_at_begin, sq_at_start, sq_at_short, sq_at_along, sq_at_within, sq_at_at, sq_at_out, sk_out, sq_out_step, sq_out_call, sq_out_in, sq_out_over, sq_out_begin, sq_out_start, sq_out_short, sq_out_along, sq_out_within, sq_out_at, sq_out_out, Bool.and_self, Bool.and_true, ↓dSetF, ↓dAugF, ↓dMeth, ↓dMake, setF, hasM, ↓pLtT, ↓pCatS, ↓pStr, ↓dPopAt, ↓reduceIte]
      have ei3 : (h.set j (O.lst ((hs.dropLast.set 0 (at0 hs (hs.length - 1))).map (hD T))))[i]? = some (qO j n) := by rw [List.getElem?_set_ne (Ne.symm ne)]; exact ei
      subst hN2
      simp only [q_heap ei3, ↓dAsg, ↓dName, ↓dVar, ↓dC, ↓dOp, ↓dUn, ↓dTst, ↓dTr, ↓dAnd, ↓dOr, ↓dNot, ↓dAndV, ↓dOrV, ↓dNotV, ↓dIf, ↓dIfS, ↓dRet, ↓dRetN, ↓dDrop, ↓dNext, ↓dNever, ↓dCB, ↓dCal, ↓dCons, ↓dNil, ↓dTup, ↓dV, ↓dTk, ↓dListOf, ↓dBits, ↓dIsinst, ↓dChain, ↓dPart, ↓dNoPart, ↓dSl, ↓dGNil, ↓dGCons, ↓dUnp, ↓dAug, ↓dAugS, ↓dSubL, setD, ↓dAppend, ↓dExtend, ↓dPop, ↓dClear, ↓dFor, ↓dISeq, ↓dIRange, ↓dIEnum, ↓dIEnum1, ↓dComp, ↓dNoIf, compSl, ↓dCatN, ↓dRepN, ↓dSlL, ↓dBreak, ↓dCont, ↓pI, ↓pI0, ↓pB0, ↓pNeg, ↓pIs, isN_non, isN_bl, isN_int, isN_str, isN_tup, isN_lst, isN_ref, ↓pIx, ↓pEq, eqS, ↓pLtI, ↓pLen, ↓pTuple, ↓pInt, ↓pMin, ↓pMax, ↓pAbs, ↓pPlus, ↓pAdd, ↓pMulI, ↓pIn, ↓dGet, List.map_cons, List.map_nil, List.cons_append, List.nil_append, List.length_cons, List.length_nil, List.replicate, List.getElem?_cons_zero, List.getElem?_cons_succ, List.set_cons_zero, List.set_cons_succ, Option.getD_some, Option.getD_none, List.getElem?_nil, Bool.false_eq_true, Bool.not_true, Bool.not_false, if_true, if_false, ite_true, ite_false, eq_self_iff_true, decide_true, decide_false, Nat.reduceSub, Nat.reduceAdd, Nat.sub_zero, Nat.sub_self, Nat.zero_add, Option.map_some, Option.map_none, Option.bind_some, Option.bind_none, lsOf_lst, seqOf_lst, seqSrc_lst, lenD_lst, ixD_lst, trD_lst, lsOf_scr, seqOf_scr, seqSrc_scr, lenD_scr, ixD_scr, trD_scr, lsP_lst, lsP_tup, lsP_int, lsP_str, seqOf_tup, seqSrc_tup, lenD_tup, ixD_tup, trD_tup, trD_non, trD_bl, trD_int, kindD_non, kindD_bl, kindD_int, kindD_str, kindD_tup, kindD_lst, isK_NoneType_bool, isK_NoneType_int, isK_NoneType_str, isK_NoneType_tuple, isK_NoneType_list, isK_NoneType_dict, isK_bool_bool, isK_bool_int, isK_bool_str, isK_bool_tuple, isK_bool_list, isK_bool_dict, isK_int_bool, isK_int_int, isK_int_str, isK_int_tuple, isK_int_list, isK_int_dict, isK_str_bool, isK_str_int, isK_str_str, isK_str_tuple, isK_str_list, isK_str_dict, isK_tuple_bool, isK_tuple_int, isK_tuple_str, isK_tuple_tuple, isK_tuple_list, isK_tuple_dict, isK_list_bool, isK_list_int, isK_list_str, isK_list_tuple, isK_list_list, isK_list_dict, isK_dict_bool, isK_dict_int, isK_dict_str, isK_dict_tuple, isK_dict_list, isK_dict_dict, ixN_10, ixN_0, at1_0, at2_0, at2_1, at3_0, at3_1, at3_2, at4_0, at4_1, at4_2, at4_3, at5_0, at5_1, at5_2, at5_3, at5_4, at6_0, at6_1, at6_2, at6_3, at6_4, at6_5, at7_0, at7_1, at7_2, at7_3, at7_4, at7_5, at7_6, at8_0, at8_1, at8_2, at8_3, at8_4, at8_5, at8_6, at8_7, sk_step, sq_step_step, sq_step_call, sq_step_in, sq_step_over, sq_step_begin, sq_step_start, sq_step_short, sq_step_along, sq_step_within, sq_step_at, sq_step_out, sk_call, sq_call_step, sq_call_call, sq_call_in, sq_call_over, sq_call_begin, sq_call_start, sq_call_short, sq_call_along, sq_call_within, sq_call_at, sq_call_out, sk_in, sq_in_step, sq_in_call, sq_in_in, sq_in_over, sq_in_begin, sq_in_start, sq_in_short, sq_in_along, sq_in_within, sq_in_at, sq_in_out, sk_over, sq_over_step, sq_over_call, sq_over_in, sq_over_over, sq_over_begin, sq_over_start, sq_over_short, sq_over_along, sq_over_within, sq_over_at, sq_over_out, sk_begin, sq_begin_step, sq_begin_call, sq_begin_in, sq_begin_over, sq_begin_begin, sq_begin_start, sq_begin_short, sq_begin_along, sq_begin_within, sq_begin_at, sq_begin_out, sk_start, sq_start_step, sq_start_call, sq_start_in, sq_start_over, sq_start_begin, sq_start_start, sq_start_short, sq_start_along, sq_start_within, sq_start_at, sq_start_out, sk_short, sq_short_step, sq_short_call, sq_short_in, sq_short_over, sq_short_begin, sq_short_start, sq_short_short, sq_short_along, sq_short_within, sq_short_at, sq_short_out, sk_along, sq_along_step, sq_along_call, sq_along_in, sq_along_over, sq_along_begin, sq_along_start, sq_along_short, sq_along_along, sq_along_within, sq_along_at, sq_along_out, sk_within, sq_within_step, sq_within_call, sq_within_in, sq_within_over, sq_within_begin, sq_within_start, sq_within_short, sq_within_along, sq_within_within, sq_within_at, sq_within_out, sk_at, sq_at_step, sq_at_call, sq_at_in, sq_at_over, sq_at_begin, sq_at_start, sq_at_short, sq_at_along, sq_at_within, sq_at_at, sq_at_out, sk_out, sq_out_step, sq_out_call, sq_out_in, sq_out_over, sq_out_begin, sq_out_start, sq_out_short, sq_out_along, sq_out_within, sq_out_at, sq_out_out, Bool.and_self, Bool.and_true, ↓dSetF, ↓dAugF, ↓dMeth, ↓dMake, setF, hasM, ↓pLtT, ↓pCatS, ↓pStr, ↓dPopAt, ↓reduceIte]
      refine ⟨j, T, _, rfl, List.getElem?_set_self hj, by simp; omega, by simp; omega, hp.dn _ h1, fun zs p hz => ?_⟩
      rw [List.set_set]
      subst hN
      simp only [VV]
      refine q1 zs ?_ hz
      obtain ⟨x, r, v, rfl⟩ : ∃ x r v, hs = x :: r ++ [v] := by
        cases hs with
        | nil => exact absurd rfl h0
        | cons x r =>
          have : r ≠ [] := by intro z; subst z; simp at h1
          exact ⟨x, r.dropLast, r.getLast this, by rw [List.cons_append, List.dropLast_concat_getLast]⟩
      have ev : at0 (x :: r ++ [v]) ((x :: r ++ [v]).length - 1) = v := by
        unfold at0
        rw [List.getD_eq_getElem?_getD]
        simp
      rw [ev] at p
      exact take_perm p
    · have d1 : decide ((0 : Int) < ((hs.length - 1 : Nat) : Int)) = false := decide_eq_false (by first | decide | omega)
      simp only [d1, VV]
      subst hN
      simp only [VV]
      obtain ⟨x, rfl⟩ := List.length_eq_one_iff.mp (show hs.length = 1 by first | decide | omega)
      exact q1 [] (.refl _) fun i _ h => absurd h (Nat.not_lt_zero _)
theorem ok_Queue__take {f : Addr} {fd : FuncData} (F : Fun K "take" "Queue.take" s_Queue__take f fd) (T : Txt P w K mg) (C_sink : Cal P w K mg base 3 "sink" ["heap"] (spD K 1 S_sink)) : FnOk P w K mg base CX0 4 f fd ["self"] (spD K 1 S_Queue__take) :=
  fn_ok (k := 3) (b := b_Queue__take) F sc_Queue__take (fun cdv A outer s H E hr => (ss_cons (s_if (st_cmp (ok_eq hr.units) (se_callB ok_len rfl T.b_len PySem.boot_len (sa_cons (se_fld T.f_heap (sv 0)) sa_nil)) se_int (nomark _)) (ss_one (s_ret se_non)) ss_nil)
    (ss_cons (s_set (i := 1) sc_Queue__take.nd rfl (Or.inl rfl) (se_ix ok_ix (se_fld T.f_heap (sv 0)) se_int (fun _ _ => rfl)))
    (ss_cons (s_set (i := 2) sc_Queue__take.nd rfl (Or.inl rfl) (se_pop (se_fld T.f_heap (sv 0))))
    (ss_cons (s_if (st_cmp ok_gt (se_callB ok_len rfl T.b_len PySem.boot_len (sa_cons (se_fld T.f_heap (sv 0)) sa_nil)) se_int (nomark _)) (ss_cons (s_asg (sv 2) (sg_subL (se_fld T.f_heap (sv 0)) se_int))
    (ss_one (s_expr (se_cal C_sink (hr.mono (by decide)) rfl (sa_cons (se_fld T.f_heap (sv 0)) sa_nil))))) ss_nil)
    (ss_one (s_ret (se_tup (sa_cons (se_ix ok_ix (sv 1) se_int (fun _ _ => rfl)) (sa_cons (se_ix ok_ix (sv 1) se_int (fun _ _ => rfl)) sa_nil)))))))))) imp_Queue__take
noncomputable def b__law_taken_right : DS := (dSeq (dAsg (dMeth "Queue" "take" S_Queue__take (dVar 0) dNil) (dName 2))
    (dSeq (dIfS (dTst (dOp (pEq false) (dCB pLen (dCons (dVar 1) dNil)) (dC (.int 0)))) (dRet (dOp (pIs false) (dVar 2) (dC .non))) dNext)
    (dSeq (dAsg (dPopAt (dVar 1) (dCons (dCal S__law_first (dCons (dVar 1) dNil)) dNil)) (dUnp 2 (dGCons (dName 3) (dGCons (dName 4) dGNil))))
    (dSeq (dIfS (dOr (dNot (dTr (dIsinst "tuple" (dVar 2)))) (dOr (dTst (dOp (pEq true) (dCB pLen (dCons (dVar 2) dNil)) (dC (.int 2)))) (dNot (dTr (dCal S__law_whole (dCons (dOp pIx (dVar 2) (dC (.int 0))) dNil)))))) (dRet (dC (.bl false))) dNext)
    (dRet (dOp (pEq false) (dVar 2) (dTup (dCons (dVar 3) (dCons (dVar 4) dNil)))))))))
noncomputable def S__law_taken_right : DSp := fun ds h Q => ∃ (i j l : Nat) (T : Tb) (hs ss : List Nat), ds = [.ref i, .ref l] ∧ h[i]? = some (qO j T.length) ∧ h[j]? = some (.lst (hs.map (hD T))) ∧ h[l]? = some (.lst (ss.map (sD T))) ∧ l ≠ j ∧ QInv T hs ss ∧ T.length ≤ 5000 ∧
  (ss = [] → Q (.bl true) h) ∧ (0 < ss.length → ∀ hs' ss', QInv T hs' ss' → ss'.length + 1 = ss.length → Q (.bl true) ((h.set j (.lst (hs'.map (hD T)))).set l (.lst (ss'.map (sD T)))))
theorem imp__law_taken_right : ∀ ds h Q, S__law_taken_right ds h Q → runD 5 b__law_taken_right ds h Q := by
  rintro ds h Q ⟨i, j, l, T, hs, ss, rfl, ei, ej, el, nlj, qi, hb, q0, q1⟩
  have hlen := qi.perm.length_eq
  have sl := qi.len
  simp only [runD, b__law_taken_right, List.map_cons, List.map_nil, List.cons_append, List.nil_append, List.length_cons, List.length_nil, List.replicate, Nat.reduceSub, Nat.reduceAdd, Nat.zero_add, Nat.sub_self]
  (try dsimp only); refine seq_intro fun N hN => ?_
  simp only [↓dAsg, ↓dName, ↓dVar, ↓dC, ↓dOp, ↓dUn, ↓dTst, ↓dTr, ↓dAnd, ↓dOr, ↓dNot, ↓dAndV, ↓dOrV, ↓dNotV, ↓dIf, ↓dIfS, ↓dRet, ↓dRetN, ↓dDrop, ↓dNext, ↓dNever, ↓dCB, ↓dCal, ↓dCons, ↓dNil, ↓dTup, ↓dV, ↓dTk, ↓dListOf, ↓dBits, ↓dIsinst, ↓dChain, ↓dPart, ↓dNoPart, ↓dSl, ↓dGNil, ↓dGCons, ↓dUnp, ↓dAug, ↓dAugS, ↓dSubL, setD, ↓dAppend, ↓dExtend, ↓dPop, ↓dClear, ↓dFor, ↓dISeq, ↓dIRange, ↓dIEnum, ↓dIEnum1, ↓dComp, ↓dNoIf, compSl, ↓dCatN, ↓dRepN, ↓dSlL, ↓dBreak, ↓dCont, ↓pI, ↓pI0, ↓pB0, ↓pNeg, ↓pIs, isN_non, isN_bl, isN_int, isN_str, isN_tup, isN_lst, isN_ref, ↓pIx, ↓pEq, eqS, ↓pLtI, ↓pLen, ↓pTuple, ↓pInt, ↓pMin, ↓pMax, ↓pAbs, ↓pPlus, ↓pAdd, ↓pMulI, ↓pIn, ↓dGet, List.map_cons, List.map_nil, List.cons_append, List.nil_append, List.length_cons, List.length_nil, List.replicate, List.getElem?_cons_zero, List.getElem?_cons_succ, List.set_cons_zero, List.set_cons_succ, Option.getD_some, Option.getD_none, List.getElem?_nil, Bool.false_eq_true, Bool.not_true, Bool.not_false, if_true, if_false, ite_true, ite_false, eq_self_iff_true, decide_true, decide_false, Nat.reduceSub, Nat.reduceAdd, Nat.sub_zero, Nat.sub_self, Nat.zero_add, Option.map_some, Option.map_none, Option.bind_some, Option.bind_none, lsOf_lst, seqOf_lst, seqSrc_lst, lenD_lst, ixD_lst, trD_lst, lsOf_scr, seqOf_scr, seqSrc_scr, lenD_scr, ixD_scr, trD_scr, lsP_lst, lsP_tup, lsP_int, lsP_str, seqOf_tup, seqSrc_tup, lenD_tup, ixD_tup, trD_tup, trD_non, trD_bl, trD_int, kindD_non, kindD_bl, kindD_int, kindD_str, kindD_tup, kindD_lst, isK_NoneType_bool, isK_NoneType_int, isK_NoneType_str, isK_NoneType_tuple, isK_NoneType_list, isK_NoneType_dict, isK_bool_bool, isK_bool_int, isK_bool_str, isK_bool_tuple, isK_bool_list, isK_bool_dict, isK_int_bool, isK_int_int, isK_int_str, isK_int_tuple, isK_int_list, isK_int_dict, isK_str_bool, isK_str_int, isK_str_str, isK_str_tuple, isK_str_list, isK_str_dict, isK_tuple_bool, isK_tuple_int, isK_tuple_str, isK_tuple_tuple, isK_tuple_list, isK_tuple_dict, isK_list_bool, isK_list_int, isK_list_str, isK_list_tuple, isK_list_list, isK_list_dict, isK_dict_bool, isK_dict_int, isK_dict_str, isK_dict_tuple, isK_dict_list, isK_dict_dict, ixN_10, ixN_0, at1_0, at2_0, at2_1, at3_0, at3_1, at3_2, at4_0, at4_1, at4_2, at4_3, at5_0, at5_1, at5_2, at5_3, at5_4, at6_0, at6_1, at6_2, at6_3, at6_4, at6_5, at7_0, at7_1, at7_2, at7_3, at7_4, at7_5, at7_6, at8_0, at8_1, at8_2, at8_3, at8_4, at8_5, at8_6, at8_7, sk_step, sq_step_step, sq_step_call, sq_step_in, sq_step_over, sq_step_begin, sq_step_start, sq_step_short, sq_step_along, sq_step_within, sq_step_at, sq_step_out, sk_call, sq_call_step, sq_call_call, sq_call_in, sq_call_over, sq_call_begin, sq_call_start, sq_call_short, sq_call_along, sq_call_within, sq_call_at, sq_call_out, sk_in, sq_in_step, sq_in_call, sq_in_in, sq_in_over, sq_in_begin, sq_in_start, sq_in_short, sq_in_along, sq_in_within, sq_in_at, sq_in_out, sk_over, sq_over_step, sq_over_call, sq_over_in, sq_over_over, sq_over_begin, sq_over_start, sq_over_short, sq_over_along, sq_over_within, sq_over_at, sq_over_out, sk_begin, sq_begin_step, sq_begin_call, sq_begin_in, sq_begin_over, sq_begin_begin, sq_begin_start, sq_begin_short, sq_begin_along, sq_begin_within, sq_begin_at, sq_begin_out, sk_start, sq_start_step, sq_start_call, sq_start_in, sq_start_over, sq_start_begin, sq_start_start, sq_start_short, sq_start_along, sq_start_within, sq_start_at, sq_start_out, sk_short, sq_short_step, sq_short_call, sq_short_in, sq_short_over, sq_short_begin, sq_short_start, sq_short_short, sq_short_along, sq_short_within, sq_short_at, sq_short_out, sk_along, sq_along_step, sq_along_call, sq_along_in, sq_along_over, sq_along_begin, sq_along_start, sq_along_short, sq_along_along, sq_along_within, sq_along_at, sq_along_out, sk_within, sq_within_step, sq_within_call, sq_within_in, sq_within_over, sq_within_begin, sq_within_start, sq_within_short, sq_within_along, sq_within_within, sq_within_at, sq_within_out, sk_at, sq_at_step, sq_at_call, sq_at_in, sq_at_over, sq_at_begin, sq_at_start, sq_at_short, sq_at_along, sq_at_within, sq_at_at, sq_at_out, sk_out, sq_out_step, sq_out_call, sq_out_in, sq_out_over, sq_out_begin, sq_out_start, sq_out_short, sq_out_along, sq_out_within, sq_out_at, sq_out_out, Bool.and_self, Bool.and_true, ↓dSetF, ↓dAugF, ↓dMeth, ↓dMake, ↓pFld, setF, ↓pLtT, ↓pCatS, ↓pStr, ↓dPopAt, ↓reduceIte]
  refine ⟨q_has ei rfl, i, j, T.length, T, hs, rfl, ei, ej, qi.hp, by first | decide | omega, fun h0 => ?_, fun hl hs' p hz => ?_⟩
  · have s0 : ss = [] := by cases ss with | nil => rfl | cons a b => rw [h0] at hlen; cases hlen
    have d0 : ((ss.length : Int) == 0) = true := by rw [s0]; rfl
    subst hN
    (try dsimp only); refine seq_intro fun N hN => ?_
    simp only [len_ls (lsOf_ref el), List.length_map, d0, VV]
    exact q0 s0
  · have s0 : 0 < ss.length := by first | decide | omega
    have d0 : ((ss.length : Int) == 0) = false := beq_eq_false_iff_ne.mpr (by first | decide | omega)
    have el2 : (h.set j (O.lst (hs'.map (hD T))))[l]? = some (.lst (ss.map (sD T))) := by rw [List.getElem?_set_ne (Ne.symm nlj)]; exact el
    subst hN
    (try dsimp only); refine seq_intro fun N hN => ?_
    simp only [len_ls (lsOf_ref el2), List.length_map, d0, VV]
    subst hN
    (try dsimp only); refine seq_intro fun N hN => ?_
    simp only [el2, VV]
    refine ⟨.ref l, T, ss, rfl, lsOf_ref el2, s0, by first | decide | omega, fun a ha m1 m2 => ?_⟩
    have ea := qi.first ha m1 m2
    have xa : (ss.map (sD T))[((a : Nat) : Int).toNat]? = some (sD T (at0 hs 0)) := by rw [Int.toNat_natCast, List.getElem?_map, List.getElem?_eq_getElem ha, ea]; rfl
    simp only [el2, xa, VV]
    refine ⟨⟨by first | decide | omega, by first | decide | omega⟩, ?_⟩
    rw [Int.toNat_natCast, map_erase]
    simp only [sD, VV]
    refine ⟨trivial, ?_⟩
    subst hN
    (try dsimp only); refine seq_intro fun N hN => ?_
    simp only [VV]
    rw [if_neg (by decide)]
    refine ⟨_, rfl, ?_⟩
    simp only [VV]
    subst hN
    simp only [↓dAsg, ↓dName, ↓dVar, ↓dC, ↓dOp, ↓dUn, ↓dTst, ↓dTr, ↓dAnd, ↓dOr, ↓dNot, ↓dAndV, ↓dOrV, ↓dNotV, ↓dIf, ↓dIfS, ↓dRet, ↓dRetN, ↓dDrop, ↓dNext, ↓dNever, ↓dCB, ↓dCal, ↓dCons, ↓dNil, ↓dTup, ↓dV, ↓dTk, ↓dListOf, ↓dBits, ↓dIsinst, ↓dChain, ↓dPart, ↓dNoPart, ↓dSl, ↓dGNil, ↓dGCons, ↓dUnp, ↓dAug, ↓dAugS, ↓dSubL, setD, ↓dAppend, ↓dExtend, ↓dPop, ↓dClear, ↓dFor, ↓dISeq, ↓dIRange, ↓dIEnum, ↓dIEnum1, ↓dComp, ↓dNoIf, compSl, ↓dCatN, ↓dRepN, ↓dSlL, ↓dBreak, ↓dCont, ↓pI, ↓pI0, ↓pB0, ↓pNeg, ↓pIs, isN_non, isN_bl, isN_int, isN_str, isN_tup, isN_lst, isN_ref, ↓pIx, eqS, ↓pLtI, ↓pLen, ↓pTuple, ↓pInt, ↓pMin, ↓pMax, ↓pAbs, ↓pPlus, ↓pAdd, ↓pMulI, ↓pIn, ↓dGet, List.map_cons, List.map_nil, List.cons_append, List.nil_append, List.length_cons, List.length_nil, List.replicate, List.getElem?_cons_zero, List.getElem?_cons_succ, List.set_cons_zero, List.set_cons_succ, Option.getD_some, Option.getD_none, List.getElem?_nil, Bool.false_eq_true, Bool.not_true, Bool.not_false, if_true, if_false, ite_true, ite_false, eq_self_iff_true, decide_true, decide_false, Nat.reduceSub, Nat.reduceAdd, Nat.sub_zero, Nat.sub_self, Nat.zero_add, Option.map_some, Option.map_none, Option.bind_some, Option.bind_none, lsOf_lst, seqOf_lst, seqSrc_lst, lenD_lst, ixD_lst, trD_lst, lsOf_scr, seqOf_scr, seqSrc_scr, lenD_scr, ixD_scr, trD_scr, lsP_lst, lsP_tup, lsP_int, lsP_str, seqOf_tup, seqSrc_tup, lenD_tup, ixD_tup, trD_tup, trD_non, trD_bl, trD_int, kindD_non, kindD_bl, kindD_int, kindD_str, kindD_tup, kindD_lst, isK_NoneType_bool, isK_NoneType_int, isK_NoneType_str, isK_NoneType_tuple, isK_NoneType_list, isK_NoneType_dict, isK_bool_bool, isK_bool_int, isK_bool_str, isK_bool_tuple, isK_bool_list, isK_bool_dict, isK_int_bool, isK_int_int, isK_int_str, isK_int_tuple, isK_int_list, isK_int_dict, isK_str_bool, isK_str_int, isK_str_str, isK_str_tuple, isK_str_list, isK_str_dict, isK_tuple_bool, isK_tuple_int, isK_tuple_str, isK_tuple_tuple, isK_tuple_list, isK_tuple_dict, isK_list_bool, isK_list_int, isK_list_str, isK_list_tuple, isK_list_list, isK_list_dict, isK_dict_bool, isK_dict_int, isK_dict_str, isK_dict_tuple, isK_dict_list, isK_dict_dict, ixN_10, ixN_0, at1_0, at2_0, at2_1, at3_0, at3_1, at3_2, at4_0, at4_1, at4_2, at4_3, at5_0, at5_1, at5_2, at5_3, at5_4, at6_0, at6_1, at6_2, at6_3, at6_4, at6_5, at7_0, at7_1, at7_2, at7_3, at7_4, at7_5, at7_6, at8_0, at8_1, at8_2, at8_3, at8_4, at8_5, at8_6, at8_7, sk_step, sq_step_step, sq_step_call, sq_step_in, sq_step_over, sq_step_begin, sq_step_start, sq_step_short, sq_step_along, sq_step_within, sq_step_at, sq_step_out, sk_call, sq_call_step, sq_call_call, sq_call_in, sq_call_over, sq_call_begin, sq_call_start, sq_call_short, sq_call_along, sq_call_within, sq_call_at, sq_call_out, sk_in, sq_in_step, sq_in_call, sq_in_in, sq_in_over, sq_in_begin, sq_in_start, sq_in_short, sq_in_along, sq_in_within, sq_in_at, sq_in_out, sk_over, sq_over_step, sq_over_call, sq_over_in, sq_over_over, sq_over_begin, sq_over_start, sq_over_short, sq_over_along, sq_over_within, sq_over_at, sq_over_out, sk_begin, sq_begin_step, sq_begin_call, sq_begin_in, sq_begin_over, sq_begin_begin, sq_begin_start, sq_begin_short, sq_begin_along, sq_begin_within, sq_begin_at, sq_begin_out, sk_start, sq_start_step, sq_start_call, sq_start_in, sq_start_over, sq_start_begin, sq_start_start, sq_start_short, sq_start_along, sq_start_within, sq_start_at, sq_start_out, sk_short, sq_short_step, sq_short_call, sq_short_in, sq_short_over, sq_short_begin, sq_short_start, sq_short_short, sq_short_along, sq_short_within, sq_short_at, sq_short_out, sk_along, sq_along_step, sq_along_call, sq_along_in, sq_along_over, sq_along_begin, sq_along_start, sq_along_short, sq_along_along, sq_along_within, sq_along_at, sq_along_out, sk_within, sq_within_step, sq_within_call, sq_within_in, sq_within_over, sq_within_begin, sq_within_start, sq_within_short, sq_within_along, sq_within_within, sq_within_at, sq_within_out, sk_at, sq_at_step, sq_at_call, sq_at_in, sq_at_over, sq_at_begin, sq_at_start, sq_at_short, sq_at_along, sq_at_within, sq_at_at, sq_at_out, sk_out, sq_out_step, sq_out_call, sq_out_in, sq_out_over, sq_out_begin, sq_out_start, sq_out_short, sq_out_along, sq_out_within, sq_out_at, sq_out_out, Bool.and_self, Bool.and_true, ↓dSetF, ↓dAugF, ↓dMeth, ↓dMake, ↓pFld, setF, hasM, ↓pLtT, ↓pCatS, ↓pStr, ↓dPopAt, ↓reduceIte]
    obtain ⟨_, pt, hpt⟩ := qi.thok (qi.perm.mem_iff.mp (at0_mem hl))
    have pd : ∀ h', Pd h' (.tup [.int (cst T (at0 hs 0)), thg T (at0 hs 0)]) (.tuple [.int (cst T (at0 hs 0)), pt]) 4 := fun h' => .tup (n := 3) (.cons (.int _) (.cons (hpt h') .nil))
    refine pEq_same rfl (pd _) (pd _) (by decide) ?_
    exact q1 s0 hs' _ (qi.take ha ea p hz) (by rw [List.length_eraseIdx_of_lt ha]; omega)
theorem ok__law_taken_right {f : Addr} {fd : FuncData} (F : Fun K "_law_taken_right" "_law_taken_right" s__law_taken_right f fd) (T : Txt P w K mg) (C_Queue__take : CalM P w K mg base 4 "Queue" "take" ["self"] (spD K 1 S_Queue__take)) (C__law_first : Cal P w K mg base 1 "_law_first" ["_law_stored"] (spD K 1 S__law_first)) (C__law_whole : Cal P w K mg base 1 "_law_whole" ["_law_found"] (spD K 1 S__law_whole)) : FnOk P w K mg base CX0 5 f fd ["_law_queue", "_law_stored"] (spD K 2 S__law_taken_right) :=
  fn_ok (k := 4) (b := b__law_taken_right) F sc__law_taken_right (fun cdv A outer s H E hr => (ss_cons (s_set (i := 2) sc__law_taken_right.nd rfl (Or.inl rfl) (se_meth0 C_Queue__take (hr.mono (by decide)) (sv 0)))
    (ss_cons (s_if (st_cmp (ok_eq hr.units) (se_callB ok_len rfl T.b_len PySem.boot_len (sa_cons (sv 1) sa_nil)) se_int (nomark _)) (ss_one (s_ret (se_cmp ok_is (sv 2) se_non (nomark _)))) ss_nil)
    (ss_cons (s_asg (se_popAt (sv 1) (sa_cons (se_cal C__law_first (hr.mono (by decide)) rfl (sa_cons (sv 1) sa_nil)) sa_nil)) (sg_tup rfl (sgs_cons (sg_name (i := 3) sc__law_taken_right.nd rfl (Or.inl rfl)) (sgs_cons (sg_name (i := 4) sc__law_taken_right.nd rfl (Or.inl rfl)) sgs_nil))))
    (ss_cons (s_if (st_w (sw_or (st_not (st_truth (se_isinst (by decide) rfl T.b_isinstance (sv 2) (pe_bltn (v := .ty "tuple") rfl T.b_tuple PyProof.Rows.boot_tuple rfl)))) (sw_or (st_cmp (ok_ne hr.units) (se_callB ok_len rfl T.b_len PySem.boot_len (sa_cons (sv 2) sa_nil)) se_int (nomark _)) (sw_or1 (st_not (st_truth (se_cal C__law_whole (hr.mono (by decide)) rfl (sa_cons (se_ix ok_ix (sv 2) se_int (fun _ _ => rfl)) sa_nil)))))))) (ss_one (s_ret se_bl)) ss_nil)
    (ss_one (s_ret (se_cmp (ok_eq hr.units) (sv 2) (se_tup (sa_cons (sv 3) (sa_cons (sv 4) sa_nil))) (nomark _))))))))) imp__law_taken_right
noncomputable def b_law : DS := (dSeq (dAsg (dV (dCons (dMake "Queue" S_Queue____init__ dNil) (dCons (dMake "Queue" S_Queue____init__ dNil) dNil))) (dName 1))
    (dSeq (dAsg (dV (dCons (dTk dNil) (dCons (dTk dNil) dNil))) (dName 2))
    (dSeq (dIfS (dTst (dOp (pEq false) (dOp pMod (dCB pLen (dCons (dVar 0) dNil)) (dC (.int 2))) (dC (.int 1)))) (dDrop (dCal S__law_filled (dCons (dOp pIx (dVar 1) (dC (.int 0))) (dCons (dOp pIx (dVar 2) (dC (.int 0))) (dCons (dOp pIx (dVar 0) (dC (.int 0))) dNil))))) dNext)
    (dSeq (dFor (dIEnum (dCons (dSl (dVar 0) dNoPart (dPart (dC (.int 150)))) dNil)) (dUnp 2 (dGCons (dName 3) (dGCons (dName 4) dGNil))) (dSeq (dAsg (dOp pMod (dVar 4) (dC (.int 2))) (dName 5))
    (dSeq (dAsg (dOp pDiv (dVar 4) (dC (.int 2))) (dName 4))
    (dSeq (dIfS (dTst (dOp pLtI (dOp pMod (dVar 4) (dC (.int 5))) (dC (.int 3)))) (dSeq (dAsg (dCal S__law_cost (dCons (dOp pDiv (dVar 4) (dC (.int 5))) dNil)) (dName 6))
    (dSeq (dAsg (dCal S__law_thing (dCons (dOp pDiv (dVar 4) (dC (.int 11))) (dCons (dVar 3) dNil))) (dName 7))
    (dSeq (dDrop (dMeth "Queue" "put" S_Queue__put (dOp pIx (dVar 1) (dVar 5)) (dCons (dVar 6) (dCons (dVar 7) dNil))))
    (dDrop (dAppend (dOp pIx (dVar 2) (dVar 5)) (dCons (dTup (dCons (dVar 6) (dCons (dVar 7) dNil))) dNil)))))) (dIfS (dNot (dTr (dCal S__law_taken_right (dCons (dOp pIx (dVar 1) (dVar 5)) (dCons (dOp pIx (dVar 2) (dVar 5)) dNil))))) (dRet (dC (.bl false))) dNext))
    (dIfS (dOr (dNot (dTr (dCal S__law_whole (dCons (dMeth "Queue" "many" S_Queue__many (dOp pIx (dVar 1) (dVar 5)) dNil) dNil)))) (dTst (dOp (pEq true) (dMeth "Queue" "many" S_Queue__many (dOp pIx (dVar 1) (dVar 5)) dNil) (dCB pLen (dCons (dOp pIx (dVar 2) (dVar 5)) dNil))))) (dRet (dC (.bl false))) dNext)))))
    (dSeq (dFor (dISeq (dV (dCons (dC (.int 0)) (dCons (dC (.int 1)) dNil)))) (dName 5) (dFor (dIRange (dCons (dOp pPlus (dCB pLen (dCons (dOp pIx (dVar 2) (dVar 5)) dNil)) (dC (.int 2))) dNil)) (dName 3) (dIfS (dOr (dNot (dTr (dCal S__law_taken_right (dCons (dOp pIx (dVar 1) (dVar 5)) (dCons (dOp pIx (dVar 2) (dVar 5)) dNil))))) (dTst (dOp (pEq true) (dMeth "Queue" "many" S_Queue__many (dOp pIx (dVar 1) (dVar 5)) dNil) (dCB pLen (dCons (dOp pIx (dVar 2) (dVar 5)) dNil))))) (dRet (dC (.bl false))) dNext)))
    (dRet (dC (.bl true))))))))
theorem cut_map {τ : Type} (g : τ → D) (ns : List τ) (lo hi : Option Int) : ∃ ms : List τ, cutD (ns.map g) lo hi = ms.map g ∧ ms.length ≤ ns.length ∧ ∀ x ∈ ms, x ∈ ns := by
  refine ⟨(ns.drop (HT.sIx ns.length 0 lo)).take (HT.sIx ns.length ns.length hi - HT.sIx ns.length 0 lo), ?_, ?_, fun x hx => List.mem_of_mem_drop (List.mem_of_mem_take hx)⟩
  · unfold cutD; rw [List.length_map, ← List.map_drop, ← List.map_take]
  · rw [List.length_take, List.length_drop]; omega
noncomputable def h6 (T0 : Tb) (a0 b0 : List Nat) (T1 : Tb) (a1 b1 : List Nat) : Hh := [qO 1 T0.length, .lst (a0.map (hD T0)), qO 3 T1.length, .lst (a1.map (hD T1)), .lst (b0.map (sD T0)), .lst (b1.map (sD T1))]
noncomputable def HOK (B : Nat) (h : Hh) : Prop := ∃ T0 a0 b0 T1 a1 b1, h = h6 T0 a0 b0 T1 a1 b1 ∧ QInv T0 a0 b0 ∧ QInv T1 a1 b1 ∧ T0.length ≤ B ∧ T1.length ≤ B
theorem HOK.up {B B' : Nat} {h : Hh} (k : HOK B h) (hb : B ≤ B') : HOK B' h := by
  obtain ⟨T0, a0, b0, T1, a1, b1, e, q0, q1, l0, l1⟩ := k
  exact ⟨T0, a0, b0, T1, a1, b1, e, q0, q1, by first | decide | omega, by first | decide | omega⟩
theorem HOK.side {B : Nat} {h : Hh} (k : HOK B h) {s : Int} (hs : s = 0 ∨ s = 1) : ∃ (i j l : Nat) (T : Tb) (a b : List Nat), atI [D.ref 0, D.ref 2] s = some (.ref i) ∧ atI [D.ref 4, D.ref 5] s = some (.ref l) ∧ h[i]? = some (qO j T.length) ∧ h[j]? = some (.lst (a.map (hD T))) ∧ h[l]? = some (.lst (b.map (sD T))) ∧ l ≠ j ∧ i ≠ j ∧ i ≠ l ∧ QInv T a b ∧ T.length ≤ B ∧
    ∀ B' T' a' b', B ≤ B' → QInv T' a' b' → T'.length ≤ B' → HOK B' (st3 h i j l (qO j T'.length) (.lst (a'.map (hD T'))) (.lst (b'.map (sD T')))) := by
  obtain ⟨T0, a0, b0, T1, a1, b1, rfl, q0, q1, l0, l1⟩ := k
  rcases hs with rfl | rfl
  · exact ⟨0, 1, 4, T0, a0, b0, rfl, rfl, rfl, rfl, rfl, by decide, by decide, by decide, q0, l0, fun B' T' a' b' hb q l => ⟨T', a', b', T1, a1, b1, rfl, q, q1, l, by first | decide | omega⟩⟩
  · exact ⟨2, 3, 5, T1, a1, b1, rfl, rfl, rfl, rfl, rfl, by decide, by decide, by decide, q1, l1, fun B' T' a' b' hb q l => ⟨T0, a0, b0, T', a', b', rfl, q0, q, by first | decide | omega, l⟩⟩
noncomputable def S_law : DSp := runD 8 b_law
theorem imp_law : ∀ ds h Q, S_law ds h Q → runD 8 b_law ds h Q := fun _ _ _ h => h
theorem law_true (ns : List Int) (hl : ns.length ≤ 63) (hb : ∀ x ∈ ns, Builtin.Int.intBits x ≤ 1048576) : S_law [.scr (ns.map D.int)] [] (fun v _ => v = .bl true) := by
  unfold S_law
  simp only [runD, b_law, List.map_cons, List.map_nil, List.cons_append, List.nil_append, List.length_cons, List.length_nil, List.replicate, Nat.reduceSub, Nat.reduceAdd, Nat.zero_add, Nat.sub_self]
  (try dsimp only); refine seq_intro fun N hN => ?_
  simp only [VV]
  refine ⟨0, rfl, rfl, rfl, ?_⟩
  simp only [VV]
  refine ⟨2, rfl, rfl, rfl, ?_⟩
  simp only [VV]
  subst hN
  (try dsimp only); refine seq_intro fun N hN => ?_
  simp only [VV]
  subst hN
  (try dsimp only); refine seq_intro fun N hN => ?_
  show dIfS _ _ _ _ [some (.scr (ns.map D.int)), some (.lst [.ref 0, .ref 2]), some (.lst [.ref 4, .ref 5]), none, none, none, none, none] (h6 [] [] [] [] [] [])
  have next : ∀ h', HOK 60 h' → N [some (.scr (ns.map D.int)), some (.lst [.ref 0, .ref 2]), some (.lst [.ref 4, .ref 5]), none, none, none, none, none] h' := by
    intro h' k0
    subst hN
    (try dsimp only); refine seq_intro fun N hN => ?_
    obtain ⟨m2, hm2, hm2l, _⟩ := cut_map D.int ns none (some 150)
    simp only [hm2, VV]
    rw [enumD_map]
    refine forL_map (fun p δ h' => ∃ (x3 x4 x5 x6 x7 : Option D), δ = [some (.scr (ns.map D.int)), some (.lst [.ref 0, .ref 2]), some (.lst [.ref 4, .ref 5]), x3, x4, x5, x6, x7] ∧ HOK (60 + p.length) h') ⟨_, _, _, _, _, rfl, k0⟩ (fun _ _ _ _ => Src.ok_nil) ?_ ?_
    · rintro p ⟨cell, k⟩ r δ h' N1 e ⟨x3, x4, x5, x6, x7, rfl, hk⟩ hN1
      have k63 : k < 63 ∧ p.length < 63 := by
        have : m2.zipIdx[p.length]? = some (cell, k) := by rw [e]; simp
        rw [List.getElem?_zipIdx] at this
        have pl := congrArg List.length e
        simp at pl
        cases z : m2[p.length]? with
        | none => rw [z] at this; cases this
        | some m' => rw [z] at this; cases this; exact ⟨by simp; omega, by first | decide | omega⟩
      simp only [VV]
      refine ⟨trivial, ?_⟩
      (try dsimp only); refine seq_intro fun N2 hN2 => ?_
      have s01 : cell % 2 = 0 ∨ cell % 2 = 1 := by first | decide | omega
      simp only [VV]
      refine ⟨by decide, ?_⟩
      subst hN2
      (try dsimp only); refine seq_intro fun N2 hN2 => ?_
      simp only [VV]
      refine ⟨⟨by decide, by decide⟩, ?_⟩
      subst hN2
      (try dsimp only); refine seq_intro fun N2 hN2 => ?_
      have chk : ∀ h'' (x6 x7 : Option D), HOK (61 + p.length) h'' → N2 [some (.scr (ns.map D.int)), some (.lst [.ref 0, .ref 2]), some (.lst [.ref 4, .ref 5]), some (.int (0 + (k : Int))), some (.int (cell / 2)), some (.int (cell % 2)), x6, x7] h'' := by
        intro h'' x6 x7 k2
        obtain ⟨i, j, l, T, a, b, ix1, ix2, ei, ej, el, lj, ij, il, qi, tl, _⟩ := k2.side s01
        subst hN2
        simp only [ix1, ↓dAsg, ↓dName, ↓dVar, ↓dC, ↓dOp, ↓dUn, ↓dTst, ↓dTr, ↓dAnd, ↓dOr, ↓dNot, ↓dAndV, ↓dOrV, ↓dNotV, ↓dIf, ↓dIfS, ↓dRet, ↓dRetN, ↓dDrop, ↓dNext, ↓dNever, ↓dCB, ↓dCal, ↓dCons, ↓dNil, ↓dTup, ↓dV, ↓dTk, ↓dListOf, ↓dBits, ↓dIsinst, ↓dChain, ↓dPart, ↓dNoPart, ↓dSl, ↓dGNil, ↓dGCons, ↓dUnp, ↓dAug, ↓dAugS, ↓dSubL, setD, ↓dAppend, ↓dExtend, ↓dPop, ↓dClear, ↓dFor, ↓dISeq, ↓dIRange, ↓dIEnum, ↓dIEnum1, ↓dComp, ↓dNoIf, compSl, ↓dCatN, ↓dRepN, ↓dSlL, ↓dBreak, ↓dCont, ↓pI, ↓pI0, ↓pB0, ↓pNeg, ↓pIs, isN_non, isN_bl, isN_int, isN_str, isN_tup, isN_lst, isN_ref, ↓pIx, ↓pEq, eqS, ↓pLtI, ↓pLen, ↓pTuple, ↓pInt, ↓pMin, ↓pMax, ↓pAbs, ↓pPlus, ↓pAdd, ↓pMulI, ↓pIn, ↓dGet, List.map_cons, List.map_nil, List.cons_append, List.nil_append, List.length_cons, List.length_nil, List.replicate, List.getElem?_cons_zero, List.getElem?_cons_succ, List.set_cons_zero, List.set_cons_succ, Option.getD_some, Option.getD_none, List.getElem?_nil, Bool.false_eq_true, Bool.not_true, Bool.not_false, if_true, if_false, ite_true, ite_false, eq_self_iff_true, decide_true, decide_false, Nat.reduceSub, Nat.reduceAdd, Nat.sub_zero, Nat.sub_self, Nat.zero_add, Option.map_some, Option.map_none, Option.bind_some, Option.bind_none, lsOf_lst, seqOf_lst, seqSrc_lst, lenD_lst, ixD_lst, trD_lst, lsOf_scr, seqOf_scr, seqSrc_scr, lenD_scr, ixD_scr, trD_scr, lsP_lst, lsP_tup, lsP_int, lsP_str, seqOf_tup, seqSrc_tup, lenD_tup, ixD_tup, trD_tup, trD_non, trD_bl, trD_int, kindD_non, kindD_bl, kindD_int, kindD_str, kindD_tup, kindD_lst, isK_NoneType_bool, isK_NoneType_int, isK_NoneType_str, isK_NoneType_tuple, isK_NoneType_list, isK_NoneType_dict, isK_bool_bool, isK_bool_int, isK_bool_str, isK_bool_tuple, isK_bool_list, isK_bool_dict, isK_int_bool, isK_int_int, isK_int_str, isK_int_tuple, isK_int_list, isK_int_dict, isK_str_bool, isK_str_int, isK_str_str, isK_str_tuple, isK_str_list, isK_str_dict, isK_tuple_bool, isK_tuple_int, isK_tuple_str, isK_tuple_tuple, isK_tuple_list, isK_tuple_dict, isK_list_bool, isK_list_int, isK_list_str, isK_list_tuple, isK_list_list, isK_list_dict, isK_dict_bool, isK_dict_int, isK_dict_str, isK_dict_tuple, isK_dict_list, isK_dict_dict, ixN_10, ixN_0, at1_0, at2_0, at2_1, at3_0, at3_1, at3_2, at4_0, at4_1, at4_2, at4_3, at5_0, at5_1, at5_2, at5_3, at5_4, at6_0, at6_1, at6_2, at6_3, at6_4, at6_5, at7_0, at7_1, at7_2, at7_3, at7_4, at7_5, at7_6, at8_0, at8_1, at8_2, at8_3, at8_4, at8_5, at8_6, at8_7, sk_step, sq_step_step, sq_step_call, sq_step_in, sq_step_over, sq_step_begin, sq_step_start, sq_step_short, sq_step_along, sq_step_within, sq_step_at, sq_step_out, sk_call, sq_call_step, sq_call_call, sq_call_in, sq_call_over, sq_call_begin, sq_call_start, sq_call_short, sq_call_along, sq_call_within, sq_call_at, sq_call_out, sk_in, sq_in_step, sq_in_call, sq_in_in, sq_in_over, sq_in_begin, sq_in_start, sq_in_short, sq_in_along, sq_in_within, sq_in_at, sq_in_out, sk_over, sq_over_step, sq_over_call, sq_over_in, sq_over_over, sq_over_begin, sq_over_start, sq_over_short, sq_over_along, sq_over_within, sq_over_at, sq_over_out, sk_begin, sq_begin_step, sq_begin_call, sq_begin_in, sq_begin_over, sq_begin_begin, sq_begin_start, sq_begin_short, sq_begin_along, sq_begin_within, sq_begin_at, sq_begin_out, sk_start, sq_start_step, sq_start_call, sq_start_in, sq_start_over, sq_start_begin, sq_start_start, sq_start_short, sq_start_along, sq_start_within, sq_start_at, sq_start_out, sk_short, sq_short_step, sq_short_call, sq_short_in, sq_short_over, sq_short_begin, sq_short_start, sq_short_short, sq_short_along, sq_short_within, sq_short_at, sq_short_out, sk_along, sq_along_step, sq_along_call, sq_along_in, sq_along_over, sq_along_begin, sq_along_start, sq_along_short, sq_along_along, sq_along_within, sq_along_at, sq_along_out, sk_within, sq_within_step, sq_within_call, sq_within_in, sq_within_over, sq_within_begin, sq_within_start, sq_within_short, sq_within_along, sq_within_within, sq_within_at, sq_within_out, sk_at, sq_at_step, sq_at_call, sq_at_in, sq_at_over, sq_at_begin, sq_at_start, sq_at_short, sq_at_along, sq_at_within, sq_at_at, sq_at_out, sk_out, sq_out_step, sq_out_call, sq_out_in, sq_out_over, sq_out_begin, sq_out_start, sq_out_short, sq_out_along, sq_out_within, sq_out_at, sq_out_out, Bool.and_self, Bool.and_true, ↓dSetF, ↓dAugF, ↓dMeth, ↓dMake, ↓pFld, setF, ↓pLtT, ↓pCatS, ↓pStr, ↓dPopAt, ↓reduceIte]
        refine ⟨q_has ei rfl, i, j, _, _, rfl, ei, ej, _, rfl, ?_⟩
        simp only [ix1, ix2, ↓dAsg, ↓dName, ↓dVar, ↓dC, ↓dOp, ↓dUn, ↓dTst, ↓dTr, ↓dAnd, ↓dOr, ↓dNot, ↓dAndV, ↓dOrV, ↓dNotV, ↓dIf, ↓dIfS, ↓dRet, ↓dRetN, ↓dDrop, ↓dNext, ↓dNever, ↓dCB, ↓dCal, ↓dCons, ↓dNil, ↓dTup, ↓dV, ↓dTk, ↓dListOf, ↓dBits, ↓dIsinst, ↓dChain, ↓dPart, ↓dNoPart, ↓dSl, ↓dGNil, ↓dGCons, ↓dUnp, ↓dAug, ↓dAugS, ↓dSubL, setD, ↓dAppend, ↓dExtend, ↓dPop, ↓dClear, ↓dFor, ↓dISeq, ↓dIRange, ↓dIEnum, ↓dIEnum1, ↓dComp, ↓dNoIf, compSl, ↓dCatN, ↓dRepN, ↓dSlL, ↓dBreak, ↓dCont, ↓pI, ↓pI0, ↓pB0, ↓pNeg, ↓pIs, isN_non, isN_bl, isN_int, isN_str, isN_tup, isN_lst, isN_ref, ↓pIx, ↓pEq, eqS, ↓pLtI, ↓pLen, ↓pTuple, ↓pInt, ↓pMin, ↓pMax, ↓pAbs, ↓pPlus, ↓pAdd, ↓pMulI, ↓pIn, ↓dGet, List.map_cons, List.map_nil, List.cons_append, List.nil_append, List.length_cons, List.length_nil, List.replicate, List.getElem?_cons_zero, List.getElem?_cons_succ, List.set_cons_zero, List.set_cons_succ, Option.getD_some, Option.getD_none, List.getElem?_nil, Bool.false_eq_true, Bool.not_true, Bool.not_false, if_true, if_false, ite_true, ite_false, eq_self_iff_true, decide_true, decide_false, Nat.reduceSub, Nat.reduceAdd, Nat.sub_zero, Nat.sub_self, Nat.zero_add, Option.map_some, Option.map_none, Option.bind_some, Option.bind_none, lsOf_lst, seqOf_lst, seqSrc_lst, lenD_lst, ixD_lst, trD_lst, lsOf_scr, seqOf_scr, seqSrc_scr, lenD_scr, ixD_scr, trD_scr, lsP_lst, lsP_tup, lsP_int, lsP_str, seqOf_tup, seqSrc_tup, lenD_tup, ixD_tup, trD_tup, trD_non, trD_bl, trD_int, kindD_non, kindD_bl, kindD_int, kindD_str, kindD_tup, kindD_lst, isK_NoneType_bool, isK_NoneType_int, isK_NoneType_str, isK_NoneType_tuple, isK_NoneType_list, isK_NoneType_dict, isK_bool_bool, isK_bool_int, isK_bool_str, isK_bool_tuple, isK_bool_list, isK_bool_dict, isK_int_bool, isK_int_int, isK_int_str, isK_int_tuple, isK_int_list, isK_int_dict, isK_str_bool, isK_str_int, isK_str_str, isK_str_tuple, isK_str_list, isK_str_dict, isK_tuple_bool, isK_tuple_int, isK_tuple_str, isK_tuple_tuple, isK_tuple_list, isK_tuple_dict, isK_list_bool, isK_list_int, isK_list_str, isK_list_tuple, isK_list_list, isK_list_dict, isK_dict_bool, isK_dict_int, isK_dict_str, isK_dict_tuple, isK_dict_list, isK_dict_dict, ixN_10, ixN_0, at1_0, at2_0, at2_1, at3_0, at3_1, at3_2, at4_0, at4_1, at4_2, at4_3, at5_0, at5_1, at5_2, at5_3, at5_4, at6_0, at6_1, at6_2, at6_3, at6_4, at6_5, at7_0, at7_1, at7_2, at7_3, at7_4, at7_5, at7_6, at8_0, at8_1, at8_2, at8_3, at8_4, at8_5, at8_6, at8_7, sk_step, sq_step_step, sq_step_call, sq_step_in, sq_step_over, sq_step_begin, sq_step_start, sq_step_short, sq_step_along, sq_step_within, sq_step_at, sq_step_out, sk_call, sq_call_step, sq_call_call, sq_call_in, sq_call_over, sq_call_begin, sq_call_start, sq_call_short, sq_call_along, sq_call_within, sq_call_at, sq_call_out, sk_in, sq_in_step, sq_in_call, sq_in_in, sq_in_over, sq_in_begin, sq_in_start, sq_in_short, sq_in_along, sq_in_within, sq_in_at, sq_in_out, sk_over, sq_over_step, sq_over_call, sq_over_in, sq_over_over, sq_over_begin, sq_over_start, sq_over_short, sq_over_along, sq_over_within, sq_over_at, sq_over_out, sk_begin, sq_begin_step, sq_begin_call, sq_begin_in, sq_begin_over, sq_begin_begin, sq_begin_start, sq_begin_short, sq_begin_along, sq_begin_within, sq_begin_at, sq_begin_out, sk_start, sq_start_step, sq_start_call, sq_start_in, sq_start_over, sq_start_begin, sq_start_start, sq_start_short, sq_start_along, sq_start_within, sq_start_at, sq_start_out, sk_short, sq_short_step, sq_short_call, sq_short_in, sq_short_over, sq_short_begin, sq_short_start, sq_short_short, sq_short_along, sq_short_within, sq_short_at, sq_short_out, sk_along, sq_along_step, sq_along_call, sq_along_in, sq_along_over, sq_along_begin, sq_along_start, sq_along_short, sq_along_along, sq_along_within, sq_along_at, sq_along_out, sk_within, sq_within_step, sq_within_call, sq_within_in, sq_within_over, sq_within_begin, sq_within_start, sq_within_short, sq_within_along, sq_within_within, sq_within_at, sq_within_out, sk_at, sq_at_step, sq_at_call, sq_at_in, sq_at_over, sq_at_begin, sq_at_start, sq_at_short, sq_at_along, sq_at_within, sq_at_at, sq_at_out, sk_out, sq_out_step, sq_out_call, sq_out_in, sq_out_over, sq_out_begin, sq_out_start, sq_out_short, sq_out_along, sq_out_within, sq_out_at, sq_out_out, Bool.and_self, Bool.and_true, ↓dSetF, ↓dAugF, ↓dMeth, ↓dMake, ↓pFld, setF, ↓pLtT, ↓pCatS, ↓pStr, ↓dPopAt, ↓reduceIte]
        refine ⟨q_has ei rfl, i, j, _, _, rfl, ei, ej, ?_⟩
        have d0 : (!((a.length : Int) == (b.length : Int))) = false := by rw [qi.perm.length_eq]; simp
        simp only [ix2, len_ls (lsOf_ref el), List.length_map, d0, VV]
        exact hN1 _ _ ⟨_, _, _, _, _, rfl, by rw [List.length_append]; exact k2.up (by simp; omega)⟩
      obtain ⟨i, j, l, T, a, b, ix1, ix2, ei, ej, el, lj, ij, il, qi, tl, put⟩ := hk.side s01
      have hlen := qi.perm.length_eq
      have sl := qi.len
      simp only [VV]
      refine ⟨by decide, ?_⟩
      by_cases c5 : cell / 2 % 5 < 3
      · simp only [c5, VV]
        (try dsimp only); refine seq_intro fun N3 hN3 => ?_
        simp only [VV]
        refine ⟨⟨by decide, by decide⟩, _, rfl, fun c => ?_⟩
        subst hN3
        (try dsimp only); refine seq_intro fun N3 hN3 => ?_
        simp only [VV]
        refine ⟨⟨by decide, by decide⟩, _, k, by rw [Int.zero_add], k63.1, fun t ht => ?_⟩
        subst hN3
        (try dsimp only); refine seq_intro fun N3 hN3 => ?_
        simp only [ix1, ↓dAsg, ↓dName, ↓dVar, ↓dC, ↓dOp, ↓dUn, ↓dTst, ↓dTr, ↓dAnd, ↓dOr, ↓dNot, ↓dAndV, ↓dOrV, ↓dNotV, ↓dIf, ↓dIfS, ↓dRet, ↓dRetN, ↓dDrop, ↓dNext, ↓dNever, ↓dCB, ↓dCal, ↓dCons, ↓dNil, ↓dTup, ↓dV, ↓dTk, ↓dListOf, ↓dBits, ↓dIsinst, ↓dChain, ↓dPart, ↓dNoPart, ↓dSl, ↓dGNil, ↓dGCons, ↓dUnp, ↓dAug, ↓dAugS, ↓dSubL, setD, ↓dAppend, ↓dExtend, ↓dPop, ↓dClear, ↓dFor, ↓dISeq, ↓dIRange, ↓dIEnum, ↓dIEnum1, ↓dComp, ↓dNoIf, compSl, ↓dCatN, ↓dRepN, ↓dSlL, ↓dBreak, ↓dCont, ↓pI, ↓pI0, ↓pB0, ↓pNeg, ↓pIs, isN_non, isN_bl, isN_int, isN_str, isN_tup, isN_lst, isN_ref, ↓pIx, ↓pEq, eqS, ↓pLtI, ↓pLen, ↓pTuple, ↓pInt, ↓pMin, ↓pMax, ↓pAbs, ↓pPlus, ↓pAdd, ↓pMulI, ↓pIn, ↓dGet, List.map_cons, List.map_nil, List.cons_append, List.nil_append, List.length_cons, List.length_nil, List.replicate, List.getElem?_cons_zero, List.getElem?_cons_succ, List.set_cons_zero, List.set_cons_succ, Option.getD_some, Option.getD_none, List.getElem?_nil, Bool.false_eq_true, Bool.not_true, Bool.not_false, if_true, if_false, ite_true, ite_false, eq_self_iff_true, decide_true, decide_false, Nat.reduceSub, Nat.reduceAdd, Nat.sub_zero, Nat.sub_self, Nat.zero_add, Option.map_some, Option.map_none, Option.bind_some, Option.bind_none, lsOf_lst, seqOf_lst, seqSrc_lst, lenD_lst, ixD_lst, trD_lst, lsOf_scr, seqOf_scr, seqSrc_scr, lenD_scr, ixD_scr, trD_scr, lsP_lst, lsP_tup, lsP_int, lsP_str, seqOf_tup, seqSrc_tup, lenD_tup, ixD_tup, trD_tup, trD_non, trD_bl, trD_int, kindD_non, kindD_bl, kindD_int, kindD_str, kindD_tup, kindD_lst, isK_NoneType_bool, isK_NoneType_int, isK_NoneType_str, isK_NoneType_tuple, isK_NoneType_list, isK_NoneType_dict, isK_bool_bool, isK_bool_int, isK_bool_str, isK_bool_tuple, isK_bool_list, isK_bool_dict, isK_int_bool, isK_int_int, isK_int_str, isK_int_tuple, isK_int_list, isK_int_dict, isK_str_bool, isK_str_int, isK_str_str, isK_str_tuple, isK_str_list, isK_str_dict, isK_tuple_bool, isK_tuple_int, isK_tuple_str, isK_tuple_tuple, isK_tuple_list, isK_tuple_dict, isK_list_bool, isK_list_int, isK_list_str, isK_list_tuple, isK_list_list, isK_list_dict, isK_dict_bool, isK_dict_int, isK_dict_str, isK_dict_tuple, isK_dict_list, isK_dict_dict, ixN_10, ixN_0, at1_0, at2_0, at2_1, at3_0, at3_1, at3_2, at4_0, at4_1, at4_2, at4_3, at5_0, at5_1, at5_2, at5_3, at5_4, at6_0, at6_1, at6_2, at6_3, at6_4, at6_5, at7_0, at7_1, at7_2, at7_3, at7_4, at7_5, at7_6, at8_0, at8_1, at8_2, at8_3, at8_4, at8_5, at8_6, at8_7, sk_step, sq_step_step, sq_step_call, sq_step_in, sq_step_over, sq_step_begin, sq_step_start, sq_step_short, sq_step_along, sq_step_within, sq_step_at, sq_step_out, sk_call, sq_call_step, sq_call_call, sq_call_in, sq_call_over, sq_call_begin, sq_call_start, sq_call_short, sq_call_along, sq_call_within, sq_call_at, sq_call_out, sk_in, sq_in_step, sq_in_call, sq_in_in, sq_in_over, sq_in_begin, sq_in_start, sq_in_short, sq_in_along, sq_in_within, sq_in_at, sq_in_out, sk_over, sq_over_step, sq_over_call, sq_over_in, sq_over_over, sq_over_begin, sq_over_start, sq_over_short, sq_over_along, sq_over_within, sq_over_at, sq_over_out, sk_begin, sq_begin_step, sq_begin_call, sq_begin_in, sq_begin_over, sq_begin_begin, sq_begin_start, sq_begin_short, sq_begin_along, sq_begin_within, sq_begin_at, sq_begin_out, sk_start, sq_start_step, sq_start_call, sq_start_in, sq_start_over, sq_start_begin, sq_start_start, sq_start_short, sq_start_along, sq_start_within, sq_start_at, sq_start_out, sk_short, sq_short_step, sq_short_call, sq_short_in, sq_short_over, sq_short_begin, sq_short_start, sq_short_short, sq_short_along, sq_short_within, sq_short_at, sq_short_out, sk_along, sq_along_step, sq_along_call, sq_along_in, sq_along_over, sq_along_begin, sq_along_start, sq_along_short, sq_along_along, sq_along_within, sq_along_at, sq_along_out, sk_within, sq_within_step, sq_within_call, sq_within_in, sq_within_over, sq_within_begin, sq_within_start, sq_within_short, sq_within_along, sq_within_within, sq_within_at, sq_within_out, sk_at, sq_at_step, sq_at_call, sq_at_in, sq_at_over, sq_at_begin, sq_at_start, sq_at_short, sq_at_along, sq_at_within, sq_at_at, sq_at_out, sk_out, sq_out_step, sq_out_call, sq_out_in, sq_out_over, sq_out_begin, sq_out_start, sq_out_short, sq_out_along, sq_out_within, sq_out_at, sq_out_out, Bool.and_self, Bool.and_true, ↓dSetF, ↓dAugF, ↓dMeth, ↓dMake, ↓pFld, setF, ↓pLtT, ↓pCatS, ↓pStr, ↓dPopAt, ↓reduceIte]
        refine ⟨q_has ei rfl, i, j, c, t, T, a, rfl, ei, ej, qi.lth, qi.hp, by first | decide | omega, fun a' p' hz => ?_⟩
        have el2 : ∀ o1 o2 : O, ((h'.set i o1).set j o2)[l]? = some (.lst (b.map (sD T))) := fun o1 o2 => by rw [List.getElem?_set_ne (Ne.symm lj), List.getElem?_set_ne il]; exact el
        have en : b.map (sD T) ++ [.tup [.int c, t]] = (b ++ [T.length]).map (sD (T ++ [(c, t)])) := by
          rw [List.map_append, sD_app qi.lt, List.map_singleton, sD_new]
        subst hN3
        simp only [ix2, el2, List.length_map, VV]
        refine ⟨by first | decide | omega, ?_⟩
        rw [en]
        have := put (61 + p.length) (T ++ [(c, t)]) a' (b ++ [T.length]) (by first | decide | omega) (qi.put ht p' hz) (by rw [List.length_append, List.length_singleton]; omega)
        rw [show (T ++ [(c, t)]).length = T.length + 1 by simp] at this
        exact chk _ _ _ this
      · simp only [c5, VV]
        simp only [ix1, ix2, VV]
        refine ⟨i, j, l, T, a, b, rfl, ei, ej, el, lj, qi, by first | decide | omega, fun b0 => ?_, fun b0 a' b' q' lb => ?_⟩
        · simp only [VV]
          exact chk _ _ _ (hk.up (by first | decide | omega))
        · simp only [VV]
          have := put (61 + p.length) T a' b' (by first | decide | omega) q' (by first | decide | omega)
          unfold st3 at this
          rw [set_same ei] at this
          exact chk _ _ _ this
    · rintro δ h' ⟨x3, x4, x5, x6, x7, rfl, hk⟩
      have hk : HOK 200 h' := hk.up (by rw [List.length_zipIdx]; omega)
      subst hN
      (try dsimp only); refine seq_intro fun N hN => ?_
      simp only [VV]
      refine forL_map (g := D.int) (ys := [0, 1]) (fun p δ h' => ∃ (x3 x4 x5 x6 x7 : Option D), δ = [some (.scr (ns.map D.int)), some (.lst [.ref 0, .ref 2]), some (.lst [.ref 4, .ref 5]), x3, x4, x5, x6, x7] ∧ HOK 200 h') ⟨_, _, _, _, _, rfl, hk⟩ (fun _ _ _ _ => Src.ok_nil) ?_ ?_
      · rintro p sd r δ h' N1 e ⟨x3, x4, x5, x6, x7, rfl, hk⟩ hN1
        have s01 : sd = 0 ∨ sd = 1 := by
          have : sd ∈ ([0, 1] : List Int) := by rw [e]; simp
          simpa using this
        obtain ⟨i, j, l, T, a, b, ix1, ix2, ei, ej, el, lj, ij, il, qi, tl, put⟩ := hk.side s01
        have sl := qi.len
        simp only [ix2, len_ls (lsOf_ref el), List.length_map, VV]
        refine ⟨⟨by first | decide | omega, by first | decide | omega⟩, ?_⟩
        rw [rangeD_map]
        refine forL_map (fun p δ h' => ∃ (x3 x4 x6 x7 : Option D), δ = [some (.scr (ns.map D.int)), some (.lst [.ref 0, .ref 2]), some (.lst [.ref 4, .ref 5]), x3, x4, some (.int sd), x6, x7] ∧ HOK 200 h') ⟨_, _, _, _, rfl, hk⟩ (fun _ _ _ _ => Src.ok_nil) ?_ ?_
        · rintro p2 y r2 δ h2 N2 e2 ⟨x3, x4, x6, x7, rfl, hk⟩ hN2
          obtain ⟨i, j, l, T, a, b, ix1, ix2, ei, ej, el, lj, ij, il, qi, tl, put⟩ := hk.side s01
          simp only [ix1, ix2, ↓dAsg, ↓dName, ↓dVar, ↓dC, ↓dOp, ↓dUn, ↓dTst, ↓dTr, ↓dAnd, ↓dOr, ↓dNot, ↓dAndV, ↓dOrV, ↓dNotV, ↓dIf, ↓dIfS, ↓dRet, ↓dRetN, ↓dDrop, ↓dNext, ↓dNever, ↓dCB, ↓dCal, ↓dCons, ↓dNil, ↓dTup, ↓dV, ↓dTk, ↓dListOf, ↓dBits, ↓dIsinst, ↓dChain, ↓dPart, ↓dNoPart, ↓dSl, ↓dGNil, ↓dGCons, ↓dUnp, ↓dAug, ↓dAugS, ↓dSubL, setD, ↓dAppend, ↓dExtend, ↓dPop, ↓dClear, ↓dFor, ↓dISeq, ↓dIRange, ↓dIEnum, ↓dIEnum1, ↓dComp, ↓dNoIf, compSl, ↓dCatN, ↓dRepN, ↓dSlL, ↓dBreak, ↓dCont, ↓pI, ↓pI0, ↓pB0, ↓pNeg, ↓pIs, isN_non, isN_bl, isN_int, isN_str, isN_tup, isN_lst, isN_ref, ↓pIx, ↓pEq, eqS, ↓pLtI, ↓pLen, ↓pTuple, ↓pInt, ↓pMin, ↓pMax, ↓pAbs, ↓pPlus, ↓pAdd, ↓pMulI, ↓pIn, ↓dGet, List.map_cons, List.map_nil, List.cons_append, List.nil_append, List.length_cons, List.length_nil, List.replicate, List.getElem?_cons_zero, List.getElem?_cons_succ, List.set_cons_zero, List.set_cons_succ, Option.getD_some, Option.getD_none, List.getElem?_nil, Bool.false_eq_true, Bool.not_true, Bool.not_false, if_true, if_false, ite_true, ite_false, eq_self_iff_true, decide_true, decide_false, Nat.reduceSub, Nat.reduceAdd, Nat.sub_zero, Nat.sub_self, Nat.zero_add, Option.map_some, Option.map_none, Option.bind_some, Option.bind_none, lsOf_lst, seqOf_lst, seqSrc_lst, lenD_lst, ixD_lst, trD_lst, lsOf_scr, seqOf_scr, seqSrc_scr, lenD_scr, ixD_scr, trD_scr, lsP_lst, lsP_tup, lsP_int, lsP_str, seqOf_tup, seqSrc_tup, lenD_tup, ixD_tup, trD_tup, trD_non, trD_bl, trD_int, kindD_non, kindD_bl, kindD_int, kindD_str, kindD_tup, kindD_lst, isK_NoneType_bool, isK_NoneType_int, isK_NoneType_str, isK_NoneType_tuple, isK_NoneType_list, isK_NoneType_dict, isK_bool_bool, isK_bool_int, isK_bool_str, isK_bool_tuple, isK_bool_list, isK_bool_dict, isK_int_bool, isK_int_int, isK_int_str, isK_int_tuple, isK_int_list, isK_int_dict, isK_str_bool, isK_str_int, isK_str_str, isK_str_tuple, isK_str_list, isK_str_dict, isK_tuple_bool, isK_tuple_int, isK_tuple_str, isK_tuple_tuple, isK_tuple_list, isK_tuple_dict, isK_list_bool, isK_list_int, isK_list_str, isK_list_tuple, isK_list_list, isK_list_dict, isK_dict_bool, isK_dict_int, isK_dict_str, isK_dict_tuple, isK_dict_list, isK_dict_dict, ixN_10, ixN_0, at1_0, at2_0, at2_1, at3_0, at3_1, at3_2, at4_0, at4_1, at4_2, at4_3, at5_0, at5_1, at5_2, at5_3, at5_4, at6_0, at6_1, at6_2, at6_3, at6_4, at6_5, at7_0, at7_1, at7_2, at7_3, at7_4, at7_5, at7_6, at8_0, at8_1, at8_2, at8_3, at8_4, at8_5, at8_6, at8_7, sk_step, sq_step_step, sq_step_call, sq_step_in, sq_step_over, sq_step_begin, sq_step_start, sq_step_short, sq_step_along, sq_step_within, sq_step_at, sq_step_out, sk_call, sq_call_step, sq_call_call, sq_call_in, sq_call_over, sq_call_begin, sq_call_start, sq_call_short, sq_call_along, sq_call_within, sq_call_at, sq_call_out, sk_in, sq_in_step, sq_in_call, sq_in_in, sq_in_over, sq_in_begin, sq_in_start, sq_in_short, sq_in_along, sq_in_within, sq_in_at, sq_in_out, sk_over, sq_over_step, sq_over_call, sq_over_in, sq_over_over, sq_over_begin, sq_over_start, sq_over_short, sq_over_along, sq_over_within, sq_over_at, sq_over_out, sk_begin, sq_begin_step, sq_begin_call, sq_begin_in, sq_begin_over, sq_begin_begin, sq_begin_start, sq_begin_short, sq_begin_along, sq_begin_within, sq_begin_at, sq_begin_out, sk_start, sq_start_step, sq_start_call, sq_start_in, sq_start_over, sq_start_begin, sq_start_start, sq_start_short, sq_start_along, sq_start_within, sq_start_at, sq_start_out, sk_short, sq_short_step, sq_short_call, sq_short_in, sq_short_over, sq_short_begin, sq_short_start, sq_short_short, sq_short_along, sq_short_within, sq_short_at, sq_short_out, sk_along, sq_along_step, sq_along_call, sq_along_in, sq_along_over, sq_along_begin, sq_along_start, sq_along_short, sq_along_along, sq_along_within, sq_along_at, sq_along_out, sk_within, sq_within_step, sq_within_call, sq_within_in, sq_within_over, sq_within_begin, sq_within_start, sq_within_short, sq_within_along, sq_within_within, sq_within_at, sq_within_out, sk_at, sq_at_step, sq_at_call, sq_at_in, sq_at_over, sq_at_begin, sq_at_start, sq_at_short, sq_at_along, sq_at_within, sq_at_at, sq_at_out, sk_out, sq_out_step, sq_out_call, sq_out_in, sq_out_over, sq_out_begin, sq_out_start, sq_out_short, sq_out_along, sq_out_within, sq_out_at, sq_out_out, Bool.and_self, Bool.and_true, ↓dSetF, ↓dAugF, ↓dMeth, ↓dMake, ↓pFld, setF, ↓pLtT, ↓pCatS, ↓pStr, ↓dPopAt, ↓reduceIte]
          refine ⟨i, j, l, T, a, b, rfl, ei, ej, el, lj, qi, by first | decide | omega, fun b0 => ?_, fun b0 a' b' q' lb => ?_⟩
          · obtain ⟨i', j', l', T', c, d, jx1, jx2, fi, fj, fl, _, _, _, qj, _⟩ := hk.side s01
            rw [ix1] at jx1; cases jx1
            rw [ix2] at jx2; cases jx2
            have d0 : (!((c.length : Int) == (d.length : Int))) = false := by rw [qj.perm.length_eq]; simp
            simp only [↓dAsg, ↓dName, ↓dVar, ↓dC, ↓dOp, ↓dUn, ↓dTst, ↓dTr, ↓dAnd, ↓dOr, ↓dNot, ↓dAndV, ↓dOrV, ↓dNotV, ↓dIf, ↓dIfS, ↓dRet, ↓dRetN, ↓dDrop, ↓dNext, ↓dNever, ↓dCB, ↓dCal, ↓dCons, ↓dNil, ↓dTup, ↓dV, ↓dTk, ↓dListOf, ↓dBits, ↓dIsinst, ↓dChain, ↓dPart, ↓dNoPart, ↓dSl, ↓dGNil, ↓dGCons, ↓dUnp, ↓dAug, ↓dAugS, ↓dSubL, setD, ↓dAppend, ↓dExtend, ↓dPop, ↓dClear, ↓dFor, ↓dISeq, ↓dIRange, ↓dIEnum, ↓dIEnum1, ↓dComp, ↓dNoIf, compSl, ↓dCatN, ↓dRepN, ↓dSlL, ↓dBreak, ↓dCont, ↓pI, ↓pI0, ↓pB0, ↓pNeg, ↓pIs, isN_non, isN_bl, isN_int, isN_str, isN_tup, isN_lst, isN_ref, ↓pIx, ↓pEq, eqS, ↓pLtI, ↓pLen, ↓pTuple, ↓pInt, ↓pMin, ↓pMax, ↓pAbs, ↓pPlus, ↓pAdd, ↓pMulI, ↓pIn, ↓dGet, List.map_cons, List.map_nil, List.cons_append, List.nil_append, List.length_cons, List.length_nil, List.replicate, List.getElem?_cons_zero, List.getElem?_cons_succ, List.set_cons_zero, List.set_cons_succ, Option.getD_some, Option.getD_none, List.getElem?_nil, Bool.false_eq_true, Bool.not_true, Bool.not_false, if_true, if_false, ite_true, ite_false, eq_self_iff_true, decide_true, decide_false, Nat.reduceSub, Nat.reduceAdd, Nat.sub_zero, Nat.sub_self, Nat.zero_add, Option.map_some, Option.map_none, Option.bind_some, Option.bind_none, lsOf_lst, seqOf_lst, seqSrc_lst, lenD_lst, ixD_lst, trD_lst, lsOf_scr, seqOf_scr, seqSrc_scr, lenD_scr, ixD_scr, trD_scr, lsP_lst, lsP_tup, lsP_int, lsP_str, seqOf_tup, seqSrc_tup, lenD_tup, ixD_tup, trD_tup, trD_non, trD_bl, trD_int, kindD_non, kindD_bl, kindD_int, kindD_str, kindD_tup, kindD_lst, isK_NoneType_bool, isK_NoneType_int, isK_NoneType_str, isK_NoneType_tuple, isK_NoneType_list, isK_NoneType_dict, isK_bool_bool, isK_bool_int, isK_bool_str, isK_bool_tuple, isK_bool_list, isK_bool_dict, isK_int_bool, isK_int_int, isK_int_str, isK_int_tuple, isK_int_list, isK_int_dict, isK_str_bool, isK_str_int, isK_str_str, isK_str_tuple, isK_str_list, isK_str_dict, isK_tuple_bool, isK_tuple_int, isK_tuple_str, isK_tuple_tuple, isK_tuple_list, isK_tuple_dict, isK_list_bool, isK_list_int, isK_list_str, isK_list_tuple, isK_list_list, isK_list_dict, isK_dict_bool, isK_dict_int, isK_dict_str, isK_dict_tuple, isK_dict_list, isK_dict_dict, ixN_10, ixN_0, at1_0, at2_0, at2_1, at3_0, at3_1, at3_2, at4_0, at4_1, at4_2, at4_3, at5_0, at5_1, at5_2, at5_3, at5_4, at6_0, at6_1, at6_2, at6_3, at6_4, at6_5, at7_0, at7_1, at7_2, at7_3, at7_4, at7_5, at7_6, at8_0, at8_1, at8_2, at8_3, at8_4, at8_5, at8_6, at8_7, sk_step, sq_step_step, sq_step_call, sq_step_in, sq_step_over, sq_step_begin, sq_step_start, sq_step_short, sq_step_along, sq_step_within, sq_step_at, sq_step_out, sk_call, sq_call_step, sq_call_call, sq_call_in, sq_call_over, sq_call_begin, sq_call_start, sq_call_short, sq_call_along, sq_call_within, sq_call_at, sq_call_out, sk_in, sq_in_step, sq_in_call, sq_in_in, sq_in_over, sq_in_begin, sq_in_start, sq_in_short, sq_in_along, sq_in_within, sq_in_at, sq_in_out, sk_over, sq_over_step, sq_over_call, sq_over_in, sq_over_over, sq_over_begin, sq_over_start, sq_over_short, sq_over_along, sq_over_within, sq_over_at, sq_over_out, sk_begin, sq_begin_step, sq_begin_call, sq_begin_in, sq_begin_over, sq_begin_begin, sq_begin_start, sq_begin_short, sq_begin_along, sq_begin_within, sq_begin_at, sq_begin_out, sk_start, sq_start_step, sq_start_call, sq_start_in, sq_start_over, sq_start_begin, sq_start_start, sq_start_short, sq_start_along, sq_start_within, sq_start_at, sq_start_out, sk_short, sq_short_step, sq_short_call, sq_short_in, sq_short_over, sq_short_begin, sq_short_start, sq_short_short, sq_short_along, sq_short_within, sq_short_at, sq_short_out, sk_along, sq_along_step, sq_along_call, sq_along_in, sq_along_over, sq_along_begin, sq_along_start, sq_along_short, sq_along_along, sq_along_within, sq_along_at, sq_along_out, sk_within, sq_within_step, sq_within_call, sq_within_in, sq_within_over, sq_within_begin, sq_within_start, sq_within_short, sq_within_along, sq_within_within, sq_within_at, sq_within_out, sk_at, sq_at_step, sq_at_call, sq_at_in, sq_at_over, sq_at_begin, sq_at_start, sq_at_short, sq_at_along, sq_at_within, sq_at_at, sq_at_out, sk_out, sq_out_step, sq_out_call, sq_out_in, sq_out_over, sq_out_begin, sq_out_start, sq_out_short, sq_out_along, sq_out_within, sq_out_at, sq_out_out, Bool.and_self, Bool.and_true, ↓dSetF, ↓dAugF, ↓dMeth, ↓dMake, ↓pFld, setF, ↓pLtT, ↓pCatS, ↓pStr, ↓dPopAt, ↓reduceIte]
            refine ⟨q_has fi rfl, i, j', _, _, rfl, fi, fj, ?_⟩
            simp only [len_ls (lsOf_ref fl), List.length_map, d0, VV]
            exact hN2 _ _ ⟨_, _, _, _, rfl, hk⟩
          · have k3 := put 200 T a' b' (Nat.le_refl _) q' (by first | decide | omega)
            unfold st3 at k3
            rw [set_same ei] at k3
            obtain ⟨i', j', l', T', c, d, jx1, jx2, fi, fj, fl, _, _, _, qj, _⟩ := k3.side s01
            rw [ix1] at jx1; cases jx1
            rw [ix2] at jx2; cases jx2
            have d0 : (!((c.length : Int) == (d.length : Int))) = false := by rw [qj.perm.length_eq]; simp
            simp only [↓dAsg, ↓dName, ↓dVar, ↓dC, ↓dOp, ↓dUn, ↓dTst, ↓dTr, ↓dAnd, ↓dOr, ↓dNot, ↓dAndV, ↓dOrV, ↓dNotV, ↓dIf, ↓dIfS, ↓dRet, ↓dRetN, ↓dDrop, ↓dNext, ↓dNever, ↓dCB, ↓dCal, ↓dCons, ↓dNil, ↓dTup, ↓dV, ↓dTk, ↓dListOf, ↓dBits, ↓dIsinst, ↓dChain, ↓dPart, ↓dNoPart, ↓dSl, ↓dGNil, ↓dGCons, ↓dUnp, ↓dAug, ↓dAugS, ↓dSubL, setD, ↓dAppend, ↓dExtend, ↓dPop, ↓dClear, ↓dFor, ↓dISeq, ↓dIRange, ↓dIEnum, ↓dIEnum1, ↓dComp, ↓dNoIf, compSl, ↓dCatN, ↓dRepN, ↓dSlL, ↓dBreak, ↓dCont, ↓pI, ↓pI0, ↓pB0, ↓pNeg, ↓pIs, isN_non, isN_bl, isN_int, isN_str, isN_tup, isN_lst, isN_ref, ↓pIx, ↓pEq, eqS, ↓pLtI, ↓pLen, ↓pTuple, ↓pInt, ↓pMin, ↓pMax, ↓pAbs, ↓pPlus, ↓pAdd, ↓pMulI, ↓pIn, ↓dGet, List.map_cons, List.map_nil, List.cons_append, List.nil_append, List.length_cons, List.length_nil, List.replicate, List.getElem?_cons_zero, List.getElem?_cons_succ, List.set_cons_zero, List.set_cons_succ, Option.getD_some, Option.getD_none, List.getElem?_nil, Bool.false_eq_true, Bool.not_true, Bool.not_false, if_true, if_false, ite_true, ite_false, eq_self_iff_true, decide_true, decide_false, Nat.reduceSub, Nat.reduceAdd, Nat.sub_zero, Nat.sub_self, Nat.zero_add, Option.map_some, Option.map_none, Option.bind_some, Option.bind_none, lsOf_lst, seqOf_lst, seqSrc_lst, lenD_lst, ixD_lst, trD_lst, lsOf_scr, seqOf_scr, seqSrc_scr, lenD_scr, ixD_scr, trD_scr, lsP_lst, lsP_tup, lsP_int, lsP_str, seqOf_tup, seqSrc_tup, lenD_tup, ixD_tup, trD_tup, trD_non, trD_bl, trD_int, kindD_non, kindD_bl, kindD_int, kindD_str, kindD_tup, kindD_lst, isK_NoneType_bool, isK_NoneType_int, isK_NoneType_str, isK_NoneType_tuple, isK_NoneType_list, isK_NoneType_dict, isK_bool_bool, isK_bool_int, isK_bool_str, isK_bool_tuple, isK_bool_list, isK_bool_dict, isK_int_bool, isK_int_int, isK_int_str, isK_int_tuple, isK_int_list, isK_int_dict, isK_str_bool, isK_str_int, isK_str_str, isK_str_tuple, isK_str_list, isK_str_dict, isK_tuple_bool, isK_tuple_int, isK_tuple_str, isK_tuple_tuple, isK_tuple_list, isK_tuple_dict, isK_list_bool, isK_list_int, isK_list_str, isK_list_tuple, isK_list_list, isK_list_dict, isK_dict_bool, isK_dict_int, isK_dict_str, isK_dict_tuple, isK_dict_list, isK_dict_dict, ixN_10, ixN_0, at1_0, at2_0, at2_1, at3_0, at3_1, at3_2, at4_0, at4_1, at4_2, at4_3, at5_0, at5_1, at5_2, at5_3, at5_4, at6_0, at6_1, at6_2, at6_3, at6_4, at6_5, at7_0, at7_1, at7_2, at7_3, at7_4, at7_5, at7_6, at8_0, at8_1, at8_2, at8_3, at8_4, at8_5, at8_6, at8_7, sk_step, sq_step_step, sq_step_call, sq_step_in, sq_step_over, sq_step_begin, sq_step_start, sq_step_short, sq_step_along, sq_step_within, sq_step_at, sq_step_out, sk_call, sq_call_step, sq_call_call, sq_call_in, sq_call_over, sq_call_begin, sq_call_start, sq_call_short, sq_call_along, sq_call_within, sq_call_at, sq_call_out, sk_in, sq_in_step, sq_in_call, sq_in_in, sq_in_over, sq_in_begin, sq_in_start, sq_in_short, sq_in_along, sq_in_within, sq_in_at, sq_in_out, sk_over, sq_over_step, sq_over_call, sq_over_in, sq_over_over, sq_over_begin, sq_over_start, sq_over_short, sq_over_along, sq_over_within, sq_over_at, sq_over_out, sk_begin, sq_begin_step, sq_begin_call, sq_begin_in, sq_begin_over, sq_begin_begin, sq_begin_start, sq_begin_short, sq_begin_along, sq_begin_within, sq_begin_at, sq_begin_out, sk_start, sq_start_step, sq_start_call, sq_start_in, sq_start_over, sq_start_begin, sq_start_start, sq_start_short, sq_start_along, sq_start_within, sq_start_at, sq_start_out, sk_short, sq_short_step, sq_short_call, sq_short_in, sq_short_over, sq_short_begin, sq_short_start, sq_short_short, sq_short_along, sq_short_within, sq_short_at, sq_short_out, sk_along, sq_along_step, sq_along_call, sq_along_in, sq_along_over, sq_along_begin, sq_along_start, sq_along_short, sq_along_along, sq_along_within, sq_along_at, sq_along_out, sk_within, sq_within_step, sq_within_call, sq_within_in, sq_within_over, sq_within_begin, sq_within_start, sq_within_short, sq_within_along, sq_within_within, sq_within_at, sq_within_out, sk_at, sq_at_step, sq_at_call, sq_at_in, sq_at_over, sq_at_begin, sq_at_start, sq_at_short, sq_at_along, sq_at_within, sq_at_at, sq_at_out, sk_out, sq_out_step, sq_out_call, sq_out_in, sq_out_over, sq_out_begin, sq_out_start, sq_out_short, sq_out_along, sq_out_within, sq_out_at, sq_out_out, Bool.and_self, Bool.and_true, ↓dSetF, ↓dAugF, ↓dMeth, ↓dMake, ↓pFld, setF, ↓pLtT, ↓pCatS, ↓pStr, ↓dPopAt, ↓reduceIte]
            refine ⟨q_has fi rfl, i, j', _, _, rfl, fi, fj, ?_⟩
            simp only [len_ls (lsOf_ref fl), List.length_map, d0, VV]
            exact hN2 _ _ ⟨_, _, _, _, rfl, k3⟩
        · rintro δ h2 ⟨x3, x4, x6, x7, rfl, hk⟩
          exact hN1 _ _ ⟨_, _, _, _, _, rfl, hk⟩
      · rintro δ h' ⟨x3, x4, x5, x6, x7, rfl, hk⟩
        subst hN
        simp only [VV]
  have k0 : HOK 60 (h6 [] [] [] [] [] []) := ⟨[], [], [], [], [], [], rfl, QInv.nil, QInv.nil, Nat.zero_le _, Nat.zero_le _⟩
  simp only [List.length_map, VV]
  refine ⟨by decide, ?_⟩
  by_cases od : ((ns.length : Int) % 2 == 1) = true
  · have h0 : 0 < ns.length := by
      have := beq_iff_eq.mp od
      omega
    have ix : atI (ns.map D.int) (0 : Int) = some (.int ns[0]) := by
      have : ((0 : Nat) : Int) = (0 : Int) := rfl
      rw [← this, atN, List.getElem?_map, List.getElem?_eq_getElem h0]; rfl
    simp only [od, ix, VV]
    refine ⟨0, 1, 4, _, rfl, rfl, rfl, rfl, by decide, fun T a b q l => ?_⟩
    exact next _ ⟨T, a, b, [], [], [], rfl, q, QInv.nil, l, Nat.zero_le _⟩
  · simp only [od, VV]
    exact next _ k0
theorem ok_law {f : Addr} {fd : FuncData} (F : Fun K "law" "law" s_law f fd) (T : Txt P w K mg) (C__law_filled : Cal P w K mg base 4 "_law_filled" ["_law_queue", "_law_stored", "_law_cell"] (spD K 3 S__law_filled)) (C__law_cost : Cal P w K mg base 1 "_law_cost" ["_law_cell"] (spD K 1 S__law_cost)) (C__law_thing : Cal P w K mg base 1 "_law_thing" ["_law_cell", "_law_k"] (spD K 2 S__law_thing)) (C_Queue__put : CalM P w K mg base 3 "Queue" "put" ["self", "cost", "thing"] (spD K 3 S_Queue__put)) (C__law_taken_right : Cal P w K mg base 5 "_law_taken_right" ["_law_queue", "_law_stored"] (spD K 2 S__law_taken_right)) (C_Queue__many : CalM P w K mg base 1 "Queue" "many" ["self"] (spD K 1 S_Queue__many)) (C__law_whole : Cal P w K mg base 1 "_law_whole" ["_law_found"] (spD K 1 S__law_whole)) (M_Queue : MakeX P w K mg base 1 "Queue" ["self"] (spD K 1 S_Queue____init__)) : FnOk P w K mg base CX0 6 f fd ["_law_script"] (spD K 1 S_law) :=
  fn_ok (k := 5) (b := b_law) F sc_law (fun cdv A outer s H E hr => (ss_cons (s_set (i := 1) sc_law.nd rfl (Or.inl rfl) (se_v (sn_lst (sa_cons (se_make0 M_Queue (hr.mono (by decide)) rfl) (sa_cons (se_make0 M_Queue (hr.mono (by decide)) rfl) sa_nil)))))
    (ss_cons (s_set (i := 2) sc_law.nd rfl (Or.inl rfl) (se_v (sn_lst (sa_cons (se_t (sn_lst sa_nil)) (sa_cons (se_t (sn_lst sa_nil)) sa_nil)))))
    (ss_cons (s_if (st_cmp (ok_eq hr.units) (se_op ok_mod (se_callB ok_len rfl T.b_len PySem.boot_len (sa_cons (sv 0) sa_nil)) se_int) se_int (nomark _)) (ss_one (s_expr (se_cal C__law_filled (hr.mono (by decide)) rfl (sa_cons (se_ix ok_ix (sv 1) se_int (fun _ _ => rfl)) (sa_cons (se_ix ok_ix (sv 2) se_int (fun _ _ => rfl)) (sa_cons (se_ix ok_ix (sv 0) se_int (fun _ _ => rfl)) sa_nil)))))) ss_nil)
    (ss_cons (s_for PassesOwn.never rfl (si_enum rfl T.b_enumerate (sa_cons (se_sl (sv 0) so_none (so_some se_int)) sa_nil)) (sg_tup rfl (sgs_cons (sg_name (i := 3) sc_law.nd rfl (Or.inl rfl)) (sgs_cons (sg_name (i := 4) sc_law.nd rfl (Or.inl rfl)) sgs_nil))) (ss_cons (s_set (i := 5) sc_law.nd rfl (Or.inl rfl) (se_op ok_mod (sv 4) se_int))
    (ss_cons (s_set (i := 4) sc_law.nd rfl (Or.inl rfl) (se_op ok_div (sv 4) se_int))
    (ss_cons (s_if (st_cmp ok_ltI (se_op ok_mod (sv 4) se_int) se_int (nomark _)) (ss_cons (s_set (i := 6) sc_law.nd rfl (Or.inl rfl) (se_cal C__law_cost (hr.mono (by decide)) rfl (sa_cons (se_op ok_div (sv 4) se_int) sa_nil)))
    (ss_cons (s_set (i := 7) sc_law.nd rfl (Or.inl rfl) (se_cal C__law_thing (hr.mono (by decide)) rfl (sa_cons (se_op ok_div (sv 4) se_int) (sa_cons (sv 3) sa_nil))))
    (ss_cons (s_expr (se_meth C_Queue__put (hr.mono (by decide)) (se_ix ok_ix (sv 1) (sv 5) (fun _ _ => rfl)) (sa_cons (sv 6) (sa_cons (sv 7) sa_nil))))
    (ss_one (s_expr (se_append (se_ix ok_ix (sv 2) (sv 5) (fun _ _ => rfl)) (sa_cons (se_tup (sa_cons (sv 6) (sa_cons (sv 7) sa_nil))) sa_nil))))))) (ss_one (s_if (st_not (st_truth (se_cal C__law_taken_right (hr.mono (by decide)) rfl (sa_cons (se_ix ok_ix (sv 1) (sv 5) (fun _ _ => rfl)) (sa_cons (se_ix ok_ix (sv 2) (sv 5) (fun _ _ => rfl)) sa_nil))))) (ss_one (s_ret se_bl)) ss_nil)))
    (ss_one (s_if (st_w (sw_or (st_not (st_truth (se_cal C__law_whole (hr.mono (by decide)) rfl (sa_cons (se_meth0 C_Queue__many (hr.mono (by decide)) (se_ix ok_ix (sv 1) (sv 5) (fun _ _ => rfl))) sa_nil)))) (sw_or1 (st_cmp (ok_ne hr.units) (se_meth0 C_Queue__many (hr.mono (by decide)) (se_ix ok_ix (sv 1) (sv 5) (fun _ _ => rfl))) (se_callB ok_len rfl T.b_len PySem.boot_len (sa_cons (se_ix ok_ix (sv 2) (sv 5) (fun _ _ => rfl)) sa_nil)) (nomark _))))) (ss_one (s_ret se_bl)) ss_nil))))))
    (ss_cons (s_for PassesOwn.never rfl (si_seq (se_v (sn_lst (sa_cons se_int (sa_cons se_int sa_nil))))) (sg_name (i := 5) sc_law.nd rfl (Or.inl rfl)) (ss_one (s_for PassesOwn.never rfl (si_range1 rfl T.b_range (sa_cons (se_op ok_plus (se_callB ok_len rfl T.b_len PySem.boot_len (sa_cons (se_ix ok_ix (sv 2) (sv 5) (fun _ _ => rfl)) sa_nil)) se_int) sa_nil)) (sg_name (i := 3) sc_law.nd rfl (Or.inl rfl)) (ss_one (s_if (st_w (sw_or (st_not (st_truth (se_cal C__law_taken_right (hr.mono (by decide)) rfl (sa_cons (se_ix ok_ix (sv 1) (sv 5) (fun _ _ => rfl)) (sa_cons (se_ix ok_ix (sv 2) (sv 5) (fun _ _ => rfl)) sa_nil))))) (sw_or1 (st_cmp (ok_ne hr.units) (se_meth0 C_Queue__many (hr.mono (by decide)) (se_ix ok_ix (sv 1) (sv 5) (fun _ _ => rfl))) (se_callB ok_len rfl T.b_len PySem.boot_len (sa_cons (se_ix ok_ix (sv 2) (sv 5) (fun _ _ => rfl)) sa_nil)) (nomark _))))) (ss_one (s_ret se_bl)) ss_nil)))))
    (ss_one (s_ret se_bl)))))))) imp_law
end
theorem len_s {α : Type} {n : Nat} {us : List α} (h : us.length = n + 1) : ∃ a t, us = a :: t ∧ t.length = n := by
  cases us with
  | nil => cases h
  | cons a t => exact ⟨a, t, rfl, Nat.succ.inj h⟩
theorem len_z {α : Type} {us : List α} (h : us.length = 0) : us = [] := List.length_eq_zero_iff.mp h
theorem ln1 {F : FuncData} {ps : List Str} {us : List Value} (h : us.length = 1) (k : ∀ a, bindArgs F ⟨[a], []⟩ = pure (ps.zip [a])) : bindArgs F ⟨us, []⟩ = pure (ps.zip us) := by
  obtain ⟨a, us1, rfl, h1⟩ := len_s h
  cases len_z h1
  exact k a
theorem ln2 {F : FuncData} {ps : List Str} {us : List Value} (h : us.length = 2) (k : ∀ a b, bindArgs F ⟨[a, b], []⟩ = pure (ps.zip [a, b])) : bindArgs F ⟨us, []⟩ = pure (ps.zip us) := by
  obtain ⟨a, us1, rfl, h1⟩ := len_s h
  obtain ⟨b, us2, rfl, h2⟩ := len_s h1
  cases len_z h2
  exact k a b
theorem ln3 {F : FuncData} {ps : List Str} {us : List Value} (h : us.length = 3) (k : ∀ a b c, bindArgs F ⟨[a, b, c], []⟩ = pure (ps.zip [a, b, c])) : bindArgs F ⟨us, []⟩ = pure (ps.zip us) := by
  obtain ⟨a, us1, rfl, h1⟩ := len_s h
  obtain ⟨b, us2, rfl, h2⟩ := len_s h1
  obtain ⟨c, us3, rfl, h3⟩ := len_s h2
  cases len_z h3
  exact k a b c
theorem all_mk {l : PySem.W.OpenLaw} {w : World} {K : PySem.W.Frag} {h : Heap} {mg : Str → Option Value} {fa a_is_ahead a_rise a_sink a_lesser_below a__law_whole a__law_cost a__law_thing a__law_first a__law_taken_right a__law_filled a_law a_Queue____init__ a_Queue__put a_Queue__take a_Queue__many : Addr} (X : K.In h) (G : h.Ns mainGlobals mg) (hfa : mg "law" = some (.ref fa))
    {od_is_ahead an_is_ahead : Option Addr} {sl_is_ahead : Array (Option Value)} {oc_is_ahead kV_is_ahead dc_is_ahead pm_is_ahead cd_is_ahead ct_is_ahead : Value}
    {od_rise an_rise : Option Addr} {sl_rise : Array (Option Value)} {oc_rise kV_rise dc_rise pm_rise cd_rise ct_rise : Value}
    {od_sink an_sink : Option Addr} {sl_sink : Array (Option Value)} {oc_sink kV_sink dc_sink pm_sink cd_sink ct_sink : Value}
    {od_lesser_below an_lesser_below : Option Addr} {sl_lesser_below : Array (Option Value)} {oc_lesser_below kV_lesser_below dc_lesser_below pm_lesser_below cd_lesser_below ct_lesser_below : Value}
    {od__law_whole an__law_whole : Option Addr} {sl__law_whole : Array (Option Value)} {oc__law_whole kV__law_whole dc__law_whole pm__law_whole cd__law_whole ct__law_whole : Value}
    {od__law_cost an__law_cost : Option Addr} {sl__law_cost : Array (Option Value)} {oc__law_cost kV__law_cost dc__law_cost pm__law_cost cd__law_cost ct__law_cost : Value}
    {od__law_thing an__law_thing : Option Addr} {sl__law_thing : Array (Option Value)} {oc__law_thing kV__law_thing dc__law_thing pm__law_thing cd__law_thing ct__law_thing : Value}
    {od__law_first an__law_first : Option Addr} {sl__law_first : Array (Option Value)} {oc__law_first kV__law_first dc__law_first pm__law_first cd__law_first ct__law_first : Value}
    {od__law_taken_right an__law_taken_right : Option Addr} {sl__law_taken_right : Array (Option Value)} {oc__law_taken_right kV__law_taken_right dc__law_taken_right pm__law_taken_right cd__law_taken_right ct__law_taken_right : Value}
    {od__law_filled an__law_filled : Option Addr} {sl__law_filled : Array (Option Value)} {oc__law_filled kV__law_filled dc__law_filled pm__law_filled cd__law_filled ct__law_filled : Value}
    {od_law an_law : Option Addr} {sl_law : Array (Option Value)} {oc_law kV_law dc_law pm_law cd_law ct_law : Value}
    {od_Queue____init__ an_Queue____init__ : Option Addr} {sl_Queue____init__ : Array (Option Value)} {oc_Queue____init__ kV_Queue____init__ dc_Queue____init__ pm_Queue____init__ cd_Queue____init__ ct_Queue____init__ : Value}
    {od_Queue__put an_Queue__put : Option Addr} {sl_Queue__put : Array (Option Value)} {oc_Queue__put kV_Queue__put dc_Queue__put pm_Queue__put cd_Queue__put ct_Queue__put : Value}
    {od_Queue__take an_Queue__take : Option Addr} {sl_Queue__take : Array (Option Value)} {oc_Queue__take kV_Queue__take dc_Queue__take pm_Queue__take cd_Queue__take ct_Queue__take : Value}
    {od_Queue__many an_Queue__many : Option Addr} {sl_Queue__many : Array (Option Value)} {oc_Queue__many kV_Queue__many dc_Queue__many pm_Queue__many cd_Queue__many ct_Queue__many : Value}
    {C_Queue : Addr} (e_Queue : PySem.W.nsIn K mainGlobals "Queue" = some (some (.ref C_Queue))) (pg_Queue : PySem.W.plainGet K C_Queue Str.empty = true) (hd_Queue : PySem.W.hasDictIn K C_Queue = true) (po_Queue : PySem.W.plainOver K C_Queue = true) (sa_Queue : PySem.W.findIn K (.ref C_Queue) "__setattr__" = some (some (.builtin "object.__setattr__"))) (mk_Queue : PySem.W.makesIn K C_Queue = true) (kp_Queue : PySem.W.keepIn K (.ref C_Queue) = true)
    (n_heap : PySem.W.findIn K (.ref C_Queue) "heap" = some none)
    (n_puts : PySem.W.findIn K (.ref C_Queue) "puts" = some none)
    (e_is_ahead : PySem.W.nsIn K mainGlobals "is_ahead" = some (some (.ref a_is_ahead))) (l_is_ahead : K.lookup a_is_ahead = some ⟨oc_is_ahead, od_is_ahead, .func (PySem.W.fnOf "is_ahead" "is_ahead" (defArgs s_is_ahead) (defBody s_is_ahead) (defScope s_is_ahead) .none kV_is_ahead dc_is_ahead pm_is_ahead an_is_ahead cd_is_ahead ct_is_ahead), sl_is_ahead⟩) (c_is_ahead : PySem.W.codeIn K cd_is_ahead "is_ahead" = true) (k_is_ahead : PySem.W.keepIn K (.ref a_is_ahead) = true)
    (e_rise : PySem.W.nsIn K mainGlobals "rise" = some (some (.ref a_rise))) (l_rise : K.lookup a_rise = some ⟨oc_rise, od_rise, .func (PySem.W.fnOf "rise" "rise" (defArgs s_rise) (defBody s_rise) (defScope s_rise) .none kV_rise dc_rise pm_rise an_rise cd_rise ct_rise), sl_rise⟩) (c_rise : PySem.W.codeIn K cd_rise "rise" = true) (k_rise : PySem.W.keepIn K (.ref a_rise) = true)
    (e_sink : PySem.W.nsIn K mainGlobals "sink" = some (some (.ref a_sink))) (l_sink : K.lookup a_sink = some ⟨oc_sink, od_sink, .func (PySem.W.fnOf "sink" "sink" (defArgs s_sink) (defBody s_sink) (defScope s_sink) .none kV_sink dc_sink pm_sink an_sink cd_sink ct_sink), sl_sink⟩) (c_sink : PySem.W.codeIn K cd_sink "sink" = true) (k_sink : PySem.W.keepIn K (.ref a_sink) = true)
    (e_lesser_below : PySem.W.nsIn K mainGlobals "lesser_below" = some (some (.ref a_lesser_below))) (l_lesser_below : K.lookup a_lesser_below = some ⟨oc_lesser_below, od_lesser_below, .func (PySem.W.fnOf "lesser_below" "lesser_below" (defArgs s_lesser_below) (defBody s_lesser_below) (defScope s_lesser_below) .none kV_lesser_below dc_lesser_below pm_lesser_below an_lesser_below cd_lesser_below ct_lesser_below), sl_lesser_below⟩) (c_lesser_below : PySem.W.codeIn K cd_lesser_below "lesser_below" = true) (k_lesser_below : PySem.W.keepIn K (.ref a_lesser_below) = true)
    (e__law_whole : PySem.W.nsIn K mainGlobals "_law_whole" = some (some (.ref a__law_whole))) (l__law_whole : K.lookup a__law_whole = some ⟨oc__law_whole, od__law_whole, .func (PySem.W.fnOf "_law_whole" "_law_whole" (defArgs s__law_whole) (defBody s__law_whole) (defScope s__law_whole) .none kV__law_whole dc__law_whole pm__law_whole an__law_whole cd__law_whole ct__law_whole), sl__law_whole⟩) (c__law_whole : PySem.W.codeIn K cd__law_whole "_law_whole" = true) (k__law_whole : PySem.W.keepIn K (.ref a__law_whole) = true)
    (e__law_cost : PySem.W.nsIn K mainGlobals "_law_cost" = some (some (.ref a__law_cost))) (l__law_cost : K.lookup a__law_cost = some ⟨oc__law_cost, od__law_cost, .func (PySem.W.fnOf "_law_cost" "_law_cost" (defArgs s__law_cost) (defBody s__law_cost) (defScope s__law_cost) .none kV__law_cost dc__law_cost pm__law_cost an__law_cost cd__law_cost ct__law_cost), sl__law_cost⟩) (c__law_cost : PySem.W.codeIn K cd__law_cost "_law_cost" = true) (k__law_cost : PySem.W.keepIn K (.ref a__law_cost) = true)
    (e__law_thing : PySem.W.nsIn K mainGlobals "_law_thing" = some (some (.ref a__law_thing))) (l__law_thing : K.lookup a__law_thing = some ⟨oc__law_thing, od__law_thing, .func (PySem.W.fnOf "_law_thing" "_law_thing" (defArgs s__law_thing) (defBody s__law_thing) (defScope s__law_thing) .none kV__law_thing dc__law_thing pm__law_thing an__law_thing cd__law_thing ct__law_thing), sl__law_thing⟩) (c__law_thing : PySem.W.codeIn K cd__law_thing "_law_thing" = true) (k__law_thing : PySem.W.keepIn K (.ref a__law_thing) = true)
    (e__law_first : PySem.W.nsIn K mainGlobals "_law_first" = some (some (.ref a__law_first))) (l__law_first : K.lookup a__law_first = some ⟨oc__law_first, od__law_first, .func (PySem.W.fnOf "_law_first" "_law_first" (defArgs s__law_first) (defBody s__law_first) (defScope s__law_first) .none kV__law_first dc__law_first pm__law_first an__law_first cd__law_first ct__law_first), sl__law_first⟩) (c__law_first : PySem.W.codeIn K cd__law_first "_law_first" = true) (k__law_first : PySem.W.keepIn K (.ref a__law_first) = true)
    (e__law_taken_right : PySem.W.nsIn K mainGlobals "_law_taken_right" = some (some (.ref a__law_taken_right))) (l__law_taken_right : K.lookup a__law_taken_right = some ⟨oc__law_taken_right, od__law_taken_right, .func (PySem.W.fnOf "_law_taken_right" "_law_taken_right" (defArgs s__law_taken_right) (defBody s__law_taken_right) (defScope s__law_taken_right) .none kV__law_taken_right dc__law_taken_right pm__law_taken_right an__law_taken_right cd__law_taken_right ct__law_taken_right), sl__law_taken_right⟩) (c__law_taken_right : PySem.W.codeIn K cd__law_taken_right "_law_taken_right" = true) (k__law_taken_right : PySem.W.keepIn K (.ref a__law_taken_right) = true)
    (e__law_filled : PySem.W.nsIn K mainGlobals "_law_filled" = some (some (.ref a__law_filled))) (l__law_filled : K.lookup a__law_filled = some ⟨oc__law_filled, od__law_filled, .func (PySem.W.fnOf "_law_filled" "_law_filled" (defArgs s__law_filled) (defBody s__law_filled) (defScope s__law_filled) .none kV__law_filled dc__law_filled pm__law_filled an__law_filled cd__law_filled ct__law_filled), sl__law_filled⟩) (c__law_filled : PySem.W.codeIn K cd__law_filled "_law_filled" = true) (k__law_filled : PySem.W.keepIn K (.ref a__law_filled) = true)
    (e_law : PySem.W.nsIn K mainGlobals "law" = some (some (.ref a_law))) (l_law : K.lookup a_law = some ⟨oc_law, od_law, .func (PySem.W.fnOf "law" "law" (defArgs s_law) (defBody s_law) (defScope s_law) .none kV_law dc_law pm_law an_law cd_law ct_law), sl_law⟩) (c_law : PySem.W.codeIn K cd_law "law" = true) (k_law : PySem.W.keepIn K (.ref a_law) = true)
    (e_Queue____init__ : PySem.W.findIn K (.ref C_Queue) "__init__" = some (some (.ref a_Queue____init__))) (l_Queue____init__ : K.lookup a_Queue____init__ = some ⟨oc_Queue____init__, od_Queue____init__, .func (PySem.W.fnOf "__init__" "Queue.__init__" (defArgs s_Queue____init__) (defBody s_Queue____init__) (defScope s_Queue____init__) .none kV_Queue____init__ dc_Queue____init__ pm_Queue____init__ an_Queue____init__ cd_Queue____init__ ct_Queue____init__), sl_Queue____init__⟩) (c_Queue____init__ : PySem.W.codeIn K cd_Queue____init__ "Queue.__init__" = true) (k_Queue____init__ : PySem.W.keepIn K (.ref a_Queue____init__) = true) (fn_Queue____init__ : PySem.W.isFn K (.ref a_Queue____init__) = true)
    (e_Queue__put : PySem.W.findIn K (.ref C_Queue) "put" = some (some (.ref a_Queue__put))) (l_Queue__put : K.lookup a_Queue__put = some ⟨oc_Queue__put, od_Queue__put, .func (PySem.W.fnOf "put" "Queue.put" (defArgs s_Queue__put) (defBody s_Queue__put) (defScope s_Queue__put) .none kV_Queue__put dc_Queue__put pm_Queue__put an_Queue__put cd_Queue__put ct_Queue__put), sl_Queue__put⟩) (c_Queue__put : PySem.W.codeIn K cd_Queue__put "Queue.put" = true) (k_Queue__put : PySem.W.keepIn K (.ref a_Queue__put) = true) (fn_Queue__put : PySem.W.isFn K (.ref a_Queue__put) = true)
    (e_Queue__take : PySem.W.findIn K (.ref C_Queue) "take" = some (some (.ref a_Queue__take))) (l_Queue__take : K.lookup a_Queue__take = some ⟨oc_Queue__take, od_Queue__take, .func (PySem.W.fnOf "take" "Queue.take" (defArgs s_Queue__take) (defBody s_Queue__take) (defScope s_Queue__take) .none kV_Queue__take dc_Queue__take pm_Queue__take an_Queue__take cd_Queue__take ct_Queue__take), sl_Queue__take⟩) (c_Queue__take : PySem.W.codeIn K cd_Queue__take "Queue.take" = true) (k_Queue__take : PySem.W.keepIn K (.ref a_Queue__take) = true) (fn_Queue__take : PySem.W.isFn K (.ref a_Queue__take) = true)
    (e_Queue__many : PySem.W.findIn K (.ref C_Queue) "many" = some (some (.ref a_Queue__many))) (l_Queue__many : K.lookup a_Queue__many = some ⟨oc_Queue__many, od_Queue__many, .func (PySem.W.fnOf "many" "Queue.many" (defArgs s_Queue__many) (defBody s_Queue__many) (defScope s_Queue__many) .none kV_Queue__many dc_Queue__many pm_Queue__many an_Queue__many cd_Queue__many ct_Queue__many), sl_Queue__many⟩) (c_Queue__many : PySem.W.codeIn K cd_Queue__many "Queue.many" = true) (k_Queue__many : PySem.W.keepIn K (.ref a_Queue__many) = true) (fn_Queue__many : PySem.W.isFn K (.ref a_Queue__many) = true)
    (z_bool : PySem.W.nsIn K mainGlobals "bool" = some none)
    (z_enumerate : PySem.W.nsIn K mainGlobals "enumerate" = some none)
    (z_int : PySem.W.nsIn K mainGlobals "int" = some none)
    (z_isinstance : PySem.W.nsIn K mainGlobals "isinstance" = some none)
    (z_len : PySem.W.nsIn K mainGlobals "len" = some none)
    (z_range : PySem.W.nsIn K mainGlobals "range" = some none)
    (z_str : PySem.W.nsIn K mainGlobals "str" = some none)
    (z_tuple : PySem.W.nsIn K mainGlobals "tuple" = some none)
    : ∃ fd : FuncData, (∀ (s : Shared) (v : Value), BindsTo s fd ⟨[v], []⟩ [("_law_script", v)]) ∧ ∀ base : Heap, K.In base → base.Ns mainGlobals mg → FnOk l.prog w K mg base CX0 6 fa fd ["_law_script"] (spD K 1 S_law) := by
  have e := hfa.symm.trans (PySem.W.mg_of X G e_law)
  cases e
  have CL_Queue : Cls K C_Queue := ⟨pg_Queue, hd_Queue, po_Queue, sa_Queue⟩
  have T : Txt l.prog w K mg := ⟨PySem.W.mg_none_of X G z_bool, PySem.W.mg_none_of X G z_enumerate, PySem.W.mg_none_of X G z_int, PySem.W.mg_none_of X G z_isinstance, PySem.W.mg_none_of X G z_len, PySem.W.mg_none_of X G z_range, PySem.W.mg_none_of X G z_str, PySem.W.mg_none_of X G z_tuple, ⟨_, e_Queue, CL_Queue, n_heap⟩, ⟨_, e_Queue, CL_Queue, n_puts⟩⟩
  have F_is_ahead := fun_mk (st := s_is_ahead) l_is_ahead c_is_ahead k_is_ahead
  have F_rise := fun_mk (st := s_rise) l_rise c_rise k_rise
  have F_sink := fun_mk (st := s_sink) l_sink c_sink k_sink
  have F_lesser_below := fun_mk (st := s_lesser_below) l_lesser_below c_lesser_below k_lesser_below
  have F__law_whole := fun_mk (st := s__law_whole) l__law_whole c__law_whole k__law_whole
  have F__law_cost := fun_mk (st := s__law_cost) l__law_cost c__law_cost k__law_cost
  have F__law_thing := fun_mk (st := s__law_thing) l__law_thing c__law_thing k__law_thing
  have F__law_first := fun_mk (st := s__law_first) l__law_first c__law_first k__law_first
  have F__law_taken_right := fun_mk (st := s__law_taken_right) l__law_taken_right c__law_taken_right k__law_taken_right
  have F__law_filled := fun_mk (st := s__law_filled) l__law_filled c__law_filled k__law_filled
  have F_law := fun_mk (st := s_law) l_law c_law k_law
  have F_Queue____init__ := fun_mk (st := s_Queue____init__) l_Queue____init__ c_Queue____init__ k_Queue____init__
  have F_Queue__put := fun_mk (st := s_Queue__put) l_Queue__put c_Queue__put k_Queue__put
  have F_Queue__take := fun_mk (st := s_Queue__take) l_Queue__take c_Queue__take k_Queue__take
  have F_Queue__many := fun_mk (st := s_Queue__many) l_Queue__many c_Queue__many k_Queue__many
  have b_is_ahead := F_is_ahead.binds (ps := ["one", "other"]) fun _ _ _ _ _ _ us hl => ln2 hl fun _ _ => rfl
  have b_rise := F_rise.binds (ps := ["heap"]) fun _ _ _ _ _ _ us hl => ln1 hl fun _ => rfl
  have b_sink := F_sink.binds (ps := ["heap"]) fun _ _ _ _ _ _ us hl => ln1 hl fun _ => rfl
  have b_lesser_below := F_lesser_below.binds (ps := ["heap", "k"]) fun _ _ _ _ _ _ us hl => ln2 hl fun _ _ => rfl
  have b__law_whole := F__law_whole.binds (ps := ["_law_found"]) fun _ _ _ _ _ _ us hl => ln1 hl fun _ => rfl
  have b__law_cost := F__law_cost.binds (ps := ["_law_cell"]) fun _ _ _ _ _ _ us hl => ln1 hl fun _ => rfl
  have b__law_thing := F__law_thing.binds (ps := ["_law_cell", "_law_k"]) fun _ _ _ _ _ _ us hl => ln2 hl fun _ _ => rfl
  have b__law_first := F__law_first.binds (ps := ["_law_stored"]) fun _ _ _ _ _ _ us hl => ln1 hl fun _ => rfl
  have b__law_taken_right := F__law_taken_right.binds (ps := ["_law_queue", "_law_stored"]) fun _ _ _ _ _ _ us hl => ln2 hl fun _ _ => rfl
  have b__law_filled := F__law_filled.binds (ps := ["_law_queue", "_law_stored", "_law_cell"]) fun _ _ _ _ _ _ us hl => ln3 hl fun _ _ _ => rfl
  have b_Queue____init__ := F_Queue____init__.binds (ps := ["self"]) fun _ _ _ _ _ _ us hl => ln1 hl fun _ => rfl
  have b_Queue__put := F_Queue__put.binds (ps := ["self", "cost", "thing"]) fun _ _ _ _ _ _ us hl => ln3 hl fun _ _ _ => rfl
  have b_Queue__take := F_Queue__take.binds (ps := ["self"]) fun _ _ _ _ _ _ us hl => ln1 hl fun _ => rfl
  have b_Queue__many := F_Queue__many.binds (ps := ["self"]) fun _ _ _ _ _ _ us hl => ln1 hl fun _ => rfl
  refine ⟨PySem.W.fnOf "law" "law" (defArgs s_law) (defBody s_law) (defScope s_law) .none kV_law dc_law pm_law an_law cd_law ct_law, fun s v => .of_eq rfl, fun base _ _ => ?_⟩
  have C_is_ahead : Cal l.prog w K mg base 1 "is_ahead" ["one", "other"] (spD K 2 S_is_ahead) := ⟨a_is_ahead, _, ok_is_ahead F_is_ahead T , PySem.W.mg_of X G e_is_ahead, k_is_ahead, b_is_ahead⟩
  have C__law_whole : Cal l.prog w K mg base 1 "_law_whole" ["_law_found"] (spD K 1 S__law_whole) := ⟨a__law_whole, _, ok__law_whole F__law_whole T , PySem.W.mg_of X G e__law_whole, k__law_whole, b__law_whole⟩
  have C__law_cost : Cal l.prog w K mg base 1 "_law_cost" ["_law_cell"] (spD K 1 S__law_cost) := ⟨a__law_cost, _, ok__law_cost F__law_cost T , PySem.W.mg_of X G e__law_cost, k__law_cost, b__law_cost⟩
  have C__law_thing : Cal l.prog w K mg base 1 "_law_thing" ["_law_cell", "_law_k"] (spD K 2 S__law_thing) := ⟨a__law_thing, _, ok__law_thing F__law_thing T , PySem.W.mg_of X G e__law_thing, k__law_thing, b__law_thing⟩
  have C__law_first : Cal l.prog w K mg base 1 "_law_first" ["_law_stored"] (spD K 1 S__law_first) := ⟨a__law_first, _, ok__law_first F__law_first T , PySem.W.mg_of X G e__law_first, k__law_first, b__law_first⟩
  have M_Queue : MakeX l.prog w K mg base 1 "Queue" ["self"] (spD K 1 S_Queue____init__) := ⟨C_Queue, a_Queue____init__, _, PySem.W.mg_of X G e_Queue, e_Queue, ⟨mk_Queue, e_Queue____init__, fn_Queue____init__, kp_Queue⟩, ok_Queue____init__ F_Queue____init__ T , b_Queue____init__⟩
  have C_Queue__many : CalM l.prog w K mg base 1 "Queue" "many" ["self"] (spD K 1 S_Queue__many) := ⟨C_Queue, a_Queue__many, _, e_Queue, CL_Queue, ⟨e_Queue__many, fn_Queue__many, k_Queue__many⟩, ok_Queue__many F_Queue__many T , b_Queue__many⟩
  have C_rise : Cal l.prog w K mg base 2 "rise" ["heap"] (spD K 1 S_rise) := ⟨a_rise, _, ok_rise F_rise T C_is_ahead, PySem.W.mg_of X G e_rise, k_rise, b_rise⟩
  have C_lesser_below : Cal l.prog w K mg base 2 "lesser_below" ["heap", "k"] (spD K 2 S_lesser_below) := ⟨a_lesser_below, _, ok_lesser_below F_lesser_below T C_is_ahead, PySem.W.mg_of X G e_lesser_below, k_lesser_below, b_lesser_below⟩
  have C_sink : Cal l.prog w K mg base 3 "sink" ["heap"] (spD K 1 S_sink) := ⟨a_sink, _, ok_sink F_sink T C_lesser_below C_is_ahead, PySem.W.mg_of X G e_sink, k_sink, b_sink⟩
  have C_Queue__put : CalM l.prog w K mg base 3 "Queue" "put" ["self", "cost", "thing"] (spD K 3 S_Queue__put) := ⟨C_Queue, a_Queue__put, _, e_Queue, CL_Queue, ⟨e_Queue__put, fn_Queue__put, k_Queue__put⟩, ok_Queue__put F_Queue__put T C_rise, b_Queue__put⟩
  have C__law_filled : Cal l.prog w K mg base 4 "_law_filled" ["_law_queue", "_law_stored", "_law_cell"] (spD K 3 S__law_filled) := ⟨a__law_filled, _, ok__law_filled F__law_filled T C_Queue__put, PySem.W.mg_of X G e__law_filled, k__law_filled, b__law_filled⟩
  have C_Queue__take : CalM l.prog w K mg base 4 "Queue" "take" ["self"] (spD K 1 S_Queue__take) := ⟨C_Queue, a_Queue__take, _, e_Queue, CL_Queue, ⟨e_Queue__take, fn_Queue__take, k_Queue__take⟩, ok_Queue__take F_Queue__take T C_sink, b_Queue__take⟩
  have C__law_taken_right : Cal l.prog w K mg base 5 "_law_taken_right" ["_law_queue", "_law_stored"] (spD K 2 S__law_taken_right) := ⟨a__law_taken_right, _, ok__law_taken_right F__law_taken_right T C_Queue__take C__law_first C__law_whole, PySem.W.mg_of X G e__law_taken_right, k__law_taken_right, b__law_taken_right⟩
  exact ok_law F_law T C__law_filled C__law_cost C__law_thing C_Queue__put C__law_taken_right C_Queue__many C__law_whole M_Queue
end K41
open PySem PySem.W PyProof.Rows
set_option maxRecDepth 100000 in
set_option maxHeartbeats 0 in
theorem PySem.Challenge.cw_callmatch_k41_a_queue_holds : PySem.Challenge.rw_callmatch_k41_a_queue.Holds := by
  w_on; o_law; k_head; (case hw => w_witness2)
  k_fill
  refine DL.walkD (l := PySem.Challenge.rw_callmatch_k41_a_queue) (n := 63) (k := 6) (S := K41.S_law) (x := "_law_script") rfl (by decide) rfl ⟨rfl, by decide, by decide⟩ (fun w h Y => PySem.W.kIn_of Y) ?F K41.law_true
  case F =>
    intro w mg fa h KX G hmg
    refine' K41.all_mk KX G hmg ?e_Queue ?pg_Queue ?hd_Queue ?po_Queue ?sa_Queue ?mk_Queue ?kp_Queue ?n_heap ?n_puts ?e_is_ahead ?l_is_ahead ?c_is_ahead ?k_is_ahead ?e_rise ?l_rise ?c_rise ?k_rise ?e_sink ?l_sink ?c_sink ?k_sink ?e_lesser_below ?l_lesser_below ?c_lesser_below ?k_lesser_below ?e__law_whole ?l__law_whole ?c__law_whole ?k__law_whole ?e__law_cost ?l__law_cost ?c__law_cost ?k__law_cost ?e__law_thing ?l__law_thing ?c__law_thing ?k__law_thing ?e__law_first ?l__law_first ?c__law_first ?k__law_first ?e__law_taken_right ?l__law_taken_right ?c__law_taken_right ?k__law_taken_right ?e__law_filled ?l__law_filled ?c__law_filled ?k__law_filled ?e_law ?l_law ?c_law ?k_law ?e_Queue____init__ ?l_Queue____init__ ?c_Queue____init__ ?k_Queue____init__ ?fn_Queue____init__ ?e_Queue__put ?l_Queue__put ?c_Queue__put ?k_Queue__put ?fn_Queue__put ?e_Queue__take ?l_Queue__take ?c_Queue__take ?k_Queue__take ?fn_Queue__take ?e_Queue__many ?l_Queue__many ?c_Queue__many ?k_Queue__many ?fn_Queue__many ?z_bool ?z_enumerate ?z_int ?z_isinstance ?z_len ?z_range ?z_str ?z_tuple
    (case e_Queue => k_is)
    (case pg_Queue => k_is)
    (case hd_Queue => k_is)
    (case po_Queue => k_is)
    (case sa_Queue => k_is)
    (case mk_Queue => k_is)
    (case kp_Queue => k_is)
    (case n_heap => k_is)
    (case n_puts => k_is)
    (case e_is_ahead => k_is)
    (case l_is_ahead => k_is)
    (case c_is_ahead => k_is)
    (case k_is_ahead => k_is)
    (case e_rise => k_is)
    (case l_rise => k_is)
    (case c_rise => k_is)
    (case k_rise => k_is)
    (case e_sink => k_is)
    (case l_sink => k_is)
    (case c_sink => k_is)
    (case k_sink => k_is)
    (case e_lesser_below => k_is)
    (case l_lesser_below => k_is)
    (case c_lesser_below => k_is)
    (case k_lesser_below => k_is)
    (case e__law_whole => k_is)
    (case l__law_whole => k_is)
    (case c__law_whole => k_is)
    (case k__law_whole => k_is)
    (case e__law_cost => k_is)
    (case l__law_cost => k_is)
    (case c__law_cost => k_is)
    (case k__law_cost => k_is)
    (case e__law_thing => k_is)
    (case l__law_thing => k_is)
    (case c__law_thing => k_is)
    (case k__law_thing => k_is)
    (case e__law_first => k_is)
    (case l__law_first => k_is)
    (case c__law_first => k_is)
    (case k__law_first => k_is)
    (case e__law_taken_right => k_is)
    (case l__law_taken_right => k_is)
    (case c__law_taken_right => k_is)
    (case k__law_taken_right => k_is)
    (case e__law_filled => k_is)
    (case l__law_filled => k_is)
    (case c__law_filled => k_is)
    (case k__law_filled => k_is)
    (case e_law => k_is)
    (case l_law => k_is)
    (case c_law => k_is)
    (case k_law => k_is)
    (case e_Queue____init__ => k_is)
    (case l_Queue____init__ => k_is)
    (case c_Queue____init__ => k_is)
    (case k_Queue____init__ => k_is)
    (case fn_Queue____init__ => k_is)
    (case e_Queue__put => k_is)
    (case l_Queue__put => k_is)
    (case c_Queue__put => k_is)
    (case k_Queue__put => k_is)
    (case fn_Queue__put => k_is)
    (case e_Queue__take => k_is)
    (case l_Queue__take => k_is)
    (case c_Queue__take => k_is)
    (case k_Queue__take => k_is)
    (case fn_Queue__take => k_is)
    (case e_Queue__many => k_is)
    (case l_Queue__many => k_is)
    (case c_Queue__many => k_is)
    (case k_Queue__many => k_is)
    (case fn_Queue__many => k_is)
    (case z_bool => k_is)
    (case z_enumerate => k_is)
    (case z_int => k_is)
    (case z_isinstance => k_is)
    (case z_len => k_is)
    (case z_range => k_is)
    (case z_str => k_is)
    (case z_tuple => k_is)
#print axioms PySem.Challenge.cw_callmatch_k41_a_queue_holds
