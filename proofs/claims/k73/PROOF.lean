import PyProof.Rows.All
import Wide.All
import OpenK.AllK
import Wide.FinOn
import Lean
import PyProof.EqAt
import PyProof.EqKinds
import PyProof.TupleCall
import PyProof.EqLayable
import PyProof.P3In
import PyProof.Draws
import PyProof.EnumMake
import PyProof.CompFree
import PyProof.CompUse
import KE.KRevIter
import PyProof.DictIter
import PyProof.ZipIter
import PyProof.ListMulRoad
import PyProof.ConsumeWalk
import PyProof.ListRange
import PySem.Challenge.RW_callmatch_k73_whole_dyes_add_up
set_option Elab.async false
set_option linter.all false
set_option maxRecDepth 100000
set_option genSizeOfSpec false
set_option compiler.extract_closed false
set_option maxHeartbeats 4000000
local macro_rules | `(tactic| trivial) => `(tactic| first | exact .inl rfl | exact .inr (.inl rfl) | exact .inr (.inr rfl) | exact .inr rfl | assumption)
namespace L2
open PySem PySem.Spec PyProof.Rows
noncomputable abbrev Key := Sum Int Str
noncomputable def keyIs : Key → Value → Bool
  | .inl k, v => Value.isInt k v
  | .inr x, v => Value.isStrOf x v
noncomputable def keyH (w : World) : Key → Int
  | .inl k => hashInt k
  | .inr x => hashStr w x
theorem keyIs_shape : ∀ {k : Key} {v : Value}, keyIs k v = true → (∃ i t, k = Sum.inl i ∧ v = Value.int i t) ∨ (∃ x t, k = Sum.inr x ∧ v = Value.str x t)
  | .inl i, v, h => by
    obtain ⟨t, e⟩ := Value.isInt_shape (k := i) (v := v) h
    exact .inl ⟨i, t, rfl, e⟩
  | .inr x, v, h => by
    obtain ⟨t, e⟩ := Value.isStrOf_shape (x := x) (v := v) h
    exact .inr ⟨x, t, rfl, e⟩
theorem key_ll (a b : Int) : decide ((Sum.inl a : Key) = Sum.inl b) = (a == b) := by
  by_cases e : a = b
  · subst e; simp
  · have h : ¬ (Sum.inl a : Key) = Sum.inl b := fun q => e (Sum.inl.inj q)
    rw [decide_eq_false h]
    exact (beq_eq_false_iff_ne.mpr e).symm
theorem key_rr (a b : Str) : decide ((Sum.inr a : Key) = Sum.inr b) = decide (a = b) := by
  by_cases e : a = b
  · subst e; simp
  · have h : ¬ (Sum.inr a : Key) = Sum.inr b := fun q => e (Sum.inr.inj q)
    rw [decide_eq_false h, decide_eq_false e]
theorem key_lr (a : Int) (b : Str) : decide ((Sum.inl a : Key) = Sum.inr b) = false := decide_eq_false (fun q => nomatch q)
theorem key_rl (a : Str) (b : Int) : decide ((Sum.inr a : Key) = Sum.inl b) = false := decide_eq_false (fun q => nomatch q)
noncomputable def mixKind (prog : Program) (w : World) : PySem.KeyKind prog w Key where
  is := keyIs
  hash := keyH w
  inj := fun v a b ha hb => by
    rcases keyIs_shape ha with ⟨i, t, rfl, rfl⟩ | ⟨x, t, rfl, rfl⟩
    · rcases keyIs_shape hb with ⟨j, u, rfl, e⟩ | ⟨y, u, rfl, e⟩
      · injection e with e1 _; rw [e1]
      · exact nomatch e
    · rcases keyIs_shape hb with ⟨j, u, rfl, e⟩ | ⟨y, u, rfl, e⟩
      · exact nomatch e
      · injection e with e1 _; rw [e1]
  byValue := fun k v h => by
    rcases keyIs_shape h with ⟨i, t, rfl, rfl⟩ | ⟨x, t, rfl, rfl⟩ <;> rfl
  pyHash := fun hv h => by
    rcases keyIs_shape hv with ⟨i, t, rfl, rfl⟩ | ⟨x, t, rfl, rfl⟩
    · exact wpAny_pyHash_int h
    · exact wpAny_pyHash_str h
  eqBool := fun hu hv h => by
    rcases keyIs_shape hu with ⟨i, t, rfl, rfl⟩ | ⟨x, t, rfl, rfl⟩
    · rcases keyIs_shape hv with ⟨j, u, rfl, rfl⟩ | ⟨y, u, rfl, rfl⟩
      · rw [key_ll] at h; exact wpAny_eqBool_int h
      · rw [key_lr] at h; exact SeqAt.EqAt.int_str i t y u _ _ _ _ h
    · rcases keyIs_shape hv with ⟨j, u, rfl, rfl⟩ | ⟨y, u, rfl, rfl⟩
      · rw [key_rl] at h; exact SeqAt.EqAt.str_int x t j u _ _ _ _ h
      · rw [key_rr] at h; exact wpAny_eqBool_str h
  «strs» := fun k x t v h => by
    rcases keyIs_shape h with ⟨i, u, rfl, e⟩ | ⟨y, u, rfl, e⟩
    · exact nomatch e
    · injection e with e1 _
      subst e1
      cases v <;> rfl
end L2
namespace L2
open PySem PySem.Spec PyProof.Rows
inductive V where
  | non | bl (b : Bool) | int (i : Int) | str (x : Str) | byt (b : Array UInt8) | flt (b : UInt64) | ref (a : Addr) | ty (n : String)
  deriving DecidableEq
noncomputable def RelV : V → Value → Prop
  | .non, u => u = Value.none
  | .bl b, u => u = Value.bool b
  | .int i, u => ∃ t, u = Value.int i t
  | .str x, u => ∃ t, u = Value.str x t
  | .byt b, u => ∃ t, u = Value.bytes b t
  | .flt b, u => ∃ t, u = Value.float b t
  | .ref a, u => u = Value.ref a
  | .ty n, u => u = Value.type n
noncomputable abbrev Vals : List V → List Value → Prop := Paired RelV
theorem Vals.length {xs : List V} {us : List Value} (r : Vals xs us) : xs.length = us.length := Paired.length r
theorem Vals.get : ∀ {xs : List V} {us : List Value} {i : Nat} {x : V}, Vals xs us → xs[i]? = some x → ∃ u, us[i]? = some u ∧ RelV x u
  | _, _, _, _, .nil, e => by simp at e
  | _, _, 0, _, .cons r _, e => by simp at e; subst e; exact ⟨_, rfl, r⟩
  | _, _, i + 1, x, .cons _ t, e => by
    obtain ⟨u, h1, h2⟩ := Vals.get (i := i) (x := x) t (by simpa using e)
    exact ⟨u, by simpa using h1, h2⟩
theorem Vals.set {x : V} {u : Value} (r : RelV x u) : ∀ {xs : List V} {us : List Value} (i : Nat), Vals xs us → Vals (xs.set i x) (us.set i u)
  | _, _, _, .nil => .nil
  | _, _, 0, .cons _ t => .cons r t
  | _, _, i + 1, .cons q t => .cons q (Vals.set r i t)
theorem Vals.append : ∀ {xs ys : List V} {us ws : List Value}, Vals xs us → Vals ys ws → Vals (xs ++ ys) (us ++ ws)
  | _, _, _, _, .nil, s => s
  | _, _, _, _, .cons r t, s => .cons r (Vals.append t s)
theorem Vals.take : ∀ {xs : List V} {us : List Value} (n : Nat), Vals xs us → Vals (xs.take n) (us.take n)
  | _, _, 0, _ => .nil
  | _, _, _ + 1, .nil => .nil
  | _, _, n + 1, .cons r t => .cons r (Vals.take n t)
theorem Vals.drop : ∀ {xs : List V} {us : List Value} (n : Nat), Vals xs us → Vals (xs.drop n) (us.drop n)
  | _, _, 0, r => r
  | _, _, _ + 1, .nil => .nil
  | _, _, n + 1, .cons _ t => Vals.drop n t
noncomputable def RelO : Option V → Option Value → Prop
  | some v, some u => RelV v u
  | none, none => True
  | _, _ => False
noncomputable def KV {κ : Type} : List (κ × V) → List (κ × Value) → Prop := Paired fun (p : κ × V) (q : κ × Value) => p.1 = q.1 ∧ RelV p.2 q.2
noncomputable def kV : Key → V
  | .inl i => .int i
  | .inr x => .str x
inductive HO where
  | lst (xs : List V)
  | tup (xs : List V)
  | dK (kvs : List (Key × V)) | dT (kvs : List (List Key × V))
  | set (S : Int → Bool) (n : Nat)
  | ins (C dx : Addr) (fs : List (Str × V))
  | own (x : Addr)
  | xd (fs : List (Str × V))
  | met (f x : Addr)
  | rng (lo hi : Int)
  | frz (o : Obj) (u : HO)
  | tbl (ps : Array Value)
  | ext (φ : Heap → Prop)
noncomputable abbrev Hp := Addr → Option HO
noncomputable def upd (H : Hp) (a : Addr) (o : HO) : Hp := fun b => if b = a then some o else H b
theorem upd_same {H : Hp} {a : Addr} {o : HO} : upd H a o a = some o := by unfold upd; rw [if_pos rfl]
theorem upd_ne {H : Hp} {a b : Addr} {o : HO} (h : b ≠ a) : upd H a o b = H b := by unfold upd; rw [if_neg h]
theorem ne_of_none {H : Hp} {a b : Addr} {o : HO} (h : H a = some o) (h' : H b = none) : a ≠ b := by
  intro e; subst e; rw [h] at h'; cases h'
section
variable (P : Program) (w : World)
noncomputable def ObjOk (H : Hp) (h : Heap) (a : Addr) : HO → Prop
  | .lst xs => xs.length ≤ sizeLine ∧ ∃ (its : List Value) (n : Nat), Vals xs its ∧ h.get? a = some { cls := .type "list", data := .seq its.toArray n }
  | .tup xs => xs.length ≤ sizeLine ∧ ∃ its : List Value, Vals xs its ∧ IsTup h a its.toArray
  | .dK kvs => kvs.length ≤ sizeLine ∧ (a == sysModules) = false ∧ ∃ vs, KV kvs vs ∧ h.DictOf (mixKind P w) a vs
  | .dT kvs => kvs.length ≤ sizeLine ∧ (a == sysModules) = false ∧ ∃ xs : List (List Key × Addr × Value),
      Paired (fun (p : List Key × V) (q : List Key × Addr × Value) => p.1 = q.1 ∧ H q.2.1 = some (.tup (p.1.map kV)) ∧ RelV p.2 q.2.2) kvs xs ∧
      ∃ o es ep, h.get? a = some o ∧ o.ExactDict ∧ o.data = .dict es ep ∧ es.toList = xs.map (entryOfKey (tupleKind (mixKind P w))) ∧ (xs.map (·.1)).Nodup
  | .set S n => h.SetOf (intKind P w) a S n
  | .ins C dx fs => H dx = some (.own a) ∧ fs.length ≤ 1000 ∧ dx ≠ a ∧ h.get? a = some (PySem.W.instObj C dx) ∧
      ∃ mA, h.Ns1 dx mA ∧ (∀ f, RelO (fs.lookup f) (mA f)) ∧ PySem.Within mA (fs.map (·.1))
  | .own _ => ∃ o, h.get? a = some o
  | .xd fs => ∃ mA, h.Ns1 a mA ∧ ∀ f, RelO (fs.lookup f) (mA f)
  | .rng lo hi => ∃ t u v, h.get? a = some { cls := .type "range", data := .fields #[.int lo t, .int hi u, .int 1 v] }
  | .frz o u => h.get? a = some o ∧ ObjOk H h a u
  | .tbl ps => h.get? a = some { cls := .none, data := .fields ps }
  | .met f x => h.get? a = some (PySem.W.methodObj (.ref f) (.ref x))
  | .ext φ => φ h ∧ (∃ o, h.get? a = some o) ∧ ∀ h1 h2 : Heap, φ h1 → (∀ o, h1.get? a = some o → h2.get? a = some o) → φ h2
noncomputable def HOk (H : Hp) (h : Heap) : Prop := ∀ a o, H a = some o → ObjOk P w H h a o
end
section
variable {P : Program} {w : World} {H H' : Hp} {h h' : Heap} {a : Addr} {o : HO}
theorem ObjOk.lt (x : ObjOk P w H h a o) : a < h.objs.size := by
  cases o with
  | lst xs => obtain ⟨_, _, _, _, e⟩ := x; exact Heap.lt_size e
  | tup xs => obtain ⟨_, _, _, p⟩ := x; exact p.lt
  | dK kvs => obtain ⟨_, _, _, _, o, _, _, e, _⟩ := x; exact Heap.lt_size e
  | dT kvs => obtain ⟨_, _, _, _, o, _, _, e, _⟩ := x; exact Heap.lt_size e
  | set S n => obtain ⟨o, _, _, _, e, _⟩ := x; exact Heap.lt_size e
  | ins C dx fs => obtain ⟨_, _, _, e, _⟩ := x; exact Heap.lt_size e
  | own y => obtain ⟨_, e⟩ := x; exact Heap.lt_size e
  | xd fs => obtain ⟨_, ⟨_, _, _, e, _⟩, _⟩ := x; exact Heap.lt_size e
  | rng lo hi => obtain ⟨_, _, _, e⟩ := x; exact Heap.lt_size e
  | frz ob u => obtain ⟨e, _⟩ := x; exact Heap.lt_size e
  | tbl ps => exact Heap.lt_size (show h.get? a = some _ from x)
  | met f y => exact Heap.lt_size (show h.get? a = some _ from x)
  | ext φ => obtain ⟨_, ⟨_, e⟩, _⟩ := x; exact Heap.lt_size e
theorem Paired.mapP {α β : Type} {F G : α → β → Prop} : ∀ {l₁ : List α} {l₂ : List β}, Paired F l₁ l₂ → (∀ a b, F a b → G a b) → Paired G l₁ l₂
  | _, _, .nil, _ => .nil
  | _, _, .cons r t, f => .cons (f _ _ r) (Paired.mapP t f)
theorem ObjOk.stay (x : ObjOk P w H h a o) (k : ∀ b u, (b = a ∨ H b = some (.own a)) → h.get? b = some u → h'.get? b = some u)
    (ho : ∀ b, H b = some (.own a) → H' b = some (.own a)) (ht : ∀ b xs, H b = some (.tup xs) → H' b = some (.tup xs)) : ObjOk P w H' h' a o := by
  induction o with
  | lst xs => obtain ⟨z, its, n, r, e⟩ := x; exact ⟨z, its, n, r, k _ _ (.inl rfl) e⟩
  | tup xs => obtain ⟨z, its, r, ob, e, c⟩ := x; exact ⟨z, its, r, ob, k _ _ (.inl rfl) e, c⟩
  | dK kvs => obtain ⟨z, y, vs, r, ob, es, ep, e, c⟩ := x; exact ⟨z, y, vs, r, ob, es, ep, k _ _ (.inl rfl) e, c⟩
  | dT kvs =>
    obtain ⟨z, y, xs, r, ob, es, ep, e, c⟩ := x
    exact ⟨z, y, xs, Paired.mapP r fun p q z => ⟨z.1, ht _ _ z.2.1, z.2.2⟩, ob, es, ep, k _ _ (.inl rfl) e, c⟩
  | set S n => obtain ⟨ob, es, ep, t, e, c⟩ := x; exact ⟨ob, es, ep, t, k _ _ (.inl rfl) e, c⟩
  | ins C dx fs =>
    obtain ⟨d, z, ne, e, mA, ⟨od, es, ep, e2, c⟩, r⟩ := x
    exact ⟨ho _ d, z, ne, k _ _ (.inl rfl) e, mA, ⟨od, es, ep, k _ _ (.inr d) e2, c⟩, r⟩
  | own y => obtain ⟨ob, e⟩ := x; exact ⟨ob, k _ _ (.inl rfl) e⟩
  | xd fs => obtain ⟨mA, ⟨od, es, ep, e, c⟩, r⟩ := x; exact ⟨mA, ⟨od, es, ep, k _ _ (.inl rfl) e, c⟩, r⟩
  | rng lo hi => obtain ⟨t, u, v, e⟩ := x; exact ⟨t, u, v, k _ _ (.inl rfl) e⟩
  | frz ob u ih => obtain ⟨e, q⟩ := x; exact ⟨k _ _ (.inl rfl) e, ih q⟩
  | tbl ps =>
    have e : h.get? a = some { cls := .none, data := .fields ps } := x
    show h'.get? a = some { cls := .none, data := .fields ps }
    exact k a _ (.inl rfl) e
  | met f y =>
    have e : h.get? a = some (PySem.W.methodObj (.ref f) (.ref y)) := x
    show h'.get? a = some (PySem.W.methodObj (.ref f) (.ref y))
    exact k a _ (.inl rfl) e
  | ext φ => obtain ⟨p, ⟨o, e⟩, st⟩ := x; exact ⟨st _ _ p fun o q => k _ _ (.inl rfl) q, ⟨o, k _ _ (.inl rfl) e⟩, st⟩
theorem HOk.lt (x : HOk P w H h) (e : H a = some o) : a < h.objs.size := (x a o e).lt
theorem HOk.fresh (x : HOk P w H h) (e : h.objs.size ≤ a) : H a = none := by
  cases q : H a with
  | none => rfl
  | some u => exact absurd (Nat.lt_of_lt_of_le (x.lt q) e) (Nat.lt_irrefl _)
theorem HOk.kept (x : HOk P w H h) (k : ∀ b u, h.get? b = some u → h'.get? b = some u) : HOk P w H h' := fun a o e =>
  (x a o e).stay (fun b u _ q => k b u q) (fun _ q => q) fun _ _ q => q
theorem HOk.laid (x : HOk P w H h) (k : ∀ b u, h.get? b = some u → h'.get? b = some u) (hp : h.objs.size ≤ a) (new : ObjOk P w (upd H a o) h' a o) : HOk P w (upd H a o) h' := fun b u e => by
  have hn := x.fresh hp
  by_cases hb : b = a
  · subst hb; rw [upd_same] at e; cases e; exact new
  · rw [upd_ne hb] at e
    exact (x b u e).stay (fun c v _ q => k c v q) (fun c q => by rw [upd_ne (ne_of_none q hn)]; exact q) fun c xs q => by rw [upd_ne (ne_of_none q hn)]; exact q
end
noncomputable def Rd (H : Hp) (a : Addr) (u : HO) : Prop := H a = some u ∨ ∃ o, H a = some (.frz o u)
theorem Rd.ok {P : Program} {w : World} {H : Hp} {h : Heap} {a : Addr} {u : HO} (r : Rd H a u) (x : HOk P w H h) : ObjOk P w H h a u := by
  rcases r with r | ⟨o, r⟩
  · exact x a u r
  · obtain ⟨_, q⟩ := x a _ r
    exact q
noncomputable def Mut : Option HO → Prop
  | some (.lst _) => True
  | some (.dK _) => True
  | some (.dT _) => True
  | some (.set _ _) => True
  | some (.ins _ _ _) => True
  | some (.ext _) => True
  | _ => False
section
variable {P : Program} {w : World} {H : Hp} {h h' : Heap} {x e : Addr} {o' : HO}
theorem HOk.write (ok : HOk P w H h) (mu : Mut (H x)) (he : e = x ∨ H e = some (.own x)) (k : ∀ b u, b ≠ e → h.get? b = some u → h'.get? b = some u) (heo : ∃ u, h'.get? e = some u)
    (new : ObjOk P w (upd H x o') h' x o') : HOk P w (upd H x o') h' := fun b u q => by
  have nown : ∀ c y, H c = some (.own y) → c ≠ x := fun c y r z => by subst z; rw [r] at mu; exact mu
  have ntup : ∀ c xs, H c = some (.tup xs) → c ≠ x := fun c xs r z => by subst z; rw [r] at mu; exact mu
  by_cases hb : b = x
  · subst hb; rw [upd_same] at q; cases q; exact new
  · rw [upd_ne hb] at q
    by_cases hbe : b = e
    · have q' : H b = some (.own x) := by
        rcases he with z | z
        · exact absurd (hbe.trans z) hb
        · rw [hbe]; exact z
      rw [q] at q'; cases q'
      obtain ⟨v, hv⟩ := heo
      exact ⟨v, by rw [hbe]; exact hv⟩
    · refine (ok b u q).stay (fun c v hc r => k c v ?_ r) (fun c r => by rw [upd_ne (nown c b r)]; exact r) fun c xs r => by rw [upd_ne (ntup c xs r)]; exact r
      rcases hc with rfl | hc
      · exact hbe
      · rintro rfl
        rcases he with z | z
        · exact nown c b hc z
        · rw [hc] at z; cases z; exact hb rfl
end
structure Un (fs ex : List Addr) (H H' : Hp) (h h' : Heap) : Prop where
  keep : ∀ b o, h.get? b = some o → H b = none → b ∉ fs → b ∉ ex → h'.get? b = some o
  slot : ∀ b o, h.get? b = some o → H b = none → b ∈ fs → b ∉ ex → ∃ sl, h'.get? b = some { o with slots := sl }
  free : ∀ b o, h.get? b = some o → H b = none → b ∉ ex → H' b = none
  there : ∀ b o, h.get? b = some o → b ∉ ex → ∃ o', h'.get? b = some o'
  tups : ∀ b xs, H b = some (.tup xs) → H' b = some (.tup xs)
  frzs : ∀ b o u, H b = some (.frz o u) → H' b = some (.frz o u)
  tbls : ∀ b ps, H b = some (.tbl ps) → ∃ more, H' b = some (.tbl (ps ++ more))
section
variable {fs fs' ex ex' : List Addr} {H H1 H2 : Hp} {h h1 h2 h' : Heap} {a x e : Addr} {o : HO}
theorem Un.any (u : Un fs ex H H1 h h1) {b : Addr} {ob : Obj} (q : h.get? b = some ob) (n : H b = none) (hx : b ∉ ex) : ∃ sl, h1.get? b = some { ob with slots := sl } := by
  by_cases hb : b ∈ fs
  · exact u.slot b ob q n hb hx
  · exact ⟨ob.slots, u.keep b ob q n hb hx⟩
theorem Un.trans (a : Un fs ex H H1 h h1) (b : Un fs ex H1 H2 h1 h2) : Un fs ex H H2 h h2 where
  keep := fun c ob q n hc hx => b.keep c ob (a.keep c ob q n hc hx) (a.free c ob q n hx) hc hx
  slot := fun c ob q n hc hx => by
    obtain ⟨sl, e1⟩ := a.slot c ob q n hc hx
    obtain ⟨sl', e2⟩ := b.slot c _ e1 (a.free c ob q n hx) hc hx
    exact ⟨sl', e2⟩
  free := fun c ob q n hx => by
    obtain ⟨o', e1⟩ := a.there c ob q hx
    exact b.free c o' e1 (a.free c ob q n hx) hx
  there := fun c ob q hx => by
    obtain ⟨o', e1⟩ := a.there c ob q hx
    exact b.there c o' e1 hx
  tups := fun c xs q => b.tups c xs (a.tups c xs q)
  frzs := fun c ob xs q => b.frzs c ob xs (a.frzs c ob xs q)
  tbls := fun c ps q => by
    obtain ⟨m1, e1⟩ := a.tbls c ps q
    obtain ⟨m2, e2⟩ := b.tbls c _ e1
    exact ⟨m1 ++ m2, by rw [e2, Array.append_assoc]⟩
theorem Un.kept (k : ∀ b u, h.get? b = some u → h'.get? b = some u) : Un fs ex H H h h' :=
  ⟨fun b ob q _ _ _ => k b ob q, fun b ob q _ _ _ => ⟨ob.slots, k b ob q⟩, fun _ _ _ n _ => n, fun b ob q _ => ⟨ob, k b ob q⟩, fun _ _ q => q, fun _ _ _ q => q, fun _ ps q => ⟨#[], by rw [q]; simp⟩⟩
theorem Un.refl : Un fs ex H H h h := Un.kept fun _ _ q => q
theorem Un.laid (k : ∀ b u, h.get? b = some u → h'.get? b = some u) (hp : h.objs.size ≤ a) (hn : H a = none) : Un fs ex H (upd H a o) h h' where
  keep := fun b u q _ _ _ => k b u q
  slot := fun b u q _ _ _ => ⟨u.slots, k b u q⟩
  free := fun b u q n _ => by rw [upd_ne (Nat.ne_of_lt (Nat.lt_of_lt_of_le (Heap.lt_size q) hp))]; exact n
  there := fun b u q _ => ⟨u, k b u q⟩
  tups := fun b xs q => by rw [upd_ne (ne_of_none q hn)]; exact q
  frzs := fun b u xs q => by rw [upd_ne (ne_of_none q hn)]; exact q
  tbls := fun b ps q => ⟨#[], by rw [upd_ne (ne_of_none q hn), q]; simp⟩
theorem Un.write (mu : Mut (H x)) (he : e = x ∨ H e = some (.own x)) (k : ∀ b u, b ≠ e → h.get? b = some u → h'.get? b = some u) (heo : ∃ u, h'.get? e = some u) : Un fs ex H (upd H x o) h h' := by
  have hx : ∀ b, H b = none → b ≠ x := fun b n z => by subst z; rw [n] at mu; exact mu
  have hb : ∀ b, H b = none → b ≠ e := fun b n z => by
    subst z
    rcases he with r | r
    · exact hx b n r
    · rw [n] at r; cases r
  have hm : ∀ b u, H b = some u → ¬ Mut (some u) → b ≠ x := fun b u q nm z => by subst z; rw [q] at mu; exact nm mu
  refine ⟨fun b u q n _ _ => k b u (hb b n) q, fun b u q n _ _ => ⟨u.slots, k b u (hb b n) q⟩, fun b u q n _ => by rw [upd_ne (hx b n)]; exact n, fun b u q _ => ?_,
    fun b xs q => by rw [upd_ne (hm b _ q fun z => z)]; exact q, fun b u xs q => by rw [upd_ne (hm b _ q fun z => z)]; exact q, fun b ps q => ⟨#[], by rw [upd_ne (hm b _ q fun z => z), q]; simp⟩⟩
  by_cases hbe : b = e
  · subst hbe; exact heo
  · exact ⟨u, k b u hbe q⟩
theorem Un.mono (u : Un fs ex H H1 h h1) (hs : ∀ b ∈ fs, b ∈ fs') (hx : ∀ b ∈ ex, b ∈ ex') : Un fs' ex' H H1 h h1 :=
  ⟨fun b ob q n hb he => u.keep b ob q n (fun z => hb (hs b z)) fun z => he (hx b z), fun _ _ q n _ he => u.any q n fun z => he (hx _ z), fun b ob q n he => u.free b ob q n fun z => he (hx b z), fun b ob q he => u.there b ob q fun z => he (hx b z), u.tups, u.frzs, u.tbls⟩
end
noncomputable def trk (h : Heap) (H : Hp) : List Addr := (List.range h.objs.size).filter fun a => (H a).isSome
noncomputable def hidT (h : Heap) (H : Hp) : Heap := PySem.W.hideAll h (trk h H)
theorem hidT_size (h : Heap) (H : Hp) : (hidT h H).objs.size = h.objs.size := PySem.W.hideAll_size _ _
theorem hidT_get {h : Heap} {H : Hp} {b : Addr} {o : Obj} (e : h.get? b = some o) (n : H b = none) : (hidT h H).get? b = some o :=
  PySem.W.hideAll_get _ e fun hm => by
    have q : (H b).isSome = true := (List.mem_filter.mp hm).2
    rw [n] at q; simp at q
theorem of_hidT {h : Heap} {H : Hp} {b : Addr} {o : Obj} (e : (hidT h H).get? b = some o) : h.get? b = some o ∧ H b = none := by
  have e' : h.get? b = some o := PySem.W.of_hideAll (trk h H) e
  refine ⟨e', ?_⟩
  cases q : H b with
  | none => rfl
  | some x =>
    have hm : b ∈ trk h H := List.mem_filter.mpr ⟨List.mem_range.mpr (Heap.lt_size e'), by simp [q]⟩
    have z : (hidT h H).get? b = none := PySem.W.hideAll_none (trk h H) hm
    rw [z] at e; cases e
end L2
namespace L2
open PySem PySem.Spec PyProof.Rows
structure Mod (K : PySem.W.Frag) (mg : Str → Option Value) (base : Heap) : Prop where
  kin : K.In base
  glob : base.Ns mainGlobals mg
  blt : ∃ mb, base.Ns builtinsNs mb ∧ ∀ x : Str, x ≠ "__name__" → mb x = bootBuiltins x
  nolimit : base.NoLimit
structure Cx where
  prog : Program
  w : World
  K : PySem.W.Frag
  mg : Str → Option Value
  base : Heap
  A : Around
  N : List Str
  s₀ : Shared
  H₀ : Hp
  env : Env
  outer : List Env
  stack : List Env
  ex : List Addr
  fn : Str → Bool
  calm : Bool
  pn : List (Addr × Obj)
  xe : Value → Shared → Prop
  ex9 : Value → Option Addr → Hp → Prop := fun _ _ _ => False
noncomputable def frs (l : List Env) : List Addr := l.filterMap (·.frame)
noncomputable abbrev Cx.fs (X : Cx) : List Addr := frs X.outer
noncomputable def Vis (sc : Scope) (x : Str) : Prop := sc.names.lookup x = some .local ∨ sc.names.lookup x = some .cell ∨ sc.names.lookup x = some .free
noncomputable def Loc (sc : Scope) (x : Str) : Prop := sc.names.lookup x = some .local ∨ sc.names.lookup x = some .cell
noncomputable def Look (env : Env) (h : Heap) (m : Str → Option Value) (x : Str) (u : Value) : Prop :=
  (env.kindOf x = some .local ∧ m x = some u) ∨ ((env.kindOf x = some .cell ∨ env.kindOf x = some .free) ∧ ∃ c, env.cells.lookup x = some c ∧ h.IsCell c (some u))
structure Cx.Ok (X : Cx) : Prop where
  mod : Mod X.K X.mg X.base
  kind : X.env.scope.kind = .function
  glob : X.env.globals = mainGlobals
  blt : X.env.builtins = builtinsNs
  above : X.s₀.heap.objs.size ≤ X.env.locals
  inj : ∀ x y c, X.env.cells.lookup x = some c → X.env.cells.lookup y = some c → x = y
  has : ∀ x, (X.env.kindOf x = some .cell ∨ X.env.kindOf x = some .free) → ∃ c, X.env.cells.lookup x = some c
  cab : ∀ x c, X.fn x = true → X.env.cells.lookup x = some c → X.s₀.heap.objs.size ≤ c
  hd : X.calm = true → X.A.handled = none
  frames : X.A.frames = some X.stack
  stk : X.stack = X.outer ∨ (X.stack = X.env :: X.outer ∧ X.env.frame = some X.env.locals)
  exf : ∀ b ∈ X.ex, b ≠ X.env.locals ∧ ∀ x c, X.env.cells.lookup x = some c → c ≠ b
  bs : ∀ b o, X.base.get? b = some o → X.s₀.heap.get? b = some o ∧ X.H₀ b = none
  bsz : X.base.objs.size ≤ X.s₀.heap.objs.size
  noex : ∀ b o, X.base.get? b = some o → b ∉ X.ex
  exfs : ∀ b ∈ X.ex, b ∉ X.fs
  funs : X.s₀.heap.FunFrames X.base X.outer
  frf : ∀ b ∈ X.fs, X.H₀ b = none
structure Inv (X : Cx) (pins : List (Addr × Obj)) (σ : List (Option V)) (H : Hp) (s : Shared) : Prop where
  ok : X.Ok
  os : s.os = X.s₀.os
  bare : AllBare s.gens
  base : Un X.fs X.ex X.H₀ H X.s₀.heap s.heap
  loc : ∃ m, s.heap.Ns X.env.locals m ∧ ∀ (i : Nat) (x : Str) (v : V), X.N[i]? = some x → σ[i]? = some (some v) → Vis X.env.scope x → ∃ u, RelV v u ∧ Look X.env s.heap m x u
  cell : ∀ x c, X.env.cells.lookup x = some c → ∃ v, s.heap.IsCell c v
  free : H X.env.locals = none
  freeC : ∀ x c, X.env.cells.lookup x = some c → H c = none
  pin : ∀ p ∈ X.pn ++ pins, s.heap.get? p.1 = some p.2 ∧ H p.1 = none ∧ p.1 ≠ X.env.locals ∧ p.1 ∉ X.fs ∧ ∀ v, p.2.data ≠ .cell v
  hok : HOk X.prog X.w H s.heap
  len : σ.length = X.N.length
section
variable {X : Cx} {pins : List (Addr × Obj)} {σ : List (Option V)} {H H' : Hp} {s : Shared} {h' : Heap}
theorem Cx.Ok.nofr (ok : X.Ok) {b : Addr} {o : Obj} (e : X.base.get? b = some o) : b ∉ X.fs := fun hb => by
  have := (ok.funs.mem hb).1
  rw [e] at this; cases this
theorem Inv.bs (I : Inv X pins σ H s) : ∀ b o, X.base.get? b = some o → s.heap.get? b = some o ∧ H b = none := fun b o e =>
  ⟨I.base.keep b o (I.ok.bs b o e).1 (I.ok.bs b o e).2 (I.ok.nofr e) (I.ok.noex b o e), I.base.free b o (I.ok.bs b o e).1 (I.ok.bs b o e).2 (I.ok.noex b o e)⟩
theorem Inv.bk (I : Inv X pins σ H s) : ∀ b o, X.base.get? b = some o → s.heap.get? b = some o := fun b o e => (I.bs b o e).1
theorem Inv.mod (I : Inv X pins σ H s) : Mod X.K X.mg X.base := I.ok.mod
theorem Inv.kIn (I : Inv X pins σ H s) : X.K.In s.heap := I.ok.mod.kin.keeps I.bk
theorem Inv.lt (I : Inv X pins σ H s) : X.env.locals < s.heap.objs.size := let ⟨_, hn, _⟩ := I.loc; hn.lt
theorem Inv.sz (I : Inv X pins σ H s) : X.s₀.heap.objs.size ≤ s.heap.objs.size := Nat.le_trans I.ok.above (Nat.le_of_lt I.lt)
theorem Inv.nofs (I : Inv X pins σ H s) {a : Addr} (h : s.heap.objs.size ≤ a) : a ∉ X.fs := fun hb => by
  obtain ⟨_, o, ho, _⟩ := I.ok.funs.mem hb
  exact absurd (Nat.lt_of_lt_of_le (Heap.lt_size ho) (Nat.le_trans I.sz h)) (Nat.lt_irrefl _)
theorem Inv.cne (I : Inv X pins σ H s) : ∀ x c, X.env.cells.lookup x = some c → c ≠ X.env.locals := fun x c e z => by
  obtain ⟨v, o, ho, hd⟩ := I.cell x c e
  obtain ⟨m, ⟨o', es, ep, ho', hd', _⟩, _⟩ := I.loc
  rw [z, ho'] at ho; cases ho; rw [hd'] at hd; cases hd
theorem Inv.funs (I : Inv X pins σ H s) : s.heap.FunFrames X.base X.outer := by
  have all : ∀ (l : List Env), (∀ b ∈ frs l, b ∈ X.fs) → X.s₀.heap.FunFrames X.base l → s.heap.FunFrames X.base l := by
    intro l
    induction l with
    | nil => intro _ _; trivial
    | cons env r ih =>
      intro hs hl
      obtain ⟨hk, ⟨L, o, hf, hn, ho, hd⟩, hr⟩ := hl
      have hL : L ∈ X.fs := hs L (by unfold frs; rw [List.filterMap_cons, hf]; exact List.mem_cons_self)
      obtain ⟨sl, e⟩ := I.base.slot L o ho (I.ok.frf L hL) hL fun z => I.ok.exfs L z hL
      exact ⟨hk, ⟨L, _, hf, hn, e, hd⟩, ih (fun b hb => hs b (by unfold frs; rw [List.filterMap_cons, hf]; exact List.mem_cons_of_mem _ hb)) hr⟩
  exact all X.outer (fun _ hb => hb) I.ok.funs
theorem Inv.stack (I : Inv X pins σ H s) : s.heap.FunFrames X.base X.stack := by
  rcases I.ok.stk with e | ⟨e, hf⟩
  · rw [e]; exact I.funs
  · rw [e]
    obtain ⟨m, hn, _⟩ := I.loc
    refine .cons (by rw [I.ok.kind]; decide) hf hn ?_ I.funs
    exact Heap.get?_none_of_le (Nat.le_trans I.ok.bsz I.ok.above)
theorem Inv.stkSub (I : Inv X pins σ H s) : ∀ b ∈ frs X.stack, b ∈ X.env.locals :: X.fs := fun b hb => by
  rcases I.ok.stk with e | ⟨e, hf⟩
  · rw [e] at hb; exact List.mem_cons_of_mem _ hb
  · rw [e] at hb
    unfold frs at hb
    rw [List.filterMap_cons, hf] at hb
    exact hb
theorem Inv.stkFree (I : Inv X pins σ H s) : ∀ b ∈ frs X.stack, H b = none := fun b hb => by
  rcases List.mem_cons.mp (I.stkSub b hb) with e | hb
  · rw [e]; exact I.free
  · obtain ⟨_, o, ho, _⟩ := I.ok.funs.mem hb
    exact I.base.free b o ho (I.ok.frf b hb) fun z => I.ok.exfs b z hb
theorem Inv.step {g' : Array GenState} {t' : Nat} {d' : Drawn} {ch : List Addr} (I : Inv X pins σ H s)
    (hch : ∀ b ∈ ch, (b ∈ X.ex ∨ X.s₀.heap.objs.size ≤ b) ∧ b ≠ X.env.locals ∧ (∀ x c, X.env.cells.lookup x = some c → c ≠ b) ∧ ∀ p ∈ X.pn ++ pins, p.1 ≠ b)
    (keep : ∀ b o, b ≠ X.env.locals → b ∉ X.fs → b ∉ ch → s.heap.get? b = some o → H b = none → h'.get? b = some o)
    (slot : ∀ b o, b ≠ X.env.locals → b ∈ X.fs → b ∉ ch → s.heap.get? b = some o → H b = none → ∃ sl, h'.get? b = some { o with slots := sl }) (free : ∀ b o, b ∉ ch → s.heap.get? b = some o → H b = none → H' b = none)
    (there : ∀ b o, b ∉ ch → s.heap.get? b = some o → ∃ o', h'.get? b = some o')
    (tups : ∀ b xs, H b = some (.tup xs) → H' b = some (.tup xs)) (frzs : ∀ b o u, H b = some (.frz o u) → H' b = some (.frz o u)) (tbls : ∀ b ps, H b = some (.tbl ps) → ∃ more, H' b = some (.tbl (ps ++ more)))
    (ns : ∀ m, s.heap.Ns X.env.locals m → h'.Ns X.env.locals m) (hok : HOk X.prog X.w H' h') (hg : AllBare g') :
    Inv X pins σ H' { s with heap := h', gens := g', drawn := d', toks := t' } := by
  have neL : ∀ b o, X.s₀.heap.get? b = some o → b ≠ X.env.locals := fun b o e => Nat.ne_of_lt (Nat.lt_of_lt_of_le (Heap.lt_size e) I.ok.above)
  have neC : ∀ b o, X.s₀.heap.get? b = some o → b ∉ X.ex → b ∉ ch := fun b o e hx hb => by
    rcases (hch b hb).1 with z | z
    · exact hx z
    · exact absurd (Nat.lt_of_lt_of_le (Heap.lt_size e) z) (Nat.lt_irrefl _)
  have cellK : ∀ x c, X.env.cells.lookup x = some c → ∀ v, s.heap.IsCell c v → h'.IsCell c v := fun x c e v ⟨o, ho, hd⟩ => by
    have nch : c ∉ ch := fun z => (hch c z).2.2.1 x c e rfl
    by_cases hc : c ∈ X.fs
    · obtain ⟨sl, q⟩ := slot c o (I.cne x c e) hc nch ho (I.freeC x c e)
      exact ⟨_, q, hd⟩
    · exact ⟨o, keep c o (I.cne x c e) hc nch ho (I.freeC x c e), hd⟩
  refine ⟨I.ok, I.os, hg, ⟨fun b o e n hb hx => ?_, fun b o e n hb hx => ?_, fun b o e n hx => ?_, fun b o e hx => ?_, fun b xs e => tups b xs (I.base.tups b xs e), fun b o xs e => frzs b o xs (I.base.frzs b o xs e), fun b ps e => ?_⟩, ?_, fun x c e => ?_, ?_, fun x c e => ?_, fun p hp => ?_, hok, I.len⟩
  · exact keep b o (neL b o e) hb (neC b o e hx) (I.base.keep b o e n hb hx) (I.base.free b o e n hx)
  · obtain ⟨sl, e1⟩ := I.base.slot b o e n hb hx
    obtain ⟨sl', e2⟩ := slot b _ (neL b o e) hb (neC b o e hx) e1 (I.base.free b o e n hx)
    exact ⟨sl', e2⟩
  · obtain ⟨o', e1⟩ := I.base.there b o e hx
    exact free b o' (neC b o e hx) e1 (I.base.free b o e n hx)
  · obtain ⟨o', e1⟩ := I.base.there b o e hx
    exact there b o' (neC b o e hx) e1
  · obtain ⟨m1, e1⟩ := I.base.tbls b ps e
    obtain ⟨m2, e2⟩ := tbls b _ e1
    exact ⟨m1 ++ m2, by rw [e2, Array.append_assoc]⟩
  · obtain ⟨m, hn, hl⟩ := I.loc
    refine ⟨m, ns m hn, fun i x v e1 e2 e3 => ?_⟩
    obtain ⟨u, r, l⟩ := hl i x v e1 e2 e3
    refine ⟨u, r, ?_⟩
    rcases l with l | ⟨k, c, e, z⟩
    · exact .inl l
    · exact .inr ⟨k, c, e, cellK x c e _ z⟩
  · obtain ⟨v, z⟩ := I.cell x c e
    exact ⟨v, cellK x c e v z⟩
  · obtain ⟨m, ⟨o, _, _, ho, _⟩, _⟩ := I.loc
    exact free _ o (fun z => (hch _ z).2.1 rfl) ho I.free
  · obtain ⟨v, o, ho, hd⟩ := I.cell x c e
    exact free c o (fun z => (hch c z).2.2.1 x c e rfl) ho (I.freeC x c e)
  · obtain ⟨e, n, ne, nf, d⟩ := I.pin p hp
    have nch : p.1 ∉ ch := fun z => (hch p.1 z).2.2.2 p hp rfl
    exact ⟨keep p.1 p.2 ne nf nch e n, free p.1 p.2 nch e n, ne, nf, d⟩
theorem Inv.un {t' : Nat} (I : Inv X pins σ H s) (u : Un X.fs [] H H' s.heap h') (hok : HOk X.prog X.w H' h') : Inv X pins σ H' { s with heap := h', toks := t' } := by
  obtain ⟨m, ⟨o, es, ep, ho, r⟩, _⟩ := id I.loc
  obtain ⟨sl, hL⟩ := u.any ho I.free (by simp)
  exact I.step (g' := s.gens) (d' := s.drawn) (ch := []) (fun _ z => nomatch z) (fun b o _ hb _ e n => u.keep b o e n hb (by simp)) (fun b o _ hb _ e n => u.slot b o e n hb (by simp)) (fun b o _ e n => u.free b o e n (by simp)) (fun b o _ e => u.there b o e (by simp)) u.tups u.frzs u.tbls (fun m' hm => by
    obtain ⟨o', es', ep', ho', r'⟩ := hm
    rw [ho] at ho'; cases ho'
    exact ⟨_, es', ep', hL, r'⟩) hok I.bare
theorem Inv.call {g' : Array GenState} {t' : Nat} {d' : Drawn} {ch : List Addr} (I : Inv X pins σ H s) (u : Un (frs X.stack) ch H H' s.heap h') (hok : HOk X.prog X.w H' h') (hg : AllBare g')
    (hch : ∀ b ∈ ch, (b ∈ X.ex ∨ X.s₀.heap.objs.size ≤ b) ∧ b ≠ X.env.locals ∧ (∀ x c, X.env.cells.lookup x = some c → c ≠ b) ∧ ∀ p ∈ X.pn ++ pins, p.1 ≠ b) :
    Inv X pins σ H' { s with heap := h', gens := g', drawn := d', toks := t' } := by
  obtain ⟨m, ⟨o, es, ep, ho, r⟩, _⟩ := id I.loc
  obtain ⟨sl, hL⟩ := u.any ho I.free fun z => (hch _ z).2.1 rfl
  exact I.step (ch := ch) hch (fun b o hL hb hc e n => u.keep b o e n (fun z => (List.mem_cons.mp (I.stkSub b z)).elim hL hb) hc) (fun b o _ _ hc e n => u.any e n hc) (fun b o hc e n => u.free b o e n hc) (fun b o hc e => u.there b o e hc) u.tups u.frzs u.tbls (fun m' hm => by
    obtain ⟨o', es', ep', ho', r'⟩ := hm
    rw [ho] at ho'; cases ho'
    exact ⟨_, es', ep', hL, r'⟩) hok hg
theorem Inv.turned {t' : Nat} {it : Addr} (I : Inv X pins σ H s) (k : ∀ b o, b ≠ it → s.heap.get? b = some o → h'.get? b = some o) (hn : H it = none) (hL : it ≠ X.env.locals)
    (h1 : it ∈ X.ex ∨ X.s₀.heap.objs.size ≤ it) (h2 : ∀ x c, X.env.cells.lookup x = some c → c ≠ it) (h3 : ∀ p ∈ X.pn ++ pins, p.1 ≠ it) : Inv X pins σ H { s with heap := h', toks := t' } := by
  have nit : ∀ b u, H b = some u → b ≠ it := fun b u e z => by rw [z, hn] at e; cases e
  refine I.step (g' := s.gens) (d' := s.drawn) (ch := [it]) (fun b hb => ?_) (fun b o _ _ hc e _ => k b o (fun z => hc (by simp [z])) e) (fun b o _ _ hc e _ => ⟨o.slots, k b o (fun z => hc (by simp [z])) e⟩) (fun _ _ _ _ n => n)
    (fun b o hc e => ⟨o, k b o (fun z => hc (by simp [z])) e⟩) (fun _ _ e => e) (fun _ _ _ e => e) (fun b ps e => ⟨#[], by rw [e]; simp⟩) (fun m hm => ?_) (fun b u e => ?_) I.bare
  · have e : b = it := by simpa using hb
    subst e
    exact ⟨h1, hL, h2, h3⟩
  · obtain ⟨o, es, ep, ho, r⟩ := hm
    exact ⟨o, es, ep, k _ o (Ne.symm hL) ho, r⟩
  · refine (I.hok b u e).stay (fun c v hc q => k c v ?_ q) (fun _ q => q) fun _ _ q => q
    rcases hc with z | z
    · rw [z]; exact nit b u e
    · exact nit c _ z
theorem Inv.tok (I : Inv X pins σ H s) (t : Nat) : Inv X pins σ H { s with toks := t } := I.un (h' := s.heap) (t' := t) Un.refl I.hok
theorem Inv.kept {t' : Nat} (I : Inv X pins σ H s) (k : ∀ b u, s.heap.get? b = some u → h'.get? b = some u) : Inv X pins σ H { s with heap := h', toks := t' } := I.un (Un.kept k) (I.hok.kept k)
theorem Inv.laid {a : Addr} {o : HO} {t' : Nat} (I : Inv X pins σ H s) (k : ∀ b u, s.heap.get? b = some u → h'.get? b = some u) (hp : s.heap.objs.size ≤ a) (new : ObjOk X.prog X.w (upd H a o) h' a o) :
    Inv X pins σ (upd H a o) { s with heap := h', toks := t' } := I.un (Un.laid k hp (I.hok.fresh hp)) (I.hok.laid k hp new)
theorem Inv.write {x e : Addr} {o : HO} {t' : Nat} (I : Inv X pins σ H s) (mu : Mut (H x)) (he : e = x ∨ H e = some (.own x)) (k : ∀ b u, b ≠ e → s.heap.get? b = some u → h'.get? b = some u) (heo : ∃ u, h'.get? e = some u)
    (new : ObjOk X.prog X.w (upd H x o) h' x o) : Inv X pins σ (upd H x o) { s with heap := h', toks := t' } := I.un (Un.write mu he k heo) (I.hok.write mu he k heo new)
theorem Inv.pins_of {pins' : List (Addr × Obj)} (I : Inv X pins σ H s) (h : ∀ p ∈ pins', s.heap.get? p.1 = some p.2 ∧ H p.1 = none ∧ p.1 ≠ X.env.locals ∧ p.1 ∉ X.fs ∧ ∀ v, p.2.data ≠ .cell v) : Inv X pins' σ H s :=
  ⟨I.ok, I.os, I.bare, I.base, I.loc, I.cell, I.free, I.freeC, fun p hp => (List.mem_append.mp hp).elim (fun z => I.pin p (List.mem_append_left _ z)) (h p), I.hok, I.len⟩
theorem nodup_ix {N : List Str} (hN : N.Nodup) {i j : Nat} {x : Str} (a : N[i]? = some x) (b : N[j]? = some x) : i = j := by
  obtain ⟨h1, e1⟩ := List.getElem?_eq_some_iff.mp a
  obtain ⟨h2, e2⟩ := List.getElem?_eq_some_iff.mp b
  exact (List.getElem_inj hN).mp (e1.trans e2.symm)
theorem store_ok2 {M : Model} {A : Around} {E : Value → Shared → Prop} {i : Nat} {x : Str} {v : V} {u : Value} {Q : Unit → Shared → Prop} (I : Inv X pins σ H s) (hN : X.N.Nodup) (hi : X.N[i]? = some x) (hx : Loc X.env.scope x) (r : RelV v u)
    (h : ∀ s', Inv X pins (σ.set i (some v)) H s' → (∃ a, Heap.SameBut a s.heap s'.heap ∧ (a = X.env.locals ∨ X.env.cells.lookup x = some a)) → Q () s') (hf : X.fn x = true ∨ X.env.scope.names.lookup x = some .local := by trivial) : wpAny M A (storeName X.env x u) Q E s := by
  obtain ⟨m, hn, hl⟩ := id I.loc
  have hcls : (X.env.scope.kind == .class || (X.env.scope.kind == .module && X.env.locals != X.env.globals)) = false := by rw [I.ok.kind]; rfl
  have hiσ : i < σ.length := by rw [I.len]; exact (List.getElem?_eq_some_iff.mp hi).1
  have cne := I.cne
  have tracked : ∀ {a : Addr} {h' : Heap}, (∃ o, s.heap.get? a = some o ∧ H a = none) → Heap.SameBut a s.heap h' → HOk X.prog X.w H h' := fun {a h'} ha hs b ob e => by
    obtain ⟨_, _, hfree⟩ := ha
    refine (I.hok b ob e).stay (fun c w' hc q => (hs.2 c ?_).trans q) (fun _ q => q) fun _ _ q => q
    rintro rfl
    rcases hc with rfl | hc
    · rw [hfree] at e; cases e
    · rw [hfree] at hc; cases hc
  rcases hx with hk | hk
  · refine wpAny_storeName_local hk hn (fun h' hn' hs => ?_) hcls
    obtain ⟨oL, _, _, hoL, _⟩ := id hn
    refine h _ ⟨I.ok, I.os, I.bare, ⟨fun b o e n hb hx => ?_, fun b o e n hb hx => ?_, I.base.free, fun b o e hx => ?_, I.base.tups, I.base.frzs, I.base.tbls⟩, ⟨_, hn', fun j y v' e1 e2 e3 => ?_⟩, fun y c e => ?_, I.free, I.freeC, fun p hp => ?_, tracked ⟨oL, hoL, I.free⟩ hs, by simpa using I.len⟩ ⟨_, hs, .inl rfl⟩
    · exact (hs.2 b (Nat.ne_of_lt (Nat.lt_of_lt_of_le (Heap.lt_size e) I.ok.above))).trans (I.base.keep b o e n hb hx)
    · obtain ⟨sl, e1⟩ := I.base.slot b o e n hb hx
      exact ⟨sl, (hs.2 b (Nat.ne_of_lt (Nat.lt_of_lt_of_le (Heap.lt_size e) I.ok.above))).trans e1⟩
    · obtain ⟨o', e1⟩ := I.base.there b o e hx
      exact ⟨o', (hs.2 b (Nat.ne_of_lt (Nat.lt_of_lt_of_le (Heap.lt_size e) I.ok.above))).trans e1⟩
    · by_cases hj : j = i
      · subst hj
        rw [hi] at e1; cases e1
        rw [List.getElem?_set_self hiσ] at e2
        cases e2
        exact ⟨u, r, .inl ⟨hk, by simp⟩⟩
      · rw [List.getElem?_set_ne (Ne.symm hj)] at e2
        obtain ⟨u', r', q⟩ := hl j y v' e1 e2 e3
        refine ⟨u', r', ?_⟩
        rcases q with ⟨k, e⟩ | ⟨k, c, e, z⟩
        · refine .inl ⟨k, ?_⟩
          have : y ≠ x := fun e => hj (nodup_ix hN e1 (e ▸ hi))
          simp [this, e]
        · exact .inr ⟨k, c, e, z.sameBut hs (cne y c e)⟩
    · obtain ⟨w', z⟩ := I.cell y c e
      exact ⟨w', z.sameBut hs (cne y c e)⟩
    · obtain ⟨e, n, ne, nf, d⟩ := I.pin p hp
      exact ⟨(hs.2 p.1 ne).trans e, n, ne, nf, d⟩
  · have hfn : X.fn x = true := by
      rcases hf with z | z
      · exact z
      · rw [z] at hk; cases hk
    obtain ⟨c, hc⟩ := I.ok.has x (.inl hk)
    obtain ⟨w', z⟩ := I.cell x c hc
    refine wpAny_storeName_cell I.ok.kind hk hc z (fun h' hc' hs => ?_)
    obtain ⟨oc, hoc, hocd⟩ := id z
    refine h { s with heap := h' } ⟨I.ok, I.os, I.bare, ⟨fun b o e n hb hx => ?_, fun b o e n hb hx => ?_, I.base.free, fun b o e hx => ?_, I.base.tups, I.base.frzs, I.base.tbls⟩, ⟨m, hn.sameBut hs (Ne.symm (cne x c hc)), fun j y v' e1 e2 e3 => ?_⟩, fun y c' e => ?_, I.free, I.freeC, fun p hp => ?_, tracked ⟨oc, hoc, I.freeC x c hc⟩ hs, by simpa using I.len⟩ ⟨c, hs, .inr hc⟩
    · exact (hs.2 b (Nat.ne_of_lt (Nat.lt_of_lt_of_le (Heap.lt_size e) (I.ok.cab x c hfn hc)))).trans (I.base.keep b o e n hb hx)
    · obtain ⟨sl, e1⟩ := I.base.slot b o e n hb hx
      exact ⟨sl, (hs.2 b (Nat.ne_of_lt (Nat.lt_of_lt_of_le (Heap.lt_size e) (I.ok.cab x c hfn hc)))).trans e1⟩
    · obtain ⟨o', e1⟩ := I.base.there b o e hx
      exact ⟨o', (hs.2 b (Nat.ne_of_lt (Nat.lt_of_lt_of_le (Heap.lt_size e) (I.ok.cab x c hfn hc)))).trans e1⟩
    · by_cases hj : j = i
      · subst hj
        rw [hi] at e1; cases e1
        rw [List.getElem?_set_self hiσ] at e2
        cases e2
        exact ⟨u, r, .inr ⟨.inl hk, c, hc, hc'⟩⟩
      · rw [List.getElem?_set_ne (Ne.symm hj)] at e2
        obtain ⟨u', r', q⟩ := hl j y v' e1 e2 e3
        refine ⟨u', r', ?_⟩
        rcases q with q | ⟨k, c', e, z'⟩
        · exact .inl q
        · refine .inr ⟨k, c', e, z'.sameBut hs ?_⟩
          rintro rfl
          exact hj (nodup_ix hN e1 (I.ok.inj _ _ _ e hc ▸ hi))
    · by_cases hcc : c' = c
      · subst hcc; exact ⟨_, hc'⟩
      · obtain ⟨w2, z2⟩ := I.cell y c' e
        exact ⟨w2, z2.sameBut hs hcc⟩
    · obtain ⟨e, n, ne, nf, d⟩ := I.pin p hp
      refine ⟨(hs.2 p.1 ?_).trans e, n, ne, nf, d⟩
      intro q
      rw [q, hoc] at e
      have q' : oc = p.2 := Option.some.inj e
      exact d w' (by rw [← q']; exact hocd)
theorem store_ok {M : Model} {A : Around} {E : Value → Shared → Prop} {i : Nat} {x : Str} {v : V} {u : Value} {Q : Unit → Shared → Prop} (I : Inv X pins σ H s) (hN : X.N.Nodup) (hi : X.N[i]? = some x) (hx : Loc X.env.scope x) (r : RelV v u)
    (h : ∀ s', Inv X pins (σ.set i (some v)) H s' → Q () s') (hf : X.fn x = true ∨ X.env.scope.names.lookup x = some .local := by trivial) : wpAny M A (storeName X.env x u) Q E s :=
  store_ok2 I hN hi hx r (fun s' I' _ => h s' I') hf
theorem Inv.call' {s' : Shared} {ch : List Addr} (I : Inv X pins σ H s) (ho : s'.os = s.os) (u : Un (frs X.stack) ch H H' s.heap s'.heap) (hok : HOk X.prog X.w H' s'.heap) (hg : AllBare s'.gens)
    (hch : ∀ b ∈ ch, (b ∈ X.ex ∨ X.s₀.heap.objs.size ≤ b) ∧ b ≠ X.env.locals ∧ (∀ x c, X.env.cells.lookup x = some c → c ≠ b) ∧ ∀ p ∈ X.pn ++ pins, p.1 ≠ b) : Inv X pins σ H' s' := by
  obtain ⟨h', g', d', t', o'⟩ := s'
  have e : o' = s.os := ho
  subst e
  exact I.call (g' := g') (t' := t') (d' := d') u hok hg hch
end
noncomputable abbrev XK := Value → Option Addr → Hp → Prop
noncomputable abbrev St := List (Option V)
noncomputable abbrev VK := V → Hp → Prop
noncomputable abbrev TE := St → Hp → VK → Prop
noncomputable abbrev TT := St → Hp → (Bool → Hp → Prop) → Prop
noncomputable abbrev TA := St → Hp → (List V → Hp → Prop) → Prop
structure Ends where
  nx : St → Hp → Prop
  rt : VK
  bk : St → Hp → Prop := fun _ _ => False
  ct : St → Hp → Prop := fun _ _ => False
noncomputable abbrev TS := Ends → St → Hp → Prop
noncomputable def EP (X : Cx) (pins : List (Addr × Obj)) (σ : St) (Q : VK) (u : Value) (s' : Shared) : Prop := ∃ v H', Inv X pins σ H' s' ∧ RelV v u ∧ Q v H'
noncomputable def TP (X : Cx) (pins : List (Addr × Obj)) (σ : St) (Q : Bool → Hp → Prop) (b : Bool) (s' : Shared) : Prop := ∃ H', Inv X pins σ H' s' ∧ Q b H'
noncomputable def AP (X : Cx) (pins : List (Addr × Obj)) (σ : St) (Q : List V → Hp → Prop) (us : List Value) (s' : Shared) : Prop := ∃ vs H', Inv X pins σ H' s' ∧ Vals vs us ∧ Q vs H'
noncomputable def SP (X : Cx) (pins : List (Addr × Obj)) (D : Ends) (f : Flow) (s' : Shared) : Prop :=
  match f with
  | .next => ∃ σ' H', Inv X pins σ' H' s' ∧ D.nx σ' H'
  | .brk => ∃ σ' H', Inv X pins σ' H' s' ∧ D.bk σ' H'
  | .cont => ∃ σ' H', Inv X pins σ' H' s' ∧ D.ct σ' H'
  | .ret u => ∃ v σ' H', Inv X pins σ' H' s' ∧ RelV v u ∧ D.rt v H'
noncomputable def PE (X : Cx) (e : Expr) (t : TE) : Prop :=
  ∀ (pins : List (Addr × Obj)) (s : Shared) (σ : St) (H : Hp) (Q : VK), Inv X pins σ H s → t σ H Q → wpAny (model X.prog X.w) X.A (eval e X.env) (EP X pins σ Q) X.xe s
noncomputable def PT (X : Cx) (e : Expr) (t : TT) : Prop :=
  ∀ (pins : List (Addr × Obj)) (s : Shared) (σ : St) (H : Hp) (Q : Bool → Hp → Prop), Inv X pins σ H s → t σ H Q → wpAny (model X.prog X.w) X.A (isTrue e X.env (eval e X.env)) (TP X pins σ Q) X.xe s
noncomputable def PW (X : Cx) (e : Expr) (t : TT) : Prop :=
  ∀ (whole : Sem Value) (pins : List (Addr × Obj)) (s : Shared) (σ : St) (H : Hp) (Q : Bool → Hp → Prop), Inv X pins σ H s → t σ H Q → wpAny (model X.prog X.w) X.A (isTrue e X.env whole) (TP X pins σ Q) X.xe s
theorem PW.pt {X : Cx} {e : Expr} {t : TT} (h : PW X e t) : PT X e t := h _
noncomputable def PA (X : Cx) (es : List Expr) (t : TA) : Prop :=
  ∀ (pos : Pos) (pins : List (Addr × Obj)) (s : Shared) (σ : St) (H : Hp) (Q : List V → Hp → Prop), Inv X pins σ H s → t σ H Q → wpAny (model X.prog X.w) X.A (spliced (backTo pos (starEach es X.env))) (AP X pins σ Q) X.xe s
noncomputable def PS (X : Cx) (st : Stmt) (t : TS) : Prop :=
  ∀ (pins : List (Addr × Obj)) (s : Shared) (σ : St) (H : Hp) (D : Ends), Inv X pins σ H s → t D σ H → wpAny (model X.prog X.w) X.A (exec st X.env) (SP X pins D) X.xe s
noncomputable def PSs (X : Cx) (st : List Stmt) (t : TS) : Prop :=
  ∀ (pins : List (Addr × Obj)) (s : Shared) (σ : St) (H : Hp) (D : Ends), Inv X pins σ H s → t D σ H → wpAny (model X.prog X.w) X.A (execs st X.env) (SP X pins D) X.xe s
theorem thn {α : Type} {t : Sem α} {Q Q' : α → Shared → Prop} {M : Model} {A : Around} {E : Value → Shared → Prop} {s : Shared} (h : wpAny M A t Q E s) (hQ : ∀ a s, Q a s → Q' a s) : wpAny M A t Q' E s := wpAny_mono h hQ fun _ _ x => x
end L2
namespace L2
open PySem PySem.Spec PyProof.Rows
section
variable {X : Cx}
theorem bin {a b : Expr} {ta tb : TE} (ha : PE X a ta) (hb : PE X b tb) {pins : List (Addr × Obj)} {s : Shared} {σ : St} {H : Hp} {R : V → V → Hp → Prop} (I : Inv X pins σ H s) (h : ta σ H fun x H1 => tb σ H1 fun y H2 => R x y H2)
    {α : Type} {Q : α → Shared → Prop} {f : Value → Value → Sem α}
    (hf : ∀ v u s2 x y H2, Inv X pins σ H2 s2 → RelV x v → RelV y u → R x y H2 → wpAny (model X.prog X.w) X.A (f v u) Q X.xe s2) :
    wpAny (model X.prog X.w) X.A (eval a X.env) (fun v s₁ => wpAny (model X.prog X.w) X.A (eval b X.env) (fun u s₂ => wpAny (model X.prog X.w) X.A (f v u) Q X.xe s₂) X.xe s₁) X.xe s := by
  refine thn (ha pins s σ H _ I h) fun v s1 ⟨x, H1, I1, r1, q1⟩ => ?_
  refine thn (hb pins s1 σ H1 _ I1 q1) fun u s2 ⟨y, H2, I2, r2, q2⟩ => ?_
  exact hf v u s2 x y H2 I2 r1 r2 q2
noncomputable def tVar (i : Nat) : TE := fun σ H Q => ∃ v, σ[i]? = some (some v) ∧ Q v H
noncomputable def tC (v : V) : TE := fun _ H Q => Q v H
theorem pe_var {i : Nat} {x : Str} {pos : Pos} (hN : X.N[i]? = some x) (hv : Vis X.env.scope x) (hd : (x == ("__debug__" : Str)) = false := by decide) (hcd : (x == ("__classdict__" : Str)) = false := by decide) : PE X (.Name x pos) (tVar i) := by
  intro pins s σ H Q I h
  obtain ⟨v, e, h⟩ := h
  obtain ⟨m, hn, hl⟩ := I.loc
  obtain ⟨u, r, l⟩ := hl i x v hN e hv
  have fin : EP X pins σ Q u s := ⟨v, H, I, r, h⟩
  rcases l with ⟨hk, hm⟩ | ⟨hk, c, hc, hcell⟩
  · exact wpAny_Name (wpAny_loadName_local I.ok.kind hk hn hm fin) hd
  · rcases hk with hk | hk
    · exact wpAny_Name (wpAny_loadName_cell I.ok.kind hk hc hcell fin) hd
    · exact wpAny_Name (wpAny_loadName_free I.ok.kind hk hc hcell fin hcd) hd
theorem pe_int {i j pos} : PE X (.Constant (.int i) j pos) (tC (.int i)) := fun _ _ _ H _ I h => wpAny_Constant_int ⟨.int i, H, I.tok _, ⟨_, rfl⟩, h⟩
theorem pe_bl {b j pos} : PE X (.Constant (.bool b) j pos) (tC (.bl b)) := fun _ _ _ H _ I h => Constant_bool ⟨.bl b, H, I, rfl, h⟩
theorem pe_non {j pos} : PE X (.Constant .none j pos) (tC .non) := fun _ _ _ H _ I h => Constant_none ⟨.non, H, I, rfl, h⟩
theorem pe_str {x j pos} : PE X (.Constant (.str x) j pos) (tC (.str x)) := fun _ _ _ H _ I h => Calls.Constant_str ⟨.str x, H, I.tok _, ⟨_, rfl⟩, h⟩
noncomputable def Gl (X : Cx) (x : Str) : Prop := X.env.kindOf x = some .globalImplicit
theorem ld_glob {E : Value → Shared → Prop} {pins : List (Addr × Obj)} {s : Shared} {σ : St} {H : Hp} {x : Str} {u : Value} {pos : Pos} {Q : Value → Shared → Prop} (I : Inv X pins σ H s) (hg : Gl X x) (hm : X.mg x = some u) (h : Q u s)
    (hd : (x == ("__debug__" : Str)) = false := by decide) : wpAny (model X.prog X.w) X.A (eval (.Name x pos) X.env) Q E s :=
  Calls.Name_function_global I.ok.kind hg (Calls.loadGlobal_global (by rw [I.ok.glob]; exact I.mod.glob.keeps I.bk) hm h) hd
theorem ld_blt {E : Value → Shared → Prop} {pins : List (Addr × Obj)} {s : Shared} {σ : St} {H : Hp} {x : Str} {u : Value} {pos : Pos} {Q : Value → Shared → Prop} (I : Inv X pins σ H s) (hg : Gl X x) (hm : X.mg x = none) (hv : bootBuiltins x = some u) (h : Q u s)
    (hn : x ≠ "__name__" := by decide) (hd : (x == ("__debug__" : Str)) = false := by decide) : wpAny (model X.prog X.w) X.A (eval (.Name x pos) X.env) Q E s := by
  obtain ⟨mb, h1, h2⟩ := I.mod.blt
  exact Calls.Name_function_global I.ok.kind hg (Calls.loadGlobal_builtin (by rw [I.ok.glob]; exact I.mod.glob.keeps I.bk) hm (by rw [I.ok.blt]; exact h1.keeps I.bk) ((h2 x hn).trans hv) h) hd
variable {a b : Expr} {ta tb : TE} {pos : Pos}
variable {tA tB' : TT} {rest : List Expr}
noncomputable def tAnd (t u : TT) : TT := fun σ H Q => t σ H fun c H1 => if c = true then u σ H1 Q else Q false H1
noncomputable def tOr (t u : TT) : TT := fun σ H Q => t σ H fun c H1 => if c = true then Q true H1 else u σ H1 Q
noncomputable def tNot (t : TT) : TT := fun σ H Q => t σ H fun c H1 => Q (!c) H1
theorem pw_and1 (ha : PT X a tA) : PW X (.BoolOp .And [a] pos) tA := by
  intro wh pins s σ H Q I h
  refine isTrue_and (thn (ha pins s σ H Q I h) fun c s1 e => ?_)
  cases c with
  | true => exact isTrue_and_nil e
  | false => exact e
theorem pw_or1 (ha : PT X a tA) : PW X (.BoolOp .Or [a] pos) tA := by
  intro wh pins s σ H Q I h
  refine isTrue_or (thn (ha pins s σ H Q I h) fun c s1 e => ?_)
  cases c with
  | false => exact isTrue_or_nil e
  | true => exact e
theorem pw_and (ha : PT X a tA) (hb : PW X (.BoolOp .And (b :: rest) pos) tB') : PW X (.BoolOp .And (a :: b :: rest) pos) (tAnd tA tB') := by
  intro wh pins s σ H Q I h
  refine isTrue_and (thn (ha pins s σ H _ I h) fun c s1 ⟨H1, I1, q1⟩ => ?_)
  cases c with
  | true => exact hb wh pins s1 σ H1 Q I1 q1
  | false => exact ⟨H1, I1, q1⟩
theorem pw_or (ha : PT X a tA) (hb : PW X (.BoolOp .Or (b :: rest) pos) tB') : PW X (.BoolOp .Or (a :: b :: rest) pos) (tOr tA tB') := by
  intro wh pins s σ H Q I h
  refine isTrue_or (thn (ha pins s σ H _ I h) fun c s1 ⟨H1, I1, q1⟩ => ?_)
  cases c with
  | true => exact ⟨H1, I1, q1⟩
  | false => exact hb wh pins s1 σ H1 Q I1 q1
theorem pt_not (ha : PT X a tA) : PT X (.UnaryOp .Not a pos) (tNot tA) := by
  intro pins s σ H Q I h
  exact isTrue_not (ha pins s σ H (fun c H1 => Q (!c) H1) I h)
noncomputable def tIf (t : TT) (ta tb : TE) : TE := fun σ H Q => t σ H fun c H1 => if c = true then ta σ H1 Q else tb σ H1 Q
theorem pe_ifExp {c : Expr} (hc : PT X c tA) (ha : PE X a ta) (hb : PE X b tb) : PE X (.IfExp c a b pos) (tIf tA ta tb) := by
  intro pins s σ H Q I h
  refine wpAny_IfExp (thn (hc pins s σ H _ I h) fun d s1 ⟨H1, I1, q1⟩ => ?_)
  cases d with
  | true => exact ha pins s1 σ H1 Q I1 q1
  | false => exact hb pins s1 σ H1 Q I1 q1
end
end L2
namespace L2
open PySem PySem.Spec PyProof.Rows
noncomputable def SqL (K : PySem.W.Frag) (H : Hp) (a : Addr) (xs : List V) : Prop :=
  Rd H a (.lst xs) ∨
    ∃ (o : Obj) (its : Array Value) (n : Nat), K.lookup a = some o ∧ o.cls = .type "list" ∧ o.dict = none ∧ o.data = .seq its n ∧ its.size ≤ sizeLine ∧ Vals xs its.toList
noncomputable def SqT (K : PySem.W.Frag) (H : Hp) (a : Addr) (xs : List V) : Prop :=
  Rd H a (.tup xs) ∨
    ∃ (o : Obj) (its : Array Value) (n : Nat), K.lookup a = some o ∧ o.cls = .type "tuple" ∧ o.data = .seq its n ∧ its.size ≤ sizeLine ∧ Vals xs its.toList
noncomputable def absV : Value → Option V
  | .none => some .non
  | .bool b => some (.bl b)
  | .int i _ => some (.int i)
  | .str x _ => some (.str x)
  | .bytes b _ => some (.byt b)
  | .float b _ => some (.flt b)
  | .ref a => some (.ref a)
  | .type n => some (.ty n)
  | _ => none
theorem RelV.abs {x : V} {u : Value} (r : RelV x u) : absV u = some x := by
  cases x with
  | non => cases r; rfl
  | bl _ => cases r; rfl
  | int _ => obtain ⟨t, rfl⟩ := r; rfl
  | str _ => obtain ⟨t, rfl⟩ := r; rfl
  | byt _ => obtain ⟨t, rfl⟩ := r; rfl
  | flt _ => obtain ⟨t, rfl⟩ := r; rfl
  | ref _ => cases r; rfl
  | ty _ => cases r; rfl
theorem RelV.inj {x y : V} {u : Value} (r : RelV x u) (q : RelV y u) : x = y := Option.some.inj (r.abs.symm.trans q.abs)
theorem Vals.inj : ∀ {xs ys : List V} {us : List Value}, Vals xs us → Vals ys us → xs = ys
  | _, _, _, .nil, .nil => rfl
  | _, _, _, .cons r t, .cons r' t' => by rw [r.inj r', Vals.inj t t']
section
variable {X : Cx} {pins : List (Addr × Obj)} {σ : St} {H : Hp} {s : Shared} {a : Addr} {xs ys : List V}
theorem SqL.of {K : PySem.W.Frag} (h : H a = some (.lst xs)) : SqL K H a xs := .inl (.inl h)
theorem Inv.list (I : Inv X pins σ H s) (h : SqL X.K H a xs) : ∃ its : List Value, Vals xs its ∧ PlainL s.heap a its.toArray ∧ xs.length ≤ sizeLine := by
  rcases h with h | ⟨o, its, n, hk, hc, hd, hs, hz, r⟩
  · obtain ⟨z, its, n, r, e⟩ := h.ok I.hok
    exact ⟨its, r, ⟨_, n, e, rfl, rfl, rfl⟩, z⟩
  · refine ⟨its.toList, r, ⟨o, n, I.kIn a o hk, hc, hd, by simpa using hs⟩, ?_⟩
    have e := r.length
    simp only [Array.length_toList] at e
    omega
theorem Inv.tuple (I : Inv X pins σ H s) (h : SqT X.K H a xs) : ∃ its : List Value, Vals xs its ∧ IsTup s.heap a its.toArray ∧ xs.length ≤ sizeLine := by
  rcases h with h | ⟨o, its, n, hk, hc, hs, hz, r⟩
  · obtain ⟨z, its, r, p⟩ := h.ok I.hok
    exact ⟨its, r, p, z⟩
  · refine ⟨its.toList, r, ⟨o, I.kIn a o hk, hc, n, by simpa using hs⟩, ?_⟩
    have e := r.length
    simp only [Array.length_toList] at e
    omega
theorem Inv.list_inj (I : Inv X pins σ H s) (h : SqL X.K H a xs) (h' : SqL X.K H a ys) : xs = ys := by
  obtain ⟨its, r, ⟨o, n, e, _, _, d⟩, _⟩ := I.list h
  obtain ⟨its', r', ⟨o', n', e', _, _, d'⟩, _⟩ := I.list h'
  rw [e] at e'; cases e'
  rw [d] at d'
  injection d' with d1 _
  have : its = its' := by simpa using congrArg Array.toList d1
  subst this
  exact r.inj r'
theorem Inv.tuple_inj (I : Inv X pins σ H s) (h : SqT X.K H a xs) (h' : SqT X.K H a ys) : xs = ys := by
  obtain ⟨its, r, ⟨o, e, _, n, d⟩, _⟩ := I.tuple h
  obtain ⟨its', r', ⟨o', e', _, n', d'⟩, _⟩ := I.tuple h'
  rw [e] at e'; cases e'
  rw [d] at d'
  injection d' with d1 _
  have : its = its' := by simpa using congrArg Array.toList d1
  subst this
  exact r.inj r'
end
noncomputable abbrev Cx.wish (X : Cx) (E : Value → Shared → Prop) : Cx := { X with xe := E }
noncomputable abbrev Cx.nox (X : Cx) : Cx := X.wish fun _ _ => False
theorem Cx.Ok.wish {X : Cx} (ok : X.Ok) (E : Value → Shared → Prop) : (X.wish E).Ok :=
  ⟨ok.mod, ok.kind, ok.glob, ok.blt, ok.above, ok.inj, ok.has, ok.cab, ok.hd, ok.frames, ok.stk, ok.exf, ok.bs, ok.bsz, ok.noex, ok.exfs, ok.funs, ok.frf⟩
theorem Cx.Ok.unwish {X : Cx} {E : Value → Shared → Prop} (ok : (X.wish E).Ok) : X.Ok :=
  ⟨ok.mod, ok.kind, ok.glob, ok.blt, ok.above, ok.inj, ok.has, ok.cab, ok.hd, ok.frames, ok.stk, ok.exf, ok.bs, ok.bsz, ok.noex, ok.exfs, ok.funs, ok.frf⟩
section
variable {X : Cx} {pins : List (Addr × Obj)} {σ : St} {H : Hp} {s : Shared} {E : Value → Shared → Prop}
theorem Inv.wish (I : Inv X pins σ H s) (E : Value → Shared → Prop) : Inv (X.wish E) pins σ H s := ⟨I.ok.wish E, I.os, I.bare, I.base, I.loc, I.cell, I.free, I.freeC, I.pin, I.hok, I.len⟩
theorem Inv.unwish (I : Inv (X.wish E) pins σ H s) : Inv X pins σ H s := ⟨I.ok.unwish, I.os, I.bare, I.base, I.loc, I.cell, I.free, I.freeC, I.pin, I.hok, I.len⟩
theorem SP.unwish {D : Ends} {f : Flow} {s' : Shared} (h : SP (X.wish E) pins D f s') : SP X pins D f s' := by
  cases f with
  | next => obtain ⟨σ', H', I, q⟩ := h; exact ⟨σ', H', I.unwish, q⟩
  | brk => obtain ⟨σ', H', I, q⟩ := h; exact ⟨σ', H', I.unwish, q⟩
  | cont => obtain ⟨σ', H', I, q⟩ := h; exact ⟨σ', H', I.unwish, q⟩
  | ret u => obtain ⟨v, σ', H', I, r, q⟩ := h; exact ⟨v, σ', H', I.unwish, r, q⟩
theorem PSs.nox {st : List Stmt} {t : TS} (h : PSs X.nox st t) : PSs X st t := fun pins s σ H D I hw =>
  wpAny_mono (h pins s σ H D (I.wish _) hw) (fun _ _ q => q.unwish) fun _ _ z => False.elim z
end
section
variable {X : Cx} {st : Stmt} {rest : List Stmt} {t u : TS} {e : Expr} {te : TE} {pos : Pos}
noncomputable def tNext : TS := fun D σ H => D.nx σ H
noncomputable def tSeq (t u : TS) : TS := fun D σ H => t { D with nx := u D } σ H
theorem pss_nil : PSs X [] tNext := fun _ _ σ H _ I h => wpAny_execs_nil ⟨σ, H, I, h⟩
theorem pss_cons (h1 : PS X st t) (h2 : PSs X rest u) : PSs X (st :: rest) (tSeq t u) := by
  intro pins s σ H D I h
  refine wpAny_execs_cons (thn (h1 pins s σ H { D with nx := u D } I h) fun f s1 q => ?_)
  cases f with
  | next =>
    obtain ⟨σ', H', I', q⟩ := q
    exact h2 pins s1 σ' H' D I' q
  | ret v => exact q
  | brk => exact q
  | cont => exact q
theorem pss_one (h1 : PS X st t) : PSs X [st] t := by
  intro pins s σ H D I h
  refine wpAny_execs_cons (thn (h1 pins s σ H D I h) fun f s1 q => ?_)
  cases f with
  | next => exact wpAny_execs_nil q
  | ret v => exact q
  | brk => exact q
  | cont => exact q
theorem Inv.quiet {pins : List (Addr × Obj)} {σ : St} {H : Hp} {s : Shared} (I : Inv X pins σ H s) : interactive X.env = false := by simp [interactive, I.ok.kind]
noncomputable def tDrop (te : TE) : TS := fun D σ H => te σ H fun _ H1 => D.nx σ H1
theorem ps_expr (he : PE X e te) (hs : swapsWith e none pos.line X.env = pure false := by rfl) : PS X (.Expr e pos) (tDrop te) := by
  intro pins s σ H D I h
  exact wpAny_Expr_any (thn (he pins s σ H _ I h) fun v s1 ⟨x, H1, I1, r1, q1⟩ => ⟨σ, H1, I1, q1⟩) I.quiet hs
noncomputable def tRet (te : TE) : TS := fun D σ H => te σ H D.rt
theorem ps_ret (he : PE X e te) : PS X (.Return (some e) pos) (tRet te) := by
  intro pins s σ H D I h
  exact wpAny_Return_some (thn (he pins s σ H _ I h) fun v s1 ⟨x, H1, I1, r1, q1⟩ => ⟨x, σ, H1, I1, r1, q1⟩)
noncomputable def tIfS (c : TT) (t u : TS) : TS := fun D σ H => c σ H fun b H1 => if b = true then t D σ H1 else u D σ H1
theorem ps_if {c : Expr} {a b : List Stmt} {tc : TT} (hc : PT X c tc) (ha : PSs X a t) (hb : PSs X b u) : PS X (.If c a b pos) (tIfS tc t u) := by
  intro pins s σ H D I h
  refine wpAny_If (thn (hc pins s σ H _ I h) fun d s1 ⟨H1, I1, q1⟩ => ?_)
  cases d with
  | true => exact ha pins s1 σ H1 D I1 q1
  | false => exact hb pins s1 σ H1 D I1 q1
end
noncomputable abbrev TG := V → St → Hp → (St → Hp → Prop) → Prop
noncomputable abbrev TGs := List V → St → Hp → (St → Hp → Prop) → Prop
noncomputable def PG (X : Cx) (target : Expr) (t : TG) : Prop :=
  ∀ (pins : List (Addr × Obj)) (s : Shared) (σ : St) (H : Hp) (v : V) (u : Value) (Q : St → Hp → Prop), Inv X pins σ H s → RelV v u → t v σ H Q →
    wpAny (model X.prog X.w) X.A (assign target X.env u) (fun _ s' => ∃ σ' H', Inv X pins σ' H' s' ∧ Q σ' H') X.xe s
noncomputable def PGs (X : Cx) (ts : List Expr) (t : TGs) : Prop :=
  ∀ (pins : List (Addr × Obj)) (s : Shared) (σ : St) (H : Hp) (vs : List V) (us : List Value) (Q : St → Hp → Prop), Inv X pins σ H s → Vals vs us → t vs σ H Q →
    wpAny (model X.prog X.w) X.A (assignInOrder ((assignEach ts X.env).map (·.2)) us) (fun _ s' => ∃ σ' H', Inv X pins σ' H' s' ∧ Q σ' H') X.xe s
noncomputable abbrev TSet := V → V → V → Hp → (Hp → Prop) → Prop
noncomputable def PSet (X : Cx) (t : TSet) : Prop :=
  ∀ (pins : List (Addr × Obj)) (s : Shared) (σ : St) (H : Hp) (o i v : V) (ov iv u : Value) (Q : Hp → Prop), Inv X pins σ H s → RelV o ov → RelV i iv → RelV v u → t o i v H Q →
    wpAny (model X.prog X.w) X.A (setItem ov iv u) (fun _ s' => ∃ H', Inv X pins σ H' s' ∧ Q H') X.xe s
noncomputable abbrev TIp := V → V → Hp → VK → Prop
noncomputable def PIp (X : Cx) (op : Operator) (t : TIp) : Prop :=
  ∀ (pins : List (Addr × Obj)) (s : Shared) (σ : St) (H : Hp) (x y : V) (v u : Value) (Q : VK), Inv X pins σ H s → RelV x v → RelV y u → t x y H Q →
    wpAny (model X.prog X.w) X.A (inplaceOp op v u) (EP X pins σ Q) X.xe s
section
variable {X : Cx} {pos : Pos}
noncomputable def gName (i : Nat) : TG := fun v σ H Q => Q (σ.set i (some v)) H
theorem pg_name {i : Nat} {x : Str} (hN : X.N.Nodup) (hi : X.N[i]? = some x) (hx : Loc X.env.scope x) (hf : X.fn x = true ∨ X.env.scope.names.lookup x = some .local := by trivial) : PG X (.Name x pos) (gName i) := by
  intro pins s σ H v u Q I r h
  exact wpAny_assign_Name (store_ok I hN hi hx r (fun s' I' => ⟨_, H, I', h⟩) hf)
noncomputable def gNil : TGs := fun vs σ H Q => vs = [] ∧ Q σ H
noncomputable def gCons (t : TG) (u : TGs) : TGs := fun vs σ H Q => ∃ v r, vs = v :: r ∧ t v σ H fun σ' H' => u r σ' H' Q
theorem pgs_nil : PGs X [] gNil := by
  intro pins s σ H vs us Q I r h
  obtain ⟨e, h⟩ := h
  subst e
  cases r
  exact assignInOrder_nil ⟨σ, H, I, h⟩
theorem pgs_cons {e : Expr} {es : List Expr} {t : TG} {u : TGs} (h1 : PG X e t) (h2 : PGs X es u)
    (hs : (assignEach (e :: es) X.env).map (·.2) = assign e X.env :: (assignEach es X.env).map (·.2) := by rfl) : PGs X (e :: es) (gCons t u) := by
  intro pins s σ H vs us Q I r h
  obtain ⟨v, vr, e1, h⟩ := h
  subst e1
  cases r with
  | cons r rr =>
    rw [hs]
    refine assignInOrder_cons (thn (h1 pins s σ H _ _ _ I r h) fun _ s1 ⟨σ1, H1, I1, q1⟩ => ?_)
    exact h2 pins s1 σ1 H1 _ _ Q I1 rr q1
noncomputable def gTup (K : PySem.W.Frag) (n : Nat) (t : TGs) : TG := fun v σ H Q => ∃ a xs, v = .ref a ∧ SqT K H a xs ∧ xs.length = n ∧ t xs σ H Q
theorem pg_tup {es : List Expr} {k : Nat} {t : TGs} {n : Nat} (hc : X.calm = true) (h : PGs X es t)
    (hn : (assignEach es X.env).length = n := by rfl) (hst : (assignEach es X.env).findIdx? (·.1) = none := by rfl) : PG X (.Tuple es k pos) (gTup X.K n t) := by
  intro pins s σ H v u Q I r hw
  obtain ⟨a, xs, e1, hq, hl, hw⟩ := hw
  subst e1
  cases r
  obtain ⟨its, rv, ht, hz⟩ := I.tuple hq
  refine assign_Tuple_tuple (I.ok.hd hc) ht (by simp [hn, ← hl, rv.length]) hst fun h' hx => ?_
  have I1 : Inv X pins σ H { s with heap := h' } := I.kept (t' := s.toks) fun b o e => hx b o (Nat.ne_of_lt (Heap.lt_size e)) e
  exact h pins _ σ H xs _ Q I1 (by simpa using rv) hw
noncomputable def gSub (to ti : TE) (t : TSet) : TG := fun v σ H Q => to σ H fun o H1 => ti σ H1 fun i H2 => t o i v H2 fun H3 => Q σ H3
theorem pg_sub {o i : Expr} {to ti : TE} {t : TSet} (ho : PE X o to) (hi : PE X i ti) (hs : PSet X t)
    (ha : ∀ v, assign (.Subscript o i pos) X.env v = (do
      let ov ← holding [v] (eval o X.env)
      let iv ← holding [v, ov] (eval i X.env)
      standAt pos
      holding [v, ov, iv] (setItem ov iv v)
      release [v, ov, iv] []) := by intro _; rfl) : PG X (.Subscript o i pos) (gSub to ti t) := by
  intro pins s σ H v u Q I r h
  rw [ha]
  refine wpAny_bind (wpAny_holding (thn (ho pins s σ H _ I h) fun ov s1 ⟨x, H1, I1, r1, q1⟩ => ?_))
  refine wpAny_bind (wpAny_holding (thn (hi pins s1 σ H1 _ I1 q1) fun iv s2 ⟨y, H2, I2, r2, q2⟩ => ?_))
  refine wpAny_bind (wpAny_standAt (wpAny_bind (wpAny_holding (thn (hs pins s2 σ H2 x y v ov iv u _ I2 r1 r2 r q2) fun _ s3 ⟨H3, I3, q3⟩ => ?_))))
  exact wpAny_release ⟨σ, H3, I3, q3⟩
noncomputable def tAsg (te : TE) (g : TG) : TS := fun D σ H => te σ H fun x H1 => g x σ H1 D.nx
theorem ps_asg {tg e : Expr} {te : TE} {g : TG} (he : PE X e te) (hg : PG X tg g) (hs : swapsWithSole [tg] e pos.line X.env = pure false := by rfl) (hw : swappedStores [tg] e X.env = pure none := by rfl)
    (h1 : (assignEach [tg] X.env).map (·.2) = [assign tg X.env] := by rfl) : PS X (.Assign [tg] e pos) (tAsg te g) := by
  intro pins s σ H D I h
  refine wpAny_Assign_stores (thn (he pins s σ H _ I h) fun v s1 ⟨x, H1, I1, r1, q1⟩ => ?_) hs hw
  rw [h1]
  exact thn (hg pins s1 σ H1 x v _ I1 r1 q1) fun _ s2 q => q
theorem ps_set {i : Nat} {x : Str} {e : Expr} {te : TE} {pos' : Pos} (hN : X.N.Nodup) (hi : X.N[i]? = some x) (hx : Loc X.env.scope x) (he : PE X e te) (hs : swapsWith e (some (.Name x pos')) pos.line X.env = pure false := by rfl) (hf : X.fn x = true ∨ X.env.scope.names.lookup x = some .local := by trivial) :
    PS X (.Assign [.Name x pos'] e pos) (tAsg te (gName i)) := by
  intro pins s σ H D I h
  refine wpAny_Assign_Name (thn (he pins s σ H _ I h) fun v s1 ⟨y, H1, I1, r1, q1⟩ => ?_) hs
  exact store_ok I1 hN hi hx r1 (fun s2 I2 => ⟨_, H1, I2, q1⟩) hf
noncomputable def tAug (i : Nat) (te : TE) (ti : TIp) : TS := fun D σ H => ∃ x, σ[i]? = some (some x) ∧ te σ H fun y H1 => ti x y H1 fun z H2 => D.nx (σ.set i (some z)) H2
theorem ps_aug {i : Nat} {x : Str} {e : Expr} {te : TE} {op : Operator} {ti : TIp} {pos' : Pos} (hN : X.N.Nodup) (hi : X.N[i]? = some x) (hx : Loc X.env.scope x) (he : PE X e te) (ho : PIp X op ti) (hf : X.fn x = true ∨ X.env.scope.names.lookup x = some .local := by trivial) :
    PS X (.AugAssign (.Name x pos') op e pos) (tAug i te ti) := by
  intro pins s σ H D I h
  obtain ⟨v, e1, h⟩ := h
  obtain ⟨m, hn, hl⟩ := I.loc
  have vis : Vis X.env.scope x := by rcases hx with k | k; exact .inl k; exact .inr (.inl k)
  obtain ⟨u, r, l⟩ := hl i x v hi e1 vis
  refine wpAny_AugAssign_Name ?_
  have go : wpAny (model X.prog X.w) X.A (eval e X.env) (fun w s₂ => wpAny (model X.prog X.w) X.A (inplaceOp op u w) (fun r s₃ => wpAny (model X.prog X.w) X.A (storeName X.env x r) (fun _ => SP X pins D .next) X.xe s₃) X.xe s₂) X.xe s := by
    refine thn (he pins s σ H _ I h) fun w s1 ⟨y, H1, I1, r1, q1⟩ => ?_
    refine thn (ho pins s1 σ H1 v y u w _ I1 r r1 q1) fun z s2 ⟨zv, H2, I2, r2, q2⟩ => ?_
    exact store_ok I2 hN hi hx r2 (fun s3 I3 => ⟨_, H2, I3, q2⟩) hf
  rcases l with ⟨hk, hm⟩ | ⟨hk, c, hc, hcell⟩
  · exact wpAny_loadName_local I.ok.kind hk hn hm go
  · rcases hk with hk | hk
    · exact wpAny_loadName_cell I.ok.kind hk hc hcell go
    · rcases hx with k | k
      · have : X.env.scope.names.lookup x = some .free := hk
        rw [k] at this; cases this
      · have : X.env.scope.names.lookup x = some .free := hk
        rw [k] at this; cases this
end
section
variable {X : Cx} {pos : Pos}
noncomputable def tWhile (c : TT) (tb : TS) : TS := fun D σ H => ∃ W : Nat → St → Hp → Prop, (∃ m, W m σ H) ∧ ∀ m σ H, W m σ H →
  c σ H fun b H1 => if b = true then ∃ N : St → Hp → Prop, (∀ σ' H', N σ' H' → ∃ m', m' < m ∧ W m' σ' H') ∧ tb { D with nx := N, ct := N, bk := D.nx } σ H1 else D.nx σ H1
theorem ps_while {c : Expr} {body : List Stmt} {tc : TT} {tb : TS} (hp : PassesOwn (model X.prog X.w) X.A X.env X.xe) (hc : PT X c tc) (hb : PSs X body tb) : PS X (.While c body [] pos) (tWhile tc tb) := by
  intro pins s σ H D I h
  obtain ⟨W, ⟨m0, w0⟩, turn⟩ := h
  refine wpAny_While (codeAny_whileLoop (fun n s' => ∃ σ' H', Inv X pins σ' H' s' ∧ W n σ' H') ?_ m0 ⟨σ, H, I, w0⟩)
  rintro n s1 ⟨σ1, H1, I1, w1⟩
  refine wpAny_passesOwn hp (thn (hc pins s1 σ1 H1 _ I1 (turn n σ1 H1 w1)) fun b s2 ⟨H2, I2, q2⟩ => ?_)
  cases b with
  | true =>
    obtain ⟨N, hN, q2⟩ := q2
    rw [if_pos rfl]
    refine wpAny_passesOwn hp (thn (hb pins s2 σ1 H2 _ I2 q2) fun f s3 q3 => ?_)
    cases f with
    | next =>
      obtain ⟨σ3, H3, I3, n3⟩ := q3
      obtain ⟨m', hm, w3⟩ := hN σ3 H3 n3
      exact ⟨m', hm, σ3, H3, I3, w3⟩
    | cont =>
      obtain ⟨σ3, H3, I3, n3⟩ := q3
      obtain ⟨m', hm, w3⟩ := hN σ3 H3 n3
      exact ⟨m', hm, σ3, H3, I3, w3⟩
    | brk => exact q3
    | ret v => exact q3
  | false =>
    rw [if_neg Bool.false_ne_true]
    exact wpAny_execs_nil ⟨σ1, H2, I2, q2⟩
end
structure It where
  go : Nat → Hp → Prop
  yld : Nat → Hp → V → Hp → Prop
  stop : Nat → Hp → Prop
noncomputable def FpOk (X : Cx) (pins : List (Addr × Obj)) (H : Hp) (b : Addr) : Prop :=
  H b = none ∧ b ≠ X.env.locals ∧ b ∉ X.fs ∧ (b ∈ X.ex ∨ X.s₀.heap.objs.size ≤ b) ∧ (∀ x c, X.env.cells.lookup x = some c → c ≠ b) ∧ ∀ p ∈ X.pn ++ pins, p.1 ≠ b
theorem Inv.fpOk {X : Cx} {pins : List (Addr × Obj)} {σ : St} {H H' : Hp} {s : Shared} {b : Addr} (I : Inv X pins σ H s) (hb : s.heap.objs.size ≤ b) (hn : H' b = none) : FpOk X pins H' b := by
  refine ⟨hn, Nat.ne_of_gt (Nat.lt_of_lt_of_le I.lt hb), I.nofs hb, .inr (Nat.le_trans I.sz hb), fun x c e z => ?_, fun p hp z => ?_⟩
  · obtain ⟨v, q⟩ := I.cell x c e
    exact absurd (Nat.lt_of_lt_of_le q.lt (by rw [z]; exact hb)) (Nat.lt_irrefl _)
  · exact absurd (Nat.lt_of_lt_of_le (Heap.lt_size (I.pin p hp).1) (by rw [z]; exact hb)) (Nat.lt_irrefl _)
structure Turn (P : Program) (w : World) (K : PySem.W.Frag) (tg : Expr) (J : It) (fp : List Addr) (it : Addr) (tn : Nat → Heap → Prop) : Prop where
  mem : it ∈ fp
  obj : ∀ i h, tn i h → ∀ b ∈ fp, ∃ o, h.get? b = some o ∧ ∀ v, o.data ≠ .cell v
  keep : ∀ i h h', tn i h → (∀ b ∈ fp, ∀ o, h.get? b = some o → h'.get? b = some o) → tn i h'
  item : ∀ (X : Cx), X.prog = P → X.w = w → X.K = K → X.calm = true → ∀ (i : Nat) (pins : List (Addr × Obj)) (s : Shared) (σ : St) (H : Hp) (E : Value → Shared → Prop), Inv X pins σ H s → (∀ b ∈ fp, FpOk X pins H b) → tn i s.heap → J.go i H →
    wpAny (model P w) X.A (pyNext (.ref it)) (fun r s1 => ∃ u, r = some u ∧
      wpAny (model P w) X.A (letOwnedTupleGo tg (.ref it) u) (fun _ s2 => ∃ x H', Inv X pins σ H' s2 ∧ RelV x u ∧ J.yld i H x H' ∧ tn (i + 1) s2.heap ∧ ∀ b ∈ fp, H' b = none) E s1) E s
  done : ∀ (X : Cx), X.prog = P → X.w = w → X.K = K → X.calm = true → ∀ (i : Nat) (pins : List (Addr × Obj)) (s : Shared) (σ : St) (H : Hp) (E : Value → Shared → Prop), Inv X pins σ H s → (∀ b ∈ fp, FpOk X pins H b) → tn i s.heap → J.stop i H →
    wpAny (model P w) X.A (pyNext (.ref it)) (fun r s1 => r = none ∧ Inv X pins σ H s1) E s
  self : ∀ (A : Around) (i : Nat) (s : Shared) (Q : Value → Shared → Prop) (E : Value → Shared → Prop), tn i s.heap → Q (.ref it) s → wpAny (model P w) A (pyIter (.ref it)) Q E s
noncomputable abbrev TI := St → Hp → (It → Hp → Prop) → Prop
noncomputable def PIE (X : Cx) (pins : List (Addr × Obj)) (σ : St) (tg : Expr) (R : It → Hp → Prop) (itv : Value) (s2 : Shared) : Prop :=
  ∃ (it : Addr) (fp : List Addr) (tn : Nat → Heap → Prop) (J : It) (H' : Hp), itv = .ref it ∧ Inv X pins σ H' s2 ∧ Turn X.prog X.w X.K tg J fp it tn ∧ tn 0 s2.heap ∧ (∀ b ∈ fp, FpOk X pins H' b) ∧ R J H'
noncomputable def PI (X : Cx) (tg iter : Expr) (wi : TI) : Prop :=
  ∀ (pins : List (Addr × Obj)) (s : Shared) (σ : St) (H : Hp) (R : It → Hp → Prop), Inv X pins σ H s → wi σ H R →
    wpAny (model X.prog X.w) X.A (eval iter X.env) (fun v s1 => wpAny (model X.prog X.w) X.A (pyIter v) (PIE X pins σ tg R) X.xe s1) X.xe s
theorem go_of {M : Model} {A : Around} {E : Value → Shared → Prop} {s : Shared} {tg : Expr} {it : Addr} {u : Value} {o : Obj} {n : String} {vs : Array Value} {Q : Unit → Shared → Prop} (ho : s.heap.get? it = some o) (hc : o.cls = .type n) (hd : o.data = .fields vs)
    (hn : ["enumerate", "zip", "dict_itemiterator", "dict_reverseitemiterator", "odict_iterator", "itertools.zip_longest", "itertools.pairwise"].contains n = false) (hQ : Q () s) : wpAny M A (letOwnedTupleGo tg (.ref it) u) Q E s := by
  unfold letOwnedTupleGo
  cases tg <;> first
    | exact wpAny_pure hQ
    | (cases u <;> first
        | exact wpAny_pure hQ
        | (refine wpAny_bind (wpAny_load ho ?_)
           rw [hc, hd]
           show wpAny M A (if (["enumerate", "zip", "dict_itemiterator", "dict_reverseitemiterator", "odict_iterator", "itertools.zip_longest", "itertools.pairwise"].contains n && vs[0]? == some (rawInt _)) = true then _ else _) Q E s
           rw [if_neg (by intro h; rw [hn, Bool.false_and] at h; cases h)]
           exact wpAny_pure hQ))
noncomputable def Itl (K : PySem.W.Frag) (a : Addr) : It :=
  ⟨fun i H => ∃ xs x, SqL K H a xs ∧ xs[i]? = some x, fun i H x H' => H' = H ∧ ∀ xs, SqL K H a xs → xs[i]? = some x, fun i H => ∃ xs, SqL K H a xs ∧ xs.length ≤ i⟩
noncomputable def Itt (K : PySem.W.Frag) (a : Addr) : It :=
  ⟨fun i H => ∃ xs x, SqT K H a xs ∧ xs[i]? = some x, fun i H x H' => H' = H ∧ ∀ xs, SqT K H a xs → xs[i]? = some x, fun i H => ∃ xs, SqT K H a xs ∧ xs.length ≤ i⟩
noncomputable def Itr (lo : Int) (n : Nat) : It := ⟨fun i _ => i < n, fun i H x H' => H' = H ∧ x = .int (lo + i), fun i _ => n ≤ i⟩
theorem turn_list {P : Program} {w : World} {K : PySem.W.Frag} {tg : Expr} (a it : Addr) : Turn P w K tg (Itl K a) [it] it (fun i h => h.IsListIter it a i) where
  mem := by simp
  obj := fun i h st b hb => by
    have e : b = it := by simpa using hb
    subst e
    obtain ⟨o, e, c, d⟩ := st
    exact ⟨o, e, fun v z => by rw [d] at z; cases z⟩
  keep := fun i h h' st k => st.at fun o e => k it (by simp) o e
  item := by
    intro X hP hw hK hc i pins s σ H E I hf st hg
    subst hP hw hK
    obtain ⟨xs, x, hq, hx⟩ := hg
    obtain ⟨its, rv, p, hz⟩ := I.list hq
    obtain ⟨u, hu, ru⟩ := rv.get hx
    obtain ⟨f0, f1, f2, f3, f4, f5⟩ := hf it (by simp)
    refine wpAny_pyNext_list_item st p.isList (x := u) (by simpa using hu) fun h' st' sb => ?_
    have I1 : Inv X pins σ H { s with heap := h' } := I.turned (t' := s.toks) (fun b o hb e => (sb.2 b hb).trans e) f0 f1 f3 f4 f5
    obtain ⟨o, e, c, d⟩ := id st'
    exact ⟨u, rfl, go_of (s := { s with heap := h' }) e c d (by decide) ⟨x, H, I1, ru, ⟨rfl, fun ys hy => by rw [I.list_inj hy hq]; exact hx⟩, st', fun b hb => (hf b hb).1⟩⟩
  done := by
    intro X hP hw hK hc i pins s σ H E I hf st hg
    subst hP hw hK
    obtain ⟨xs, hq, hx⟩ := hg
    obtain ⟨its, rv, p, hz⟩ := I.list hq
    obtain ⟨f0, f1, f2, f3, f4, f5⟩ := hf it (by simp)
    have hl := rv.length
    exact wpAny_pyNext_list_end (I.ok.hd hc) st p.isList (by simp; omega) fun h' eb => ⟨rfl, I.turned (t' := s.toks) (fun b o hb e => eb b o hb e) f0 f1 f3 f4 f5⟩
  self := fun _ _ _ _ _ st h => wpAny_pyIter_listiter st h
theorem turn_tuple {P : Program} {w : World} {K : PySem.W.Frag} {tg : Expr} (a it : Addr) : Turn P w K tg (Itt K a) [it] it (fun i h => h.IsTupleIter it a i) where
  mem := by simp
  obj := fun i h st b hb => by
    have e : b = it := by simpa using hb
    subst e
    obtain ⟨o, e, c, d⟩ := st
    exact ⟨o, e, fun v z => by rw [d] at z; cases z⟩
  keep := fun i h h' st k => st.at fun o e => k it (by simp) o e
  item := by
    intro X hP hw hK hc i pins s σ H E I hf st hg
    subst hP hw hK
    obtain ⟨xs, x, hq, hx⟩ := hg
    obtain ⟨its, rv, p, hz⟩ := I.tuple hq
    obtain ⟨u, hu, ru⟩ := rv.get hx
    obtain ⟨f0, f1, f2, f3, f4, f5⟩ := hf it (by simp)
    refine wpAny_pyNext_tuple_item st (show s.heap.IsTuple a its.toArray from p) (x := u) (by simpa using hu) fun h' st' sb => ?_
    have I1 : Inv X pins σ H { s with heap := h' } := I.turned (t' := s.toks) (fun b o hb e => (sb.2 b hb).trans e) f0 f1 f3 f4 f5
    obtain ⟨o, e, c, d⟩ := id st'
    exact ⟨u, rfl, go_of (s := { s with heap := h' }) e c d (by decide) ⟨x, H, I1, ru, ⟨rfl, fun ys hy => by rw [I.tuple_inj hy hq]; exact hx⟩, st', fun b hb => (hf b hb).1⟩⟩
  done := by
    intro X hP hw hK hc i pins s σ H E I hf st hg
    subst hP hw hK
    obtain ⟨xs, hq, hx⟩ := hg
    obtain ⟨its, rv, p, hz⟩ := I.tuple hq
    obtain ⟨f0, f1, f2, f3, f4, f5⟩ := hf it (by simp)
    have hl := rv.length
    exact wpAny_pyNext_tuple_end (I.ok.hd hc) st (show s.heap.IsTuple a its.toArray from p) (by simp; omega) fun h' eb => ⟨rfl, I.turned (t' := s.toks) (fun b o hb e => eb b o hb e) f0 f1 f3 f4 f5⟩
  self := fun _ _ _ _ _ st h => wpAny_pyIter_tupleiter st h
theorem turn_range {P : Program} {w : World} {K : PySem.W.Frag} {tg : Expr} (it : Addr) (lo : Int) (n : Nat) : Turn P w K tg (Itr lo n) [it] it (fun i h => IsRangeIter h it (lo + (i : Nat) * 1) ((n : Int) - (i : Nat)) 1) where
  mem := by simp
  obj := fun i h st b hb => by
    have e : b = it := by simpa using hb
    subst e
    exact ⟨_, st, fun v z => by
      have z' : Data.fields _ = Data.cell v := z
      cases z'⟩
  keep := fun i h h' st k => k it (by simp) _ st
  item := by
    intro X hP hw hK hc i pins s σ H E I hf st hg
    subst hP hw hK
    obtain ⟨f0, f1, f2, f3, f4, f5⟩ := hf it (by simp)
    have W := Walks.range (prog := X.prog) (w := X.w) (I.ok.hd hc) it lo 1 n
    refine W.item i s _ _ hg st fun v h' tk hv st' kk => ?_
    obtain ⟨t, rfl⟩ := hv
    have I1 : Inv X pins σ H { s with heap := h', toks := tk } := I.turned (fun b o hb e => kk b o (by simpa using hb) e) f0 f1 f3 f4 f5
    refine ⟨_, rfl, go_of (s := { s with heap := h', toks := tk }) (n := "range_iterator") st' rfl rfl (by decide) ⟨.int (lo + i), H, I1, ⟨t, ?_⟩, ⟨rfl, rfl⟩, st', fun b hb => (hf b hb).1⟩⟩
    rw [Int.mul_one]
  done := by
    intro X hP hw hK hc i pins s σ H E I hf st hg
    subst hP hw hK
    obtain ⟨f0, f1, f2, f3, f4, f5⟩ := hf it (by simp)
    exact wpAny_pyNext_range_end (I.ok.hd hc) st (by have : n ≤ i := hg; omega) fun h' eb => ⟨rfl, I.turned (t' := s.toks) (fun b o hb e => eb b o hb e) f0 f1 f3 f4 f5⟩
  self := fun _ _ _ _ _ st h => wpAny_pyIter_rangeiter st h
end L2
namespace L2
open PySem PySem.Spec PyProof.Rows
section
variable {X : Cx} {tg : Expr}
theorem range_it {pins : List (Addr × Obj)} {σ : St} {H : Hp} {s : Shared} {R : It → Hp → Prop} {E : Value → Shared → Prop} {lo hi : Int} {t u v : Tok} {tk : Nat} (I : Inv X pins σ H s) (h1 : -(2 ^ 62) ≤ lo) (h2 : lo < 2 ^ 62) (h3 : -(2 ^ 62) ≤ hi) (h4 : hi < 2 ^ 62)
    (q : R (Itr lo (hi - lo).toNat) H) : wpAny (model X.prog X.w) X.A (pyIter (.ref s.heap.objs.size)) (PIE X pins σ tg R) E { s with heap := s.heap.push { cls := .type "range", data := .fields #[.int lo t, .int hi u, .int 1 v] }, toks := tk } := by
  refine wpAny_pyIter_range (IsRange.new ..) (small_one h1 h2 h3 h4) ?_
  have I1 : Inv X pins σ H { s with heap := s.heap.push { cls := .type "range", data := .fields #[.int lo t, .int hi u, .int 1 v] }, toks := tk } := I.kept fun b o e => Heap.get?_push_of_some _ e
  refine ⟨(s.heap.push { cls := .type "range", data := .fields #[.int lo t, .int hi u, .int 1 v] }).objs.size, [(s.heap.push { cls := .type "range", data := .fields #[.int lo t, .int hi u, .int 1 v] }).objs.size], _, _, H, rfl,
    I1.kept (t' := tk) fun b o e => Heap.get?_push_of_some _ e, turn_range _ lo (hi - lo).toNat, ?_, fun b hb => ?_, q⟩
  · have e1 : lo + ((0 : Nat) : Int) * 1 = lo := by simp
    have e2 : (((hi - lo).toNat : Nat) : Int) - ((0 : Nat) : Int) = Builtin.Range.rangeSize lo hi 1 := by rw [rangeSize_one]; split <;> omega
    show IsRangeIter _ _ (lo + ((0 : Nat) : Int) * 1) ((((hi - lo).toNat : Nat) : Int) - ((0 : Nat) : Int)) 1
    rw [e1, e2]
    exact Heap.get?_push_size _ rfl
  · have e : b = (s.heap.push { cls := .type "range", data := .fields #[.int lo t, .int hi u, .int 1 v] }).objs.size := by simpa using hb
    subst e
    exact I1.fpOk (Nat.le_refl _) (I1.hok.fresh (Nat.le_refl _))
noncomputable def iRng1 (ta : TA) : TI := fun σ H R => ta σ H fun vs H1 => ∃ j : Int, vs = [.int j] ∧ -(2 ^ 62) ≤ j ∧ j < 2 ^ 62 ∧ R (Itr 0 j.toNat) H1
theorem pi_range1 {a : Expr} {ta : TA} {p pos : Pos} (hg : Gl X "range") (hm : X.mg "range" = none) (ha : PA X [a] ta) (hs : starEach [a] X.env = [(false, eval a X.env)] := by rfl) : PI X tg (.Call (.Name "range" p) [a] [] pos) (iRng1 ta) := by
  intro pins s σ H R I h
  refine Call_ (ld_blt I hg hm boot_range (PyProof.Rows.callWith_type1 (thn (ha pos pins s σ H _ I h) fun us s1 ⟨vs, H1, I1, r1, q1⟩ => ?_) hs rfl))
  obtain ⟨j, e, q1, q2, q⟩ := q1
  subst e
  cases r1 with
  | cons r rr =>
    cases rr
    obtain ⟨t, rfl⟩ := r
    exact call_range_1 (range_it I1 (by omega) (by omega) q1 q2 (by simpa using q))
noncomputable def tFor (wi : TI) (g : TG) (tb : TS) : TS := fun D σ H => wi σ H fun J H1 => ∃ W : Nat → Nat → St → Hp → Prop, (∃ m, W 0 m σ H1) ∧ ∀ i m σ H, W i m σ H →
  (J.stop i H ∧ D.nx σ H) ∨ (J.go i H ∧ ∃ N : St → Hp → Prop, (∀ σ' H', N σ' H' → ∃ m', m' < m ∧ W (i + 1) m' σ' H') ∧ ∀ x H', J.yld i H x H' → g x σ H' fun σ2 H2 => tb { D with nx := N, ct := N, bk := D.nx } σ2 H2)
noncomputable def pinsAt (fp : List Addr) (h : Heap) : List (Addr × Obj) := fp.filterMap fun b => (h.get? b).map fun o => (b, o)
theorem mem_pinsAt {fp : List Addr} {h : Heap} {b : Addr} {o : Obj} (hb : b ∈ fp) (e : h.get? b = some o) : (b, o) ∈ pinsAt fp h := List.mem_filterMap.mpr ⟨b, hb, by rw [e]; rfl⟩
theorem of_pinsAt {fp : List Addr} {h : Heap} {p : Addr × Obj} (hp : p ∈ pinsAt fp h) : p.1 ∈ fp ∧ h.get? p.1 = some p.2 := by
  obtain ⟨b, hb, e⟩ := List.mem_filterMap.mp hp
  cases q : h.get? b with
  | none => rw [q] at e; cases e
  | some o =>
    rw [q] at e
    have e' : (b, o) = p := Option.some.inj e
    subst e'
    exact ⟨hb, q⟩
theorem Inv.pinned {pins : List (Addr × Obj)} {σ : St} {H : Hp} {s : Shared} {fp : List Addr} (I : Inv X pins σ H s) (hf : ∀ b ∈ fp, FpOk X pins H b) (ho : ∀ b ∈ fp, ∃ o, s.heap.get? b = some o ∧ ∀ v, o.data ≠ .cell v) : Inv X (pins ++ pinsAt fp s.heap) σ H s :=
  I.pins_of fun p hp => (List.mem_append.mp hp).elim (fun z => I.pin p (List.mem_append_right _ z)) fun z => by
    obtain ⟨hb, e⟩ := of_pinsAt z
    obtain ⟨f0, f1, f2, _⟩ := hf p.1 hb
    obtain ⟨o, e', d⟩ := ho p.1 hb
    rw [e] at e'; cases e'
    exact ⟨e, f0, f1, f2, d⟩
theorem Inv.unpinned {pins pl : List (Addr × Obj)} {σ : St} {H : Hp} {s : Shared} (I : Inv X (pins ++ pl) σ H s) : Inv X pins σ H s := I.pins_of fun p hp => I.pin p (List.mem_append_right _ (List.mem_append_left _ hp))
theorem ps_for {iter : Expr} {body : List Stmt} {wi : TI} {g : TG} {tb : TS} {pos : Pos} (hp : PassesOwn (model X.prog X.w) X.A X.env X.xe) (hc : X.calm = true) (hi : PI X tg iter wi) (hg : PG X tg g) (hb : PSs X body tb)
    (hs : ∀ x, foldedSetIterable iter X.env x = pure x := by intro _; rfl) : PS X (.For tg iter body [] pos) (tFor wi g tb) := by
  intro pins s σ H D I h
  refine wpAny_For (thn (hi pins s σ H _ I h) fun v s1 h1 => thn h1 fun itv s2 h2 => ?_) hs
  obtain ⟨it, fp, tn, J, H2, e, I2, T, st2, f2, W, ⟨m0, w0⟩, turn⟩ := h2
  subst e
  have stat : ∀ {H' : Hp}, (∀ b ∈ fp, H' b = none) → ∀ b ∈ fp, FpOk X pins H' b := fun hn b hb => ⟨hn b hb, (f2 b hb).2⟩
  refine codeAny_forLoop_any (fun n s' => ∃ i σ' H', Inv X pins σ' H' s' ∧ tn i s'.heap ∧ (∀ b ∈ fp, H' b = none) ∧ W i n σ' H') ?_ m0 ⟨0, σ, H2, I2, st2, fun b hb => (f2 b hb).1, w0⟩
  rintro n s3 ⟨i, σ3, H3, I3, st3, fr3, w3⟩
  rcases turn i n σ3 H3 w3 with ⟨stop, qn⟩ | ⟨go, N, hN, step⟩
  · refine wpAny_passesOwn hp (thn (T.done X rfl rfl rfl hc i pins s3 σ3 H3 X.xe I3 (stat fr3) st3 stop) fun r s4 ⟨hr, I4⟩ => ?_)
    subst hr
    exact wpAny_execs_nil ⟨σ3, H3, I4, qn⟩
  · refine wpAny_passesOwn hp (thn (T.item X rfl rfl rfl hc i pins s3 σ3 H3 X.xe I3 (stat fr3) st3 go) fun r s4 ⟨u, hr, h4⟩ => ?_)
    subst hr
    refine wpAny_passesOwn hp (thn h4 fun _ s5 ⟨x, H5, I5, r5, y5, st5, fr5⟩ => ?_)
    have I5' := I5.pinned (stat fr5) (T.obj _ _ st5)
    refine wpAny_passesOwn hp (thn (hg _ s5 σ3 H5 x u _ I5' r5 (step x H5 y5)) fun _ s6 ⟨σ6, H6, I6, q6⟩ => ?_)
    refine wpAny_passesOwn hp (thn (hb _ s6 σ6 H6 _ I6 q6) fun f s7 q7 => ?_)
    have again : ∀ {σ7 : St} {H7 : Hp}, Inv X (pins ++ pinsAt fp s5.heap) σ7 H7 s7 → N σ7 H7 → ∃ m, m < n ∧ ∃ i σ' H', Inv X pins σ' H' s7 ∧ tn i s7.heap ∧ (∀ b ∈ fp, H' b = none) ∧ W i m σ' H' := fun {σ7 H7} I7 n7 => by
      obtain ⟨m', hm, w7⟩ := hN σ7 H7 n7
      refine ⟨m', hm, i + 1, σ7, H7, I7.unpinned, T.keep _ _ _ st5 fun b hb o e => (I7.pin (b, o) (List.mem_append_right _ (List.mem_append_right _ (mem_pinsAt hb e)))).1, fun b hb => ?_, w7⟩
      obtain ⟨o, e, d⟩ := T.obj _ _ st5 b hb
      exact (I7.pin (b, o) (List.mem_append_right _ (List.mem_append_right _ (mem_pinsAt hb e)))).2.1
    cases f with
    | next => obtain ⟨σ7, H7, I7, n7⟩ := q7; exact again I7 n7
    | cont => obtain ⟨σ7, H7, I7, n7⟩ := q7; exact again I7 n7
    | brk => obtain ⟨σ7, H7, I7, q7⟩ := q7; exact ⟨σ7, H7, I7.unpinned, q7⟩
    | ret v => obtain ⟨x7, σ7, H7, I7, r7, q7⟩ := q7; exact ⟨x7, σ7, H7, I7.unpinned, r7, q7⟩
end
end L2
namespace L2
open PySem PySem.Spec PyProof.Rows
noncomputable abbrev R2 := V → V → Hp → VK → Prop
noncomputable def OpR (X : Cx) (f : Value → Value → Sem Value) (r : R2) : Prop :=
  ∀ (pins : List (Addr × Obj)) (s : Shared) (σ : St) (H : Hp) (x y : V) (v u : Value) (Q : VK), Inv X pins σ H s → RelV x v → RelV y u → r x y H Q →
    wpAny (model X.prog X.w) X.A (f v u) (EP X pins σ Q) X.xe s
noncomputable def UnR (X : Cx) (f : Value → Sem Value) (r : V → Hp → VK → Prop) : Prop :=
  ∀ (pins : List (Addr × Obj)) (s : Shared) (σ : St) (H : Hp) (x : V) (v : Value) (Q : VK), Inv X pins σ H s → RelV x v → r x H Q →
    wpAny (model X.prog X.w) X.A (f v) (EP X pins σ Q) X.xe s
noncomputable def CallR (X : Cx) (f : Value) (r : List V → Hp → VK → Prop) : Prop :=
  ∀ (pins : List (Addr × Obj)) (s : Shared) (σ : St) (H : Hp) (xs : List V) (us : List Value) (Q : VK), Inv X pins σ H s → Vals xs us → r xs H Q →
    wpAny (model X.prog X.w) X.A (call f us) (EP X pins σ Q) X.xe s
noncomputable def TruR (X : Cx) (r : V → Hp → (Bool → Hp → Prop) → Prop) : Prop :=
  ∀ (pins : List (Addr × Obj)) (s : Shared) (σ : St) (H : Hp) (x : V) (v : Value) (Q : Bool → Hp → Prop), Inv X pins σ H s → RelV x v → r x H Q →
    wpAny (model X.prog X.w) X.A (truthy v) (TP X pins σ Q) X.xe s
noncomputable def tOp (r : R2) (ta tb : TE) : TE := fun σ H Q => ta σ H fun x H1 => tb σ H1 fun y H2 => r x y H2 Q
noncomputable def tUn (r : V → Hp → VK → Prop) (ta : TE) : TE := fun σ H Q => ta σ H fun x H1 => r x H1 Q
noncomputable def rI (C : Int → Int → Prop) (g : Int → Int → V) : R2 := fun x y H Q => ∃ i j, x = .int i ∧ y = .int j ∧ C i j ∧ Q (g i j) H
noncomputable def rI0 (g : Int → Int → V) : R2 := fun x y H Q => ∃ i j, x = .int i ∧ y = .int j ∧ Q (g i j) H
noncomputable def rU (g : Int → V) : V → Hp → VK → Prop := fun x H Q => ∃ i, x = .int i ∧ Q (g i) H
section
variable {X : Cx} {a b c : Expr} {ta tb tc : TE} {pos : Pos}
theorem binT (ha : PE X a ta) (hb : PE X b tb) {pins : List (Addr × Obj)} {s : Shared} {σ : St} {H : Hp} {R : V → V → Hp → Prop} (I : Inv X pins σ H s)
    (h : ta σ H fun x H1 => tb σ H1 fun y H2 => R x y H2) {Q : Value → Shared → Prop} {f : Value → Value → Sem Value}
    (hf : ∀ v u s2 x y H2, Inv X pins σ H2 s2 → RelV x v → RelV y u → R x y H2 → wpAny (model X.prog X.w) X.A (f v u) Q X.xe s2) :
    wpAny (model X.prog X.w) X.A (eval a X.env) (fun v s₁ => wpAny (model X.prog X.w) X.A (eval b X.env) (fun u s₂ => wpAny (model X.prog X.w) X.A (f v u) Q X.xe s₂) X.xe s₁) X.xe s := by
  refine thn (ha pins s σ H _ I h) fun v s1 ⟨x, H1, I1, r1, q1⟩ => ?_
  refine thn (hb pins s1 σ H1 _ I1 q1) fun u s2 ⟨y, H2, I2, r2, q2⟩ => ?_
  exact hf v u s2 x y H2 I2 r1 r2 q2
theorem pe_op {op : Operator} {r : R2} (ho : OpR X (binaryOp op) r) (ha : PE X a ta) (hb : PE X b tb) : PE X (.BinOp a op b pos) (tOp r ta tb) := by
  intro pins s σ H Q I h
  exact wpAny_BinOp (binT ha hb I h fun v u s2 x y H2 I2 rx ry q => ho pins s2 σ H2 x y v u Q I2 rx ry q)
theorem pe_un {op : UnaryOp} {r : V → Hp → VK → Prop} (ho : UnR X (unaryOp op) r) (ha : PE X a ta) : PE X (.UnaryOp op a pos) (tUn r ta) := by
  intro pins s σ H Q I h
  exact UnaryOp_ (thn (ha pins s σ H _ I h) fun v s1 ⟨x, H1, I1, r1, q1⟩ => ho pins s1 σ H1 x v Q I1 r1 q1)
theorem opI {f : Value → Value → Sem Value} {C : Int → Int → Prop} {g : Int → Int → Int}
    (rule : ∀ (i j : Int) (t u : Tok) (s : Shared) (Q : Value → Shared → Prop) (E : Value → Shared → Prop), C i j → Q (.int (g i j) s.toks) { s with toks := s.toks + 1 } → wpAny (model X.prog X.w) X.A (f (.int i t) (.int j u)) Q E s) :
    OpR X f (rI C fun i j => .int (g i j)) := by
  intro pins s σ H x y v u Q I rx ry h
  obtain ⟨i, j, rfl, rfl, hc, q⟩ := h
  obtain ⟨t, rfl⟩ := rx
  obtain ⟨t', rfl⟩ := ry
  exact rule i j t t' s _ _ hc ⟨.int (g i j), H, I.tok _, ⟨_, rfl⟩, q⟩
theorem opI0 {f : Value → Value → Sem Value} {g : Int → Int → Int}
    (rule : ∀ (i j : Int) (t u : Tok) (s : Shared) (Q : Value → Shared → Prop) (E : Value → Shared → Prop), Q (.int (g i j) s.toks) { s with toks := s.toks + 1 } → wpAny (model X.prog X.w) X.A (f (.int i t) (.int j u)) Q E s) :
    OpR X f (rI0 fun i j => .int (g i j)) := by
  intro pins s σ H x y v u Q I rx ry h
  obtain ⟨i, j, rfl, rfl, q⟩ := h
  obtain ⟨t, rfl⟩ := rx
  obtain ⟨t', rfl⟩ := ry
  exact rule i j t t' s _ _ ⟨.int (g i j), H, I.tok _, ⟨_, rfl⟩, q⟩
theorem opB0 {f : Value → Value → Sem Value} {g : Int → Int → Bool}
    (rule : ∀ (i j : Int) (t u : Tok) (s : Shared) (Q : Value → Shared → Prop) (E : Value → Shared → Prop), Q (.bool (g i j)) s → wpAny (model X.prog X.w) X.A (f (.int i t) (.int j u)) Q E s) :
    OpR X f (rI0 fun i j => .bl (g i j)) := by
  intro pins s σ H x y v u Q I rx ry h
  obtain ⟨i, j, rfl, rfl, q⟩ := h
  obtain ⟨t, rfl⟩ := rx
  obtain ⟨t', rfl⟩ := ry
  exact rule i j t t' s _ _ ⟨.bl (g i j), H, I, rfl, q⟩
noncomputable def CPow (i j : Int) : Prop := 0 ≤ j ∧ j ≤ 1000000 ∧ i.natAbs < 2 ^ 64
theorem two_pow_nn (k : Nat) : (0 : Int) ≤ 2 ^ k := by
  rw [two_pow_cast]
  exact Int.natCast_nonneg _
theorem op_add : OpR X (binaryOp .Add) (rI0 fun i j => .int (i + j)) := opI0 fun _ _ _ _ _ _ _ q => add_int q
theorem op_sub : OpR X (binaryOp .Sub) (rI0 fun i j => .int (i - j)) := opI0 fun _ _ _ _ _ _ _ q => sub_int q
theorem op_mod : OpR X (binaryOp .Mod) (rI (fun _ j => 0 < j) fun i j => .int (i % j)) := opI fun i j _ _ _ _ _ hc q => by
  have h1 : (0 : Int) < j := hc
  exact mod_int' (by omega) (by rw [Int.fmod_eq_emod_of_nonneg i (by omega)]; exact q)
theorem op_pow : OpR X (binaryOp .Pow) (rI CPow fun i j => .int (i ^ j.toNat)) := opI fun _ _ _ _ _ _ _ hc q => pow_int_small hc.1 hc.2.1 hc.2.2 q
theorem op_shl : OpR X (binaryOp .LShift) (rI CPow fun i j => .int (i * 2 ^ j.toNat)) := opI fun _ _ _ _ _ _ _ hc q => lshift_int_small hc.1 hc.2.1 hc.2.2 q
theorem op_shr : OpR X (binaryOp .RShift) (rI (fun _ j => 0 ≤ j) fun i j => .int (i / 2 ^ j.toNat)) := opI fun i j _ _ _ _ _ hc q =>
  rshift_int hc (by rw [Int.fdiv_eq_ediv_of_nonneg i (two_pow_nn _)]; exact q)
theorem op_and : OpR X (binaryOp .BitAnd) (rI0 fun i j => .int (Builtin.bitAnd i j)) := opI0 fun _ _ _ _ _ _ _ q => and_int q
theorem op_or : OpR X (binaryOp .BitOr) (rI0 fun i j => .int (Builtin.bitOr i j)) := opI0 fun _ _ _ _ _ _ _ q => or_int q
theorem iop_add : OpR X (inplaceOp .Add) (rI0 fun i j => .int (i + j)) := opI0 fun _ _ _ _ _ _ _ q => iadd_int q
theorem iop_or : OpR X (inplaceOp .BitOr) (rI0 fun i j => .int (Builtin.bitOr i j)) := opI0 fun _ _ _ _ _ _ _ q => ior_int q
theorem unI {f : Value → Sem Value} {g : Int → Int}
    (rule : ∀ (i : Int) (t : Tok) (s : Shared) (Q : Value → Shared → Prop) (E : Value → Shared → Prop), Q (.int (g i) s.toks) { s with toks := s.toks + 1 } → wpAny (model X.prog X.w) X.A (f (.int i t)) Q E s) :
    UnR X f (rU fun i => .int (g i)) := by
  intro pins s σ H x v Q I rx h
  obtain ⟨i, rfl, q⟩ := h
  obtain ⟨t, rfl⟩ := rx
  exact rule i t s _ _ ⟨.int (g i), H, I.tok _, ⟨_, rfl⟩, q⟩
theorem un_neg : UnR X (unaryOp .USub) (rU fun i => .int (-i)) := unI fun _ _ _ _ _ q => neg_int q
end
section
variable {X : Cx} {a b c : Expr} {ta tb tc : TE} {pos : Pos}
theorem fin_bl {pins : List (Addr × Obj)} {σ : St} {H : Hp} {s : Shared} {Q : VK} {k k' : Bool} (I : Inv X pins σ H s) (q : Q (.bl k) H) (e : k = k') : EP X pins σ Q (.bool k') s := by
  subst e
  exact ⟨.bl k, H, I, rfl, q⟩
theorem op_lt : OpR X (compareOp .Lt) (rI0 fun i j => .bl (decide (i < j))) := opB0 fun _ _ _ _ _ _ _ q => lt_int q
theorem op_le : OpR X (compareOp .LtE) (rI0 fun i j => .bl (decide (i ≤ j))) := opB0 fun _ _ _ _ _ _ _ q => le_int q
theorem op_gt : OpR X (compareOp .Gt) (rI0 fun i j => .bl (decide (j < i))) := opB0 fun _ _ _ _ _ _ _ q => gt_int q
theorem op_ge : OpR X (compareOp .GtE) (rI0 fun i j => .bl (decide (j ≤ i))) := opB0 fun _ _ _ _ _ _ _ q => ge_int q
theorem op_isN : OpR X (compareOp .Is) (fun x y H Q => y = .non ∧ Q (.bl (decide (x = .non))) H) := by
  intro pins s σ H x y v u Q I rx ry h
  obtain ⟨rfl, q⟩ := h
  cases ry
  refine is_none_gen (fin_bl I q ?_)
  cases x <;> first
    | (cases rx; rfl)
    | (obtain ⟨t, rfl⟩ := rx; rfl)
theorem OpR.or {f : Value → Value → Sem Value} {r r' : R2} (h : OpR X f r) (h' : OpR X f r') : OpR X f (fun x y H Q => r x y H Q ∨ r' x y H Q) := by
  intro pins s σ H x y v u Q I rx ry q
  rcases q with q | q
  · exact h pins s σ H x y v u Q I rx ry q
  · exact h' pins s σ H x y v u Q I rx ry q
theorem nomark (b : Expr) {op : CmpOp} (h : op ≠ .In := by decide) (h2 : op ≠ .NotIn := by decide) : behindInMarks op b = false := by
  have e1 : (op == CmpOp.In) = false := by cases op <;> first | rfl | exact absurd rfl h
  have e2 : (op == CmpOp.NotIn) = false := by cases op <;> first | rfl | exact absurd rfl h2
  cases b <;> simp [behindInMarks, e1, e2]
theorem pe_cmpR {op : CmpOp} {r : R2} (ho : OpR X (compareOp op) r) (ha : PE X a ta) (hb : PE X b tb) (hm : behindInMarks op b = false) : PE X (.Compare a [op] [b] pos) (tOp r ta tb) := by
  intro pins s σ H Q I h
  exact wpAny_Compare1 (binT ha hb I h fun v u s2 x y H2 I2 rx ry q => ho pins s2 σ H2 x y v u Q I2 rx ry q) hm
noncomputable def tTest (t : TE) : TT := fun σ H Q => t σ H fun x H' => ∃ k, x = .bl k ∧ Q k H'
theorem pt_cmpR {op : CmpOp} {r : R2} (ho : OpR X (compareOp op) r) (ha : PE X a ta) (hb : PE X b tb) (hm : behindInMarks op b = false) : PT X (.Compare a [op] [b] pos) (tTest (tOp r ta tb)) := by
  intro pins s σ H Q I h
  refine wpAny_isTrue_Compare1 (thn (ha pins s σ H _ I h) fun v s1 ⟨x, H1, I1, r1, q1⟩ => thn (hb pins s1 σ H1 _ I1 q1) fun u s2 ⟨y, H2, I2, r2, q2⟩ =>
    thn (ho pins s2 σ H2 x y v u _ I2 r1 r2 q2) fun c s3 ⟨z, H3, I3, r3, k, e, q3⟩ => ?_) hm
  subst e
  cases r3
  exact wpAny_truthy_bool ⟨H3, I3, q3⟩
noncomputable def TruV (K : PySem.W.Frag) (x : V) (H : Hp) (k : Bool) : Prop :=
  match x with
  | .non => k = false
  | .bl b => k = b
  | .int i => k = (i != 0)
  | .str y => y.length ≤ sizeLine ∧ k = ((y.length : Int) != 0)
  | .byt y => y.size ≤ sizeLine ∧ k = ((y.size : Int) != 0)
  | .ref p => (∃ xs, SqL K H p xs ∧ k = !xs.isEmpty) ∨ (∃ xs, SqT K H p xs ∧ k = !xs.isEmpty) ∨ ∃ kvs, H p = some (.dK kvs) ∧ k = !kvs.isEmpty
  | _ => False
theorem isEmpty_kv {κ : Type} {kvs : List (κ × V)} {vs : List (κ × Value)} (r : KV kvs vs) : (!vs.isEmpty) = !kvs.isEmpty := by
  cases r <;> rfl
theorem isEmpty_of {xs : List V} {its : List Value} (r : Vals xs its) : (!its.toArray.isEmpty) = !xs.isEmpty := by
  cases r <;> simp
theorem line63 : (sizeLine : Nat) < 2 ^ 63 := by rw [sizeLine_eq]; decide
theorem tru_ok : TruR X (fun x H Q => ∃ k, TruV X.K x H k ∧ Q k H) := by
  intro pins s σ H x v Q I rx h
  obtain ⟨k, e, q⟩ := h
  have hl := line63
  have hs : sizeLine = 16777216 := sizeLine_eq
  cases x with
  | non =>
    cases rx
    have e' : k = false := e
    subst e'
    exact truthy_none ⟨H, I, q⟩
  | bl b =>
    cases rx
    have e' : k = b := e
    subst e'
    exact wpAny_truthy_bool ⟨H, I, q⟩
  | int i =>
    obtain ⟨t, rfl⟩ := rx
    have e' : k = (i != 0) := e
    subst e'
    exact PySem.P.truthy_int ⟨H, I, q⟩
  | str y =>
    obtain ⟨t, rfl⟩ := rx
    obtain ⟨hy, e'⟩ : y.length ≤ sizeLine ∧ k = ((y.length : Int) != 0) := e
    subst e'
    exact PySem.P.truthy_str (by omega) ⟨H, I.tok _, q⟩
  | byt y =>
    obtain ⟨t, rfl⟩ := rx
    obtain ⟨hy, e'⟩ : y.size ≤ sizeLine ∧ k = ((y.size : Int) != 0) := e
    subst e'
    exact PySem.W.truthy_bytes (by omega) ⟨H, I.tok _, q⟩
  | ref p =>
    cases rx
    have e' : (∃ xs, SqL X.K H p xs ∧ k = !xs.isEmpty) ∨ (∃ xs, SqT X.K H p xs ∧ k = !xs.isEmpty) ∨ ∃ kvs, H p = some (.dK kvs) ∧ k = !kvs.isEmpty := e
    rcases e' with ⟨xs, hx, e'⟩ | ⟨xs, hx, e'⟩ | ⟨kvs, hx, e'⟩
    · subst e'
      obtain ⟨its, r, pl, hz⟩ := I.list hx
      have hlen := r.length
      exact wpAny_truthy_list pl.isList (by simp only [List.size_toArray]; omega) ⟨H, I.tok _, by rw [isEmpty_of r]; exact q⟩
    · subst e'
      obtain ⟨its, r, pl, hz⟩ := I.tuple hx
      have hlen := r.length
      exact truthy_tuple pl (by simp only [List.size_toArray]; omega) ⟨H, I.tok _, by rw [isEmpty_of r]; exact q⟩
    · subst e'
      obtain ⟨hz, hS, vs, r, m⟩ : kvs.length ≤ sizeLine ∧ (p == sysModules) = false ∧ ∃ vs, KV kvs vs ∧ s.heap.DictOf (mixKind X.prog X.w) p vs := I.hok p _ hx
      have hlen : kvs.length = vs.length := Paired.length r
      exact wpAny_truthy_dict hS m (by omega) ⟨H, I.tok _, by rw [isEmpty_kv r]; exact q⟩
  | _ => exact (show False from e).elim
theorem pt_truth (ha : PE X a ta) (he : ∀ whole, isTrue a X.env whole = (do let v ← whole; standAt a.pos; holding [v] (truthy v))) :
    PT X a (fun σ H Q => ta σ H fun x H' => ∃ k, TruV X.K x H' k ∧ Q k H') := by
  intro pins s σ H Q I h
  exact isTrue_plain (thn (ha pins s σ H _ I h) fun v s1 ⟨x, H1, I1, r1, q1⟩ => tru_ok pins s1 σ H1 x v Q I1 r1 q1) (he _)
theorem op_add_str : OpR X (binaryOp .Add) (fun x y H Q => ∃ i j, x = .str i ∧ y = .str j ∧ i.length + j.length ≤ sizeLine ∧ Q (.str (i ++ j)) H) := by
  intro pins s σ H x y v u Q I rx ry h
  obtain ⟨i, j, rfl, rfl, hz, q⟩ := h
  obtain ⟨t, rfl⟩ := rx
  obtain ⟨t', rfl⟩ := ry
  exact add_str (fun t' tk => ⟨.str (i ++ j), H, I.tok _, ⟨_, rfl⟩, q⟩) hz
theorem vals1 {x : V} {us : List Value} (r : Vals [x] us) : ∃ u, us = [u] ∧ RelV x u := by
  cases r with
  | cons r1 r2 => cases r2; exact ⟨_, rfl, r1⟩
theorem vals2 {x y : V} {us : List Value} (r : Vals [x, y] us) : ∃ u w', us = [u, w'] ∧ RelV x u ∧ RelV y w' := by
  cases r with
  | cons r1 r2 =>
    cases r2 with
    | cons r3 r4 => cases r4; exact ⟨_, _, rfl, r1, r3⟩
theorem call_abs : CallR X (.builtin "abs") (fun xs H Q => ∃ i, xs = [.int i] ∧ Q (.int (if i < 0 then -i else i)) H) := by
  intro pins s σ H xs us Q I r h
  obtain ⟨i, rfl, q⟩ := h
  obtain ⟨u, rfl, t, rfl⟩ := vals1 r
  exact call_abs_int fun u tk => ⟨.int (if i < 0 then -i else i), H, I.tok _, ⟨_, rfl⟩, q⟩
theorem call_max2 (hc : X.calm = true) : CallR X (.builtin "max") (fun xs H Q => ∃ i j, xs = [.int i, .int j] ∧ Q (.int (if j > i then j else i)) H) := by
  intro pins s σ H xs us Q I r h
  obtain ⟨i, j, rfl, q⟩ := h
  obtain ⟨u, w', rfl, ⟨t, rfl⟩, ⟨t', rfl⟩⟩ := vals2 r
  refine max_two_ints (I.ok.hd hc) fun h' tk k => ⟨_, H, I.kept k, ?_, q⟩
  by_cases hj : j > i
  · rw [if_pos hj, if_pos hj]; exact ⟨_, rfl⟩
  · rw [if_neg hj, if_neg hj]; exact ⟨_, rfl⟩
theorem call_min2 (hc : X.calm = true) : CallR X (.builtin "min") (fun xs H Q => ∃ i j, xs = [.int i, .int j] ∧ Q (.int (if j < i then j else i)) H) := by
  intro pins s σ H xs us Q I r h
  obtain ⟨i, j, rfl, q⟩ := h
  obtain ⟨u, w', rfl, ⟨t, rfl⟩, ⟨t', rfl⟩⟩ := vals2 r
  refine min_two_ints (I.ok.hd hc) fun h' tk k => ⟨_, H, I.kept k, ?_, q⟩
  by_cases hj : j < i
  · rw [if_pos hj, if_pos hj]; exact ⟨_, rfl⟩
  · rw [if_neg hj, if_neg hj]; exact ⟨_, rfl⟩
theorem call_int1 : CallR X (.type "int") (fun xs H Q => (∃ i, xs = [.int i] ∧ Q (.int i) H) ∨ ∃ k, xs = [.bl k] ∧ Q (.int (if k then 1 else 0)) H) := by
  intro pins s σ H xs us Q I r h
  rcases h with ⟨i, rfl, q⟩ | ⟨k, rfl, q⟩
  · obtain ⟨u, rfl, t, rfl⟩ := vals1 r
    exact call_int_int ⟨.int i, H, I, ⟨_, rfl⟩, q⟩
  · obtain ⟨u, rfl, r1⟩ := vals1 r
    cases r1
    exact call_int_bool ⟨.int (if k then 1 else 0), H, I.tok _, ⟨_, rfl⟩, q⟩
noncomputable def LenV (K : PySem.W.Frag) (x : V) (H : Hp) (n : Nat) : Prop :=
  match x with
  | .str y => y.length ≤ sizeLine ∧ n = y.length
  | .byt y => y.size ≤ sizeLine ∧ n = y.size
  | .ref p => (∃ xs, SqL K H p xs ∧ n = xs.length) ∨ ∃ xs, SqT K H p xs ∧ n = xs.length
  | _ => False
theorem call_len : CallR X (.builtin "len") (fun xs H Q => ∃ x n, xs = [x] ∧ LenV X.K x H n ∧ Q (.int n) H) := by
  intro pins s σ H xs us Q I r h
  obtain ⟨x, n, rfl, e, q⟩ := h
  obtain ⟨u, rfl, rx⟩ := vals1 r
  have hl := line63
  have hs : sizeLine = 16777216 := sizeLine_eq
  cases x with
  | str y =>
    obtain ⟨t, rfl⟩ := rx
    obtain ⟨hy, e'⟩ : y.length ≤ sizeLine ∧ n = y.length := e
    subst e'
    exact len_str (by omega) ⟨.int _, H, I.tok _, ⟨_, rfl⟩, q⟩
  | byt y =>
    obtain ⟨t, rfl⟩ := rx
    obtain ⟨hy, e'⟩ : y.size ≤ sizeLine ∧ n = y.size := e
    subst e'
    exact PySem.W.len_bytes (by omega) ⟨.int _, H, I.tok _, ⟨_, rfl⟩, q⟩
  | ref p =>
    cases rx
    have e' : (∃ xs, SqL X.K H p xs ∧ n = xs.length) ∨ ∃ xs, SqT X.K H p xs ∧ n = xs.length := e
    rcases e' with ⟨xs, hx, e'⟩ | ⟨xs, hx, e'⟩
    · subst e'
      obtain ⟨its, r', pl, hz⟩ := I.list hx
      have hlen := r'.length
      exact Calls.call_len_list pl.isList (by simp only [List.size_toArray]; omega) ⟨.int xs.length, H, I.tok _, ⟨_, by simp only [List.size_toArray]; rw [hlen]⟩, q⟩
    · subst e'
      obtain ⟨its, r', pl, hz⟩ := I.tuple hx
      have hlen := r'.length
      exact len_tuple pl (by simp only [List.size_toArray]; omega) ⟨.int xs.length, H, I.tok _, ⟨_, by simp only [List.size_toArray]; rw [hlen]⟩, q⟩
  | _ => exact (show False from e).elim
end
end L2
namespace L2
open PySem PySem.Spec PyProof.Rows
structure ObjM (h : Heap) (x dx C : Addr) (mA : Str → Option Value) : Prop where
  obj : h.get? x = some (PySem.W.instObj C dx)
  ns : h.Ns1 dx mA
  ne : dx ≠ x
theorem lookIn_ns {h : Heap} {dx : Addr} {mA : Str → Option Value} (n : h.Ns1 dx mA) : ∃ od, h.get? dx = some od ∧ ∀ name, PySem.W.lookIn name od = some (mA name) := by
  obtain ⟨o, es, ep, ho, hd, hk, _, hm⟩ := n
  refine ⟨o, ho, fun name => ?_⟩
  have e := hm name
  unfold nsFind findBy at e
  rw [← Array.find?_toList] at e
  unfold PySem.W.lookIn
  rw [hd]
  dsimp only
  split
  · rename_i y q
    rw [q] at e
    exact congrArg some e
  · rename_i q
    rw [q] at e
    have a : es.toList.any (·.refKey) = false := by
      rw [List.any_eq_false]
      intro y hy
      obtain ⟨z, t, hkey⟩ := hk y (Array.mem_toList_iff.mp hy)
      simp [DictEntry.refKey, hkey]
    have a' : ¬ es.toList.any (·.refKey) = true := by rw [a]; exact Bool.false_ne_true
    rw [if_neg a']
    exact congrArg some e
theorem ObjM.look {h : Heap} {x dx C : Addr} {mA : Str → Option Value} (I : ObjM h x dx C mA) : ∃ od, PySem.W.InstAt h x (PySem.W.instObj C dx) C (some od) ∧ ∀ name, PySem.W.lookIn name od = some (mA name) :=
  let ⟨od, ho, hl⟩ := lookIn_ns I.ns
  ⟨od, ⟨I.obj, rfl, rfl, ho⟩, hl⟩
section
variable {prog : Program} {w : World} {A : Around} {E : Value → Shared → Prop} {s : Shared} {K : PySem.W.Frag} {x dx C f : Addr} {mA : Str → Option Value} {name : Str} {v : Value}
theorem get_map {expr : Bool} {Q : Value → Shared → Prop} (X : K.In s.heap) (I : ObjM s.heap x dx C mA) (hg : PySem.W.plainGet K C name = true) (hh : PySem.W.hasDictIn K C = true)
    (ha : PySem.W.findIn K (.ref C) name = some none) (hv : mA name = some v) (hv' : PySem.W.handedIn v = true) (h : Q v { s with toks := s.toks + 1 }) :
    wpAny (model prog w) A (getAttr (.ref x) name expr) Q E s := by
  obtain ⟨od, J, hl⟩ := I.look
  exact PySem.W.get_value X J (PySem.W.plainGet_of hg).1 (PySem.W.findObj_own hh ha rfl (by rw [hl, hv])) hv' h
theorem get_meth {pl : Sem Bool} {Q : Value × List Value → Shared → Prop} (X : K.In s.heap) (I : ObjM s.heap x dx C mA) (hg : PySem.W.plainGet K C name = true)
    (hf : PySem.W.findIn K (.ref C) name = some (some (.ref f))) (ht : PySem.W.isFn K (.ref f) = true) (hv : mA name = none) (h : Q (.ref f, [.ref x]) s) :
    wpAny (model prog w) A (getMethod (.ref x) name pl) Q E s := by
  obtain ⟨od, J, hl⟩ := I.look
  exact PySem.W.method_fn X J (PySem.W.plainGet_of hg).1 (PySem.W.plainGet_of hg).2 hf (beq_iff_eq.mp ht) (by show (PySem.W.lookIn name od).map (·.isSome) = some false; rw [hl, hv]; rfl) h
theorem set_map {ns : List Str} {Q : Unit → Shared → Prop} (X : K.In s.heap) (I : ObjM s.heap x dx C mA)
    (hs : PySem.W.findIn K (.ref C) "__setattr__" = some (some (.builtin "object.__setattr__"))) (hp : PySem.W.plainOver K C = true) (ht : PySem.W.takerIn K C name = some none) (hh : PySem.W.hasDictIn K C = true)
    (hw : PySem.Within mA ns) (hsz : ns.length ≤ sizeLine)
    (h : ∀ h', ObjM h' x dx C (fun y => if y = name then some v else mA y) → Heap.SameBut dx s.heap h' → Q () { s with heap := h', toks := s.toks + 2 }) :
    wpAny (model prog w) A (setAttr (.ref x) name v) Q E s := by
  obtain ⟨od, J, hl⟩ := I.look
  refine PySem.W.set_plain X J hs (PySem.W.osa_open (s := { s with toks := s.toks + 1 }) (r := none) X J hp ht fun b => ?_)
  obtain ⟨cd, hc, hd'⟩ := PySem.W.any_some hh
  have hx : s.heap.get? x = some ⟨.ref C, some dx, .plain, #[]⟩ := I.obj
  refine wpAny_bind (wpAny_pure (wpAny_bind (wpAny_bind (wpAny_loadPart hx (wpAny_bind (PySem.W.Looks.here (s := { s with toks := s.toks + 1 }) (PySem.W.looks_clsIn X hc) ?_))))))
  rw [hd']
  refine wpAny_pure (a := some dx) (wpAny_bind (wpAny_pure (wpAny_bind ?_)))
  refine wpAny_nsSet1 (s := { s with toks := s.toks + 1 }) I.ns fun h' hn2 hs2 => ?_
  obtain ⟨oD, esD, epD, hoD, hdD, hcD⟩ := hn2.count (PySem.Within.cons name v hw)
  refine wpAny_bind (wpAny_lookBehind hoD (by rw [hdD]; exact pastItsLine_dict (Nat.le_trans hcD (by rw [List.length_cons]; omega))) ?_)
  exact wpAny_pure (h _ ⟨(hs2.2 _ (Ne.symm I.ne)).trans I.obj, hn2, I.ne⟩ hs2)
theorem make_map {R : Result → Shared → Prop} {vs : List Value} {kw : List (Str × Value)} (X : K.In s.heap) (hm : PySem.W.makesIn K C = true)
    (hi : PySem.W.findIn K (.ref C) "__init__" = some (some (.ref f))) (hf : PySem.W.typeIn K (.ref f) = some (.type "function"))
    (h : codeAny (model prog w) (A.under (.builtin "type.__call__" ⟨.ref C :: vs, kw⟩)) (.call (.ref f) ⟨.ref (s.heap.objs.size + 1) :: vs, kw⟩) (PySem.W.InitBack (s.heap.objs.size + 1) R)
      { s with heap := (s.heap.push PySem.W.emptyDict).push (PySem.W.instObj C s.heap.objs.size) }) :
    codeAny (model prog w) A (.call (.ref C) ⟨vs, kw⟩) R s := by
  obtain ⟨hh, g, d, t, os⟩ := s
  exact PySem.W.make_core (PySem.W.makes_of X hm) (PySem.W.looks_findIn X hi) (fun self => PySem.W.bind_fn X self hf) (.inl rfl) h
end
noncomputable def putF (f : Str) (v : V) : List (Str × V) → List (Str × V)
  | [] => [(f, v)]
  | (g, x) :: r => if g = f then (g, v) :: r else (g, x) :: putF f v r
theorem lookup_putF (f g : Str) (v : V) : ∀ fs : List (Str × V), (putF f v fs).lookup g = if g = f then some v else fs.lookup g
  | [] => by
    show List.lookup g [(f, v)] = _
    by_cases h : g = f
    · have hb : (g == f) = true := beq_iff_eq.mpr h
      simp only [List.lookup, hb, if_pos h]
    · have hb : (g == f) = false := beq_eq_false_iff_ne.mpr h
      simp only [List.lookup, hb, if_neg h]
  | (k, x) :: r => by
    have ih := lookup_putF f g v r
    rw [show putF f v ((k, x) :: r) = (if k = f then (k, v) :: r else (k, x) :: putF f v r) from rfl]
    by_cases hk : k = f
    · rw [if_pos hk]
      by_cases h : g = k
      · have hb : (g == k) = true := beq_iff_eq.mpr h
        simp only [List.lookup, hb, if_pos (h.trans hk)]
      · have hb : (g == k) = false := beq_eq_false_iff_ne.mpr h
        simp only [List.lookup, hb, if_neg (fun e : g = f => h (e.trans hk.symm))]
    · rw [if_neg hk]
      by_cases h : g = k
      · have hb : (g == k) = true := beq_iff_eq.mpr h
        simp only [List.lookup, hb, if_neg (fun e : g = f => hk (h.symm.trans e))]
      · have hb : (g == k) = false := beq_eq_false_iff_ne.mpr h
        simp only [List.lookup, hb]
        exact ih
theorem keys_putF (f : Str) (v : V) : ∀ fs : List (Str × V), f ∈ (putF f v fs).map (·.1) ∧ ∀ g, g ∈ fs.map (·.1) → g ∈ (putF f v fs).map (·.1)
  | [] => ⟨by simp [putF], fun g h => by simp at h⟩
  | (k, x) :: r => by
    obtain ⟨i1, i2⟩ := keys_putF f v r
    rw [show putF f v ((k, x) :: r) = (if k = f then (k, v) :: r else (k, x) :: putF f v r) from rfl]
    by_cases hk : k = f
    · rw [if_pos hk]
      subst hk
      exact ⟨by simp, fun g h => by simpa using h⟩
    · rw [if_neg hk]
      refine ⟨?_, fun g h => ?_⟩
      · rw [List.map_cons]
        exact List.mem_cons_of_mem _ i1
      · rw [List.map_cons] at h ⊢
        rcases List.mem_cons.mp h with e | e
        · exact List.mem_cons.mpr (.inl e)
        · exact List.mem_cons_of_mem _ (i2 g e)
theorem length_putF (f : Str) (v : V) : ∀ fs : List (Str × V), (putF f v fs).length ≤ fs.length + 1
  | [] => by simp [putF]
  | (k, x) :: r => by
    have ih := length_putF f v r
    rw [show putF f v ((k, x) :: r) = (if k = f then (k, v) :: r else (k, x) :: putF f v r) from rfl]
    by_cases hk : k = f
    · rw [if_pos hk, List.length_cons, List.length_cons]; omega
    · rw [if_neg hk, List.length_cons, List.length_cons]; omega
theorem RelO.some_of {v : V} {o : Option Value} (r : RelO (some v) o) : ∃ u, o = some u ∧ RelV v u := by
  cases o with
  | none => exact (show False from r).elim
  | some u => exact ⟨u, rfl, r⟩
theorem RelO.none_of {o : Option Value} (r : RelO none o) : o = none := by
  cases o with
  | none => rfl
  | some u => exact (show False from r).elim
theorem handed_of {v : V} {u : Value} (r : RelV v u) : PySem.W.handedIn u = true := by
  cases v with
  | non => cases (show u = Value.none from r); rfl
  | bl b => cases (show u = Value.bool b from r); rfl
  | int i => obtain ⟨t, e⟩ := (show ∃ t, u = Value.int i t from r); cases e; rfl
  | str x => obtain ⟨t, e⟩ := (show ∃ t, u = Value.str x t from r); cases e; rfl
  | byt b => obtain ⟨t, e⟩ := (show ∃ t, u = Value.bytes b t from r); cases e; rfl
  | flt b => obtain ⟨t, e⟩ := (show ∃ t, u = Value.float b t from r); cases e; rfl
  | ref a => cases (show u = Value.ref a from r); rfl
  | ty n => cases (show u = Value.type n from r); rfl
section
variable {P : Program} {w : World} {H H' : Hp} {h h' : Heap} {a C dx : Addr} {fs fs' : List (Str × V)}
theorem ins_get (hok : HOk P w H h) (e : H a = some (.ins C dx fs)) : ∃ mA, ObjM h a dx C mA ∧ (∀ f, RelO (fs.lookup f) (mA f)) ∧ PySem.Within mA (fs.map (·.1)) ∧ fs.length ≤ 1000 ∧ H dx = some (.own a) := by
  obtain ⟨d, z, ne, ob, mA, n, r, q⟩ := (show ObjOk P w H h a (.ins C dx fs) from hok a _ e)
  exact ⟨mA, ⟨ob, n, ne⟩, r, q, z, d⟩
end
structure Cls (K : PySem.W.Frag) (C : Addr) : Prop where
  pg : PySem.W.plainGet K C Str.empty = true
  hd : PySem.W.hasDictIn K C = true
  po : PySem.W.plainOver K C = true
  sa : PySem.W.findIn K (.ref C) "__setattr__" = some (some (.builtin "object.__setattr__"))
theorem Cls.get {K : PySem.W.Frag} {C : Addr} (c : Cls K C) (f : Str) : PySem.W.plainGet K C f = true := c.pg
noncomputable def NoAttr (K : PySem.W.Frag) (C : Addr) (f : Str) : Prop := PySem.W.findIn K (.ref C) f = some none
theorem NoAttr.taker {K : PySem.W.Frag} {C : Addr} {f : Str} (n : NoAttr K C f) : PySem.W.takerIn K C f = some none := by
  unfold PySem.W.takerIn
  rw [show PySem.W.findIn K (.ref C) f = some none from n]
  rfl
structure Meth (K : PySem.W.Frag) (C : Addr) (m : Str) (f : Addr) : Prop where
  at_ : PySem.W.findIn K (.ref C) m = some (some (.ref f))
  fn : PySem.W.isFn K (.ref f) = true
  kp : PySem.W.keepIn K (.ref f) = true
section
variable {X : Cx} {pins : List (Addr × Obj)} {σ : St} {H : Hp} {s : Shared} {a C dx : Addr} {fs : List (Str × V)} {f : Str} {v : V} {A : Around} {E : Value → Shared → Prop}
theorem getattr_ok {b : Bool} {Q : Value → Shared → Prop} (I : Inv X pins σ H s) (e : H a = some (.ins C dx fs)) (c : Cls X.K C) (n : NoAttr X.K C f) (l : fs.lookup f = some v)
    (h : ∀ u s', Inv X pins σ H s' → RelV v u → Q u s') : wpAny (model X.prog X.w) A (getAttr (.ref a) f b) Q E s := by
  obtain ⟨mA, O, r, _, _, _⟩ := ins_get I.hok e
  obtain ⟨u, hu, ru⟩ := RelO.some_of (v := v) (o := mA f) (by rw [← l]; exact r f)
  exact get_map I.kIn O (c.get f) c.hd n hu (handed_of ru) (h u _ (I.tok _) ru)
theorem getmeth_ok {m : Str} {g : Addr} {pl : Sem Bool} {Q : Value × List Value → Shared → Prop} (I : Inv X pins σ H s) (e : H a = some (.ins C dx fs)) (c : Cls X.K C) (k : Meth X.K C m g) (l : fs.lookup m = none)
    (h : Q (.ref g, [.ref a]) s) : wpAny (model X.prog X.w) A (getMethod (.ref a) m pl) Q E s := by
  obtain ⟨mA, O, r, _, _, _⟩ := ins_get I.hok e
  have hn : mA m = none := RelO.none_of (by rw [← l]; exact r m)
  exact get_meth I.kIn O (c.get m) k.at_ k.fn hn h
theorem setattr_ok {y : V} {u : Value} {Q : Unit → Shared → Prop} (I : Inv X pins σ H s) (e : H a = some (.ins C dx fs)) (c : Cls X.K C) (n : NoAttr X.K C f) (hl : fs.length < 1000) (ry : RelV y u)
    (h : ∀ s', Inv X pins σ (upd H a (.ins C dx (putF f y fs))) s' → Q () s') : wpAny (model X.prog X.w) A (setAttr (.ref a) f u) Q E s := by
  obtain ⟨mA, O, r, wi, _, ho⟩ := ins_get I.hok e
  have hz : (fs.map (·.1)).length ≤ sizeLine := by rw [List.length_map, sizeLine_eq]; omega
  refine set_map I.kIn O c.sa c.po n.taker c.hd wi hz fun h' O' sb => h _ ?_
  have hd : ∃ o, h'.get? dx = some o := let ⟨o, _, _, e', _⟩ := O'.ns; ⟨o, e'⟩
  refine I.write (x := a) (e := dx) (by rw [e]; exact True.intro) (.inr ho) (fun b q hb z => (sb.2 b hb).trans z) hd ?_
  refine ⟨by rw [upd_ne O.ne]; exact ho, ?_, O.ne, O'.obj, _, O'.ns, fun g => ?_, fun g hg => ?_⟩
  · have := length_putF f y fs; omega
  · show RelO ((putF f y fs).lookup g) (if g = f then some u else mA g)
    rw [lookup_putF]
    by_cases q : g = f
    · rw [if_pos q, if_pos q]; exact ry
    · rw [if_neg q, if_neg q]; exact r g
  · by_cases q : g = f
    · rw [q]; exact (keys_putF f y fs).1
    · refine (keys_putF f y fs).2 g (wi g fun z => hg ?_)
      show (if g = f then some u else mA g) = none
      rw [if_neg q]; exact z
theorem Inv.made (I : Inv X pins σ H s) : Inv X pins σ (upd (upd H s.heap.objs.size (.own (s.heap.objs.size + 1))) (s.heap.objs.size + 1) (.ins C s.heap.objs.size []))
    { s with heap := (s.heap.push PySem.W.emptyDict).push (PySem.W.instObj C s.heap.objs.size) } := by
  have e1 : (s.heap.push PySem.W.emptyDict).get? s.heap.objs.size = some PySem.W.emptyDict := Heap.get?_push_size s.heap rfl
  have e2 : ((s.heap.push PySem.W.emptyDict).push (PySem.W.instObj C s.heap.objs.size)).get? (s.heap.objs.size + 1) = some (PySem.W.instObj C s.heap.objs.size) := by
    have := Heap.get?_push_size (s.heap.push PySem.W.emptyDict) (o := PySem.W.instObj C s.heap.objs.size) rfl
    rwa [Heap.size_push] at this
  have e3 : (s.heap.push PySem.W.emptyDict).Ns s.heap.objs.size (fun _ => none) := ⟨PySem.W.emptyDict, #[], _, e1, rfl, (fun e he => absurd he (by simp)), fun _ => rfl⟩
  have I1 := I.laid (a := s.heap.objs.size) (o := .own (s.heap.objs.size + 1)) (h' := s.heap.push PySem.W.emptyDict) (t' := s.toks) (fun b u q => Heap.get?_push_of_some _ q) (Nat.le_refl _) ⟨_, e1⟩
  refine I1.laid (a := s.heap.objs.size + 1) (o := .ins C s.heap.objs.size []) (t' := s.toks) (fun b u q => Heap.get?_push_of_some _ q) (Nat.le_of_eq (Heap.size_push _ _)) ?_
  have ne : s.heap.objs.size ≠ s.heap.objs.size + 1 := Nat.ne_of_lt (Nat.lt_succ_self _)
  refine ⟨by rw [upd_ne ne, upd_same], Nat.zero_le _, ne, e2, fun _ => none, (Heap.Ns1.of_empty e3).at fun o q => Heap.get?_push_of_some _ q, fun _ => True.intro, fun y hy => absurd rfl hy⟩
theorem attr_of {prog : Program} {w : World} {env : Env} {e : Expr} {f : Str} {pos : Pos} {s : Shared} {Q : Value → Shared → Prop} (hb : attributeBase e f env (eval e env) = eval e env)
    (h : wpAny (model prog w) A (eval e env) (fun o s₁ => wpAny (model prog w) A (getAttr o f true) Q E s₁) E s) : wpAny (model prog w) A (eval (.Attribute e f pos) env) Q E s :=
  Attribute_any_ h (by rw [arm_eval_Attribute, hb])
end
noncomputable def tFld (K : PySem.W.Frag) (ta : TE) (f : Str) : TE := fun σ H Q => ta σ H fun x H1 => ∃ a C dx fs v, x = .ref a ∧ H1 a = some (.ins C dx fs) ∧ Cls K C ∧ NoAttr K C f ∧ fs.lookup f = some v ∧ Q v H1
noncomputable def sFld (K : PySem.W.Frag) (ta tv : TE) (f : Str) : TS := fun D σ H => tv σ H fun y H1 => ta σ H1 fun x H2 => ∃ a C dx fs, x = .ref a ∧ H2 a = some (.ins C dx fs) ∧ Cls K C ∧ NoAttr K C f ∧ fs.length < 1000 ∧
  D.nx σ (upd H2 a (.ins C dx (putF f y fs)))
noncomputable def InOp (X : Cx) (op : Operator) (rd : V → V → Hp → VK → Prop) : Prop :=
  ∀ (pins : List (Addr × Obj)) (s : Shared) (σ : St) (H : Hp) (x y : V) (u v : Value) (Q : VK), Inv X pins σ H s → RelV x u → RelV y v → rd x y H Q → wpAny (model X.prog X.w) X.A (inplaceOp op u v) (EP X pins σ Q) X.xe s
noncomputable def sFldAug (K : PySem.W.Frag) (ta tv : TE) (rd : V → V → Hp → VK → Prop) (f : Str) : TS := fun D σ H => ta σ H fun x H1 => ∃ a C dx fs v, x = .ref a ∧ H1 a = some (.ins C dx fs) ∧ Cls K C ∧ NoAttr K C f ∧ fs.lookup f = some v ∧
  tv σ H1 fun y H2 => rd v y H2 fun z H3 => ∃ dx' fs', H3 a = some (.ins C dx' fs') ∧ fs'.length < 1000 ∧ D.nx σ (upd H3 a (.ins C dx' (putF f z fs')))
section
variable {X : Cx} {o e value : Expr} {f : Str} {pos pos' tpos : Pos} {ta tv : TE}
theorem pe_fld (he : PE X e ta) (hb : attributeBase e f X.env (eval e X.env) = eval e X.env) : PE X (.Attribute e f pos) (tFld X.K ta f) := by
  intro pins s σ H Q I h
  refine attr_of hb (thn (he pins s σ H _ I h) fun u s1 ⟨x, H1, I1, rx, a, C, dx, fs, v, ex, ea, c, n, l, q⟩ => ?_)
  subst ex
  obtain rfl : u = Value.ref a := rx
  exact getattr_ok I1 ea c n l fun u' s2 I2 ru => ⟨v, H1, I2, ru, q⟩
theorem ps_fld (ha : PE X o ta) (hv : PE X value tv) (hs : swapsWith value (some (.Attribute o f pos')) pos.line X.env = pure false) : PS X (.Assign [.Attribute o f pos'] value pos) (sFld X.K ta tv f) := by
  intro pins s σ H D I h
  refine plainObj_wpAny_Assign_Attribute (thn (hv pins s σ H _ I h) fun u s1 ⟨y, H1, I1, ry, q⟩ => thn (ha pins s1 σ H1 _ I1 q) fun ov s2 ⟨x, H2, I2, rx, a, C, dx, fs, ex, ea, c, n, l, q2⟩ => ?_) hs
  subst ex
  obtain rfl : ov = Value.ref a := rx
  exact setattr_ok I2 ea c n l ry fun s3 I3 => ⟨σ, _, I3, q2⟩
theorem ps_fldaug {op : Operator} {rd : V → V → Hp → VK → Prop} (ha : PE X o ta) (hv : PE X value tv) (hop : InOp X op rd) : PS X (.AugAssign (.Attribute o f tpos) op value pos) (sFldAug X.K ta tv rd f) := by
  intro pins s σ H D I h
  refine wpAny_AugAssign_AttributeAny (thn (ha pins s σ H _ I h) fun ov s1 ⟨x, H1, I1, rx, a, C, dx, fs, v, ex, ea, c, n, l, q⟩ => ?_)
  subst ex
  obtain rfl : ov = Value.ref a := rx
  refine getattr_ok I1 ea c n l fun u s2 I2 ru => thn (hv pins s2 σ H1 _ I2 q) fun w3 s3 ⟨y, H2, I3, ry, q3⟩ => thn (hop pins s3 σ H2 v y u w3 _ I3 ru ry q3) fun w4 s4 ⟨z, H3, I4, rz, dx', fs', ea', l', q4⟩ => ?_
  exact setattr_ok I4 ea' c n l' rz fun s5 I5 => ⟨σ, _, I5, q4⟩
theorem methcall_of {pl : Sem Bool} {m : Str} {apos : Pos} {args : List Expr} {pins : List (Addr × Obj)} {s : Shared} {σ : St} {H : Hp} {Q : Value → Shared → Prop} {te : TE} (he : PE X e te) (I : Inv X pins σ H s)
    (h : te σ H fun x H1 => ∃ a C dx fs g, x = .ref a ∧ H1 a = some (.ins C dx fs) ∧ Cls X.K C ∧ Meth X.K C m g ∧ fs.lookup m = none ∧
      ∀ s1, Inv X pins σ H1 s1 → wpAny (model X.prog X.w) X.A (callWith pos (.ref g) [.ref a] (backTo pos (starEach args X.env)) (backToKw pos (keywordEach [] X.env))) Q X.xe s1)
    (ht : eval (.Call (.Attribute e m apos) args [] pos) X.env = (do
      let ov ← eval e X.env
      standAt apos.atName
      let (f, first) ← holding [ov] (getMethod ov m pl)
      callWith pos f first (backTo pos (starEach args X.env)) (backToKw pos (keywordEach [] X.env)))) :
    wpAny (model X.prog X.w) X.A (eval (.Call (.Attribute e m apos) args [] pos) X.env) Q X.xe s := by
  refine PySem.W.methodCall_KW (pl := pl) (thn (he pins s σ H _ I h) fun u s1 ⟨x, H1, I1, rx, a, C, dx, fs, g, ex, ea, c, k, l, q⟩ => ?_) ht
  subst ex
  obtain rfl : u = Value.ref a := rx
  exact getmeth_ok I1 ea c k l (q s1 I1)
end
section
variable {X : Cx} {pins : List (Addr × Obj)} {σ : St} {H : Hp} {s : Shared} {A : Around} {E : Value → Shared → Prop} {Q : Value → Shared → Prop} {c : Value} {b : Bool}
end
end L2
namespace L2
open PySem PySem.Spec PyProof.Rows
structure Room (k : Nat) (A : Around) : Prop where
  hd : A.handled = none
  dp : A.depth + 3 * k + 5 < recursionLimit
  un : A.units + 16 * k + 200 < cLine
theorem Room.mono {j k : Nat} {A : Around} (r : Room k A) (h : j ≤ k) : Room j A := ⟨r.hd, by have := r.dp; omega, by have := r.un; omega⟩
theorem Room.deeper {k : Nat} {A : Around} (r : Room (k + 1) A) (env : Env) : Room k (A.deeper env) :=
  ⟨r.hd, by have := r.dp; show A.depth + 1 + 3 * k + 5 < _; omega, by have := r.un; show A.units + 3 + 16 * k + 200 < _; omega⟩
theorem make_depth {A : Around} {C : Addr} {us : List Value} {kw : List (Str × Value)} : (A.under (.builtin "type.__call__" ⟨.ref C :: us, kw⟩)).depth = A.depth + 1 := by
  first | rfl | simp [Around.under, Code.weight, Code.isCreation, Code.isGuard, Code.isCaller, Code.frames, Code.isFrame, guardIds]
theorem make_units {A : Around} {C : Addr} {us : List Value} {kw : List (Str × Value)} : (A.under (.builtin "type.__call__" ⟨.ref C :: us, kw⟩)).units = A.units + 1 := by
  first | rfl | simp [Around.under, Code.cUnits, Code.frames, Code.isFrame]
theorem Room.make {k : Nat} {A : Around} (r : Room (k + 1) A) (C : Addr) (us : List Value) (kw : List (Str × Value)) : Room k (A.under (.builtin "type.__call__" ⟨.ref C :: us, kw⟩)) :=
  ⟨r.hd, by have := r.dp; rw [make_depth]; omega, by have := r.un; rw [make_units]; omega⟩
theorem Room.depth {k : Nat} {A : Around} (r : Room k A) : A.depth < recursionLimit := by have := r.dp; omega
theorem Room.units {k : Nat} {A : Around} (r : Room k A) : A.units + 64 < cLine := by have := r.un; omega
noncomputable def tNil : TA := fun _ H Q => Q [] H
noncomputable def tCons (ta : TE) (tr : TA) : TA := fun σ H Q => ta σ H fun x H1 => tr σ H1 fun xs H2 => Q (x :: xs) H2
section
variable {X : Cx} {e : Expr} {es : List Expr} {te : TE} {t : TA} {pos : Pos}
theorem pa_nil : PA X [] tNil := fun _ _ _ _ H Q I h => Calls.spliced_nil ⟨[], H, I, .nil, h⟩
theorem pa_cons (ha : PE X e te) (hr : PA X es t) (hs : starEach (e :: es) X.env = (false, eval e X.env) :: starEach es X.env := by rfl) : PA X (e :: es) (tCons te t) := by
  intro pos pins s σ H Q I h
  rw [hs]
  show wpAny _ _ (spliced ((false, eval e X.env) :: backTo pos (starEach es X.env))) _ _ s
  refine Calls.spliced_cons (thn (ha pins s σ H _ I h) fun u s1 ⟨x, H1, I1, r1, q1⟩ => ?_)
  exact thn (hr pos pins s1 σ H1 _ I1 q1) fun us s2 ⟨xs, H2, I2, r2, q2⟩ => ⟨x :: xs, H2, I2, .cons r1 r2, q2⟩
noncomputable def tTup (t : TA) : TE := fun σ H Q => t σ H fun xs H1 => xs.length ≤ sizeLine ∧ ∀ p, H1 p = none → Q (.ref p) (upd H1 p (.tup xs))
noncomputable def tLst (t : TA) : TE := fun σ H Q => t σ H fun xs H1 => xs.length ≤ sizeLine ∧ ∀ p, H1 p = none → Q (.ref p) (upd H1 p (.lst xs))
theorem pe_tup {x1} (h : PA X es t) : PE X (.Tuple es x1 pos) (tTup t) := by
  intro pins s σ H Q I hq
  refine wpAny_Tuple_spliced (thn (h pos pins s σ H _ I hq) fun us s1 ⟨xs, H1, I1, r, z, q⟩ => ⟨by rw [← r.length]; exact z, ?_⟩)
  have hf : H1 s1.heap.objs.size = none := I1.hok.fresh (Nat.le_refl _)
  refine ⟨.ref s1.heap.objs.size, upd H1 s1.heap.objs.size (.tup xs), I1.laid (t' := s1.toks) (fun b u e => Heap.get?_push_of_some _ e) (Nat.le_refl _) ?_, rfl, q _ hf⟩
  exact ⟨z, us, r, ⟨_, Heap.get?_push_size _ rfl, rfl, _, rfl⟩⟩
theorem pe_lst (h : PA X es t) : PE X (.List es pos) (tLst t) := by
  intro pins s σ H Q I hq
  refine wpAny_List_spliced (thn (h pos pins s σ H _ I hq) fun us s1 ⟨xs, H1, I1, r, z, q⟩ => ⟨by rw [← r.length]; exact z, ?_⟩)
  have hf : H1 s1.heap.objs.size = none := I1.hok.fresh (Nat.le_refl _)
  refine ⟨.ref s1.heap.objs.size, upd H1 s1.heap.objs.size (.lst xs), I1.laid (t' := s1.toks) (fun b u e => Heap.get?_push_of_some _ e) (Nat.le_refl _) ?_, rfl, q _ hf⟩
  exact ⟨z, us, 0, r, Heap.get?_push_size _ rfl⟩
end
noncomputable abbrev Sp := List V → Hp → VK → XK → Prop
noncomputable abbrev CXT := List Env → Hp → Shared → XK → Value → Shared → Prop
structure Env0 (P : Program) (w : World) (K : PySem.W.Frag) (mg : Str → Option Value) (base : Heap) (A : Around) (outer : List Env) (s : Shared) (H : Hp) : Prop where
  frames : A.frames = some outer
  mod : Mod K mg base
  bs : ∀ b o, base.get? b = some o → s.heap.get? b = some o ∧ H b = none
  bsz : base.objs.size ≤ s.heap.objs.size
  funs : s.heap.FunFrames base outer
  frf : ∀ b ∈ frs outer, H b = none
  hok : HOk P w H s.heap
  bare : AllBare s.gens
noncomputable def CE (outer : List Env) (P : Program) (w : World) (H : Hp) (s : Shared) (Q : VK) (u : Value) (s' : Shared) : Prop :=
  ∃ v H', s'.os = s.os ∧ AllBare s'.gens ∧ Un (frs outer) [] H H' s.heap s'.heap ∧ HOk P w H' s'.heap ∧ RelV v u ∧ Q v H'
noncomputable def CR (CX : CXT) (outer : List Env) (P : Program) (w : World) (H : Hp) (s : Shared) (Q : VK) (E : XK) (r : Result) (s' : Shared) : Prop :=
  match r with
  | .ok (.ret u) => CE outer P w H s Q u s'
  | .ok _ => False
  | .error e => CX outer H s E e s'
structure FnOk (P : Program) (w : World) (K : PySem.W.Frag) (mg : Str → Option Value) (base : Heap) (CX : CXT) (k : Nat) (f : Addr) (fd : FuncData) (ps : List Str) (sp : Sp) : Prop where
  len : ∀ vs H Q E, sp vs H Q E → vs.length = ps.length
  run : ∀ (A : Around) (outer : List Env) (s : Shared) (H : Hp) (args : Args) (us : List Value) (vs : List V) (Q : VK) (E : XK), Room k A → Env0 P w K mg base A outer s H → BindsTo s fd args (ps.zip us) → Vals vs us → sp vs H Q E →
    codeAny (model P w) A (.call (.ref f) args) (CR CX outer P w H s Q E) s
theorem FnOk.mono {P : Program} {w : World} {K : PySem.W.Frag} {mg : Str → Option Value} {base : Heap} {CX : CXT} {j k : Nat} {f : Addr} {fd : FuncData} {ps : List Str} {sp : Sp} (F : FnOk P w K mg base CX j f fd ps sp) (h : j ≤ k) :
    FnOk P w K mg base CX k f fd ps sp := ⟨F.len, fun A outer s H args us vs Q E hr => F.run A outer s H args us vs Q E (hr.mono h)⟩
theorem Env0.make {P : Program} {w : World} {K : PySem.W.Frag} {mg : Str → Option Value} {base : Heap} {A : Around} {outer : List Env} {s : Shared} {H : Hp} (e : Env0 P w K mg base A outer s H) (C : Addr) (us : List Value) (kw : List (Str × Value)) :
    Env0 P w K mg base (A.under (.builtin "type.__call__" ⟨.ref C :: us, kw⟩)) outer s H := ⟨by first | exact e.frames | (simpa [Around.under, Code.envs, Code.isFrame, pushEnvs] using e.frames), e.mod, e.bs, e.bsz, e.funs, e.frf, e.hok, e.bare⟩
section
variable {X : Cx} {pins : List (Addr × Obj)} {σ : St} {H : Hp} {s s' : Shared}
theorem Inv.env0 (I : Inv X pins σ H s) : Env0 X.prog X.w X.K X.mg X.base X.A X.stack s H :=
  ⟨I.ok.frames, I.ok.mod, I.bs, Nat.le_trans I.ok.bsz I.sz, I.stack, I.stkFree, I.hok, I.bare⟩
theorem Inv.after {Q : VK} {u : Value} (I : Inv X pins σ H s) (h : CE X.stack X.prog X.w H s Q u s') : EP X pins σ Q u s' := by
  obtain ⟨v, H', os, bare, un, hok, r, q⟩ := h
  obtain ⟨hh, g, d, t, os'⟩ := s'
  obtain rfl : os' = s.os := os
  exact ⟨v, H', I.call (h' := hh) (g' := g) (d' := d) (t' := t) (ch := []) un hok bare (fun b z => absurd z (by simp)), r, q⟩
end
noncomputable def tCall (sp : Sp) (dvs : List V) (E : XK) (t : TA) : TE := fun σ H Q => t σ H fun vs H1 => sp (vs ++ dvs) H1 Q E
noncomputable def tMeth (C : Addr) (m : Str) (sp : Sp) (dvs : List V) (E : XK) (ta : TE) (t : TA) : TE := fun σ H Q => ta σ H fun x H1 => ∃ a dx fs, x = .ref a ∧ H1 a = some (.ins C dx fs) ∧ fs.lookup m = none ∧
  t σ H1 fun vs H2 => sp (x :: (vs ++ dvs)) H2 Q E
noncomputable def tMake (C : Addr) (sp : Sp) (dvs : List V) (E : XK) (t : TA) : TE := fun σ H Q => t σ H fun vs H1 => ∀ x dx, H1 x = none → H1 dx = none → dx ≠ x →
  sp (.ref x :: (vs ++ dvs)) (upd (upd H1 dx (.own x)) x (.ins C dx [])) (fun v H2 => v = .non ∧ Q (.ref x) H2) E
noncomputable def Binds (K : PySem.W.Frag) (fd : FuncData) (ps : List Str) (ds : List Value) : Prop :=
  ∀ (s : Shared) (us : List Value), K.In s.heap → (us ++ ds).length = ps.length → BindsTo s fd ⟨us, []⟩ (ps.zip (us ++ ds))
theorem Binds.all {K : PySem.W.Frag} {fd : FuncData} {ps : List Str} (h : ∀ us : List Value, us.length = ps.length → bindArgs fd ⟨us, []⟩ = pure (ps.zip us)) : Binds K fd ps [] := fun s us _ hl => by
  rw [List.append_nil] at hl ⊢
  exact .of_eq (h us hl)
noncomputable def Passes (CX : CXT) (X : Cx) (E : XK) : Prop := ∀ (pins : List (Addr × Obj)) (σ : St) (H : Hp) (s : Shared) (e : Value) (s' : Shared), Inv X pins σ H s → CX X.stack H s E e s' → X.xe e s'
section
variable {X : Cx} {CX : CXT} {k : Nat} {f C : Addr} {fd : FuncData} {ps : List Str} {sp : Sp} {dvs : List V} {ds : List Value} {E : XK} {x m : Str} {p pos apos : Pos} {e o : Expr} {es : List Expr} {ta : TE} {t : TA}
theorem run_fn {pins : List (Addr × Obj)} {σ : St} {H : Hp} {s : Shared} {Q : VK} {us : List Value} {vs : List V} (F : FnOk X.prog X.w X.K X.mg X.base CX k f fd ps sp) (hr : Room k X.A) (hb : Binds X.K fd ps ds) (hd : Vals dvs ds) (hx : Passes CX X E)
    (I : Inv X pins σ H s) (r : Vals vs us) (h : sp (vs ++ dvs) H Q E) : wpAny (model X.prog X.w) X.A (call (.ref f) us) (EP X pins σ Q) X.xe s := by
  have r2 : Vals (vs ++ dvs) (us ++ ds) := r.append hd
  have hl : (us ++ ds).length = ps.length := by rw [← r2.length]; exact F.len _ _ _ _ h
  refine wpAny_call (codeAny_mono (F.run X.A X.stack s H ⟨us, []⟩ (us ++ ds) (vs ++ dvs) Q E hr I.env0 (hb s us I.kIn hl) r2 h) fun r s' hq => ?_)
  cases r with
  | error e => exact hx pins σ H s e s' I hq
  | ok fl =>
    cases fl with
    | ret u => exact I.after hq
    | next => exact False.elim hq
    | brk => exact False.elim hq
    | cont => exact False.elim hq
theorem pe_call (F : FnOk X.prog X.w X.K X.mg X.base CX k f fd ps sp) (hr : Room k X.A) (hg : Gl X x) (hm : X.mg x = some (.ref f)) (hk : PySem.W.keepIn X.K (.ref f) = true) (hb : Binds X.K fd ps ds) (hd : Vals dvs ds) (hx : Passes CX X E)
    (ha : PA X (e :: es) t) (hdb : (x == ("__debug__" : Str)) = false := by decide) (he : starEach (e :: es) X.env = (false, eval e X.env) :: starEach es X.env := by rfl) (hpl : (backTo pos (starEach es X.env)).any (·.1) = false := by rfl) :
    PE X (.Call (.Name x p) (e :: es) [] pos) (tCall sp dvs E t) := by
  intro pins s σ H Q I h
  refine wpAny_Call_Name_kw (ld_glob I hg hm ?_ hdb)
  refine PySem.W.callWith_K (h₀ := X.base) I.ok.mod.kin hk (thn (ha pos pins s σ H _ I h) fun us s1 ⟨vs, H1, I1, r, q⟩ => ⟨I1.kIn, ?_⟩) he hpl
  exact run_fn F hr hb hd hx I1 r q
theorem pe_meth {pl : Sem Bool} (he : PE X o ta) (c : Cls X.K C) (hm : Meth X.K C m f) (F : FnOk X.prog X.w X.K X.mg X.base CX k f fd ps sp) (hr : Room k X.A) (hb : Binds X.K fd ps ds) (hd : Vals dvs ds) (hx : Passes CX X E) (ha : PA X (e :: es) t)
    (hst : starEach (e :: es) X.env = (false, eval e X.env) :: starEach es X.env := by rfl) (hpl : (backTo pos (starEach es X.env)).any (·.1) = false := by rfl)
    (ht : eval (.Call (.Attribute o m apos) (e :: es) [] pos) X.env = (do
      let ov ← eval o X.env
      standAt apos.atName
      let (f, first) ← holding [ov] (getMethod ov m pl)
      callWith pos f first (backTo pos (starEach (e :: es) X.env)) (backToKw pos (keywordEach [] X.env))) := by rfl) :
    PE X (.Call (.Attribute o m apos) (e :: es) [] pos) (tMeth C m sp dvs E ta t) := by
  intro pins s σ H Q I h
  refine PySem.W.methodCall_KW (pl := pl) (thn (he pins s σ H _ I h) fun u s1 ⟨x, H1, I1, rx, a, dx, fs, ex, ea, l, q⟩ => ?_) ht
  subst ex
  obtain rfl : u = Value.ref a := rx
  refine getmeth_ok I1 ea c hm l ?_
  refine PySem.W.callWith_K (first := [.ref a]) (h₀ := X.base) I.ok.mod.kin hm.kp (thn (ha pos pins s1 σ H1 _ I1 q) fun us s2 ⟨vs, H2, I2, r, q2⟩ => ⟨I2.kIn, ?_⟩) hst hpl
  exact run_fn (us := .ref a :: us) (vs := .ref a :: vs) F hr hb hd hx I2 (.cons rfl r) q2
theorem pe_meth0 {pl : Sem Bool} (he : PE X o ta) (c : Cls X.K C) (hm : Meth X.K C m f) (F : FnOk X.prog X.w X.K X.mg X.base CX k f fd ps sp) (hr : Room k X.A) (hb : Binds X.K fd ps ds) (hd : Vals dvs ds) (hx : Passes CX X E)
    (ht : eval (.Call (.Attribute o m apos) [] [] pos) X.env = (do
      let ov ← eval o X.env
      standAt apos.atName
      let (f, first) ← holding [ov] (getMethod ov m pl)
      callWith pos f first (backTo pos (starEach [] X.env)) (backToKw pos (keywordEach [] X.env))) := by rfl) :
    PE X (.Call (.Attribute o m apos) [] [] pos) (tMeth C m sp dvs E ta tNil) := by
  intro pins s σ H Q I h
  refine PySem.W.methodCall_KW (pl := pl) (thn (he pins s σ H _ I h) fun u s1 ⟨x, H1, I1, rx, a, dx, fs, ex, ea, l, q⟩ => ?_) ht
  subst ex
  obtain rfl : u = Value.ref a := rx
  refine getmeth_ok I1 ea c hm l ?_
  exact PySem.W.callWith_K0 (first := [.ref a]) I1.kIn hm.kp (run_fn (us := [.ref a]) (vs := [.ref a]) F hr hb hd hx I1 (.cons rfl .nil) q)
structure Mk (K : PySem.W.Frag) (C f : Addr) : Prop where
  makes : PySem.W.makesIn K C = true
  init : PySem.W.findIn K (.ref C) "__init__" = some (some (.ref f))
  fn : PySem.W.isFn K (.ref f) = true
  kp : PySem.W.keepIn K (.ref C) = true
theorem run_make {pins : List (Addr × Obj)} {σ : St} {H : Hp} {s : Shared} {Q : VK} {us : List Value} {vs : List V} (M : Mk X.K C f) (F : FnOk X.prog X.w X.K X.mg X.base CX k f fd ps sp) (hr : Room (k + 1) X.A) (hb : Binds X.K fd ps ds) (hd : Vals dvs ds)
    (hx : Passes CX X E) (I : Inv X pins σ H s) (r : Vals vs us)
    (h : ∀ x dx, H x = none → H dx = none → dx ≠ x → sp (.ref x :: (vs ++ dvs)) (upd (upd H dx (.own x)) x (.ins C dx [])) (fun v H2 => v = .non ∧ Q (.ref x) H2) E) :
    wpAny (model X.prog X.w) X.A (call (.ref C) us) (EP X pins σ Q) X.xe s := by
  have hq := h (s.heap.objs.size + 1) s.heap.objs.size (I.hok.fresh (Nat.le_succ _)) (I.hok.fresh (Nat.le_refl _)) (Nat.ne_of_lt (Nat.lt_succ_self _))
  have I2 := Inv.made (C := C) I
  have r2 : Vals (V.ref (s.heap.objs.size + 1) :: (vs ++ dvs)) (Value.ref (s.heap.objs.size + 1) :: (us ++ ds)) := .cons rfl (r.append hd)
  have hl : (Value.ref (s.heap.objs.size + 1) :: us ++ ds).length = ps.length := by
    have e := r2.length
    rw [F.len _ _ _ _ hq] at e
    exact e.symm
  refine wpAny_call (make_map (f := f) I.kIn M.makes M.init (beq_iff_eq.mp M.fn) (codeAny_mono (F.run _ X.stack _ _ ⟨Value.ref (s.heap.objs.size + 1) :: us, []⟩ (Value.ref (s.heap.objs.size + 1) :: (us ++ ds)) _ _ E (hr.make C us [])
    (I2.env0.make C us []) (hb _ (Value.ref (s.heap.objs.size + 1) :: us) I2.kIn hl) r2 hq) fun r s' hq' => ?_))
  cases r with
  | error e => exact hx pins σ _ _ e s' I2 hq'
  | ok fl =>
    cases fl with
    | ret u =>
      obtain ⟨v, H', I3, rv, ev, q3⟩ := I2.after hq'
      subst ev
      exact ⟨rv, ⟨V.ref (s.heap.objs.size + 1), H', I3, rfl, q3⟩⟩
    | next => exact False.elim hq'
    | brk => exact False.elim hq'
    | cont => exact False.elim hq'
theorem pe_make (M : Mk X.K C f) (F : FnOk X.prog X.w X.K X.mg X.base CX k f fd ps sp) (hr : Room (k + 1) X.A) (hg : Gl X x) (hm : X.mg x = some (.ref C)) (hb : Binds X.K fd ps ds) (hd : Vals dvs ds) (hx : Passes CX X E)
    (ha : PA X (e :: es) t) (hdb : (x == ("__debug__" : Str)) = false := by decide) (he : starEach (e :: es) X.env = (false, eval e X.env) :: starEach es X.env := by rfl) (hpl : (backTo pos (starEach es X.env)).any (·.1) = false := by rfl) :
    PE X (.Call (.Name x p) (e :: es) [] pos) (tMake C sp dvs E t) := by
  intro pins s σ H Q I h
  refine wpAny_Call_Name_kw (ld_glob I hg hm ?_ hdb)
  refine PySem.W.callWith_K (h₀ := X.base) I.ok.mod.kin M.kp (thn (ha pos pins s σ H _ I h) fun us s1 ⟨vs, H1, I1, r, q⟩ => ⟨I1.kIn, ?_⟩) he hpl
  exact run_make M F hr hb hd hx I1 r q
end
section
variable {X : Cx} {CX : CXT} {k : Nat} {f C : Addr} {fd : FuncData} {ps ks : List Str} {sp : Sp} {E : XK} {x m : Str} {p pos apos kpos : Pos} {e o : Expr} {es : List Expr} {kws : List Keyword} {te ta : TE} {t tk : TA} {nm : Option Str}
variable {g : List Value → List Value → List Value} {gV : List V → List V → List V}
end
structure FnScope (N P : List Str) (sc : Scope) : Prop where
  kind : sc.kind = .function
  co : sc.isCoroutine = false
  gen : sc.isGenerator = false
  nd : N.Nodup
  pre : N.take P.length = P
  par : ∀ x ∈ P, sc.names.lookup x = some .local ∨ sc.names.lookup x = some .cell
  nofree : ∀ y ∈ sc.names, y.2 ≠ .free
theorem bindL_out {kindOf : Str → Option NameKind} {x : Str} : ∀ {binds : List (Str × Value)} {m : Str → Option Value}, (∀ v, (x, v) ∉ binds) → bindL kindOf binds m x = m x
  | [], _, _ => rfl
  | (n, v) :: r, m, h => by
    unfold bindL
    rw [bindL_out fun w hw => h w (List.mem_cons_of_mem _ hw)]
    split
    · have : x ≠ n := by rintro rfl; exact h v List.mem_cons_self
      simp [this]
    · rfl
theorem bindC_out {kindOf : Str → Option NameKind} {x : Str} : ∀ {binds : List (Str × Value)} {m : Str → Option Value}, (∀ v, (x, v) ∉ binds) → bindC kindOf binds m x = m x
  | [], _, _ => rfl
  | (n, v) :: r, m, h => by
    unfold bindC
    rw [bindC_out fun w hw => h w (List.mem_cons_of_mem _ hw)]
    split
    · rfl
    · have : x ≠ n := by rintro rfl; exact h v List.mem_cons_self
      simp [this]
theorem bindL_get {kindOf : Str → Option NameKind} {x : Str} {v : Value} : ∀ {P : List Str} {vs : List Value} {i : Nat} {m : Str → Option Value}, P.Nodup → P[i]? = some x → vs[i]? = some v → kindOf x = some .local →
    bindL kindOf (P.zip vs) m x = some v
  | [], _, _, _, _, h, _, _ => by simp at h
  | _ :: _, [], _, _, _, _, h, _ => by simp at h
  | p :: P, w :: vs, 0, m, nd, h1, h2, hk => by
    simp at h1 h2; subst h1; subst h2
    show bindL kindOf ((p, w) :: P.zip vs) m p = _
    unfold bindL
    rw [bindL_out fun v hv => (List.nodup_cons.mp nd).1 (List.of_mem_zip hv).1, if_pos hk]
    simp
  | p :: P, w :: vs, i + 1, m, nd, h1, h2, hk => by
    show bindL kindOf ((p, w) :: P.zip vs) m x = _
    unfold bindL
    exact bindL_get (i := i) (List.nodup_cons.mp nd).2 (by simpa using h1) (by simpa using h2) hk
theorem bindC_get {kindOf : Str → Option NameKind} {x : Str} {v : Value} : ∀ {P : List Str} {vs : List Value} {i : Nat} {m : Str → Option Value}, P.Nodup → P[i]? = some x → vs[i]? = some v → kindOf x ≠ some .local →
    bindC kindOf (P.zip vs) m x = some v
  | [], _, _, _, _, h, _, _ => by simp at h
  | _ :: _, [], _, _, _, _, h, _ => by simp at h
  | p :: P, w :: vs, 0, m, nd, h1, h2, hk => by
    simp at h1 h2; subst h1; subst h2
    show bindC kindOf ((p, w) :: P.zip vs) m p = _
    unfold bindC
    rw [bindC_out fun v hv => (List.nodup_cons.mp nd).1 (List.of_mem_zip hv).1, if_neg hk]
    simp
  | p :: P, w :: vs, i + 1, m, nd, h1, h2, hk => by
    show bindC kindOf ((p, w) :: P.zip vs) m x = _
    unfold bindC
    exact bindC_get (i := i) (List.nodup_cons.mp nd).2 (by simpa using h1) (by simpa using h2) hk
noncomputable def start (N : List Str) (vs : List V) : St := vs.map some ++ List.replicate (N.length - vs.length) none
noncomputable def cxOf (CX : CXT) (P : Program) (w : World) (K : PySem.W.Frag) (mg : Str → Option Value) (base : Heap) (N : List Str) (qual : Str) (scope : Scope) (f : Addr) (cd : Value) (A : Around) (outer : List Env) (s : Shared) (H : Hp) (E : XK) : Cx where
  prog := P
  w := w
  K := K
  mg := mg
  base := base
  A := A.deeper (envOfC qual scope s.heap.objs.size f cd)
  N := N
  s₀ := s
  H₀ := H
  env := envOfC qual scope s.heap.objs.size f cd
  outer := outer
  stack := envOfC qual scope s.heap.objs.size f cd :: outer
  ex := []
  calm := true
  fn := fun _ => true
  pn := []
  xe := fun e s' => wpAny (model P w) (A.deeper (envOfC qual scope s.heap.objs.size f cd)) (leaving (envOfC qual scope s.heap.objs.size f cd) e) (fun _ s'' => CX outer H s E e s'') (fun e' s'' => CX outer H s E e' s'') s'
theorem cell_has {sc : Scope} {n : Nat} {x : Str} (h : sc.names.lookup x = some .cell) : ∃ c, (cellsFrom n sc.names []).lookup x = some c := by
  have q := PySem.W.cellsFrom_some sc.names n [] (.inl h)
  exact Option.isSome_iff_exists.mp q
theorem inv_start {CX : CXT} {P : Program} {w : World} {K : PySem.W.Frag} {mg : Str → Option Value} {base : Heap} {N ps : List Str} {qual : Str} {scope : Scope} {f : Addr} {cd : Value} {A : Around} {outer : List Env} {s s1 : Shared} {H : Hp} {E : XK} {us : List Value} {vs : List V}
    (S : FnScope N ps scope) (hd : A.handled = none) (e0 : Env0 P w K mg base A outer s H) (hl : vs.length = ps.length) (r : Vals vs us)
    (x : InCallC s s.heap.objs.size (bindL (envOfC qual scope s.heap.objs.size f cd).kindOf (ps.zip us) fun _ => none) (cellsFrom (s.heap.objs.size + 1) scope.names []) (bindC (envOfC qual scope s.heap.objs.size f cd).kindOf (ps.zip us) fun _ => none) s1) :
    Inv (cxOf CX P w K mg base N qual scope f cd A outer s H E) [] (start N vs) H s1 := by
  have hpl : ps.length ≤ N.length := by have := congrArg List.length S.pre; rw [List.length_take] at this; omega
  obtain ⟨h1, tk, rfl, hk⟩ := x.done
  have noA : ∀ b : Addr, b ∉ (cxOf CX P w K mg base N qual scope f cd A outer s H E).ex := fun b z => absurd (show b ∈ ([] : List Addr) from z) (by simp)
  refine ⟨⟨e0.mod, S.kind, rfl, rfl, Nat.le_refl _, fun y z c h1 h2 => ?_, fun y hy => ?_, fun y c _ h => ?_, fun _ => hd, Around.frames_deeper e0.frames, .inr ⟨rfl, rfl⟩, fun b z => absurd z (noA b), e0.bs, e0.bsz, fun b _ _ => noA b, fun b z => absurd z (noA b), e0.funs, e0.frf⟩,
    rfl, e0.bare, Un.kept hk, ⟨_, x.toInCall.ns, fun i y v h1 h2 h3 => ?_⟩, fun y c h => ⟨_, x.cell y c h⟩, e0.hok.fresh (Nat.le_refl _), fun y c h => ?_, fun p hp => absurd (show p ∈ ([] : List (Addr × Obj)) from hp) (by simp), e0.hok.kept hk, ?_⟩
  · exact name_of_addr x.apart (PySem.mem_of_lookup h1) (PySem.mem_of_lookup h2)
  · have hy : scope.names.lookup y = some .cell ∨ scope.names.lookup y = some .free := hy
    rcases hy with hy | hy
    · exact cell_has hy
    · exact absurd rfl (S.nofree _ (PySem.mem_of_lookup hy))
  · exact Nat.le_of_lt (x.above y c (PySem.mem_of_lookup h))
  · have hi : i < vs.length := by
      unfold start at h2
      by_cases hi : i < vs.length
      · exact hi
      · rw [List.getElem?_append_right (by simpa using hi)] at h2
        rw [List.getElem?_replicate] at h2
        split at h2 <;> cases h2
    have ha : vs[i]? = some v := by
      unfold start at h2
      rw [List.getElem?_append_left (by simpa using hi), List.getElem?_map] at h2
      cases e : vs[i]? with
      | none => rw [e] at h2; cases h2
      | some a => rw [e] at h2; cases h2; rfl
    obtain ⟨u, hu, rv⟩ := r.get ha
    have hp : ps[i]? = some y := by
      rw [← S.pre, List.getElem?_take_of_lt (by omega)]; exact h1
    have ndP : ps.Nodup := by rw [← S.pre]; exact S.nd.sublist (List.take_sublist _ _)
    refine ⟨u, rv, ?_⟩
    rcases S.par y (List.mem_of_getElem? hp) with k | k
    · exact .inl ⟨k, bindL_get ndP hp hu k⟩
    · obtain ⟨c, e⟩ := cell_has (n := s.heap.objs.size + 1) k
      refine .inr ⟨.inl k, c, e, ?_⟩
      have q := x.cell y c e
      rw [bindC_get ndP hp hu (by show scope.names.lookup y ≠ _; rw [k]; decide)] at q
      exact q
  · exact e0.hok.fresh (Nat.le_of_lt (x.above y c (PySem.mem_of_lookup h)))
  · unfold start
    show _ = N.length
    rw [List.length_append, List.length_map, List.length_replicate]
    omega
theorem fn_of {CX : CXT} {P : Program} {w : World} {K : PySem.W.Frag} {mg : Str → Option Value} {base : Heap} {k : Nat} {f : Addr} {name qual : Str} {params : Arguments} {body : List Stmt} {scope : Scope} {dV kV doc pm cdv ct oc : Value} {an od : Option Addr}
    {osl : Array (Option Value)} {N ps : List Str} {sp : Sp} (lk : K.lookup f = some ⟨oc, od, .func (PySem.W.fnOf name qual params body scope dV kV doc pm an cdv ct), osl⟩) (hcd : PySem.W.codeIn K cdv qual = true) (S : FnScope N ps scope)
    (len : ∀ vs H Q E, sp vs H Q E → vs.length = ps.length)
    (hbody : ∀ (A : Around) (outer : List Env) (s : Shared) (H : Hp) (vs : List V) (Q : VK) (E : XK), Room k (A.deeper (envOfC qual scope s.heap.objs.size f cdv)) → sp vs H Q E →
      ∃ t, PSs (cxOf CX P w K mg base N qual scope f cdv A outer s H E) body t ∧ t { nx := fun _ H' => Q .non H', rt := Q } (start N vs) H) :
    FnOk P w K mg base CX (k + 1) f (PySem.W.fnOf name qual params body scope dV kV doc pm an cdv ct) ps sp := by
  refine ⟨len, fun A outer s H args us vs Q E hr e0 hb r hsp => ?_⟩
  have hl := len _ _ _ _ hsp
  have KX : K.In s.heap := e0.mod.kin.keeps fun b o e => (e0.bs b o e).1
  have lim : s.heap.NoLimit := e0.mod.nolimit.keeps fun b o e => (e0.bs b o e).1
  have hkind : ∀ y ∈ ps.zip us, scope.names.lookup y.1 = some .local ∨ (scope.names.lookup y.1 = some .cell ∧ ((cellsFrom (s.heap.objs.size + 1) scope.names []).lookup y.1).isSome = true) := fun ⟨n, v⟩ hy => by
    rcases S.par n (List.of_mem_zip hy).1 with q | q
    · exact .inl q
    · exact .inr ⟨q, PySem.W.cellsFrom_some _ _ _ (.inl q)⟩
  refine codeAny_call_function hr.depth (KX _ _ lk) rfl S.co S.gen rfl (PySem.W.codeRec_of KX hcd) (hb _ _ _ _ ?_)
  refine wpAny_newFunctionEnv_cells S.kind hkind fun env he s1 x => ?_
  subst he
  refine ⟨lim.keeps x.toInCall.keep, codeAny_func ?_⟩
  obtain ⟨t, ht, hq⟩ := hbody A outer s H vs Q E (hr.deeper _) hsp
  have I : Inv (cxOf CX P w K mg base N qual scope f cdv A outer s H E) [] (start N vs) H s1 := inv_start S hr.hd e0 hl r x
  refine wpAny_mono (ht [] s1 (start N vs) H _ I hq) (fun fl s' hs => ?_) fun e s' hs => hs
  have fin : ∀ {σ' : St} {H' : Hp} {v : V} {u : Value}, Inv (cxOf CX P w K mg base N qual scope f cdv A outer s H E) [] σ' H' s' → RelV v u → Q v H' → CE outer P w H s Q u s' :=
    fun {σ' H' v u} J rv q => ⟨v, H', J.os, J.bare, J.base, J.hok, rv, q⟩
  cases fl with
  | ret u =>
    obtain ⟨v, σ', H', J, rv, q⟩ := hs
    exact fin J rv q
  | next =>
    obtain ⟨σ', H', J, q⟩ := hs
    exact fin (v := V.non) (u := Value.none) J rfl q
  | brk =>
    obtain ⟨_, _, _, q⟩ := hs
    exact False.elim q
  | cont =>
    obtain ⟨_, _, _, q⟩ := hs
    exact False.elim q
end L2
namespace L2
open PySem PySem.Spec PyProof.Rows
section
variable {X : Cx} {x : Str} {p pos : Pos} {e : Expr} {es : List Expr} {t : TA} {id T : String} {r : List V → Hp → VK → Prop}
noncomputable def tCB (r : List V → Hp → VK → Prop) (t : TA) : TE := fun σ H Q => t σ H fun vs H1 => r vs H1 Q
theorem pe_callB (hc : CallR X (.builtin id) r) (hg : Gl X x) (hm : X.mg x = none) (hv : bootBuiltins x = some (.builtin id)) (ha : PA X (e :: es) t) (hn : x ≠ "__name__" := by decide) (hdb : (x == ("__debug__" : Str)) = false := by decide)
    (he : starEach (e :: es) X.env = (false, eval e X.env) :: starEach es X.env := by rfl) (hpl : (backTo pos (starEach es X.env)).any (·.1) = false := by rfl) : PE X (.Call (.Name x p) (e :: es) [] pos) (tCB r t) := by
  intro pins s σ H Q I h
  refine wpAny_Call_Name_kw (ld_blt I hg hm hv ?_ hn hdb)
  exact PyProof.Rows.callWith_builtin1 (thn (ha pos pins s σ H _ I h) fun us s1 ⟨vs, H1, I1, r1, q1⟩ => hc pins s1 σ H1 vs us Q I1 r1 q1) he hpl
theorem pe_callTy (hc : CallR X (.type T) r) (hg : Gl X x) (hm : X.mg x = none) (hv : bootBuiltins x = some (.type T)) (ha : PA X (e :: es) t) (hn : x ≠ "__name__" := by decide) (hdb : (x == ("__debug__" : Str)) = false := by decide)
    (he : starEach (e :: es) X.env = (false, eval e X.env) :: starEach es X.env := by rfl) (hpl : (backTo pos (starEach es X.env)).any (·.1) = false := by rfl) : PE X (.Call (.Name x p) (e :: es) [] pos) (tCB r t) := by
  intro pins s σ H Q I h
  refine wpAny_Call_Name_kw (ld_blt I hg hm hv ?_ hn hdb)
  exact PyProof.Rows.callWith_type1 (thn (ha pos pins s σ H _ I h) fun us s1 ⟨vs, H1, I1, r1, q1⟩ => hc pins s1 σ H1 vs us Q I1 r1 q1) he hpl
end
end L2
namespace L2
open PySem PySem.Spec PyProof.Rows
section
variable {κ : Type} [DecidableEq κ]
theorem KV.length {kvs : List (κ × V)} {vs : List (κ × Value)} (r : KV kvs vs) : kvs.length = vs.length := Paired.length r
end
section
variable {P : Program} {w : World} {H : Hp} {h : Heap} {a : Addr}
end
section
variable {X : Cx} {pins : List (Addr × Obj)} {σ : St} {H : Hp} {s : Shared} {a : Addr} {y v : V} {u r : Value} {o : Option V} {A : Around} {E : Value → Shared → Prop}
end
section
variable {X : Cx} {pins : List (Addr × Obj)} {σ : St} {H : Hp} {s : Shared} {a : Addr} {kvs : List (Key × V)} {k : Key} {u : Value} {A : Around} {E : Value → Shared → Prop}
end
section
variable {X : Cx} {o i e value : Expr} {pos pos' tpos : Pos} {td ty tv : TE}
end
section
variable {X : Cx} {pos : Pos}
end
section
variable {X : Cx} {pins : List (Addr × Obj)} {σ : St} {H : Hp} {s : Shared} {a : Addr} {y d : V} {u r : Value} {o : Option V} {A : Around} {E : Value → Shared → Prop}
end
section
variable {X : Cx} {o e f : Expr} {apos cpos : Pos} {td ty tx : TE}
end
section
variable {X : Cx} {pins : List (Addr × Obj)} {σ : St} {H : Hp} {s : Shared} {a : Addr} {kvs : List (Key × V)} {A : Around} {E : Value → Shared → Prop}
end
section
variable {X : Cx} {pins : List (Addr × Obj)} {σ : St} {H : Hp} {s : Shared} {a : Addr} {y : V} {u : Value} {A : Around} {E : Value → Shared → Prop}
end
end L2
namespace HT
open PySem PyProof.Rows
noncomputable def lexLt : List Int → List Int → Bool
  | [], [] => false
  | [], _ :: _ => true
  | _ :: _, [] => false
  | x :: xs, y :: ys => if x = y then lexLt xs ys else decide (x < y)
section
open PySem.SeqAt
open PySem.AutoSeq1 (wpAny_loadPart')
open PySem.MeetsSeq PySem.MeetsSeq2 PySem.MeetsSeq3
end
section
variable {prog : Program} {w : World} {A : Around} {E : Value → Shared → Prop} {s : Shared}
theorem cat_tup {t b : Addr} {vs ws : List Value} {Q : Value → Shared → Prop} (ht : IsTup s.heap t vs.toArray) (hb : IsTup s.heap b ws.toArray) (hv : vs ≠ [])
    (h1 : ws = [] → Q (.ref t) s) (h2 : ws ≠ [] → Q (.ref s.heap.objs.size) { s with heap := s.heap.push { cls := .type "tuple", data := .seq (vs ++ ws).toArray } })
    (hsz : vs.length + ws.length ≤ sizeLine) : wpAny (model prog w) A (binaryOp .Add (.ref t) (.ref b)) Q E s := by
  obtain ⟨⟨cls, dd, data, sl⟩, ho, hc, n, hd⟩ := id ht
  obtain ⟨⟨cls2, dd2, data2, sl2⟩, ho2, hc2, n2, hd2⟩ := id hb
  simp only at hc hd hc2 hd2
  subst hc hd hc2 hd2
  have e : vs.toArray ++ ws.toArray = (vs ++ ws).toArray := by simp
  by_cases hw : ws = []
  · exact concat_meets ⟨_, ho, rfl⟩ ⟨_, ho2, rfl⟩ noFill_tuple_add seq_tuple_add PySem.F.slot_tuple_add PySem.F.entry_tuple_add (PySem.F.args_tuple_add_2 _ _)
      (tuple_addW1 t b vs.toArray ws.toArray n n2 dd dd2 sl sl2 (by simpa using hv) (by simp [hw])) ⟨ho, ho2, h1 hw⟩
  · refine concat_meets ⟨_, ho, rfl⟩ ⟨_, ho2, rfl⟩ noFill_tuple_add seq_tuple_add PySem.F.slot_tuple_add PySem.F.entry_tuple_add (PySem.F.args_tuple_add_2 _ _)
      (tuple_addW2 t b vs.toArray ws.toArray n n2 dd dd2 sl sl2 (by simpa using hv) (by simpa using hw) (by rw [List.size_toArray, List.size_toArray]; exact hsz)) ⟨ho, ho2, ?_⟩
    rw [e]
    exact h2 hw
noncomputable def sIx (n d : Nat) : Option Int → Nat
  | none => d
  | some v => if v < 0 then (v + (n : Int)).toNat else min v.toNat n
theorem sIx_le (n d : Nat) (hd : d ≤ n) (o : Option Int) : sIx n d o ≤ n := by
  cases o with
  | none => exact hd
  | some v =>
    show (if v < 0 then (v + (n : Int)).toNat else min v.toNat n) ≤ n
    by_cases hv : v < 0
    · rw [if_pos hv]; omega
    · rw [if_neg hv]; exact Nat.min_le_right _ _
theorem clip_eq (v : Int) (n d : Nat) : (if v < 0 then max (v + (n : Int)) 0 else min v (n : Int)) = ((sIx n d (some v) : Nat) : Int) := by
  show (if v < 0 then max (v + (n : Int)) 0 else min v (n : Int)) = (((if v < 0 then (v + (n : Int)).toNat else min v.toNat n) : Nat) : Int)
  by_cases hv : v < 0
  · simp only [if_pos hv]; omega
  · simp only [if_neg hv]; omega
theorem adjust_gen (lo hi : Option Int) (n : Nat) : Builtin.Slice.sliceAdjust lo hi 1 (n : Int) = (((sIx n 0 lo : Nat) : Int), ((sIx n n hi : Nat) : Int)) := by
  have h1 : ¬ ((1 : Int) < 0) := by omega
  unfold Builtin.Slice.sliceAdjust
  simp only [h1, if_false]
  refine Prod.ext ?_ ?_
  · cases lo with
    | none => rfl
    | some v => exact clip_eq v n 0
  · cases hi with
    | none => rfl
    | some v => exact clip_eq v n n
theorem places_gen (i j : Nat) : Builtin.Slice.slicePlaces (i : Int) (j : Int) 1 = j - i := by
  unfold Builtin.Slice.slicePlaces
  have h1 : (1 : Int) > 0 := by omega
  simp only [h1, if_true, Int.ediv_one]
  split <;> omega
theorem slicePart_ {v : Value} {o : Option Int} {Q : Option Int → Shared → Prop} (p : IsPart v o) (h : Q o s) : wpAny (model prog w) A (Builtin.Slice.slicePartIndex v) Q E s := by
  cases p with
  | none => exact slicePart_none h
  | int i t => exact slicePart_int h
theorem sliceApplied_gen {sl : Addr} {vl vu : Value} {lo hi : Option Int} {n : Nat} {Q : Int × Int × Nat → Shared → Prop} (hs : s.heap.IsSliceOf sl vl vu .none) (pl : IsPart vl lo) (pu : IsPart vu hi)
    (h : Q (((sIx n 0 lo : Nat) : Int), 1, sIx n n hi - sIx n 0 lo) s) : wpAny (model prog w) A (Builtin.Slice.sliceApplied (.ref sl) (pure (n : Int))) Q E s := by
  obtain ⟨os, hos, hcs, hds⟩ := id hs
  unfold Builtin.Slice.sliceApplied Builtin.Slice.sliceFields
  refine wpAny_bind (wpAny_bind (wpAny_field hos hds (x := vl) rfl (wpAny_bind (wpAny_field hos hds (x := vu) rfl (wpAny_bind (wpAny_field hos hds (x := .none) rfl (wpAny_pure ?_)))))))
  refine wpAny_bind (slicePart_none ?_)
  show wpAny _ _ (if ((1 : Int) == 0) = true then _ else _) _ _ s
  rw [if_neg (by decide)]
  refine wpAny_bind (slicePart_ pl (wpAny_bind (slicePart_ pu (wpAny_bind (wpAny_pure ?_)))))
  show wpAny _ _ (match Builtin.Slice.sliceAdjust lo hi 1 (n : Int) with | (lo, hi) => pure (lo, (1 : Int), Builtin.Slice.slicePlaces lo hi 1)) _ _ s
  rw [adjust_gen lo hi n]
  show wpAny _ _ (pure (((sIx n 0 lo : Nat) : Int), (1 : Int), Builtin.Slice.slicePlaces ((sIx n 0 lo : Nat) : Int) ((sIx n n hi : Nat) : Int) 1)) _ _ s
  rw [places_gen]
  exact wpAny_pure h
theorem pick_gen (xs : Array Value) (i k : Nat) : ((List.range k).filterMap fun (m : Nat) => xs[((i : Int) + (m : Int) * 1).toNat]?).toArray = ((xs.toList.drop i).take k).toArray := by
  have e : (fun (m : Nat) => xs[((i : Int) + (m : Int) * 1).toNat]?) = fun m => xs[i + m]? := by
    funext m
    have : ((i : Int) + (m : Int) * 1).toNat = i + m := by omega
    rw [this]
  rw [e]
  have := pick_run xs i k
  rw [List.filterMap_map] at this
  have e2 : ((fun x => xs[x]?) ∘ fun x => i + x) = fun m => xs[i + m]? := rfl
  rw [e2] at this
  rw [this]
theorem getItem_tuple_cut {t sl : Addr} {items : Array Value} {vl vu : Value} {lo hi : Option Int} {Q : Value → Shared → Prop} (ht : IsTup s.heap t items) (hs : s.heap.IsSliceOf sl vl vu .none) (pl : IsPart vl lo) (pu : IsPart vu hi)
    (hw : ¬ (sIx items.size 0 lo = 0 ∧ sIx items.size items.size hi = items.size))
    (h : Q (.ref s.heap.objs.size) { s with heap := s.heap.push { cls := .type "tuple", data := .seq ((items.toList.drop (sIx items.size 0 lo)).take (sIx items.size items.size hi - sIx items.size 0 lo)).toArray } })
    (hsz : items.size ≤ sizeLine) : wpAny (model prog w) A (getItem (.ref t) (.ref sl)) Q E s := by
  have htake : sizeOk (.seq ((items.toList.drop (sIx items.size 0 lo)).take (sIx items.size items.size hi - sIx items.size 0 lo)).toArray) := by
    show ((items.toList.drop (sIx items.size 0 lo)).take (sIx items.size items.size hi - sIx items.size 0 lo)).toArray.size ≤ sizeLine
    rw [List.size_toArray, List.length_take, List.length_drop, Array.length_toList]
    omega
  have hj : sIx items.size items.size hi ≤ items.size := sIx_le _ _ (Nat.le_refl _) hi
  obtain ⟨os, hos, hcs, hds⟩ := id hs
  have hTs : s.TypeIs (.ref sl) "slice" := ⟨os, hos, hcs⟩
  unfold getItem
  try with_reducible refine wpAny_holding ?_
  first | refine wpAny_bind (wpAny_pure ?_) | skip
  refine wpAny_bind (wpAny_sequenceKey ht.typeIs (by decide) ?_)
  refine wpAny_bind (wpAny_callSpecial?_slot (name := Str.ofString "__getitem__") ht.typeIs PyProof.Rows.slot_tuple_getitem
    (wpAny_call_entry PyProof.Rows.slot_tuple_getitem ht.typeIs entry_tuple_getitem ?_ (args_tuple_getitem _ _)))
  show wpAny _ _ (Builtin.Tuple.tupleItemsOf (.ref t) >>= _) _ _ s
  refine wpAny_bind (tupleItemsOf_ ht ?_)
  refine wpAny_bind (wpAny_typeOf hTs ?_)
  rw [if_pos (by decide)]
  refine wpAny_bind (sliceApplied_gen hs pl pu ?_)
  have hno : ¬ ((((sIx items.size 0 lo : Nat) : Int) == 0 && (1 : Int) == 1 && (sIx items.size items.size hi - sIx items.size 0 lo) == items.size) = true) := by
    intro q
    rw [Bool.and_eq_true, Bool.and_eq_true] at q
    have q1 : ((sIx items.size 0 lo : Nat) : Int) = 0 := eq_of_beq q.1.1
    have q2 : sIx items.size items.size hi - sIx items.size 0 lo = items.size := eq_of_beq q.2
    exact hw ⟨by omega, by omega⟩
  show wpAny _ _ (if (((sIx items.size 0 lo : Nat) : Int) == 0 && (1 : Int) == 1 && (sIx items.size items.size hi - sIx items.size 0 lo) == items.size) = true then _ else _) _ _ s
  rw [if_neg hno, pick_gen]
  first
    | exact wpAny_bind (m := Builtin.Tuple.tupleExact _) (wpAny_newObj_type (wpAny_pure ⟨_, rfl, wpAny_pure h⟩) htake)
    | exact wpAny_bind (m := Builtin.Tuple.tupleExact _) (wpAny_newObj_type (wpAny_bind (wpAny_pure (wpAny_pure ⟨_, rfl, wpAny_pure h⟩))) htake)
    | exact wpAny_bind (wpAny_bind (m := Builtin.Tuple.tupleExact _) (wpAny_newObj_type (wpAny_pure (wpAny_pure ⟨_, rfl, wpAny_pure h⟩)) htake))
    | exact wpAny_bind (wpAny_bind (m := Builtin.Tuple.tupleExact _) (wpAny_newObj_type (wpAny_pure ⟨_, rfl, wpAny_pure h⟩) htake))
end
end HT
namespace L2
open PySem PySem.Spec PyProof.Rows
noncomputable abbrev TO := St → Hp → (Option Int → Hp → Prop) → Prop
noncomputable def PO (X : Cx) (e : Option Expr) (t : TO) : Prop :=
  ∀ (pins : List (Addr × Obj)) (s : Shared) (σ : St) (H : Hp) (Q : Option Int → Hp → Prop), Inv X pins σ H s → t σ H Q →
    wpAny (model X.prog X.w) X.A (evalPart e X.env) (fun u s' => ∃ o H', Inv X pins σ H' s' ∧ IsPart u o ∧ Q o H') X.xe s
noncomputable def tNoPart : TO := fun _ H Q => Q none H
noncomputable def tPart (t : TE) : TO := fun σ H Q => t σ H fun x H1 => ∃ i, x = .int i ∧ Q (some i) H1
section
variable {X : Cx} {e : Expr} {te : TE} {lo hi : Option Expr} {tl th : TO} {pos p2 : Pos}
theorem po_none : PO X none tNoPart := by
  intro pins s σ H Q I h
  rw [evalPart_none]
  exact wpAny_pure ⟨none, H, I, .none, h⟩
theorem po_some (h : PE X e te) : PO X (some e) (tPart te) := by
  intro pins s σ H Q I hw
  rw [evalPart_some]
  refine thn (h pins s σ H _ I hw) fun u s1 ⟨x, H1, I1, r1, q1⟩ => ?_
  obtain ⟨i, rfl, q⟩ := q1
  obtain ⟨t, rfl⟩ := r1
  exact ⟨some i, H1, I1, .int i t, q⟩
noncomputable def SlR (X : Cx) (r : V → Option Int → Option Int → Hp → VK → Prop) : Prop :=
  ∀ (pins : List (Addr × Obj)) (s : Shared) (σ : St) (H : Hp) (x : V) (v vl vu : Value) (lo hi : Option Int) (sl : Addr) (Q : VK), Inv X pins σ H s → RelV x v → s.heap.IsSliceOf sl vl vu .none → IsPart vl lo → IsPart vu hi → r x lo hi H Q →
    ∃ T id, typeLookup (.type T) "__getitem__" = pure (some (.builtin id)) ∧ s.TypeIs v T ∧ wpAny (model X.prog X.w) X.A (getItem v (.ref sl)) (EP X pins σ Q) X.xe s
theorem SlR.or {r r' : V → Option Int → Option Int → Hp → VK → Prop} (h : SlR X r) (h' : SlR X r') : SlR X (fun x lo hi H Q => r x lo hi H Q ∨ r' x lo hi H Q) := by
  intro pins s σ H x v vl vu lo hi sl Q I rx hs pl pu q
  rcases q with q | q
  · exact h pins s σ H x v vl vu lo hi sl Q I rx hs pl pu q
  · exact h' pins s σ H x v vl vu lo hi sl Q I rx hs pl pu q
noncomputable def tSl (r : V → Option Int → Option Int → Hp → VK → Prop) (te : TE) (tl th : TO) : TE := fun σ H Q => te σ H fun x H1 => tl σ H1 fun l H2 => th σ H2 fun u H3 => r x l u H3 Q
theorem pe_slice {r : V → Option Int → Option Int → Hp → VK → Prop} (hr : SlR X r) (he : PE X e te) (hl : PO X lo tl) (hu : PO X hi th) : PE X (.Subscript e (.Slice lo hi none p2) pos) (tSl r te tl th) := by
  intro pins s σ H Q I h
  refine Subscript_ (thn (he pins s σ H _ I h) fun v s1 ⟨x, H1, I1, r1, q1⟩ => ?_)
  refine wpAny_Slice (thn (hl pins s1 σ H1 _ I1 q1) fun vl s2 ⟨l, H2, I2, pl, q2⟩ => thn (hu pins s2 σ H2 _ I2 q2) fun vu s3 ⟨u, H3, I3, pu, q3⟩ => ?_)
  rw [evalPart_none]
  refine wpAny_pure ?_
  have I4 : Inv X pins σ H3 { s3 with heap := s3.heap.push { cls := .type "slice", data := .fields #[vl, vu, .none] } } := I3.kept (t' := s3.toks) fun b ob q => Heap.get?_push_of_some _ q
  obtain ⟨T, id, hT, ht, hg⟩ := hr pins { s3 with heap := s3.heap.push { cls := .type "slice", data := .fields #[vl, vu, .none] } } σ H3 x v vl vu l u s3.heap.objs.size Q I4 r1 (Heap.IsSliceOf.new ..) pl pu q3
  show wpAny (model X.prog X.w) X.A (subscriptTail e (.Slice lo hi none p2) v (.ref s3.heap.objs.size)) (EP X pins σ Q) X.xe { s3 with heap := s3.heap.push { cls := .type "slice", data := .fields #[vl, vu, .none] } }
  exact tail_any (ops := [.ref s3.heap.objs.size, v]) ht hT hg (by with_unfolding_all rfl)
noncomputable def cutV (xs : List V) (lo hi : Option Int) : List V := (xs.drop (HT.sIx xs.length 0 lo)).take (HT.sIx xs.length xs.length hi - HT.sIx xs.length 0 lo)
theorem cutV_length (xs : List V) (lo hi : Option Int) : (cutV xs lo hi).length ≤ xs.length := by
  unfold cutV
  rw [List.length_take, List.length_drop]
  omega
noncomputable def rSlT (K : PySem.W.Frag) : V → Option Int → Option Int → Hp → VK → Prop := fun x lo hi H Q => ∃ a xs, x = .ref a ∧ SqT K H a xs ∧
  ¬ (HT.sIx xs.length 0 lo = 0 ∧ HT.sIx xs.length xs.length hi = xs.length) ∧ ∀ p, H p = none → Q (.ref p) (upd H p (.tup (cutV xs lo hi)))
theorem sl_tup : SlR X (rSlT X.K) := by
  intro pins s σ H x v vl vu lo hi sl Q I rx hs pl pu h
  obtain ⟨a, xs, rfl, hx, hw, q⟩ := h
  cases rx
  obtain ⟨its, r, ht, hz⟩ := I.tuple hx
  have hlen : its.toArray.size = xs.length := by rw [List.size_toArray]; exact r.length.symm
  refine ⟨"tuple", _, PyProof.Rows.slot_tuple_getitem.lookup, ht.typeIs, ?_⟩
  refine HT.getItem_tuple_cut ht hs pl pu (by rw [hlen]; exact hw) ?_ (by rw [hlen]; exact hz)
  rw [hlen]
  refine ⟨.ref s.heap.objs.size, _, I.laid (t' := s.toks) (o := .tup (cutV xs lo hi)) (fun b ob q => Heap.get?_push_of_some _ q) (Nat.le_refl _) ?_, rfl, q _ (I.hok.fresh (Nat.le_refl _))⟩
  exact ⟨Nat.le_trans (cutV_length xs lo hi) hz, _, (r.drop (HT.sIx xs.length 0 lo)).take (HT.sIx xs.length xs.length hi - HT.sIx xs.length 0 lo), IsTup.new _ _⟩
noncomputable def rCatT (K : PySem.W.Frag) : R2 := fun x y H Q => ∃ a b xs ys, x = .ref a ∧ y = .ref b ∧ SqT K H a xs ∧ SqT K H b ys ∧ xs ≠ [] ∧ xs.length + ys.length ≤ sizeLine ∧
  (ys = [] → Q (.ref a) H) ∧ (ys ≠ [] → ∀ p, H p = none → Q (.ref p) (upd H p (.tup (xs ++ ys))))
theorem Vals.nil_iff {xs : List V} {us : List Value} (r : Vals xs us) : us = [] ↔ xs = [] := by
  cases r with
  | nil => simp
  | cons _ _ => simp
theorem op_catT : OpR X (binaryOp .Add) (rCatT X.K) := by
  intro pins s σ H x y v u Q I rx ry h
  obtain ⟨a, b, xs, ys, rfl, rfl, ha, hb, hx, hz, q1, q2⟩ := h
  cases rx
  cases ry
  obtain ⟨its, r1, p1, _⟩ := I.tuple ha
  obtain ⟨its2, r2, p2, _⟩ := I.tuple hb
  refine HT.cat_tup p1 p2 (fun z => hx (r1.nil_iff.mp z)) (fun z => ⟨.ref a, H, I, rfl, q1 (r2.nil_iff.mp z)⟩) (fun z => ?_) (by rw [← r1.length, ← r2.length]; exact hz)
  refine ⟨.ref s.heap.objs.size, _, I.laid (t' := s.toks) (o := .tup (xs ++ ys)) (fun b ob q => Heap.get?_push_of_some _ q) (Nat.le_refl _) ?_, rfl, q2 (fun w => z (r2.nil_iff.mpr w)) _ (I.hok.fresh (Nat.le_refl _))⟩
  exact ⟨by rw [List.length_append]; exact hz, _, r1.append r2, IsTup.new _ _⟩
end
end L2
namespace L2
open PySem PySem.Spec PyProof.Rows
noncomputable def ixN (n : Nat) (i : Int) : Option Nat := if 0 ≤ i then (if i < n then some i.toNat else none) else if -(n : Int) ≤ i then some (i + n).toNat else none
noncomputable def atI {α : Type} (xs : List α) (i : Int) : Option α := (ixN xs.length i).bind fun j => xs[j]?
theorem ixN_seq {n : Nat} {i : Int} {j : Nat} (h : ixN n i = some j) : seqIndex? i n = some j ∧ j < n ∧ -(n : Int) ≤ i ∧ i < n := by
  unfold ixN at h
  by_cases h0 : 0 ≤ i
  · rw [if_pos h0] at h
    by_cases h1 : i < n
    · rw [if_pos h1] at h
      have e : i.toNat = j := Option.some.inj h
      exact ⟨by rw [seqIndex_of h0 h1, e], by omega, by omega, h1⟩
    · rw [if_neg h1] at h; cases h
  · rw [if_neg h0] at h
    by_cases h1 : -(n : Int) ≤ i
    · rw [if_pos h1] at h
      have e : (i + n).toNat = j := Option.some.inj h
      exact ⟨by rw [seqIndex_neg (by omega) h1, e], by omega, h1, by omega⟩
    · rw [if_neg h1] at h; cases h
theorem atI_get {α : Type} {xs : List α} {i : Int} {v : α} (h : atI xs i = some v) : ∃ j, seqIndex? i xs.length = some j ∧ xs[j]? = some v ∧ j < xs.length ∧ -(xs.length : Int) ≤ i ∧ i < xs.length := by
  unfold atI at h
  cases e : ixN xs.length i with
  | none => rw [e] at h; cases h
  | some j =>
    rw [e] at h
    obtain ⟨h1, h2, h3, h4⟩ := ixN_seq e
    exact ⟨j, h1, h, h2, h3, h4⟩
noncomputable def PlainIx (b : Expr) : Prop := ∀ o i, subscripted b false o i = operate [o, i] (getItem o i)
noncomputable def IxR (X : Cx) (r : R2) : Prop :=
  ∀ (value slice : Expr) (pins : List (Addr × Obj)) (s : Shared) (σ : St) (H : Hp) (x y : V) (v u : Value) (Q : VK), Inv X pins σ H s → RelV x v → RelV y u → r x y H Q →
    subscripted slice false v u = operate [v, u] (getItem v u) → wpAny (model X.prog X.w) X.A (subscriptTail value slice v u) (EP X pins σ Q) X.xe s
noncomputable def MtR (X : Cx) (id : String) (r : V → List V → Hp → VK → Prop) : Prop :=
  ∀ (pins : List (Addr × Obj)) (s : Shared) (σ : St) (H : Hp) (x : V) (xs : List V) (v : Value) (us : List Value) (Q : VK), Inv X pins σ H s → RelV x v → Vals xs us → r x xs H Q →
    wpAny (model X.prog X.w) X.A (call (.builtin id) (v :: us)) (EP X pins σ Q) X.xe s
section
variable {X : Cx} {a b : Expr} {ta tb : TE} {pos : Pos}
theorem IxR.or {r r' : R2} (h : IxR X r) (h' : IxR X r') : IxR X (fun x y H Q => r x y H Q ∨ r' x y H Q) := by
  intro value slice pins s σ H x y v u Q I rx ry q hs
  rcases q with q | q
  · exact h value slice pins s σ H x y v u Q I rx ry q hs
  · exact h' value slice pins s σ H x y v u Q I rx ry q hs
theorem pe_ix {r : R2} (hr : IxR X r) (ha : PE X a ta) (hb : PE X b tb) (hs : PlainIx b) : PE X (.Subscript a b pos) (tOp r ta tb) := by
  intro pins s σ H Q I h
  exact Subscript_ (binT ha hb I h fun v u s2 x y H2 I2 rx ry q => hr a b pins s2 σ H2 x y v u Q I2 rx ry q (hs _ _))
noncomputable def rIxL (K : PySem.W.Frag) : R2 := fun x y H Q => ∃ p xs i v, x = .ref p ∧ y = .int i ∧ SqL K H p xs ∧ atI xs i = some v ∧ Q v H
noncomputable def rIxT (K : PySem.W.Frag) : R2 := fun x y H Q => ∃ p xs i v, x = .ref p ∧ y = .int i ∧ SqT K H p xs ∧ atI xs i = some v ∧ Q v H
noncomputable def rIxS : R2 := fun x y H Q => ∃ z i c, x = .str z ∧ y = .int i ∧ z.length ≤ sizeLine ∧ atI z.cps.toList i = some c ∧ Q (.str ⟨#[c]⟩) H
theorem ix_list : IxR X (rIxL X.K) := by
  intro value slice pins s σ H x y v u Q I rx ry h hs
  obtain ⟨p, xs, i, z, rfl, rfl, hq, he, q⟩ := h
  cases rx
  obtain ⟨t, rfl⟩ := ry
  obtain ⟨its, r, pl, hz⟩ := I.list hq
  obtain ⟨j, h1, h2, h3, h4, h5⟩ := atI_get he
  obtain ⟨w, ew, rw'⟩ := r.get h2
  have hl := r.length
  have hn := line63
  have fin : EP X pins σ Q w s := ⟨z, H, I, rw', q⟩
  by_cases h0 : 0 ≤ i
  · have hj : i.toNat = j := by
      rw [seqIndex_of h0 h5] at h1
      exact Option.some.inj h1
    exact item_listR pl.isList h0 (by omega) (by rw [hj]; simpa using ew) fin hs
  · have hj : (i + (its.toArray.size : Int)).toNat = j := by
      rw [seqIndex_neg (by omega) h4] at h1
      rw [List.size_toArray, ← hl]
      exact Option.some.inj h1
    exact subscriptTail_builtinR (x := w) pl.isList.typeIs slot_list_getitem.lookup
      (wpAny_getItem_list_neg (Q := fun r s' => r = w ∧ EP X pins σ Q r s') pl.isList (by omega) (by rw [List.size_toArray] <;> omega) (by omega) (by rw [hj]; simpa using ew) ⟨rfl, fin⟩) hs
theorem ix_tup : IxR X (rIxT X.K) := by
  intro value slice pins s σ H x y v u Q I rx ry h hs
  obtain ⟨p, xs, i, z, rfl, rfl, hq, he, q⟩ := h
  cases rx
  obtain ⟨t, rfl⟩ := ry
  obtain ⟨its, r, pl, hz⟩ := I.tuple hq
  obtain ⟨j, h1, h2, h3, h4, h5⟩ := atI_get he
  obtain ⟨w, ew, rw'⟩ := r.get h2
  have hl := r.length
  have hn := line63
  have fin : EP X pins σ Q w s := ⟨z, H, I, rw', q⟩
  exact subscriptTail_builtinR (x := w) pl.typeIs slot_tuple_getitem.lookup
    (getItem_tuple (j := j) (Q := fun r s' => r = w ∧ EP X pins σ Q r s') pl (by omega) (by omega) (by rw [List.size_toArray, ← hl]; exact h1) (by simpa using ew) ⟨rfl, fin⟩) hs
theorem ix_str : IxR X rIxS := by
  intro value slice pins s σ H x y v u Q I rx ry h hs
  obtain ⟨z, i, c, rfl, rfl, hz, he, q⟩ := h
  obtain ⟨t, rfl⟩ := rx
  obtain ⟨t', rfl⟩ := ry
  obtain ⟨j, h1, h2, h3, h4, h5⟩ := atI_get he
  have hl : z.cps.toList.length = z.length := by simp [Str.length]
  rw [hl] at h1 h4 h5
  have hn := line63
  exact tail_any (typeIs_str s z t) slot_str_getitem.lookup (getItem_str (c := c) (by
    have e1 : decide (i < -(2 ^ 63 : Int)) = false := decide_eq_false (by omega)
    have e2 : decide (i ≥ 2 ^ 63) = false := decide_eq_false (by omega)
    rw [e1, e2, Bool.or_false]) (by rw [h1]; simpa using h2) ⟨.str ⟨#[c]⟩, H, I.tok _, ⟨_, rfl⟩, q⟩) hs
noncomputable def rIx (K : PySem.W.Frag) : R2 := fun x y H Q => rIxL K x y H Q ∨ rIxT K x y H Q ∨ rIxS x y H Q
theorem ix_seq : IxR X (rIx X.K) := ix_list.or (ix_tup.or ix_str)
theorem mapSeq_set (its : List Value) (n j : Nat) (u : Value) : Obj.mapSeq (·.setIfInBounds j u) { cls := .type "list", data := .seq its.toArray n } = { cls := .type "list", data := .seq (its.set j u).toArray n } := by
  simp [Obj.mapSeq]
theorem Inv.lst {pins : List (Addr × Obj)} {σ : St} {H : Hp} {s : Shared} {p : Addr} {xs : List V} (I : Inv X pins σ H s) (h : H p = some (.lst xs)) :
    ∃ (its : List Value) (n : Nat), Vals xs its ∧ s.heap.get? p = some { cls := .type "list", data := .seq its.toArray n } ∧ xs.length ≤ sizeLine := by
  obtain ⟨z, its, n, r, e⟩ := I.hok p _ h
  exact ⟨its, n, r, e, z⟩
theorem Inv.lstUpd {pins : List (Addr × Obj)} {σ : St} {H : Hp} {s : Shared} {p : Addr} {xs ys : List V} {its its' : List Value} {n n' : Nat} {f : Obj → Obj} (I : Inv X pins σ H s) (h : H p = some (.lst xs))
    (ho : s.heap.get? p = some { cls := .type "list", data := .seq its.toArray n }) (hf : f { cls := .type "list", data := .seq its.toArray n } = { cls := .type "list", data := .seq its'.toArray n' }) (r : Vals ys its') (hz : ys.length ≤ sizeLine) (t : Nat) :
    Inv X pins σ (upd H p (.lst ys)) { s with heap := s.heap.update p f, toks := t } := by
  have e : (s.heap.update p f).get? p = some { cls := .type "list", data := .seq its'.toArray n' } := by
    rw [Heap.get?_update_self f ho (by rw [hf] <;> rfl), hf]
  refine I.write (x := p) (e := p) (by rw [h]; trivial) (.inl rfl) (fun b u hb q => (Heap.get?_update_other _ _ (Ne.symm hb)).trans q) ⟨_, e⟩ ?_
  exact ⟨hz, its', n', r, e⟩
noncomputable def rSetL : V → V → V → Hp → (Hp → Prop) → Prop := fun o i v H Q => ∃ p xs k j, o = .ref p ∧ i = .int k ∧ H p = some (.lst xs) ∧ ixN xs.length k = some j ∧ Q (upd H p (.lst (xs.set j v)))
theorem set_list : PSet X rSetL := by
  intro pins s σ H o i v ov iv u Q I ro ri rv h
  obtain ⟨p, xs, k, j, rfl, rfl, hp, hj, q⟩ := h
  cases ro
  obtain ⟨t, rfl⟩ := ri
  obtain ⟨its, n, r, ho, hz⟩ := I.lst hp
  obtain ⟨h1, h2, h3, h4⟩ := ixN_seq hj
  have hl := r.length
  have hn := line63
  have I' : Inv X pins σ (upd H p (.lst (xs.set j v))) { s with heap := s.heap.update p (Obj.mapSeq (·.setIfInBounds j u)) } :=
    I.lstUpd hp ho (mapSeq_set its n j u) (r.set rv j) (by rw [List.length_set]; exact hz) s.toks
  by_cases h0 : 0 ≤ k
  · have hk : k.toNat = j := by
      rw [seqIndex_of h0 h4] at h1
      exact Option.some.inj h1
    exact PySem.W.ki_setAt ho h0 (by omega) (by rw [List.size_toArray, ← hl]; exact h4) (by rw [hk]; exact ⟨_, I', q⟩)
  · have hk : (k + (its.toArray.size : Int)).toNat = j := by
      rw [seqIndex_neg (by omega) h3] at h1
      rw [List.size_toArray, ← hl]
      exact Option.some.inj h1
    exact PySem.W.ki_setBack ho (by omega) (by rw [List.size_toArray, ← hl]; exact h3) (by omega) (by rw [hk]; exact ⟨_, I', q⟩)
theorem slice_bounds (lo hi : Option Int) (n : Nat) : (sliceBounds lo hi none n).1 = ((HT.sIx n 0 lo : Nat) : Int) ∧ (sliceBounds lo hi none n).2.1 = ((HT.sIx n n hi : Nat) : Int) ∧ (sliceBounds lo hi none n).2.2 = 1 := by
  refine ⟨?_, ?_, rfl⟩
  · cases lo with
    | none => simp [sliceBounds, HT.sIx]
    | some i =>
      simp only [sliceBounds, HT.sIx, Option.getD_none, show (1 : Int) > 0 by decide, if_true]
      by_cases h : i < 0
      · simp only [h, if_true] <;> omega
      · simp only [h, if_false] <;> omega
  · cases hi with
    | none => simp [sliceBounds, HT.sIx]
    | some i =>
      simp only [sliceBounds, HT.sIx, Option.getD_none, show (1 : Int) > 0 by decide, if_true]
      by_cases h : i < 0
      · simp only [h, if_true] <;> omega
      · simp only [h, if_false] <;> omega
theorem slicePick_cut (its : List Value) (lo hi : Option Int) : slicePick its.toArray lo hi none = ((its.drop (HT.sIx its.length 0 lo)).take (HT.sIx its.length its.length hi - HT.sIx its.length 0 lo)).toArray := by
  obtain ⟨h1, h2, h3⟩ := slice_bounds lo hi its.toArray.size
  unfold slicePick
  rw [h1, h2, h3]
  simp only [sliceRange_one, pick_run, List.size_toArray] <;> rfl
noncomputable def rSlL (K : PySem.W.Frag) : V → Option Int → Option Int → Hp → VK → Prop := fun x lo hi H Q => ∃ a xs, x = .ref a ∧ SqL K H a xs ∧ ∀ p, H p = none → Q (.ref p) (upd H p (.lst (cutV xs lo hi)))
theorem sl_list : SlR X (rSlL X.K) := by
  intro pins s σ H x v vl vu lo hi sl Q I rx hs pl pu h
  obtain ⟨a, xs, rfl, hx, q⟩ := h
  cases rx
  obtain ⟨its, r, ht, hz⟩ := I.list hx
  have hlen := r.length
  refine ⟨"list", _, slot_list_getitem.lookup, ht.isList.typeIs, ?_⟩
  refine wpAny_getItem_list_slice ht.isList hs pl pu .none (by simp) ?_ (by rw [List.size_toArray] <;> omega)
  rw [slicePick_cut, ← hlen]
  refine ⟨.ref s.heap.objs.size, _, I.laid (t' := s.toks) (o := .lst (cutV xs lo hi)) (fun b ob q => Heap.get?_push_of_some _ q) (Nat.le_refl _) ?_, rfl, q _ (I.hok.fresh (Nat.le_refl _))⟩
  exact ⟨Nat.le_trans (cutV_length xs lo hi) hz, _, 0, (r.drop (HT.sIx xs.length 0 lo)).take (HT.sIx xs.length xs.length hi - HT.sIx xs.length 0 lo), Heap.get?_push_size _ rfl⟩
theorem call_tuple_of : CallR X (.type "tuple") (fun xs H Q => ∃ p ys, xs = [.ref p] ∧ ((SqL X.K H p ys ∧ ∀ l, H l = none → Q (.ref l) (upd H l (.tup ys))) ∨ (SqT X.K H p ys ∧ Q (.ref p) H))) := by
  intro pins s σ H xs us Q I r h
  obtain ⟨p, ys, rfl, h⟩ := h
  obtain ⟨u, rfl, rx⟩ := vals1 r
  cases rx
  rcases h with ⟨hq, q⟩ | ⟨hq, q⟩
  · obtain ⟨its, r', pl, hz⟩ := I.list hq
    have hlen := r'.length
    refine call_tuple_list pl.isList (fun h' kp => ?_) (by simp only [List.size_toArray] <;> omega)
    have I1 : Inv X pins σ H { s with heap := h' } := I.kept (t' := s.toks) kp
    have I2 : Inv X pins σ (upd H h'.objs.size (.tup ys)) { s with heap := h'.push { cls := .type "tuple", data := .seq its.toArray } } :=
      I1.laid (t' := s.toks) (fun b o e => Heap.get?_push_of_some _ e) (Nat.le_refl _) (show ObjOk X.prog X.w _ _ _ (.tup ys) from ⟨hz, its, r', IsTup.new _ _⟩)
    exact ⟨.ref h'.objs.size, _, I2, rfl, q _ (I1.hok.fresh (Nat.le_refl _))⟩
  · obtain ⟨its, r', pl, hz⟩ := I.tuple hq
    exact call_tuple_same pl ⟨.ref p, H, I, rfl, q⟩
noncomputable def tyV (K : PySem.W.Frag) (T : String) (x : V) (H : Hp) : Prop := match x with
  | .str _ => T = "str"
  | .int _ => T = "int"
  | .ref p => (T = "list" ∧ ∃ xs, SqL K H p xs) ∨ (T = "tuple" ∧ ∃ o, K.lookup p = some o ∧ o.cls = .type "tuple" ∧ o.dict = none) ∨
      (T = "dict" ∧ ((∃ kvs, H p = some (.dK kvs)) ∨ ∃ kvs, H p = some (.dT kvs))) ∨ (T = "set" ∧ ∃ S n, H p = some (.set S n))
  | _ => False
theorem tyV_is {pins : List (Addr × Obj)} {σ : St} {H : Hp} {s : Shared} {T : String} {x : V} {v : Value} (I : Inv X pins σ H s) (r : RelV x v) (ty : tyV X.K T x H) :
    s.TypeIs v T ∧ ∀ a, v = .ref a → ∃ ob, s.heap.get? a = some ob ∧ ob.dict = none := by
  cases x with
  | str z =>
    obtain ⟨t, rfl⟩ := r
    cases (show T = "str" from ty)
    exact ⟨typeIs_str s z t, fun _ e => nomatch e⟩
  | int i =>
    obtain ⟨t, rfl⟩ := r
    cases (show T = "int" from ty)
    exact ⟨typeIs_int s i t, fun _ e => nomatch e⟩
  | ref p =>
    cases r
    rcases ty with ⟨rfl, xs, hq⟩ | ⟨rfl, o, hk, hc, hd⟩ | ⟨rfl, hk⟩ | ⟨rfl, S, n, hk⟩
    · obtain ⟨its, _, pl, _⟩ := I.list hq
      refine ⟨pl.isList.typeIs, fun a e => ?_⟩
      cases e
      obtain ⟨o, n, e, c, hd, _⟩ := pl
      exact ⟨o, e, hd⟩
    · refine ⟨⟨o, I.kIn p o hk, hc⟩, fun a e => ?_⟩
      cases e
      exact ⟨o, I.kIn _ o hk, hd⟩
    · have z : ∃ o, s.heap.get? p = some o ∧ o.ExactDict := by
        rcases hk with ⟨kvs, hk⟩ | ⟨kvs, hk⟩
        · obtain ⟨_, _, _, _, o, _, _, e, ex, _⟩ := I.hok p _ hk
          exact ⟨o, e, ex⟩
        · obtain ⟨_, _, _, _, o, _, _, e, ex, _⟩ := I.hok p _ hk
          exact ⟨o, e, ex⟩
      obtain ⟨o, e, ex⟩ := z
      refine ⟨⟨o, e, ex.1⟩, fun a e2 => ?_⟩
      cases e2
      exact ⟨o, e, ex.2.1⟩
    · obtain ⟨o, _, _, _, e, ex, _⟩ := I.hok p _ hk
      refine ⟨⟨o, e, ex.1⟩, fun a e2 => ?_⟩
      cases e2
      exact ⟨o, e, ex.2.1⟩
  | _ => exact False.elim ty
noncomputable def tBM0 (K : PySem.W.Frag) (T : String) (r : V → List V → Hp → VK → Prop) (to : TE) : TE := fun σ H Q => to σ H fun x H1 => tyV K T x H1 ∧ r x [] H1 Q
noncomputable def tBM (K : PySem.W.Frag) (T : String) (r : V → List V → Hp → VK → Prop) (to : TE) (t : TA) : TE := fun σ H Q => to σ H fun x H1 => tyV K T x H1 ∧ t σ H1 fun xs H2 => r x xs H2 Q
variable {o e : Expr} {es : List Expr} {to : TE} {t : TA} {name : Str} {apos cpos : Pos} {T id : String} {r : V → List V → Hp → VK → Prop}
theorem pe_bm0 (pa : PlainAttrs T) (slot : Slot T name id) (hty : typeOf (.builtin id) = pure (.type "method_descriptor")) (hm : MtR X id r) (ho : PE X o to)
    (hbase : attributeBase o name X.env (eval o X.env) = eval o X.env := by rfl) (hline : (apos.endLine == cpos.line) = true := by rfl) : PE X (.Call (.Attribute o name apos) [] [] cpos) (tBM0 X.K T r to) := by
  intro pins s σ H Q I h
  refine wpAny_Call_method0_late hbase hline (thn (ho pins s σ H _ I h) fun v s1 ⟨x, H1, I1, r1, ty, q1⟩ => ?_)
  obtain ⟨h1, h2⟩ := tyV_is I1 r1 ty
  exact ⟨T, id, pa, slot, hty, h1, h2, Calls.callWith_builtin rfl (PySem.evalArgs_none (hm pins s1 σ H1 x [] v [] Q I1 r1 .nil q1))⟩
theorem pe_bm (pa : PlainAttrs T) (slot : Slot T name id) (hty : typeOf (.builtin id) = pure (.type "method_descriptor")) (hm : MtR X id r) (ho : PE X o to) (ha : PA X (e :: es) t)
    (hbase : attributeBase o name X.env (eval o X.env) = eval o X.env := by rfl)
    (hfew : ((backTo cpos (starEach (e :: es) X.env)).all (fun x => !x.1) && (backToKw cpos (keywordEach [] X.env)).all (fun x => x.1.isSome)
      && decide ((e :: es).length + ([] : List Keyword).length + (if ([] : List Keyword).isEmpty then 0 else 1) < 30)) = true := by rfl)
    (hline : (apos.endLine == cpos.line) = true := by rfl) (hs : starEach (e :: es) X.env = (false, eval e X.env) :: starEach es X.env := by rfl) (hplain : (backTo cpos (starEach es X.env)).any (·.1) = false := by rfl) :
    PE X (.Call (.Attribute o name apos) (e :: es) [] cpos) (tBM X.K T r to t) := by
  intro pins s σ H Q I h
  refine wpAny_Call_method_late hbase hfew hline rfl (thn (ho pins s σ H _ I h) fun v s1 ⟨x, H1, I1, r1, ty, q1⟩ => ?_)
  obtain ⟨h1, h2⟩ := tyV_is I1 r1 ty
  refine ⟨T, id, pa, slot, hty, h1, h2, ?_⟩
  have hA := ha cpos pins s1 σ H1 _ I1 q1
  rw [hs] at hA ⊢
  refine Calls.callWith_builtin (by show (false || (backTo cpos (starEach es X.env)).any (·.1)) = false; rw [hplain] <;> rfl) (Calls.evalArgs_plain ?_)
  exact thn hA fun us s2 ⟨vs, H2, I2, r2, q2⟩ => hm pins s2 σ H2 x vs v us Q I2 r1 r2 q2
end
end L2
namespace L2
open PySem PySem.Spec PyProof.Rows
noncomputable def MtM (X : Cx) (id : String) (r : V → List V → Hp → VK → Prop) : Prop :=
  ∀ (pins : List (Addr × Obj)) (s : Shared) (σ : St) (H : Hp) (x : V) (xs : List V) (v : Value) (us : List Value) (Q : VK), Inv X pins σ H s → RelV x v → Vals xs us → r x xs H Q →
    wpAny (model X.prog X.w) X.A (call (.builtin id) (v :: us)) (EP X pins σ Q) X.xe s
theorem Vals.one : ∀ {x : V} {us : List Value}, Vals [x] us → ∃ u, us = [u] ∧ RelV x u
  | _, _, .cons r .nil => ⟨_, rfl, r⟩
theorem Vals.zero : ∀ {us : List Value}, Vals [] us → us = []
  | _, .nil => rfl
theorem Vals.dropLast {xs : List V} {us : List Value} (h : Vals xs us) : Vals xs.dropLast us.dropLast := by
  induction h with
  | nil => exact .nil
  | cons r t ih =>
    cases t with
    | nil => exact .nil
    | cons q t' => exact .cons r ih
theorem Vals.rep {xs : List V} {us : List Value} (h : Vals xs us) : ∀ k : Nat, Vals (List.replicate k xs).flatten (List.replicate k us).flatten
  | 0 => .nil
  | k + 1 => by
    rw [List.replicate_succ, List.replicate_succ, List.flatten_cons, List.flatten_cons]
    exact Vals.append h (Vals.rep h k)
theorem erase_last {α : Type} (l : List α) : l.eraseIdx (l.length - 1) = l.dropLast := by
  induction l with
  | nil => rfl
  | cons a r ih =>
    cases r with
    | nil => rfl
    | cons b r =>
      have e : (a :: b :: r).length - 1 = ((b :: r).length - 1) + 1 := by
        have h1 : (a :: b :: r).length = r.length + 2 := rfl
        have h2 : (b :: r).length = r.length + 1 := rfl
        omega
      rw [e, List.eraseIdx_cons_succ, ih]
      all_goals rfl
theorem foldl_rep (its : List Value) : ∀ (k : Nat) (acc : List Value),
    List.foldl (fun x1 x2 => x1 ++ x2) acc.toArray (List.replicate k its.toArray) = (acc ++ (List.replicate k its).flatten).toArray
  | 0, acc => by simp
  | k + 1, acc => by
    have e : acc.toArray ++ its.toArray = (acc ++ its).toArray := by simp
    have e2 : (acc ++ its) ++ (List.replicate k its).flatten = acc ++ (List.replicate (k + 1) its).flatten := by
      rw [List.replicate_succ, List.flatten_cons, List.append_assoc]
    rw [← e2, ← foldl_rep its k (acc ++ its), ← e, List.replicate_succ, List.foldl_cons]
section
variable {X : Cx} {pins : List (Addr × Obj)} {σ : St} {H : Hp} {s : Shared} {l b : Addr} {xs ys zs : List V}
theorem Inv.lset {its its' : List Value} {n : Nat} {f : Array Value → Array Value} {t' : Nat} (I : Inv X pins σ H s) (hH : H l = some (.lst xs))
    (e : s.heap.get? l = some { cls := .type "list", data := .seq its.toArray n }) (hf : f its.toArray = its'.toArray) (hv : Vals ys its') (hz : ys.length ≤ sizeLine) :
    Inv X pins σ (upd H l (.lst ys)) { s with heap := s.heap.update l (Obj.mapSeq f), toks := t' } := by
  have q := PySem.IsL.update e f
  rw [hf] at q
  refine I.write (x := l) (e := l) (by rw [hH]; exact trivial) (.inl rfl) (fun b' u hb hu => (Heap.get?_update_other s.heap (Obj.mapSeq f) (Ne.symm hb)).trans hu) ⟨_, q⟩ ?_
  exact ⟨hz, its', _, hv, q⟩
theorem Inv.lnew {its : List Value} {t' : Nat} (I : Inv X pins σ H s) (hv : Vals ys its) (hz : ys.length ≤ sizeLine) :
    Inv X pins σ (upd H s.heap.objs.size (.lst ys)) { s with heap := s.heap.push { cls := .type "list", data := .seq its.toArray }, toks := t' } :=
  I.laid (fun _ _ q => Heap.get?_push_of_some _ q) (Nat.le_refl _) ⟨hz, its, 0, hv, Heap.get?_push_size _ rfl⟩
theorem Inv.fresh (I : Inv X pins σ H s) : H s.heap.objs.size = none := I.hok.fresh (Nat.le_refl _)
theorem Inv.lstM (I : Inv X pins σ H s) (hH : H l = some (.lst xs)) : xs.length ≤ sizeLine ∧ ∃ (its : List Value) (n : Nat), Vals xs its ∧ xs.length = its.length ∧ s.heap.get? l = some { cls := .type "list", data := .seq its.toArray n } := by
  obtain ⟨z, its, n, r, e⟩ := I.hok l _ hH
  exact ⟨z, its, n, r, r.length, e⟩
theorem notLongL {n : Nat} (h : n ≤ sizeLine) : Builtin.List.listTooLong n = false := by
  unfold Builtin.List.listTooLong
  exact decide_eq_false (by omega)
end
section
variable {X : Cx}
noncomputable def rAppend : V → List V → Hp → VK → Prop := fun x vs H Q => ∃ l xs y, x = .ref l ∧ vs = [y] ∧ H l = some (.lst xs) ∧ xs.length < sizeLine ∧ Q .non (upd H l (.lst (xs ++ [y])))
theorem mt_append : MtM X "list.append" rAppend := by
  intro pins s σ H x vs v us Q I rx rv h
  obtain ⟨l, xs, y, rfl, rfl, hH, hz, q⟩ := h
  cases rx
  obtain ⟨u, rfl, ru⟩ := rv.one
  obtain ⟨z, its, n, r, hl, e⟩ := I.lstM hH
  refine call_meets F.slot_list_append ⟨_, e, rfl⟩ F.entry_list_append (F.args_list_append_2 _ _) (PySem.list_append l its.toArray n u (by rw [List.size_toArray]; omega)) ⟨e, ?_⟩
  refine ⟨.non, _, I.lset (its' := its ++ [u]) hH e (by simp) (r.append (.cons ru .nil)) ?_, rfl, q⟩
  rw [List.length_append, List.length_singleton]
  omega
noncomputable def rExtend : V → List V → Hp → VK → Prop := fun x vs H Q => ∃ l b xs zs, x = .ref l ∧ vs = [.ref b] ∧ H l = some (.lst xs) ∧ H b = some (.lst zs) ∧ xs.length + zs.length ≤ sizeLine ∧ Q .non (upd H l (.lst (xs ++ zs)))
theorem mt_extend : MtM X "list.extend" rExtend := by
  intro pins s σ H x vs v us Q I rx rv h
  obtain ⟨l, b, xs, zs, rfl, rfl, hH, hB, hz, q⟩ := h
  cases rx
  obtain ⟨u, rfl, ru⟩ := rv.one
  cases ru
  obtain ⟨z, its, n, r, hl, e⟩ := I.lstM hH
  obtain ⟨z2, its2, n2, r2, hl2, e2⟩ := I.lstM hB
  have hsz : its.toArray.size + its2.toArray.size ≤ sizeLine := by rw [List.size_toArray, List.size_toArray]; omega
  have hlong : ¬ (!its.toArray.isEmpty && Builtin.List.listTooLong (its.toArray.size + its2.toArray.size)) = true := by
    rw [notLongL hsz, Bool.and_false]
    exact Bool.false_ne_true
  refine call_meets F.slot_list_extend ⟨_, e, rfl⟩ F.entry_list_extend (F.args_list_extend_2 _ _)
    (AutoSeq1.list_extend_list_list_0 l its.toArray n b its2.toArray n2 hlong (by rw [List.size_toArray]; omega) (by omega)) ⟨e, e2, ?_⟩
  refine ⟨.non, _, I.lset (its' := its ++ its2) hH e (by simp) (r.append r2) ?_, rfl, q⟩
  rw [List.length_append]
  omega
noncomputable def rPop : V → List V → Hp → VK → Prop := fun x vs H Q => ∃ l xs y, x = .ref l ∧ vs = [] ∧ H l = some (.lst xs) ∧ xs[xs.length - 1]? = some y ∧ Q y (upd H l (.lst xs.dropLast))
theorem mt_pop : MtM X "list.pop" rPop := by
  intro pins s σ H x vs v us Q I rx rv h
  obtain ⟨l, xs, y, rfl, rfl, hH, hy, q⟩ := h
  cases rx
  have hus := rv.zero
  subst hus
  obtain ⟨z, its, n, r, hl, e⟩ := I.lstM hH
  obtain ⟨u, hu, ru⟩ := r.get hy
  have hy' : its.toArray[its.toArray.size - 1]? = some u := by
    show its.toArray[its.length - 1]? = some u
    rw [← Array.getElem?_toList, ← hl]
    exact hu
  refine call_meets F.slot_list_pop ⟨_, e, rfl⟩ F.entry_list_pop (F.args_list_pop_1 _) (MeetsSeq.list_pop_last l its.toArray n u hy' (by rw [List.size_toArray]; omega)) ⟨e, ?_⟩
  refine ⟨y, _, I.lset (its' := its.dropLast) hH e ?_ r.dropLast ?_, ru, q⟩
  · show its.toArray.eraseIdxIfInBounds (its.toArray.size - 1) = its.dropLast.toArray
    rw [List.size_toArray, List.eraseIdxIfInBounds_toArray, erase_last]
  · rw [List.length_dropLast]
    omega
noncomputable def rCat : R2 := fun x y H Q => ∃ l b xs zs, x = .ref l ∧ y = .ref b ∧ H l = some (.lst xs) ∧ H b = some (.lst zs) ∧ xs.length + zs.length ≤ sizeLine ∧ ∀ p, H p = none → Q (.ref p) (upd H p (.lst (xs ++ zs)))
theorem op_cat : OpR X (binaryOp .Add) rCat := by
  intro pins s σ H x y v u Q I rx ry h
  obtain ⟨l, b, xs, zs, rfl, rfl, hH, hB, hz, q⟩ := h
  cases rx
  cases ry
  obtain ⟨z, its, n, r, hl, e⟩ := I.lstM hH
  obtain ⟨z2, its2, n2, r2, hl2, e2⟩ := I.lstM hB
  refine PySem.P.add_list e e2 ?_ (by rw [List.size_toArray, List.size_toArray]; omega)
  have ea : its.toArray ++ its2.toArray = (its ++ its2).toArray := by simp
  rw [ea]
  exact ⟨.ref _, _, I.lnew (t' := s.toks) (r.append r2) (by rw [List.length_append]; omega), rfl, q _ I.fresh⟩
noncomputable def rRep : R2 := fun x y H Q => ∃ l k xs, x = .ref l ∧ y = .int k ∧ H l = some (.lst xs) ∧ -(2 ^ 63) ≤ k ∧ k < 2 ^ 63 ∧ xs.length * k.toNat ≤ sizeLine ∧
  ∀ p, H p = none → Q (.ref p) (upd H p (.lst (List.replicate k.toNat xs).flatten))
theorem len_rep {α : Type} (xs : List α) (k : Nat) : (List.replicate k xs).flatten.length = k * xs.length := by
  induction k with
  | zero => simp
  | succ k ih => rw [List.replicate_succ, List.flatten_cons, List.length_append, ih, Nat.succ_mul, Nat.add_comm]
theorem op_rep : OpR X (binaryOp .Mult) rRep := by
  intro pins s σ H x y v u Q I rx ry h
  obtain ⟨l, k, xs, rfl, rfl, hH, h1, h2, hz, q⟩ := h
  cases rx
  obtain ⟨t, rfl⟩ := ry
  obtain ⟨z, its, n, r, hl, e⟩ := I.lstM hH
  have hlen : its.toArray.size * k.toNat ≤ sizeLine := by rw [List.size_toArray, ← hl]; exact hz
  have hcap : ¬ its.toArray.size * k.toNat > (2 ^ 63 - 1) / 8 := by
    have : (sizeLine : Nat) ≤ (2 ^ 63 - 1) / 8 := by decide
    omega
  have hfit : ¬ (!Builtin.List.listFitsIndex k) = true := by
    rw [fitsIndex_both h1 h2]
    exact Bool.false_ne_true
  have hlong : ¬ Builtin.List.listTooLong (its.toArray.size * k.toNat) = true := by
    rw [notLongL hlen]
    exact Bool.false_ne_true
  have hnew : List.foldl (fun x1 x2 => x1 ++ x2) #[] (List.replicate (if its.toArray.isEmpty = true then 0 else k.toNat) its.toArray) = (List.replicate k.toNat its).flatten.toArray := by
    have f0 : ∀ m : Nat, List.foldl (fun x1 x2 => x1 ++ x2) #[] (List.replicate m its.toArray) = (List.replicate m its).flatten.toArray := fun m => by
      have := foldl_rep its m []
      rw [List.nil_append] at this
      exact this
    rw [f0]
    cases its with
    | nil => simp
    | cons a r' => rw [if_neg (by simp)]
  refine wpAny_binaryOp_repeat_ref (T := "list") (U := "int") (by decide) ⟨_, e, rfl⟩ (fun s' => typeIs_int s' k t) noFill_list_mul F.fills_int_mul F.slot_int_rmul repeat_list F.slot_int_index.lookup
    (call_meets F.slot_int_rmul (typeIs_int s k t) F.entry_int_rmul (F.args_int_rmul_2 _ _) (int___rmul___int_list k t l its.toArray n)
      ⟨e, rfl, ⟨_, e, rfl⟩, call_meets F.slot_list_mul ⟨_, e, rfl⟩ F.entry_list_mul (F.args_list_mul_2 _ _) (AutoListH.list___mul___list_int_3 l its.toArray n k t hfit hcap hlong) ⟨e, ?_⟩⟩)
  rw [hnew]
  exact ⟨.ref _, _, I.lnew (t' := s.toks) (r.rep k.toNat) (by rw [len_rep, Nat.mul_comm]; exact hz), rfl, q _ I.fresh⟩
end
section
variable {prog : Program} {w : World} {A : Around} {E : Value → Shared → Prop} {s : Shared}
end
section
variable {X : Cx}
end
end L2
namespace Att
open PySem PySem.W PySem.Calls PyProof.Rows
theorem ints_of_wellAll {P : Params} {h : Heap} : ∀ (ns : List Int) (vs : List Value), WellAll P h vs (ns.map WData.int) → IntsAre vs ns := by
  intro ns
  induction ns with
  | nil =>
    intro vs w
    rw [List.map_nil] at w
    cases w
    exact .nil
  | cons n ns ih =>
    intro vs w
    rw [List.map_cons] at w
    cases w with
    | cons a b =>
      cases a
      exact .cons _ _ (ih _ b)
theorem script_of {l : OpenLaw} {n : Nat} (hn : l.most = some n) {P : Params} {h : Heap} {args : List WData} {vals : List Value}
    (hpre : l.row.toRowW.claim.pre args = true) (hwl : WellAll P h vals args) :
    ∃ a vs ns, vals = [Value.ref a] ∧ args = [WData.list (ns.map WData.int)] ∧ h.get? a = some { cls := .type "list", data := .seq vs.toArray } ∧ IntsAre vs ns ∧ ns.length ≤ n := by
  have hsh : WShape.hasAll [] args [.list .int] = true := (pre_splitW hpre).1
  have hc : l.pre.holds [] { args := args } = true := (pre_splitW hpre).2
  obtain ⟨d, r, rfl, h1, h2⟩ := hasAllW_cons hsh
  obtain rfl := hasAllW_nil h2
  obtain ⟨xs, rfl, h3⟩ := hasW_list h1
  obtain ⟨ns, rfl⟩ := items_int h3
  have hlen : ns.length ≤ n := by
    unfold OpenLaw.pre at hc
    have h4 : (WTm.not (.lt (.lit (.int (n : Int))) (.len (.arg 0)))).holds [] { args := [.list (ns.map .int)] } = true := by
      have h4 := (holds_andW hc).1
      rw [hn] at h4
      exact h4
    have h5 := condW_of h4 (w_not (w_lt w_lit (w_len_list (w_arg rfl))))
    rw [List.length_map] at h5
    refine Nat.le_of_not_lt fun q => ?_
    have q' : (n : Int) < ((ns.length : Nat) : Int) := by omega
    first
      | (rw [decide_eq_true q'] at h5; exact absurd h5 (by decide))
      | (simp at h5; omega)
  cases hwl with
  | cons w1 w2 =>
    cases w2
    cases w1 with
    | list ho hall => exact ⟨_, _, ns, rfl, rfl, ho, ints_of_wellAll ns _ hall, hlen⟩
theorem post_true (l : OpenLaw) (args : List WData) : l.row.toRowW.claim.post args (.bool true) args = true :=
  postW_of (r := l.row.toRowW) (X := (true == true))
    (show WShape.has [] (.bool true) .bool = true by first | rfl | decide | simp [WShape.has, WShape.arms, WShape.armsAll])
    (show (WTm.eq .res (.lit (.bool true))).value [] { args := args, res := some (.bool true), after := args } = some (.bool (true == true)) from w_eq_bool (w_res rfl) w_lit) rfl
section
variable {prog : Program} {w : World} {A : Around} {E : Value → Shared → Prop} {s : Shared} {K : Frag}
end
end Att
namespace L2
open PySem PySem.Spec PyProof.Rows
theorem vals_ints : ∀ {vs : List Value} {ns : List Int}, IntsAre vs ns → Vals (ns.map V.int) vs
  | _, _, .nil => .nil
  | _, _, .cons n t h => .cons ⟨t, rfl⟩ (vals_ints h)
noncomputable def Only (H : Hp) : Prop := ∀ b, H b = none ∨ ∃ o xs, H b = some (.frz o (.lst xs))
theorem law_call {P : Program} {w : World} {K : PySem.W.Frag} {mg mb : Str → Option Value} {CX : CXT} {k : Nat} {fa a : Addr} {fd : FuncData} {x : Str} {sp : Sp} {s₁ : Shared} {vs : List Value} {ns : List Int}
    (KX : K.In s₁.heap) (hns : s₁.heap.Ns mainGlobals mg) (hb : s₁.heap.Ns builtinsNs mb) (hbb : ∀ x : Str, x ≠ "__name__" → mb x = bootBuiltins x) (hlim : s₁.heap.NoLimit) (hg : s₁.gens = #[])
    (ha : s₁.heap.get? a = some { cls := .type "list", data := .seq vs.toArray }) (hi : IntsAre vs ns) (hl : ns.length ≤ sizeLine) (hr : Room k callerA)
    (F : ∀ base : Heap, K.In base → base.Ns mainGlobals mg → FnOk P w K mg base CX k fa fd [x] sp) (hbind : ∀ (s : Shared) (u : Value), BindsTo s fd ⟨[u], []⟩ [(x, u)])
    (hsp : ∀ H : Hp, Only H → SqL K H a (ns.map V.int) → sp [.ref a] H (fun v _ => v = .bl true) fun _ _ _ => False)
    (hCX : ∀ H e s', CX [] H s₁ (fun _ _ _ => False) e s' → False) :
    codeAny (model P w) callerA (.call (.ref fa) ⟨[.ref a], []⟩) (fun r s' => r = .ok (.ret (.bool true)) ∧ OldK s₁.heap s'.heap ∧ s'.os = s₁.os ∧ AllBare s'.gens) s₁ := by
  have rv := vals_ints hi
  have lenV := hi.length
  have core : ∀ H : Hp, Only H → SqL K H a (ns.map V.int) → HOk P w H s₁.heap → (∀ b, H b ≠ none → b = a) → (H a ≠ none → K.lookup a = none) →
      codeAny (model P w) callerA (.call (.ref fa) ⟨[.ref a], []⟩) (fun r s' => r = .ok (.ret (.bool true)) ∧ OldK s₁.heap s'.heap ∧ s'.os = s₁.os ∧ AllBare s'.gens) s₁ := by
    intro H hO hS hok hA hK
    have base_of : ∀ {b : Addr} {o : Obj}, s₁.heap.get? b = some o → H b = none → (hidT s₁.heap H).get? b = some o := fun e n => hidT_get e n
    have noA : ∀ {b : Addr} {o : Obj} {es : Array DictEntry} {ep : Nat}, s₁.heap.get? b = some o → o.data = .dict es ep → H b = none := fun {b o es ep} e d => by
      cases q : H b with
      | none => rfl
      | some u =>
        have e' : b = a := hA b (by rw [q]; simp)
        subst e'
        rw [ha] at e; cases e
        have d' : Data.seq vs.toArray _ = Data.dict es ep := d
        cases d'
    have nsK : ∀ {b : Addr} {m : Str → Option Value}, s₁.heap.Ns b m → (hidT s₁.heap H).Ns b m := fun {b m} ⟨o, es, ep, e, d, r⟩ => ⟨o, es, ep, base_of e (noA e d), d, r⟩
    have hKb : K.In (hidT s₁.heap H) := fun b o e => base_of (KX b o e) (by
      cases q : H b with
      | none => rfl
      | some u =>
        have e' : b = a := hA b (by rw [q]; simp)
        subst e'
        rw [hK (by rw [q]; simp)] at e; cases e)
    have hM : Mod K mg (hidT s₁.heap H) := ⟨hKb, nsK hns, ⟨mb, nsK hb, hbb⟩, let ⟨mc, h1, h2⟩ := hlim; ⟨mc, nsK h1, h2⟩⟩
    have e0 : Env0 P w K mg (hidT s₁.heap H) callerA [] s₁ H := ⟨rfl, hM, fun b o e => of_hidT e, Nat.le_of_eq (hidT_size _ _), trivial, fun b hb => absurd (show b ∈ ([] : List Addr) from hb) (by simp), hok, .of_eq hg⟩
    refine codeAny_mono ((F _ hKb (nsK hns)).run callerA [] s₁ H ⟨[.ref a], []⟩ [.ref a] [.ref a] _ _ hr e0 (hbind s₁ (.ref a)) (.cons rfl .nil) (hsp H hO hS)) fun r s' h => ?_
    cases r with
    | error e => exact (hCX H e s' h).elim
    | ok fl =>
      cases fl with
      | next => exact False.elim h
      | brk => exact False.elim h
      | cont => exact False.elim h
      | ret u =>
        obtain ⟨v, H', os, bare, un, hok', r', q⟩ := h
        have q' : v = .bl true := q
        subst q'
        obtain rfl : u = Value.bool true := r'
        refine ⟨rfl, OldK.of_keep fun b o e => ?_, os, bare⟩
        cases q : H b with
        | none => exact un.keep b o e q (by intro z; exact absurd (show b ∈ ([] : List Addr) from z) (by simp)) (by simp)
        | some u =>
          rcases hO b with z | ⟨ob, xs, z⟩
          · rw [q] at z; cases z
          · have z2 := un.frzs b ob _ z
            obtain ⟨e1, _⟩ := hok b _ z
            obtain ⟨e2, _⟩ := hok' b _ z2
            rw [e] at e1; cases e1
            exact e2
  cases hk : K.lookup a with
  | some o =>
    have e := KX a o hk
    rw [ha] at e
    cases e
    refine core (fun _ => none) (fun _ => .inl rfl) (.inr ⟨_, vs.toArray, _, hk, rfl, rfl, rfl, by rw [List.size_toArray, lenV]; exact hl, by simpa using rv⟩) (fun b u z => by have z' : (none : Option HO) = some u := z; cases z') (fun b z => absurd rfl z) fun z => absurd rfl z
  | none =>
    refine core (fun b => if b = a then some (.frz { cls := .type "list", data := .seq vs.toArray } (.lst (ns.map V.int))) else none) (fun b => ?_) (.inl (.inr ⟨{ cls := .type "list", data := .seq vs.toArray }, if_pos rfl⟩)) (fun b u z => ?_) (fun b z => ?_) fun _ => hk
    · by_cases hb : b = a
      · exact .inr ⟨_, _, if_pos hb⟩
      · exact .inl (if_neg hb)
    · by_cases hb : b = a
      · have z' := (if_pos hb).symm.trans z
        cases z'
        subst hb
        exact ⟨ha, by rw [List.length_map]; exact hl, vs, _, rv, ha⟩
      · have z' := (if_neg hb).symm.trans z
        cases z'
    · by_cases hb : b = a
      · exact hb
      · exact absurd (if_neg hb) z
end L2
namespace L2
open PySem PySem.Spec PyProof.Rows
end L2
namespace L2
open PySem PySem.Spec PyProof.Rows
noncomputable def defArgs (s : Stmt) : Arguments := match s with
  | .FunctionDef _ a _ _ _ _ _ _ _ _ => a
  | _ => { posonlyargs := [], args := [], vararg := none, kwonlyargs := [], kw_defaults := [], kwarg := none, defaults := [] }
noncomputable def defBody (s : Stmt) : List Stmt := match s with
  | .FunctionDef _ _ b _ _ _ _ _ _ _ => b
  | _ => []
noncomputable def defScope (s : Stmt) : Scope := match s with
  | .FunctionDef _ _ _ _ _ _ sc _ _ _ => sc
  | _ => { kind := .function, names := [], isGenerator := false, isCoroutine := false }
noncomputable abbrev CX0 : CXT := fun _ _ _ _ _ _ => False
noncomputable abbrev E0 : XK := fun _ _ _ => False
theorem pass0 {X : Cx} : Passes CX0 X E0 := fun _ _ _ _ _ _ _ h => h.elim
structure Fun (K : PySem.W.Frag) (x qual : Str) (st : Stmt) (f : Addr) (fd : FuncData) : Prop where
  ex : ∃ (oc : Value) (od : Option Addr) (dV kV doc pm : Value) (an : Option Addr) (cdv ct : Value) (osl : Array (Option Value)),
    fd = PySem.W.fnOf x qual (defArgs st) (defBody st) (defScope st) dV kV doc pm an cdv ct ∧ K.lookup f = some ⟨oc, od, .func fd, osl⟩ ∧ PySem.W.codeIn K cdv qual = true
  kp : PySem.W.keepIn K (.ref f) = true
section
variable {P : Program} {w : World} {K : PySem.W.Frag} {mg : Str → Option Value} {base : Heap}
theorem Fun.ok {x qual : Str} {st : Stmt} {f : Addr} {fd : FuncData} {N ps : List Str} {k : Nat} {sp : Sp} (F : Fun K x qual st f fd) (S : FnScope N ps (defScope st)) (len : ∀ vs H Q E, sp vs H Q E → vs.length = ps.length)
    (hbody : ∀ (cdv : Value) (A : Around) (outer : List Env) (s : Shared) (H : Hp) (vs : List V) (Q : VK) (E : XK), Room k (A.deeper (envOfC qual (defScope st) s.heap.objs.size f cdv)) → sp vs H Q E →
      ∃ t, PSs (cxOf CX0 P w K mg base N qual (defScope st) f cdv A outer s H E).nox (defBody st) t ∧ t { nx := fun _ H' => Q .non H', rt := Q } (start N vs) H) : FnOk P w K mg base CX0 (k + 1) f fd ps sp := by
  obtain ⟨oc, od, dV, kV, doc, pm, an, cdv, ct, osl, rfl, lk, hcd⟩ := F.ex
  refine fn_of lk hcd S len fun A outer s H vs Q E hr hsp => ?_
  obtain ⟨t, h, q⟩ := hbody cdv A outer s H vs Q E hr hsp
  exact ⟨t, h.nox, q⟩
theorem fun_mk {x qual : Str} {st : Stmt} {f : Addr} {oc : Value} {od an : Option Addr} {osl : Array (Option Value)} {dV kV doc pm cdv ct : Value} (l : K.lookup f = some ⟨oc, od, .func (PySem.W.fnOf x qual (defArgs st) (defBody st) (defScope st) dV kV doc pm an cdv ct), osl⟩)
    (c : PySem.W.codeIn K cdv qual = true) (k : PySem.W.keepIn K (.ref f) = true) : Fun K x qual st f (PySem.W.fnOf x qual (defArgs st) (defBody st) (defScope st) dV kV doc pm an cdv ct) := ⟨⟨oc, od, dV, kV, doc, pm, an, cdv, ct, osl, rfl, l, c⟩, k⟩
end
section
variable {X : Cx}
end
theorem iteF {A B : Prop} (h : B) : if false = true then A else B := by
  rw [if_neg Bool.false_ne_true]
  exact h
theorem iteT {A B : Prop} (h : A) : if true = true then A else B := by
  rw [if_pos rfl]
  exact h
noncomputable def Same (H H' : Hp) : Prop := ∀ b o, H b = some o → H' b = some o
theorem Same.trans {H H1 H2 : Hp} (a : Same H H1) (b : Same H1 H2) : Same H H2 := fun c o h => b c o (a c o h)
theorem Same.seq {K : PySem.W.Frag} {H H' : Hp} {a : Addr} {xs : List V} (e : Same H H') (h : SqL K H a xs) : SqL K H' a xs := by
  rcases h with (h | ⟨o, h⟩) | h
  · exact .inl (.inl (e _ _ h))
  · exact .inl (.inr ⟨o, e _ _ h⟩)
  · exact .inr h
end L2
namespace L2
open PySem PySem.Spec PyProof.Rows
theorem relabel_lookup {env : Env} : ∀ {names : List (Str × NameKind)} {x : Str},
    (names.map fun (n, k) => if (k == NameKind.free && env.scope.kind == .function && env.kindOf n == some .cell) then (n, NameKind.cell) else (n, k)).lookup x
      = (names.lookup x).map fun k => if (k == NameKind.free && env.scope.kind == .function && env.kindOf x == some .cell) then NameKind.cell else k
  | [], _ => rfl
  | (n, k) :: r, x => by
    have ih := @relabel_lookup env r x
    show List.lookup x ((if (k == NameKind.free && env.scope.kind == .function && env.kindOf n == some .cell) = true then (n, NameKind.cell) else (n, k)) :: _) = _
    cases hx : x == n with
    | true =>
      have e : x = n := beq_iff_eq.mp hx
      subst e
      by_cases hc : (k == NameKind.free && env.scope.kind == .function && env.kindOf x == some .cell) = true
      · rw [if_pos hc]; simp only [List.lookup_cons, hx, Option.map_some]; rw [if_pos hc]
      · rw [if_neg hc]; simp only [List.lookup_cons, hx, Option.map_some]; rw [if_neg hc]
    | false =>
      by_cases hc : (k == NameKind.free && env.scope.kind == .function && env.kindOf n == some .cell) = true
      · rw [if_pos hc]; simp only [List.lookup_cons, hx]; exact ih
      · rw [if_neg hc]; simp only [List.lookup_cons, hx]; exact ih
theorem relabel_free {scope : Scope} {env : Env} {x : Str} (h : scope.names.lookup x = some .free) : (relabel scope env).names.lookup x = some .cell ∨ (relabel scope env).names.lookup x = some .free := by
  have e : (relabel scope env).names.lookup x = _ := relabel_lookup (env := env) (names := scope.names) (x := x)
  rw [e, h, Option.map_some]
  split
  · exact .inl rfl
  · exact .inr rfl
theorem relabel_back {scope : Scope} {env : Env} {x : Str} (h : (relabel scope env).names.lookup x = some .cell ∨ (relabel scope env).names.lookup x = some .free) : scope.names.lookup x = some .cell ∨ scope.names.lookup x = some .free := by
  have e : (relabel scope env).names.lookup x = _ := relabel_lookup (env := env) (names := scope.names) (x := x)
  rw [e] at h
  cases q : scope.names.lookup x with
  | none => rw [q] at h; simp at h
  | some k =>
    rw [q, Option.map_some] at h
    by_cases hc : (k == NameKind.free && env.scope.kind == .function && env.kindOf x == some .cell) = true
    · have : (k == NameKind.free) = true := by
        rw [Bool.and_eq_true, Bool.and_eq_true] at hc; exact hc.1.1
      have : k = .free := by simpa using this
      subst this; exact .inr rfl
    · rw [if_neg hc] at h
      rcases h with h | h
      · exact .inl h
      · exact .inr h
noncomputable def closL (cells : List (Str × Addr)) : List (Str × NameKind) → List (Str × Addr) → List (Str × Addr)
  | [], acc => acc
  | (n, k) :: r, acc => if k == .free then closL cells r ((n, (cells.lookup n).getD 0) :: acc) else closL cells r acc
theorem closureFor_eq {scope : Scope} {env : Env} (h : ∀ n, (n, NameKind.free) ∈ scope.names → (env.cells.lookup n).isSome = true) : closureFor scope env = pure (closL env.cells scope.names []) := by
  have all : ∀ (names : List (Str × NameKind)) (acc : List (Str × Addr)), (∀ n, (n, NameKind.free) ∈ names → (env.cells.lookup n).isSome = true) →
      (forIn names acc fun x cs => (if x.2 == NameKind.free then do let c ← cellOf env x.1; pure (ForInStep.yield ((x.1, c) :: cs)) else pure (ForInStep.yield cs) : Sem (ForInStep (List (Str × Addr))))) = pure (closL env.cells names acc) := by
    intro names
    induction names with
    | nil => intro acc _; rfl
    | cons p r ih =>
      intro acc hp
      obtain ⟨n, k⟩ := p
      rw [List.forIn_cons]
      by_cases hk : (k == NameKind.free) = true
      · have ek : k = .free := by simpa using hk
        obtain ⟨c, hc⟩ := Option.isSome_iff_exists.mp (hp n (by rw [ek]; exact List.mem_cons_self))
        have e1 : cellOf env n = pure c := by unfold cellOf; rw [hc]
        dsimp only
        rw [if_pos hk, e1]
        have e2 : closL env.cells ((n, k) :: r) acc = closL env.cells r ((n, c) :: acc) := by
          show (if k == .free then _ else _) = _
          rw [if_pos hk, hc]; rfl
        rw [e2, ← ih ((n, c) :: acc) fun m hm => hp m (List.mem_cons_of_mem _ hm)]
        rfl
      · dsimp only
        rw [if_neg hk]
        have e2 : closL env.cells ((n, k) :: r) acc = closL env.cells r acc := by
          show (if k == .free then _ else _) = _
          rw [if_neg hk]
        rw [e2, ← ih acc fun m hm => hp m (List.mem_cons_of_mem _ hm)]
        rfl
  have q := all scope.names [] h
  unfold closureFor
  show ((forIn scope.names [] fun x cs => (if x.2 == NameKind.free then do let c ← cellOf env x.1; pure (ForInStep.yield ((x.1, c) :: cs)) else pure (ForInStep.yield cs) : Sem (ForInStep (List (Str × Addr))))) >>= fun cs => pure cs) = _
  rw [q]
  rfl
theorem closL_mem {cells : List (Str × Addr)} : ∀ {names : List (Str × NameKind)} {acc : List (Str × Addr)} {n : Str} {c : Addr}, (n, c) ∈ closL cells names acc → (n, c) ∈ acc ∨ ((n, NameKind.free) ∈ names ∧ (cells.lookup n).getD 0 = c)
  | [], _, _, _, h => .inl h
  | (m, k) :: r, acc, n, c, h => by
    have h : (n, c) ∈ (if k == .free then closL cells r ((m, (cells.lookup m).getD 0) :: acc) else closL cells r acc) := h
    by_cases hk : (k == NameKind.free) = true
    · rw [if_pos hk] at h
      have ek : k = .free := by simpa using hk
      rcases closL_mem h with q | ⟨q1, q2⟩
      · rcases List.mem_cons.mp q with q | q
        · cases q
          exact .inr ⟨by rw [ek]; exact List.mem_cons_self, rfl⟩
        · exact .inl q
      · exact .inr ⟨List.mem_cons_of_mem _ q1, q2⟩
    · rw [if_neg hk] at h
      rcases closL_mem h with q | ⟨q1, q2⟩
      · exact .inl q
      · exact .inr ⟨List.mem_cons_of_mem _ q1, q2⟩
theorem closL_has {cells : List (Str × Addr)} : ∀ {names : List (Str × NameKind)} {acc : List (Str × Addr)} {n : Str}, ((n, NameKind.free) ∈ names ∨ ∃ c, (n, c) ∈ acc) → ∃ c, (n, c) ∈ closL cells names acc
  | [], _, _, h => h.elim (fun z => nomatch z) id
  | (m, k) :: r, acc, n, h => by
    show ∃ c, (n, c) ∈ (if k == .free then closL cells r ((m, (cells.lookup m).getD 0) :: acc) else closL cells r acc)
    by_cases hk : (k == NameKind.free) = true
    · rw [if_pos hk]
      refine closL_has ?_
      rcases h with h | ⟨c, h⟩
      · rcases List.mem_cons.mp h with h | h
        · cases h; exact .inr ⟨_, List.mem_cons_self⟩
        · exact .inl h
      · exact .inr ⟨c, List.mem_cons_of_mem _ h⟩
    · rw [if_neg hk]
      refine closL_has ?_
      rcases h with h | ⟨c, h⟩
      · rcases List.mem_cons.mp h with h | h
        · cases h; exact absurd rfl hk
        · exact .inl h
      · exact .inr ⟨c, h⟩
theorem lookup_of_mem_all {α : Type} {n : Str} {c : α} : ∀ {l : List (Str × α)}, (n, c) ∈ l → (∀ d, (n, d) ∈ l → d = c) → l.lookup n = some c
  | [], h, _ => nomatch h
  | (m, d) :: r, h, all => by
    rw [List.lookup_cons]
    cases hb : n == m with
    | true =>
      have e : n = m := beq_iff_eq.mp hb
      subst e
      rw [all d List.mem_cons_self]
    | false =>
      rcases List.mem_cons.mp h with q | q
      · cases q; simp at hb
      · exact lookup_of_mem_all q fun d' hd => all d' (List.mem_cons_of_mem _ hd)
theorem cellsFrom_app : ∀ (names : List (Str × NameKind)) (n : Nat) (acc : List (Str × Addr)), cellsFrom n names acc = cellsFrom n names [] ++ acc
  | [], _, _ => rfl
  | (x, k) :: r, n, acc => by
    unfold cellsFrom
    split
    · rw [cellsFrom_app r (n + 1) ((x, n) :: acc), cellsFrom_app r (n + 1) [(x, n)], List.append_assoc]; rfl
    · exact cellsFrom_app r n acc
theorem cellsFrom_kind : ∀ {names : List (Str × NameKind)} {n : Nat} {x : Str} {c : Addr}, (x, c) ∈ cellsFrom n names [] → (x, NameKind.cell) ∈ names
  | [], _, _, _, h => nomatch h
  | (y, k) :: r, n, x, c, h => by
    unfold cellsFrom at h
    split at h
    · rename_i hk
      have ek : k = .cell := by simpa using hk
      rw [cellsFrom_app] at h
      rcases List.mem_append.mp h with q | q
      · exact List.mem_cons_of_mem _ (cellsFrom_kind q)
      · cases List.mem_singleton.mp q
        rw [ek]; exact List.mem_cons_self
    · exact List.mem_cons_of_mem _ (cellsFrom_kind h)
theorem lookup_nodup {α : Type} {n : Str} {c d : α} : ∀ {l : List (Str × α)}, (l.map (·.1)).Nodup → l.lookup n = some c → (n, d) ∈ l → d = c
  | [], _, _, h => nomatch h
  | (m, e) :: r, hn, hl, hm => by
    have hn : (m :: r.map (·.1)).Nodup := hn
    obtain ⟨h1, h2⟩ := List.nodup_cons.mp hn
    rw [List.lookup_cons] at hl
    cases hb : n == m with
    | true =>
      rw [hb] at hl
      have e1 : n = m := beq_iff_eq.mp hb
      subst e1
      rcases List.mem_cons.mp hm with q | q
      · cases q; cases hl; rfl
      · exact absurd (List.mem_map.mpr ⟨(n, d), q, rfl⟩) h1
    | false =>
      rw [hb] at hl
      rcases List.mem_cons.mp hm with q | q
      · cases q; simp at hb
      · exact lookup_nodup h2 hl q
noncomputable def cxComp (X : Cx) (N' : List Str) (scope : Scope) (s : Shared) (H : Hp) (fp : List Addr) : Cx :=
  { X with N := N', s₀ := s, H₀ := H, env := compEnvC scope (cellsFrom (s.heap.objs.size + 1) scope.names (closL X.env.cells scope.names [])) s.heap.objs.size X.env, outer := X.stack, ex := fp, fn := fun x => scope.names.lookup x == some .cell, pn := [], xe := fun _ _ => False }
noncomputable def compSt (js : List (Option Nat)) (σ : St) : St := js.map fun j => match j with
  | some j => (σ[j]?).getD none
  | none => none
noncomputable def frB (X : Cx) (scope : Scope) : Bool := scope.names.all fun p => p.2 != .free || X.env.kindOf p.1 == some .cell || X.env.kindOf p.1 == some .free
noncomputable def atB (X : Cx) (N' : List Str) (js : List (Option Nat)) (scope : Scope) : Bool := (js.zip N').all fun p => match p.1 with
  | none => true
  | some j => X.N[j]? == some p.2 && scope.names.lookup p.2 == some .free
structure CompOk (X : Cx) (N' : List Str) (js : List (Option Nat)) (scope : Scope) : Prop where
  kind : scope.kind = .function
  nd : (scope.names.map (·.1)).Nodup
  frb : frB X scope = true
  len : js.length = N'.length
  atb : atB X N' js scope = true
theorem CompOk.fr {X : Cx} {N' : List Str} {js : List (Option Nat)} {scope : Scope} (C : CompOk X N' js scope) : ∀ n, (n, NameKind.free) ∈ scope.names → X.env.kindOf n = some .cell ∨ X.env.kindOf n = some .free := fun n hn => by
  have h := List.all_eq_true.mp C.frb (n, .free) hn
  simp only [Bool.or_eq_true, bne_iff_ne, ne_eq, not_true_eq_false, false_or, beq_iff_eq] at h
  exact h
theorem CompOk.at_ {X : Cx} {N' : List Str} {js : List (Option Nat)} {scope : Scope} (C : CompOk X N' js scope) : ∀ (i j : Nat), js[i]? = some (some j) → ∃ x, N'[i]? = some x ∧ X.N[j]? = some x ∧ scope.names.lookup x = some .free := fun i j hj => by
  have hi : i < js.length := (List.getElem?_eq_some_iff.mp hj).1
  have hi' : i < N'.length := by rw [← C.len]; exact hi
  have hz : (js.zip N')[i]? = some (some j, N'[i]) := by
    rw [List.getElem?_zip_eq_some]
    exact ⟨hj, by simp [hi']⟩
  have h := List.all_eq_true.mp C.atb _ (List.mem_of_getElem? hz)
  simp only [Bool.and_eq_true, beq_iff_eq] at h
  exact ⟨N'[i], by simp [hi'], h.1, h.2⟩
section
variable {X : Cx} {pins : List (Addr × Obj)} {σ : St} {H : Hp} {s : Shared} {N' : List Str} {js : List (Option Nat)} {scope : Scope} {fp : List Addr}
theorem comp_start (I : Inv X pins σ H s) (C : CompOk X N' js scope) (hf : ∀ b ∈ fp, FpOk X pins H b) (ho : ∀ b ∈ fp, ∃ o, s.heap.get? b = some o) :
    Inv (cxComp X N' scope s H fp) [] (compSt js σ) H { s with heap := pushCells (s.heap.push { cls := .type "dict", data := .dict #[] }) scope.names } := by
  have keep : ∀ b o, s.heap.get? b = some o → (pushCells (s.heap.push { cls := .type "dict", data := .dict #[] }) scope.names).get? b = some o := fun b o e => pushCells_keeps _ _ b o (Heap.get?_push_of_some _ e)
  have new := cellsFrom_ok scope.names (s.heap.push { cls := .type "dict", data := .dict #[] }) (s.heap.objs.size + 1) [] ⟨fun _ _ hm => (nomatch hm), List.Pairwise.nil⟩ (by rw [Heap.size_push]; exact Nat.le_refl _)
  rw [Heap.size_push] at new
  have old : ∀ n c, (n, c) ∈ closL X.env.cells scope.names [] → X.env.cells.lookup n = some c := fun n c h => by
    rcases closL_mem h with q | ⟨q1, q2⟩
    · exact nomatch q
    · obtain ⟨d, hd⟩ := I.ok.has n (C.fr n q1)
      rw [hd] at q2
      rw [hd]; exact congrArg some q2
  have oldlt : ∀ n c, X.env.cells.lookup n = some c → c < s.heap.objs.size := fun n c h => by
    obtain ⟨v, q⟩ := I.cell n c h
    exact q.lt
  have mem : ∀ n c, (cxComp X N' scope s H fp).env.cells.lookup n = some c → (n, c) ∈ cellsFrom (s.heap.objs.size + 1) scope.names [] ∨ X.env.cells.lookup n = some c := fun n c h => by
    have h : (cellsFrom (s.heap.objs.size + 1) scope.names (closL X.env.cells scope.names [])).lookup n = some c := h
    rw [cellsFrom_app] at h
    rcases List.mem_append.mp (PySem.mem_of_lookup h) with q | q
    · exact .inl q
    · exact .inr (old n c q)
  have lt : ∀ b ∈ fp, b < s.heap.objs.size := fun b hb => let ⟨_, e⟩ := ho b hb; Heap.lt_size e
  have fre : ∀ x c, scope.names.lookup x = some .free → X.env.cells.lookup x = some c → (cxComp X N' scope s H fp).env.cells.lookup x = some c := fun x c hx hc => by
    show (cellsFrom (s.heap.objs.size + 1) scope.names (closL X.env.cells scope.names [])).lookup x = some c
    have hm := PySem.mem_of_lookup hx
    obtain ⟨d, hd⟩ := closL_has (cells := X.env.cells) (acc := []) (.inl hm)
    have ed : ∀ d', (x, d') ∈ closL X.env.cells scope.names [] → d' = c := fun d' h' => Option.some.inj ((old x d' h').symm.trans hc)
    refine lookup_of_mem_all ?_ fun d' h' => ?_
    · rw [cellsFrom_app, ← ed d hd]; exact List.mem_append_right _ hd
    · rw [cellsFrom_app] at h'
      rcases List.mem_append.mp h' with q | q
      · exact absurd (lookup_nodup C.nd hx (cellsFrom_kind q)) (by decide)
      · exact ed d' q
  refine ⟨⟨I.ok.mod, C.kind, I.ok.glob, I.ok.blt, Nat.le_refl _, fun x y c h1 h2 => ?_, fun x hx => ?_, fun x c hx h => ?_, I.ok.hd, I.ok.frames, .inl rfl, fun b hb => ⟨Nat.ne_of_lt (lt b hb), fun x c h z => ?_⟩, fun b o e => I.bs b o e, Nat.le_trans I.ok.bsz I.sz, fun b o e hb => ?_, fun b hb z => ?_, I.stack, I.stkFree⟩,
    rfl, I.bare, Un.kept keep, ⟨_, (Heap.Ns.new s.heap (.type "dict")).keeps (pushCells_keeps _ _), fun i x v h1 h2 h3 => ?_⟩, fun x c h => ?_, I.hok.fresh (Nat.le_refl _), fun x c h => ?_, fun p hp => absurd (show p ∈ ([] : List (Addr × Obj)) from hp) (by simp), I.hok.kept keep, ?_⟩
  · rcases mem x c h1 with p1 | p1 <;> rcases mem y c h2 with p2 | p2
    · exact name_of_addr new.apart p1 p2
    · exact absurd (Nat.lt_of_lt_of_le (oldlt y c p2) (Nat.le_trans (Nat.le_succ _) (new.empty x c p1).2)) (Nat.lt_irrefl _)
    · exact absurd (Nat.lt_of_lt_of_le (oldlt x c p1) (Nat.le_trans (Nat.le_succ _) (new.empty y c p2).2)) (Nat.lt_irrefl _)
    · exact I.ok.inj x y c p1 p2
  · rcases relabel_back (scope := scope) (env := X.env) hx with q | q
    · exact Option.isSome_iff_exists.mp (PySem.W.cellsFrom_some scope.names _ _ (.inl q))
    · obtain ⟨c, hc⟩ := I.ok.has x (C.fr x (PySem.mem_of_lookup q))
      exact ⟨c, fre x c q hc⟩
  · have hx : scope.names.lookup x = some .cell := by simpa [cxComp] using hx
    rcases mem x c h with q | q
    · exact Nat.le_trans (Nat.le_succ _) (new.empty x c q).2
    ·
      have e : (cellsFrom (s.heap.objs.size + 1) scope.names (closL X.env.cells scope.names [])).lookup x = some c := h
      rw [cellsFrom_app, List.lookup_append] at e
      obtain ⟨d, hd⟩ := Option.isSome_iff_exists.mp (PySem.W.cellsFrom_some scope.names (s.heap.objs.size + 1) [] (.inl hx))
      rw [hd] at e
      cases e
      exact Nat.le_trans (Nat.le_succ _) (new.empty x _ (PySem.mem_of_lookup hd)).2
  · rcases mem x c h with q | q
    · have := (new.empty x c q).2
      rw [z] at this
      exact absurd (Nat.lt_of_lt_of_le (lt b hb) (Nat.le_trans (Nat.le_succ _) this)) (Nat.lt_irrefl _)
    · exact (hf b hb).2.2.2.2.1 x c q z
  · obtain ⟨_, _, _, h1, _⟩ := hf b hb
    rcases h1 with h1 | h1
    · exact I.ok.noex b o e h1
    · exact absurd (Nat.lt_of_lt_of_le (Heap.lt_size (I.ok.bs b o e).1) h1) (Nat.lt_irrefl _)
  · obtain ⟨_, h1, h2, _⟩ := hf b hb
    exact (List.mem_cons.mp (I.stkSub b z)).elim h1 h2
  ·
    obtain ⟨j, hj, hv⟩ : ∃ j, js[i]? = some (some j) ∧ (σ[j]?).getD none = some v := by
      have h2 : (js.map fun j => match j with | some j => (σ[j]?).getD none | none => none)[i]? = some (some v) := h2
      rw [List.getElem?_map] at h2
      cases e : js[i]? with
      | none => rw [e] at h2; cases h2
      | some o =>
        rw [e] at h2
        cases o with
        | none => cases h2
        | some j => exact ⟨j, rfl, Option.some.inj h2⟩
    obtain ⟨y, e1, e2, e3⟩ := C.at_ i j hj
    have exy : y = x := Option.some.inj (e1.symm.trans (show N'[i]? = some x from h1))
    rw [exy] at e2 e3
    have hs : σ[j]? = some (some v) := by
      cases e : σ[j]? with
      | none => rw [e] at hv; cases hv
      | some o => rw [e] at hv; exact congrArg some hv
    have kx := C.fr x (PySem.mem_of_lookup e3)
    obtain ⟨m, hn, hl⟩ := I.loc
    obtain ⟨u, r, l⟩ := hl j x v e2 hs (kx.elim (fun z => .inr (.inl z)) fun z => .inr (.inr z))
    refine ⟨u, r, .inr ⟨relabel_free e3, ?_⟩⟩
    rcases l with ⟨k, _⟩ | ⟨_, c, hc, hcell⟩
    · rcases kx with z | z
      · rw [z] at k; cases k
      · rw [z] at k; cases k
    · exact ⟨c, fre x c e3 hc, hcell.keeps keep⟩
  · rcases mem x c h with q | q
    · exact ⟨none, (new.empty x c q).1⟩
    · obtain ⟨v, z⟩ := I.cell x c q
      exact ⟨v, z.keeps keep⟩
  · rcases mem x c h with q | q
    · exact I.hok.fresh (Nat.le_trans (Nat.le_succ _) (new.empty x c q).2)
    · exact I.freeC x c q
  · show (compSt js σ).length = N'.length
    unfold compSt
    rw [List.length_map, C.len]
theorem comp_env {M : Model} {A : Around} {E : Value → Shared → Prop} {env : Env} {cl : List (Str × Addr)} {Q : Env → Shared → Prop}
    (h : Q (newEnv scope s.heap.objs.size env.globals (cellsFrom (s.heap.objs.size + 1) scope.names cl) env.qual none .none (some env) builtinsNs) { s with heap := pushCells (s.heap.push { cls := .type "dict", data := .dict #[] }) scope.names }) :
    wpAny M A (newFunctionEnv scope env.globals cl [] env.qual none .none (some env)) Q E s := by
  simp only [newFunctionEnv, Option.isSome_some, if_true]
  refine wpAny_bind (wpAny_alloc ?_)
  refine wpAny_bind (wpAny_layCells _ (fun name kind cells => by cases hkc : kind == NameKind.cell <;> simp [hkc]) _ _ _ _ ?_)
  rw [show ({ s with heap := s.heap.push { cls := .type "dict", data := .dict #[] } } : Shared).heap.objs.size = s.heap.objs.size + 1 from Heap.size_push ..]
  simp only [List.forIn_nil]
  exact wpAny_bind (wpAny_pure (wpAny_pure h))
noncomputable def PF (X : Cx) (ifs : List Expr) (t : TT) : Prop :=
  ∀ (pins : List (Addr × Obj)) (s : Shared) (σ : St) (H : Hp) (Q : Bool → Hp → Prop), Inv X pins σ H s → t σ H Q →
    wpAny (model X.prog X.w) X.A (forIn ifs true fun c r => if r = true then do let ok ← isTrue c X.env (eval c X.env); pure (ForInStep.yield ok) else pure (ForInStep.yield r)) (TP X pins σ Q) X.xe s
noncomputable def tNoIf : TT := fun _ H Q => Q true H
theorem pf_nil : PF X [] tNoIf := fun _ _ _ H _ I h => wpAny_tests_nil ⟨H, I, h⟩
theorem pf_one {c : Expr} {t : TT} (h : PT X c t) : PF X [c] t := fun pins s σ H Q I q => wpAny_tests_one (h pins s σ H Q I q)
theorem compLoop_any {prog : Program} {w : World} {A : Around} {R : Result → Shared → Prop} {s : Shared} {elt target iter : Expr} {ifs : List Expr} {scope : Scope} {pos : Pos} {it acc : Value} {env : Env} (I : Nat → Shared → Prop)
    (turn : ∀ n s, I n s → wpAny (model prog w) A (pyNext it) (fun r s₁ => match r with
      | none => R (.ok .next) s₁
      | some v => wpAny (model prog w) A (letOwnedTupleGo target it v) (fun _ s₀ => wpAny (model prog w) A (assign target env v) (fun _ s₂ =>
          wpAny (model prog w) A (forIn ifs true fun c r => if r = true then do let ok ← isTrue c env (eval c env); pure (ForInStep.yield ok) else pure (ForInStep.yield r)) (fun ok s₃ =>
            if ok = true then wpAny (model prog w) A (eval elt env) (fun x s₄ =>
              wpAny (model prog w) A (call (.builtin "list.append") [acc, x]) (fun _ s₅ => ∃ m, m < n ∧ I m s₅) (notedBy (model prog w) A env fun e s' => R (.error e) s') s₄) (notedBy (model prog w) A env fun e s' => R (.error e) s') s₃
            else ∃ m, m < n ∧ I m s₃) (notedBy (model prog w) A env fun e s' => R (.error e) s') s₂) (notedBy (model prog w) A env fun e s' => R (.error e) s') s₀) (notedBy (model prog w) A env fun e s' => R (.error e) s') s₁) (notedBy (model prog w) A env fun e s' => R (.error e) s') s)
    (n : Nat) (h : I n s) : codeAny (model prog w) A (.compLoop (.ListComp elt [⟨target, iter, ifs, 0⟩] scope pos) 0 it acc env) R s := by
  refine codeAny_loop rfl I (fun n s hI => ?_) n h
  show wpAny _ A ((compTurn (.ListComp elt [⟨target, iter, ifs, 0⟩] scope pos) 0 it acc env).onRaise (fun x => do noteFrame x env; theTreesLotGoes x)) _ _ s
  refine wpAny_noted ?_
  rw [compTurn_list]
  refine wpAny_bind (wpAny_standAt (wpAny_bind (wpAny_mono (turn n s hI) (fun r s₁ h₁ => ?_) fun _ _ h' => h')))
  cases r with
  | none => exact wpAny_pure h₁
  | some v =>
    refine wpAny_bind (wpAny_mono h₁ (fun _ s₀ h₀ => ?_) fun _ _ h' => h')
    refine wpAny_bind (wpAny_mono h₀ (fun _ s₂ h₂ => wpAny_bind (wpAny_mono h₂ (fun ok s₃ h₃ => ?_) fun _ _ h' => h')) fun _ _ h' => h')
    cases ok with
    | false => exact wpAny_pure ⟨rfl, h₃⟩
    | true =>
      exact wpAny_bind (wpAny_bind (wpAny_mono h₃ (fun x s₄ h₄ => wpAny_bind (wpAny_mono h₄ (fun _ s₅ h₅ => wpAny_pure (wpAny_pure ⟨rfl, h₅⟩)) fun _ _ h' => h')) fun _ _ h' => h'))
noncomputable def tCompW (J : It) (g : TG) (tf : TT) (te : TE) (D : Addr) (σ0 : St) (H1 : Hp) (Q : Hp → Prop) : Prop :=
  ∃ W : Nat → Nat → St → Hp → Prop, (∃ m, W 0 m σ0 (upd H1 D (.lst []))) ∧ ∀ i m σ H, W i m σ H →
    (J.stop i H ∧ Q H) ∨ (J.go i H ∧ ∀ x H2, J.yld i H x H2 → g x σ H2 fun σ2 H3 => tf σ2 H3 fun b H4 =>
      if b = true then te σ2 H4 fun y H5 => ∃ zs, H5 D = some (.lst zs) ∧ zs.length < sizeLine ∧ ∃ m', m' < m ∧ W (i + 1) m' σ2 (upd H5 D (.lst (zs ++ [y])))
      else ∃ m', m' < m ∧ W (i + 1) m' σ2 H4)
noncomputable def tComp (js : List (Option Nat)) (wi : TI) (g : Shared → Hp → List Addr → TG) (tf : Shared → Hp → List Addr → TT) (te : Shared → Hp → List Addr → TE) : TE := fun σ H Q => wi σ H fun J H1 => ∀ (D : Addr), H1 D = none → ∀ (s0 : Shared) (H0 : Hp) (fp : List Addr), tCompW J (g s0 H0 fp) (tf s0 H0 fp) (te s0 H0 fp) D (compSt js σ) H1 fun H' => Q (.ref D) H'
theorem comp_run {tg iter elt : Expr} {ifs : List Expr} {pos : Pos} {J : It} {it : Addr} {tn : Nat → Heap → Prop} {g : Shared → Hp → TG} {tf : Shared → Hp → TT} {te : Shared → Hp → TE} {E : Value → Shared → Prop} {RR : Value → Addr → Result → Shared → Prop} {Q : Addr → Hp → Prop}
    (hc : X.calm = true) (C : CompOk X N' js scope) (I : Inv X pins σ H s) (T : Turn X.prog X.w X.K tg J fp it tn) (st : tn 0 s.heap) (hf : ∀ b ∈ fp, FpOk X pins H b)
    (body : ∀ (s0 : Shared) (H0 : Hp), PG (cxComp X N' scope s0 H0 fp) tg (g s0 H0) ∧ PF (cxComp X N' scope s0 H0 fp) ifs (tf s0 H0) ∧ PE (cxComp X N' scope s0 H0 fp) elt (te s0 H0))
    (h : ∀ D, H D = none → ∀ (s0 : Shared) (H0 : Hp), tCompW J (g s0 H0) (tf s0 H0) (te s0 H0) D (compSt js σ) H (Q D))
    (hRR : ∀ (D C : Addr) (H' : Hp) (s' : Shared) (m : Str → Option Value), s'.heap.Ns C m → s.heap.objs.size ≤ C → (∀ p ∈ X.pn ++ pins, p.1 ≠ C) → H' C = none → C ≠ X.env.locals → (∀ x c, X.env.cells.lookup x = some c → c ≠ C) → (X.s₀.heap.objs.size ≤ C) → Inv X pins σ H' s' → Q D H' → RR (.ref D) C (.ok .next) s') :
    wpAny (model X.prog X.w) X.A (newList []) (fun acc s₃ => wpAny (model X.prog X.w) X.A (newFunctionEnv scope X.env.globals (closL X.env.cells scope.names []) [] X.env.qual none .none (some X.env)) (fun cenv s₄ =>
      codeAny (model X.prog X.w) X.A (.compStart (.ListComp elt [⟨tg, iter, ifs, 0⟩] scope pos) 0 (.ref it) acc { cenv with scope := relabel scope X.env }) (RR acc cenv.locals) s₄) E s₃) E s := by
  have hfr : H s.heap.objs.size = none := I.hok.fresh (Nat.le_refl _)
  have I1 : Inv X pins σ (upd H s.heap.objs.size (.lst [])) { s with heap := s.heap.push { cls := .type "list", dict := none, data := .seq ([] : List Value).toArray } } :=
    I.laid (t' := s.toks) (fun b u e => Heap.get?_push_of_some _ e) (Nat.le_refl _) ⟨Nat.zero_le _, [], _, .nil, Heap.get?_push_size _ rfl⟩
  refine wpAny_newObj_type (comp_env ?_)
  have st1 : tn 0 (s.heap.push { cls := .type "list", dict := none, data := .seq ([] : List Value).toArray }) := T.keep _ _ _ st fun b hb o e => Heap.get?_push_of_some _ e
  have lt : ∀ b ∈ fp, b < s.heap.objs.size := fun b hb => let ⟨_, e, _⟩ := T.obj _ _ st b hb; Heap.lt_size e
  have hf1 : ∀ b ∈ fp, FpOk X pins (upd H s.heap.objs.size (.lst [])) b := fun b hb => ⟨by rw [upd_ne (Nat.ne_of_lt (lt b hb))]; exact (hf b hb).1, (hf b hb).2⟩
  have I2 := comp_start (fp := fp) I1 C hf1 (fun b hb => let ⟨o, e, _⟩ := T.obj _ _ st1 b hb; ⟨o, e⟩)
  have st2 : tn 0 (pushCells ((s.heap.push { cls := .type "list", dict := none, data := .seq ([] : List Value).toArray }).push { cls := .type "dict", data := .dict #[] }) scope.names) := T.keep _ _ _ st1 fun b hb o e => pushCells_keeps _ _ b o (Heap.get?_push_of_some _ e)
  obtain ⟨W, ⟨m0, w0⟩, turn⟩ := h _ hfr { s with heap := s.heap.push { cls := .type "list", dict := none, data := .seq ([] : List Value).toArray } } (upd H s.heap.objs.size (.lst []))
  obtain ⟨bg, bf, be⟩ := body { s with heap := s.heap.push { cls := .type "list", dict := none, data := .seq ([] : List Value).toArray } } (upd H s.heap.objs.size (.lst []))
  generalize hs1 : ({ s with heap := s.heap.push { cls := .type "list", dict := none, data := .seq ([] : List Value).toArray } } : Shared) = s1 at I1 I2 st2 bg bf be turn ⊢
  have es1 : s1.heap = s.heap.push { cls := .type "list", dict := none, data := .seq ([] : List Value).toArray } := by rw [← hs1]
  have sz1 : s1.heap.objs.size = s.heap.objs.size + 1 := by rw [es1, Heap.size_push]
  rw [← es1] at st2
  have stat : ∀ {H' : Hp}, (∀ b ∈ fp, H' b = none) → ∀ b ∈ fp, FpOk (cxComp X N' scope s1 (upd H s.heap.objs.size (.lst [])) fp) [] H' b := fun hn b hb => by
    refine ⟨hn b hb, (I2.ok.exf b hb).1, ?_, .inl hb, (I2.ok.exf b hb).2, fun p hp => absurd (show p ∈ ([] : List (Addr × Obj)) from hp) (by simp)⟩
    exact I2.ok.exfs b hb
  have outE : ∀ {α : Type} {t : Sem α} {QQ : α → Shared → Prop} {E' : Value → Shared → Prop} {s' : Shared}, wpAny (model X.prog X.w) X.A t QQ (fun _ _ => False) s' → wpAny (model X.prog X.w) X.A t QQ E' s' := fun q => wpAny_mono q (fun _ _ z => z) fun _ _ z => z.elim
  have loop : ∀ s2 : Shared, s2 = { s1 with heap := pushCells (s1.heap.push { cls := .type "dict", data := .dict #[] }) scope.names } →
      codeAny (model X.prog X.w) X.A (.compLoop (.ListComp elt [⟨tg, iter, ifs, 0⟩] scope pos) 0 (.ref it) (.ref s.heap.objs.size) (cxComp X N' scope s1 (upd H s.heap.objs.size (.lst [])) fp).env) (RR (.ref s.heap.objs.size) s1.heap.objs.size) s2 := by
    rintro s2 rfl
    refine compLoop_any (fun n s' => ∃ i σ' H', Inv (cxComp X N' scope s1 (upd H s.heap.objs.size (.lst [])) fp) [] σ' H' s' ∧ tn i s'.heap ∧ (∀ b ∈ fp, H' b = none) ∧ W i n σ' H') ?_ m0 ⟨0, _, _, I2, st2, fun b hb => (hf1 b hb).1, w0⟩
    rintro n s3 ⟨i, σ3, H3, I3, st3, fr3, w3⟩
    rcases turn i n σ3 H3 w3 with ⟨stop, q⟩ | ⟨go, step⟩
    · refine outE (thn (T.done (cxComp X N' scope s1 (upd H s.heap.objs.size (.lst [])) fp) rfl rfl rfl hc i [] s3 σ3 H3 (fun _ _ => False) I3 (stat fr3) st3 stop) fun r s4 ⟨hr, I4⟩ => ?_)
      subst hr
      have u4 : Un (frs X.stack) fp (upd H s.heap.objs.size (.lst [])) H3 s1.heap s4.heap := I4.base
      have IX : Inv X pins σ H3 s4 := I1.call' I4.os u4 I4.hok I4.bare fun b hb => by
        obtain ⟨_, f1, _, f3, f4, f5⟩ := hf1 b hb
        exact ⟨f3, f1, f4, f5⟩
      obtain ⟨m, hn, _⟩ := I4.loc
      have cle : s.heap.objs.size ≤ s1.heap.objs.size := by rw [sz1]; exact Nat.le_succ _
      have clt : ∀ b, b < s1.heap.objs.size → b ≠ s1.heap.objs.size := fun b hb => Nat.ne_of_lt hb
      refine hRR _ s1.heap.objs.size H3 s4 m hn cle (fun p hp => clt _ (Heap.lt_size (I1.pin p hp).1)) I4.free (Ne.symm (clt _ I1.lt)) (fun x c e => ?_) (Nat.le_trans I.sz cle) IX q
      obtain ⟨v, z⟩ := I1.cell x c e
      exact clt _ z.lt
    · refine outE (thn (T.item (cxComp X N' scope s1 (upd H s.heap.objs.size (.lst [])) fp) rfl rfl rfl hc i [] s3 σ3 H3 (fun _ _ => False) I3 (stat fr3) st3 go) fun r s4 ⟨u, hr, h4⟩ => ?_)
      subst hr
      refine outE (thn h4 fun _ s5 ⟨x, H5, I5, r5, y5, st5, fr5⟩ => ?_)
      have I5' := I5.pinned (stat fr5) (T.obj _ _ st5)
      refine outE (thn (bg _ s5 σ3 H5 x u _ I5' r5 (step x H5 y5)) fun _ s6 ⟨σ6, H6, I6, q6⟩ => ?_)
      refine outE (thn (bf _ s6 σ6 H6 _ I6 q6) fun ok s7 ⟨H7, I7, q7⟩ => ?_)
      have again : ∀ {s8 : Shared} {σ8 : St} {H8 : Hp} {m' : Nat}, Inv (cxComp X N' scope s1 (upd H s.heap.objs.size (.lst [])) fp) ([] ++ pinsAt fp s5.heap) σ8 H8 s8 → m' < n → W (i + 1) m' σ8 H8 →
          ∃ m, m < n ∧ ∃ i σ' H', Inv (cxComp X N' scope s1 (upd H s.heap.objs.size (.lst [])) fp) [] σ' H' s8 ∧ tn i s8.heap ∧ (∀ b ∈ fp, H' b = none) ∧ W i m σ' H' := fun {s8 σ8 H8 m'} I8 hm w8 => by
        refine ⟨m', hm, i + 1, σ8, H8, I8.unpinned, T.keep _ _ _ st5 fun b hb o e => (I8.pin (b, o) (List.mem_append_right _ (List.mem_append_right _ (mem_pinsAt hb e)))).1, fun b hb => ?_, w8⟩
        obtain ⟨o, e, d⟩ := T.obj _ _ st5 b hb
        exact (I8.pin (b, o) (List.mem_append_right _ (List.mem_append_right _ (mem_pinsAt hb e)))).2.1
      cases ok with
      | false =>
        rw [if_neg Bool.false_ne_true] at q7 ⊢
        obtain ⟨m', hm, w8⟩ := q7
        exact again I7 hm w8
      | true =>
        rw [if_pos rfl] at q7 ⊢
        refine outE (thn (be _ s7 σ6 H7 _ I7 q7) fun y s8 ⟨v, H8, I8, r8, zs, hz, hlen, m', hm, w8⟩ => ?_)
        obtain ⟨hzl, its, k, rv, e8⟩ := I8.hok _ _ hz
        refine outE (PyProof.Rows.append_at (hsz := by rw [List.size_toArray, ← rv.length]; exact hzl) e8 fun h9 sb e9 => ?_)
        rw [List.push_toArray] at e9
        have I9 : Inv (cxComp X N' scope s1 (upd H s.heap.objs.size (.lst [])) fp) ([] ++ pinsAt fp s5.heap) σ6 (upd H8 s.heap.objs.size (.lst (zs ++ [v]))) { s8 with heap := h9 } :=
          I8.write (t' := s8.toks) (by rw [hz]; trivial) (.inl rfl) (fun b o hb e => (sb.2 b hb).trans e) ⟨_, e9⟩ ⟨by rw [List.length_append, List.length_singleton]; exact hlen, its ++ [y], k + 1, rv.append (.cons r8 .nil), e9⟩
        exact again I9 hm w8
  show codeAny (model X.prog X.w) X.A (.compStart (.ListComp elt [⟨tg, iter, ifs, 0⟩] scope pos) 0 (.ref it) (.ref s.heap.objs.size) (cxComp X N' scope s1 (upd H s.heap.objs.size (.lst [])) fp).env) (RR (.ref s.heap.objs.size) s1.heap.objs.size) { s1 with heap := pushCells (s1.heap.push { cls := .type "dict", data := .dict #[] }) scope.names }
  exact codeAny_compStart_list (loop _ rfl) (T.self X.A 0 _ _ _ st2 (loop _ rfl))
theorem lookup_of_nodup {α : Type} {n : Str} {c : α} : ∀ {l : List (Str × α)}, (l.map (·.1)).Nodup → (n, c) ∈ l → l.lookup n = some c
  | [], _, h => nomatch h
  | (m, e) :: r, hn, hm => by
    have hn : (m :: r.map (·.1)).Nodup := hn
    obtain ⟨h1, h2⟩ := List.nodup_cons.mp hn
    rw [List.lookup_cons]
    rcases List.mem_cons.mp hm with q | q
    · cases q; simp
    · have hne : (n == m) = false := by
        cases hb : n == m with
        | false => rfl
        | true => exact absurd (List.mem_map.mpr ⟨(n, c), q, beq_iff_eq.mp hb⟩) h1
      rw [hne]
      exact lookup_of_nodup h2 q
variable {tg iter elt : Expr} {ifs : List Expr} {pos : Pos} {wi : TI} {g : Shared → Hp → List Addr → TG} {tf : Shared → Hp → List Addr → TT} {te : Shared → Hp → List Addr → TE}
theorem pe_comp (hc : X.calm = true) (C : CompOk X N' js scope) (hi : PI X tg iter wi)
    (body : ∀ (s0 : Shared) (H0 : Hp) (fp : List Addr), PG (cxComp X N' scope s0 H0 fp) tg (g s0 H0 fp) ∧ PF (cxComp X N' scope s0 H0 fp) ifs (tf s0 H0 fp) ∧ PE (cxComp X N' scope s0 H0 fp) elt (te s0 H0 fp))
    (hs : ∀ x, foldedSetIterable iter X.env x = pure x := by intro _; rfl) : PE X (.ListComp elt [⟨tg, iter, ifs, 0⟩] scope pos) (tComp js wi g tf te) := by
  intro pins s σ H Q I h
  rw [eval_ListComp]
  have hcl : closureFor scope X.env = pure (closL X.env.cells scope.names []) := closureFor_eq fun n hn => Option.isSome_iff_exists.mpr (I.ok.has n (C.fr n hn))
  refine wpAny_comprehension_free (use := none) rfl hs hcl C.kind (fun x hx hl => lookup_of_nodup C.nd (by rw [← hl]; exact hx)) (thn (hi pins s σ H _ I h) fun v s1 h1 => thn h1 fun itv s2 h2 => ?_)
  obtain ⟨it, fp, tn, J, H2, e, I2, T, st2, f2, q⟩ := h2
  subst e
  refine comp_run (RR := fun acc C => compPost (model X.prog X.w) X.A X.xe none (EP X pins σ Q) acc C) hc C I2 T st2 f2 (g := fun s0 H0 => g s0 H0 fp) (tf := fun s0 H0 => tf s0 H0 fp) (te := fun s0 H0 => te s0 H0 fp) (fun s0 H0 => body s0 H0 fp) (Q := fun D H' => Q (.ref D) H') (fun D hD s0 H0 => q D hD s0 H0 fp) ?_
  intro D Ca H' s' m hn hle hp hC hL hcel hs0 I' q'
  exact ⟨m, hn, fun h' hs' => ⟨.ref D, H', I'.turned (t' := s'.toks) (it := Ca) (fun b o hb e => (hs'.2 b hb).trans e) hC hL (.inr hs0) hcel hp, rfl, q'⟩⟩
theorem ps_setc {i : Nat} {x : Str} {px cpos : Pos} (hc : X.calm = true) (C : CompOk X N' js scope) (hi : PI X tg iter wi)
    (body : ∀ (s0 : Shared) (H0 : Hp) (fp : List Addr), PG (cxComp X N' scope s0 H0 fp) tg (g s0 H0 fp) ∧ PF (cxComp X N' scope s0 H0 fp) ifs (tf s0 H0 fp) ∧ PE (cxComp X N' scope s0 H0 fp) elt (te s0 H0 fp))
    (hN : X.N.Nodup) (hix : X.N[i]? = some x) (hx : Loc X.env.scope x)
    (hsw : swapsWith (.ListComp elt [⟨tg, iter, ifs, 0⟩] scope cpos) (some (.Name x px)) pos.line X.env = pure true := by rfl) (hf : X.fn x = true ∨ X.env.scope.names.lookup x = some .local := by trivial)
    (hs : ∀ x, foldedSetIterable iter X.env x = pure x := by intro _; rfl) : PS X (.Assign [.Name x px] (.ListComp elt [⟨tg, iter, ifs, 0⟩] scope cpos) pos) (tAsg (tComp js wi g tf te) (gName i)) := by
  intro pins s σ H D0 I h
  rw [exec_Assign_Name_used _ _ _ _ hsw]
  refine wpAny_bind (wpAny_standAt (wpAny_bind ?_))
  show wpAny _ X.A (do let _ ← comprehension (.ListComp elt [⟨tg, iter, ifs, 0⟩] scope cpos) scope X.env _ (newList []) false (eval iter X.env) (some (assign (.Name x px) X.env))) _ _ s
  have hcl : closureFor scope X.env = pure (closL X.env.cells scope.names []) := closureFor_eq fun n hn => Option.isSome_iff_exists.mpr (I.ok.has n (C.fr n hn))
  refine wpAny_bind (wpAny_mono (wpAny_comprehension_free (use := some (assign (.Name x px) X.env)) (Q := fun _ s' => SP X pins D0 .next s') rfl hs hcl C.kind (fun x hx hl => lookup_of_nodup C.nd (by rw [← hl]; exact hx)) (thn (hi pins s σ H _ I h) fun v s1 h1 => thn h1 fun itv s2 h2 => ?_))
    (fun _ s' hq => wpAny_pure (wpAny_pure hq)) fun _ _ e => e)
  obtain ⟨it, fp, tn, J, H2, e, I2, T, st2, f2, q⟩ := h2
  subst e
  refine comp_run (RR := fun acc C => compPost (model X.prog X.w) X.A X.xe (some (assign (.Name x px) X.env)) (fun _ s' => SP X pins D0 .next s') acc C) hc C I2 T st2 f2 (g := fun s0 H0 => g s0 H0 fp) (tf := fun s0 H0 => tf s0 H0 fp) (te := fun s0 H0 => te s0 H0 fp) (fun s0 H0 => body s0 H0 fp) (Q := fun D H' => D0.nx (σ.set i (some (.ref D))) H') (fun D hD s0 H0 => q D hD s0 H0 fp) ?_
  intro D Ca H' s' m hn hle hp hC hL hcel hs0 I' q'
  show wpAny _ X.A (assign (.Name x px) X.env (.ref D)) _ _ _
  refine wpAny_assign_Name (store_ok2 I' hN hix hx (v := .ref D) rfl (fun s'' I'' hsb => ?_) hf)
  obtain ⟨a, sb, ha⟩ := hsb
  have nCa : Ca ≠ a := by
    rcases ha with z | z
    · rw [z]; exact hL
    · exact fun w => hcel x a z w.symm
  exact ⟨m, hn.sameBut sb nCa, fun h' hs' => ⟨σ.set i (some (.ref D)), H', I''.turned (t' := s''.toks) (it := Ca) (fun b o hb e => (hs'.2 b hb).trans e) hC hL (.inr hs0) hcel hp, q'⟩⟩
end
end L2
namespace L2
open PySem PySem.Spec PyProof.Rows
section
variable {prog : Program} {w : World} {A : Around} {E : Value → Shared → Prop} {s : Shared}
theorem nextOf_tuple_item {it l : Addr} {i : Nat} {items : Array Value} {x : Value} {Q : Value → Shared → Prop} (hit : s.heap.IsTupleIter it l i)
    (hl : s.heap.IsTuple l items) (hx : items[i]? = some x)
    (hQ : ∀ h', h'.IsTupleIter it l (i + 1) → Heap.SameBut it s.heap h' → Q x { s with heap := h' }) :
    wpAny (model prog w) A (Builtin.SmallTypes.nextOf (.ref it)) Q E s := by
  obtain ⟨o, ho, hc, hd⟩ := id hit
  obtain ⟨ol, hol, _, nl, hdl⟩ := hl
  unfold Builtin.SmallTypes.nextOf
  refine wpAny_bind (wpAny_callSpecial?_slot (name := Str.ofString "__next__") hit.typeIs F.slot_tuple_iterator_next
    (wpAny_call_entry F.slot_tuple_iterator_next hit.typeIs F.entry_tuple_iterator_next ?_ (F.args_tuple_iterator_next_1 _)))
  show wpAny _ _ (field (.ref it) 0 >>= _) _ _ s
  refine wpAny_bind (wpAny_field ho hd (x := .ref l) rfl ?_)
  show wpAny _ _ (if (Value.ref l == Value.none) = true then _ else _) _ _ s
  rw [if_neg (show ¬ ((Value.ref l == Value.none) = true) from Bool.false_ne_true)]
  show wpAny _ _ (field (.ref it) 1 >>= _) _ _ s
  refine wpAny_bind (wpAny_field ho hd (x := .int i 0) rfl ?_)
  show wpAny _ _ (seqItems? (.ref l) >>= _) _ _ s
  refine wpAny_bind (wpAny_seqItems hol hdl ?_)
  simp only [Int.toNat_natCast, hx]
  refine wpAny_bind (wpAny_setField ho hd (by simp) (wpAny_pure ⟨x, rfl, wpAny_pure (hQ _ ?_ (Heap.SameBut.update ..))⟩))
  exact ⟨_, Heap.get?_update_self _ ho (Obj.isFreed_of_fields (Obj.data_mapFields hd _)), (Obj.cls_mapFields ..).trans hc, by
    rw [Obj.data_mapFields hd]; simp [rawInt]⟩
theorem nextOf_tuple_end {it l : Addr} {i : Nat} {items : Array Value} {Q : Value → Shared → Prop} (hh : A.handled = none)
    (hit : s.heap.IsTupleIter it l i) (hl : s.heap.IsTuple l items) (hx : items[i]? = none)
    (hE : ∀ h' e, Heap.ExtBut it s.heap h' → (∃ o, h'.get? e = some o ∧ o.cls = .type "StopIteration") → E (.ref e) { s with heap := h' }) :
    wpAny (model prog w) A (Builtin.SmallTypes.nextOf (.ref it)) Q E s := by
  obtain ⟨o, ho, hc, hd⟩ := id hit
  obtain ⟨ol, hol, _, nl, hdl⟩ := hl
  unfold Builtin.SmallTypes.nextOf
  refine wpAny_bind (wpAny_callSpecial?_slot (name := Str.ofString "__next__") hit.typeIs F.slot_tuple_iterator_next
    (wpAny_call_entry F.slot_tuple_iterator_next hit.typeIs F.entry_tuple_iterator_next ?_ (F.args_tuple_iterator_next_1 _)))
  show wpAny _ _ (field (.ref it) 0 >>= _) _ _ s
  refine wpAny_bind (wpAny_field ho hd (x := .ref l) rfl ?_)
  show wpAny _ _ (if (Value.ref l == Value.none) = true then _ else _) _ _ s
  rw [if_neg (show ¬ ((Value.ref l == Value.none) = true) from Bool.false_ne_true)]
  show wpAny _ _ (field (.ref it) 1 >>= _) _ _ s
  refine wpAny_bind (wpAny_field ho hd (x := .int i 0) rfl ?_)
  show wpAny _ _ (seqItems? (.ref l) >>= _) _ _ s
  refine wpAny_bind (wpAny_seqItems hol hdl ?_)
  simp only [Int.toNat_natCast, hx]
  refine wpAny_bind (wpAny_rule (wpAny_bind (wpAny_setField ho hd (by simp) ?_)))
  show wpAny _ _ (newExc (.type "StopIteration") [] >>= _) _ _ _
  refine wpAny_bind ?_
  simp only [newExc, newTuple]
  refine wpAny_bind (wpAny_newObj_type ?_ (by size_fits))
  refine wpAny_bind (m := firstArgMember _ _) (wpAny_of_eq (a := Value.none) (by first | rfl | (simp only [firstArgMember]; rfl)) ?_)
  refine wpAny_newObj_type ?_ (by size_fits)
  simp only [raiseNew]
  refine wpAny_bind (wpAny_handled ?_)
  first | rw [show A.in1.handled = none from hh] | rw [hh]
  refine wpAny_bind (wpAny_pure (wpAny_throw ?_))
  exact hE _ _ (((Heap.SameBut.update ..).extBut.push _).push _) ⟨_, Heap.get?_push_size _ rfl, rfl⟩
end
theorem draws_tuple {prog : Program} {w : World} {A : Around} (hh : A.handled = none) (it l : Addr) (hne : l ≠ it) (items : Array Value) :
    Draws prog w A it [it, l] items.size (fun i v => items[i]? = some v) (fun i h => h.IsTupleIter it l i ∧ h.IsTuple l items) where
  live := fun _ _ st => let ⟨o, ho, _⟩ := st.1; ⟨o, ho⟩
  frame := fun _ _ _ st hk => ⟨st.1.at fun o e => hk it (by simp) o e, let ⟨o, ho, r⟩ := st.2; ⟨o, hk l (by simp) o ho, r⟩⟩
  item := fun i s Q E hi st hQ => by
    refine nextOf_tuple_item st.1 st.2 (x := items[i]) (by simp [hi]) fun h' hit hs => ?_
    exact hQ _ h' s.toks (by simp [hi]) ⟨hit, st.2.extBut hs.extBut hne⟩ hs
  done := fun s Q E st hE => nextOf_tuple_end hh st.1 st.2 (by simp) hE
theorem meets_enumerate_newT (l : Addr) (items : Array Value) (n : Nat) (dct : Option Addr) (sl : Array (Option Value)) :
    Meets (Builtin.«enumerate.__new__» ⟨[.type "enumerate", .ref l], []⟩) (fun _ R s => s.heap.get? l = some { cls := .type "tuple", dict := dct, data := .seq items n, slots := sl } ∧
      R (.ok (.ret (.ref (s.heap.push { cls := .type "tuple_iterator", data := .fields #[.ref l, .int 0 0] }).objs.size)))
        { s with heap := (s.heap.push { cls := .type "tuple_iterator", data := .fields #[.ref l, .int 0 0] }).push { cls := .type "enumerate", data := .fields #[.none, .bool false, .ref s.heap.objs.size, rawInt 0, .none, .none] } }) :=
  .of_wp fun prog w A R s h => by
    obtain ⟨hp, g, d, tk, os⟩ := s; obtain ⟨hl, h⟩ := h
    have hsub := sub_enumerate
    have hL : Heap.IsTuple (Shared.heap ⟨hp, g, d, tk, os⟩) l items := ⟨_, hl, rfl, n, rfl⟩
    wp_walk using PySem.AutoSeq1.wpAny_loadPart' hl
    refine wpAny_stack_any fun st => wpAny_pure ?_
    split
    · rename_i c _ _ _ _ _
      cases (c == Value.type "enumerate")
      · wp_walk using PySem.AutoSeq1.wpAny_loadPart' hl, wpAny_pyIter_tuple hL
        exact ⟨_, rfl, h⟩
      · wp_walk using PySem.AutoSeq1.wpAny_loadPart' hl, wpAny_pyIter_tuple hL
        exact ⟨_, rfl, h⟩
    · wp_walk using PySem.AutoSeq1.wpAny_loadPart' hl, wpAny_pyIter_tuple hL
      exact ⟨_, rfl, h⟩
theorem call_enumerate_tuple {prog : Program} {w : World} {A : Around} {E : Value → Shared → Prop} {s : Shared} {l : Addr} {items : Array Value} {Q : Value → Shared → Prop} (hL : s.heap.IsTuple l items)
    (h : ∀ h', IsEnum h' (s.heap.objs.size + 1) s.heap.objs.size 0 .none → h'.IsTupleIter s.heap.objs.size l 0 → h'.objs.size = s.heap.objs.size + 2 →
      (∀ b o, s.heap.get? b = some o → h'.get? b = some o) → Q (.ref (s.heap.objs.size + 1)) { s with heap := h' }) :
    wpAny (model prog w) A (call (.type "enumerate") [.ref l]) Q E s := by
  obtain ⟨⟨c, dct, dt, sl⟩, hl, hc, n, hd⟩ := hL
  replace hc : c = .type "tuple" := hc
  replace hd : dt = .seq items n := hd
  subst hc hd
  refine callType_new F.called_enumerate (by decide) (F.typeCall_enumerate_1 _) (F.newCall_enumerate_1 _) (fun obj => F.args_object_init_2 obj _) F.entry_enumerate_new
    (meets_enumerate_newT l items n dct sl) ⟨hl, ?_⟩
  have hz : (s.heap.push { cls := .type "tuple_iterator", data := .fields #[.ref l, .int 0 0] }).objs.size = s.heap.objs.size + 1 := Heap.size_push ..
  show _ ∧ _
  rw [hz]
  have he : IsEnum ((s.heap.push { cls := .type "tuple_iterator", data := .fields #[.ref l, .int 0 0] }).push
      { cls := .type "enumerate", data := .fields #[.none, .bool false, .ref s.heap.objs.size, rawInt 0, .none, .none] }) (s.heap.objs.size + 1) s.heap.objs.size 0 .none := by
    have := Heap.get?_push_size (s.heap.push { cls := .type "tuple_iterator", data := .fields #[.ref l, .int 0 0] })
      (o := { cls := .type "enumerate", data := .fields #[.none, .bool false, .ref s.heap.objs.size, rawInt 0, .none, .none] }) rfl
    rw [hz] at this; exact this
  refine ⟨⟨_, he, rfl⟩, h _ he ⟨_, Heap.get?_push_of_some _ (Heap.get?_push_size _ rfl), rfl, rfl⟩ (by rw [Heap.size_push, hz]) fun b o x => Heap.get?_push_of_some _ (Heap.get?_push_of_some _ x)⟩
section
variable {X : Cx} {pins : List (Addr × Obj)} {σ : St} {H : Hp} {s : Shared} {h' : Heap}
theorem Inv.turned2 {t' : Nat} {e it : Addr} (I : Inv X pins σ H s) (k : ∀ b o, b ≠ e → b ≠ it → s.heap.get? b = some o → h'.get? b = some o) (fe : FpOk X pins H e) (fi : FpOk X pins H it) : Inv X pins σ H { s with heap := h', toks := t' } := by
  have ne1 : ∀ b, b ∉ [e, it] → b ≠ e ∧ b ≠ it := fun b hb => ⟨fun z => hb (by simp [z]), fun z => hb (by simp [z])⟩
  have nit : ∀ b u, H b = some u → b ≠ e ∧ b ≠ it := fun b u q => ⟨fun z => (by rw [z, fe.1] at q; cases q), fun z => (by rw [z, fi.1] at q; cases q)⟩
  refine I.step (g' := s.gens) (d' := s.drawn) (ch := [e, it]) (fun b hb => ?_) (fun b o _ _ hc q _ => k b o (ne1 b hc).1 (ne1 b hc).2 q) (fun b o _ _ hc q _ => ⟨o.slots, k b o (ne1 b hc).1 (ne1 b hc).2 q⟩) (fun _ _ _ _ n => n)
    (fun b o hc q => ⟨o, k b o (ne1 b hc).1 (ne1 b hc).2 q⟩) (fun _ _ q => q) (fun _ _ _ q => q) (fun b ps q => ⟨#[], by rw [q]; simp⟩) (fun m hm => ?_) (fun b u q => ?_) I.bare
  · rcases List.mem_cons.mp hb with z | z
    · subst z; exact ⟨fe.2.2.2.1, fe.2.1, fe.2.2.2.2.1, fe.2.2.2.2.2⟩
    · have z := List.mem_singleton.mp z
      subst z; exact ⟨fi.2.2.2.1, fi.2.1, fi.2.2.2.2.1, fi.2.2.2.2.2⟩
  · obtain ⟨o, es, ep, ho, r⟩ := hm
    exact ⟨o, es, ep, k _ o (Ne.symm fe.2.1) (Ne.symm fi.2.1) ho, r⟩
  · refine (I.hok b u q).stay (fun c v hc z => ?_) (fun _ z => z) fun _ _ z => z
    rcases hc with y | y
    · rw [y]; rw [y] at z; exact k b v (nit b u q).1 (nit b u q).2 z
    · exact k c v (nit c _ y).1 (nit c _ y).2 z
end
structure EnumSrc (P : Program) (w : World) (K : PySem.W.Frag) (a it : Addr) (Sq : Hp → List V → Prop) (IsIt : Nat → Heap → Prop) : Prop where
  at_ : ∀ i h h', IsIt i h → (∀ o, h.get? it = some o → h'.get? it = some o) → IsIt i h'
  live : ∀ i h, IsIt i h → ∃ o, h.get? it = some o ∧ ∀ v, o.data ≠ .cell v
  drw : ∀ (X : Cx), X.prog = P → X.w = w → X.K = K → X.calm = true → ∀ (i : Nat) (pins : List (Addr × Obj)) (s : Shared) (σ : St) (H : Hp) (xs : List V), Inv X pins σ H s → IsIt i s.heap → Sq H xs →
    ∃ its : List Value, Vals xs its ∧ (∃ oa, s.heap.get? a = some oa ∧ oa.cls ≠ .type "enumerate") ∧ ∃ St : Nat → Heap → Prop, Draws P w X.A.in1 it [it, a] its.length (fun i v => its[i]? = some v) St ∧ St i s.heap ∧ ∀ j h', St j h' → IsIt j h'
  inj : ∀ (X : Cx), X.prog = P → X.w = w → X.K = K → ∀ (pins : List (Addr × Obj)) (s : Shared) (σ : St) (H : Hp) (xs ys : List V), Inv X pins σ H s → Sq H xs → Sq H ys → xs = ys
noncomputable def Ite (Sq : Hp → List V → Prop) : It :=
  ⟨fun i H => ∃ xs x, Sq H xs ∧ xs[i]? = some x, fun i H x H' => ∃ T v, x = .ref T ∧ H T = none ∧ H' = upd H T (.tup [.int (i : Nat), v]) ∧ ∀ xs, Sq H xs → xs[i]? = some v, fun i H => ∃ xs, Sq H xs ∧ xs.length = i⟩
theorem in1_handled {A : Around} (h : A.handled = none) : A.in1.handled = none := h
theorem src_list {P : Program} {w : World} {K : PySem.W.Frag} (a it : Addr) : EnumSrc P w K a it (fun H xs => SqL K H a xs) (fun i h => h.IsListIter it a i) where
  at_ := fun i h h' st k => st.at k
  live := fun i h st => by
    obtain ⟨o, e, c, d⟩ := st
    exact ⟨o, e, fun v z => by rw [d] at z; cases z⟩
  drw := by
    intro X hP hw hK hc i pins s σ H xs I hit hq
    subst hP hw hK
    obtain ⟨its, rv, p, hz⟩ := I.list hq
    obtain ⟨oa, e1, c1, r1⟩ := id p.isList
    have hne : a ≠ it := fun z => by
      obtain ⟨o, e, c, _⟩ := hit
      rw [← z, e1] at e; cases e; rw [c1] at c; injection c with c; exact absurd c (by decide)
    refine ⟨its, rv, ⟨oa, e1, fun z => (by rw [c1] at z; injection z with z; exact absurd z (by decide))⟩, (fun i h => h.IsListIter it a i ∧ h.IsList a its.toArray), ?_, ⟨hit, p.isList⟩, fun j h' st => st.1⟩
    have D := Draws.list (prog := X.prog) (w := X.w) (A := X.A.in1) (in1_handled (I.ok.hd hc)) it a hne its.toArray
    simpa using D
  inj := by
    intro X hP hw hK pins s σ H xs ys I h1 h2
    subst hP hw hK
    exact I.list_inj h1 h2
theorem src_tup {P : Program} {w : World} {K : PySem.W.Frag} (a it : Addr) : EnumSrc P w K a it (fun H xs => SqT K H a xs) (fun i h => h.IsTupleIter it a i) where
  at_ := fun i h h' st k => st.at k
  live := fun i h st => by
    obtain ⟨o, e, c, d⟩ := st
    exact ⟨o, e, fun v z => by rw [d] at z; cases z⟩
  drw := by
    intro X hP hw hK hc i pins s σ H xs I hit hq
    subst hP hw hK
    obtain ⟨its, rv, p, hz⟩ := I.tuple hq
    obtain ⟨oa, e1, c1, r1⟩ := id p
    have hne : a ≠ it := fun z => by
      obtain ⟨o, e, c, _⟩ := hit
      rw [← z, e1] at e; cases e; rw [c1] at c; injection c with c; exact absurd c (by decide)
    refine ⟨its, rv, ⟨oa, e1, fun z => (by rw [c1] at z; injection z with z; exact absurd z (by decide))⟩, (fun i h => h.IsTupleIter it a i ∧ h.IsTuple a its.toArray), ?_, ⟨hit, p⟩, fun j h' st => st.1⟩
    have D := draws_tuple (prog := X.prog) (w := X.w) (A := X.A.in1) (in1_handled (I.ok.hd hc)) it a hne its.toArray
    simpa using D
  inj := by
    intro X hP hw hK pins s σ H xs ys I h1 h2
    subst hP hw hK
    exact I.tuple_inj h1 h2
theorem turn_enum {P : Program} {w : World} {K : PySem.W.Frag} {a it : Addr} {Sq : Hp → List V → Prop} {IsIt : Nat → Heap → Prop} (S : EnumSrc P w K a it Sq IsIt) (e : Addr) (hei : e ≠ it) {es : List Expr} {x1} {pos : Pos} :
    Turn P w K (.Tuple es x1 pos) (Ite Sq) [e, it] e (fun i h => (∃ old, IsEnum h e it ((i : Nat) : Int) old) ∧ IsIt i h) where
  mem := by simp
  obj := fun i h st b hb => by
    obtain ⟨⟨old, he⟩, hit⟩ := st
    rcases List.mem_cons.mp hb with z | z
    · subst z; exact ⟨_, he, fun v z => by cases z⟩
    · have z := List.mem_singleton.mp z
      subst z; exact S.live i h hit
  keep := fun i h h' st k => by
    obtain ⟨⟨old, he⟩, hit⟩ := st
    exact ⟨⟨old, k e (by simp) _ he⟩, S.at_ i h h' hit fun o q => k it (by simp) o q⟩
  item := by
    intro X hP hw hK hc i pins s σ H E I hf st hg
    obtain ⟨⟨old, he⟩, hit⟩ := st
    obtain ⟨xs, x, hq, hx⟩ := hg
    obtain ⟨its, rv, ⟨oa, ea, ca⟩, St, D, st0, fromSt⟩ := S.drw X hP hw hK hc i pins s σ H xs I hit hq
    obtain ⟨u, hu, ru⟩ := rv.get hx
    have hlt : i < its.length := (List.getElem?_eq_some_iff.mp hu).1
    have hef : e ∉ [it, a] := fun z => by
      rcases List.mem_cons.mp z with z | z
      · exact hei z
      · have z := List.mem_singleton.mp z
        have he' : s.heap.get? e = some _ := he
        rw [z, ea] at he'; cases he'; exact ca rfl
    refine wpAny_pyNext_enum_itemD D he st0 hlt hei hef fun y h1 tk hy heo hst1 htup hsz hk => ?_
    have ey : y = u := Option.some.inj (hy.symm.trans hu)
    subst ey
    refine ⟨_, rfl, wpAny_letOwnedTupleGo_enum heo fun h2 he2 sb2 => ?_⟩
    have fe := hf e (by simp)
    have fi := hf it (by simp)
    have hT : H s.heap.objs.size = none := I.hok.fresh (Nat.le_refl _)
    have Im : Inv X pins σ (upd H s.heap.objs.size (.tup [.int (i : Nat), x])) { s with heap := s.heap.push { cls := .type "tuple", data := .seq #[.int i tk, y] } } :=
      I.laid (t' := s.toks) (fun b v q => Heap.get?_push_of_some _ q) (Nat.le_refl _) ⟨by show 2 ≤ sizeLine; decide, [.int i tk, y], .cons ⟨tk, rfl⟩ (.cons ru .nil), ⟨_, Heap.get?_push_size _ rfl, rfl, _, rfl⟩⟩
    have lt : ∀ b o, s.heap.get? b = some o → b ≠ s.heap.objs.size := fun b o q => Nat.ne_of_lt (Heap.lt_size q)
    have ne : e ≠ s.heap.objs.size := lt e _ he
    have ni : it ≠ s.heap.objs.size := by
      obtain ⟨o, q, _⟩ := S.live i _ hit
      exact lt it o q
    have up : ∀ b, b ≠ s.heap.objs.size → (upd H s.heap.objs.size (.tup [.int (i : Nat), x])) b = H b := fun b hb => upd_ne hb
    have fe' : FpOk X pins (upd H s.heap.objs.size (.tup [.int (i : Nat), x])) e := ⟨by rw [up e ne]; exact fe.1, fe.2⟩
    have fi' : FpOk X pins (upd H s.heap.objs.size (.tup [.int (i : Nat), x])) it := ⟨by rw [up it ni]; exact fi.1, fi.2⟩
    have I2 : Inv X pins σ (upd H s.heap.objs.size (.tup [.int (i : Nat), x])) { s with heap := h2, toks := tk + 1 } :=
      Im.turned2 (t' := tk + 1) (h' := h2) (fun b o hbe hbi q => by
        have q : (s.heap.push { cls := .type "tuple", data := .seq #[.int i tk, y] }).get? b = some o := q
        refine (sb2.2 b hbe).trans ?_
        rcases Heap.get?_push_cases q with ⟨hb, ho⟩ | q'
        · subst hb; subst ho; exact htup
        · exact hk b o hbe hbi q') fe' fi'
    refine ⟨.ref s.heap.objs.size, _, I2, rfl, ⟨_, x, rfl, hT, rfl, fun ys hy => by rw [S.inj X hP hw hK pins s σ H ys xs I hy hq]; exact hx⟩, ⟨⟨y, ?_⟩, ?_⟩, fun b hb => ?_⟩
    · have ec : ((i + 1 : Nat) : Int) = (i : Int) + 1 := by push_cast; rfl
      rw [ec]; exact he2
    · exact S.at_ _ _ _ (fromSt _ _ hst1) fun o q => (sb2.2 it (Ne.symm hei)).trans q
    · rcases List.mem_cons.mp hb with z | z
      · subst z; exact fe'.1
      · have z := List.mem_singleton.mp z
        subst z; exact fi'.1
  done := by
    intro X hP hw hK hc i pins s σ H E I hf st hg
    obtain ⟨⟨old, he⟩, hit⟩ := st
    obtain ⟨xs, hq, hx⟩ := hg
    obtain ⟨its, rv, ⟨oa, ea, ca⟩, St, D, st0, fromSt⟩ := S.drw X hP hw hK hc i pins s σ H xs I hit hq
    have hl := rv.length
    have ei : its.length = i := by omega
    rw [← ei] at st0
    obtain ⟨f0, f1, f2, f3, f4, f5⟩ := hf it (by simp)
    exact wpAny_pyNext_enum_endD D he st0 fun h1 eb => ⟨rfl, I.turned (t' := s.toks) (fun b o hb q => eb b o hb q) f0 f1 f3 f4 f5⟩
  self := fun _ _ _ _ _ st h => wpAny_pyIter_enum st.1.choose_spec h
section
variable {X : Cx}
theorem enum_fin {pins : List (Addr × Obj)} {σ : St} {H : Hp} {s : Shared} {h' : Heap} {a : Addr} {Sq : Hp → List V → Prop} {IsIt : Nat → Heap → Prop} {R : It → Hp → Prop} {tg : Expr} (htg : ∃ es x1 pos, tg = .Tuple es x1 pos) (I : Inv X pins σ H s) (S : EnumSrc X.prog X.w X.K a s.heap.objs.size Sq IsIt)
    (he : IsEnum h' (s.heap.objs.size + 1) s.heap.objs.size 0 .none) (hit : IsIt 0 h') (hk : ∀ b o, s.heap.get? b = some o → h'.get? b = some o) (q : R (Ite Sq) H) {E : Value → Shared → Prop} :
    wpAny (model X.prog X.w) X.A (pyIter (.ref (s.heap.objs.size + 1))) (PIE X pins σ tg R) E { s with heap := h' } := by
  obtain ⟨es, x1, pos, rfl⟩ := htg
  refine wpAny_pyIter_enum (s := { s with heap := h' }) he ?_
  refine ⟨s.heap.objs.size + 1, [s.heap.objs.size + 1, s.heap.objs.size], _, _, H, rfl, I.kept (t' := s.toks) hk, turn_enum S (s.heap.objs.size + 1) (Nat.succ_ne_self _), ⟨⟨_, he⟩, hit⟩, fun b hb => ?_, q⟩
  rcases List.mem_cons.mp hb with z | z
  · subst z; exact I.fpOk (Nat.le_succ _) (I.hok.fresh (Nat.le_succ _))
  · have z := List.mem_singleton.mp z
    subst z; exact I.fpOk (Nat.le_refl _) (I.hok.fresh (Nat.le_refl _))
end
end L2
namespace HT
open PySem PySem.Spec PyProof.Rows
section
variable {prog : Program} {w : World} {A : Around} {E : Value → Shared → Prop} {s : Shared}
theorem getItem_tuple_all {t sl : Addr} {items : Array Value} {vl vu : Value} {lo hi : Option Int} {Q : Value → Shared → Prop} (ht : IsTup s.heap t items) (hs : s.heap.IsSliceOf sl vl vu .none) (pl : IsPart vl lo) (pu : IsPart vu hi)
    (hw : sIx items.size 0 lo = 0 ∧ sIx items.size items.size hi = items.size) (h : Q (.ref t) s) : wpAny (model prog w) A (getItem (.ref t) (.ref sl)) Q E s := by
  obtain ⟨os, hos, hcs, hds⟩ := id hs
  have hTs : s.TypeIs (.ref sl) "slice" := ⟨os, hos, hcs⟩
  unfold getItem
  try with_reducible refine wpAny_holding ?_
  first | refine wpAny_bind (wpAny_pure ?_) | skip
  refine wpAny_bind (wpAny_sequenceKey ht.typeIs (by decide) ?_)
  refine wpAny_bind (wpAny_callSpecial?_slot (name := Str.ofString "__getitem__") ht.typeIs PyProof.Rows.slot_tuple_getitem
    (wpAny_call_entry PyProof.Rows.slot_tuple_getitem ht.typeIs entry_tuple_getitem ?_ (args_tuple_getitem _ _)))
  show wpAny _ _ (Builtin.Tuple.tupleItemsOf (.ref t) >>= _) _ _ s
  refine wpAny_bind (tupleItemsOf_ ht ?_)
  refine wpAny_bind (wpAny_typeOf hTs ?_)
  rw [if_pos (by decide)]
  refine wpAny_bind (sliceApplied_gen hs pl pu ?_)
  have hyes : (((sIx items.size 0 lo : Nat) : Int) == 0 && (1 : Int) == 1 && (sIx items.size items.size hi - sIx items.size 0 lo) == items.size) = true := by
    rw [hw.1, hw.2]; simp
  show wpAny _ _ (if (((sIx items.size 0 lo : Nat) : Int) == 0 && (1 : Int) == 1 && (sIx items.size items.size hi - sIx items.size 0 lo) == items.size) = true then _ else _) _ _ s
  rw [if_pos hyes]
  refine wpAny_bind (m := Builtin.Tuple.tupleIsExact _) ?_
  unfold Builtin.Tuple.tupleIsExact
  refine wpAny_bind (wpAny_typeOf ht.typeIs (wpAny_pure ?_))
  rw [if_pos (by decide)]
  exact wpAny_bind (wpAny_rule (wpAny_bind (wpAny_pure (wpAny_pure ⟨_, rfl, wpAny_pure h⟩))))
end
end HT
namespace L2
open PySem PySem.Spec PyProof.Rows
section
variable {X : Cx}
end
end L2
namespace L2
open PySem PySem.Spec PyProof.Rows
mutual
inductive Is (H : Hp) : V → PyData → Prop
  | non : Is H .non .none
  | bl (b : Bool) : Is H (.bl b) (.bool b)
  | int (i : Int) : Is H (.int i) (.int i)
  | str (x : Str) : Is H (.str x) (.str x)
  | lst {a : Addr} {xs : List V} {ds : List PyData} : H a = some (.lst xs) → Iss H xs ds → Is H (.ref a) (.list ds)
  | tup {a : Addr} {xs : List V} {ds : List PyData} : H a = some (.tup xs) → Iss H xs ds → Is H (.ref a) (.tuple ds)
inductive Iss (H : Hp) : List V → List PyData → Prop
  | nil : Iss H [] []
  | cons {x : V} {d : PyData} {xs : List V} {ds : List PyData} : Is H x d → Iss H xs ds → Iss H (x :: xs) (d :: ds)
end
mutual
theorem Is.mono {H H' : Hp} (s : Same H H') : ∀ {v : V} {d : PyData}, Is H v d → Is H' v d
  | _, _, .non => .non
  | _, _, .bl b => .bl b
  | _, _, .int i => .int i
  | _, _, .str x => .str x
  | _, _, .lst e h => .lst (s _ _ e) (Iss.mono s h)
  | _, _, .tup e h => .tup (s _ _ e) (Iss.mono s h)
theorem Iss.mono {H H' : Hp} (s : Same H H') : ∀ {xs : List V} {ds : List PyData}, Iss H xs ds → Iss H' xs ds
  | _, _, .nil => .nil
  | _, _, .cons h t => .cons (Is.mono s h) (Iss.mono s t)
end
theorem Iss.length {H : Hp} : ∀ {xs : List V} {ds : List PyData}, Iss H xs ds → xs.length = ds.length
  | _, _, .nil => rfl
  | _, _, .cons _ t => by rw [List.length_cons, List.length_cons, Iss.length t]
section
variable {X : Cx} {pins : List (Addr × Obj)} {σ : St} {H : Hp} {s : Shared}
end
end L2
namespace L2
open PySem PySem.Spec PyProof.Rows
structure Cal (P : Program) (w : World) (K : PySem.W.Frag) (mg : Str → Option Value) (base : Heap) (k : Nat) (x : Str) (ps : List Str) (sp : Sp) : Prop where
  ex : ∃ (f : Addr) (fd : FuncData), FnOk P w K mg base CX0 k f fd ps sp ∧ mg x = some (.ref f) ∧ PySem.W.keepIn K (.ref f) = true ∧ Binds K fd ps []
section
variable {X : Cx} {k : Nat} {ps : List Str} {sp : Sp} {x : Str} {p pos : Pos} {e : Expr} {es : List Expr} {t : TA}
theorem pe_cal (c : Cal X.prog X.w X.K X.mg X.base k x ps sp) (hr : Room k X.A) (hg : Gl X x) (ha : PA X (e :: es) t) (hdb : (x == ("__debug__" : Str)) = false := by decide)
    (he : starEach (e :: es) X.env = (false, eval e X.env) :: starEach es X.env := by rfl) (hpl : (backTo pos (starEach es X.env)).any (·.1) = false := by rfl) : PE X (.Call (.Name x p) (e :: es) [] pos) (tCall sp [] E0 t) := by
  obtain ⟨f, fd, F, hm, hk, hb⟩ := c.ex
  exact pe_call F hr hg hm hk hb .nil pass0 ha hdb he hpl
end
end L2
namespace L2
open PySem PySem.Spec PyProof.Rows
section
variable {X : Cx}
end
end L2
namespace L2
open PySem PySem.Spec PyProof.Rows
section
variable {X : Cx} {e st : Expr} {te : TE} {lo hi : Option Expr} {tl th ts : TO} {pos p2 : Pos}
end
end L2
namespace L2
open PySem PySem.Spec PyProof.Rows
section
variable {X : Cx}
end
end L2
namespace L2
open PySem PySem.Spec PyProof.Rows
section
variable {prog : Program} {w : World} {A : Around} {E : Value → Shared → Prop} {s : Shared}
end
section
variable {X : Cx} {pos : Pos}
end
end L2
namespace L2
open PySem PySem.Spec PyProof.Rows
section
variable {prog : Program} {w : World} {A : Around} {E : Value → Shared → Prop} {s : Shared}
end
end L2
namespace L2
open PySem PySem.Spec PyProof.Rows
section
variable {X : Cx}
end
end L2
namespace L2
open PySem PySem.Spec PyProof.Rows
section
variable {X : Cx} {tg : Expr}
end
section
variable {X : Cx}
end
end L2
namespace L2
open PySem
end L2
namespace L2
open PySem PySem.Spec PyProof.Rows
section
variable {prog : Program} {w : World} {A : Around} {E : Value → Shared → Prop} {s : Shared}
end
end L2
namespace L2
open PySem PySem.Spec PyProof.Rows
section
variable {prog : Program} {w : World} {A : Around} {E : Value → Shared → Prop} {s : Shared}
end
end L2
namespace L2
open PySem PySem.Spec PyProof.Rows
section
variable {X : Cx}
end
end L2
namespace L2
open PySem
end L2
namespace L2
open PySem PySem.Spec PyProof.Rows
section
variable {X : Cx}
end
end L2
namespace DL
open PySem PySem.Spec L2
inductive D where
  | non | bl (b : Bool) | int (i : Int) | str (x : Str) | tup (xs : List D) | lst (xs : List D) | scr (xs : List D) | ref (i : Nat)
  | exc (cn : Str) (fs : List (Str × Int))
inductive O where
  | lst (xs : List D) | dT (kvs : List (List Key × D)) | dK (kvs : List (Key × D)) | ins (cn : Str) (fs : List (Str × D))
structure KP where
  K : PySem.W.Frag
  π : List Addr
noncomputable def VT (K : KP) (α : List Addr) (H : Hp) (a : Addr) (us : List V) : Prop := a ∉ α ∧ a ∉ K.π ∧ H a = some (.tup us)
noncomputable def VS (K : KP) (α : List Addr) (H : Hp) (a : Addr) (us : List V) : Prop :=
  (a ∉ α ∧ a ∉ K.π ∧ Rd H a (.lst us)) ∨ ∃ (o : Obj) (its : Array Value) (n : Nat), K.K.lookup a = some o ∧ o.cls = .type "list" ∧ o.dict = none ∧ o.data = .seq its n ∧ its.size ≤ sizeLine ∧ Vals us its.toList
noncomputable def VL (K : KP) (α : List Addr) (H : Hp) (a : Addr) (us : List V) : Prop := a ∉ α ∧ a ∉ K.π ∧ H a = some (.lst us)
noncomputable def VE (K : KP) (α : List Addr) (H : Hp) (a : Addr) (o : HO) : Prop := a ∉ α ∧ a ∉ K.π ∧ H a = some o
noncomputable def xDict (fs : List (Str × Int)) (dx : Addr) (h : Heap) : Prop := ∃ mA, h.Ns1 dx mA ∧ PySem.Within mA (fs.map (·.1)) ∧ ∀ f, RelO ((fs.lookup f).map V.int) (mA f)
noncomputable def xAny (C dx a : Addr) (h : Heap) : Prop := ∃ o vs, h.get? a = some o ∧ o.cls = .ref C ∧ o.dict = some dx ∧ o.data = .fields vs
theorem VT.sq {K : KP} {α : List Addr} {H : Hp} {a : Addr} {us : List V} (h : VT K α H a us) : SqT K.K H a us := .inl (.inl h.2.2)
theorem VS.sq {K : KP} {α : List Addr} {H : Hp} {a : Addr} {us : List V} (h : VS K α H a us) : SqL K.K H a us := by
  rcases h with ⟨_, _, h⟩ | h
  · exact .inl h
  · exact .inr h
theorem VL.sq {K : KP} {α : List Addr} {H : Hp} {a : Addr} {us : List V} (h : VL K α H a us) : SqL K.K H a us := SqL.of h.2.2
mutual
inductive RelD (K : KP) (α : List Addr) (H : Hp) : D → V → Prop
  | non : RelD K α H .non .non
  | bl (b : Bool) : RelD K α H (.bl b) (.bl b)
  | int (i : Int) : RelD K α H (.int i) (.int i)
  | str (x : Str) : RelD K α H (.str x) (.str x)
  | tup {a : Addr} {us : List V} {ds : List D} : VT K α H a us → RelDs K α H ds us → RelD K α H (.tup ds) (.ref a)
  | lst {a : Addr} {us : List V} {ds : List D} : VL K α H a us → RelDs K α H ds us → RelD K α H (.lst ds) (.ref a)
  | scr {a : Addr} {us : List V} {ds : List D} : VS K α H a us → RelDs K α H ds us → RelD K α H (.scr ds) (.ref a)
  | ref {i : Nat} {a : Addr} : α[i]? = some a → RelD K α H (.ref i) (.ref a)
  | exc {a dx C : Addr} {cn : Str} {fs : List (Str × Int)} : PySem.W.nsIn K.K mainGlobals cn = some (some (.ref C)) → VE K α H a (.ext (xAny C dx a)) → VE K α H dx (.ext (xDict fs dx)) → RelD K α H (.exc cn fs) (.ref a)
inductive RelDs (K : KP) (α : List Addr) (H : Hp) : List D → List V → Prop
  | nil : RelDs K α H [] []
  | cons {d : D} {u : V} {ds : List D} {us : List V} : RelD K α H d u → RelDs K α H ds us → RelDs K α H (d :: ds) (u :: us)
end
theorem RelD.map {K K' : KP} {α α' : List Addr} {H H' : Hp} (hK : K'.K = K.K) (hT : ∀ a us, VT K α H a us → VT K' α' H' a us) (hL : ∀ a us, VL K α H a us → VL K' α' H' a us) (hS : ∀ a us, VS K α H a us → VS K' α' H' a us) (hE : ∀ a o, VE K α H a o → VE K' α' H' a o)
    (hR : ∀ (i : Nat) (a : Addr), α[i]? = some a → α'[i]? = some a) {d : D} {v : V} (r : RelD K α H d v) : RelD K' α' H' d v :=
  RelD.rec (motive_1 := fun d v _ => RelD K' α' H' d v) (motive_2 := fun ds us _ => RelDs K' α' H' ds us) .non .bl .int .str (fun t _ r => .tup (hT _ _ t) r) (fun t _ r => .lst (hL _ _ t) r) (fun t _ r => .scr (hS _ _ t) r) (fun h => .ref (hR _ _ h)) (fun n t r => .exc (by rw [hK]; exact n) (hE _ _ t) (hE _ _ r)) .nil (fun _ _ r t => .cons r t) r
theorem RelDs.map {K K' : KP} {α α' : List Addr} {H H' : Hp} (hK : K'.K = K.K) (hT : ∀ a us, VT K α H a us → VT K' α' H' a us) (hL : ∀ a us, VL K α H a us → VL K' α' H' a us) (hS : ∀ a us, VS K α H a us → VS K' α' H' a us) (hE : ∀ a o, VE K α H a o → VE K' α' H' a o)
    (hR : ∀ (i : Nat) (a : Addr), α[i]? = some a → α'[i]? = some a) {ds : List D} {us : List V} (r : RelDs K α H ds us) : RelDs K' α' H' ds us := by
  induction ds generalizing us with
  | nil => cases r; exact .nil
  | cons d ds ih => cases r with | cons h t => exact .cons (h.map hK hT hL hS hE hR) (ih t)
structure Ext (α : List Addr) (H : Hp) (α' : List Addr) (H' : Hp) : Prop where
  pre : ∃ β, α' = α ++ β ∧ ∀ p ∈ β, H p = none
  keep : ∀ b o, H b = some o → b ∉ α → H' b = some o
  dom : ∀ b, H' b = none → H b = none
theorem Ext.refl (α : List Addr) (H : Hp) : Ext α H α H := ⟨⟨[], by simp, fun p h => nomatch h⟩, fun _ _ h _ => h, fun _ h => h⟩
theorem Ext.out {α α' : List Addr} {H H' : Hp} (e : Ext α H α' H') {a : Addr} {o : HO} (h : a ∉ α) (ho : H a = some o) : a ∉ α' := by
  obtain ⟨⟨β, rfl, hb⟩, _⟩ := e
  intro z
  rcases List.mem_append.mp z with z | z
  · exact h z
  · rw [hb a z] at ho; cases ho
theorem Ext.trans {α α' α'' : List Addr} {H H' H'' : Hp} (e : Ext α H α' H') (f : Ext α' H' α'' H'') : Ext α H α'' H'' := by
  refine ⟨?_, fun b o h n => f.keep b o (e.keep b o h n) (e.out n h), fun b h => e.dom b (f.dom b h)⟩
  obtain ⟨⟨β, rfl, hb⟩, k, d⟩ := e
  obtain ⟨⟨γ, rfl, hc⟩, _⟩ := f
  refine ⟨β ++ γ, by simp, fun p hp => ?_⟩
  rcases List.mem_append.mp hp with z | z
  · exact hb p z
  · exact d p (hc p z)
theorem Ext.get {α α' : List Addr} {H H' : Hp} (e : Ext α H α' H') {i : Nat} {a : Addr} (h : α[i]? = some a) : α'[i]? = some a := by
  obtain ⟨⟨β, rfl, _⟩, _⟩ := e
  have hi : i < α.length := (List.getElem?_eq_some_iff.mp h).1
  rw [List.getElem?_append_left hi]; exact h
theorem Ext.new {α : List Addr} {H : Hp} {p : Addr} {o : HO} (h : H p = none) : Ext α H α (upd H p o) :=
  ⟨⟨[], by simp, fun p h => nomatch h⟩, fun b u e _ => by rw [upd_ne (ne_of_none e h)]; exact e, fun b e => by
    by_cases z : b = p
    · subst z; rw [upd_same] at e; cases e
    · rw [upd_ne z] at e; exact e⟩
theorem Ext.newT {α : List Addr} {H : Hp} {p : Addr} {o : HO} (h : H p = none) : Ext α H (α ++ [p]) (upd H p o) :=
  ⟨⟨[p], rfl, fun q hq => by rw [List.mem_singleton.mp hq]; exact h⟩, (Ext.new h).keep (α := α), (Ext.new (α := α) h).dom⟩
theorem Ext.write {α : List Addr} {H : Hp} {p : Addr} {o : HO} (h : p ∈ α) : Ext α H α (upd H p o) :=
  ⟨⟨[], by simp, fun p h => nomatch h⟩, fun b u e n => by rw [upd_ne (fun (z : b = p) => n (by rw [z]; exact h))]; exact e, fun b e => by
    by_cases z : b = p
    · subst z; rw [upd_same] at e; cases e
    · rw [upd_ne z] at e; exact e⟩
theorem VT.mono {K : KP} {α α' : List Addr} {H H' : Hp} (e : Ext α H α' H') {a : Addr} {us : List V} (h : VT K α H a us) : VT K α' H' a us := ⟨e.out h.1 h.2.2, h.2.1, e.keep _ _ h.2.2 h.1⟩
theorem VS.mono {K : KP} {α α' : List Addr} {H H' : Hp} (e : Ext α H α' H') {a : Addr} {us : List V} (h : VS K α H a us) : VS K α' H' a us := by
  rcases h with ⟨n, m, h | ⟨o, h⟩⟩ | h
  · exact .inl ⟨e.out n h, m, .inl (e.keep _ _ h n)⟩
  · exact .inl ⟨e.out n h, m, .inr ⟨o, e.keep _ _ h n⟩⟩
  · exact .inr h
theorem VL.mono {K : KP} {α α' : List Addr} {H H' : Hp} (e : Ext α H α' H') {a : Addr} {us : List V} (h : VL K α H a us) : VL K α' H' a us := ⟨e.out h.1 h.2.2, h.2.1, e.keep _ _ h.2.2 h.1⟩
theorem VE.mono {K : KP} {α α' : List Addr} {H H' : Hp} (e : Ext α H α' H') {a : Addr} {u : HO} (h : VE K α H a u) : VE K α' H' a u := ⟨e.out h.1 h.2.2, h.2.1, e.keep _ _ h.2.2 h.1⟩
theorem RelD.mono {K : KP} {α α' : List Addr} {H H' : Hp} (e : Ext α H α' H') {d : D} {v : V} (r : RelD K α H d v) : RelD K α' H' d v := r.map rfl (fun _ _ t => t.mono e) (fun _ _ t => t.mono e) (fun _ _ t => t.mono e) (fun _ _ t => t.mono e) (fun _ _ h => e.get h)
theorem RelDs.mono {K : KP} {α α' : List Addr} {H H' : Hp} (e : Ext α H α' H') {ds : List D} {us : List V} (r : RelDs K α H ds us) : RelDs K α' H' ds us := r.map rfl (fun _ _ t => t.mono e) (fun _ _ t => t.mono e) (fun _ _ t => t.mono e) (fun _ _ t => t.mono e) (fun _ _ h => e.get h)
section
variable {K : KP} {α α' : List Addr} {H H' : Hp}
theorem RelDs.length : ∀ {ds : List D} {us : List V}, RelDs K α H ds us → ds.length = us.length
  | _, _, .nil => rfl
  | _, _, .cons _ t => by rw [List.length_cons, List.length_cons, RelDs.length t]
theorem RelDs.get : ∀ {ds : List D} {us : List V} {i : Nat} {d : D}, RelDs K α H ds us → ds[i]? = some d → ∃ u, us[i]? = some u ∧ RelD K α H d u
  | _, _, _, _, .nil, e => by simp at e
  | _, _, 0, _, .cons r _, e => by simp at e; subst e; exact ⟨_, rfl, r⟩
  | _, _, i + 1, d, .cons _ t, e => by
    obtain ⟨u, h1, h2⟩ := RelDs.get (i := i) (d := d) t (by simpa using e)
    exact ⟨u, by simpa using h1, h2⟩
theorem RelDs.append : ∀ {ds es : List D} {us ws : List V}, RelDs K α H ds us → RelDs K α H es ws → RelDs K α H (ds ++ es) (us ++ ws)
  | _, _, _, _, .nil, s => s
  | _, _, _, _, .cons r t, s => .cons r (RelDs.append t s)
theorem RelDs.take : ∀ {ds : List D} {us : List V} (n : Nat), RelDs K α H ds us → RelDs K α H (ds.take n) (us.take n)
  | _, _, 0, _ => .nil
  | _, _, _ + 1, .nil => .nil
  | _, _, n + 1, .cons r t => .cons r (RelDs.take n t)
theorem RelDs.drop : ∀ {ds : List D} {us : List V} (n : Nat), RelDs K α H ds us → RelDs K α H (ds.drop n) (us.drop n)
  | _, _, 0, r => r
  | _, _, _ + 1, .nil => .nil
  | _, _, n + 1, .cons _ t => RelDs.drop n t
theorem RelDs.set {d : D} {u : V} (r : RelD K α H d u) : ∀ {ds : List D} {us : List V} (i : Nat), RelDs K α H ds us → RelDs K α H (ds.set i d) (us.set i u)
  | _, _, _, .nil => .nil
  | _, _, 0, .cons _ t => .cons r t
  | _, _, i + 1, .cons q t => .cons q (RelDs.set r i t)
theorem RelDs.dropLast {ds : List D} {us : List V} (r : RelDs K α H ds us) : RelDs K α H ds.dropLast us.dropLast := by
  rw [List.dropLast_eq_take, List.dropLast_eq_take, r.length]; exact r.take _
theorem RelDs.snoc {ds : List D} {us : List V} {d : D} {u : V} (r : RelDs K α H ds us) (h : RelD K α H d u) : RelDs K α H (ds ++ [d]) (us ++ [u]) := r.append (.cons h .nil)
theorem RelDs.ints : ∀ ns : List Int, RelDs K α H (ns.map D.int) (ns.map V.int)
  | [] => .nil
  | n :: r => .cons (.int n) (RelDs.ints r)
theorem RelDs.inv1 {d : D} {us : List V} (h : RelDs K α H [d] us) : ∃ u, us = [u] ∧ RelD K α H d u := by
  cases h with
  | cons r t => cases t; exact ⟨_, rfl, r⟩
theorem RelDs.inv2 {d e : D} {us : List V} (h : RelDs K α H [d, e] us) : ∃ u v, us = [u, v] ∧ RelD K α H d u ∧ RelD K α H e v := by
  cases h with
  | cons r t =>
    obtain ⟨v, rfl, q⟩ := t.inv1
    exact ⟨_, _, rfl, r, q⟩
end
inductive RelKV (K : KP) (α : List Addr) (H : Hp) {κ : Type} : List (κ × D) → List (κ × V) → Prop
  | nil : RelKV K α H [] []
  | cons {k : κ} {d : D} {u : V} {ds : List (κ × D)} {us : List (κ × V)} : RelD K α H d u → RelKV K α H ds us → RelKV K α H ((k, d) :: ds) ((k, u) :: us)
theorem RelKV.mono {K : KP} {α α' : List Addr} {H H' : Hp} {κ : Type} (e : Ext α H α' H') {ds : List (κ × D)} {us : List (κ × V)} (r : RelKV K α H ds us) : RelKV K α' H' ds us := by
  induction r with
  | nil => exact .nil
  | cons h t ih => exact .cons (h.mono e) ih
inductive RelO' (K : KP) (α : List Addr) (H : Hp) (p : Addr) : O → Prop
  | lst {xs : List D} {us : List V} : H p = some (.lst us) → RelDs K α H xs us → RelO' K α H p (.lst xs)
  | dT {kvs : List (List Key × D)} {us : List (List Key × V)} : H p = some (.dT us) → RelKV K α H kvs us → RelO' K α H p (.dT kvs)
  | dK {kvs : List (Key × D)} {us : List (Key × V)} : H p = some (.dK us) → RelKV K α H kvs us → RelO' K α H p (.dK kvs)
  | ins {C dx : Addr} {cn : Str} {fs : List (Str × D)} {us : List (Str × V)} : PySem.W.nsIn K.K mainGlobals cn = some (some (.ref C)) → H p = some (.ins C dx us) → RelKV K α H fs us → RelO' K α H p (.ins cn fs)
structure HRel (K : KP) (α : List Addr) (H : Hp) (h : List O) : Prop where
  len : α.length = h.length
  nd : α.Nodup
  dis : ∀ p ∈ K.π, p ∉ α ∧ H p ≠ none
  obj : ∀ (i : Nat) (o : O), h[i]? = some o → ∃ p, α[i]? = some p ∧ RelO' K α H p o
theorem RelO'.mono {K : KP} {α α' : List Addr} {H H' : Hp} (e : Ext α H α' H') {p : Addr} {o : O} (r : RelO' K α H p o) (k : H' p = H p) : RelO' K α' H' p o := by
  cases r with
  | lst h t => exact .lst (k.trans h) (t.mono e)
  | dT h t => exact .dT (k.trans h) (t.mono e)
  | dK h t => exact .dK (k.trans h) (t.mono e)
  | ins n h t => exact .ins n (k.trans h) (t.mono e)
section
variable {K : KP} {α α' : List Addr} {H H' : Hp} {h : List O}
theorem HRel.some_ (R : HRel K α H h) {p : Addr} (hp : p ∈ α) : ∃ o, H p = some o := by
  obtain ⟨i, hi, rfl⟩ := List.getElem_of_mem hp
  have hh : i < h.length := by rw [← R.len]; exact hi
  obtain ⟨q, e, r⟩ := R.obj i h[i] (List.getElem?_eq_getElem hh)
  rw [List.getElem?_eq_getElem hi] at e
  cases e
  generalize h[i] = o at r
  cases r with
  | lst h t => exact ⟨_, h⟩
  | dT h t => exact ⟨_, h⟩
  | dK h t => exact ⟨_, h⟩
  | ins n h t => exact ⟨_, h⟩
theorem HRel.out (R : HRel K α H h) {p : Addr} (hp : H p = none) : p ∉ α := fun z => by
  obtain ⟨o, e⟩ := R.some_ z
  rw [hp] at e; cases e
theorem HRel.same (R : HRel K α H h) (e : Ext α H α H') (k : ∀ p ∈ α, H' p = H p) : HRel K α H' h :=
  ⟨R.len, R.nd, fun p hp => ⟨(R.dis p hp).1, fun z => (R.dis p hp).2 (e.dom p z)⟩, fun i o q => by
    obtain ⟨p, ep, r⟩ := R.obj i o q
    exact ⟨p, ep, r.mono e (k p (List.mem_of_getElem? ep))⟩⟩
theorem HRel.new (R : HRel K α H h) {p : Addr} {o : HO} (hp : H p = none) : HRel K α (upd H p o) h :=
  R.same (Ext.new hp) fun q hq => upd_ne fun z => R.out hp (z ▸ hq)
theorem HRel.newT (R : HRel K α H h) {p : Addr} {o : HO} {u : O} (hp : H p = none) (r : RelO' K (α ++ [p]) (upd H p o) p u) : HRel K (α ++ [p]) (upd H p o) (h ++ [u]) := by
  have np := R.out hp
  refine ⟨by simp [R.len], ?_, fun q hq => ⟨fun z => ?_, fun z => (R.dis q hq).2 ((Ext.new (α := α) hp).dom q z)⟩, fun i v q => ?_⟩
  · rw [List.nodup_append]
    exact ⟨R.nd, by simp, fun a ha b hb => by rw [List.mem_singleton.mp hb]; exact fun z => np (z ▸ ha)⟩
  · rcases List.mem_append.mp z with z | z
    · exact (R.dis q hq).1 z
    · rw [List.mem_singleton.mp z] at hq
      exact (R.dis p hq).2 hp
  · by_cases hi : i < h.length
    · rw [List.getElem?_append_left hi] at q
      obtain ⟨a, ea, ra⟩ := R.obj i v q
      refine ⟨a, (Ext.newT (o := o) hp).get ea, ra.mono (Ext.newT hp) (upd_ne fun z => np (z ▸ List.mem_of_getElem? ea))⟩
    · have hi' : i = h.length := by
        have := (List.getElem?_eq_some_iff.mp q).1
        rw [List.length_append, List.length_singleton] at this; omega
      subst hi'
      rw [List.getElem?_append_right (Nat.le_refl _)] at q
      simp at q; subst q
      exact ⟨p, by rw [List.getElem?_append_right (by rw [R.len]; exact Nat.le_refl _), R.len]; simp, r⟩
theorem HRel.write (R : HRel K α H h) {p : Addr} {i : Nat} {o : HO} {u : O} (hp : α[i]? = some p) (r : RelO' K α (upd H p o) p u) : HRel K α (upd H p o) (h.set i u) := by
  have hm := List.mem_of_getElem? hp
  refine ⟨by simp [R.len], R.nd, fun q hq => ⟨(R.dis q hq).1, fun z => (R.dis q hq).2 ((Ext.write (H := H) (o := o) hm).dom q z)⟩, fun j v q => ?_⟩
  by_cases e : i = j
  · subst e
    have hi : i < h.length := by
      have := (List.getElem?_eq_some_iff.mp q).1
      simpa using this
    rw [List.getElem?_set_self hi] at q
    cases q
    exact ⟨p, hp, r⟩
  · rw [List.getElem?_set_ne e] at q
    obtain ⟨a, ea, ra⟩ := R.obj j v q
    refine ⟨a, ea, ra.mono (Ext.write hm) (upd_ne fun z => e ?_)⟩
    subst z
    exact (List.getElem?_inj (List.getElem?_eq_some_iff.mp hp).1 R.nd).mp (hp.trans ea.symm)
theorem HRel.lst (R : HRel K α H h) {i : Nat} {xs : List D} (e : h[i]? = some (.lst xs)) : ∃ p us, α[i]? = some p ∧ H p = some (.lst us) ∧ RelDs K α H xs us := by
  obtain ⟨p, ep, r⟩ := R.obj i _ e
  cases r with
  | lst h t => exact ⟨p, _, ep, h, t⟩
theorem HRel.ins (R : HRel K α H h) {i : Nat} {cn : Str} {xs : List (Str × D)} (e : h[i]? = some (.ins cn xs)) : ∃ p C dx us, PySem.W.nsIn K.K mainGlobals cn = some (some (.ref C)) ∧ α[i]? = some p ∧ H p = some (.ins C dx us) ∧ RelKV K α H xs us := by
  obtain ⟨p, ep, r⟩ := R.obj i _ e
  cases r with
  | ins n h t => exact ⟨p, _, _, _, n, ep, h, t⟩
end
theorem HRel.outP {K : KP} {α : List Addr} {H : Hp} {h : List O} (R : HRel K α H h) {p : Addr} (hp : H p = none) : p ∉ K.π := fun z => (R.dis p z).2 hp
structure Priv (D : Addr) (H H' : Hp) : Prop where
  same : ∀ b, b ≠ D → H' b = H b
theorem VT.priv {K : KP} {α : List Addr} {H H' : Hp} {D a : Addr} {us : List V} (e : Priv D H H') (hD : D ∈ K.π) (h : VT K α H a us) : VT K α H' a us :=
  ⟨h.1, h.2.1, (e.same a fun z => h.2.1 (z ▸ hD)).trans h.2.2⟩
theorem VS.priv {K : KP} {α : List Addr} {H H' : Hp} {D a : Addr} {us : List V} (e : Priv D H H') (hD : D ∈ K.π) (h : VS K α H a us) : VS K α H' a us := by
  rcases h with ⟨n, m, h⟩ | h
  · have z : a ≠ D := fun z => m (z ▸ hD)
    refine .inl ⟨n, m, ?_⟩
    unfold Rd at h ⊢
    rw [e.same a z]; exact h
  · exact .inr h
theorem VL.priv {K : KP} {α : List Addr} {H H' : Hp} {D a : Addr} {us : List V} (e : Priv D H H') (hD : D ∈ K.π) (h : VL K α H a us) : VL K α H' a us :=
  ⟨h.1, h.2.1, (e.same a fun z => h.2.1 (z ▸ hD)).trans h.2.2⟩
theorem VE.priv {K : KP} {α : List Addr} {H H' : Hp} {D a : Addr} {u : HO} (e : Priv D H H') (hD : D ∈ K.π) (h : VE K α H a u) : VE K α H' a u :=
  ⟨h.1, h.2.1, (e.same a fun z => h.2.1 (z ▸ hD)).trans h.2.2⟩
theorem RelD.priv {K : KP} {α : List Addr} {H H' : Hp} {D' : Addr} (e : Priv D' H H') (hD : D' ∈ K.π) {d : D} {v : V} (r : RelD K α H d v) : RelD K α H' d v := r.map rfl (fun _ _ t => t.priv e hD) (fun _ _ t => t.priv e hD) (fun _ _ t => t.priv e hD) (fun _ _ t => t.priv e hD) (fun _ _ h => h)
theorem RelDs.priv {K : KP} {α : List Addr} {H H' : Hp} {D' : Addr} (e : Priv D' H H') (hD : D' ∈ K.π) {ds : List D} {us : List V} (r : RelDs K α H ds us) : RelDs K α H' ds us := r.map rfl (fun _ _ t => t.priv e hD) (fun _ _ t => t.priv e hD) (fun _ _ t => t.priv e hD) (fun _ _ t => t.priv e hD) (fun _ _ h => h)
theorem RelKV.priv {K : KP} {α : List Addr} {H H' : Hp} {D' : Addr} {κ : Type} (e : Priv D' H H') (hD : D' ∈ K.π) {ds : List (κ × D)} {us : List (κ × V)} (r : RelKV K α H ds us) : RelKV K α H' ds us := by
  induction r with
  | nil => exact .nil
  | cons h t ih => exact .cons (h.priv e hD) ih
theorem HRel.priv {K : KP} {α : List Addr} {H H' : Hp} {h : List O} {D' : Addr} (e : Priv D' H H') (hD : D' ∈ K.π) (hs : H' D' ≠ none) (R : HRel K α H h) : HRel K α H' h :=
  ⟨R.len, R.nd, fun p hp => ⟨(R.dis p hp).1, by
    by_cases z : p = D'
    · rw [z]; exact hs
    · rw [e.same p z]; exact (R.dis p hp).2⟩, fun i o q => by
    obtain ⟨p, ep, r⟩ := R.obj i o q
    have z : p ≠ D' := fun z => (R.dis D' hD).1 (z ▸ List.mem_of_getElem? ep)
    refine ⟨p, ep, ?_⟩
    cases r with
    | lst h t => exact .lst ((e.same p z).trans h) (t.priv e hD)
    | dT h t => exact .dT ((e.same p z).trans h) (t.priv e hD)
    | dK h t => exact .dK ((e.same p z).trans h) (t.priv e hD)
    | ins n h t => exact .ins n ((e.same p z).trans h) (t.priv e hD)⟩
theorem VT.more {K : PySem.W.Frag} {π π' : List Addr} {α : List Addr} {H : Hp} {a : Addr} {us : List V} (s : ∀ p ∈ π', p ∈ π ∨ H p = none) (h : VT ⟨K, π⟩ α H a us) : VT ⟨K, π'⟩ α H a us :=
  ⟨h.1, fun z => (s a z).elim h.2.1 (fun w => by rw [h.2.2] at w; exact nomatch w), h.2.2⟩
theorem VS.more {K : PySem.W.Frag} {π π' : List Addr} {α : List Addr} {H : Hp} {a : Addr} {us : List V} (s : ∀ p ∈ π', p ∈ π ∨ H p = none) (h : VS ⟨K, π⟩ α H a us) : VS ⟨K, π'⟩ α H a us := by
  rcases h with ⟨n, m, h⟩ | h
  · refine .inl ⟨n, fun z => ?_, h⟩
    rcases s a z with z | z
    · exact m z
    · rcases h with h | ⟨o, h⟩ <;> rw [z] at h <;> cases h
  · exact .inr h
theorem VL.more {K : PySem.W.Frag} {π π' : List Addr} {α : List Addr} {H : Hp} {a : Addr} {us : List V} (s : ∀ p ∈ π', p ∈ π ∨ H p = none) (h : VL ⟨K, π⟩ α H a us) : VL ⟨K, π'⟩ α H a us :=
  ⟨h.1, fun z => (s a z).elim h.2.1 (fun w => by rw [h.2.2] at w; exact nomatch w), h.2.2⟩
theorem VE.more {K : PySem.W.Frag} {π π' : List Addr} {α : List Addr} {H : Hp} {a : Addr} {u : HO} (s : ∀ p ∈ π', p ∈ π ∨ H p = none) (h : VE ⟨K, π⟩ α H a u) : VE ⟨K, π'⟩ α H a u :=
  ⟨h.1, fun z => (s a z).elim h.2.1 (fun w => by rw [h.2.2] at w; exact nomatch w), h.2.2⟩
theorem RelD.more {K : PySem.W.Frag} {π π' : List Addr} {α : List Addr} {H : Hp} (s : ∀ p ∈ π', p ∈ π ∨ H p = none) {d : D} {v : V} (r : RelD ⟨K, π⟩ α H d v) : RelD ⟨K, π'⟩ α H d v := r.map (K := ⟨K, π⟩) (K' := ⟨K, π'⟩) rfl (fun _ _ t => t.more s) (fun _ _ t => t.more s) (fun _ _ t => t.more s) (fun _ _ t => t.more s) (fun _ _ h => h)
theorem RelDs.more {K : PySem.W.Frag} {π π' : List Addr} {α : List Addr} {H : Hp} (s : ∀ p ∈ π', p ∈ π ∨ H p = none) {ds : List D} {us : List V} (r : RelDs ⟨K, π⟩ α H ds us) : RelDs ⟨K, π'⟩ α H ds us := r.map (K := ⟨K, π⟩) (K' := ⟨K, π'⟩) rfl (fun _ _ t => t.more s) (fun _ _ t => t.more s) (fun _ _ t => t.more s) (fun _ _ t => t.more s) (fun _ _ h => h)
theorem RelKV.more {K : PySem.W.Frag} {π π' : List Addr} {α : List Addr} {H : Hp} {κ : Type} (s : ∀ p ∈ π', p ∈ π ∨ H p = none) {ds : List (κ × D)} {us : List (κ × V)} (r : RelKV ⟨K, π⟩ α H ds us) : RelKV ⟨K, π'⟩ α H ds us := by
  induction r with
  | nil => exact .nil
  | cons h t ih => exact .cons (h.more s) ih
theorem HRel.more {K : PySem.W.Frag} {π π' : List Addr} {α : List Addr} {H : Hp} {h : List O} (s : ∀ p ∈ π', p ∈ π ∨ H p = none) (d : ∀ p ∈ π', p ∉ α ∧ H p ≠ none) (R : HRel ⟨K, π⟩ α H h) : HRel ⟨K, π'⟩ α H h :=
  ⟨R.len, R.nd, d, fun i o q => by
    obtain ⟨p, ep, r⟩ := R.obj i o q
    refine ⟨p, ep, ?_⟩
    cases r with
    | lst h t => exact .lst h (t.more s)
    | dT h t => exact .dT h (t.more s)
    | dK h t => exact .dK h (t.more s)
    | ins n h t => exact .ins n h (t.more s)⟩
noncomputable abbrev Sl := List (Option D)
noncomputable abbrev Hh := List O
noncomputable abbrev DK := D → Hh → Prop
noncomputable abbrev DE := Sl → Hh → DK → Prop
noncomputable abbrev DT := Sl → Hh → (Bool → Hh → Prop) → Prop
noncomputable abbrev DA := Sl → Hh → (List D → Hh → Prop) → Prop
noncomputable abbrev DX := Str → List (Str × Int) → Hh → Prop
structure DEnds where
  nx : Sl → Hh → Prop
  rt : DK
  bk : Sl → Hh → Prop := fun _ _ => False
  ct : Sl → Hh → Prop := fun _ _ => False
  ex : DX := fun _ _ _ => False
noncomputable abbrev DS := DEnds → Sl → Hh → Prop
noncomputable abbrev DG := D → Sl → Hh → (Sl → Hh → Prop) → Prop
noncomputable abbrev DGs := List D → Sl → Hh → (Sl → Hh → Prop) → Prop
structure RelS (K : KP) (α : List Addr) (H : Hp) (δ : Sl) (σ : St) : Prop where
  len : δ.length = σ.length
  get : ∀ (i : Nat) (d : D), δ[i]? = some (some d) → ∃ v, σ[i]? = some (some v) ∧ RelD K α H d v
theorem RelS.mono {K : KP} {α α' : List Addr} {H H' : Hp} {δ : Sl} {σ : St} (e : Ext α H α' H') (r : RelS K α H δ σ) : RelS K α' H' δ σ :=
  ⟨r.len, fun i d q => let ⟨v, h1, h2⟩ := r.get i d q; ⟨v, h1, h2.mono e⟩⟩
theorem RelS.set {K : KP} {α : List Addr} {H : Hp} {δ : Sl} {σ : St} {d : D} {v : V} (r : RelS K α H δ σ) (i : Nat) (h : RelD K α H d v) : RelS K α H (δ.set i (some d)) (σ.set i (some v)) := by
  refine ⟨by simp [r.len], fun j e q => ?_⟩
  by_cases z : i = j
  · subst z
    have hi : i < δ.length := by
      have := (List.getElem?_eq_some_iff.mp q).1
      simpa using this
    rw [List.getElem?_set_self hi] at q
    cases q
    exact ⟨v, List.getElem?_set_self (by rw [← r.len]; exact hi), h⟩
  · rw [List.getElem?_set_ne z] at q
    obtain ⟨w, h1, h2⟩ := r.get j e q
    exact ⟨w, by rw [List.getElem?_set_ne z]; exact h1, h2⟩
inductive LE (K : PySem.W.Frag) (f : DE) (σ : St) (H : Hp) (Q : VK) : Prop
  | mk (π : List Addr) (α : List Addr) (δ : Sl) (h : Hh) (Q' : DK) : HRel ⟨K, π⟩ α H h → RelS ⟨K, π⟩ α H δ σ → f δ h Q' → (∀ d h' α' H' v, Q' d h' → Ext α H α' H' → HRel ⟨K, π⟩ α' H' h' → RelD ⟨K, π⟩ α' H' d v → Q v H') → LE K f σ H Q
inductive LT (K : PySem.W.Frag) (f : DT) (σ : St) (H : Hp) (Q : Bool → Hp → Prop) : Prop
  | mk (π : List Addr) (α : List Addr) (δ : Sl) (h : Hh) (Q' : Bool → Hh → Prop) : HRel ⟨K, π⟩ α H h → RelS ⟨K, π⟩ α H δ σ → f δ h Q' → (∀ b h' α' H', Q' b h' → Ext α H α' H' → HRel ⟨K, π⟩ α' H' h' → Q b H') → LT K f σ H Q
inductive LA (K : PySem.W.Frag) (n : Nat) (f : DA) (σ : St) (H : Hp) (Q : List V → Hp → Prop) : Prop
  | mk (π : List Addr) (α : List Addr) (δ : Sl) (h : Hh) (Q' : List D → Hh → Prop) : HRel ⟨K, π⟩ α H h → RelS ⟨K, π⟩ α H δ σ → f δ h Q' → (∀ ds h' α' H' vs, Q' ds h' → Ext α H α' H' → HRel ⟨K, π⟩ α' H' h' → RelDs ⟨K, π⟩ α' H' ds vs → ds.length = n → Q vs H') → LA K n f σ H Q
structure EndsOk (K : KP) (Ex : XK) (α : List Addr) (H : Hp) (E : DEnds) (F : Ends) : Prop where
  nx : ∀ δ' h' α' H' σ', E.nx δ' h' → Ext α H α' H' → HRel K α' H' h' → RelS K α' H' δ' σ' → F.nx σ' H'
  rt : ∀ d h' α' H' v, E.rt d h' → Ext α H α' H' → HRel K α' H' h' → RelD K α' H' d v → F.rt v H'
  bk : ∀ δ' h' α' H' σ', E.bk δ' h' → Ext α H α' H' → HRel K α' H' h' → RelS K α' H' δ' σ' → F.bk σ' H'
  ct : ∀ δ' h' α' H' σ', E.ct δ' h' → Ext α H α' H' → HRel K α' H' h' → RelS K α' H' δ' σ' → F.ct σ' H'
  ex : ∀ cn fs h' α' H' C dx, E.ex cn fs h' → Ext α H α' H' → HRel K α' H' h' → PySem.W.nsIn K.K mainGlobals cn = some (some (.ref C)) → VE K α' H' dx (.ext (xDict fs dx)) → Ex (.ref C) (some dx) H'
theorem EndsOk.mono {K : KP} {Ex : XK} {α α' : List Addr} {H H' : Hp} {E : DEnds} {F : Ends} (x : EndsOk K Ex α H E F) (e : Ext α H α' H') : EndsOk K Ex α' H' E F :=
  ⟨fun _ _ _ _ _ a b c d => x.nx _ _ _ _ _ a (e.trans b) c d, fun _ _ _ _ _ a b c d => x.rt _ _ _ _ _ a (e.trans b) c d, fun _ _ _ _ _ a b c d => x.bk _ _ _ _ _ a (e.trans b) c d, fun _ _ _ _ _ a b c d => x.ct _ _ _ _ _ a (e.trans b) c d, fun _ _ _ _ _ _ _ a b c d => x.ex _ _ _ _ _ _ _ a (e.trans b) c d⟩
inductive LS (K : PySem.W.Frag) (Ex : XK) (f : DS) (F : Ends) (σ : St) (H : Hp) : Prop
  | mk (π : List Addr) (α : List Addr) (δ : Sl) (h : Hh) (E : DEnds) : HRel ⟨K, π⟩ α H h → RelS ⟨K, π⟩ α H δ σ → f E δ h → EndsOk ⟨K, π⟩ Ex α H E F → LS K Ex f F σ H
inductive LG (K : PySem.W.Frag) (f : DG) (v : V) (σ : St) (H : Hp) (Q : St → Hp → Prop) : Prop
  | mk (π : List Addr) (α : List Addr) (δ : Sl) (h : Hh) (d : D) (Q' : Sl → Hh → Prop) : HRel ⟨K, π⟩ α H h → RelS ⟨K, π⟩ α H δ σ → RelD ⟨K, π⟩ α H d v → f d δ h Q' → (∀ δ' h' α' H' σ', Q' δ' h' → Ext α H α' H' → HRel ⟨K, π⟩ α' H' h' → RelS ⟨K, π⟩ α' H' δ' σ' → Q σ' H') → LG K f v σ H Q
inductive LGs (K : PySem.W.Frag) (f : DGs) (vs : List V) (σ : St) (H : Hp) (Q : St → Hp → Prop) : Prop
  | mk (π : List Addr) (α : List Addr) (δ : Sl) (h : Hh) (ds : List D) (Q' : Sl → Hh → Prop) : HRel ⟨K, π⟩ α H h → RelS ⟨K, π⟩ α H δ σ → RelDs ⟨K, π⟩ α H ds vs → f ds δ h Q' → (∀ δ' h' α' H' σ', Q' δ' h' → Ext α H α' H' → HRel ⟨K, π⟩ α' H' h' → RelS ⟨K, π⟩ α' H' δ' σ' → Q σ' H') → LGs K f vs σ H Q
theorem HRel.under {K : PySem.W.Frag} {π α : List Addr} {H : Hp} {h : Hh} {p : Addr} {o : HO} (R : HRel ⟨K, π⟩ α H h) (hp : H p = none) : HRel ⟨K, p :: π⟩ α (upd H p o) h := by
  have s : ∀ q ∈ p :: π, q ∈ π ∨ H q = none := fun q hq => by
    rcases List.mem_cons.mp hq with rfl | z
    · exact .inr hp
    · exact .inl z
  refine ⟨R.len, R.nd, fun q hq => ?_, fun i ob e => ?_⟩
  · rcases List.mem_cons.mp hq with rfl | z
    · exact ⟨R.out hp, by rw [upd_same]; exact fun z => nomatch z⟩
    · exact ⟨(R.dis q z).1, fun w => (R.dis q z).2 ((Ext.new (α := α) hp).dom q w)⟩
  · obtain ⟨a, ea, r⟩ := R.obj i ob e
    refine ⟨a, ea, ?_⟩
    have k : upd H p o a = H a := upd_ne fun z => R.out hp (z ▸ List.mem_of_getElem? ea)
    have e2 : Ext α H α (upd H p o) := Ext.new hp
    cases r with
    | lst h t => exact .lst (k.trans h) ((t.more s).mono e2)
    | dT h t => exact .dT (k.trans h) ((t.more s).mono e2)
    | dK h t => exact .dK (k.trans h) ((t.more s).mono e2)
    | ins n h t => exact .ins n (k.trans h) ((t.more s).mono e2)
theorem HRel.less {K : PySem.W.Frag} {π α : List Addr} {H : Hp} {h : Hh} {p : Addr} (R : HRel ⟨K, p :: π⟩ α H h) : HRel ⟨K, π⟩ α H h :=
  R.more (fun q hq => .inl (List.mem_cons_of_mem _ hq)) fun q hq => R.dis q (List.mem_cons_of_mem _ hq)
theorem RelS.more {K : PySem.W.Frag} {π π' α : List Addr} {H : Hp} {δ : Sl} {σ : L2.St} (s : ∀ p ∈ π', p ∈ π ∨ H p = none) (S : RelS ⟨K, π⟩ α H δ σ) : RelS ⟨K, π'⟩ α H δ σ :=
  ⟨S.len, fun i d q => let ⟨v, a, b⟩ := S.get i d q; ⟨v, a, b.more s⟩⟩
theorem RelS.priv {K : KP} {α : List Addr} {H H' : Hp} {δ : Sl} {σ : L2.St} {D' : Addr} (e : Priv D' H H') (hD : D' ∈ K.π) (S : RelS K α H δ σ) : RelS K α H' δ σ :=
  ⟨S.len, fun i d q => let ⟨v, a, b⟩ := S.get i d q; ⟨v, a, b.priv e hD⟩⟩
theorem Ext.grow {α α' : List Addr} {H H' : Hp} {p : Addr} {o : HO} (e : Ext α H α' H') (hp : H p = none) : Ext α H α' (upd H' p o) :=
  ⟨e.pre, fun b u q n => by rw [upd_ne (ne_of_none q hp)]; exact e.keep b u q n, fun b q => by
    by_cases z : b = p
    · subst z; exact hp
    · rw [upd_ne z] at q; exact e.dom b q⟩
theorem VT.adopt {K : PySem.W.Frag} {π α : List Addr} {H : Hp} {p a : Addr} {us : List V} (h : VT ⟨K, p :: π⟩ α H a us) : VT ⟨K, π⟩ (α ++ [p]) H a us :=
  ⟨fun z => (List.mem_append.mp z).elim h.1 fun z => h.2.1 (by rw [List.mem_singleton.mp z]; exact List.mem_cons_self), fun z => h.2.1 (List.mem_cons_of_mem _ z), h.2.2⟩
theorem VS.adopt {K : PySem.W.Frag} {π α : List Addr} {H : Hp} {p a : Addr} {us : List V} (h : VS ⟨K, p :: π⟩ α H a us) : VS ⟨K, π⟩ (α ++ [p]) H a us := by
  rcases h with ⟨n, m, h⟩ | h
  · refine .inl ⟨fun z => ?_, fun z => m (List.mem_cons_of_mem _ z), h⟩
    rcases List.mem_append.mp z with z | z
    · exact n z
    · exact m (by rw [List.mem_singleton.mp z]; exact List.mem_cons_self)
  · exact .inr h
theorem VL.adopt {K : PySem.W.Frag} {π α : List Addr} {H : Hp} {p a : Addr} {us : List V} (h : VL ⟨K, p :: π⟩ α H a us) : VL ⟨K, π⟩ (α ++ [p]) H a us :=
  ⟨fun z => (List.mem_append.mp z).elim h.1 fun z => h.2.1 (by rw [List.mem_singleton.mp z]; exact List.mem_cons_self), fun z => h.2.1 (List.mem_cons_of_mem _ z), h.2.2⟩
theorem VE.adopt {K : PySem.W.Frag} {π α : List Addr} {H : Hp} {p a : Addr} {u : HO} (h : VE ⟨K, p :: π⟩ α H a u) : VE ⟨K, π⟩ (α ++ [p]) H a u :=
  ⟨fun z => (List.mem_append.mp z).elim h.1 fun z => h.2.1 (by rw [List.mem_singleton.mp z]; exact List.mem_cons_self), fun z => h.2.1 (List.mem_cons_of_mem _ z), h.2.2⟩
theorem get_app {α : List Addr} {p a : Addr} {i : Nat} (h : α[i]? = some a) : (α ++ [p])[i]? = some a := by
  rw [List.getElem?_append_left (List.getElem?_eq_some_iff.mp h).1]; exact h
theorem RelD.adopt {K : PySem.W.Frag} {π α : List Addr} {H : Hp} {p : Addr} {d : D} {v : V} (r : RelD ⟨K, p :: π⟩ α H d v) : RelD ⟨K, π⟩ (α ++ [p]) H d v := r.map (K := ⟨K, p :: π⟩) (K' := ⟨K, π⟩) (α' := α ++ [p]) (H' := H) rfl (fun _ _ t => t.adopt) (fun _ _ t => t.adopt) (fun _ _ t => t.adopt) (fun _ _ t => t.adopt) (fun _ _ h => get_app h)
theorem RelDs.adopt {K : PySem.W.Frag} {π α : List Addr} {H : Hp} {p : Addr} {ds : List D} {us : List V} (r : RelDs ⟨K, p :: π⟩ α H ds us) : RelDs ⟨K, π⟩ (α ++ [p]) H ds us := r.map (K := ⟨K, p :: π⟩) (K' := ⟨K, π⟩) (α' := α ++ [p]) (H' := H) rfl (fun _ _ t => t.adopt) (fun _ _ t => t.adopt) (fun _ _ t => t.adopt) (fun _ _ t => t.adopt) (fun _ _ h => get_app h)
theorem RelKV.adopt {K : PySem.W.Frag} {π α : List Addr} {H : Hp} {p : Addr} {κ : Type} {ds : List (κ × D)} {us : List (κ × V)} (r : RelKV ⟨K, p :: π⟩ α H ds us) : RelKV ⟨K, π⟩ (α ++ [p]) H ds us := by
  induction r with
  | nil => exact .nil
  | cons h t ih => exact .cons h.adopt ih
theorem HRel.adopt {K : PySem.W.Frag} {π α : List Addr} {H : Hp} {h : Hh} {p : Addr} {u : O} (R : HRel ⟨K, p :: π⟩ α H h) (np : p ∉ π) (r : RelO' ⟨K, π⟩ (α ++ [p]) H p u) : HRel ⟨K, π⟩ (α ++ [p]) H (h ++ [u]) := by
  have hp := R.dis p List.mem_cons_self
  refine ⟨by simp [R.len], ?_, fun q hq => ⟨fun z => ?_, (R.dis q (List.mem_cons_of_mem _ hq)).2⟩, fun i v q => ?_⟩
  · rw [List.nodup_append]
    exact ⟨R.nd, by simp, fun a ha b hb => by rw [List.mem_singleton.mp hb]; exact fun z => hp.1 (z ▸ ha)⟩
  · rcases List.mem_append.mp z with z | z
    · exact (R.dis q (List.mem_cons_of_mem _ hq)).1 z
    · rw [List.mem_singleton.mp z] at hq; exact np hq
  · by_cases hi : i < h.length
    · rw [List.getElem?_append_left hi] at q
      obtain ⟨a, ea, ra⟩ := R.obj i v q
      refine ⟨a, get_app ea, ?_⟩
      cases ra with
      | lst h t => exact .lst h t.adopt
      | dT h t => exact .dT h t.adopt
      | dK h t => exact .dK h t.adopt
      | ins n h t => exact .ins n h t.adopt
    · have hi' : i = h.length := by
        have := (List.getElem?_eq_some_iff.mp q).1
        rw [List.length_append, List.length_singleton] at this; omega
      subst hi'
      rw [List.getElem?_append_right (Nat.le_refl _)] at q
      simp at q; subst q
      exact ⟨p, by rw [List.getElem?_append_right (by rw [R.len]; exact Nat.le_refl _), R.len]; simp, r⟩
theorem Ext.adopt {α α' : List Addr} {H H' : Hp} {p : Addr} (e : Ext α H α' H') (hp : H p = none) : Ext α H (α' ++ [p]) H' := by
  refine ⟨?_, e.keep, e.dom⟩
  obtain ⟨⟨β, rfl, hb⟩, _⟩ := e
  exact ⟨β ++ [p], by simp, fun q hq => by
    rcases List.mem_append.mp hq with z | z
    · exact hb q z
    · rw [List.mem_singleton.mp z]; exact hp⟩
section
variable (X : Cx)
noncomputable def SE (e : Expr) (f : DE) : Prop := PE X e (LE X.K f)
noncomputable def ST (e : Expr) (f : DT) : Prop := PT X e (LT X.K f)
noncomputable def SW (e : Expr) (f : DT) : Prop := PW X e (LT X.K f)
noncomputable def SA (es : List Expr) (n : Nat) (f : DA) : Prop := PA X es (LA X.K n f)
noncomputable def SS (s : Stmt) (f : DS) : Prop := PS X s (LS X.K X.ex9 f)
noncomputable def SSs (ss : List Stmt) (f : DS) : Prop := PSs X ss (LS X.K X.ex9 f)
noncomputable def SG (t : Expr) (f : DG) : Prop := PG X t (LG X.K f)
noncomputable def SGs (ts : List Expr) (f : DGs) : Prop := PGs X ts (LGs X.K f)
end
section
variable {X : Cx}
theorem PE.imp {e : Expr} {t t' : TE} (h : PE X e t) (k : ∀ σ H Q, t' σ H Q → t σ H Q) : PE X e t' := fun pins s σ H Q I q => h pins s σ H Q I (k σ H Q q)
theorem PT.imp {e : Expr} {t t' : TT} (h : PT X e t) (k : ∀ σ H Q, t' σ H Q → t σ H Q) : PT X e t' := fun pins s σ H Q I q => h pins s σ H Q I (k σ H Q q)
theorem PW.imp {e : Expr} {t t' : TT} (h : PW X e t) (k : ∀ σ H Q, t' σ H Q → t σ H Q) : PW X e t' := fun wh pins s σ H Q I q => h wh pins s σ H Q I (k σ H Q q)
theorem PA.imp {es : List Expr} {t t' : TA} (h : PA X es t) (k : ∀ σ H Q, t' σ H Q → t σ H Q) : PA X es t' := fun pos pins s σ H Q I q => h pos pins s σ H Q I (k σ H Q q)
theorem PS.imp {e : Stmt} {t t' : TS} (h : PS X e t) (k : ∀ F σ H, t' F σ H → t F σ H) : PS X e t' := fun pins s σ H F I q => h pins s σ H F I (k F σ H q)
theorem PSs.imp {e : List Stmt} {t t' : TS} (h : PSs X e t) (k : ∀ F σ H, t' F σ H → t F σ H) : PSs X e t' := fun pins s σ H F I q => h pins s σ H F I (k F σ H q)
theorem PG.imp {e : Expr} {t t' : TG} (h : PG X e t) (k : ∀ v σ H Q, t' v σ H Q → t v σ H Q) : PG X e t' := fun pins s σ H v u Q I r q => h pins s σ H v u Q I r (k v σ H Q q)
theorem PGs.imp {e : List Expr} {t t' : TGs} (h : PGs X e t) (k : ∀ v σ H Q, t' v σ H Q → t v σ H Q) : PGs X e t' := fun pins s σ H v u Q I r q => h pins s σ H v u Q I r (k v σ H Q q)
end
end DL
namespace DL
open PySem PySem.Spec L2
noncomputable def dVar (i : Nat) : DE := fun δ h Q => match δ[i]? with | some (some d) => Q d h | _ => False
noncomputable def dC (d : D) : DE := fun _ h Q => Q d h
noncomputable abbrev P1 := D → Hh → DK → Prop
noncomputable abbrev P2 := D → D → Hh → DK → Prop
noncomputable abbrev PN := List D → Hh → DK → Prop
noncomputable def dUn (p : P1) (a : DE) : DE := fun δ h Q => a δ h fun x h1 => p x h1 Q
noncomputable def dOp (p : P2) (a b : DE) : DE := fun δ h Q => a δ h fun x h1 => b δ h1 fun y h2 => p x y h2 Q
inductive r1 (K : PySem.W.Frag) (p : P1) (x : V) (H : Hp) (Q : VK) : Prop
  | mk (π : List Addr) (α : List Addr) (h : Hh) (d : D) (Q' : DK) : HRel ⟨K, π⟩ α H h → RelD ⟨K, π⟩ α H d x → p d h Q' → (∀ d h' α' H' v, Q' d h' → Ext α H α' H' → HRel ⟨K, π⟩ α' H' h' → RelD ⟨K, π⟩ α' H' d v → Q v H') → r1 K p x H Q
inductive r2 (K : PySem.W.Frag) (p : P2) (x y : V) (H : Hp) (Q : VK) : Prop
  | mk (π : List Addr) (α : List Addr) (h : Hh) (d e : D) (Q' : DK) : HRel ⟨K, π⟩ α H h → RelD ⟨K, π⟩ α H d x → RelD ⟨K, π⟩ α H e y → p d e h Q' → (∀ d h' α' H' v, Q' d h' → Ext α H α' H' → HRel ⟨K, π⟩ α' H' h' → RelD ⟨K, π⟩ α' H' d v → Q v H') → r2 K p x y H Q
inductive rN (K : PySem.W.Frag) (p : PN) (xs : List V) (H : Hp) (Q : VK) : Prop
  | mk (π : List Addr) (α : List Addr) (h : Hh) (ds : List D) (Q' : DK) : HRel ⟨K, π⟩ α H h → RelDs ⟨K, π⟩ α H ds xs → p ds h Q' → (∀ d h' α' H' v, Q' d h' → Ext α H α' H' → HRel ⟨K, π⟩ α' H' h' → RelD ⟨K, π⟩ α' H' d v → Q v H') → rN K p xs H Q
section
variable {K : PySem.W.Frag} {σ : L2.St} {H : Hp} {Q : VK}
theorem un_lift {p : P1} {fa : DE} (g : LE K (dUn p fa) σ H Q) : LE K fa σ H fun x H1 => r1 K p x H1 Q := by
  obtain ⟨π, α, δ, h, Q', R, S, f, k⟩ := g
  exact ⟨π, α, δ, h, _, R, S, f, fun x h1 α1 H1 v1 f1 e1 R1 q1 => ⟨π, α1, h1, x, Q', R1, q1, f1, fun d h' α' H' v a b c d' => k d h' α' H' v a (e1.trans b) c d'⟩⟩
theorem op_lift {p : P2} {fa fb : DE} (g : LE K (dOp p fa fb) σ H Q) : LE K fa σ H fun x H1 => LE K fb σ H1 fun y H2 => r2 K p x y H2 Q := by
  obtain ⟨π, α, δ, h, Q', R, S, f, k⟩ := g
  refine ⟨π, α, δ, h, _, R, S, f, fun x h1 α1 H1 v1 f1 e1 R1 q1 => ?_⟩
  refine ⟨π, α1, δ, h1, _, R1, S.mono e1, f1, fun y h2 α2 H2 v2 f2 e2 R2 q2 => ?_⟩
  exact ⟨π, α2, h2, x, y, Q', R2, q1.mono e2, q2, f2, fun d h' α' H' v a b c d' => k d h' α' H' v a (e1.trans (e2.trans b)) c d'⟩
end
theorem OpR.imp {X : Cx} {f : Value → Value → Sem Value} {r r' : R2} (h : OpR X f r) (k : ∀ x y H Q, r' x y H Q → r x y H Q) : OpR X f r' := fun pins s σ H x y v u Q I rx ry q => h pins s σ H x y v u Q I rx ry (k x y H Q q)
theorem UnR.imp {X : Cx} {f : Value → Sem Value} {r r' : V → Hp → VK → Prop} (h : UnR X f r) (k : ∀ x H Q, r' x H Q → r x H Q) : UnR X f r' := fun pins s σ H x v Q I rx q => h pins s σ H x v Q I rx (k x H Q q)
theorem IxR.imp {X : Cx} {r r' : R2} (h : IxR X r) (k : ∀ x y H Q, r' x y H Q → r x y H Q) : IxR X r' := fun va sl pins s σ H x y v u Q I rx ry q => h va sl pins s σ H x y v u Q I rx ry (k x y H Q q)
theorem CallR.imp {X : Cx} {f : Value} {r r' : List V → Hp → VK → Prop} (h : CallR X f r) (k : ∀ x H Q, r' x H Q → r x H Q) : CallR X f r' := fun pins s σ H xs us Q I rx q => h pins s σ H xs us Q I rx (k xs H Q q)
noncomputable def lsOf (h : Hh) : D → Option (List D)
  | .lst xs => some xs
  | .scr xs => some xs
  | .ref i => match h[i]? with | some (.lst xs) => some xs | _ => none
  | _ => none
section
variable {K : KP} {α : List Addr} {H : Hp} {h : Hh}
theorem lsOf_sq (R : HRel K α H h) : ∀ {d : D} {v : V} {xs : List D}, RelD K α H d v → lsOf h d = some xs → ∃ p us, v = .ref p ∧ SqL K.K H p us ∧ RelDs K α H xs us
  | _, _, _, .lst t r, e => by cases e; exact ⟨_, _, rfl, t.sq, r⟩
  | _, _, _, .scr t r, e => by cases e; exact ⟨_, _, rfl, t.sq, r⟩
  | _, _, xs, .ref (i := i) hp, e => by
    have e : (match h[i]? with | some (.lst xs) => some xs | _ => none) = some xs := e
    cases q : h[i]? with
    | none => rw [q] at e; cases e
    | some o =>
      rw [q] at e
      cases o with
      | lst ys =>
        cases e
        obtain ⟨p, us, e1, e2, e3⟩ := R.lst q
        rw [hp] at e1; cases e1
        exact ⟨_, us, rfl, SqL.of e2, e3⟩
      | _ => cases e
  | _, _, _, .non, e => nomatch e
  | _, _, _, .bl _, e => nomatch e
  | _, _, _, .int _, e => nomatch e
  | _, _, _, .str _, e => nomatch e
  | _, _, _, .tup _ _, e => nomatch e
theorem tup_sq {d : List D} {v : V} (r : RelD K α H (.tup d) v) : ∃ p us, v = .ref p ∧ SqT K.K H p us ∧ RelDs K α H d us := by
  cases r with
  | tup t r => exact ⟨_, _, rfl, t.sq, r⟩
end
section
variable {X : Cx} {a b c e : Expr} {fa fb fc : DE} {pos : Pos}
theorem sv (i : Nat) {x : Str} {pos : Pos} (hN : X.N[i]? = some x := by rfl) (hv : Vis X.env.scope x := by trivial) (hd : (x == ("__debug__" : Str)) = false := by decide)
    (hcd : (x == ("__classdict__" : Str)) = false := by decide) : SE X (.Name x pos) (dVar i) := PE.imp (pe_var hN hv hd hcd) fun σ H Q ⟨π, α, δ, h, Q', R, S, f, k⟩ => by
  unfold dVar at f
  split at f
  · rename_i d e
    obtain ⟨v, h1, h2⟩ := S.get i d e
    exact ⟨v, h1, k d h α H v f (Ext.refl ..) R h2⟩
  · exact f.elim
theorem sc_lift {v : V} {d : D} (r : ∀ π α H, RelD ⟨X.K, π⟩ α H d v) (h : PE X e (tC v)) : SE X e (dC d) := PE.imp h fun σ H Q ⟨π, α, δ, h, Q', R, S, f, k⟩ => k d h α H v f (Ext.refl ..) R (r π α H)
theorem se_int {i j pos} : SE X (.Constant (.int i) j pos) (dC (.int i)) := sc_lift (fun _ _ _ => .int i) pe_int
theorem se_bl {i j pos} : SE X (.Constant (.bool i) j pos) (dC (.bl i)) := sc_lift (fun _ _ _ => .bl i) pe_bl
theorem se_non {j pos} : SE X (.Constant .none j pos) (dC .non) := sc_lift (fun _ _ _ => .non) pe_non
theorem se_str {i j pos} : SE X (.Constant (.str i) j pos) (dC (.str i)) := sc_lift (fun _ _ _ => .str i) pe_str
theorem se_op {op : Operator} {p : P2} (ho : OpR X (binaryOp op) (r2 X.K p)) (ha : SE X a fa) (hb : SE X b fb) : SE X (.BinOp a op b pos) (dOp p fa fb) := PE.imp (pe_op ho ha hb) fun _ _ _ g => op_lift g
theorem se_un {op : UnaryOp} {p : P1} (ho : UnR X (unaryOp op) (r1 X.K p)) (ha : SE X a fa) : SE X (.UnaryOp op a pos) (dUn p fa) := PE.imp (pe_un ho ha) fun _ _ _ g => un_lift g
theorem se_ix {p : P2} (ho : IxR X (r2 X.K p)) (ha : SE X a fa) (hb : SE X b fb) (hs : PlainIx b) : SE X (.Subscript a b pos) (dOp p fa fb) := PE.imp (pe_ix ho ha hb hs) fun _ _ _ g => op_lift g
theorem se_cmp {op : CmpOp} {p : P2} (ho : OpR X (compareOp op) (r2 X.K p)) (ha : SE X a fa) (hb : SE X b fb) (hm : behindInMarks op b = false) : SE X (.Compare a [op] [b] pos) (dOp p fa fb) := PE.imp (pe_cmpR ho ha hb hm) fun _ _ _ g => op_lift g
noncomputable def dTst (f : DE) : DT := fun δ h Q => f δ h fun d h' => match d with | .bl b => Q b h' | _ => False
theorem tst_lift {K : PySem.W.Frag} {f : DE} {σ : L2.St} {H : Hp} {Q : Bool → Hp → Prop} (g : LT K (dTst f) σ H Q) : LE K f σ H fun x H' => ∃ k, x = .bl k ∧ Q k H' := by
  obtain ⟨π, α, δ, h, Q', R, S, f, k⟩ := g
  refine ⟨π, α, δ, h, _, R, S, f, fun d h1 α1 H1 v1 f1 e1 R1 q1 => ?_⟩
  cases q1 with
  | bl b => exact ⟨b, rfl, k b h1 α1 H1 f1 e1 R1⟩
  | _ => exact f1.elim
theorem st_cmp {op : CmpOp} {p : P2} (ho : OpR X (compareOp op) (r2 X.K p)) (ha : SE X a fa) (hb : SE X b fb) (hm : behindInMarks op b = false) : ST X (.Compare a [op] [b] pos) (dTst (dOp p fa fb)) := PT.imp (pt_cmpR ho ha hb hm) fun _ _ _ g => by
  obtain ⟨π, α, δ, h, Q', R, S, f, k⟩ := tst_lift g
  exact op_lift (Q := fun x H' => ∃ k, x = .bl k ∧ _) ⟨π, α, δ, h, Q', R, S, f, k⟩
noncomputable def dChain (p q : P2) (a b c : DE) : DE := fun δ h Q => a δ h fun x h1 => b δ h1 fun y h2 => p x y h2 fun z h3 => match z with
  | .bl k => if k = true then c δ h3 fun w h4 => q y w h4 Q else Q (.bl false) h3
  | _ => False
noncomputable def trD (h : Hh) : D → Option Bool
  | .non => some false
  | .bl b => some b
  | .int i => some (i != 0)
  | .str x => if x.length ≤ 16777216 then some ((x.length : Int) != 0) else none
  | .tup xs => some (!xs.isEmpty)
  | .lst xs => some (!xs.isEmpty)
  | .scr xs => some (!xs.isEmpty)
  | .ref i => match h[i]? with | some (.lst xs) => some (!xs.isEmpty) | _ => none
  | .exc _ _ => none
noncomputable def dTr (f : DE) : DT := fun δ h Q => f δ h fun d h' => match trD h' d with | some b => Q b h' | none => False
theorem isEmpty_rel {K : KP} {α : List Addr} {H : Hp} {ds : List D} {us : List V} (r : RelDs K α H ds us) : ds.isEmpty = us.isEmpty := by cases r <;> rfl
theorem tr_ok {K : KP} {α : List Addr} {H : Hp} {h : Hh} (R : HRel K α H h) {d : D} {v : V} {k : Bool} (r : RelD K α H d v) (e : trD h d = some k) : TruV K.K v H k := by
  cases r with
  | non => cases e; exact rfl
  | bl b => cases e; exact rfl
  | int i => cases e; exact rfl
  | str x =>
    have e : (if x.length ≤ 16777216 then some ((x.length : Int) != 0) else none) = some k := e
    split at e
    · rename_i hl
      cases e
      exact ⟨by rw [sizeLine_eq]; exact hl, rfl⟩
    · cases e
  | tup t r => cases e; exact .inr (.inl ⟨_, t.sq, by rw [isEmpty_rel r]⟩)
  | lst t r => cases e; exact .inl ⟨_, t.sq, by rw [isEmpty_rel r]⟩
  | scr t r => cases e; exact .inl ⟨_, t.sq, by rw [isEmpty_rel r]⟩
  | exc _ _ _ => cases e
  | @ref i a hp =>
    have e : (match h[i]? with | some (.lst xs) => some (!xs.isEmpty) | _ => none) = some k := e
    cases q : h[i]? with
    | none => rw [q] at e; cases e
    | some o =>
      rw [q] at e
      cases o with
      | lst ys =>
        cases e
        obtain ⟨p, us, e1, e2, e3⟩ := R.lst q
        rw [hp] at e1; cases e1
        exact .inl ⟨us, SqL.of e2, by rw [isEmpty_rel e3]⟩
      | _ => cases e
theorem st_truth (ha : SE X a fa) (he : ∀ whole, isTrue a X.env whole = (do let v ← whole; standAt a.pos; holding [v] (truthy v)) := by intro _; rfl) : ST X a (dTr fa) := PT.imp (pt_truth ha he) fun σ H Q ⟨π, α, δ, h, Q', R, S, f, k⟩ => by
  refine ⟨π, α, δ, h, _, R, S, f, fun d h1 α1 H1 v1 f1 e1 R1 q1 => ?_⟩
  cases q : trD h1 d with
  | none => rw [q] at f1; exact f1.elim
  | some b => rw [q] at f1; exact ⟨b, tr_ok R1 q1 q, k b h1 α1 H1 f1 e1 R1⟩
noncomputable def dAnd (t u : DT) : DT := fun δ h Q => t δ h fun c h1 => if c = true then u δ h1 Q else Q false h1
noncomputable def dOr (t u : DT) : DT := fun δ h Q => t δ h fun c h1 => if c = true then Q true h1 else u δ h1 Q
noncomputable def dNot (t : DT) : DT := fun δ h Q => t δ h fun c h1 => Q (!c) h1
variable {ga gb : DT} {rest : List Expr}
theorem sw_and1 (ha : ST X a ga) : SW X (.BoolOp .And [a] pos) ga := pw_and1 ha
theorem sw_or1 (ha : ST X a ga) : SW X (.BoolOp .Or [a] pos) ga := pw_or1 ha
theorem sw_and (ha : ST X a ga) (hb : SW X (.BoolOp .And (b :: rest) pos) gb) : SW X (.BoolOp .And (a :: b :: rest) pos) (dAnd ga gb) := PW.imp (pw_and ha hb) fun σ H Q ⟨π, α, δ, h, Q', R, S, f, k⟩ => by
  refine ⟨π, α, δ, h, _, R, S, f, fun c h1 α1 H1 f1 e1 R1 => ?_⟩
  cases c with
  | true => exact iteT ⟨π, α1, δ, h1, Q', R1, S.mono e1, by simpa using f1, fun b h' α' H' a e c => k b h' α' H' a (e1.trans e) c⟩
  | false => exact iteF (k false h1 α1 H1 (by simpa using f1) e1 R1)
theorem sw_or (ha : ST X a ga) (hb : SW X (.BoolOp .Or (b :: rest) pos) gb) : SW X (.BoolOp .Or (a :: b :: rest) pos) (dOr ga gb) := PW.imp (pw_or ha hb) fun σ H Q ⟨π, α, δ, h, Q', R, S, f, k⟩ => by
  refine ⟨π, α, δ, h, _, R, S, f, fun c h1 α1 H1 f1 e1 R1 => ?_⟩
  cases c with
  | true => exact iteT (k true h1 α1 H1 (by simpa using f1) e1 R1)
  | false => exact iteF ⟨π, α1, δ, h1, Q', R1, S.mono e1, by simpa using f1, fun b h' α' H' a e c => k b h' α' H' a (e1.trans e) c⟩
theorem st_w (h : SW X e ga) : ST X e ga := PW.pt h
theorem st_not (ha : ST X a ga) : ST X (.UnaryOp .Not a pos) (dNot ga) := PT.imp (pt_not ha) fun σ H Q ⟨π, α, δ, h, Q', R, S, f, k⟩ => ⟨π, α, δ, h, _, R, S, f, fun c h1 α1 H1 f1 e1 R1 => k (!c) h1 α1 H1 f1 e1 R1⟩
noncomputable def dAndV (a b : DE) : DE := fun δ h Q => a δ h fun x h1 => match x with | .bl k => if k = true then b δ h1 Q else Q (.bl false) h1 | _ => False
noncomputable def dOrV (a b : DE) : DE := fun δ h Q => a δ h fun x h1 => match x with | .bl k => if k = true then Q (.bl true) h1 else b δ h1 Q | _ => False
noncomputable def dNotV (a : DE) : DE := fun δ h Q => a δ h fun x h1 => match x with | .bl b => Q (.bl (!b)) h1 | _ => False
noncomputable def dIf (t : DT) (a b : DE) : DE := fun δ h Q => t δ h fun c h1 => if c = true then a δ h1 Q else b δ h1 Q
theorem se_if (hc : ST X c ga) (ha : SE X a fa) (hb : SE X b fb) : SE X (.IfExp c a b pos) (dIf ga fa fb) := PE.imp (pe_ifExp hc ha hb) fun σ H Q ⟨π, α, δ, h, Q', R, S, f, k⟩ => by
  refine ⟨π, α, δ, h, _, R, S, f, fun c h1 α1 H1 f1 e1 R1 => ?_⟩
  cases c with
  | true => exact iteT ⟨π, α1, δ, h1, Q', R1, S.mono e1, by simpa using f1, fun d h' α' H' v a e c d' => k d h' α' H' v a (e1.trans e) c d'⟩
  | false => exact iteF ⟨π, α1, δ, h1, Q', R1, S.mono e1, by simpa using f1, fun d h' α' H' v a e c d' => k d h' α' H' v a (e1.trans e) c d'⟩
noncomputable def dNil : DA := fun _ h Q => Q [] h
noncomputable def dCons (a : DE) (r : DA) : DA := fun δ h Q => a δ h fun x h1 => r δ h1 fun xs h2 => Q (x :: xs) h2
variable {es : List Expr} {n : Nat} {fs : DA}
theorem sa_nil : SA X [] 0 dNil := PA.imp pa_nil fun σ H Q ⟨π, α, δ, h, Q', R, S, f, k⟩ => k [] h α H [] f (Ext.refl ..) R .nil rfl
theorem sa_cons (ha : SE X e fa) (hr : SA X es n fs) (hs : starEach (e :: es) X.env = (false, eval e X.env) :: starEach es X.env := by rfl) : SA X (e :: es) (n + 1) (dCons fa fs) := PA.imp (pa_cons ha hr hs) fun σ H Q ⟨π, α, δ, h, Q', R, S, f, k⟩ => by
  refine ⟨π, α, δ, h, _, R, S, f, fun x h1 α1 H1 v1 f1 e1 R1 q1 => ?_⟩
  refine ⟨π, α1, δ, h1, _, R1, S.mono e1, f1, fun ds h2 α2 H2 vs f2 e2 R2 q2 l2 => ?_⟩
  exact k (x :: ds) h2 α2 H2 (v1 :: vs) f2 (e1.trans e2) R2 (.cons (q1.mono e2) q2) (by rw [List.length_cons, l2])
noncomputable def dTup (f : DA) : DE := fun δ h Q => f δ h fun ds h1 => Q (.tup ds) h1
theorem se_tup {x1} (hf : SA X es n fs) (hn : n ≤ sizeLine := by decide) : SE X (.Tuple es x1 pos) (dTup fs) := PE.imp (pe_tup hf) fun σ H Q ⟨π, α, δ, h, Q', R, S, f, k⟩ => by
  refine ⟨π, α, δ, h, _, R, S, f, fun ds h1 α1 H1 vs f1 e1 R1 q1 l1 => ⟨by rw [← q1.length, l1]; exact hn, fun p hp => ?_⟩⟩
  have e2 : Ext α1 H1 α1 (upd H1 p (.tup vs)) := Ext.new hp
  exact k (.tup ds) h1 α1 _ _ f1 (e1.trans e2) (R1.new hp) (.tup ⟨R1.out hp, R1.outP hp, upd_same⟩ (q1.mono e2))
noncomputable abbrev DN := Sl → Hh → (List D → Hh → Prop) → Prop
inductive LN (K : PySem.W.Frag) (f : DN) (σ : St) (H : Hp) (Q : VK) : Prop
  | mk (π : List Addr) (α : List Addr) (δ : Sl) (h : Hh) (Q' : List D → Hh → Prop) : HRel ⟨K, π⟩ α H h → RelS ⟨K, π⟩ α H δ σ → f δ h Q' → (∀ ds h' α' H' us p, Q' ds h' → Ext α H α' H' → HRel ⟨K, p :: π⟩ α' H' h' → RelDs ⟨K, p :: π⟩ α' H' ds us → H' p = some (.lst us) → H p = none → p ∉ π → Q (.ref p) H') → LN K f σ H Q
theorem LN.last {K : PySem.W.Frag} {π α α' : List Addr} {H H' : Hp} {h h' : Hh} {Q : VK} {Q' : List D → Hh → Prop} (k : ∀ ds h' α' H' us p, Q' ds h' → Ext α H α' H' → HRel ⟨K, p :: π⟩ α' H' h' → RelDs ⟨K, p :: π⟩ α' H' ds us → H' p = some (.lst us) → H p = none → p ∉ π → Q (.ref p) H')
    {ds : List D} {us : List V} {p : Addr} (f : Q' ds h') (e : Ext α H α' H') (R : HRel ⟨K, π⟩ α' H' h') (r : RelDs ⟨K, π⟩ α' H' ds us) (hp : H' p = none) : Q (.ref p) (upd H' p (.lst us)) := by
  have e2 : Ext α' H' α' (upd H' p (.lst us)) := Ext.new hp
  refine k ds h' α' _ us p f (e.trans e2) (R.under hp) ((r.more fun q hq => ?_).mono e2) upd_same (e.dom p hp) (R.outP hp)
  rcases List.mem_cons.mp hq with rfl | z
  · exact .inr hp
  · exact .inl z
noncomputable def SN (X : Cx) (e : Expr) (f : DN) : Prop := PE X e (LN X.K f)
noncomputable def dV (f : DN) : DE := fun δ h Q => f δ h fun ds h' => Q (.lst ds) h'
noncomputable def dTk (f : DN) : DE := fun δ h Q => f δ h fun ds h' => Q (.ref h'.length) (h' ++ [.lst ds])
variable {fn : DN}
theorem se_v (hf : SN X e fn) : SE X e (dV fn) := PE.imp hf fun σ H Q ⟨π, α, δ, h, Q', R, S, f, k⟩ => by
  refine ⟨π, α, δ, h, _, R, S, f, fun ds h1 α1 H1 us p f1 e1 R1 q1 hus hp np => ?_⟩
  exact k (.lst ds) h1 α1 _ _ f1 e1 R1.less (.lst ⟨(R1.dis p List.mem_cons_self).1, np, hus⟩ (q1.more fun q hq => .inl (List.mem_cons_of_mem _ hq)))
theorem se_t (hf : SN X e fn) : SE X e (dTk fn) := PE.imp hf fun σ H Q ⟨π, α, δ, h, Q', R, S, f, k⟩ => by
  refine ⟨π, α, δ, h, _, R, S, f, fun ds h1 α1 H1 us p f1 e1 R1 q1 hus hp np => ?_⟩
  refine k (.ref h1.length) (h1 ++ [.lst ds]) (α1 ++ [p]) _ _ f1 (e1.adopt hp) (R1.adopt np (.lst hus q1.adopt)) (.ref ?_)
  rw [← R1.len]; simp
theorem sn_lst (hf : SA X es n fs) (hn : n ≤ sizeLine := by decide) : SN X (.List es pos) fs := PE.imp (pe_lst hf) fun σ H Q ⟨π, α, δ, h, Q', R, S, f, k⟩ => by
  refine ⟨π, α, δ, h, _, R, S, f, fun ds h1 α1 H1 vs f1 e1 R1 q1 l1 => ⟨by rw [← q1.length, l1]; exact hn, fun p hp => ?_⟩⟩
  exact LN.last (h := h) k f1 e1 R1 q1 hp
end
end DL
namespace DL
open PySem PySem.Spec L2
section
variable {X : Cx}
noncomputable def pI (C : Int → Int → Prop) (g : Int → Int → Int) : P2 := fun x y h Q => match x, y with | .int i, .int j => C i j ∧ Q (.int (g i j)) h | _, _ => False
noncomputable def pI0 (g : Int → Int → Int) : P2 := fun x y h Q => match x, y with | .int i, .int j => Q (.int (g i j)) h | _, _ => False
noncomputable def pB0 (g : Int → Int → Bool) : P2 := fun x y h Q => match x, y with | .int i, .int j => Q (.bl (g i j)) h | _, _ => False
theorem pI_ok {f : Value → Value → Sem Value} {C : Int → Int → Prop} {g : Int → Int → Int} (h : OpR X f (rI C fun i j => .int (g i j))) : OpR X f (r2 X.K (pI C g)) := OpR.imp h fun x y H Q ⟨π, α, h, d, e, Q', R, r1, r2, f, k⟩ => by
  cases r1 with
  | int i =>
    cases r2 with
    | int j => exact ⟨i, j, rfl, rfl, f.1, k _ h α H _ f.2 (Ext.refl ..) R (.int _)⟩
    | _ => exact f.elim
  | _ => exact f.elim
theorem pI0_ok {f : Value → Value → Sem Value} {g : Int → Int → Int} (h : OpR X f (rI0 fun i j => .int (g i j))) : OpR X f (r2 X.K (pI0 g)) := OpR.imp h fun x y H Q ⟨π, α, h, d, e, Q', R, r1, r2, f, k⟩ => by
  cases r1 with
  | int i =>
    cases r2 with
    | int j => exact ⟨i, j, rfl, rfl, k _ h α H _ f (Ext.refl ..) R (.int _)⟩
    | _ => exact f.elim
  | _ => exact f.elim
theorem pB0_ok {f : Value → Value → Sem Value} {g : Int → Int → Bool} (h : OpR X f (rI0 fun i j => .bl (g i j))) : OpR X f (r2 X.K (pB0 g)) := OpR.imp h fun x y H Q ⟨π, α, h, d, e, Q', R, r1, r2, f, k⟩ => by
  cases r1 with
  | int i =>
    cases r2 with
    | int j => exact ⟨i, j, rfl, rfl, k _ h α H _ f (Ext.refl ..) R (.bl _)⟩
    | _ => exact f.elim
  | _ => exact f.elim
noncomputable abbrev pSub : P2 := pI0 fun i j => i - j
noncomputable abbrev pDiv : P2 := pI (fun _ j => 0 < j ∧ j < 2 ^ 100) fun i j => i / j
noncomputable abbrev pMod : P2 := pI (fun _ j => 0 < j) fun i j => i % j
noncomputable abbrev pPow : P2 := pI CPow fun i j => i ^ j.toNat
noncomputable abbrev pShl : P2 := pI CPow fun i j => i * 2 ^ j.toNat
noncomputable abbrev pShr : P2 := pI (fun _ j => 0 ≤ j) fun i j => i / 2 ^ j.toNat
noncomputable abbrev pBand : P2 := pI0 fun i j => Builtin.bitAnd i j
noncomputable abbrev pBor : P2 := pI0 fun i j => Builtin.bitOr i j
noncomputable abbrev pLtI : P2 := pB0 fun i j => decide (i < j)
noncomputable abbrev pLe : P2 := pB0 fun i j => decide (i ≤ j)
noncomputable abbrev pGt : P2 := pB0 fun i j => decide (j < i)
noncomputable abbrev pGe : P2 := pB0 fun i j => decide (j ≤ i)
theorem ok_sub : OpR X (binaryOp .Sub) (r2 X.K pSub) := pI0_ok op_sub
theorem op_fdivB : OpR X (binaryOp .FloorDiv) (rI (fun _ j => 0 < j ∧ j < 2 ^ 100) fun i j => .int (i / j)) := opI fun i j _ _ _ _ _ hc q => by
  have e : i.fdiv j = i / j := Int.fdiv_eq_ediv_of_nonneg i (by omega)
  refine PyProof.Rows.floordiv_int (by omega) (by rw [e]; exact q) (.inl (PyProof.noPylong_of_log2 ?_))
  have h1 : j.natAbs ≠ 0 := by omega
  rw [Nat.log2_lt h1]
  have h2 : j.natAbs < 2 ^ 100 := by
    have := hc.2
    omega
  exact Nat.lt_of_lt_of_le h2 (Nat.pow_le_pow_right (by decide) (by decide))
theorem ok_div : OpR X (binaryOp .FloorDiv) (r2 X.K pDiv) := pI_ok op_fdivB
theorem ok_mod : OpR X (binaryOp .Mod) (r2 X.K pMod) := pI_ok op_mod
theorem ok_pow : OpR X (binaryOp .Pow) (r2 X.K pPow) := pI_ok op_pow
theorem ok_shl : OpR X (binaryOp .LShift) (r2 X.K pShl) := pI_ok op_shl
theorem ok_shr : OpR X (binaryOp .RShift) (r2 X.K pShr) := pI_ok op_shr
theorem ok_band : OpR X (binaryOp .BitAnd) (r2 X.K pBand) := pI0_ok op_and
theorem ok_bor : OpR X (binaryOp .BitOr) (r2 X.K pBor) := pI0_ok op_or
theorem ok_le : OpR X (compareOp .LtE) (r2 X.K pLe) := pB0_ok op_le
theorem ok_gt : OpR X (compareOp .Gt) (r2 X.K pGt) := pB0_ok op_gt
theorem ok_ge : OpR X (compareOp .GtE) (r2 X.K pGe) := pB0_ok op_ge
theorem ok_ltI : OpR X (compareOp .Lt) (r2 X.K pLtI) := pB0_ok op_lt
theorem iok_add : OpR X (inplaceOp .Add) (r2 X.K (pI0 fun i j => i + j)) := pI0_ok iop_add
theorem iok_or : OpR X (inplaceOp .BitOr) (r2 X.K pBor) := pI0_ok iop_or
noncomputable def pAdd : P2 := fun x y h Q => match x, y with
  | .int i, .int j => Q (.int (i + j)) h
  | .str a, .str b => a.length + b.length ≤ 16777216 ∧ Q (.str (a ++ b)) h
  | .tup a, .tup b => a ≠ [] ∧ a.length + b.length ≤ 16777216 ∧ Q (.tup (a ++ b)) h
  | _, _ => False
theorem ok_add : OpR X (binaryOp .Add) (r2 X.K pAdd) := OpR.imp (op_add.or (op_add_str.or op_catT)) fun x y H Q ⟨π, α, h, d, e, Q', R, r1, r2, f, k⟩ => by
  cases r1 with
  | int i =>
    cases r2 with
    | int j => exact .inl ⟨i, j, rfl, rfl, k _ h α H _ f (Ext.refl ..) R (.int _)⟩
    | _ => exact f.elim
  | str i =>
    cases r2 with
    | str j => exact .inr (.inl ⟨i, j, rfl, rfl, by rw [sizeLine_eq]; exact f.1, k _ h α H _ f.2 (Ext.refl ..) R (.str _)⟩)
    | _ => exact f.elim
  | @tup a us ds t r =>
    cases r2 with
    | @tup a' us' ds' t' r' =>
      obtain ⟨f1, f2, f3⟩ := f
      have l1 := r.length
      have l2 := r'.length
      refine .inr (.inr ⟨a, a', us, us', rfl, rfl, t.sq, t'.sq, ?_, by rw [sizeLine_eq, ← l1, ← l2]; exact f2, fun z => ?_, fun z p hp => ?_⟩)
      · intro z
        subst z
        cases r; exact f1 rfl
      · subst z
        cases r'
        rw [List.append_nil] at f3
        exact k _ h α H _ f3 (Ext.refl ..) R (.tup t r)
      · have e2 : Ext α H α (upd H p (.tup (us ++ us'))) := Ext.new hp
        exact k _ h α _ _ f3 e2 (R.new hp) (.tup ⟨R.out hp, R.outP hp, upd_same⟩ ((r.append r').mono e2))
    | _ => exact f.elim
  | _ => exact f.elim
noncomputable def pNeg : P1 := fun x h Q => match x with | .int i => Q (.int (-i)) h | _ => False
theorem ok_neg : UnR X (unaryOp .USub) (r1 X.K pNeg) := UnR.imp un_neg fun x H Q ⟨π, α, h, d, Q', R, r1, f, k⟩ => by
  cases r1 with
  | int i => exact ⟨i, rfl, k _ h α H _ f (Ext.refl ..) R (.int _)⟩
  | _ => exact f.elim
noncomputable def isNon : D → Bool | .non => true | _ => false
noncomputable def pIs (neg : Bool) : P2 := fun x y h Q => match y with | .non => Q (.bl (if neg then !isNon x else isNon x)) h | _ => False
theorem isNon_rel {K : KP} {α : List Addr} {H : Hp} {d : D} {v : V} (r : RelD K α H d v) : decide (v = .non) = isNon d := by cases r <;> rfl
theorem ok_is : OpR X (compareOp .Is) (r2 X.K (pIs false)) := OpR.imp op_isN fun x y H Q ⟨π, α, h, d, e, Q', R, r1, r2, f, k⟩ => by
  cases r2 with
  | non =>
    refine ⟨rfl, k _ h α H _ f (Ext.refl ..) R ?_⟩
    rw [isNon_rel r1]; exact .bl _
  | _ => exact f.elim
theorem atI_rel {K : KP} {α : List Addr} {H : Hp} {ds : List D} {us : List V} {i : Int} {d : D} (r : RelDs K α H ds us) (e : atI ds i = some d) : ∃ u, atI us i = some u ∧ RelD K α H d u := by
  unfold atI at e ⊢
  rw [← r.length]
  cases q : ixN ds.length i with
  | none => rw [q] at e; cases e
  | some j =>
    rw [q] at e
    exact r.get e
noncomputable def seqOf (h : Hh) : D → Option (List D)
  | .lst xs => some xs
  | .scr xs => some xs
  | .tup xs => some xs
  | .ref i => match h[i]? with | some (.lst xs) => some xs | _ => none
  | _ => none
theorem seqOf_sq {K : KP} {α : List Addr} {H : Hp} {h : Hh} (R : HRel K α H h) {d : D} {v : V} {xs : List D} (r : RelD K α H d v) (e : seqOf h d = some xs) : ∃ p us, v = .ref p ∧ (SqL K.K H p us ∨ SqT K.K H p us) ∧ RelDs K α H xs us := by
  by_cases z : ∃ ys, d = .tup ys
  · obtain ⟨ys, rfl⟩ := z
    cases e
    obtain ⟨p, us, a, b, c⟩ := tup_sq r
    exact ⟨p, us, a, .inr b, c⟩
  · have e' : lsOf h d = some xs := by
      cases d with
      | tup ys => exact absurd ⟨ys, rfl⟩ z
      | lst ys => exact e
      | scr ys => exact e
      | ref i => exact e
      | _ => cases e
    obtain ⟨p, us, a, b, c⟩ := lsOf_sq R r e'
    exact ⟨p, us, a, .inl b, c⟩
noncomputable def strAt (x : Str) (i : Int) : Option D := if x.length ≤ 16777216 then (atI x.cps.toList i).map fun c => .str ⟨#[c]⟩ else none
noncomputable def ixD (h : Hh) (x y : D) : Option D := match y with
  | .int i => match x with
    | .tup xs => atI xs i
    | .lst xs => atI xs i
    | .scr xs => atI xs i
    | .ref j => match h[j]? with | some (.lst xs) => atI xs i | _ => none
    | .str s => strAt s i
    | _ => none
  | _ => none
noncomputable def pIx : P2 := fun x y h Q => match ixD h x y with | some d => Q d h | none => False
theorem ok_ix : IxR X (r2 X.K pIx) := IxR.imp ix_seq fun x y H Q ⟨π, α, h, d, e, Q', R, r1, r2, f, k⟩ => by
  unfold pIx at f
  cases q : ixD h d e with
  | none => rw [q] at f; exact f.elim
  | some z =>
    rw [q] at f
    cases r2 with
    | int i =>
      cases r1 with
      | @tup a us ds t r =>
        obtain ⟨u, e1, e2⟩ := atI_rel r q
        exact .inr (.inl ⟨_, us, i, u, rfl, rfl, t.sq, e1, k _ h α H _ f (Ext.refl ..) R e2⟩)
      | @lst a us ds t r =>
        obtain ⟨u, e1, e2⟩ := atI_rel r q
        exact .inl ⟨_, us, i, u, rfl, rfl, t.sq, e1, k _ h α H _ f (Ext.refl ..) R e2⟩
      | @scr a us ds t r =>
        obtain ⟨u, e1, e2⟩ := atI_rel r q
        exact .inl ⟨_, us, i, u, rfl, rfl, t.sq, e1, k _ h α H _ f (Ext.refl ..) R e2⟩
      | @ref j a hp =>
        have q : (match h[j]? with | some (.lst xs) => atI xs i | _ => none) = some z := q
        cases w : h[j]? with
        | none => rw [w] at q; cases q
        | some o =>
          rw [w] at q
          cases o with
          | lst ys =>
            obtain ⟨p, us, e1, e2, e3⟩ := R.lst w
            rw [hp] at e1; cases e1
            obtain ⟨u, e4, e5⟩ := atI_rel e3 q
            exact .inl ⟨_, us, i, u, rfl, rfl, SqL.of e2, e4, k _ h α H _ f (Ext.refl ..) R e5⟩
          | _ => cases q
      | str s =>
        have q : strAt s i = some z := q
        unfold strAt at q
        split at q
        · rename_i hl
          cases w : atI s.cps.toList i with
          | none => rw [w] at q; cases q
          | some c =>
            rw [w] at q
            cases q
            exact .inr (.inr ⟨s, i, c, rfl, rfl, by rw [sizeLine_eq]; exact hl, w, k _ h α H _ f (Ext.refl ..) R (.str _)⟩)
        · cases q
      | _ => cases q
    | _ => cases q
end
noncomputable def cutD (xs : List D) (lo hi : Option Int) : List D := (xs.drop (HT.sIx xs.length 0 lo)).take (HT.sIx xs.length xs.length hi - HT.sIx xs.length 0 lo)
theorem cut_rel {K : KP} {α : List Addr} {H : Hp} {ds : List D} {us : List V} (r : RelDs K α H ds us) (lo hi : Option Int) : RelDs K α H (cutD ds lo hi) (cutV us lo hi) := by
  unfold cutD cutV
  rw [r.length]
  exact (r.drop _).take _
noncomputable abbrev DO := Sl → Hh → (Option Int → Hh → Prop) → Prop
noncomputable def dNoPart : DO := fun _ h Q => Q none h
noncomputable def dPart (f : DE) : DO := fun δ h Q => f δ h fun d h1 => match d with | .int i => Q (some i) h1 | _ => False
inductive LO (K : PySem.W.Frag) (f : DO) (σ : St) (H : Hp) (Q : Option Int → Hp → Prop) : Prop
  | mk (π : List Addr) (α : List Addr) (δ : Sl) (h : Hh) (Q' : Option Int → Hh → Prop) : HRel ⟨K, π⟩ α H h → RelS ⟨K, π⟩ α H δ σ → f δ h Q' → (∀ i h' α' H', Q' i h' → Ext α H α' H' → HRel ⟨K, π⟩ α' H' h' → Q i H') → LO K f σ H Q
noncomputable def SO (X : Cx) (e : Option Expr) (f : DO) : Prop := PO X e (LO X.K f)
section
variable {X : Cx} {e : Expr} {fe : DE} {lo hi : Option Expr} {fl fh : DO} {pos p2 : Pos}
theorem PO.imp {o : Option Expr} {t t' : TO} (h : PO X o t) (k : ∀ σ H Q, t' σ H Q → t σ H Q) : PO X o t' := fun pins s σ H Q I q => h pins s σ H Q I (k σ H Q q)
theorem so_none : SO X none dNoPart := PO.imp po_none fun σ H Q ⟨π, α, δ, h, Q', R, S, f, k⟩ => k none h α H f (Ext.refl ..) R
theorem so_some (h : SE X e fe) : SO X (some e) (dPart fe) := PO.imp (po_some h) fun σ H Q ⟨π, α, δ, h, Q', R, S, f, k⟩ => by
  refine ⟨π, α, δ, h, _, R, S, f, fun d h1 α1 H1 v1 f1 e1 R1 q1 => ?_⟩
  cases q1 with
  | int i => exact ⟨i, rfl, k (some i) h1 α1 H1 f1 e1 R1⟩
  | _ => exact f1.elim
noncomputable def rSlD (K : PySem.W.Frag) : V → Option Int → Option Int → Hp → VK → Prop := fun x lo hi H Q => ∃ a xs, x = .ref a ∧ SqT K H a xs ∧ (cutV xs lo hi = xs → Q (.ref a) H) ∧ ∀ p, H p = none → Q (.ref p) (upd H p (.tup (cutV xs lo hi)))
theorem sl_tupD : SlR X (rSlD X.K) := by
  intro pins s σ H x v vl vu lo hi sl Q I rx hs pl pu h
  obtain ⟨a, xs, rfl, hx, q1, q2⟩ := h
  by_cases hw : HT.sIx xs.length 0 lo = 0 ∧ HT.sIx xs.length xs.length hi = xs.length
  · cases rx
    obtain ⟨its, r, ht, hz⟩ := I.tuple hx
    have hlen : its.toArray.size = xs.length := by rw [List.size_toArray]; exact r.length.symm
    refine ⟨"tuple", _, PyProof.Rows.slot_tuple_getitem.lookup, ht.typeIs, ?_⟩
    have ec : cutV xs lo hi = xs := by
      unfold cutV
      rw [hw.1, hw.2, List.drop_zero, Nat.sub_zero, List.take_length]
    exact HT.getItem_tuple_all ht hs pl pu (by rw [hlen]; exact hw) ⟨.ref a, H, I, rfl, q1 ec⟩
  · exact sl_tup pins s σ H (.ref a) v vl vu lo hi sl Q I rx hs pl pu ⟨a, xs, rfl, hx, hw, fun p hp => q2 p hp⟩
noncomputable def dSlL (fe : DE) (fl fh : DO) : DN := fun δ h Q => fe δ h fun d h1 => fl δ h1 fun l h2 => fh δ h2 fun u h3 => match lsOf h3 d with | some xs => Q (cutD xs l u) h3 | none => False
end
end DL
namespace DL
open PySem PySem.Spec L2
noncomputable def dName (i : Nat) : DG := fun d δ h Q => Q (δ.set i (some d)) h
noncomputable def dGNil : DGs := fun ds δ h Q => match ds with | [] => Q δ h | _ => False
noncomputable def dGCons (t : DG) (u : DGs) : DGs := fun ds δ h Q => match ds with | d :: r => t d δ h fun δ' h' => u r δ' h' Q | [] => False
noncomputable def dUnp (n : Nat) (t : DGs) : DG := fun d δ h Q => match d with | .tup xs => xs.length = n ∧ t xs δ h Q | _ => False
section
variable {X : Cx} {pos : Pos}
theorem sg_name {i : Nat} {x : Str} (hN : X.N.Nodup) (hi : X.N[i]? = some x) (hx : Loc X.env.scope x) (hf : X.fn x = true ∨ X.env.scope.names.lookup x = some .local := by trivial) : SG X (.Name x pos) (dName i) := PG.imp (pg_name hN hi hx hf) fun v σ H Q ⟨π, α, δ, h, d, Q', R, S, r, f, k⟩ =>
  k _ h α H _ f (Ext.refl ..) R (S.set i r)
theorem sgs_nil : SGs X [] dGNil := PGs.imp pgs_nil fun vs σ H Q ⟨π, α, δ, h, ds, Q', R, S, r, f, k⟩ => by
  cases r with
  | nil => exact ⟨rfl, k δ h α H σ f (Ext.refl ..) R S⟩
  | cons _ _ => exact f.elim
theorem sgs_cons {e : Expr} {es : List Expr} {t : DG} {u : DGs} (h1 : SG X e t) (h2 : SGs X es u) (hs : (assignEach (e :: es) X.env).map (·.2) = assign e X.env :: (assignEach es X.env).map (·.2) := by rfl) : SGs X (e :: es) (dGCons t u) := PGs.imp (pgs_cons h1 h2 hs) fun vs σ H Q ⟨π, α, δ, h, ds, Q', R, S, r, f, k⟩ => by
  cases r with
  | nil => exact f.elim
  | @cons d v ds us rd rs =>
    refine ⟨v, us, rfl, π, α, δ, h, d, _, R, S, rd, f, fun δ1 h1 α1 H1 σ1 f1 e1 R1 S1 => ?_⟩
    exact ⟨π, α1, δ1, h1, ds, Q', R1, S1, rs.mono e1, f1, fun δ' h' α' H' σ' a b c d' => k δ' h' α' H' σ' a (e1.trans b) c d'⟩
theorem sg_tup {es : List Expr} {j : Nat} {t : DGs} {n : Nat} (hc : X.calm = true) (h : SGs X es t) (hn : (assignEach es X.env).length = n := by rfl) (hst : (assignEach es X.env).findIdx? (·.1) = none := by rfl) : SG X (.Tuple es j pos) (dUnp n t) := PG.imp (pg_tup hc h hn hst) fun v σ H Q ⟨π, α, δ, h, d, Q', R, S, r, f, k⟩ => by
  cases r with
  | @tup a us ds t rs => exact ⟨a, us, rfl, t.sq, by rw [← rs.length]; exact f.1, π, α, δ, h, ds, Q', R, S, rs, f.2, k⟩
  | _ => exact f.elim
noncomputable def setD (o i v : D) (h : Hh) (Q : Hh → Prop) : Prop := match o, i with
  | .ref j, .int k => match h[j]? with
    | some (.lst xs) => match ixN xs.length k with
      | some m => Q (h.set j (.lst (xs.set m v)))
      | none => False
    | _ => False
  | _, _ => False
noncomputable def dSubL (fo fi : DE) : DG := fun v δ h Q => fo δ h fun o h1 => fi δ h1 fun i h2 => setD o i v h2 fun h3 => Q δ h3
theorem set_lift {K : PySem.W.Frag} {π α : List Addr} {H : Hp} {h : Hh} {o i v : D} {ov iv vv : V} {Q' : Hh → Prop} {Q : Hp → Prop} (R : HRel ⟨K, π⟩ α H h) (ro : RelD ⟨K, π⟩ α H o ov) (ri : RelD ⟨K, π⟩ α H i iv) (rv : RelD ⟨K, π⟩ α H v vv) (f : setD o i v h Q')
    (k : ∀ h' H', Q' h' → Ext α H α H' → HRel ⟨K, π⟩ α H' h' → Q H') : rSetL ov iv vv H Q := by
  unfold setD at f
  cases ro with
  | @ref j a hp =>
    cases ri with
    | int n =>
      dsimp only at f
      cases w : h[j]? with
      | none => rw [w] at f; exact f.elim
      | some ob =>
        rw [w] at f
        cases ob with
        | lst xs =>
          dsimp only at f
          obtain ⟨p, us, e1, e2, e3⟩ := R.lst w
          rw [hp] at e1; cases e1
          cases q : ixN xs.length n with
          | none => rw [q] at f; exact f.elim
          | some m =>
            rw [q] at f
            have e4 : Ext α H α (upd H a (.lst (us.set m vv))) := Ext.write (List.mem_of_getElem? hp)
            refine ⟨a, us, n, m, rfl, rfl, e2, by rw [← e3.length]; exact q, k _ _ f e4 (R.write hp (.lst upd_same ((RelDs.set rv m e3).mono e4)))⟩
        | _ => exact f.elim
    | _ => exact f.elim
  | _ => exact f.elim
theorem sg_subL {o i : Expr} {fo fi : DE} (ho : SE X o fo) (hi : SE X i fi)
    (ha : ∀ v, assign (.Subscript o i pos) X.env v = (do
      let ov ← holding [v] (eval o X.env)
      let iv ← holding [v, ov] (eval i X.env)
      standAt pos
      holding [v, ov, iv] (setItem ov iv v)
      release [v, ov, iv] []) := by intro _; rfl) : SG X (.Subscript o i pos) (dSubL fo fi) := PG.imp (pg_sub ho hi set_list ha) fun v σ H Q ⟨π, α, δ, h, d, Q', R, S, r, f, k⟩ => by
  refine ⟨π, α, δ, h, _, R, S, f, fun o h1 α1 H1 v1 f1 e1 R1 q1 => ?_⟩
  refine ⟨π, α1, δ, h1, _, R1, S.mono e1, f1, fun i h2 α2 H2 v2 f2 e2 R2 q2 => ?_⟩
  exact set_lift R2 (q1.mono e2) q2 (r.mono (e1.trans e2)) f2 fun h3 H3 f3 e3 R3 => k δ h3 α2 H3 σ f3 (e1.trans (e2.trans e3)) R3 (S.mono (e1.trans (e2.trans e3)))
end
noncomputable def dNext : DS := fun E δ h => E.nx δ h
noncomputable def dSeq (f g : DS) : DS := fun E δ h => f { E with nx := g E } δ h
noncomputable def dNever : DS := fun _ _ _ => False
noncomputable def dBreak : DS := fun E δ h => E.bk δ h
noncomputable def dCont : DS := fun E δ h => E.ct δ h
noncomputable def dDrop (f : DE) : DS := fun E δ h => f δ h fun _ h1 => E.nx δ h1
noncomputable def dRet (f : DE) : DS := fun E δ h => f δ h E.rt
noncomputable def dRetN : DS := fun E _ h => E.rt .non h
noncomputable def dIfS (t : DT) (f g : DS) : DS := fun E δ h => t δ h fun c h1 => if c = true then f E δ h1 else g E δ h1
noncomputable def dAsg (f : DE) (g : DG) : DS := fun E δ h => f δ h fun x h1 => g x δ h1 E.nx
noncomputable def dAug (i : Nat) (f : DE) (p : P2) : DS := fun E δ h => match δ[i]? with | some (some x) => f δ h fun y h1 => p x y h1 fun z h2 => E.nx (δ.set i (some z)) h2 | _ => False
section
variable {X : Cx} {s : Stmt} {ss : List Stmt} {f g : DS} {e : Expr} {fe : DE} {pos : Pos}
theorem seq_lift {K : PySem.W.Frag} {Ex : XK} {F : Ends} {σ : L2.St} {H : Hp} (w : LS K Ex (dSeq f g) F σ H) : tSeq (LS K Ex f) (LS K Ex g) F σ H := by
  obtain ⟨π, α, δ, h, E, R, S, q, k⟩ := w
  exact ⟨π, α, δ, h, { E with nx := g E }, R, S, q, ⟨fun δ' h' α' H' σ' a b c d => ⟨π, α', δ', h', E, c, d, a, k.mono b⟩, k.rt, k.bk, k.ct, k.ex⟩⟩
theorem ss_nil : SSs X [] dNext := PSs.imp pss_nil fun F σ H ⟨π, α, δ, h, E, R, S, q, k⟩ => k.nx δ h α H σ q (Ext.refl ..) R S
theorem ss_one (h : SS X s f) : SSs X [s] f := pss_one h
theorem ss_cons (h1 : SS X s f) (h2 : SSs X ss g) : SSs X (s :: ss) (dSeq f g) := PSs.imp (pss_cons h1 h2) fun _ _ _ w => seq_lift w
theorem s_expr (he : SE X e fe) (hs : swapsWith e none pos.line X.env = pure false := by rfl) : SS X (.Expr e pos) (dDrop fe) := PS.imp (ps_expr he hs) fun F σ H ⟨π, α, δ, h, E, R, S, q, k⟩ =>
  ⟨π, α, δ, h, _, R, S, q, fun d h1 α1 H1 v1 f1 e1 R1 q1 => k.nx δ h1 α1 H1 σ f1 e1 R1 (S.mono e1)⟩
theorem s_ret (he : SE X e fe) : SS X (.Return (some e) pos) (dRet fe) := PS.imp (ps_ret he) fun F σ H ⟨π, α, δ, h, E, R, S, q, k⟩ => ⟨π, α, δ, h, _, R, S, q, fun d h1 α1 H1 v1 f1 e1 R1 q1 => k.rt d h1 α1 H1 v1 f1 e1 R1 q1⟩
theorem s_if {c : Expr} {a b : List Stmt} {t : DT} (hc : ST X c t) (ha : SSs X a f) (hb : SSs X b g) : SS X (.If c a b pos) (dIfS t f g) := PS.imp (ps_if hc ha hb) fun F σ H ⟨π, α, δ, h, E, R, S, q, k⟩ => by
  refine ⟨π, α, δ, h, _, R, S, q, fun c h1 α1 H1 f1 e1 R1 => ?_⟩
  cases c with
  | true => exact iteT ⟨π, α1, δ, h1, E, R1, S.mono e1, by simpa using f1, k.mono e1⟩
  | false => exact iteF ⟨π, α1, δ, h1, E, R1, S.mono e1, by simpa using f1, k.mono e1⟩
theorem asg_lift {K : PySem.W.Frag} {Ex : XK} {tg : DG} {F : Ends} {σ : L2.St} {H : Hp} (w : LS K Ex (dAsg fe tg) F σ H) : tAsg (LE K fe) (LG K tg) F σ H := by
  obtain ⟨π, α, δ, h, E, R, S, q, k⟩ := w
  refine ⟨π, α, δ, h, _, R, S, q, fun d h1 α1 H1 v1 f1 e1 R1 q1 => ?_⟩
  exact ⟨π, α1, δ, h1, d, E.nx, R1, S.mono e1, q1, f1, fun δ' h' α' H' σ' a b c d' => k.nx δ' h' α' H' σ' a (e1.trans b) c d'⟩
theorem s_asg {tg : Expr} {t : DG} (he : SE X e fe) (hg : SG X tg t) (hs : swapsWithSole [tg] e pos.line X.env = pure false := by rfl) (hw : swappedStores [tg] e X.env = pure none := by rfl)
    (h1 : (assignEach [tg] X.env).map (·.2) = [assign tg X.env] := by rfl) : SS X (.Assign [tg] e pos) (dAsg fe t) := PS.imp (ps_asg he hg hs hw h1) fun _ _ _ w => asg_lift w
theorem asgN_lift {K : PySem.W.Frag} {Ex : XK} {i : Nat} {F : Ends} {σ : L2.St} {H : Hp} (w : LS K Ex (dAsg fe (dName i)) F σ H) : tAsg (LE K fe) (gName i) F σ H := by
  obtain ⟨π, α, δ, h, E, R, S, q, k⟩ := w
  exact ⟨π, α, δ, h, _, R, S, q, fun d h1 α1 H1 v1 f1 e1 R1 q1 => k.nx _ h1 α1 H1 _ f1 e1 R1 ((S.mono e1).set i q1)⟩
theorem s_set {i : Nat} {x : Str} {pos' : Pos} (hN : X.N.Nodup) (hi : X.N[i]? = some x) (hx : Loc X.env.scope x) (he : SE X e fe) (hs : swapsWith e (some (.Name x pos')) pos.line X.env = pure false := by rfl) (hf : X.fn x = true ∨ X.env.scope.names.lookup x = some .local := by trivial) :
    SS X (.Assign [.Name x pos'] e pos) (dAsg fe (dName i)) := PS.imp (ps_set hN hi hx he hs hf) fun _ _ _ w => asgN_lift w
theorem s_aug {i : Nat} {x : Str} {op : Operator} {p : P2} {pos' : Pos} (hN : X.N.Nodup) (hi : X.N[i]? = some x) (hx : Loc X.env.scope x) (he : SE X e fe) (ho : OpR X (inplaceOp op) (r2 X.K p)) (hf : X.fn x = true ∨ X.env.scope.names.lookup x = some .local := by trivial) :
    SS X (.AugAssign (.Name x pos') op e pos) (dAug i fe p) := PS.imp (ps_aug hN hi hx he ho hf) fun F σ H ⟨π, α, δ, h, E, R, S, q, k⟩ => by
  unfold dAug at q
  split at q
  · rename_i d w
    obtain ⟨v, h1, h2⟩ := S.get i d w
    refine ⟨v, h1, π, α, δ, h, _, R, S, q, fun y h1 α1 H1 v1 f1 e1 R1 q1 => ?_⟩
    exact ⟨π, α1, h1, d, y, _, R1, h2.mono e1, q1, f1, fun z h2 α2 H2 v2 f2 e2 R2 q2 => k.nx _ h2 α2 H2 _ f2 (e1.trans e2) R2 ((S.mono (e1.trans e2)).set i q2)⟩
  · exact q.elim
noncomputable def dAugS (fo fi fe : DE) (p : P2) : DS := fun E δ h => fo δ h fun o h1 => fi δ h1 fun i h2 => match o, i with
  | .ref j, .int n => 0 ≤ n ∧ match h2[j]? with
    | some (.lst xs) => match xs[n.toNat]? with
      | some x => fe δ h2 fun y h3 => p x y h3 fun z h4 => setD o i z h4 fun h5 => E.nx δ h5
      | none => False
    | _ => False
  | _, _ => False
end
noncomputable def whN (t : DT) (b : DS) (E : DEnds) : Nat → Sl → Hh → Prop
  | 0, _, _ => False
  | n + 1, δ, h => t δ h fun c h1 => if c = true then b { E with nx := whN t b E n, ct := whN t b E n, bk := E.nx } δ h1 else E.nx δ h1
noncomputable def dWhile (t : DT) (b : DS) : DS := fun E δ h => ∃ n, whN t b E n δ h
theorem s_while {X : Cx} {c : Expr} {body : List Stmt} {t : DT} {b : DS} {pos : Pos} (hp : PassesOwn (model X.prog X.w) X.A X.env X.xe) (hc : ST X c t) (hb : SSs X body b) : SS X (.While c body [] pos) (dWhile t b) := PS.imp (ps_while hp hc hb) fun F σ H ⟨π, α, δ, h, E, R, S, q, k⟩ => by
  obtain ⟨n, q⟩ := q
  refine ⟨fun m σ' H' => ∃ α' δ' h', Ext α H α' H' ∧ HRel ⟨X.K, π⟩ α' H' h' ∧ RelS ⟨X.K, π⟩ α' H' δ' σ' ∧ whN t b E m δ' h', ⟨n, α, δ, h, Ext.refl .., R, S, q⟩, ?_⟩
  rintro m σ' H' ⟨α', δ', h', e', R', S', q'⟩
  cases m with
  | zero => exact q'.elim
  | succ m =>
    refine ⟨π, α', δ', h', _, R', S', q', fun c h1 α1 H1 f1 e1 R1 => ?_⟩
    cases c with
    | false => exact iteF (k.nx δ' h1 α1 H1 σ' (by simpa using f1) (e'.trans e1) R1 (S'.mono e1))
    | true =>
      refine iteT ⟨fun σ2 H2 => ∃ α2 δ2 h2, Ext α H α2 H2 ∧ HRel ⟨X.K, π⟩ α2 H2 h2 ∧ RelS ⟨X.K, π⟩ α2 H2 δ2 σ2 ∧ whN t b E m δ2 h2, fun σ2 H2 z => ⟨m, Nat.lt_succ_self m, z⟩, ?_⟩
      have f1 : b { E with nx := whN t b E m, ct := whN t b E m, bk := E.nx } δ' h1 := by simpa using f1
      have k1 := k.mono (e'.trans e1)
      exact ⟨π, α1, δ', h1, _, R1, S'.mono e1, f1, ⟨fun δ2 h2 α2 H2 σ2 a b c d => ⟨α2, δ2, h2, e'.trans (e1.trans b), c, d, a⟩, k1.rt, k1.nx, fun δ2 h2 α2 H2 σ2 a b c d => ⟨α2, δ2, h2, e'.trans (e1.trans b), c, d, a⟩, k1.ex⟩⟩
structure Src where
  items : List D
  w : List (Nat × O)
noncomputable def Src.ok (S : Src) (h : Hh) : Prop := ∀ p ∈ S.w, h[p.1]? = some p.2
theorem Src.ok_nil {xs : List D} {h : Hh} : (Src.mk xs []).ok h := fun p hp => nomatch hp
noncomputable abbrev DI := Sl → Hh → (Src → Hh → Prop) → Prop
structure ItOk (K : KP) (J : It) (S : Src) (St : List Addr → Hp → Prop) : Prop where
  keep : ∀ α H α' H', St α H → Ext α H α' H' → St α' H'
  priv : ∀ α H H' D, St α H → Priv D H H' → D ∈ K.π → St α H'
  item : ∀ α H h i d, HRel K α H h → St α H → S.ok h → S.items[i]? = some d → J.go i H ∧ ∀ x H', J.yld i H x H' → Ext α H α H' ∧ HRel K α H' h ∧ RelD K α H' d x
  stop : ∀ α H h, HRel K α H h → St α H → S.ok h → J.stop S.items.length H
noncomputable def ItA (K : PySem.W.Frag) (π : List Addr) (α : List Addr) (H : Hp) (J : It) (S : Src) : Prop := ∀ π', (∀ p ∈ π', p ∈ π ∨ H p = none) → ∃ St, ItOk ⟨K, π'⟩ J S St ∧ St α H
inductive LI (K : PySem.W.Frag) (f : DI) (σ : St) (H : Hp) (R : It → Hp → Prop) : Prop
  | mk (π : List Addr) (α : List Addr) (δ : Sl) (h : Hh) (Q' : Src → Hh → Prop) : HRel ⟨K, π⟩ α H h → RelS ⟨K, π⟩ α H δ σ → f δ h Q' → (∀ S h' α' H' J, Q' S h' → Ext α H α' H' → HRel ⟨K, π⟩ α' H' h' → ItA K π α' H' J S → S.ok h' → R J H') → LI K f σ H R
noncomputable def SI (X : Cx) (tg iter : Expr) (f : DI) : Prop := PI X tg iter (LI X.K f)
noncomputable def forL (S : Src) (t : DG) (b : DS) (E : DEnds) : List D → Sl → Hh → Prop
  | [], δ, h => S.ok h ∧ E.nx δ h
  | x :: r, δ, h => S.ok h ∧ t x δ h fun δ2 h2 => b { E with nx := forL S t b E r, ct := forL S t b E r, bk := E.nx } δ2 h2
noncomputable def dFor (s : DI) (t : DG) (b : DS) : DS := fun E δ h => s δ h fun S h1 => forL S t b E S.items δ h1
theorem s_for {X : Cx} {tg iter : Expr} {body : List Stmt} {s : DI} {t : DG} {b : DS} {pos : Pos} (hp : PassesOwn (model X.prog X.w) X.A X.env X.xe) (hc : X.calm = true) (hi : SI X tg iter s) (hg : SG X tg t) (hb : SSs X body b)
    (hs : ∀ x, foldedSetIterable iter X.env x = pure x := by intro _; rfl) : SS X (.For tg iter body [] pos) (dFor s t b) := PS.imp (ps_for hp hc hi hg hb hs) fun F σ H ⟨π, α, δ, h, E, R, S, q, k⟩ => by
  refine ⟨π, α, δ, h, _, R, S, q, fun Sr h1 α1 H1 J f1 e1 R1 ia ok1 => ?_⟩
  obtain ⟨St, io, st1⟩ := ia π (fun p z => .inl z)
  refine ⟨fun i m σ' H' => m = Sr.items.length - i ∧ i ≤ Sr.items.length ∧ ∃ α' δ' h', Ext α H α' H' ∧ HRel ⟨X.K, π⟩ α' H' h' ∧ RelS ⟨X.K, π⟩ α' H' δ' σ' ∧ St α' H' ∧ forL Sr t b E (Sr.items.drop i) δ' h', ⟨_, rfl, Nat.zero_le _, α1, δ, h1, e1, R1, S.mono e1, st1, f1⟩, ?_⟩
  rintro i m σ' H' ⟨rfl, hi, α', δ', h', e', R', S', st', q'⟩
  by_cases hlt : i < Sr.items.length
  · rw [List.drop_eq_getElem_cons hlt] at q'
    obtain ⟨okh, q'⟩ := q'
    obtain ⟨go, yl⟩ := io.item α' H' h' i Sr.items[i] R' st' okh (List.getElem?_eq_getElem hlt)
    refine .inr ⟨go, fun σ2 H2 => ∃ α2 δ2 h2, Ext α H α2 H2 ∧ HRel ⟨X.K, π⟩ α2 H2 h2 ∧ RelS ⟨X.K, π⟩ α2 H2 δ2 σ2 ∧ St α2 H2 ∧ forL Sr t b E (Sr.items.drop (i + 1)) δ2 h2, fun σ2 H2 z => ⟨_, by omega, rfl, hlt, z⟩, fun x H2 y2 => ?_⟩
    obtain ⟨e2, R2, r2⟩ := yl x H2 y2
    refine ⟨π, α', δ', h', Sr.items[i], _, R2, S'.mono e2, r2, q', fun δ3 h3 α3 H3 σ3 f3 e3 R3 S3 => ?_⟩
    have e4 := e'.trans (e2.trans e3)
    have k3 := k.mono e4
    have st3 := io.keep _ _ _ _ st' (e2.trans e3)
    exact ⟨π, α3, δ3, h3, _, R3, S3, f3, ⟨fun δ5 h5 α5 H5 σ5 a b c d => ⟨α5, δ5, h5, e4.trans b, c, d, io.keep _ _ _ _ st3 b, a⟩, k3.rt, k3.nx, fun δ5 h5 α5 H5 σ5 a b c d => ⟨α5, δ5, h5, e4.trans b, c, d, io.keep _ _ _ _ st3 b, a⟩, k3.ex⟩⟩
  · have ei : i = Sr.items.length := by omega
    subst ei
    rw [List.drop_length] at q'
    exact .inl ⟨io.stop α' H' h' R' st' q'.1, k.nx δ' h' α' H' σ' q'.2 e' R' S'⟩
noncomputable def compSl (js : List (Option Nat)) (δ : Sl) : Sl := js.map fun j => match j with
  | some j => (δ[j]?).getD none
  | none => none
noncomputable def compL (S : Src) (t : DG) (tf : DT) (te : DE) : List D → List D → Sl → Hh → (List D → Hh → Prop) → Prop
  | [], acc, _, h, Q => S.ok h ∧ Q acc h
  | x :: r, acc, δ, h, Q => S.ok h ∧ t x δ h fun δ2 h2 => tf δ2 h2 fun b h3 => if b = true then te δ2 h3 fun y h4 => compL S t tf te r (acc ++ [y]) δ2 h4 Q else compL S t tf te r acc δ2 h3 Q
noncomputable def dComp (js : List (Option Nat)) (s : DI) (t : DG) (tf : DT) (te : DE) : DN := fun δ h Q => s δ h fun S h1 => S.items.length ≤ 16777216 ∧ compL S t tf te S.items [] (compSl js δ) h1 Q
theorem compS_rel {K : KP} {α : List Addr} {H : Hp} {δ : Sl} {σ : L2.St} (S : RelS K α H δ σ) (js : List (Option Nat)) : RelS K α H (compSl js δ) (compSt js σ) := by
  refine ⟨by unfold compSl compSt; simp, fun i d e => ?_⟩
  unfold compSl at e
  rw [List.getElem?_map] at e
  unfold compSt
  rw [List.getElem?_map]
  cases q : js[i]? with
  | none => rw [q] at e; cases e
  | some j =>
    rw [q] at e
    cases j with
    | none => cases e
    | some j =>
      have e : (δ[j]?).getD none = some d := Option.some.inj e
      cases w : δ[j]? with
      | none => rw [w] at e; cases e
      | some z =>
        rw [w] at e
        have e : z = some d := e
        subst e
        obtain ⟨v, h1, h2⟩ := S.get j d w
        exact ⟨v, by show some ((σ[j]?).getD none) = _; rw [h1]; rfl, h2⟩
theorem comp_lift {K : PySem.W.Frag} {js : List (Option Nat)} {s : DI} {t : DG} {tf : DT} {te : DE} {σ : L2.St} {H : Hp} {Q : VK} (w : LN K (dComp js s t tf te) σ H Q) :
    tComp js (LI K s) (fun _ _ _ => LG K t) (fun _ _ _ => LT K tf) (fun _ _ _ => LE K te) σ H Q := by
  obtain ⟨π, α, δ, h, Q', R, S, q, k⟩ := w
  refine ⟨π, α, δ, h, _, R, S, q, fun Sr h1 α1 H1 J f1 e1 R1 ia ok1 => fun Da hD s0 H0 fp => ?_⟩
  obtain ⟨hlen, f1⟩ := f1
  have sub : ∀ p ∈ Da :: π, p ∈ π ∨ H1 p = none := fun p hp => by
    rcases List.mem_cons.mp hp with rfl | z
    · exact .inr hD
    · exact .inl z
  obtain ⟨St, io, st1⟩ := ia (Da :: π) sub
  have eN : Ext α1 H1 α1 (upd H1 Da (.lst [])) := Ext.new hD
  have hin : Da ∈ (KP.mk K (Da :: π)).π := List.mem_cons_self
  refine ⟨fun i m σ' H' => m = Sr.items.length - i ∧ i ≤ Sr.items.length ∧ ∃ α' δ' h' acc us, Ext α1 H1 α' H' ∧ HRel ⟨K, Da :: π⟩ α' H' h' ∧ RelS ⟨K, Da :: π⟩ α' H' δ' σ' ∧ St α' H' ∧ H' Da = some (.lst us) ∧ RelDs ⟨K, Da :: π⟩ α' H' acc us ∧ acc.length ≤ i ∧
      compL Sr t tf te (Sr.items.drop i) acc δ' h' Q', ⟨_, rfl, Nat.zero_le _, α1, compSl js δ, h1, [], [], eN, R1.under hD, (compS_rel ((S.mono e1).more sub) js).mono eN, io.keep _ _ _ _ st1 eN, upd_same, .nil, Nat.le_refl _, f1⟩, ?_⟩
  rintro i m σ' H' ⟨rfl, hi, α', δ', h', acc, us, e', R', S', st', hus, ra, la, q'⟩
  have nD : Da ∉ α' := (R'.dis Da hin).1
  by_cases hlt : i < Sr.items.length
  · rw [List.drop_eq_getElem_cons hlt] at q'
    obtain ⟨okh, q'⟩ := q'
    obtain ⟨go, yl⟩ := io.item α' H' h' i Sr.items[i] R' st' okh (List.getElem?_eq_getElem hlt)
    refine .inr ⟨go, fun x H2 y2 => ?_⟩
    obtain ⟨e2, R2, r2⟩ := yl x H2 y2
    refine ⟨Da :: π, α', δ', h', Sr.items[i], _, R2, S'.mono e2, r2, q', fun δ3 h3 α3 H3 σ3 f3 e3 R3 S3 => ?_⟩
    refine ⟨Da :: π, α3, δ3, h3, _, R3, S3, f3, fun b h4 α4 H4 f4 e4 R4 => ?_⟩
    have e24 := e2.trans (e3.trans e4)
    cases b with
    | false =>
      refine iteF ⟨_, by omega, rfl, hlt, α4, δ3, h4, acc, us, e'.trans e24, R4, S3.mono e4, io.keep _ _ _ _ st' e24, e24.keep _ _ hus nD, ra.mono e24, by omega, by simpa using f4⟩
    | true =>
      have f4 : te δ3 h4 fun y h5 => compL Sr t tf te (Sr.items.drop (i + 1)) (acc ++ [y]) δ3 h5 Q' := by simpa using f4
      refine iteT ⟨Da :: π, α4, δ3, h4, _, R4, S3.mono e4, f4, fun y h5 α5 H5 v5 f5 e5 R5 q5 => ?_⟩
      have e25 := e24.trans e5
      have h5D : H5 Da = some (.lst us) := e25.keep _ _ hus nD
      have pv : Priv Da H5 (upd H5 Da (.lst (us ++ [v5]))) := ⟨fun b hb => upd_ne hb⟩
      have ra5 := ra.mono e25
      refine ⟨us, h5D, by rw [← ra5.length, sizeLine_eq]; omega, _, by omega, rfl, hlt, α5, δ3, h5, acc ++ [y], us ++ [v5], (e'.trans e25).grow hD, R5.priv pv hin (by rw [upd_same]; exact fun z => nomatch z), (S3.mono (e4.trans e5)).priv pv hin, io.priv _ _ _ _ (io.keep _ _ _ _ st' e25) pv hin, upd_same, (ra5.snoc q5).priv pv hin, by rw [List.length_append, List.length_singleton]; omega, f5⟩
  · have ei : i = Sr.items.length := by omega
    subst ei
    rw [List.drop_length] at q'
    exact .inl ⟨io.stop α' H' h' R' st' q'.1, k _ h' α' H' us Da q'.2 (e1.trans e') R' ra hus (e1.dom Da hD) (R1.outP hD)⟩
noncomputable def dNoIf : DT := fun _ h Q => Q true h
section
variable {X : Cx} {pins : List (Addr × Obj)} {σ : L2.St} {H : Hp} {s : Shared} {N' : List Str} {js : List (Option Nat)} {scope : Scope}
noncomputable def SF (X : Cx) (es : List Expr) (t : DT) : Prop := PF X es (LT X.K t)
theorem PF.imp {es : List Expr} {t t' : TT} (h : PF X es t) (k : ∀ σ H Q, t' σ H Q → t σ H Q) : PF X es t' := fun pins s σ H Q I q => h pins s σ H Q I (k σ H Q q)
theorem sf_nil : SF X [] dNoIf := PF.imp pf_nil fun σ H Q ⟨π, α, δ, h, Q', R, S, f, k⟩ => k true h α H f (Ext.refl ..) R
theorem sf_one {c : Expr} {t : DT} (h : ST X c t) : SF X [c] t := pf_one h
variable {tg iter elt : Expr} {ifs : List Expr} {pos : Pos} {sr : DI} {g : DG} {tf : DT} {te : DE}
theorem sn_comp (hc : X.calm = true) (C : CompOk X N' js scope) (hi : SI X tg iter sr)
    (body : ∀ (s0 : Shared) (H0 : Hp) (fp : List Addr), SG (cxComp X N' scope s0 H0 fp) tg g ∧ SF (cxComp X N' scope s0 H0 fp) ifs tf ∧ SE (cxComp X N' scope s0 H0 fp) elt te)
    (hs : ∀ x, foldedSetIterable iter X.env x = pure x := by intro _; rfl) : SN X (.ListComp elt [⟨tg, iter, ifs, 0⟩] scope pos) (dComp js sr g tf te) :=
  PE.imp (pe_comp hc C hi (g := fun _ _ _ => LG X.K g) (tf := fun _ _ _ => LT X.K tf) (te := fun _ _ _ => LE X.K te) body hs) fun _ _ _ w => comp_lift w
theorem s_setcV {i : Nat} {x : Str} {px cpos : Pos} (hc : X.calm = true) (C : CompOk X N' js scope) (hi : SI X tg iter sr)
    (body : ∀ (s0 : Shared) (H0 : Hp) (fp : List Addr), SG (cxComp X N' scope s0 H0 fp) tg g ∧ SF (cxComp X N' scope s0 H0 fp) ifs tf ∧ SE (cxComp X N' scope s0 H0 fp) elt te)
    (hN : X.N.Nodup) (hix : X.N[i]? = some x) (hx : Loc X.env.scope x)
    (hsw : swapsWith (.ListComp elt [⟨tg, iter, ifs, 0⟩] scope cpos) (some (.Name x px)) pos.line X.env = pure true := by rfl) (hf : X.fn x = true ∨ X.env.scope.names.lookup x = some .local := by trivial)
    (hs : ∀ x, foldedSetIterable iter X.env x = pure x := by intro _; rfl) : SS X (.Assign [.Name x px] (.ListComp elt [⟨tg, iter, ifs, 0⟩] scope cpos) pos) (dAsg (dV (dComp js sr g tf te)) (dName i)) :=
  PS.imp (ps_setc hc C hi (g := fun _ _ _ => LG X.K g) (tf := fun _ _ _ => LT X.K tf) (te := fun _ _ _ => LE X.K te) body hN hix hx hsw hf hs) fun F σ H w => by
    obtain ⟨π, α, δ, h, E, R, S, q, k⟩ := w
    exact comp_lift (Q := fun x H1 => gName i x σ H1 F.nx) ⟨π, α, δ, h, _, R, S, q, fun ds h1 α1 H1 us p f1 e1 R1 q1 hus hp np => k.nx _ h1 α1 H1 _ f1 e1 R1.less (((S.mono e1)).set i (.lst ⟨(R1.dis p List.mem_cons_self).1, np, hus⟩ (q1.more fun q hq => .inl (List.mem_cons_of_mem _ hq))))⟩
end
end DL
namespace DL
open PySem PySem.Spec L2
mutual
inductive IsP (h : Hh) : D → PyData → Prop
  | non : IsP h .non .none
  | bl (b : Bool) : IsP h (.bl b) (.bool b)
  | int (i : Int) : IsP h (.int i) (.int i)
  | str (x : Str) : IsP h (.str x) (.str x)
  | tup {ds : List D} {ps : List PyData} : IsPs h ds ps → IsP h (.tup ds) (.tuple ps)
  | lst {ds : List D} {ps : List PyData} : IsPs h ds ps → IsP h (.lst ds) (.list ps)
  | ref {i : Nat} {ds : List D} {ps : List PyData} : h[i]? = some (.lst ds) → IsPs h ds ps → IsP h (.ref i) (.list ps)
inductive IsPs (h : Hh) : List D → List PyData → Prop
  | nil : IsPs h [] []
  | cons {d : D} {p : PyData} {ds : List D} {ps : List PyData} : IsP h d p → IsPs h ds ps → IsPs h (d :: ds) (p :: ps)
end
section
variable {X : Cx} {pins : List (Addr × Obj)} {σ : L2.St} {H : Hp} {s : Shared} {π α : List Addr} {h : Hh}
theorem IsP.reads (I : Inv X pins σ H s) (R : HRel ⟨X.K, π⟩ α H h) {d : D} {p : PyData} (e : IsP h d p) : ∀ {v : V} {u : Value}, RelD ⟨X.K, π⟩ α H d v → RelV v u → ∃ as, Reads s.heap u p as := by
  refine IsP.rec (motive_1 := fun d p _ => ∀ {v : V} {u : Value}, RelD ⟨X.K, π⟩ α H d v → RelV v u → ∃ as, Reads s.heap u p as) (motive_2 := fun ds ps _ => ∀ {vs : List V} {us : List Value}, RelDs ⟨X.K, π⟩ α H ds vs → Vals vs us → ∃ as, ReadsAll s.heap us ps as) ?_ ?_ ?_ ?_ ?_ ?_ ?_ ?_ ?_ e
  · intro v u q r; cases q; cases r; exact ⟨_, .none⟩
  · intro b v u q r; cases q; cases r; exact ⟨_, .bool b⟩
  · intro i v u q r; cases q; obtain ⟨t, rfl⟩ := r; exact ⟨_, .int i t⟩
  · intro x v u q r; cases q; obtain ⟨t, rfl⟩ := r; exact ⟨_, .str x t⟩
  · intro ds ps _ ih v u q0 r
    cases q0 with
    | tup t rr =>
      cases r
      obtain ⟨its, rv, ⟨o, q, c, n, d⟩, _⟩ := I.tuple t.sq
      obtain ⟨as, ra⟩ := ih rr rv
      exact ⟨_, .tuple q c d (by simpa using ra)⟩
  · intro ds ps _ ih v u q0 r
    cases q0 with
    | lst t rr =>
      cases r
      obtain ⟨its, rv, ⟨o, n, q, c, _, d⟩, _⟩ := I.list t.sq
      obtain ⟨as, ra⟩ := ih rr rv
      exact ⟨_, .list q c d (by simpa using ra)⟩
  · intro i ds ps hh _ ih v u q0 r
    cases q0 with
    | ref hp =>
      cases r
      obtain ⟨a, us, e1, e2, e3⟩ := R.lst hh
      rw [hp] at e1; cases e1
      obtain ⟨its, rv, ⟨o, n, q, c, _, d⟩, _⟩ := I.list (SqL.of (K := X.K) e2)
      obtain ⟨as, ra⟩ := ih e3 rv
      exact ⟨_, .list q c d (by simpa using ra)⟩
  · intro vs us q r; cases q; cases r; exact ⟨_, .nil⟩
  · intro d ds p ps _ _ ih iht vs us q r
    cases q with
    | cons rr rs =>
      cases r with
      | cons r1 r2 =>
        obtain ⟨as, ra⟩ := ih rr r1
        obtain ⟨bs, rb⟩ := iht rs r2
        exact ⟨_, .cons ra rb⟩
end
noncomputable def eqS : D → D → Option Bool
  | .int i, .int j => some (i == j)
  | .str a, .str b => if PyData.strOk a && PyData.strOk b then some (a == b) else none
  | .bl a, .bl b => some (a == b)
  | .non, .non => some true
  | .int _, .str b => if PyData.strOk b then some false else none
  | .str a, .int _ => if PyData.strOk a then some false else none
  | .non, .int _ => some false
  | .int _, .non => some false
  | .non, .tup _ => none
  | _, _ => none
noncomputable def pEq (neg : Bool) : P2 := fun x y h Q => match eqS x y with
  | some b => Q (.bl (if neg then !b else b)) h
  | none => ∃ a b, IsP h x a ∧ IsP h y b ∧ SeqAt.shaped a = true ∧ SeqAt.shaped b = true ∧ Q (.bl (if neg then !PyData.eqv a b else PyData.eqv a b)) h
theorem eqS_ok {h : Hh} {x y : D} {b : Bool} (e : eqS x y = some b) : ∃ p q, IsP h x p ∧ IsP h y q ∧ SeqAt.shaped p = true ∧ SeqAt.shaped q = true ∧ PyData.eqv p q = b := by
  have si : ∀ i : Int, SeqAt.shaped (.int i) = true := fun i => by simp [SeqAt.shaped, PyData.canLay0, PyData.depth]
  have sn : SeqAt.shaped .none = true := by simp [SeqAt.shaped, PyData.canLay0, PyData.depth]
  have sb : ∀ b : Bool, SeqAt.shaped (.bool b) = true := fun i => by simp [SeqAt.shaped, PyData.canLay0, PyData.depth]
  have ss : ∀ x : Str, PyData.strOk x = true → SeqAt.shaped (.str x) = true := fun x hx => by simp [SeqAt.shaped, PyData.canLay0, PyData.depth, hx]
  unfold eqS at e
  split at e
  · cases e; exact ⟨_, _, .int _, .int _, si _, si _, by simp [PyData.eqv]⟩
  · split at e
    · rename_i hh
      rw [Bool.and_eq_true] at hh
      cases e; exact ⟨_, _, .str _, .str _, ss _ hh.1, ss _ hh.2, by simp [PyData.eqv]⟩
    · cases e
  · cases e; exact ⟨_, _, .bl _, .bl _, sb _, sb _, by simp [PyData.eqv]⟩
  · cases e; exact ⟨_, _, .non, .non, sn, sn, by simp [PyData.eqv]⟩
  · split at e
    · rename_i hh
      cases e; exact ⟨_, _, .int _, .str _, si _, ss _ hh, by simp [PyData.eqv]⟩
    · cases e
  · split at e
    · rename_i hh
      cases e; exact ⟨_, _, .str _, .int _, ss _ hh, si _, by simp [PyData.eqv]⟩
    · cases e
  · cases e; exact ⟨_, _, .non, .int _, sn, si _, by simp [PyData.eqv]⟩
  · cases e; exact ⟨_, _, .int _, .non, si _, sn, by simp [PyData.eqv]⟩
  · cases e
  · cases e
section
variable {X : Cx}
theorem pEq_all {neg : Bool} {x y : D} {h : Hh} {Q : DK} (f : pEq neg x y h Q) : ∃ a b, IsP h x a ∧ IsP h y b ∧ SeqAt.shaped a = true ∧ SeqAt.shaped b = true ∧ Q (.bl (if neg then !PyData.eqv a b else PyData.eqv a b)) h := by
  unfold pEq at f
  cases q : eqS x y with
  | none => rw [q] at f; exact f
  | some b =>
    rw [q] at f
    obtain ⟨p, q, a, b', c, d, e⟩ := eqS_ok (h := h) q
    exact ⟨p, q, a, b', c, d, by rw [e]; exact f⟩
theorem ok_eq (hu : X.A.units + 64 < cLine) : OpR X (compareOp .Eq) (r2 X.K (pEq false)) := by
  intro pins s σ H x y v u Q I rx ry ⟨π, α, h, d, e, Q', R, r1, r2, f, k⟩
  obtain ⟨a, b, ia, ib, sa, sb, q⟩ := pEq_all f
  obtain ⟨as, ra⟩ := ia.reads I R r1 rx
  obtain ⟨bs, rb⟩ := ib.reads I R r2 ry
  exact SeqAt.compareEq_shaped ra rb sa sb hu ⟨.bl (PyData.eqv a b), H, I, rfl, k _ h α H _ q (Ext.refl ..) R (.bl _)⟩
theorem ok_ne (hu : X.A.units + 64 < cLine) : OpR X (compareOp .NotEq) (r2 X.K (pEq true)) := by
  intro pins s σ H x y v u Q I rx ry ⟨π, α, h, d, e, Q', R, r1, r2, f, k⟩
  obtain ⟨a, b, ia, ib, sa, sb, q⟩ := pEq_all f
  obtain ⟨as, ra⟩ := ia.reads I R r1 rx
  obtain ⟨bs, rb⟩ := ib.reads I R r2 ry
  exact SeqAt.compareNe_shaped ra rb sa sb hu ⟨.bl (!PyData.eqv a b), H, I, rfl, k _ h α H _ q (Ext.refl ..) R (.bl _)⟩
end
structure SeqIt (K : KP) (Sq : Hp → List V → Prop) (xs : List D) (w : List (Nat × O)) (St : List Addr → Hp → Prop) : Prop where
  keep : ∀ α H α' H', St α H → Ext α H α' H' → St α' H'
  priv : ∀ α H H' D, St α H → Priv D H H' → D ∈ K.π → St α H'
  get : ∀ α H h, HRel K α H h → St α H → (∀ p ∈ w, h[p.1]? = some p.2) → ∃ us, Sq H us ∧ RelDs K α H xs us
noncomputable def SeqA (K : PySem.W.Frag) (π α : List Addr) (H : Hp) (Sq : Hp → List V → Prop) (xs : List D) (w : List (Nat × O)) : Prop := ∀ π', (∀ p ∈ π', p ∈ π ∨ H p = none) → ∃ St, SeqIt ⟨K, π'⟩ Sq xs w St ∧ St α H
noncomputable def seqSrc (h : Hh) : D → Option Src
  | .tup xs => some ⟨xs, []⟩
  | .lst xs => some ⟨xs, []⟩
  | .scr xs => some ⟨xs, []⟩
  | .ref i => match h[i]? with | some (.lst xs) => some ⟨xs, [(i, .lst xs)]⟩ | _ => none
  | _ => none
theorem seqSrc_ok {K : PySem.W.Frag} {π α : List Addr} {H : Hp} {h : Hh} (R : HRel ⟨K, π⟩ α H h) {d : D} {v : V} {S : Src} (r : RelD ⟨K, π⟩ α H d v) (e : seqSrc h d = some S) :
    ∃ a, v = .ref a ∧ S.ok h ∧ (((∃ us, SqL K H a us) ∧ SeqA K π α H (fun H us => SqL K H a us) S.items S.w) ∨ ((∃ us, SqT K H a us) ∧ SeqA K π α H (fun H us => SqT K H a us) S.items S.w)) := by
  cases r with
  | @tup a us ds t rs =>
    cases e
    exact ⟨a, rfl, Src.ok_nil, .inr ⟨⟨us, t.sq⟩, fun π' s => ⟨fun α H => VT ⟨K, π'⟩ α H a us ∧ RelDs ⟨K, π'⟩ α H ds us, ⟨fun α H α' H' st e => ⟨st.1.mono e, st.2.mono e⟩, fun α H H' D st e hD => ⟨st.1.priv e hD, st.2.priv e hD⟩, fun α H h R st _ => ⟨us, st.1.sq, st.2⟩⟩, t.more s, rs.more s⟩⟩⟩
  | @lst a us ds t rs =>
    cases e
    exact ⟨a, rfl, Src.ok_nil, .inl ⟨⟨us, t.sq⟩, fun π' s => ⟨fun α H => VL ⟨K, π'⟩ α H a us ∧ RelDs ⟨K, π'⟩ α H ds us, ⟨fun α H α' H' st e => ⟨st.1.mono e, st.2.mono e⟩, fun α H H' D st e hD => ⟨st.1.priv e hD, st.2.priv e hD⟩, fun α H h R st _ => ⟨us, st.1.sq, st.2⟩⟩, t.more s, rs.more s⟩⟩⟩
  | @scr a us ds t rs =>
    cases e
    exact ⟨a, rfl, Src.ok_nil, .inl ⟨⟨us, t.sq⟩, fun π' s => ⟨fun α H => VS ⟨K, π'⟩ α H a us ∧ RelDs ⟨K, π'⟩ α H ds us, ⟨fun α H α' H' st e => ⟨st.1.mono e, st.2.mono e⟩, fun α H H' D st e hD => ⟨st.1.priv e hD, st.2.priv e hD⟩, fun α H h R st _ => ⟨us, st.1.sq, st.2⟩⟩, t.more s, rs.more s⟩⟩⟩
  | @ref i a hp =>
    have e : (match h[i]? with | some (.lst xs) => some (Src.mk xs [(i, .lst xs)]) | _ => none) = some S := e
    cases q : h[i]? with
    | none => rw [q] at e; cases e
    | some o =>
      rw [q] at e
      cases o with
      | lst xs =>
        cases e
        obtain ⟨p, us, e1, e2, e3⟩ := R.lst q
        rw [hp] at e1; cases e1
        refine ⟨a, rfl, fun z hz => by rw [List.mem_singleton.mp hz]; exact q, .inl ⟨⟨us, SqL.of e2⟩, fun π' s => ⟨fun α H => α[i]? = some a, ⟨fun α H α' H' st e => e.get st, fun α H H' D st e hD => st, fun α H h R st w => ?_⟩, hp⟩⟩⟩
        obtain ⟨p, us, e1, e2, e3⟩ := R.lst (w (i, .lst xs) (List.mem_singleton.mpr rfl))
        rw [st] at e1; cases e1
        exact ⟨us, SqL.of e2, e3⟩
      | _ => cases e
  | _ => cases e
theorem it_list {K : PySem.W.Frag} {π α : List Addr} {H : Hp} {a : Addr} {S : Src} (s : SeqA K π α H (fun H us => SqL K H a us) S.items S.w) : ItA K π α H (Itl K a) S := fun π' sub => by
  obtain ⟨St, si, st⟩ := s π' sub
  refine ⟨St, ⟨si.keep, si.priv, fun α H h i d R st ok hi => ?_, fun α H h R st ok => ?_⟩, st⟩
  · obtain ⟨us, hq, rs⟩ := si.get α H h R st ok
    obtain ⟨u, hu, ru⟩ := rs.get hi
    refine ⟨⟨us, u, hq, hu⟩, fun x H' ⟨e1, e2⟩ => ?_⟩
    subst e1
    have := (e2 us hq).symm.trans hu
    cases this
    exact ⟨Ext.refl .., R, ru⟩
  · obtain ⟨us, hq, rs⟩ := si.get α H h R st ok
    exact ⟨us, hq, by rw [← rs.length]; exact Nat.le_refl _⟩
theorem it_tup {K : PySem.W.Frag} {π α : List Addr} {H : Hp} {a : Addr} {S : Src} (s : SeqA K π α H (fun H us => SqT K H a us) S.items S.w) : ItA K π α H (Itt K a) S := fun π' sub => by
  obtain ⟨St, si, st⟩ := s π' sub
  refine ⟨St, ⟨si.keep, si.priv, fun α H h i d R st ok hi => ?_, fun α H h R st ok => ?_⟩, st⟩
  · obtain ⟨us, hq, rs⟩ := si.get α H h R st ok
    obtain ⟨u, hu, ru⟩ := rs.get hi
    refine ⟨⟨us, u, hq, hu⟩, fun x H' ⟨e1, e2⟩ => ?_⟩
    subst e1
    have := (e2 us hq).symm.trans hu
    cases this
    exact ⟨Ext.refl .., R, ru⟩
  · obtain ⟨us, hq, rs⟩ := si.get α H h R st ok
    exact ⟨us, hq, by rw [← rs.length]; exact Nat.le_refl _⟩
noncomputable def enumD : Int → List D → List D
  | _, [] => []
  | n, x :: r => .tup [.int n, x] :: enumD (n + 1) r
theorem enumD_get : ∀ (n : Int) (xs : List D) (i : Nat), (enumD n xs)[i]? = (xs[i]?).map fun x => .tup [.int (n + i), x]
  | n, [], i => by simp [enumD]
  | n, x :: r, 0 => by simp [enumD]
  | n, x :: r, i + 1 => by
    have := enumD_get (n + 1) r i
    simp only [enumD, List.getElem?_cons_succ, this]
    congr 1; funext y; congr 3; push_cast; omega
theorem enumD_length : ∀ (n : Int) (xs : List D), (enumD n xs).length = xs.length
  | _, [] => rfl
  | n, x :: r => by simp [enumD, enumD_length (n + 1) r]
theorem it_enum {K : PySem.W.Frag} {π α : List Addr} {H : Hp} {Sq : Hp → List V → Prop} {S : Src} (s : SeqA K π α H Sq S.items S.w) : ItA K π α H (Ite Sq) ⟨enumD 0 S.items, S.w⟩ := fun π' sub => by
  obtain ⟨St, si, st⟩ := s π' sub
  refine ⟨St, ⟨si.keep, si.priv, fun α H h i d R st ok hi => ?_, fun α H h R st ok => ?_⟩, st⟩
  · rw [enumD_get] at hi
    cases q : S.items[i]? with
    | none => rw [q] at hi; cases hi
    | some y =>
      rw [q] at hi
      cases hi
      obtain ⟨us, hq, rs⟩ := si.get α H h R st ok
      obtain ⟨u, hu, ru⟩ := rs.get q
      refine ⟨⟨us, u, hq, hu⟩, fun x H' ⟨T, v, e0, hT, e1, e2⟩ => ?_⟩
      subst e0 e1
      have := (e2 us hq).symm.trans hu
      obtain rfl := Option.some.inj this
      have e3 : Ext α H α (upd H T (.tup [.int (i : Nat), v])) := Ext.new hT
      refine ⟨e3, R.new hT, .tup ⟨R.out hT, R.outP hT, upd_same⟩ (.cons ?_ (.cons (ru.mono e3) .nil))⟩
      rw [Int.zero_add]; exact .int _
  · obtain ⟨us, hq, rs⟩ := si.get α H h R st ok
    exact ⟨us, hq, by rw [enumD_length, rs.length]⟩
noncomputable def rangeD (lo : Int) : Nat → List D
  | 0 => []
  | n + 1 => .int lo :: rangeD (lo + 1) n
theorem rangeD_get : ∀ (lo : Int) (n i : Nat), (rangeD lo n)[i]? = if i < n then some (.int (lo + i)) else none
  | lo, 0, i => by simp [rangeD]
  | lo, n + 1, 0 => by simp [rangeD]
  | lo, n + 1, i + 1 => by
    have := rangeD_get (lo + 1) n i
    simp only [rangeD, List.getElem?_cons_succ, this, Nat.add_lt_add_iff_right]
    have e : lo + 1 + (i : Int) = lo + ((i + 1 : Nat) : Int) := by push_cast; omega
    rw [e]
theorem rangeD_length : ∀ (lo : Int) (n : Nat), (rangeD lo n).length = n
  | _, 0 => rfl
  | lo, n + 1 => by simp [rangeD, rangeD_length (lo + 1) n]
theorem it_range {K : PySem.W.Frag} {π α : List Addr} {H : Hp} {lo : Int} {n : Nat} : ItA K π α H (Itr lo n) ⟨rangeD lo n, []⟩ := fun π' sub => by
  refine ⟨fun _ _ => True, ⟨fun _ _ _ _ _ _ => trivial, fun _ _ _ _ _ _ _ => trivial, fun α H h i d R st ok hi => ?_, fun α H h R st ok => ?_⟩, trivial⟩
  · have hi : (rangeD lo n)[i]? = some d := hi
    rw [rangeD_get] at hi
    split at hi
    · rename_i hlt
      cases hi
      exact ⟨hlt, fun x H' ⟨e1, e2⟩ => by subst e1 e2; exact ⟨Ext.refl .., R, .int _⟩⟩
    · cases hi
  · show n ≤ (rangeD lo n).length
    rw [rangeD_length]; exact Nat.le_refl _
noncomputable def dISeq (f : DE) : DI := fun δ h Q => f δ h fun d h1 => match seqSrc h1 d with | some S => Q S h1 | none => False
noncomputable def dIEnum (f : DA) : DI := fun δ h Q => f δ h fun ds h1 => match ds with | [d] => (match seqSrc h1 d with | some S => Q ⟨enumD 0 S.items, S.w⟩ h1 | none => False) | _ => False
noncomputable def dIRange (f : DA) : DI := fun δ h Q => f δ h fun ds h1 => match ds with
  | [.int j] => (-(2 ^ 62) ≤ j ∧ j < 2 ^ 62) ∧ Q ⟨rangeD 0 j.toNat, []⟩ h1
  | [.int i, .int j] => (-(2 ^ 62) ≤ i ∧ i < 2 ^ 62 ∧ -(2 ^ 62) ≤ j ∧ j < 2 ^ 62) ∧ Q ⟨rangeD i (j - i).toNat, []⟩ h1
  | _ => False
section
variable {X : Cx} {tg : Expr}
theorem PI.imp {e : Expr} {t t' : TI} (h : PI X tg e t) (k : ∀ σ H Q, t' σ H Q → t σ H Q) : PI X tg e t' := fun pins s σ H Q I q => h pins s σ H Q I (k σ H Q q)
noncomputable def iSeq (K : PySem.W.Frag) (tl : TE) : TI := fun σ H R => tl σ H fun x H1 => ∃ a, x = .ref a ∧ (((∃ xs, SqL K H1 a xs) ∧ R (Itl K a) H1) ∨ ((∃ xs, SqT K H1 a xs) ∧ R (Itt K a) H1))
theorem pi_seq {l : Expr} {tl : TE} (hl : PE X l tl) : PI X tg l (iSeq X.K tl) := by
  intro pins s σ H R I h
  refine thn (hl pins s σ H _ I h) fun v s1 ⟨x, H1, I1, r1, q1⟩ => ?_
  obtain ⟨a, e, ⟨⟨xs, hq⟩, q⟩ | ⟨⟨xs, hq⟩, q⟩⟩ := q1
  · subst e
    cases r1
    obtain ⟨its, rv, p, hz⟩ := I1.list hq
    refine wpAny_pyIter_list p.isList ?_
    refine ⟨s1.heap.objs.size, [s1.heap.objs.size], _, _, H1, rfl, I1.kept (t' := s1.toks) fun b o e => Heap.get?_push_of_some _ e, turn_list a _, ⟨_, Heap.get?_push_size _ rfl, rfl, rfl⟩, fun b hb => ?_, q⟩
    have e : b = s1.heap.objs.size := by simpa using hb
    subst e
    exact I1.fpOk (Nat.le_refl _) (I1.hok.fresh (Nat.le_refl _))
  · subst e
    cases r1
    obtain ⟨its, rv, p, hz⟩ := I1.tuple hq
    refine wpAny_pyIter_tuple (show s1.heap.IsTuple a its.toArray from p) ?_
    refine ⟨s1.heap.objs.size, [s1.heap.objs.size], _, _, H1, rfl, I1.kept (t' := s1.toks) fun b o e => Heap.get?_push_of_some _ e, turn_tuple a _, ⟨_, Heap.get?_push_size _ rfl, rfl, rfl⟩, fun b hb => ?_, q⟩
    have e : b = s1.heap.objs.size := by simpa using hb
    subst e
    exact I1.fpOk (Nat.le_refl _) (I1.hok.fresh (Nat.le_refl _))
theorem si_seq {l : Expr} {f : DE} (hl : SE X l f) : SI X tg l (dISeq f) := PI.imp (pi_seq hl) fun σ H Q ⟨π, α, δ, h, Q', R, S, f, k⟩ => by
  refine ⟨π, α, δ, h, _, R, S, f, fun d h1 α1 H1 v1 f1 e1 R1 q1 => ?_⟩
  cases q : seqSrc h1 d with
  | none => rw [q] at f1; exact f1.elim
  | some Sr =>
    rw [q] at f1
    obtain ⟨a, rfl, ok, ⟨hu, sa⟩ | ⟨hu, sa⟩⟩ := seqSrc_ok R1 q1 q
    · exact ⟨a, rfl, .inl ⟨hu, k Sr h1 α1 H1 _ f1 e1 R1 (it_list sa) ok⟩⟩
    · exact ⟨a, rfl, .inr ⟨hu, k Sr h1 α1 H1 _ f1 e1 R1 (it_tup sa) ok⟩⟩
noncomputable def iEnumS (K : PySem.W.Frag) (ta : TA) : TI := fun σ H R => ta σ H fun vs H1 => ∃ a, vs = [.ref a] ∧ (((∃ xs, SqL K H1 a xs) ∧ R (Ite fun H xs => SqL K H a xs) H1) ∨ ((∃ xs, SqT K H1 a xs) ∧ R (Ite fun H xs => SqT K H a xs) H1))
theorem pi_enumS {a : Expr} {ta : TA} {p pos : Pos} (hg : Gl X "enumerate") (hm : X.mg "enumerate" = none) (ha : PA X [a] ta) (htg : ∃ es x1 pos, tg = .Tuple es x1 pos := by exact ⟨_, _, _, rfl⟩) (hs : starEach [a] X.env = [(false, eval a X.env)] := by rfl) : PI X tg (.Call (.Name "enumerate" p) [a] [] pos) (iEnumS X.K ta) := by
  intro pins s σ H R I h
  refine PyProof.Rows.Call_ (ld_blt I hg hm PyProof.Rows.boot_enumerate (PyProof.Rows.callWith_type1 (thn (ha pos pins s σ H _ I h) fun us s1 ⟨vs, H1, I1, r1, q1⟩ => ?_) hs rfl))
  obtain ⟨a, e, ⟨⟨xs, hq⟩, q⟩ | ⟨⟨xs, hq⟩, q⟩⟩ := q1
  · subst e
    obtain ⟨u, rfl, ru⟩ := vals1 r1
    cases ru
    obtain ⟨its, rv, p, hz⟩ := I1.list hq
    exact call_enumerate_list p.isList fun h' he hit _ hk => enum_fin htg I1 (src_list a _) he hit hk q
  · subst e
    obtain ⟨u, rfl, ru⟩ := vals1 r1
    cases ru
    obtain ⟨its, rv, p, hz⟩ := I1.tuple hq
    exact call_enumerate_tuple (show s1.heap.IsTuple a its.toArray from p) fun h' he hit _ hk => enum_fin htg I1 (src_tup a _) he hit hk q
theorem si_enum {a : Expr} {n : Nat} {fs : DA} {p pos : Pos} (hg : Gl X "enumerate") (hm : X.mg "enumerate" = none) (ha : SA X [a] n fs) (htg : ∃ es x1 pos, tg = .Tuple es x1 pos := by exact ⟨_, _, _, rfl⟩) (hs : starEach [a] X.env = [(false, eval a X.env)] := by rfl) : SI X tg (.Call (.Name "enumerate" p) [a] [] pos) (dIEnum fs) := PI.imp (pi_enumS hg hm ha htg hs) fun σ H Q ⟨π, α, δ, h, Q', R, S, f, k⟩ => by
  refine ⟨π, α, δ, h, _, R, S, f, fun ds h1 α1 H1 vs f1 e1 R1 q1 l1 => ?_⟩
  split at f1
  · rename_i d
    obtain ⟨v, rfl, q3⟩ := q1.inv1
    cases q : seqSrc h1 d with
    | none => rw [q] at f1; exact f1.elim
    | some Sr =>
      rw [q] at f1
      obtain ⟨a, rfl, ok, ⟨hu, sa⟩ | ⟨hu, sa⟩⟩ := seqSrc_ok R1 q3 q
      · exact ⟨a, rfl, .inl ⟨hu, k ⟨enumD 0 Sr.items, Sr.w⟩ h1 α1 H1 _ f1 e1 R1 (it_enum sa) ok⟩⟩
      · exact ⟨a, rfl, .inr ⟨hu, k ⟨enumD 0 Sr.items, Sr.w⟩ h1 α1 H1 _ f1 e1 R1 (it_enum sa) ok⟩⟩
  · exact f1.elim
theorem si_range1 {a : Expr} {n : Nat} {fs : DA} {p pos : Pos} (hg : Gl X "range") (hm : X.mg "range" = none) (ha : SA X [a] n fs) (hs : starEach [a] X.env = [(false, eval a X.env)] := by rfl) (hn : n = 1 := by rfl) : SI X tg (.Call (.Name "range" p) [a] [] pos) (dIRange fs) := PI.imp (pi_range1 hg hm ha hs) fun σ H Q ⟨π, α, δ, h, Q', R, S, f, k⟩ => by
  refine ⟨π, α, δ, h, _, R, S, f, fun ds h1 α1 H1 vs f1 e1 R1 q1 l1 => ?_⟩
  split at f1
  · obtain ⟨v, rfl, q3⟩ := q1.inv1
    cases q3 with
    | int => exact ⟨_, rfl, f1.1.1, f1.1.2, k _ h1 α1 H1 _ f1.2 e1 R1 it_range Src.ok_nil⟩
  · subst hn; cases l1
  · exact f1.elim
end
end DL
namespace DL
open PySem PySem.Spec L2
noncomputable def dCB (p : PN) (f : DA) : DE := fun δ h Q => f δ h fun ds h1 => p ds h1 Q
theorem cb_lift {K : PySem.W.Frag} {p : PN} {n : Nat} {f : DA} {σ : L2.St} {H : Hp} {Q : VK} (g : LE K (dCB p f) σ H Q) : LA K n f σ H fun vs H1 => rN K p vs H1 Q := by
  obtain ⟨π, α, δ, h, Q', R, S, f, k⟩ := g
  exact ⟨π, α, δ, h, _, R, S, f, fun ds h1 α1 H1 vs f1 e1 R1 q1 l1 => ⟨π, α1, h1, ds, Q', R1, q1, f1, fun d h' α' H' v a b c d' => k d h' α' H' v a (e1.trans b) c d'⟩⟩
section
variable {X : Cx} {x : Str} {p pos : Pos} {e : Expr} {es : List Expr} {n : Nat} {f : DA} {id T : String} {r : PN}
theorem se_callB (hc : CallR X (.builtin id) (rN X.K r)) (hg : Gl X x) (hm : X.mg x = none) (hv : bootBuiltins x = some (.builtin id)) (ha : SA X (e :: es) n f) (hn : x ≠ "__name__" := by decide) (hdb : (x == ("__debug__" : Str)) = false := by decide)
    (he : starEach (e :: es) X.env = (false, eval e X.env) :: starEach es X.env := by rfl) (hpl : (backTo pos (starEach es X.env)).any (·.1) = false := by rfl) : SE X (.Call (.Name x p) (e :: es) [] pos) (dCB r f) :=
  PE.imp (pe_callB hc hg hm hv ha hn hdb he hpl) fun _ _ _ g => cb_lift g
theorem se_callTy (hc : CallR X (.type T) (rN X.K r)) (hg : Gl X x) (hm : X.mg x = none) (hv : bootBuiltins x = some (.type T)) (ha : SA X (e :: es) n f) (hn : x ≠ "__name__" := by decide) (hdb : (x == ("__debug__" : Str)) = false := by decide)
    (he : starEach (e :: es) X.env = (false, eval e X.env) :: starEach es X.env := by rfl) (hpl : (backTo pos (starEach es X.env)).any (·.1) = false := by rfl) : SE X (.Call (.Name x p) (e :: es) [] pos) (dCB r f) :=
  PE.imp (pe_callTy hc hg hm hv ha hn hdb he hpl) fun _ _ _ g => cb_lift g
noncomputable def lenD (h : Hh) : D → Option Nat
  | .str x => if x.length ≤ 16777216 then some x.length else none
  | d => (seqOf h d).map List.length
noncomputable def pLen : PN := fun ds h Q => match ds with | [d] => (match lenD h d with | some n => Q (.int n) h | none => False) | _ => False
theorem ok_len : CallR X (.builtin "len") (rN X.K pLen) := CallR.imp call_len fun xs H Q ⟨π, α, h, ds, Q', R, rs, f, k⟩ => by
  unfold pLen at f
  split at f
  · rename_i d
    obtain ⟨v, rfl, rd⟩ := rs.inv1
    cases q : lenD h d with
    | none => rw [q] at f; exact f.elim
    | some n =>
      rw [q] at f
      refine ⟨v, n, rfl, ?_, k _ h α H _ f (Ext.refl ..) R (.int _)⟩
      by_cases z : ∃ x, d = .str x
      · obtain ⟨x, rfl⟩ := z
        cases rd
        have q : (if x.length ≤ 16777216 then some x.length else none) = some n := q
        split at q
        · rename_i hl
          cases q
          exact ⟨by rw [sizeLine_eq]; exact hl, rfl⟩
        · cases q
      · have q' : (seqOf h d).map List.length = some n := by
          cases d with
          | str x => exact absurd ⟨x, rfl⟩ z
          | _ => exact q
        cases w : seqOf h d with
        | none => rw [w] at q'; cases q'
        | some ys =>
          rw [w] at q'
          cases q'
          obtain ⟨p, us, rfl, b, c⟩ := seqOf_sq R rd w
          rcases b with b | b
          · exact .inl ⟨us, b, c.length⟩
          · exact .inr ⟨us, b, c.length⟩
  · exact f.elim
noncomputable def pTuple : PN := fun ds h Q => match ds with | [d] => (match seqOf h d with | some xs => Q (.tup xs) h | none => False) | _ => False
theorem ok_tuple : CallR X (.type "tuple") (rN X.K pTuple) := CallR.imp call_tuple_of fun xs H Q ⟨π, α, h, ds, Q', R, rs, f, k⟩ => by
  unfold pTuple at f
  split at f
  · rename_i d
    obtain ⟨v, rfl, rd⟩ := rs.inv1
    cases w : seqOf h d with
    | none => rw [w] at f; exact f.elim
    | some ys =>
      rw [w] at f
      by_cases z : ∃ x, d = .tup x
      · obtain ⟨x, rfl⟩ := z
        cases w
        cases rd with
        | tup t r => exact ⟨_, _, rfl, .inr ⟨t.sq, k _ h α H _ f (Ext.refl ..) R (.tup t r)⟩⟩
      · have w' : lsOf h d = some ys := by
          cases d with
          | tup x => exact absurd ⟨x, rfl⟩ z
          | lst x => exact w
          | scr x => exact w
          | ref x => exact w
          | _ => cases w
        obtain ⟨p, us, rfl, b, c⟩ := lsOf_sq R rd w'
        refine ⟨p, us, rfl, .inl ⟨b, fun l hl => ?_⟩⟩
        have e2 : Ext α H α (upd H l (.tup us)) := Ext.new hl
        exact k _ h α _ _ f e2 (R.new hl) (.tup ⟨R.out hl, R.outP hl, upd_same⟩ (c.mono e2))
  · exact f.elim
noncomputable def dListOf (f : DA) : DN := fun δ h Q => f δ h fun ds h1 => match ds with | [d] => (match seqOf h1 d with | some xs => Q xs h1 | none => False) | _ => False
noncomputable def pInt : PN := fun ds h Q => match ds with | [.int i] => Q (.int i) h | [.bl b] => Q (.int (if b then 1 else 0)) h | _ => False
theorem ok_int : CallR X (.type "int") (rN X.K pInt) := CallR.imp call_int1 fun xs H Q ⟨π, α, h, ds, Q', R, rs, f, k⟩ => by
  unfold pInt at f
  split at f
  · obtain ⟨v, rfl, rd⟩ := rs.inv1
    cases rd
    exact .inl ⟨_, rfl, k _ h α H _ f (Ext.refl ..) R (.int _)⟩
  · obtain ⟨v, rfl, rd⟩ := rs.inv1
    cases rd
    exact .inr ⟨_, rfl, k _ h α H _ f (Ext.refl ..) R (.int _)⟩
  · exact f.elim
noncomputable def pMin : PN := fun ds h Q => match ds with | [.int i, .int j] => Q (.int (if j < i then j else i)) h | _ => False
noncomputable def pMax : PN := fun ds h Q => match ds with | [.int i, .int j] => Q (.int (if j > i then j else i)) h | _ => False
noncomputable def pAbs : PN := fun ds h Q => match ds with | [.int i] => Q (.int (if i < 0 then -i else i)) h | _ => False
theorem ok_min (hc : X.calm = true) : CallR X (.builtin "min") (rN X.K pMin) := CallR.imp (call_min2 hc) fun xs H Q ⟨π, α, h, ds, Q', R, rs, f, k⟩ => by
  unfold pMin at f
  split at f
  · obtain ⟨v, w, rfl, rd, re⟩ := rs.inv2
    cases rd; cases re
    exact ⟨_, _, rfl, k _ h α H _ f (Ext.refl ..) R (.int _)⟩
  · exact f.elim
theorem ok_max (hc : X.calm = true) : CallR X (.builtin "max") (rN X.K pMax) := CallR.imp (call_max2 hc) fun xs H Q ⟨π, α, h, ds, Q', R, rs, f, k⟩ => by
  unfold pMax at f
  split at f
  · obtain ⟨v, w, rfl, rd, re⟩ := rs.inv2
    cases rd; cases re
    exact ⟨_, _, rfl, k _ h α H _ f (Ext.refl ..) R (.int _)⟩
  · exact f.elim
theorem ok_abs : CallR X (.builtin "abs") (rN X.K pAbs) := CallR.imp call_abs fun xs H Q ⟨π, α, h, ds, Q', R, rs, f, k⟩ => by
  unfold pAbs at f
  split at f
  · obtain ⟨v, rfl, rd⟩ := rs.inv1
    cases rd
    exact ⟨_, rfl, k _ h α H _ f (Ext.refl ..) R (.int _)⟩
  · exact f.elim
end
section
variable {X : Cx} {o e : Expr} {fo fe : DE} {fs : DA} {n : Nat} {apos cpos : Pos}
noncomputable def dBits (fo : DE) : DE := fun δ h Q => fo δ h fun d h1 => match d with | .int i => Q (.int (Builtin.Int.intBits i : Nat)) h1 | _ => False
noncomputable def dAppend (fo : DE) (fs : DA) : DE := fun δ h Q => fo δ h fun d h1 => match d with
  | .ref i => (match h1[i]? with
    | some (.lst _) => fs δ h1 fun ds h2 => (match ds, h2[i]? with
      | [v], some (.lst ys) => ys.length < 16777216 ∧ Q .non (h2.set i (.lst (ys ++ [v])))
      | _, _ => False)
    | _ => False)
  | _ => False
theorem refL {K : PySem.W.Frag} {π α : List Addr} {H : Hp} {h : Hh} (R : HRel ⟨K, π⟩ α H h) {i : Nat} {a : Addr} {xs : List D} (hp : α[i]? = some a) (w : h[i]? = some (.lst xs)) : ∃ us, H a = some (.lst us) ∧ RelDs ⟨K, π⟩ α H xs us := by
  obtain ⟨p, us, e1, e2, e3⟩ := R.lst w
  rw [hp] at e1; cases e1
  exact ⟨us, e2, e3⟩
theorem se_append (ho : SE X o fo) (ha : SA X [e] n fs) (hbase : attributeBase o "append" X.env (eval o X.env) = eval o X.env := by rfl)
    (hfew : ((backTo cpos (starEach [e] X.env)).all (fun x => !x.1) && (backToKw cpos (keywordEach [] X.env)).all (fun x => x.1.isSome)
      && decide ([e].length + ([] : List Keyword).length + (if ([] : List Keyword).isEmpty then 0 else 1) < 30)) = true := by rfl)
    (hline : (apos.endLine == cpos.line) = true := by rfl) (hs : starEach [e] X.env = (false, eval e X.env) :: starEach [] X.env := by rfl) (hplain : (backTo cpos (starEach [] X.env)).any (·.1) = false := by rfl) :
    SE X (.Call (.Attribute o "append" apos) [e] [] cpos) (dAppend fo fs) :=
  PE.imp (pe_bm PySem.F.plainAttrs_list PySem.F.slot_list_append PySem.F.type_list_append mt_append ho ha hbase hfew hline hs hplain) fun σ H Q ⟨π, α, δ, h, Q', R, S, f, k⟩ => by
    refine ⟨π, α, δ, h, _, R, S, f, fun d h1 α1 H1 v1 f1 e1 R1 q1 => ?_⟩
    cases q1 with
    | @ref i a hp =>
      dsimp only at f1
      cases w : h1[i]? with
      | none => rw [w] at f1; exact f1.elim
      | some ob =>
        rw [w] at f1
        cases ob with
        | lst xs =>
          obtain ⟨us, e2, e3⟩ := refL R1 hp w
          refine ⟨.inl ⟨rfl, us, SqL.of e2⟩, π, α1, δ, h1, _, R1, S.mono e1, f1, fun ds h2 α2 H2 vs f2 e2 R2 q2 l2 => ?_⟩
          split at f2
          · rename_i v ys w2
            obtain ⟨u, rfl, q9⟩ := q2.inv1
            have hp2 := e2.get hp
            obtain ⟨us2, g2, g3⟩ := refL R2 hp2 w2
            have e4 : Ext α2 H2 α2 (upd H2 a (.lst (us2 ++ [u]))) := Ext.write (List.mem_of_getElem? hp2)
            exact ⟨a, us2, u, rfl, rfl, g2, by rw [← g3.length, sizeLine_eq]; exact f2.1, k _ _ α2 _ _ f2.2 (e1.trans (e2.trans e4)) (R2.write hp2 (.lst upd_same ((g3.snoc q9).mono e4))) .non⟩
          · exact f2.elim
        | _ => exact f1.elim
    | _ => exact f1.elim
noncomputable def dPop (fo : DE) : DE := fun δ h Q => fo δ h fun d h1 => match d with
  | .ref i => (match h1[i]? with
    | some (.lst xs) => (match xs[xs.length - 1]? with | some y => Q y (h1.set i (.lst xs.dropLast)) | none => False)
    | _ => False)
  | _ => False
theorem se_pop (ho : SE X o fo) (hbase : attributeBase o "pop" X.env (eval o X.env) = eval o X.env := by rfl) (hline : (apos.endLine == cpos.line) = true := by rfl) : SE X (.Call (.Attribute o "pop" apos) [] [] cpos) (dPop fo) :=
  PE.imp (pe_bm0 PySem.F.plainAttrs_list PySem.F.slot_list_pop PySem.F.type_list_pop mt_pop ho hbase hline) fun σ H Q ⟨π, α, δ, h, Q', R, S, f, k⟩ => by
    refine ⟨π, α, δ, h, _, R, S, f, fun d h1 α1 H1 v1 f1 e1 R1 q1 => ?_⟩
    cases q1 with
    | @ref i a hp =>
      dsimp only at f1
      cases w : h1[i]? with
      | none => rw [w] at f1; exact f1.elim
      | some ob =>
        rw [w] at f1
        cases ob with
        | lst xs =>
          dsimp only at f1
          obtain ⟨us, e2, e3⟩ := refL R1 hp w
          cases y : xs[xs.length - 1]? with
          | none => rw [y] at f1; exact f1.elim
          | some z =>
            rw [y] at f1
            obtain ⟨u, g1, g2⟩ := e3.get y
            have e4 : Ext α1 H1 α1 (upd H1 a (.lst us.dropLast)) := Ext.write (List.mem_of_getElem? hp)
            exact ⟨.inl ⟨rfl, us, SqL.of e2⟩, a, us, u, rfl, rfl, e2, by rw [← e3.length]; exact g1, k _ _ α1 _ _ f1 (e1.trans e4) (R1.write hp (.lst upd_same (e3.dropLast.mono e4))) (g2.mono e4)⟩
        | _ => exact f1.elim
    | _ => exact f1.elim
noncomputable def dClear (fo : DE) : DE := fun δ h Q => fo δ h fun d h1 => match d with
  | .ref i => (match h1[i]? with | some (.lst _) => Q .non (h1.set i (.lst [])) | _ => False)
  | _ => False
end
noncomputable abbrev DSp := List D → Hh → DK → Prop
inductive spD (K : PySem.W.Frag) (n : Nat) (g : DSp) (vs : List V) (H : Hp) (Q : VK) (X9 : XK) : Prop
  | mk (π : List Addr) (α : List Addr) (h : Hh) (ds : List D) (Q' : DK) : HRel ⟨K, π⟩ α H h → RelDs ⟨K, π⟩ α H ds vs → ds.length = n → g ds h Q' → (∀ d h' α' H' v, Q' d h' → Ext α H α' H' → HRel ⟨K, π⟩ α' H' h' → RelD ⟨K, π⟩ α' H' d v → Q v H') → spD K n g vs H Q X9
noncomputable def dCal (g : DSp) (f : DA) : DE := fun δ h Q => f δ h fun ds h1 => g ds h1 Q
section
variable {X : Cx} {k m : Nat} {ps : List Str} {g : DSp} {x : Str} {p pos : Pos} {e : Expr} {es : List Expr} {n : Nat} {f : DA}
theorem se_cal (c : Cal X.prog X.w X.K X.mg X.base k x ps (spD X.K m g)) (hr : Room k X.A) (hg : Gl X x) (ha : SA X (e :: es) n f) (hn : n = m := by rfl) (hdb : (x == ("__debug__" : Str)) = false := by decide)
    (he : starEach (e :: es) X.env = (false, eval e X.env) :: starEach es X.env := by rfl) (hpl : (backTo pos (starEach es X.env)).any (·.1) = false := by rfl) : SE X (.Call (.Name x p) (e :: es) [] pos) (dCal g f) :=
  PE.imp (pe_cal c hr hg ha hdb he hpl) fun σ H Q ⟨π, α, δ, h, Q', R, S, f, k⟩ => by
    refine ⟨π, α, δ, h, _, R, S, f, fun ds h1 α1 H1 vs f1 e1 R1 q1 l1 => ?_⟩
    show spD X.K m g (vs ++ []) H1 Q E0
    rw [List.append_nil]
    exact ⟨π, α1, h1, ds, Q', R1, q1, l1.trans hn, f1, fun d h' α' H' v a b c d' => k d h' α' H' v a (e1.trans b) c d'⟩
end
noncomputable def runD (n : Nat) (b : DS) : DSp := fun ds h Q => b { nx := fun _ h' => Q .non h', rt := Q } (ds.map some ++ List.replicate (n - ds.length) none) h
theorem relS_start {K : KP} {α : List Addr} {H : Hp} {ds : List D} {vs : List V} {N : List Str} (r : RelDs K α H ds vs) : RelS K α H (ds.map some ++ List.replicate (N.length - ds.length) none) (L2.start N vs) := by
  refine ⟨by unfold L2.start; simp [r.length], fun i d e => ?_⟩
  by_cases hi : i < ds.length
  · rw [List.getElem?_append_left (by simpa using hi), List.getElem?_map] at e
    cases q : ds[i]? with
    | none => rw [q] at e; cases e
    | some z =>
      rw [q] at e
      cases e
      obtain ⟨u, h1, h2⟩ := r.get q
      refine ⟨u, ?_, h2⟩
      unfold L2.start
      rw [List.getElem?_append_left (by rw [List.length_map, ← r.length]; exact hi), List.getElem?_map, h1]; rfl
  · rw [List.getElem?_append_right (by simpa using hi), List.getElem?_replicate] at e
    split at e <;> cases e
section
variable {P : Program} {w : World} {K : PySem.W.Frag} {mg : Str → Option Value} {base : Heap}
theorem fn_ok {x qual : Str} {st : Stmt} {f : Addr} {fd : FuncData} {N ps : List Str} {k : Nat} {b : DS} {g : DSp} (F : Fun K x qual st f fd) (S : FnScope N ps (defScope st))
    (hb : ∀ (cdv : Value) (A : Around) (outer : List Env) (s : Shared) (H : Hp) (E : XK), Room k (A.deeper (PyProof.Rows.envOfC qual (defScope st) s.heap.objs.size f cdv)) → SSs (cxOf CX0 P w K mg base N qual (defScope st) f cdv A outer s H E).nox (defBody st) b)
    (hg : ∀ ds h Q, g ds h Q → runD N.length b ds h Q) : FnOk P w K mg base CX0 (k + 1) f fd ps (spD K ps.length g) := by
  refine F.ok S (fun vs H Q E h => ?_) fun cdv A outer s H vs Q E hr h => ?_
  · obtain ⟨π, α, h, ds, Q', R, r, l, _⟩ := h
    rw [← r.length, l]
  · obtain ⟨π, α, h, ds, Q', R, r, l, q, kk⟩ := h
    refine ⟨_, hb cdv A outer s H E hr, π, α, _, h, { nx := fun _ h' => Q' .non h', rt := Q' }, R, relS_start r, hg ds h Q' q, ⟨fun _ h' α' H' σ' a b c _ => kk .non h' α' H' .non a b c .non, fun d h' α' H' v a b c d' => kk d h' α' H' v a b c d', fun _ _ _ _ _ a _ _ _ => a.elim, fun _ _ _ _ _ a _ _ _ => a.elim, fun _ _ _ _ _ _ _ a _ _ _ => a.elim⟩⟩
end
end DL
namespace DL
open PySem PySem.Spec L2
noncomputable def lsP (h : Hh) : D → Option (List D)
  | .lst xs => some xs
  | .ref i => match h[i]? with | some (.lst xs) => some xs | _ => none
  | _ => none
theorem lsP_sq {K : KP} {α : List Addr} {H : Hp} {h : Hh} (R : HRel K α H h) {d : D} {v : V} {xs : List D} (r : RelD K α H d v) (e : lsP h d = some xs) : ∃ p us, v = .ref p ∧ H p = some (.lst us) ∧ RelDs K α H xs us := by
  cases r with
  | lst t r => cases e; exact ⟨_, _, rfl, t.2.2, r⟩
  | @ref i a hp =>
    have e : (match h[i]? with | some (.lst xs) => some xs | _ => none) = some xs := e
    cases q : h[i]? with
    | none => rw [q] at e; cases e
    | some o =>
      rw [q] at e
      cases o with
      | lst ys =>
        cases e
        obtain ⟨p, us, e1, e2, e3⟩ := R.lst q
        rw [hp] at e1; cases e1
        exact ⟨_, us, rfl, e2, e3⟩
      | _ => cases e
  | _ => cases e
noncomputable def pPlus : P2 := fun x y h Q => match lsP h x, lsP h y with
  | some xs, some ys => xs.length + ys.length ≤ 16777216 ∧ Q (.lst (xs ++ ys)) h
  | _, _ => pAdd x y h Q
section
variable {X : Cx}
theorem ok_plus : OpR X (binaryOp .Add) (r2 X.K pPlus) := OpR.imp (op_cat.or ok_add) fun x y H Q ⟨π, α, h, d, e, Q', R, r1, r2, f, k⟩ => by
  unfold pPlus at f
  cases w : lsP h d with
  | none => rw [w] at f; exact .inr ⟨π, α, h, d, e, Q', R, r1, r2, f, k⟩
  | some xs =>
    cases w' : lsP h e with
    | none => rw [w, w'] at f; exact .inr ⟨π, α, h, d, e, Q', R, r1, r2, f, k⟩
    | some ys =>
      rw [w, w'] at f
      obtain ⟨p, us, rfl, b, c⟩ := lsP_sq R r1 w
      obtain ⟨p', us', rfl, b', c'⟩ := lsP_sq R r2 w'
      refine .inl ⟨p, p', us, us', rfl, rfl, b, b', by rw [← c.length, ← c'.length, sizeLine_eq]; exact f.1, fun l hl => ?_⟩
      have e2 : Ext α H α (upd H l (.lst (us ++ us'))) := Ext.new hl
      exact k _ h α _ _ f.2 e2 (R.new hl) (.lst ⟨R.out hl, R.outP hl, upd_same⟩ ((c.append c').mono e2))
noncomputable def dCatN (fa fb : DE) : DN := fun δ h Q => fa δ h fun x h1 => fb δ h1 fun y h2 => match lsP h2 x, lsP h2 y with
  | some xs, some ys => xs.length + ys.length ≤ 16777216 ∧ Q (xs ++ ys) h2
  | _, _ => False
theorem sn_cat {a b : Expr} {fa fb : DE} {pos : Pos} (ha : SE X a fa) (hb : SE X b fb) : SN X (.BinOp a .Add b pos) (dCatN fa fb) := PE.imp (pe_op op_cat ha hb) fun σ H Q ⟨π, α, δ, h, Q', R, S, f, k⟩ => by
  refine ⟨π, α, δ, h, _, R, S, f, fun x h1 α1 H1 v1 f1 e1 R1 q1 => ?_⟩
  refine ⟨π, α1, δ, h1, _, R1, S.mono e1, f1, fun y h2 α2 H2 v2 f2 e2 R2 q2 => ?_⟩
  split at f2
  · rename_i xs ys w w'
    obtain ⟨p, us, rfl, b, c⟩ := lsP_sq R2 (q1.mono e2) w
    obtain ⟨p', us', rfl, b', c'⟩ := lsP_sq R2 q2 w'
    exact ⟨p, p', us, us', rfl, rfl, b, b', by rw [← c.length, ← c'.length, sizeLine_eq]; exact f2.1, fun l hl => LN.last (h := h) k f2.2 (e1.trans e2) R2 (c.append c') hl⟩
  · exact f2.elim
theorem rel_rep {K : KP} {α : List Addr} {H : Hp} {ds : List D} {us : List V} (r : RelDs K α H ds us) : ∀ n : Nat, RelDs K α H (List.replicate n ds).flatten (List.replicate n us).flatten
  | 0 => .nil
  | n + 1 => by rw [List.replicate_succ, List.replicate_succ, List.flatten_cons, List.flatten_cons]; exact r.append (rel_rep r n)
noncomputable def dRepN (fa fb : DE) : DN := fun δ h Q => fa δ h fun x h1 => fb δ h1 fun y h2 => match lsP h2 x, y with
  | some xs, .int n => (-(2 ^ 63) ≤ n ∧ n < 2 ^ 63 ∧ xs.length * n.toNat ≤ 16777216) ∧ Q (List.replicate n.toNat xs).flatten h2
  | _, _ => False
theorem sn_rep {a b : Expr} {fa fb : DE} {pos : Pos} (ha : SE X a fa) (hb : SE X b fb) : SN X (.BinOp a .Mult b pos) (dRepN fa fb) := PE.imp (pe_op op_rep ha hb) fun σ H Q ⟨π, α, δ, h, Q', R, S, f, k⟩ => by
  refine ⟨π, α, δ, h, _, R, S, f, fun x h1 α1 H1 v1 f1 e1 R1 q1 => ?_⟩
  refine ⟨π, α1, δ, h1, _, R1, S.mono e1, f1, fun y h2 α2 H2 v2 f2 e2 R2 q2 => ?_⟩
  split at f2
  · rename_i xs n w
    cases q2
    obtain ⟨p, us, rfl, b, c⟩ := lsP_sq R2 (q1.mono e2) w
    exact ⟨p, n, us, rfl, rfl, b, f2.1.1, f2.1.2.1, by rw [← c.length, sizeLine_eq]; exact f2.1.2.2, fun l hl => LN.last (h := h) k f2.2 (e1.trans e2) R2 (rel_rep c _) hl⟩
  · exact f2.elim
theorem op_mulB : OpR X (binaryOp .Mult) (rI IntMulOk fun i j => .int (i * j)) := opI fun _ _ _ _ _ _ _ hc q => PyProof.Rows.mul_int q hc
noncomputable def pMulI : P2 := pI IntMulOk fun i j => i * j
theorem ok_timesI : OpR X (binaryOp .Mult) (r2 X.K pMulI) := pI_ok op_mulB
noncomputable def pMul : P2 := fun x y h Q => match x, y with
  | .int i, .int j => IntMulOk i j ∧ Q (.int (i * j)) h
  | .tup xs, .int n => (xs ≠ [] ∧ xs.length ≤ 10 ∧ 1 ≤ n ∧ n < 100) ∧ Q (.tup (List.replicate n.toNat xs).flatten) h
  | x, .int n => (match lsP h x with | some xs => (-(2 ^ 63) ≤ n ∧ n < 2 ^ 63 ∧ xs.length * n.toNat ≤ 16777216) ∧ Q (.lst (List.replicate n.toNat xs).flatten) h | none => False)
  | _, _ => False
noncomputable def dSl (fe : DE) (fl fh : DO) : DE := fun δ h Q => fe δ h fun d h1 => fl δ h1 fun l h2 => fh δ h2 fun u h3 => match d with
  | .tup xs => Q (.tup (cutD xs l u)) h3
  | d => match lsOf h3 d with | some xs => Q (.lst (cutD xs l u)) h3 | none => False
theorem se_sl {e : Expr} {fe : DE} {lo hi : Option Expr} {fl fh : DO} {pos p2 : Pos} (he : SE X e fe) (hl : SO X lo fl) (hu : SO X hi fh) : SE X (.Subscript e (.Slice lo hi none p2) pos) (dSl fe fl fh) := PE.imp (pe_slice (sl_tupD.or sl_list) he hl hu) fun σ H Q ⟨π, α, δ, h, Q', R, S, f, k⟩ => by
  refine ⟨π, α, δ, h, _, R, S, f, fun d h1 α1 H1 v1 f1 e1 R1 q1 => ?_⟩
  refine ⟨π, α1, δ, h1, _, R1, S.mono e1, f1, fun l h2 α2 H2 f2 e2 R2 => ?_⟩
  refine ⟨π, α2, δ, h2, _, R2, S.mono (e1.trans e2), f2, fun u h3 α3 H3 f3 e3 R3 => ?_⟩
  have q3 := (q1.mono e2).mono e3
  split at f3
  · cases q3 with
    | @tup a us ds t r =>
      refine .inl ⟨a, us, rfl, t.sq, fun z => ?_, fun p hp => ?_⟩
      · have c := cut_rel r l u
        rw [z] at c
        exact k _ h3 α3 H3 _ f3 (e1.trans (e2.trans e3)) R3 (.tup t c)
      · have e4 : Ext α3 H3 α3 (upd H3 p (.tup (cutV us l u))) := Ext.new hp
        exact k _ h3 α3 _ _ f3 (e1.trans (e2.trans (e3.trans e4))) (R3.new hp) (.tup ⟨R3.out hp, R3.outP hp, upd_same⟩ ((cut_rel r l u).mono e4))
  · split at f3
    · rename_i xs w
      obtain ⟨p, us, rfl, b, c⟩ := lsOf_sq R3 q3 w
      refine .inr ⟨p, us, rfl, b, fun l' hl => ?_⟩
      have e4 : Ext α3 H3 α3 (upd H3 l' (.lst (cutV us l u))) := Ext.new hl
      exact k _ h3 α3 _ _ f3 (e1.trans (e2.trans (e3.trans e4))) (R3.new hl) (.lst ⟨R3.out hl, R3.outP hl, upd_same⟩ ((cut_rel c l u).mono e4))
    · exact f3.elim
noncomputable def dExtend (fo : DE) (fs : DA) : DE := fun δ h Q => fo δ h fun d h1 => match d with
  | .ref i => (match h1[i]? with
    | some (.lst _) => fs δ h1 fun ds h2 => (match ds, h2[i]? with
      | [v], some (.lst ys) => (match lsP h2 v with | some zs => ys.length + zs.length ≤ 16777216 ∧ Q .non (h2.set i (.lst (ys ++ zs))) | none => False)
      | _, _ => False)
    | _ => False)
  | _ => False
noncomputable def kindD (h : Hh) : D → Option String
  | .non => some "NoneType"
  | .bl _ => some "bool"
  | .int _ => some "int"
  | .str _ => some "str"
  | .tup _ => some "tuple"
  | .lst _ => some "list"
  | .ref i => match h[i]? with | some (.lst _) => some "list" | some (.dT _) => some "dict" | some (.dK _) => some "dict" | _ => none
  | _ => none
noncomputable def isKind (t T : String) : Bool := t == T || (t == "bool" && T == "int")
noncomputable def dIsinst (T : String) (fa : DE) : DE := fun δ h Q => fa δ h fun d h1 => match kindD h1 d with | some t => Q (.bl (isKind t T)) h1 | none => False
noncomputable def flatD : D → Bool
  | .non => true
  | .bl _ => true
  | .int _ => true
  | .str _ => true
  | _ => false
noncomputable def eqF : D → D → Bool
  | .non, .non => true
  | .bl a, .bl b => a == b
  | .bl a, .int b => (if a then 1 else 0) == b
  | .int a, .bl b => a == (if b then 1 else 0)
  | .int a, .int b => a == b
  | .str a, .str b => a == b
  | _, _ => false
noncomputable def inF (x : D) (xs : List D) : Bool := xs.any fun y => eqF y x
noncomputable def pIn (neg : Bool) : P2 := fun x y h Q => match seqOf h y with
  | some xs => (flatD x && xs.all flatD) = true ∧ Q (.bl (if neg then !inF x xs else inF x xs)) h
  | none => False
end
end DL
namespace DL
open PySem PySem.Spec L2
section
variable {X : Cx}
noncomputable def intsOf : List D → Option (List Int)
  | [] => some []
  | .int i :: r => (intsOf r).map (i :: ·)
  | _ :: _ => none
noncomputable def pLt : P2 := fun x y h Q => match x, y with
  | .int i, .int j => Q (.bl (decide (i < j))) h
  | .tup a, .tup b => (match intsOf a, intsOf b with | some ns, some ms => Q (.bl (HT.lexLt ns ms)) h | _, _ => False)
  | .str a, .str b => Q (.bl (decide (a.cps.toList < b.cps.toList))) h
  | _, _ => False
noncomputable def keyS : D → Option Key
  | .int i => some (.inl i)
  | .str x => some (.inr x)
  | _ => none
noncomputable def lkG (kvs : List (Key × Int)) (k : Key) : Option Int := (kvs.find? fun kv => decide (kv.1 = k)).map (·.2)
noncomputable def dGet (kvs : List (Key × Int)) (fi : DE) : DE := fun δ h Q => fi δ h fun d h1 => match (keyS d).bind fun k => lkG kvs k with | some v => Q (.int v) h1 | none => False
noncomputable def dIEnum1 (f : DA) : DI := fun δ h Q => f δ h fun ds h1 => match ds with | [d] => (match d with | .tup _ => False | d => match seqSrc h1 d with | some S => Q ⟨enumD 1 S.items, S.w⟩ h1 | none => False) | _ => False
end
end DL
namespace Att
open PySem PySem.W PySem.Calls PyProof.Rows
theorem bits_weight : ∀ (ns : List Int) (x : Int), x ∈ ns → Builtin.Int.intBits x ≤ WData.weightAll (ns.map WData.int)
  | n :: r, x, h => by
    rw [List.map_cons]
    show _ ≤ WData.weight (.int n) + 1 + WData.weightAll (r.map WData.int)
    rcases List.mem_cons.mp h with rfl | h
    · have e : WData.weight (.int x) = Builtin.Int.intBits x := rfl
      rw [e]; omega
    · have := bits_weight r x h
      omega
theorem bits_args {ns : List Int} (h : WData.layableAll [WData.list (ns.map WData.int)] = true) : ∀ x ∈ ns, Builtin.Int.intBits x ≤ 1048576 := fun x hx => by
  have h : (WData.layable (.list (ns.map WData.int)) && true) = true := h
  rw [Bool.and_true] at h
  unfold WData.layable at h
  rw [Bool.and_eq_true] at h
  have h2 : WData.weight (.list (ns.map WData.int)) ≤ 2 ^ 20 := of_decide_eq_true h.2
  exact Nat.le_trans (bits_weight ns x hx) h2
theorem attach_call2 {l : OpenLaw} {n : Nat} {q : Program} {loose : List Str} {XP : (Str → Option Value) → Heap → Prop} {YP : World → Heap → Prop} {d : DefRec}
    (hn : l.most = some n) (hdf : d.params.defaults = [])
    (call : ∀ (w : World) (s₀ s₁ : Shared) (mg mb : Str → Option Value) (fa : Addr) (o : Obj) (pm cd doc : Value) (a : Addr) (vs : List Value) (ns : List Int),
      Ground q loose [] XP w s₀ mg mb s₁.heap → YP w s₁.heap →
      s₁.heap.get? fa = some o → o.data = .func (docDef d.name d.params d.body d.scope pm cd doc) → s₁.heap.CodeRec cd d.name → mg d.name = some (.ref fa) →
      s₁.heap.get? a = some { cls := .type "list", data := .seq vs.toArray } → IntsAre vs ns → ns.length ≤ n → (∀ x ∈ ns, Builtin.Int.intBits x ≤ 1048576) → s₁.gens = #[] →
      codeAny (model l.prog w) callerA (.call (.ref fa) ⟨[.ref a], []⟩) (fun r s' => r = .ok (.ret (.bool true)) ∧ OldK s₁.heap s'.heap ∧ s'.os = s₁.os ∧ AllBare s'.gens) s₁) :
    WalkO q loose XP YP l.row.toRowW d [] (fun f vs => PySem.call f vs) := by
  intro w s₀ s₁ mg mb G Y fa o pm cd doc dV kV ho hd hcd hD hmg hg args vals as hpre hlay hrd hwl hlo
  obtain rfl : dV = .none := Dflts.none hD hdf
  obtain rfl : kV = .none := Dflts.noKw hD
  obtain ⟨a, vs, ns, rfl, rfl, hobj, hints, hlen⟩ := script_of hn hpre hwl
  refine enter_call (codeAny_mono (call w s₀ s₁ mg mb fa o pm cd doc a vs ns G Y ho (fd_plain hd) hcd hmg hobj hints hlen (bits_args hlay) hg) fun r s' hq => ?_)
  obtain ⟨rfl, h2, h3, h4⟩ := hq
  exact ⟨.inl ⟨.bool true, .bool true, [], rfl, fun _ => rfl, .bool true, post_true l _, fun _ => ⟨List.Pairwise.nil, fun _ hm => (nomatch hm)⟩⟩, h2, h3, h4⟩
end Att
namespace DL
open PySem PySem.Spec L2 PySem.W PyProof.Rows
theorem walkD {l : OpenLaw} {n k : Nat} {q : Program} {loose : List Str} {XP : (Str → Option Value) → Heap → Prop} {YP : World → Heap → Prop} {d : DefRec} {K : Params → PySem.W.Frag} {S : DSp} {x : Str}
    (hn : l.most = some n) (hn2 : n ≤ sizeLine) (hdf : d.params.defaults = []) (hr : Room k callerA)
    (hY : ∀ (w : World) (h : Heap), YP w h → (K w.params).In h)
    (F : ∀ (w : World) (mg : Str → Option Value) (fa : Addr) (h : Heap), (K w.params).In h → h.Ns mainGlobals mg → mg d.name = some (.ref fa) →
      ∃ fd : FuncData, (∀ (s : Shared) (u : Value), BindsTo s fd ⟨[u], []⟩ [(x, u)]) ∧
        ∀ base : Heap, (K w.params).In base → base.Ns mainGlobals mg → FnOk l.prog w (K w.params) mg base CX0 k fa fd [x] (spD (K w.params) 1 S))
    (hS : ∀ ns : List Int, ns.length ≤ n → (∀ x ∈ ns, Builtin.Int.intBits x ≤ 1048576) → S [.scr (ns.map D.int)] [] (fun v _ => v = .bl true)) :
    WalkO q loose XP YP l.row.toRowW d [] (fun f vs => PySem.call f vs) := by
  refine Att.attach_call2 hn hdf fun w s₀ s₁ mg mb fa o pm cd doc a vs ns G Y ho hd hcd hmg hobj hints hlen hbits hg => ?_
  have KX := hY w _ Y
  obtain ⟨fd, hb, hF⟩ := F w mg fa _ KX G.T.g hmg
  refine L2.law_call KX G.T.g G.T.b G.T.builtins G.T.nolimit hg hobj hints (Nat.le_trans hlen hn2) hr hF hb (fun H hO hS' => ?_) fun H e s' z => z
  refine ⟨[], [], [], [.scr (ns.map D.int)], _, ⟨rfl, List.nodup_nil, fun p hp => (nomatch hp), fun i o e => ?_⟩, .cons (.scr (a := a) (us := ns.map V.int) ?_ (RelDs.ints ns)) .nil, rfl, hS ns hlen hbits, fun d h' α' H' v a b c r => ?_⟩
  · simp at e
  · rcases hS' with h | h
    · exact .inl ⟨fun z => (nomatch z), fun z => (nomatch z), h⟩
    · exact .inr h
  · have a : d = .bl true := a
    subst a
    cases r; rfl
end DL
namespace DL
open PySem PySem.Spec L2
mutual
noncomputable def nrD : D → Bool
  | .tup xs => nrDs xs
  | .lst xs => nrDs xs
  | .scr xs => nrDs xs
  | .ref _ => false
  | _ => true
noncomputable def nrDs : List D → Bool
  | [] => true
  | d :: ds => nrD d && nrDs ds
end
noncomputable def nrO : O → Bool
  | .lst xs => nrDs xs
  | .dT kvs => nrDs (kvs.map (·.2))
  | .dK kvs => nrDs (kvs.map (·.2))
  | .ins _ fs => nrDs (fs.map (·.2))
mutual
inductive Vw (n : Nat) (h : Hh) : D → D → Prop
  | nr {d : D} : nrD d = true → Vw n h d d
  | old {i : Nat} : i < n → Vw n h (.ref i) (.ref i)
  | opn {i : Nat} {xs ys : List D} : n ≤ i → h[i]? = some (.lst xs) → Vws n h xs ys → Vw n h (.ref i) (.lst ys)
  | tup {xs ys : List D} : Vws n h xs ys → Vw n h (.tup xs) (.tup ys)
  | lst {xs ys : List D} : Vws n h xs ys → Vw n h (.lst xs) (.lst ys)
inductive Vws (n : Nat) (h : Hh) : List D → List D → Prop
  | nil : Vws n h [] []
  | cons {d e : D} {ds es : List D} : Vw n h d e → Vws n h ds es → Vws n h (d :: ds) (e :: es)
end
section
variable {K : PySem.W.Frag} {π α β : List Addr} {H H' : Hp} {h : Hh}
theorem VT.less {a : Addr} {us : List V} (t : VT ⟨K, π⟩ (α ++ β) H a us) : VT ⟨K, π⟩ α H a us := ⟨fun z => t.1 (List.mem_append_left _ z), t.2⟩
theorem VS.less {a : Addr} {us : List V} (t : VS ⟨K, π⟩ (α ++ β) H a us) : VS ⟨K, π⟩ α H a us := by
  rcases t with ⟨n, m, t⟩ | t
  · exact .inl ⟨fun z => n (List.mem_append_left _ z), m, t⟩
  · exact .inr t
theorem VL.less {a : Addr} {us : List V} (t : VL ⟨K, π⟩ (α ++ β) H a us) : VL ⟨K, π⟩ α H a us := ⟨fun z => t.1 (List.mem_append_left _ z), t.2⟩
theorem VE.less {a : Addr} {u : HO} (t : VE ⟨K, π⟩ (α ++ β) H a u) : VE ⟨K, π⟩ α H a u := ⟨fun z => t.1 (List.mem_append_left _ z), t.2⟩
theorem nrDs_and {x : D} {r : List D} (e : nrDs (x :: r) = true) : nrD x = true ∧ nrDs r = true := by
  have e : (nrD _ && nrDs _) = true := e
  rw [Bool.and_eq_true] at e
  exact e
theorem RelD.nr {d : D} {v : V} (e : nrD d = true) (r : RelD ⟨K, π⟩ (α ++ β) H d v) : RelD ⟨K, π⟩ α H d v :=
  RelD.rec (motive_1 := fun d v _ => nrD d = true → RelD ⟨K, π⟩ α H d v) (motive_2 := fun ds us _ => nrDs ds = true → RelDs ⟨K, π⟩ α H ds us) (fun _ => .non) (fun b _ => .bl b) (fun i _ => .int i) (fun x _ => .str x) (fun t _ h e => .tup t.less (h e)) (fun t _ h e => .lst t.less (h e)) (fun t _ h e => .scr t.less (h e)) (fun _ e => nomatch e) (fun n t r _ => .exc n t.less r.less) (fun _ => .nil) (fun _ _ h t e => .cons (h (nrDs_and e).1) (t (nrDs_and e).2)) r e
theorem RelDs.nr {ds : List D} {vs : List V} (e : nrDs ds = true) (r : RelDs ⟨K, π⟩ (α ++ β) H ds vs) : RelDs ⟨K, π⟩ α H ds vs := by
  induction ds generalizing vs with
  | nil => cases r; exact .nil
  | cons d ds ih => cases r with | cons h t => exact .cons (h.nr (nrDs_and e).1) (ih (nrDs_and e).2 t)
mutual
noncomputable def rfD (n : Nat) : D → Bool
  | .tup xs => rfDs n xs
  | .lst xs => rfDs n xs
  | .scr xs => rfDs n xs
  | .ref i => decide (i < n)
  | _ => true
noncomputable def rfDs (n : Nat) : List D → Bool
  | [] => true
  | x :: r => rfD n x && rfDs n r
end
theorem RelD.rf {d : D} {v : V} (r : RelD ⟨K, π⟩ α H d v) : rfD α.length d = true :=
  RelD.rec (motive_1 := fun d _ _ => rfD α.length d = true) (motive_2 := fun ds _ _ => rfDs α.length ds = true) rfl (fun _ => rfl) (fun _ => rfl) (fun _ => rfl) (fun _ _ h => h) (fun _ _ h => h) (fun _ _ h => h) (fun h => decide_eq_true (List.getElem?_eq_some_iff.mp h).1) (fun _ _ _ => rfl) rfl (fun _ _ h t => Bool.and_eq_true_iff.mpr ⟨h, t⟩) r
theorem RelDs.rf {ds : List D} {vs : List V} (r : RelDs ⟨K, π⟩ α H ds vs) : rfDs α.length ds = true := by
  induction ds generalizing vs with
  | nil => rfl
  | cons d ds ih => cases r with | cons h t => exact Bool.and_eq_true_iff.mpr ⟨h.rf, ih t⟩
theorem RelD.old2 {d : D} {v : V} (e : rfD α.length d = true) (r : RelD ⟨K, π⟩ (α ++ β) H d v) : RelD ⟨K, π⟩ α H d v :=
  RelD.rec (motive_1 := fun d v _ => rfD α.length d = true → RelD ⟨K, π⟩ α H d v) (motive_2 := fun ds us _ => rfDs α.length ds = true → RelDs ⟨K, π⟩ α H ds us) (fun _ => .non) (fun b _ => .bl b) (fun i _ => .int i) (fun x _ => .str x) (fun t _ h e => .tup t.less (h e)) (fun t _ h e => .lst t.less (h e)) (fun t _ h e => .scr t.less (h e)) (fun h1 e => .ref (by rw [List.getElem?_append_left (of_decide_eq_true e)] at h1; exact h1)) (fun n t r _ => .exc n t.less r.less) (fun _ => .nil) (fun _ _ h t e => .cons (h (Bool.and_eq_true_iff.mp e).1) (t (Bool.and_eq_true_iff.mp e).2)) r e
theorem RelDs.old2 {ds : List D} {vs : List V} (e : rfDs α.length ds = true) (r : RelDs ⟨K, π⟩ (α ++ β) H ds vs) : RelDs ⟨K, π⟩ α H ds vs := by
  induction ds generalizing vs with
  | nil => cases r; exact .nil
  | cons d ds ih => cases r with | cons h t => exact .cons (h.old2 (Bool.and_eq_true_iff.mp e).1) (ih (Bool.and_eq_true_iff.mp e).2 t)
theorem RelD.old {d : D} {v v0 : V} (r0 : RelD ⟨K, π⟩ α H d v0) (r : RelD ⟨K, π⟩ (α ++ β) H' d v) : RelD ⟨K, π⟩ α H' d v := r.old2 r0.rf
theorem RelDs.old {ds : List D} {vs vs0 : List V} (r0 : RelDs ⟨K, π⟩ α H ds vs0) (r : RelDs ⟨K, π⟩ (α ++ β) H' ds vs) : RelDs ⟨K, π⟩ α H' ds vs := r.old2 r0.rf
theorem RelKV.old {κ : Type} : ∀ {ds : List (κ × D)} {vs vs0 : List (κ × V)}, RelKV ⟨K, π⟩ α H ds vs0 → RelKV ⟨K, π⟩ (α ++ β) H' ds vs → RelKV ⟨K, π⟩ α H' ds vs
  | _, _, _, .nil, r => by cases r; exact .nil
  | _, _, _, .cons r0 t0, r => by cases r with | cons r t => exact .cons (RelD.old r0 r) (RelKV.old t0 t)
theorem RelKV.nr {κ : Type} : ∀ {ds : List (κ × D)} {vs : List (κ × V)}, nrDs (ds.map (·.2)) = true → RelKV ⟨K, π⟩ (α ++ β) H ds vs → RelKV ⟨K, π⟩ α H ds vs
  | _, _, _, .nil => .nil
  | _, _, e, .cons r t => by
    have e : (nrD _ && nrDs _) = true := e
    rw [Bool.and_eq_true] at e
    exact .cons (RelD.nr e.1 r) (RelKV.nr e.2 t)
theorem RelO'.nr {p : Addr} {o : O} (e : nrO o = true) (r : RelO' ⟨K, π⟩ (α ++ β) H p o) : RelO' ⟨K, π⟩ α H p o := by
  cases r with
  | lst h t => exact .lst h (t.nr e)
  | dT h t => exact .dT h (t.nr e)
  | dK h t => exact .dK h (t.nr e)
  | ins n h t => exact .ins n h (t.nr e)
theorem RelO'.old {p p0 : Addr} {o : O} (r0 : RelO' ⟨K, π⟩ α H p0 o) (r : RelO' ⟨K, π⟩ (α ++ β) H' p o) : RelO' ⟨K, π⟩ α H' p o := by
  cases r0 with
  | lst h0 t0 => cases r with | lst h t => exact .lst h (t0.old t)
  | dT h0 t0 => cases r with | dT h t => exact .dT h (t0.old t)
  | dK h0 t0 => cases r with | dK h t => exact .dK h (t0.old t)
  | ins n0 h0 t0 => cases r with | ins n h t => exact .ins n h (t0.old t)
mutual
theorem Vw.rel (R : HRel ⟨K, π⟩ (α ++ β) H h) {n : Nat} (hn : α.length = n) : ∀ {d e : D} {v : V}, Vw n h d e → RelD ⟨K, π⟩ (α ++ β) H d v → RelD ⟨K, π⟩ α H e v
  | _, _, _, .nr e, r => r.nr e
  | _, _, _, .old hi, r => by
    cases r with
    | ref hp => exact .ref (by rw [List.getElem?_append_left (by omega)] at hp; exact hp)
  | _, _, _, .opn hi e t, r => by
    cases r with
    | ref hp =>
    obtain ⟨us, e2, e3⟩ := refL R hp e
    have hm := List.mem_of_getElem? hp
    refine .lst ⟨fun z => ?_, fun z => (R.dis _ z).1 hm, e2⟩ (Vws.rel R hn t e3)
    obtain ⟨j, hj, ej⟩ := List.getElem_of_mem z
    subst ej
    have q : (α ++ β)[j]? = some α[j] := by rw [List.getElem?_append_left hj, List.getElem?_eq_getElem hj]
    have := (List.getElem?_inj (List.getElem?_eq_some_iff.mp hp).1 R.nd).mp (hp.trans q.symm)
    omega
  | _, _, _, .tup t, r => by
    cases r with
    | tup q r => exact .tup q.less (Vws.rel R hn t r)
  | _, _, _, .lst t, r => by
    cases r with
    | lst q r => exact .lst q.less (Vws.rel R hn t r)
theorem Vws.rel (R : HRel ⟨K, π⟩ (α ++ β) H h) {n : Nat} (hn : α.length = n) : ∀ {ds es : List D} {vs : List V}, Vws n h ds es → RelDs ⟨K, π⟩ (α ++ β) H ds vs → RelDs ⟨K, π⟩ α H es vs
  | _, _, _, .nil, .nil => .nil
  | _, _, _, .cons e t, .cons r s => .cons (Vw.rel R hn e r) (Vws.rel R hn t s)
end
end
noncomputable def Dr (h : Hh) (Q : DK) : DK := fun d h' => ∃ h2 g d', h' = h2 ++ g ∧ h2.length = h.length ∧ (∀ (i : Nat) (o : O), h2[i]? = some o → h[i]? = some o ∨ nrO o = true) ∧ Vw h.length h' d d' ∧ Q d' h2
theorem Dr.rel {K : PySem.W.Frag} {π α α' : List Addr} {H H' : Hp} {h h' : Hh} {Q : DK} {d : D} {v : V} (R : HRel ⟨K, π⟩ α H h) (e : Ext α H α' H') (R' : HRel ⟨K, π⟩ α' H' h') (r : RelD ⟨K, π⟩ α' H' d v) (q : Dr h Q d h') :
    ∃ d' h2, Q d' h2 ∧ Ext α H α H' ∧ HRel ⟨K, π⟩ α H' h2 ∧ RelD ⟨K, π⟩ α H' d' v := by
  obtain ⟨h2, g, d', rfl, hl, ho, vw, q⟩ := q
  obtain ⟨⟨β, rfl, hb⟩, ek, ed⟩ := e
  have hn := R.len
  refine ⟨d', h2, q, ⟨⟨[], by simp, fun p hp => nomatch hp⟩, ek, ed⟩, ⟨by omega, ?_, fun p hp => ?_, fun i o eo => ?_⟩, vw.rel R' hn r⟩
  · exact R.nd
  · exact ⟨fun z => (R'.dis p hp).1 (List.mem_append_left _ z), (R'.dis p hp).2⟩
  · have hi : i < h2.length := (List.getElem?_eq_some_iff.mp eo).1
    obtain ⟨p, ep, ro⟩ := R'.obj i o (by rw [List.getElem?_append_left hi]; exact eo)
    refine ⟨p, by rw [List.getElem?_append_left (by omega)] at ep; exact ep, ?_⟩
    rcases ho i o eo with z | z
    · obtain ⟨p0, _, r0⟩ := R.obj i o z
      exact r0.old ro
    · exact ro.nr z
theorem fn_okD {P : Program} {w : World} {K : PySem.W.Frag} {mg : Str → Option Value} {base : Heap} {x qual : Str} {st : Stmt} {f : Addr} {fd : FuncData} {N ps : List Str} {k : Nat} {b : DS} {g : DSp} (F : Fun K x qual st f fd) (S : FnScope N ps (defScope st))
    (hb : ∀ (cdv : Value) (A : Around) (outer : List Env) (s : Shared) (H : Hp) (E : XK), Room k (A.deeper (PyProof.Rows.envOfC qual (defScope st) s.heap.objs.size f cdv)) → SSs (cxOf CX0 P w K mg base N qual (defScope st) f cdv A outer s H E).nox (defBody st) b)
    (hg : ∀ ds h Q, g ds h Q → runD N.length b ds h (Dr h Q)) : FnOk P w K mg base CX0 (k + 1) f fd ps (spD K ps.length g) := by
  refine F.ok S (fun vs H Q E h => ?_) fun cdv A outer s H vs Q E hr h => ?_
  · obtain ⟨π, α, h, ds, Q', R, r, l, _⟩ := h
    rw [← r.length, l]
  · obtain ⟨π, α, h, ds, Q', R, r, l, q, kk⟩ := h
    refine ⟨_, hb cdv A outer s H E hr, π, α, _, h, { nx := fun _ h' => Dr h Q' .non h', rt := Dr h Q' }, R, relS_start r, hg ds h Q' q, ⟨fun _ h' α' H' σ' a b c _ => ?_, fun d h' α' H' v a b c d' => ?_, fun _ _ _ _ _ a _ _ _ => a.elim, fun _ _ _ _ _ a _ _ _ => a.elim, fun _ _ _ _ _ _ _ a _ _ _ => a.elim⟩⟩
    · obtain ⟨d', h2, q, e, R2, r2⟩ := a.rel R b c .non
      exact kk d' h2 α H' .non q e R2 r2
    · obtain ⟨d', h2, q, e, R2, r2⟩ := a.rel R b c d'
      exact kk d' h2 α H' v q e R2 r2
theorem nrDs_map {τ : Type} {g : τ → D} (hg : ∀ x, nrD (g x) = true) : ∀ xs : List τ, nrDs (xs.map g) = true
  | [] => rfl
  | x :: r => by
    show (nrD (g x) && nrDs (r.map g)) = true
    rw [hg x, nrDs_map hg r]; rfl
theorem nrDs_all : ∀ {ds : List D}, (∀ d ∈ ds, nrD d = true) → nrDs ds = true
  | [], _ => rfl
  | d :: ds, h => by
    show (nrD d && nrDs ds) = true
    rw [h d List.mem_cons_self, nrDs_all fun e he => h e (List.mem_cons_of_mem _ he)]; rfl
theorem Vws.of {n : Nat} {h : Hh} : ∀ {xs : List D}, nrDs xs = true → Vws n h xs xs
  | [], _ => .nil
  | x :: r, e => by
    have e : (nrD x && nrDs r) = true := e
    rw [Bool.and_eq_true] at e
    exact .cons (.nr e.1) (Vws.of e.2)
theorem Dr.dropL {h : Hh} {Q : DK} {xs : List D} {g1 g2 : Hh} {k : Nat} (e : nrDs xs = true) (hk : k = h.length + g1.length) (q : Q (.lst xs) h) : Dr h Q (.ref k) (h ++ (g1 ++ .lst xs :: g2)) := by
  refine ⟨h, g1 ++ .lst xs :: g2, .lst xs, rfl, rfl, fun _ _ e => .inl e, .opn (by omega) ?_ (.of e), q⟩
  subst hk
  rw [List.getElem?_append_right (by omega), show h.length + g1.length - h.length = g1.length by omega, List.getElem?_append_right (Nat.le_refl _)]
  simp
end DL
namespace DL
open PySem L2
theorem atN {α : Type} (xs : List α) (i : Nat) : atI xs (i : Int) = xs[i]? := by
  unfold atI ixN
  by_cases h : i < xs.length
  · rw [if_pos (by omega), if_pos (by omega)]; simp
  · rw [if_pos (by omega), if_neg (by omega)]
    simp; omega
theorem atI_of {α : Type} {xs : List α} {i : Int} (h0 : 0 ≤ i) : atI xs i = xs[i.toNat]? := by
  have := atN xs i.toNat
  rwa [Int.toNat_of_nonneg h0] at this
theorem at1_0 {α : Type} (a : α) : atI [a] 0 = some a := rfl
theorem at2_0 {α : Type} (a b : α) : atI [a, b] 0 = some a := rfl
theorem at2_1 {α : Type} (a b : α) : atI [a, b] 1 = some b := rfl
theorem at3_0 {α : Type} (a b c : α) : atI [a, b, c] 0 = some a := rfl
theorem at3_1 {α : Type} (a b c : α) : atI [a, b, c] 1 = some b := rfl
theorem at3_2 {α : Type} (a b c : α) : atI [a, b, c] 2 = some c := rfl
theorem at4_0 {α : Type} (a b c d : α) : atI [a, b, c, d] 0 = some a := rfl
theorem at4_1 {α : Type} (a b c d : α) : atI [a, b, c, d] 1 = some b := rfl
theorem at4_2 {α : Type} (a b c d : α) : atI [a, b, c, d] 2 = some c := rfl
theorem at4_3 {α : Type} (a b c d : α) : atI [a, b, c, d] 3 = some d := rfl
theorem at5_0 {α : Type} (a b c d e : α) : atI [a, b, c, d, e] 0 = some a := rfl
theorem at5_1 {α : Type} (a b c d e : α) : atI [a, b, c, d, e] 1 = some b := rfl
theorem at5_2 {α : Type} (a b c d e : α) : atI [a, b, c, d, e] 2 = some c := rfl
theorem at5_3 {α : Type} (a b c d e : α) : atI [a, b, c, d, e] 3 = some d := rfl
theorem at5_4 {α : Type} (a b c d e : α) : atI [a, b, c, d, e] 4 = some e := rfl
theorem at6_0 {α : Type} (a b c d e f : α) : atI [a, b, c, d, e, f] 0 = some a := rfl
theorem at6_1 {α : Type} (a b c d e f : α) : atI [a, b, c, d, e, f] 1 = some b := rfl
theorem at6_2 {α : Type} (a b c d e f : α) : atI [a, b, c, d, e, f] 2 = some c := rfl
theorem at6_3 {α : Type} (a b c d e f : α) : atI [a, b, c, d, e, f] 3 = some d := rfl
theorem at6_4 {α : Type} (a b c d e f : α) : atI [a, b, c, d, e, f] 4 = some e := rfl
theorem at6_5 {α : Type} (a b c d e f : α) : atI [a, b, c, d, e, f] 5 = some f := rfl
theorem at7_0 {α : Type} (a b c d e f g : α) : atI [a, b, c, d, e, f, g] 0 = some a := rfl
theorem at7_1 {α : Type} (a b c d e f g : α) : atI [a, b, c, d, e, f, g] 1 = some b := rfl
theorem at7_2 {α : Type} (a b c d e f g : α) : atI [a, b, c, d, e, f, g] 2 = some c := rfl
theorem at7_3 {α : Type} (a b c d e f g : α) : atI [a, b, c, d, e, f, g] 3 = some d := rfl
theorem at7_4 {α : Type} (a b c d e f g : α) : atI [a, b, c, d, e, f, g] 4 = some e := rfl
theorem at7_5 {α : Type} (a b c d e f g : α) : atI [a, b, c, d, e, f, g] 5 = some f := rfl
theorem at7_6 {α : Type} (a b c d e f g : α) : atI [a, b, c, d, e, f, g] 6 = some g := rfl
theorem at8_0 {α : Type} (a b c d e f g i : α) : atI [a, b, c, d, e, f, g, i] 0 = some a := rfl
theorem at8_1 {α : Type} (a b c d e f g i : α) : atI [a, b, c, d, e, f, g, i] 1 = some b := rfl
theorem at8_2 {α : Type} (a b c d e f g i : α) : atI [a, b, c, d, e, f, g, i] 2 = some c := rfl
theorem at8_3 {α : Type} (a b c d e f g i : α) : atI [a, b, c, d, e, f, g, i] 3 = some d := rfl
theorem at8_4 {α : Type} (a b c d e f g i : α) : atI [a, b, c, d, e, f, g, i] 4 = some e := rfl
theorem at8_5 {α : Type} (a b c d e f g i : α) : atI [a, b, c, d, e, f, g, i] 5 = some f := rfl
theorem at8_6 {α : Type} (a b c d e f g i : α) : atI [a, b, c, d, e, f, g, i] 6 = some g := rfl
theorem at8_7 {α : Type} (a b c d e f g i : α) : atI [a, b, c, d, e, f, g, i] 7 = some i := rfl
theorem ix_ls {h : Hh} {d : D} {xs : List D} (e : lsOf h d = some xs) (k : Int) : ixD h d (.int k) = atI xs k := by
  cases d with
  | lst ys => cases e; rfl
  | scr ys => cases e; rfl
  | ref i =>
    have e : (match h[i]? with | some (.lst xs) => some xs | _ => none) = some xs := e
    show (match h[i]? with | some (.lst xs) => atI xs k | _ => none) = atI xs k
    cases q : h[i]? with
    | none => rw [q] at e; cases e
    | some o =>
      rw [q] at e
      cases o with
      | lst ys => cases e; rfl
      | _ => cases e
  | _ => cases e
theorem seq_ls {h : Hh} {d : D} {xs : List D} (e : lsOf h d = some xs) : seqOf h d = some xs := by
  cases d with
  | lst ys => exact e
  | scr ys => exact e
  | ref i => exact e
  | _ => cases e
theorem len_ls {h : Hh} {d : D} {xs : List D} (e : lsOf h d = some xs) : lenD h d = some xs.length := by
  have s := seq_ls e
  cases d with
  | lst ys => cases e; rfl
  | scr ys => cases e; rfl
  | ref i => show (seqOf h (.ref i)).map List.length = _; rw [s]; rfl
  | _ => cases e
noncomputable def Pre (h h' : Hh) : Prop := ∀ (i : Nat) (o : O), h[i]? = some o → h'[i]? = some o
theorem Pre.trans {a b c : Hh} (x : Pre a b) (y : Pre b c) : Pre a c := fun i o e => y i o (x i o e)
theorem Pre.ls {h h' : Hh} (p : Pre h h') {d : D} {xs : List D} (e : lsOf h d = some xs) : lsOf h' d = some xs := by
  cases d with
  | ref i =>
    have e : (match h[i]? with | some (.lst xs) => some xs | _ => none) = some xs := e
    show (match h'[i]? with | some (.lst xs) => some xs | _ => none) = some xs
    cases q : h[i]? with
    | none => rw [q] at e; cases e
    | some o => rw [q] at e; rw [p i o q]; exact e
  | _ => exact e
theorem get_new (h : Hh) (o : O) : (h ++ [o])[h.length]? = some o := by
  rw [List.getElem?_append_right (Nat.le_refl _)]; simp
theorem set_new (h : Hh) (o u : O) : (h ++ [o]).set h.length u = h ++ [u] := by
  rw [List.set_append_right _ _ (Nat.le_refl _)]; simp
theorem forL_map {τ : Type} {S : Src} {t : DG} {b : DS} {E : DEnds} (P : List τ → Sl → Hh → Prop) {g : τ → D} {ys : List τ} {δ : Sl} {h : Hh} (h0 : P [] δ h) (ok : ∀ p δ h, P p δ h → S.ok h)
    (hs : ∀ (p : List τ) (y : τ) (r : List τ) (δ : Sl) (h : Hh) (N : Sl → Hh → Prop), ys = p ++ y :: r → P p δ h → (∀ δ h, P (p ++ [y]) δ h → N δ h) → t (g y) δ h fun δ2 h2 => b { E with nx := N, ct := N, bk := E.nx } δ2 h2)
    (hd : ∀ δ h, P ys δ h → E.nx δ h) : forL S t b E (ys.map g) δ h := by
  have go : ∀ (r p : List τ) δ h, ys = p ++ r → P p δ h → forL S t b E (r.map g) δ h := by
    intro r
    induction r with
    | nil => intro p δ h e q; rw [List.append_nil] at e; subst e; exact ⟨ok _ _ _ q, hd _ _ q⟩
    | cons y r ih =>
      intro p δ h e q
      exact ⟨ok _ _ _ q, hs p y r δ h _ e q fun δ3 h3 p3 => ih (p ++ [y]) δ3 h3 (by rw [e]; simp) p3⟩
  exact go ys [] δ h rfl h0
theorem compL_map {τ : Type} {S : Src} {t : DG} {tf : DT} {te : DE} (P : List τ → List D → Sl → Hh → Prop) {g : τ → D} {ys : List τ} {δ : Sl} {h : Hh} {Q : List D → Hh → Prop} (h0 : P [] [] δ h) (ok : ∀ p a δ h, P p a δ h → S.ok h)
    (hs : ∀ (p : List τ) (y : τ) (r : List τ) (acc : List D) (δ : Sl) (h : Hh) (N : List D → Sl → Hh → Prop), ys = p ++ y :: r → P p acc δ h → (∀ a δ h, P (p ++ [y]) a δ h → N a δ h) →
      t (g y) δ h fun δ2 h2 => tf δ2 h2 fun b h3 => if b = true then te δ2 h3 fun z h4 => N (acc ++ [z]) δ2 h4 else N acc δ2 h3)
    (hd : ∀ a δ h, P ys a δ h → Q a h) : compL S t tf te (ys.map g) [] δ h Q := by
  have go : ∀ (r p : List τ) a δ h, ys = p ++ r → P p a δ h → compL S t tf te (r.map g) a δ h Q := by
    intro r
    induction r with
    | nil => intro p a δ h e q; rw [List.append_nil] at e; subst e; exact ⟨ok _ _ _ _ q, hd _ _ _ q⟩
    | cons y r ih =>
      intro p a δ h e q
      exact ⟨ok _ _ _ _ q, hs p y r a δ h (fun a δ h => compL S t tf te (r.map g) a δ h Q) e q fun a3 δ3 h3 p3 => ih (p ++ [y]) a3 δ3 h3 (by rw [e]; simp) p3⟩
  exact go ys [] [] δ h rfl h0
theorem comp1 {τ : Type} {S : Src} {tf : DT} {te : DE} {g : τ → D} {ys : List τ} {h : Hh} {fr : Sl} {Q : List D → Hh → Prop} (c : τ → Bool) (v : τ → D) (ok : S.ok h) (o : Option D)
    (htf : ∀ y ∈ ys, ∀ K : Bool → Hh → Prop, K (c y) h → tf (some (g y) :: fr) h K) (hte : ∀ y ∈ ys, c y = true → ∀ K : DK, K (v y) h → te (some (g y) :: fr) h K)
    (hd : Q ((ys.filter c).map v) h) : compL S (dName 0) tf te (ys.map g) [] (o :: fr) h Q := by
  refine compL_map (fun p a δ h' => h' = h ∧ (∃ o, δ = o :: fr) ∧ a = (p.filter c).map v) ⟨rfl, ⟨o, rfl⟩, rfl⟩ (fun p a δ h' q => by rw [q.1]; exact ok) ?_ ?_
  · rintro p y r acc δ h' N e ⟨rfl, ⟨o, rfl⟩, rfl⟩ hN
    have hy : y ∈ ys := by rw [e]; simp
    refine htf y hy _ ?_
    cases hc : c y with
    | true =>
      refine iteT (hte y hy hc _ (hN _ _ _ ⟨rfl, ⟨_, rfl⟩, ?_⟩))
      simp [List.filter_append, hc]
    | false =>
      refine iteF (hN _ _ _ ⟨rfl, ⟨_, rfl⟩, ?_⟩)
      simp [List.filter_append, hc]
  · rintro a δ h' ⟨rfl, _, rfl⟩
    exact hd
theorem comp1n {τ : Type} {S : Src} {te : DE} {g : τ → D} {ys : List τ} {h : Hh} {fr : Sl} {Q : List D → Hh → Prop} (v : τ → D) (ok : S.ok h) (o : Option D)
    (hte : ∀ y ∈ ys, ∀ K : DK, K (v y) h → te (some (g y) :: fr) h K) (hd : Q (ys.map v) h) : compL S (dName 0) dNoIf te (ys.map g) [] (o :: fr) h Q :=
  comp1 (fun _ => true) v ok o (fun _ _ K k => k) (fun y hy _ => hte y hy) ((show ys.filter (fun _ => true) = ys by simp).symm ▸ hd)
theorem rangeD_map (lo : Int) : ∀ n : Nat, rangeD lo n = (List.range n).map fun i => D.int (lo + (i : Nat)) := by
  intro n
  apply List.ext_getElem?
  intro i
  rw [rangeD_get]
  by_cases h : i < n <;> simp [h]
theorem enumD_map {τ : Type} (lo : Int) (g : τ → D) (ys : List τ) : enumD lo (ys.map g) = ys.zipIdx.map fun p => .tup [.int (lo + (p.2 : Nat)), g p.1] := by
  apply List.ext_getElem?
  intro i
  rw [enumD_get]
  simp [List.getElem?_zipIdx]
  cases ys[i]? <;> simp
theorem isN_non : isNon .non = true := rfl
theorem isN_bl (b : Bool) : isNon (.bl b) = false := rfl
theorem isN_int (b : Int) : isNon (.int b) = false := rfl
theorem isN_str (b : Str) : isNon (.str b) = false := rfl
theorem isN_tup (b : List D) : isNon (.tup b) = false := rfl
theorem isN_lst (b : List D) : isNon (.lst b) = false := rfl
theorem isN_ref (b : Nat) : isNon (.ref b) = false := rfl
theorem lsOf_lst (h : Hh) (xs : List D) : lsOf h (.lst xs) = some xs := rfl
theorem seqOf_lst (h : Hh) (xs : List D) : seqOf h (.lst xs) = some xs := rfl
theorem seqSrc_lst (h : Hh) (xs : List D) : seqSrc h (.lst xs) = some ⟨xs, []⟩ := rfl
theorem lenD_lst (h : Hh) (xs : List D) : lenD h (.lst xs) = some xs.length := rfl
theorem ixD_lst (h : Hh) (xs : List D) (i : Int) : ixD h (.lst xs) (.int i) = atI xs i := rfl
theorem trD_lst (h : Hh) (xs : List D) : trD h (.lst xs) = some (!xs.isEmpty) := rfl
theorem lsOf_scr (h : Hh) (xs : List D) : lsOf h (.scr xs) = some xs := rfl
theorem seqOf_scr (h : Hh) (xs : List D) : seqOf h (.scr xs) = some xs := rfl
theorem seqSrc_scr (h : Hh) (xs : List D) : seqSrc h (.scr xs) = some ⟨xs, []⟩ := rfl
theorem lenD_scr (h : Hh) (xs : List D) : lenD h (.scr xs) = some xs.length := rfl
theorem ixD_scr (h : Hh) (xs : List D) (i : Int) : ixD h (.scr xs) (.int i) = atI xs i := rfl
theorem trD_scr (h : Hh) (xs : List D) : trD h (.scr xs) = some (!xs.isEmpty) := rfl
theorem lsP_lst (h : Hh) (xs : List D) : lsP h (.lst xs) = some xs := rfl
theorem lsP_tup (h : Hh) (xs : List D) : lsP h (.tup xs) = none := rfl
theorem lsP_int (h : Hh) (x : Int) : lsP h (.int x) = none := rfl
theorem lsP_str (h : Hh) (x : Str) : lsP h (.str x) = none := rfl
theorem seqOf_tup (h : Hh) (xs : List D) : seqOf h (.tup xs) = some xs := rfl
theorem seqSrc_tup (h : Hh) (xs : List D) : seqSrc h (.tup xs) = some ⟨xs, []⟩ := rfl
theorem lenD_tup (h : Hh) (xs : List D) : lenD h (.tup xs) = some xs.length := rfl
theorem ixD_tup (h : Hh) (xs : List D) (i : Int) : ixD h (.tup xs) (.int i) = atI xs i := rfl
theorem trD_tup (h : Hh) (xs : List D) : trD h (.tup xs) = some (!xs.isEmpty) := rfl
theorem trD_non (h : Hh) : trD h .non = some false := rfl
theorem trD_bl (h : Hh) (b : Bool) : trD h (.bl b) = some b := rfl
theorem trD_int (h : Hh) (i : Int) : trD h (.int i) = some (i != 0) := rfl
theorem kindD_non (h : Hh)  : kindD h (.non) = some "NoneType" := rfl
theorem kindD_bl (h : Hh) (x : Bool) : kindD h (.bl x) = some "bool" := rfl
theorem kindD_int (h : Hh) (x : Int) : kindD h (.int x) = some "int" := rfl
theorem kindD_str (h : Hh) (x : Str) : kindD h (.str x) = some "str" := rfl
theorem kindD_tup (h : Hh) (x : List D) : kindD h (.tup x) = some "tuple" := rfl
theorem kindD_lst (h : Hh) (x : List D) : kindD h (.lst x) = some "list" := rfl
theorem isK_NoneType_bool : isKind "NoneType" "bool" = false := rfl
theorem isK_NoneType_int : isKind "NoneType" "int" = false := rfl
theorem isK_NoneType_str : isKind "NoneType" "str" = false := rfl
theorem isK_NoneType_tuple : isKind "NoneType" "tuple" = false := rfl
theorem isK_NoneType_list : isKind "NoneType" "list" = false := rfl
theorem isK_NoneType_dict : isKind "NoneType" "dict" = false := rfl
theorem isK_bool_bool : isKind "bool" "bool" = true := rfl
theorem isK_bool_int : isKind "bool" "int" = true := rfl
theorem isK_bool_str : isKind "bool" "str" = false := rfl
theorem isK_bool_tuple : isKind "bool" "tuple" = false := rfl
theorem isK_bool_list : isKind "bool" "list" = false := rfl
theorem isK_bool_dict : isKind "bool" "dict" = false := rfl
theorem isK_int_bool : isKind "int" "bool" = false := rfl
theorem isK_int_int : isKind "int" "int" = true := rfl
theorem isK_int_str : isKind "int" "str" = false := rfl
theorem isK_int_tuple : isKind "int" "tuple" = false := rfl
theorem isK_int_list : isKind "int" "list" = false := rfl
theorem isK_int_dict : isKind "int" "dict" = false := rfl
theorem isK_str_bool : isKind "str" "bool" = false := rfl
theorem isK_str_int : isKind "str" "int" = false := rfl
theorem isK_str_str : isKind "str" "str" = true := rfl
theorem isK_str_tuple : isKind "str" "tuple" = false := rfl
theorem isK_str_list : isKind "str" "list" = false := rfl
theorem isK_str_dict : isKind "str" "dict" = false := rfl
theorem isK_tuple_bool : isKind "tuple" "bool" = false := rfl
theorem isK_tuple_int : isKind "tuple" "int" = false := rfl
theorem isK_tuple_str : isKind "tuple" "str" = false := rfl
theorem isK_tuple_tuple : isKind "tuple" "tuple" = true := rfl
theorem isK_tuple_list : isKind "tuple" "list" = false := rfl
theorem isK_tuple_dict : isKind "tuple" "dict" = false := rfl
theorem isK_list_bool : isKind "list" "bool" = false := rfl
theorem isK_list_int : isKind "list" "int" = false := rfl
theorem isK_list_str : isKind "list" "str" = false := rfl
theorem isK_list_tuple : isKind "list" "tuple" = false := rfl
theorem isK_list_list : isKind "list" "list" = true := rfl
theorem isK_list_dict : isKind "list" "dict" = false := rfl
theorem isK_dict_bool : isKind "dict" "bool" = false := rfl
theorem isK_dict_int : isKind "dict" "int" = false := rfl
theorem isK_dict_str : isKind "dict" "str" = false := rfl
theorem isK_dict_tuple : isKind "dict" "tuple" = false := rfl
theorem isK_dict_list : isKind "dict" "list" = false := rfl
theorem isK_dict_dict : isKind "dict" "dict" = true := rfl
theorem lsOf_ref {h : Hh} {i : Nat} {xs : List D} (e : h[i]? = some (.lst xs)) : lsOf h (.ref i) = some xs := by show (match h[i]? with | some (.lst xs) => some xs | _ => none) = _; rw [e]
theorem seqSrc_ref {h : Hh} {i : Nat} {xs : List D} (e : h[i]? = some (.lst xs)) : seqSrc h (.ref i) = some ⟨xs, [(i, .lst xs)]⟩ := by show (match h[i]? with | some (.lst xs) => some (Src.mk xs [(i, .lst xs)]) | _ => none) = _; rw [e]
theorem ixN_0 (n : Nat) : ixN (n + 1) 0 = some 0 := by unfold ixN; rw [if_pos (by decide), if_pos (by omega)]; rfl
theorem ixN_10 : ixN 1 0 = some 0 := rfl
theorem ixN_nat {n i : Nat} (h : i < n) : ixN n (i : Int) = some i := by unfold ixN; rw [if_pos (by omega), if_pos (by omega)]; simp
theorem range_split {n d : Nat} {p r : List Nat} (e : List.range n = p ++ d :: r) : d = p.length ∧ d < n := by
  have h9 : p.length < n := by
    have : p.length < (List.range n).length := by rw [e]; simp
    simpa using this
  have h8 : (List.range n)[p.length]? = some d := by rw [e]; simp
  rw [List.getElem?_range h9] at h8
  cases h8; exact ⟨rfl, h9⟩
theorem seq_intro {f g : DS} {E : DEnds} {δ : Sl} {h : Hh} (k : ∀ N : Sl → Hh → Prop, N = g E → f { E with nx := N } δ h) : dSeq f g E δ h := k _ rfl
theorem beqN (a b : Nat) : ((a : Int) == (b : Int)) = decide (a = b) := by rw [Bool.eq_iff_iff]; simp; omega
theorem if_intro {t : DT} {a b : DS} {E : DEnds} {δ : Sl} {h : Hh} (k : ∀ A B : Sl → Hh → Prop, A = a E → B = b E → t δ h fun c h1 => if c = true then A δ h1 else B δ h1) : dIfS t a b E δ h := k _ _ rfl rfl
theorem iteB {c : Bool} {A B : Prop} (h1 : c = true → A) (h2 : c = false → B) : if c = true then A else B := by
  cases c with
  | true => exact iteT (h1 rfl)
  | false => exact iteF (h2 rfl)
theorem mulS {i j : Int} (h : -(2 ^ 64) < i ∧ i < 2 ^ 64) : IntMulOk i j := .of_left (intBits_le_64 h.1 h.2)
theorem mulS' {i j : Int} (h : -(2 ^ 64) < j ∧ j < 2 ^ 64) : IntMulOk i j := .of_right (intBits_le_64 h.1 h.2)
end DL
namespace CM
open PySem L2 DL
theorem sk_step : PyData.strOk (Str.ofString "step") = true := by decide +kernel
theorem sq_step_step : ((Str.ofString "step") == (Str.ofString "step")) = true := by decide +kernel
theorem sq_step_call : ((Str.ofString "step") == (Str.ofString "call")) = false := by decide +kernel
theorem sq_step_in : ((Str.ofString "step") == (Str.ofString "in")) = false := by decide +kernel
theorem sq_step_over : ((Str.ofString "step") == (Str.ofString "over")) = false := by decide +kernel
theorem sq_step_begin : ((Str.ofString "step") == (Str.ofString "begin")) = false := by decide +kernel
theorem sq_step_start : ((Str.ofString "step") == (Str.ofString "start")) = false := by decide +kernel
theorem sq_step_short : ((Str.ofString "step") == (Str.ofString "short")) = false := by decide +kernel
theorem sq_step_along : ((Str.ofString "step") == (Str.ofString "along")) = false := by decide +kernel
theorem sq_step_within : ((Str.ofString "step") == (Str.ofString "within")) = false := by decide +kernel
theorem sq_step_at : ((Str.ofString "step") == (Str.ofString "at")) = false := by decide +kernel
theorem sq_step_out : ((Str.ofString "step") == (Str.ofString "out")) = false := by decide +kernel
theorem sk_call : PyData.strOk (Str.ofString "call") = true := by decide +kernel
theorem sq_call_step : ((Str.ofString "call") == (Str.ofString "step")) = false := by decide +kernel
theorem sq_call_call : ((Str.ofString "call") == (Str.ofString "call")) = true := by decide +kernel
theorem sq_call_in : ((Str.ofString "call") == (Str.ofString "in")) = false := by decide +kernel
theorem sq_call_over : ((Str.ofString "call") == (Str.ofString "over")) = false := by decide +kernel
theorem sq_call_begin : ((Str.ofString "call") == (Str.ofString "begin")) = false := by decide +kernel
theorem sq_call_start : ((Str.ofString "call") == (Str.ofString "start")) = false := by decide +kernel
theorem sq_call_short : ((Str.ofString "call") == (Str.ofString "short")) = false := by decide +kernel
theorem sq_call_along : ((Str.ofString "call") == (Str.ofString "along")) = false := by decide +kernel
theorem sq_call_within : ((Str.ofString "call") == (Str.ofString "within")) = false := by decide +kernel
theorem sq_call_at : ((Str.ofString "call") == (Str.ofString "at")) = false := by decide +kernel
theorem sq_call_out : ((Str.ofString "call") == (Str.ofString "out")) = false := by decide +kernel
theorem sk_in : PyData.strOk (Str.ofString "in") = true := by decide +kernel
theorem sq_in_step : ((Str.ofString "in") == (Str.ofString "step")) = false := by decide +kernel
theorem sq_in_call : ((Str.ofString "in") == (Str.ofString "call")) = false := by decide +kernel
theorem sq_in_in : ((Str.ofString "in") == (Str.ofString "in")) = true := by decide +kernel
theorem sq_in_over : ((Str.ofString "in") == (Str.ofString "over")) = false := by decide +kernel
theorem sq_in_begin : ((Str.ofString "in") == (Str.ofString "begin")) = false := by decide +kernel
theorem sq_in_start : ((Str.ofString "in") == (Str.ofString "start")) = false := by decide +kernel
theorem sq_in_short : ((Str.ofString "in") == (Str.ofString "short")) = false := by decide +kernel
theorem sq_in_along : ((Str.ofString "in") == (Str.ofString "along")) = false := by decide +kernel
theorem sq_in_within : ((Str.ofString "in") == (Str.ofString "within")) = false := by decide +kernel
theorem sq_in_at : ((Str.ofString "in") == (Str.ofString "at")) = false := by decide +kernel
theorem sq_in_out : ((Str.ofString "in") == (Str.ofString "out")) = false := by decide +kernel
theorem sk_over : PyData.strOk (Str.ofString "over") = true := by decide +kernel
theorem sq_over_step : ((Str.ofString "over") == (Str.ofString "step")) = false := by decide +kernel
theorem sq_over_call : ((Str.ofString "over") == (Str.ofString "call")) = false := by decide +kernel
theorem sq_over_in : ((Str.ofString "over") == (Str.ofString "in")) = false := by decide +kernel
theorem sq_over_over : ((Str.ofString "over") == (Str.ofString "over")) = true := by decide +kernel
theorem sq_over_begin : ((Str.ofString "over") == (Str.ofString "begin")) = false := by decide +kernel
theorem sq_over_start : ((Str.ofString "over") == (Str.ofString "start")) = false := by decide +kernel
theorem sq_over_short : ((Str.ofString "over") == (Str.ofString "short")) = false := by decide +kernel
theorem sq_over_along : ((Str.ofString "over") == (Str.ofString "along")) = false := by decide +kernel
theorem sq_over_within : ((Str.ofString "over") == (Str.ofString "within")) = false := by decide +kernel
theorem sq_over_at : ((Str.ofString "over") == (Str.ofString "at")) = false := by decide +kernel
theorem sq_over_out : ((Str.ofString "over") == (Str.ofString "out")) = false := by decide +kernel
theorem sk_begin : PyData.strOk (Str.ofString "begin") = true := by decide +kernel
theorem sq_begin_step : ((Str.ofString "begin") == (Str.ofString "step")) = false := by decide +kernel
theorem sq_begin_call : ((Str.ofString "begin") == (Str.ofString "call")) = false := by decide +kernel
theorem sq_begin_in : ((Str.ofString "begin") == (Str.ofString "in")) = false := by decide +kernel
theorem sq_begin_over : ((Str.ofString "begin") == (Str.ofString "over")) = false := by decide +kernel
theorem sq_begin_begin : ((Str.ofString "begin") == (Str.ofString "begin")) = true := by decide +kernel
theorem sq_begin_start : ((Str.ofString "begin") == (Str.ofString "start")) = false := by decide +kernel
theorem sq_begin_short : ((Str.ofString "begin") == (Str.ofString "short")) = false := by decide +kernel
theorem sq_begin_along : ((Str.ofString "begin") == (Str.ofString "along")) = false := by decide +kernel
theorem sq_begin_within : ((Str.ofString "begin") == (Str.ofString "within")) = false := by decide +kernel
theorem sq_begin_at : ((Str.ofString "begin") == (Str.ofString "at")) = false := by decide +kernel
theorem sq_begin_out : ((Str.ofString "begin") == (Str.ofString "out")) = false := by decide +kernel
theorem sk_start : PyData.strOk (Str.ofString "start") = true := by decide +kernel
theorem sq_start_step : ((Str.ofString "start") == (Str.ofString "step")) = false := by decide +kernel
theorem sq_start_call : ((Str.ofString "start") == (Str.ofString "call")) = false := by decide +kernel
theorem sq_start_in : ((Str.ofString "start") == (Str.ofString "in")) = false := by decide +kernel
theorem sq_start_over : ((Str.ofString "start") == (Str.ofString "over")) = false := by decide +kernel
theorem sq_start_begin : ((Str.ofString "start") == (Str.ofString "begin")) = false := by decide +kernel
theorem sq_start_start : ((Str.ofString "start") == (Str.ofString "start")) = true := by decide +kernel
theorem sq_start_short : ((Str.ofString "start") == (Str.ofString "short")) = false := by decide +kernel
theorem sq_start_along : ((Str.ofString "start") == (Str.ofString "along")) = false := by decide +kernel
theorem sq_start_within : ((Str.ofString "start") == (Str.ofString "within")) = false := by decide +kernel
theorem sq_start_at : ((Str.ofString "start") == (Str.ofString "at")) = false := by decide +kernel
theorem sq_start_out : ((Str.ofString "start") == (Str.ofString "out")) = false := by decide +kernel
theorem sk_short : PyData.strOk (Str.ofString "short") = true := by decide +kernel
theorem sq_short_step : ((Str.ofString "short") == (Str.ofString "step")) = false := by decide +kernel
theorem sq_short_call : ((Str.ofString "short") == (Str.ofString "call")) = false := by decide +kernel
theorem sq_short_in : ((Str.ofString "short") == (Str.ofString "in")) = false := by decide +kernel
theorem sq_short_over : ((Str.ofString "short") == (Str.ofString "over")) = false := by decide +kernel
theorem sq_short_begin : ((Str.ofString "short") == (Str.ofString "begin")) = false := by decide +kernel
theorem sq_short_start : ((Str.ofString "short") == (Str.ofString "start")) = false := by decide +kernel
theorem sq_short_short : ((Str.ofString "short") == (Str.ofString "short")) = true := by decide +kernel
theorem sq_short_along : ((Str.ofString "short") == (Str.ofString "along")) = false := by decide +kernel
theorem sq_short_within : ((Str.ofString "short") == (Str.ofString "within")) = false := by decide +kernel
theorem sq_short_at : ((Str.ofString "short") == (Str.ofString "at")) = false := by decide +kernel
theorem sq_short_out : ((Str.ofString "short") == (Str.ofString "out")) = false := by decide +kernel
theorem sk_along : PyData.strOk (Str.ofString "along") = true := by decide +kernel
theorem sq_along_step : ((Str.ofString "along") == (Str.ofString "step")) = false := by decide +kernel
theorem sq_along_call : ((Str.ofString "along") == (Str.ofString "call")) = false := by decide +kernel
theorem sq_along_in : ((Str.ofString "along") == (Str.ofString "in")) = false := by decide +kernel
theorem sq_along_over : ((Str.ofString "along") == (Str.ofString "over")) = false := by decide +kernel
theorem sq_along_begin : ((Str.ofString "along") == (Str.ofString "begin")) = false := by decide +kernel
theorem sq_along_start : ((Str.ofString "along") == (Str.ofString "start")) = false := by decide +kernel
theorem sq_along_short : ((Str.ofString "along") == (Str.ofString "short")) = false := by decide +kernel
theorem sq_along_along : ((Str.ofString "along") == (Str.ofString "along")) = true := by decide +kernel
theorem sq_along_within : ((Str.ofString "along") == (Str.ofString "within")) = false := by decide +kernel
theorem sq_along_at : ((Str.ofString "along") == (Str.ofString "at")) = false := by decide +kernel
theorem sq_along_out : ((Str.ofString "along") == (Str.ofString "out")) = false := by decide +kernel
theorem sk_within : PyData.strOk (Str.ofString "within") = true := by decide +kernel
theorem sq_within_step : ((Str.ofString "within") == (Str.ofString "step")) = false := by decide +kernel
theorem sq_within_call : ((Str.ofString "within") == (Str.ofString "call")) = false := by decide +kernel
theorem sq_within_in : ((Str.ofString "within") == (Str.ofString "in")) = false := by decide +kernel
theorem sq_within_over : ((Str.ofString "within") == (Str.ofString "over")) = false := by decide +kernel
theorem sq_within_begin : ((Str.ofString "within") == (Str.ofString "begin")) = false := by decide +kernel
theorem sq_within_start : ((Str.ofString "within") == (Str.ofString "start")) = false := by decide +kernel
theorem sq_within_short : ((Str.ofString "within") == (Str.ofString "short")) = false := by decide +kernel
theorem sq_within_along : ((Str.ofString "within") == (Str.ofString "along")) = false := by decide +kernel
theorem sq_within_within : ((Str.ofString "within") == (Str.ofString "within")) = true := by decide +kernel
theorem sq_within_at : ((Str.ofString "within") == (Str.ofString "at")) = false := by decide +kernel
theorem sq_within_out : ((Str.ofString "within") == (Str.ofString "out")) = false := by decide +kernel
theorem sk_at : PyData.strOk (Str.ofString "at") = true := by decide +kernel
theorem sq_at_step : ((Str.ofString "at") == (Str.ofString "step")) = false := by decide +kernel
theorem sq_at_call : ((Str.ofString "at") == (Str.ofString "call")) = false := by decide +kernel
theorem sq_at_in : ((Str.ofString "at") == (Str.ofString "in")) = false := by decide +kernel
theorem sq_at_over : ((Str.ofString "at") == (Str.ofString "over")) = false := by decide +kernel
theorem sq_at_begin : ((Str.ofString "at") == (Str.ofString "begin")) = false := by decide +kernel
theorem sq_at_start : ((Str.ofString "at") == (Str.ofString "start")) = false := by decide +kernel
theorem sq_at_short : ((Str.ofString "at") == (Str.ofString "short")) = false := by decide +kernel
theorem sq_at_along : ((Str.ofString "at") == (Str.ofString "along")) = false := by decide +kernel
theorem sq_at_within : ((Str.ofString "at") == (Str.ofString "within")) = false := by decide +kernel
theorem sq_at_at : ((Str.ofString "at") == (Str.ofString "at")) = true := by decide +kernel
theorem sq_at_out : ((Str.ofString "at") == (Str.ofString "out")) = false := by decide +kernel
theorem sk_out : PyData.strOk (Str.ofString "out") = true := by decide +kernel
theorem sq_out_step : ((Str.ofString "out") == (Str.ofString "step")) = false := by decide +kernel
theorem sq_out_call : ((Str.ofString "out") == (Str.ofString "call")) = false := by decide +kernel
theorem sq_out_in : ((Str.ofString "out") == (Str.ofString "in")) = false := by decide +kernel
theorem sq_out_over : ((Str.ofString "out") == (Str.ofString "over")) = false := by decide +kernel
theorem sq_out_begin : ((Str.ofString "out") == (Str.ofString "begin")) = false := by decide +kernel
theorem sq_out_start : ((Str.ofString "out") == (Str.ofString "start")) = false := by decide +kernel
theorem sq_out_short : ((Str.ofString "out") == (Str.ofString "short")) = false := by decide +kernel
theorem sq_out_along : ((Str.ofString "out") == (Str.ofString "along")) = false := by decide +kernel
theorem sq_out_within : ((Str.ofString "out") == (Str.ofString "within")) = false := by decide +kernel
theorem sq_out_at : ((Str.ofString "out") == (Str.ofString "at")) = false := by decide +kernel
theorem sq_out_out : ((Str.ofString "out") == (Str.ofString "out")) = true := by decide +kernel
end CM
namespace CM
open PySem L2 DL
inductive Kind where
  | step (t : List Nat) | call (g : Nat) (into back over : List Nat)
structure Edge where
  p : Nat
  q : Nat
  cost : Nat
  k : Kind
structure Fn where
  places : Nat
  facts : Nat
  edges : List Edge
noncomputable abbrev Chart := List Fn
inductive Mv where | step | over | inn
  deriving DecidableEq
noncomputable abbrev nD (n : Nat) : D := .int (n : Int)
noncomputable def tD (t : List Nat) : D := .tup (t.map nD)
noncomputable def eD (e : Edge) : D := match e.k with
  | .step t => .tup [.str "step", nD e.p, nD e.q, nD e.cost, tD t]
  | .call g i b o => .tup [.str "call", nD e.p, nD e.q, nD e.cost, nD g, tD i, tD b, tD o]
noncomputable def Edge.isStep (e : Edge) : Bool := match e.k with | .step _ => true | .call _ _ _ _ => false
noncomputable def tOk (t : List Nat) (n m : Nat) : Prop := t.length = n ∧ ∀ x ∈ t, x < 2 ^ m
noncomputable def eOk (C : Chart) (F : Fn) (e : Edge) : Prop := e.p < F.places ∧ e.q < F.places ∧ 1 ≤ e.cost ∧ e.cost ≤ 10 ^ 18 ∧ match e.k with
  | .step t => tOk t F.facts F.facts
  | .call g i b o => ∃ G, C[g]? = some G ∧ tOk i F.facts G.facts ∧ tOk b G.facts F.facts ∧ tOk o F.facts F.facts
structure WF (C : Chart) : Prop where
  one : 1 ≤ C.length
  six : C.length ≤ 6
  fn : ∀ (f : Nat) (F : Fn), C[f]? = some F → 1 ≤ F.places ∧ F.places ≤ 10 ∧ 1 ≤ F.facts ∧ F.facts ≤ 6 ∧ F.edges.length ≤ 100 ∧ ∀ e ∈ F.edges, eOk C F e
noncomputable def ChD (h : Hh) (d : D) (C : Chart) : Prop := ∃ fs, lsOf h d = some fs ∧ fs.length = C.length ∧ ∀ (i : Nat) (F : Fn), C[i]? = some F → ∃ e, fs[i]? = some (.tup [nD F.places, nD F.facts, e]) ∧ lsOf h e = some (F.edges.map eD)
theorem ChD.mono {h h' : Hh} {d : D} {C : Chart} (p : Pre h h') (c : ChD h d C) : ChD h' d C := by
  obtain ⟨fs, h1, h2, h3⟩ := c
  exact ⟨fs, p.ls h1, h2, fun i F e => let ⟨x, a, b⟩ := h3 i F e; ⟨x, a, p.ls b⟩⟩
theorem ChD.len {h : Hh} {d : D} {C : Chart} (c : ChD h d C) : lenD h d = some C.length := by
  obtain ⟨fs, h1, h2, h3⟩ := c
  rw [len_ls h1, h2]
theorem band1 (x : Nat) : Builtin.bitAnd (x : Int) 1 = ((x % 2 : Nat) : Int) := by
  unfold Builtin.bitAnd
  rw [decide_eq_true (show (0 : Int) ≤ (x : Int) by omega), decide_eq_true (show (0 : Int) ≤ 1 by decide)]
  show (((x : Int).toNat &&& (1 : Int).toNat : Nat) : Int) = _
  have e1 : ((x : Int).toNat) = x := by omega
  have e2 : ((1 : Int).toNat) = 1 := rfl
  rw [e1, e2, Nat.and_one_is_mod]
theorem shr_nat (m d : Nat) : (m : Int) / 2 ^ d = ((m / 2 ^ d : Nat) : Int) := by
  have e : (2 : Int) ^ d = ((2 ^ d : Nat) : Int) := by simp
  rw [e]; exact (Int.natCast_ediv m (2 ^ d)).symm
theorem bitI (m d : Nat) : Builtin.bitAnd ((m : Int) / 2 ^ d) 1 = if m.testBit d then 1 else 0 := by
  rw [shr_nat, band1, Nat.testBit_eq_decide_div_mod_eq]
  have := Nat.mod_two_eq_zero_or_one (m / 2 ^ d)
  rcases this with h | h <;> simp [h]
theorem band_nat (a b : Nat) : Builtin.bitAnd (a : Int) (b : Int) = ((a &&& b : Nat) : Int) := by
  unfold Builtin.bitAnd
  rw [decide_eq_true (show (0 : Int) ≤ (a : Int) by omega), decide_eq_true (show (0 : Int) ≤ (b : Int) by omega)]
  show (((a : Int).toNat &&& (b : Int).toNat : Nat) : Int) = _
  simp
theorem bor_nat (a b : Nat) : Builtin.bitOr (a : Int) (b : Int) = ((a ||| b : Nat) : Int) := by
  unfold Builtin.bitOr Builtin.bitAnd Builtin.bitNot
  rw [decide_eq_false (show ¬ (0 : Int) ≤ -(a : Int) - 1 by omega), decide_eq_false (show ¬ (0 : Int) ≤ -(b : Int) - 1 by omega)]
  dsimp only
  rw [show (-(-(a : Int) - 1) - 1).toNat = a by omega, show (-(-(b : Int) - 1) - 1).toNat = b by omega]
  omega
noncomputable def br (t : List Nat) (d : Nat) (e : Int) : Bool := decide (0 ≤ e) && (t.getD d 0).testBit e.toNat
noncomputable def edgeAt (C : Chart) (f : Nat) (n : Int) : Option Edge := if 0 ≤ n then (C[f]?).bind fun F => F.edges[n.toNat]? else none
noncomputable def Edge.tab (e : Edge) (w : Mv) : List Nat := match w, e.k with
  | .step, .step t => t
  | .inn, .call _ i _ _ => i
  | .over, .call _ _ _ o => o
  | _, _ => []
noncomputable def takes (C : Chart) (f p d : Nat) (w : Mv) (n e : Int) : Option Edge := (edgeAt C f n).bind fun E => if (E.isStep == (w == .step)) = true ∧ E.p = p ∧ br (E.tab w) d e = true then some E else none
end CM
namespace CM
open PySem L2 DL
noncomputable def Pd (h : Hh) (d : D) (p : PyData) (n : Nat) : Prop := IsP h d p ∧ p.canLay0 = true ∧ p.depth ≤ n
noncomputable def Pds (h : Hh) (ds : List D) (ps : List PyData) (n : Nat) : Prop := IsPs h ds ps ∧ PyData.canLayAll0 ps = true ∧ PyData.depthAll ps ≤ n
theorem Pd.int {h : Hh} {n : Nat} (i : Int) : Pd h (.int i) (.int i) n := ⟨.int i, rfl, Nat.zero_le _⟩
theorem Pd.str {h : Hh} {n : Nat} {x : Str} (e : PyData.strOk x = true) : Pd h (.str x) (.str x) n := ⟨.str x, e, Nat.zero_le _⟩
theorem Pds.nil {h : Hh} {n : Nat} : Pds h [] [] n := ⟨.nil, rfl, Nat.zero_le _⟩
theorem Pds.cons {h : Hh} {n : Nat} {d : D} {p : PyData} {ds : List D} {ps : List PyData} (a : Pd h d p n) (b : Pds h ds ps n) : Pds h (d :: ds) (p :: ps) n :=
  ⟨.cons a.1 b.1, by show (p.canLay0 && PyData.canLayAll0 ps) = true; rw [a.2.1, b.2.1]; rfl, by show max p.depth (PyData.depthAll ps) ≤ n; exact Nat.max_le.mpr ⟨a.2.2, b.2.2⟩⟩
theorem Pd.tup {h : Hh} {n : Nat} {ds : List D} {ps : List PyData} (a : Pds h ds ps n) : Pd h (.tup ds) (.tuple ps) (n + 1) := ⟨.tup a.1, a.2.1, Nat.succ_le_succ a.2.2⟩
theorem Pd.lst {h : Hh} {n : Nat} {ds : List D} {ps : List PyData} (a : Pds h ds ps n) : Pd h (.lst ds) (.list ps) (n + 1) := ⟨.lst a.1, a.2.1, Nat.succ_le_succ a.2.2⟩
theorem Pd.ref {h : Hh} {n i : Nat} {ds : List D} {ps : List PyData} (e : h[i]? = some (.lst ds)) (a : Pds h ds ps n) : Pd h (.ref i) (.list ps) (n + 1) := ⟨.ref e a.1, a.2.1, Nat.succ_le_succ a.2.2⟩
theorem Pd.up {h : Hh} {n m : Nat} {d : D} {p : PyData} (a : Pd h d p n) (e : n ≤ m) : Pd h d p m := ⟨a.1, a.2.1, Nat.le_trans a.2.2 e⟩
theorem Pds.map {τ : Type} {h : Hh} {n : Nat} {f : τ → D} {g : τ → PyData} : ∀ {xs : List τ}, (∀ x, Pd h (f x) (g x) n) → Pds h (xs.map f) (xs.map g) n
  | [], _ => .nil
  | x :: xs, k => .cons (k x) (Pds.map k)
theorem Pd.shaped {h : Hh} {n : Nat} {d : D} {p : PyData} (a : Pd h d p n) (e : n ≤ 64) : SeqAt.shaped p = true := by
  unfold SeqAt.shaped
  rw [a.2.1, decide_eq_true (Nat.le_trans a.2.2 e)]; rfl
theorem pEq_same {neg : Bool} {x y : D} {h : Hh} {Q : DK} {p : PyData} {n : Nat} (e : eqS x y = none) (a : Pd h x p n) (b : Pd h y p n) (hn : n ≤ 64) (q : Q (.bl (!neg)) h) : pEq neg x y h Q := by
  unfold pEq
  rw [e]
  refine ⟨p, p, a.1, b.1, a.shaped hn, b.shaped hn, ?_⟩
  rw [SeqAt.eqv_refl p a.2.1]
  cases neg <;> exact q
end CM
namespace CM
open PySem L2 DL
inductive Mo where
  | go (w : Mv) (k e : Nat) | out (e : Nat)
structure Spot where
  f : Nat
  p : Nat
  d : Nat
  cost : Nat
  op : List (Nat × Nat)
noncomputable def stOk (C : Chart) : Nat → List (Nat × Nat) → Prop
  | _, [] => True
  | f, x :: r => ∃ G E i b o, C[x.1]? = some G ∧ G.edges[x.2]? = some E ∧ E.k = .call f i b o ∧ stOk C x.1 r
noncomputable def sOk (C : Chart) (s : Spot) : Prop := ∃ F, C[s.f]? = some F ∧ s.p < F.places ∧ s.d < F.facts ∧ stOk C s.f s.op
inductive Nx (C : Chart) : Spot → Mo → Spot → Prop
  | go {s : Spot} {w : Mv} {k e : Nat} {E : Edge} : w ≠ .inn → takes C s.f s.p s.d w (k : Int) (e : Int) = some E → Nx C s (.go w k e) ⟨s.f, E.q, e, s.cost + E.cost, s.op⟩
  | inn {s : Spot} {k e : Nat} {E : Edge} {g : Nat} {i b o : List Nat} : takes C s.f s.p s.d .inn (k : Int) (e : Int) = some E → E.k = .call g i b o → Nx C s (.go .inn k e) ⟨g, 0, e, s.cost + E.cost, (s.f, k) :: s.op⟩
  | out {s : Spot} {x : Nat × Nat} {r : List (Nat × Nat)} {e : Nat} {F G : Fn} {E : Edge} {g : Nat} {i b o : List Nat} : s.op = x :: r → C[s.f]? = some F → s.p + 1 = F.places → C[x.1]? = some G → G.edges[x.2]? = some E → E.k = .call g i b o → br b s.d (e : Int) = true → Nx C s (.out e) ⟨x.1, E.q, e, s.cost, r⟩
structure Way (C : Chart) (fact : Nat) (ms : List Mo) (ss : List Spot) : Prop where
  len : ss.length = ms.length + 1
  one : ss[0]? = some ⟨0, 0, fact, 0, []⟩
  ok : ∀ s ∈ ss, sOk C s
  nx : ∀ (i : Nat) (m : Mo) (s s' : Spot), ms[i]? = some m → ss[i]? = some s → ss[i + 1]? = some s' → Nx C s m s'
theorem Way.nil {C : Chart} {fact : Nat} {F : Fn} (wf : WF C) (hF : C[0]? = some F) (hd : fact < F.facts) : Way C fact [] [⟨0, 0, fact, 0, []⟩] :=
  ⟨rfl, rfl, fun s hs => by rw [List.mem_singleton.mp hs]; exact ⟨F, hF, (wf.fn 0 F hF).1, hd, trivial⟩, fun i m s s' h => by simp at h⟩
theorem Nx.len {C : Chart} {s s' : Spot} {m : Mo} (n : Nx C s m s') : s'.op.length ≤ s.op.length + 1 := by
  cases n with
  | go => exact Nat.le_succ _
  | inn => exact Nat.le_refl _
  | out h => rw [h]; show _ ≤ (_ :: _).length + 1; simp; omega
theorem atLast {α : Type} (xs : List α) (x : α) : atI (xs ++ [x]) (-1) = some x := by
  unfold atI ixN
  rw [if_neg (by decide), if_pos (by simp; omega)]
  show (xs ++ [x])[(-1 + ((xs ++ [x]).length : Int)).toNat]? = some x
  rw [show (-1 + ((xs ++ [x]).length : Int)).toNat = xs.length by simp; omega]
  simp
end CM
namespace CM
open PySem L2 DL
end CM
namespace DL
open PySem PySem.Spec L2
section
variable {K : KP} {α : List Addr} {H : Hp}
theorem RelKV.look {f : Str} : ∀ {ds : List (Str × D)} {us : List (Str × V)} {d : D}, RelKV K α H ds us → ds.lookup f = some d → ∃ u, us.lookup f = some u ∧ RelD K α H d u
  | _, _, _, .nil, e => nomatch e
  | _, _, d, .cons (k := g) r t, e => by
    rw [List.lookup_cons] at e ⊢
    cases q : f == g with
    | true => rw [q] at e; cases e; exact ⟨_, rfl, r⟩
    | false => rw [q] at e; exact RelKV.look t e
theorem RelKV.lookN {f : Str} : ∀ {ds : List (Str × D)} {us : List (Str × V)}, RelKV K α H ds us → ds.lookup f = none → us.lookup f = none
  | _, _, .nil, _ => rfl
  | _, _, .cons (k := g) r t, e => by
    rw [List.lookup_cons] at e ⊢
    cases q : f == g with
    | true => rw [q] at e; cases e
    | false => rw [q] at e; exact RelKV.lookN t e
noncomputable def putA (f : Str) (v : D) : List (Str × D) → List (Str × D)
  | [] => [(f, v)]
  | (g, x) :: r => if g = f then (g, v) :: r else (g, x) :: putA f v r
theorem RelKV.putA {f : Str} {d : D} {u : V} (h : RelD K α H d u) : ∀ {ds : List (Str × D)} {us : List (Str × V)}, RelKV K α H ds us → RelKV K α H (putA f d ds) (putF f u us)
  | _, _, .nil => .cons h .nil
  | _, _, .cons (k := g) (d := d') (u := u') (ds := ds) (us := us) r t => by
    show RelKV K α H (if g = f then (g, d) :: ds else (g, d') :: DL.putA f d ds) (if g = f then (g, u) :: us else (g, u') :: putF f u us)
    by_cases q : g = f
    · rw [if_pos q, if_pos q]; exact .cons h t
    · rw [if_neg q, if_neg q]; exact .cons r (RelKV.putA h t)
theorem RelKV.len {κ : Type} : ∀ {ds : List (κ × D)} {us : List (κ × V)}, RelKV K α H ds us → ds.length = us.length
  | _, _, .nil => rfl
  | _, _, .cons r t => by rw [List.length_cons, List.length_cons, RelKV.len t]
end
noncomputable def insO (cn : Str) (h : Hh) : D → Option (List (Str × D))
  | .ref i => match h[i]? with | some (.ins c fs) => if c = cn then some fs else none | _ => none
  | _ => none
theorem insO_ref {cn : Str} {h : Hh} {i : Nat} {fs : List (Str × D)} (e : h[i]? = some (.ins cn fs)) : insO cn h (.ref i) = some fs := by
  show (match h[i]? with | some (.ins c fs) => if c = cn then some fs else none | _ => none) = _
  rw [e]; exact if_pos rfl
theorem insO_inv {cn : Str} {h : Hh} {d : D} {fs : List (Str × D)} (e : insO cn h d = some fs) : ∃ i, d = .ref i ∧ h[i]? = some (.ins cn fs) := by
  cases d with
  | ref i =>
    have e : (match h[i]? with | some (.ins c fs) => if c = cn then some fs else none | _ => none) = some fs := e
    cases q : h[i]? with
    | none => rw [q] at e; cases e
    | some o =>
      rw [q] at e
      cases o with
      | ins c gs =>
        have e : (if c = cn then some gs else none) = some fs := e
        by_cases z : c = cn
        · rw [if_pos z] at e; cases e; subst z; exact ⟨i, rfl, q⟩
        · rw [if_neg z] at e; cases e
      | _ => cases e
  | _ => cases e
theorem ins_rel {K : KP} {α : List Addr} {H : Hp} {h : Hh} {cn : Str} {d : D} {v : V} {fs : List (Str × D)} (R : HRel K α H h) (r : RelD K α H d v) (e : insO cn h d = some fs) :
    ∃ i p C dx us, d = .ref i ∧ v = .ref p ∧ PySem.W.nsIn K.K mainGlobals cn = some (some (.ref C)) ∧ α[i]? = some p ∧ H p = some (.ins C dx us) ∧ RelKV K α H fs us := by
  obtain ⟨i, rfl, q⟩ := insO_inv e
  cases r with
  | ref hp =>
    obtain ⟨p, C, dx, us, n, e1, e2, e3⟩ := R.ins q
    rw [hp] at e1; cases e1
    exact ⟨i, _, C, dx, us, rfl, rfl, n, hp, e2, e3⟩
structure FldX (K : PySem.W.Frag) (cn f : Str) : Prop where
  ex : ∃ C, PySem.W.nsIn K mainGlobals cn = some (some (.ref C)) ∧ Cls K C ∧ NoAttr K C f
noncomputable def pFld (cn f : Str) : P1 := fun d h Q => match insO cn h d with | some fs => (match fs.lookup f with | some v => Q v h | none => False) | none => False
noncomputable def setF (cn f : Str) (o v : D) (h : Hh) (Q : Hh → Prop) : Prop := match o with
  | .ref i => match h[i]? with | some (.ins c fs) => (c = cn ∧ fs.length < 1000) ∧ Q (h.set i (.ins cn (putA f v fs))) | _ => False
  | _ => False
noncomputable def dSetF (cn f : Str) (fo fv : DE) : DS := fun E δ h => fv δ h fun y h1 => fo δ h1 fun x h2 => setF cn f x y h2 fun h3 => E.nx δ h3
noncomputable def dAugF (cn f : Str) (fo fv : DE) (p : P2) : DS := fun E δ h => fo δ h fun x h1 => match insO cn h1 x with
  | some fs => match fs.lookup f with
    | some v => fv δ h1 fun y h2 => p v y h2 fun z h3 => setF cn f x z h3 fun h4 => E.nx δ h4
    | none => False
  | none => False
theorem setF_lift {K : PySem.W.Frag} {π α : List Addr} {H : Hp} {h : Hh} {cn f : Str} {o v : D} {ov vv : V} {Q' : Hh → Prop} (R : HRel ⟨K, π⟩ α H h) (ro : RelD ⟨K, π⟩ α H o ov) (rv : RelD ⟨K, π⟩ α H v vv) (g : setF cn f o v h Q') :
    ∃ p C dx us, ov = .ref p ∧ PySem.W.nsIn K mainGlobals cn = some (some (.ref C)) ∧ H p = some (.ins C dx us) ∧ us.length < 1000 ∧ ∃ h', Q' h' ∧ Ext α H α (upd H p (.ins C dx (putF f vv us))) ∧ HRel ⟨K, π⟩ α (upd H p (.ins C dx (putF f vv us))) h' := by
  unfold setF at g
  cases ro with
  | @ref i a hp =>
    dsimp only at g
    cases w : h[i]? with
    | none => rw [w] at g; exact g.elim
    | some ob =>
      rw [w] at g
      cases ob with
      | ins c fs =>
        obtain ⟨⟨rfl, hl⟩, g⟩ := g
        obtain ⟨p, C, dx, us, n, e1, e2, e3⟩ := R.ins w
        rw [hp] at e1; cases e1
        have e4 : Ext α H α (upd H a (.ins C dx (putF f vv us))) := Ext.write (List.mem_of_getElem? hp)
        exact ⟨a, C, dx, us, rfl, n, e2, by rw [← e3.len]; exact hl, _, g, e4, R.write hp (.ins n upd_same ((RelKV.putA rv e3).mono e4))⟩
      | _ => exact g.elim
  | _ => exact g.elim
section
variable {X : Cx} {cn f : Str} {a value : Expr} {fa fv : DE} {pos pos' tpos : Pos}
theorem se_fld (c : FldX X.K cn f) (ha : SE X a fa) (hb : attributeBase a f X.env (eval a X.env) = eval a X.env := by rfl) : SE X (.Attribute a f pos) (dUn (pFld cn f) fa) := PE.imp (pe_fld ha hb) fun σ H Q ⟨π, α, δ, h, Q', R, S, g, k⟩ => by
  obtain ⟨C, hns, cl, na⟩ := c.ex
  refine ⟨π, α, δ, h, _, R, S, g, fun d h1 α1 H1 v1 f1 e1 R1 q1 => ?_⟩
  unfold pFld at f1
  cases w : insO cn h1 d with
  | none => rw [w] at f1; exact f1.elim
  | some fs =>
    rw [w] at f1
    dsimp only at f1
    cases l : fs.lookup f with
    | none => rw [l] at f1; exact f1.elim
    | some v =>
      rw [l] at f1
      obtain ⟨i, p, C', dx, us, rfl, rfl, n, hp, e2, e3⟩ := ins_rel R1 q1 w
      rw [hns] at n; cases n
      obtain ⟨u, l1, r1⟩ := e3.look l
      exact ⟨p, C, dx, us, u, rfl, e2, cl, na, l1, k v h1 α1 H1 u f1 e1 R1 r1⟩
theorem s_fld (c : FldX X.K cn f) (ha : SE X a fa) (hv : SE X value fv) (hs : swapsWith value (some (.Attribute a f pos')) pos.line X.env = pure false := by rfl) : SS X (.Assign [.Attribute a f pos'] value pos) (dSetF cn f fa fv) := PS.imp (ps_fld ha hv hs) fun F σ H ⟨π, α, δ, h, E, R, S, q, k⟩ => by
  obtain ⟨C, hns, cl, na⟩ := c.ex
  refine ⟨π, α, δ, h, _, R, S, q, fun y h1 α1 H1 v1 f1 e1 R1 q1 => ?_⟩
  refine ⟨π, α1, δ, h1, _, R1, S.mono e1, f1, fun x h2 α2 H2 v2 f2 e2 R2 q2 => ?_⟩
  obtain ⟨p, C', dx, us, rfl, n, e3, hl, h3, f3, e4, R3⟩ := setF_lift R2 q2 (q1.mono e2) f2
  rw [hns] at n; cases n
  exact ⟨p, C, dx, us, rfl, e3, cl, na, hl, k.nx δ h3 α2 _ σ f3 (e1.trans (e2.trans e4)) R3 (S.mono (e1.trans (e2.trans e4)))⟩
theorem s_fldaug {op : Operator} {p : P2} (c : FldX X.K cn f) (ha : SE X a fa) (hv : SE X value fv) (ho : OpR X (inplaceOp op) (r2 X.K p)) : SS X (.AugAssign (.Attribute a f tpos) op value pos) (dAugF cn f fa fv p) :=
  PS.imp (ps_fldaug (rd := r2 X.K p) ha hv (fun pins s σ H x y u v Q I rx ry q => ho pins s σ H x y u v Q I rx ry q)) fun F σ H ⟨π, α, δ, h, E, R, S, q, k⟩ => by
  obtain ⟨C, hns, cl, na⟩ := c.ex
  refine ⟨π, α, δ, h, _, R, S, q, fun x h1 α1 H1 v1 f1 e1 R1 q1 => ?_⟩
  cases w : insO cn h1 x with
  | none => rw [w] at f1; exact f1.elim
  | some fs =>
    rw [w] at f1
    dsimp only at f1
    cases l : fs.lookup f with
    | none => rw [l] at f1; exact f1.elim
    | some v =>
      rw [l] at f1
      obtain ⟨i, p', C', dx, us, rfl, rfl, n, hp, e2, e3⟩ := ins_rel R1 q1 w
      rw [hns] at n; cases n
      obtain ⟨u, l1, r1⟩ := e3.look l
      refine ⟨p', C, dx, us, u, rfl, e2, cl, na, l1, ?_⟩
      refine ⟨π, α1, δ, h1, _, R1, S.mono e1, f1, fun y h2 α2 H2 v2 f2 e4 R2 q2 => ?_⟩
      refine ⟨π, α2, h2, v, y, _, R2, r1.mono e4, q2, f2, fun z h3 α3 H3 v3 f3 e5 R3 q3 => ?_⟩
      obtain ⟨p2, C2, dx', us', ep, n2, e6, hl, h4, f4, e7, R4⟩ := setF_lift R3 (.ref ((e4.trans e5).get hp)) q3 f3
      cases ep
      rw [hns] at n2; cases n2
      exact ⟨dx', us', e6, hl, k.nx δ h4 α3 _ σ f4 (e1.trans (e4.trans (e5.trans e7))) R4 (S.mono (e1.trans (e4.trans (e5.trans e7))))⟩
end
structure CalM (P : Program) (w : World) (K : PySem.W.Frag) (mg : Str → Option Value) (base : Heap) (k : Nat) (cn m : Str) (ps : List Str) (sp : Sp) : Prop where
  ex : ∃ (C f : Addr) (fd : FuncData), PySem.W.nsIn K mainGlobals cn = some (some (.ref C)) ∧ Cls K C ∧ Meth K C m f ∧ FnOk P w K mg base CX0 k f fd ps sp ∧ Binds K fd ps []
noncomputable def hasM (cn m : Str) (h : Hh) (d : D) : Prop := match insO cn h d with | some fs => fs.lookup m = none | none => False
noncomputable def dMeth (cn m : Str) (g : DSp) (fo : DE) (f : DA) : DE := fun δ h Q => fo δ h fun x h1 => hasM cn m h1 x ∧ f δ h1 fun ds h2 => g (x :: ds) h2 Q
section
variable {X : Cx} {k l : Nat} {ps : List Str} {g : DSp} {cn m : Str} {o e : Expr} {es : List Expr} {fo : DE} {f : DA} {n : Nat} {pos apos : Pos}
theorem meth_lift {C : Addr} {σ : L2.St} {H : Hp} {Q : VK} (hns : PySem.W.nsIn X.K mainGlobals cn = some (some (.ref C))) (hl : l = n + 1) (w : LE X.K (dMeth cn m g fo f) σ H Q) : tMeth C m (spD X.K l g) [] E0 (LE X.K fo) (LA X.K n f) σ H Q := by
  obtain ⟨π, α, δ, h, Q', R, S, q, k⟩ := w
  refine ⟨π, α, δ, h, _, R, S, q, fun x h1 α1 H1 v1 f1 e1 R1 q1 => ?_⟩
  obtain ⟨hm, f1⟩ := f1
  unfold hasM at hm
  cases w : insO cn h1 x with
  | none => rw [w] at hm; exact hm.elim
  | some fs =>
    rw [w] at hm
    dsimp only at hm
    obtain ⟨i, p', C', dx, us, rfl, rfl, n', hp, e2, e3⟩ := ins_rel R1 q1 w
    rw [hns] at n'; cases n'
    refine ⟨p', dx, us, rfl, e2, e3.lookN hm, π, α1, δ, h1, _, R1, S.mono e1, f1, fun ds h2 α2 H2 vs f2 e4 R2 q2 l2 => ?_⟩
    rw [List.append_nil]
    exact ⟨π, α2, h2, .ref i :: ds, Q', R2, .cons (.ref (e4.get hp)) q2, by rw [List.length_cons, l2, hl], f2, fun d h' α' H' v a b c d' => k d h' α' H' v a (e1.trans (e4.trans b)) c d'⟩
theorem se_meth {pl : Sem Bool} (c : CalM X.prog X.w X.K X.mg X.base k cn m ps (spD X.K l g)) (hr : Room k X.A) (ho : SE X o fo) (ha : SA X (e :: es) n f) (hl : l = n + 1 := by rfl)
    (hst : starEach (e :: es) X.env = (false, eval e X.env) :: starEach es X.env := by rfl) (hpl : (backTo pos (starEach es X.env)).any (·.1) = false := by rfl)
    (ht : eval (.Call (.Attribute o m apos) (e :: es) [] pos) X.env = (do
      let ov ← eval o X.env
      standAt apos.atName
      let (f, first) ← holding [ov] (getMethod ov m pl)
      callWith pos f first (backTo pos (starEach (e :: es) X.env)) (backToKw pos (keywordEach [] X.env))) := by rfl) :
    SE X (.Call (.Attribute o m apos) (e :: es) [] pos) (dMeth cn m g fo f) := by
  obtain ⟨C, fa, fd, hns, cl, hm, F, hb⟩ := c.ex
  exact PE.imp (pe_meth (pl := pl) ho cl hm F hr hb .nil pass0 ha hst hpl ht) fun σ H Q w => meth_lift hns hl w
theorem se_meth0 {pl : Sem Bool} (c : CalM X.prog X.w X.K X.mg X.base k cn m ps (spD X.K 1 g)) (hr : Room k X.A) (ho : SE X o fo)
    (ht : eval (.Call (.Attribute o m apos) [] [] pos) X.env = (do
      let ov ← eval o X.env
      standAt apos.atName
      let (f, first) ← holding [ov] (getMethod ov m pl)
      callWith pos f first (backTo pos (starEach [] X.env)) (backToKw pos (keywordEach [] X.env))) := by rfl) :
    SE X (.Call (.Attribute o m apos) [] [] pos) (dMeth cn m g fo dNil) := by
  obtain ⟨C, fa, fd, hns, cl, hm, F, hb⟩ := c.ex
  refine PE.imp (pe_meth0 (pl := pl) ho cl hm F hr hb .nil pass0 ht) fun σ H Q w => ?_
  have w' := meth_lift (l := 1) (n := 0) hns rfl w
  unfold tMeth at w' ⊢
  obtain ⟨π, α, δ, h, Q', R, S, q, k⟩ := w'
  refine ⟨π, α, δ, h, Q', R, S, q, fun d h' α' H' v a b c d' => ?_⟩
  obtain ⟨p, dx, us, e1, e2, e3, π2, α2, δ2, h2, Q2, R2, S2, q2, k2⟩ := k d h' α' H' v a b c d'
  exact ⟨p, dx, us, e1, e2, e3, k2 [] h2 α2 H' [] q2 (Ext.refl ..) R2 .nil rfl⟩
end
structure MakeX (P : Program) (w : World) (K : PySem.W.Frag) (mg : Str → Option Value) (base : Heap) (k : Nat) (cn : Str) (ps : List Str) (sp : Sp) : Prop where
  ex : ∃ (C f : Addr) (fd : FuncData), mg cn = some (.ref C) ∧ PySem.W.nsIn K mainGlobals cn = some (some (.ref C)) ∧ Mk K C f ∧ FnOk P w K mg base CX0 k f fd ps sp ∧ Binds K fd ps []
noncomputable def dMake (cn : Str) (g : DSp) (f : DA) : DE := fun δ h Q => f δ h fun ds h1 => g (.ref h1.length :: ds) (h1 ++ [.ins cn []]) fun v h2 => v = .non ∧ Q (.ref h1.length) h2
section
variable {X : Cx} {k l : Nat} {ps : List Str} {g : DSp} {cn : Str} {e : Expr} {es : List Expr} {f : DA} {n : Nat} {p pos : Pos}
theorem make_lift {C : Addr} {σ : L2.St} {H : Hp} {Q : VK} (hns : PySem.W.nsIn X.K mainGlobals cn = some (some (.ref C))) (hl : l = n + 1) (w : LE X.K (dMake cn g f) σ H Q) : tMake C (spD X.K l g) [] E0 (LA X.K n f) σ H Q := by
  obtain ⟨π, α, δ, h, Q', R, S, q, k⟩ := w
  refine ⟨π, α, δ, h, _, R, S, q, fun ds h1 α1 H1 vs f1 e1 R1 q1 l1 => fun x dx hx hdx hne => ?_⟩
  rw [List.append_nil]
  have hx' : upd H1 dx (.own x) x = none := by rw [upd_ne (Ne.symm hne)]; exact hx
  have e2 : Ext α1 H1 (α1 ++ [x]) (upd (upd H1 dx (.own x)) x (.ins C dx [])) := (Ext.new hdx).trans (Ext.newT hx')
  have gx : (α1 ++ [x])[h1.length]? = some x := by rw [← R1.len]; simp
  refine ⟨π, α1 ++ [x], h1 ++ [.ins cn []], .ref h1.length :: ds, _, (R1.new hdx).newT hx' (.ins hns upd_same .nil), .cons (.ref gx) (q1.mono e2), by rw [List.length_cons, l1, hl], f1, fun d h' α' H' v a b c d' => ?_⟩
  obtain ⟨rfl, a⟩ := a
  cases d'
  exact ⟨rfl, k _ h' α' H' _ a (e1.trans (e2.trans b)) c (.ref (b.get gx))⟩
theorem se_make (c : MakeX X.prog X.w X.K X.mg X.base k cn ps (spD X.K l g)) (hr : Room (k + 1) X.A) (hg : Gl X cn) (ha : SA X (e :: es) n f) (hl : l = n + 1 := by rfl) (hdb : (cn == ("__debug__" : Str)) = false := by decide)
    (he : starEach (e :: es) X.env = (false, eval e X.env) :: starEach es X.env := by rfl) (hpl : (backTo pos (starEach es X.env)).any (·.1) = false := by rfl) : SE X (.Call (.Name cn p) (e :: es) [] pos) (dMake cn g f) := by
  obtain ⟨C, fa, fd, hm, hns, M, F, hb⟩ := c.ex
  exact PE.imp (pe_make M F hr hg hm hb .nil pass0 ha hdb he hpl) fun σ H Q w => make_lift hns hl w
end
end DL
namespace DL
open PySem PySem.Spec L2
noncomputable def intsO : List D → Option (List Int)
  | [] => some []
  | .int i :: r => match intsO r with | some ns => some (i :: ns) | none => none
  | _ => none
noncomputable def pLtT : P2 := fun x y h Q => match x, y with
  | .tup xs, .tup ys => (match intsO xs, intsO ys with | some ns, some ms => Q (.bl (HT.lexLt ns ms)) h | _, _ => False)
  | _, _ => False
noncomputable def pCatS : P2 := fun x y h Q => match x, y with
  | .str i, .str j => i.length + j.length ≤ 16777216 ∧ Q (.str (i ++ j)) h
  | _, _ => False
noncomputable def pStr : PN := fun ds h Q => match ds with | [.int i] => i.natAbs.log2 < 1920 ∧ Q (.str (toString i)) h | _ => False
section
variable {X : Cx} {o e : Expr} {fo fe : DE} {cpos apos : Pos}
theorem ok_catS : OpR X (binaryOp .Add) (r2 X.K pCatS) := OpR.imp op_add_str fun x y H Q ⟨π, α, h, d, e, Q', R, r1, r2, f, k⟩ => by
  unfold pCatS at f
  cases r1 with
  | str i =>
    cases r2 with
    | str j => exact ⟨i, j, rfl, rfl, by rw [sizeLine_eq]; exact f.1, k _ h α H _ f.2 (Ext.refl ..) R (.str _)⟩
    | _ => exact f.elim
  | _ => exact f.elim
noncomputable def dPopAt (fo : DE) (fs : DA) : DE := fun δ h Q => fo δ h fun d h1 => match d with
  | .ref i => (match h1[i]? with
    | some (.lst _) => fs δ h1 fun ds h2 => (match ds, h2[i]? with
      | [.int n], some (.lst xs) => (0 ≤ n ∧ n < 2 ^ 62) ∧ (match xs[n.toNat]? with | some y => Q y (h2.set i (.lst (xs.eraseIdx n.toNat))) | none => False)
      | _, _ => False)
    | _ => False)
  | _ => False
end
end DL
namespace DL
open PySem PySem.Spec L2
noncomputable def repS (x : Str) (n : Nat) : Str := if n = 0 then Str.empty else if n = 1 ∨ x.length = 0 then x else { cps := List.foldl (fun x1 x2 => x1 ++ x2) #[] (List.replicate n x.cps) }
noncomputable def pMulS : P2 := fun x y h Q => match x, y with
  | .str i, .int n => (0 ≤ n ∧ n ≤ 1000 ∧ i.length ≤ 1000 ∧ (repS i n.toNat).length ≤ 16777216) ∧ Q (.str (repS i n.toNat)) h
  | _, _ => False
theorem ok_mulS {X : Cx} : OpR X (binaryOp .Mult) (r2 X.K pMulS) := by
  intro pins s σ H x y v u Q I rx ry ⟨π, α, h, d, e, Q', R, r1, r2, f, k⟩
  unfold pMulS at f
  cases r1 with
  | str i =>
    cases r2 with
    | int n =>
      obtain ⟨⟨h0, h1, h2, h3⟩, f⟩ := f
      obtain ⟨t, rfl⟩ := rx
      obtain ⟨t', rfl⟩ := ry
      have q := k _ h α H _ f (Ext.refl ..) R (.str _)
      have hm : i.length * n.toNat ≤ 1000 * 1000 := Nat.mul_le_mul h2 (by omega)
      refine PySem.P.mul_str ?_ ?_ ?_ ?_
      · rw [decide_eq_false (by omega), decide_eq_false (by omega)]; rfl
      · intro a b c
        have n1 : 1 ≤ n := by omega
        have : (2 ^ 63 - 1 : Int) / n ≥ (2 ^ 63 - 1) / 1000 := by
          rw [ge_iff_le, Int.le_ediv_iff_mul_le (by omega)]
          have : (2 ^ 63 - 1 : Int) / 1000 * n ≤ (2 ^ 63 - 1) / 1000 * 1000 := Int.mul_le_mul_of_nonneg_left h1 (by decide)
          exact Int.le_trans this (by decide)
        have e2 : (1000 : Int) ≤ (2 ^ 63 - 1) / 1000 := by decide
        omega
      · intro a b
        unfold Builtin.Str.tooLong
        exact decide_eq_false (by rw [sizeLine_eq]; omega)
      · by_cases c1 : n < 1
        · rw [if_pos c1]
          have : n.toNat = 0 := by omega
          have e : repS i n.toNat = Str.empty := by unfold repS; rw [if_pos this]
          rw [e] at q
          exact ⟨by decide, .str Str.empty, H, I.tok _, ⟨_, rfl⟩, q⟩
        · rw [if_neg c1]
          by_cases c2 : (n == 1 || i.length == 0) = true
          · rw [if_pos c2]
            have e : repS i n.toNat = i := by
              unfold repS
              rw [if_neg (by omega), if_pos]
              rcases Bool.or_eq_true_iff.mp c2 with z | z
              · exact .inl (by have := beq_iff_eq.mp z; omega)
              · exact .inr (beq_iff_eq.mp z)
            rw [e] at q
            exact ⟨.str i, H, I, ⟨_, rfl⟩, q⟩
          · rw [if_neg c2]
            have e : repS i n.toNat = { cps := List.foldl (fun x1 x2 => x1 ++ x2) #[] (List.replicate n.toNat i.cps) } := by
              unfold repS
              rw [if_neg (by omega), if_neg]
              rintro (z | z)
              · exact c2 (by rw [show n = 1 by omega]; rfl)
              · exact c2 (by rw [z]; simp)
            rw [e] at q h3
            exact ⟨by rw [sizeLine_eq]; exact h3, .str _, H, I.tok _, ⟨_, rfl⟩, q⟩
    | _ => exact f.elim
  | _ => exact f.elim
end DL
namespace DL
open PySem PySem.Spec L2
noncomputable def dCalF (g : DSp) (is : List Int) (f : DA) : DE := fun δ h Q => f δ h fun ds h1 => g (ds ++ is.map D.int) h1 Q
noncomputable def dCalK (g : DSp) (is : List Int) (f : DA) (fe : DE) : DE := fun δ h Q => f δ h fun ds h1 => fe δ h1 fun y h2 => g (ds ++ is.map D.int ++ [y]) h2 Q
section
variable {X : Cx} {k m n : Nat} {ps : List Str} {g : DSp} {x kw : Str} {p pos kpos : Pos} {e e2 : Expr} {es : List Expr} {f : DA} {fe : DE} {is : List Int}
end
end DL
namespace L2
open PySem PySem.Spec PyProof.Rows
section
variable {X : Cx}
theorem vals_rng : ∀ (us : List Value) (a : Int), (∀ (j : Nat) (v : Value), us[j]? = some v → ∃ t, v = Value.int (a + (j : Int)) t) → Vals ((List.range us.length).map fun k => V.int (a + (k : Nat))) us
  | [], _, _ => .nil
  | u :: us, a, h => by
    rw [List.length_cons, List.range_succ_eq_map, List.map_cons, List.map_map]
    refine .cons ?_ ?_
    · obtain ⟨t, e⟩ := h 0 u rfl
      exact ⟨t, e⟩
    · have := vals_rng us (a + 1) fun j v e => by
        obtain ⟨t, q⟩ := h (j + 1) v (by simpa using e)
        exact ⟨t, by rw [q]; congr 1; omega⟩
      have e : (List.range us.length).map ((fun k : Nat => V.int (a + (k : Nat))) ∘ Nat.succ) = (List.range us.length).map fun k : Nat => V.int (a + 1 + (k : Nat)) := List.map_congr_left fun k _ => by
        show V.int (a + ((k + 1 : Nat) : Int)) = V.int (a + 1 + (k : Int))
        congr 1; omega
      rw [e]; exact this
noncomputable def tRng2 (ta : TA) : TE := fun σ H Q => ta σ H fun vs H1 => ∃ i j : Int, vs = [.int i, .int j] ∧ ∀ l, H1 l = none → Q (.ref l) (upd H1 l (.rng i j))
theorem pe_range2 {a b : Expr} {ta : TA} {p pos : Pos} (hg : Gl X "range") (hm : X.mg "range" = none) (ha : PA X [a, b] ta) (hs : starEach [a, b] X.env = [(false, eval a X.env), (false, eval b X.env)] := by rfl) (hs2 : starEach [b] X.env = [(false, eval b X.env)] := by rfl) :
    PE X (.Call (.Name "range" p) [a, b] [] pos) (tRng2 ta) := by
  intro pins s σ H Q I h
  refine Call_ (ld_blt I hg hm boot_range (PyProof.Rows.callWith_type1 (thn (ha pos pins s σ H _ I h) fun us s1 ⟨vs, H1, I1, r1, q1⟩ => ?_) (by rw [hs, hs2]) (by rw [hs2]; rfl)))
  obtain ⟨i, j, e, q⟩ := q1
  subst e
  cases r1 with
  | cons r rr =>
    cases rr with
    | cons r' rr =>
      cases rr
      obtain ⟨t, rfl⟩ := r
      obtain ⟨t', rfl⟩ := r'
      refine call_range_2 ?_
      exact ⟨.ref s1.heap.objs.size, _, I1.laid (fun b o e => Heap.get?_push_of_some _ e) (Nat.le_refl _) (show ObjOk X.prog X.w _ _ _ (.rng i j) from ⟨_, _, _, Heap.get?_push_size _ rfl⟩), rfl, q _ (I1.hok.fresh (Nat.le_refl _))⟩
theorem call_list_rng (hc : X.calm = true) : CallR X (.type "list") (fun xs H Q => ∃ p i j, xs = [.ref p] ∧ H p = some (.rng i j) ∧ (-(2 ^ 62) ≤ i ∧ i < 2 ^ 62 ∧ -(2 ^ 62) ≤ j ∧ j < 2 ^ 62) ∧ (j - i).toNat ≤ 16777216 ∧ ∀ l, H l = none → Q (.ref l) (upd H l (.lst ((List.range (j - i).toNat).map fun k => V.int (i + (k : Nat)))))) := by
  intro pins s σ H xs us Q I r h
  obtain ⟨p, i, j, rfl, hp, ⟨b1, b2, b3, b4⟩, hz, q⟩ := h
  obtain ⟨u, rfl, rx⟩ := vals1 r
  cases rx
  obtain ⟨t, u, v, ho⟩ := I.hok p _ hp
  refine call_list_range (n := (j - i).toNat) (I.ok.hd hc) ho (small_one b1 b2 b3 b4) (by rw [rangeSize_one]; split <;> omega) hz fun h' tk acc c' kp e it => ?_
  have r' : Vals ((List.range (j - i).toNat).map fun k => V.int (i + (k : Nat))) acc.toList := by
    have := vals_rng acc.toList i fun m v e => by
      obtain ⟨t, z⟩ := it.2 m v (by rw [← Array.getElem?_toList]; exact e)
      exact ⟨t, by rw [z]; congr 1; omega⟩
    rw [Array.length_toList, it.1] at this
    exact this
  exact ⟨.ref s.heap.objs.size, _, I.laid (t' := tk) kp (Nat.le_refl _) (show ObjOk X.prog X.w _ h' _ (.lst _) from ⟨by rw [sizeLine_eq, List.length_map, List.length_range]; exact hz, acc.toList, c', r', e⟩), rfl, q _ (I.hok.fresh (Nat.le_refl _))⟩
end
end L2
namespace DL
open PySem PySem.Spec L2
noncomputable def dListRng (f : DA) : DN := fun δ h Q => f δ h fun ds h1 => match ds with
  | [.int i, .int j] => (-(2 ^ 62) ≤ i ∧ i < 2 ^ 62 ∧ -(2 ^ 62) ≤ j ∧ j < 2 ^ 62) ∧ (j - i).toNat ≤ 16777216 ∧ Q (rangeD i (j - i).toNat) h1
  | _ => False
theorem relDs_range {K : KP} {α : List Addr} {H : Hp} (i : Int) (n : Nat) : RelDs K α H (rangeD i n) ((List.range n).map fun k => V.int (i + (k : Nat))) := by
  rw [rangeD_map]
  generalize List.range n = l
  induction l with
  | nil => exact .nil
  | cons a r ih => exact .cons (.int _) ih
section
variable {X : Cx} {a b : Expr} {p p2 pos pos2 : Pos} {n : Nat} {f : DA}
theorem sn_listRng (hc : X.calm = true) (hg : Gl X "list") (hm : X.mg "list" = none) (hg2 : Gl X "range") (hm2 : X.mg "range" = none) (ha : SA X [a, b] n f) (hs : starEach [a, b] X.env = [(false, eval a X.env), (false, eval b X.env)] := by rfl) (hs2 : starEach [b] X.env = [(false, eval b X.env)] := by rfl)
    (he : starEach [.Call (.Name "range" p2) [a, b] [] pos2] X.env = (false, eval (.Call (.Name "range" p2) [a, b] [] pos2) X.env) :: starEach [] X.env := by rfl) (hpl : (backTo pos (starEach [] X.env)).any (·.1) = false := by rfl) :
    SN X (.Call (.Name "list" p) [.Call (.Name "range" p2) [a, b] [] pos2] [] pos) (dListRng f) := PE.imp (pe_callTy (call_list_rng hc) hg hm PyProof.Rows.boot_list (pa_cons (pe_range2 hg2 hm2 ha hs hs2) pa_nil he) (by decide) (by decide) he hpl) fun σ H Q ⟨π, α, δ, h, Q', R, S, f, k⟩ => by
  refine ⟨π, α, δ, h, _, R, S, f, fun ds h1 α1 H1 vs f1 e1 R1 q1 l1 => ?_⟩
  split at f1
  · rename_i i j
    obtain ⟨b1, hz, q⟩ := f1
    cases q1 with
    | cons r1 q1 =>
      cases q1 with
      | cons r2 q1 =>
        cases q1
        cases r1
        cases r2
        refine ⟨i, j, rfl, fun l hl => ?_⟩
        have e2 : Ext α1 H1 α1 (upd H1 l (.rng i j)) := Ext.new hl
        refine ⟨l, i, j, rfl, upd_same, b1, hz, fun l2 hl2 => ?_⟩
        exact LN.last (h := h) k q (e1.trans e2) (R1.new hl) (relDs_range i _) hl2
  · exact f1.elim
end
end DL
namespace CM
open PySem L2 DL
noncomputable def at0 (xs : List Nat) (i : Nat) : Nat := xs.getD i 0
noncomputable def HP (lt : Nat → Nat → Bool) (xs : List Nat) : Prop := ∀ i, 0 < i → i < xs.length → lt (at0 xs i) (at0 xs ((i - 1) / 2)) = false
section
variable {lt : Nat → Nat → Bool}
end
end CM
namespace DL
open PySem L2
theorem while_by {t : DT} {b : DS} {E : DEnds} (P : Nat → Sl → Hh → Prop) {m : Nat} {δ : Sl} {h : Hh} (h0 : P m δ h) (step : ∀ m δ h (N : Sl → Hh → Prop), P m δ h → (∀ m' δ' h', m' < m → P m' δ' h' → N δ' h') → t δ h fun c h1 => if c = true then b { E with nx := N, ct := N, bk := E.nx } δ h1 else E.nx δ h1) : dWhile t b E δ h := by
  refine ⟨m + 1, ?_⟩
  have key : ∀ n m δ h, m < n → P m δ h → whN t b E n δ h := by
    intro n
    induction n with
    | zero => intro m δ h hm; omega
    | succ n ih =>
      intro m δ h hm hp
      exact step m δ h _ hp fun m' δ' h' hm' hp' => ih m' δ' h' (by omega) hp'
  exact key _ m δ h (Nat.lt_succ_self _) h0
theorem set_same {h : Hh} {j : Nat} {o : O} (e : h[j]? = some o) : h.set j o = h := by
  obtain ⟨hl, e⟩ := List.getElem?_eq_some_iff.mp e
  rw [← e, List.set_getElem_self]
end DL
namespace CM
open PySem L2 DL
noncomputable def okT (t : D) : Prop := nrD t = true ∧ ∃ p, ∀ h, Pd h t p 3
noncomputable abbrev Tb := List (Int × D)
noncomputable def cst (T : Tb) (n : Nat) : Int := (T.getD n (0, .non)).1
noncomputable def ltT (T : Tb) (a b : Nat) : Bool := HT.lexLt [cst T a, (a : Int)] [cst T b, (b : Int)]
structure QInv (T : Tb) (hs ss : List Nat) : Prop where
  perm : hs.Perm ss
  hp : HP (ltT T) hs
  inc : ss.Pairwise (· < ·)
  lt : ∀ n ∈ ss, n < T.length
  ok : ∀ x ∈ T, okT x.2
  len : ss.length ≤ T.length
theorem QInv.nil : QInv [] [] [] := ⟨.refl _, fun i _ h => absurd h (Nat.not_lt_zero _), .nil, fun n h => (nomatch h), fun n h => (nomatch h), Nat.le_refl _⟩
end CM
namespace CM
open PySem L2 DL
theorem rk_number : PyData.strOk (Str.ofString "number") = true := by decide +kernel
theorem rk_copy : PyData.strOk (Str.ofString "copy") = true := by decide +kernel
theorem rk_does : PyData.strOk (Str.ofString "does") = true := by decide +kernel
theorem rk_dye : PyData.strOk (Str.ofString "dye") = true := by decide +kernel
theorem rk_wash : PyData.strOk (Str.ofString "wash") = true := by decide +kernel
theorem rk_iff : PyData.strOk (Str.ofString "if") = true := by decide +kernel
theorem rk_to : PyData.strOk (Str.ofString "to") = true := by decide +kernel
theorem rk_call : PyData.strOk (Str.ofString "call") = true := by decide +kernel
theorem rk_return : PyData.strOk (Str.ofString "return") = true := by decide +kernel
theorem rk_plus : PyData.strOk (Str.ofString "+") = true := by decide +kernel
theorem rk_minus : PyData.strOk (Str.ofString "-") = true := by decide +kernel
theorem rk_times : PyData.strOk (Str.ofString "*") = true := by decide +kernel
theorem rq_number_number : ((Str.ofString "number") == (Str.ofString "number")) = true := by decide +kernel
theorem rq_number_copy : ((Str.ofString "number") == (Str.ofString "copy")) = false := by decide +kernel
theorem rq_number_does : ((Str.ofString "number") == (Str.ofString "does")) = false := by decide +kernel
theorem rq_number_dye : ((Str.ofString "number") == (Str.ofString "dye")) = false := by decide +kernel
theorem rq_number_wash : ((Str.ofString "number") == (Str.ofString "wash")) = false := by decide +kernel
theorem rq_number_iff : ((Str.ofString "number") == (Str.ofString "if")) = false := by decide +kernel
theorem rq_number_to : ((Str.ofString "number") == (Str.ofString "to")) = false := by decide +kernel
theorem rq_number_call : ((Str.ofString "number") == (Str.ofString "call")) = false := by decide +kernel
theorem rq_number_return : ((Str.ofString "number") == (Str.ofString "return")) = false := by decide +kernel
theorem rq_copy_number : ((Str.ofString "copy") == (Str.ofString "number")) = false := by decide +kernel
theorem rq_copy_copy : ((Str.ofString "copy") == (Str.ofString "copy")) = true := by decide +kernel
theorem rq_copy_does : ((Str.ofString "copy") == (Str.ofString "does")) = false := by decide +kernel
theorem rq_copy_dye : ((Str.ofString "copy") == (Str.ofString "dye")) = false := by decide +kernel
theorem rq_copy_wash : ((Str.ofString "copy") == (Str.ofString "wash")) = false := by decide +kernel
theorem rq_copy_iff : ((Str.ofString "copy") == (Str.ofString "if")) = false := by decide +kernel
theorem rq_copy_to : ((Str.ofString "copy") == (Str.ofString "to")) = false := by decide +kernel
theorem rq_copy_call : ((Str.ofString "copy") == (Str.ofString "call")) = false := by decide +kernel
theorem rq_copy_return : ((Str.ofString "copy") == (Str.ofString "return")) = false := by decide +kernel
theorem rq_does_number : ((Str.ofString "does") == (Str.ofString "number")) = false := by decide +kernel
theorem rq_does_copy : ((Str.ofString "does") == (Str.ofString "copy")) = false := by decide +kernel
theorem rq_does_does : ((Str.ofString "does") == (Str.ofString "does")) = true := by decide +kernel
theorem rq_does_dye : ((Str.ofString "does") == (Str.ofString "dye")) = false := by decide +kernel
theorem rq_does_wash : ((Str.ofString "does") == (Str.ofString "wash")) = false := by decide +kernel
theorem rq_does_iff : ((Str.ofString "does") == (Str.ofString "if")) = false := by decide +kernel
theorem rq_does_to : ((Str.ofString "does") == (Str.ofString "to")) = false := by decide +kernel
theorem rq_does_call : ((Str.ofString "does") == (Str.ofString "call")) = false := by decide +kernel
theorem rq_does_return : ((Str.ofString "does") == (Str.ofString "return")) = false := by decide +kernel
theorem rq_dye_number : ((Str.ofString "dye") == (Str.ofString "number")) = false := by decide +kernel
theorem rq_dye_copy : ((Str.ofString "dye") == (Str.ofString "copy")) = false := by decide +kernel
theorem rq_dye_does : ((Str.ofString "dye") == (Str.ofString "does")) = false := by decide +kernel
theorem rq_dye_dye : ((Str.ofString "dye") == (Str.ofString "dye")) = true := by decide +kernel
theorem rq_dye_wash : ((Str.ofString "dye") == (Str.ofString "wash")) = false := by decide +kernel
theorem rq_dye_iff : ((Str.ofString "dye") == (Str.ofString "if")) = false := by decide +kernel
theorem rq_dye_to : ((Str.ofString "dye") == (Str.ofString "to")) = false := by decide +kernel
theorem rq_dye_call : ((Str.ofString "dye") == (Str.ofString "call")) = false := by decide +kernel
theorem rq_dye_return : ((Str.ofString "dye") == (Str.ofString "return")) = false := by decide +kernel
theorem rq_wash_number : ((Str.ofString "wash") == (Str.ofString "number")) = false := by decide +kernel
theorem rq_wash_copy : ((Str.ofString "wash") == (Str.ofString "copy")) = false := by decide +kernel
theorem rq_wash_does : ((Str.ofString "wash") == (Str.ofString "does")) = false := by decide +kernel
theorem rq_wash_dye : ((Str.ofString "wash") == (Str.ofString "dye")) = false := by decide +kernel
theorem rq_wash_wash : ((Str.ofString "wash") == (Str.ofString "wash")) = true := by decide +kernel
theorem rq_wash_iff : ((Str.ofString "wash") == (Str.ofString "if")) = false := by decide +kernel
theorem rq_wash_to : ((Str.ofString "wash") == (Str.ofString "to")) = false := by decide +kernel
theorem rq_wash_call : ((Str.ofString "wash") == (Str.ofString "call")) = false := by decide +kernel
theorem rq_wash_return : ((Str.ofString "wash") == (Str.ofString "return")) = false := by decide +kernel
theorem rq_iff_number : ((Str.ofString "if") == (Str.ofString "number")) = false := by decide +kernel
theorem rq_iff_copy : ((Str.ofString "if") == (Str.ofString "copy")) = false := by decide +kernel
theorem rq_iff_does : ((Str.ofString "if") == (Str.ofString "does")) = false := by decide +kernel
theorem rq_iff_dye : ((Str.ofString "if") == (Str.ofString "dye")) = false := by decide +kernel
theorem rq_iff_wash : ((Str.ofString "if") == (Str.ofString "wash")) = false := by decide +kernel
theorem rq_iff_iff : ((Str.ofString "if") == (Str.ofString "if")) = true := by decide +kernel
theorem rq_iff_to : ((Str.ofString "if") == (Str.ofString "to")) = false := by decide +kernel
theorem rq_iff_call : ((Str.ofString "if") == (Str.ofString "call")) = false := by decide +kernel
theorem rq_iff_return : ((Str.ofString "if") == (Str.ofString "return")) = false := by decide +kernel
theorem rq_to_number : ((Str.ofString "to") == (Str.ofString "number")) = false := by decide +kernel
theorem rq_to_copy : ((Str.ofString "to") == (Str.ofString "copy")) = false := by decide +kernel
theorem rq_to_does : ((Str.ofString "to") == (Str.ofString "does")) = false := by decide +kernel
theorem rq_to_dye : ((Str.ofString "to") == (Str.ofString "dye")) = false := by decide +kernel
theorem rq_to_wash : ((Str.ofString "to") == (Str.ofString "wash")) = false := by decide +kernel
theorem rq_to_iff : ((Str.ofString "to") == (Str.ofString "if")) = false := by decide +kernel
theorem rq_to_to : ((Str.ofString "to") == (Str.ofString "to")) = true := by decide +kernel
theorem rq_to_call : ((Str.ofString "to") == (Str.ofString "call")) = false := by decide +kernel
theorem rq_to_return : ((Str.ofString "to") == (Str.ofString "return")) = false := by decide +kernel
theorem rq_call_number : ((Str.ofString "call") == (Str.ofString "number")) = false := by decide +kernel
theorem rq_call_copy : ((Str.ofString "call") == (Str.ofString "copy")) = false := by decide +kernel
theorem rq_call_does : ((Str.ofString "call") == (Str.ofString "does")) = false := by decide +kernel
theorem rq_call_dye : ((Str.ofString "call") == (Str.ofString "dye")) = false := by decide +kernel
theorem rq_call_wash : ((Str.ofString "call") == (Str.ofString "wash")) = false := by decide +kernel
theorem rq_call_iff : ((Str.ofString "call") == (Str.ofString "if")) = false := by decide +kernel
theorem rq_call_to : ((Str.ofString "call") == (Str.ofString "to")) = false := by decide +kernel
theorem rq_call_call : ((Str.ofString "call") == (Str.ofString "call")) = true := by decide +kernel
theorem rq_call_return : ((Str.ofString "call") == (Str.ofString "return")) = false := by decide +kernel
theorem rq_return_number : ((Str.ofString "return") == (Str.ofString "number")) = false := by decide +kernel
theorem rq_return_copy : ((Str.ofString "return") == (Str.ofString "copy")) = false := by decide +kernel
theorem rq_return_does : ((Str.ofString "return") == (Str.ofString "does")) = false := by decide +kernel
theorem rq_return_dye : ((Str.ofString "return") == (Str.ofString "dye")) = false := by decide +kernel
theorem rq_return_wash : ((Str.ofString "return") == (Str.ofString "wash")) = false := by decide +kernel
theorem rq_return_iff : ((Str.ofString "return") == (Str.ofString "if")) = false := by decide +kernel
theorem rq_return_to : ((Str.ofString "return") == (Str.ofString "to")) = false := by decide +kernel
theorem rq_return_call : ((Str.ofString "return") == (Str.ofString "call")) = false := by decide +kernel
theorem rq_return_return : ((Str.ofString "return") == (Str.ofString "return")) = true := by decide +kernel
theorem rq_plus_plus : ((Str.ofString "+") == (Str.ofString "+")) = true := by decide +kernel
theorem rq_plus_minus : ((Str.ofString "+") == (Str.ofString "-")) = false := by decide +kernel
theorem rq_plus_times : ((Str.ofString "+") == (Str.ofString "*")) = false := by decide +kernel
theorem rq_minus_plus : ((Str.ofString "-") == (Str.ofString "+")) = false := by decide +kernel
theorem rq_minus_minus : ((Str.ofString "-") == (Str.ofString "-")) = true := by decide +kernel
theorem rq_minus_times : ((Str.ofString "-") == (Str.ofString "*")) = false := by decide +kernel
theorem rq_times_plus : ((Str.ofString "*") == (Str.ofString "+")) = false := by decide +kernel
theorem rq_times_minus : ((Str.ofString "*") == (Str.ofString "-")) = false := by decide +kernel
theorem rq_times_times : ((Str.ofString "*") == (Str.ofString "*")) = true := by decide +kernel
end CM
namespace CM
open PySem L2 DL
inductive Op3 where
  | add | sub | mul
noncomputable def Op3.s : Op3 → Str
  | .add => "+"
  | .sub => "-"
  | .mul => "*"
noncomputable def Op3.go : Op3 → Int → Int → Int
  | .add, y, z => (y + z) % 1000000000000000000
  | .sub, y, z => (y - z) % 1000000000000000000
  | .mul, y, z => y * z % 1000000000000000000
inductive Rw where
  | num (x : Nat) (v : Int) | cp (x y : Nat) | does (x : Nat) (o : Op3) (y z : Nat) | dye (x : Nat) | wash (x : Nat) | iff (x k : Nat) | to (k : Nat) | call (x g : Nat) (as : List Nat) | ret (x : Nat)
noncomputable def rrD : Rw → D
  | .num x v => .tup [.str "number", nD x, .int v]
  | .cp x y => .tup [.str "copy", nD x, nD y]
  | .does x o y z => .tup [.str "does", nD x, .str o.s, nD y, nD z]
  | .dye x => .tup [.str "dye", nD x]
  | .wash x => .tup [.str "wash", nD x]
  | .iff x k => .tup [.str "if", nD x, nD k]
  | .to k => .tup [.str "to", nD k]
  | .call x g as => .tup [.str "call", nD x, nD g, .tup (as.map nD)]
  | .ret x => .tup [.str "return", nD x]
structure PF where
  name : D
  given : Nat
  vars : List D
  rows : List Rw
noncomputable def pfD (F : PF) : D := .tup [F.name, nD F.given, .tup F.vars, .tup (F.rows.map rrD)]
noncomputable abbrev Prog := List PF
noncomputable def prD' (P : Prog) : D := .lst (P.map pfD)
noncomputable def rwOk (P : Prog) (F : PF) : Rw → Prop
  | .num x v => x < F.vars.length ∧ 0 ≤ v ∧ v < 1000000000000000000
  | .cp x y => x < F.vars.length ∧ y < F.vars.length
  | .does x _ y z => x < F.vars.length ∧ y < F.vars.length ∧ z < F.vars.length
  | .dye x => x < F.vars.length
  | .wash x => x < F.vars.length
  | .iff x k => x < F.vars.length ∧ k < F.rows.length
  | .to k => k < F.rows.length
  | .call x g as => x < F.vars.length ∧ ∃ G, P[g]? = some G ∧ as.length = G.given ∧ ∀ a ∈ as, a < F.vars.length
  | .ret x => x < F.vars.length
noncomputable def lastOk : Rw → Prop
  | .to _ => True
  | .ret _ => True
  | _ => False
structure WFP (P : Prog) : Prop where
  one : 1 ≤ P.length
  six : P.length ≤ 6
  fn : ∀ (f : Nat) (F : PF), P[f]? = some F → F.given ≤ F.vars.length ∧ F.vars.length ≤ 4 ∧ 1 ≤ F.rows.length ∧ F.rows.length ≤ 20 ∧ (∀ r ∈ F.rows, rwOk P F r) ∧ ∀ r, F.rows[F.rows.length - 1]? = some r → lastOk r
structure Fr where
  f : Nat
  p : Nat
  held : List Int
  dyes : List Nat
noncomputable def hl (x : Fr) (a : Nat) : Int := x.held.getD a 0
noncomputable def dy (x : Fr) (a : Nat) : Nat := x.dyes.getD a 0
noncomputable def chg (x : Fr) : Rw → Fr
  | .num a v => { x with held := x.held.set a v, dyes := x.dyes.set a 0 }
  | .cp a b => { x with held := x.held.set a (hl x b), dyes := x.dyes.set a (dy x b) }
  | .does a o b c => { x with held := x.held.set a (o.go (hl x b) (hl x c)), dyes := x.dyes.set a (dy x b ||| dy x c) }
  | .dye a => { x with dyes := x.dyes.set a 1 }
  | .wash a => { x with dyes := x.dyes.set a 0 }
  | _ => x
noncomputable def nxt (x : Fr) : Rw → Nat
  | .to k => k
  | .iff a k => if hl x a ≠ 0 then k else x.p + 1
  | _ => x.p + 1
noncomputable def mskF : List Nat → Nat → Nat
  | [], _ => 0
  | d :: r, i => d * 2 ^ i + mskF r (i + 1)
noncomputable def msk (ds : List Nat) : Nat := 1 + mskF ds 1
noncomputable abbrev E3 := Nat × Nat × Nat
inductive St1 where
  | go (x : Fr) (rs : List Fr) (es : List E3) | done (v : Int) (e : E3) | no
noncomputable def back (x : Fr) (F : PF) (a : Nat) : E3 := (x.f, F.rows.length, 1 + dy x a * 2 ^ (1 + F.vars.length))
noncomputable def ent (x : Fr) : E3 := (x.f, x.p, msk x.dyes)
noncomputable def newFr (x : Fr) (g : Nat) (G : PF) (as : List Nat) : Fr := ⟨g, 0, as.map (hl x) ++ List.replicate (G.vars.length - as.length) 0, as.map (dy x) ++ List.replicate (G.vars.length - as.length) 0⟩
noncomputable def given (c : Fr) (b : Nat) (v : Int) (d : Nat) : Fr := ⟨c.f, c.p + 1, c.held.set b v, c.dyes.set b d⟩
noncomputable def plainM (x : Fr) (r : Rw) : Fr := let y := chg x r; { y with p := nxt y r }
noncomputable def rowAt (P : Prog) (x : Fr) : Option (PF × Rw) := match P[x.f]? with | some F => (match F.rows[x.p]? with | some r => some (F, r) | none => none) | none => none
noncomputable def stepM (P : Prog) (x : Fr) (rs : List Fr) : St1 := match rowAt P x with
  | some (F, .ret a) => (match rs with
    | [] => .done (hl x a) (back x F a)
    | c :: rs' => (match rowAt P c with
      | some (_, .call b _ _) => .go (given c b (hl x a) (dy x a)) rs' [back x F a, ent (given c b (hl x a) (dy x a))]
      | _ => .no))
  | some (_, .call _ g as) => (match P[g]? with
    | some G => .go (newFr x g G as) (x :: rs) [ent (newFr x g G as)]
    | none => .no)
  | some (_, r) => .go (plainM x r) rs [ent (plainM x r)]
  | none => .no
noncomputable abbrev E4 := Nat × E3
noncomputable def stD (e : E4) : D := .tup [nD e.1, nD e.2.1, nD e.2.2.1, nD e.2.2.2]
noncomputable def runM (P : Prog) : Nat → Nat → Fr → List Fr → List E4 → List E4 × Option Int
  | 0, _, _, _, acc => (acc, none)
  | n + 1, k, x, rs, acc => match stepM P x rs with
    | .go x' rs' es => runM P n (k + 1) x' rs' (acc ++ es.map fun e => (k + 1, e))
    | .done v e => (acc ++ [(k + 1, e)], some v)
    | .no => (acc, none)
noncomputable def endD : Option Int → D
  | some v => .tup [.str "done", .int v]
  | none => .tup [.str "spent"]
structure FrOk (P : Prog) (x : Fr) : Prop where
  ex : ∃ F, P[x.f]? = some F ∧ x.p < F.rows.length ∧ x.held.length = F.vars.length ∧ x.dyes.length = F.vars.length
  d1 : ∀ d ∈ x.dyes, d ≤ 1
  h18 : ∀ v ∈ x.held, 0 ≤ v ∧ v < 1000000000000000000
noncomputable def waits (P : Prog) (c : Fr) : Prop := ∃ F b g as, rowAt P c = some (F, .call b g as)
structure StOk (P : Prog) (x : Fr) (rs : List Fr) : Prop where
  top : FrOk P x
  rest : ∀ c ∈ rs, FrOk P c ∧ waits P c
theorem getD_mem {τ : Type} {l : List τ} {a : Nat} {d : τ} (h : a < l.length) : l.getD a d ∈ l := by
  rw [List.getD_eq_getElem?_getD, List.getElem?_eq_getElem h]; exact List.getElem_mem h
theorem mem_set_of {τ : Type} {l : List τ} {a : Nat} {v w : τ} (h : w ∈ l.set a v) : w = v ∨ w ∈ l := by
  rcases List.mem_or_eq_of_mem_set h with z | z
  · exact .inr z
  · exact .inl z
theorem or_le1 {a b : Nat} (ha : a ≤ 1) (hb : b ≤ 1) : a ||| b ≤ 1 := by
  have : a = 0 ∨ a = 1 := by omega
  have : b = 0 ∨ b = 1 := by omega
  rcases ‹a = 0 ∨ a = 1› with rfl | rfl <;> rcases ‹b = 0 ∨ b = 1› with rfl | rfl <;> decide
theorem Op3.ok (o : Op3) (y z : Int) : 0 ≤ o.go y z ∧ o.go y z < 1000000000000000000 := by
  have h : (1000000000000000000 : Int) ≠ 0 := by decide
  cases o <;> exact ⟨Int.emod_nonneg _ h, Int.emod_lt_of_pos _ (by decide)⟩
theorem rowAt_inv {P : Prog} {x : Fr} {F : PF} {r : Rw} (h : rowAt P x = some (F, r)) : P[x.f]? = some F ∧ F.rows[x.p]? = some r := by
  unfold rowAt at h
  cases q : P[x.f]? with
  | none => rw [q] at h; cases h
  | some G =>
    rw [q] at h
    dsimp only at h
    cases q2 : G.rows[x.p]? with
    | none => rw [q2] at h; cases h
    | some s => rw [q2] at h; cases h; exact ⟨rfl, q2⟩
theorem rowAt_of {P : Prog} {x : Fr} {F : PF} {r : Rw} (h1 : P[x.f]? = some F) (h2 : F.rows[x.p]? = some r) : rowAt P x = some (F, r) := by
  unfold rowAt; rw [h1]; dsimp only; rw [h2]
theorem FrOk.row {P : Prog} {x : Fr} (k : FrOk P x) : ∃ F r, P[x.f]? = some F ∧ F.rows[x.p]? = some r ∧ rowAt P x = some (F, r) ∧ x.held.length = F.vars.length ∧ x.dyes.length = F.vars.length := by
  obtain ⟨F, hF, hp, h1, h2⟩ := k.ex
  exact ⟨F, F.rows[x.p], hF, List.getElem?_eq_getElem hp, rowAt_of hF (List.getElem?_eq_getElem hp), h1, h2⟩
theorem FrOk.hl {P : Prog} {x : Fr} (k : FrOk P x) {a : Nat} (h : a < x.held.length) : 0 ≤ CM.hl x a ∧ CM.hl x a < 1000000000000000000 := k.h18 _ (getD_mem h)
theorem FrOk.dy {P : Prog} {x : Fr} (k : FrOk P x) {a : Nat} (h : a < x.dyes.length) : CM.dy x a ≤ 1 := k.d1 _ (getD_mem h)
theorem set_all {τ : Type} {l : List τ} {a : Nat} {v : τ} {q : τ → Prop} (h : ∀ w ∈ l, q w) (hv : q v) : ∀ w ∈ l.set a v, q w := fun w hw => by
  rcases mem_set_of hw with z | z
  · rw [z]; exact hv
  · exact h w z
noncomputable def plain : Rw → Prop
  | .call _ _ _ => False
  | .ret _ => False
  | _ => True
theorem FrOk.plain {P : Prog} (wf : WFP P) {x : Fr} (k : FrOk P x) {F : PF} {r : Rw} (hF : P[x.f]? = some F) (hr : F.rows[x.p]? = some r) (hp : plain r) : FrOk P (plainM x r) := by
  obtain ⟨F', hF', hxp, h1, h2⟩ := k.ex
  rw [hF] at hF'; cases hF'
  obtain ⟨_, _, _, _, ok, last⟩ := wf.fn _ F hF
  have ro := ok r (List.mem_of_getElem? hr)
  have nx : ¬ lastOk r → x.p + 1 < F.rows.length := fun h => by
    rcases Nat.lt_or_ge (x.p + 1) F.rows.length with z | z
    · exact z
    · exact absurd (last r (by rw [show F.rows.length - 1 = x.p by omega]; exact hr)) h
  cases r with
  | call => exact hp.elim
  | ret => exact hp.elim
  | num a v => exact ⟨⟨F, hF, nx id, by simpa [plainM, chg] using h1, by simpa [plainM, chg] using h2⟩, set_all k.d1 (by decide), set_all k.h18 ro.2⟩
  | cp a b => exact ⟨⟨F, hF, nx id, by simpa [plainM, chg] using h1, by simpa [plainM, chg] using h2⟩, set_all k.d1 (k.dy (by rw [h2]; exact ro.2)), set_all k.h18 (k.hl (by rw [h1]; exact ro.2))⟩
  | does a o b c => exact ⟨⟨F, hF, nx id, by simpa [plainM, chg] using h1, by simpa [plainM, chg] using h2⟩, set_all k.d1 (or_le1 (k.dy (by rw [h2]; exact ro.2.1)) (k.dy (by rw [h2]; exact ro.2.2))), set_all k.h18 (o.ok _ _)⟩
  | dye a => exact ⟨⟨F, hF, nx id, h1, by simpa [plainM, chg] using h2⟩, set_all k.d1 (Nat.le_refl _), k.h18⟩
  | wash a => exact ⟨⟨F, hF, nx id, h1, by simpa [plainM, chg] using h2⟩, set_all k.d1 (by decide), k.h18⟩
  | iff a q =>
    refine ⟨⟨F, hF, ?_, h1, h2⟩, k.d1, k.h18⟩
    show (if CM.hl x a ≠ 0 then q else x.p + 1) < _
    split
    · exact ro.2
    · exact nx id
  | to q => exact ⟨⟨F, hF, ro, h1, h2⟩, k.d1, k.h18⟩
theorem FrOk.new {P : Prog} (wf : WFP P) {x : Fr} (k : FrOk P x) {F G : PF} {a g : Nat} {as : List Nat} (hF : P[x.f]? = some F) (hr : F.rows[x.p]? = some (.call a g as)) (hG : P[g]? = some G) : FrOk P (newFr x g G as) := by
  obtain ⟨F', hF', hxp, h1, h2⟩ := k.ex
  rw [hF] at hF'; cases hF'
  obtain ⟨_, _, _, _, ok, last⟩ := wf.fn _ F hF
  obtain ⟨_, G', hG', la, aa⟩ := ok _ (List.mem_of_getElem? hr)
  rw [hG] at hG'; cases hG'
  obtain ⟨gg, _, g1, _⟩ := wf.fn _ G hG
  refine ⟨⟨G, hG, g1, by simp [newFr]; omega, by simp [newFr]; omega⟩, fun d hd => ?_, fun v hv => ?_⟩
  · rcases List.mem_append.mp hd with z | z
    · obtain ⟨b, hb, rfl⟩ := List.mem_map.mp z
      exact k.dy (by rw [h2]; exact aa b hb)
    · rw [List.eq_of_mem_replicate z]; decide
  · rcases List.mem_append.mp hv with z | z
    · obtain ⟨b, hb, rfl⟩ := List.mem_map.mp z
      exact k.hl (by rw [h1]; exact aa b hb)
    · rw [List.eq_of_mem_replicate z]; decide
theorem FrOk.given {P : Prog} (wf : WFP P) {c : Fr} (k : FrOk P c) {F : PF} {b g : Nat} {as : List Nat} (hr : rowAt P c = some (F, .call b g as)) {v : Int} {d : Nat} (hv : 0 ≤ v ∧ v < 1000000000000000000) (hd : d ≤ 1) : FrOk P (given c b v d) := by
  obtain ⟨hF, hr⟩ := rowAt_inv hr
  obtain ⟨F', hF', hxp, h1, h2⟩ := k.ex
  rw [hF] at hF'; cases hF'
  obtain ⟨_, _, _, _, ok, last⟩ := wf.fn _ F hF
  have nx : c.p + 1 < F.rows.length := by
    rcases Nat.lt_or_ge (c.p + 1) F.rows.length with z | z
    · exact z
    · exact absurd (last _ (by rw [show F.rows.length - 1 = c.p by omega]; exact hr)) id
  exact ⟨⟨F, hF, nx, by simpa [CM.given] using h1, by simpa [CM.given] using h2⟩, set_all k.d1 hd, set_all k.h18 hv⟩
end CM
namespace CM
open PySem L2 DL
noncomputable def frO (n : Nat) (x : Fr) : O := .ins "Frame" [("function", nD x.f), ("place", nD x.p), ("held", .ref n), ("dyes", .ref (n + 1))]
noncomputable def hdO (x : Fr) : O := .lst (x.held.map D.int)
noncomputable def dyO (x : Fr) : O := .lst (x.dyes.map nD)
noncomputable def frPut (h : Hh) (n : Nat) (x : Fr) : Hh := ((h.set n (hdO x)).set (n + 1) (dyO x)).set (n + 2) (frO n x)
structure FAt (h : Hh) (n : Nat) (x : Fr) : Prop where
  a : h[n]? = some (hdO x)
  b : h[n + 1]? = some (dyO x)
  c : h[n + 2]? = some (frO n x)
theorem FAt.lt {h : Hh} {n : Nat} {x : Fr} (k : FAt h n x) : n + 2 < h.length := (List.getElem?_eq_some_iff.mp k.c).1
theorem FAt.same {h : Hh} {n : Nat} {x : Fr} (k : FAt h n x) : frPut h n x = h := by
  unfold frPut
  rw [set_same k.a, set_same k.b, set_same k.c]
theorem frPut_len (h : Hh) (n : Nat) (x : Fr) : (frPut h n x).length = h.length := by unfold frPut; simp
theorem frPut_ne {h : Hh} {n i : Nat} {x : Fr} (h0 : i ≠ n) (h1 : i ≠ n + 1) (h2 : i ≠ n + 2) : (frPut h n x)[i]? = h[i]? := by
  unfold frPut
  rw [List.getElem?_set_ne (Ne.symm h2), List.getElem?_set_ne (Ne.symm h1), List.getElem?_set_ne (Ne.symm h0)]
theorem frPut_at {h : Hh} {n : Nat} (x : Fr) (hl : n + 2 < h.length) : FAt (frPut h n x) n x := by
  unfold frPut
  refine ⟨?_, ?_, List.getElem?_set_self (by simpa using hl)⟩
  · rw [List.getElem?_set_ne (by omega), List.getElem?_set_ne (by omega), List.getElem?_set_self (by omega)]
  · rw [List.getElem?_set_ne (by omega), List.getElem?_set_self (by rw [List.length_set]; omega)]
section
variable {h : Hh} {i n : Nat} {x : Fr} {Q : DK}
theorem fr_function (e : h[i]? = some (frO n x)) : pFld "Frame" "function" (.ref i) h Q = Q (nD x.f) h := by unfold pFld; rw [insO_ref e]; rfl
theorem fr_place (e : h[i]? = some (frO n x)) : pFld "Frame" "place" (.ref i) h Q = Q (nD x.p) h := by unfold pFld; rw [insO_ref e]; rfl
theorem fr_held (e : h[i]? = some (frO n x)) : pFld "Frame" "held" (.ref i) h Q = Q (.ref n) h := by unfold pFld; rw [insO_ref e]; rfl
theorem fr_dyes (e : h[i]? = some (frO n x)) : pFld "Frame" "dyes" (.ref i) h Q = Q (.ref (n + 1)) h := by unfold pFld; rw [insO_ref e]; rfl
theorem fr_setp {p : Nat} {Q : Hh → Prop} (e : h[i]? = some (frO n x)) (q : Q (h.set i (frO n { x with p := p }))) : setF "Frame" "place" (.ref i) (nD p) h Q := by
  unfold setF
  dsimp only
  rw [show h[i]? = some (.ins "Frame" [("function", nD x.f), ("place", nD x.p), ("held", .ref n), ("dyes", .ref (n + 1))]) from e]
  refine ⟨⟨rfl, by simp⟩, ?_⟩
  have : putA (Str.ofString "place") (nD p) [(Str.ofString "function", nD x.f), (Str.ofString "place", nD x.p), (Str.ofString "held", D.ref n), (Str.ofString "dyes", D.ref (n + 1))] = [(Str.ofString "function", nD x.f), (Str.ofString "place", nD p), (Str.ofString "held", D.ref n), (Str.ofString "dyes", D.ref (n + 1))] := by
    show (if _ then _ else _ :: (if _ then _ else _)) = _
    rw [if_neg (by decide +kernel), if_pos rfl]
  rw [this]
  exact q
theorem fr_has {m : Str} (e : h[i]? = some (frO n x)) (l : ([(Str.ofString "function", nD x.f), (Str.ofString "place", nD x.p), (Str.ofString "held", D.ref n), (Str.ofString "dyes", D.ref (n + 1))] : List (Str × D)).lookup m = none) : hasM "Frame" m h (.ref i) := by
  unfold hasM
  rw [insO_ref e]; exact l
end
theorem setF_at {cn f : Str} {h : Hh} {i : Nat} {v : D} {fs : List (Str × D)} {Q : Hh → Prop} (e : h[i]? = some (.ins cn fs)) (hl : fs.length < 1000) (q : Q (h.set i (.ins cn (putA f v fs)))) : setF cn f (.ref i) v h Q := by
  unfold setF
  dsimp only
  rw [e]
  exact ⟨⟨rfl, hl⟩, q⟩
noncomputable def rnO (p : D) (r k : Nat) : O := .ins "Runner" [("program", p), ("frames", .ref (r + 1)), ("steps", nD k), ("states", .ref (r + 2))]
section
variable {h : Hh} {i r k : Nat} {p : D} {Q : DK}
theorem rn_program (e : h[i]? = some (rnO p r k)) : pFld "Runner" "program" (.ref i) h Q = Q p h := by unfold pFld; rw [insO_ref e]; rfl
theorem rn_frames (e : h[i]? = some (rnO p r k)) : pFld "Runner" "frames" (.ref i) h Q = Q (.ref (r + 1)) h := by unfold pFld; rw [insO_ref e]; rfl
theorem rn_steps (e : h[i]? = some (rnO p r k)) : pFld "Runner" "steps" (.ref i) h Q = Q (nD k) h := by unfold pFld; rw [insO_ref e]; rfl
theorem rn_states (e : h[i]? = some (rnO p r k)) : pFld "Runner" "states" (.ref i) h Q = Q (.ref (r + 2)) h := by unfold pFld; rw [insO_ref e]; rfl
theorem rn_has {m : Str} (e : h[i]? = some (rnO p r k)) (l : ([(Str.ofString "program", p), (Str.ofString "frames", D.ref (r + 1)), (Str.ofString "steps", nD k), (Str.ofString "states", D.ref (r + 2))] : List (Str × D)).lookup m = none) : hasM "Runner" m h (.ref i) := by
  unfold hasM
  rw [insO_ref e]; exact l
theorem rn_sets {n : Nat} {Q : Hh → Prop} (e : h[i]? = some (rnO p r k)) (q : Q (h.set i (rnO p r n))) : setF "Runner" "steps" (.ref i) (nD n) h Q := by
  unfold setF
  dsimp only
  rw [show h[i]? = some (.ins "Runner" [("program", p), ("frames", .ref (r + 1)), ("steps", nD k), ("states", .ref (r + 2))]) from e]
  refine ⟨⟨rfl, by simp⟩, ?_⟩
  have : putA (Str.ofString "steps") (nD n) [(Str.ofString "program", p), (Str.ofString "frames", D.ref (r + 1)), (Str.ofString "steps", nD k), (Str.ofString "states", D.ref (r + 2))] = [(Str.ofString "program", p), (Str.ofString "frames", D.ref (r + 1)), (Str.ofString "steps", nD n), (Str.ofString "states", D.ref (r + 2))] := by
    show (if _ then _ else _ :: (if _ then _ else _ :: (if _ then _ else _))) = _
    rw [if_neg (by decide +kernel), if_neg (by decide +kernel), if_pos rfl]
  rw [this]
  exact q
end
structure RAt (P : Prog) (h : Hh) (r k : Nat) (fs : List (Nat × Fr)) (es : List E4) : Prop where
  o : h[r]? = some (rnO (prD' P) r k)
  fr : h[r + 1]? = some (.lst (fs.reverse.map fun y => .ref (y.1 + 2)))
  st : h[r + 2]? = some (.lst (es.map stD))
  fa : ∀ y ∈ fs, FAt h y.1 y.2 ∧ r + 3 ≤ y.1
  pw : fs.Pairwise fun x y => y.1 + 3 ≤ x.1
noncomputable def Kp (r : Nat) (h h' : Hh) : Prop := h'.take r = h.take r ∧ r ≤ h'.length
theorem Kp.trans {r : Nat} {a b c : Hh} (x : Kp r a b) (y : Kp r b c) : Kp r a c := ⟨y.1.trans x.1, y.2⟩
theorem Kp.set {r i : Nat} {h : Hh} {o : O} (hi : r ≤ i) (hr : r ≤ h.length) : Kp r h (h.set i o) := ⟨by rw [List.take_set_of_le hi], by simpa using hr⟩
theorem Kp.app {r : Nat} {h g : Hh} (hr : r ≤ h.length) : Kp r h (h ++ g) := ⟨by rw [List.take_append_of_le_length hr], by simp; omega⟩
theorem Kp.frPut {r n : Nat} {h : Hh} {x : Fr} (hn : r ≤ n) (hr : r ≤ h.length) : Kp r h (frPut h n x) := by
  unfold CM.frPut
  exact (Kp.set hn hr).trans ((Kp.set (by omega) (by simpa using hr)).trans (Kp.set (by omega) (by simpa using hr)))
section
variable {P : Prog} {h : Hh} {r k n : Nat} {x x' : Fr} {fs : List (Nat × Fr)} {es : List E4}
theorem RAt.lt (R : RAt P h r k fs es) : r + 2 < h.length := (List.getElem?_eq_some_iff.mp R.st).1
theorem RAt.top (R : RAt P h r k ((n, x) :: fs) es) (x' : Fr) : RAt P (frPut h n x') r k ((n, x') :: fs) es := by
  obtain ⟨f1, n1⟩ := R.fa (n, x) List.mem_cons_self
  have n1 : r + 3 ≤ n := n1
  have pw := List.pairwise_cons.mp R.pw
  refine ⟨by rw [frPut_ne (by omega) (by omega) (by omega)]; exact R.o, by rw [frPut_ne (by omega) (by omega) (by omega)]; have := R.fr; rw [List.reverse_cons, List.map_append] at this ⊢; exact this, by rw [frPut_ne (by omega) (by omega) (by omega)]; exact R.st, fun y hy => ?_, List.pairwise_cons.mpr ⟨pw.1, pw.2⟩⟩
  rcases List.mem_cons.mp hy with z | z
  · subst z; exact ⟨frPut_at x' f1.lt, n1⟩
  · obtain ⟨⟨a, b, c⟩, m⟩ := R.fa y (List.mem_cons_of_mem _ z)
    have := pw.1 y z
    exact ⟨⟨by rw [frPut_ne (by omega) (by omega) (by omega)]; exact a, by rw [frPut_ne (by omega) (by omega) (by omega)]; exact b, by rw [frPut_ne (by omega) (by omega) (by omega)]; exact c⟩, m⟩
theorem FAt.far {h : Hh} {n i : Nat} {x : Fr} {o : O} (f : FAt h n x) (h1 : i < n) : FAt (h.set i o) n x :=
  ⟨by rw [List.getElem?_set_ne (by omega)]; exact f.a, by rw [List.getElem?_set_ne (by omega)]; exact f.b, by rw [List.getElem?_set_ne (by omega)]; exact f.c⟩
theorem RAt.steps (R : RAt P h r k fs es) (m : Nat) : RAt P (h.set r (rnO (prD' P) r m)) r m fs es := by
  have := R.lt
  refine ⟨List.getElem?_set_self (by omega), by rw [List.getElem?_set_ne (by omega)]; exact R.fr, by rw [List.getElem?_set_ne (by omega)]; exact R.st, fun y hy => ?_, R.pw⟩
  obtain ⟨f, m⟩ := R.fa y hy
  exact ⟨f.far (by omega), m⟩
theorem RAt.state (R : RAt P h r k fs es) (es' : List E4) : RAt P (h.set (r + 2) (.lst (es'.map stD))) r k fs es' := by
  have := R.lt
  refine ⟨by rw [List.getElem?_set_ne (by omega)]; exact R.o, by rw [List.getElem?_set_ne (by omega)]; exact R.fr, List.getElem?_set_self (by omega), fun y hy => ?_, R.pw⟩
  obtain ⟨f, m⟩ := R.fa y hy
  exact ⟨f.far (by omega), m⟩
theorem RAt.pop (R : RAt P h r k ((n, x) :: fs) es) : RAt P (h.set (r + 1) (.lst (fs.reverse.map fun y => .ref (y.1 + 2)))) r k fs es := by
  have := R.lt
  refine ⟨by rw [List.getElem?_set_ne (by omega)]; exact R.o, List.getElem?_set_self (by omega), by rw [List.getElem?_set_ne (by omega)]; exact R.st, fun y hy => ?_, (List.pairwise_cons.mp R.pw).2⟩
  obtain ⟨f, m⟩ := R.fa y (List.mem_cons_of_mem _ hy)
  exact ⟨f.far (by omega), m⟩
theorem FAt.app {h g : Hh} {n : Nat} {x : Fr} (f : FAt h n x) : FAt (h ++ g) n x := by
  have := f.lt
  exact ⟨by rw [List.getElem?_append_left (by omega)]; exact f.a, by rw [List.getElem?_append_left (by omega)]; exact f.b, by rw [List.getElem?_append_left (by omega)]; exact f.c⟩
theorem RAt.push (R : RAt P h r k fs es) (x : Fr) : RAt P ((h ++ [hdO x, dyO x, frO h.length x]).set (r + 1) (.lst (((h.length, x) :: fs).reverse.map fun y => .ref (y.1 + 2)))) r k ((h.length, x) :: fs) es := by
  have := R.lt
  refine ⟨by rw [List.getElem?_set_ne (by omega), List.getElem?_append_left (by omega)]; exact R.o, List.getElem?_set_self (by simp; omega), by rw [List.getElem?_set_ne (by omega), List.getElem?_append_left (by omega)]; exact R.st, fun y hy => ?_, List.pairwise_cons.mpr ⟨fun y hy => ?_, R.pw⟩⟩
  · rcases List.mem_cons.mp hy with z | z
    · subst z
      refine ⟨FAt.far ⟨?_, ?_, ?_⟩ (by omega), by omega⟩
      · rw [List.getElem?_append_right (Nat.le_refl _), Nat.sub_self]; rfl
      · rw [List.getElem?_append_right (by omega), show h.length + 1 - h.length = 1 by omega]; rfl
      · rw [List.getElem?_append_right (by omega), show h.length + 2 - h.length = 2 by omega]; rfl
    · obtain ⟨f, m⟩ := R.fa y z
      exact ⟨f.app.far (by omega), m⟩
  · have := (R.fa y hy).1.lt
    omega
end
theorem msk_snoc : ∀ (ds : List Nat) (d i : Nat), mskF (ds ++ [d]) i = mskF ds i + d * 2 ^ (i + ds.length)
  | [], d, i => by show d * 2 ^ i + 0 = 0 + d * 2 ^ (i + 0); simp
  | a :: r, d, i => by
    show a * 2 ^ i + mskF (r ++ [d]) (i + 1) = a * 2 ^ i + mskF r (i + 1) + d * 2 ^ (i + (r.length + 1))
    rw [msk_snoc r d (i + 1), show i + 1 + r.length = i + (r.length + 1) by omega]; omega
theorem msk_lt : ∀ (ds : List Nat), (∀ d ∈ ds, d ≤ 1) → msk ds < 2 ^ (1 + ds.length) := by
  have key : ∀ (ds : List Nat) (i : Nat), (∀ d ∈ ds, d ≤ 1) → 2 ^ i + mskF ds i ≤ 2 ^ (i + ds.length) := by
    intro ds
    induction ds with
    | nil => intro i _; show 2 ^ i + 0 ≤ 2 ^ (i + 0); simp
    | cons d r ih =>
      intro i h
      have h1 := ih (i + 1) fun e he => h e (List.mem_cons_of_mem _ he)
      have h2 := h d List.mem_cons_self
      have h3 : d * 2 ^ i ≤ 1 * 2 ^ i := Nat.mul_le_mul_right _ h2
      show 2 ^ i + (d * 2 ^ i + mskF r (i + 1)) ≤ 2 ^ (i + (r.length + 1))
      rw [show i + (r.length + 1) = i + 1 + r.length by omega]
      rw [Nat.pow_succ] at h1
      omega
  intro ds h
  have := key ds 1 h
  unfold msk
  omega
theorem or_add {m d i : Nat} (h : m < 2 ^ i) : m ||| d * 2 ^ i = m + d * 2 ^ i := by
  rw [← Nat.shiftLeft_eq, Nat.or_comm, ← Nat.shiftLeft_add_eq_or_of_lt h]; omega
theorem pr_ix {P : Prog} {f : Nat} {F : PF} (h : Hh) (hF : P[f]? = some F) : ixD h (prD' P) (nD f) = some (.tup [F.name, nD F.given, .tup F.vars, .tup (F.rows.map rrD)]) := by
  show atI (P.map pfD) (f : Int) = _
  rw [atN, List.getElem?_map, hF]; rfl
theorem flat1 (m : Nat) (d : D) : (List.replicate m [d]).flatten = List.replicate m d := by
  induction m with
  | zero => rfl
  | succ m ih => rw [List.replicate_succ, List.flatten_cons, ih]; rfl
theorem hl_ix {x : Fr} {a : Nat} (h : a < x.held.length) : atI (x.held.map D.int) (a : Int) = some (.int (hl x a)) := by
  rw [atN, List.getElem?_map, List.getElem?_eq_getElem h]
  unfold hl
  rw [List.getD_eq_getElem?_getD, List.getElem?_eq_getElem h]; rfl
theorem dy_ix {x : Fr} {a : Nat} (h : a < x.dyes.length) : atI (x.dyes.map nD) (a : Int) = some (nD (dy x a)) := by
  rw [atN, List.getElem?_map, List.getElem?_eq_getElem h]
  unfold dy
  rw [List.getD_eq_getElem?_getD, List.getElem?_eq_getElem h]; rfl
theorem bitV (m d : Nat) : Builtin.bitAnd ((m : Int) / 2 ^ d) 1 = ((m >>> d % 2 : Nat) : Int) := by
  rw [bitI, Nat.testBit_eq_decide_div_mod_eq, Nat.shiftRight_eq_div_pow]
  by_cases h : m / 2 ^ d % 2 = 1
  · rw [decide_eq_true h, if_pos rfl, h]; rfl
  · rw [decide_eq_false h, if_neg (by simp), show m / 2 ^ d % 2 = 0 by omega]; rfl
theorem step_ok {P : Prog} (wf : WFP P) {x : Fr} {rs : List Fr} (k : StOk P x rs) : match stepM P x rs with
    | .go x' rs' es' => StOk P x' rs' ∧ es'.length ≤ 2 ∧ rs'.length ≤ rs.length + 1
    | .done _ _ => True
    | .no => False := by
  obtain ⟨F, r, hF, hr, hrow, h1, h2⟩ := k.top.row
  obtain ⟨_, v4, _, _, rok, _⟩ := wf.fn _ F hF
  have ro := rok _ (List.mem_of_getElem? hr)
  have pl : plain r → (match stepM P x rs with
    | .go x' rs' es' => StOk P x' rs' ∧ es'.length ≤ 2 ∧ rs'.length ≤ rs.length + 1
    | .done _ _ => True
    | .no => False) := fun hp => by
    have : stepM P x rs = .go (plainM x r) rs [ent (plainM x r)] := by
      unfold stepM
      rw [hrow]
      cases r <;> first | exact hp.elim | rfl
    rw [this]
    exact ⟨⟨k.top.plain wf hF hr hp, k.rest⟩, by simp, by omega⟩
  cases r with
  | ret a =>
    unfold stepM
    rw [hrow]
    cases rs with
    | nil => exact trivial
    | cons c rs' =>
      obtain ⟨okc, Fc, b, g, as, hrc⟩ := k.rest c List.mem_cons_self
      dsimp only
      rw [hrc]
      exact ⟨⟨okc.given wf hrc (k.top.hl (by rw [h1]; exact ro)) (k.top.dy (by rw [h2]; exact ro)), fun d hd => k.rest d (List.mem_cons_of_mem _ hd)⟩, by simp, by simp; omega⟩
  | call a g as =>
    obtain ⟨_, G, hG, _, _⟩ := ro
    unfold stepM
    rw [hrow]
    dsimp only
    rw [hG]
    refine ⟨⟨k.top.new wf hF hr hG, fun c hc => ?_⟩, by simp, by simp⟩
    rcases List.mem_cons.mp hc with z | z
    · rw [z]; exact ⟨k.top, F, a, g, as, hrow⟩
    · exact k.rest c z
  | num => exact pl trivial
  | cp => exact pl trivial
  | does => exact pl trivial
  | dye => exact pl trivial
  | wash => exact pl trivial
  | iff => exact pl trivial
  | to => exact pl trivial
noncomputable def rwIn (x : Fr) : Rw → Prop
  | .num a _ => a < x.held.length ∧ a < x.dyes.length
  | .cp a b => (a < x.held.length ∧ a < x.dyes.length) ∧ b < x.held.length ∧ b < x.dyes.length
  | .does a _ b c => (a < x.held.length ∧ a < x.dyes.length) ∧ (b < x.held.length ∧ b < x.dyes.length) ∧ (c < x.held.length ∧ c < x.dyes.length) ∧ 0 ≤ hl x b ∧ hl x b < 1000000000000000000
  | .dye a => a < x.dyes.length
  | .wash a => a < x.dyes.length
  | .iff a _ => a < x.held.length
  | _ => True
theorem rw_in {P : Prog} {F : PF} {x : Fr} {r : Rw} (k : FrOk P x) (h1 : x.held.length = F.vars.length) (h2 : x.dyes.length = F.vars.length) (ok : rwOk P F r) : rwIn x r := by
  cases r with
  | num a v => exact ⟨by rw [h1]; exact ok.1, by rw [h2]; exact ok.1⟩
  | cp a b => exact ⟨⟨by rw [h1]; exact ok.1, by rw [h2]; exact ok.1⟩, by rw [h1]; exact ok.2, by rw [h2]; exact ok.2⟩
  | does a o b c => exact ⟨⟨by rw [h1]; exact ok.1, by rw [h2]; exact ok.1⟩, ⟨by rw [h1]; exact ok.2.1, by rw [h2]; exact ok.2.1⟩, ⟨by rw [h1]; exact ok.2.2, by rw [h2]; exact ok.2.2⟩, k.hl (by rw [h1]; exact ok.2.1)⟩
  | dye a => exact (by rw [h2]; exact ok : a < x.dyes.length)
  | wash a => exact (by rw [h2]; exact ok : a < x.dyes.length)
  | iff a k' => exact (by rw [h1]; exact ok.1 : a < x.held.length)
  | _ => exact trivial
theorem stepM_plain {P : Prog} {x : Fr} {rs : List Fr} {F : PF} {r : Rw} (h : rowAt P x = some (F, r)) (hp : plain r) : stepM P x rs = .go (plainM x r) rs [ent (plainM x r)] := by
  unfold stepM
  rw [h]
  cases r <;> first | exact hp.elim | rfl
theorem rw_kind (r : Rw) : (∃ a, r = .ret a) ∨ (∃ a g as, r = .call a g as) ∨ plain r := by
  cases r with
  | ret a => exact .inl ⟨a, rfl⟩
  | call a g as => exact .inr (.inl ⟨a, g, as, rfl⟩)
  | _ => exact .inr (.inr trivial)
theorem plain_word {r : Rw} (h : plain r) : ∃ w rest, rrD r = .tup (.str w :: rest) ∧ PyData.strOk w = true ∧ (w == Str.ofString "return") = false ∧ (w == Str.ofString "call") = false := by
  cases r with
  | call => exact h.elim
  | ret => exact h.elim
  | num => exact ⟨_, _, rfl, rk_number, rq_number_return, rq_number_call⟩
  | cp => exact ⟨_, _, rfl, rk_copy, rq_copy_return, rq_copy_call⟩
  | does => exact ⟨_, _, rfl, rk_does, rq_does_return, rq_does_call⟩
  | dye => exact ⟨_, _, rfl, rk_dye, rq_dye_return, rq_dye_call⟩
  | wash => exact ⟨_, _, rfl, rk_wash, rq_wash_return, rq_wash_call⟩
  | iff => exact ⟨_, _, rfl, rk_iff, rq_iff_return, rq_iff_call⟩
  | to => exact ⟨_, _, rfl, rk_to, rq_to_return, rq_to_call⟩
theorem nrD_rrD (r : Rw) : nrD (rrD r) = true := by
  cases r with
  | call x g as =>
    show (true && (true && (true && (nrDs (as.map nD) && true)))) = true
    rw [nrDs_map (fun _ => rfl) as]; rfl
  | _ => rfl
theorem nrD_stD (e : E4) : nrD (stD e) = true := rfl
theorem nrD_endD (e : Option Int) : nrD (endD e) = true := by cases e <;> rfl
noncomputable def rowOk (hs : List (Nat × Nat)) (v s : Nat) : Rw → Prop
  | .num x n => x < v ∧ 0 ≤ n ∧ n < 1000000000000000000
  | .cp x y => x < v ∧ y < v
  | .does x _ y z => x < v ∧ y < v ∧ z < v
  | .dye x => x < v
  | .wash x => x < v
  | .iff x k => x < v ∧ k < s
  | .to k => k < s
  | .call x g as => x < v ∧ ∃ y, hs[g]? = some y ∧ as.length = y.1 ∧ ∀ a ∈ as, a < v
  | .ret x => x < v
noncomputable def hdD (y : Nat × Nat) : D := .tup [nD y.1, nD y.2]
theorem Dr_run {h h' : Hh} {Q : DK} {i : Nat} {es : List E4} {e : Option Int} (kp : Kp h.length h h') (st : h'[i]? = some (.lst (es.map stD))) (hi : h.length ≤ i) (q : Q (.tup [.lst (es.map stD), endD e]) h) : Dr h Q (.tup [.ref i, endD e]) h' := by
  have tk : h'.take h.length = h := by rw [kp.1, List.take_length]
  refine ⟨h, h'.drop h.length, .tup [.lst (es.map stD), endD e], ?_, rfl, fun _ _ e => .inl e, .tup (.cons (.opn hi st (.of (nrDs_map nrD_stD es))) (.cons (.nr (nrD_endD e)) .nil)), q⟩
  conv => lhs; rw [← List.take_append_drop h.length h', tk]
theorem runM_succ (P : Prog) (n k : Nat) (x : Fr) (rs : List Fr) (acc : List E4) : runM P (n + 1) k x rs acc = match stepM P x rs with
    | .go x' rs' es => runM P n (k + 1) x' rs' (acc ++ es.map fun e => (k + 1, e))
    | .done v e => (acc ++ [(k + 1, e)], some v)
    | .no => (acc, none) := rfl
noncomputable def fst0 (F : PF) (vs : List Int) (dyed : Nat) : Fr := ⟨0, 0, vs ++ List.replicate (F.vars.length - vs.length) 0, ((List.range F.given).map fun v => dyed >>> v % 2) ++ List.replicate (F.vars.length - vs.length) 0⟩
theorem fst_d1 (F : PF) (vs : List Int) (dyed : Nat) : ∀ d ∈ (fst0 F vs dyed).dyes, d ≤ 1 := fun d hd => by
  rcases List.mem_append.mp hd with z | z
  · obtain ⟨b, _, rfl⟩ := List.mem_map.mp z
    omega
  · rw [List.eq_of_mem_replicate z]; decide
theorem fst_ok {P : Prog} {F : PF} {vs : List Int} (dyed : Nat) (wf : WFP P) (hF : P[0]? = some F) (hv : vs.length = F.given) (v18 : ∀ v ∈ vs, 0 ≤ v ∧ v < 1000000000000000000) : StOk P (fst0 F vs dyed) [] := by
  obtain ⟨gl, v4, r1, _⟩ := wf.fn 0 F hF
  refine ⟨⟨⟨F, hF, r1, by simp [fst0]; omega, by simp [fst0]; omega⟩, fst_d1 F vs dyed, fun v hv => ?_⟩, fun c hc => nomatch hc⟩
  rcases List.mem_append.mp hv with z | z
  · exact v18 v z
  · rw [List.eq_of_mem_replicate z]; decide
section
variable {h : Hh} {g n : Nat} {x : Fr} {ws : List (Nat × Fr)} {es : List E4}
end
theorem rk_done : PyData.strOk (Str.ofString "done") = true := by decide +kernel
theorem rk_spent : PyData.strOk (Str.ofString "spent") = true := by decide +kernel
noncomputable def stP (e : E4) : PyData := .tuple [.int e.1, .int e.2.1, .int e.2.2.1, .int e.2.2.2]
theorem pd_st (h : Hh) (e : E4) : Pd h (stD e) (stP e) 1 := .tup (.cons (.int _) (.cons (.int _) (.cons (.int _) (.cons (.int _) .nil))))
noncomputable def endP : Option Int → PyData
  | some v => .tuple [.str "done", .int v]
  | none => .tuple [.str "spent"]
theorem pd_end (h : Hh) (e : Option Int) : Pd h (endD e) (endP e) 1 := by
  cases e with
  | some v => exact .tup (.cons (.str rk_done) (.cons (.int _) .nil))
  | none => exact .tup (.cons (.str rk_spent) .nil)
theorem pd_run (h : Hh) (es : List E4) (e : Option Int) : Pd h (.tup [.lst (es.map stD), endD e]) (.tuple [.list (es.map stP), endP e]) 3 :=
  .tup (.cons (.lst (Pds.map (pd_st h))) (.cons ((pd_end h e).up (by decide)) .nil))
noncomputable def nmOk (F : PF) : Prop := ∃ s, F.name = .str s ∧ PyData.strOk s = true ∧ ∀ d ∈ F.vars, ∃ t, d = .str t ∧ PyData.strOk t = true
end CM
namespace CM
open PySem L2 DL
noncomputable def bv : List Nat → Nat
  | [] => 0
  | d :: r => d + 2 * bv r
theorem mskF_bv : ∀ (ds : List Nat) (i : Nat), mskF ds i = bv ds * 2 ^ i
  | [], i => by show 0 = 0 * _; rw [Nat.zero_mul]
  | d :: r, i => by
    show d * 2 ^ i + mskF r (i + 1) = (d + 2 * bv r) * 2 ^ i
    rw [mskF_bv r (i + 1), Nat.pow_succ, Nat.add_mul, Nat.mul_comm 2 (bv r), Nat.mul_assoc, Nat.mul_comm 2 (2 ^ i)]
theorem msk_bv (ds : List Nat) : msk ds = bv (1 :: ds) := by
  unfold msk
  rw [mskF_bv]
  show 1 + bv ds * 2 ^ 1 = 1 + 2 * bv ds
  omega
noncomputable def R4 (a b c d : Nat) : Prop := (a ≤ 1 ∧ b ≤ 1 ∧ d ≤ 1) ∧ c = a ||| b ∧ d ≤ a ∧ d ≤ b
theorem R4.zero : R4 0 0 0 0 := ⟨by decide, rfl, by decide, by decide⟩
theorem R4.one : R4 1 1 1 1 := ⟨by decide, rfl, by decide, by decide⟩
theorem bit01 {a : Nat} (h : a ≤ 1) : a = 0 ∨ a = 1 := by omega
theorem R4.or {a b c d a' b' c' d' : Nat} (x : R4 a b c d) (y : R4 a' b' c' d') : R4 (a ||| a') (b ||| b') (c ||| c') (d ||| d') := by
  obtain ⟨⟨a1, b1, d1⟩, rfl, h1, h2⟩ := x
  obtain ⟨⟨a2, b2, d2⟩, rfl, h3, h4⟩ := y
  rcases bit01 a1 with rfl | rfl <;> rcases bit01 b1 with rfl | rfl <;> rcases bit01 d1 with rfl | rfl <;> rcases bit01 a2 with rfl | rfl <;> rcases bit01 b2 with rfl | rfl <;> rcases bit01 d2 with rfl | rfl <;> first | omega | exact ⟨by decide, by decide, by decide, by decide⟩
noncomputable def M4 (a b c d : Nat) : Prop := a ||| b = c ∧ d &&& a = d ∧ d &&& b = d
inductive L4 : List Nat → List Nat → List Nat → List Nat → Prop
  | nil : L4 [] [] [] []
  | cons {a b c d : Nat} {as bs cs ds : List Nat} : R4 a b c d → L4 as bs cs ds → L4 (a :: as) (b :: bs) (c :: cs) (d :: ds)
theorem or_step {a b x y : Nat} (ha : a ≤ 1) (hb : b ≤ 1) : (a + 2 * x) ||| (b + 2 * y) = (a ||| b) + 2 * (x ||| y) := by
  apply Nat.eq_of_testBit_eq
  intro i
  have hab : a ||| b ≤ 1 := or_le1 ha hb
  cases i with
  | zero =>
    rw [Nat.testBit_or]
    rcases bit01 ha with rfl | rfl <;> rcases bit01 hb with rfl | rfl <;> simp [Nat.testBit_zero, Nat.add_mul_mod_self_left]
  | succ i =>
    rw [Nat.testBit_or, Nat.testBit_succ, Nat.testBit_succ, Nat.testBit_succ, show (a + 2 * x) / 2 = x by omega, show (b + 2 * y) / 2 = y by omega, show ((a ||| b) + 2 * (x ||| y)) / 2 = x ||| y by omega, Nat.testBit_or]
theorem and_step {a b x y : Nat} (ha : a ≤ 1) (hb : b ≤ 1) (h : a ≤ b) (e : x &&& y = x) : (a + 2 * x) &&& (b + 2 * y) = a + 2 * x := by
  apply Nat.eq_of_testBit_eq
  intro i
  cases i with
  | zero =>
    rw [Nat.testBit_and]
    rcases bit01 ha with rfl | rfl <;> rcases bit01 hb with rfl | rfl <;> first | omega | simp [Nat.testBit_zero, Nat.add_mul_mod_self_left]
  | succ i =>
    rw [Nat.testBit_and, Nat.testBit_succ, Nat.testBit_succ, show (a + 2 * x) / 2 = x by omega, show (b + 2 * y) / 2 = y by omega, ← Nat.testBit_and, e]
theorem L4.bv {as bs cs ds : List Nat} (h : L4 as bs cs ds) : M4 (CM.bv as) (CM.bv bs) (CM.bv cs) (CM.bv ds) := by
  induction h with
  | nil => exact ⟨rfl, rfl, rfl⟩
  | cons r _ ih =>
    obtain ⟨⟨a1, b1, d1⟩, rfl, h1, h2⟩ := r
    obtain ⟨i1, i2, i3⟩ := ih
    exact ⟨by show (_ + 2 * _) ||| (_ + 2 * _) = _ + 2 * _; rw [or_step a1 b1, i1], and_step d1 a1 h1 i2, and_step d1 b1 h2 i3⟩
theorem L4.msk {as bs cs ds : List Nat} (h : L4 as bs cs ds) : M4 (CM.msk as) (CM.msk bs) (CM.msk cs) (CM.msk ds) := by
  rw [msk_bv, msk_bv, msk_bv, msk_bv]
  exact (L4.cons R4.one h).bv
theorem L4.len {as bs cs ds : List Nat} (h : L4 as bs cs ds) : as.length = ds.length ∧ bs.length = ds.length ∧ cs.length = ds.length := by
  induction h with
  | nil => exact ⟨rfl, rfl, rfl⟩
  | cons _ _ ih => simp only [List.length_cons]; omega
theorem L4.get {as bs cs ds : List Nat} (h : L4 as bs cs ds) : ∀ i, R4 (as.getD i 0) (bs.getD i 0) (cs.getD i 0) (ds.getD i 0) := by
  induction h with
  | nil => intro i; simpa using R4.zero
  | cons r _ ih =>
    intro i
    cases i with
    | zero => simpa using r
    | succ i => simpa using ih i
theorem L4.set {as bs cs ds : List Nat} {a b c d : Nat} (h : L4 as bs cs ds) (r : R4 a b c d) : ∀ i, L4 (as.set i a) (bs.set i b) (cs.set i c) (ds.set i d) := by
  induction h with
  | nil => intro i; exact .nil
  | cons r' _ ih =>
    intro i
    cases i with
    | zero => exact .cons r ‹_›
    | succ i => exact .cons r' (ih i)
theorem L4.app {as bs cs ds as' bs' cs' ds' : List Nat} (h : L4 as bs cs ds) (h' : L4 as' bs' cs' ds') : L4 (as ++ as') (bs ++ bs') (cs ++ cs') (ds ++ ds') := by
  induction h with
  | nil => exact h'
  | cons r _ ih => exact .cons r ih
theorem L4.rep (n : Nat) : L4 (List.replicate n 0) (List.replicate n 0) (List.replicate n 0) (List.replicate n 0) := by
  induction n with
  | zero => exact .nil
  | succ n ih => exact .cons R4.zero ih
theorem L4.map {τ : Type} {f g h k : τ → Nat} : ∀ {l : List τ}, (∀ x ∈ l, R4 (f x) (g x) (h x) (k x)) → L4 (l.map f) (l.map g) (l.map h) (l.map k)
  | [], _ => .nil
  | x :: l, q => .cons (q x List.mem_cons_self) (L4.map fun y hy => q y (List.mem_cons_of_mem _ hy))
structure F4 (a b c d : Fr) : Prop where
  f : a.f = d.f ∧ b.f = d.f ∧ c.f = d.f
  p : a.p = d.p ∧ b.p = d.p ∧ c.p = d.p
  h : a.held = d.held ∧ b.held = d.held ∧ c.held = d.held
  l : L4 a.dyes b.dyes c.dyes d.dyes
inductive Fs4 : List Fr → List Fr → List Fr → List Fr → Prop
  | nil : Fs4 [] [] [] []
  | cons {a b c d : Fr} {as bs cs ds : List Fr} : F4 a b c d → Fs4 as bs cs ds → Fs4 (a :: as) (b :: bs) (c :: cs) (d :: ds)
noncomputable def E3r (a b c d : E3) : Prop := (a.1 = d.1 ∧ b.1 = d.1 ∧ c.1 = d.1) ∧ (a.2.1 = d.2.1 ∧ b.2.1 = d.2.1 ∧ c.2.1 = d.2.1) ∧ M4 a.2.2 b.2.2 c.2.2 d.2.2
noncomputable def E4r (a b c d : E4) : Prop := (a.1 = d.1 ∧ b.1 = d.1 ∧ c.1 = d.1) ∧ E3r a.2 b.2 c.2 d.2
inductive A4 {τ : Type} (R : τ → τ → τ → τ → Prop) : List τ → List τ → List τ → List τ → Prop
  | nil : A4 R [] [] [] []
  | cons {a b c d : τ} {as bs cs ds : List τ} : R a b c d → A4 R as bs cs ds → A4 R (a :: as) (b :: bs) (c :: cs) (d :: ds)
theorem A4.app {τ : Type} {R : τ → τ → τ → τ → Prop} {as bs cs ds as' bs' cs' ds' : List τ} (h : A4 R as bs cs ds) (h' : A4 R as' bs' cs' ds') : A4 R (as ++ as') (bs ++ bs') (cs ++ cs') (ds ++ ds') := by
  induction h with
  | nil => exact h'
  | cons r _ ih => exact .cons r ih
theorem A4.len {τ : Type} {R : τ → τ → τ → τ → Prop} {as bs cs ds : List τ} (h : A4 R as bs cs ds) : as.length = cs.length ∧ bs.length = cs.length ∧ ds.length = cs.length := by
  induction h with
  | nil => exact ⟨rfl, rfl, rfl⟩
  | cons _ _ ih => simp only [List.length_cons]; omega
theorem A4.get {τ : Type} {R : τ → τ → τ → τ → Prop} {as bs cs ds : List τ} (h : A4 R as bs cs ds) : ∀ (i : Nat), i < cs.length → ∃ a b c d, as[i]? = some a ∧ bs[i]? = some b ∧ cs[i]? = some c ∧ ds[i]? = some d ∧ R a b c d := by
  induction h with
  | nil => intro i hi; exact absurd hi (Nat.not_lt_zero _)
  | cons r _ ih =>
    intro i hi
    cases i with
    | zero => exact ⟨_, _, _, _, rfl, rfl, rfl, rfl, r⟩
    | succ i =>
      obtain ⟨a, b, c, d, h1, h2, h3, h4, q⟩ := ih i (by simpa using hi)
      exact ⟨a, b, c, d, by simpa using h1, by simpa using h2, by simpa using h3, by simpa using h4, q⟩
theorem A4.map3 {k : Nat} {as bs cs ds : List E3} (h : A4 E3r as bs cs ds) : A4 E4r (as.map fun e => (k, e)) (bs.map fun e => (k, e)) (cs.map fun e => (k, e)) (ds.map fun e => (k, e)) := by
  induction h with
  | nil => exact .nil
  | cons r _ ih => exact .cons ⟨⟨rfl, rfl, rfl⟩, r⟩ ih
theorem F4.ent {a b c d : Fr} (k : F4 a b c d) : E3r (CM.ent a) (CM.ent b) (CM.ent c) (CM.ent d) := ⟨k.f, k.p, k.l.msk⟩
theorem back_msk (x : Fr) (F : PF) (a : Nat) : 1 + dy x a * 2 ^ (1 + F.vars.length) = msk (List.replicate F.vars.length 0 ++ [dy x a]) := by
  unfold msk
  rw [msk_snoc, List.length_replicate]
  have : ∀ n i, mskF (List.replicate n 0) i = 0 := fun n => by
    induction n with
    | zero => intro i; rfl
    | succ n ih => intro i; show 0 * _ + mskF (List.replicate n 0) (i + 1) = 0; rw [ih, Nat.zero_mul]
  rw [this, Nat.zero_add]
theorem F4.back {a b c d : Fr} (k : F4 a b c d) (F : PF) (x : Nat) : E3r (CM.back a F x) (CM.back b F x) (CM.back c F x) (CM.back d F x) := by
  refine ⟨k.f, ⟨rfl, rfl, rfl⟩, ?_⟩
  show M4 (1 + _) (1 + _) (1 + _) (1 + _)
  rw [back_msk, back_msk, back_msk, back_msk]
  exact ((L4.rep _).app (.cons (k.l.get x) .nil)).msk
theorem F4.hl {a b c d : Fr} (k : F4 a b c d) (x : Nat) : CM.hl a x = CM.hl d x ∧ CM.hl b x = CM.hl d x ∧ CM.hl c x = CM.hl d x := by
  unfold CM.hl
  rw [k.h.1, k.h.2.1, k.h.2.2]; exact ⟨rfl, rfl, rfl⟩
theorem F4.row {P : Prog} {a b c d : Fr} (k : F4 a b c d) : rowAt P a = rowAt P d ∧ rowAt P b = rowAt P d ∧ rowAt P c = rowAt P d := by
  unfold rowAt
  rw [k.f.1, k.f.2.1, k.f.2.2, k.p.1, k.p.2.1, k.p.2.2]; exact ⟨rfl, rfl, rfl⟩
theorem F4.plain {a b c d : Fr} (k : F4 a b c d) (r : Rw) : F4 (plainM a r) (plainM b r) (plainM c r) (plainM d r) := by
  obtain ⟨⟨f1, f2, f3⟩, ⟨p1, p2, p3⟩, ⟨h1, h2, h3⟩, l⟩ := k
  have hh : ∀ x, CM.hl a x = CM.hl d x ∧ CM.hl b x = CM.hl d x ∧ CM.hl c x = CM.hl d x := F4.hl ⟨⟨f1, f2, f3⟩, ⟨p1, p2, p3⟩, ⟨h1, h2, h3⟩, l⟩
  have np : ∀ {x y : Fr}, x.p = y.p → x.p + 1 = y.p + 1 := fun e => by rw [e]
  cases r with
  | num x v => exact ⟨⟨f1, f2, f3⟩, ⟨np p1, np p2, np p3⟩, ⟨by show a.held.set _ _ = d.held.set _ _; rw [h1], by show b.held.set _ _ = d.held.set _ _; rw [h2], by show c.held.set _ _ = d.held.set _ _; rw [h3]⟩, l.set R4.zero x⟩
  | cp x y => exact ⟨⟨f1, f2, f3⟩, ⟨np p1, np p2, np p3⟩, ⟨by show a.held.set _ (CM.hl a y) = d.held.set _ (CM.hl d y); rw [h1, (hh y).1], by show b.held.set _ (CM.hl b y) = d.held.set _ (CM.hl d y); rw [h2, (hh y).2.1], by show c.held.set _ (CM.hl c y) = d.held.set _ (CM.hl d y); rw [h3, (hh y).2.2]⟩, l.set (l.get y) x⟩
  | does x o y z => exact ⟨⟨f1, f2, f3⟩, ⟨np p1, np p2, np p3⟩, ⟨by show a.held.set _ (o.go (CM.hl a y) (CM.hl a z)) = d.held.set _ (o.go (CM.hl d y) (CM.hl d z)); rw [h1, (hh y).1, (hh z).1], by show b.held.set _ (o.go (CM.hl b y) (CM.hl b z)) = d.held.set _ (o.go (CM.hl d y) (CM.hl d z)); rw [h2, (hh y).2.1, (hh z).2.1], by show c.held.set _ (o.go (CM.hl c y) (CM.hl c z)) = d.held.set _ (o.go (CM.hl d y) (CM.hl d z)); rw [h3, (hh y).2.2, (hh z).2.2]⟩, l.set ((l.get y).or (l.get z)) x⟩
  | dye x => exact ⟨⟨f1, f2, f3⟩, ⟨np p1, np p2, np p3⟩, ⟨h1, h2, h3⟩, l.set R4.one x⟩
  | wash x => exact ⟨⟨f1, f2, f3⟩, ⟨np p1, np p2, np p3⟩, ⟨h1, h2, h3⟩, l.set R4.zero x⟩
  | iff x q =>
    refine ⟨⟨f1, f2, f3⟩, ⟨?_, ?_, ?_⟩, ⟨h1, h2, h3⟩, l⟩
    · show (if CM.hl a x ≠ 0 then q else a.p + 1) = (if CM.hl d x ≠ 0 then q else d.p + 1); rw [(hh x).1, p1]
    · show (if CM.hl b x ≠ 0 then q else b.p + 1) = (if CM.hl d x ≠ 0 then q else d.p + 1); rw [(hh x).2.1, p2]
    · show (if CM.hl c x ≠ 0 then q else c.p + 1) = (if CM.hl d x ≠ 0 then q else d.p + 1); rw [(hh x).2.2, p3]
  | to q => exact ⟨⟨f1, f2, f3⟩, ⟨rfl, rfl, rfl⟩, ⟨h1, h2, h3⟩, l⟩
  | call x g as => exact ⟨⟨f1, f2, f3⟩, ⟨np p1, np p2, np p3⟩, ⟨h1, h2, h3⟩, l⟩
  | ret x => exact ⟨⟨f1, f2, f3⟩, ⟨np p1, np p2, np p3⟩, ⟨h1, h2, h3⟩, l⟩
theorem F4.new {a b c d : Fr} (k : F4 a b c d) (g : Nat) (G : PF) (as : List Nat) : F4 (newFr a g G as) (newFr b g G as) (newFr c g G as) (newFr d g G as) := by
  refine ⟨⟨rfl, rfl, rfl⟩, ⟨rfl, rfl, rfl⟩, ⟨?_, ?_, ?_⟩, (L4.map fun x _ => k.l.get x).app (L4.rep _)⟩
  · show as.map (CM.hl a) ++ _ = as.map (CM.hl d) ++ _; rw [List.map_congr_left fun x _ => (k.hl x).1]
  · show as.map (CM.hl b) ++ _ = as.map (CM.hl d) ++ _; rw [List.map_congr_left fun x _ => (k.hl x).2.1]
  · show as.map (CM.hl c) ++ _ = as.map (CM.hl d) ++ _; rw [List.map_congr_left fun x _ => (k.hl x).2.2]
theorem F4.given {a b c d a' b' c' d' : Fr} (k : F4 a b c d) (k' : F4 a' b' c' d') (x y : Nat) : F4 (CM.given a x (CM.hl a' y) (CM.dy a' y)) (CM.given b x (CM.hl b' y) (CM.dy b' y)) (CM.given c x (CM.hl c' y) (CM.dy c' y)) (CM.given d x (CM.hl d' y) (CM.dy d' y)) := by
  obtain ⟨f, ⟨p1, p2, p3⟩, ⟨h1, h2, h3⟩, l⟩ := k
  have hh := k'.hl y
  refine ⟨f, ⟨?_, ?_, ?_⟩, ⟨?_, ?_, ?_⟩, l.set (k'.l.get y) x⟩
  · show a.p + 1 = d.p + 1; rw [p1]
  · show b.p + 1 = d.p + 1; rw [p2]
  · show c.p + 1 = d.p + 1; rw [p3]
  · show a.held.set _ _ = d.held.set _ _; rw [h1, hh.1]
  · show b.held.set _ _ = d.held.set _ _; rw [h2, hh.2.1]
  · show c.held.set _ _ = d.held.set _ _; rw [h3, hh.2.2]
inductive S4 : St1 → St1 → St1 → St1 → Prop
  | go {a b c d : Fr} {as bs cs ds : List Fr} {ea eb ec ed : List E3} : F4 a b c d → Fs4 as bs cs ds → A4 E3r ea eb ec ed → S4 (.go a as ea) (.go b bs eb) (.go c cs ec) (.go d ds ed)
  | done {v : Int} {ea eb ec ed : E3} : E3r ea eb ec ed → S4 (.done v ea) (.done v eb) (.done v ec) (.done v ed)
  | no : S4 .no .no .no .no
theorem step4 {P : Prog} {a b c d : Fr} {as bs cs ds : List Fr} (k : F4 a b c d) (ks : Fs4 as bs cs ds) : S4 (stepM P a as) (stepM P b bs) (stepM P c cs) (stepM P d ds) := by
  obtain ⟨r1, r2, r3⟩ := k.row (P := P)
  unfold stepM
  rw [r1, r2, r3]
  cases rowAt P d with
  | none => exact .no
  | some q =>
    obtain ⟨F, r⟩ := q
    cases r with
    | ret x =>
      cases ks with
      | nil =>
        dsimp only
        rw [(k.hl x).1, (k.hl x).2.1, (k.hl x).2.2]
        exact .done (k.back F x)
      | cons k' ks' =>
        obtain ⟨q1, q2, q3⟩ := k'.row (P := P)
        dsimp only
        rw [q1, q2, q3]
        rename_i a' b' c' d' _ _ _ _
        cases rowAt P d' with
        | none => exact .no
        | some q =>
          obtain ⟨F', r'⟩ := q
          cases r' with
          | call y g as => exact .go (k'.given k y x) ks' (.cons (k.back F x) (.cons (k'.given k y x).ent .nil))
          | _ => exact .no
    | call x g as =>
      dsimp only
      cases P[g]? with
      | none => exact .no
      | some G => exact .go (k.new g G as) (.cons k ks) (.cons (k.new g G as).ent .nil)
    | num => exact .go (k.plain _) ks (.cons (k.plain _).ent .nil)
    | cp => exact .go (k.plain _) ks (.cons (k.plain _).ent .nil)
    | does => exact .go (k.plain _) ks (.cons (k.plain _).ent .nil)
    | dye => exact .go (k.plain _) ks (.cons (k.plain _).ent .nil)
    | wash => exact .go (k.plain _) ks (.cons (k.plain _).ent .nil)
    | iff => exact .go (k.plain _) ks (.cons (k.plain _).ent .nil)
    | to => exact .go (k.plain _) ks (.cons (k.plain _).ent .nil)
theorem run4 {P : Prog} : ∀ (n k : Nat) {a b c d : Fr} {as bs cs ds : List Fr} {ea eb ec ed : List E4}, F4 a b c d → Fs4 as bs cs ds → A4 E4r ea eb ec ed →
    A4 E4r (runM P n k a as ea).1 (runM P n k b bs eb).1 (runM P n k c cs ec).1 (runM P n k d ds ed).1 ∧ (runM P n k a as ea).2 = (runM P n k c cs ec).2 ∧ (runM P n k b bs eb).2 = (runM P n k c cs ec).2 ∧ (runM P n k d ds ed).2 = (runM P n k c cs ec).2
  | 0, k, _, _, _, _, _, _, _, _, _, _, _, _, _, _, he => ⟨he, rfl, rfl, rfl⟩
  | n + 1, k, a, b, c, d, as, bs, cs, ds, ea, eb, ec, ed, hf, hs, he => by
    rw [runM_succ, runM_succ, runM_succ, runM_succ]
    have s := step4 (P := P) hf hs
    generalize stepM P a as = sa at s
    generalize stepM P b bs = sb at s
    generalize stepM P c cs = sc at s
    generalize stepM P d ds = sd at s
    cases s with
    | go f fs es => exact run4 n (k + 1) f fs (he.app es.map3)
    | done e => exact ⟨he.app (.cons ⟨⟨rfl, rfl, rfl⟩, e⟩ .nil), rfl, rfl, rfl⟩
    | no => exact ⟨he, rfl, rfl, rfl⟩
noncomputable def cutM (few : Nat) (r : List E4 × Option Int) : List E4 × Option Int :=
  if r.2.isSome = true ∧ (∃ e, r.1.getLast? = some e ∧ e.1 ≤ few) then r else (r.1.filter fun e => decide (e.1 ≤ few), none)
theorem tail_gt {P : Prog} : ∀ (m k : Nat) (x : Fr) (rs : List Fr) (acc : List E4), ∃ t, (runM P m k x rs acc).1 = acc ++ t ∧ (∀ y ∈ t, k < y.1) ∧ ((runM P m k x rs acc).2.isSome = true → t ≠ [])
  | 0, k, x, rs, acc => ⟨[], by rw [List.append_nil]; rfl, (fun _ z => nomatch z), fun z => nomatch z⟩
  | m + 1, k, x, rs, acc => by
    rw [runM_succ]
    cases stepM P x rs with
    | go x' rs' es =>
      obtain ⟨t, e1, e2, e3⟩ := tail_gt (P := P) m (k + 1) x' rs' (acc ++ es.map fun e => (k + 1, e))
      refine ⟨(es.map fun e => (k + 1, e)) ++ t, by rw [← List.append_assoc]; exact e1, fun y hy => ?_, fun z q => e3 z (List.append_eq_nil_iff.mp q).2⟩
      rcases List.mem_append.mp hy with z | z
      · obtain ⟨e, _, rfl⟩ := List.mem_map.mp z
        exact Nat.lt_succ_self k
      · have := e2 y z; omega
    | done v e => exact ⟨[(k + 1, e)], rfl, fun y hy => by rw [List.mem_singleton.mp hy]; exact Nat.lt_succ_self k, fun _ q => nomatch q⟩
    | no => exact ⟨[], by rw [List.append_nil], (fun _ z => nomatch z), fun z => nomatch z⟩
theorem filter_all {l : List E4} {k : Nat} (h : ∀ e ∈ l, e.1 ≤ k) : (l.filter fun e => decide (e.1 ≤ k)) = l := List.filter_eq_self.mpr fun e he => decide_eq_true (h e he)
theorem cut_run {P : Prog} : ∀ (n m k : Nat) (x : Fr) (rs : List Fr) (acc : List E4), n ≤ m → (∀ e ∈ acc, e.1 ≤ k) → runM P n k x rs acc = cutM (k + n) (runM P m k x rs acc)
  | 0, m, k, x, rs, acc, _, ha => by
    obtain ⟨t, e1, e2, e3⟩ := tail_gt (P := P) m k x rs acc
    unfold cutM
    rw [if_neg]
    · rw [Nat.add_zero, e1, List.filter_append, filter_all ha, List.filter_eq_nil_iff.mpr (fun y hy => by have := e2 y hy; simp; omega), List.append_nil]; rfl
    · rintro ⟨h1, e, h2, h3⟩
      have tn := e3 h1
      rw [e1, List.getLast?_append, List.getLast?_eq_some_getLast tn] at h2
      cases h2
      have := e2 _ (List.getLast_mem tn)
      omega
  | n + 1, 0, _, _, _, _, h, _ => absurd h (Nat.not_succ_le_zero n)
  | n + 1, m + 1, k, x, rs, acc, h, ha => by
    rw [runM_succ, runM_succ]
    cases stepM P x rs with
    | go x' rs' es =>
      have := cut_run (P := P) n m (k + 1) x' rs' (acc ++ es.map fun e => (k + 1, e)) (Nat.le_of_succ_le_succ h) fun e he => by
        rcases List.mem_append.mp he with z | z
        · have := ha e z; omega
        · obtain ⟨q, _, rfl⟩ := List.mem_map.mp z
          exact Nat.le_refl _
      rw [show k + (n + 1) = k + 1 + n by omega]
      exact this
    | done v e =>
      unfold cutM
      rw [if_pos]
      refine ⟨rfl, (k + 1, e), by simp, ?_⟩
      show k + 1 ≤ k + (n + 1)
      omega
    | no =>
      unfold cutM
      rw [if_neg (by rintro ⟨h1, _⟩; cases h1), filter_all (fun e he => by have := ha e he; omega)]
theorem fst4 {F : PF} {vs : List Int} (o t : Nat) : F4 (fst0 F vs o) (fst0 F vs t) (fst0 F vs (o ||| t)) (fst0 F vs 0) := by
  refine ⟨⟨rfl, rfl, rfl⟩, ⟨rfl, rfl, rfl⟩, ⟨rfl, rfl, rfl⟩, (L4.map fun v _ => ?_).app (L4.rep _)⟩
  refine ⟨⟨by omega, by omega, by omega⟩, ?_, by rw [Nat.zero_shiftRight]; exact Nat.zero_le _, by rw [Nat.zero_shiftRight]; exact Nat.zero_le _⟩
  rw [Nat.shiftRight_or_distrib]
  exact Nat.or_mod_two_pow (n := 1)
noncomputable def stO (n s : Int) (b : Bool) : O := .lst [.int n, .int s, .bl b]
noncomputable def IsSt (h : Hh) (i : Nat) : Prop := ∃ n s b, h[i]? = some (stO n s b) ∧ 0 ≤ n
theorem IsSt.set {h : Hh} {i j : Nat} {n s : Int} {b : Bool} (k : IsSt h i) (n0 : 0 ≤ n) : IsSt (h.set j (stO n s b)) i := by
  obtain ⟨n1, s1, b1, e, h1⟩ := k
  by_cases z : j = i
  · subst z
    exact ⟨n, s, b, List.getElem?_set_self (List.getElem?_eq_some_iff.mp e).1, n0⟩
  · exact ⟨n1, s1, b1, by rw [List.getElem?_set_ne z]; exact e, h1⟩
theorem IsSt.far {h : Hh} {i j : Nat} {o : O} (k : IsSt h i) (z : j ≠ i) : IsSt (h.set j o) i := by
  obtain ⟨n1, s1, b1, e, h1⟩ := k
  exact ⟨n1, s1, b1, by rw [List.getElem?_set_ne z]; exact e, h1⟩
theorem IsSt.app {h g : Hh} {i : Nat} (k : IsSt h i) : IsSt (h ++ g) i := by
  obtain ⟨n1, s1, b1, e, h1⟩ := k
  exact ⟨n1, s1, b1, by rw [List.getElem?_append_left (List.getElem?_eq_some_iff.mp e).1]; exact e, h1⟩
inductive Kd where
  | num | cp | does | dye | wash | iff | to | call | ret
noncomputable def Kd.w : Kd → Str
  | .num => "number"
  | .cp => "copy"
  | .does => "does"
  | .dye => "dye"
  | .wash => "wash"
  | .iff => "if"
  | .to => "to"
  | .call => "call"
  | .ret => "return"
theorem Kd.sk (k : Kd) : PyData.strOk k.w = true := by
  cases k with
  | num => exact rk_number
  | cp => exact rk_copy
  | does => exact rk_does
  | dye => exact rk_dye
  | wash => exact rk_wash
  | iff => exact rk_iff
  | to => exact rk_to
  | call => exact rk_call
  | ret => exact rk_return
theorem step_len {P : Prog} {x x' : Fr} {rs rs' : List Fr} {es : List E3} (h : stepM P x rs = .go x' rs' es) : es.length ≤ 2 := by
  unfold stepM at h
  cases q : rowAt P x with
  | none => rw [q] at h; cases h
  | some z =>
    obtain ⟨F, r⟩ := z
    rw [q] at h
    cases r with
    | ret a =>
      cases rs with
      | nil => cases h
      | cons c rs2 =>
        dsimp only at h
        cases q2 : rowAt P c with
        | none => rw [q2] at h; cases h
        | some z2 =>
          obtain ⟨F2, r2⟩ := z2
          rw [q2] at h
          cases r2 <;> first | (cases h; exact Nat.le_refl 2) | cases h
    | call a g as =>
      dsimp only at h
      cases q2 : P[g]? with
      | none => rw [q2] at h; cases h
      | some G => rw [q2] at h; cases h; exact Nat.le_succ 1
    | _ => cases h; exact Nat.le_succ 1
theorem run_len {P : Prog} : ∀ (m k : Nat) (x : Fr) (rs : List Fr) (acc : List E4), (runM P m k x rs acc).1.length ≤ acc.length + 2 * m
  | 0, _, _, _, _ => Nat.le_refl _
  | m + 1, k, x, rs, acc => by
    rw [runM_succ]
    cases q : stepM P x rs with
    | go x' rs' es =>
      have h1 := step_len q
      have h2 := run_len (P := P) m (k + 1) x' rs' (acc ++ es.map fun e => (k + 1, e))
      rw [List.length_append, List.length_map] at h2
      show (runM P m (k + 1) x' rs' _).1.length ≤ _
      omega
    | done v e => show (acc ++ [(k + 1, e)]).length ≤ _; simp; omega
    | no => show acc.length ≤ _; omega
end CM
namespace K73
open PySem L2 DL CM
def vvA : String := "dAsg dName dVar dC dOp dUn dTst dTr dAnd dOr dNot dAndV dOrV dNotV dIf dIfS dRet dRetN dDrop dNext dNever dCB dCal dCons dNil dTup dV dTk dListOf dBits dIsinst dChain dPart dNoPart dSl dGNil dGCons dUnp dAug dAugS dSubL dAppend dExtend dPop dClear dFor dISeq dIRange dIEnum dIEnum1 dComp dNoIf dCatN dRepN dSlL dBreak dCont pI pI0 pB0 pNeg pIs pIx pEq pLtI pLen pTuple pInt pMin pMax pAbs pPlus pAdd pMulI pIn dGet dSetF dAugF dMeth dMake pFld pLtT pCatS pStr pMulS dPopAt dCalF dCalK dListRng reduceIte"
def vvB : String := "setD compSl isN_non isN_bl isN_int isN_str isN_tup isN_lst isN_ref eqS List.map_cons List.map_nil List.cons_append List.nil_append List.length_cons List.length_nil List.replicate List.getElem?_cons_zero List.getElem?_cons_succ List.set_cons_zero List.set_cons_succ Option.getD_some Option.getD_none List.getElem?_nil Bool.false_eq_true Bool.not_true Bool.not_false if_true if_false ite_true ite_false eq_self_iff_true decide_true decide_false Nat.reduceSub Nat.reduceAdd Nat.sub_zero Nat.sub_self Nat.zero_add Option.map_some Option.map_none Option.bind_some Option.bind_none lsOf_lst seqOf_lst seqSrc_lst lenD_lst ixD_lst trD_lst lsOf_scr seqOf_scr seqSrc_scr lenD_scr ixD_scr trD_scr lsP_lst lsP_tup lsP_int lsP_str seqOf_tup seqSrc_tup lenD_tup ixD_tup trD_tup trD_non trD_bl trD_int kindD_non kindD_bl kindD_int kindD_str kindD_tup kindD_lst isK_NoneType_bool isK_NoneType_int isK_NoneType_str isK_NoneType_tuple isK_NoneType_list isK_NoneType_dict isK_bool_bool isK_bool_int isK_bool_str isK_bool_tuple isK_bool_list isK_bool_dict isK_int_bool isK_int_int isK_int_str isK_int_tuple isK_int_list isK_int_dict isK_str_bool isK_str_int isK_str_str isK_str_tuple isK_str_list isK_str_dict isK_tuple_bool isK_tuple_int isK_tuple_str isK_tuple_tuple isK_tuple_list isK_tuple_dict isK_list_bool isK_list_int isK_list_str isK_list_tuple isK_list_list isK_list_dict isK_dict_bool isK_dict_int isK_dict_str isK_dict_tuple isK_dict_list isK_dict_dict ixN_10 ixN_0 at1_0 at2_0 at2_1 at3_0 at3_1 at3_2 at4_0 at4_1 at4_2 at4_3 at5_0 at5_1 at5_2 at5_3 at5_4 at6_0 at6_1 at6_2 at6_3 at6_4 at6_5 at7_0 at7_1 at7_2 at7_3 at7_4 at7_5 at7_6 at8_0 at8_1 at8_2 at8_3 at8_4 at8_5 at8_6 at8_7 sk_step sq_step_step sq_step_call sq_step_in sq_step_over sq_step_begin sq_step_start sq_step_short sq_step_along sq_step_within sq_step_at sq_step_out sk_call sq_call_step sq_call_call sq_call_in sq_call_over sq_call_begin sq_call_start sq_call_short sq_call_along sq_call_within sq_call_at sq_call_out sk_in sq_in_step sq_in_call sq_in_in sq_in_over sq_in_begin sq_in_start sq_in_short sq_in_along sq_in_within sq_in_at sq_in_out sk_over sq_over_step sq_over_call sq_over_in sq_over_over sq_over_begin sq_over_start sq_over_short sq_over_along sq_over_within sq_over_at sq_over_out sk_begin sq_begin_step sq_begin_call sq_begin_in sq_begin_over sq_begin_begin sq_begin_start sq_begin_short sq_begin_along sq_begin_within sq_begin_at sq_begin_out sk_start sq_start_step sq_start_call sq_start_in sq_start_over sq_start_begin sq_start_start sq_start_short sq_start_along sq_start_within sq_start_at sq_start_out sk_short sq_short_step sq_short_call sq_short_in sq_short_over sq_short_begin sq_short_start sq_short_short sq_short_along sq_short_within sq_short_at sq_short_out sk_along sq_along_step sq_along_call sq_along_in sq_along_over sq_along_begin sq_along_start sq_along_short sq_along_along sq_along_within sq_along_at sq_along_out sk_within sq_within_step sq_within_call sq_within_in sq_within_over sq_within_begin sq_within_start sq_within_short sq_within_along sq_within_within sq_within_at sq_within_out sk_at sq_at_step sq_at_call sq_at_in sq_at_over sq_at_begin sq_at_start sq_at_short sq_at_along sq_at_within sq_at_at sq_at_out sk_out sq_out_step sq_out_call sq_out_in sq_out_over sq_out_begin sq_out_start sq_out_short sq_out_along sq_out_within sq_out_at sq_out_out Bool.and_self Bool.and_true setF hasM rk_number rk_copy rk_does rk_dye rk_wash rk_iff rk_to rk_call rk_return rk_plus rk_minus rk_times rq_number_number rq_number_copy rq_number_does rq_number_dye rq_number_wash rq_number_iff rq_number_to rq_number_call rq_number_return rq_copy_number rq_copy_copy rq_copy_does rq_copy_dye rq_copy_wash rq_copy_iff rq_copy_to rq_copy_call rq_copy_return rq_does_number rq_does_copy rq_does_does rq_does_dye rq_does_wash rq_does_iff rq_does_to rq_does_call rq_does_return rq_dye_number rq_dye_copy rq_dye_does rq_dye_dye rq_dye_wash rq_dye_iff rq_dye_to rq_dye_call rq_dye_return rq_wash_number rq_wash_copy rq_wash_does rq_wash_dye rq_wash_wash rq_wash_iff rq_wash_to rq_wash_call rq_wash_return rq_iff_number rq_iff_copy rq_iff_does rq_iff_dye rq_iff_wash rq_iff_iff rq_iff_to rq_iff_call rq_iff_return rq_to_number rq_to_copy rq_to_does rq_to_dye rq_to_wash rq_to_iff rq_to_to rq_to_call rq_to_return rq_call_number rq_call_copy rq_call_does rq_call_dye rq_call_wash rq_call_iff rq_call_to rq_call_call rq_call_return rq_return_number rq_return_copy rq_return_does rq_return_dye rq_return_wash rq_return_iff rq_return_to rq_return_call rq_return_return rq_plus_plus rq_plus_minus rq_plus_times rq_minus_plus rq_minus_minus rq_minus_times rq_times_plus rq_times_minus rq_times_times"
local macro_rules | `(tactic| simp only [VV]) => do
  let as := ((vvA.splitOn " ")).toArray.map fun s => Lean.mkIdent s.toName
  let bs := ((vvB.splitOn " ")).toArray.map fun s => Lean.mkIdent s.toName
  `(tactic| simp only [$[↓$as:ident],*, $[$bs:ident],*])
local macro_rules | `(tactic| simp only [$xs,*, VV]) => do
  let as := ((vvA.splitOn " ")).toArray.map fun s => Lean.mkIdent s.toName
  let bs := ((vvB.splitOn " ")).toArray.map fun s => Lean.mkIdent s.toName
  `(tactic| simp only [$xs,*, $[↓$as:ident],*, $[$bs:ident],*])
local macro_rules | `(tactic| simp only [VV0]) => do
  let as := ((vvA.splitOn " ").filter (fun s => !(["setF"] : List String).contains s)).toArray.map fun s => Lean.mkIdent s.toName
  let bs := ((vvB.splitOn " ").filter (fun s => !(["setF"] : List String).contains s)).toArray.map fun s => Lean.mkIdent s.toName
  `(tactic| simp only [$[↓$as:ident],*, $[$bs:ident],*])
local macro_rules | `(tactic| simp only [$xs,*, VV0]) => do
  let as := ((vvA.splitOn " ").filter (fun s => !(["setF"] : List String).contains s)).toArray.map fun s => Lean.mkIdent s.toName
  let bs := ((vvB.splitOn " ").filter (fun s => !(["setF"] : List String).contains s)).toArray.map fun s => Lean.mkIdent s.toName
  `(tactic| simp only [$xs,*, $[↓$as:ident],*, $[$bs:ident],*])
local macro_rules | `(tactic| simp only [VV1]) => do
  let as := ((vvA.splitOn " ").filter (fun s => !(["pFld"] : List String).contains s)).toArray.map fun s => Lean.mkIdent s.toName
  let bs := ((vvB.splitOn " ").filter (fun s => !(["pFld"] : List String).contains s)).toArray.map fun s => Lean.mkIdent s.toName
  `(tactic| simp only [$[↓$as:ident],*, $[$bs:ident],*])
local macro_rules | `(tactic| simp only [$xs,*, VV1]) => do
  let as := ((vvA.splitOn " ").filter (fun s => !(["pFld"] : List String).contains s)).toArray.map fun s => Lean.mkIdent s.toName
  let bs := ((vvB.splitOn " ").filter (fun s => !(["pFld"] : List String).contains s)).toArray.map fun s => Lean.mkIdent s.toName
  `(tactic| simp only [$xs,*, $[↓$as:ident],*, $[$bs:ident],*])
local macro_rules | `(tactic| simp only [VV2]) => do
  let as := ((vvA.splitOn " ").filter (fun s => !(["hasM"] : List String).contains s)).toArray.map fun s => Lean.mkIdent s.toName
  let bs := ((vvB.splitOn " ").filter (fun s => !(["hasM"] : List String).contains s)).toArray.map fun s => Lean.mkIdent s.toName
  `(tactic| simp only [$[↓$as:ident],*, $[$bs:ident],*])
local macro_rules | `(tactic| simp only [$xs,*, VV2]) => do
  let as := ((vvA.splitOn " ").filter (fun s => !(["hasM"] : List String).contains s)).toArray.map fun s => Lean.mkIdent s.toName
  let bs := ((vvB.splitOn " ").filter (fun s => !(["hasM"] : List String).contains s)).toArray.map fun s => Lean.mkIdent s.toName
  `(tactic| simp only [$xs,*, $[↓$as:ident],*, $[$bs:ident],*])
local macro_rules | `(tactic| simp only [VV3]) => do
  let as := ((vvA.splitOn " ").filter (fun s => !(["hasM", "pFld"] : List String).contains s)).toArray.map fun s => Lean.mkIdent s.toName
  let bs := ((vvB.splitOn " ").filter (fun s => !(["hasM", "pFld"] : List String).contains s)).toArray.map fun s => Lean.mkIdent s.toName
  `(tactic| simp only [$[↓$as:ident],*, $[$bs:ident],*])
local macro_rules | `(tactic| simp only [$xs,*, VV3]) => do
  let as := ((vvA.splitOn " ").filter (fun s => !(["hasM", "pFld"] : List String).contains s)).toArray.map fun s => Lean.mkIdent s.toName
  let bs := ((vvB.splitOn " ").filter (fun s => !(["hasM", "pFld"] : List String).contains s)).toArray.map fun s => Lean.mkIdent s.toName
  `(tactic| simp only [$xs,*, $[↓$as:ident],*, $[$bs:ident],*])
local macro_rules | `(tactic| simp only [VV4]) => do
  let as := ((vvA.splitOn " ").filter (fun s => !(["pEq"] : List String).contains s)).toArray.map fun s => Lean.mkIdent s.toName
  let bs := ((vvB.splitOn " ").filter (fun s => !(["pEq"] : List String).contains s)).toArray.map fun s => Lean.mkIdent s.toName
  `(tactic| simp only [$[↓$as:ident],*, $[$bs:ident],*])
local macro_rules | `(tactic| simp only [$xs,*, VV4]) => do
  let as := ((vvA.splitOn " ").filter (fun s => !(["pEq"] : List String).contains s)).toArray.map fun s => Lean.mkIdent s.toName
  let bs := ((vvB.splitOn " ").filter (fun s => !(["pEq"] : List String).contains s)).toArray.map fun s => Lean.mkIdent s.toName
  `(tactic| simp only [$xs,*, $[↓$as:ident],*, $[$bs:ident],*])
noncomputable def top (i : Nat) : Stmt := PySem.Challenge.pw_callmatch_k73_whole_dyes_add_up.main.body.getD i (.Pass ⟨0, 0, 0, 0⟩)
noncomputable def clsFn : Stmt → Nat → Stmt
  | .ClassDef _ _ _ body _ _ _ _ _ _ _, k => body.getD k (.Pass ⟨0, 0, 0, 0⟩)
  | s, _ => s
noncomputable abbrev s_reckoned : Stmt := top 5
noncomputable abbrev s_place_behind : Stmt := top 6
noncomputable abbrev s__law_cell : Stmt := top 8
noncomputable abbrev s__law_next : Stmt := top 10
noncomputable abbrev s__law_cut : Stmt := top 17
noncomputable abbrev s_Frame____init__ : Stmt := clsFn (top 2) 0
noncomputable abbrev s_Frame__put_value : Stmt := clsFn (top 2) 1
noncomputable abbrev s_Runner____init__ : Stmt := clsFn (top 3) 0
noncomputable abbrev s_Runner__come_to : Stmt := clsFn (top 3) 1
noncomputable abbrev s_change : Stmt := top 4
noncomputable abbrev s__law_state : Stmt := top 9
noncomputable abbrev s__law_kind : Stmt := top 11
noncomputable abbrev s__law_row : Stmt := top 12
noncomputable abbrev s_Runner__give_back : Stmt := clsFn (top 3) 4
noncomputable abbrev s__law_heads : Stmt := top 13
noncomputable abbrev s__law_places : Stmt := top 14
noncomputable abbrev s__law_values : Stmt := top 16
noncomputable abbrev s_Runner__enter : Stmt := clsFn (top 3) 2
noncomputable abbrev s__law_program : Stmt := top 15
noncomputable abbrev s_Runner__do_row : Stmt := clsFn (top 3) 3
noncomputable abbrev s_run : Stmt := top 1
noncomputable abbrev s_law : Stmt := top 18
theorem sc_reckoned : FnScope ["op", "y", "z", "value"] ["op", "y", "z"] (defScope s_reckoned) := ⟨rfl, rfl, rfl, by decide +kernel, rfl, by decide +kernel, by decide +kernel⟩
theorem sc_place_behind : FnScope ["frame", "row"] ["frame", "row"] (defScope s_place_behind) := ⟨rfl, rfl, rfl, by decide +kernel, rfl, by decide +kernel, by decide +kernel⟩
theorem sc__law_cell : FnScope ["_law_script", "_law_k", "_law_number"] ["_law_script", "_law_k"] (defScope s__law_cell) := ⟨rfl, rfl, rfl, by decide +kernel, rfl, by decide +kernel, by decide +kernel⟩
theorem sc__law_next : FnScope ["_law_state_here", "_law_many", "_law_number", "_law_one"] ["_law_state_here", "_law_many"] (defScope s__law_next) := ⟨rfl, rfl, rfl, by decide +kernel, rfl, by decide +kernel, by decide +kernel⟩
theorem sc__law_cut : FnScope ["_law_told", "_law_few", "_law_states", "_law_end"] ["_law_told", "_law_few"] (defScope s__law_cut) := ⟨rfl, rfl, rfl, by decide +kernel, rfl, by decide +kernel, by decide +kernel⟩
theorem sc_Frame____init__ : FnScope ["self", "function", "held", "dyes"] ["self", "function", "held", "dyes"] (defScope s_Frame____init__) := ⟨rfl, rfl, rfl, by decide +kernel, rfl, by decide +kernel, by decide +kernel⟩
theorem sc_Frame__put_value : FnScope ["self", "x", "value", "dye"] ["self", "x", "value", "dye"] (defScope s_Frame__put_value) := ⟨rfl, rfl, rfl, by decide +kernel, rfl, by decide +kernel, by decide +kernel⟩
theorem sc_Runner____init__ : FnScope ["self", "program"] ["self", "program"] (defScope s_Runner____init__) := ⟨rfl, rfl, rfl, by decide +kernel, rfl, by decide +kernel, by decide +kernel⟩
theorem sc_Runner__come_to : FnScope ["self", "place", "frame", "mask", "v", "dye"] ["self", "place"] (defScope s_Runner__come_to) := ⟨rfl, rfl, rfl, by decide +kernel, rfl, by decide +kernel, by decide +kernel⟩
theorem sc_change : FnScope ["frame", "row", "value"] ["frame", "row"] (defScope s_change) := ⟨rfl, rfl, rfl, by decide +kernel, rfl, by decide +kernel, by decide +kernel⟩
theorem sc__law_state : FnScope ["_law_script", "_law_k", "_law_cell_here", "_law_free"] ["_law_script", "_law_k"] (defScope s__law_state) := ⟨rfl, rfl, rfl, by decide +kernel, rfl, by decide +kernel, by decide +kernel⟩
theorem sc__law_kind : FnScope ["_law_state_here", "_law_v", "_law_some"] ["_law_state_here", "_law_v"] (defScope s__law_kind) := ⟨rfl, rfl, rfl, by decide +kernel, rfl, by decide +kernel, by decide +kernel⟩
theorem sc__law_row : FnScope ["_law_state_here", "_law_kind_here", "_law_v", "_law_heads_here", "_law_many", "_law_x", "_law_g"] ["_law_state_here", "_law_kind_here", "_law_v", "_law_heads_here", "_law_many"] (defScope s__law_row) := ⟨rfl, rfl, rfl, by decide +kernel, rfl, by decide +kernel, by decide +kernel⟩
theorem sc_Runner__give_back : FnScope ["self", "x", "left", "function", "back_fact", "caller", "call"] ["self", "x"] (defScope s_Runner__give_back) := ⟨rfl, rfl, rfl, by decide +kernel, rfl, by decide +kernel, by decide +kernel⟩
theorem sc__law_heads : FnScope ["_law_script", "_law_functions", "_law_variables", "_law_state_here", "_law_heads_here", "_law_f", "_law_v"] ["_law_script", "_law_functions", "_law_variables"] (defScope s__law_heads) := ⟨rfl, rfl, rfl, by decide +kernel, rfl, by decide +kernel, by decide +kernel⟩
theorem sc__law_places : FnScope ["_law_script", "_law_heads_here", "_law_cells", "_law_owners", "_law_edges", "_law_at", "_law_state_here", "_law_f", "_law_kind_here"] ["_law_script", "_law_heads_here", "_law_cells"] (defScope s__law_places) := ⟨rfl, rfl, rfl, by decide +kernel, rfl, by decide +kernel, by decide +kernel⟩
theorem sc__law_values : FnScope ["_law_script", "_law_given", "_law_state_here", "_law_some", "_law_k"] ["_law_script", "_law_given"] (defScope s__law_values) := ⟨rfl, rfl, rfl, by decide +kernel, rfl, by decide +kernel, by decide +kernel⟩
theorem sc_Runner__enter : FnScope ["self", "g", "held", "dyes", "rest"] ["self", "g", "held", "dyes"] (defScope s_Runner__enter) := ⟨rfl, rfl, rfl, by decide +kernel, rfl, by decide +kernel, by decide +kernel⟩
theorem sc__law_program : FnScope ["_law_script", "_law_functions", "_law_variables", "_law_cells", "_law_heads_here", "_law_owners", "_law_ends", "_law_program_here", "_law_f", "_law_given", "_law_v", "_law_mine", "_law_rows", "_law_last", "_law_names"] ["_law_script", "_law_functions", "_law_variables", "_law_cells"] (defScope s__law_program) := ⟨rfl, rfl, rfl, by decide +kernel, rfl, by decide +kernel, by decide +kernel⟩
theorem sc_Runner__do_row : FnScope ["self", "frame", "row"] ["self"] (defScope s_Runner__do_row) := ⟨rfl, rfl, rfl, by decide +kernel, rfl, by decide +kernel, by decide +kernel⟩
theorem sc_run : FnScope ["program", "values", "dyed", "most", "runner", "end"] ["program", "values", "dyed", "most"] (defScope s_run) := ⟨rfl, rfl, rfl, by decide +kernel, rfl, by decide +kernel, by decide +kernel⟩
theorem sc_law : FnScope ["_law_script", "_law_program_here", "_law_values_here", "_law_state_here", "_law_one", "_law_other", "_law_bound", "_law_few", "_law_first", "_law_second", "_law_third", "_law_none", "_law_k", "_law_found", "_law_told", "_law_dyed"] ["_law_script"] (defScope s_law) := ⟨rfl, rfl, rfl, by decide +kernel, rfl, by decide +kernel, by decide +kernel⟩
structure Txt (P : Program) (w : World) (K : PySem.W.Frag) (mg : Str → Option Value) : Prop where
  b_abs : mg "abs" = none
  b_enumerate : mg "enumerate" = none
  b_int : mg "int" = none
  b_len : mg "len" = none
  b_list : mg "list" = none
  b_max : mg "max" = none
  b_min : mg "min" = none
  b_range : mg "range" = none
  b_tuple : mg "tuple" = none
  f_dyes : FldX K "Frame" "dyes"
  f_frames : FldX K "Runner" "frames"
  f_function : FldX K "Frame" "function"
  f_held : FldX K "Frame" "held"
  f_place : FldX K "Frame" "place"
  f_program : FldX K "Runner" "program"
  f_states : FldX K "Runner" "states"
  f_steps : FldX K "Runner" "steps"
section
variable {P : Program} {w : World} {K : PySem.W.Frag} {mg : Str → Option Value} {base : Heap}
noncomputable def b_reckoned : DS := (dSeq (dIfS (dTst (dOp (pEq false) (dVar 0) (dC (.str "+")))) (dAsg (dOp pPlus (dVar 1) (dVar 2)) (dName 3)) (dIfS (dTst (dOp (pEq false) (dVar 0) (dC (.str "-")))) (dAsg (dOp pSub (dVar 1) (dVar 2)) (dName 3)) (dAsg (dOp pMulI (dVar 1) (dVar 2)) (dName 3))))
    (dRet (dOp pMod (dVar 3) (dOp pPow (dC (.int 10)) (dC (.int 18))))))
theorem e10 : (10 : Int) ^ (18 : Int).toNat = 1000000000000000000 := by decide
noncomputable def S_reckoned : DSp := fun ds h Q => ∃ (o : Op3) (y z : Int), ds = [.str o.s, .int y, .int z] ∧ 0 ≤ y ∧ y < 1000000000000000000 ∧ Q (.int (o.go y z)) h
theorem imp_reckoned : ∀ ds h Q, S_reckoned ds h Q → runD 4 b_reckoned ds h Q := by
  rintro ds h Q ⟨o, y, z, rfl, y0, y1, q⟩
  simp only [runD, b_reckoned, List.map_cons, List.map_nil, List.cons_append, List.nil_append, List.length_cons, List.length_nil, List.replicate, Nat.reduceSub, Nat.reduceAdd, Nat.zero_add, Nat.sub_self]
  (try dsimp only); refine seq_intro fun N hN => ?_
  cases o
  · simp only [Op3.s, VV]
    subst hN
    simp only [e10, VV]
    exact ⟨⟨by decide, by decide, by decide⟩, by decide, q⟩
  · simp only [Op3.s, pSub, VV]
    subst hN
    simp only [e10, VV]
    exact ⟨⟨by decide, by decide, by decide⟩, by decide, q⟩
  · simp only [Op3.s, VV]
    refine ⟨mulS (by first | decide | omega), ?_⟩
    subst hN
    simp only [e10, VV]
    exact ⟨⟨by decide, by decide, by decide⟩, by decide, q⟩
theorem ok_reckoned {f : Addr} {fd : FuncData} (F : Fun K "reckoned" "reckoned" s_reckoned f fd) (T : Txt P w K mg) : FnOk P w K mg base CX0 1 f fd ["op", "y", "z"] (spD K 3 S_reckoned) :=
  fn_ok (k := 0) (b := b_reckoned) F sc_reckoned (fun cdv A outer s H E hr => (ss_cons (s_if (st_cmp (ok_eq hr.units) (sv 0) se_str (nomark _)) (ss_one (s_set (i := 3) sc_reckoned.nd rfl (Or.inl rfl) (se_op ok_plus (sv 1) (sv 2)))) (ss_one (s_if (st_cmp (ok_eq hr.units) (sv 0) se_str (nomark _)) (ss_one (s_set (i := 3) sc_reckoned.nd rfl (Or.inl rfl) (se_op ok_sub (sv 1) (sv 2)))) (ss_one (s_set (i := 3) sc_reckoned.nd rfl (Or.inl rfl) (se_op ok_timesI (sv 1) (sv 2)))))))
    (ss_one (s_ret (se_op ok_mod (sv 3) (se_op ok_pow se_int se_int)))))) imp_reckoned
noncomputable def b_place_behind : DS := (dSeq (dIfS (dTst (dOp (pEq false) (dOp pIx (dVar 1) (dC (.int 0))) (dC (.str "to")))) (dRet (dOp pIx (dVar 1) (dC (.int 1)))) dNext)
    (dSeq (dIfS (dAnd (dTst (dOp (pEq false) (dOp pIx (dVar 1) (dC (.int 0))) (dC (.str "if")))) (dTst (dOp (pEq true) (dOp pIx (dUn (pFld "Frame" "held") (dVar 0)) (dOp pIx (dVar 1) (dC (.int 1)))) (dC (.int 0))))) (dRet (dOp pIx (dVar 1) (dC (.int 2)))) dNext)
    (dRet (dOp pPlus (dUn (pFld "Frame" "place") (dVar 0)) (dC (.int 1))))))
noncomputable def S_place_behind : DSp := fun ds h Q => ∃ (n : Nat) (x : Fr) (r : Rw), ds = [.ref (n + 2), rrD r] ∧ FAt h n x ∧ plain r ∧ (∀ a k, r = .iff a k → a < x.held.length) ∧ Q (nD (nxt x r)) h
theorem imp_place_behind : ∀ ds h Q, S_place_behind ds h Q → runD 2 b_place_behind ds h Q := by
  rintro ds h Q ⟨n, x, r, rfl, f, hp, hx, q⟩
  have fa : h[n]? = some (.lst (x.held.map D.int)) := f.a
  have other : ∀ r : Rw, nxt x r = x.p + 1 → Q (nD (nxt x r)) h → Q (.int ((x.p : Int) + 1)) h := fun r e q => by
    rw [e] at q
    have : nD (x.p + 1) = .int ((x.p : Int) + 1) := by show D.int _ = D.int _; rw [Int.natCast_add]; rfl
    rw [← this]; exact q
  simp only [runD, b_place_behind, List.map_cons, List.map_nil, List.cons_append, List.nil_append, List.length_cons, List.length_nil, List.replicate, Nat.reduceSub, Nat.reduceAdd, Nat.zero_add, Nat.sub_self]
  (try dsimp only); refine seq_intro fun N hN => ?_
  cases r with
  | call => exact hp.elim
  | ret => exact hp.elim
  | to k =>
    simp only [rrD, VV]
    exact q
  | iff a k =>
    simp only [rrD, VV]
    subst hN
    (try dsimp only); refine seq_intro fun N hN => ?_
    simp only [rrD, fr_held f.c, ix_ls (lsOf_ref fa), hl_ix (hx a k rfl), VV1]
    by_cases c : hl x a = 0
    · have c1 : (!(hl x a == 0)) = false := by rw [c]; rfl
      simp only [c1, VV]
      subst hN
      simp only [fr_place f.c, VV1]
      exact other _ (by show (if hl x a ≠ 0 then k else x.p + 1) = _; rw [if_neg (fun z => z c)]) q
    · have c1 : (!(hl x a == 0)) = true := by rw [beq_eq_false_iff_ne.mpr c]; rfl
      simp only [c1, VV]
      have : nxt x (.iff a k) = k := if_pos c
      rw [this] at q
      exact q
  | _ =>
    simp only [rrD, VV]
    subst hN
    (try dsimp only); refine seq_intro fun N hN => ?_
    simp only [rrD, VV]
    subst hN
    simp only [fr_place f.c, VV1]
    exact other _ rfl q
theorem ok_place_behind {f : Addr} {fd : FuncData} (F : Fun K "place_behind" "place_behind" s_place_behind f fd) (T : Txt P w K mg) : FnOk P w K mg base CX0 1 f fd ["frame", "row"] (spD K 2 S_place_behind) :=
  fn_ok (k := 0) (b := b_place_behind) F sc_place_behind (fun cdv A outer s H E hr => (ss_cons (s_if (st_cmp (ok_eq hr.units) (se_ix ok_ix (sv 1) se_int (fun _ _ => rfl)) se_str (nomark _)) (ss_one (s_ret (se_ix ok_ix (sv 1) se_int (fun _ _ => rfl)))) ss_nil)
    (ss_cons (s_if (st_w (sw_and (st_cmp (ok_eq hr.units) (se_ix ok_ix (sv 1) se_int (fun _ _ => rfl)) se_str (nomark _)) (sw_and1 (st_cmp (ok_ne hr.units) (se_ix ok_ix (se_fld T.f_held (sv 0)) (se_ix ok_ix (sv 1) se_int (fun _ _ => rfl)) (fun _ _ => rfl)) se_int (nomark _))))) (ss_one (s_ret (se_ix ok_ix (sv 1) se_int (fun _ _ => rfl)))) ss_nil)
    (ss_one (s_ret (se_op ok_plus (se_fld T.f_place (sv 0)) se_int)))))) imp_place_behind
noncomputable def b__law_cell : DS := (dSeq (dIfS (dTst (dOp pLtI (dVar 1) (dCB pLen (dCons (dVar 0) dNil)))) (dRet (dOp pIx (dVar 0) (dVar 1))) dNext)
    (dSeq (dAsg (dOp pPlus (dOp pMulI (dC (.int 6007)) (dVar 1)) (dC (.int 29))) (dName 2))
    (dSeq (dIfS (dTst (dOp pGt (dCB pLen (dCons (dVar 0) dNil)) (dC (.int 0)))) (dAsg (dOp pPlus (dVar 2) (dOp pMulI (dC (.int 40961)) (dOp pIx (dVar 0) (dOp pMod (dOp pMulI (dC (.int 7)) (dVar 1)) (dCB pLen (dCons (dVar 0) dNil)))))) (dName 2)) dNext)
    (dRet (dOp pMod (dOp pMulI (dVar 2) (dVar 2)) (dC (.int 1000081)))))))
noncomputable def S__law_cell : DSp := fun ds h Q => ∃ (ns : List Int) (k : Nat), ds = [.scr (ns.map .int), nD k] ∧ ns.length ≤ 63 ∧ (∀ x ∈ ns, Builtin.Int.intBits x ≤ 1048576) ∧ k ≤ 1000 ∧ ∀ r : Int, Builtin.Int.intBits r ≤ 1048576 → Q (.int r) h
theorem small_bits {r : Int} (h0 : -(2 ^ 64) < r) (h1 : r < 2 ^ 64) : Builtin.Int.intBits r ≤ 1048576 := Nat.le_trans (intBits_le_64 h0 h1) (by decide)
theorem imp__law_cell : ∀ ds h Q, S__law_cell ds h Q → runD 3 b__law_cell ds h Q := by
  rintro ds h Q ⟨ns, k, rfl, hl, hb, hk, q⟩
  simp only [runD, b__law_cell, List.map_cons, List.map_nil, List.cons_append, List.nil_append, List.length_cons, List.length_nil, List.replicate, Nat.reduceSub, Nat.reduceAdd, Nat.zero_add, Nat.sub_self]
  (try dsimp only); refine seq_intro fun N hN => ?_
  by_cases z : k < ns.length
  · have e1 : atI (ns.map D.int) (k : Int) = some (.int ns[k]) := by rw [atN, List.getElem?_map, List.getElem?_eq_getElem z]; rfl
    have e2 : ((k : Int) < (ns.length : Int)) := by first | decide | omega
    simp only [List.length_map, e1, e2, VV]
    exact q _ (hb _ (List.getElem_mem z))
  · have fin : ∀ r : Int, 0 ≤ r % 1000081 ∧ r % 1000081 < 1000081 := fun r => by first | decide | omega
    have e2 : ¬ ((k : Int) < (ns.length : Int)) := by first | decide | omega
    simp only [List.length_map, e2, VV]
    subst hN
    (try dsimp only); refine seq_intro fun N hN => ?_
    simp only [VV]
    refine ⟨mulS (by first | decide | omega), ?_⟩
    subst hN
    (try dsimp only); refine seq_intro fun N hN => ?_
    have rest : ∀ x : Int, Builtin.Int.intBits x ≤ 2000000 → N [some (.scr (ns.map D.int)), some (nD k), some (.int x)] h := fun x b3 => by
      subst hN
      simp only [VV]
      refine ⟨.of_le b3 b3 (by first | decide | omega), by first | decide | omega, ?_⟩
      have := fin (x * x)
      exact q _ (small_bits (by first | decide | omega) (by first | decide | omega))
    by_cases z0 : 0 < ns.length
    · have hi : (7 * (k : Int) % (ns.length : Int)).toNat < ns.length := by
        have := Int.emod_lt_of_pos (7 * (k : Int)) (show (0 : Int) < ns.length by first | decide | omega)
        have := Int.emod_nonneg (7 * (k : Int)) (show (ns.length : Int) ≠ 0 by first | decide | omega)
        omega
      have e1 : atI (ns.map D.int) (7 * (k : Int) % (ns.length : Int)) = some (.int ns[(7 * (k : Int) % (ns.length : Int)).toNat]) := by
        rw [atI_of (Int.emod_nonneg _ (by first | decide | omega)), List.getElem?_map, List.getElem?_eq_getElem hi]; rfl
      have e3 : ((0 : Int) < (ns.length : Int)) := by first | decide | omega
      simp only [List.length_map, e1, e3, VV]
      have hx := hb _ (List.getElem_mem hi)
      generalize ns[(7 * (k : Int) % (ns.length : Int)).toNat] = x at hx
      have b1 : Builtin.Int.intBits (40961 * x) ≤ 64 + 1048576 := intBits_mul_le (intBits_le_64 (by decide) (by decide)) hx
      have b2 : Builtin.Int.intBits (6007 * (k : Int) + 29 + 40961 * x) ≤ max 64 (64 + 1048576) + 1 := intBits_add_le (intBits_le_64 (by first | decide | omega) (by first | decide | omega)) b1
      exact ⟨mulS (by first | decide | omega), trivial, mulS (by first | decide | omega), rest _ (by first | decide | omega)⟩
    · have e3 : ¬ ((0 : Int) < (ns.length : Int)) := by first | decide | omega
      simp only [List.length_map, e3, VV]
      exact rest _ (Nat.le_trans (intBits_le_64 (by first | decide | omega) (by first | decide | omega)) (by decide))
theorem ok__law_cell {f : Addr} {fd : FuncData} (F : Fun K "_law_cell" "_law_cell" s__law_cell f fd) (T : Txt P w K mg) : FnOk P w K mg base CX0 1 f fd ["_law_script", "_law_k"] (spD K 2 S__law_cell) :=
  fn_ok (k := 0) (b := b__law_cell) F sc__law_cell (fun cdv A outer s H E hr => (ss_cons (s_if (st_cmp ok_ltI (sv 1) (se_callB ok_len rfl T.b_len PySem.boot_len (sa_cons (sv 0) sa_nil)) (nomark _)) (ss_one (s_ret (se_ix ok_ix (sv 0) (sv 1) (fun _ _ => rfl)))) ss_nil)
    (ss_cons (s_set (i := 2) sc__law_cell.nd rfl (Or.inl rfl) (se_op ok_plus (se_op ok_timesI se_int (sv 1)) se_int))
    (ss_cons (s_if (st_cmp ok_gt (se_callB ok_len rfl T.b_len PySem.boot_len (sa_cons (sv 0) sa_nil)) se_int (nomark _)) (ss_one (s_set (i := 2) sc__law_cell.nd rfl (Or.inl rfl) (se_op ok_plus (sv 2) (se_op ok_timesI se_int (se_ix ok_ix (sv 0) (se_op ok_mod (se_op ok_timesI se_int (sv 1)) (se_callB ok_len rfl T.b_len PySem.boot_len (sa_cons (sv 0) sa_nil))) (fun _ _ => rfl)))))) ss_nil)
    (ss_one (s_ret (se_op ok_mod (se_op ok_timesI (sv 2) (sv 2)) se_int))))))) imp__law_cell
noncomputable def b__law_next : DS := (dSeq (dAsg (dOp pIx (dVar 0) (dC (.int 0))) (dName 2))
    (dSeq (dIfS (dTst (dOp pGt (dVar 2) (dC (.int 0)))) (dSeq (dAsg (dOp pDiv (dVar 2) (dVar 1)) (dSubL (dVar 0) (dC (.int 0))))
    (dRet (dOp pMod (dVar 2) (dVar 1)))) dNext)
    (dSeq (dAsg (dOp pMod (dOp pPlus (dOp pMulI (dOp pIx (dVar 0) (dC (.int 1))) (dC (.int 69621))) (dC (.int 40503))) (dC (.int 2147483647))) (dName 3))
    (dSeq (dAsg (dOp pMod (dOp pPlus (dOp pMulI (dVar 3) (dC (.int 48271))) (dC (.int 7919))) (dC (.int 2147483629))) (dSubL (dVar 0) (dC (.int 1))))
    (dRet (dOp pMod (dOp pPlus (dOp pMulI (dVar 3) (dC (.int 2147483563))) (dOp pIx (dVar 0) (dC (.int 1)))) (dVar 1)))))))
noncomputable def S__law_next : DSp := fun ds h Q => ∃ (i : Nat) (n s m : Int) (b : Bool), ds = [.ref i, .int m] ∧ h[i]? = some (stO n s b) ∧ 0 ≤ n ∧ (0 < m ∧ m ≤ 1000000000000000000) ∧ ∀ (n' s' : Int) (r : Nat), 0 ≤ n' → (r : Int) < m → Q (nD r) (h.set i (stO n' s' b))
theorem imp__law_next : ∀ ds h Q, S__law_next ds h Q → runD 4 b__law_next ds h Q := by
  rintro ds h Q ⟨i, n, s, m, b, rfl, hi, n0, ⟨hm, hm18⟩, q⟩
  have hil : i < h.length := (List.getElem?_eq_some_iff.mp hi).1
  have hi : h[i]? = some (.lst [.int n, .int s, .bl b]) := hi
  have fin : ∀ (x n' s' : Int), 0 ≤ n' → Q (.int (x % m)) (h.set i (stO n' s' b)) := fun x n' s' h' => by
    have h1 := Int.emod_nonneg x (show m ≠ 0 by first | decide | omega)
    have h2 := Int.emod_lt_of_pos x hm
    have := q n' s' (x % m).toNat h' (by first | decide | omega)
    rw [show nD (x % m).toNat = D.int (x % m) from congrArg D.int (by first | decide | omega)] at this
    exact this
  simp only [runD, b__law_next, List.map_cons, List.map_nil, List.cons_append, List.nil_append, List.length_cons, List.length_nil, List.replicate, Nat.reduceSub, Nat.reduceAdd, Nat.zero_add, Nat.sub_self]
  (try dsimp only); refine seq_intro fun N hN => ?_
  simp only [ix_ls (lsOf_ref hi), VV]
  subst hN
  (try dsimp only); refine seq_intro fun N hN => ?_
  by_cases z : 0 < n
  · simp only [z, VV]
    simp only [hi, ↓runD, ↓dSeq, VV]
    refine ⟨⟨hm, by first | decide | omega⟩, hm, ?_⟩
    exact fin n (n / m) s (Int.ediv_nonneg n0 (by first | decide | omega))
  · simp only [z, VV]
    subst hN
    (try dsimp only); refine seq_intro fun N hN => ?_
    simp only [ix_ls (lsOf_ref hi), VV]
    refine ⟨mulS' (by decide), by decide, ?_⟩
    generalize ho : (s * 69621 + 40503) % 2147483647 = o
    have ob : 0 ≤ o ∧ o < 2147483647 := by first | decide | omega
    subst hN
    (try dsimp only); refine seq_intro fun N hN => ?_
    have i1 : ixN 3 1 = some 1 := rfl
    simp only [hi, i1, VV]
    refine ⟨mulS (by first | decide | omega), by decide, ?_⟩
    have e2 : (h.set i (.lst [.int n, .int ((o * 48271 + 7919) % 2147483629), .bl b]))[i]? = some (.lst [.int n, .int ((o * 48271 + 7919) % 2147483629), .bl b]) := List.getElem?_set_self hil
    subst hN
    simp only [ix_ls (lsOf_ref e2), VV]
    refine ⟨mulS (by first | decide | omega), hm, ?_⟩
    exact fin _ n _ n0
theorem ok__law_next {f : Addr} {fd : FuncData} (F : Fun K "_law_next" "_law_next" s__law_next f fd) (T : Txt P w K mg) : FnOk P w K mg base CX0 1 f fd ["_law_state_here", "_law_many"] (spD K 2 S__law_next) :=
  fn_ok (k := 0) (b := b__law_next) F sc__law_next (fun cdv A outer s H E hr => (ss_cons (s_set (i := 2) sc__law_next.nd rfl (Or.inl rfl) (se_ix ok_ix (sv 0) se_int (fun _ _ => rfl)))
    (ss_cons (s_if (st_cmp ok_gt (sv 2) se_int (nomark _)) (ss_cons (s_asg (se_op ok_div (sv 2) (sv 1)) (sg_subL (sv 0) se_int))
    (ss_one (s_ret (se_op ok_mod (sv 2) (sv 1))))) ss_nil)
    (ss_cons (s_set (i := 3) sc__law_next.nd rfl (Or.inl rfl) (se_op ok_mod (se_op ok_plus (se_op ok_timesI (se_ix ok_ix (sv 0) se_int (fun _ _ => rfl)) se_int) se_int) se_int))
    (ss_cons (s_asg (se_op ok_mod (se_op ok_plus (se_op ok_timesI (sv 3) se_int) se_int) se_int) (sg_subL (sv 0) se_int))
    (ss_one (s_ret (se_op ok_mod (se_op ok_plus (se_op ok_timesI (sv 3) se_int) (se_ix ok_ix (sv 0) se_int (fun _ _ => rfl))) (sv 1))))))))) imp__law_next
noncomputable def b__law_cut : DS := (dSeq (dAsg (dVar 0) (dUnp 2 (dGCons (dName 2) (dGCons (dName 3) dGNil))))
    (dSeq (dIfS (dAnd (dTst (dOp (pEq false) (dOp pIx (dVar 3) (dC (.int 0))) (dC (.str "done")))) (dTst (dOp pLe (dOp pIx (dOp pIx (dVar 2) (dUn pNeg (dC (.int 1)))) (dC (.int 0))) (dVar 1)))) (dRet (dVar 0)) dNext)
    (dRet (dTup (dCons (dV (dComp [none, some 1] (dISeq (dVar 2)) (dName 0) (dTst (dOp pLe (dOp pIx (dVar 0) (dC (.int 0))) (dVar 1))) (dVar 0))) (dCons (dTup (dCons (dC (.str "spent")) dNil)) dNil))))))
noncomputable def rsD (r : List E4 × Option Int) : D := .tup [.lst (r.1.map stD), endD r.2]
noncomputable def S__law_cut : DSp := fun ds h Q => ∃ (r : List E4 × Option Int) (few : Nat), ds = [rsD r, nD few] ∧ r.1 ≠ [] ∧ r.1.length ≤ 10000 ∧ Q (rsD (cutM few r)) h
theorem imp__law_cut : ∀ ds h Q, S__law_cut ds h Q → runD 4 b__law_cut ds h Q := by
  rintro ds h Q ⟨⟨es, e⟩, few, rfl, hne, hb, q⟩
  have hne : es ≠ [] := hne
  have hb : es.length ≤ 10000 := hb
  obtain ⟨init, last, rfl⟩ : ∃ init last, es = init ++ [last] := by
    rcases List.eq_nil_or_concat es with z | ⟨i, l, z⟩
    · exact absurd z hne
    · exact ⟨i, l, by rw [z, List.concat_eq_append]⟩
  have la : atI ((init ++ [last]).map stD) (-1) = some (stD last) := by rw [List.map_append]; exact atLast _ _
  have gl : (init ++ [last]).getLast? = some last := by simp
  simp only [runD, b__law_cut, List.map_cons, List.map_nil, List.cons_append, List.nil_append, List.length_cons, List.length_nil, List.replicate, Nat.reduceSub, Nat.reduceAdd, Nat.zero_add, Nat.sub_self]
  (try dsimp only); refine seq_intro fun N hN => ?_
  simp only [rsD, VV]
  refine ⟨trivial, ?_⟩
  subst hN
  (try dsimp only); refine seq_intro fun N hN => ?_
  have cut : cutM few (init ++ [last], e) = ((init ++ [last]).filter fun e => decide (e.1 ≤ few), none) → N [some (.tup [.lst ((init ++ [last]).map stD), endD e]), some (nD few), some (.lst ((init ++ [last]).map stD)), some (endD e)] h := fun z => by
    subst hN
    rw [z] at q
    simp only [List.length_map, VV]
    refine ⟨by first | decide | omega, ?_⟩
    refine comp1 (fun e : E4 => decide (e.1 ≤ few)) stD Src.ok_nil none (fun y _ K kk => ?_) (fun y _ _ K kk => ?_) q
    · simp only [stD, VV]
      rw [show decide ((y.1 : Int) ≤ (few : Int)) = decide (y.1 ≤ few) from decide_eq_decide.mpr Int.ofNat_le]
      exact kk
    · simp only [VV]
      exact kk
  cases e with
  | none =>
    have i0 : ∀ h0 : Hh, ixD h0 (endD none) (.int 0) = some (.str (Str.ofString "spent")) := fun _ => rfl
    have sd : (Str.ofString "spent" == Str.ofString "done") = false := by decide +kernel
    simp only [i0, rk_spent, rk_done, sd, Bool.and_self, VV]
    exact cut (by unfold cutM; rw [if_neg (by rintro ⟨z, _⟩; cases z)])
  | some v =>
    have i0 : ∀ h0 : Hh, ixD h0 (endD (some v)) (.int 0) = some (.str (Str.ofString "done")) := fun _ => rfl
    have sd : (Str.ofString "done" == Str.ofString "done") = true := by decide +kernel
    simp only [i0, rk_done, sd, Bool.and_self, la, stD, VV]
    refine iteB (fun c => ?_) (fun c => ?_)
    · have c := of_decide_eq_true c
      have z : cutM few (init ++ [last], some v) = (init ++ [last], some v) := by unfold cutM; rw [if_pos ⟨rfl, last, gl, by first | decide | omega⟩]
      rw [z] at q; exact q
    · have c := of_decide_eq_false c
      exact cut (by unfold cutM; rw [if_neg (by rintro ⟨_, e, h1, h2⟩; rw [show (init ++ [last], some v).1.getLast? = some last from gl] at h1; cases h1; omega)])
theorem ok__law_cut {f : Addr} {fd : FuncData} (F : Fun K "_law_cut" "_law_cut" s__law_cut f fd) (T : Txt P w K mg) : FnOk P w K mg base CX0 1 f fd ["_law_told", "_law_few"] (spD K 2 S__law_cut) :=
  fn_ok (k := 0) (b := b__law_cut) F sc__law_cut (fun cdv A outer s H E hr => (ss_cons (s_asg (sv 0) (sg_tup rfl (sgs_cons (sg_name (i := 2) sc__law_cut.nd rfl (Or.inl rfl)) (sgs_cons (sg_name (i := 3) sc__law_cut.nd rfl (Or.inl rfl)) sgs_nil))))
    (ss_cons (s_if (st_w (sw_and (st_cmp (ok_eq hr.units) (se_ix ok_ix (sv 3) se_int (fun _ _ => rfl)) se_str (nomark _)) (sw_and1 (st_cmp ok_le (se_ix ok_ix (se_ix ok_ix (sv 2) (se_un ok_neg se_int) (fun _ _ => rfl)) se_int (fun _ _ => rfl)) (sv 1) (nomark _))))) (ss_one (s_ret (sv 0))) ss_nil)
    (ss_one (s_ret (se_tup (sa_cons (se_v (sn_comp rfl (N' := ["_law_one", "_law_few"]) (js := [none, some 1]) ⟨rfl, by decide +kernel, rfl, rfl, rfl⟩ (si_seq (sv 2)) (fun s0 H0 fp => ⟨(sg_name (i := 0) (show (["_law_one", "_law_few"] : List Str).Nodup by decide +kernel) rfl (Or.inl rfl)), (sf_one (st_cmp ok_le (se_ix ok_ix (sv 0) se_int (fun _ _ => rfl)) (sv 1) (nomark _))), (sv 0)⟩))) (sa_cons (se_tup (sa_cons se_str sa_nil)) sa_nil)))))))) imp__law_cut
noncomputable def b_Frame____init__ : DS := (dSeq (dSetF "Frame" "function" (dVar 0) (dVar 1))
    (dSeq (dSetF "Frame" "place" (dVar 0) (dC (.int 0)))
    (dSeq (dSetF "Frame" "held" (dVar 0) (dVar 2))
    (dSetF "Frame" "dyes" (dVar 0) (dVar 3)))))
theorem pa_f1 (a b : D) : putA (Str.ofString "place") b [(Str.ofString "function", a)] = [(Str.ofString "function", a), (Str.ofString "place", b)] := by
  show (if _ then _ else _) = _
  rw [if_neg (by decide +kernel)]; rfl
theorem pa_f2 (a b c : D) : putA (Str.ofString "held") c [(Str.ofString "function", a), (Str.ofString "place", b)] = [(Str.ofString "function", a), (Str.ofString "place", b), (Str.ofString "held", c)] := by
  show (if _ then _ else _ :: (if _ then _ else _)) = _
  rw [if_neg (by decide +kernel), if_neg (by decide +kernel)]; rfl
theorem pa_f3 (a b c d : D) : putA (Str.ofString "dyes") d [(Str.ofString "function", a), (Str.ofString "place", b), (Str.ofString "held", c)] = [(Str.ofString "function", a), (Str.ofString "place", b), (Str.ofString "held", c), (Str.ofString "dyes", d)] := by
  show (if _ then _ else _ :: (if _ then _ else _ :: (if _ then _ else _))) = _
  rw [if_neg (by decide +kernel), if_neg (by decide +kernel), if_neg (by decide +kernel)]; rfl
noncomputable def S_Frame____init__ : DSp := fun ds h Q => ∃ (i : Nat) (a c d : D), ds = [.ref i, a, c, d] ∧ h[i]? = some (.ins "Frame" []) ∧ Q .non (h.set i (.ins "Frame" [("function", a), ("place", nD 0), ("held", c), ("dyes", d)]))
theorem imp_Frame____init__ : ∀ ds h Q, S_Frame____init__ ds h Q → runD 4 b_Frame____init__ ds h Q := by
  rintro ds h Q ⟨i, a, c, d, rfl, e, q⟩
  have hi : i < h.length := (List.getElem?_eq_some_iff.mp e).1
  have es : ∀ o : O, (h.set i o)[i]? = some o := fun o => List.getElem?_set_self hi
  simp only [runD, b_Frame____init__, List.map_cons, List.map_nil, List.cons_append, List.nil_append, List.length_cons, List.length_nil, List.replicate, Nat.reduceSub, Nat.reduceAdd, Nat.zero_add, Nat.sub_self]
  (try dsimp only); refine seq_intro fun N hN => ?_
  simp only [VV0]
  refine setF_at e (by decide) ?_
  rw [show putA (Str.ofString "function") a [] = [(Str.ofString "function", a)] from rfl]
  subst hN
  (try dsimp only); refine seq_intro fun N hN => ?_
  simp only [VV0]
  refine setF_at (es _) (by simp) ?_
  rw [List.set_set, pa_f1]
  subst hN
  (try dsimp only); refine seq_intro fun N hN => ?_
  simp only [VV0]
  refine setF_at (es _) (by simp) ?_
  rw [List.set_set, pa_f2]
  subst hN
  simp only [VV0]
  refine setF_at (es _) (by simp) ?_
  rw [List.set_set, pa_f3]
  exact q
theorem ok_Frame____init__ {f : Addr} {fd : FuncData} (F : Fun K "__init__" "Frame.__init__" s_Frame____init__ f fd) (T : Txt P w K mg) : FnOk P w K mg base CX0 1 f fd ["self", "function", "held", "dyes"] (spD K 4 S_Frame____init__) :=
  fn_ok (k := 0) (b := b_Frame____init__) F sc_Frame____init__ (fun cdv A outer s H E hr => (ss_cons (s_fld T.f_function (sv 0) (sv 1))
    (ss_cons (s_fld T.f_place (sv 0) se_int)
    (ss_cons (s_fld T.f_held (sv 0) (sv 2))
    (ss_one (s_fld T.f_dyes (sv 0) (sv 3))))))) imp_Frame____init__
noncomputable def b_Frame__put_value : DS := (dSeq (dAsg (dVar 2) (dSubL (dUn (pFld "Frame" "held") (dVar 0)) (dVar 1)))
    (dAsg (dVar 3) (dSubL (dUn (pFld "Frame" "dyes") (dVar 0)) (dVar 1))))
noncomputable def S_Frame__put_value : DSp := fun ds h Q => ∃ (n a : Nat) (v : Int) (d : Nat) (x : Fr), ds = [.ref (n + 2), nD a, .int v, nD d] ∧ FAt h n x ∧ a < x.held.length ∧ a < x.dyes.length ∧ Q .non (frPut h n { x with held := x.held.set a v, dyes := x.dyes.set a d })
theorem imp_Frame__put_value : ∀ ds h Q, S_Frame__put_value ds h Q → runD 4 b_Frame__put_value ds h Q := by
  rintro ds h Q ⟨n, a, v, d, x, rfl, f, ha, hd, q⟩
  have fl := f.lt
  have fa : h[n]? = some (.lst (x.held.map D.int)) := f.a
  simp only [runD, b_Frame__put_value, List.map_cons, List.map_nil, List.cons_append, List.nil_append, List.length_cons, List.length_nil, List.replicate, Nat.reduceSub, Nat.reduceAdd, Nat.zero_add, Nat.sub_self]
  (try dsimp only); refine seq_intro fun N hN => ?_
  simp only [fr_held f.c, fa, List.length_map, ixN_nat ha, VV1]
  have mh : (x.held.map D.int).set a (.int v) = (x.held.set a v).map D.int := by rw [List.map_set]
  have md : (x.dyes.map nD).set a (nD d) = (x.dyes.set a d).map nD := by rw [List.map_set]
  rw [mh]
  subst hN
  have c2 : (h.set n (O.lst ((x.held.set a v).map D.int)))[n + 2]? = some (frO n x) := by rw [List.getElem?_set_ne (by first | decide | omega)]; exact f.c
  have b2 : (h.set n (O.lst ((x.held.set a v).map D.int)))[n + 1]? = some (.lst (x.dyes.map nD)) := by rw [List.getElem?_set_ne (by first | decide | omega)]; exact f.b
  simp only [fr_dyes c2, b2, List.length_map, ixN_nat hd, VV1]
  rw [md]
  have e : frPut h n { x with held := x.held.set a v, dyes := x.dyes.set a d } = (h.set n (O.lst ((x.held.set a v).map D.int))).set (n + 1) (O.lst ((x.dyes.set a d).map nD)) := by
    unfold frPut hdO dyO
    refine set_same ?_
    rw [List.getElem?_set_ne (by first | decide | omega)]; exact c2
  rw [e] at q
  exact q
theorem ok_Frame__put_value {f : Addr} {fd : FuncData} (F : Fun K "put_value" "Frame.put_value" s_Frame__put_value f fd) (T : Txt P w K mg) : FnOk P w K mg base CX0 1 f fd ["self", "x", "value", "dye"] (spD K 4 S_Frame__put_value) :=
  fn_ok (k := 0) (b := b_Frame__put_value) F sc_Frame__put_value (fun cdv A outer s H E hr => (ss_cons (s_asg (sv 2) (sg_subL (se_fld T.f_held (sv 0)) (sv 1)))
    (ss_one (s_asg (sv 3) (sg_subL (se_fld T.f_dyes (sv 0)) (sv 1)))))) imp_Frame__put_value
noncomputable def b_Runner____init__ : DS := (dSeq (dSetF "Runner" "program" (dVar 0) (dVar 1))
    (dSeq (dSetF "Runner" "frames" (dVar 0) (dTk dNil))
    (dSeq (dSetF "Runner" "steps" (dVar 0) (dC (.int 0)))
    (dSetF "Runner" "states" (dVar 0) (dTk dNil)))))
theorem pa_r1 (a b : D) : putA (Str.ofString "frames") b [(Str.ofString "program", a)] = [(Str.ofString "program", a), (Str.ofString "frames", b)] := by
  show (if _ then _ else _) = _
  rw [if_neg (by decide +kernel)]; rfl
theorem pa_r2 (a b c : D) : putA (Str.ofString "steps") c [(Str.ofString "program", a), (Str.ofString "frames", b)] = [(Str.ofString "program", a), (Str.ofString "frames", b), (Str.ofString "steps", c)] := by
  show (if _ then _ else _ :: (if _ then _ else _)) = _
  rw [if_neg (by decide +kernel), if_neg (by decide +kernel)]; rfl
theorem pa_r3 (a b c d : D) : putA (Str.ofString "states") d [(Str.ofString "program", a), (Str.ofString "frames", b), (Str.ofString "steps", c)] = [(Str.ofString "program", a), (Str.ofString "frames", b), (Str.ofString "steps", c), (Str.ofString "states", d)] := by
  show (if _ then _ else _ :: (if _ then _ else _ :: (if _ then _ else _))) = _
  rw [if_neg (by decide +kernel), if_neg (by decide +kernel), if_neg (by decide +kernel)]; rfl
noncomputable def S_Runner____init__ : DSp := fun ds h Q => ∃ (g : Hh) (p : D), ds = [.ref g.length, p] ∧ h = g ++ [.ins "Runner" []] ∧ Q .non (g ++ [rnO p g.length 0, .lst [], .lst []])
theorem imp_Runner____init__ : ∀ ds h Q, S_Runner____init__ ds h Q → runD 2 b_Runner____init__ ds h Q := by
  rintro ds h Q ⟨g, p, rfl, rfl, q⟩
  have es : ∀ (o : O) (r : Hh), (g ++ o :: r)[g.length]? = some o := fun o r => by rw [List.getElem?_append_right (Nat.le_refl _), Nat.sub_self]; rfl
  have ss : ∀ (o o' : O) (r : Hh), (g ++ o :: r).set g.length o' = g ++ o' :: r := fun o o' r => by rw [List.set_append_right _ _ (Nat.le_refl _), Nat.sub_self]; rfl
  have ap : ∀ (o : O) (r : Hh) (u : O), (g ++ o :: r) ++ [u] = g ++ o :: (r ++ [u]) := fun o r u => by rw [List.append_assoc]; rfl
  simp only [runD, b_Runner____init__, List.map_cons, List.map_nil, List.cons_append, List.nil_append, List.length_cons, List.length_nil, List.replicate, Nat.reduceSub, Nat.reduceAdd, Nat.zero_add, Nat.sub_self]
  (try dsimp only); refine seq_intro fun N hN => ?_
  simp only [VV0]
  refine setF_at (es _ _) (by decide) ?_
  rw [ss, show putA (Str.ofString "program") p [] = [(Str.ofString "program", p)] from rfl]
  subst hN
  (try dsimp only); refine seq_intro fun N hN => ?_
  simp only [VV0]
  rw [ap]
  refine setF_at (es _ _) (by simp) ?_
  rw [ss, pa_r1]
  subst hN
  (try dsimp only); refine seq_intro fun N hN => ?_
  simp only [VV0]
  refine setF_at (es _ _) (by simp) ?_
  rw [ss, pa_r2]
  subst hN
  simp only [VV0]
  rw [ap]
  refine setF_at (es _ _) (by simp) ?_
  rw [ss, pa_r3]
  have l2 : ∀ o u : O, (g ++ [o, u]).length = g.length + 2 := fun o u => by simp
  have l1 : (g ++ [O.ins (Str.ofString "Runner") [(Str.ofString "program", p)]]).length = g.length + 1 := by simp
  rw [l1, l2]
  exact q
theorem ok_Runner____init__ {f : Addr} {fd : FuncData} (F : Fun K "__init__" "Runner.__init__" s_Runner____init__ f fd) (T : Txt P w K mg) : FnOk P w K mg base CX0 1 f fd ["self", "program"] (spD K 2 S_Runner____init__) :=
  fn_ok (k := 0) (b := b_Runner____init__) F sc_Runner____init__ (fun cdv A outer s H E hr => (ss_cons (s_fld T.f_program (sv 0) (sv 1))
    (ss_cons (s_fld T.f_frames (sv 0) (se_t (sn_lst sa_nil)))
    (ss_cons (s_fld T.f_steps (sv 0) se_int)
    (ss_one (s_fld T.f_states (sv 0) (se_t (sn_lst sa_nil)))))))) imp_Runner____init__
noncomputable def b_Runner__come_to : DS := (dSeq (dAsg (dOp pIx (dUn (pFld "Runner" "frames") (dVar 0)) (dUn pNeg (dC (.int 1)))) (dName 2))
    (dSeq (dSetF "Frame" "place" (dVar 2) (dVar 1))
    (dSeq (dAsg (dC (.int 1)) (dName 3))
    (dSeq (dFor (dIEnum (dCons (dUn (pFld "Frame" "dyes") (dVar 2)) dNil)) (dUnp 2 (dGCons (dName 4) (dGCons (dName 5) dGNil))) (dAug 3 (dOp pShl (dVar 5) (dOp pPlus (dC (.int 1)) (dVar 4))) pBor))
    (dDrop (dAppend (dUn (pFld "Runner" "states") (dVar 0)) (dCons (dTup (dCons (dUn (pFld "Runner" "steps") (dVar 0)) (dCons (dUn (pFld "Frame" "function") (dVar 2)) (dCons (dVar 1) (dCons (dVar 3) dNil))))) dNil)))))))
noncomputable def S_Runner__come_to : DSp := fun ds h Q => ∃ (P : Prog) (r k n q : Nat) (x : Fr) (fs : List (Nat × Fr)) (es : List E4), ds = [.ref r, nD q] ∧ RAt P h r k ((n, x) :: fs) es ∧ (∀ d ∈ x.dyes, d ≤ 1) ∧ x.dyes.length ≤ 10 ∧ es.length ≤ 10000 ∧
  ∀ h', RAt P h' r k ((n, { x with p := q }) :: fs) (es ++ [(k, x.f, q, msk x.dyes)]) → Kp r h h' → Q .non h'
theorem imp_Runner__come_to : ∀ ds h Q, S_Runner__come_to ds h Q → runD 6 b_Runner__come_to ds h Q := by
  rintro ds h Q ⟨P, r, k, n, q, x, fs, es, rfl, R, d1, dl, hb, qq⟩
  obtain ⟨f, hn⟩ := R.fa (n, x) List.mem_cons_self
  have hn : r + 3 ≤ n := hn
  have rl := R.lt
  have R' := R.top { x with p := q }
  have f' := frPut_at { x with p := q } f.lt
  have la : atI (((n, x) :: fs).reverse.map fun y : Nat × Fr => D.ref (y.1 + 2)) (-1) = some (.ref (n + 2)) := by rw [List.reverse_cons, List.map_append]; exact atLast _ _
  have e1 : h.set (n + 2) (frO n { x with p := q }) = frPut h n { x with p := q } := by
    unfold frPut
    rw [show h.set n (hdO { x with p := q }) = h from set_same f.a, show h.set (n + 1) (dyO { x with p := q }) = h from set_same f.b]
  simp only [runD, b_Runner__come_to, List.map_cons, List.map_nil, List.cons_append, List.nil_append, List.length_cons, List.length_nil, List.replicate, Nat.reduceSub, Nat.reduceAdd, Nat.zero_add, Nat.sub_self]
  (try dsimp only); refine seq_intro fun N hN => ?_
  simp only [rn_frames R.o, ix_ls (lsOf_ref R.fr), la, VV1]
  subst hN
  (try dsimp only); refine seq_intro fun N hN => ?_
  simp only [VV0]
  refine fr_setp f.c ?_
  rw [e1]
  subst hN
  (try dsimp only); refine seq_intro fun N hN => ?_
  simp only [VV]
  subst hN
  (try dsimp only); refine seq_intro fun N hN => ?_
  have fb : (frPut h n { x with p := q })[n + 1]? = some (.lst (x.dyes.map nD)) := f'.b
  simp only [fr_dyes f'.c, seqSrc_ref fb, VV1]
  rw [enumD_map]
  refine forL_map (fun p δ h' => h' = frPut h n { x with p := q } ∧ ∃ (x4 x5 : Option D), δ = [some (.ref r), some (nD q), some (.ref (n + 2)), some (nD (msk (p.map (·.1)))), x4, x5]) ⟨rfl, _, _, rfl⟩ ?_ ?_ ?_
  · rintro p δ h' ⟨rfl, x4, x5, rfl⟩
    intro z hz
    rw [List.mem_singleton.mp hz]
    exact fb
  · rintro p ⟨d, v⟩ rr δ h' N1 e ⟨rfl, x4, x5, rfl⟩ hN1
    obtain ⟨hv, hd, vl⟩ : v = p.length ∧ d ∈ x.dyes ∧ (∀ a ∈ p.map (·.1), a ≤ 1) := by
      have h1 : x.dyes.zipIdx[p.length]? = some (d, v) := by rw [e]; simp
      rw [List.getElem?_zipIdx] at h1
      cases z : x.dyes[p.length]? with
      | none => rw [z] at h1; cases h1
      | some m' =>
        rw [z] at h1; cases h1
        refine ⟨by simp, List.mem_of_getElem? z, fun a ha => ?_⟩
        obtain ⟨b, hb, rfl⟩ := List.mem_map.mp ha
        have : b ∈ x.dyes.zipIdx := by rw [e]; exact List.mem_append_left _ hb
        exact d1 _ (List.fst_mem_of_mem_zipIdx this)
    have pl : p.length ≤ 10 := by
      have := congrArg List.length e
      simp at this; omega
    simp only [VV]
    refine ⟨trivial, ?_⟩
    have dd := d1 d hd
    refine ⟨⟨by first | decide | omega, by first | decide | omega, by first | decide | omega⟩, ?_⟩
    have t : (d : Int) * 2 ^ (1 + (0 + (v : Int))).toNat = ((d * 2 ^ (1 + v) : Nat) : Int) := by
      rw [show (1 + (0 + (v : Int))).toNat = 1 + v by first | decide | omega, Int.natCast_mul, Int.natCast_pow]; rfl
    have ml := msk_lt _ vl
    rw [List.length_map, ← hv] at ml
    have ms : msk ((p ++ [(d, v)]).map (·.1)) = msk (p.map (·.1)) + d * 2 ^ (1 + v) := by
      rw [List.map_append]
      show 1 + mskF (_ ++ [d]) 1 = 1 + mskF _ 1 + _
      rw [msk_snoc, List.length_map, ← hv]; omega
    rw [t, bor_nat, or_add ml, ← ms]
    exact hN1 _ _ ⟨rfl, _, _, rfl⟩
  · rintro δ h' ⟨rfl, x4, x5, rfl⟩
    have mz : x.dyes.zipIdx.map (·.1) = x.dyes := List.zipIdx_map_fst 0 _
    rw [mz]
    subst hN
    have st' : (frPut h n { x with p := q })[r + 2]? = some (.lst (es.map stD)) := R'.st
    simp only [rn_states R'.o, rn_steps R'.o, fr_function f'.c, st', List.length_map, VV1]
    refine ⟨by first | decide | omega, ?_⟩
    have en : es.map stD ++ [.tup [nD k, nD x.f, nD q, nD (msk x.dyes)]] = (es ++ [(k, x.f, q, msk x.dyes)]).map stD := by rw [List.map_append]; rfl
    rw [en]
    exact qq _ (R'.state _) ((Kp.frPut (by first | decide | omega) (by first | decide | omega)).trans (Kp.set (by first | decide | omega) (by rw [frPut_len]; omega)))
theorem ok_Runner__come_to {f : Addr} {fd : FuncData} (F : Fun K "come_to" "Runner.come_to" s_Runner__come_to f fd) (T : Txt P w K mg) : FnOk P w K mg base CX0 1 f fd ["self", "place"] (spD K 2 S_Runner__come_to) :=
  fn_ok (k := 0) (b := b_Runner__come_to) F sc_Runner__come_to (fun cdv A outer s H E hr => (ss_cons (s_set (i := 2) sc_Runner__come_to.nd rfl (Or.inl rfl) (se_ix ok_ix (se_fld T.f_frames (sv 0)) (se_un ok_neg se_int) (fun _ _ => rfl)))
    (ss_cons (s_fld T.f_place (sv 2) (sv 1))
    (ss_cons (s_set (i := 3) sc_Runner__come_to.nd rfl (Or.inl rfl) se_int)
    (ss_cons (s_for PassesOwn.never rfl (si_enum rfl T.b_enumerate (sa_cons (se_fld T.f_dyes (sv 2)) sa_nil)) (sg_tup rfl (sgs_cons (sg_name (i := 4) sc_Runner__come_to.nd rfl (Or.inl rfl)) (sgs_cons (sg_name (i := 5) sc_Runner__come_to.nd rfl (Or.inl rfl)) sgs_nil))) (ss_one (s_aug (i := 3) sc_Runner__come_to.nd rfl (Or.inl rfl) (se_op ok_shl (sv 5) (se_op ok_plus se_int (sv 4))) iok_or)))
    (ss_one (s_expr (se_append (se_fld T.f_states (sv 0)) (sa_cons (se_tup (sa_cons (se_fld T.f_steps (sv 0)) (sa_cons (se_fld T.f_function (sv 2)) (sa_cons (sv 1) (sa_cons (sv 3) sa_nil))))) sa_nil))))))))) imp_Runner__come_to
noncomputable def b_change : DS := (dIfS (dTst (dOp (pEq false) (dOp pIx (dVar 1) (dC (.int 0))) (dC (.str "number")))) (dDrop (dMeth "Frame" "put_value" S_Frame__put_value (dVar 0) (dCons (dOp pIx (dVar 1) (dC (.int 1))) (dCons (dOp pIx (dVar 1) (dC (.int 2))) (dCons (dC (.int 0)) dNil))))) (dIfS (dTst (dOp (pEq false) (dOp pIx (dVar 1) (dC (.int 0))) (dC (.str "copy")))) (dDrop (dMeth "Frame" "put_value" S_Frame__put_value (dVar 0) (dCons (dOp pIx (dVar 1) (dC (.int 1))) (dCons (dOp pIx (dUn (pFld "Frame" "held") (dVar 0)) (dOp pIx (dVar 1) (dC (.int 2)))) (dCons (dOp pIx (dUn (pFld "Frame" "dyes") (dVar 0)) (dOp pIx (dVar 1) (dC (.int 2)))) dNil))))) (dIfS (dTst (dOp (pEq false) (dOp pIx (dVar 1) (dC (.int 0))) (dC (.str "does")))) (dSeq (dAsg (dCal S_reckoned (dCons (dOp pIx (dVar 1) (dC (.int 2))) (dCons (dOp pIx (dUn (pFld "Frame" "held") (dVar 0)) (dOp pIx (dVar 1) (dC (.int 3)))) (dCons (dOp pIx (dUn (pFld "Frame" "held") (dVar 0)) (dOp pIx (dVar 1) (dC (.int 4)))) dNil)))) (dName 2))
    (dDrop (dMeth "Frame" "put_value" S_Frame__put_value (dVar 0) (dCons (dOp pIx (dVar 1) (dC (.int 1))) (dCons (dVar 2) (dCons (dOp pBor (dOp pIx (dUn (pFld "Frame" "dyes") (dVar 0)) (dOp pIx (dVar 1) (dC (.int 3)))) (dOp pIx (dUn (pFld "Frame" "dyes") (dVar 0)) (dOp pIx (dVar 1) (dC (.int 4))))) dNil)))))) (dIfS (dOr (dTst (dOp (pEq false) (dOp pIx (dVar 1) (dC (.int 0))) (dC (.str "dye")))) (dTst (dOp (pEq false) (dOp pIx (dVar 1) (dC (.int 0))) (dC (.str "wash"))))) (dAsg (dIf (dTst (dOp (pEq false) (dOp pIx (dVar 1) (dC (.int 0))) (dC (.str "dye")))) (dC (.int 1)) (dC (.int 0))) (dSubL (dUn (pFld "Frame" "dyes") (dVar 0)) (dOp pIx (dVar 1) (dC (.int 1))))) dNext))))
noncomputable def S_change : DSp := fun ds h Q => ∃ (n : Nat) (x : Fr) (r : Rw), ds = [.ref (n + 2), rrD r] ∧ FAt h n x ∧ plain r ∧ rwIn x r ∧ Q .non (frPut h n (chg x r))
theorem imp_change : ∀ ds h Q, S_change ds h Q → runD 3 b_change ds h Q := by
  rintro ds h Q ⟨n, x, r, rfl, f, hp, hx, q⟩
  have fl := f.lt
  have fa : h[n]? = some (.lst (x.held.map D.int)) := f.a
  have fb : h[n + 1]? = some (.lst (x.dyes.map nD)) := f.b
  simp only [runD, b_change, List.map_cons, List.map_nil, List.cons_append, List.nil_append, List.length_cons, List.length_nil, List.replicate, Nat.reduceSub, Nat.reduceAdd, Nat.zero_add, Nat.sub_self]
  cases r with
  | call => exact hp.elim
  | ret => exact hp.elim
  | num a v =>
    (try dsimp only); refine if_intro fun A1 B1 hA hB => ?_
    simp only [rrD, VV]
    clear hB B1
    subst hA
    simp only [rrD, VV2]
    exact ⟨fr_has f.c rfl, n, a, v, 0, x, rfl, f, hx.1, hx.2, q⟩
  | cp a b =>
    (try dsimp only); refine if_intro fun A1 B1 hA hB => ?_
    simp only [rrD, VV]
    clear hA A1
    subst hB
    (try dsimp only); refine if_intro fun A1 B1 hA hB => ?_
    simp only [rrD, VV]
    clear hB B1
    subst hA
    simp only [rrD, fr_held f.c, fr_dyes f.c, ix_ls (lsOf_ref fa), ix_ls (lsOf_ref fb), hl_ix hx.2.1, dy_ix hx.2.2, VV3]
    exact ⟨fr_has f.c rfl, n, a, _, _, x, rfl, f, hx.1.1, hx.1.2, q⟩
  | does a o b c =>
    (try dsimp only); refine if_intro fun A1 B1 hA hB => ?_
    simp only [rrD, VV]
    clear hA A1
    subst hB
    (try dsimp only); refine if_intro fun A1 B1 hA hB => ?_
    simp only [rrD, VV]
    clear hA A1
    subst hB
    (try dsimp only); refine if_intro fun A1 B1 hA hB => ?_
    simp only [rrD, VV]
    clear hB B1
    subst hA
    (try dsimp only); refine seq_intro fun N hN => ?_
    simp only [rrD, fr_held f.c, ix_ls (lsOf_ref fa), hl_ix hx.2.1.1, hl_ix hx.2.2.1.1, VV1]
    refine ⟨o, _, _, rfl, hx.2.2.2.1, hx.2.2.2.2, ?_⟩
    subst hN
    simp only [rrD, fr_dyes f.c, ix_ls (lsOf_ref fb), dy_ix hx.2.1.2, dy_ix hx.2.2.1.2, pBor, bor_nat, VV3]
    exact ⟨fr_has f.c rfl, n, a, _, _, x, rfl, f, hx.1.1, hx.1.2, q⟩
  | dye a =>
    (try dsimp only); refine if_intro fun A1 B1 hA hB => ?_
    simp only [rrD, VV]
    clear hA A1
    subst hB
    (try dsimp only); refine if_intro fun A1 B1 hA hB => ?_
    simp only [rrD, VV]
    clear hA A1
    subst hB
    (try dsimp only); refine if_intro fun A1 B1 hA hB => ?_
    simp only [rrD, VV]
    clear hA A1
    subst hB
    (try dsimp only); refine if_intro fun A1 B1 hA hB => ?_
    simp only [rrD, VV]
    clear hB B1
    subst hA
    simp only [rrD, fr_dyes f.c, fb, List.length_map, ixN_nat hx, VV1]
    have md : (x.dyes.map nD).set a (.int 1) = (x.dyes.set a 1).map nD := by rw [List.map_set]; rfl
    rw [md]
    have e : frPut h n { x with dyes := x.dyes.set a 1 } = h.set (n + 1) (O.lst ((x.dyes.set a 1).map nD)) := by
      unfold frPut dyO
      rw [show h.set n (hdO { x with dyes := x.dyes.set a 1 }) = h from set_same f.a]
      refine set_same ?_
      rw [List.getElem?_set_ne (by first | decide | omega)]; exact f.c
    rw [show chg x (.dye a) = { x with dyes := x.dyes.set a 1 } from rfl, e] at q
    exact q
  | wash a =>
    (try dsimp only); refine if_intro fun A1 B1 hA hB => ?_
    simp only [rrD, VV]
    clear hA A1
    subst hB
    (try dsimp only); refine if_intro fun A1 B1 hA hB => ?_
    simp only [rrD, VV]
    clear hA A1
    subst hB
    (try dsimp only); refine if_intro fun A1 B1 hA hB => ?_
    simp only [rrD, VV]
    clear hA A1
    subst hB
    (try dsimp only); refine if_intro fun A1 B1 hA hB => ?_
    simp only [rrD, VV]
    clear hB B1
    subst hA
    simp only [rrD, fr_dyes f.c, fb, List.length_map, ixN_nat hx, VV1]
    have md : (x.dyes.map nD).set a (.int 0) = (x.dyes.set a 0).map nD := by rw [List.map_set]; rfl
    rw [md]
    have e : frPut h n { x with dyes := x.dyes.set a 0 } = h.set (n + 1) (O.lst ((x.dyes.set a 0).map nD)) := by
      unfold frPut dyO
      rw [show h.set n (hdO { x with dyes := x.dyes.set a 0 }) = h from set_same f.a]
      refine set_same ?_
      rw [List.getElem?_set_ne (by first | decide | omega)]; exact f.c
    rw [show chg x (.wash a) = { x with dyes := x.dyes.set a 0 } from rfl, e] at q
    exact q
  | iff a k =>
    (try dsimp only); refine if_intro fun A1 B1 hA hB => ?_
    simp only [rrD, VV]
    clear hA A1
    subst hB
    (try dsimp only); refine if_intro fun A1 B1 hA hB => ?_
    simp only [rrD, VV]
    clear hA A1
    subst hB
    (try dsimp only); refine if_intro fun A1 B1 hA hB => ?_
    simp only [rrD, VV]
    clear hA A1
    subst hB
    (try dsimp only); refine if_intro fun A1 B1 hA hB => ?_
    simp only [rrD, VV]
    clear hA A1
    subst hB
    simp only [VV]
    rw [show chg x (.iff a k) = x from rfl, f.same] at q
    exact q
  | to k =>
    (try dsimp only); refine if_intro fun A1 B1 hA hB => ?_
    simp only [rrD, VV]
    clear hA A1
    subst hB
    (try dsimp only); refine if_intro fun A1 B1 hA hB => ?_
    simp only [rrD, VV]
    clear hA A1
    subst hB
    (try dsimp only); refine if_intro fun A1 B1 hA hB => ?_
    simp only [rrD, VV]
    clear hA A1
    subst hB
    (try dsimp only); refine if_intro fun A1 B1 hA hB => ?_
    simp only [rrD, VV]
    clear hA A1
    subst hB
    simp only [VV]
    rw [show chg x (.to k) = x from rfl, f.same] at q
    exact q
theorem ok_change {f : Addr} {fd : FuncData} (F : Fun K "change" "change" s_change f fd) (T : Txt P w K mg) (C_Frame__put_value : CalM P w K mg base 1 "Frame" "put_value" ["self", "x", "value", "dye"] (spD K 4 S_Frame__put_value)) (C_reckoned : Cal P w K mg base 1 "reckoned" ["op", "y", "z"] (spD K 3 S_reckoned)) : FnOk P w K mg base CX0 2 f fd ["frame", "row"] (spD K 2 S_change) :=
  fn_ok (k := 1) (b := b_change) F sc_change (fun cdv A outer s H E hr => (ss_one (s_if (st_cmp (ok_eq hr.units) (se_ix ok_ix (sv 1) se_int (fun _ _ => rfl)) se_str (nomark _)) (ss_one (s_expr (se_meth C_Frame__put_value (hr.mono (by decide)) (sv 0) (sa_cons (se_ix ok_ix (sv 1) se_int (fun _ _ => rfl)) (sa_cons (se_ix ok_ix (sv 1) se_int (fun _ _ => rfl)) (sa_cons se_int sa_nil)))))) (ss_one (s_if (st_cmp (ok_eq hr.units) (se_ix ok_ix (sv 1) se_int (fun _ _ => rfl)) se_str (nomark _)) (ss_one (s_expr (se_meth C_Frame__put_value (hr.mono (by decide)) (sv 0) (sa_cons (se_ix ok_ix (sv 1) se_int (fun _ _ => rfl)) (sa_cons (se_ix ok_ix (se_fld T.f_held (sv 0)) (se_ix ok_ix (sv 1) se_int (fun _ _ => rfl)) (fun _ _ => rfl)) (sa_cons (se_ix ok_ix (se_fld T.f_dyes (sv 0)) (se_ix ok_ix (sv 1) se_int (fun _ _ => rfl)) (fun _ _ => rfl)) sa_nil)))))) (ss_one (s_if (st_cmp (ok_eq hr.units) (se_ix ok_ix (sv 1) se_int (fun _ _ => rfl)) se_str (nomark _)) (ss_cons (s_set (i := 2) sc_change.nd rfl (Or.inl rfl) (se_cal C_reckoned (hr.mono (by decide)) rfl (sa_cons (se_ix ok_ix (sv 1) se_int (fun _ _ => rfl)) (sa_cons (se_ix ok_ix (se_fld T.f_held (sv 0)) (se_ix ok_ix (sv 1) se_int (fun _ _ => rfl)) (fun _ _ => rfl)) (sa_cons (se_ix ok_ix (se_fld T.f_held (sv 0)) (se_ix ok_ix (sv 1) se_int (fun _ _ => rfl)) (fun _ _ => rfl)) sa_nil)))))
    (ss_one (s_expr (se_meth C_Frame__put_value (hr.mono (by decide)) (sv 0) (sa_cons (se_ix ok_ix (sv 1) se_int (fun _ _ => rfl)) (sa_cons (sv 2) (sa_cons (se_op ok_bor (se_ix ok_ix (se_fld T.f_dyes (sv 0)) (se_ix ok_ix (sv 1) se_int (fun _ _ => rfl)) (fun _ _ => rfl)) (se_ix ok_ix (se_fld T.f_dyes (sv 0)) (se_ix ok_ix (sv 1) se_int (fun _ _ => rfl)) (fun _ _ => rfl))) sa_nil))))))) (ss_one (s_if (st_w (sw_or (st_cmp (ok_eq hr.units) (se_ix ok_ix (sv 1) se_int (fun _ _ => rfl)) se_str (nomark _)) (sw_or1 (st_cmp (ok_eq hr.units) (se_ix ok_ix (sv 1) se_int (fun _ _ => rfl)) se_str (nomark _))))) (ss_one (s_asg (se_if (st_cmp (ok_eq hr.units) (se_ix ok_ix (sv 1) se_int (fun _ _ => rfl)) se_str (nomark _)) se_int se_int) (sg_subL (se_fld T.f_dyes (sv 0)) (se_ix ok_ix (sv 1) se_int (fun _ _ => rfl))))) ss_nil))))))))) imp_change
noncomputable def b__law_state : DS := (dSeq (dAsg (dCal S__law_cell (dCons (dVar 0) (dCons (dVar 1) dNil))) (dName 2))
    (dSeq (dAsg (dOp pGe (dCB pAbs (dCons (dVar 2) dNil)) (dOp pPow (dC (.int 10)) (dC (.int 18)))) (dName 3))
    (dRet (dTk (dCons (dOp pMulI (dCB pAbs (dCons (dVar 2) dNil)) (dCB pInt (dCons (dVar 3) dNil))) (dCons (dOp pMod (dOp pPlus (dOp pPlus (dOp pMulI (dVar 2) (dC (.int 48271))) (dOp pMulI (dC (.int 7919)) (dVar 1))) (dC (.int 11))) (dC (.int 2147483629))) (dCons (dVar 3) dNil)))))))
noncomputable def S__law_state : DSp := fun ds h Q => ∃ (ns : List Int) (k : Nat), ds = [.scr (ns.map .int), nD k] ∧ ns.length ≤ 63 ∧ (∀ x ∈ ns, Builtin.Int.intBits x ≤ 1048576) ∧ k ≤ 1000 ∧ ∀ (n s : Int) (b : Bool), 0 ≤ n → Q (.ref h.length) (h ++ [stO n s b])
theorem imp__law_state : ∀ ds h Q, S__law_state ds h Q → runD 4 b__law_state ds h Q := by
  rintro ds h Q ⟨ns, k, rfl, hl, hb, hk, q⟩
  simp only [runD, b__law_state, List.map_cons, List.map_nil, List.cons_append, List.nil_append, List.length_cons, List.length_nil, List.replicate, Nat.reduceSub, Nat.reduceAdd, Nat.zero_add, Nat.sub_self]
  (try dsimp only); refine seq_intro fun N hN => ?_
  simp only [VV]
  refine ⟨ns, k, rfl, hl, hb, hk, fun c hc => ?_⟩
  subst hN
  (try dsimp only); refine seq_intro fun N hN => ?_
  simp only [e10, VV]
  refine ⟨⟨by decide, by decide, by decide⟩, ?_⟩
  generalize decide ((1000000000000000000 : Int) ≤ if c < 0 then -c else c) = b
  subst hN
  simp only [VV]
  have hb01 : (if b = true then (1 : Int) else 0) = 0 ∨ (if b = true then (1 : Int) else 0) = 1 := by cases b <;> simp
  have ha : 0 ≤ (if c < 0 then -c else c) := by split <;> omega
  generalize (if b = true then (1 : Int) else 0) = bi at hb01
  generalize (if c < 0 then -c else c) = ca at ha
  have hn : 0 ≤ ca * bi := by rcases hb01 with e | e <;> rw [e] <;> omega
  refine ⟨mulS' (by first | decide | omega), mulS' (by decide), mulS (by decide), by decide, ?_⟩
  exact q _ _ b hn
theorem ok__law_state {f : Addr} {fd : FuncData} (F : Fun K "_law_state" "_law_state" s__law_state f fd) (T : Txt P w K mg) (C__law_cell : Cal P w K mg base 1 "_law_cell" ["_law_script", "_law_k"] (spD K 2 S__law_cell)) : FnOk P w K mg base CX0 2 f fd ["_law_script", "_law_k"] (spD K 2 S__law_state) :=
  fn_ok (k := 1) (b := b__law_state) F sc__law_state (fun cdv A outer s H E hr => (ss_cons (s_set (i := 2) sc__law_state.nd rfl (Or.inl rfl) (se_cal C__law_cell (hr.mono (by decide)) rfl (sa_cons (sv 0) (sa_cons (sv 1) sa_nil))))
    (ss_cons (s_set (i := 3) sc__law_state.nd rfl (Or.inl rfl) (se_cmp ok_ge (se_callB ok_abs rfl T.b_abs PyProof.Rows.boot_abs (sa_cons (sv 2) sa_nil)) (se_op ok_pow se_int se_int) (nomark _)))
    (ss_one (s_ret (se_t (sn_lst (sa_cons (se_op ok_timesI (se_callB ok_abs rfl T.b_abs PyProof.Rows.boot_abs (sa_cons (sv 2) sa_nil)) (se_callTy ok_int rfl T.b_int PyProof.Rows.boot_int (sa_cons (sv 3) sa_nil))) (sa_cons (se_op ok_mod (se_op ok_plus (se_op ok_plus (se_op ok_timesI (sv 2) se_int) (se_op ok_timesI se_int (sv 1))) se_int) se_int) (sa_cons (sv 3) sa_nil)))))))))) imp__law_state
noncomputable def b__law_kind : DS := (dSeq (dAsg (dV (dCons (dC (.str "number")) (dCons (dC (.str "copy")) (dCons (dC (.str "does")) (dCons (dC (.str "dye")) (dCons (dC (.str "wash")) (dCons (dC (.str "if")) (dCons (dC (.str "to")) (dCons (dC (.str "call")) (dCons (dC (.str "return")) dNil)))))))))) (dName 2))
    (dSeq (dIfS (dTst (dOp (pEq false) (dVar 1) (dC (.int 0)))) (dRet (dC (.str "to"))) dNext)
    (dSeq (dIfS (dNot (dTr (dOp pIx (dVar 0) (dC (.int 2))))) (dAsg (dOp pPlus (dVar 2) (dV (dCons (dC (.str "does")) (dCons (dC (.str "does")) (dCons (dC (.str "call")) (dCons (dC (.str "call")) (dCons (dC (.str "if")) (dCons (dC (.str "if")) (dCons (dC (.str "number")) (dCons (dC (.str "copy")) dNil)))))))))) (dName 2)) dNext)
    (dRet (dOp pIx (dVar 2) (dCal S__law_next (dCons (dVar 0) (dCons (dCB pLen (dCons (dVar 2) dNil)) dNil))))))))
noncomputable def S__law_kind : DSp := fun ds h Q => ∃ (i v : Nat) (n s : Int) (b : Bool), ds = [.ref i, nD v] ∧ h[i]? = some (stO n s b) ∧ 0 ≤ n ∧ ∀ (kd : Kd) (n' s' : Int), (v = 0 → kd = .to) → 0 ≤ n' → Q (.str kd.w) (h.set i (stO n' s' b))
theorem imp__law_kind : ∀ ds h Q, S__law_kind ds h Q → runD 3 b__law_kind ds h Q := by
  rintro ds h Q ⟨i, v, n, s, b, rfl, hi, n0, q⟩
  have hi2 : h[i]? = some (.lst [.int n, .int s, .bl b]) := hi
  simp only [runD, b__law_kind, List.map_cons, List.map_nil, List.cons_append, List.nil_append, List.length_cons, List.length_nil, List.replicate, Nat.reduceSub, Nat.reduceAdd, Nat.zero_add, Nat.sub_self]
  (try dsimp only); refine seq_intro fun N hN => ?_
  simp only [VV]
  subst hN
  (try dsimp only); refine seq_intro fun N hN => ?_
  by_cases z : v = 0
  · have e0 : ((v : Int) == 0) = true := by rw [z]; rfl
    simp only [e0, VV]
    have := q .to n s (fun _ => rfl) n0
    rw [set_same hi] at this
    exact this
  have e0 : ((v : Int) == 0) = false := beq_eq_false_iff_ne.mpr (by first | decide | omega)
  simp only [e0, VV]
  subst hN
  (try dsimp only); refine seq_intro fun N hN => ?_
  have q2 : ∀ kd : Kd, ∀ n' s' : Int, 0 ≤ n' → Q (.str kd.w) (h.set i (stO n' s' b)) := fun kd n' s' h' => q kd n' s' (fun e => absurd e z) h'
  cases b with
  | true =>
    simp only [ix_ls (lsOf_ref hi2), VV]
    subst hN
    simp only [VV]
    refine ⟨i, n, s, _, true, rfl, hi, n0, ⟨by decide, by decide⟩, fun n' s' r h' hr => ?_⟩
    obtain rfl | rfl | rfl | rfl | rfl | rfl | rfl | rfl | rfl : r = 0 ∨ r = 1 ∨ r = 2 ∨ r = 3 ∨ r = 4 ∨ r = 5 ∨ r = 6 ∨ r = 7 ∨ r = 8 := by first | decide | omega
    · exact q2 .num _ _ h'
    · exact q2 .cp _ _ h'
    · exact q2 .does _ _ h'
    · exact q2 .dye _ _ h'
    · exact q2 .wash _ _ h'
    · exact q2 .iff _ _ h'
    · exact q2 .to _ _ h'
    · exact q2 .call _ _ h'
    · exact q2 .ret _ _ h'
  | false =>
    simp only [ix_ls (lsOf_ref hi2), VV]
    refine ⟨by decide, ?_⟩
    subst hN
    simp only [VV]
    refine ⟨i, n, s, _, false, rfl, hi, n0, ⟨by decide, by decide⟩, fun n' s' r h' hr => ?_⟩
    have hr : r < 17 := by have : (r : Int) < 17 := hr; omega
    obtain rfl | rfl | rfl | rfl | rfl | rfl | rfl | rfl | rfl | rfl | rfl | rfl | rfl | rfl | rfl | rfl | rfl : r = 0 ∨ r = 1 ∨ r = 2 ∨ r = 3 ∨ r = 4 ∨ r = 5 ∨ r = 6 ∨ r = 7 ∨ r = 8 ∨ r = 9 ∨ r = 10 ∨ r = 11 ∨ r = 12 ∨ r = 13 ∨ r = 14 ∨ r = 15 ∨ r = 16 := by first | decide | omega
    · exact q2 .num _ _ h'
    · exact q2 .cp _ _ h'
    · exact q2 .does _ _ h'
    · exact q2 .dye _ _ h'
    · exact q2 .wash _ _ h'
    · exact q2 .iff _ _ h'
    · exact q2 .to _ _ h'
    · exact q2 .call _ _ h'
    · exact q2 .ret _ _ h'
    · exact q2 .does _ _ h'
    · exact q2 .does _ _ h'
    · exact q2 .call _ _ h'
    · exact q2 .call _ _ h'
    · exact q2 .iff _ _ h'
    · exact q2 .iff _ _ h'
    · exact q2 .num _ _ h'
    · exact q2 .cp _ _ h'
theorem ok__law_kind {f : Addr} {fd : FuncData} (F : Fun K "_law_kind" "_law_kind" s__law_kind f fd) (T : Txt P w K mg) (C__law_next : Cal P w K mg base 1 "_law_next" ["_law_state_here", "_law_many"] (spD K 2 S__law_next)) : FnOk P w K mg base CX0 2 f fd ["_law_state_here", "_law_v"] (spD K 2 S__law_kind) :=
  fn_ok (k := 1) (b := b__law_kind) F sc__law_kind (fun cdv A outer s H E hr => (ss_cons (s_set (i := 2) sc__law_kind.nd rfl (Or.inl rfl) (se_v (sn_lst (sa_cons se_str (sa_cons se_str (sa_cons se_str (sa_cons se_str (sa_cons se_str (sa_cons se_str (sa_cons se_str (sa_cons se_str (sa_cons se_str sa_nil))))))))))))
    (ss_cons (s_if (st_cmp (ok_eq hr.units) (sv 1) se_int (nomark _)) (ss_one (s_ret se_str)) ss_nil)
    (ss_cons (s_if (st_not (st_truth (se_ix ok_ix (sv 0) se_int (fun _ _ => rfl)))) (ss_one (s_set (i := 2) sc__law_kind.nd rfl (Or.inl rfl) (se_op ok_plus (sv 2) (se_v (sn_lst (sa_cons se_str (sa_cons se_str (sa_cons se_str (sa_cons se_str (sa_cons se_str (sa_cons se_str (sa_cons se_str (sa_cons se_str sa_nil))))))))))))) ss_nil)
    (ss_one (s_ret (se_ix ok_ix (sv 2) (se_cal C__law_next (hr.mono (by decide)) rfl (sa_cons (sv 0) (sa_cons (se_callB ok_len rfl T.b_len PySem.boot_len (sa_cons (sv 2) sa_nil)) sa_nil))) (fun _ _ => rfl)))))))) imp__law_kind
noncomputable def b__law_row : DS := (dSeq (dIfS (dTst (dOp (pEq false) (dVar 1) (dC (.str "to")))) (dRet (dTup (dCons (dC (.str "to")) (dCons (dCal S__law_next (dCons (dVar 0) (dCons (dVar 4) dNil))) dNil)))) dNext)
    (dSeq (dAsg (dCal S__law_next (dCons (dVar 0) (dCons (dVar 2) dNil))) (dName 5))
    (dSeq (dIfS (dTst (dOp (pEq false) (dVar 1) (dC (.str "number")))) (dRet (dTup (dCons (dC (.str "number")) (dCons (dVar 5) (dCons (dCal S__law_next (dCons (dVar 0) (dCons (dOp pIx (dV (dCons (dC (.int 4)) (dCons (dOp pPow (dC (.int 10)) (dC (.int 18))) dNil))) (dCal S__law_next (dCons (dVar 0) (dCons (dC (.int 2)) dNil)))) dNil))) dNil))))) dNext)
    (dSeq (dIfS (dTst (dOp (pEq false) (dVar 1) (dC (.str "copy")))) (dRet (dTup (dCons (dC (.str "copy")) (dCons (dVar 5) (dCons (dCal S__law_next (dCons (dVar 0) (dCons (dVar 2) dNil))) dNil))))) dNext)
    (dSeq (dIfS (dTst (dOp (pEq false) (dVar 1) (dC (.str "does")))) (dRet (dTup (dCons (dC (.str "does")) (dCons (dVar 5) (dCons (dOp pIx (dC (.str "+-*")) (dCal S__law_next (dCons (dVar 0) (dCons (dC (.int 3)) dNil)))) (dCons (dCal S__law_next (dCons (dVar 0) (dCons (dVar 2) dNil))) (dCons (dCal S__law_next (dCons (dVar 0) (dCons (dVar 2) dNil))) dNil))))))) dNext)
    (dSeq (dIfS (dTst (dOp (pEq false) (dVar 1) (dC (.str "if")))) (dRet (dTup (dCons (dC (.str "if")) (dCons (dVar 5) (dCons (dCal S__law_next (dCons (dVar 0) (dCons (dVar 4) dNil))) dNil))))) dNext)
    (dSeq (dIfS (dTst (dOp (pEq false) (dVar 1) (dC (.str "call")))) (dSeq (dAsg (dCal S__law_next (dCons (dVar 0) (dCons (dCB pLen (dCons (dVar 3) dNil)) dNil))) (dName 6))
    (dRet (dTup (dCons (dC (.str "call")) (dCons (dVar 5) (dCons (dVar 6) (dCons (dCB pTuple (dCons (dV (dComp [none, some 0, some 2] (dIRange (dCons (dOp pIx (dOp pIx (dVar 3) (dVar 6)) (dC (.int 0))) dNil)) (dName 0) dNoIf (dCal S__law_next (dCons (dVar 1) (dCons (dVar 2) dNil))))) dNil)) dNil))))))) dNext)
    (dRet (dTup (dCons (dVar 1) (dCons (dVar 5) dNil)))))))))))
noncomputable def S__law_row : DSp := fun ds h Q => ∃ (i v m : Nat) (n s : Int) (b : Bool) (kd : Kd) (hs : List (Nat × Nat)), ds = [.ref i, .str kd.w, nD v, .lst (hs.map hdD), .int m] ∧ h[i]? = some (stO n s b) ∧ 0 ≤ n ∧ (v = 0 → kd = .to) ∧ (0 < m ∧ m ≤ 100) ∧ v ≤ 4 ∧ (∀ y ∈ hs, y.1 ≤ 4) ∧ (1 ≤ hs.length ∧ hs.length ≤ 6) ∧ ∀ (r : Rw) (n' s' : Int), rowOk hs v m r → 0 ≤ n' → Q (rrD r) (h.set i (stO n' s' b))
theorem imp__law_row : ∀ ds h Q, S__law_row ds h Q → runD 7 b__law_row ds h Q := by
  rintro ds h Q ⟨i, v, m, n, s, b, kd, hs, rfl, hi, n0, v0, ⟨m0, m100⟩, v4, g4, ⟨h1, h6⟩, q⟩
  have hil : i < h.length := (List.getElem?_eq_some_iff.mp hi).1
  have nx0 : ∀ (m : Int) (Q' : DK), (0 < m ∧ m ≤ 1000000000000000000) → (∀ (n' s' : Int) (r : Nat), 0 ≤ n' → (r : Int) < m → Q' (nD r) (h.set i (stO n' s' b))) → S__law_next [.ref i, .int m] h Q' := fun m Q' hm k => ⟨i, n, s, m, b, rfl, hi, n0, hm, k⟩
  have nx : ∀ (n1 s1 m : Int) (Q' : DK), 0 ≤ n1 → (0 < m ∧ m ≤ 1000000000000000000) → (∀ (n' s' : Int) (r : Nat), 0 ≤ n' → (r : Int) < m → Q' (nD r) (h.set i (stO n' s' b))) → S__law_next [.ref i, .int m] (h.set i (stO n1 s1 b)) Q' := fun n1 s1 m Q' h1 hm k => ⟨i, n1, s1, m, b, rfl, List.getElem?_set_self hil, h1, hm, fun n' s' r a b => by rw [List.set_set]; exact k n' s' r a b⟩
  simp only [runD, b__law_row, List.map_cons, List.map_nil, List.cons_append, List.nil_append, List.length_cons, List.length_nil, List.replicate, Nat.reduceSub, Nat.reduceAdd, Nat.zero_add, Nat.sub_self]
  (try dsimp only); refine seq_intro fun N hN => ?_
  by_cases kt : kd = .to
  · subst kt
    simp only [Kd.w, VV]
    exact nx0 _ _ ⟨by first | decide | omega, by first | decide | omega⟩ fun n' s' r h' hr => q (.to r) n' s' (show r < m by first | decide | omega) h'
  have vp : 0 < v := by
    rcases Nat.eq_zero_or_pos v with z | z
    · exact absurd (v0 z) kt
    · exact z
  cases kd with
  | to => exact absurd rfl kt
  | num =>
    simp only [Kd.w, VV]
    subst hN
    (try dsimp only); refine seq_intro fun N hN => ?_
    simp only [VV]
    refine nx0 _ _ ⟨by first | decide | omega, by first | decide | omega⟩ fun n1 s1 x h1' hx => ?_
    subst hN
    (try dsimp only); refine seq_intro fun N hN => ?_
    simp only [Kd.w, e10, VV]
    refine ⟨⟨by decide, by decide, by decide⟩, ?_⟩
    refine nx _ _ _ _ h1' ⟨by decide, by decide⟩ fun n2 s2 c h2 hc => ?_
    have pick : ∃ k : Int, atI [D.int 4, D.int 1000000000000000000] (c : Int) = some (.int k) ∧ 0 < k ∧ k ≤ 1000000000000000000 := by
      obtain rfl | rfl : c = 0 ∨ c = 1 := by first | decide | omega
      · exact ⟨4, rfl, by decide, by decide⟩
      · exact ⟨1000000000000000000, rfl, by decide, by decide⟩
    obtain ⟨k, ek, k0, k1⟩ := pick
    simp only [ek, VV]
    exact nx _ _ _ _ h2 ⟨k0, k1⟩ fun n3 s3 r h3 hr => q (.num x r) n3 s3 ⟨by first | decide | omega, by first | decide | omega, by first | decide | omega⟩ h3
  | cp =>
    simp only [Kd.w, VV]
    subst hN
    (try dsimp only); refine seq_intro fun N hN => ?_
    simp only [VV]
    refine nx0 _ _ ⟨by first | decide | omega, by first | decide | omega⟩ fun n1 s1 x h1' hx => ?_
    subst hN
    (try dsimp only); refine seq_intro fun N hN => ?_
    simp only [Kd.w, VV]
    subst hN
    (try dsimp only); refine seq_intro fun N hN => ?_
    simp only [Kd.w, VV]
    exact nx _ _ _ _ h1' ⟨by first | decide | omega, by first | decide | omega⟩ fun n3 s3 r h3 hr => q (.cp x r) n3 s3 ⟨by first | decide | omega, by first | decide | omega⟩ h3
  | does =>
    simp only [Kd.w, VV]
    subst hN
    (try dsimp only); refine seq_intro fun N hN => ?_
    simp only [VV]
    refine nx0 _ _ ⟨by first | decide | omega, by first | decide | omega⟩ fun n1 s1 x h1' hx => ?_
    subst hN
    (try dsimp only); refine seq_intro fun N hN => ?_
    simp only [Kd.w, VV]
    subst hN
    (try dsimp only); refine seq_intro fun N hN => ?_
    simp only [Kd.w, VV]
    subst hN
    (try dsimp only); refine seq_intro fun N hN => ?_
    simp only [Kd.w, VV]
    refine nx _ _ _ _ h1' ⟨by decide, by decide⟩ fun n2 s2 c h2 hc => ?_
    have pick : ∃ o : Op3, ∀ h0 : Hh, ixD h0 (.str (Str.ofString "+-*")) (nD c) = some (.str o.s) := by
      obtain rfl | rfl | rfl : c = 0 ∨ c = 1 ∨ c = 2 := by first | decide | omega
      · exact ⟨.add, fun _ => rfl⟩
      · exact ⟨.sub, fun _ => rfl⟩
      · exact ⟨.mul, fun _ => rfl⟩
    obtain ⟨o, eo⟩ := pick
    simp only [eo, VV]
    refine nx _ _ _ _ h2 ⟨by first | decide | omega, by first | decide | omega⟩ fun n3 s3 y h3 hy => ?_
    exact nx _ _ _ _ h3 ⟨by first | decide | omega, by first | decide | omega⟩ fun n4 s4 z h4 hz => q (.does x o y z) n4 s4 ⟨by first | decide | omega, by first | decide | omega, by first | decide | omega⟩ h4
  | dye =>
    simp only [Kd.w, VV]
    subst hN
    (try dsimp only); refine seq_intro fun N hN => ?_
    simp only [VV]
    refine nx0 _ _ ⟨by first | decide | omega, by first | decide | omega⟩ fun n1 s1 x h1' hx => ?_
    subst hN
    (try dsimp only); refine seq_intro fun N hN => ?_
    simp only [Kd.w, VV]
    subst hN
    (try dsimp only); refine seq_intro fun N hN => ?_
    simp only [Kd.w, VV]
    subst hN
    (try dsimp only); refine seq_intro fun N hN => ?_
    simp only [Kd.w, VV]
    subst hN
    (try dsimp only); refine seq_intro fun N hN => ?_
    simp only [Kd.w, VV]
    subst hN
    (try dsimp only); refine seq_intro fun N hN => ?_
    simp only [Kd.w, VV]
    subst hN
    simp only [VV]
    exact q (.dye x) n1 s1 (show x < v by first | decide | omega) h1'
  | wash =>
    simp only [Kd.w, VV]
    subst hN
    (try dsimp only); refine seq_intro fun N hN => ?_
    simp only [VV]
    refine nx0 _ _ ⟨by first | decide | omega, by first | decide | omega⟩ fun n1 s1 x h1' hx => ?_
    subst hN
    (try dsimp only); refine seq_intro fun N hN => ?_
    simp only [Kd.w, VV]
    subst hN
    (try dsimp only); refine seq_intro fun N hN => ?_
    simp only [Kd.w, VV]
    subst hN
    (try dsimp only); refine seq_intro fun N hN => ?_
    simp only [Kd.w, VV]
    subst hN
    (try dsimp only); refine seq_intro fun N hN => ?_
    simp only [Kd.w, VV]
    subst hN
    (try dsimp only); refine seq_intro fun N hN => ?_
    simp only [Kd.w, VV]
    subst hN
    simp only [VV]
    exact q (.wash x) n1 s1 (show x < v by first | decide | omega) h1'
  | ret =>
    simp only [Kd.w, VV]
    subst hN
    (try dsimp only); refine seq_intro fun N hN => ?_
    simp only [VV]
    refine nx0 _ _ ⟨by first | decide | omega, by first | decide | omega⟩ fun n1 s1 x h1' hx => ?_
    subst hN
    (try dsimp only); refine seq_intro fun N hN => ?_
    simp only [Kd.w, VV]
    subst hN
    (try dsimp only); refine seq_intro fun N hN => ?_
    simp only [Kd.w, VV]
    subst hN
    (try dsimp only); refine seq_intro fun N hN => ?_
    simp only [Kd.w, VV]
    subst hN
    (try dsimp only); refine seq_intro fun N hN => ?_
    simp only [Kd.w, VV]
    subst hN
    (try dsimp only); refine seq_intro fun N hN => ?_
    simp only [Kd.w, VV]
    subst hN
    simp only [VV]
    exact q (.ret x) n1 s1 (show x < v by first | decide | omega) h1'
  | iff =>
    simp only [Kd.w, VV]
    subst hN
    (try dsimp only); refine seq_intro fun N hN => ?_
    simp only [VV]
    refine nx0 _ _ ⟨by first | decide | omega, by first | decide | omega⟩ fun n1 s1 x h1' hx => ?_
    subst hN
    (try dsimp only); refine seq_intro fun N hN => ?_
    simp only [Kd.w, VV]
    subst hN
    (try dsimp only); refine seq_intro fun N hN => ?_
    simp only [Kd.w, VV]
    subst hN
    (try dsimp only); refine seq_intro fun N hN => ?_
    simp only [Kd.w, VV]
    subst hN
    (try dsimp only); refine seq_intro fun N hN => ?_
    simp only [Kd.w, VV]
    exact nx _ _ _ _ h1' ⟨by first | decide | omega, by first | decide | omega⟩ fun n3 s3 r h3 hr => q (.iff x r) n3 s3 ⟨by first | decide | omega, by first | decide | omega⟩ h3
  | call =>
    simp only [Kd.w, VV]
    subst hN
    (try dsimp only); refine seq_intro fun N hN => ?_
    simp only [VV]
    refine nx0 _ _ ⟨by first | decide | omega, by first | decide | omega⟩ fun n1 s1 x h1' hx => ?_
    subst hN
    (try dsimp only); refine seq_intro fun N hN => ?_
    simp only [Kd.w, VV]
    subst hN
    (try dsimp only); refine seq_intro fun N hN => ?_
    simp only [Kd.w, VV]
    subst hN
    (try dsimp only); refine seq_intro fun N hN => ?_
    simp only [Kd.w, VV]
    subst hN
    (try dsimp only); refine seq_intro fun N hN => ?_
    simp only [Kd.w, VV]
    subst hN
    (try dsimp only); refine seq_intro fun N hN => ?_
    simp only [Kd.w, VV]
    (try dsimp only); refine seq_intro fun N2 hN2 => ?_
    simp only [List.length_map, VV]
    refine nx _ _ _ _ h1' ⟨by first | decide | omega, by first | decide | omega⟩ fun n2 s2 g h2 hg => ?_
    have hg : g < hs.length := by first | decide | omega
    have gix : atI (hs.map hdD) (g : Int) = some (.tup [nD hs[g].1, nD hs[g].2]) := by rw [atN, List.getElem?_map, List.getElem?_eq_getElem hg]; rfl
    have hg4 := g4 _ (List.getElem_mem hg)
    subst hN2
    simp only [gix, VV]
    refine ⟨⟨by first | decide | omega, by first | decide | omega⟩, by rw [rangeD_length]; omega, ?_⟩
    rw [rangeD_map, Int.toNat_natCast]
    refine compL_map (fun p a δ h' => (∃ n' s' : Int, h' = h.set i (stO n' s' b) ∧ 0 ≤ n') ∧ (∃ o, δ = [o, some (.ref i), some (nD v)]) ∧ ∃ xs : List Nat, a = xs.map nD ∧ xs.length = p.length ∧ ∀ x ∈ xs, x < v) ⟨⟨_, _, rfl, h2⟩, ⟨_, rfl⟩, [], rfl, rfl, (fun _ z => nomatch z)⟩ (fun _ _ _ _ _ => Src.ok_nil) ?_ ?_
    · rintro p y r acc δ h' N e ⟨⟨n', s', rfl, hn'⟩, ⟨o, rfl⟩, xs, rfl, lx, hx'⟩ hN
      simp only [VV]
      refine nx _ _ _ _ hn' ⟨by first | decide | omega, by first | decide | omega⟩ fun n4 s4 r h4 hr => ?_
      refine hN _ _ _ ⟨⟨_, _, rfl, h4⟩, ⟨_, rfl⟩, xs ++ [r], by rw [List.map_append]; rfl, by simp [lx], fun x hx2 => ?_⟩
      rcases List.mem_append.mp hx2 with z | z
      · exact hx' x z
      · rw [List.mem_singleton.mp z]; omega
    · rintro a δ h' ⟨⟨n', s', rfl, hn'⟩, _, xs, rfl, lx, hx'⟩
      exact q (.call x g xs) n' s' ⟨by first | decide | omega, _, List.getElem?_eq_getElem hg, by rw [lx, List.length_range], hx'⟩ hn'
theorem ok__law_row {f : Addr} {fd : FuncData} (F : Fun K "_law_row" "_law_row" s__law_row f fd) (T : Txt P w K mg) (C__law_next : Cal P w K mg base 1 "_law_next" ["_law_state_here", "_law_many"] (spD K 2 S__law_next)) : FnOk P w K mg base CX0 2 f fd ["_law_state_here", "_law_kind_here", "_law_v", "_law_heads_here", "_law_many"] (spD K 5 S__law_row) :=
  fn_ok (k := 1) (b := b__law_row) F sc__law_row (fun cdv A outer s H E hr => (ss_cons (s_if (st_cmp (ok_eq hr.units) (sv 1) se_str (nomark _)) (ss_one (s_ret (se_tup (sa_cons se_str (sa_cons (se_cal C__law_next (hr.mono (by decide)) rfl (sa_cons (sv 0) (sa_cons (sv 4) sa_nil))) sa_nil))))) ss_nil)
    (ss_cons (s_set (i := 5) sc__law_row.nd rfl (Or.inl rfl) (se_cal C__law_next (hr.mono (by decide)) rfl (sa_cons (sv 0) (sa_cons (sv 2) sa_nil))))
    (ss_cons (s_if (st_cmp (ok_eq hr.units) (sv 1) se_str (nomark _)) (ss_one (s_ret (se_tup (sa_cons se_str (sa_cons (sv 5) (sa_cons (se_cal C__law_next (hr.mono (by decide)) rfl (sa_cons (sv 0) (sa_cons (se_ix ok_ix (se_v (sn_lst (sa_cons se_int (sa_cons (se_op ok_pow se_int se_int) sa_nil)))) (se_cal C__law_next (hr.mono (by decide)) rfl (sa_cons (sv 0) (sa_cons se_int sa_nil))) (fun _ _ => rfl)) sa_nil))) sa_nil)))))) ss_nil)
    (ss_cons (s_if (st_cmp (ok_eq hr.units) (sv 1) se_str (nomark _)) (ss_one (s_ret (se_tup (sa_cons se_str (sa_cons (sv 5) (sa_cons (se_cal C__law_next (hr.mono (by decide)) rfl (sa_cons (sv 0) (sa_cons (sv 2) sa_nil))) sa_nil)))))) ss_nil)
    (ss_cons (s_if (st_cmp (ok_eq hr.units) (sv 1) se_str (nomark _)) (ss_one (s_ret (se_tup (sa_cons se_str (sa_cons (sv 5) (sa_cons (se_ix ok_ix se_str (se_cal C__law_next (hr.mono (by decide)) rfl (sa_cons (sv 0) (sa_cons se_int sa_nil))) (fun _ _ => rfl)) (sa_cons (se_cal C__law_next (hr.mono (by decide)) rfl (sa_cons (sv 0) (sa_cons (sv 2) sa_nil))) (sa_cons (se_cal C__law_next (hr.mono (by decide)) rfl (sa_cons (sv 0) (sa_cons (sv 2) sa_nil))) sa_nil)))))))) ss_nil)
    (ss_cons (s_if (st_cmp (ok_eq hr.units) (sv 1) se_str (nomark _)) (ss_one (s_ret (se_tup (sa_cons se_str (sa_cons (sv 5) (sa_cons (se_cal C__law_next (hr.mono (by decide)) rfl (sa_cons (sv 0) (sa_cons (sv 4) sa_nil))) sa_nil)))))) ss_nil)
    (ss_cons (s_if (st_cmp (ok_eq hr.units) (sv 1) se_str (nomark _)) (ss_cons (s_set (i := 6) sc__law_row.nd rfl (Or.inl rfl) (se_cal C__law_next (hr.mono (by decide)) rfl (sa_cons (sv 0) (sa_cons (se_callB ok_len rfl T.b_len PySem.boot_len (sa_cons (sv 3) sa_nil)) sa_nil))))
    (ss_one (s_ret (se_tup (sa_cons se_str (sa_cons (sv 5) (sa_cons (sv 6) (sa_cons (se_callTy ok_tuple rfl T.b_tuple PyProof.Rows.boot_tuple (sa_cons (se_v (sn_comp rfl (N' := ["_law_k", "_law_state_here", "_law_v"]) (js := [none, some 0, some 2]) ⟨rfl, by decide +kernel, rfl, rfl, rfl⟩ (si_range1 rfl T.b_range (sa_cons (se_ix ok_ix (se_ix ok_ix (sv 3) (sv 6) (fun _ _ => rfl)) se_int (fun _ _ => rfl)) sa_nil)) (fun s0 H0 fp => ⟨(sg_name (i := 0) (show (["_law_k", "_law_state_here", "_law_v"] : List Str).Nodup by decide +kernel) rfl (Or.inl rfl)), sf_nil, (se_cal C__law_next (hr.mono (by decide)) rfl (sa_cons (sv 1) (sa_cons (sv 2) sa_nil)))⟩))) sa_nil)) sa_nil)))))))) ss_nil)
    (ss_one (s_ret (se_tup (sa_cons (sv 1) (sa_cons (sv 5) sa_nil))))))))))))) imp__law_row
noncomputable def b_Runner__give_back : DS := (dSeq (dAsg (dPop (dUn (pFld "Runner" "frames") (dVar 0))) (dName 2))
    (dSeq (dAsg (dOp pIx (dUn (pFld "Runner" "program") (dVar 0)) (dUn (pFld "Frame" "function") (dVar 2))) (dName 3))
    (dSeq (dAsg (dOp pPlus (dC (.int 1)) (dCB pLen (dCons (dOp pIx (dVar 3) (dC (.int 2))) dNil))) (dName 4))
    (dSeq (dDrop (dAppend (dUn (pFld "Runner" "states") (dVar 0)) (dCons (dTup (dCons (dUn (pFld "Runner" "steps") (dVar 0)) (dCons (dUn (pFld "Frame" "function") (dVar 2)) (dCons (dCB pLen (dCons (dOp pIx (dVar 3) (dC (.int 3))) dNil)) (dCons (dOp pBor (dC (.int 1)) (dOp pShl (dOp pIx (dUn (pFld "Frame" "dyes") (dVar 2)) (dVar 1)) (dVar 4))) dNil))))) dNil)))
    (dSeq (dIfS (dTst (dOp (pEq false) (dCB pLen (dCons (dUn (pFld "Runner" "frames") (dVar 0)) dNil)) (dC (.int 0)))) (dRet (dTup (dCons (dC (.str "done")) (dCons (dOp pIx (dUn (pFld "Frame" "held") (dVar 2)) (dVar 1)) dNil)))) dNext)
    (dSeq (dAsg (dOp pIx (dUn (pFld "Runner" "frames") (dVar 0)) (dUn pNeg (dC (.int 1)))) (dName 5))
    (dSeq (dAsg (dOp pIx (dOp pIx (dOp pIx (dUn (pFld "Runner" "program") (dVar 0)) (dUn (pFld "Frame" "function") (dVar 5))) (dC (.int 3))) (dUn (pFld "Frame" "place") (dVar 5))) (dName 6))
    (dSeq (dDrop (dMeth "Frame" "put_value" S_Frame__put_value (dVar 5) (dCons (dOp pIx (dVar 6) (dC (.int 1))) (dCons (dOp pIx (dUn (pFld "Frame" "held") (dVar 2)) (dVar 1)) (dCons (dOp pIx (dUn (pFld "Frame" "dyes") (dVar 2)) (dVar 1)) dNil)))))
    (dSeq (dDrop (dMeth "Runner" "come_to" S_Runner__come_to (dVar 0) (dCons (dOp pPlus (dUn (pFld "Frame" "place") (dVar 5)) (dC (.int 1))) dNil)))
    (dRet (dC .non)))))))))))
noncomputable def S_Runner__give_back : DSp := fun ds h Q => ∃ (P : Prog) (r k n a : Nat) (x : Fr) (fs : List (Nat × Fr)) (es : List E4) (F : PF), ds = [.ref r, nD a] ∧ WFP P ∧ RAt P h r k ((n, x) :: fs) es ∧ P[x.f]? = some F ∧ FrOk P x ∧ a < F.vars.length ∧ (∀ c ∈ fs.map (·.2), FrOk P c ∧ waits P c) ∧ es.length ≤ 5000 ∧ fs.length ≤ 10000 ∧
  (fs = [] → ∀ h', RAt P h' r k [] (es ++ [(k, back x F a)]) → Kp r h h' → Q (.tup [.str "done", .int (hl x a)]) h') ∧
  (∀ m c fs' F' b g as, fs = (m, c) :: fs' → rowAt P c = some (F', .call b g as) → ∀ h', RAt P h' r k ((m, given c b (hl x a) (dy x a)) :: fs') (es ++ [(k, back x F a), (k, ent (given c b (hl x a) (dy x a)))]) → Kp r h h' → Q .non h')
theorem imp_Runner__give_back : ∀ ds h Q, S_Runner__give_back ds h Q → runD 7 b_Runner__give_back ds h Q := by
  rintro ds h Q ⟨P, r, k, n, a, x, fs, es, F, rfl, wf, R, hF, ok, ha, rest, eb, fb, q0, q1⟩
  have rl := R.lt
  obtain ⟨f, hn⟩ := R.fa (n, x) List.mem_cons_self
  have hn : r + 3 ≤ n := hn
  obtain ⟨F', hF', hxp, h1, h2⟩ := ok.ex
  rw [hF] at hF'; cases hF'
  have la : (((n, x) :: fs).reverse.map fun y : Nat × Fr => D.ref (y.1 + 2))[(((n, x) :: fs).reverse.map fun y : Nat × Fr => D.ref (y.1 + 2)).length - 1]? = some (.ref (n + 2)) := by
    rw [List.reverse_cons, List.map_append]; simp
  have lb : (((n, x) :: fs).reverse.map fun y : Nat × Fr => D.ref (y.1 + 2)).dropLast = fs.reverse.map fun y : Nat × Fr => D.ref (y.1 + 2) := by
    rw [List.reverse_cons, List.map_append]; exact List.dropLast_concat
  have R1 := R.pop
  simp only [runD, b_Runner__give_back, List.map_cons, List.map_nil, List.cons_append, List.nil_append, List.length_cons, List.length_nil, List.replicate, Nat.reduceSub, Nat.reduceAdd, Nat.zero_add, Nat.sub_self]
  (try dsimp only); refine seq_intro fun N hN => ?_
  simp only [rn_frames R.o, R.fr, la, lb, VV1]
  have f1 : FAt (h.set (r + 1) (.lst (fs.reverse.map fun y : Nat × Fr => .ref (y.1 + 2)))) n x := f.far (by first | decide | omega)
  have k1 : Kp r h (h.set (r + 1) (.lst (fs.reverse.map fun y : Nat × Fr => .ref (y.1 + 2)))) := Kp.set (by first | decide | omega) (by first | decide | omega)
  have rl1 := R1.lt
  generalize h.set (r + 1) (.lst (fs.reverse.map fun y : Nat × Fr => .ref (y.1 + 2))) = h1' at R1 f1 k1 rl1
  subst hN
  (try dsimp only); refine seq_intro fun N hN => ?_
  simp only [rn_program R1.o, fr_function f1.c, pr_ix h1' hF, VV1]
  subst hN
  (try dsimp only); refine seq_intro fun N hN => ?_
  simp only [List.length_map, VV]
  subst hN
  (try dsimp only); refine seq_intro fun N hN => ?_
  have fb1 : h1'[n + 1]? = some (.lst (x.dyes.map nD)) := f1.b
  have fa1 : h1'[n]? = some (.lst (x.held.map D.int)) := f1.a
  simp only [rn_states R1.o, rn_steps R1.o, fr_function f1.c, fr_dyes f1.c, R1.st, List.length_map, ix_ls (lsOf_ref fb1), dy_ix (show a < x.dyes.length by first | decide | omega), VV1]
  have dd := ok.dy (show a < x.dyes.length by first | decide | omega)
  obtain ⟨_, v4, _⟩ := wf.fn _ F hF
  refine ⟨⟨by first | decide | omega, by first | decide | omega, by first | decide | omega⟩, by first | decide | omega, ?_⟩
  have t : (dy x a : Int) * 2 ^ (1 + (F.vars.length : Int)).toNat = ((dy x a * 2 ^ (1 + F.vars.length) : Nat) : Int) := by
    rw [show (1 + (F.vars.length : Int)).toNat = 1 + F.vars.length by first | decide | omega, Int.natCast_mul, Int.natCast_pow]; rfl
  have bo : Builtin.bitOr 1 ((dy x a * 2 ^ (1 + F.vars.length) : Nat) : Int) = ((1 + dy x a * 2 ^ (1 + F.vars.length) : Nat) : Int) := by
    have := bor_nat 1 (dy x a * 2 ^ (1 + F.vars.length))
    rw [or_add (by rw [Nat.pow_add]; have := Nat.two_pow_pos F.vars.length; omega)] at this
    exact this
  rw [t, bo]
  have en : es.map stD ++ [.tup [nD k, nD x.f, .int (F.rows.length : Int), .int ((1 + dy x a * 2 ^ (1 + F.vars.length) : Nat) : Int)]] = (es ++ [(k, back x F a)]).map stD := by rw [List.map_append]; rfl
  rw [en]
  have R2 := R1.state (es ++ [(k, back x F a)])
  have f2 : FAt (h1'.set (r + 2) (.lst ((es ++ [(k, back x F a)]).map stD))) n x := f1.far (by first | decide | omega)
  have k2 : Kp r h (h1'.set (r + 2) (.lst ((es ++ [(k, back x F a)]).map stD))) := k1.trans (Kp.set (by first | decide | omega) (by first | decide | omega))
  clear bo t en fb1 fa1 f1 R1 la lb R f k1
  generalize h1'.set (r + 2) (.lst ((es ++ [(k, back x F a)]).map stD)) = h2' at R2 f2 k2
  have rl2 := R2.lt
  have fb2 : h2'[n + 1]? = some (.lst (x.dyes.map nD)) := f2.b
  have fa2 : h2'[n]? = some (.lst (x.held.map D.int)) := f2.a
  subst hN
  (try dsimp only); refine seq_intro fun N hN => ?_
  simp only [rn_frames R2.o, len_ls (lsOf_ref R2.fr), List.length_map, List.length_reverse, VV1]
  cases fs with
  | nil =>
    simp only [fr_held f2.c, ix_ls (lsOf_ref fa2), hl_ix (show a < x.held.length by first | decide | omega), VV1]
    exact q0 rfl h2' R2 k2
  | cons y fs' =>
    obtain ⟨m, c⟩ := y
    obtain ⟨okc, Fc, b, g, as, hrow⟩ := rest c (by simp)
    have hd : ((((m, c) :: fs').length : Int) == 0) = false := beq_eq_false_iff_ne.mpr (by rw [List.length_cons]; omega)
    rw [List.length_cons] at hd
    simp only [hd, VV]
    obtain ⟨fc, hm⟩ := R2.fa (m, c) List.mem_cons_self
    have hm : r + 3 ≤ m := hm
    have la : atI (((m, c) :: fs').reverse.map fun y : Nat × Fr => D.ref (y.1 + 2)) (-1) = some (.ref (m + 2)) := by rw [List.reverse_cons, List.map_append]; exact atLast _ _
    obtain ⟨hFc, hrc⟩ := rowAt_inv hrow
    obtain ⟨Fc', hFc', hcp, c1, c2⟩ := okc.ex
    rw [hFc] at hFc'; cases hFc'
    obtain ⟨_, cv4, _, _, rok, _⟩ := wf.fn _ Fc hFc
    obtain ⟨hb, _⟩ := rok _ (List.mem_of_getElem? hrc)
    have ri : atI (Fc.rows.map rrD) (c.p : Int) = some (.tup [.str "call", nD b, nD g, .tup (as.map nD)]) := by rw [atN, List.getElem?_map, hrc]; rfl
    subst hN
    (try dsimp only); refine seq_intro fun N hN => ?_
    simp only [rn_frames R2.o, ix_ls (lsOf_ref R2.fr), la, VV1]
    subst hN
    (try dsimp only); refine seq_intro fun N hN => ?_
    simp only [rn_program R2.o, fr_function fc.c, fr_place fc.c, pr_ix h2' hFc, ri, VV1]
    subst hN
    (try dsimp only); refine seq_intro fun N hN => ?_
    simp only [fr_held f2.c, fr_dyes f2.c, ix_ls (lsOf_ref fa2), ix_ls (lsOf_ref fb2), hl_ix (show a < x.held.length by first | decide | omega), dy_ix (show a < x.dyes.length by first | decide | omega), VV3]
    refine ⟨fr_has fc.c rfl, m, b, _, _, c, rfl, fc, by first | decide | omega, by first | decide | omega, ?_⟩
    have R3 := R2.top { c with held := c.held.set b (hl x a), dyes := c.dyes.set b (dy x a) }
    obtain ⟨f3, _⟩ := R3.fa _ List.mem_cons_self
    have k3 : Kp r h (frPut h2' m { c with held := c.held.set b (hl x a), dyes := c.dyes.set b (dy x a) }) := k2.trans (Kp.frPut (by first | decide | omega) (by first | decide | omega))
    subst hN
    (try dsimp only); refine seq_intro fun N hN => ?_
    simp only [fr_place f3.c, VV3]
    refine ⟨rn_has R3.o rfl, P, r, k, m, c.p + 1, _, fs', _, ?_, R3, set_all okc.d1 dd, by simp; omega, by simp; omega, fun h' R4 K4 => ?_⟩
    · show [D.ref r, D.int ((c.p : Int) + 1)] = [D.ref r, D.int ((c.p + 1 : Nat) : Int)]
      rw [Int.natCast_add]; rfl
    · subst hN
      simp only [VV]
      rw [List.append_assoc] at R4
      exact q1 m c fs' Fc b g as rfl hrow h' R4 (k3.trans K4)
theorem ok_Runner__give_back {f : Addr} {fd : FuncData} (F : Fun K "give_back" "Runner.give_back" s_Runner__give_back f fd) (T : Txt P w K mg) (C_Frame__put_value : CalM P w K mg base 1 "Frame" "put_value" ["self", "x", "value", "dye"] (spD K 4 S_Frame__put_value)) (C_Runner__come_to : CalM P w K mg base 1 "Runner" "come_to" ["self", "place"] (spD K 2 S_Runner__come_to)) : FnOk P w K mg base CX0 2 f fd ["self", "x"] (spD K 2 S_Runner__give_back) :=
  fn_ok (k := 1) (b := b_Runner__give_back) F sc_Runner__give_back (fun cdv A outer s H E hr => (ss_cons (s_set (i := 2) sc_Runner__give_back.nd rfl (Or.inl rfl) (se_pop (se_fld T.f_frames (sv 0))))
    (ss_cons (s_set (i := 3) sc_Runner__give_back.nd rfl (Or.inl rfl) (se_ix ok_ix (se_fld T.f_program (sv 0)) (se_fld T.f_function (sv 2)) (fun _ _ => rfl)))
    (ss_cons (s_set (i := 4) sc_Runner__give_back.nd rfl (Or.inl rfl) (se_op ok_plus se_int (se_callB ok_len rfl T.b_len PySem.boot_len (sa_cons (se_ix ok_ix (sv 3) se_int (fun _ _ => rfl)) sa_nil))))
    (ss_cons (s_expr (se_append (se_fld T.f_states (sv 0)) (sa_cons (se_tup (sa_cons (se_fld T.f_steps (sv 0)) (sa_cons (se_fld T.f_function (sv 2)) (sa_cons (se_callB ok_len rfl T.b_len PySem.boot_len (sa_cons (se_ix ok_ix (sv 3) se_int (fun _ _ => rfl)) sa_nil)) (sa_cons (se_op ok_bor se_int (se_op ok_shl (se_ix ok_ix (se_fld T.f_dyes (sv 2)) (sv 1) (fun _ _ => rfl)) (sv 4))) sa_nil))))) sa_nil)))
    (ss_cons (s_if (st_cmp (ok_eq hr.units) (se_callB ok_len rfl T.b_len PySem.boot_len (sa_cons (se_fld T.f_frames (sv 0)) sa_nil)) se_int (nomark _)) (ss_one (s_ret (se_tup (sa_cons se_str (sa_cons (se_ix ok_ix (se_fld T.f_held (sv 2)) (sv 1) (fun _ _ => rfl)) sa_nil))))) ss_nil)
    (ss_cons (s_set (i := 5) sc_Runner__give_back.nd rfl (Or.inl rfl) (se_ix ok_ix (se_fld T.f_frames (sv 0)) (se_un ok_neg se_int) (fun _ _ => rfl)))
    (ss_cons (s_set (i := 6) sc_Runner__give_back.nd rfl (Or.inl rfl) (se_ix ok_ix (se_ix ok_ix (se_ix ok_ix (se_fld T.f_program (sv 0)) (se_fld T.f_function (sv 5)) (fun _ _ => rfl)) se_int (fun _ _ => rfl)) (se_fld T.f_place (sv 5)) (fun _ _ => rfl)))
    (ss_cons (s_expr (se_meth C_Frame__put_value (hr.mono (by decide)) (sv 5) (sa_cons (se_ix ok_ix (sv 6) se_int (fun _ _ => rfl)) (sa_cons (se_ix ok_ix (se_fld T.f_held (sv 2)) (sv 1) (fun _ _ => rfl)) (sa_cons (se_ix ok_ix (se_fld T.f_dyes (sv 2)) (sv 1) (fun _ _ => rfl)) sa_nil)))))
    (ss_cons (s_expr (se_meth C_Runner__come_to (hr.mono (by decide)) (sv 0) (sa_cons (se_op ok_plus (se_fld T.f_place (sv 5)) se_int) sa_nil)))
    (ss_one (s_ret se_non)))))))))))) imp_Runner__give_back
noncomputable def b__law_heads : DS := (dSeq (dAsg (dCal S__law_state (dCons (dVar 0) (dCons (dC (.int 1)) dNil))) (dName 3))
    (dSeq (dAsg (dTk dNil) (dName 4))
    (dSeq (dFor (dIRange (dCons (dOp pPlus (dC (.int 1)) (dCal S__law_next (dCons (dVar 3) (dCons (dVar 1) dNil)))) dNil)) (dName 5) (dSeq (dAsg (dCal S__law_next (dCons (dVar 3) (dCons (dOp pPlus (dVar 2) (dC (.int 1))) dNil))) (dName 6))
    (dSeq (dIfS (dAnd (dNot (dTr (dOp pIx (dVar 3) (dC (.int 2))))) (dTst (dOp pGt (dCal S__law_next (dCons (dVar 3) (dCons (dC (.int 8)) dNil))) (dC (.int 0))))) (dAsg (dCB pMax (dCons (dVar 6) (dCons (dC (.int 1)) dNil))) (dName 6)) dNext)
    (dDrop (dAppend (dVar 4) (dCons (dTup (dCons (dCal S__law_next (dCons (dVar 3) (dCons (dOp pPlus (dVar 6) (dC (.int 1))) dNil))) (dCons (dVar 6) dNil))) dNil))))))
    (dRet (dVar 4)))))
noncomputable def S__law_heads : DSp := fun ds h Q => ∃ (ns : List Int), ds = [.scr (ns.map .int), .int 6, .int 4] ∧ ns.length ≤ 63 ∧ (∀ x ∈ ns, Builtin.Int.intBits x ≤ 1048576) ∧ ∀ hs : List (Nat × Nat), 1 ≤ hs.length → hs.length ≤ 6 → (∀ y ∈ hs, y.1 ≤ y.2 ∧ y.2 ≤ 4) → Q (.lst (hs.map hdD)) h
theorem imp__law_heads : ∀ ds h Q, S__law_heads ds h Q → runD 7 b__law_heads ds h (Dr h Q) := by
  rintro ds h Q ⟨ns, rfl, hl, hb, q⟩
  have gt : ∀ (l : Hh) (k : Nat), (h ++ l)[h.length + k]? = l[k]? := fun l k => by rw [List.getElem?_append_right (by first | decide | omega), show h.length + k - h.length = k by first | decide | omega]
  have st0 : ∀ (o p u : O), (h ++ [o, p]).set h.length u = h ++ [u, p] := fun o p u => by rw [List.set_append_right _ _ (Nat.le_refl _), Nat.sub_self]; rfl
  have st1 : ∀ (o p u : O), (h ++ [o, p]).set (h.length + 1) u = h ++ [o, u] := fun o p u => by rw [List.set_append_right _ _ (by first | decide | omega), show h.length + 1 - h.length = 1 by first | decide | omega]; rfl
  simp only [runD, b__law_heads, List.map_cons, List.map_nil, List.cons_append, List.nil_append, List.length_cons, List.length_nil, List.replicate, Nat.reduceSub, Nat.reduceAdd, Nat.zero_add, Nat.sub_self]
  (try dsimp only); refine seq_intro fun N hN => ?_
  simp only [VV]
  refine ⟨ns, 1, rfl, hl, hb, by decide, fun n s b n0 => ?_⟩
  subst hN
  (try dsimp only); refine seq_intro fun N hN => ?_
  simp only [VV]
  rw [show (h ++ [stO n s b]).length = h.length + 1 by simp, show h ++ [stO n s b] ++ [O.lst []] = h ++ [stO n s b, .lst []] by simp]
  have nx : ∀ (n1 s1 m : Int) (o : O) (Q' : DK), 0 ≤ n1 → (0 < m ∧ m ≤ 1000000000000000000) → (∀ (n' s' : Int) (r : Nat), 0 ≤ n' → (r : Int) < m → Q' (nD r) (h ++ [stO n' s' b, o])) → S__law_next [.ref h.length, .int m] (h ++ [stO n1 s1 b, o]) Q' := fun n1 s1 m o Q' h1 hm k => ⟨h.length, n1, s1, m, b, rfl, gt _ 0, h1, hm, fun n' s' r a c => by rw [st0]; exact k n' s' r a c⟩
  subst hN
  (try dsimp only); refine seq_intro fun N hN => ?_
  simp only [VV]
  refine nx _ _ _ _ _ n0 ⟨by decide, by decide⟩ fun n1 s1 c0 h1 hc0 => ?_
  simp only [VV]
  refine ⟨⟨by first | decide | omega, by first | decide | omega⟩, ?_⟩
  rw [rangeD_map, show ((1 : Int) + (c0 : Int)).toNat = 1 + c0 by first | decide | omega]
  refine forL_map (fun p δ h' => ∃ (hs : List (Nat × Nat)) (n' s' : Int), h' = h ++ [stO n' s' b, .lst (hs.map hdD)] ∧ 0 ≤ n' ∧ hs.length = p.length ∧ (∀ y ∈ hs, y.1 ≤ y.2 ∧ y.2 ≤ 4) ∧ ∃ x5 x6, δ = [some (.scr (ns.map D.int)), some (.int 6), some (.int 4), some (.ref h.length), some (.ref (h.length + 1)), x5, x6]) ⟨[], _, _, rfl, h1, rfl, (fun _ z => nomatch z), _, _, rfl⟩ (fun _ _ _ _ => Src.ok_nil) ?_ ?_
  · rintro p y r δ h' N1 e ⟨hs, n', s', rfl, hn', hsl, hv, x5, x6, rfl⟩ hN1
    obtain ⟨rfl, hy⟩ := range_split e
    clear hN
    simp only [VV]
    (try dsimp only); refine seq_intro fun N2 hN2 => ?_
    simp only [VV]
    refine nx _ _ _ _ _ hn' ⟨by decide, by decide⟩ fun n2 s2 v h2 hv5 => ?_
    have v4 : v ≤ 4 := by first | decide | omega
    subst hN2
    (try dsimp only); refine seq_intro fun N2 hN2 => ?_
    have key : ∀ (w : Nat) (n3 s3 : Int), w ≤ 4 → 0 ≤ n3 → N2 [some (.scr (ns.map D.int)), some (.int 6), some (.int 4), some (.ref h.length), some (.ref (h.length + 1)), some (.int (0 + (p.length : Int))), some (nD w)] (h ++ [stO n3 s3 b, .lst (hs.map hdD)]) := fun w n3 s3 hw h3 => by
      subst hN2
      have g1 : ∀ n s : Int, (h ++ [stO n s b, O.lst (hs.map hdD)])[h.length + 1]? = some (.lst (hs.map hdD)) := fun _ _ => gt _ 1
      simp only [g1, VV]
      refine nx _ _ _ _ _ h3 ⟨by first | decide | omega, by first | decide | omega⟩ fun n4 s4 g h4 hg => ?_
      simp only [g1, VV]
      refine ⟨by rw [List.length_map]; omega, ?_⟩
      rw [st1]
      refine hN1 _ _ ⟨hs ++ [(g, w)], _, _, by rw [List.map_append]; rfl, h4, by simp [hsl], fun y hy => ?_, _, _, rfl⟩
      rcases List.mem_append.mp hy with z | z
      · exact hv y z
      · rw [List.mem_singleton.mp z]; exact ⟨by first | decide | omega, hw⟩
    have key2 : ∀ (n3 s3 : Int), 0 ≤ n3 → N2 [some (.scr (ns.map D.int)), some (.int 6), some (.int 4), some (.ref h.length), some (.ref (h.length + 1)), some (.int (0 + (p.length : Int))), some (.int (if (1 : Int) > (v : Int) then 1 else (v : Int)))] (h ++ [stO n3 s3 b, .lst (hs.map hdD)]) := fun n3 s3 h3 => by
      by_cases z : (1 : Int) > (v : Int)
      · rw [if_pos z]; exact key 1 _ _ (by decide) h3
      · rw [if_neg z]; exact key v _ _ v4 h3
    have ix : ∀ n s : Int, lsOf (h ++ [stO n s b, O.lst (hs.map hdD)]) (.ref h.length) = some [.int n, .int s, .bl b] := fun n s => lsOf_ref (gt _ 0)
    cases hbb : b with
    | true =>
      subst hbb
      simp only [ix_ls (ix _ _), VV]
      exact key v _ _ v4 h2
    | false =>
      subst hbb
      simp only [ix_ls (ix _ _), VV]
      refine nx _ _ _ _ _ h2 ⟨by decide, by decide⟩ fun n5 s5 c5 h5 hc5 => ?_
      simp only [VV]
      exact iteB (fun c => key2 _ _ h5) (fun c => key v _ _ v4 h5)
  · rintro δ h' ⟨hs, n', s', rfl, hn', hsl, hv, x5, x6, rfl⟩
    rw [List.length_range] at hsl
    subst hN
    simp only [VV]
    exact Dr.dropL (g1 := [stO n' s' b]) (g2 := []) (nrDs_map (fun _ => rfl) hs) rfl (q hs (by first | decide | omega) (by first | decide | omega) hv)
theorem ok__law_heads {f : Addr} {fd : FuncData} (F : Fun K "_law_heads" "_law_heads" s__law_heads f fd) (T : Txt P w K mg) (C__law_state : Cal P w K mg base 2 "_law_state" ["_law_script", "_law_k"] (spD K 2 S__law_state)) (C__law_next : Cal P w K mg base 1 "_law_next" ["_law_state_here", "_law_many"] (spD K 2 S__law_next)) : FnOk P w K mg base CX0 3 f fd ["_law_script", "_law_functions", "_law_variables"] (spD K 3 S__law_heads) :=
  fn_okD (k := 2) (b := b__law_heads) F sc__law_heads (fun cdv A outer s H E hr => (ss_cons (s_set (i := 3) sc__law_heads.nd rfl (Or.inl rfl) (se_cal C__law_state (hr.mono (by decide)) rfl (sa_cons (sv 0) (sa_cons se_int sa_nil))))
    (ss_cons (s_set (i := 4) sc__law_heads.nd rfl (Or.inl rfl) (se_t (sn_lst sa_nil)))
    (ss_cons (s_for PassesOwn.never rfl (si_range1 rfl T.b_range (sa_cons (se_op ok_plus se_int (se_cal C__law_next (hr.mono (by decide)) rfl (sa_cons (sv 3) (sa_cons (sv 1) sa_nil)))) sa_nil)) (sg_name (i := 5) sc__law_heads.nd rfl (Or.inl rfl)) (ss_cons (s_set (i := 6) sc__law_heads.nd rfl (Or.inl rfl) (se_cal C__law_next (hr.mono (by decide)) rfl (sa_cons (sv 3) (sa_cons (se_op ok_plus (sv 2) se_int) sa_nil))))
    (ss_cons (s_if (st_w (sw_and (st_not (st_truth (se_ix ok_ix (sv 3) se_int (fun _ _ => rfl)))) (sw_and1 (st_cmp ok_gt (se_cal C__law_next (hr.mono (by decide)) rfl (sa_cons (sv 3) (sa_cons se_int sa_nil))) se_int (nomark _))))) (ss_one (s_set (i := 6) sc__law_heads.nd rfl (Or.inl rfl) (se_callB (ok_max rfl) rfl T.b_max PyProof.Rows.boot_max (sa_cons (sv 6) (sa_cons se_int sa_nil))))) ss_nil)
    (ss_one (s_expr (se_append (sv 4) (sa_cons (se_tup (sa_cons (se_cal C__law_next (hr.mono (by decide)) rfl (sa_cons (sv 3) (sa_cons (se_op ok_plus (sv 6) se_int) sa_nil))) (sa_cons (sv 6) sa_nil))) sa_nil)))))))
    (ss_one (s_ret (sv 4))))))) imp__law_heads
noncomputable def b__law_places : DS := (dSeq (dAsg (dTk dNil) (dName 3))
    (dSeq (dAsg (dCB pLen (dCons (dVar 1) dNil)) (dName 4))
    (dSeq (dFor (dISeq (dVar 2)) (dName 5) (dSeq (dAsg (dCal S__law_state (dCons (dVar 0) (dCons (dVar 5) dNil))) (dName 6))
    (dSeq (dAsg (dCal S__law_next (dCons (dVar 6) (dCons (dCB pLen (dCons (dVar 1) dNil)) dNil))) (dName 7))
    (dSeq (dAsg (dCal S__law_kind (dCons (dVar 6) (dCons (dOp pIx (dOp pIx (dVar 1) (dVar 7)) (dC (.int 1))) dNil))) (dName 8))
    (dSeq (dAsg (dOp pPlus (dOp pPlus (dVar 4) (dC (.int 1))) (dCB pInt (dCons (dOp (pEq false) (dVar 8) (dC (.str "if"))) dNil))) (dName 4))
    (dIfS (dAnd (dTst (dOp pLe (dVar 4) (dC (.int 24)))) (dTst (dOp pLtI (dCB pLen (dCons (dV (dComp [none, some 7] (dISeq (dVar 3)) (dName 0) (dTst (dOp (pEq false) (dOp pIx (dVar 0) (dC (.int 0))) (dVar 1))) (dVar 0))) dNil)) (dC (.int 8))))) (dDrop (dAppend (dVar 3) (dCons (dTup (dCons (dVar 7) (dCons (dVar 8) (dCons (dVar 6) dNil)))) dNil))) (dAsg (dOp pSub (dOp pSub (dVar 4) (dC (.int 1))) (dCB pInt (dCons (dOp (pEq false) (dVar 8) (dC (.str "if"))) dNil))) (dName 4))))))))
    (dRet (dVar 3)))))
noncomputable abbrev Ow := Nat × Kd × Nat
noncomputable def owD (o : Ow) : D := .tup [nD o.1, .str o.2.1.w, .ref o.2.2]
noncomputable def cntO (os : List Ow) (f : Nat) : Nat := (os.filter fun o => decide (o.1 = f)).length
structure OwOk (h : Hh) (g : Nat) (hs : List (Nat × Nat)) (os : List Ow) : Prop where
  ls : h[g]? = some (.lst (os.map owD))
  ok : ∀ o ∈ os, (∃ y, hs[o.1]? = some y ∧ (y.2 = 0 → o.2.1 = .to)) ∧ IsSt h o.2.2 ∧ g < o.2.2
  cnt : ∀ f, cntO os f ≤ 8
theorem OwOk.app {h l : Hh} {g : Nat} {hs : List (Nat × Nat)} {os : List Ow} (k : OwOk h g hs os) : OwOk (h ++ l) g hs os :=
  ⟨by rw [List.getElem?_append_left (List.getElem?_eq_some_iff.mp k.ls).1]; exact k.ls, fun o ho => ⟨(k.ok o ho).1, (k.ok o ho).2.1.app, (k.ok o ho).2.2⟩, k.cnt⟩
theorem OwOk.draw {h : Hh} {g i : Nat} {hs : List (Nat × Nat)} {os : List Ow} {n s : Int} {b : Bool} (k : OwOk h g hs os) (gi : g < i) (n0 : 0 ≤ n) : OwOk (h.set i (stO n s b)) g hs os :=
  ⟨by rw [List.getElem?_set_ne (by first | decide | omega)]; exact k.ls, fun o ho => ⟨(k.ok o ho).1, (k.ok o ho).2.1.set n0, (k.ok o ho).2.2⟩, k.cnt⟩
theorem OwOk.far {h : Hh} {g i : Nat} {hs : List (Nat × Nat)} {os : List Ow} {o : O} (k : OwOk h g hs os) (gi : g < i) (d : ∀ o ∈ os, o.2.2 ≠ i) : OwOk (h.set i o) g hs os :=
  ⟨by rw [List.getElem?_set_ne (by first | decide | omega)]; exact k.ls, fun o ho => ⟨(k.ok o ho).1, (k.ok o ho).2.1.far (fun z => d o ho z.symm), (k.ok o ho).2.2⟩, k.cnt⟩
noncomputable def S__law_places : DSp := fun ds h Q => ∃ (ns : List Int) (hs : List (Nat × Nat)) (n : Nat), ds = [.scr (ns.map .int), .lst (hs.map hdD), .lst (rangeD 3 n)] ∧ ns.length ≤ 63 ∧ (∀ x ∈ ns, Builtin.Int.intBits x ≤ 1048576) ∧ n ≤ 60 ∧ 1 ≤ hs.length ∧ hs.length ≤ 6 ∧ ∀ (os : List Ow) (h' : Hh), OwOk h' h.length hs os → os.length ≤ 60 → Kp h.length h h' → Q (.ref h.length) h'
theorem imp__law_places : ∀ ds h Q, S__law_places ds h Q → runD 9 b__law_places ds h Q := by
  rintro ds h Q ⟨ns, hs, n, rfl, hl, hb, n60, h1, h6, q⟩
  simp only [runD, b__law_places, List.map_cons, List.map_nil, List.cons_append, List.nil_append, List.length_cons, List.length_nil, List.replicate, Nat.reduceSub, Nat.reduceAdd, Nat.zero_add, Nat.sub_self]
  (try dsimp only); refine seq_intro fun N hN => ?_
  simp only [VV]
  subst hN
  (try dsimp only); refine seq_intro fun N hN => ?_
  simp only [List.length_map, VV]
  subst hN
  (try dsimp only); refine seq_intro fun N hN => ?_
  simp only [VV]
  rw [rangeD_map]
  refine forL_map (fun p δ h' => ∃ (os : List Ow) (ed : Int), OwOk h' h.length hs os ∧ Kp h.length h h' ∧ os.length ≤ p.length ∧ ∃ x5 x6 x7 x8, δ = [some (.scr (ns.map D.int)), some (.lst (hs.map hdD)), some (.lst ((List.range n).map fun i => D.int (3 + (i : Nat)))), some (.ref h.length), some (.int ed), x5, x6, x7, x8]) ⟨[], _, ⟨get_new _ _, (fun o z => nomatch z), fun f => by show 0 ≤ 8; omega⟩, Kp.app (Nat.le_refl _), Nat.le_refl _, _, _, _, _, rfl⟩ (fun _ _ _ _ => Src.ok_nil) ?_ ?_
  · rintro p y r δ h' N1 e ⟨os, ed, ow, kp, ol, x5, x6, x7, x8, rfl⟩ hN1
    obtain ⟨rfl, hy⟩ := range_split e
    clear hN
    have gl : h.length < h'.length := (List.getElem?_eq_some_iff.mp ow.ls).1
    simp only [VV]
    (try dsimp only); refine seq_intro fun N2 hN2 => ?_
    simp only [VV]
    refine ⟨ns, 3 + p.length, by rw [show (3 : Int) + (p.length : Int) = ((3 + p.length : Nat) : Int) by first | decide | omega], hl, hb, by first | decide | omega, fun n s b n0 => ?_⟩
    subst hN2
    (try dsimp only); refine seq_intro fun N2 hN2 => ?_
    simp only [List.length_map, VV]
    refine ⟨h'.length, n, s, _, b, rfl, get_new _ _, n0, ⟨by first | decide | omega, by first | decide | omega⟩, fun n1 s1 f h1' hf => ?_⟩
    rw [set_new]
    have hf : f < hs.length := by first | decide | omega
    have fx : atI (hs.map hdD) (f : Int) = some (.tup [nD hs[f].1, nD hs[f].2]) := by rw [atN, List.getElem?_map, List.getElem?_eq_getElem hf]; rfl
    subst hN2
    (try dsimp only); refine seq_intro fun N2 hN2 => ?_
    simp only [fx, VV]
    refine ⟨h'.length, hs[f].2, n1, s1, b, rfl, get_new _ _, h1', fun kd n2 s2 hk h2' => ?_⟩
    rw [set_new]
    subst hN2
    (try dsimp only); refine seq_intro fun N2 hN2 => ?_
    simp only [kd.sk, rk_iff, Bool.and_self, VV]
    generalize (kd.w == Str.ofString "if") = bb
    subst hN2
    have lo : (h' ++ [stO n2 s2 b])[h.length]? = some (.lst (os.map owD)) := ow.app.ls
    have ow2 : OwOk (h' ++ [stO n2 s2 b]) h.length hs os := ow.app
    have kp2 : Kp h.length h (h' ++ [stO n2 s2 b]) := kp.trans (Kp.app (by first | decide | omega))
    have ps : (p ++ [p.length]).length = p.length + 1 := by simp
    simp only [seqSrc_ref lo, kd.sk, rk_iff, Bool.and_self, List.length_map, VV]
    refine iteB (fun c => ?_) (fun c => ?_)
    · refine ⟨by first | decide | omega, ?_⟩
      refine comp1 (fun o : Ow => decide (o.1 = f)) owD ?_ none (fun o _ K kk => ?_) (fun o _ _ K kk => ?_) ?_
      · intro z hz; rw [List.mem_singleton.mp hz]; exact lo
      · simp only [owD, VV]
        rw [beqN]; exact kk
      · simp only [VV]
        exact kk
      simp only [List.length_map, lo, VV]
      refine iteB (fun c2 => ?_) (fun c2 => ?_)
      · have c2 : cntO os f < 8 := by have := of_decide_eq_true c2; unfold cntO; omega
        refine ⟨by first | decide | omega, ?_⟩
        refine hN1 _ _ ⟨os ++ [(f, kd, h'.length)], _, ⟨?_, fun o ho => ?_, fun f' => ?_⟩, kp2.trans (Kp.set (Nat.le_refl _) (by simp; omega)), by rw [ps, List.length_append]; simp; omega, _, _, _, _, rfl⟩
        · rw [List.getElem?_set_self (by simp; omega), List.map_append]; rfl
        · rcases List.mem_append.mp ho with z | z
          · obtain ⟨a1, a2, a3⟩ := ow2.ok o z
            exact ⟨a1, a2.far (by first | decide | omega), a3⟩
          · rw [List.mem_singleton.mp z]
            refine ⟨⟨_, List.getElem?_eq_getElem hf, hk⟩, ⟨n2, s2, b, ?_, h2'⟩, gl⟩
            rw [List.getElem?_set_ne (by show h.length ≠ h'.length; omega)]; exact get_new _ _
        · have := ow.cnt f'
          unfold cntO at this c2 ⊢
          rw [List.filter_append, List.length_append]
          by_cases z : f = f'
          · subst z; rw [List.filter_cons, if_pos (decide_eq_true rfl)]; simp; omega
          · rw [List.filter_cons, if_neg (by simpa using z)]; simp; omega
      · exact hN1 _ _ ⟨os, _, ow2, kp2, by rw [ps]; omega, _, _, _, _, rfl⟩
    · exact hN1 _ _ ⟨os, _, ow2, kp2, by rw [ps]; omega, _, _, _, _, rfl⟩
  · rintro δ h' ⟨os, ed, ow, kp, ol, x5, x6, x7, x8, rfl⟩
    rw [List.length_range] at ol
    subst hN
    simp only [VV]
    exact q os h' ow (by first | decide | omega) kp
theorem ok__law_places {f : Addr} {fd : FuncData} (F : Fun K "_law_places" "_law_places" s__law_places f fd) (T : Txt P w K mg) (C__law_state : Cal P w K mg base 2 "_law_state" ["_law_script", "_law_k"] (spD K 2 S__law_state)) (C__law_next : Cal P w K mg base 1 "_law_next" ["_law_state_here", "_law_many"] (spD K 2 S__law_next)) (C__law_kind : Cal P w K mg base 2 "_law_kind" ["_law_state_here", "_law_v"] (spD K 2 S__law_kind)) : FnOk P w K mg base CX0 3 f fd ["_law_script", "_law_heads_here", "_law_cells"] (spD K 3 S__law_places) :=
  fn_ok (k := 2) (b := b__law_places) F sc__law_places (fun cdv A outer s H E hr => (ss_cons (s_set (i := 3) sc__law_places.nd rfl (Or.inl rfl) (se_t (sn_lst sa_nil)))
    (ss_cons (s_set (i := 4) sc__law_places.nd rfl (Or.inl rfl) (se_callB ok_len rfl T.b_len PySem.boot_len (sa_cons (sv 1) sa_nil)))
    (ss_cons (s_for PassesOwn.never rfl (si_seq (sv 2)) (sg_name (i := 5) sc__law_places.nd rfl (Or.inl rfl)) (ss_cons (s_set (i := 6) sc__law_places.nd rfl (Or.inl rfl) (se_cal C__law_state (hr.mono (by decide)) rfl (sa_cons (sv 0) (sa_cons (sv 5) sa_nil))))
    (ss_cons (s_set (i := 7) sc__law_places.nd rfl (Or.inr rfl) (se_cal C__law_next (hr.mono (by decide)) rfl (sa_cons (sv 6) (sa_cons (se_callB ok_len rfl T.b_len PySem.boot_len (sa_cons (sv 1) sa_nil)) sa_nil))))
    (ss_cons (s_set (i := 8) sc__law_places.nd rfl (Or.inl rfl) (se_cal C__law_kind (hr.mono (by decide)) rfl (sa_cons (sv 6) (sa_cons (se_ix ok_ix (se_ix ok_ix (sv 1) (sv 7) (fun _ _ => rfl)) se_int (fun _ _ => rfl)) sa_nil))))
    (ss_cons (s_set (i := 4) sc__law_places.nd rfl (Or.inl rfl) (se_op ok_plus (se_op ok_plus (sv 4) se_int) (se_callTy ok_int rfl T.b_int PyProof.Rows.boot_int (sa_cons (se_cmp (ok_eq hr.units) (sv 8) se_str (nomark _)) sa_nil))))
    (ss_one (s_if (st_w (sw_and (st_cmp ok_le (sv 4) se_int (nomark _)) (sw_and1 (st_cmp ok_ltI (se_callB ok_len rfl T.b_len PySem.boot_len (sa_cons (se_v (sn_comp rfl (N' := ["_law_one", "_law_f"]) (js := [none, some 7]) ⟨rfl, by decide +kernel, rfl, rfl, rfl⟩ (si_seq (sv 3)) (fun s0 H0 fp => ⟨(sg_name (i := 0) (show (["_law_one", "_law_f"] : List Str).Nodup by decide +kernel) rfl (Or.inl rfl)), (sf_one (st_cmp (ok_eq hr.units) (se_ix ok_ix (sv 0) se_int (fun _ _ => rfl)) (sv 1) (nomark _))), (sv 0)⟩))) sa_nil)) se_int (nomark _))))) (ss_one (s_expr (se_append (sv 3) (sa_cons (se_tup (sa_cons (sv 7) (sa_cons (sv 8) (sa_cons (sv 6) sa_nil)))) sa_nil)))) (ss_one (s_set (i := 4) sc__law_places.nd rfl (Or.inl rfl) (se_op ok_sub (se_op ok_sub (sv 4) se_int) (se_callTy ok_int rfl T.b_int PyProof.Rows.boot_int (sa_cons (se_cmp (ok_eq hr.units) (sv 8) se_str (nomark _)) sa_nil))))))))))))
    (ss_one (s_ret (sv 3))))))) imp__law_places
noncomputable def b__law_values : DS := (dSeq (dAsg (dCal S__law_state (dCons (dVar 0) (dCons (dC (.int 0)) dNil))) (dName 2))
    (dSeq (dAsg (dTk dNil) (dName 3))
    (dSeq (dFor (dIRange (dCons (dVar 1) dNil)) (dName 4) (dDrop (dAppend (dVar 3) (dCons (dCal S__law_next (dCons (dVar 2) (dCons (dOp pIx (dV (dCons (dC (.int 4)) (dCons (dOp pPow (dC (.int 10)) (dC (.int 18))) dNil))) (dCal S__law_next (dCons (dVar 2) (dCons (dC (.int 2)) dNil)))) dNil))) dNil))))
    (dRet (dTup (dCons (dVar 3) (dCons (dVar 2) dNil)))))))
noncomputable def S__law_values : DSp := fun ds h Q => ∃ (ns : List Int) (g : Nat), ds = [.scr (ns.map .int), nD g] ∧ ns.length ≤ 63 ∧ (∀ x ∈ ns, Builtin.Int.intBits x ≤ 1048576) ∧ g ≤ 4 ∧ ∀ (vs : List Int) (n s : Int) (b : Bool), vs.length = g → (∀ v ∈ vs, 0 ≤ v ∧ v < 1000000000000000000) → 0 ≤ n → Q (.tup [.ref (h.length + 1), .ref h.length]) (h ++ [stO n s b, .lst (vs.map D.int)])
theorem imp__law_values : ∀ ds h Q, S__law_values ds h Q → runD 5 b__law_values ds h Q := by
  rintro ds h Q ⟨ns, g, rfl, hl, hb, g4, q⟩
  have gt : ∀ (l : Hh) (k : Nat), (h ++ l)[h.length + k]? = l[k]? := fun l k => by rw [List.getElem?_append_right (by first | decide | omega), show h.length + k - h.length = k by first | decide | omega]
  have st0 : ∀ (o p u : O), (h ++ [o, p]).set h.length u = h ++ [u, p] := fun o p u => by rw [List.set_append_right _ _ (Nat.le_refl _), Nat.sub_self]; rfl
  have st1 : ∀ (o p u : O), (h ++ [o, p]).set (h.length + 1) u = h ++ [o, u] := fun o p u => by rw [List.set_append_right _ _ (by first | decide | omega), show h.length + 1 - h.length = 1 by first | decide | omega]; rfl
  simp only [runD, b__law_values, List.map_cons, List.map_nil, List.cons_append, List.nil_append, List.length_cons, List.length_nil, List.replicate, Nat.reduceSub, Nat.reduceAdd, Nat.zero_add, Nat.sub_self]
  (try dsimp only); refine seq_intro fun N hN => ?_
  simp only [VV]
  refine ⟨ns, 0, rfl, hl, hb, by decide, fun n s b n0 => ?_⟩
  subst hN
  (try dsimp only); refine seq_intro fun N hN => ?_
  simp only [VV]
  rw [show (h ++ [stO n s b]).length = h.length + 1 by simp, show h ++ [stO n s b] ++ [O.lst []] = h ++ [stO n s b, .lst []] by simp]
  have nx : ∀ (n1 s1 m : Int) (o : O) (Q' : DK), 0 ≤ n1 → (0 < m ∧ m ≤ 1000000000000000000) → (∀ (n' s' : Int) (r : Nat), 0 ≤ n' → (r : Int) < m → Q' (nD r) (h ++ [stO n' s' b, o])) → S__law_next [.ref h.length, .int m] (h ++ [stO n1 s1 b, o]) Q' := fun n1 s1 m o Q' h1 hm k => ⟨h.length, n1, s1, m, b, rfl, gt _ 0, h1, hm, fun n' s' r a c => by rw [st0]; exact k n' s' r a c⟩
  subst hN
  (try dsimp only); refine seq_intro fun N hN => ?_
  simp only [VV]
  refine ⟨⟨by first | decide | omega, by first | decide | omega⟩, ?_⟩
  rw [rangeD_map, Int.toNat_natCast]
  refine forL_map (fun p δ h' => ∃ (vs : List Int) (n' s' : Int), h' = h ++ [stO n' s' b, .lst (vs.map D.int)] ∧ 0 ≤ n' ∧ vs.length = p.length ∧ (∀ v ∈ vs, 0 ≤ v ∧ v < 1000000000000000000) ∧ ∃ x4, δ = [some (.scr (ns.map D.int)), some (nD g), some (.ref h.length), some (.ref (h.length + 1)), x4]) ⟨[], _, _, rfl, n0, rfl, (fun _ z => nomatch z), _, rfl⟩ (fun _ _ _ _ => Src.ok_nil) ?_ ?_
  · rintro p y r δ h' N1 e ⟨vs, n', s', rfl, hn', hsl, hv, x4, rfl⟩ hN1
    obtain ⟨rfl, hy⟩ := range_split e
    clear hN
    have g1 : ∀ n s : Int, (h ++ [stO n s b, O.lst (vs.map D.int)])[h.length + 1]? = some (.lst (vs.map D.int)) := fun _ _ => gt _ 1
    simp only [g1, e10, VV]
    refine ⟨⟨by decide, by decide, by decide⟩, ?_⟩
    refine nx _ _ _ _ _ hn' ⟨by decide, by decide⟩ fun n2 s2 c h2 hc => ?_
    have pick : ∃ k : Int, atI [D.int 4, D.int 1000000000000000000] (c : Int) = some (.int k) ∧ 0 < k ∧ k ≤ 1000000000000000000 := by
      obtain rfl | rfl : c = 0 ∨ c = 1 := by first | decide | omega
      · exact ⟨4, rfl, by decide, by decide⟩
      · exact ⟨1000000000000000000, rfl, by decide, by decide⟩
    obtain ⟨k, ek, k0, k1⟩ := pick
    simp only [ek, VV]
    refine nx _ _ _ _ _ h2 ⟨k0, k1⟩ fun n3 s3 r h3 hr => ?_
    simp only [g1, VV]
    refine ⟨by rw [List.length_map]; omega, ?_⟩
    rw [st1]
    refine hN1 _ _ ⟨vs ++ [(r : Int)], _, _, by rw [List.map_append]; rfl, h3, by simp [hsl], fun y hy => ?_, _, rfl⟩
    rcases List.mem_append.mp hy with z | z
    · exact hv y z
    · rw [List.mem_singleton.mp z]; exact ⟨by first | decide | omega, by first | decide | omega⟩
  · rintro δ h' ⟨vs, n', s', rfl, hn', hsl, hv, x4, rfl⟩
    rw [List.length_range] at hsl
    subst hN
    simp only [VV]
    exact q vs n' s' b hsl hv hn'
theorem ok__law_values {f : Addr} {fd : FuncData} (F : Fun K "_law_values" "_law_values" s__law_values f fd) (T : Txt P w K mg) (C__law_state : Cal P w K mg base 2 "_law_state" ["_law_script", "_law_k"] (spD K 2 S__law_state)) (C__law_next : Cal P w K mg base 1 "_law_next" ["_law_state_here", "_law_many"] (spD K 2 S__law_next)) : FnOk P w K mg base CX0 3 f fd ["_law_script", "_law_given"] (spD K 2 S__law_values) :=
  fn_ok (k := 2) (b := b__law_values) F sc__law_values (fun cdv A outer s H E hr => (ss_cons (s_set (i := 2) sc__law_values.nd rfl (Or.inl rfl) (se_cal C__law_state (hr.mono (by decide)) rfl (sa_cons (sv 0) (sa_cons se_int sa_nil))))
    (ss_cons (s_set (i := 3) sc__law_values.nd rfl (Or.inl rfl) (se_t (sn_lst sa_nil)))
    (ss_cons (s_for PassesOwn.never rfl (si_range1 rfl T.b_range (sa_cons (sv 1) sa_nil)) (sg_name (i := 4) sc__law_values.nd rfl (Or.inl rfl)) (ss_one (s_expr (se_append (sv 3) (sa_cons (se_cal C__law_next (hr.mono (by decide)) rfl (sa_cons (sv 2) (sa_cons (se_ix ok_ix (se_v (sn_lst (sa_cons se_int (sa_cons (se_op ok_pow se_int se_int) sa_nil)))) (se_cal C__law_next (hr.mono (by decide)) rfl (sa_cons (sv 2) (sa_cons se_int sa_nil))) (fun _ _ => rfl)) sa_nil))) sa_nil)))))
    (ss_one (s_ret (se_tup (sa_cons (sv 3) (sa_cons (sv 2) sa_nil))))))))) imp__law_values
noncomputable def b_Runner__enter : DS := (dSeq (dAsg (dV (dRepN (dV (dCons (dC (.int 0)) dNil)) (dOp pSub (dCB pLen (dCons (dOp pIx (dOp pIx (dUn (pFld "Runner" "program") (dVar 0)) (dVar 1)) (dC (.int 2))) dNil)) (dCB pLen (dCons (dVar 2) dNil))))) (dName 4))
    (dSeq (dDrop (dAppend (dUn (pFld "Runner" "frames") (dVar 0)) (dCons (dMake "Frame" S_Frame____init__ (dCons (dVar 1) (dCons (dTk (dCatN (dVar 2) (dVar 4))) (dCons (dTk (dCatN (dVar 3) (dVar 4))) dNil)))) dNil)))
    (dDrop (dMeth "Runner" "come_to" S_Runner__come_to (dVar 0) (dCons (dC (.int 0)) dNil)))))
theorem lsP_lsOf {h : Hh} {d : D} {xs : List D} (e : lsP h d = some xs) : lsOf h d = some xs := by
  cases d with
  | lst => exact e
  | ref => exact e
  | _ => cases e
theorem kp_lsP {h h' : Hh} (k : Kp h.length h h') {d : D} {xs : List D} (e : lsP h d = some xs) : lsP h' d = some xs := by
  cases d with
  | lst => exact e
  | ref i =>
    have e : (match h[i]? with | some (.lst xs) => some xs | _ => none) = some xs := e
    show (match h'[i]? with | some (.lst xs) => some xs | _ => none) = some xs
    cases q : h[i]? with
    | none => rw [q] at e; cases e
    | some o =>
      have hi := (List.getElem?_eq_some_iff.mp q).1
      have t : (h'.take h.length)[i]? = h[i]? := by rw [k.1, List.take_length]
      rw [List.getElem?_take_of_lt hi] at t
      rw [t]; exact e
  | _ => cases e
noncomputable def S_Runner__enter : DSp := fun ds h Q => ∃ (P : Prog) (r k g : Nat) (hd : D) (hs : List Int) (ys : List Nat) (G : PF) (fs : List (Nat × Fr)) (es : List E4), ds = [.ref r, nD g, hd, .lst (ys.map nD)] ∧ lsP h hd = some (hs.map D.int) ∧ RAt P h r k fs es ∧ P[g]? = some G ∧ hs.length ≤ G.vars.length ∧ G.vars.length ≤ 4 ∧ ys.length ≤ 4 ∧ (∀ d ∈ ys, d ≤ 1) ∧ es.length ≤ 10000 ∧ fs.length ≤ 10000 ∧
  ∀ h', RAt P h' r k ((h.length, ⟨g, 0, hs ++ List.replicate (G.vars.length - hs.length) 0, ys ++ List.replicate (G.vars.length - hs.length) 0⟩) :: fs) (es ++ [(k, g, 0, msk (ys ++ List.replicate (G.vars.length - hs.length) 0))]) → Kp r h h' → Q .non h'
theorem imp_Runner__enter : ∀ ds h Q, S_Runner__enter ds h Q → runD 5 b_Runner__enter ds h Q := by
  rintro ds h Q ⟨P, r, k, g, hd, hs, ys, G, fs, es, rfl, hd1, R, hG, hl, g4, y4, y1, eb, fb, q⟩
  have rl := R.lt
  simp only [runD, b_Runner__enter, List.map_cons, List.map_nil, List.cons_append, List.nil_append, List.length_cons, List.length_nil, List.replicate, Nat.reduceSub, Nat.reduceAdd, Nat.zero_add, Nat.sub_self]
  (try dsimp only); refine seq_intro fun N hN => ?_
  simp only [rn_program R.o, pr_ix h hG, len_ls (lsP_lsOf hd1), List.length_map, VV1]
  have tn : ((G.vars.length : Int) - (hs.length : Int)).toNat = G.vars.length - hs.length := by first | decide | omega
  refine ⟨⟨by first | decide | omega, by first | decide | omega, by first | decide | omega⟩, ?_⟩
  rw [tn, flat1]
  have m4 : G.vars.length - hs.length ≤ 4 := by first | decide | omega
  generalize G.vars.length - hs.length = m at q m4
  subst hN
  (try dsimp only); refine seq_intro fun N hN => ?_
  have z1 : hs.map D.int ++ List.replicate m (D.int 0) = (hs ++ List.replicate m 0).map D.int := by rw [List.map_append, List.map_replicate]
  have z2 : ys.map nD ++ List.replicate m (D.int 0) = (ys ++ List.replicate m 0).map nD := by rw [List.map_append, List.map_replicate]; rfl
  simp only [rn_frames R.o, R.fr, hd1, List.length_map, List.length_append, List.length_replicate, VV1]
  rw [z1, z2]
  refine ⟨by first | decide | omega, by first | decide | omega, h.length + 2, _, _, _, rfl, ?_, rfl, ?_⟩
  · rw [List.append_assoc, List.append_assoc, List.getElem?_append_right (by first | decide | omega), show h.length + 2 - h.length = 2 by first | decide | omega]; rfl
  have eh : ∀ o1 o2 o3 o4 : O, (h ++ [o1] ++ [o2] ++ [o3]).set (h.length + 2) o4 = h ++ [o1, o2, o4] := fun o1 o2 o3 o4 => by
    rw [List.append_assoc, List.append_assoc, List.set_append_right _ _ (by first | decide | omega), show h.length + 2 - h.length = 2 by first | decide | omega]; rfl
  rw [eh]
  have fr1 : ∀ g, (h ++ g)[r + 1]? = some (.lst (fs.reverse.map fun y : Nat × Fr => .ref (y.1 + 2))) := fun g => by rw [List.getElem?_append_left (by first | decide | omega)]; exact R.fr
  simp only [fr1, List.length_map, List.length_reverse, VV]
  refine ⟨by first | decide | omega, ?_⟩
  have R2 := R.push ⟨g, 0, hs ++ List.replicate m 0, ys ++ List.replicate m 0⟩
  have en : (fs.reverse.map fun y : Nat × Fr => D.ref (y.1 + 2)) ++ [D.ref (h.length + 1 + 1)] = (((h.length, (⟨g, 0, hs ++ List.replicate m 0, ys ++ List.replicate m 0⟩ : Fr)) :: fs).reverse.map fun y : Nat × Fr => D.ref (y.1 + 2)) := by rw [List.reverse_cons, List.map_append]; rfl
  rw [en]
  subst hN
  simp only [VV2]
  refine ⟨rn_has R2.o rfl, P, r, k, h.length, 0, _, fs, es, rfl, R2, fun d hd2 => ?_, by simp; omega, eb, fun h' R3 K3 => ?_⟩
  · rcases List.mem_append.mp hd2 with z | z
    · exact y1 d z
    · rw [List.eq_of_mem_replicate z]; decide
  · exact q h' R3 (((Kp.app (by first | decide | omega)).trans (Kp.set (by first | decide | omega) (by simp; omega))).trans K3)
theorem ok_Runner__enter {f : Addr} {fd : FuncData} (F : Fun K "enter" "Runner.enter" s_Runner__enter f fd) (T : Txt P w K mg) (C_Runner__come_to : CalM P w K mg base 1 "Runner" "come_to" ["self", "place"] (spD K 2 S_Runner__come_to)) (M_Frame : MakeX P w K mg base 1 "Frame" ["self", "function", "held", "dyes"] (spD K 4 S_Frame____init__)) : FnOk P w K mg base CX0 3 f fd ["self", "g", "held", "dyes"] (spD K 4 S_Runner__enter) :=
  fn_ok (k := 2) (b := b_Runner__enter) F sc_Runner__enter (fun cdv A outer s H E hr => (ss_cons (s_set (i := 4) sc_Runner__enter.nd rfl (Or.inl rfl) (se_v (sn_rep (se_v (sn_lst (sa_cons se_int sa_nil))) (se_op ok_sub (se_callB ok_len rfl T.b_len PySem.boot_len (sa_cons (se_ix ok_ix (se_ix ok_ix (se_fld T.f_program (sv 0)) (sv 1) (fun _ _ => rfl)) se_int (fun _ _ => rfl)) sa_nil)) (se_callB ok_len rfl T.b_len PySem.boot_len (sa_cons (sv 2) sa_nil))))))
    (ss_cons (s_expr (se_append (se_fld T.f_frames (sv 0)) (sa_cons (se_make M_Frame (hr.mono (by decide)) rfl (sa_cons (sv 1) (sa_cons (se_t (sn_cat (sv 2) (sv 4))) (sa_cons (se_t (sn_cat (sv 3) (sv 4))) sa_nil)))) sa_nil)))
    (ss_one (s_expr (se_meth C_Runner__come_to (hr.mono (by decide)) (sv 0) (sa_cons se_int sa_nil))))))) imp_Runner__enter
noncomputable def b__law_program : DS := (dSeq (dAsg (dCal S__law_heads (dCons (dVar 0) (dCons (dVar 1) (dCons (dVar 2) dNil)))) (dName 4))
    (dSeq (dAsg (dCal S__law_places (dCons (dVar 0) (dCons (dVar 4) (dCons (dVar 3) dNil)))) (dName 5))
    (dSeq (dAsg (dCal S__law_state (dCons (dVar 0) (dCons (dC (.int 2)) dNil))) (dName 6))
    (dSeq (dAsg (dTk dNil) (dName 7))
    (dSeq (dFor (dIRange (dCons (dCB pLen (dCons (dVar 4) dNil)) dNil)) (dName 8) (dSeq (dAsg (dOp pIx (dVar 4) (dVar 8)) (dUnp 2 (dGCons (dName 9) (dGCons (dName 10) dGNil))))
    (dSeq (dAsg (dV (dComp [none, some 8] (dISeq (dVar 5)) (dName 0) (dTst (dOp (pEq false) (dOp pIx (dVar 0) (dC (.int 0))) (dVar 1))) (dVar 0))) (dName 11))
    (dSeq (dAsg (dV (dComp [none, some 10, some 4, some 11] (dISeq (dVar 11)) (dName 0) dNoIf (dCal S__law_row (dCons (dOp pIx (dVar 0) (dC (.int 2))) (dCons (dOp pIx (dVar 0) (dC (.int 1))) (dCons (dVar 1) (dCons (dVar 2) (dCons (dOp pPlus (dCB pLen (dCons (dVar 3) dNil)) (dC (.int 1))) dNil)))))))) (dName 12))
    (dSeq (dAsg (dTup (dCons (dC (.str "to")) (dCons (dCal S__law_next (dCons (dVar 6) (dCons (dOp pPlus (dCB pLen (dCons (dVar 11) dNil)) (dC (.int 1))) dNil))) dNil))) (dName 13))
    (dSeq (dIfS (dAnd (dTst (dOp pGt (dVar 10) (dC (.int 0)))) (dTst (dOp pGt (dCal S__law_next (dCons (dVar 6) (dCons (dC (.int 4)) dNil))) (dC (.int 0))))) (dAsg (dTup (dCons (dC (.str "return")) (dCons (dCal S__law_next (dCons (dVar 6) (dCons (dVar 10) dNil))) dNil))) (dName 13)) dNext)
    (dSeq (dAsg (dCB pTuple (dCons (dV (dComp [none, some 8] (dIRange (dCons (dVar 10) dNil)) (dName 0) dNoIf (dOp pMulS (dOp pIx (dC (.str "abcd")) (dVar 0)) (dOp pPlus (dC (.int 1)) (dVar 1))))) dNil)) (dName 14))
    (dDrop (dAppend (dVar 7) (dCons (dTup (dCons (dOp pCatS (dC (.str "f")) (dOp pMulS (dC (.str "g")) (dVar 8))) (dCons (dVar 9) (dCons (dVar 14) (dCons (dCB pTuple (dCons (dOp pPlus (dVar 12) (dV (dCons (dVar 13) dNil))) dNil)) dNil))))) dNil))))))))))
    (dRet (dVar 7)))))))
structure PfO (hs : List (Nat × Nat)) (os : List Ow) (f : Nat) (F : PF) : Prop where
  nm : nmOk F
  hd : hs[f]? = some (F.given, F.vars.length)
  len : F.rows.length = cntO os f + 1
  rows : ∀ r ∈ F.rows, rowOk hs F.vars.length (cntO os f + 1) r
  last : ∀ r, F.rows[F.rows.length - 1]? = some r → lastOk r
theorem wfp_of {hs : List (Nat × Nat)} {os : List Ow} {P : Prog} (h1 : 1 ≤ hs.length) (h6 : hs.length ≤ 6) (hv : ∀ y ∈ hs, y.1 ≤ y.2 ∧ y.2 ≤ 4) (ho : ∀ f, cntO os f ≤ 8) (hl : P.length = hs.length) (hP : ∀ f F, P[f]? = some F → PfO hs os f F) : WFP P := by
  refine ⟨by first | decide | omega, by first | decide | omega, fun f F e => ?_⟩
  have k := hP f F e
  have hh := hv _ (List.mem_of_getElem? k.hd)
  have cl := ho f
  refine ⟨hh.1, hh.2, by rw [k.len]; omega, by rw [k.len]; omega, fun r hr => ?_, k.last⟩
  have ro := k.rows r hr
  cases r with
  | call x g as =>
    obtain ⟨hx, y, hy, la, aa⟩ := ro
    have gl : g < P.length := by rw [hl]; exact (List.getElem?_eq_some_iff.mp hy).1
    refine ⟨hx, P[g], List.getElem?_eq_getElem gl, ?_, aa⟩
    have := (hP g P[g] (List.getElem?_eq_getElem gl)).hd
    rw [hy] at this; cases this; exact la
  | iff x k' => exact ⟨ro.1, by rw [k.len]; exact ro.2⟩
  | to k' => exact (by rw [k.len]; exact ro : k' < F.rows.length)
  | _ => exact ro
noncomputable def abc (k : Nat) : Str := match strAt (Str.ofString "abcd") (k : Int) with | some (.str s) => s | _ => Str.empty
theorem abc_at {k : Nat} (h : k < 4) : strAt (Str.ofString "abcd") (k : Int) = some (.str (abc k)) := by
  obtain rfl | rfl | rfl | rfl : k = 0 ∨ k = 1 ∨ k = 2 ∨ k = 3 := by first | decide | omega
  all_goals rfl
theorem abc_ok : ∀ k < 4, ∀ f < 6, (abc k).length ≤ 1000 ∧ (repS (abc k) (1 + f)).length ≤ 16777216 ∧ PyData.strOk (repS (abc k) (1 + f)) = true := by decide +kernel
theorem gg_ok : ∀ f < 6, (repS (Str.ofString "g") f).length ≤ 16777216 ∧ (Str.ofString "f").length + (repS (Str.ofString "g") f).length ≤ 16777216 ∧ PyData.strOk (Str.ofString "f" ++ repS (Str.ofString "g") f) = true := by decide +kernel
theorem st_pg {h : Hh} {i j : Nat} {P : Prog} (k : IsSt h i) (e : h[j]? = some (.lst (P.map pfD))) : i ≠ j := by
  rintro rfl
  obtain ⟨n, s, b, e', _⟩ := k
  rw [e'] at e
  cases P <;> cases e
structure PAt (h : Hh) (g en pg : Nat) (hs : List (Nat × Nat)) (os : List Ow) (P : Prog) : Prop where
  ow : OwOk h g hs os
  st : IsSt h en
  pr : h[pg]? = some (.lst (P.map pfD))
  ge : g < en
  gp : g < pg
theorem PAt.draw {h : Hh} {g en pg i : Nat} {hs : List (Nat × Nat)} {os : List Ow} {P : Prog} {n s : Int} {b : Bool} (k : PAt h g en pg hs os P) (si : IsSt h i) (gi : g < i) (n0 : 0 ≤ n) : PAt (h.set i (stO n s b)) g en pg hs os P :=
  ⟨k.ow.draw gi n0, k.st.set n0, by rw [List.getElem?_set_ne (st_pg si k.pr)]; exact k.pr, k.ge, k.gp⟩
theorem PAt.put {h : Hh} {g en pg : Nat} {hs : List (Nat × Nat)} {os : List Ow} {P P' : Prog} (k : PAt h g en pg hs os P) : PAt (h.set pg (.lst (P'.map pfD))) g en pg hs os P' :=
  ⟨k.ow.far k.gp fun o ho => st_pg (k.ow.ok o ho).2.1 k.pr, k.st.far (fun z => st_pg k.st k.pr z.symm), List.getElem?_set_self (List.getElem?_eq_some_iff.mp k.pr).1, k.ge, k.gp⟩
noncomputable def S__law_program : DSp := fun ds h Q => ∃ (ns : List Int) (n : Nat), ds = [.scr (ns.map .int), .int 6, .int 4, .lst (rangeD 3 n)] ∧ ns.length ≤ 63 ∧ (∀ x ∈ ns, Builtin.Int.intBits x ≤ 1048576) ∧ n ≤ 60 ∧ ∀ P : Prog, WFP P → (∀ F ∈ P, nmOk F) → Q (prD' P) h
theorem imp__law_program : ∀ ds h Q, S__law_program ds h Q → runD 15 b__law_program ds h (Dr h Q) := by
  rintro ds h Q ⟨ns, n60, rfl, hl, hb, n6, q⟩
  simp only [runD, b__law_program, List.map_cons, List.map_nil, List.cons_append, List.nil_append, List.length_cons, List.length_nil, List.replicate, Nat.reduceSub, Nat.reduceAdd, Nat.zero_add, Nat.sub_self]
  (try dsimp only); refine seq_intro fun N hN => ?_
  simp only [VV]
  refine ⟨ns, rfl, hl, hb, fun hs h1 h6 hv => ?_⟩
  subst hN
  (try dsimp only); refine seq_intro fun N hN => ?_
  simp only [VV]
  refine ⟨ns, hs, n60, rfl, hl, hb, n6, h1, h6, fun os h0 ow0 ol kp0 => ?_⟩
  have g0 : h.length < h0.length := (List.getElem?_eq_some_iff.mp ow0.ls).1
  subst hN
  (try dsimp only); refine seq_intro fun N hN => ?_
  simp only [VV]
  refine ⟨ns, 2, rfl, hl, hb, by decide, fun n s b n0 => ?_⟩
  subst hN
  (try dsimp only); refine seq_intro fun N hN => ?_
  simp only [VV]
  rw [show (h0 ++ [stO n s b]).length = h0.length + 1 by simp, show h0 ++ [stO n s b] ++ [O.lst []] = h0 ++ [stO n s b, .lst []] by simp]
  have A0 : PAt (h0 ++ [stO n s b, .lst []]) h.length h0.length (h0.length + 1) hs os [] := by
    have gt : ∀ (l : Hh) (k : Nat), (h0 ++ l)[h0.length + k]? = l[k]? := fun l k => by rw [List.getElem?_append_right (by first | decide | omega), show h0.length + k - h0.length = k by first | decide | omega]
    exact ⟨ow0.app, ⟨n, s, b, gt _ 0, n0⟩, gt _ 1, g0, by first | decide | omega⟩
  have kp1 : Kp h.length h (h0 ++ [stO n s b, .lst []]) := kp0.trans (Kp.app (by first | decide | omega))
  generalize h0 ++ [stO n s b, .lst []] = h2 at A0 kp1
  generalize h0.length = en at A0
  subst hN
  (try dsimp only); refine seq_intro fun N hN => ?_
  simp only [List.length_map, VV]
  refine ⟨⟨by first | decide | omega, by first | decide | omega⟩, ?_⟩
  rw [rangeD_map, Int.toNat_natCast]
  refine forL_map (fun p δ h' => ∃ P : Prog, PAt h' h.length en (en + 1) hs os P ∧ Kp h.length h h' ∧ P.length = p.length ∧ (∀ f F, P[f]? = some F → PfO hs os f F) ∧ ∃ x8 x9 x10 x11 x12 x13 x14, δ = [some (.scr (ns.map D.int)), some (.int 6), some (.int 4), some (.lst (rangeD 3 n60)), some (.lst (hs.map hdD)), some (.ref h.length), some (.ref en), some (.ref (en + 1)), x8, x9, x10, x11, x12, x13, x14]) ⟨[], A0, kp1, rfl, (fun f F z => by simp at z), _, _, _, _, _, _, _, rfl⟩ (fun _ _ _ _ => Src.ok_nil) ?_ ?_
  · rintro p y r δ h' N1 e ⟨P, A, kp, pl, hP, x8, x9, x10, x11, x12, x13, x14, rfl⟩ hN1
    obtain ⟨rfl, hy⟩ := range_split e
    clear hN A0
    obtain ⟨g0, v, ehv⟩ : ∃ g v, hs[p.length]? = some (g, v) := ⟨_, _, List.getElem?_eq_getElem hy⟩
    have hvv := hv _ (List.mem_of_getElem? ehv)
    have hv1 : g0 ≤ v := hvv.1
    have hv4 : v ≤ 4 := hvv.2
    have fx : atI (hs.map hdD) (p.length : Int) = some (.tup [nD g0, nD v]) := by rw [atN, List.getElem?_map, ehv]; rfl
    have c8 := A.ow.cnt p.length
    simp only [VV]
    rw [Int.zero_add]
    (try dsimp only); refine seq_intro fun N2 hN2 => ?_
    simp only [fx, VV]
    refine ⟨trivial, ?_⟩
    subst hN2
    (try dsimp only); refine seq_intro fun N2 hN2 => ?_
    simp only [seqSrc_ref A.ow.ls, List.length_map, VV]
    refine ⟨by first | decide | omega, ?_⟩
    refine comp1 (fun o : Ow => decide (o.1 = p.length)) owD ?_ none (fun o _ K kk => ?_) (fun o _ _ K kk => ?_) ?_
    · intro z hz; rw [List.mem_singleton.mp hz]; exact A.ow.ls
    · simp only [owD, VV]
      rw [beqN]; exact kk
    · simp only [VV]
      exact kk
    have mine : ∀ o ∈ os.filter (fun o : Ow => decide (o.1 = p.length)), o ∈ os ∧ o.1 = p.length := fun o ho => ⟨(List.mem_filter.mp ho).1, of_decide_eq_true (List.mem_filter.mp ho).2⟩
    have mc : (os.filter fun o : Ow => decide (o.1 = p.length)).length = cntO os p.length := rfl
    generalize (os.filter fun o : Ow => decide (o.1 = p.length)) = ms at mine mc
    subst hN2
    (try dsimp only); refine seq_intro fun N2 hN2 => ?_
    simp only [List.length_map, VV]
    refine ⟨by first | decide | omega, ?_⟩
    refine compL_map (fun q' a δ h'' => PAt h'' h.length en (en + 1) hs os P ∧ Kp h.length h h'' ∧ (∃ o, δ = [o, some (nD v), some (.lst (hs.map hdD)), some (.lst (ms.map owD))]) ∧ ∃ rs : List Rw, a = rs.map rrD ∧ rs.length = q'.length ∧ ∀ r ∈ rs, rowOk hs v (cntO os p.length + 1) r) ⟨A, kp, ⟨_, rfl⟩, [], rfl, rfl, (fun _ z => nomatch z)⟩ (fun _ _ _ _ _ => Src.ok_nil) ?_ ?_
    · rintro q' o r2 acc δ h'' N e2 ⟨A2, kp2, ⟨o', rfl⟩, rs, rfl, lr, hr⟩ hN
      obtain ⟨om, of⟩ := mine o (by rw [e2]; simp)
      obtain ⟨⟨y, hy2, hk⟩, ⟨n3, s3, b3, e3, h3⟩, gi⟩ := A2.ow.ok o om
      rw [of, ehv] at hy2; cases hy2
      simp only [owD, List.length_map, VV]
      refine ⟨o.2.2, v, cntO os p.length + 1, n3, s3, b3, o.2.1, hs, by rw [mc]; rfl, e3, h3, hk, ⟨by first | decide | omega, by first | decide | omega⟩, hv4, fun y hy => ?_, ⟨h1, h6⟩, fun r n4 s4 ok h4 => ?_⟩
      · have := hv y hy; omega
      have l3 : o.2.2 < h''.length := (List.getElem?_eq_some_iff.mp e3).1
      refine hN _ _ _ ⟨A2.draw ⟨n3, s3, b3, e3, h3⟩ gi h4, kp2.trans (Kp.set (by first | decide | omega) (by first | decide | omega)), ⟨_, rfl⟩, rs ++ [r], by rw [List.map_append]; rfl, by simp [lr], fun r' hr' => ?_⟩
      rcases List.mem_append.mp hr' with z | z
      · exact hr r' z
      · rw [List.mem_singleton.mp z]; exact ok
    clear A kp
    rintro a δ h'' ⟨A, kp, _, rs, rfl, lr, hr⟩
    rw [mc] at lr
    subst hN2
    (try dsimp only); refine seq_intro fun N2 hN2 => ?_
    have nx : ∀ (h'' : Hh) (m : Int) (Q' : DK), PAt h'' h.length en (en + 1) hs os P → Kp h.length h h'' → (0 < m ∧ m ≤ 1000000000000000000) → (∀ (h3 : Hh) (r : Nat), PAt h3 h.length en (en + 1) hs os P → Kp h.length h h3 → (r : Int) < m → Q' (nD r) h3) → S__law_next [.ref en, .int m] h'' Q' := fun h'' m Q' A kp hm k => by
      obtain ⟨n3, s3, b3, e3, h3⟩ := A.st
      have l3 : en < h''.length := (List.getElem?_eq_some_iff.mp e3).1
      have := A.ge
      exact ⟨en, n3, s3, m, b3, rfl, e3, h3, hm, fun n' s' r h4 hr => k _ r (A.draw A.st A.ge h4) (kp.trans (Kp.set (by first | decide | omega) (by first | decide | omega))) hr⟩
    simp only [List.length_map, VV]
    refine nx h'' _ _ A kp ⟨by first | decide | omega, by first | decide | omega⟩ fun h3 k A3 kp3 hk => ?_
    clear A kp
    subst hN2
    (try dsimp only); refine seq_intro fun N2 hN2 => ?_
    have key : ∀ (lw : Rw) (h4 : Hh), PAt h4 h.length en (en + 1) hs os P → Kp h.length h h4 → rowOk hs v (cntO os p.length + 1) lw → lastOk lw → N2 [some (.scr (ns.map D.int)), some (.int 6), some (.int 4), some (.lst (rangeD 3 n60)), some (.lst (hs.map hdD)), some (.ref h.length), some (.ref en), some (.ref (en + 1)), some (.int (p.length : Int)), some (nD g0), some (nD v), some (.lst (ms.map owD)), some (.lst (rs.map rrD)), some (rrD lw), x14] h4 := fun lw h4 A4 kp4 ok1 ok2 => by
      subst hN2
      (try dsimp only); refine seq_intro fun N3 hN3 => ?_
      simp only [VV]
      refine ⟨⟨by first | decide | omega, by first | decide | omega⟩, by rw [rangeD_length]; omega, ?_⟩
      rw [rangeD_map, Int.toNat_natCast]
      have ixs : ∀ (h : Hh) (s : Str) (i : Int), ixD h (.str s) (.int i) = strAt s i := fun _ _ _ => rfl
      refine comp1n (fun k : Nat => .str (repS (abc k) (1 + p.length))) Src.ok_nil none (fun k hk K kk => ?_) ?_
      · have hk4 : k < 4 := by have := List.mem_range.mp hk; omega
        obtain ⟨a1, a2, _⟩ := abc_ok k hk4 p.length (by first | decide | omega)
        simp only [VV]
        rw [Int.zero_add]
        simp only [ixs, abc_at hk4, VV]
        rw [show ((1 : Int) + (p.length : Int)).toNat = 1 + p.length by first | decide | omega]
        exact ⟨⟨by first | decide | omega, by first | decide | omega, a1, a2⟩, kk⟩
      obtain ⟨b1, b2, b3⟩ := gg_ok p.length (by first | decide | omega)
      have pr := A4.pr
      subst hN3
      simp only [pr, VV]
      rw [Int.toNat_natCast]
      refine ⟨⟨by first | decide | omega, by first | decide | omega, by decide, b1⟩, b2, by rw [List.length_map]; omega, by rw [List.length_map]; omega, ?_⟩
      have el : P.map pfD ++ [D.tup [D.str (Str.ofString "f" ++ repS (Str.ofString "g") p.length), nD g0, .tup ((List.range v).map fun k => .str (repS (abc k) (1 + p.length))), .tup (rs.map rrD ++ [rrD lw])]] = (P ++ [(⟨.str (Str.ofString "f" ++ repS (Str.ofString "g") p.length), g0, (List.range v).map (fun k => .str (repS (abc k) (1 + p.length))), rs ++ [lw]⟩ : PF)]).map pfD := by
        rw [List.map_append]
        show _ = P.map pfD ++ [D.tup [_, _, _, D.tup ((rs ++ [lw]).map rrD)]]
        rw [List.map_append]; rfl
      rw [el]
      have l4 : en + 1 < h4.length := (List.getElem?_eq_some_iff.mp pr).1
      have ge := A4.ge
      refine hN1 _ _ ⟨_, A4.put, kp4.trans (Kp.set (by first | decide | omega) (by first | decide | omega)), by simp [pl], fun f F hF => ?_, _, _, _, _, _, _, _, rfl⟩
      rcases Nat.lt_or_ge f P.length with z | z
      · rw [List.getElem?_append_left z] at hF; exact hP f F hF
      · have fe : f = P.length := by have := (List.getElem?_eq_some_iff.mp hF).1; simp at this; omega
        subst fe
        rw [List.getElem?_append_right (Nat.le_refl _), Nat.sub_self] at hF
        cases hF
        rw [pl]
        refine ⟨⟨_, rfl, b3, fun d hd => ?_⟩, ?_, ?_, ?_, ?_⟩
        · obtain ⟨k, hk, rfl⟩ := List.mem_map.mp hd
          exact ⟨_, rfl, (abc_ok k (by have := List.mem_range.mp hk; omega) p.length (by first | decide | omega)).2.2⟩
        · rw [ehv]; simp
        · show (rs ++ [lw]).length = _
          rw [List.length_append, lr]; rfl
        · intro r hr'
          show rowOk hs ((List.range v).map _).length _ r
          rw [List.length_map, List.length_range]
          rcases List.mem_append.mp hr' with z | z
          · exact hr r z
          · rw [List.mem_singleton.mp z]; exact ok1
        · intro r hr'
          have hr' : (rs ++ [lw])[(rs ++ [lw]).length - 1]? = some r := hr'
          rw [List.length_append, List.length_singleton, Nat.add_sub_cancel, List.getElem?_append_right (Nat.le_refl _), Nat.sub_self] at hr'
          cases hr'; exact ok2
    have kk : k < cntO os p.length + 1 := by first | decide | omega
    simp only [VV]
    refine iteB (fun c => ?_) (fun c => key (.to k) h3 A3 kp3 kk trivial)
    have v0 := of_decide_eq_true c
    refine nx h3 _ _ A3 kp3 ⟨by decide, by decide⟩ fun h4 k4 A4 kp4 hk4 => ?_
    simp only [VV]
    refine iteB (fun c => ?_) (fun c => key (.to k) h4 A4 kp4 kk trivial)
    refine nx h4 _ _ A4 kp4 ⟨by first | decide | omega, by first | decide | omega⟩ fun h5 k5 A5 kp5 hk5 => ?_
    exact key (.ret k5) h5 A5 kp5 (show k5 < v by first | decide | omega) trivial
  · rintro δ h' ⟨P, A, kp, pl, hP, x8, x9, x10, x11, x12, x13, x14, rfl⟩
    rw [List.length_range] at pl
    subst hN
    simp only [VV]
    have wf := wfp_of h1 h6 hv A.ow.cnt pl hP
    have nm : ∀ F ∈ P, nmOk F := fun F hF => by
      obtain ⟨i, hi, rfl⟩ := List.getElem_of_mem hF
      exact (hP i _ (List.getElem?_eq_getElem hi)).nm
    have tk : h'.take h.length = h := by rw [kp.1, List.take_length]
    have ge := A.ge
    refine ⟨h, h'.drop h.length, .lst (P.map pfD), ?_, rfl, fun _ _ e => .inl e, .opn (by first | decide | omega) A.pr (.of (nrDs_all fun d hd => ?_)), q P wf nm⟩
    · conv => lhs; rw [← List.take_append_drop h.length h', tk]
    · obtain ⟨F, hF, rfl⟩ := List.mem_map.mp hd
      obtain ⟨s, e1, _, e3⟩ := nm F hF
      show (nrD F.name && (true && (nrDs F.vars && (nrDs (F.rows.map rrD) && true)))) = true
      rw [e1, nrDs_map nrD_rrD, nrDs_all (fun d hd => by obtain ⟨t, rfl, _⟩ := e3 d hd; rfl)]; rfl
theorem ok__law_program {f : Addr} {fd : FuncData} (F : Fun K "_law_program" "_law_program" s__law_program f fd) (T : Txt P w K mg) (C__law_heads : Cal P w K mg base 3 "_law_heads" ["_law_script", "_law_functions", "_law_variables"] (spD K 3 S__law_heads)) (C__law_places : Cal P w K mg base 3 "_law_places" ["_law_script", "_law_heads_here", "_law_cells"] (spD K 3 S__law_places)) (C__law_state : Cal P w K mg base 2 "_law_state" ["_law_script", "_law_k"] (spD K 2 S__law_state)) (C__law_row : Cal P w K mg base 2 "_law_row" ["_law_state_here", "_law_kind_here", "_law_v", "_law_heads_here", "_law_many"] (spD K 5 S__law_row)) (C__law_next : Cal P w K mg base 1 "_law_next" ["_law_state_here", "_law_many"] (spD K 2 S__law_next)) : FnOk P w K mg base CX0 4 f fd ["_law_script", "_law_functions", "_law_variables", "_law_cells"] (spD K 4 S__law_program) :=
  fn_okD (k := 3) (b := b__law_program) F sc__law_program (fun cdv A outer s H E hr => (ss_cons (s_set (i := 4) sc__law_program.nd rfl (Or.inr rfl) (se_cal C__law_heads (hr.mono (by decide)) rfl (sa_cons (sv 0) (sa_cons (sv 1) (sa_cons (sv 2) sa_nil)))))
    (ss_cons (s_set (i := 5) sc__law_program.nd rfl (Or.inl rfl) (se_cal C__law_places (hr.mono (by decide)) rfl (sa_cons (sv 0) (sa_cons (sv 4) (sa_cons (sv 3) sa_nil)))))
    (ss_cons (s_set (i := 6) sc__law_program.nd rfl (Or.inl rfl) (se_cal C__law_state (hr.mono (by decide)) rfl (sa_cons (sv 0) (sa_cons se_int sa_nil))))
    (ss_cons (s_set (i := 7) sc__law_program.nd rfl (Or.inl rfl) (se_t (sn_lst sa_nil)))
    (ss_cons (s_for PassesOwn.never rfl (si_range1 rfl T.b_range (sa_cons (se_callB ok_len rfl T.b_len PySem.boot_len (sa_cons (sv 4) sa_nil)) sa_nil)) (sg_name (i := 8) sc__law_program.nd rfl (Or.inr rfl)) (ss_cons (s_asg (se_ix ok_ix (sv 4) (sv 8) (fun _ _ => rfl)) (sg_tup rfl (sgs_cons (sg_name (i := 9) sc__law_program.nd rfl (Or.inl rfl)) (sgs_cons (sg_name (i := 10) sc__law_program.nd rfl (Or.inr rfl)) sgs_nil))))
    (ss_cons (s_set (i := 11) sc__law_program.nd rfl (Or.inr rfl) (se_v (sn_comp rfl (N' := ["_law_one", "_law_f"]) (js := [none, some 8]) ⟨rfl, by decide +kernel, rfl, rfl, rfl⟩ (si_seq (sv 5)) (fun s0 H0 fp => ⟨(sg_name (i := 0) (show (["_law_one", "_law_f"] : List Str).Nodup by decide +kernel) rfl (Or.inl rfl)), (sf_one (st_cmp (ok_eq hr.units) (se_ix ok_ix (sv 0) se_int (fun _ _ => rfl)) (sv 1) (nomark _))), (sv 0)⟩))))
    (ss_cons (s_setcV (i := 12) (hN := sc__law_program.nd) (hix := rfl) (hx := (Or.inl rfl)) rfl (N' := ["_law_one", "_law_v", "_law_heads_here", "_law_mine"]) (js := [none, some 10, some 4, some 11]) ⟨rfl, by decide +kernel, rfl, rfl, rfl⟩ (si_seq (sv 11)) (fun s0 H0 fp => ⟨(sg_name (i := 0) (show (["_law_one", "_law_v", "_law_heads_here", "_law_mine"] : List Str).Nodup by decide +kernel) rfl (Or.inl rfl)), sf_nil, (se_cal C__law_row (hr.mono (by decide)) rfl (sa_cons (se_ix ok_ix (sv 0) se_int (fun _ _ => rfl)) (sa_cons (se_ix ok_ix (sv 0) se_int (fun _ _ => rfl)) (sa_cons (sv 1) (sa_cons (sv 2) (sa_cons (se_op ok_plus (se_callB ok_len rfl T.b_len PySem.boot_len (sa_cons (sv 3) sa_nil)) se_int) sa_nil))))))⟩))
    (ss_cons (s_set (i := 13) sc__law_program.nd rfl (Or.inl rfl) (se_tup (sa_cons se_str (sa_cons (se_cal C__law_next (hr.mono (by decide)) rfl (sa_cons (sv 6) (sa_cons (se_op ok_plus (se_callB ok_len rfl T.b_len PySem.boot_len (sa_cons (sv 11) sa_nil)) se_int) sa_nil))) sa_nil))))
    (ss_cons (s_if (st_w (sw_and (st_cmp ok_gt (sv 10) se_int (nomark _)) (sw_and1 (st_cmp ok_gt (se_cal C__law_next (hr.mono (by decide)) rfl (sa_cons (sv 6) (sa_cons se_int sa_nil))) se_int (nomark _))))) (ss_one (s_set (i := 13) sc__law_program.nd rfl (Or.inl rfl) (se_tup (sa_cons se_str (sa_cons (se_cal C__law_next (hr.mono (by decide)) rfl (sa_cons (sv 6) (sa_cons (sv 10) sa_nil))) sa_nil))))) ss_nil)
    (ss_cons (s_set (i := 14) sc__law_program.nd rfl (Or.inl rfl) (se_callTy ok_tuple rfl T.b_tuple PyProof.Rows.boot_tuple (sa_cons (se_v (sn_comp rfl (N' := ["_law_k", "_law_f"]) (js := [none, some 8]) ⟨rfl, by decide +kernel, rfl, rfl, rfl⟩ (si_range1 rfl T.b_range (sa_cons (sv 10) sa_nil)) (fun s0 H0 fp => ⟨(sg_name (i := 0) (show (["_law_k", "_law_f"] : List Str).Nodup by decide +kernel) rfl (Or.inl rfl)), sf_nil, (se_op ok_mulS (se_ix ok_ix se_str (sv 0) (fun _ _ => rfl)) (se_op ok_plus se_int (sv 1)))⟩))) sa_nil)))
    (ss_one (s_expr (se_append (sv 7) (sa_cons (se_tup (sa_cons (se_op ok_catS se_str (se_op ok_mulS se_str (sv 8))) (sa_cons (sv 9) (sa_cons (sv 14) (sa_cons (se_callTy ok_tuple rfl T.b_tuple PyProof.Rows.boot_tuple (sa_cons (se_op ok_plus (sv 12) (se_v (sn_lst (sa_cons (sv 13) sa_nil)))) sa_nil)) sa_nil))))) sa_nil)))))))))))
    (ss_one (s_ret (sv 7))))))))) imp__law_program
noncomputable def b_Runner__do_row : DS := (dSeq (dAsg (dOp pIx (dUn (pFld "Runner" "frames") (dVar 0)) (dUn pNeg (dC (.int 1)))) (dName 1))
    (dSeq (dAsg (dOp pIx (dOp pIx (dOp pIx (dUn (pFld "Runner" "program") (dVar 0)) (dUn (pFld "Frame" "function") (dVar 1))) (dC (.int 3))) (dUn (pFld "Frame" "place") (dVar 1))) (dName 2))
    (dSeq (dAugF "Runner" "steps" (dVar 0) (dC (.int 1)) (pI0 fun i j => i + j))
    (dSeq (dIfS (dTst (dOp (pEq false) (dOp pIx (dVar 2) (dC (.int 0))) (dC (.str "return")))) (dRet (dMeth "Runner" "give_back" S_Runner__give_back (dVar 0) (dCons (dOp pIx (dVar 2) (dC (.int 1))) dNil))) dNext)
    (dSeq (dIfS (dTst (dOp (pEq false) (dOp pIx (dVar 2) (dC (.int 0))) (dC (.str "call")))) (dDrop (dMeth "Runner" "enter" S_Runner__enter (dVar 0) (dCons (dOp pIx (dVar 2) (dC (.int 2))) (dCons (dV (dComp [none, some 1] (dISeq (dOp pIx (dVar 2) (dC (.int 3)))) (dName 0) dNoIf (dOp pIx (dUn (pFld "Frame" "held") (dVar 1)) (dVar 0)))) (dCons (dV (dComp [none, some 1] (dISeq (dOp pIx (dVar 2) (dC (.int 3)))) (dName 0) dNoIf (dOp pIx (dUn (pFld "Frame" "dyes") (dVar 1)) (dVar 0)))) dNil))))) (dSeq (dDrop (dCal S_change (dCons (dVar 1) (dCons (dVar 2) dNil))))
    (dDrop (dMeth "Runner" "come_to" S_Runner__come_to (dVar 0) (dCons (dCal S_place_behind (dCons (dVar 1) (dCons (dVar 2) dNil))) dNil)))))
    (dRet (dC .non)))))))
noncomputable def Goes2 (P : Prog) (h : Hh) (r k : Nat) (es : List E4) (Q : DK) : St1 → Prop
  | .go x' rs' es' => ∀ h' n' fs', RAt P h' r (k + 1) ((n', x') :: fs') (es ++ es'.map fun e => (k + 1, e)) → fs'.map (·.2) = rs' → Kp r h h' → Q .non h'
  | .done v e => ∀ h', RAt P h' r (k + 1) [] (es ++ [(k + 1, e)]) → Kp r h h' → Q (.tup [.str "done", .int v]) h'
  | .no => False
noncomputable def S_Runner__do_row : DSp := fun ds h Q => ∃ (P : Prog) (r k n : Nat) (x : Fr) (fs : List (Nat × Fr)) (es : List E4), ds = [.ref r] ∧ WFP P ∧ RAt P h r k ((n, x) :: fs) es ∧ StOk P x (fs.map (·.2)) ∧ es.length ≤ 4000 ∧ fs.length ≤ 4000 ∧ Goes2 P h r k es Q (stepM P x (fs.map (·.2)))
theorem imp_Runner__do_row : ∀ ds h Q, S_Runner__do_row ds h Q → runD 3 b_Runner__do_row ds h Q := by
  rintro ds h Q ⟨P, r, k, n, x, fs, es, rfl, wf, R, ok, eb, fb, q⟩
  have rl := R.lt
  obtain ⟨f, hn⟩ := R.fa (n, x) List.mem_cons_self
  have hn : r + 3 ≤ n := hn
  obtain ⟨F, rw', hF, hr, hrow, h1, h2⟩ := ok.top.row
  obtain ⟨_, v4, _, _, rok, _⟩ := wf.fn _ F hF
  have ro := rok _ (List.mem_of_getElem? hr)
  have la : atI (((n, x) :: fs).reverse.map fun y : Nat × Fr => D.ref (y.1 + 2)) (-1) = some (.ref (n + 2)) := by rw [List.reverse_cons, List.map_append]; exact atLast _ _
  have ri : atI (F.rows.map rrD) (x.p : Int) = some (rrD rw') := by rw [atN, List.getElem?_map, hr]; rfl
  simp only [runD, b_Runner__do_row, List.map_cons, List.map_nil, List.cons_append, List.nil_append, List.length_cons, List.length_nil, List.replicate, Nat.reduceSub, Nat.reduceAdd, Nat.zero_add, Nat.sub_self]
  (try dsimp only); refine seq_intro fun N hN => ?_
  simp only [rn_frames R.o, ix_ls (lsOf_ref R.fr), la, VV1]
  subst hN
  (try dsimp only); refine seq_intro fun N hN => ?_
  simp only [rn_program R.o, fr_function f.c, fr_place f.c, pr_ix h hF, ri, VV1]
  subst hN
  (try dsimp only); refine seq_intro fun N hN => ?_
  have io := insO_ref R.o
  have lk : ([(Str.ofString "program", prD' P), (Str.ofString "frames", D.ref (r + 1)), (Str.ofString "steps", nD k), (Str.ofString "states", D.ref (r + 2))] : List (Str × D)).lookup (Str.ofString "steps") = some (nD k) := rfl
  simp only [io, lk, VV0]
  rw [show D.int ((k : Int) + 1) = nD (k + 1) by show D.int _ = D.int _; rw [Int.natCast_add]; rfl]
  refine rn_sets R.o ?_
  have R1 := R.steps (k + 1)
  have f1 : FAt (h.set r (rnO (prD' P) r (k + 1))) n x := f.far (by first | decide | omega)
  have k1 : Kp r h (h.set r (rnO (prD' P) r (k + 1))) := Kp.set (by first | decide | omega) (by first | decide | omega)
  clear io lk la ri R f
  generalize h.set r (rnO (prD' P) r (k + 1)) = h1' at R1 f1 k1
  have rl1 := R1.lt
  subst hN
  (try dsimp only); refine seq_intro fun N hN => ?_
  rcases rw_kind rw' with ⟨a, rfl⟩ | ⟨a, g, as, rfl⟩ | hp
  · simp only [rrD, VV2]
    refine ⟨rn_has R1.o rfl, P, r, k + 1, n, a, x, fs, es, F, rfl, wf, R1, hF, ok.top, ro, ok.rest, by first | decide | omega, by first | decide | omega, fun hfs h' R' K' => ?_, fun m c fs' F' b g as hfs hrc h' R' K' => ?_⟩
    · subst hfs
      unfold stepM at q
      rw [hrow] at q
      exact q h' R' (k1.trans K')
    · subst hfs
      unfold stepM at q
      rw [hrow] at q
      have e : ((m, c) :: fs').map (fun x : Nat × Fr => x.2) = c :: fs'.map (fun x : Nat × Fr => x.2) := rfl
      rw [e] at q
      dsimp only at q
      rw [hrc] at q
      exact q h' m fs' R' rfl (k1.trans K')
  · simp only [rrD, VV]
    subst hN
    (try dsimp only); refine seq_intro fun N hN => ?_
    (try dsimp only); refine if_intro fun A1 B1 hA hB => ?_
    simp only [rrD, VV]
    clear hB B1
    subst hA
    obtain ⟨ha, G, hG, lg, aa⟩ := ro
    have fa1 : h1'[n]? = some (.lst (x.held.map D.int)) := f1.a
    have fb1 : h1'[n + 1]? = some (.lst (x.dyes.map nD)) := f1.b
    obtain ⟨gg, gv, _⟩ := wf.fn _ G hG
    simp only [rrD, List.length_map, VV2]
    refine ⟨rn_has R1.o rfl, by first | decide | omega, ?_⟩
    refine comp1n (fun v : Nat => D.int (hl x v)) Src.ok_nil none (fun v hv K kk => ?_) ?_
    · have hv1 : v < x.held.length := by rw [h1]; exact aa v hv
      simp only [fr_held f1.c, ix_ls (lsOf_ref fa1), hl_ix hv1, VV1]
      exact kk
    refine ⟨by first | decide | omega, ?_⟩
    refine comp1n (fun v : Nat => nD (dy x v)) Src.ok_nil none (fun v hv K kk => ?_) ?_
    · have hv1 : v < x.dyes.length := by rw [h2]; exact aa v hv
      simp only [fr_dyes f1.c, ix_ls (lsOf_ref fb1), dy_ix hv1, VV1]
      exact kk
    rw [show as.map (fun v : Nat => D.int (hl x v)) = (as.map (hl x)).map D.int by rw [List.map_map]; rfl, show as.map (fun v : Nat => nD (dy x v)) = (as.map (dy x)).map nD by rw [List.map_map]; rfl]
    refine ⟨P, r, k + 1, g, _, as.map (hl x), as.map (dy x), G, (n, x) :: fs, es, rfl, rfl, R1, hG, by rw [List.length_map]; omega, gv, by rw [List.length_map]; omega, fun d hd => ?_, by first | decide | omega, by simp; omega, fun h' R' K' => ?_⟩
    · obtain ⟨b, hb, rfl⟩ := List.mem_map.mp hd
      exact ok.top.dy (by rw [h2]; exact aa b hb)
    · subst hN
      simp only [VV]
      unfold stepM at q
      rw [hrow] at q
      dsimp only at q
      rw [hG] at q
      rw [List.length_map] at R'
      exact q h' _ ((n, x) :: fs) R' rfl (k1.trans K')
  · obtain ⟨w, rest, ew, sw, w1, w2⟩ := plain_word hp
    have tst : ∀ h', ixD h' (rrD rw') (.int 0) = some (.str w) := fun h' => by
      rw [ew]
      show atI _ ((0 : Nat) : Int) = _
      rw [atN]; rfl
    simp only [tst, sw, w1, VV]
    subst hN
    (try dsimp only); refine seq_intro fun N hN => ?_
    (try dsimp only); refine if_intro fun A1 B1 hA hB => ?_
    simp only [tst, sw, w2, VV]
    clear hA A1
    subst hB
    (try dsimp only); refine seq_intro fun N2 hN2 => ?_
    simp only [VV]
    refine ⟨n, x, rw', rfl, f1, hp, rw_in ok.top h1 h2 ro, ?_⟩
    have R2 := R1.top (chg x rw')
    obtain ⟨f2, _⟩ := R2.fa _ List.mem_cons_self
    have k2 : Kp r h (frPut h1' n (chg x rw')) := k1.trans (Kp.frPut (by first | decide | omega) (by first | decide | omega))
    have okp := ok.top.plain wf hF hr hp
    subst hN2
    simp only [VV2]
    refine ⟨rn_has R2.o rfl, n, chg x rw', rw', rfl, f2, hp, fun a k' e => ?_, ?_⟩
    · subst e
      show a < x.held.length
      rw [h1]; exact ro.1
    refine ⟨P, r, k + 1, n, nxt (chg x rw') rw', chg x rw', fs, es, rfl, R2, okp.d1, ?_, by first | decide | omega, fun h' R' K' => ?_⟩
    · obtain ⟨F', hF', _, _, l2⟩ := okp.ex
      have e1 : (plainM x rw').f = x.f := by cases rw' <;> rfl
      rw [e1, hF] at hF'; cases hF'
      have : (chg x rw').dyes.length = F.vars.length := l2
      omega
    · subst hN
      simp only [VV]
      rw [stepM_plain hrow hp] at q
      exact q h' n fs R' rfl (k2.trans K')
theorem ok_Runner__do_row {f : Addr} {fd : FuncData} (F : Fun K "do_row" "Runner.do_row" s_Runner__do_row f fd) (T : Txt P w K mg) (C_Runner__give_back : CalM P w K mg base 2 "Runner" "give_back" ["self", "x"] (spD K 2 S_Runner__give_back)) (C_Runner__enter : CalM P w K mg base 3 "Runner" "enter" ["self", "g", "held", "dyes"] (spD K 4 S_Runner__enter)) (C_change : Cal P w K mg base 2 "change" ["frame", "row"] (spD K 2 S_change)) (C_Runner__come_to : CalM P w K mg base 1 "Runner" "come_to" ["self", "place"] (spD K 2 S_Runner__come_to)) (C_place_behind : Cal P w K mg base 1 "place_behind" ["frame", "row"] (spD K 2 S_place_behind)) : FnOk P w K mg base CX0 4 f fd ["self"] (spD K 1 S_Runner__do_row) :=
  fn_ok (k := 3) (b := b_Runner__do_row) F sc_Runner__do_row (fun cdv A outer s H E hr => (ss_cons (s_set (i := 1) sc_Runner__do_row.nd rfl (Or.inr rfl) (se_ix ok_ix (se_fld T.f_frames (sv 0)) (se_un ok_neg se_int) (fun _ _ => rfl)))
    (ss_cons (s_set (i := 2) sc_Runner__do_row.nd rfl (Or.inl rfl) (se_ix ok_ix (se_ix ok_ix (se_ix ok_ix (se_fld T.f_program (sv 0)) (se_fld T.f_function (sv 1)) (fun _ _ => rfl)) se_int (fun _ _ => rfl)) (se_fld T.f_place (sv 1)) (fun _ _ => rfl)))
    (ss_cons (s_fldaug T.f_steps (sv 0) se_int iok_add)
    (ss_cons (s_if (st_cmp (ok_eq hr.units) (se_ix ok_ix (sv 2) se_int (fun _ _ => rfl)) se_str (nomark _)) (ss_one (s_ret (se_meth C_Runner__give_back (hr.mono (by decide)) (sv 0) (sa_cons (se_ix ok_ix (sv 2) se_int (fun _ _ => rfl)) sa_nil)))) ss_nil)
    (ss_cons (s_if (st_cmp (ok_eq hr.units) (se_ix ok_ix (sv 2) se_int (fun _ _ => rfl)) se_str (nomark _)) (ss_one (s_expr (se_meth C_Runner__enter (hr.mono (by decide)) (sv 0) (sa_cons (se_ix ok_ix (sv 2) se_int (fun _ _ => rfl)) (sa_cons (se_v (sn_comp rfl (N' := ["v", "frame"]) (js := [none, some 1]) ⟨rfl, by decide +kernel, rfl, rfl, rfl⟩ (si_seq (se_ix ok_ix (sv 2) se_int (fun _ _ => rfl))) (fun s0 H0 fp => ⟨(sg_name (i := 0) (show (["v", "frame"] : List Str).Nodup by decide +kernel) rfl (Or.inl rfl)), sf_nil, (se_ix ok_ix (se_fld T.f_held (sv 1)) (sv 0) (fun _ _ => rfl))⟩))) (sa_cons (se_v (sn_comp rfl (N' := ["v", "frame"]) (js := [none, some 1]) ⟨rfl, by decide +kernel, rfl, rfl, rfl⟩ (si_seq (se_ix ok_ix (sv 2) se_int (fun _ _ => rfl))) (fun s0 H0 fp => ⟨(sg_name (i := 0) (show (["v", "frame"] : List Str).Nodup by decide +kernel) rfl (Or.inl rfl)), sf_nil, (se_ix ok_ix (se_fld T.f_dyes (sv 1)) (sv 0) (fun _ _ => rfl))⟩))) sa_nil)))))) (ss_cons (s_expr (se_cal C_change (hr.mono (by decide)) rfl (sa_cons (sv 1) (sa_cons (sv 2) sa_nil))))
    (ss_one (s_expr (se_meth C_Runner__come_to (hr.mono (by decide)) (sv 0) (sa_cons (se_cal C_place_behind (hr.mono (by decide)) rfl (sa_cons (sv 1) (sa_cons (sv 2) sa_nil))) sa_nil))))))
    (ss_one (s_ret se_non)))))))) imp_Runner__do_row
noncomputable def b_run : DS := (dSeq (dAsg (dMake "Runner" S_Runner____init__ (dCons (dVar 0) dNil)) (dName 4))
    (dSeq (dDrop (dMeth "Runner" "enter" S_Runner__enter (dVar 4) (dCons (dC (.int 0)) (dCons (dVar 1) (dCons (dV (dComp [none, some 2] (dIRange (dCons (dOp pIx (dOp pIx (dVar 0) (dC (.int 0))) (dC (.int 1))) dNil)) (dName 0) dNoIf (dOp pBand (dOp pShr (dVar 1) (dVar 0)) (dC (.int 1))))) dNil)))))
    (dSeq (dAsg (dC .non) (dName 5))
    (dSeq (dWhile (dTst (dOp (pIs false) (dVar 5) (dC .non))) (dAsg (dIf (dTst (dOp pGe (dUn (pFld "Runner" "steps") (dVar 4)) (dVar 3))) (dTup (dCons (dC (.str "spent")) dNil)) (dMeth "Runner" "do_row" S_Runner__do_row (dVar 4) dNil)) (dName 5)))
    (dRet (dTup (dCons (dUn (pFld "Runner" "states") (dVar 4)) (dCons (dVar 5) dNil))))))))
noncomputable def S_run : DSp := fun ds h Q => ∃ (P : Prog) (vd : D) (vs : List Int) (dyed most : Nat) (F : PF), ds = [prD' P, vd, nD dyed, nD most] ∧ lsP h vd = some (vs.map D.int) ∧ WFP P ∧ P[0]? = some F ∧ vs.length = F.given ∧ (∀ v ∈ vs, 0 ≤ v ∧ v < 1000000000000000000) ∧ most ≤ 1000 ∧
  Q (.tup [.lst ((runM P most 0 (fst0 F vs dyed) [] [(0, ent (fst0 F vs dyed))]).1.map stD), endD (runM P most 0 (fst0 F vs dyed) [] [(0, ent (fst0 F vs dyed))]).2]) h
theorem imp_run : ∀ ds h Q, S_run ds h Q → runD 6 b_run ds h (Dr h Q) := by
  rintro ds h Q ⟨P, vd, vs, dyed, most, F, rfl, hvd, wf, hF, hv, v18, hm, q⟩
  obtain ⟨gl, v4, r1, _⟩ := wf.fn 0 F hF
  simp only [runD, b_run, List.map_cons, List.map_nil, List.cons_append, List.nil_append, List.length_cons, List.length_nil, List.replicate, Nat.reduceSub, Nat.reduceAdd, Nat.zero_add, Nat.sub_self]
  (try dsimp only); refine seq_intro fun N hN => ?_
  simp only [VV]
  refine ⟨h, prD' P, rfl, rfl, rfl, ?_⟩
  have R0 : RAt P (h ++ [rnO (prD' P) h.length 0, .lst [], .lst []]) h.length 0 [] [] := by
    refine ⟨?_, ?_, ?_, fun y hy => (nomatch hy), .nil⟩
    · rw [List.getElem?_append_right (Nat.le_refl _), Nat.sub_self]; rfl
    · rw [List.getElem?_append_right (by first | decide | omega), show h.length + 1 - h.length = 1 by first | decide | omega]; rfl
    · rw [List.getElem?_append_right (by first | decide | omega), show h.length + 2 - h.length = 2 by first | decide | omega]; rfl
  have k0 : Kp h.length h (h ++ [rnO (prD' P) h.length 0, .lst [], .lst []]) := Kp.app (Nat.le_refl _)
  generalize h ++ [rnO (prD' P) h.length 0, O.lst [], O.lst []] = h0 at R0 k0
  subst hN
  (try dsimp only); refine seq_intro fun N hN => ?_
  have ix0 : ixD h0 (prD' P) (.int 0) = some (.tup [F.name, nD F.given, .tup F.vars, .tup (F.rows.map rrD)]) := pr_ix h0 hF
  simp only [ix0, VV2]
  refine ⟨rn_has R0.o rfl, ⟨by first | decide | omega, by first | decide | omega⟩, by rw [rangeD_length]; omega, ?_⟩
  rw [rangeD_map, Int.toNat_natCast]
  refine comp1n (fun v : Nat => nD (dyed >>> v % 2)) Src.ok_nil none (fun v hv K kk => ?_) ?_
  · simp only [VV]
    refine ⟨by first | decide | omega, ?_⟩
    rw [show (0 + (v : Int)).toNat = v by first | decide | omega, bitV]
    exact kk
  rw [show (List.range F.given).map (fun v : Nat => nD (dyed >>> v % 2)) = ((List.range F.given).map fun v => dyed >>> v % 2).map nD by rw [List.map_map]; rfl]
  have y1 : ∀ d ∈ (List.range F.given).map (fun v => dyed >>> v % 2), d ≤ 1 := fun d hd => by
    obtain ⟨b, _, rfl⟩ := List.mem_map.mp hd
    omega
  refine ⟨P, h.length, 0, 0, vd, vs, _, F, [], [], rfl, kp_lsP k0 hvd, R0, hF, by first | decide | omega, v4, by simp; omega, y1, by simp, by simp, fun h1 R1 K1 => ?_⟩
  have R1 : RAt P h1 h.length 0 ((h0.length, fst0 F vs dyed) :: []) [(0, ent (fst0 F vs dyed))] := R1
  have ok0 := fst_ok dyed wf hF hv v18
  subst hN
  (try dsimp only); refine seq_intro fun N hN => ?_
  simp only [VV]
  subst hN
  (try dsimp only); refine seq_intro fun N hN => ?_
  refine while_by (fun m δ h' => ∃ (k : Nat) (d : D) (es : List E4), δ = [some (prD' P), some vd, some (nD dyed), some (nD most), some (.ref h.length), some d] ∧ Kp h.length h h' ∧ k ≤ most ∧ es.length ≤ 1 + 2 * k ∧
    ((d = .non ∧ m = most - k + 1 ∧ ∃ n x fs, RAt P h' h.length k ((n, x) :: fs) es ∧ StOk P x (fs.map (·.2)) ∧ fs.length ≤ k ∧ runM P (most - k) k x (fs.map (·.2)) es = runM P most 0 (fst0 F vs dyed) [] [(0, ent (fst0 F vs dyed))]) ∨
     (m = 0 ∧ (∃ fs, RAt P h' h.length k fs es) ∧ ∃ e, d = endD e ∧ runM P most 0 (fst0 F vs dyed) [] [(0, ent (fst0 F vs dyed))] = (es, e)))) (m := most + 1) ⟨0, .non, _, rfl, k0.trans K1, Nat.zero_le _, by simp, .inl ⟨rfl, rfl, _, _, _, R1, ok0, Nat.le_refl _, rfl⟩⟩ ?_
  rintro m δ h' N1 ⟨k, d, es, rfl, kp, hk, el, ⟨rfl, rfl, n, x, fs, R, ok, fl, er⟩ | ⟨rfl, ⟨fs, R⟩, e, rfl, er⟩⟩ hN1
  · simp only [rn_steps R.o, VV3]
    refine iteB (fun c => ?_) (fun c => ?_)
    · have c := of_decide_eq_true c
      have : k = most := by first | decide | omega
      subst this
      rw [Nat.sub_self] at er
      exact hN1 0 _ _ (by first | decide | omega) ⟨k, endD none, es, rfl, kp, hk, el, .inr ⟨rfl, ⟨_, R⟩, none, rfl, er.symm⟩⟩
    · have c := of_decide_eq_false c
      have st := step_ok wf ok
      refine ⟨rn_has R.o rfl, P, h.length, k, n, x, fs, es, rfl, wf, R, ok, by first | decide | omega, by first | decide | omega, ?_⟩
      rw [show most - k = (most - (k + 1)) + 1 by first | decide | omega, runM_succ] at er
      cases s : stepM P x (fs.map (·.2)) with
      | go x' rs' es' =>
        rw [s] at st er
        intro h2 n' fs' R' hfs K'
        have l1 : fs'.length = rs'.length := by rw [← hfs, List.length_map]
        have l2 := st.2.2
        rw [List.length_map] at l2
        exact hN1 (most - (k + 1) + 1) _ _ (by first | decide | omega) ⟨k + 1, .non, _, rfl, kp.trans K', by first | decide | omega, by have := st.2.1; simp; omega, .inl ⟨rfl, rfl, n', x', fs', R', by rw [hfs]; exact st.1, by first | decide | omega, by rw [hfs]; exact er⟩⟩
      | done v e =>
        rw [s] at er
        intro h2 R' K'
        exact hN1 0 _ _ (by first | decide | omega) ⟨k + 1, endD (some v), es ++ [(k + 1, e)], rfl, kp.trans K', by first | decide | omega, by simp; omega, .inr ⟨rfl, ⟨_, R'⟩, some v, rfl, er.symm⟩⟩
      | no => rw [s] at st; exact st
  · have nn : isNon (endD e) = false := by cases e <;> rfl
    simp only [nn, VV]
    subst hN
    simp only [rn_states R.o, VV1]
    rw [er] at q
    exact Dr_run kp R.st (by first | decide | omega) q
theorem ok_run {f : Addr} {fd : FuncData} (F : Fun K "run" "run" s_run f fd) (T : Txt P w K mg) (C_Runner__enter : CalM P w K mg base 3 "Runner" "enter" ["self", "g", "held", "dyes"] (spD K 4 S_Runner__enter)) (C_Runner__do_row : CalM P w K mg base 4 "Runner" "do_row" ["self"] (spD K 1 S_Runner__do_row)) (M_Runner : MakeX P w K mg base 1 "Runner" ["self", "program"] (spD K 2 S_Runner____init__)) : FnOk P w K mg base CX0 5 f fd ["program", "values", "dyed", "most"] (spD K 4 S_run) :=
  fn_okD (k := 4) (b := b_run) F sc_run (fun cdv A outer s H E hr => (ss_cons (s_set (i := 4) sc_run.nd rfl (Or.inl rfl) (se_make M_Runner (hr.mono (by decide)) rfl (sa_cons (sv 0) sa_nil)))
    (ss_cons (s_expr (se_meth C_Runner__enter (hr.mono (by decide)) (sv 4) (sa_cons se_int (sa_cons (sv 1) (sa_cons (se_v (sn_comp rfl (N' := ["v", "dyed"]) (js := [none, some 2]) ⟨rfl, by decide +kernel, rfl, rfl, rfl⟩ (si_range1 rfl T.b_range (sa_cons (se_ix ok_ix (se_ix ok_ix (sv 0) se_int (fun _ _ => rfl)) se_int (fun _ _ => rfl)) sa_nil)) (fun s0 H0 fp => ⟨(sg_name (i := 0) (show (["v", "dyed"] : List Str).Nodup by decide +kernel) rfl (Or.inl rfl)), sf_nil, (se_op ok_band (se_op ok_shr (sv 1) (sv 0)) se_int)⟩))) sa_nil)))))
    (ss_cons (s_set (i := 5) sc_run.nd rfl (Or.inl rfl) se_non)
    (ss_cons (s_while PassesOwn.never (st_cmp ok_is (sv 5) se_non (nomark _)) (ss_one (s_set (i := 5) sc_run.nd rfl (Or.inl rfl) (se_if (st_cmp ok_ge (se_fld T.f_steps (sv 4)) (sv 3) (nomark _)) (se_tup (sa_cons se_str sa_nil)) (se_meth0 C_Runner__do_row (hr.mono (by decide)) (sv 4))))))
    (ss_one (s_ret (se_tup (sa_cons (se_fld T.f_states (sv 4)) (sa_cons (sv 5) sa_nil)))))))))) imp_run
noncomputable def b_law : DS := (dSeq (dAsg (dCal S__law_program (dCons (dVar 0) (dCons (dC (.int 6)) (dCons (dC (.int 4)) (dCons (dV (dListRng (dCons (dC (.int 3)) (dCons (dCB pMin (dCons (dCB pLen (dCons (dVar 0) dNil)) (dCons (dC (.int 63)) dNil))) dNil)))) dNil))))) (dName 1))
    (dSeq (dAsg (dCal S__law_values (dCons (dVar 0) (dCons (dOp pIx (dOp pIx (dVar 1) (dC (.int 0))) (dC (.int 1))) dNil))) (dUnp 2 (dGCons (dName 2) (dGCons (dName 3) dGNil))))
    (dSeq (dAsg (dCal S__law_next (dCons (dVar 3) (dCons (dC (.int 16)) dNil))) (dName 4))
    (dSeq (dAsg (dCal S__law_next (dCons (dVar 3) (dCons (dC (.int 16)) dNil))) (dName 5))
    (dSeq (dAsg (dCal S__law_next (dCons (dVar 3) (dCons (dOp pIx (dV (dCons (dC (.int 40)) (dCons (dC (.int 401)) dNil))) (dCB pInt (dCons (dOp (pEq false) (dCal S__law_next (dCons (dVar 3) (dCons (dC (.int 8)) dNil))) (dC (.int 1))) dNil))) dNil))) (dName 6))
    (dSeq (dAsg (dCal S__law_next (dCons (dVar 3) (dCons (dOp pPlus (dVar 6) (dC (.int 1))) dNil))) (dName 7))
    (dSeq (dAsg (dCal S_run (dCons (dVar 1) (dCons (dVar 2) (dCons (dVar 4) (dCons (dVar 6) dNil))))) (dName 8))
    (dSeq (dAsg (dCal S_run (dCons (dVar 1) (dCons (dVar 2) (dCons (dVar 5) (dCons (dVar 6) dNil))))) (dName 9))
    (dSeq (dAsg (dCal S_run (dCons (dVar 1) (dCons (dVar 2) (dCons (dOp pBor (dVar 4) (dVar 5)) (dCons (dVar 6) dNil))))) (dName 10))
    (dSeq (dAsg (dCal S_run (dCons (dVar 1) (dCons (dVar 2) (dCons (dC (.int 0)) (dCons (dVar 6) dNil))))) (dName 11))
    (dSeq (dIfS (dOr (dTst (dOp (pEq true) (dOp pIx (dVar 8) (dC (.int 1))) (dOp pIx (dVar 10) (dC (.int 1))))) (dOr (dTst (dOp (pEq true) (dOp pIx (dVar 9) (dC (.int 1))) (dOp pIx (dVar 10) (dC (.int 1))))) (dTst (dOp (pEq true) (dOp pIx (dVar 11) (dC (.int 1))) (dOp pIx (dVar 10) (dC (.int 1))))))) (dRet (dC (.bl false))) dNext)
    (dSeq (dIfS (dOr (dTst (dOp (pEq true) (dCB pLen (dCons (dOp pIx (dVar 8) (dC (.int 0))) dNil)) (dCB pLen (dCons (dOp pIx (dVar 10) (dC (.int 0))) dNil)))) (dOr (dTst (dOp (pEq true) (dCB pLen (dCons (dOp pIx (dVar 9) (dC (.int 0))) dNil)) (dCB pLen (dCons (dOp pIx (dVar 10) (dC (.int 0))) dNil)))) (dTst (dOp (pEq true) (dCB pLen (dCons (dOp pIx (dVar 11) (dC (.int 0))) dNil)) (dCB pLen (dCons (dOp pIx (dVar 10) (dC (.int 0))) dNil)))))) (dRet (dC (.bl false))) dNext)
    (dSeq (dFor (dIRange (dCons (dCB pLen (dCons (dOp pIx (dVar 10) (dC (.int 0))) dNil)) dNil)) (dName 12) (dSeq (dFor (dISeq (dV (dCons (dOp pIx (dOp pIx (dVar 8) (dC (.int 0))) (dVar 12)) (dCons (dOp pIx (dOp pIx (dVar 9) (dC (.int 0))) (dVar 12)) (dCons (dOp pIx (dOp pIx (dVar 11) (dC (.int 0))) (dVar 12)) dNil))))) (dName 13) (dIfS (dOr (dTst (dOp (pEq true) (dSl (dVar 13) dNoPart (dPart (dC (.int 3)))) (dSl (dOp pIx (dOp pIx (dVar 10) (dC (.int 0))) (dVar 12)) dNoPart (dPart (dC (.int 3)))))) (dTst (dOp (pEq true) (dOp pBand (dOp pIx (dOp pIx (dOp pIx (dVar 11) (dC (.int 0))) (dVar 12)) (dC (.int 3))) (dOp pIx (dVar 13) (dC (.int 3)))) (dOp pIx (dOp pIx (dOp pIx (dVar 11) (dC (.int 0))) (dVar 12)) (dC (.int 3)))))) (dRet (dC (.bl false))) dNext))
    (dIfS (dTst (dOp (pEq true) (dOp pBor (dOp pIx (dOp pIx (dOp pIx (dVar 8) (dC (.int 0))) (dVar 12)) (dC (.int 3))) (dOp pIx (dOp pIx (dOp pIx (dVar 9) (dC (.int 0))) (dVar 12)) (dC (.int 3)))) (dOp pIx (dOp pIx (dOp pIx (dVar 10) (dC (.int 0))) (dVar 12)) (dC (.int 3))))) (dRet (dC (.bl false))) dNext)))
    (dSeq (dFor (dISeq (dV (dCons (dTup (dCons (dVar 8) (dCons (dVar 4) dNil))) (dCons (dTup (dCons (dVar 10) (dCons (dOp pBor (dVar 4) (dVar 5)) dNil))) dNil)))) (dUnp 2 (dGCons (dName 14) (dGCons (dName 15) dGNil))) (dIfS (dTst (dOp (pEq true) (dCal S_run (dCons (dVar 1) (dCons (dVar 2) (dCons (dVar 15) (dCons (dVar 7) dNil))))) (dCal S__law_cut (dCons (dVar 14) (dCons (dVar 7) dNil))))) (dRet (dC (.bl false))) dNext))
    (dRet (dC (.bl true)))))))))))))))))
noncomputable def S_law : DSp := runD 16 b_law
theorem imp_law : ∀ ds h Q, S_law ds h Q → runD 16 b_law ds h Q := fun _ _ _ h => h
theorem law_true (ns : List Int) (hl : ns.length ≤ 63) (hb : ∀ x ∈ ns, Builtin.Int.intBits x ≤ 1048576) : S_law [.scr (ns.map D.int)] [] (fun v _ => v = .bl true) := by
  unfold S_law
  simp only [runD, b_law, List.map_cons, List.map_nil, List.cons_append, List.nil_append, List.length_cons, List.length_nil, List.replicate, Nat.reduceSub, Nat.reduceAdd, Nat.zero_add, Nat.sub_self]
  (try dsimp only); refine seq_intro fun N hN => ?_
  simp only [List.length_map, VV]
  have mn : (if (63 : Int) < (ns.length : Int) then (63 : Int) else (ns.length : Int)) = ns.length := if_neg (by first | decide | omega)
  rw [mn]
  refine ⟨⟨by decide, by decide, by first | decide | omega, by first | decide | omega⟩, by first | decide | omega, ?_⟩
  refine ⟨ns, ((ns.length : Int) - 3).toNat, rfl, hl, hb, by first | decide | omega, fun P wf nm => ?_⟩
  obtain ⟨F, hF⟩ : ∃ F, P[0]? = some F := ⟨_, List.getElem?_eq_getElem (by have := wf.one; omega)⟩
  have ix0 : ∀ h0 : Hh, ixD h0 (prD' P) (.int 0) = some (.tup [F.name, nD F.given, .tup F.vars, .tup (F.rows.map rrD)]) := fun h0 => pr_ix h0 hF
  obtain ⟨g1, v4, _⟩ := wf.fn 0 F hF
  subst hN
  (try dsimp only); refine seq_intro fun N hN => ?_
  simp only [ix0, VV]
  refine ⟨ns, F.given, rfl, hl, hb, by first | decide | omega, fun vs n s b hv v18 n0 => ?_⟩
  simp only [VV]
  refine ⟨trivial, ?_⟩
  have nx : ∀ (n1 s1 m : Int) (Q' : DK), 0 ≤ n1 → (0 < m ∧ m ≤ 1000000000000000000) → (∀ (n' s' : Int) (r : Nat), 0 ≤ n' → (r : Int) < m → Q' (nD r) [stO n' s' b, .lst (vs.map D.int)]) → S__law_next [.ref 0, .int m] [stO n1 s1 b, .lst (vs.map D.int)] Q' := fun n1 s1 m Q' h1 hm k => ⟨0, n1, s1, m, b, rfl, rfl, h1, hm, fun n' s' r a c => k n' s' r a c⟩
  subst hN
  (try dsimp only); refine seq_intro fun N hN => ?_
  simp only [VV]
  refine nx _ _ _ _ n0 ⟨by decide, by decide⟩ fun n1 s1 one k1 _ => ?_
  subst hN
  (try dsimp only); refine seq_intro fun N hN => ?_
  simp only [VV]
  refine nx _ _ _ _ k1 ⟨by decide, by decide⟩ fun n2 s2 oth k2 _ => ?_
  subst hN
  (try dsimp only); refine seq_intro fun N hN => ?_
  simp only [VV]
  refine nx _ _ _ _ k2 ⟨by decide, by decide⟩ fun n3 s3 c3 k3 _ => ?_
  simp only [VV]
  have pick : ∃ m : Int, atI [D.int 40, D.int 401] (if ((c3 : Int) == 1) = true then 1 else 0) = some (.int m) ∧ 0 < m ∧ m ≤ 401 := by
    cases ((c3 : Int) == 1) with
    | true => exact ⟨401, rfl, by decide, by decide⟩
    | false => exact ⟨40, rfl, by decide, by decide⟩
  obtain ⟨m, em, m0, m1⟩ := pick
  rw [em]
  refine nx _ _ _ _ k3 ⟨m0, by first | decide | omega⟩ fun n4 s4 bound k4 hb4 => ?_
  have b400 : bound ≤ 400 := by first | decide | omega
  subst hN
  (try dsimp only); refine seq_intro fun N hN => ?_
  simp only [VV]
  refine nx _ _ _ _ k4 ⟨by first | decide | omega, by first | decide | omega⟩ fun n5 s5 few k5 hf5 => ?_
  have fb : few ≤ bound := by first | decide | omega
  clear em m0 m1 hb4 hf5 nx
  generalize hH : [stO n5 s5 b, O.lst (vs.map D.int)] = H
  have lv : lsP H (.ref 1) = some (vs.map D.int) := by rw [← hH]; rfl
  clear hH
  have rn : ∀ (d k : Nat) (K : DK), k ≤ 1000 → K (rsD (runM P k 0 (fst0 F vs d) [] [(0, ent (fst0 F vs d))])) H → S_run [prD' P, .ref 1, nD d, nD k] H K := fun d k K hk kk => ⟨P, .ref 1, vs, d, k, F, rfl, lv, wf, hF, hv, v18, hk, kk⟩
  have E0 : E4r (0, ent (fst0 F vs one)) (0, ent (fst0 F vs oth)) (0, ent (fst0 F vs (one ||| oth))) (0, ent (fst0 F vs 0)) := ⟨⟨rfl, rfl, rfl⟩, (fst4 one oth).ent⟩
  have R := run4 (P := P) bound 0 (fst4 (F := F) (vs := vs) one oth) .nil (.cons E0 .nil)
  have cut : ∀ d : Nat, runM P few 0 (fst0 F vs d) [] [(0, ent (fst0 F vs d))] = cutM few (runM P bound 0 (fst0 F vs d) [] [(0, ent (fst0 F vs d))]) := fun d => by
    have := cut_run (P := P) few bound 0 (fst0 F vs d) [] [(0, ent (fst0 F vs d))] fb (fun e he => by rw [List.mem_singleton.mp he]; exact Nat.le_refl _)
    rwa [Nat.zero_add] at this
  have ne : ∀ d : Nat, (runM P bound 0 (fst0 F vs d) [] [(0, ent (fst0 F vs d))]).1 ≠ [] ∧ (runM P bound 0 (fst0 F vs d) [] [(0, ent (fst0 F vs d))]).1.length ≤ 10000 := fun d => by
    obtain ⟨t, e, _⟩ := tail_gt (P := P) bound 0 (fst0 F vs d) [] [(0, ent (fst0 F vs d))]
    refine ⟨by rw [e]; simp, ?_⟩
    have := run_len (P := P) bound 0 (fst0 F vs d) [] [(0, ent (fst0 F vs d))]
    simp at this
    omega
  have i0 : ∀ (h : Hh) (r : List E4 × Option Int), ixD h (rsD r) (.int 0) = some (.lst (r.1.map stD)) := fun _ _ => rfl
  have i1 : ∀ (h : Hh) (r : List E4 × Option Int), ixD h (rsD r) (.int 1) = some (endD r.2) := fun _ _ => rfl
  subst hN
  (try dsimp only); refine seq_intro fun N hN => ?_
  simp only [VV]
  refine rn one bound _ (by first | decide | omega) ?_
  subst hN
  (try dsimp only); refine seq_intro fun N hN => ?_
  simp only [VV]
  refine rn oth bound _ (by first | decide | omega) ?_
  subst hN
  (try dsimp only); refine seq_intro fun N hN => ?_
  simp only [pBor, VV]
  rw [bor_nat]
  refine rn (one ||| oth) bound _ (by first | decide | omega) ?_
  subst hN
  (try dsimp only); refine seq_intro fun N hN => ?_
  simp only [VV]
  refine rn 0 bound _ (by first | decide | omega) ?_
  have rb := fun d => (ne d).1
  have rl := fun d => (ne d).2
  clear ne
  generalize hRf : (fun d : Nat => runM P bound 0 (fst0 F vs d) [] [(0, ent (fst0 F vs d))]) = Rf
  have hR : ∀ d, runM P bound 0 (fst0 F vs d) [] [(0, ent (fst0 F vs d))] = Rf d := fun d => congrFun hRf d
  rw [hR, hR, hR, hR] at R
  simp only [hR] at cut rb rl
  rw [hR, hR, hR, hR]
  clear hRf hR
  obtain ⟨A, e1, e2, e4⟩ := R
  obtain ⟨la, lb, ld⟩ := A.len
  have eqe : ∀ e, eqS (endD e) (endD e) = none := fun e => by cases e <;> rfl
  subst hN
  (try dsimp only); refine seq_intro fun N hN => ?_
  simp only [i1, VV4]
  rw [e1, e2, e4]
  refine pEq_same (eqe _) (pd_end _ _) (pd_end _ _) (by decide) ?_
  simp only [i1, VV4]
  refine pEq_same (eqe _) (pd_end _ _) (pd_end _ _) (by decide) ?_
  simp only [i1, VV4]
  refine pEq_same (eqe _) (pd_end _ _) (pd_end _ _) (by decide) ?_
  simp only [VV]
  subst hN
  (try dsimp only); refine seq_intro fun N hN => ?_
  simp only [i0, List.length_map, la, lb, ld, beq_self_eq_true, VV]
  have c3 : ∀ x y z w : D, cutD [x, y, z, w] none (some 3) = [x, y, z] := fun _ _ _ _ => rfl
  have l100 := rl (one ||| oth)
  subst hN
  (try dsimp only); refine seq_intro fun N hN => ?_
  simp only [i0, List.length_map, VV]
  refine ⟨⟨by first | decide | omega, by first | decide | omega⟩, ?_⟩
  rw [rangeD_map, Int.toNat_natCast]
  refine forL_map (fun p δ h' => h' = H ∧ ∃ x12 x13, δ = [some (.scr (ns.map D.int)), some (prD' P), some (.ref 1), some (.ref 0), some (nD one), some (nD oth), some (nD bound), some (nD few), some (rsD (Rf one)), some (rsD (Rf oth)), some (rsD (Rf (one ||| oth))), some (rsD (Rf 0)), x12, x13, none, none]) ⟨rfl, _, _, rfl⟩ (fun _ _ _ _ => Src.ok_nil) ?_ ?_
  · rintro p y r δ h' N1 e ⟨rfl, x12, x13, rfl⟩ hN1
    obtain ⟨rfl, hy⟩ := range_split e
    clear hN
    obtain ⟨a, b', c, d, ha, hb', hc, hd, ⟨⟨q1, q2, q3⟩, ⟨q4, q5, q6⟩, ⟨q7, q8, q9⟩, m1, m2, m3⟩⟩ := A.get p.length hy
    have aa : atI ((Rf one).1.map stD) (p.length : Int) = some (stD a) := by rw [atN, List.getElem?_map, ha]; rfl
    have ab : atI ((Rf oth).1.map stD) (p.length : Int) = some (stD b') := by rw [atN, List.getElem?_map, hb']; rfl
    have ac : atI ((Rf (one ||| oth)).1.map stD) (p.length : Int) = some (stD c) := by rw [atN, List.getElem?_map, hc]; rfl
    have ad : atI ((Rf 0).1.map stD) (p.length : Int) = some (stD d) := by rw [atN, List.getElem?_map, hd]; rfl
    have G : ∀ y ∈ [a, b', d], y.1 = c.1 ∧ y.2.1 = c.2.1 ∧ y.2.2.1 = c.2.2.1 ∧ d.2.2.2 &&& y.2.2.2 = d.2.2.2 := fun y hy => by
      simp only [List.mem_cons, List.not_mem_nil, or_false] at hy
      rcases hy with rfl | rfl | rfl
      · exact ⟨q1.trans q3.symm, q4.trans q6.symm, q7.trans q9.symm, m2⟩
      · exact ⟨q2.trans q3.symm, q5.trans q6.symm, q8.trans q9.symm, m3⟩
      · exact ⟨q3.symm, q6.symm, q9.symm, Nat.and_self _⟩
    simp only [VV]
    rw [Int.zero_add]
    (try dsimp only); refine seq_intro fun N2 hN2 => ?_
    simp only [i0, aa, ab, ad, VV]
    refine forL_map (ys := [a, b', d]) (g := stD) (fun p' δ h'' => h'' = h' ∧ ∃ x13, δ = [some (.scr (ns.map D.int)), some (prD' P), some (.ref 1), some (.ref 0), some (nD one), some (nD oth), some (nD bound), some (nD few), some (rsD (Rf one)), some (rsD (Rf oth)), some (rsD (Rf (one ||| oth))), some (rsD (Rf 0)), some (.int (p.length : Int)), x13, none, none]) ⟨rfl, _, rfl⟩ (fun _ _ _ _ => Src.ok_nil) ?_ ?_
    · rintro p' y r' δ h'' N3 e' ⟨rfl, x13, rfl⟩ hN3
      obtain ⟨g1, g2, g3, g4⟩ := G y (by rw [e']; simp)
      clear hN2
      simp only [i0, ac, ad, stD, c3, VV4]
      rw [g1, g2, g3]
      refine pEq_same rfl (n := 1) (p := .tuple [.int c.1, .int c.2.1, .int c.2.2.1]) (.tup (.cons (.int _) (.cons (.int _) (.cons (.int _) .nil)))) (.tup (.cons (.int _) (.cons (.int _) (.cons (.int _) .nil)))) (by decide) ?_
      simp only [i0, ad, stD, pBand, band_nat, g4, beq_self_eq_true, VV]
      exact hN3 _ _ ⟨rfl, _, rfl⟩
    · rintro δ h'' ⟨rfl, x13, rfl⟩
      subst hN2
      simp only [i0, aa, ab, ac, stD, pBor, bor_nat, m1, beq_self_eq_true, VV]
      exact hN1 _ _ ⟨rfl, _, _, rfl⟩
  · rintro δ h' ⟨rfl, x12, x13, rfl⟩
    subst hN
    (try dsimp only); refine seq_intro fun N hN => ?_
    simp only [pBor, VV]
    rw [bor_nat]
    refine forL_map (ys := [one, one ||| oth]) (g := fun d : Nat => .tup [rsD (Rf d), nD d]) (fun p' δ h'' => h'' = h' ∧ ∃ x14 x15, δ = [some (.scr (ns.map D.int)), some (prD' P), some (.ref 1), some (.ref 0), some (nD one), some (nD oth), some (nD bound), some (nD few), some (rsD (Rf one)), some (rsD (Rf oth)), some (rsD (Rf (one ||| oth))), some (rsD (Rf 0)), x12, x13, x14, x15]) ⟨rfl, _, _, rfl⟩ (fun _ _ _ _ => Src.ok_nil) ?_ ?_
    · rintro p' d r' δ h'' N3 e' ⟨rfl, x14, x15, rfl⟩ hN3
      clear hN
      simp only [VV4]
      refine ⟨trivial, ?_⟩
      refine rn d few _ (by first | decide | omega) ?_
      refine ⟨Rf d, few, rfl, rb d, rl d, ?_⟩
      rw [← cut d]
      refine pEq_same rfl (pd_run _ _ _) (pd_run _ _ _) (by decide) ?_
      simp only [VV]
      exact hN3 _ _ ⟨rfl, _, _, rfl⟩
    · rintro δ h'' ⟨rfl, x14, x15, rfl⟩
      subst hN
      simp only [VV]
theorem ok_law {f : Addr} {fd : FuncData} (F : Fun K "law" "law" s_law f fd) (T : Txt P w K mg) (C__law_program : Cal P w K mg base 4 "_law_program" ["_law_script", "_law_functions", "_law_variables", "_law_cells"] (spD K 4 S__law_program)) (C__law_values : Cal P w K mg base 3 "_law_values" ["_law_script", "_law_given"] (spD K 2 S__law_values)) (C__law_next : Cal P w K mg base 1 "_law_next" ["_law_state_here", "_law_many"] (spD K 2 S__law_next)) (C_run : Cal P w K mg base 5 "run" ["program", "values", "dyed", "most"] (spD K 4 S_run)) (C__law_cut : Cal P w K mg base 1 "_law_cut" ["_law_told", "_law_few"] (spD K 2 S__law_cut)) : FnOk P w K mg base CX0 6 f fd ["_law_script"] (spD K 1 S_law) :=
  fn_ok (k := 5) (b := b_law) F sc_law (fun cdv A outer s H E hr => (ss_cons (s_set (i := 1) sc_law.nd rfl (Or.inl rfl) (se_cal C__law_program (hr.mono (by decide)) rfl (sa_cons (sv 0) (sa_cons se_int (sa_cons se_int (sa_cons (se_v (sn_listRng rfl rfl T.b_list rfl T.b_range (sa_cons se_int (sa_cons (se_callB (ok_min rfl) rfl T.b_min PyProof.Rows.boot_min (sa_cons (se_callB ok_len rfl T.b_len PySem.boot_len (sa_cons (sv 0) sa_nil)) (sa_cons se_int sa_nil))) sa_nil)))) sa_nil))))))
    (ss_cons (s_asg (se_cal C__law_values (hr.mono (by decide)) rfl (sa_cons (sv 0) (sa_cons (se_ix ok_ix (se_ix ok_ix (sv 1) se_int (fun _ _ => rfl)) se_int (fun _ _ => rfl)) sa_nil))) (sg_tup rfl (sgs_cons (sg_name (i := 2) sc_law.nd rfl (Or.inl rfl)) (sgs_cons (sg_name (i := 3) sc_law.nd rfl (Or.inl rfl)) sgs_nil))))
    (ss_cons (s_set (i := 4) sc_law.nd rfl (Or.inl rfl) (se_cal C__law_next (hr.mono (by decide)) rfl (sa_cons (sv 3) (sa_cons se_int sa_nil))))
    (ss_cons (s_set (i := 5) sc_law.nd rfl (Or.inl rfl) (se_cal C__law_next (hr.mono (by decide)) rfl (sa_cons (sv 3) (sa_cons se_int sa_nil))))
    (ss_cons (s_set (i := 6) sc_law.nd rfl (Or.inl rfl) (se_cal C__law_next (hr.mono (by decide)) rfl (sa_cons (sv 3) (sa_cons (se_ix ok_ix (se_v (sn_lst (sa_cons se_int (sa_cons se_int sa_nil)))) (se_callTy ok_int rfl T.b_int PyProof.Rows.boot_int (sa_cons (se_cmp (ok_eq hr.units) (se_cal C__law_next (hr.mono (by decide)) rfl (sa_cons (sv 3) (sa_cons se_int sa_nil))) se_int (nomark _)) sa_nil)) (fun _ _ => rfl)) sa_nil))))
    (ss_cons (s_set (i := 7) sc_law.nd rfl (Or.inl rfl) (se_cal C__law_next (hr.mono (by decide)) rfl (sa_cons (sv 3) (sa_cons (se_op ok_plus (sv 6) se_int) sa_nil))))
    (ss_cons (s_set (i := 8) sc_law.nd rfl (Or.inl rfl) (se_cal C_run (hr.mono (by decide)) rfl (sa_cons (sv 1) (sa_cons (sv 2) (sa_cons (sv 4) (sa_cons (sv 6) sa_nil))))))
    (ss_cons (s_set (i := 9) sc_law.nd rfl (Or.inl rfl) (se_cal C_run (hr.mono (by decide)) rfl (sa_cons (sv 1) (sa_cons (sv 2) (sa_cons (sv 5) (sa_cons (sv 6) sa_nil))))))
    (ss_cons (s_set (i := 10) sc_law.nd rfl (Or.inl rfl) (se_cal C_run (hr.mono (by decide)) rfl (sa_cons (sv 1) (sa_cons (sv 2) (sa_cons (se_op ok_bor (sv 4) (sv 5)) (sa_cons (sv 6) sa_nil))))))
    (ss_cons (s_set (i := 11) sc_law.nd rfl (Or.inl rfl) (se_cal C_run (hr.mono (by decide)) rfl (sa_cons (sv 1) (sa_cons (sv 2) (sa_cons se_int (sa_cons (sv 6) sa_nil))))))
    (ss_cons (s_if (st_w (sw_or (st_cmp (ok_ne hr.units) (se_ix ok_ix (sv 8) se_int (fun _ _ => rfl)) (se_ix ok_ix (sv 10) se_int (fun _ _ => rfl)) (nomark _)) (sw_or (st_cmp (ok_ne hr.units) (se_ix ok_ix (sv 9) se_int (fun _ _ => rfl)) (se_ix ok_ix (sv 10) se_int (fun _ _ => rfl)) (nomark _)) (sw_or1 (st_cmp (ok_ne hr.units) (se_ix ok_ix (sv 11) se_int (fun _ _ => rfl)) (se_ix ok_ix (sv 10) se_int (fun _ _ => rfl)) (nomark _)))))) (ss_one (s_ret se_bl)) ss_nil)
    (ss_cons (s_if (st_w (sw_or (st_cmp (ok_ne hr.units) (se_callB ok_len rfl T.b_len PySem.boot_len (sa_cons (se_ix ok_ix (sv 8) se_int (fun _ _ => rfl)) sa_nil)) (se_callB ok_len rfl T.b_len PySem.boot_len (sa_cons (se_ix ok_ix (sv 10) se_int (fun _ _ => rfl)) sa_nil)) (nomark _)) (sw_or (st_cmp (ok_ne hr.units) (se_callB ok_len rfl T.b_len PySem.boot_len (sa_cons (se_ix ok_ix (sv 9) se_int (fun _ _ => rfl)) sa_nil)) (se_callB ok_len rfl T.b_len PySem.boot_len (sa_cons (se_ix ok_ix (sv 10) se_int (fun _ _ => rfl)) sa_nil)) (nomark _)) (sw_or1 (st_cmp (ok_ne hr.units) (se_callB ok_len rfl T.b_len PySem.boot_len (sa_cons (se_ix ok_ix (sv 11) se_int (fun _ _ => rfl)) sa_nil)) (se_callB ok_len rfl T.b_len PySem.boot_len (sa_cons (se_ix ok_ix (sv 10) se_int (fun _ _ => rfl)) sa_nil)) (nomark _)))))) (ss_one (s_ret se_bl)) ss_nil)
    (ss_cons (s_for PassesOwn.never rfl (si_range1 rfl T.b_range (sa_cons (se_callB ok_len rfl T.b_len PySem.boot_len (sa_cons (se_ix ok_ix (sv 10) se_int (fun _ _ => rfl)) sa_nil)) sa_nil)) (sg_name (i := 12) sc_law.nd rfl (Or.inl rfl)) (ss_cons (s_for PassesOwn.never rfl (si_seq (se_v (sn_lst (sa_cons (se_ix ok_ix (se_ix ok_ix (sv 8) se_int (fun _ _ => rfl)) (sv 12) (fun _ _ => rfl)) (sa_cons (se_ix ok_ix (se_ix ok_ix (sv 9) se_int (fun _ _ => rfl)) (sv 12) (fun _ _ => rfl)) (sa_cons (se_ix ok_ix (se_ix ok_ix (sv 11) se_int (fun _ _ => rfl)) (sv 12) (fun _ _ => rfl)) sa_nil)))))) (sg_name (i := 13) sc_law.nd rfl (Or.inl rfl)) (ss_one (s_if (st_w (sw_or (st_cmp (ok_ne hr.units) (se_sl (sv 13) so_none (so_some se_int)) (se_sl (se_ix ok_ix (se_ix ok_ix (sv 10) se_int (fun _ _ => rfl)) (sv 12) (fun _ _ => rfl)) so_none (so_some se_int)) (nomark _)) (sw_or1 (st_cmp (ok_ne hr.units) (se_op ok_band (se_ix ok_ix (se_ix ok_ix (se_ix ok_ix (sv 11) se_int (fun _ _ => rfl)) (sv 12) (fun _ _ => rfl)) se_int (fun _ _ => rfl)) (se_ix ok_ix (sv 13) se_int (fun _ _ => rfl))) (se_ix ok_ix (se_ix ok_ix (se_ix ok_ix (sv 11) se_int (fun _ _ => rfl)) (sv 12) (fun _ _ => rfl)) se_int (fun _ _ => rfl)) (nomark _))))) (ss_one (s_ret se_bl)) ss_nil)))
    (ss_one (s_if (st_cmp (ok_ne hr.units) (se_op ok_bor (se_ix ok_ix (se_ix ok_ix (se_ix ok_ix (sv 8) se_int (fun _ _ => rfl)) (sv 12) (fun _ _ => rfl)) se_int (fun _ _ => rfl)) (se_ix ok_ix (se_ix ok_ix (se_ix ok_ix (sv 9) se_int (fun _ _ => rfl)) (sv 12) (fun _ _ => rfl)) se_int (fun _ _ => rfl))) (se_ix ok_ix (se_ix ok_ix (se_ix ok_ix (sv 10) se_int (fun _ _ => rfl)) (sv 12) (fun _ _ => rfl)) se_int (fun _ _ => rfl)) (nomark _)) (ss_one (s_ret se_bl)) ss_nil))))
    (ss_cons (s_for PassesOwn.never rfl (si_seq (se_v (sn_lst (sa_cons (se_tup (sa_cons (sv 8) (sa_cons (sv 4) sa_nil))) (sa_cons (se_tup (sa_cons (sv 10) (sa_cons (se_op ok_bor (sv 4) (sv 5)) sa_nil))) sa_nil))))) (sg_tup rfl (sgs_cons (sg_name (i := 14) sc_law.nd rfl (Or.inl rfl)) (sgs_cons (sg_name (i := 15) sc_law.nd rfl (Or.inl rfl)) sgs_nil))) (ss_one (s_if (st_cmp (ok_ne hr.units) (se_cal C_run (hr.mono (by decide)) rfl (sa_cons (sv 1) (sa_cons (sv 2) (sa_cons (sv 15) (sa_cons (sv 7) sa_nil))))) (se_cal C__law_cut (hr.mono (by decide)) rfl (sa_cons (sv 14) (sa_cons (sv 7) sa_nil))) (nomark _)) (ss_one (s_ret se_bl)) ss_nil)))
    (ss_one (s_ret se_bl))))))))))))))))) imp_law
end
theorem len_s {α : Type} {n : Nat} {us : List α} (h : us.length = n + 1) : ∃ a t, us = a :: t ∧ t.length = n := by
  cases us with
  | nil => cases h
  | cons a t => exact ⟨a, t, rfl, Nat.succ.inj h⟩
theorem len_z {α : Type} {us : List α} (h : us.length = 0) : us = [] := List.length_eq_zero_iff.mp h
theorem ln1 {F : FuncData} {ps : List Str} {us : List Value} (h : us.length = 1) (k : ∀ a, bindArgs F ⟨[a], []⟩ = pure (ps.zip [a])) : bindArgs F ⟨us, []⟩ = pure (ps.zip us) := by
  obtain ⟨a, us1, rfl, h1⟩ := len_s h
  cases len_z h1
  exact k a
theorem ln2 {F : FuncData} {ps : List Str} {us : List Value} (h : us.length = 2) (k : ∀ a b, bindArgs F ⟨[a, b], []⟩ = pure (ps.zip [a, b])) : bindArgs F ⟨us, []⟩ = pure (ps.zip us) := by
  obtain ⟨a, us1, rfl, h1⟩ := len_s h
  obtain ⟨b, us2, rfl, h2⟩ := len_s h1
  cases len_z h2
  exact k a b
theorem ln3 {F : FuncData} {ps : List Str} {us : List Value} (h : us.length = 3) (k : ∀ a b c, bindArgs F ⟨[a, b, c], []⟩ = pure (ps.zip [a, b, c])) : bindArgs F ⟨us, []⟩ = pure (ps.zip us) := by
  obtain ⟨a, us1, rfl, h1⟩ := len_s h
  obtain ⟨b, us2, rfl, h2⟩ := len_s h1
  obtain ⟨c, us3, rfl, h3⟩ := len_s h2
  cases len_z h3
  exact k a b c
theorem ln4 {F : FuncData} {ps : List Str} {us : List Value} (h : us.length = 4) (k : ∀ a b c d, bindArgs F ⟨[a, b, c, d], []⟩ = pure (ps.zip [a, b, c, d])) : bindArgs F ⟨us, []⟩ = pure (ps.zip us) := by
  obtain ⟨a, us1, rfl, h1⟩ := len_s h
  obtain ⟨b, us2, rfl, h2⟩ := len_s h1
  obtain ⟨c, us3, rfl, h3⟩ := len_s h2
  obtain ⟨d, us4, rfl, h4⟩ := len_s h3
  cases len_z h4
  exact k a b c d
theorem ln5 {F : FuncData} {ps : List Str} {us : List Value} (h : us.length = 5) (k : ∀ a b c d e, bindArgs F ⟨[a, b, c, d, e], []⟩ = pure (ps.zip [a, b, c, d, e])) : bindArgs F ⟨us, []⟩ = pure (ps.zip us) := by
  obtain ⟨a, us1, rfl, h1⟩ := len_s h
  obtain ⟨b, us2, rfl, h2⟩ := len_s h1
  obtain ⟨c, us3, rfl, h3⟩ := len_s h2
  obtain ⟨d, us4, rfl, h4⟩ := len_s h3
  obtain ⟨e, us5, rfl, h5⟩ := len_s h4
  cases len_z h5
  exact k a b c d e
theorem lnD4 {p : List Value → Prop} {us : List Value} (h : us.length = 4) (k : ∀ a b c d, p [a, b, c, d]) : p us := by
  obtain ⟨a, us1, rfl, h1⟩ := len_s h
  obtain ⟨b, us2, rfl, h2⟩ := len_s h1
  obtain ⟨c, us3, rfl, h3⟩ := len_s h2
  obtain ⟨d, us4, rfl, h4⟩ := len_s h3
  cases len_z h4
  exact k a b c d
theorem all_mk {l : PySem.W.OpenLaw} {w : World} {K : PySem.W.Frag} {h : Heap} {mg : Str → Option Value} {fa a_run a_change a_reckoned a_place_behind a__law_cell a__law_state a__law_next a__law_kind a__law_row a__law_heads a__law_places a__law_program a__law_values a__law_cut a_law a_Frame____init__ a_Frame__put_value a_Runner____init__ a_Runner__come_to a_Runner__enter a_Runner__do_row a_Runner__give_back : Addr} (X : K.In h) (G : h.Ns mainGlobals mg) (hfa : mg "law" = some (.ref fa))
    {od_run an_run : Option Addr} {sl_run : Array (Option Value)} {oc_run kV_run dc_run pm_run cd_run ct_run : Value}
    {od_change an_change : Option Addr} {sl_change : Array (Option Value)} {oc_change kV_change dc_change pm_change cd_change ct_change : Value}
    {od_reckoned an_reckoned : Option Addr} {sl_reckoned : Array (Option Value)} {oc_reckoned kV_reckoned dc_reckoned pm_reckoned cd_reckoned ct_reckoned : Value}
    {od_place_behind an_place_behind : Option Addr} {sl_place_behind : Array (Option Value)} {oc_place_behind kV_place_behind dc_place_behind pm_place_behind cd_place_behind ct_place_behind : Value}
    {od__law_cell an__law_cell : Option Addr} {sl__law_cell : Array (Option Value)} {oc__law_cell kV__law_cell dc__law_cell pm__law_cell cd__law_cell ct__law_cell : Value}
    {od__law_state an__law_state : Option Addr} {sl__law_state : Array (Option Value)} {oc__law_state kV__law_state dc__law_state pm__law_state cd__law_state ct__law_state : Value}
    {od__law_next an__law_next : Option Addr} {sl__law_next : Array (Option Value)} {oc__law_next kV__law_next dc__law_next pm__law_next cd__law_next ct__law_next : Value}
    {od__law_kind an__law_kind : Option Addr} {sl__law_kind : Array (Option Value)} {oc__law_kind kV__law_kind dc__law_kind pm__law_kind cd__law_kind ct__law_kind : Value}
    {od__law_row an__law_row : Option Addr} {sl__law_row : Array (Option Value)} {oc__law_row kV__law_row dc__law_row pm__law_row cd__law_row ct__law_row : Value}
    {od__law_heads an__law_heads : Option Addr} {sl__law_heads : Array (Option Value)} {oc__law_heads kV__law_heads dc__law_heads pm__law_heads cd__law_heads ct__law_heads : Value}
    {od__law_places an__law_places : Option Addr} {sl__law_places : Array (Option Value)} {oc__law_places kV__law_places dc__law_places pm__law_places cd__law_places ct__law_places : Value}
    {od__law_program an__law_program : Option Addr} {sl__law_program : Array (Option Value)} {oc__law_program kV__law_program dc__law_program pm__law_program cd__law_program ct__law_program : Value}
    {od__law_values an__law_values : Option Addr} {sl__law_values : Array (Option Value)} {oc__law_values kV__law_values dc__law_values pm__law_values cd__law_values ct__law_values : Value}
    {od__law_cut an__law_cut : Option Addr} {sl__law_cut : Array (Option Value)} {oc__law_cut kV__law_cut dc__law_cut pm__law_cut cd__law_cut ct__law_cut : Value}
    {od_law an_law : Option Addr} {sl_law : Array (Option Value)} {oc_law kV_law dc_law pm_law cd_law ct_law : Value}
    {od_Frame____init__ an_Frame____init__ : Option Addr} {sl_Frame____init__ : Array (Option Value)} {oc_Frame____init__ kV_Frame____init__ dc_Frame____init__ pm_Frame____init__ cd_Frame____init__ ct_Frame____init__ : Value}
    {od_Frame__put_value an_Frame__put_value : Option Addr} {sl_Frame__put_value : Array (Option Value)} {oc_Frame__put_value kV_Frame__put_value dc_Frame__put_value pm_Frame__put_value cd_Frame__put_value ct_Frame__put_value : Value}
    {od_Runner____init__ an_Runner____init__ : Option Addr} {sl_Runner____init__ : Array (Option Value)} {oc_Runner____init__ kV_Runner____init__ dc_Runner____init__ pm_Runner____init__ cd_Runner____init__ ct_Runner____init__ : Value}
    {od_Runner__come_to an_Runner__come_to : Option Addr} {sl_Runner__come_to : Array (Option Value)} {oc_Runner__come_to kV_Runner__come_to dc_Runner__come_to pm_Runner__come_to cd_Runner__come_to ct_Runner__come_to : Value}
    {od_Runner__enter an_Runner__enter : Option Addr} {sl_Runner__enter : Array (Option Value)} {oc_Runner__enter kV_Runner__enter dc_Runner__enter pm_Runner__enter cd_Runner__enter ct_Runner__enter : Value}
    {od_Runner__do_row an_Runner__do_row : Option Addr} {sl_Runner__do_row : Array (Option Value)} {oc_Runner__do_row kV_Runner__do_row dc_Runner__do_row pm_Runner__do_row cd_Runner__do_row ct_Runner__do_row : Value}
    {od_Runner__give_back an_Runner__give_back : Option Addr} {sl_Runner__give_back : Array (Option Value)} {oc_Runner__give_back kV_Runner__give_back dc_Runner__give_back pm_Runner__give_back cd_Runner__give_back ct_Runner__give_back : Value}
    {C_Frame : Addr} (e_Frame : PySem.W.nsIn K mainGlobals "Frame" = some (some (.ref C_Frame))) (pg_Frame : PySem.W.plainGet K C_Frame Str.empty = true) (hd_Frame : PySem.W.hasDictIn K C_Frame = true) (po_Frame : PySem.W.plainOver K C_Frame = true) (sa_Frame : PySem.W.findIn K (.ref C_Frame) "__setattr__" = some (some (.builtin "object.__setattr__"))) (mk_Frame : PySem.W.makesIn K C_Frame = true) (kp_Frame : PySem.W.keepIn K (.ref C_Frame) = true)
    {C_Runner : Addr} (e_Runner : PySem.W.nsIn K mainGlobals "Runner" = some (some (.ref C_Runner))) (pg_Runner : PySem.W.plainGet K C_Runner Str.empty = true) (hd_Runner : PySem.W.hasDictIn K C_Runner = true) (po_Runner : PySem.W.plainOver K C_Runner = true) (sa_Runner : PySem.W.findIn K (.ref C_Runner) "__setattr__" = some (some (.builtin "object.__setattr__"))) (mk_Runner : PySem.W.makesIn K C_Runner = true) (kp_Runner : PySem.W.keepIn K (.ref C_Runner) = true)
    (n_dyes : PySem.W.findIn K (.ref C_Frame) "dyes" = some none)
    (n_frames : PySem.W.findIn K (.ref C_Runner) "frames" = some none)
    (n_function : PySem.W.findIn K (.ref C_Frame) "function" = some none)
    (n_held : PySem.W.findIn K (.ref C_Frame) "held" = some none)
    (n_place : PySem.W.findIn K (.ref C_Frame) "place" = some none)
    (n_program : PySem.W.findIn K (.ref C_Runner) "program" = some none)
    (n_states : PySem.W.findIn K (.ref C_Runner) "states" = some none)
    (n_steps : PySem.W.findIn K (.ref C_Runner) "steps" = some none)
    {dT_run : Addr} {do_run : Obj} {dn_run : Nat} {dk_run_0 dk_run_1 : Tok}
    (e_run : PySem.W.nsIn K mainGlobals "run" = some (some (.ref a_run))) (l_run : K.lookup a_run = some ⟨oc_run, od_run, .func (PySem.W.fnOf "run" "run" (defArgs s_run) (defBody s_run) (defScope s_run) (.ref dT_run) kV_run dc_run pm_run an_run cd_run ct_run), sl_run⟩) (c_run : PySem.W.codeIn K cd_run "run" = true) (k_run : PySem.W.keepIn K (.ref a_run) = true)
    (dl_run : K.lookup dT_run = some do_run) (ds_run : do_run.data = .seq #[.int 0 dk_run_0, .int 400 dk_run_1] dn_run)
    (e_change : PySem.W.nsIn K mainGlobals "change" = some (some (.ref a_change))) (l_change : K.lookup a_change = some ⟨oc_change, od_change, .func (PySem.W.fnOf "change" "change" (defArgs s_change) (defBody s_change) (defScope s_change) .none kV_change dc_change pm_change an_change cd_change ct_change), sl_change⟩) (c_change : PySem.W.codeIn K cd_change "change" = true) (k_change : PySem.W.keepIn K (.ref a_change) = true)
    (e_reckoned : PySem.W.nsIn K mainGlobals "reckoned" = some (some (.ref a_reckoned))) (l_reckoned : K.lookup a_reckoned = some ⟨oc_reckoned, od_reckoned, .func (PySem.W.fnOf "reckoned" "reckoned" (defArgs s_reckoned) (defBody s_reckoned) (defScope s_reckoned) .none kV_reckoned dc_reckoned pm_reckoned an_reckoned cd_reckoned ct_reckoned), sl_reckoned⟩) (c_reckoned : PySem.W.codeIn K cd_reckoned "reckoned" = true) (k_reckoned : PySem.W.keepIn K (.ref a_reckoned) = true)
    (e_place_behind : PySem.W.nsIn K mainGlobals "place_behind" = some (some (.ref a_place_behind))) (l_place_behind : K.lookup a_place_behind = some ⟨oc_place_behind, od_place_behind, .func (PySem.W.fnOf "place_behind" "place_behind" (defArgs s_place_behind) (defBody s_place_behind) (defScope s_place_behind) .none kV_place_behind dc_place_behind pm_place_behind an_place_behind cd_place_behind ct_place_behind), sl_place_behind⟩) (c_place_behind : PySem.W.codeIn K cd_place_behind "place_behind" = true) (k_place_behind : PySem.W.keepIn K (.ref a_place_behind) = true)
    (e__law_cell : PySem.W.nsIn K mainGlobals "_law_cell" = some (some (.ref a__law_cell))) (l__law_cell : K.lookup a__law_cell = some ⟨oc__law_cell, od__law_cell, .func (PySem.W.fnOf "_law_cell" "_law_cell" (defArgs s__law_cell) (defBody s__law_cell) (defScope s__law_cell) .none kV__law_cell dc__law_cell pm__law_cell an__law_cell cd__law_cell ct__law_cell), sl__law_cell⟩) (c__law_cell : PySem.W.codeIn K cd__law_cell "_law_cell" = true) (k__law_cell : PySem.W.keepIn K (.ref a__law_cell) = true)
    (e__law_state : PySem.W.nsIn K mainGlobals "_law_state" = some (some (.ref a__law_state))) (l__law_state : K.lookup a__law_state = some ⟨oc__law_state, od__law_state, .func (PySem.W.fnOf "_law_state" "_law_state" (defArgs s__law_state) (defBody s__law_state) (defScope s__law_state) .none kV__law_state dc__law_state pm__law_state an__law_state cd__law_state ct__law_state), sl__law_state⟩) (c__law_state : PySem.W.codeIn K cd__law_state "_law_state" = true) (k__law_state : PySem.W.keepIn K (.ref a__law_state) = true)
    (e__law_next : PySem.W.nsIn K mainGlobals "_law_next" = some (some (.ref a__law_next))) (l__law_next : K.lookup a__law_next = some ⟨oc__law_next, od__law_next, .func (PySem.W.fnOf "_law_next" "_law_next" (defArgs s__law_next) (defBody s__law_next) (defScope s__law_next) .none kV__law_next dc__law_next pm__law_next an__law_next cd__law_next ct__law_next), sl__law_next⟩) (c__law_next : PySem.W.codeIn K cd__law_next "_law_next" = true) (k__law_next : PySem.W.keepIn K (.ref a__law_next) = true)
    (e__law_kind : PySem.W.nsIn K mainGlobals "_law_kind" = some (some (.ref a__law_kind))) (l__law_kind : K.lookup a__law_kind = some ⟨oc__law_kind, od__law_kind, .func (PySem.W.fnOf "_law_kind" "_law_kind" (defArgs s__law_kind) (defBody s__law_kind) (defScope s__law_kind) .none kV__law_kind dc__law_kind pm__law_kind an__law_kind cd__law_kind ct__law_kind), sl__law_kind⟩) (c__law_kind : PySem.W.codeIn K cd__law_kind "_law_kind" = true) (k__law_kind : PySem.W.keepIn K (.ref a__law_kind) = true)
    (e__law_row : PySem.W.nsIn K mainGlobals "_law_row" = some (some (.ref a__law_row))) (l__law_row : K.lookup a__law_row = some ⟨oc__law_row, od__law_row, .func (PySem.W.fnOf "_law_row" "_law_row" (defArgs s__law_row) (defBody s__law_row) (defScope s__law_row) .none kV__law_row dc__law_row pm__law_row an__law_row cd__law_row ct__law_row), sl__law_row⟩) (c__law_row : PySem.W.codeIn K cd__law_row "_law_row" = true) (k__law_row : PySem.W.keepIn K (.ref a__law_row) = true)
    (e__law_heads : PySem.W.nsIn K mainGlobals "_law_heads" = some (some (.ref a__law_heads))) (l__law_heads : K.lookup a__law_heads = some ⟨oc__law_heads, od__law_heads, .func (PySem.W.fnOf "_law_heads" "_law_heads" (defArgs s__law_heads) (defBody s__law_heads) (defScope s__law_heads) .none kV__law_heads dc__law_heads pm__law_heads an__law_heads cd__law_heads ct__law_heads), sl__law_heads⟩) (c__law_heads : PySem.W.codeIn K cd__law_heads "_law_heads" = true) (k__law_heads : PySem.W.keepIn K (.ref a__law_heads) = true)
    (e__law_places : PySem.W.nsIn K mainGlobals "_law_places" = some (some (.ref a__law_places))) (l__law_places : K.lookup a__law_places = some ⟨oc__law_places, od__law_places, .func (PySem.W.fnOf "_law_places" "_law_places" (defArgs s__law_places) (defBody s__law_places) (defScope s__law_places) .none kV__law_places dc__law_places pm__law_places an__law_places cd__law_places ct__law_places), sl__law_places⟩) (c__law_places : PySem.W.codeIn K cd__law_places "_law_places" = true) (k__law_places : PySem.W.keepIn K (.ref a__law_places) = true)
    (e__law_program : PySem.W.nsIn K mainGlobals "_law_program" = some (some (.ref a__law_program))) (l__law_program : K.lookup a__law_program = some ⟨oc__law_program, od__law_program, .func (PySem.W.fnOf "_law_program" "_law_program" (defArgs s__law_program) (defBody s__law_program) (defScope s__law_program) .none kV__law_program dc__law_program pm__law_program an__law_program cd__law_program ct__law_program), sl__law_program⟩) (c__law_program : PySem.W.codeIn K cd__law_program "_law_program" = true) (k__law_program : PySem.W.keepIn K (.ref a__law_program) = true)
    (e__law_values : PySem.W.nsIn K mainGlobals "_law_values" = some (some (.ref a__law_values))) (l__law_values : K.lookup a__law_values = some ⟨oc__law_values, od__law_values, .func (PySem.W.fnOf "_law_values" "_law_values" (defArgs s__law_values) (defBody s__law_values) (defScope s__law_values) .none kV__law_values dc__law_values pm__law_values an__law_values cd__law_values ct__law_values), sl__law_values⟩) (c__law_values : PySem.W.codeIn K cd__law_values "_law_values" = true) (k__law_values : PySem.W.keepIn K (.ref a__law_values) = true)
    (e__law_cut : PySem.W.nsIn K mainGlobals "_law_cut" = some (some (.ref a__law_cut))) (l__law_cut : K.lookup a__law_cut = some ⟨oc__law_cut, od__law_cut, .func (PySem.W.fnOf "_law_cut" "_law_cut" (defArgs s__law_cut) (defBody s__law_cut) (defScope s__law_cut) .none kV__law_cut dc__law_cut pm__law_cut an__law_cut cd__law_cut ct__law_cut), sl__law_cut⟩) (c__law_cut : PySem.W.codeIn K cd__law_cut "_law_cut" = true) (k__law_cut : PySem.W.keepIn K (.ref a__law_cut) = true)
    (e_law : PySem.W.nsIn K mainGlobals "law" = some (some (.ref a_law))) (l_law : K.lookup a_law = some ⟨oc_law, od_law, .func (PySem.W.fnOf "law" "law" (defArgs s_law) (defBody s_law) (defScope s_law) .none kV_law dc_law pm_law an_law cd_law ct_law), sl_law⟩) (c_law : PySem.W.codeIn K cd_law "law" = true) (k_law : PySem.W.keepIn K (.ref a_law) = true)
    (e_Frame____init__ : PySem.W.findIn K (.ref C_Frame) "__init__" = some (some (.ref a_Frame____init__))) (l_Frame____init__ : K.lookup a_Frame____init__ = some ⟨oc_Frame____init__, od_Frame____init__, .func (PySem.W.fnOf "__init__" "Frame.__init__" (defArgs s_Frame____init__) (defBody s_Frame____init__) (defScope s_Frame____init__) .none kV_Frame____init__ dc_Frame____init__ pm_Frame____init__ an_Frame____init__ cd_Frame____init__ ct_Frame____init__), sl_Frame____init__⟩) (c_Frame____init__ : PySem.W.codeIn K cd_Frame____init__ "Frame.__init__" = true) (k_Frame____init__ : PySem.W.keepIn K (.ref a_Frame____init__) = true) (fn_Frame____init__ : PySem.W.isFn K (.ref a_Frame____init__) = true)
    (e_Frame__put_value : PySem.W.findIn K (.ref C_Frame) "put_value" = some (some (.ref a_Frame__put_value))) (l_Frame__put_value : K.lookup a_Frame__put_value = some ⟨oc_Frame__put_value, od_Frame__put_value, .func (PySem.W.fnOf "put_value" "Frame.put_value" (defArgs s_Frame__put_value) (defBody s_Frame__put_value) (defScope s_Frame__put_value) .none kV_Frame__put_value dc_Frame__put_value pm_Frame__put_value an_Frame__put_value cd_Frame__put_value ct_Frame__put_value), sl_Frame__put_value⟩) (c_Frame__put_value : PySem.W.codeIn K cd_Frame__put_value "Frame.put_value" = true) (k_Frame__put_value : PySem.W.keepIn K (.ref a_Frame__put_value) = true) (fn_Frame__put_value : PySem.W.isFn K (.ref a_Frame__put_value) = true)
    (e_Runner____init__ : PySem.W.findIn K (.ref C_Runner) "__init__" = some (some (.ref a_Runner____init__))) (l_Runner____init__ : K.lookup a_Runner____init__ = some ⟨oc_Runner____init__, od_Runner____init__, .func (PySem.W.fnOf "__init__" "Runner.__init__" (defArgs s_Runner____init__) (defBody s_Runner____init__) (defScope s_Runner____init__) .none kV_Runner____init__ dc_Runner____init__ pm_Runner____init__ an_Runner____init__ cd_Runner____init__ ct_Runner____init__), sl_Runner____init__⟩) (c_Runner____init__ : PySem.W.codeIn K cd_Runner____init__ "Runner.__init__" = true) (k_Runner____init__ : PySem.W.keepIn K (.ref a_Runner____init__) = true) (fn_Runner____init__ : PySem.W.isFn K (.ref a_Runner____init__) = true)
    (e_Runner__come_to : PySem.W.findIn K (.ref C_Runner) "come_to" = some (some (.ref a_Runner__come_to))) (l_Runner__come_to : K.lookup a_Runner__come_to = some ⟨oc_Runner__come_to, od_Runner__come_to, .func (PySem.W.fnOf "come_to" "Runner.come_to" (defArgs s_Runner__come_to) (defBody s_Runner__come_to) (defScope s_Runner__come_to) .none kV_Runner__come_to dc_Runner__come_to pm_Runner__come_to an_Runner__come_to cd_Runner__come_to ct_Runner__come_to), sl_Runner__come_to⟩) (c_Runner__come_to : PySem.W.codeIn K cd_Runner__come_to "Runner.come_to" = true) (k_Runner__come_to : PySem.W.keepIn K (.ref a_Runner__come_to) = true) (fn_Runner__come_to : PySem.W.isFn K (.ref a_Runner__come_to) = true)
    (e_Runner__enter : PySem.W.findIn K (.ref C_Runner) "enter" = some (some (.ref a_Runner__enter))) (l_Runner__enter : K.lookup a_Runner__enter = some ⟨oc_Runner__enter, od_Runner__enter, .func (PySem.W.fnOf "enter" "Runner.enter" (defArgs s_Runner__enter) (defBody s_Runner__enter) (defScope s_Runner__enter) .none kV_Runner__enter dc_Runner__enter pm_Runner__enter an_Runner__enter cd_Runner__enter ct_Runner__enter), sl_Runner__enter⟩) (c_Runner__enter : PySem.W.codeIn K cd_Runner__enter "Runner.enter" = true) (k_Runner__enter : PySem.W.keepIn K (.ref a_Runner__enter) = true) (fn_Runner__enter : PySem.W.isFn K (.ref a_Runner__enter) = true)
    (e_Runner__do_row : PySem.W.findIn K (.ref C_Runner) "do_row" = some (some (.ref a_Runner__do_row))) (l_Runner__do_row : K.lookup a_Runner__do_row = some ⟨oc_Runner__do_row, od_Runner__do_row, .func (PySem.W.fnOf "do_row" "Runner.do_row" (defArgs s_Runner__do_row) (defBody s_Runner__do_row) (defScope s_Runner__do_row) .none kV_Runner__do_row dc_Runner__do_row pm_Runner__do_row an_Runner__do_row cd_Runner__do_row ct_Runner__do_row), sl_Runner__do_row⟩) (c_Runner__do_row : PySem.W.codeIn K cd_Runner__do_row "Runner.do_row" = true) (k_Runner__do_row : PySem.W.keepIn K (.ref a_Runner__do_row) = true) (fn_Runner__do_row : PySem.W.isFn K (.ref a_Runner__do_row) = true)
    (e_Runner__give_back : PySem.W.findIn K (.ref C_Runner) "give_back" = some (some (.ref a_Runner__give_back))) (l_Runner__give_back : K.lookup a_Runner__give_back = some ⟨oc_Runner__give_back, od_Runner__give_back, .func (PySem.W.fnOf "give_back" "Runner.give_back" (defArgs s_Runner__give_back) (defBody s_Runner__give_back) (defScope s_Runner__give_back) .none kV_Runner__give_back dc_Runner__give_back pm_Runner__give_back an_Runner__give_back cd_Runner__give_back ct_Runner__give_back), sl_Runner__give_back⟩) (c_Runner__give_back : PySem.W.codeIn K cd_Runner__give_back "Runner.give_back" = true) (k_Runner__give_back : PySem.W.keepIn K (.ref a_Runner__give_back) = true) (fn_Runner__give_back : PySem.W.isFn K (.ref a_Runner__give_back) = true)
    (z_abs : PySem.W.nsIn K mainGlobals "abs" = some none)
    (z_enumerate : PySem.W.nsIn K mainGlobals "enumerate" = some none)
    (z_int : PySem.W.nsIn K mainGlobals "int" = some none)
    (z_len : PySem.W.nsIn K mainGlobals "len" = some none)
    (z_list : PySem.W.nsIn K mainGlobals "list" = some none)
    (z_max : PySem.W.nsIn K mainGlobals "max" = some none)
    (z_min : PySem.W.nsIn K mainGlobals "min" = some none)
    (z_range : PySem.W.nsIn K mainGlobals "range" = some none)
    (z_tuple : PySem.W.nsIn K mainGlobals "tuple" = some none)
    : ∃ fd : FuncData, (∀ (s : Shared) (v : Value), BindsTo s fd ⟨[v], []⟩ [("_law_script", v)]) ∧ ∀ base : Heap, K.In base → base.Ns mainGlobals mg → FnOk l.prog w K mg base CX0 6 fa fd ["_law_script"] (spD K 1 S_law) := by
  have e := hfa.symm.trans (PySem.W.mg_of X G e_law)
  cases e
  have CL_Frame : Cls K C_Frame := ⟨pg_Frame, hd_Frame, po_Frame, sa_Frame⟩
  have CL_Runner : Cls K C_Runner := ⟨pg_Runner, hd_Runner, po_Runner, sa_Runner⟩
  have T : Txt l.prog w K mg := ⟨PySem.W.mg_none_of X G z_abs, PySem.W.mg_none_of X G z_enumerate, PySem.W.mg_none_of X G z_int, PySem.W.mg_none_of X G z_len, PySem.W.mg_none_of X G z_list, PySem.W.mg_none_of X G z_max, PySem.W.mg_none_of X G z_min, PySem.W.mg_none_of X G z_range, PySem.W.mg_none_of X G z_tuple, ⟨_, e_Frame, CL_Frame, n_dyes⟩, ⟨_, e_Runner, CL_Runner, n_frames⟩, ⟨_, e_Frame, CL_Frame, n_function⟩, ⟨_, e_Frame, CL_Frame, n_held⟩, ⟨_, e_Frame, CL_Frame, n_place⟩, ⟨_, e_Runner, CL_Runner, n_program⟩, ⟨_, e_Runner, CL_Runner, n_states⟩, ⟨_, e_Runner, CL_Runner, n_steps⟩⟩
  have F_run := fun_mk (st := s_run) l_run c_run k_run
  have F_change := fun_mk (st := s_change) l_change c_change k_change
  have F_reckoned := fun_mk (st := s_reckoned) l_reckoned c_reckoned k_reckoned
  have F_place_behind := fun_mk (st := s_place_behind) l_place_behind c_place_behind k_place_behind
  have F__law_cell := fun_mk (st := s__law_cell) l__law_cell c__law_cell k__law_cell
  have F__law_state := fun_mk (st := s__law_state) l__law_state c__law_state k__law_state
  have F__law_next := fun_mk (st := s__law_next) l__law_next c__law_next k__law_next
  have F__law_kind := fun_mk (st := s__law_kind) l__law_kind c__law_kind k__law_kind
  have F__law_row := fun_mk (st := s__law_row) l__law_row c__law_row k__law_row
  have F__law_heads := fun_mk (st := s__law_heads) l__law_heads c__law_heads k__law_heads
  have F__law_places := fun_mk (st := s__law_places) l__law_places c__law_places k__law_places
  have F__law_program := fun_mk (st := s__law_program) l__law_program c__law_program k__law_program
  have F__law_values := fun_mk (st := s__law_values) l__law_values c__law_values k__law_values
  have F__law_cut := fun_mk (st := s__law_cut) l__law_cut c__law_cut k__law_cut
  have F_law := fun_mk (st := s_law) l_law c_law k_law
  have F_Frame____init__ := fun_mk (st := s_Frame____init__) l_Frame____init__ c_Frame____init__ k_Frame____init__
  have F_Frame__put_value := fun_mk (st := s_Frame__put_value) l_Frame__put_value c_Frame__put_value k_Frame__put_value
  have F_Runner____init__ := fun_mk (st := s_Runner____init__) l_Runner____init__ c_Runner____init__ k_Runner____init__
  have F_Runner__come_to := fun_mk (st := s_Runner__come_to) l_Runner__come_to c_Runner__come_to k_Runner__come_to
  have F_Runner__enter := fun_mk (st := s_Runner__enter) l_Runner__enter c_Runner__enter k_Runner__enter
  have F_Runner__do_row := fun_mk (st := s_Runner__do_row) l_Runner__do_row c_Runner__do_row k_Runner__do_row
  have F_Runner__give_back := fun_mk (st := s_Runner__give_back) l_Runner__give_back c_Runner__give_back k_Runner__give_back
  have b_run : Binds K (PySem.W.fnOf "run" "run" (defArgs s_run) (defBody s_run) (defScope s_run) (.ref dT_run) kV_run dc_run pm_run an_run cd_run ct_run) ["program", "values", "dyed", "most"] [] := fun s us KI hl => by rw [List.append_nil] at hl ⊢; exact lnD4 (p := fun us => BindsTo s _ ⟨us, []⟩ ((["program", "values", "dyed", "most"] : List Str).zip us)) hl fun _ _ _ _ => .of_defaults rfl (KI _ _ dl_run) ds_run rfl rfl
  have b_change : Binds K (PySem.W.fnOf "change" "change" (defArgs s_change) (defBody s_change) (defScope s_change) .none kV_change dc_change pm_change an_change cd_change ct_change) ["frame", "row"] [] := .all fun us hl => ln2 hl fun _ _ => rfl
  have b_reckoned : Binds K (PySem.W.fnOf "reckoned" "reckoned" (defArgs s_reckoned) (defBody s_reckoned) (defScope s_reckoned) .none kV_reckoned dc_reckoned pm_reckoned an_reckoned cd_reckoned ct_reckoned) ["op", "y", "z"] [] := .all fun us hl => ln3 hl fun _ _ _ => rfl
  have b_place_behind : Binds K (PySem.W.fnOf "place_behind" "place_behind" (defArgs s_place_behind) (defBody s_place_behind) (defScope s_place_behind) .none kV_place_behind dc_place_behind pm_place_behind an_place_behind cd_place_behind ct_place_behind) ["frame", "row"] [] := .all fun us hl => ln2 hl fun _ _ => rfl
  have b__law_cell : Binds K (PySem.W.fnOf "_law_cell" "_law_cell" (defArgs s__law_cell) (defBody s__law_cell) (defScope s__law_cell) .none kV__law_cell dc__law_cell pm__law_cell an__law_cell cd__law_cell ct__law_cell) ["_law_script", "_law_k"] [] := .all fun us hl => ln2 hl fun _ _ => rfl
  have b__law_state : Binds K (PySem.W.fnOf "_law_state" "_law_state" (defArgs s__law_state) (defBody s__law_state) (defScope s__law_state) .none kV__law_state dc__law_state pm__law_state an__law_state cd__law_state ct__law_state) ["_law_script", "_law_k"] [] := .all fun us hl => ln2 hl fun _ _ => rfl
  have b__law_next : Binds K (PySem.W.fnOf "_law_next" "_law_next" (defArgs s__law_next) (defBody s__law_next) (defScope s__law_next) .none kV__law_next dc__law_next pm__law_next an__law_next cd__law_next ct__law_next) ["_law_state_here", "_law_many"] [] := .all fun us hl => ln2 hl fun _ _ => rfl
  have b__law_kind : Binds K (PySem.W.fnOf "_law_kind" "_law_kind" (defArgs s__law_kind) (defBody s__law_kind) (defScope s__law_kind) .none kV__law_kind dc__law_kind pm__law_kind an__law_kind cd__law_kind ct__law_kind) ["_law_state_here", "_law_v"] [] := .all fun us hl => ln2 hl fun _ _ => rfl
  have b__law_row : Binds K (PySem.W.fnOf "_law_row" "_law_row" (defArgs s__law_row) (defBody s__law_row) (defScope s__law_row) .none kV__law_row dc__law_row pm__law_row an__law_row cd__law_row ct__law_row) ["_law_state_here", "_law_kind_here", "_law_v", "_law_heads_here", "_law_many"] [] := .all fun us hl => ln5 hl fun _ _ _ _ _ => rfl
  have b__law_heads : Binds K (PySem.W.fnOf "_law_heads" "_law_heads" (defArgs s__law_heads) (defBody s__law_heads) (defScope s__law_heads) .none kV__law_heads dc__law_heads pm__law_heads an__law_heads cd__law_heads ct__law_heads) ["_law_script", "_law_functions", "_law_variables"] [] := .all fun us hl => ln3 hl fun _ _ _ => rfl
  have b__law_places : Binds K (PySem.W.fnOf "_law_places" "_law_places" (defArgs s__law_places) (defBody s__law_places) (defScope s__law_places) .none kV__law_places dc__law_places pm__law_places an__law_places cd__law_places ct__law_places) ["_law_script", "_law_heads_here", "_law_cells"] [] := .all fun us hl => ln3 hl fun _ _ _ => rfl
  have b__law_program : Binds K (PySem.W.fnOf "_law_program" "_law_program" (defArgs s__law_program) (defBody s__law_program) (defScope s__law_program) .none kV__law_program dc__law_program pm__law_program an__law_program cd__law_program ct__law_program) ["_law_script", "_law_functions", "_law_variables", "_law_cells"] [] := .all fun us hl => ln4 hl fun _ _ _ _ => rfl
  have b__law_values : Binds K (PySem.W.fnOf "_law_values" "_law_values" (defArgs s__law_values) (defBody s__law_values) (defScope s__law_values) .none kV__law_values dc__law_values pm__law_values an__law_values cd__law_values ct__law_values) ["_law_script", "_law_given"] [] := .all fun us hl => ln2 hl fun _ _ => rfl
  have b__law_cut : Binds K (PySem.W.fnOf "_law_cut" "_law_cut" (defArgs s__law_cut) (defBody s__law_cut) (defScope s__law_cut) .none kV__law_cut dc__law_cut pm__law_cut an__law_cut cd__law_cut ct__law_cut) ["_law_told", "_law_few"] [] := .all fun us hl => ln2 hl fun _ _ => rfl
  have b_Frame____init__ : Binds K (PySem.W.fnOf "__init__" "Frame.__init__" (defArgs s_Frame____init__) (defBody s_Frame____init__) (defScope s_Frame____init__) .none kV_Frame____init__ dc_Frame____init__ pm_Frame____init__ an_Frame____init__ cd_Frame____init__ ct_Frame____init__) ["self", "function", "held", "dyes"] [] := .all fun us hl => ln4 hl fun _ _ _ _ => rfl
  have b_Frame__put_value : Binds K (PySem.W.fnOf "put_value" "Frame.put_value" (defArgs s_Frame__put_value) (defBody s_Frame__put_value) (defScope s_Frame__put_value) .none kV_Frame__put_value dc_Frame__put_value pm_Frame__put_value an_Frame__put_value cd_Frame__put_value ct_Frame__put_value) ["self", "x", "value", "dye"] [] := .all fun us hl => ln4 hl fun _ _ _ _ => rfl
  have b_Runner____init__ : Binds K (PySem.W.fnOf "__init__" "Runner.__init__" (defArgs s_Runner____init__) (defBody s_Runner____init__) (defScope s_Runner____init__) .none kV_Runner____init__ dc_Runner____init__ pm_Runner____init__ an_Runner____init__ cd_Runner____init__ ct_Runner____init__) ["self", "program"] [] := .all fun us hl => ln2 hl fun _ _ => rfl
  have b_Runner__come_to : Binds K (PySem.W.fnOf "come_to" "Runner.come_to" (defArgs s_Runner__come_to) (defBody s_Runner__come_to) (defScope s_Runner__come_to) .none kV_Runner__come_to dc_Runner__come_to pm_Runner__come_to an_Runner__come_to cd_Runner__come_to ct_Runner__come_to) ["self", "place"] [] := .all fun us hl => ln2 hl fun _ _ => rfl
  have b_Runner__enter : Binds K (PySem.W.fnOf "enter" "Runner.enter" (defArgs s_Runner__enter) (defBody s_Runner__enter) (defScope s_Runner__enter) .none kV_Runner__enter dc_Runner__enter pm_Runner__enter an_Runner__enter cd_Runner__enter ct_Runner__enter) ["self", "g", "held", "dyes"] [] := .all fun us hl => ln4 hl fun _ _ _ _ => rfl
  have b_Runner__do_row : Binds K (PySem.W.fnOf "do_row" "Runner.do_row" (defArgs s_Runner__do_row) (defBody s_Runner__do_row) (defScope s_Runner__do_row) .none kV_Runner__do_row dc_Runner__do_row pm_Runner__do_row an_Runner__do_row cd_Runner__do_row ct_Runner__do_row) ["self"] [] := .all fun us hl => ln1 hl fun _ => rfl
  have b_Runner__give_back : Binds K (PySem.W.fnOf "give_back" "Runner.give_back" (defArgs s_Runner__give_back) (defBody s_Runner__give_back) (defScope s_Runner__give_back) .none kV_Runner__give_back dc_Runner__give_back pm_Runner__give_back an_Runner__give_back cd_Runner__give_back ct_Runner__give_back) ["self", "x"] [] := .all fun us hl => ln2 hl fun _ _ => rfl
  refine ⟨PySem.W.fnOf "law" "law" (defArgs s_law) (defBody s_law) (defScope s_law) .none kV_law dc_law pm_law an_law cd_law ct_law, fun s v => .of_eq rfl, fun base _ _ => ?_⟩
  have C_reckoned : Cal l.prog w K mg base 1 "reckoned" ["op", "y", "z"] (spD K 3 S_reckoned) := ⟨a_reckoned, _, ok_reckoned F_reckoned T , PySem.W.mg_of X G e_reckoned, k_reckoned, b_reckoned⟩
  have C_place_behind : Cal l.prog w K mg base 1 "place_behind" ["frame", "row"] (spD K 2 S_place_behind) := ⟨a_place_behind, _, ok_place_behind F_place_behind T , PySem.W.mg_of X G e_place_behind, k_place_behind, b_place_behind⟩
  have C__law_cell : Cal l.prog w K mg base 1 "_law_cell" ["_law_script", "_law_k"] (spD K 2 S__law_cell) := ⟨a__law_cell, _, ok__law_cell F__law_cell T , PySem.W.mg_of X G e__law_cell, k__law_cell, b__law_cell⟩
  have C__law_next : Cal l.prog w K mg base 1 "_law_next" ["_law_state_here", "_law_many"] (spD K 2 S__law_next) := ⟨a__law_next, _, ok__law_next F__law_next T , PySem.W.mg_of X G e__law_next, k__law_next, b__law_next⟩
  have C__law_cut : Cal l.prog w K mg base 1 "_law_cut" ["_law_told", "_law_few"] (spD K 2 S__law_cut) := ⟨a__law_cut, _, ok__law_cut F__law_cut T , PySem.W.mg_of X G e__law_cut, k__law_cut, b__law_cut⟩
  have M_Frame : MakeX l.prog w K mg base 1 "Frame" ["self", "function", "held", "dyes"] (spD K 4 S_Frame____init__) := ⟨C_Frame, a_Frame____init__, _, PySem.W.mg_of X G e_Frame, e_Frame, ⟨mk_Frame, e_Frame____init__, fn_Frame____init__, kp_Frame⟩, ok_Frame____init__ F_Frame____init__ T , b_Frame____init__⟩
  have C_Frame__put_value : CalM l.prog w K mg base 1 "Frame" "put_value" ["self", "x", "value", "dye"] (spD K 4 S_Frame__put_value) := ⟨C_Frame, a_Frame__put_value, _, e_Frame, CL_Frame, ⟨e_Frame__put_value, fn_Frame__put_value, k_Frame__put_value⟩, ok_Frame__put_value F_Frame__put_value T , b_Frame__put_value⟩
  have M_Runner : MakeX l.prog w K mg base 1 "Runner" ["self", "program"] (spD K 2 S_Runner____init__) := ⟨C_Runner, a_Runner____init__, _, PySem.W.mg_of X G e_Runner, e_Runner, ⟨mk_Runner, e_Runner____init__, fn_Runner____init__, kp_Runner⟩, ok_Runner____init__ F_Runner____init__ T , b_Runner____init__⟩
  have C_Runner__come_to : CalM l.prog w K mg base 1 "Runner" "come_to" ["self", "place"] (spD K 2 S_Runner__come_to) := ⟨C_Runner, a_Runner__come_to, _, e_Runner, CL_Runner, ⟨e_Runner__come_to, fn_Runner__come_to, k_Runner__come_to⟩, ok_Runner__come_to F_Runner__come_to T , b_Runner__come_to⟩
  have C_change : Cal l.prog w K mg base 2 "change" ["frame", "row"] (spD K 2 S_change) := ⟨a_change, _, ok_change F_change T C_Frame__put_value C_reckoned, PySem.W.mg_of X G e_change, k_change, b_change⟩
  have C__law_state : Cal l.prog w K mg base 2 "_law_state" ["_law_script", "_law_k"] (spD K 2 S__law_state) := ⟨a__law_state, _, ok__law_state F__law_state T C__law_cell, PySem.W.mg_of X G e__law_state, k__law_state, b__law_state⟩
  have C__law_kind : Cal l.prog w K mg base 2 "_law_kind" ["_law_state_here", "_law_v"] (spD K 2 S__law_kind) := ⟨a__law_kind, _, ok__law_kind F__law_kind T C__law_next, PySem.W.mg_of X G e__law_kind, k__law_kind, b__law_kind⟩
  have C__law_row : Cal l.prog w K mg base 2 "_law_row" ["_law_state_here", "_law_kind_here", "_law_v", "_law_heads_here", "_law_many"] (spD K 5 S__law_row) := ⟨a__law_row, _, ok__law_row F__law_row T C__law_next, PySem.W.mg_of X G e__law_row, k__law_row, b__law_row⟩
  have C_Runner__give_back : CalM l.prog w K mg base 2 "Runner" "give_back" ["self", "x"] (spD K 2 S_Runner__give_back) := ⟨C_Runner, a_Runner__give_back, _, e_Runner, CL_Runner, ⟨e_Runner__give_back, fn_Runner__give_back, k_Runner__give_back⟩, ok_Runner__give_back F_Runner__give_back T C_Frame__put_value C_Runner__come_to, b_Runner__give_back⟩
  have C__law_heads : Cal l.prog w K mg base 3 "_law_heads" ["_law_script", "_law_functions", "_law_variables"] (spD K 3 S__law_heads) := ⟨a__law_heads, _, ok__law_heads F__law_heads T C__law_state C__law_next, PySem.W.mg_of X G e__law_heads, k__law_heads, b__law_heads⟩
  have C__law_places : Cal l.prog w K mg base 3 "_law_places" ["_law_script", "_law_heads_here", "_law_cells"] (spD K 3 S__law_places) := ⟨a__law_places, _, ok__law_places F__law_places T C__law_state C__law_next C__law_kind, PySem.W.mg_of X G e__law_places, k__law_places, b__law_places⟩
  have C__law_values : Cal l.prog w K mg base 3 "_law_values" ["_law_script", "_law_given"] (spD K 2 S__law_values) := ⟨a__law_values, _, ok__law_values F__law_values T C__law_state C__law_next, PySem.W.mg_of X G e__law_values, k__law_values, b__law_values⟩
  have C_Runner__enter : CalM l.prog w K mg base 3 "Runner" "enter" ["self", "g", "held", "dyes"] (spD K 4 S_Runner__enter) := ⟨C_Runner, a_Runner__enter, _, e_Runner, CL_Runner, ⟨e_Runner__enter, fn_Runner__enter, k_Runner__enter⟩, ok_Runner__enter F_Runner__enter T C_Runner__come_to M_Frame, b_Runner__enter⟩
  have C__law_program : Cal l.prog w K mg base 4 "_law_program" ["_law_script", "_law_functions", "_law_variables", "_law_cells"] (spD K 4 S__law_program) := ⟨a__law_program, _, ok__law_program F__law_program T C__law_heads C__law_places C__law_state C__law_row C__law_next, PySem.W.mg_of X G e__law_program, k__law_program, b__law_program⟩
  have C_Runner__do_row : CalM l.prog w K mg base 4 "Runner" "do_row" ["self"] (spD K 1 S_Runner__do_row) := ⟨C_Runner, a_Runner__do_row, _, e_Runner, CL_Runner, ⟨e_Runner__do_row, fn_Runner__do_row, k_Runner__do_row⟩, ok_Runner__do_row F_Runner__do_row T C_Runner__give_back C_Runner__enter C_change C_Runner__come_to C_place_behind, b_Runner__do_row⟩
  have C_run : Cal l.prog w K mg base 5 "run" ["program", "values", "dyed", "most"] (spD K 4 S_run) := ⟨a_run, _, ok_run F_run T C_Runner__enter C_Runner__do_row M_Runner, PySem.W.mg_of X G e_run, k_run, b_run⟩
  exact ok_law F_law T C__law_program C__law_values C__law_next C_run C__law_cut
end K73
open PySem PySem.W PyProof.Rows
set_option maxRecDepth 100000 in
set_option maxHeartbeats 0 in
theorem PySem.Challenge.cw_callmatch_k73_whole_dyes_add_up_holds : PySem.Challenge.rw_callmatch_k73_whole_dyes_add_up.Holds := by
  w_on; o_law; k_head; (case hw => w_witness2)
  k_fill
  refine DL.walkD (l := PySem.Challenge.rw_callmatch_k73_whole_dyes_add_up) (n := 63) (k := 6) (S := K73.S_law) (x := "_law_script") rfl (by decide) rfl ⟨rfl, by decide, by decide⟩ (fun w h Y => PySem.W.kIn_of Y) ?F K73.law_true
  case F =>
    intro w mg fa h KX G hmg
    refine' K73.all_mk KX G hmg ?e_Frame ?pg_Frame ?hd_Frame ?po_Frame ?sa_Frame ?mk_Frame ?kp_Frame ?e_Runner ?pg_Runner ?hd_Runner ?po_Runner ?sa_Runner ?mk_Runner ?kp_Runner ?n_dyes ?n_frames ?n_function ?n_held ?n_place ?n_program ?n_states ?n_steps ?e_run ?l_run ?c_run ?k_run ?dl_run ?ds_run ?e_change ?l_change ?c_change ?k_change ?e_reckoned ?l_reckoned ?c_reckoned ?k_reckoned ?e_place_behind ?l_place_behind ?c_place_behind ?k_place_behind ?e__law_cell ?l__law_cell ?c__law_cell ?k__law_cell ?e__law_state ?l__law_state ?c__law_state ?k__law_state ?e__law_next ?l__law_next ?c__law_next ?k__law_next ?e__law_kind ?l__law_kind ?c__law_kind ?k__law_kind ?e__law_row ?l__law_row ?c__law_row ?k__law_row ?e__law_heads ?l__law_heads ?c__law_heads ?k__law_heads ?e__law_places ?l__law_places ?c__law_places ?k__law_places ?e__law_program ?l__law_program ?c__law_program ?k__law_program ?e__law_values ?l__law_values ?c__law_values ?k__law_values ?e__law_cut ?l__law_cut ?c__law_cut ?k__law_cut ?e_law ?l_law ?c_law ?k_law ?e_Frame____init__ ?l_Frame____init__ ?c_Frame____init__ ?k_Frame____init__ ?fn_Frame____init__ ?e_Frame__put_value ?l_Frame__put_value ?c_Frame__put_value ?k_Frame__put_value ?fn_Frame__put_value ?e_Runner____init__ ?l_Runner____init__ ?c_Runner____init__ ?k_Runner____init__ ?fn_Runner____init__ ?e_Runner__come_to ?l_Runner__come_to ?c_Runner__come_to ?k_Runner__come_to ?fn_Runner__come_to ?e_Runner__enter ?l_Runner__enter ?c_Runner__enter ?k_Runner__enter ?fn_Runner__enter ?e_Runner__do_row ?l_Runner__do_row ?c_Runner__do_row ?k_Runner__do_row ?fn_Runner__do_row ?e_Runner__give_back ?l_Runner__give_back ?c_Runner__give_back ?k_Runner__give_back ?fn_Runner__give_back ?z_abs ?z_enumerate ?z_int ?z_len ?z_list ?z_max ?z_min ?z_range ?z_tuple
    (case e_Frame => k_is)
    (case pg_Frame => k_is)
    (case hd_Frame => k_is)
    (case po_Frame => k_is)
    (case sa_Frame => k_is)
    (case mk_Frame => k_is)
    (case kp_Frame => k_is)
    (case e_Runner => k_is)
    (case pg_Runner => k_is)
    (case hd_Runner => k_is)
    (case po_Runner => k_is)
    (case sa_Runner => k_is)
    (case mk_Runner => k_is)
    (case kp_Runner => k_is)
    (case n_dyes => k_is)
    (case n_frames => k_is)
    (case n_function => k_is)
    (case n_held => k_is)
    (case n_place => k_is)
    (case n_program => k_is)
    (case n_states => k_is)
    (case n_steps => k_is)
    (case e_run => k_is)
    (case l_run => k_is)
    (case c_run => k_is)
    (case k_run => k_is)
    (case dl_run => k_is)
    (case ds_run => exact rfl)
    (case e_change => k_is)
    (case l_change => k_is)
    (case c_change => k_is)
    (case k_change => k_is)
    (case e_reckoned => k_is)
    (case l_reckoned => k_is)
    (case c_reckoned => k_is)
    (case k_reckoned => k_is)
    (case e_place_behind => k_is)
    (case l_place_behind => k_is)
    (case c_place_behind => k_is)
    (case k_place_behind => k_is)
    (case e__law_cell => k_is)
    (case l__law_cell => k_is)
    (case c__law_cell => k_is)
    (case k__law_cell => k_is)
    (case e__law_state => k_is)
    (case l__law_state => k_is)
    (case c__law_state => k_is)
    (case k__law_state => k_is)
    (case e__law_next => k_is)
    (case l__law_next => k_is)
    (case c__law_next => k_is)
    (case k__law_next => k_is)
    (case e__law_kind => k_is)
    (case l__law_kind => k_is)
    (case c__law_kind => k_is)
    (case k__law_kind => k_is)
    (case e__law_row => k_is)
    (case l__law_row => k_is)
    (case c__law_row => k_is)
    (case k__law_row => k_is)
    (case e__law_heads => k_is)
    (case l__law_heads => k_is)
    (case c__law_heads => k_is)
    (case k__law_heads => k_is)
    (case e__law_places => k_is)
    (case l__law_places => k_is)
    (case c__law_places => k_is)
    (case k__law_places => k_is)
    (case e__law_program => k_is)
    (case l__law_program => k_is)
    (case c__law_program => k_is)
    (case k__law_program => k_is)
    (case e__law_values => k_is)
    (case l__law_values => k_is)
    (case c__law_values => k_is)
    (case k__law_values => k_is)
    (case e__law_cut => k_is)
    (case l__law_cut => k_is)
    (case c__law_cut => k_is)
    (case k__law_cut => k_is)
    (case e_law => k_is)
    (case l_law => k_is)
    (case c_law => k_is)
    (case k_law => k_is)
    (case e_Frame____init__ => k_is)
    (case l_Frame____init__ => k_is)
    (case c_Frame____init__ => k_is)
    (case k_Frame____init__ => k_is)
    (case fn_Frame____init__ => k_is)
    (case e_Frame__put_value => k_is)
    (case l_Frame__put_value => k_is)
    (case c_Frame__put_value => k_is)
    (case k_Frame__put_value => k_is)
    (case fn_Frame__put_value => k_is)
    (case e_Runner____init__ => k_is)
    (case l_Runner____init__ => k_is)
    (case c_Runner____init__ => k_is)
    (case k_Runner____init__ => k_is)
    (case fn_Runner____init__ => k_is)
    (case e_Runner__come_to => k_is)
    (case l_Runner__come_to => k_is)
    (case c_Runner__come_to => k_is)
    (case k_Runner__come_to => k_is)
    (case fn_Runner__come_to => k_is)
    (case e_Runner__enter => k_is)
    (case l_Runner__enter => k_is)
    (case c_Runner__enter => k_is)
    (case k_Runner__enter => k_is)
    (case fn_Runner__enter => k_is)
    (case e_Runner__do_row => k_is)
    (case l_Runner__do_row => k_is)
    (case c_Runner__do_row => k_is)
    (case k_Runner__do_row => k_is)
    (case fn_Runner__do_row => k_is)
    (case e_Runner__give_back => k_is)
    (case l_Runner__give_back => k_is)
    (case c_Runner__give_back => k_is)
    (case k_Runner__give_back => k_is)
    (case fn_Runner__give_back => k_is)
    (case z_abs => k_is)
    (case z_enumerate => k_is)
    (case z_int => k_is)
    (case z_len => k_is)
    (case z_list => k_is)
    (case z_max => k_is)
    (case z_min => k_is)
    (case z_range => k_is)
    (case z_tuple => k_is)
#print axioms PySem.Challenge.cw_callmatch_k73_whole_dyes_add_up_holds
