import PyProof.Rows.All
import Wide.All
import OpenK.AllK
import Wide.FinOn
import Lean
import PyProof.EqAt
import PyProof.EqKinds
import PyProof.TupleCall
import PyProof.EqLayable
import PyProof.P3In
import PyProof.Draws
import PyProof.EnumMake
import PyProof.CompFree
import PyProof.CompUse
import KE.KRevIter
import PyProof.DictIter
import PyProof.ZipIter
import PyProof.ListMulRoad
import PyProof.ConsumeWalk
import PyProof.AutoListH
import PyProof.ListNew
import PyProof.RulesAs
import PyProof.StationsW
import PyProof.ExcClass3
import PyProof.ExcInit
import PyProof.InstStoreFacts
import PyProof.ExcBaseAll.ValueError
import OpenK.KOwn
import PyProof.ExcArgsOwn
import PyProof.ExcAttrAll.ValueError
import KE.KTryMore
import PyProof.Rows.CatchBare
import PySem.Challenge.RW_callmatch_k34_doubled_papers
set_option Elab.async false
set_option linter.all false
set_option maxRecDepth 100000
set_option genSizeOfSpec false
set_option compiler.extract_closed false
set_option maxHeartbeats 4000000
local macro_rules | `(tactic| trivial) => `(tactic| first | exact .inl rfl | exact .inr (.inl rfl) | exact .inr (.inr rfl) | exact .inr rfl | assumption)
namespace L2
open PySem PySem.Spec PyProof.Rows
noncomputable abbrev Key := Sum Int Str
noncomputable def keyIs : Key → Value → Bool
  | .inl k, v => Value.isInt k v
  | .inr x, v => Value.isStrOf x v
noncomputable def keyH (w : World) : Key → Int
  | .inl k => hashInt k
  | .inr x => hashStr w x
theorem keyIs_shape : ∀ {k : Key} {v : Value}, keyIs k v = true → (∃ i t, k = Sum.inl i ∧ v = Value.int i t) ∨ (∃ x t, k = Sum.inr x ∧ v = Value.str x t)
  | .inl i, v, h => by
    obtain ⟨t, e⟩ := Value.isInt_shape (k := i) (v := v) h
    exact .inl ⟨i, t, rfl, e⟩
  | .inr x, v, h => by
    obtain ⟨t, e⟩ := Value.isStrOf_shape (x := x) (v := v) h
    exact .inr ⟨x, t, rfl, e⟩
theorem keyIs_int (i : Int) (t : Tok) : keyIs (.inl i) (.int i t) = true := by simp [keyIs, Value.isInt]
theorem keyIs_str (x : Str) (t : Tok) : keyIs (.inr x) (.str x t) = true := by simp [keyIs, Value.isStrOf]
theorem key_ll (a b : Int) : decide ((Sum.inl a : Key) = Sum.inl b) = (a == b) := by
  by_cases e : a = b
  · subst e; simp
  · have h : ¬ (Sum.inl a : Key) = Sum.inl b := fun q => e (Sum.inl.inj q)
    rw [decide_eq_false h]
    exact (beq_eq_false_iff_ne.mpr e).symm
theorem key_rr (a b : Str) : decide ((Sum.inr a : Key) = Sum.inr b) = decide (a = b) := by
  by_cases e : a = b
  · subst e; simp
  · have h : ¬ (Sum.inr a : Key) = Sum.inr b := fun q => e (Sum.inr.inj q)
    rw [decide_eq_false h, decide_eq_false e]
theorem key_lr (a : Int) (b : Str) : decide ((Sum.inl a : Key) = Sum.inr b) = false := decide_eq_false (fun q => nomatch q)
theorem key_rl (a : Str) (b : Int) : decide ((Sum.inr a : Key) = Sum.inl b) = false := decide_eq_false (fun q => nomatch q)
noncomputable def mixKind (prog : Program) (w : World) : PySem.KeyKind prog w Key where
  is := keyIs
  hash := keyH w
  inj := fun v a b ha hb => by
    rcases keyIs_shape ha with ⟨i, t, rfl, rfl⟩ | ⟨x, t, rfl, rfl⟩
    · rcases keyIs_shape hb with ⟨j, u, rfl, e⟩ | ⟨y, u, rfl, e⟩
      · injection e with e1 _; rw [e1]
      · exact nomatch e
    · rcases keyIs_shape hb with ⟨j, u, rfl, e⟩ | ⟨y, u, rfl, e⟩
      · exact nomatch e
      · injection e with e1 _; rw [e1]
  byValue := fun k v h => by
    rcases keyIs_shape h with ⟨i, t, rfl, rfl⟩ | ⟨x, t, rfl, rfl⟩ <;> rfl
  pyHash := fun hv h => by
    rcases keyIs_shape hv with ⟨i, t, rfl, rfl⟩ | ⟨x, t, rfl, rfl⟩
    · exact wpAny_pyHash_int h
    · exact wpAny_pyHash_str h
  eqBool := fun hu hv h => by
    rcases keyIs_shape hu with ⟨i, t, rfl, rfl⟩ | ⟨x, t, rfl, rfl⟩
    · rcases keyIs_shape hv with ⟨j, u, rfl, rfl⟩ | ⟨y, u, rfl, rfl⟩
      · rw [key_ll] at h; exact wpAny_eqBool_int h
      · rw [key_lr] at h; exact SeqAt.EqAt.int_str i t y u _ _ _ _ h
    · rcases keyIs_shape hv with ⟨j, u, rfl, rfl⟩ | ⟨y, u, rfl, rfl⟩
      · rw [key_rl] at h; exact SeqAt.EqAt.str_int x t j u _ _ _ _ h
      · rw [key_rr] at h; exact wpAny_eqBool_str h
  «strs» := fun k x t v h => by
    rcases keyIs_shape h with ⟨i, u, rfl, e⟩ | ⟨y, u, rfl, e⟩
    · exact nomatch e
    · injection e with e1 _
      subst e1
      cases v <;> rfl
theorem mixKind_int (prog : Program) (w : World) (i : Int) (t : Tok) : (mixKind prog w).is (.inl i) (.int i t) = true := keyIs_int i t
theorem mixKind_str (prog : Program) (w : World) (x : Str) (t : Tok) : (mixKind prog w).is (.inr x) (.str x t) = true := keyIs_str x t
end L2
namespace L2
open PySem PySem.Spec PyProof.Rows
inductive V where
  | non | bl (b : Bool) | int (i : Int) | str (x : Str) | byt (b : Array UInt8) | flt (b : UInt64) | ref (a : Addr) | ty (n : String)
  deriving DecidableEq
noncomputable def RelV : V → Value → Prop
  | .non, u => u = Value.none
  | .bl b, u => u = Value.bool b
  | .int i, u => ∃ t, u = Value.int i t
  | .str x, u => ∃ t, u = Value.str x t
  | .byt b, u => ∃ t, u = Value.bytes b t
  | .flt b, u => ∃ t, u = Value.float b t
  | .ref a, u => u = Value.ref a
  | .ty n, u => u = Value.type n
noncomputable abbrev Vals : List V → List Value → Prop := Paired RelV
theorem Vals.length {xs : List V} {us : List Value} (r : Vals xs us) : xs.length = us.length := Paired.length r
theorem Vals.get : ∀ {xs : List V} {us : List Value} {i : Nat} {x : V}, Vals xs us → xs[i]? = some x → ∃ u, us[i]? = some u ∧ RelV x u
  | _, _, _, _, .nil, e => by simp at e
  | _, _, 0, _, .cons r _, e => by simp at e; subst e; exact ⟨_, rfl, r⟩
  | _, _, i + 1, x, .cons _ t, e => by
    obtain ⟨u, h1, h2⟩ := Vals.get (i := i) (x := x) t (by simpa using e)
    exact ⟨u, by simpa using h1, h2⟩
theorem Vals.append : ∀ {xs ys : List V} {us ws : List Value}, Vals xs us → Vals ys ws → Vals (xs ++ ys) (us ++ ws)
  | _, _, _, _, .nil, s => s
  | _, _, _, _, .cons r t, s => .cons r (Vals.append t s)
theorem Vals.take : ∀ {xs : List V} {us : List Value} (n : Nat), Vals xs us → Vals (xs.take n) (us.take n)
  | _, _, 0, _ => .nil
  | _, _, _ + 1, .nil => .nil
  | _, _, n + 1, .cons r t => .cons r (Vals.take n t)
theorem Vals.drop : ∀ {xs : List V} {us : List Value} (n : Nat), Vals xs us → Vals (xs.drop n) (us.drop n)
  | _, _, 0, r => r
  | _, _, _ + 1, .nil => .nil
  | _, _, n + 1, .cons _ t => Vals.drop n t
noncomputable def RelO : Option V → Option Value → Prop
  | some v, some u => RelV v u
  | none, none => True
  | _, _ => False
noncomputable def KV {κ : Type} : List (κ × V) → List (κ × Value) → Prop := Paired fun (p : κ × V) (q : κ × Value) => p.1 = q.1 ∧ RelV p.2 q.2
noncomputable def kV : Key → V
  | .inl i => .int i
  | .inr x => .str x
inductive HO where
  | lst (xs : List V)
  | tup (xs : List V)
  | dK (kvs : List (Key × V)) | dT (kvs : List (List Key × V))
  | set (S : Int → Bool) (n : Nat)
  | ins (C dx : Addr) (fs : List (Str × V))
  | own (x : Addr)
  | xd (fs : List (Str × V))
  | met (f x : Addr)
  | rng (lo hi : Int)
  | frz (o : Obj) (u : HO)
  | tbl (ps : Array Value)
  | ext (φ : Heap → Prop)
noncomputable abbrev Hp := Addr → Option HO
noncomputable def upd (H : Hp) (a : Addr) (o : HO) : Hp := fun b => if b = a then some o else H b
theorem upd_same {H : Hp} {a : Addr} {o : HO} : upd H a o a = some o := by unfold upd; rw [if_pos rfl]
theorem upd_ne {H : Hp} {a b : Addr} {o : HO} (h : b ≠ a) : upd H a o b = H b := by unfold upd; rw [if_neg h]
theorem ne_of_none {H : Hp} {a b : Addr} {o : HO} (h : H a = some o) (h' : H b = none) : a ≠ b := by
  intro e; subst e; rw [h] at h'; cases h'
section
variable (P : Program) (w : World)
noncomputable def ObjOk (H : Hp) (h : Heap) (a : Addr) : HO → Prop
  | .lst xs => xs.length ≤ sizeLine ∧ ∃ (its : List Value) (n : Nat), Vals xs its ∧ h.get? a = some { cls := .type "list", data := .seq its.toArray n }
  | .tup xs => xs.length ≤ sizeLine ∧ ∃ its : List Value, Vals xs its ∧ IsTup h a its.toArray
  | .dK kvs => kvs.length ≤ sizeLine ∧ (a == sysModules) = false ∧ ∃ vs, KV kvs vs ∧ h.DictOf (mixKind P w) a vs
  | .dT kvs => kvs.length ≤ sizeLine ∧ (a == sysModules) = false ∧ ∃ xs : List (List Key × Addr × Value),
      Paired (fun (p : List Key × V) (q : List Key × Addr × Value) => p.1 = q.1 ∧ H q.2.1 = some (.tup (p.1.map kV)) ∧ RelV p.2 q.2.2) kvs xs ∧
      ∃ o es ep, h.get? a = some o ∧ o.ExactDict ∧ o.data = .dict es ep ∧ es.toList = xs.map (entryOfKey (tupleKind (mixKind P w))) ∧ (xs.map (·.1)).Nodup
  | .set S n => h.SetOf (intKind P w) a S n
  | .ins C dx fs => H dx = some (.own a) ∧ fs.length ≤ 1000 ∧ dx ≠ a ∧ h.get? a = some (PySem.W.instObj C dx) ∧
      ∃ mA, h.Ns1 dx mA ∧ (∀ f, RelO (fs.lookup f) (mA f)) ∧ PySem.Within mA (fs.map (·.1))
  | .own _ => ∃ o, h.get? a = some o
  | .xd fs => ∃ mA, h.Ns1 a mA ∧ ∀ f, RelO (fs.lookup f) (mA f)
  | .rng lo hi => ∃ t u v, h.get? a = some { cls := .type "range", data := .fields #[.int lo t, .int hi u, .int 1 v] }
  | .frz o u => h.get? a = some o ∧ ObjOk H h a u
  | .tbl ps => h.get? a = some { cls := .none, data := .fields ps }
  | .met f x => h.get? a = some (PySem.W.methodObj (.ref f) (.ref x))
  | .ext φ => φ h ∧ (∃ o, h.get? a = some o) ∧ ∀ h1 h2 : Heap, φ h1 → (∀ o, h1.get? a = some o → h2.get? a = some o) → φ h2
noncomputable def HOk (H : Hp) (h : Heap) : Prop := ∀ a o, H a = some o → ObjOk P w H h a o
end
section
variable {P : Program} {w : World} {H H' : Hp} {h h' : Heap} {a : Addr} {o : HO}
theorem ObjOk.lt (x : ObjOk P w H h a o) : a < h.objs.size := by
  cases o with
  | lst xs => obtain ⟨_, _, _, _, e⟩ := x; exact Heap.lt_size e
  | tup xs => obtain ⟨_, _, _, p⟩ := x; exact p.lt
  | dK kvs => obtain ⟨_, _, _, _, o, _, _, e, _⟩ := x; exact Heap.lt_size e
  | dT kvs => obtain ⟨_, _, _, _, o, _, _, e, _⟩ := x; exact Heap.lt_size e
  | set S n => obtain ⟨o, _, _, _, e, _⟩ := x; exact Heap.lt_size e
  | ins C dx fs => obtain ⟨_, _, _, e, _⟩ := x; exact Heap.lt_size e
  | own y => obtain ⟨_, e⟩ := x; exact Heap.lt_size e
  | xd fs => obtain ⟨_, ⟨_, _, _, e, _⟩, _⟩ := x; exact Heap.lt_size e
  | rng lo hi => obtain ⟨_, _, _, e⟩ := x; exact Heap.lt_size e
  | frz ob u => obtain ⟨e, _⟩ := x; exact Heap.lt_size e
  | tbl ps => exact Heap.lt_size (show h.get? a = some _ from x)
  | met f y => exact Heap.lt_size (show h.get? a = some _ from x)
  | ext φ => obtain ⟨_, ⟨_, e⟩, _⟩ := x; exact Heap.lt_size e
theorem Paired.mapP {α β : Type} {F G : α → β → Prop} : ∀ {l₁ : List α} {l₂ : List β}, Paired F l₁ l₂ → (∀ a b, F a b → G a b) → Paired G l₁ l₂
  | _, _, .nil, _ => .nil
  | _, _, .cons r t, f => .cons (f _ _ r) (Paired.mapP t f)
theorem ObjOk.stay (x : ObjOk P w H h a o) (k : ∀ b u, (b = a ∨ H b = some (.own a)) → h.get? b = some u → h'.get? b = some u)
    (ho : ∀ b, H b = some (.own a) → H' b = some (.own a)) (ht : ∀ b xs, H b = some (.tup xs) → H' b = some (.tup xs)) : ObjOk P w H' h' a o := by
  induction o with
  | lst xs => obtain ⟨z, its, n, r, e⟩ := x; exact ⟨z, its, n, r, k _ _ (.inl rfl) e⟩
  | tup xs => obtain ⟨z, its, r, ob, e, c⟩ := x; exact ⟨z, its, r, ob, k _ _ (.inl rfl) e, c⟩
  | dK kvs => obtain ⟨z, y, vs, r, ob, es, ep, e, c⟩ := x; exact ⟨z, y, vs, r, ob, es, ep, k _ _ (.inl rfl) e, c⟩
  | dT kvs =>
    obtain ⟨z, y, xs, r, ob, es, ep, e, c⟩ := x
    exact ⟨z, y, xs, Paired.mapP r fun p q z => ⟨z.1, ht _ _ z.2.1, z.2.2⟩, ob, es, ep, k _ _ (.inl rfl) e, c⟩
  | set S n => obtain ⟨ob, es, ep, t, e, c⟩ := x; exact ⟨ob, es, ep, t, k _ _ (.inl rfl) e, c⟩
  | ins C dx fs =>
    obtain ⟨d, z, ne, e, mA, ⟨od, es, ep, e2, c⟩, r⟩ := x
    exact ⟨ho _ d, z, ne, k _ _ (.inl rfl) e, mA, ⟨od, es, ep, k _ _ (.inr d) e2, c⟩, r⟩
  | own y => obtain ⟨ob, e⟩ := x; exact ⟨ob, k _ _ (.inl rfl) e⟩
  | xd fs => obtain ⟨mA, ⟨od, es, ep, e, c⟩, r⟩ := x; exact ⟨mA, ⟨od, es, ep, k _ _ (.inl rfl) e, c⟩, r⟩
  | rng lo hi => obtain ⟨t, u, v, e⟩ := x; exact ⟨t, u, v, k _ _ (.inl rfl) e⟩
  | frz ob u ih => obtain ⟨e, q⟩ := x; exact ⟨k _ _ (.inl rfl) e, ih q⟩
  | tbl ps =>
    have e : h.get? a = some { cls := .none, data := .fields ps } := x
    show h'.get? a = some { cls := .none, data := .fields ps }
    exact k a _ (.inl rfl) e
  | met f y =>
    have e : h.get? a = some (PySem.W.methodObj (.ref f) (.ref y)) := x
    show h'.get? a = some (PySem.W.methodObj (.ref f) (.ref y))
    exact k a _ (.inl rfl) e
  | ext φ => obtain ⟨p, ⟨o, e⟩, st⟩ := x; exact ⟨st _ _ p fun o q => k _ _ (.inl rfl) q, ⟨o, k _ _ (.inl rfl) e⟩, st⟩
theorem HOk.lt (x : HOk P w H h) (e : H a = some o) : a < h.objs.size := (x a o e).lt
theorem HOk.fresh (x : HOk P w H h) (e : h.objs.size ≤ a) : H a = none := by
  cases q : H a with
  | none => rfl
  | some u => exact absurd (Nat.lt_of_lt_of_le (x.lt q) e) (Nat.lt_irrefl _)
theorem HOk.kept (x : HOk P w H h) (k : ∀ b u, h.get? b = some u → h'.get? b = some u) : HOk P w H h' := fun a o e =>
  (x a o e).stay (fun b u _ q => k b u q) (fun _ q => q) fun _ _ q => q
theorem HOk.laid (x : HOk P w H h) (k : ∀ b u, h.get? b = some u → h'.get? b = some u) (hp : h.objs.size ≤ a) (new : ObjOk P w (upd H a o) h' a o) : HOk P w (upd H a o) h' := fun b u e => by
  have hn := x.fresh hp
  by_cases hb : b = a
  · subst hb; rw [upd_same] at e; cases e; exact new
  · rw [upd_ne hb] at e
    exact (x b u e).stay (fun c v _ q => k c v q) (fun c q => by rw [upd_ne (ne_of_none q hn)]; exact q) fun c xs q => by rw [upd_ne (ne_of_none q hn)]; exact q
end
noncomputable def Rd (H : Hp) (a : Addr) (u : HO) : Prop := H a = some u ∨ ∃ o, H a = some (.frz o u)
theorem Rd.ok {P : Program} {w : World} {H : Hp} {h : Heap} {a : Addr} {u : HO} (r : Rd H a u) (x : HOk P w H h) : ObjOk P w H h a u := by
  rcases r with r | ⟨o, r⟩
  · exact x a u r
  · obtain ⟨_, q⟩ := x a _ r
    exact q
noncomputable def Mut : Option HO → Prop
  | some (.lst _) => True
  | some (.dK _) => True
  | some (.dT _) => True
  | some (.set _ _) => True
  | some (.ins _ _ _) => True
  | some (.ext _) => True
  | _ => False
section
variable {P : Program} {w : World} {H : Hp} {h h' : Heap} {x e : Addr} {o' : HO}
theorem HOk.write (ok : HOk P w H h) (mu : Mut (H x)) (he : e = x ∨ H e = some (.own x)) (k : ∀ b u, b ≠ e → h.get? b = some u → h'.get? b = some u) (heo : ∃ u, h'.get? e = some u)
    (new : ObjOk P w (upd H x o') h' x o') : HOk P w (upd H x o') h' := fun b u q => by
  have nown : ∀ c y, H c = some (.own y) → c ≠ x := fun c y r z => by subst z; rw [r] at mu; exact mu
  have ntup : ∀ c xs, H c = some (.tup xs) → c ≠ x := fun c xs r z => by subst z; rw [r] at mu; exact mu
  by_cases hb : b = x
  · subst hb; rw [upd_same] at q; cases q; exact new
  · rw [upd_ne hb] at q
    by_cases hbe : b = e
    · have q' : H b = some (.own x) := by
        rcases he with z | z
        · exact absurd (hbe.trans z) hb
        · rw [hbe]; exact z
      rw [q] at q'; cases q'
      obtain ⟨v, hv⟩ := heo
      exact ⟨v, by rw [hbe]; exact hv⟩
    · refine (ok b u q).stay (fun c v hc r => k c v ?_ r) (fun c r => by rw [upd_ne (nown c b r)]; exact r) fun c xs r => by rw [upd_ne (ntup c xs r)]; exact r
      rcases hc with rfl | hc
      · exact hbe
      · rintro rfl
        rcases he with z | z
        · exact nown c b hc z
        · rw [hc] at z; cases z; exact hb rfl
end
structure Un (fs ex : List Addr) (H H' : Hp) (h h' : Heap) : Prop where
  keep : ∀ b o, h.get? b = some o → H b = none → b ∉ fs → b ∉ ex → h'.get? b = some o
  slot : ∀ b o, h.get? b = some o → H b = none → b ∈ fs → b ∉ ex → ∃ sl, h'.get? b = some { o with slots := sl }
  free : ∀ b o, h.get? b = some o → H b = none → b ∉ ex → H' b = none
  there : ∀ b o, h.get? b = some o → b ∉ ex → ∃ o', h'.get? b = some o'
  tups : ∀ b xs, H b = some (.tup xs) → H' b = some (.tup xs)
  frzs : ∀ b o u, H b = some (.frz o u) → H' b = some (.frz o u)
  tbls : ∀ b ps, H b = some (.tbl ps) → ∃ more, H' b = some (.tbl (ps ++ more))
section
variable {fs fs' ex ex' : List Addr} {H H1 H2 : Hp} {h h1 h2 h' : Heap} {a x e : Addr} {o : HO}
theorem Un.any (u : Un fs ex H H1 h h1) {b : Addr} {ob : Obj} (q : h.get? b = some ob) (n : H b = none) (hx : b ∉ ex) : ∃ sl, h1.get? b = some { ob with slots := sl } := by
  by_cases hb : b ∈ fs
  · exact u.slot b ob q n hb hx
  · exact ⟨ob.slots, u.keep b ob q n hb hx⟩
theorem Un.trans (a : Un fs ex H H1 h h1) (b : Un fs ex H1 H2 h1 h2) : Un fs ex H H2 h h2 where
  keep := fun c ob q n hc hx => b.keep c ob (a.keep c ob q n hc hx) (a.free c ob q n hx) hc hx
  slot := fun c ob q n hc hx => by
    obtain ⟨sl, e1⟩ := a.slot c ob q n hc hx
    obtain ⟨sl', e2⟩ := b.slot c _ e1 (a.free c ob q n hx) hc hx
    exact ⟨sl', e2⟩
  free := fun c ob q n hx => by
    obtain ⟨o', e1⟩ := a.there c ob q hx
    exact b.free c o' e1 (a.free c ob q n hx) hx
  there := fun c ob q hx => by
    obtain ⟨o', e1⟩ := a.there c ob q hx
    exact b.there c o' e1 hx
  tups := fun c xs q => b.tups c xs (a.tups c xs q)
  frzs := fun c ob xs q => b.frzs c ob xs (a.frzs c ob xs q)
  tbls := fun c ps q => by
    obtain ⟨m1, e1⟩ := a.tbls c ps q
    obtain ⟨m2, e2⟩ := b.tbls c _ e1
    exact ⟨m1 ++ m2, by rw [e2, Array.append_assoc]⟩
theorem Un.kept (k : ∀ b u, h.get? b = some u → h'.get? b = some u) : Un fs ex H H h h' :=
  ⟨fun b ob q _ _ _ => k b ob q, fun b ob q _ _ _ => ⟨ob.slots, k b ob q⟩, fun _ _ _ n _ => n, fun b ob q _ => ⟨ob, k b ob q⟩, fun _ _ q => q, fun _ _ _ q => q, fun _ ps q => ⟨#[], by rw [q]; simp⟩⟩
theorem Un.refl : Un fs ex H H h h := Un.kept fun _ _ q => q
theorem Un.laid (k : ∀ b u, h.get? b = some u → h'.get? b = some u) (hp : h.objs.size ≤ a) (hn : H a = none) : Un fs ex H (upd H a o) h h' where
  keep := fun b u q _ _ _ => k b u q
  slot := fun b u q _ _ _ => ⟨u.slots, k b u q⟩
  free := fun b u q n _ => by rw [upd_ne (Nat.ne_of_lt (Nat.lt_of_lt_of_le (Heap.lt_size q) hp))]; exact n
  there := fun b u q _ => ⟨u, k b u q⟩
  tups := fun b xs q => by rw [upd_ne (ne_of_none q hn)]; exact q
  frzs := fun b u xs q => by rw [upd_ne (ne_of_none q hn)]; exact q
  tbls := fun b ps q => ⟨#[], by rw [upd_ne (ne_of_none q hn), q]; simp⟩
theorem Un.write (mu : Mut (H x)) (he : e = x ∨ H e = some (.own x)) (k : ∀ b u, b ≠ e → h.get? b = some u → h'.get? b = some u) (heo : ∃ u, h'.get? e = some u) : Un fs ex H (upd H x o) h h' := by
  have hx : ∀ b, H b = none → b ≠ x := fun b n z => by subst z; rw [n] at mu; exact mu
  have hb : ∀ b, H b = none → b ≠ e := fun b n z => by
    subst z
    rcases he with r | r
    · exact hx b n r
    · rw [n] at r; cases r
  have hm : ∀ b u, H b = some u → ¬ Mut (some u) → b ≠ x := fun b u q nm z => by subst z; rw [q] at mu; exact nm mu
  refine ⟨fun b u q n _ _ => k b u (hb b n) q, fun b u q n _ _ => ⟨u.slots, k b u (hb b n) q⟩, fun b u q n _ => by rw [upd_ne (hx b n)]; exact n, fun b u q _ => ?_,
    fun b xs q => by rw [upd_ne (hm b _ q fun z => z)]; exact q, fun b u xs q => by rw [upd_ne (hm b _ q fun z => z)]; exact q, fun b ps q => ⟨#[], by rw [upd_ne (hm b _ q fun z => z), q]; simp⟩⟩
  by_cases hbe : b = e
  · subst hbe; exact heo
  · exact ⟨u, k b u hbe q⟩
theorem Un.mono (u : Un fs ex H H1 h h1) (hs : ∀ b ∈ fs, b ∈ fs') (hx : ∀ b ∈ ex, b ∈ ex') : Un fs' ex' H H1 h h1 :=
  ⟨fun b ob q n hb he => u.keep b ob q n (fun z => hb (hs b z)) fun z => he (hx b z), fun _ _ q n _ he => u.any q n fun z => he (hx _ z), fun b ob q n he => u.free b ob q n fun z => he (hx b z), fun b ob q he => u.there b ob q fun z => he (hx b z), u.tups, u.frzs, u.tbls⟩
end
noncomputable def trk (h : Heap) (H : Hp) : List Addr := (List.range h.objs.size).filter fun a => (H a).isSome
noncomputable def hidT (h : Heap) (H : Hp) : Heap := PySem.W.hideAll h (trk h H)
theorem hidT_size (h : Heap) (H : Hp) : (hidT h H).objs.size = h.objs.size := PySem.W.hideAll_size _ _
theorem hidT_get {h : Heap} {H : Hp} {b : Addr} {o : Obj} (e : h.get? b = some o) (n : H b = none) : (hidT h H).get? b = some o :=
  PySem.W.hideAll_get _ e fun hm => by
    have q : (H b).isSome = true := (List.mem_filter.mp hm).2
    rw [n] at q; simp at q
theorem of_hidT {h : Heap} {H : Hp} {b : Addr} {o : Obj} (e : (hidT h H).get? b = some o) : h.get? b = some o ∧ H b = none := by
  have e' : h.get? b = some o := PySem.W.of_hideAll (trk h H) e
  refine ⟨e', ?_⟩
  cases q : H b with
  | none => rfl
  | some x =>
    have hm : b ∈ trk h H := List.mem_filter.mpr ⟨List.mem_range.mpr (Heap.lt_size e'), by simp [q]⟩
    have z : (hidT h H).get? b = none := PySem.W.hideAll_none (trk h H) hm
    rw [z] at e; cases e
end L2
namespace L2
open PySem PySem.Spec PyProof.Rows
structure Mod (K : PySem.W.Frag) (mg : Str → Option Value) (base : Heap) : Prop where
  kin : K.In base
  glob : base.Ns mainGlobals mg
  blt : ∃ mb, base.Ns builtinsNs mb ∧ ∀ x : Str, x ≠ "__name__" → mb x = bootBuiltins x
  nolimit : base.NoLimit
structure Cx where
  prog : Program
  w : World
  K : PySem.W.Frag
  mg : Str → Option Value
  base : Heap
  A : Around
  N : List Str
  s₀ : Shared
  H₀ : Hp
  env : Env
  outer : List Env
  stack : List Env
  ex : List Addr
  fn : Str → Bool
  calm : Bool
  pn : List (Addr × Obj)
  xe : Value → Shared → Prop
  ex9 : Value → Option Addr → Hp → Prop := fun _ _ _ => False
noncomputable def frs (l : List Env) : List Addr := l.filterMap (·.frame)
noncomputable abbrev Cx.fs (X : Cx) : List Addr := frs X.outer
noncomputable def Vis (sc : Scope) (x : Str) : Prop := sc.names.lookup x = some .local ∨ sc.names.lookup x = some .cell ∨ sc.names.lookup x = some .free
noncomputable def Loc (sc : Scope) (x : Str) : Prop := sc.names.lookup x = some .local ∨ sc.names.lookup x = some .cell
noncomputable def Look (env : Env) (h : Heap) (m : Str → Option Value) (x : Str) (u : Value) : Prop :=
  (env.kindOf x = some .local ∧ m x = some u) ∨ ((env.kindOf x = some .cell ∨ env.kindOf x = some .free) ∧ ∃ c, env.cells.lookup x = some c ∧ h.IsCell c (some u))
structure Cx.Ok (X : Cx) : Prop where
  mod : Mod X.K X.mg X.base
  kind : X.env.scope.kind = .function
  glob : X.env.globals = mainGlobals
  blt : X.env.builtins = builtinsNs
  above : X.s₀.heap.objs.size ≤ X.env.locals
  inj : ∀ x y c, X.env.cells.lookup x = some c → X.env.cells.lookup y = some c → x = y
  has : ∀ x, (X.env.kindOf x = some .cell ∨ X.env.kindOf x = some .free) → ∃ c, X.env.cells.lookup x = some c
  cab : ∀ x c, X.fn x = true → X.env.cells.lookup x = some c → X.s₀.heap.objs.size ≤ c
  hd : X.calm = true → X.A.handled = none
  frames : X.A.frames = some X.stack
  stk : X.stack = X.outer ∨ (X.stack = X.env :: X.outer ∧ X.env.frame = some X.env.locals)
  exf : ∀ b ∈ X.ex, b ≠ X.env.locals ∧ ∀ x c, X.env.cells.lookup x = some c → c ≠ b
  bs : ∀ b o, X.base.get? b = some o → X.s₀.heap.get? b = some o ∧ X.H₀ b = none
  bsz : X.base.objs.size ≤ X.s₀.heap.objs.size
  noex : ∀ b o, X.base.get? b = some o → b ∉ X.ex
  exfs : ∀ b ∈ X.ex, b ∉ X.fs
  funs : X.s₀.heap.FunFrames X.base X.outer
  frf : ∀ b ∈ X.fs, X.H₀ b = none
structure Inv (X : Cx) (pins : List (Addr × Obj)) (σ : List (Option V)) (H : Hp) (s : Shared) : Prop where
  ok : X.Ok
  os : s.os = X.s₀.os
  bare : AllBare s.gens
  base : Un X.fs X.ex X.H₀ H X.s₀.heap s.heap
  loc : ∃ m, s.heap.Ns X.env.locals m ∧ ∀ (i : Nat) (x : Str) (v : V), X.N[i]? = some x → σ[i]? = some (some v) → Vis X.env.scope x → ∃ u, RelV v u ∧ Look X.env s.heap m x u
  cell : ∀ x c, X.env.cells.lookup x = some c → ∃ v, s.heap.IsCell c v
  free : H X.env.locals = none
  freeC : ∀ x c, X.env.cells.lookup x = some c → H c = none
  pin : ∀ p ∈ X.pn ++ pins, s.heap.get? p.1 = some p.2 ∧ H p.1 = none ∧ p.1 ≠ X.env.locals ∧ p.1 ∉ X.fs ∧ ∀ v, p.2.data ≠ .cell v
  hok : HOk X.prog X.w H s.heap
  len : σ.length = X.N.length
section
variable {X : Cx} {pins : List (Addr × Obj)} {σ : List (Option V)} {H H' : Hp} {s : Shared} {h' : Heap}
theorem Cx.Ok.nofr (ok : X.Ok) {b : Addr} {o : Obj} (e : X.base.get? b = some o) : b ∉ X.fs := fun hb => by
  have := (ok.funs.mem hb).1
  rw [e] at this; cases this
theorem Inv.bs (I : Inv X pins σ H s) : ∀ b o, X.base.get? b = some o → s.heap.get? b = some o ∧ H b = none := fun b o e =>
  ⟨I.base.keep b o (I.ok.bs b o e).1 (I.ok.bs b o e).2 (I.ok.nofr e) (I.ok.noex b o e), I.base.free b o (I.ok.bs b o e).1 (I.ok.bs b o e).2 (I.ok.noex b o e)⟩
theorem Inv.bk (I : Inv X pins σ H s) : ∀ b o, X.base.get? b = some o → s.heap.get? b = some o := fun b o e => (I.bs b o e).1
theorem Inv.mod (I : Inv X pins σ H s) : Mod X.K X.mg X.base := I.ok.mod
theorem Inv.kIn (I : Inv X pins σ H s) : X.K.In s.heap := I.ok.mod.kin.keeps I.bk
theorem Inv.lt (I : Inv X pins σ H s) : X.env.locals < s.heap.objs.size := let ⟨_, hn, _⟩ := I.loc; hn.lt
theorem Inv.sz (I : Inv X pins σ H s) : X.s₀.heap.objs.size ≤ s.heap.objs.size := Nat.le_trans I.ok.above (Nat.le_of_lt I.lt)
theorem Inv.nofs (I : Inv X pins σ H s) {a : Addr} (h : s.heap.objs.size ≤ a) : a ∉ X.fs := fun hb => by
  obtain ⟨_, o, ho, _⟩ := I.ok.funs.mem hb
  exact absurd (Nat.lt_of_lt_of_le (Heap.lt_size ho) (Nat.le_trans I.sz h)) (Nat.lt_irrefl _)
theorem Inv.cne (I : Inv X pins σ H s) : ∀ x c, X.env.cells.lookup x = some c → c ≠ X.env.locals := fun x c e z => by
  obtain ⟨v, o, ho, hd⟩ := I.cell x c e
  obtain ⟨m, ⟨o', es, ep, ho', hd', _⟩, _⟩ := I.loc
  rw [z, ho'] at ho; cases ho; rw [hd'] at hd; cases hd
theorem Inv.funs (I : Inv X pins σ H s) : s.heap.FunFrames X.base X.outer := by
  have all : ∀ (l : List Env), (∀ b ∈ frs l, b ∈ X.fs) → X.s₀.heap.FunFrames X.base l → s.heap.FunFrames X.base l := by
    intro l
    induction l with
    | nil => intro _ _; trivial
    | cons env r ih =>
      intro hs hl
      obtain ⟨hk, ⟨L, o, hf, hn, ho, hd⟩, hr⟩ := hl
      have hL : L ∈ X.fs := hs L (by unfold frs; rw [List.filterMap_cons, hf]; exact List.mem_cons_self)
      obtain ⟨sl, e⟩ := I.base.slot L o ho (I.ok.frf L hL) hL fun z => I.ok.exfs L z hL
      exact ⟨hk, ⟨L, _, hf, hn, e, hd⟩, ih (fun b hb => hs b (by unfold frs; rw [List.filterMap_cons, hf]; exact List.mem_cons_of_mem _ hb)) hr⟩
  exact all X.outer (fun _ hb => hb) I.ok.funs
theorem Inv.stack (I : Inv X pins σ H s) : s.heap.FunFrames X.base X.stack := by
  rcases I.ok.stk with e | ⟨e, hf⟩
  · rw [e]; exact I.funs
  · rw [e]
    obtain ⟨m, hn, _⟩ := I.loc
    refine .cons (by rw [I.ok.kind]; decide) hf hn ?_ I.funs
    exact Heap.get?_none_of_le (Nat.le_trans I.ok.bsz I.ok.above)
theorem Inv.stkSub (I : Inv X pins σ H s) : ∀ b ∈ frs X.stack, b ∈ X.env.locals :: X.fs := fun b hb => by
  rcases I.ok.stk with e | ⟨e, hf⟩
  · rw [e] at hb; exact List.mem_cons_of_mem _ hb
  · rw [e] at hb
    unfold frs at hb
    rw [List.filterMap_cons, hf] at hb
    exact hb
theorem Inv.stkFree (I : Inv X pins σ H s) : ∀ b ∈ frs X.stack, H b = none := fun b hb => by
  rcases List.mem_cons.mp (I.stkSub b hb) with e | hb
  · rw [e]; exact I.free
  · obtain ⟨_, o, ho, _⟩ := I.ok.funs.mem hb
    exact I.base.free b o ho (I.ok.frf b hb) fun z => I.ok.exfs b z hb
theorem Inv.step {g' : Array GenState} {t' : Nat} {d' : Drawn} {ch : List Addr} (I : Inv X pins σ H s)
    (hch : ∀ b ∈ ch, (b ∈ X.ex ∨ X.s₀.heap.objs.size ≤ b) ∧ b ≠ X.env.locals ∧ (∀ x c, X.env.cells.lookup x = some c → c ≠ b) ∧ ∀ p ∈ X.pn ++ pins, p.1 ≠ b)
    (keep : ∀ b o, b ≠ X.env.locals → b ∉ X.fs → b ∉ ch → s.heap.get? b = some o → H b = none → h'.get? b = some o)
    (slot : ∀ b o, b ≠ X.env.locals → b ∈ X.fs → b ∉ ch → s.heap.get? b = some o → H b = none → ∃ sl, h'.get? b = some { o with slots := sl }) (free : ∀ b o, b ∉ ch → s.heap.get? b = some o → H b = none → H' b = none)
    (there : ∀ b o, b ∉ ch → s.heap.get? b = some o → ∃ o', h'.get? b = some o')
    (tups : ∀ b xs, H b = some (.tup xs) → H' b = some (.tup xs)) (frzs : ∀ b o u, H b = some (.frz o u) → H' b = some (.frz o u)) (tbls : ∀ b ps, H b = some (.tbl ps) → ∃ more, H' b = some (.tbl (ps ++ more)))
    (ns : ∀ m, s.heap.Ns X.env.locals m → h'.Ns X.env.locals m) (hok : HOk X.prog X.w H' h') (hg : AllBare g') :
    Inv X pins σ H' { s with heap := h', gens := g', drawn := d', toks := t' } := by
  have neL : ∀ b o, X.s₀.heap.get? b = some o → b ≠ X.env.locals := fun b o e => Nat.ne_of_lt (Nat.lt_of_lt_of_le (Heap.lt_size e) I.ok.above)
  have neC : ∀ b o, X.s₀.heap.get? b = some o → b ∉ X.ex → b ∉ ch := fun b o e hx hb => by
    rcases (hch b hb).1 with z | z
    · exact hx z
    · exact absurd (Nat.lt_of_lt_of_le (Heap.lt_size e) z) (Nat.lt_irrefl _)
  have cellK : ∀ x c, X.env.cells.lookup x = some c → ∀ v, s.heap.IsCell c v → h'.IsCell c v := fun x c e v ⟨o, ho, hd⟩ => by
    have nch : c ∉ ch := fun z => (hch c z).2.2.1 x c e rfl
    by_cases hc : c ∈ X.fs
    · obtain ⟨sl, q⟩ := slot c o (I.cne x c e) hc nch ho (I.freeC x c e)
      exact ⟨_, q, hd⟩
    · exact ⟨o, keep c o (I.cne x c e) hc nch ho (I.freeC x c e), hd⟩
  refine ⟨I.ok, I.os, hg, ⟨fun b o e n hb hx => ?_, fun b o e n hb hx => ?_, fun b o e n hx => ?_, fun b o e hx => ?_, fun b xs e => tups b xs (I.base.tups b xs e), fun b o xs e => frzs b o xs (I.base.frzs b o xs e), fun b ps e => ?_⟩, ?_, fun x c e => ?_, ?_, fun x c e => ?_, fun p hp => ?_, hok, I.len⟩
  · exact keep b o (neL b o e) hb (neC b o e hx) (I.base.keep b o e n hb hx) (I.base.free b o e n hx)
  · obtain ⟨sl, e1⟩ := I.base.slot b o e n hb hx
    obtain ⟨sl', e2⟩ := slot b _ (neL b o e) hb (neC b o e hx) e1 (I.base.free b o e n hx)
    exact ⟨sl', e2⟩
  · obtain ⟨o', e1⟩ := I.base.there b o e hx
    exact free b o' (neC b o e hx) e1 (I.base.free b o e n hx)
  · obtain ⟨o', e1⟩ := I.base.there b o e hx
    exact there b o' (neC b o e hx) e1
  · obtain ⟨m1, e1⟩ := I.base.tbls b ps e
    obtain ⟨m2, e2⟩ := tbls b _ e1
    exact ⟨m1 ++ m2, by rw [e2, Array.append_assoc]⟩
  · obtain ⟨m, hn, hl⟩ := I.loc
    refine ⟨m, ns m hn, fun i x v e1 e2 e3 => ?_⟩
    obtain ⟨u, r, l⟩ := hl i x v e1 e2 e3
    refine ⟨u, r, ?_⟩
    rcases l with l | ⟨k, c, e, z⟩
    · exact .inl l
    · exact .inr ⟨k, c, e, cellK x c e _ z⟩
  · obtain ⟨v, z⟩ := I.cell x c e
    exact ⟨v, cellK x c e v z⟩
  · obtain ⟨m, ⟨o, _, _, ho, _⟩, _⟩ := I.loc
    exact free _ o (fun z => (hch _ z).2.1 rfl) ho I.free
  · obtain ⟨v, o, ho, hd⟩ := I.cell x c e
    exact free c o (fun z => (hch c z).2.2.1 x c e rfl) ho (I.freeC x c e)
  · obtain ⟨e, n, ne, nf, d⟩ := I.pin p hp
    have nch : p.1 ∉ ch := fun z => (hch p.1 z).2.2.2 p hp rfl
    exact ⟨keep p.1 p.2 ne nf nch e n, free p.1 p.2 nch e n, ne, nf, d⟩
theorem Inv.un {t' : Nat} (I : Inv X pins σ H s) (u : Un X.fs [] H H' s.heap h') (hok : HOk X.prog X.w H' h') : Inv X pins σ H' { s with heap := h', toks := t' } := by
  obtain ⟨m, ⟨o, es, ep, ho, r⟩, _⟩ := id I.loc
  obtain ⟨sl, hL⟩ := u.any ho I.free (by simp)
  exact I.step (g' := s.gens) (d' := s.drawn) (ch := []) (fun _ z => nomatch z) (fun b o _ hb _ e n => u.keep b o e n hb (by simp)) (fun b o _ hb _ e n => u.slot b o e n hb (by simp)) (fun b o _ e n => u.free b o e n (by simp)) (fun b o _ e => u.there b o e (by simp)) u.tups u.frzs u.tbls (fun m' hm => by
    obtain ⟨o', es', ep', ho', r'⟩ := hm
    rw [ho] at ho'; cases ho'
    exact ⟨_, es', ep', hL, r'⟩) hok I.bare
theorem Inv.call {g' : Array GenState} {t' : Nat} {d' : Drawn} {ch : List Addr} (I : Inv X pins σ H s) (u : Un (frs X.stack) ch H H' s.heap h') (hok : HOk X.prog X.w H' h') (hg : AllBare g')
    (hch : ∀ b ∈ ch, (b ∈ X.ex ∨ X.s₀.heap.objs.size ≤ b) ∧ b ≠ X.env.locals ∧ (∀ x c, X.env.cells.lookup x = some c → c ≠ b) ∧ ∀ p ∈ X.pn ++ pins, p.1 ≠ b) :
    Inv X pins σ H' { s with heap := h', gens := g', drawn := d', toks := t' } := by
  obtain ⟨m, ⟨o, es, ep, ho, r⟩, _⟩ := id I.loc
  obtain ⟨sl, hL⟩ := u.any ho I.free fun z => (hch _ z).2.1 rfl
  exact I.step (ch := ch) hch (fun b o hL hb hc e n => u.keep b o e n (fun z => (List.mem_cons.mp (I.stkSub b z)).elim hL hb) hc) (fun b o _ _ hc e n => u.any e n hc) (fun b o hc e n => u.free b o e n hc) (fun b o hc e => u.there b o e hc) u.tups u.frzs u.tbls (fun m' hm => by
    obtain ⟨o', es', ep', ho', r'⟩ := hm
    rw [ho] at ho'; cases ho'
    exact ⟨_, es', ep', hL, r'⟩) hok hg
theorem Inv.turned {t' : Nat} {it : Addr} (I : Inv X pins σ H s) (k : ∀ b o, b ≠ it → s.heap.get? b = some o → h'.get? b = some o) (hn : H it = none) (hL : it ≠ X.env.locals)
    (h1 : it ∈ X.ex ∨ X.s₀.heap.objs.size ≤ it) (h2 : ∀ x c, X.env.cells.lookup x = some c → c ≠ it) (h3 : ∀ p ∈ X.pn ++ pins, p.1 ≠ it) : Inv X pins σ H { s with heap := h', toks := t' } := by
  have nit : ∀ b u, H b = some u → b ≠ it := fun b u e z => by rw [z, hn] at e; cases e
  refine I.step (g' := s.gens) (d' := s.drawn) (ch := [it]) (fun b hb => ?_) (fun b o _ _ hc e _ => k b o (fun z => hc (by simp [z])) e) (fun b o _ _ hc e _ => ⟨o.slots, k b o (fun z => hc (by simp [z])) e⟩) (fun _ _ _ _ n => n)
    (fun b o hc e => ⟨o, k b o (fun z => hc (by simp [z])) e⟩) (fun _ _ e => e) (fun _ _ _ e => e) (fun b ps e => ⟨#[], by rw [e]; simp⟩) (fun m hm => ?_) (fun b u e => ?_) I.bare
  · have e : b = it := by simpa using hb
    subst e
    exact ⟨h1, hL, h2, h3⟩
  · obtain ⟨o, es, ep, ho, r⟩ := hm
    exact ⟨o, es, ep, k _ o (Ne.symm hL) ho, r⟩
  · refine (I.hok b u e).stay (fun c v hc q => k c v ?_ q) (fun _ q => q) fun _ _ q => q
    rcases hc with z | z
    · rw [z]; exact nit b u e
    · exact nit c _ z
theorem Inv.tok (I : Inv X pins σ H s) (t : Nat) : Inv X pins σ H { s with toks := t } := I.un (h' := s.heap) (t' := t) Un.refl I.hok
theorem Inv.kept {t' : Nat} (I : Inv X pins σ H s) (k : ∀ b u, s.heap.get? b = some u → h'.get? b = some u) : Inv X pins σ H { s with heap := h', toks := t' } := I.un (Un.kept k) (I.hok.kept k)
theorem Inv.laid {a : Addr} {o : HO} {t' : Nat} (I : Inv X pins σ H s) (k : ∀ b u, s.heap.get? b = some u → h'.get? b = some u) (hp : s.heap.objs.size ≤ a) (new : ObjOk X.prog X.w (upd H a o) h' a o) :
    Inv X pins σ (upd H a o) { s with heap := h', toks := t' } := I.un (Un.laid k hp (I.hok.fresh hp)) (I.hok.laid k hp new)
theorem Inv.write {x e : Addr} {o : HO} {t' : Nat} (I : Inv X pins σ H s) (mu : Mut (H x)) (he : e = x ∨ H e = some (.own x)) (k : ∀ b u, b ≠ e → s.heap.get? b = some u → h'.get? b = some u) (heo : ∃ u, h'.get? e = some u)
    (new : ObjOk X.prog X.w (upd H x o) h' x o) : Inv X pins σ (upd H x o) { s with heap := h', toks := t' } := I.un (Un.write mu he k heo) (I.hok.write mu he k heo new)
theorem Inv.pins_of {pins' : List (Addr × Obj)} (I : Inv X pins σ H s) (h : ∀ p ∈ pins', s.heap.get? p.1 = some p.2 ∧ H p.1 = none ∧ p.1 ≠ X.env.locals ∧ p.1 ∉ X.fs ∧ ∀ v, p.2.data ≠ .cell v) : Inv X pins' σ H s :=
  ⟨I.ok, I.os, I.bare, I.base, I.loc, I.cell, I.free, I.freeC, fun p hp => (List.mem_append.mp hp).elim (fun z => I.pin p (List.mem_append_left _ z)) (h p), I.hok, I.len⟩
theorem nodup_ix {N : List Str} (hN : N.Nodup) {i j : Nat} {x : Str} (a : N[i]? = some x) (b : N[j]? = some x) : i = j := by
  obtain ⟨h1, e1⟩ := List.getElem?_eq_some_iff.mp a
  obtain ⟨h2, e2⟩ := List.getElem?_eq_some_iff.mp b
  exact (List.getElem_inj hN).mp (e1.trans e2.symm)
theorem store_ok2 {M : Model} {A : Around} {E : Value → Shared → Prop} {i : Nat} {x : Str} {v : V} {u : Value} {Q : Unit → Shared → Prop} (I : Inv X pins σ H s) (hN : X.N.Nodup) (hi : X.N[i]? = some x) (hx : Loc X.env.scope x) (r : RelV v u)
    (h : ∀ s', Inv X pins (σ.set i (some v)) H s' → (∃ a, Heap.SameBut a s.heap s'.heap ∧ (a = X.env.locals ∨ X.env.cells.lookup x = some a)) → Q () s') (hf : X.fn x = true ∨ X.env.scope.names.lookup x = some .local := by trivial) : wpAny M A (storeName X.env x u) Q E s := by
  obtain ⟨m, hn, hl⟩ := id I.loc
  have hcls : (X.env.scope.kind == .class || (X.env.scope.kind == .module && X.env.locals != X.env.globals)) = false := by rw [I.ok.kind]; rfl
  have hiσ : i < σ.length := by rw [I.len]; exact (List.getElem?_eq_some_iff.mp hi).1
  have cne := I.cne
  have tracked : ∀ {a : Addr} {h' : Heap}, (∃ o, s.heap.get? a = some o ∧ H a = none) → Heap.SameBut a s.heap h' → HOk X.prog X.w H h' := fun {a h'} ha hs b ob e => by
    obtain ⟨_, _, hfree⟩ := ha
    refine (I.hok b ob e).stay (fun c w' hc q => (hs.2 c ?_).trans q) (fun _ q => q) fun _ _ q => q
    rintro rfl
    rcases hc with rfl | hc
    · rw [hfree] at e; cases e
    · rw [hfree] at hc; cases hc
  rcases hx with hk | hk
  · refine wpAny_storeName_local hk hn (fun h' hn' hs => ?_) hcls
    obtain ⟨oL, _, _, hoL, _⟩ := id hn
    refine h _ ⟨I.ok, I.os, I.bare, ⟨fun b o e n hb hx => ?_, fun b o e n hb hx => ?_, I.base.free, fun b o e hx => ?_, I.base.tups, I.base.frzs, I.base.tbls⟩, ⟨_, hn', fun j y v' e1 e2 e3 => ?_⟩, fun y c e => ?_, I.free, I.freeC, fun p hp => ?_, tracked ⟨oL, hoL, I.free⟩ hs, by simpa using I.len⟩ ⟨_, hs, .inl rfl⟩
    · exact (hs.2 b (Nat.ne_of_lt (Nat.lt_of_lt_of_le (Heap.lt_size e) I.ok.above))).trans (I.base.keep b o e n hb hx)
    · obtain ⟨sl, e1⟩ := I.base.slot b o e n hb hx
      exact ⟨sl, (hs.2 b (Nat.ne_of_lt (Nat.lt_of_lt_of_le (Heap.lt_size e) I.ok.above))).trans e1⟩
    · obtain ⟨o', e1⟩ := I.base.there b o e hx
      exact ⟨o', (hs.2 b (Nat.ne_of_lt (Nat.lt_of_lt_of_le (Heap.lt_size e) I.ok.above))).trans e1⟩
    · by_cases hj : j = i
      · subst hj
        rw [hi] at e1; cases e1
        rw [List.getElem?_set_self hiσ] at e2
        cases e2
        exact ⟨u, r, .inl ⟨hk, by simp⟩⟩
      · rw [List.getElem?_set_ne (Ne.symm hj)] at e2
        obtain ⟨u', r', q⟩ := hl j y v' e1 e2 e3
        refine ⟨u', r', ?_⟩
        rcases q with ⟨k, e⟩ | ⟨k, c, e, z⟩
        · refine .inl ⟨k, ?_⟩
          have : y ≠ x := fun e => hj (nodup_ix hN e1 (e ▸ hi))
          simp [this, e]
        · exact .inr ⟨k, c, e, z.sameBut hs (cne y c e)⟩
    · obtain ⟨w', z⟩ := I.cell y c e
      exact ⟨w', z.sameBut hs (cne y c e)⟩
    · obtain ⟨e, n, ne, nf, d⟩ := I.pin p hp
      exact ⟨(hs.2 p.1 ne).trans e, n, ne, nf, d⟩
  · have hfn : X.fn x = true := by
      rcases hf with z | z
      · exact z
      · rw [z] at hk; cases hk
    obtain ⟨c, hc⟩ := I.ok.has x (.inl hk)
    obtain ⟨w', z⟩ := I.cell x c hc
    refine wpAny_storeName_cell I.ok.kind hk hc z (fun h' hc' hs => ?_)
    obtain ⟨oc, hoc, hocd⟩ := id z
    refine h { s with heap := h' } ⟨I.ok, I.os, I.bare, ⟨fun b o e n hb hx => ?_, fun b o e n hb hx => ?_, I.base.free, fun b o e hx => ?_, I.base.tups, I.base.frzs, I.base.tbls⟩, ⟨m, hn.sameBut hs (Ne.symm (cne x c hc)), fun j y v' e1 e2 e3 => ?_⟩, fun y c' e => ?_, I.free, I.freeC, fun p hp => ?_, tracked ⟨oc, hoc, I.freeC x c hc⟩ hs, by simpa using I.len⟩ ⟨c, hs, .inr hc⟩
    · exact (hs.2 b (Nat.ne_of_lt (Nat.lt_of_lt_of_le (Heap.lt_size e) (I.ok.cab x c hfn hc)))).trans (I.base.keep b o e n hb hx)
    · obtain ⟨sl, e1⟩ := I.base.slot b o e n hb hx
      exact ⟨sl, (hs.2 b (Nat.ne_of_lt (Nat.lt_of_lt_of_le (Heap.lt_size e) (I.ok.cab x c hfn hc)))).trans e1⟩
    · obtain ⟨o', e1⟩ := I.base.there b o e hx
      exact ⟨o', (hs.2 b (Nat.ne_of_lt (Nat.lt_of_lt_of_le (Heap.lt_size e) (I.ok.cab x c hfn hc)))).trans e1⟩
    · by_cases hj : j = i
      · subst hj
        rw [hi] at e1; cases e1
        rw [List.getElem?_set_self hiσ] at e2
        cases e2
        exact ⟨u, r, .inr ⟨.inl hk, c, hc, hc'⟩⟩
      · rw [List.getElem?_set_ne (Ne.symm hj)] at e2
        obtain ⟨u', r', q⟩ := hl j y v' e1 e2 e3
        refine ⟨u', r', ?_⟩
        rcases q with q | ⟨k, c', e, z'⟩
        · exact .inl q
        · refine .inr ⟨k, c', e, z'.sameBut hs ?_⟩
          rintro rfl
          exact hj (nodup_ix hN e1 (I.ok.inj _ _ _ e hc ▸ hi))
    · by_cases hcc : c' = c
      · subst hcc; exact ⟨_, hc'⟩
      · obtain ⟨w2, z2⟩ := I.cell y c' e
        exact ⟨w2, z2.sameBut hs hcc⟩
    · obtain ⟨e, n, ne, nf, d⟩ := I.pin p hp
      refine ⟨(hs.2 p.1 ?_).trans e, n, ne, nf, d⟩
      intro q
      rw [q, hoc] at e
      have q' : oc = p.2 := Option.some.inj e
      exact d w' (by rw [← q']; exact hocd)
theorem store_ok {M : Model} {A : Around} {E : Value → Shared → Prop} {i : Nat} {x : Str} {v : V} {u : Value} {Q : Unit → Shared → Prop} (I : Inv X pins σ H s) (hN : X.N.Nodup) (hi : X.N[i]? = some x) (hx : Loc X.env.scope x) (r : RelV v u)
    (h : ∀ s', Inv X pins (σ.set i (some v)) H s' → Q () s') (hf : X.fn x = true ∨ X.env.scope.names.lookup x = some .local := by trivial) : wpAny M A (storeName X.env x u) Q E s :=
  store_ok2 I hN hi hx r (fun s' I' _ => h s' I') hf
theorem Inv.call' {s' : Shared} {ch : List Addr} (I : Inv X pins σ H s) (ho : s'.os = s.os) (u : Un (frs X.stack) ch H H' s.heap s'.heap) (hok : HOk X.prog X.w H' s'.heap) (hg : AllBare s'.gens)
    (hch : ∀ b ∈ ch, (b ∈ X.ex ∨ X.s₀.heap.objs.size ≤ b) ∧ b ≠ X.env.locals ∧ (∀ x c, X.env.cells.lookup x = some c → c ≠ b) ∧ ∀ p ∈ X.pn ++ pins, p.1 ≠ b) : Inv X pins σ H' s' := by
  obtain ⟨h', g', d', t', o'⟩ := s'
  have e : o' = s.os := ho
  subst e
  exact I.call (g' := g') (t' := t') (d' := d') u hok hg hch
end
noncomputable abbrev XK := Value → Option Addr → Hp → Prop
noncomputable abbrev St := List (Option V)
noncomputable abbrev VK := V → Hp → Prop
noncomputable abbrev TE := St → Hp → VK → Prop
noncomputable abbrev TT := St → Hp → (Bool → Hp → Prop) → Prop
noncomputable abbrev TA := St → Hp → (List V → Hp → Prop) → Prop
structure Ends where
  nx : St → Hp → Prop
  rt : VK
  bk : St → Hp → Prop := fun _ _ => False
  ct : St → Hp → Prop := fun _ _ => False
noncomputable abbrev TS := Ends → St → Hp → Prop
noncomputable def EP (X : Cx) (pins : List (Addr × Obj)) (σ : St) (Q : VK) (u : Value) (s' : Shared) : Prop := ∃ v H', Inv X pins σ H' s' ∧ RelV v u ∧ Q v H'
noncomputable def TP (X : Cx) (pins : List (Addr × Obj)) (σ : St) (Q : Bool → Hp → Prop) (b : Bool) (s' : Shared) : Prop := ∃ H', Inv X pins σ H' s' ∧ Q b H'
noncomputable def AP (X : Cx) (pins : List (Addr × Obj)) (σ : St) (Q : List V → Hp → Prop) (us : List Value) (s' : Shared) : Prop := ∃ vs H', Inv X pins σ H' s' ∧ Vals vs us ∧ Q vs H'
noncomputable def SP (X : Cx) (pins : List (Addr × Obj)) (D : Ends) (f : Flow) (s' : Shared) : Prop :=
  match f with
  | .next => ∃ σ' H', Inv X pins σ' H' s' ∧ D.nx σ' H'
  | .brk => ∃ σ' H', Inv X pins σ' H' s' ∧ D.bk σ' H'
  | .cont => ∃ σ' H', Inv X pins σ' H' s' ∧ D.ct σ' H'
  | .ret u => ∃ v σ' H', Inv X pins σ' H' s' ∧ RelV v u ∧ D.rt v H'
noncomputable def PE (X : Cx) (e : Expr) (t : TE) : Prop :=
  ∀ (pins : List (Addr × Obj)) (s : Shared) (σ : St) (H : Hp) (Q : VK), Inv X pins σ H s → t σ H Q → wpAny (model X.prog X.w) X.A (eval e X.env) (EP X pins σ Q) X.xe s
noncomputable def PT (X : Cx) (e : Expr) (t : TT) : Prop :=
  ∀ (pins : List (Addr × Obj)) (s : Shared) (σ : St) (H : Hp) (Q : Bool → Hp → Prop), Inv X pins σ H s → t σ H Q → wpAny (model X.prog X.w) X.A (isTrue e X.env (eval e X.env)) (TP X pins σ Q) X.xe s
noncomputable def PW (X : Cx) (e : Expr) (t : TT) : Prop :=
  ∀ (whole : Sem Value) (pins : List (Addr × Obj)) (s : Shared) (σ : St) (H : Hp) (Q : Bool → Hp → Prop), Inv X pins σ H s → t σ H Q → wpAny (model X.prog X.w) X.A (isTrue e X.env whole) (TP X pins σ Q) X.xe s
theorem PW.pt {X : Cx} {e : Expr} {t : TT} (h : PW X e t) : PT X e t := h _
noncomputable def PA (X : Cx) (es : List Expr) (t : TA) : Prop :=
  ∀ (pos : Pos) (pins : List (Addr × Obj)) (s : Shared) (σ : St) (H : Hp) (Q : List V → Hp → Prop), Inv X pins σ H s → t σ H Q → wpAny (model X.prog X.w) X.A (spliced (backTo pos (starEach es X.env))) (AP X pins σ Q) X.xe s
noncomputable def PS (X : Cx) (st : Stmt) (t : TS) : Prop :=
  ∀ (pins : List (Addr × Obj)) (s : Shared) (σ : St) (H : Hp) (D : Ends), Inv X pins σ H s → t D σ H → wpAny (model X.prog X.w) X.A (exec st X.env) (SP X pins D) X.xe s
noncomputable def PSs (X : Cx) (st : List Stmt) (t : TS) : Prop :=
  ∀ (pins : List (Addr × Obj)) (s : Shared) (σ : St) (H : Hp) (D : Ends), Inv X pins σ H s → t D σ H → wpAny (model X.prog X.w) X.A (execs st X.env) (SP X pins D) X.xe s
theorem thn {α : Type} {t : Sem α} {Q Q' : α → Shared → Prop} {M : Model} {A : Around} {E : Value → Shared → Prop} {s : Shared} (h : wpAny M A t Q E s) (hQ : ∀ a s, Q a s → Q' a s) : wpAny M A t Q' E s := wpAny_mono h hQ fun _ _ x => x
end L2
namespace L2
open PySem PySem.Spec PyProof.Rows
section
variable {X : Cx}
theorem bin {a b : Expr} {ta tb : TE} (ha : PE X a ta) (hb : PE X b tb) {pins : List (Addr × Obj)} {s : Shared} {σ : St} {H : Hp} {R : V → V → Hp → Prop} (I : Inv X pins σ H s) (h : ta σ H fun x H1 => tb σ H1 fun y H2 => R x y H2)
    {α : Type} {Q : α → Shared → Prop} {f : Value → Value → Sem α}
    (hf : ∀ v u s2 x y H2, Inv X pins σ H2 s2 → RelV x v → RelV y u → R x y H2 → wpAny (model X.prog X.w) X.A (f v u) Q X.xe s2) :
    wpAny (model X.prog X.w) X.A (eval a X.env) (fun v s₁ => wpAny (model X.prog X.w) X.A (eval b X.env) (fun u s₂ => wpAny (model X.prog X.w) X.A (f v u) Q X.xe s₂) X.xe s₁) X.xe s := by
  refine thn (ha pins s σ H _ I h) fun v s1 ⟨x, H1, I1, r1, q1⟩ => ?_
  refine thn (hb pins s1 σ H1 _ I1 q1) fun u s2 ⟨y, H2, I2, r2, q2⟩ => ?_
  exact hf v u s2 x y H2 I2 r1 r2 q2
noncomputable def tVar (i : Nat) : TE := fun σ H Q => ∃ v, σ[i]? = some (some v) ∧ Q v H
noncomputable def tC (v : V) : TE := fun _ H Q => Q v H
theorem pe_var {i : Nat} {x : Str} {pos : Pos} (hN : X.N[i]? = some x) (hv : Vis X.env.scope x) (hd : (x == ("__debug__" : Str)) = false := by decide) (hcd : (x == ("__classdict__" : Str)) = false := by decide) : PE X (.Name x pos) (tVar i) := by
  intro pins s σ H Q I h
  obtain ⟨v, e, h⟩ := h
  obtain ⟨m, hn, hl⟩ := I.loc
  obtain ⟨u, r, l⟩ := hl i x v hN e hv
  have fin : EP X pins σ Q u s := ⟨v, H, I, r, h⟩
  rcases l with ⟨hk, hm⟩ | ⟨hk, c, hc, hcell⟩
  · exact wpAny_Name (wpAny_loadName_local I.ok.kind hk hn hm fin) hd
  · rcases hk with hk | hk
    · exact wpAny_Name (wpAny_loadName_cell I.ok.kind hk hc hcell fin) hd
    · exact wpAny_Name (wpAny_loadName_free I.ok.kind hk hc hcell fin hcd) hd
theorem pe_int {i j pos} : PE X (.Constant (.int i) j pos) (tC (.int i)) := fun _ _ _ H _ I h => wpAny_Constant_int ⟨.int i, H, I.tok _, ⟨_, rfl⟩, h⟩
theorem pe_bl {b j pos} : PE X (.Constant (.bool b) j pos) (tC (.bl b)) := fun _ _ _ H _ I h => Constant_bool ⟨.bl b, H, I, rfl, h⟩
theorem pe_non {j pos} : PE X (.Constant .none j pos) (tC .non) := fun _ _ _ H _ I h => Constant_none ⟨.non, H, I, rfl, h⟩
theorem pe_str {x j pos} : PE X (.Constant (.str x) j pos) (tC (.str x)) := fun _ _ _ H _ I h => Calls.Constant_str ⟨.str x, H, I.tok _, ⟨_, rfl⟩, h⟩
noncomputable def Gl (X : Cx) (x : Str) : Prop := X.env.kindOf x = some .globalImplicit
theorem ld_glob {E : Value → Shared → Prop} {pins : List (Addr × Obj)} {s : Shared} {σ : St} {H : Hp} {x : Str} {u : Value} {pos : Pos} {Q : Value → Shared → Prop} (I : Inv X pins σ H s) (hg : Gl X x) (hm : X.mg x = some u) (h : Q u s)
    (hd : (x == ("__debug__" : Str)) = false := by decide) : wpAny (model X.prog X.w) X.A (eval (.Name x pos) X.env) Q E s :=
  Calls.Name_function_global I.ok.kind hg (Calls.loadGlobal_global (by rw [I.ok.glob]; exact I.mod.glob.keeps I.bk) hm h) hd
theorem ld_blt {E : Value → Shared → Prop} {pins : List (Addr × Obj)} {s : Shared} {σ : St} {H : Hp} {x : Str} {u : Value} {pos : Pos} {Q : Value → Shared → Prop} (I : Inv X pins σ H s) (hg : Gl X x) (hm : X.mg x = none) (hv : bootBuiltins x = some u) (h : Q u s)
    (hn : x ≠ "__name__" := by decide) (hd : (x == ("__debug__" : Str)) = false := by decide) : wpAny (model X.prog X.w) X.A (eval (.Name x pos) X.env) Q E s := by
  obtain ⟨mb, h1, h2⟩ := I.mod.blt
  exact Calls.Name_function_global I.ok.kind hg (Calls.loadGlobal_builtin (by rw [I.ok.glob]; exact I.mod.glob.keeps I.bk) hm (by rw [I.ok.blt]; exact h1.keeps I.bk) ((h2 x hn).trans hv) h) hd
theorem pe_bltn {x : Str} {v : V} {u : Value} {pos : Pos} (hg : Gl X x) (hm : X.mg x = none) (hv : bootBuiltins x = some u) (r : RelV v u) (hn : x ≠ "__name__" := by decide) (hd : (x == ("__debug__" : Str)) = false := by decide) : PE X (.Name x pos) (tC v) :=
  fun _ _ _ H _ I h => ld_blt I hg hm hv ⟨v, H, I, r, h⟩ hn hd
variable {a b : Expr} {ta tb : TE} {pos : Pos}
variable {tA tB' : TT} {rest : List Expr}
noncomputable def tAnd (t u : TT) : TT := fun σ H Q => t σ H fun c H1 => if c = true then u σ H1 Q else Q false H1
noncomputable def tOr (t u : TT) : TT := fun σ H Q => t σ H fun c H1 => if c = true then Q true H1 else u σ H1 Q
noncomputable def tNot (t : TT) : TT := fun σ H Q => t σ H fun c H1 => Q (!c) H1
theorem pw_and1 (ha : PT X a tA) : PW X (.BoolOp .And [a] pos) tA := by
  intro wh pins s σ H Q I h
  refine isTrue_and (thn (ha pins s σ H Q I h) fun c s1 e => ?_)
  cases c with
  | true => exact isTrue_and_nil e
  | false => exact e
theorem pw_or1 (ha : PT X a tA) : PW X (.BoolOp .Or [a] pos) tA := by
  intro wh pins s σ H Q I h
  refine isTrue_or (thn (ha pins s σ H Q I h) fun c s1 e => ?_)
  cases c with
  | false => exact isTrue_or_nil e
  | true => exact e
theorem pw_and (ha : PT X a tA) (hb : PW X (.BoolOp .And (b :: rest) pos) tB') : PW X (.BoolOp .And (a :: b :: rest) pos) (tAnd tA tB') := by
  intro wh pins s σ H Q I h
  refine isTrue_and (thn (ha pins s σ H _ I h) fun c s1 ⟨H1, I1, q1⟩ => ?_)
  cases c with
  | true => exact hb wh pins s1 σ H1 Q I1 q1
  | false => exact ⟨H1, I1, q1⟩
theorem pw_or (ha : PT X a tA) (hb : PW X (.BoolOp .Or (b :: rest) pos) tB') : PW X (.BoolOp .Or (a :: b :: rest) pos) (tOr tA tB') := by
  intro wh pins s σ H Q I h
  refine isTrue_or (thn (ha pins s σ H _ I h) fun c s1 ⟨H1, I1, q1⟩ => ?_)
  cases c with
  | true => exact ⟨H1, I1, q1⟩
  | false => exact hb wh pins s1 σ H1 Q I1 q1
theorem pt_not (ha : PT X a tA) : PT X (.UnaryOp .Not a pos) (tNot tA) := by
  intro pins s σ H Q I h
  exact isTrue_not (ha pins s σ H (fun c H1 => Q (!c) H1) I h)
noncomputable def tIf (t : TT) (ta tb : TE) : TE := fun σ H Q => t σ H fun c H1 => if c = true then ta σ H1 Q else tb σ H1 Q
theorem pe_ifExp {c : Expr} (hc : PT X c tA) (ha : PE X a ta) (hb : PE X b tb) : PE X (.IfExp c a b pos) (tIf tA ta tb) := by
  intro pins s σ H Q I h
  refine wpAny_IfExp (thn (hc pins s σ H _ I h) fun d s1 ⟨H1, I1, q1⟩ => ?_)
  cases d with
  | true => exact ha pins s1 σ H1 Q I1 q1
  | false => exact hb pins s1 σ H1 Q I1 q1
end
end L2
namespace L2
open PySem PySem.Spec PyProof.Rows
noncomputable def SqL (K : PySem.W.Frag) (H : Hp) (a : Addr) (xs : List V) : Prop :=
  Rd H a (.lst xs) ∨
    ∃ (o : Obj) (its : Array Value) (n : Nat), K.lookup a = some o ∧ o.cls = .type "list" ∧ o.dict = none ∧ o.data = .seq its n ∧ its.size ≤ sizeLine ∧ Vals xs its.toList
noncomputable def SqT (K : PySem.W.Frag) (H : Hp) (a : Addr) (xs : List V) : Prop :=
  Rd H a (.tup xs) ∨
    ∃ (o : Obj) (its : Array Value) (n : Nat), K.lookup a = some o ∧ o.cls = .type "tuple" ∧ o.data = .seq its n ∧ its.size ≤ sizeLine ∧ Vals xs its.toList
noncomputable def absV : Value → Option V
  | .none => some .non
  | .bool b => some (.bl b)
  | .int i _ => some (.int i)
  | .str x _ => some (.str x)
  | .bytes b _ => some (.byt b)
  | .float b _ => some (.flt b)
  | .ref a => some (.ref a)
  | .type n => some (.ty n)
  | _ => none
theorem RelV.abs {x : V} {u : Value} (r : RelV x u) : absV u = some x := by
  cases x with
  | non => cases r; rfl
  | bl _ => cases r; rfl
  | int _ => obtain ⟨t, rfl⟩ := r; rfl
  | str _ => obtain ⟨t, rfl⟩ := r; rfl
  | byt _ => obtain ⟨t, rfl⟩ := r; rfl
  | flt _ => obtain ⟨t, rfl⟩ := r; rfl
  | ref _ => cases r; rfl
  | ty _ => cases r; rfl
theorem RelV.inj {x y : V} {u : Value} (r : RelV x u) (q : RelV y u) : x = y := Option.some.inj (r.abs.symm.trans q.abs)
theorem Vals.inj : ∀ {xs ys : List V} {us : List Value}, Vals xs us → Vals ys us → xs = ys
  | _, _, _, .nil, .nil => rfl
  | _, _, _, .cons r t, .cons r' t' => by rw [r.inj r', Vals.inj t t']
section
variable {X : Cx} {pins : List (Addr × Obj)} {σ : St} {H : Hp} {s : Shared} {a : Addr} {xs ys : List V}
theorem SqL.of {K : PySem.W.Frag} (h : H a = some (.lst xs)) : SqL K H a xs := .inl (.inl h)
theorem Inv.list (I : Inv X pins σ H s) (h : SqL X.K H a xs) : ∃ its : List Value, Vals xs its ∧ PlainL s.heap a its.toArray ∧ xs.length ≤ sizeLine := by
  rcases h with h | ⟨o, its, n, hk, hc, hd, hs, hz, r⟩
  · obtain ⟨z, its, n, r, e⟩ := h.ok I.hok
    exact ⟨its, r, ⟨_, n, e, rfl, rfl, rfl⟩, z⟩
  · refine ⟨its.toList, r, ⟨o, n, I.kIn a o hk, hc, hd, by simpa using hs⟩, ?_⟩
    have e := r.length
    simp only [Array.length_toList] at e
    omega
theorem Inv.tuple (I : Inv X pins σ H s) (h : SqT X.K H a xs) : ∃ its : List Value, Vals xs its ∧ IsTup s.heap a its.toArray ∧ xs.length ≤ sizeLine := by
  rcases h with h | ⟨o, its, n, hk, hc, hs, hz, r⟩
  · obtain ⟨z, its, r, p⟩ := h.ok I.hok
    exact ⟨its, r, p, z⟩
  · refine ⟨its.toList, r, ⟨o, I.kIn a o hk, hc, n, by simpa using hs⟩, ?_⟩
    have e := r.length
    simp only [Array.length_toList] at e
    omega
theorem Inv.list_inj (I : Inv X pins σ H s) (h : SqL X.K H a xs) (h' : SqL X.K H a ys) : xs = ys := by
  obtain ⟨its, r, ⟨o, n, e, _, _, d⟩, _⟩ := I.list h
  obtain ⟨its', r', ⟨o', n', e', _, _, d'⟩, _⟩ := I.list h'
  rw [e] at e'; cases e'
  rw [d] at d'
  injection d' with d1 _
  have : its = its' := by simpa using congrArg Array.toList d1
  subst this
  exact r.inj r'
theorem Inv.tuple_inj (I : Inv X pins σ H s) (h : SqT X.K H a xs) (h' : SqT X.K H a ys) : xs = ys := by
  obtain ⟨its, r, ⟨o, e, _, n, d⟩, _⟩ := I.tuple h
  obtain ⟨its', r', ⟨o', e', _, n', d'⟩, _⟩ := I.tuple h'
  rw [e] at e'; cases e'
  rw [d] at d'
  injection d' with d1 _
  have : its = its' := by simpa using congrArg Array.toList d1
  subst this
  exact r.inj r'
end
noncomputable abbrev Cx.wish (X : Cx) (E : Value → Shared → Prop) : Cx := { X with xe := E }
noncomputable abbrev Cx.nox (X : Cx) : Cx := X.wish fun _ _ => False
theorem Cx.Ok.wish {X : Cx} (ok : X.Ok) (E : Value → Shared → Prop) : (X.wish E).Ok :=
  ⟨ok.mod, ok.kind, ok.glob, ok.blt, ok.above, ok.inj, ok.has, ok.cab, ok.hd, ok.frames, ok.stk, ok.exf, ok.bs, ok.bsz, ok.noex, ok.exfs, ok.funs, ok.frf⟩
theorem Cx.Ok.unwish {X : Cx} {E : Value → Shared → Prop} (ok : (X.wish E).Ok) : X.Ok :=
  ⟨ok.mod, ok.kind, ok.glob, ok.blt, ok.above, ok.inj, ok.has, ok.cab, ok.hd, ok.frames, ok.stk, ok.exf, ok.bs, ok.bsz, ok.noex, ok.exfs, ok.funs, ok.frf⟩
section
variable {X : Cx} {pins : List (Addr × Obj)} {σ : St} {H : Hp} {s : Shared} {E : Value → Shared → Prop}
theorem Inv.wish (I : Inv X pins σ H s) (E : Value → Shared → Prop) : Inv (X.wish E) pins σ H s := ⟨I.ok.wish E, I.os, I.bare, I.base, I.loc, I.cell, I.free, I.freeC, I.pin, I.hok, I.len⟩
theorem Inv.unwish (I : Inv (X.wish E) pins σ H s) : Inv X pins σ H s := ⟨I.ok.unwish, I.os, I.bare, I.base, I.loc, I.cell, I.free, I.freeC, I.pin, I.hok, I.len⟩
theorem SP.unwish {D : Ends} {f : Flow} {s' : Shared} (h : SP (X.wish E) pins D f s') : SP X pins D f s' := by
  cases f with
  | next => obtain ⟨σ', H', I, q⟩ := h; exact ⟨σ', H', I.unwish, q⟩
  | brk => obtain ⟨σ', H', I, q⟩ := h; exact ⟨σ', H', I.unwish, q⟩
  | cont => obtain ⟨σ', H', I, q⟩ := h; exact ⟨σ', H', I.unwish, q⟩
  | ret u => obtain ⟨v, σ', H', I, r, q⟩ := h; exact ⟨v, σ', H', I.unwish, r, q⟩
theorem PSs.nox {st : List Stmt} {t : TS} (h : PSs X.nox st t) : PSs X st t := fun pins s σ H D I hw =>
  wpAny_mono (h pins s σ H D (I.wish _) hw) (fun _ _ q => q.unwish) fun _ _ z => False.elim z
end
section
variable {X : Cx} {st : Stmt} {rest : List Stmt} {t u : TS} {e : Expr} {te : TE} {pos : Pos}
noncomputable def tNext : TS := fun D σ H => D.nx σ H
noncomputable def tSeq (t u : TS) : TS := fun D σ H => t { D with nx := u D } σ H
theorem pss_nil : PSs X [] tNext := fun _ _ σ H _ I h => wpAny_execs_nil ⟨σ, H, I, h⟩
theorem pss_cons (h1 : PS X st t) (h2 : PSs X rest u) : PSs X (st :: rest) (tSeq t u) := by
  intro pins s σ H D I h
  refine wpAny_execs_cons (thn (h1 pins s σ H { D with nx := u D } I h) fun f s1 q => ?_)
  cases f with
  | next =>
    obtain ⟨σ', H', I', q⟩ := q
    exact h2 pins s1 σ' H' D I' q
  | ret v => exact q
  | brk => exact q
  | cont => exact q
theorem pss_one (h1 : PS X st t) : PSs X [st] t := by
  intro pins s σ H D I h
  refine wpAny_execs_cons (thn (h1 pins s σ H D I h) fun f s1 q => ?_)
  cases f with
  | next => exact wpAny_execs_nil q
  | ret v => exact q
  | brk => exact q
  | cont => exact q
theorem Inv.quiet {pins : List (Addr × Obj)} {σ : St} {H : Hp} {s : Shared} (I : Inv X pins σ H s) : interactive X.env = false := by simp [interactive, I.ok.kind]
noncomputable def tDrop (te : TE) : TS := fun D σ H => te σ H fun _ H1 => D.nx σ H1
theorem ps_expr (he : PE X e te) (hs : swapsWith e none pos.line X.env = pure false := by rfl) : PS X (.Expr e pos) (tDrop te) := by
  intro pins s σ H D I h
  exact wpAny_Expr_any (thn (he pins s σ H _ I h) fun v s1 ⟨x, H1, I1, r1, q1⟩ => ⟨σ, H1, I1, q1⟩) I.quiet hs
noncomputable def tRet (te : TE) : TS := fun D σ H => te σ H D.rt
theorem ps_ret (he : PE X e te) : PS X (.Return (some e) pos) (tRet te) := by
  intro pins s σ H D I h
  exact wpAny_Return_some (thn (he pins s σ H _ I h) fun v s1 ⟨x, H1, I1, r1, q1⟩ => ⟨x, σ, H1, I1, r1, q1⟩)
noncomputable def tIfS (c : TT) (t u : TS) : TS := fun D σ H => c σ H fun b H1 => if b = true then t D σ H1 else u D σ H1
theorem ps_if {c : Expr} {a b : List Stmt} {tc : TT} (hc : PT X c tc) (ha : PSs X a t) (hb : PSs X b u) : PS X (.If c a b pos) (tIfS tc t u) := by
  intro pins s σ H D I h
  refine wpAny_If (thn (hc pins s σ H _ I h) fun d s1 ⟨H1, I1, q1⟩ => ?_)
  cases d with
  | true => exact ha pins s1 σ H1 D I1 q1
  | false => exact hb pins s1 σ H1 D I1 q1
noncomputable def tNever : TS := fun _ _ _ => False
theorem ps_never : PS X st tNever := fun _ _ _ _ _ _ h => h.elim
end
noncomputable abbrev TG := V → St → Hp → (St → Hp → Prop) → Prop
noncomputable abbrev TGs := List V → St → Hp → (St → Hp → Prop) → Prop
noncomputable def PG (X : Cx) (target : Expr) (t : TG) : Prop :=
  ∀ (pins : List (Addr × Obj)) (s : Shared) (σ : St) (H : Hp) (v : V) (u : Value) (Q : St → Hp → Prop), Inv X pins σ H s → RelV v u → t v σ H Q →
    wpAny (model X.prog X.w) X.A (assign target X.env u) (fun _ s' => ∃ σ' H', Inv X pins σ' H' s' ∧ Q σ' H') X.xe s
noncomputable def PGs (X : Cx) (ts : List Expr) (t : TGs) : Prop :=
  ∀ (pins : List (Addr × Obj)) (s : Shared) (σ : St) (H : Hp) (vs : List V) (us : List Value) (Q : St → Hp → Prop), Inv X pins σ H s → Vals vs us → t vs σ H Q →
    wpAny (model X.prog X.w) X.A (assignInOrder ((assignEach ts X.env).map (·.2)) us) (fun _ s' => ∃ σ' H', Inv X pins σ' H' s' ∧ Q σ' H') X.xe s
noncomputable abbrev TIp := V → V → Hp → VK → Prop
noncomputable def PIp (X : Cx) (op : Operator) (t : TIp) : Prop :=
  ∀ (pins : List (Addr × Obj)) (s : Shared) (σ : St) (H : Hp) (x y : V) (v u : Value) (Q : VK), Inv X pins σ H s → RelV x v → RelV y u → t x y H Q →
    wpAny (model X.prog X.w) X.A (inplaceOp op v u) (EP X pins σ Q) X.xe s
section
variable {X : Cx} {pos : Pos}
noncomputable def gName (i : Nat) : TG := fun v σ H Q => Q (σ.set i (some v)) H
theorem pg_name {i : Nat} {x : Str} (hN : X.N.Nodup) (hi : X.N[i]? = some x) (hx : Loc X.env.scope x) (hf : X.fn x = true ∨ X.env.scope.names.lookup x = some .local := by trivial) : PG X (.Name x pos) (gName i) := by
  intro pins s σ H v u Q I r h
  exact wpAny_assign_Name (store_ok I hN hi hx r (fun s' I' => ⟨_, H, I', h⟩) hf)
noncomputable def gNil : TGs := fun vs σ H Q => vs = [] ∧ Q σ H
noncomputable def gCons (t : TG) (u : TGs) : TGs := fun vs σ H Q => ∃ v r, vs = v :: r ∧ t v σ H fun σ' H' => u r σ' H' Q
theorem pgs_nil : PGs X [] gNil := by
  intro pins s σ H vs us Q I r h
  obtain ⟨e, h⟩ := h
  subst e
  cases r
  exact assignInOrder_nil ⟨σ, H, I, h⟩
theorem pgs_cons {e : Expr} {es : List Expr} {t : TG} {u : TGs} (h1 : PG X e t) (h2 : PGs X es u)
    (hs : (assignEach (e :: es) X.env).map (·.2) = assign e X.env :: (assignEach es X.env).map (·.2) := by rfl) : PGs X (e :: es) (gCons t u) := by
  intro pins s σ H vs us Q I r h
  obtain ⟨v, vr, e1, h⟩ := h
  subst e1
  cases r with
  | cons r rr =>
    rw [hs]
    refine assignInOrder_cons (thn (h1 pins s σ H _ _ _ I r h) fun _ s1 ⟨σ1, H1, I1, q1⟩ => ?_)
    exact h2 pins s1 σ1 H1 _ _ Q I1 rr q1
noncomputable def gTup (K : PySem.W.Frag) (n : Nat) (t : TGs) : TG := fun v σ H Q => ∃ a xs, v = .ref a ∧ SqT K H a xs ∧ xs.length = n ∧ t xs σ H Q
theorem pg_tup {es : List Expr} {k : Nat} {t : TGs} {n : Nat} (hc : X.calm = true) (h : PGs X es t)
    (hn : (assignEach es X.env).length = n := by rfl) (hst : (assignEach es X.env).findIdx? (·.1) = none := by rfl) : PG X (.Tuple es k pos) (gTup X.K n t) := by
  intro pins s σ H v u Q I r hw
  obtain ⟨a, xs, e1, hq, hl, hw⟩ := hw
  subst e1
  cases r
  obtain ⟨its, rv, ht, hz⟩ := I.tuple hq
  refine assign_Tuple_tuple (I.ok.hd hc) ht (by simp [hn, ← hl, rv.length]) hst fun h' hx => ?_
  have I1 : Inv X pins σ H { s with heap := h' } := I.kept (t' := s.toks) fun b o e => hx b o (Nat.ne_of_lt (Heap.lt_size e)) e
  exact h pins _ σ H xs _ Q I1 (by simpa using rv) hw
noncomputable def tAsg (te : TE) (g : TG) : TS := fun D σ H => te σ H fun x H1 => g x σ H1 D.nx
theorem ps_asg {tg e : Expr} {te : TE} {g : TG} (he : PE X e te) (hg : PG X tg g) (hs : swapsWithSole [tg] e pos.line X.env = pure false := by rfl) (hw : swappedStores [tg] e X.env = pure none := by rfl)
    (h1 : (assignEach [tg] X.env).map (·.2) = [assign tg X.env] := by rfl) : PS X (.Assign [tg] e pos) (tAsg te g) := by
  intro pins s σ H D I h
  refine wpAny_Assign_stores (thn (he pins s σ H _ I h) fun v s1 ⟨x, H1, I1, r1, q1⟩ => ?_) hs hw
  rw [h1]
  exact thn (hg pins s1 σ H1 x v _ I1 r1 q1) fun _ s2 q => q
theorem ps_set {i : Nat} {x : Str} {e : Expr} {te : TE} {pos' : Pos} (hN : X.N.Nodup) (hi : X.N[i]? = some x) (hx : Loc X.env.scope x) (he : PE X e te) (hs : swapsWith e (some (.Name x pos')) pos.line X.env = pure false := by rfl) (hf : X.fn x = true ∨ X.env.scope.names.lookup x = some .local := by trivial) :
    PS X (.Assign [.Name x pos'] e pos) (tAsg te (gName i)) := by
  intro pins s σ H D I h
  refine wpAny_Assign_Name (thn (he pins s σ H _ I h) fun v s1 ⟨y, H1, I1, r1, q1⟩ => ?_) hs
  exact store_ok I1 hN hi hx r1 (fun s2 I2 => ⟨_, H1, I2, q1⟩) hf
noncomputable def tAug (i : Nat) (te : TE) (ti : TIp) : TS := fun D σ H => ∃ x, σ[i]? = some (some x) ∧ te σ H fun y H1 => ti x y H1 fun z H2 => D.nx (σ.set i (some z)) H2
theorem ps_aug {i : Nat} {x : Str} {e : Expr} {te : TE} {op : Operator} {ti : TIp} {pos' : Pos} (hN : X.N.Nodup) (hi : X.N[i]? = some x) (hx : Loc X.env.scope x) (he : PE X e te) (ho : PIp X op ti) (hf : X.fn x = true ∨ X.env.scope.names.lookup x = some .local := by trivial) :
    PS X (.AugAssign (.Name x pos') op e pos) (tAug i te ti) := by
  intro pins s σ H D I h
  obtain ⟨v, e1, h⟩ := h
  obtain ⟨m, hn, hl⟩ := I.loc
  have vis : Vis X.env.scope x := by rcases hx with k | k; exact .inl k; exact .inr (.inl k)
  obtain ⟨u, r, l⟩ := hl i x v hi e1 vis
  refine wpAny_AugAssign_Name ?_
  have go : wpAny (model X.prog X.w) X.A (eval e X.env) (fun w s₂ => wpAny (model X.prog X.w) X.A (inplaceOp op u w) (fun r s₃ => wpAny (model X.prog X.w) X.A (storeName X.env x r) (fun _ => SP X pins D .next) X.xe s₃) X.xe s₂) X.xe s := by
    refine thn (he pins s σ H _ I h) fun w s1 ⟨y, H1, I1, r1, q1⟩ => ?_
    refine thn (ho pins s1 σ H1 v y u w _ I1 r r1 q1) fun z s2 ⟨zv, H2, I2, r2, q2⟩ => ?_
    exact store_ok I2 hN hi hx r2 (fun s3 I3 => ⟨_, H2, I3, q2⟩) hf
  rcases l with ⟨hk, hm⟩ | ⟨hk, c, hc, hcell⟩
  · exact wpAny_loadName_local I.ok.kind hk hn hm go
  · rcases hk with hk | hk
    · exact wpAny_loadName_cell I.ok.kind hk hc hcell go
    · rcases hx with k | k
      · have : X.env.scope.names.lookup x = some .free := hk
        rw [k] at this; cases this
      · have : X.env.scope.names.lookup x = some .free := hk
        rw [k] at this; cases this
end
section
variable {X : Cx} {pos : Pos}
noncomputable def tWhile (c : TT) (tb : TS) : TS := fun D σ H => ∃ W : Nat → St → Hp → Prop, (∃ m, W m σ H) ∧ ∀ m σ H, W m σ H →
  c σ H fun b H1 => if b = true then ∃ N : St → Hp → Prop, (∀ σ' H', N σ' H' → ∃ m', m' < m ∧ W m' σ' H') ∧ tb { D with nx := N, ct := N, bk := D.nx } σ H1 else D.nx σ H1
theorem ps_while {c : Expr} {body : List Stmt} {tc : TT} {tb : TS} (hp : PassesOwn (model X.prog X.w) X.A X.env X.xe) (hc : PT X c tc) (hb : PSs X body tb) : PS X (.While c body [] pos) (tWhile tc tb) := by
  intro pins s σ H D I h
  obtain ⟨W, ⟨m0, w0⟩, turn⟩ := h
  refine wpAny_While (codeAny_whileLoop (fun n s' => ∃ σ' H', Inv X pins σ' H' s' ∧ W n σ' H') ?_ m0 ⟨σ, H, I, w0⟩)
  rintro n s1 ⟨σ1, H1, I1, w1⟩
  refine wpAny_passesOwn hp (thn (hc pins s1 σ1 H1 _ I1 (turn n σ1 H1 w1)) fun b s2 ⟨H2, I2, q2⟩ => ?_)
  cases b with
  | true =>
    obtain ⟨N, hN, q2⟩ := q2
    rw [if_pos rfl]
    refine wpAny_passesOwn hp (thn (hb pins s2 σ1 H2 _ I2 q2) fun f s3 q3 => ?_)
    cases f with
    | next =>
      obtain ⟨σ3, H3, I3, n3⟩ := q3
      obtain ⟨m', hm, w3⟩ := hN σ3 H3 n3
      exact ⟨m', hm, σ3, H3, I3, w3⟩
    | cont =>
      obtain ⟨σ3, H3, I3, n3⟩ := q3
      obtain ⟨m', hm, w3⟩ := hN σ3 H3 n3
      exact ⟨m', hm, σ3, H3, I3, w3⟩
    | brk => exact q3
    | ret v => exact q3
  | false =>
    rw [if_neg Bool.false_ne_true]
    exact wpAny_execs_nil ⟨σ1, H2, I2, q2⟩
end
structure It where
  go : Nat → Hp → Prop
  yld : Nat → Hp → V → Hp → Prop
  stop : Nat → Hp → Prop
noncomputable def FpOk (X : Cx) (pins : List (Addr × Obj)) (H : Hp) (b : Addr) : Prop :=
  H b = none ∧ b ≠ X.env.locals ∧ b ∉ X.fs ∧ (b ∈ X.ex ∨ X.s₀.heap.objs.size ≤ b) ∧ (∀ x c, X.env.cells.lookup x = some c → c ≠ b) ∧ ∀ p ∈ X.pn ++ pins, p.1 ≠ b
theorem Inv.fpOk {X : Cx} {pins : List (Addr × Obj)} {σ : St} {H H' : Hp} {s : Shared} {b : Addr} (I : Inv X pins σ H s) (hb : s.heap.objs.size ≤ b) (hn : H' b = none) : FpOk X pins H' b := by
  refine ⟨hn, Nat.ne_of_gt (Nat.lt_of_lt_of_le I.lt hb), I.nofs hb, .inr (Nat.le_trans I.sz hb), fun x c e z => ?_, fun p hp z => ?_⟩
  · obtain ⟨v, q⟩ := I.cell x c e
    exact absurd (Nat.lt_of_lt_of_le q.lt (by rw [z]; exact hb)) (Nat.lt_irrefl _)
  · exact absurd (Nat.lt_of_lt_of_le (Heap.lt_size (I.pin p hp).1) (by rw [z]; exact hb)) (Nat.lt_irrefl _)
structure Turn (P : Program) (w : World) (K : PySem.W.Frag) (tg : Expr) (J : It) (fp : List Addr) (it : Addr) (tn : Nat → Heap → Prop) : Prop where
  mem : it ∈ fp
  obj : ∀ i h, tn i h → ∀ b ∈ fp, ∃ o, h.get? b = some o ∧ ∀ v, o.data ≠ .cell v
  keep : ∀ i h h', tn i h → (∀ b ∈ fp, ∀ o, h.get? b = some o → h'.get? b = some o) → tn i h'
  item : ∀ (X : Cx), X.prog = P → X.w = w → X.K = K → X.calm = true → ∀ (i : Nat) (pins : List (Addr × Obj)) (s : Shared) (σ : St) (H : Hp) (E : Value → Shared → Prop), Inv X pins σ H s → (∀ b ∈ fp, FpOk X pins H b) → tn i s.heap → J.go i H →
    wpAny (model P w) X.A (pyNext (.ref it)) (fun r s1 => ∃ u, r = some u ∧
      wpAny (model P w) X.A (letOwnedTupleGo tg (.ref it) u) (fun _ s2 => ∃ x H', Inv X pins σ H' s2 ∧ RelV x u ∧ J.yld i H x H' ∧ tn (i + 1) s2.heap ∧ ∀ b ∈ fp, H' b = none) E s1) E s
  done : ∀ (X : Cx), X.prog = P → X.w = w → X.K = K → X.calm = true → ∀ (i : Nat) (pins : List (Addr × Obj)) (s : Shared) (σ : St) (H : Hp) (E : Value → Shared → Prop), Inv X pins σ H s → (∀ b ∈ fp, FpOk X pins H b) → tn i s.heap → J.stop i H →
    wpAny (model P w) X.A (pyNext (.ref it)) (fun r s1 => r = none ∧ Inv X pins σ H s1) E s
  self : ∀ (A : Around) (i : Nat) (s : Shared) (Q : Value → Shared → Prop) (E : Value → Shared → Prop), tn i s.heap → Q (.ref it) s → wpAny (model P w) A (pyIter (.ref it)) Q E s
noncomputable abbrev TI := St → Hp → (It → Hp → Prop) → Prop
noncomputable def PIE (X : Cx) (pins : List (Addr × Obj)) (σ : St) (tg : Expr) (R : It → Hp → Prop) (itv : Value) (s2 : Shared) : Prop :=
  ∃ (it : Addr) (fp : List Addr) (tn : Nat → Heap → Prop) (J : It) (H' : Hp), itv = .ref it ∧ Inv X pins σ H' s2 ∧ Turn X.prog X.w X.K tg J fp it tn ∧ tn 0 s2.heap ∧ (∀ b ∈ fp, FpOk X pins H' b) ∧ R J H'
noncomputable def PI (X : Cx) (tg iter : Expr) (wi : TI) : Prop :=
  ∀ (pins : List (Addr × Obj)) (s : Shared) (σ : St) (H : Hp) (R : It → Hp → Prop), Inv X pins σ H s → wi σ H R →
    wpAny (model X.prog X.w) X.A (eval iter X.env) (fun v s1 => wpAny (model X.prog X.w) X.A (pyIter v) (PIE X pins σ tg R) X.xe s1) X.xe s
theorem go_of {M : Model} {A : Around} {E : Value → Shared → Prop} {s : Shared} {tg : Expr} {it : Addr} {u : Value} {o : Obj} {n : String} {vs : Array Value} {Q : Unit → Shared → Prop} (ho : s.heap.get? it = some o) (hc : o.cls = .type n) (hd : o.data = .fields vs)
    (hn : ["enumerate", "zip", "dict_itemiterator", "dict_reverseitemiterator", "odict_iterator", "itertools.zip_longest", "itertools.pairwise"].contains n = false) (hQ : Q () s) : wpAny M A (letOwnedTupleGo tg (.ref it) u) Q E s := by
  unfold letOwnedTupleGo
  cases tg <;> first
    | exact wpAny_pure hQ
    | (cases u <;> first
        | exact wpAny_pure hQ
        | (refine wpAny_bind (wpAny_load ho ?_)
           rw [hc, hd]
           show wpAny M A (if (["enumerate", "zip", "dict_itemiterator", "dict_reverseitemiterator", "odict_iterator", "itertools.zip_longest", "itertools.pairwise"].contains n && vs[0]? == some (rawInt _)) = true then _ else _) Q E s
           rw [if_neg (by intro h; rw [hn, Bool.false_and] at h; cases h)]
           exact wpAny_pure hQ))
noncomputable def Itl (K : PySem.W.Frag) (a : Addr) : It :=
  ⟨fun i H => ∃ xs x, SqL K H a xs ∧ xs[i]? = some x, fun i H x H' => H' = H ∧ ∀ xs, SqL K H a xs → xs[i]? = some x, fun i H => ∃ xs, SqL K H a xs ∧ xs.length ≤ i⟩
noncomputable def Itt (K : PySem.W.Frag) (a : Addr) : It :=
  ⟨fun i H => ∃ xs x, SqT K H a xs ∧ xs[i]? = some x, fun i H x H' => H' = H ∧ ∀ xs, SqT K H a xs → xs[i]? = some x, fun i H => ∃ xs, SqT K H a xs ∧ xs.length ≤ i⟩
noncomputable def Itr (lo : Int) (n : Nat) : It := ⟨fun i _ => i < n, fun i H x H' => H' = H ∧ x = .int (lo + i), fun i _ => n ≤ i⟩
theorem turn_list {P : Program} {w : World} {K : PySem.W.Frag} {tg : Expr} (a it : Addr) : Turn P w K tg (Itl K a) [it] it (fun i h => h.IsListIter it a i) where
  mem := by simp
  obj := fun i h st b hb => by
    have e : b = it := by simpa using hb
    subst e
    obtain ⟨o, e, c, d⟩ := st
    exact ⟨o, e, fun v z => by rw [d] at z; cases z⟩
  keep := fun i h h' st k => st.at fun o e => k it (by simp) o e
  item := by
    intro X hP hw hK hc i pins s σ H E I hf st hg
    subst hP hw hK
    obtain ⟨xs, x, hq, hx⟩ := hg
    obtain ⟨its, rv, p, hz⟩ := I.list hq
    obtain ⟨u, hu, ru⟩ := rv.get hx
    obtain ⟨f0, f1, f2, f3, f4, f5⟩ := hf it (by simp)
    refine wpAny_pyNext_list_item st p.isList (x := u) (by simpa using hu) fun h' st' sb => ?_
    have I1 : Inv X pins σ H { s with heap := h' } := I.turned (t' := s.toks) (fun b o hb e => (sb.2 b hb).trans e) f0 f1 f3 f4 f5
    obtain ⟨o, e, c, d⟩ := id st'
    exact ⟨u, rfl, go_of (s := { s with heap := h' }) e c d (by decide) ⟨x, H, I1, ru, ⟨rfl, fun ys hy => by rw [I.list_inj hy hq]; exact hx⟩, st', fun b hb => (hf b hb).1⟩⟩
  done := by
    intro X hP hw hK hc i pins s σ H E I hf st hg
    subst hP hw hK
    obtain ⟨xs, hq, hx⟩ := hg
    obtain ⟨its, rv, p, hz⟩ := I.list hq
    obtain ⟨f0, f1, f2, f3, f4, f5⟩ := hf it (by simp)
    have hl := rv.length
    exact wpAny_pyNext_list_end (I.ok.hd hc) st p.isList (by simp; omega) fun h' eb => ⟨rfl, I.turned (t' := s.toks) (fun b o hb e => eb b o hb e) f0 f1 f3 f4 f5⟩
  self := fun _ _ _ _ _ st h => wpAny_pyIter_listiter st h
theorem turn_tuple {P : Program} {w : World} {K : PySem.W.Frag} {tg : Expr} (a it : Addr) : Turn P w K tg (Itt K a) [it] it (fun i h => h.IsTupleIter it a i) where
  mem := by simp
  obj := fun i h st b hb => by
    have e : b = it := by simpa using hb
    subst e
    obtain ⟨o, e, c, d⟩ := st
    exact ⟨o, e, fun v z => by rw [d] at z; cases z⟩
  keep := fun i h h' st k => st.at fun o e => k it (by simp) o e
  item := by
    intro X hP hw hK hc i pins s σ H E I hf st hg
    subst hP hw hK
    obtain ⟨xs, x, hq, hx⟩ := hg
    obtain ⟨its, rv, p, hz⟩ := I.tuple hq
    obtain ⟨u, hu, ru⟩ := rv.get hx
    obtain ⟨f0, f1, f2, f3, f4, f5⟩ := hf it (by simp)
    refine wpAny_pyNext_tuple_item st (show s.heap.IsTuple a its.toArray from p) (x := u) (by simpa using hu) fun h' st' sb => ?_
    have I1 : Inv X pins σ H { s with heap := h' } := I.turned (t' := s.toks) (fun b o hb e => (sb.2 b hb).trans e) f0 f1 f3 f4 f5
    obtain ⟨o, e, c, d⟩ := id st'
    exact ⟨u, rfl, go_of (s := { s with heap := h' }) e c d (by decide) ⟨x, H, I1, ru, ⟨rfl, fun ys hy => by rw [I.tuple_inj hy hq]; exact hx⟩, st', fun b hb => (hf b hb).1⟩⟩
  done := by
    intro X hP hw hK hc i pins s σ H E I hf st hg
    subst hP hw hK
    obtain ⟨xs, hq, hx⟩ := hg
    obtain ⟨its, rv, p, hz⟩ := I.tuple hq
    obtain ⟨f0, f1, f2, f3, f4, f5⟩ := hf it (by simp)
    have hl := rv.length
    exact wpAny_pyNext_tuple_end (I.ok.hd hc) st (show s.heap.IsTuple a its.toArray from p) (by simp; omega) fun h' eb => ⟨rfl, I.turned (t' := s.toks) (fun b o hb e => eb b o hb e) f0 f1 f3 f4 f5⟩
  self := fun _ _ _ _ _ st h => wpAny_pyIter_tupleiter st h
theorem turn_range {P : Program} {w : World} {K : PySem.W.Frag} {tg : Expr} (it : Addr) (lo : Int) (n : Nat) : Turn P w K tg (Itr lo n) [it] it (fun i h => IsRangeIter h it (lo + (i : Nat) * 1) ((n : Int) - (i : Nat)) 1) where
  mem := by simp
  obj := fun i h st b hb => by
    have e : b = it := by simpa using hb
    subst e
    exact ⟨_, st, fun v z => by
      have z' : Data.fields _ = Data.cell v := z
      cases z'⟩
  keep := fun i h h' st k => k it (by simp) _ st
  item := by
    intro X hP hw hK hc i pins s σ H E I hf st hg
    subst hP hw hK
    obtain ⟨f0, f1, f2, f3, f4, f5⟩ := hf it (by simp)
    have W := Walks.range (prog := X.prog) (w := X.w) (I.ok.hd hc) it lo 1 n
    refine W.item i s _ _ hg st fun v h' tk hv st' kk => ?_
    obtain ⟨t, rfl⟩ := hv
    have I1 : Inv X pins σ H { s with heap := h', toks := tk } := I.turned (fun b o hb e => kk b o (by simpa using hb) e) f0 f1 f3 f4 f5
    refine ⟨_, rfl, go_of (s := { s with heap := h', toks := tk }) (n := "range_iterator") st' rfl rfl (by decide) ⟨.int (lo + i), H, I1, ⟨t, ?_⟩, ⟨rfl, rfl⟩, st', fun b hb => (hf b hb).1⟩⟩
    rw [Int.mul_one]
  done := by
    intro X hP hw hK hc i pins s σ H E I hf st hg
    subst hP hw hK
    obtain ⟨f0, f1, f2, f3, f4, f5⟩ := hf it (by simp)
    exact wpAny_pyNext_range_end (I.ok.hd hc) st (by have : n ≤ i := hg; omega) fun h' eb => ⟨rfl, I.turned (t' := s.toks) (fun b o hb e => eb b o hb e) f0 f1 f3 f4 f5⟩
  self := fun _ _ _ _ _ st h => wpAny_pyIter_rangeiter st h
end L2
namespace L2
open PySem PySem.Spec PyProof.Rows
section
variable {X : Cx} {tg : Expr}
theorem range_it {pins : List (Addr × Obj)} {σ : St} {H : Hp} {s : Shared} {R : It → Hp → Prop} {E : Value → Shared → Prop} {lo hi : Int} {t u v : Tok} {tk : Nat} (I : Inv X pins σ H s) (h1 : -(2 ^ 62) ≤ lo) (h2 : lo < 2 ^ 62) (h3 : -(2 ^ 62) ≤ hi) (h4 : hi < 2 ^ 62)
    (q : R (Itr lo (hi - lo).toNat) H) : wpAny (model X.prog X.w) X.A (pyIter (.ref s.heap.objs.size)) (PIE X pins σ tg R) E { s with heap := s.heap.push { cls := .type "range", data := .fields #[.int lo t, .int hi u, .int 1 v] }, toks := tk } := by
  refine wpAny_pyIter_range (IsRange.new ..) (small_one h1 h2 h3 h4) ?_
  have I1 : Inv X pins σ H { s with heap := s.heap.push { cls := .type "range", data := .fields #[.int lo t, .int hi u, .int 1 v] }, toks := tk } := I.kept fun b o e => Heap.get?_push_of_some _ e
  refine ⟨(s.heap.push { cls := .type "range", data := .fields #[.int lo t, .int hi u, .int 1 v] }).objs.size, [(s.heap.push { cls := .type "range", data := .fields #[.int lo t, .int hi u, .int 1 v] }).objs.size], _, _, H, rfl,
    I1.kept (t' := tk) fun b o e => Heap.get?_push_of_some _ e, turn_range _ lo (hi - lo).toNat, ?_, fun b hb => ?_, q⟩
  · have e1 : lo + ((0 : Nat) : Int) * 1 = lo := by simp
    have e2 : (((hi - lo).toNat : Nat) : Int) - ((0 : Nat) : Int) = Builtin.Range.rangeSize lo hi 1 := by rw [rangeSize_one]; split <;> omega
    show IsRangeIter _ _ (lo + ((0 : Nat) : Int) * 1) ((((hi - lo).toNat : Nat) : Int) - ((0 : Nat) : Int)) 1
    rw [e1, e2]
    exact Heap.get?_push_size _ rfl
  · have e : b = (s.heap.push { cls := .type "range", data := .fields #[.int lo t, .int hi u, .int 1 v] }).objs.size := by simpa using hb
    subst e
    exact I1.fpOk (Nat.le_refl _) (I1.hok.fresh (Nat.le_refl _))
noncomputable def iRng1 (ta : TA) : TI := fun σ H R => ta σ H fun vs H1 => ∃ j : Int, vs = [.int j] ∧ -(2 ^ 62) ≤ j ∧ j < 2 ^ 62 ∧ R (Itr 0 j.toNat) H1
theorem pi_range1 {a : Expr} {ta : TA} {p pos : Pos} (hg : Gl X "range") (hm : X.mg "range" = none) (ha : PA X [a] ta) (hs : starEach [a] X.env = [(false, eval a X.env)] := by rfl) : PI X tg (.Call (.Name "range" p) [a] [] pos) (iRng1 ta) := by
  intro pins s σ H R I h
  refine Call_ (ld_blt I hg hm boot_range (PyProof.Rows.callWith_type1 (thn (ha pos pins s σ H _ I h) fun us s1 ⟨vs, H1, I1, r1, q1⟩ => ?_) hs rfl))
  obtain ⟨j, e, q1, q2, q⟩ := q1
  subst e
  cases r1 with
  | cons r rr =>
    cases rr
    obtain ⟨t, rfl⟩ := r
    exact call_range_1 (range_it I1 (by omega) (by omega) q1 q2 (by simpa using q))
noncomputable def tFor (wi : TI) (g : TG) (tb : TS) : TS := fun D σ H => wi σ H fun J H1 => ∃ W : Nat → Nat → St → Hp → Prop, (∃ m, W 0 m σ H1) ∧ ∀ i m σ H, W i m σ H →
  (J.stop i H ∧ D.nx σ H) ∨ (J.go i H ∧ ∃ N : St → Hp → Prop, (∀ σ' H', N σ' H' → ∃ m', m' < m ∧ W (i + 1) m' σ' H') ∧ ∀ x H', J.yld i H x H' → g x σ H' fun σ2 H2 => tb { D with nx := N, ct := N, bk := D.nx } σ2 H2)
noncomputable def pinsAt (fp : List Addr) (h : Heap) : List (Addr × Obj) := fp.filterMap fun b => (h.get? b).map fun o => (b, o)
theorem mem_pinsAt {fp : List Addr} {h : Heap} {b : Addr} {o : Obj} (hb : b ∈ fp) (e : h.get? b = some o) : (b, o) ∈ pinsAt fp h := List.mem_filterMap.mpr ⟨b, hb, by rw [e]; rfl⟩
theorem of_pinsAt {fp : List Addr} {h : Heap} {p : Addr × Obj} (hp : p ∈ pinsAt fp h) : p.1 ∈ fp ∧ h.get? p.1 = some p.2 := by
  obtain ⟨b, hb, e⟩ := List.mem_filterMap.mp hp
  cases q : h.get? b with
  | none => rw [q] at e; cases e
  | some o =>
    rw [q] at e
    have e' : (b, o) = p := Option.some.inj e
    subst e'
    exact ⟨hb, q⟩
theorem Inv.pinned {pins : List (Addr × Obj)} {σ : St} {H : Hp} {s : Shared} {fp : List Addr} (I : Inv X pins σ H s) (hf : ∀ b ∈ fp, FpOk X pins H b) (ho : ∀ b ∈ fp, ∃ o, s.heap.get? b = some o ∧ ∀ v, o.data ≠ .cell v) : Inv X (pins ++ pinsAt fp s.heap) σ H s :=
  I.pins_of fun p hp => (List.mem_append.mp hp).elim (fun z => I.pin p (List.mem_append_right _ z)) fun z => by
    obtain ⟨hb, e⟩ := of_pinsAt z
    obtain ⟨f0, f1, f2, _⟩ := hf p.1 hb
    obtain ⟨o, e', d⟩ := ho p.1 hb
    rw [e] at e'; cases e'
    exact ⟨e, f0, f1, f2, d⟩
theorem Inv.unpinned {pins pl : List (Addr × Obj)} {σ : St} {H : Hp} {s : Shared} (I : Inv X (pins ++ pl) σ H s) : Inv X pins σ H s := I.pins_of fun p hp => I.pin p (List.mem_append_right _ (List.mem_append_left _ hp))
theorem ps_for {iter : Expr} {body : List Stmt} {wi : TI} {g : TG} {tb : TS} {pos : Pos} (hp : PassesOwn (model X.prog X.w) X.A X.env X.xe) (hc : X.calm = true) (hi : PI X tg iter wi) (hg : PG X tg g) (hb : PSs X body tb)
    (hs : ∀ x, foldedSetIterable iter X.env x = pure x := by intro _; rfl) : PS X (.For tg iter body [] pos) (tFor wi g tb) := by
  intro pins s σ H D I h
  refine wpAny_For (thn (hi pins s σ H _ I h) fun v s1 h1 => thn h1 fun itv s2 h2 => ?_) hs
  obtain ⟨it, fp, tn, J, H2, e, I2, T, st2, f2, W, ⟨m0, w0⟩, turn⟩ := h2
  subst e
  have stat : ∀ {H' : Hp}, (∀ b ∈ fp, H' b = none) → ∀ b ∈ fp, FpOk X pins H' b := fun hn b hb => ⟨hn b hb, (f2 b hb).2⟩
  refine codeAny_forLoop_any (fun n s' => ∃ i σ' H', Inv X pins σ' H' s' ∧ tn i s'.heap ∧ (∀ b ∈ fp, H' b = none) ∧ W i n σ' H') ?_ m0 ⟨0, σ, H2, I2, st2, fun b hb => (f2 b hb).1, w0⟩
  rintro n s3 ⟨i, σ3, H3, I3, st3, fr3, w3⟩
  rcases turn i n σ3 H3 w3 with ⟨stop, qn⟩ | ⟨go, N, hN, step⟩
  · refine wpAny_passesOwn hp (thn (T.done X rfl rfl rfl hc i pins s3 σ3 H3 X.xe I3 (stat fr3) st3 stop) fun r s4 ⟨hr, I4⟩ => ?_)
    subst hr
    exact wpAny_execs_nil ⟨σ3, H3, I4, qn⟩
  · refine wpAny_passesOwn hp (thn (T.item X rfl rfl rfl hc i pins s3 σ3 H3 X.xe I3 (stat fr3) st3 go) fun r s4 ⟨u, hr, h4⟩ => ?_)
    subst hr
    refine wpAny_passesOwn hp (thn h4 fun _ s5 ⟨x, H5, I5, r5, y5, st5, fr5⟩ => ?_)
    have I5' := I5.pinned (stat fr5) (T.obj _ _ st5)
    refine wpAny_passesOwn hp (thn (hg _ s5 σ3 H5 x u _ I5' r5 (step x H5 y5)) fun _ s6 ⟨σ6, H6, I6, q6⟩ => ?_)
    refine wpAny_passesOwn hp (thn (hb _ s6 σ6 H6 _ I6 q6) fun f s7 q7 => ?_)
    have again : ∀ {σ7 : St} {H7 : Hp}, Inv X (pins ++ pinsAt fp s5.heap) σ7 H7 s7 → N σ7 H7 → ∃ m, m < n ∧ ∃ i σ' H', Inv X pins σ' H' s7 ∧ tn i s7.heap ∧ (∀ b ∈ fp, H' b = none) ∧ W i m σ' H' := fun {σ7 H7} I7 n7 => by
      obtain ⟨m', hm, w7⟩ := hN σ7 H7 n7
      refine ⟨m', hm, i + 1, σ7, H7, I7.unpinned, T.keep _ _ _ st5 fun b hb o e => (I7.pin (b, o) (List.mem_append_right _ (List.mem_append_right _ (mem_pinsAt hb e)))).1, fun b hb => ?_, w7⟩
      obtain ⟨o, e, d⟩ := T.obj _ _ st5 b hb
      exact (I7.pin (b, o) (List.mem_append_right _ (List.mem_append_right _ (mem_pinsAt hb e)))).2.1
    cases f with
    | next => obtain ⟨σ7, H7, I7, n7⟩ := q7; exact again I7 n7
    | cont => obtain ⟨σ7, H7, I7, n7⟩ := q7; exact again I7 n7
    | brk => obtain ⟨σ7, H7, I7, q7⟩ := q7; exact ⟨σ7, H7, I7.unpinned, q7⟩
    | ret v => obtain ⟨x7, σ7, H7, I7, r7, q7⟩ := q7; exact ⟨x7, σ7, H7, I7.unpinned, r7, q7⟩
end
end L2
namespace L2
open PySem PySem.Spec PyProof.Rows
noncomputable abbrev R2 := V → V → Hp → VK → Prop
noncomputable def OpR (X : Cx) (f : Value → Value → Sem Value) (r : R2) : Prop :=
  ∀ (pins : List (Addr × Obj)) (s : Shared) (σ : St) (H : Hp) (x y : V) (v u : Value) (Q : VK), Inv X pins σ H s → RelV x v → RelV y u → r x y H Q →
    wpAny (model X.prog X.w) X.A (f v u) (EP X pins σ Q) X.xe s
noncomputable def UnR (X : Cx) (f : Value → Sem Value) (r : V → Hp → VK → Prop) : Prop :=
  ∀ (pins : List (Addr × Obj)) (s : Shared) (σ : St) (H : Hp) (x : V) (v : Value) (Q : VK), Inv X pins σ H s → RelV x v → r x H Q →
    wpAny (model X.prog X.w) X.A (f v) (EP X pins σ Q) X.xe s
noncomputable def CallR (X : Cx) (f : Value) (r : List V → Hp → VK → Prop) : Prop :=
  ∀ (pins : List (Addr × Obj)) (s : Shared) (σ : St) (H : Hp) (xs : List V) (us : List Value) (Q : VK), Inv X pins σ H s → Vals xs us → r xs H Q →
    wpAny (model X.prog X.w) X.A (call f us) (EP X pins σ Q) X.xe s
noncomputable def TruR (X : Cx) (r : V → Hp → (Bool → Hp → Prop) → Prop) : Prop :=
  ∀ (pins : List (Addr × Obj)) (s : Shared) (σ : St) (H : Hp) (x : V) (v : Value) (Q : Bool → Hp → Prop), Inv X pins σ H s → RelV x v → r x H Q →
    wpAny (model X.prog X.w) X.A (truthy v) (TP X pins σ Q) X.xe s
noncomputable def tOp (r : R2) (ta tb : TE) : TE := fun σ H Q => ta σ H fun x H1 => tb σ H1 fun y H2 => r x y H2 Q
noncomputable def tUn (r : V → Hp → VK → Prop) (ta : TE) : TE := fun σ H Q => ta σ H fun x H1 => r x H1 Q
noncomputable def rI (C : Int → Int → Prop) (g : Int → Int → V) : R2 := fun x y H Q => ∃ i j, x = .int i ∧ y = .int j ∧ C i j ∧ Q (g i j) H
noncomputable def rI0 (g : Int → Int → V) : R2 := fun x y H Q => ∃ i j, x = .int i ∧ y = .int j ∧ Q (g i j) H
noncomputable def rU (g : Int → V) : V → Hp → VK → Prop := fun x H Q => ∃ i, x = .int i ∧ Q (g i) H
section
variable {X : Cx} {a b c : Expr} {ta tb tc : TE} {pos : Pos}
theorem binT (ha : PE X a ta) (hb : PE X b tb) {pins : List (Addr × Obj)} {s : Shared} {σ : St} {H : Hp} {R : V → V → Hp → Prop} (I : Inv X pins σ H s)
    (h : ta σ H fun x H1 => tb σ H1 fun y H2 => R x y H2) {Q : Value → Shared → Prop} {f : Value → Value → Sem Value}
    (hf : ∀ v u s2 x y H2, Inv X pins σ H2 s2 → RelV x v → RelV y u → R x y H2 → wpAny (model X.prog X.w) X.A (f v u) Q X.xe s2) :
    wpAny (model X.prog X.w) X.A (eval a X.env) (fun v s₁ => wpAny (model X.prog X.w) X.A (eval b X.env) (fun u s₂ => wpAny (model X.prog X.w) X.A (f v u) Q X.xe s₂) X.xe s₁) X.xe s := by
  refine thn (ha pins s σ H _ I h) fun v s1 ⟨x, H1, I1, r1, q1⟩ => ?_
  refine thn (hb pins s1 σ H1 _ I1 q1) fun u s2 ⟨y, H2, I2, r2, q2⟩ => ?_
  exact hf v u s2 x y H2 I2 r1 r2 q2
theorem pe_op {op : Operator} {r : R2} (ho : OpR X (binaryOp op) r) (ha : PE X a ta) (hb : PE X b tb) : PE X (.BinOp a op b pos) (tOp r ta tb) := by
  intro pins s σ H Q I h
  exact wpAny_BinOp (binT ha hb I h fun v u s2 x y H2 I2 rx ry q => ho pins s2 σ H2 x y v u Q I2 rx ry q)
theorem pe_un {op : UnaryOp} {r : V → Hp → VK → Prop} (ho : UnR X (unaryOp op) r) (ha : PE X a ta) : PE X (.UnaryOp op a pos) (tUn r ta) := by
  intro pins s σ H Q I h
  exact UnaryOp_ (thn (ha pins s σ H _ I h) fun v s1 ⟨x, H1, I1, r1, q1⟩ => ho pins s1 σ H1 x v Q I1 r1 q1)
theorem opI {f : Value → Value → Sem Value} {C : Int → Int → Prop} {g : Int → Int → Int}
    (rule : ∀ (i j : Int) (t u : Tok) (s : Shared) (Q : Value → Shared → Prop) (E : Value → Shared → Prop), C i j → Q (.int (g i j) s.toks) { s with toks := s.toks + 1 } → wpAny (model X.prog X.w) X.A (f (.int i t) (.int j u)) Q E s) :
    OpR X f (rI C fun i j => .int (g i j)) := by
  intro pins s σ H x y v u Q I rx ry h
  obtain ⟨i, j, rfl, rfl, hc, q⟩ := h
  obtain ⟨t, rfl⟩ := rx
  obtain ⟨t', rfl⟩ := ry
  exact rule i j t t' s _ _ hc ⟨.int (g i j), H, I.tok _, ⟨_, rfl⟩, q⟩
theorem opI0 {f : Value → Value → Sem Value} {g : Int → Int → Int}
    (rule : ∀ (i j : Int) (t u : Tok) (s : Shared) (Q : Value → Shared → Prop) (E : Value → Shared → Prop), Q (.int (g i j) s.toks) { s with toks := s.toks + 1 } → wpAny (model X.prog X.w) X.A (f (.int i t) (.int j u)) Q E s) :
    OpR X f (rI0 fun i j => .int (g i j)) := by
  intro pins s σ H x y v u Q I rx ry h
  obtain ⟨i, j, rfl, rfl, q⟩ := h
  obtain ⟨t, rfl⟩ := rx
  obtain ⟨t', rfl⟩ := ry
  exact rule i j t t' s _ _ ⟨.int (g i j), H, I.tok _, ⟨_, rfl⟩, q⟩
theorem opB0 {f : Value → Value → Sem Value} {g : Int → Int → Bool}
    (rule : ∀ (i j : Int) (t u : Tok) (s : Shared) (Q : Value → Shared → Prop) (E : Value → Shared → Prop), Q (.bool (g i j)) s → wpAny (model X.prog X.w) X.A (f (.int i t) (.int j u)) Q E s) :
    OpR X f (rI0 fun i j => .bl (g i j)) := by
  intro pins s σ H x y v u Q I rx ry h
  obtain ⟨i, j, rfl, rfl, q⟩ := h
  obtain ⟨t, rfl⟩ := rx
  obtain ⟨t', rfl⟩ := ry
  exact rule i j t t' s _ _ ⟨.bl (g i j), H, I, rfl, q⟩
noncomputable def CPow (i j : Int) : Prop := 0 ≤ j ∧ j ≤ 1000000 ∧ i.natAbs < 2 ^ 64
theorem two_pow_nn (k : Nat) : (0 : Int) ≤ 2 ^ k := by
  rw [two_pow_cast]
  exact Int.natCast_nonneg _
theorem op_add : OpR X (binaryOp .Add) (rI0 fun i j => .int (i + j)) := opI0 fun _ _ _ _ _ _ _ q => add_int q
theorem op_sub : OpR X (binaryOp .Sub) (rI0 fun i j => .int (i - j)) := opI0 fun _ _ _ _ _ _ _ q => sub_int q
theorem op_mod : OpR X (binaryOp .Mod) (rI (fun _ j => 0 < j) fun i j => .int (i % j)) := opI fun i j _ _ _ _ _ hc q => by
  have h1 : (0 : Int) < j := hc
  exact mod_int' (by omega) (by rw [Int.fmod_eq_emod_of_nonneg i (by omega)]; exact q)
theorem op_pow : OpR X (binaryOp .Pow) (rI CPow fun i j => .int (i ^ j.toNat)) := opI fun _ _ _ _ _ _ _ hc q => pow_int_small hc.1 hc.2.1 hc.2.2 q
theorem op_shl : OpR X (binaryOp .LShift) (rI CPow fun i j => .int (i * 2 ^ j.toNat)) := opI fun _ _ _ _ _ _ _ hc q => lshift_int_small hc.1 hc.2.1 hc.2.2 q
theorem op_shr : OpR X (binaryOp .RShift) (rI (fun _ j => 0 ≤ j) fun i j => .int (i / 2 ^ j.toNat)) := opI fun i j _ _ _ _ _ hc q =>
  rshift_int hc (by rw [Int.fdiv_eq_ediv_of_nonneg i (two_pow_nn _)]; exact q)
theorem op_and : OpR X (binaryOp .BitAnd) (rI0 fun i j => .int (Builtin.bitAnd i j)) := opI0 fun _ _ _ _ _ _ _ q => and_int q
theorem iop_add : OpR X (inplaceOp .Add) (rI0 fun i j => .int (i + j)) := opI0 fun _ _ _ _ _ _ _ q => iadd_int q
theorem unI {f : Value → Sem Value} {g : Int → Int}
    (rule : ∀ (i : Int) (t : Tok) (s : Shared) (Q : Value → Shared → Prop) (E : Value → Shared → Prop), Q (.int (g i) s.toks) { s with toks := s.toks + 1 } → wpAny (model X.prog X.w) X.A (f (.int i t)) Q E s) :
    UnR X f (rU fun i => .int (g i)) := by
  intro pins s σ H x v Q I rx h
  obtain ⟨i, rfl, q⟩ := h
  obtain ⟨t, rfl⟩ := rx
  exact rule i t s _ _ ⟨.int (g i), H, I.tok _, ⟨_, rfl⟩, q⟩
theorem un_neg : UnR X (unaryOp .USub) (rU fun i => .int (-i)) := unI fun _ _ _ _ _ q => neg_int q
end
section
variable {X : Cx} {a b c : Expr} {ta tb tc : TE} {pos : Pos}
theorem fin_bl {pins : List (Addr × Obj)} {σ : St} {H : Hp} {s : Shared} {Q : VK} {k k' : Bool} (I : Inv X pins σ H s) (q : Q (.bl k) H) (e : k = k') : EP X pins σ Q (.bool k') s := by
  subst e
  exact ⟨.bl k, H, I, rfl, q⟩
theorem op_lt : OpR X (compareOp .Lt) (rI0 fun i j => .bl (decide (i < j))) := opB0 fun _ _ _ _ _ _ _ q => lt_int q
theorem op_le : OpR X (compareOp .LtE) (rI0 fun i j => .bl (decide (i ≤ j))) := opB0 fun _ _ _ _ _ _ _ q => le_int q
theorem op_gt : OpR X (compareOp .Gt) (rI0 fun i j => .bl (decide (j < i))) := opB0 fun _ _ _ _ _ _ _ q => gt_int q
theorem op_isN : OpR X (compareOp .Is) (fun x y H Q => y = .non ∧ Q (.bl (decide (x = .non))) H) := by
  intro pins s σ H x y v u Q I rx ry h
  obtain ⟨rfl, q⟩ := h
  cases ry
  refine is_none_gen (fin_bl I q ?_)
  cases x <;> first
    | (cases rx; rfl)
    | (obtain ⟨t, rfl⟩ := rx; rfl)
theorem OpR.or {f : Value → Value → Sem Value} {r r' : R2} (h : OpR X f r) (h' : OpR X f r') : OpR X f (fun x y H Q => r x y H Q ∨ r' x y H Q) := by
  intro pins s σ H x y v u Q I rx ry q
  rcases q with q | q
  · exact h pins s σ H x y v u Q I rx ry q
  · exact h' pins s σ H x y v u Q I rx ry q
theorem nomark (b : Expr) {op : CmpOp} (h : op ≠ .In := by decide) (h2 : op ≠ .NotIn := by decide) : behindInMarks op b = false := by
  have e1 : (op == CmpOp.In) = false := by cases op <;> first | rfl | exact absurd rfl h
  have e2 : (op == CmpOp.NotIn) = false := by cases op <;> first | rfl | exact absurd rfl h2
  cases b <;> simp [behindInMarks, e1, e2]
theorem pe_cmpR {op : CmpOp} {r : R2} (ho : OpR X (compareOp op) r) (ha : PE X a ta) (hb : PE X b tb) (hm : behindInMarks op b = false) : PE X (.Compare a [op] [b] pos) (tOp r ta tb) := by
  intro pins s σ H Q I h
  exact wpAny_Compare1 (binT ha hb I h fun v u s2 x y H2 I2 rx ry q => ho pins s2 σ H2 x y v u Q I2 rx ry q) hm
noncomputable def tTest (t : TE) : TT := fun σ H Q => t σ H fun x H' => ∃ k, x = .bl k ∧ Q k H'
theorem pt_cmpR {op : CmpOp} {r : R2} (ho : OpR X (compareOp op) r) (ha : PE X a ta) (hb : PE X b tb) (hm : behindInMarks op b = false) : PT X (.Compare a [op] [b] pos) (tTest (tOp r ta tb)) := by
  intro pins s σ H Q I h
  refine wpAny_isTrue_Compare1 (thn (ha pins s σ H _ I h) fun v s1 ⟨x, H1, I1, r1, q1⟩ => thn (hb pins s1 σ H1 _ I1 q1) fun u s2 ⟨y, H2, I2, r2, q2⟩ =>
    thn (ho pins s2 σ H2 x y v u _ I2 r1 r2 q2) fun c s3 ⟨z, H3, I3, r3, k, e, q3⟩ => ?_) hm
  subst e
  cases r3
  exact wpAny_truthy_bool ⟨H3, I3, q3⟩
noncomputable def tChain (r r' : R2) (ta tb tc : TE) : TE := fun σ H Q => ta σ H fun x H1 => tb σ H1 fun y H2 => r x y H2 fun z H3 => ∃ k, z = .bl k ∧
  (if k = true then tc σ H3 fun w' H4 => r' y w' H4 Q else Q (.bl false) H3)
theorem pt_chain {op op' : CmpOp} {r r' : R2} (ho : OpR X (compareOp op) r) (ho' : OpR X (compareOp op') r') (ha : PE X a ta) (hb : PE X b tb) (hc : PE X c tc)
    (hm : lastMarks [op, op'] [b, c] = false := by with_unfolding_all rfl) : PT X (.Compare a [op, op'] [b, c] pos) (tTest (tChain r r' ta tb tc)) := by
  intro pins s σ H Q I h
  refine isTrue_chain (thn (ha pins s σ H _ I h) fun v s1 ⟨x, H1, I1, r1, q1⟩ => test_link (thn (hb pins s1 σ H1 _ I1 q1) fun u s2 ⟨y, H2, I2, r2, q2⟩ =>
    thn (ho pins s2 σ H2 x y v u _ I2 r1 r2 q2) fun d s3 ⟨z, H3, I3, r3, k, e, q3⟩ => ?_)) hm
  subst e
  cases r3
  refine wpAny_truthy_bool ?_
  cases k with
  | false =>
    obtain ⟨k', e', q'⟩ := q3
    cases e'
    exact ite_ff ⟨H3, I3, q'⟩
  | true =>
    refine ite_tt (test_last (thn (hc pins s3 σ H3 _ I3 q3) fun w' s4 ⟨z', H4, I4, r4, q4⟩ => thn (ho' pins s4 σ H4 y z' u w' _ I4 r2 r4 q4) fun d' s5 ⟨z2, H5, I5, r5, k2, e2, q5⟩ => ?_))
    subst e2
    cases r5
    exact wpAny_truthy_bool ⟨H5, I5, q5⟩
noncomputable def TruV (K : PySem.W.Frag) (x : V) (H : Hp) (k : Bool) : Prop :=
  match x with
  | .non => k = false
  | .bl b => k = b
  | .int i => k = (i != 0)
  | .str y => y.length ≤ sizeLine ∧ k = ((y.length : Int) != 0)
  | .byt y => y.size ≤ sizeLine ∧ k = ((y.size : Int) != 0)
  | .ref p => (∃ xs, SqL K H p xs ∧ k = !xs.isEmpty) ∨ (∃ xs, SqT K H p xs ∧ k = !xs.isEmpty) ∨ ∃ kvs, H p = some (.dK kvs) ∧ k = !kvs.isEmpty
  | _ => False
theorem isEmpty_kv {κ : Type} {kvs : List (κ × V)} {vs : List (κ × Value)} (r : KV kvs vs) : (!vs.isEmpty) = !kvs.isEmpty := by
  cases r <;> rfl
theorem isEmpty_of {xs : List V} {its : List Value} (r : Vals xs its) : (!its.toArray.isEmpty) = !xs.isEmpty := by
  cases r <;> simp
theorem line63 : (sizeLine : Nat) < 2 ^ 63 := by rw [sizeLine_eq]; decide
theorem tru_ok : TruR X (fun x H Q => ∃ k, TruV X.K x H k ∧ Q k H) := by
  intro pins s σ H x v Q I rx h
  obtain ⟨k, e, q⟩ := h
  have hl := line63
  have hs : sizeLine = 16777216 := sizeLine_eq
  cases x with
  | non =>
    cases rx
    have e' : k = false := e
    subst e'
    exact truthy_none ⟨H, I, q⟩
  | bl b =>
    cases rx
    have e' : k = b := e
    subst e'
    exact wpAny_truthy_bool ⟨H, I, q⟩
  | int i =>
    obtain ⟨t, rfl⟩ := rx
    have e' : k = (i != 0) := e
    subst e'
    exact PySem.P.truthy_int ⟨H, I, q⟩
  | str y =>
    obtain ⟨t, rfl⟩ := rx
    obtain ⟨hy, e'⟩ : y.length ≤ sizeLine ∧ k = ((y.length : Int) != 0) := e
    subst e'
    exact PySem.P.truthy_str (by omega) ⟨H, I.tok _, q⟩
  | byt y =>
    obtain ⟨t, rfl⟩ := rx
    obtain ⟨hy, e'⟩ : y.size ≤ sizeLine ∧ k = ((y.size : Int) != 0) := e
    subst e'
    exact PySem.W.truthy_bytes (by omega) ⟨H, I.tok _, q⟩
  | ref p =>
    cases rx
    have e' : (∃ xs, SqL X.K H p xs ∧ k = !xs.isEmpty) ∨ (∃ xs, SqT X.K H p xs ∧ k = !xs.isEmpty) ∨ ∃ kvs, H p = some (.dK kvs) ∧ k = !kvs.isEmpty := e
    rcases e' with ⟨xs, hx, e'⟩ | ⟨xs, hx, e'⟩ | ⟨kvs, hx, e'⟩
    · subst e'
      obtain ⟨its, r, pl, hz⟩ := I.list hx
      have hlen := r.length
      exact wpAny_truthy_list pl.isList (by simp only [List.size_toArray]; omega) ⟨H, I.tok _, by rw [isEmpty_of r]; exact q⟩
    · subst e'
      obtain ⟨its, r, pl, hz⟩ := I.tuple hx
      have hlen := r.length
      exact truthy_tuple pl (by simp only [List.size_toArray]; omega) ⟨H, I.tok _, by rw [isEmpty_of r]; exact q⟩
    · subst e'
      obtain ⟨hz, hS, vs, r, m⟩ : kvs.length ≤ sizeLine ∧ (p == sysModules) = false ∧ ∃ vs, KV kvs vs ∧ s.heap.DictOf (mixKind X.prog X.w) p vs := I.hok p _ hx
      have hlen : kvs.length = vs.length := Paired.length r
      exact wpAny_truthy_dict hS m (by omega) ⟨H, I.tok _, by rw [isEmpty_kv r]; exact q⟩
  | _ => exact (show False from e).elim
theorem pt_truth (ha : PE X a ta) (he : ∀ whole, isTrue a X.env whole = (do let v ← whole; standAt a.pos; holding [v] (truthy v))) :
    PT X a (fun σ H Q => ta σ H fun x H' => ∃ k, TruV X.K x H' k ∧ Q k H') := by
  intro pins s σ H Q I h
  exact isTrue_plain (thn (ha pins s σ H _ I h) fun v s1 ⟨x, H1, I1, r1, q1⟩ => tru_ok pins s1 σ H1 x v Q I1 r1 q1) (he _)
theorem op_add_str : OpR X (binaryOp .Add) (fun x y H Q => ∃ i j, x = .str i ∧ y = .str j ∧ i.length + j.length ≤ sizeLine ∧ Q (.str (i ++ j)) H) := by
  intro pins s σ H x y v u Q I rx ry h
  obtain ⟨i, j, rfl, rfl, hz, q⟩ := h
  obtain ⟨t, rfl⟩ := rx
  obtain ⟨t', rfl⟩ := ry
  exact add_str (fun t' tk => ⟨.str (i ++ j), H, I.tok _, ⟨_, rfl⟩, q⟩) hz
theorem vals1 {x : V} {us : List Value} (r : Vals [x] us) : ∃ u, us = [u] ∧ RelV x u := by
  cases r with
  | cons r1 r2 => cases r2; exact ⟨_, rfl, r1⟩
theorem vals2 {x y : V} {us : List Value} (r : Vals [x, y] us) : ∃ u w', us = [u, w'] ∧ RelV x u ∧ RelV y w' := by
  cases r with
  | cons r1 r2 =>
    cases r2 with
    | cons r3 r4 => cases r4; exact ⟨_, _, rfl, r1, r3⟩
theorem call_max2 (hc : X.calm = true) : CallR X (.builtin "max") (fun xs H Q => ∃ i j, xs = [.int i, .int j] ∧ Q (.int (if j > i then j else i)) H) := by
  intro pins s σ H xs us Q I r h
  obtain ⟨i, j, rfl, q⟩ := h
  obtain ⟨u, w', rfl, ⟨t, rfl⟩, ⟨t', rfl⟩⟩ := vals2 r
  refine max_two_ints (I.ok.hd hc) fun h' tk k => ⟨_, H, I.kept k, ?_, q⟩
  by_cases hj : j > i
  · rw [if_pos hj, if_pos hj]; exact ⟨_, rfl⟩
  · rw [if_neg hj, if_neg hj]; exact ⟨_, rfl⟩
theorem call_min2 (hc : X.calm = true) : CallR X (.builtin "min") (fun xs H Q => ∃ i j, xs = [.int i, .int j] ∧ Q (.int (if j < i then j else i)) H) := by
  intro pins s σ H xs us Q I r h
  obtain ⟨i, j, rfl, q⟩ := h
  obtain ⟨u, w', rfl, ⟨t, rfl⟩, ⟨t', rfl⟩⟩ := vals2 r
  refine min_two_ints (I.ok.hd hc) fun h' tk k => ⟨_, H, I.kept k, ?_, q⟩
  by_cases hj : j < i
  · rw [if_pos hj, if_pos hj]; exact ⟨_, rfl⟩
  · rw [if_neg hj, if_neg hj]; exact ⟨_, rfl⟩
theorem call_int1 : CallR X (.type "int") (fun xs H Q => (∃ i, xs = [.int i] ∧ Q (.int i) H) ∨ ∃ k, xs = [.bl k] ∧ Q (.int (if k then 1 else 0)) H) := by
  intro pins s σ H xs us Q I r h
  rcases h with ⟨i, rfl, q⟩ | ⟨k, rfl, q⟩
  · obtain ⟨u, rfl, t, rfl⟩ := vals1 r
    exact call_int_int ⟨.int i, H, I, ⟨_, rfl⟩, q⟩
  · obtain ⟨u, rfl, r1⟩ := vals1 r
    cases r1
    exact call_int_bool ⟨.int (if k then 1 else 0), H, I.tok _, ⟨_, rfl⟩, q⟩
noncomputable def LenV (K : PySem.W.Frag) (x : V) (H : Hp) (n : Nat) : Prop :=
  match x with
  | .str y => y.length ≤ sizeLine ∧ n = y.length
  | .byt y => y.size ≤ sizeLine ∧ n = y.size
  | .ref p => (∃ xs, SqL K H p xs ∧ n = xs.length) ∨ ∃ xs, SqT K H p xs ∧ n = xs.length
  | _ => False
theorem call_len : CallR X (.builtin "len") (fun xs H Q => ∃ x n, xs = [x] ∧ LenV X.K x H n ∧ Q (.int n) H) := by
  intro pins s σ H xs us Q I r h
  obtain ⟨x, n, rfl, e, q⟩ := h
  obtain ⟨u, rfl, rx⟩ := vals1 r
  have hl := line63
  have hs : sizeLine = 16777216 := sizeLine_eq
  cases x with
  | str y =>
    obtain ⟨t, rfl⟩ := rx
    obtain ⟨hy, e'⟩ : y.length ≤ sizeLine ∧ n = y.length := e
    subst e'
    exact len_str (by omega) ⟨.int _, H, I.tok _, ⟨_, rfl⟩, q⟩
  | byt y =>
    obtain ⟨t, rfl⟩ := rx
    obtain ⟨hy, e'⟩ : y.size ≤ sizeLine ∧ n = y.size := e
    subst e'
    exact PySem.W.len_bytes (by omega) ⟨.int _, H, I.tok _, ⟨_, rfl⟩, q⟩
  | ref p =>
    cases rx
    have e' : (∃ xs, SqL X.K H p xs ∧ n = xs.length) ∨ ∃ xs, SqT X.K H p xs ∧ n = xs.length := e
    rcases e' with ⟨xs, hx, e'⟩ | ⟨xs, hx, e'⟩
    · subst e'
      obtain ⟨its, r', pl, hz⟩ := I.list hx
      have hlen := r'.length
      exact Calls.call_len_list pl.isList (by simp only [List.size_toArray]; omega) ⟨.int xs.length, H, I.tok _, ⟨_, by simp only [List.size_toArray]; rw [hlen]⟩, q⟩
    · subst e'
      obtain ⟨its, r', pl, hz⟩ := I.tuple hx
      have hlen := r'.length
      exact len_tuple pl (by simp only [List.size_toArray]; omega) ⟨.int xs.length, H, I.tok _, ⟨_, by simp only [List.size_toArray]; rw [hlen]⟩, q⟩
  | _ => exact (show False from e).elim
end
end L2
namespace L2
open PySem PySem.Spec PyProof.Rows
structure ObjM (h : Heap) (x dx C : Addr) (mA : Str → Option Value) : Prop where
  obj : h.get? x = some (PySem.W.instObj C dx)
  ns : h.Ns1 dx mA
  ne : dx ≠ x
theorem lookIn_ns {h : Heap} {dx : Addr} {mA : Str → Option Value} (n : h.Ns1 dx mA) : ∃ od, h.get? dx = some od ∧ ∀ name, PySem.W.lookIn name od = some (mA name) := by
  obtain ⟨o, es, ep, ho, hd, hk, _, hm⟩ := n
  refine ⟨o, ho, fun name => ?_⟩
  have e := hm name
  unfold nsFind findBy at e
  rw [← Array.find?_toList] at e
  unfold PySem.W.lookIn
  rw [hd]
  dsimp only
  split
  · rename_i y q
    rw [q] at e
    exact congrArg some e
  · rename_i q
    rw [q] at e
    have a : es.toList.any (·.refKey) = false := by
      rw [List.any_eq_false]
      intro y hy
      obtain ⟨z, t, hkey⟩ := hk y (Array.mem_toList_iff.mp hy)
      simp [DictEntry.refKey, hkey]
    have a' : ¬ es.toList.any (·.refKey) = true := by rw [a]; exact Bool.false_ne_true
    rw [if_neg a']
    exact congrArg some e
theorem ObjM.look {h : Heap} {x dx C : Addr} {mA : Str → Option Value} (I : ObjM h x dx C mA) : ∃ od, PySem.W.InstAt h x (PySem.W.instObj C dx) C (some od) ∧ ∀ name, PySem.W.lookIn name od = some (mA name) :=
  let ⟨od, ho, hl⟩ := lookIn_ns I.ns
  ⟨od, ⟨I.obj, rfl, rfl, ho⟩, hl⟩
section
variable {prog : Program} {w : World} {A : Around} {E : Value → Shared → Prop} {s : Shared} {K : PySem.W.Frag} {x dx C f : Addr} {mA : Str → Option Value} {name : Str} {v : Value}
end
theorem RelO.some_of {v : V} {o : Option Value} (r : RelO (some v) o) : ∃ u, o = some u ∧ RelV v u := by
  cases o with
  | none => exact (show False from r).elim
  | some u => exact ⟨u, rfl, r⟩
section
variable {P : Program} {w : World} {H H' : Hp} {h h' : Heap} {a C dx : Addr} {fs fs' : List (Str × V)}
theorem ins_get (hok : HOk P w H h) (e : H a = some (.ins C dx fs)) : ∃ mA, ObjM h a dx C mA ∧ (∀ f, RelO (fs.lookup f) (mA f)) ∧ PySem.Within mA (fs.map (·.1)) ∧ fs.length ≤ 1000 ∧ H dx = some (.own a) := by
  obtain ⟨d, z, ne, ob, mA, n, r, q⟩ := (show ObjOk P w H h a (.ins C dx fs) from hok a _ e)
  exact ⟨mA, ⟨ob, n, ne⟩, r, q, z, d⟩
end
structure Cls (K : PySem.W.Frag) (C : Addr) : Prop where
  pg : PySem.W.plainGet K C Str.empty = true
  hd : PySem.W.hasDictIn K C = true
  po : PySem.W.plainOver K C = true
  sa : PySem.W.findIn K (.ref C) "__setattr__" = some (some (.builtin "object.__setattr__"))
theorem Cls.get {K : PySem.W.Frag} {C : Addr} (c : Cls K C) (f : Str) : PySem.W.plainGet K C f = true := c.pg
section
variable {X : Cx} {pins : List (Addr × Obj)} {σ : St} {H : Hp} {s : Shared} {a C dx : Addr} {fs : List (Str × V)} {f : Str} {v : V} {A : Around} {E : Value → Shared → Prop}
end
section
variable {X : Cx} {o e value : Expr} {f : Str} {pos pos' tpos : Pos} {ta tv : TE}
end
section
variable {X : Cx} {pins : List (Addr × Obj)} {σ : St} {H : Hp} {s : Shared} {A : Around} {E : Value → Shared → Prop} {Q : Value → Shared → Prop} {c : Value} {b : Bool}
inductive TyOf (K : PySem.W.Frag) (H : Hp) : V → Value → Prop where
  | non : TyOf K H .non (.type "NoneType")
  | bl (x : Bool) : TyOf K H (.bl x) (.type "bool")
  | int (i : Int) : TyOf K H (.int i) (.type "int")
  | str (x : Str) : TyOf K H (.str x) (.type "str")
  | flt (x : UInt64) : TyOf K H (.flt x) (.type "float")
  | lst {a : Addr} {xs : List V} (e : H a = some (.lst xs)) : TyOf K H (.ref a) (.type "list")
  | frz {a : Addr} {o : Obj} {xs : List V} (e : H a = some (.frz o (.lst xs))) : TyOf K H (.ref a) (.type "list")
  | tup {a : Addr} {xs : List V} (e : H a = some (.tup xs)) : TyOf K H (.ref a) (.type "tuple")
  | dK {a : Addr} {kvs : List (Key × V)} (e : H a = some (.dK kvs)) : TyOf K H (.ref a) (.type "dict")
  | dT {a : Addr} {kvs : List (List Key × V)} (e : H a = some (.dT kvs)) : TyOf K H (.ref a) (.type "dict")
  | ins {a C dx : Addr} {fs : List (Str × V)} (e : H a = some (.ins C dx fs)) (cl : Cls K C) (ha : PySem.W.findIn K (.ref C) "__class__" = some (some (.builtin "object.__class__")))
      (hn : PySem.W.specialIn K (.builtin "object.__class__") "__get__" = some (some (.builtin "getset_descriptor.__get__"))) (htk : PySem.W.takesIn K (.builtin "object.__class__") = some true)
      (hm : PySem.W.mroIn K C (.type "object") = some true) : TyOf K H (.ref a) (.ref C)
theorem isinst_ok {x : V} {u t : Value} (I : Inv X pins σ H s) (rx : RelV x u) (ty : TyOf X.K H x t) (e : PySem.W.kitOne X.K t c = some b) (h : ∀ tk, Q (.bool b) { s with toks := tk }) :
    wpAny (model X.prog X.w) A (call (.builtin "isinstance") [u, c]) Q E s := by
  cases ty with
  | non => cases (show u = Value.none from rx); exact PySem.W.kia_one PySem.W.kitx_none I.kIn True.intro e (fun z => nomatch z) h
  | bl y => cases (show u = Value.bool y from rx); exact PySem.W.kia_one PySem.W.kitx_bool I.kIn True.intro e (fun z => nomatch z) h
  | int i => obtain ⟨t, q⟩ := (show ∃ t, u = Value.int i t from rx); cases q; exact PySem.W.kia_one PySem.W.kitx_int I.kIn True.intro e (fun z => nomatch z) h
  | str y => obtain ⟨t, q⟩ := (show ∃ t, u = Value.str y t from rx); cases q; exact PySem.W.kia_one PySem.W.kitx_str I.kIn True.intro e (fun z => nomatch z) h
  | flt y => obtain ⟨t, q⟩ := (show ∃ t, u = Value.float y t from rx); cases q; exact PySem.W.kia_one PySem.W.kitx_float I.kIn True.intro e (fun z => nomatch z) h
  | @lst a xs ea =>
    cases (show u = Value.ref a from rx)
    obtain ⟨_, _, n, _, h1⟩ := (show ObjOk X.prog X.w H s.heap a (.lst xs) from I.hok a _ ea)
    exact PySem.W.kia_one PySem.W.kitx_list I.kIn ⟨_, h1, rfl⟩ e (fun z => nomatch z) h
  | @frz a ob xs ea =>
    cases (show u = Value.ref a from rx)
    obtain ⟨_, _, _, n, _, h1⟩ := (show ObjOk X.prog X.w H s.heap a (.frz ob (.lst xs)) from I.hok a _ ea)
    exact PySem.W.kia_one PySem.W.kitx_list I.kIn ⟨_, h1, rfl⟩ e (fun z => nomatch z) h
  | @tup a xs ea =>
    cases (show u = Value.ref a from rx)
    obtain ⟨_, _, _, p⟩ := (show ObjOk X.prog X.w H s.heap a (.tup xs) from I.hok a _ ea)
    obtain ⟨o, h1, h2, _⟩ := p
    exact PySem.W.kia_one PySem.W.kitx_tuple I.kIn ⟨o, h1, h2⟩ e (fun z => nomatch z) h
  | @dK a kvs ea =>
    cases (show u = Value.ref a from rx)
    obtain ⟨_, _, vs, _, p⟩ := (show ObjOk X.prog X.w H s.heap a (.dK kvs) from I.hok a _ ea)
    obtain ⟨o, es, ep, h1, h2, _⟩ := p
    exact PySem.W.kia_one PySem.W.kitx_dict I.kIn ⟨o, h1, h2.1⟩ e (fun z => nomatch z) h
  | @dT a kvs ea =>
    cases (show u = Value.ref a from rx)
    obtain ⟨_, _, xs, _, o, es, ep, h1, h2, _⟩ := (show ObjOk X.prog X.w H s.heap a (.dT kvs) from I.hok a _ ea)
    exact PySem.W.kia_one PySem.W.kitx_dict I.kIn ⟨o, h1, h2.1⟩ e (fun z => nomatch z) h
  | @ins a C dx fs ea cl ha hn htk hm =>
    cases (show u = Value.ref a from rx)
    obtain ⟨mA, O, _⟩ := ins_get I.hok ea
    obtain ⟨od, J, _⟩ := O.look
    exact PySem.W.kia_one (PySem.W.kitx_own (cl.get _) cl.hd ha hn htk hm) I.kIn J e (fun z => nomatch z) h
end
end L2
namespace L2
open PySem PySem.Spec PyProof.Rows
structure Room (k : Nat) (A : Around) : Prop where
  hd : A.handled = none
  dp : A.depth + 3 * k + 5 < recursionLimit
  un : A.units + 16 * k + 200 < cLine
theorem Room.mono {j k : Nat} {A : Around} (r : Room k A) (h : j ≤ k) : Room j A := ⟨r.hd, by have := r.dp; omega, by have := r.un; omega⟩
theorem Room.deeper {k : Nat} {A : Around} (r : Room (k + 1) A) (env : Env) : Room k (A.deeper env) :=
  ⟨r.hd, by have := r.dp; show A.depth + 1 + 3 * k + 5 < _; omega, by have := r.un; show A.units + 3 + 16 * k + 200 < _; omega⟩
theorem Room.depth {k : Nat} {A : Around} (r : Room k A) : A.depth < recursionLimit := by have := r.dp; omega
theorem Room.units {k : Nat} {A : Around} (r : Room k A) : A.units + 64 < cLine := by have := r.un; omega
noncomputable def tNil : TA := fun _ H Q => Q [] H
noncomputable def tCons (ta : TE) (tr : TA) : TA := fun σ H Q => ta σ H fun x H1 => tr σ H1 fun xs H2 => Q (x :: xs) H2
section
variable {X : Cx} {e : Expr} {es : List Expr} {te : TE} {t : TA} {pos : Pos}
theorem pa_nil : PA X [] tNil := fun _ _ _ _ H Q I h => Calls.spliced_nil ⟨[], H, I, .nil, h⟩
theorem pa_cons (ha : PE X e te) (hr : PA X es t) (hs : starEach (e :: es) X.env = (false, eval e X.env) :: starEach es X.env := by rfl) : PA X (e :: es) (tCons te t) := by
  intro pos pins s σ H Q I h
  rw [hs]
  show wpAny _ _ (spliced ((false, eval e X.env) :: backTo pos (starEach es X.env))) _ _ s
  refine Calls.spliced_cons (thn (ha pins s σ H _ I h) fun u s1 ⟨x, H1, I1, r1, q1⟩ => ?_)
  exact thn (hr pos pins s1 σ H1 _ I1 q1) fun us s2 ⟨xs, H2, I2, r2, q2⟩ => ⟨x :: xs, H2, I2, .cons r1 r2, q2⟩
noncomputable def tTup (t : TA) : TE := fun σ H Q => t σ H fun xs H1 => xs.length ≤ sizeLine ∧ ∀ p, H1 p = none → Q (.ref p) (upd H1 p (.tup xs))
noncomputable def tLst (t : TA) : TE := fun σ H Q => t σ H fun xs H1 => xs.length ≤ sizeLine ∧ ∀ p, H1 p = none → Q (.ref p) (upd H1 p (.lst xs))
theorem pe_tup {x1} (h : PA X es t) : PE X (.Tuple es x1 pos) (tTup t) := by
  intro pins s σ H Q I hq
  refine wpAny_Tuple_spliced (thn (h pos pins s σ H _ I hq) fun us s1 ⟨xs, H1, I1, r, z, q⟩ => ⟨by rw [← r.length]; exact z, ?_⟩)
  have hf : H1 s1.heap.objs.size = none := I1.hok.fresh (Nat.le_refl _)
  refine ⟨.ref s1.heap.objs.size, upd H1 s1.heap.objs.size (.tup xs), I1.laid (t' := s1.toks) (fun b u e => Heap.get?_push_of_some _ e) (Nat.le_refl _) ?_, rfl, q _ hf⟩
  exact ⟨z, us, r, ⟨_, Heap.get?_push_size _ rfl, rfl, _, rfl⟩⟩
theorem pe_lst (h : PA X es t) : PE X (.List es pos) (tLst t) := by
  intro pins s σ H Q I hq
  refine wpAny_List_spliced (thn (h pos pins s σ H _ I hq) fun us s1 ⟨xs, H1, I1, r, z, q⟩ => ⟨by rw [← r.length]; exact z, ?_⟩)
  have hf : H1 s1.heap.objs.size = none := I1.hok.fresh (Nat.le_refl _)
  refine ⟨.ref s1.heap.objs.size, upd H1 s1.heap.objs.size (.lst xs), I1.laid (t' := s1.toks) (fun b u e => Heap.get?_push_of_some _ e) (Nat.le_refl _) ?_, rfl, q _ hf⟩
  exact ⟨z, us, 0, r, Heap.get?_push_size _ rfl⟩
end
noncomputable abbrev Sp := List V → Hp → VK → XK → Prop
noncomputable abbrev CXT := List Env → Hp → Shared → XK → Value → Shared → Prop
structure Env0 (P : Program) (w : World) (K : PySem.W.Frag) (mg : Str → Option Value) (base : Heap) (A : Around) (outer : List Env) (s : Shared) (H : Hp) : Prop where
  frames : A.frames = some outer
  mod : Mod K mg base
  bs : ∀ b o, base.get? b = some o → s.heap.get? b = some o ∧ H b = none
  bsz : base.objs.size ≤ s.heap.objs.size
  funs : s.heap.FunFrames base outer
  frf : ∀ b ∈ frs outer, H b = none
  hok : HOk P w H s.heap
  bare : AllBare s.gens
noncomputable def CE (outer : List Env) (P : Program) (w : World) (H : Hp) (s : Shared) (Q : VK) (u : Value) (s' : Shared) : Prop :=
  ∃ v H', s'.os = s.os ∧ AllBare s'.gens ∧ Un (frs outer) [] H H' s.heap s'.heap ∧ HOk P w H' s'.heap ∧ RelV v u ∧ Q v H'
noncomputable def CR (CX : CXT) (outer : List Env) (P : Program) (w : World) (H : Hp) (s : Shared) (Q : VK) (E : XK) (r : Result) (s' : Shared) : Prop :=
  match r with
  | .ok (.ret u) => CE outer P w H s Q u s'
  | .ok _ => False
  | .error e => CX outer H s E e s'
structure FnOk (P : Program) (w : World) (K : PySem.W.Frag) (mg : Str → Option Value) (base : Heap) (CX : CXT) (k : Nat) (f : Addr) (fd : FuncData) (ps : List Str) (sp : Sp) : Prop where
  len : ∀ vs H Q E, sp vs H Q E → vs.length = ps.length
  run : ∀ (A : Around) (outer : List Env) (s : Shared) (H : Hp) (args : Args) (us : List Value) (vs : List V) (Q : VK) (E : XK), Room k A → Env0 P w K mg base A outer s H → BindsTo s fd args (ps.zip us) → Vals vs us → sp vs H Q E →
    codeAny (model P w) A (.call (.ref f) args) (CR CX outer P w H s Q E) s
theorem FnOk.mono {P : Program} {w : World} {K : PySem.W.Frag} {mg : Str → Option Value} {base : Heap} {CX : CXT} {j k : Nat} {f : Addr} {fd : FuncData} {ps : List Str} {sp : Sp} (F : FnOk P w K mg base CX j f fd ps sp) (h : j ≤ k) :
    FnOk P w K mg base CX k f fd ps sp := ⟨F.len, fun A outer s H args us vs Q E hr => F.run A outer s H args us vs Q E (hr.mono h)⟩
section
variable {X : Cx} {pins : List (Addr × Obj)} {σ : St} {H : Hp} {s s' : Shared}
theorem Inv.env0 (I : Inv X pins σ H s) : Env0 X.prog X.w X.K X.mg X.base X.A X.stack s H :=
  ⟨I.ok.frames, I.ok.mod, I.bs, Nat.le_trans I.ok.bsz I.sz, I.stack, I.stkFree, I.hok, I.bare⟩
theorem Inv.after {Q : VK} {u : Value} (I : Inv X pins σ H s) (h : CE X.stack X.prog X.w H s Q u s') : EP X pins σ Q u s' := by
  obtain ⟨v, H', os, bare, un, hok, r, q⟩ := h
  obtain ⟨hh, g, d, t, os'⟩ := s'
  obtain rfl : os' = s.os := os
  exact ⟨v, H', I.call (h' := hh) (g' := g) (d' := d) (t' := t) (ch := []) un hok bare (fun b z => absurd z (by simp)), r, q⟩
end
noncomputable def tCall (sp : Sp) (dvs : List V) (E : XK) (t : TA) : TE := fun σ H Q => t σ H fun vs H1 => sp (vs ++ dvs) H1 Q E
noncomputable def Binds (K : PySem.W.Frag) (fd : FuncData) (ps : List Str) (ds : List Value) : Prop :=
  ∀ (s : Shared) (us : List Value), K.In s.heap → (us ++ ds).length = ps.length → BindsTo s fd ⟨us, []⟩ (ps.zip (us ++ ds))
theorem Binds.all {K : PySem.W.Frag} {fd : FuncData} {ps : List Str} (h : ∀ us : List Value, us.length = ps.length → bindArgs fd ⟨us, []⟩ = pure (ps.zip us)) : Binds K fd ps [] := fun s us _ hl => by
  rw [List.append_nil] at hl ⊢
  exact .of_eq (h us hl)
noncomputable def Passes (CX : CXT) (X : Cx) (E : XK) : Prop := ∀ (pins : List (Addr × Obj)) (σ : St) (H : Hp) (s : Shared) (e : Value) (s' : Shared), Inv X pins σ H s → CX X.stack H s E e s' → X.xe e s'
section
variable {X : Cx} {CX : CXT} {k : Nat} {f C : Addr} {fd : FuncData} {ps : List Str} {sp : Sp} {dvs : List V} {ds : List Value} {E : XK} {x m : Str} {p pos apos : Pos} {e o : Expr} {es : List Expr} {ta : TE} {t : TA}
theorem run_fn {pins : List (Addr × Obj)} {σ : St} {H : Hp} {s : Shared} {Q : VK} {us : List Value} {vs : List V} (F : FnOk X.prog X.w X.K X.mg X.base CX k f fd ps sp) (hr : Room k X.A) (hb : Binds X.K fd ps ds) (hd : Vals dvs ds) (hx : Passes CX X E)
    (I : Inv X pins σ H s) (r : Vals vs us) (h : sp (vs ++ dvs) H Q E) : wpAny (model X.prog X.w) X.A (call (.ref f) us) (EP X pins σ Q) X.xe s := by
  have r2 : Vals (vs ++ dvs) (us ++ ds) := r.append hd
  have hl : (us ++ ds).length = ps.length := by rw [← r2.length]; exact F.len _ _ _ _ h
  refine wpAny_call (codeAny_mono (F.run X.A X.stack s H ⟨us, []⟩ (us ++ ds) (vs ++ dvs) Q E hr I.env0 (hb s us I.kIn hl) r2 h) fun r s' hq => ?_)
  cases r with
  | error e => exact hx pins σ H s e s' I hq
  | ok fl =>
    cases fl with
    | ret u => exact I.after hq
    | next => exact False.elim hq
    | brk => exact False.elim hq
    | cont => exact False.elim hq
theorem pe_call (F : FnOk X.prog X.w X.K X.mg X.base CX k f fd ps sp) (hr : Room k X.A) (hg : Gl X x) (hm : X.mg x = some (.ref f)) (hk : PySem.W.keepIn X.K (.ref f) = true) (hb : Binds X.K fd ps ds) (hd : Vals dvs ds) (hx : Passes CX X E)
    (ha : PA X (e :: es) t) (hdb : (x == ("__debug__" : Str)) = false := by decide) (he : starEach (e :: es) X.env = (false, eval e X.env) :: starEach es X.env := by rfl) (hpl : (backTo pos (starEach es X.env)).any (·.1) = false := by rfl) :
    PE X (.Call (.Name x p) (e :: es) [] pos) (tCall sp dvs E t) := by
  intro pins s σ H Q I h
  refine wpAny_Call_Name_kw (ld_glob I hg hm ?_ hdb)
  refine PySem.W.callWith_K (h₀ := X.base) I.ok.mod.kin hk (thn (ha pos pins s σ H _ I h) fun us s1 ⟨vs, H1, I1, r, q⟩ => ⟨I1.kIn, ?_⟩) he hpl
  exact run_fn F hr hb hd hx I1 r q
end
section
variable {X : Cx} {CX : CXT} {k : Nat} {f C : Addr} {fd : FuncData} {ps ks : List Str} {sp : Sp} {E : XK} {x m : Str} {p pos apos kpos : Pos} {e o : Expr} {es : List Expr} {kws : List Keyword} {te ta : TE} {t tk : TA} {nm : Option Str}
variable {g : List Value → List Value → List Value} {gV : List V → List V → List V}
end
structure FnScope (N P : List Str) (sc : Scope) : Prop where
  kind : sc.kind = .function
  co : sc.isCoroutine = false
  gen : sc.isGenerator = false
  nd : N.Nodup
  pre : N.take P.length = P
  par : ∀ x ∈ P, sc.names.lookup x = some .local ∨ sc.names.lookup x = some .cell
  nofree : ∀ y ∈ sc.names, y.2 ≠ .free
theorem bindL_out {kindOf : Str → Option NameKind} {x : Str} : ∀ {binds : List (Str × Value)} {m : Str → Option Value}, (∀ v, (x, v) ∉ binds) → bindL kindOf binds m x = m x
  | [], _, _ => rfl
  | (n, v) :: r, m, h => by
    unfold bindL
    rw [bindL_out fun w hw => h w (List.mem_cons_of_mem _ hw)]
    split
    · have : x ≠ n := by rintro rfl; exact h v List.mem_cons_self
      simp [this]
    · rfl
theorem bindC_out {kindOf : Str → Option NameKind} {x : Str} : ∀ {binds : List (Str × Value)} {m : Str → Option Value}, (∀ v, (x, v) ∉ binds) → bindC kindOf binds m x = m x
  | [], _, _ => rfl
  | (n, v) :: r, m, h => by
    unfold bindC
    rw [bindC_out fun w hw => h w (List.mem_cons_of_mem _ hw)]
    split
    · rfl
    · have : x ≠ n := by rintro rfl; exact h v List.mem_cons_self
      simp [this]
theorem bindL_get {kindOf : Str → Option NameKind} {x : Str} {v : Value} : ∀ {P : List Str} {vs : List Value} {i : Nat} {m : Str → Option Value}, P.Nodup → P[i]? = some x → vs[i]? = some v → kindOf x = some .local →
    bindL kindOf (P.zip vs) m x = some v
  | [], _, _, _, _, h, _, _ => by simp at h
  | _ :: _, [], _, _, _, _, h, _ => by simp at h
  | p :: P, w :: vs, 0, m, nd, h1, h2, hk => by
    simp at h1 h2; subst h1; subst h2
    show bindL kindOf ((p, w) :: P.zip vs) m p = _
    unfold bindL
    rw [bindL_out fun v hv => (List.nodup_cons.mp nd).1 (List.of_mem_zip hv).1, if_pos hk]
    simp
  | p :: P, w :: vs, i + 1, m, nd, h1, h2, hk => by
    show bindL kindOf ((p, w) :: P.zip vs) m x = _
    unfold bindL
    exact bindL_get (i := i) (List.nodup_cons.mp nd).2 (by simpa using h1) (by simpa using h2) hk
theorem bindC_get {kindOf : Str → Option NameKind} {x : Str} {v : Value} : ∀ {P : List Str} {vs : List Value} {i : Nat} {m : Str → Option Value}, P.Nodup → P[i]? = some x → vs[i]? = some v → kindOf x ≠ some .local →
    bindC kindOf (P.zip vs) m x = some v
  | [], _, _, _, _, h, _, _ => by simp at h
  | _ :: _, [], _, _, _, _, h, _ => by simp at h
  | p :: P, w :: vs, 0, m, nd, h1, h2, hk => by
    simp at h1 h2; subst h1; subst h2
    show bindC kindOf ((p, w) :: P.zip vs) m p = _
    unfold bindC
    rw [bindC_out fun v hv => (List.nodup_cons.mp nd).1 (List.of_mem_zip hv).1, if_neg hk]
    simp
  | p :: P, w :: vs, i + 1, m, nd, h1, h2, hk => by
    show bindC kindOf ((p, w) :: P.zip vs) m x = _
    unfold bindC
    exact bindC_get (i := i) (List.nodup_cons.mp nd).2 (by simpa using h1) (by simpa using h2) hk
noncomputable def start (N : List Str) (vs : List V) : St := vs.map some ++ List.replicate (N.length - vs.length) none
noncomputable def cxOf (CX : CXT) (P : Program) (w : World) (K : PySem.W.Frag) (mg : Str → Option Value) (base : Heap) (N : List Str) (qual : Str) (scope : Scope) (f : Addr) (cd : Value) (A : Around) (outer : List Env) (s : Shared) (H : Hp) (E : XK) : Cx where
  prog := P
  w := w
  K := K
  mg := mg
  base := base
  A := A.deeper (envOfC qual scope s.heap.objs.size f cd)
  N := N
  s₀ := s
  H₀ := H
  env := envOfC qual scope s.heap.objs.size f cd
  outer := outer
  stack := envOfC qual scope s.heap.objs.size f cd :: outer
  ex := []
  calm := true
  fn := fun _ => true
  pn := []
  xe := fun e s' => wpAny (model P w) (A.deeper (envOfC qual scope s.heap.objs.size f cd)) (leaving (envOfC qual scope s.heap.objs.size f cd) e) (fun _ s'' => CX outer H s E e s'') (fun e' s'' => CX outer H s E e' s'') s'
theorem cell_has {sc : Scope} {n : Nat} {x : Str} (h : sc.names.lookup x = some .cell) : ∃ c, (cellsFrom n sc.names []).lookup x = some c := by
  have q := PySem.W.cellsFrom_some sc.names n [] (.inl h)
  exact Option.isSome_iff_exists.mp q
theorem inv_start {CX : CXT} {P : Program} {w : World} {K : PySem.W.Frag} {mg : Str → Option Value} {base : Heap} {N ps : List Str} {qual : Str} {scope : Scope} {f : Addr} {cd : Value} {A : Around} {outer : List Env} {s s1 : Shared} {H : Hp} {E : XK} {us : List Value} {vs : List V}
    (S : FnScope N ps scope) (hd : A.handled = none) (e0 : Env0 P w K mg base A outer s H) (hl : vs.length = ps.length) (r : Vals vs us)
    (x : InCallC s s.heap.objs.size (bindL (envOfC qual scope s.heap.objs.size f cd).kindOf (ps.zip us) fun _ => none) (cellsFrom (s.heap.objs.size + 1) scope.names []) (bindC (envOfC qual scope s.heap.objs.size f cd).kindOf (ps.zip us) fun _ => none) s1) :
    Inv (cxOf CX P w K mg base N qual scope f cd A outer s H E) [] (start N vs) H s1 := by
  have hpl : ps.length ≤ N.length := by have := congrArg List.length S.pre; rw [List.length_take] at this; omega
  obtain ⟨h1, tk, rfl, hk⟩ := x.done
  have noA : ∀ b : Addr, b ∉ (cxOf CX P w K mg base N qual scope f cd A outer s H E).ex := fun b z => absurd (show b ∈ ([] : List Addr) from z) (by simp)
  refine ⟨⟨e0.mod, S.kind, rfl, rfl, Nat.le_refl _, fun y z c h1 h2 => ?_, fun y hy => ?_, fun y c _ h => ?_, fun _ => hd, Around.frames_deeper e0.frames, .inr ⟨rfl, rfl⟩, fun b z => absurd z (noA b), e0.bs, e0.bsz, fun b _ _ => noA b, fun b z => absurd z (noA b), e0.funs, e0.frf⟩,
    rfl, e0.bare, Un.kept hk, ⟨_, x.toInCall.ns, fun i y v h1 h2 h3 => ?_⟩, fun y c h => ⟨_, x.cell y c h⟩, e0.hok.fresh (Nat.le_refl _), fun y c h => ?_, fun p hp => absurd (show p ∈ ([] : List (Addr × Obj)) from hp) (by simp), e0.hok.kept hk, ?_⟩
  · exact name_of_addr x.apart (PySem.mem_of_lookup h1) (PySem.mem_of_lookup h2)
  · have hy : scope.names.lookup y = some .cell ∨ scope.names.lookup y = some .free := hy
    rcases hy with hy | hy
    · exact cell_has hy
    · exact absurd rfl (S.nofree _ (PySem.mem_of_lookup hy))
  · exact Nat.le_of_lt (x.above y c (PySem.mem_of_lookup h))
  · have hi : i < vs.length := by
      unfold start at h2
      by_cases hi : i < vs.length
      · exact hi
      · rw [List.getElem?_append_right (by simpa using hi)] at h2
        rw [List.getElem?_replicate] at h2
        split at h2 <;> cases h2
    have ha : vs[i]? = some v := by
      unfold start at h2
      rw [List.getElem?_append_left (by simpa using hi), List.getElem?_map] at h2
      cases e : vs[i]? with
      | none => rw [e] at h2; cases h2
      | some a => rw [e] at h2; cases h2; rfl
    obtain ⟨u, hu, rv⟩ := r.get ha
    have hp : ps[i]? = some y := by
      rw [← S.pre, List.getElem?_take_of_lt (by omega)]; exact h1
    have ndP : ps.Nodup := by rw [← S.pre]; exact S.nd.sublist (List.take_sublist _ _)
    refine ⟨u, rv, ?_⟩
    rcases S.par y (List.mem_of_getElem? hp) with k | k
    · exact .inl ⟨k, bindL_get ndP hp hu k⟩
    · obtain ⟨c, e⟩ := cell_has (n := s.heap.objs.size + 1) k
      refine .inr ⟨.inl k, c, e, ?_⟩
      have q := x.cell y c e
      rw [bindC_get ndP hp hu (by show scope.names.lookup y ≠ _; rw [k]; decide)] at q
      exact q
  · exact e0.hok.fresh (Nat.le_of_lt (x.above y c (PySem.mem_of_lookup h)))
  · unfold start
    show _ = N.length
    rw [List.length_append, List.length_map, List.length_replicate]
    omega
theorem fn_of {CX : CXT} {P : Program} {w : World} {K : PySem.W.Frag} {mg : Str → Option Value} {base : Heap} {k : Nat} {f : Addr} {name qual : Str} {params : Arguments} {body : List Stmt} {scope : Scope} {dV kV doc pm cdv ct oc : Value} {an od : Option Addr}
    {osl : Array (Option Value)} {N ps : List Str} {sp : Sp} (lk : K.lookup f = some ⟨oc, od, .func (PySem.W.fnOf name qual params body scope dV kV doc pm an cdv ct), osl⟩) (hcd : PySem.W.codeIn K cdv qual = true) (S : FnScope N ps scope)
    (len : ∀ vs H Q E, sp vs H Q E → vs.length = ps.length)
    (hbody : ∀ (A : Around) (outer : List Env) (s : Shared) (H : Hp) (vs : List V) (Q : VK) (E : XK), Room k (A.deeper (envOfC qual scope s.heap.objs.size f cdv)) → sp vs H Q E →
      ∃ t, PSs (cxOf CX P w K mg base N qual scope f cdv A outer s H E) body t ∧ t { nx := fun _ H' => Q .non H', rt := Q } (start N vs) H) :
    FnOk P w K mg base CX (k + 1) f (PySem.W.fnOf name qual params body scope dV kV doc pm an cdv ct) ps sp := by
  refine ⟨len, fun A outer s H args us vs Q E hr e0 hb r hsp => ?_⟩
  have hl := len _ _ _ _ hsp
  have KX : K.In s.heap := e0.mod.kin.keeps fun b o e => (e0.bs b o e).1
  have lim : s.heap.NoLimit := e0.mod.nolimit.keeps fun b o e => (e0.bs b o e).1
  have hkind : ∀ y ∈ ps.zip us, scope.names.lookup y.1 = some .local ∨ (scope.names.lookup y.1 = some .cell ∧ ((cellsFrom (s.heap.objs.size + 1) scope.names []).lookup y.1).isSome = true) := fun ⟨n, v⟩ hy => by
    rcases S.par n (List.of_mem_zip hy).1 with q | q
    · exact .inl q
    · exact .inr ⟨q, PySem.W.cellsFrom_some _ _ _ (.inl q)⟩
  refine codeAny_call_function hr.depth (KX _ _ lk) rfl S.co S.gen rfl (PySem.W.codeRec_of KX hcd) (hb _ _ _ _ ?_)
  refine wpAny_newFunctionEnv_cells S.kind hkind fun env he s1 x => ?_
  subst he
  refine ⟨lim.keeps x.toInCall.keep, codeAny_func ?_⟩
  obtain ⟨t, ht, hq⟩ := hbody A outer s H vs Q E (hr.deeper _) hsp
  have I : Inv (cxOf CX P w K mg base N qual scope f cdv A outer s H E) [] (start N vs) H s1 := inv_start S hr.hd e0 hl r x
  refine wpAny_mono (ht [] s1 (start N vs) H _ I hq) (fun fl s' hs => ?_) fun e s' hs => hs
  have fin : ∀ {σ' : St} {H' : Hp} {v : V} {u : Value}, Inv (cxOf CX P w K mg base N qual scope f cdv A outer s H E) [] σ' H' s' → RelV v u → Q v H' → CE outer P w H s Q u s' :=
    fun {σ' H' v u} J rv q => ⟨v, H', J.os, J.bare, J.base, J.hok, rv, q⟩
  cases fl with
  | ret u =>
    obtain ⟨v, σ', H', J, rv, q⟩ := hs
    exact fin J rv q
  | next =>
    obtain ⟨σ', H', J, q⟩ := hs
    exact fin (v := V.non) (u := Value.none) J rfl q
  | brk =>
    obtain ⟨_, _, _, q⟩ := hs
    exact False.elim q
  | cont =>
    obtain ⟨_, _, _, q⟩ := hs
    exact False.elim q
end L2
namespace L2
open PySem PySem.Spec PyProof.Rows
section
variable {X : Cx} {x : Str} {p pos : Pos} {e : Expr} {es : List Expr} {t : TA} {id T : String} {r : List V → Hp → VK → Prop}
noncomputable def tCB (r : List V → Hp → VK → Prop) (t : TA) : TE := fun σ H Q => t σ H fun vs H1 => r vs H1 Q
theorem pe_callB (hc : CallR X (.builtin id) r) (hg : Gl X x) (hm : X.mg x = none) (hv : bootBuiltins x = some (.builtin id)) (ha : PA X (e :: es) t) (hn : x ≠ "__name__" := by decide) (hdb : (x == ("__debug__" : Str)) = false := by decide)
    (he : starEach (e :: es) X.env = (false, eval e X.env) :: starEach es X.env := by rfl) (hpl : (backTo pos (starEach es X.env)).any (·.1) = false := by rfl) : PE X (.Call (.Name x p) (e :: es) [] pos) (tCB r t) := by
  intro pins s σ H Q I h
  refine wpAny_Call_Name_kw (ld_blt I hg hm hv ?_ hn hdb)
  exact PyProof.Rows.callWith_builtin1 (thn (ha pos pins s σ H _ I h) fun us s1 ⟨vs, H1, I1, r1, q1⟩ => hc pins s1 σ H1 vs us Q I1 r1 q1) he hpl
theorem pe_callTy (hc : CallR X (.type T) r) (hg : Gl X x) (hm : X.mg x = none) (hv : bootBuiltins x = some (.type T)) (ha : PA X (e :: es) t) (hn : x ≠ "__name__" := by decide) (hdb : (x == ("__debug__" : Str)) = false := by decide)
    (he : starEach (e :: es) X.env = (false, eval e X.env) :: starEach es X.env := by rfl) (hpl : (backTo pos (starEach es X.env)).any (·.1) = false := by rfl) : PE X (.Call (.Name x p) (e :: es) [] pos) (tCB r t) := by
  intro pins s σ H Q I h
  refine wpAny_Call_Name_kw (ld_blt I hg hm hv ?_ hn hdb)
  exact PyProof.Rows.callWith_type1 (thn (ha pos pins s σ H _ I h) fun us s1 ⟨vs, H1, I1, r1, q1⟩ => hc pins s1 σ H1 vs us Q I1 r1 q1) he hpl
end
end L2
namespace L2
open PySem PySem.Spec PyProof.Rows
section
variable {κ : Type} [DecidableEq κ]
noncomputable def valV (kvs : List (κ × V)) (k : κ) : Option V := (kvs.find? fun kv => decide (kv.1 = k)).map (·.2)
theorem valV_pos {p : κ × V} {r : List (κ × V)} {k : κ} (e : p.1 = k) : valV (p :: r) k = some p.2 := by simp [valV, List.find?_cons, e]
theorem valV_neg {p : κ × V} {r : List (κ × V)} {k : κ} (e : ¬ p.1 = k) : valV (p :: r) k = valV r k := by simp [valV, List.find?_cons, e]
theorem KV.val {kvs : List (κ × V)} {vs : List (κ × Value)} (r : KV kvs vs) (k : κ) : RelO (valV kvs k) (valueAt vs k) := by
  unfold KV at r
  induction r with
  | nil => exact True.intro
  | @cons p q ps qs h t ih =>
    obtain ⟨h1, h2⟩ := h
    by_cases e : p.1 = k
    · have e' : q.1 = k := h1.symm.trans e
      have b : valueAt (q :: qs) k = some q.2 := by simp [valueAt, List.find?_cons, e']
      rw [valV_pos e, b]; exact h2
    · have e' : ¬ q.1 = k := fun z => e (h1.trans z)
      have b : valueAt (q :: qs) k = valueAt qs k := by simp [valueAt, List.find?_cons, e']
      rw [valV_neg e, b]; exact ih
theorem KV.length {kvs : List (κ × V)} {vs : List (κ × Value)} (r : KV kvs vs) : kvs.length = vs.length := Paired.length r
end
theorem kV_is {P : Program} {w : World} {k : Key} {u : Value} (r : RelV (kV k) u) : (mixKind P w).is k u = true := by
  cases k with
  | inl i => obtain ⟨t, e⟩ := (show ∃ t, u = Value.int i t from r); subst e; exact mixKind_int P w i t
  | inr x => obtain ⟨t, e⟩ := (show ∃ t, u = Value.str x t from r); subst e; exact mixKind_str P w x t
noncomputable abbrev KT (H : Hp) : List (List Key × V) → List (List Key × Addr × Value) → Prop := Paired fun p q => p.1 = q.1 ∧ H q.2.1 = some (.tup (p.1.map kV)) ∧ RelV p.2 q.2.2
theorem KT.val {H : Hp} {kvs : List (List Key × V)} {xs : List (List Key × Addr × Value)} (r : KT H kvs xs) (k : List Key) : RelO (valV kvs k) ((atKey xs k).map (·.2)) := by
  induction r with
  | nil => exact True.intro
  | @cons p q ps qs h t ih =>
    obtain ⟨h1, _, h2⟩ := h
    by_cases e : p.1 = k
    · have e' : q.1 = k := h1.symm.trans e
      have b : atKey (q :: qs) k = some q.2 := by simp [atKey, List.find?_cons, e']
      rw [valV_pos e, b]; exact h2
    · have e' : ¬ q.1 = k := fun z => e (h1.trans z)
      have b : atKey (q :: qs) k = atKey qs k := by simp [atKey, List.find?_cons, e']
      rw [valV_neg e, b]; exact ih
section
variable {P : Program} {w : World} {H : Hp} {h : Heap} {a : Addr}
end
section
variable {X : Cx} {pins : List (Addr × Obj)} {σ : St} {H : Hp} {s : Shared} {a : Addr} {y v : V} {u r : Value} {o : Option V} {A : Around} {E : Value → Shared → Prop}
end
section
variable {X : Cx} {pins : List (Addr × Obj)} {σ : St} {H : Hp} {s : Shared} {a : Addr} {kvs : List (Key × V)} {k : Key} {u : Value} {A : Around} {E : Value → Shared → Prop}
end
noncomputable def NoSl (i : Expr) : Prop := ∀ ov iv, subscripted i false ov iv = operate [ov, iv] (getItem ov iv)
theorem subD_of {prog : Program} {w : World} {A : Around} {E : Value → Shared → Prop} {s : Shared} {env : Env} {value slice : Expr} {pos : Pos} {T id : String} {Q : Value → Shared → Prop}
    (hl : typeLookup (.type T) "__getitem__" = pure (some (.builtin id))) (hs : NoSl slice)
    (h : wpAny (model prog w) A (eval value env) (fun o s₁ => wpAny (model prog w) A (eval slice env) (fun i s₂ => s₂.TypeIs o T ∧ wpAny (model prog w) A (getItem o i) Q E s₂) E s₁) E s) :
    wpAny (model prog w) A (eval (.Subscript value slice pos) env) Q E s := by
  refine Subscript_ (wpAny_mono h (fun o s₁ h₁ => wpAny_mono h₁ (fun i s₂ h₂ => ?_) fun _ _ x => x) fun _ _ x => x)
  obtain ⟨hT, h₂⟩ := h₂
  unfold subscriptTail
  refine wpAny_bind ?_
  rw [getitemInPython_of_ne hT.not_modules]
  refine wpAny_bind (wpAny_specialOf hT hl ?_)
  have fin : wpAny (model prog w) A (subscripted slice false o i) (fun r s₃ => wpAny (model prog w) A (letTemporaryGo value o r >>= fun _ => pure r) Q E s₃) E s₂ := by
    rw [hs o i]
    exact wpAny_operating (wpAny_mono h₂ (fun r s₃ h₃ => wpAny_bind (wpAny_letTemporaryGo (wpAny_pure h₃))) fun _ _ x => x)
  first
    | exact wpAny_pure (wpAny_bind fin)
    | exact wpAny_bind (wpAny_pure (wpAny_bind fin))
    | exact wpAny_bind fin
section
variable {X : Cx} {o i e value : Expr} {pos pos' tpos : Pos} {td ty tv : TE}
end
section
variable {X : Cx} {pos : Pos}
end
section
variable {X : Cx} {pins : List (Addr × Obj)} {σ : St} {H : Hp} {s : Shared} {a : Addr} {y d : V} {u r : Value} {o : Option V} {A : Around} {E : Value → Shared → Prop}
end
section
variable {X : Cx} {o e f : Expr} {apos cpos : Pos} {td ty tx : TE}
end
section
variable {X : Cx} {pins : List (Addr × Obj)} {σ : St} {H : Hp} {s : Shared} {a : Addr} {kvs : List (Key × V)} {A : Around} {E : Value → Shared → Prop}
end
section
variable {X : Cx} {pins : List (Addr × Obj)} {σ : St} {H : Hp} {s : Shared} {a : Addr} {y : V} {u : Value} {A : Around} {E : Value → Shared → Prop}
end
end L2
namespace HT
open PySem PyProof.Rows
noncomputable def lexLt : List Int → List Int → Bool
  | [], [] => false
  | [], _ :: _ => true
  | _ :: _, [] => false
  | x :: xs, y :: ys => if x = y then lexLt xs ys else decide (x < y)
section
open PySem.SeqAt
open PySem.AutoSeq1 (wpAny_loadPart')
open PySem.MeetsSeq PySem.MeetsSeq2 PySem.MeetsSeq3
end
section
variable {prog : Program} {w : World} {A : Around} {E : Value → Shared → Prop} {s : Shared}
theorem cat_tup {t b : Addr} {vs ws : List Value} {Q : Value → Shared → Prop} (ht : IsTup s.heap t vs.toArray) (hb : IsTup s.heap b ws.toArray) (hv : vs ≠ [])
    (h1 : ws = [] → Q (.ref t) s) (h2 : ws ≠ [] → Q (.ref s.heap.objs.size) { s with heap := s.heap.push { cls := .type "tuple", data := .seq (vs ++ ws).toArray } })
    (hsz : vs.length + ws.length ≤ sizeLine) : wpAny (model prog w) A (binaryOp .Add (.ref t) (.ref b)) Q E s := by
  obtain ⟨⟨cls, dd, data, sl⟩, ho, hc, n, hd⟩ := id ht
  obtain ⟨⟨cls2, dd2, data2, sl2⟩, ho2, hc2, n2, hd2⟩ := id hb
  simp only at hc hd hc2 hd2
  subst hc hd hc2 hd2
  have e : vs.toArray ++ ws.toArray = (vs ++ ws).toArray := by simp
  by_cases hw : ws = []
  · exact concat_meets ⟨_, ho, rfl⟩ ⟨_, ho2, rfl⟩ noFill_tuple_add seq_tuple_add PySem.F.slot_tuple_add PySem.F.entry_tuple_add (PySem.F.args_tuple_add_2 _ _)
      (tuple_addW1 t b vs.toArray ws.toArray n n2 dd dd2 sl sl2 (by simpa using hv) (by simp [hw])) ⟨ho, ho2, h1 hw⟩
  · refine concat_meets ⟨_, ho, rfl⟩ ⟨_, ho2, rfl⟩ noFill_tuple_add seq_tuple_add PySem.F.slot_tuple_add PySem.F.entry_tuple_add (PySem.F.args_tuple_add_2 _ _)
      (tuple_addW2 t b vs.toArray ws.toArray n n2 dd dd2 sl sl2 (by simpa using hv) (by simpa using hw) (by rw [List.size_toArray, List.size_toArray]; exact hsz)) ⟨ho, ho2, ?_⟩
    rw [e]
    exact h2 hw
noncomputable def sIx (n d : Nat) : Option Int → Nat
  | none => d
  | some v => if v < 0 then (v + (n : Int)).toNat else min v.toNat n
theorem sIx_nat (n d k : Nat) : sIx n d (some (k : Int)) = min k n := by
  show (if (k : Int) < 0 then ((k : Int) + (n : Int)).toNat else min (k : Int).toNat n) = min k n
  rw [if_neg (by omega), Int.toNat_natCast]
theorem sIx_le (n d : Nat) (hd : d ≤ n) (o : Option Int) : sIx n d o ≤ n := by
  cases o with
  | none => exact hd
  | some v =>
    show (if v < 0 then (v + (n : Int)).toNat else min v.toNat n) ≤ n
    by_cases hv : v < 0
    · rw [if_pos hv]; omega
    · rw [if_neg hv]; exact Nat.min_le_right _ _
theorem clip_eq (v : Int) (n d : Nat) : (if v < 0 then max (v + (n : Int)) 0 else min v (n : Int)) = ((sIx n d (some v) : Nat) : Int) := by
  show (if v < 0 then max (v + (n : Int)) 0 else min v (n : Int)) = (((if v < 0 then (v + (n : Int)).toNat else min v.toNat n) : Nat) : Int)
  by_cases hv : v < 0
  · simp only [if_pos hv]; omega
  · simp only [if_neg hv]; omega
theorem adjust_gen (lo hi : Option Int) (n : Nat) : Builtin.Slice.sliceAdjust lo hi 1 (n : Int) = (((sIx n 0 lo : Nat) : Int), ((sIx n n hi : Nat) : Int)) := by
  have h1 : ¬ ((1 : Int) < 0) := by omega
  unfold Builtin.Slice.sliceAdjust
  simp only [h1, if_false]
  refine Prod.ext ?_ ?_
  · cases lo with
    | none => rfl
    | some v => exact clip_eq v n 0
  · cases hi with
    | none => rfl
    | some v => exact clip_eq v n n
theorem places_gen (i j : Nat) : Builtin.Slice.slicePlaces (i : Int) (j : Int) 1 = j - i := by
  unfold Builtin.Slice.slicePlaces
  have h1 : (1 : Int) > 0 := by omega
  simp only [h1, if_true, Int.ediv_one]
  split <;> omega
theorem slicePart_ {v : Value} {o : Option Int} {Q : Option Int → Shared → Prop} (p : IsPart v o) (h : Q o s) : wpAny (model prog w) A (Builtin.Slice.slicePartIndex v) Q E s := by
  cases p with
  | none => exact slicePart_none h
  | int i t => exact slicePart_int h
theorem sliceApplied_gen {sl : Addr} {vl vu : Value} {lo hi : Option Int} {n : Nat} {Q : Int × Int × Nat → Shared → Prop} (hs : s.heap.IsSliceOf sl vl vu .none) (pl : IsPart vl lo) (pu : IsPart vu hi)
    (h : Q (((sIx n 0 lo : Nat) : Int), 1, sIx n n hi - sIx n 0 lo) s) : wpAny (model prog w) A (Builtin.Slice.sliceApplied (.ref sl) (pure (n : Int))) Q E s := by
  obtain ⟨os, hos, hcs, hds⟩ := id hs
  unfold Builtin.Slice.sliceApplied Builtin.Slice.sliceFields
  refine wpAny_bind (wpAny_bind (wpAny_field hos hds (x := vl) rfl (wpAny_bind (wpAny_field hos hds (x := vu) rfl (wpAny_bind (wpAny_field hos hds (x := .none) rfl (wpAny_pure ?_)))))))
  refine wpAny_bind (slicePart_none ?_)
  show wpAny _ _ (if ((1 : Int) == 0) = true then _ else _) _ _ s
  rw [if_neg (by decide)]
  refine wpAny_bind (slicePart_ pl (wpAny_bind (slicePart_ pu (wpAny_bind (wpAny_pure ?_)))))
  show wpAny _ _ (match Builtin.Slice.sliceAdjust lo hi 1 (n : Int) with | (lo, hi) => pure (lo, (1 : Int), Builtin.Slice.slicePlaces lo hi 1)) _ _ s
  rw [adjust_gen lo hi n]
  show wpAny _ _ (pure (((sIx n 0 lo : Nat) : Int), (1 : Int), Builtin.Slice.slicePlaces ((sIx n 0 lo : Nat) : Int) ((sIx n n hi : Nat) : Int) 1)) _ _ s
  rw [places_gen]
  exact wpAny_pure h
theorem pick_gen (xs : Array Value) (i k : Nat) : ((List.range k).filterMap fun (m : Nat) => xs[((i : Int) + (m : Int) * 1).toNat]?).toArray = ((xs.toList.drop i).take k).toArray := by
  have e : (fun (m : Nat) => xs[((i : Int) + (m : Int) * 1).toNat]?) = fun m => xs[i + m]? := by
    funext m
    have : ((i : Int) + (m : Int) * 1).toNat = i + m := by omega
    rw [this]
  rw [e]
  have := pick_run xs i k
  rw [List.filterMap_map] at this
  have e2 : ((fun x => xs[x]?) ∘ fun x => i + x) = fun m => xs[i + m]? := rfl
  rw [e2] at this
  rw [this]
theorem getItem_tuple_cut {t sl : Addr} {items : Array Value} {vl vu : Value} {lo hi : Option Int} {Q : Value → Shared → Prop} (ht : IsTup s.heap t items) (hs : s.heap.IsSliceOf sl vl vu .none) (pl : IsPart vl lo) (pu : IsPart vu hi)
    (hw : ¬ (sIx items.size 0 lo = 0 ∧ sIx items.size items.size hi = items.size))
    (h : Q (.ref s.heap.objs.size) { s with heap := s.heap.push { cls := .type "tuple", data := .seq ((items.toList.drop (sIx items.size 0 lo)).take (sIx items.size items.size hi - sIx items.size 0 lo)).toArray } })
    (hsz : items.size ≤ sizeLine) : wpAny (model prog w) A (getItem (.ref t) (.ref sl)) Q E s := by
  have htake : sizeOk (.seq ((items.toList.drop (sIx items.size 0 lo)).take (sIx items.size items.size hi - sIx items.size 0 lo)).toArray) := by
    show ((items.toList.drop (sIx items.size 0 lo)).take (sIx items.size items.size hi - sIx items.size 0 lo)).toArray.size ≤ sizeLine
    rw [List.size_toArray, List.length_take, List.length_drop, Array.length_toList]
    omega
  have hj : sIx items.size items.size hi ≤ items.size := sIx_le _ _ (Nat.le_refl _) hi
  obtain ⟨os, hos, hcs, hds⟩ := id hs
  have hTs : s.TypeIs (.ref sl) "slice" := ⟨os, hos, hcs⟩
  unfold getItem
  try with_reducible refine wpAny_holding ?_
  first | refine wpAny_bind (wpAny_pure ?_) | skip
  refine wpAny_bind (wpAny_sequenceKey ht.typeIs (by decide) ?_)
  refine wpAny_bind (wpAny_callSpecial?_slot (name := Str.ofString "__getitem__") ht.typeIs PyProof.Rows.slot_tuple_getitem
    (wpAny_call_entry PyProof.Rows.slot_tuple_getitem ht.typeIs entry_tuple_getitem ?_ (args_tuple_getitem _ _)))
  show wpAny _ _ (Builtin.Tuple.tupleItemsOf (.ref t) >>= _) _ _ s
  refine wpAny_bind (tupleItemsOf_ ht ?_)
  refine wpAny_bind (wpAny_typeOf hTs ?_)
  rw [if_pos (by decide)]
  refine wpAny_bind (sliceApplied_gen hs pl pu ?_)
  have hno : ¬ ((((sIx items.size 0 lo : Nat) : Int) == 0 && (1 : Int) == 1 && (sIx items.size items.size hi - sIx items.size 0 lo) == items.size) = true) := by
    intro q
    rw [Bool.and_eq_true, Bool.and_eq_true] at q
    have q1 : ((sIx items.size 0 lo : Nat) : Int) = 0 := eq_of_beq q.1.1
    have q2 : sIx items.size items.size hi - sIx items.size 0 lo = items.size := eq_of_beq q.2
    exact hw ⟨by omega, by omega⟩
  show wpAny _ _ (if (((sIx items.size 0 lo : Nat) : Int) == 0 && (1 : Int) == 1 && (sIx items.size items.size hi - sIx items.size 0 lo) == items.size) = true then _ else _) _ _ s
  rw [if_neg hno, pick_gen]
  first
    | exact wpAny_bind (m := Builtin.Tuple.tupleExact _) (wpAny_newObj_type (wpAny_pure ⟨_, rfl, wpAny_pure h⟩) htake)
    | exact wpAny_bind (m := Builtin.Tuple.tupleExact _) (wpAny_newObj_type (wpAny_bind (wpAny_pure (wpAny_pure ⟨_, rfl, wpAny_pure h⟩))) htake)
    | exact wpAny_bind (wpAny_bind (m := Builtin.Tuple.tupleExact _) (wpAny_newObj_type (wpAny_pure (wpAny_pure ⟨_, rfl, wpAny_pure h⟩)) htake))
    | exact wpAny_bind (wpAny_bind (m := Builtin.Tuple.tupleExact _) (wpAny_newObj_type (wpAny_pure ⟨_, rfl, wpAny_pure h⟩) htake))
end
end HT
namespace L2
open PySem PySem.Spec PyProof.Rows
noncomputable abbrev TO := St → Hp → (Option Int → Hp → Prop) → Prop
noncomputable def PO (X : Cx) (e : Option Expr) (t : TO) : Prop :=
  ∀ (pins : List (Addr × Obj)) (s : Shared) (σ : St) (H : Hp) (Q : Option Int → Hp → Prop), Inv X pins σ H s → t σ H Q →
    wpAny (model X.prog X.w) X.A (evalPart e X.env) (fun u s' => ∃ o H', Inv X pins σ H' s' ∧ IsPart u o ∧ Q o H') X.xe s
noncomputable def tNoPart : TO := fun _ H Q => Q none H
noncomputable def tPart (t : TE) : TO := fun σ H Q => t σ H fun x H1 => ∃ i, x = .int i ∧ Q (some i) H1
section
variable {X : Cx} {e : Expr} {te : TE} {lo hi : Option Expr} {tl th : TO} {pos p2 : Pos}
theorem po_none : PO X none tNoPart := by
  intro pins s σ H Q I h
  rw [evalPart_none]
  exact wpAny_pure ⟨none, H, I, .none, h⟩
theorem po_some (h : PE X e te) : PO X (some e) (tPart te) := by
  intro pins s σ H Q I hw
  rw [evalPart_some]
  refine thn (h pins s σ H _ I hw) fun u s1 ⟨x, H1, I1, r1, q1⟩ => ?_
  obtain ⟨i, rfl, q⟩ := q1
  obtain ⟨t, rfl⟩ := r1
  exact ⟨some i, H1, I1, .int i t, q⟩
noncomputable def SlR (X : Cx) (r : V → Option Int → Option Int → Hp → VK → Prop) : Prop :=
  ∀ (pins : List (Addr × Obj)) (s : Shared) (σ : St) (H : Hp) (x : V) (v vl vu : Value) (lo hi : Option Int) (sl : Addr) (Q : VK), Inv X pins σ H s → RelV x v → s.heap.IsSliceOf sl vl vu .none → IsPart vl lo → IsPart vu hi → r x lo hi H Q →
    ∃ T id, typeLookup (.type T) "__getitem__" = pure (some (.builtin id)) ∧ s.TypeIs v T ∧ wpAny (model X.prog X.w) X.A (getItem v (.ref sl)) (EP X pins σ Q) X.xe s
theorem SlR.or {r r' : V → Option Int → Option Int → Hp → VK → Prop} (h : SlR X r) (h' : SlR X r') : SlR X (fun x lo hi H Q => r x lo hi H Q ∨ r' x lo hi H Q) := by
  intro pins s σ H x v vl vu lo hi sl Q I rx hs pl pu q
  rcases q with q | q
  · exact h pins s σ H x v vl vu lo hi sl Q I rx hs pl pu q
  · exact h' pins s σ H x v vl vu lo hi sl Q I rx hs pl pu q
noncomputable def tSl (r : V → Option Int → Option Int → Hp → VK → Prop) (te : TE) (tl th : TO) : TE := fun σ H Q => te σ H fun x H1 => tl σ H1 fun l H2 => th σ H2 fun u H3 => r x l u H3 Q
theorem pe_slice {r : V → Option Int → Option Int → Hp → VK → Prop} (hr : SlR X r) (he : PE X e te) (hl : PO X lo tl) (hu : PO X hi th) : PE X (.Subscript e (.Slice lo hi none p2) pos) (tSl r te tl th) := by
  intro pins s σ H Q I h
  refine Subscript_ (thn (he pins s σ H _ I h) fun v s1 ⟨x, H1, I1, r1, q1⟩ => ?_)
  refine wpAny_Slice (thn (hl pins s1 σ H1 _ I1 q1) fun vl s2 ⟨l, H2, I2, pl, q2⟩ => thn (hu pins s2 σ H2 _ I2 q2) fun vu s3 ⟨u, H3, I3, pu, q3⟩ => ?_)
  rw [evalPart_none]
  refine wpAny_pure ?_
  have I4 : Inv X pins σ H3 { s3 with heap := s3.heap.push { cls := .type "slice", data := .fields #[vl, vu, .none] } } := I3.kept (t' := s3.toks) fun b ob q => Heap.get?_push_of_some _ q
  obtain ⟨T, id, hT, ht, hg⟩ := hr pins { s3 with heap := s3.heap.push { cls := .type "slice", data := .fields #[vl, vu, .none] } } σ H3 x v vl vu l u s3.heap.objs.size Q I4 r1 (Heap.IsSliceOf.new ..) pl pu q3
  show wpAny (model X.prog X.w) X.A (subscriptTail e (.Slice lo hi none p2) v (.ref s3.heap.objs.size)) (EP X pins σ Q) X.xe { s3 with heap := s3.heap.push { cls := .type "slice", data := .fields #[vl, vu, .none] } }
  exact tail_any (ops := [.ref s3.heap.objs.size, v]) ht hT hg (by with_unfolding_all rfl)
noncomputable def cutV (xs : List V) (lo hi : Option Int) : List V := (xs.drop (HT.sIx xs.length 0 lo)).take (HT.sIx xs.length xs.length hi - HT.sIx xs.length 0 lo)
theorem cutV_length (xs : List V) (lo hi : Option Int) : (cutV xs lo hi).length ≤ xs.length := by
  unfold cutV
  rw [List.length_take, List.length_drop]
  omega
noncomputable def rSlT (K : PySem.W.Frag) : V → Option Int → Option Int → Hp → VK → Prop := fun x lo hi H Q => ∃ a xs, x = .ref a ∧ SqT K H a xs ∧
  ¬ (HT.sIx xs.length 0 lo = 0 ∧ HT.sIx xs.length xs.length hi = xs.length) ∧ ∀ p, H p = none → Q (.ref p) (upd H p (.tup (cutV xs lo hi)))
theorem sl_tup : SlR X (rSlT X.K) := by
  intro pins s σ H x v vl vu lo hi sl Q I rx hs pl pu h
  obtain ⟨a, xs, rfl, hx, hw, q⟩ := h
  cases rx
  obtain ⟨its, r, ht, hz⟩ := I.tuple hx
  have hlen : its.toArray.size = xs.length := by rw [List.size_toArray]; exact r.length.symm
  refine ⟨"tuple", _, PyProof.Rows.slot_tuple_getitem.lookup, ht.typeIs, ?_⟩
  refine HT.getItem_tuple_cut ht hs pl pu (by rw [hlen]; exact hw) ?_ (by rw [hlen]; exact hz)
  rw [hlen]
  refine ⟨.ref s.heap.objs.size, _, I.laid (t' := s.toks) (o := .tup (cutV xs lo hi)) (fun b ob q => Heap.get?_push_of_some _ q) (Nat.le_refl _) ?_, rfl, q _ (I.hok.fresh (Nat.le_refl _))⟩
  exact ⟨Nat.le_trans (cutV_length xs lo hi) hz, _, (r.drop (HT.sIx xs.length 0 lo)).take (HT.sIx xs.length xs.length hi - HT.sIx xs.length 0 lo), IsTup.new _ _⟩
noncomputable def rCatT (K : PySem.W.Frag) : R2 := fun x y H Q => ∃ a b xs ys, x = .ref a ∧ y = .ref b ∧ SqT K H a xs ∧ SqT K H b ys ∧ xs ≠ [] ∧ xs.length + ys.length ≤ sizeLine ∧
  (ys = [] → Q (.ref a) H) ∧ (ys ≠ [] → ∀ p, H p = none → Q (.ref p) (upd H p (.tup (xs ++ ys))))
theorem Vals.nil_iff {xs : List V} {us : List Value} (r : Vals xs us) : us = [] ↔ xs = [] := by
  cases r with
  | nil => simp
  | cons _ _ => simp
theorem op_catT : OpR X (binaryOp .Add) (rCatT X.K) := by
  intro pins s σ H x y v u Q I rx ry h
  obtain ⟨a, b, xs, ys, rfl, rfl, ha, hb, hx, hz, q1, q2⟩ := h
  cases rx
  cases ry
  obtain ⟨its, r1, p1, _⟩ := I.tuple ha
  obtain ⟨its2, r2, p2, _⟩ := I.tuple hb
  refine HT.cat_tup p1 p2 (fun z => hx (r1.nil_iff.mp z)) (fun z => ⟨.ref a, H, I, rfl, q1 (r2.nil_iff.mp z)⟩) (fun z => ?_) (by rw [← r1.length, ← r2.length]; exact hz)
  refine ⟨.ref s.heap.objs.size, _, I.laid (t' := s.toks) (o := .tup (xs ++ ys)) (fun b ob q => Heap.get?_push_of_some _ q) (Nat.le_refl _) ?_, rfl, q2 (fun w => z (r2.nil_iff.mpr w)) _ (I.hok.fresh (Nat.le_refl _))⟩
  exact ⟨by rw [List.length_append]; exact hz, _, r1.append r2, IsTup.new _ _⟩
end
end L2
namespace L2
open PySem PySem.Spec PyProof.Rows
noncomputable def ixN (n : Nat) (i : Int) : Option Nat := if 0 ≤ i then (if i < n then some i.toNat else none) else if -(n : Int) ≤ i then some (i + n).toNat else none
noncomputable def atI {α : Type} (xs : List α) (i : Int) : Option α := (ixN xs.length i).bind fun j => xs[j]?
theorem ixN_seq {n : Nat} {i : Int} {j : Nat} (h : ixN n i = some j) : seqIndex? i n = some j ∧ j < n ∧ -(n : Int) ≤ i ∧ i < n := by
  unfold ixN at h
  by_cases h0 : 0 ≤ i
  · rw [if_pos h0] at h
    by_cases h1 : i < n
    · rw [if_pos h1] at h
      have e : i.toNat = j := Option.some.inj h
      exact ⟨by rw [seqIndex_of h0 h1, e], by omega, by omega, h1⟩
    · rw [if_neg h1] at h; cases h
  · rw [if_neg h0] at h
    by_cases h1 : -(n : Int) ≤ i
    · rw [if_pos h1] at h
      have e : (i + n).toNat = j := Option.some.inj h
      exact ⟨by rw [seqIndex_neg (by omega) h1, e], by omega, h1, by omega⟩
    · rw [if_neg h1] at h; cases h
theorem atI_get {α : Type} {xs : List α} {i : Int} {v : α} (h : atI xs i = some v) : ∃ j, seqIndex? i xs.length = some j ∧ xs[j]? = some v ∧ j < xs.length ∧ -(xs.length : Int) ≤ i ∧ i < xs.length := by
  unfold atI at h
  cases e : ixN xs.length i with
  | none => rw [e] at h; cases h
  | some j =>
    rw [e] at h
    obtain ⟨h1, h2, h3, h4⟩ := ixN_seq e
    exact ⟨j, h1, h, h2, h3, h4⟩
noncomputable def PlainIx (b : Expr) : Prop := ∀ o i, subscripted b false o i = operate [o, i] (getItem o i)
noncomputable def IxR (X : Cx) (r : R2) : Prop :=
  ∀ (value slice : Expr) (pins : List (Addr × Obj)) (s : Shared) (σ : St) (H : Hp) (x y : V) (v u : Value) (Q : VK), Inv X pins σ H s → RelV x v → RelV y u → r x y H Q →
    subscripted slice false v u = operate [v, u] (getItem v u) → wpAny (model X.prog X.w) X.A (subscriptTail value slice v u) (EP X pins σ Q) X.xe s
noncomputable def MtR (X : Cx) (id : String) (r : V → List V → Hp → VK → Prop) : Prop :=
  ∀ (pins : List (Addr × Obj)) (s : Shared) (σ : St) (H : Hp) (x : V) (xs : List V) (v : Value) (us : List Value) (Q : VK), Inv X pins σ H s → RelV x v → Vals xs us → r x xs H Q →
    wpAny (model X.prog X.w) X.A (call (.builtin id) (v :: us)) (EP X pins σ Q) X.xe s
section
variable {X : Cx} {a b : Expr} {ta tb : TE} {pos : Pos}
theorem IxR.or {r r' : R2} (h : IxR X r) (h' : IxR X r') : IxR X (fun x y H Q => r x y H Q ∨ r' x y H Q) := by
  intro value slice pins s σ H x y v u Q I rx ry q hs
  rcases q with q | q
  · exact h value slice pins s σ H x y v u Q I rx ry q hs
  · exact h' value slice pins s σ H x y v u Q I rx ry q hs
theorem pe_ix {r : R2} (hr : IxR X r) (ha : PE X a ta) (hb : PE X b tb) (hs : PlainIx b) : PE X (.Subscript a b pos) (tOp r ta tb) := by
  intro pins s σ H Q I h
  exact Subscript_ (binT ha hb I h fun v u s2 x y H2 I2 rx ry q => hr a b pins s2 σ H2 x y v u Q I2 rx ry q (hs _ _))
noncomputable def rIxL (K : PySem.W.Frag) : R2 := fun x y H Q => ∃ p xs i v, x = .ref p ∧ y = .int i ∧ SqL K H p xs ∧ atI xs i = some v ∧ Q v H
noncomputable def rIxT (K : PySem.W.Frag) : R2 := fun x y H Q => ∃ p xs i v, x = .ref p ∧ y = .int i ∧ SqT K H p xs ∧ atI xs i = some v ∧ Q v H
noncomputable def rIxS : R2 := fun x y H Q => ∃ z i c, x = .str z ∧ y = .int i ∧ z.length ≤ sizeLine ∧ atI z.cps.toList i = some c ∧ Q (.str ⟨#[c]⟩) H
theorem ix_list : IxR X (rIxL X.K) := by
  intro value slice pins s σ H x y v u Q I rx ry h hs
  obtain ⟨p, xs, i, z, rfl, rfl, hq, he, q⟩ := h
  cases rx
  obtain ⟨t, rfl⟩ := ry
  obtain ⟨its, r, pl, hz⟩ := I.list hq
  obtain ⟨j, h1, h2, h3, h4, h5⟩ := atI_get he
  obtain ⟨w, ew, rw'⟩ := r.get h2
  have hl := r.length
  have hn := line63
  have fin : EP X pins σ Q w s := ⟨z, H, I, rw', q⟩
  by_cases h0 : 0 ≤ i
  · have hj : i.toNat = j := by
      rw [seqIndex_of h0 h5] at h1
      exact Option.some.inj h1
    exact item_listR pl.isList h0 (by omega) (by rw [hj]; simpa using ew) fin hs
  · have hj : (i + (its.toArray.size : Int)).toNat = j := by
      rw [seqIndex_neg (by omega) h4] at h1
      rw [List.size_toArray, ← hl]
      exact Option.some.inj h1
    exact subscriptTail_builtinR (x := w) pl.isList.typeIs slot_list_getitem.lookup
      (wpAny_getItem_list_neg (Q := fun r s' => r = w ∧ EP X pins σ Q r s') pl.isList (by omega) (by rw [List.size_toArray] <;> omega) (by omega) (by rw [hj]; simpa using ew) ⟨rfl, fin⟩) hs
theorem ix_tup : IxR X (rIxT X.K) := by
  intro value slice pins s σ H x y v u Q I rx ry h hs
  obtain ⟨p, xs, i, z, rfl, rfl, hq, he, q⟩ := h
  cases rx
  obtain ⟨t, rfl⟩ := ry
  obtain ⟨its, r, pl, hz⟩ := I.tuple hq
  obtain ⟨j, h1, h2, h3, h4, h5⟩ := atI_get he
  obtain ⟨w, ew, rw'⟩ := r.get h2
  have hl := r.length
  have hn := line63
  have fin : EP X pins σ Q w s := ⟨z, H, I, rw', q⟩
  exact subscriptTail_builtinR (x := w) pl.typeIs slot_tuple_getitem.lookup
    (getItem_tuple (j := j) (Q := fun r s' => r = w ∧ EP X pins σ Q r s') pl (by omega) (by omega) (by rw [List.size_toArray, ← hl]; exact h1) (by simpa using ew) ⟨rfl, fin⟩) hs
theorem ix_str : IxR X rIxS := by
  intro value slice pins s σ H x y v u Q I rx ry h hs
  obtain ⟨z, i, c, rfl, rfl, hz, he, q⟩ := h
  obtain ⟨t, rfl⟩ := rx
  obtain ⟨t', rfl⟩ := ry
  obtain ⟨j, h1, h2, h3, h4, h5⟩ := atI_get he
  have hl : z.cps.toList.length = z.length := by simp [Str.length]
  rw [hl] at h1 h4 h5
  have hn := line63
  exact tail_any (typeIs_str s z t) slot_str_getitem.lookup (getItem_str (c := c) (by
    have e1 : decide (i < -(2 ^ 63 : Int)) = false := decide_eq_false (by omega)
    have e2 : decide (i ≥ 2 ^ 63) = false := decide_eq_false (by omega)
    rw [e1, e2, Bool.or_false]) (by rw [h1]; simpa using h2) ⟨.str ⟨#[c]⟩, H, I.tok _, ⟨_, rfl⟩, q⟩) hs
noncomputable def rIx (K : PySem.W.Frag) : R2 := fun x y H Q => rIxL K x y H Q ∨ rIxT K x y H Q ∨ rIxS x y H Q
theorem ix_seq : IxR X (rIx X.K) := ix_list.or (ix_tup.or ix_str)
theorem slice_bounds (lo hi : Option Int) (n : Nat) : (sliceBounds lo hi none n).1 = ((HT.sIx n 0 lo : Nat) : Int) ∧ (sliceBounds lo hi none n).2.1 = ((HT.sIx n n hi : Nat) : Int) ∧ (sliceBounds lo hi none n).2.2 = 1 := by
  refine ⟨?_, ?_, rfl⟩
  · cases lo with
    | none => simp [sliceBounds, HT.sIx]
    | some i =>
      simp only [sliceBounds, HT.sIx, Option.getD_none, show (1 : Int) > 0 by decide, if_true]
      by_cases h : i < 0
      · simp only [h, if_true] <;> omega
      · simp only [h, if_false] <;> omega
  · cases hi with
    | none => simp [sliceBounds, HT.sIx]
    | some i =>
      simp only [sliceBounds, HT.sIx, Option.getD_none, show (1 : Int) > 0 by decide, if_true]
      by_cases h : i < 0
      · simp only [h, if_true] <;> omega
      · simp only [h, if_false] <;> omega
theorem slicePick_cut (its : List Value) (lo hi : Option Int) : slicePick its.toArray lo hi none = ((its.drop (HT.sIx its.length 0 lo)).take (HT.sIx its.length its.length hi - HT.sIx its.length 0 lo)).toArray := by
  obtain ⟨h1, h2, h3⟩ := slice_bounds lo hi its.toArray.size
  unfold slicePick
  rw [h1, h2, h3]
  simp only [sliceRange_one, pick_run, List.size_toArray] <;> rfl
noncomputable def rSlL (K : PySem.W.Frag) : V → Option Int → Option Int → Hp → VK → Prop := fun x lo hi H Q => ∃ a xs, x = .ref a ∧ SqL K H a xs ∧ ∀ p, H p = none → Q (.ref p) (upd H p (.lst (cutV xs lo hi)))
theorem sl_list : SlR X (rSlL X.K) := by
  intro pins s σ H x v vl vu lo hi sl Q I rx hs pl pu h
  obtain ⟨a, xs, rfl, hx, q⟩ := h
  cases rx
  obtain ⟨its, r, ht, hz⟩ := I.list hx
  have hlen := r.length
  refine ⟨"list", _, slot_list_getitem.lookup, ht.isList.typeIs, ?_⟩
  refine wpAny_getItem_list_slice ht.isList hs pl pu .none (by simp) ?_ (by rw [List.size_toArray] <;> omega)
  rw [slicePick_cut, ← hlen]
  refine ⟨.ref s.heap.objs.size, _, I.laid (t' := s.toks) (o := .lst (cutV xs lo hi)) (fun b ob q => Heap.get?_push_of_some _ q) (Nat.le_refl _) ?_, rfl, q _ (I.hok.fresh (Nat.le_refl _))⟩
  exact ⟨Nat.le_trans (cutV_length xs lo hi) hz, _, 0, (r.drop (HT.sIx xs.length 0 lo)).take (HT.sIx xs.length xs.length hi - HT.sIx xs.length 0 lo), Heap.get?_push_size _ rfl⟩
noncomputable def flatV : V → Bool
  | .non => true
  | .bl _ => true
  | .int _ => true
  | .str _ => true
  | _ => false
noncomputable def eqV : V → V → Bool
  | .non, .non => true
  | .bl a, .bl b => a == b
  | .bl a, .int b => (if a then 1 else 0) == b
  | .int a, .bl b => a == (if b then 1 else 0)
  | .int a, .int b => a == b
  | .str a, .str b => a == b
  | _, _ => false
theorem eqAt_V {A : Around} {s : Shared} {y x : V} {u v : Value} (ry : RelV y u) (rx : RelV x v) (fy : flatV y = true) (fx : flatV x = true) : SeqAt.EqAt A s u v (eqV y x) := by
  cases y with
  | non =>
    cases ry
    cases x with
    | non => cases rx; exact SeqAt.EqAt.same _
    | bl b => cases rx; exact SeqAt.EqAt.none_bool b
    | int b => obtain ⟨t, rfl⟩ := rx; exact SeqAt.EqAt.none_int b t
    | str b => obtain ⟨t, rfl⟩ := rx; exact SeqAt.EqAt.none_str b t
    | _ => exact absurd (show false = true from fx) Bool.false_ne_true
  | bl a =>
    cases ry
    cases x with
    | non => cases rx; exact SeqAt.EqAt.bool_none a
    | bl b => cases rx; exact SeqAt.EqAt.bool_bool a b
    | int b => obtain ⟨t, rfl⟩ := rx; exact SeqAt.EqAt.bool_int a b t
    | str b => obtain ⟨t, rfl⟩ := rx; exact SeqAt.EqAt.bool_str a b t
    | _ => exact absurd (show false = true from fx) Bool.false_ne_true
  | int a =>
    obtain ⟨t', rfl⟩ := ry
    cases x with
    | non => cases rx; exact SeqAt.EqAt.int_none a t'
    | bl b => cases rx; exact SeqAt.EqAt.int_bool a t' b
    | int b => obtain ⟨t, rfl⟩ := rx; exact SeqAt.EqAt.int_int a t' b t
    | str b => obtain ⟨t, rfl⟩ := rx; exact SeqAt.EqAt.int_str a t' b t
    | _ => exact absurd (show false = true from fx) Bool.false_ne_true
  | str a =>
    obtain ⟨t', rfl⟩ := ry
    cases x with
    | non => cases rx; exact SeqAt.EqAt.str_none a t'
    | bl b => cases rx; exact SeqAt.EqAt.str_bool a t' b
    | int b => obtain ⟨t, rfl⟩ := rx; exact SeqAt.EqAt.str_int a t' b t
    | str b => obtain ⟨t, rfl⟩ := rx; exact SeqAt.EqAt.str_str a t' b t
    | _ => exact absurd (show false = true from fx) Bool.false_ne_true
  | _ => exact absurd (show false = true from fy) Bool.false_ne_true
noncomputable def eqU (x : V) (u : Value) : Bool := match u with
  | .none => eqV .non x
  | .bool b => eqV (.bl b) x
  | .int i _ => eqV (.int i) x
  | .str z _ => eqV (.str z) x
  | _ => false
theorem eqU_of {x y : V} {u : Value} (r : RelV y u) (f : flatV y = true) : eqU x u = eqV y x := by
  cases y with
  | non => cases r; rfl
  | bl b => cases r; rfl
  | int i => obtain ⟨t, rfl⟩ := r; rfl
  | str z => obtain ⟨t, rfl⟩ := r; rfl
  | _ => exact absurd (show false = true from f) Bool.false_ne_true
theorem any_eqU {x : V} : ∀ {xs : List V} {us : List Value}, Vals xs us → xs.all flatV = true → us.any (eqU x) = xs.any fun y => eqV y x
  | _, _, .nil, _ => rfl
  | y :: xs, u :: us, .cons r t, f => by
    rw [List.all_cons, Bool.and_eq_true] at f
    rw [List.any_cons, List.any_cons, eqU_of r f.1, any_eqU t f.2]
theorem mem_eqAt {A : Around} {s : Shared} {x : V} {v : Value} (rx : RelV x v) (fx : flatV x = true) : ∀ {xs : List V} {us : List Value}, Vals xs us → xs.all flatV = true → ∀ u ∈ us, SeqAt.EqAt A s u v (eqU x u)
  | _, _, .nil, _ => fun u hu => by cases hu
  | y :: xs, u :: us, .cons r t, f => fun u' hu => by
    rw [List.all_cons, Bool.and_eq_true] at f
    rcases List.mem_cons.mp hu with rfl | hu
    · rw [eqU_of r f.1]; exact eqAt_V r rx f.1 fx
    · exact mem_eqAt rx fx t f.2 u' hu
noncomputable def inV (x : V) (xs : List V) : Bool := xs.any fun y => eqV y x
noncomputable def rIn (K : PySem.W.Frag) (neg : Bool) : R2 := fun x y H Q => ∃ p xs, y = .ref p ∧ (SqL K H p xs ∨ SqT K H p xs) ∧ flatV x = true ∧ xs.all flatV = true ∧ Q (.bl (if neg then !inV x xs else inV x xs)) H
theorem op_in_seq : OpR X (compareOp .In) (rIn X.K false) := by
  intro pins s σ H x y v u Q I rx ry h
  obtain ⟨p, xs, rfl, hq, fx, fs, q⟩ := h
  cases ry
  rcases hq with hq | hq
  · obtain ⟨its, r, pl, hz⟩ := I.list hq
    refine SeqAt.in_listAt (eqU x) pl.isList (fun w hw => mem_eqAt rx fx r fs w (by simpa using hw)) ⟨.bl _, H, I, rfl, ?_⟩
    rw [show its.toArray.any (eqU x) = its.any (eqU x) by simp, any_eqU r fs]
    exact q
  · obtain ⟨its, r, pl, hz⟩ := I.tuple hq
    refine SeqAt.in_tupleAt (eqU x) pl (fun w hw => mem_eqAt rx fx r fs w (by simpa using hw)) ⟨.bl _, H, I, rfl, ?_⟩
    rw [show its.toArray.any (eqU x) = its.any (eqU x) by simp, any_eqU r fs]
    exact q
theorem call_tuple_of : CallR X (.type "tuple") (fun xs H Q => ∃ p ys, xs = [.ref p] ∧ ((SqL X.K H p ys ∧ ∀ l, H l = none → Q (.ref l) (upd H l (.tup ys))) ∨ (SqT X.K H p ys ∧ Q (.ref p) H))) := by
  intro pins s σ H xs us Q I r h
  obtain ⟨p, ys, rfl, h⟩ := h
  obtain ⟨u, rfl, rx⟩ := vals1 r
  cases rx
  rcases h with ⟨hq, q⟩ | ⟨hq, q⟩
  · obtain ⟨its, r', pl, hz⟩ := I.list hq
    have hlen := r'.length
    refine call_tuple_list pl.isList (fun h' kp => ?_) (by simp only [List.size_toArray] <;> omega)
    have I1 : Inv X pins σ H { s with heap := h' } := I.kept (t' := s.toks) kp
    have I2 : Inv X pins σ (upd H h'.objs.size (.tup ys)) { s with heap := h'.push { cls := .type "tuple", data := .seq its.toArray } } :=
      I1.laid (t' := s.toks) (fun b o e => Heap.get?_push_of_some _ e) (Nat.le_refl _) (show ObjOk X.prog X.w _ _ _ (.tup ys) from ⟨hz, its, r', IsTup.new _ _⟩)
    exact ⟨.ref h'.objs.size, _, I2, rfl, q _ (I1.hok.fresh (Nat.le_refl _))⟩
  · obtain ⟨its, r', pl, hz⟩ := I.tuple hq
    exact call_tuple_same pl ⟨.ref p, H, I, rfl, q⟩
noncomputable def tyV (K : PySem.W.Frag) (T : String) (x : V) (H : Hp) : Prop := match x with
  | .str _ => T = "str"
  | .int _ => T = "int"
  | .ref p => (T = "list" ∧ ∃ xs, SqL K H p xs) ∨ (T = "tuple" ∧ ∃ o, K.lookup p = some o ∧ o.cls = .type "tuple" ∧ o.dict = none) ∨
      (T = "dict" ∧ ((∃ kvs, H p = some (.dK kvs)) ∨ ∃ kvs, H p = some (.dT kvs))) ∨ (T = "set" ∧ ∃ S n, H p = some (.set S n))
  | _ => False
theorem tyV_is {pins : List (Addr × Obj)} {σ : St} {H : Hp} {s : Shared} {T : String} {x : V} {v : Value} (I : Inv X pins σ H s) (r : RelV x v) (ty : tyV X.K T x H) :
    s.TypeIs v T ∧ ∀ a, v = .ref a → ∃ ob, s.heap.get? a = some ob ∧ ob.dict = none := by
  cases x with
  | str z =>
    obtain ⟨t, rfl⟩ := r
    cases (show T = "str" from ty)
    exact ⟨typeIs_str s z t, fun _ e => nomatch e⟩
  | int i =>
    obtain ⟨t, rfl⟩ := r
    cases (show T = "int" from ty)
    exact ⟨typeIs_int s i t, fun _ e => nomatch e⟩
  | ref p =>
    cases r
    rcases ty with ⟨rfl, xs, hq⟩ | ⟨rfl, o, hk, hc, hd⟩ | ⟨rfl, hk⟩ | ⟨rfl, S, n, hk⟩
    · obtain ⟨its, _, pl, _⟩ := I.list hq
      refine ⟨pl.isList.typeIs, fun a e => ?_⟩
      cases e
      obtain ⟨o, n, e, c, hd, _⟩ := pl
      exact ⟨o, e, hd⟩
    · refine ⟨⟨o, I.kIn p o hk, hc⟩, fun a e => ?_⟩
      cases e
      exact ⟨o, I.kIn _ o hk, hd⟩
    · have z : ∃ o, s.heap.get? p = some o ∧ o.ExactDict := by
        rcases hk with ⟨kvs, hk⟩ | ⟨kvs, hk⟩
        · obtain ⟨_, _, _, _, o, _, _, e, ex, _⟩ := I.hok p _ hk
          exact ⟨o, e, ex⟩
        · obtain ⟨_, _, _, _, o, _, _, e, ex, _⟩ := I.hok p _ hk
          exact ⟨o, e, ex⟩
      obtain ⟨o, e, ex⟩ := z
      refine ⟨⟨o, e, ex.1⟩, fun a e2 => ?_⟩
      cases e2
      exact ⟨o, e, ex.2.1⟩
    · obtain ⟨o, _, _, _, e, ex, _⟩ := I.hok p _ hk
      refine ⟨⟨o, e, ex.1⟩, fun a e2 => ?_⟩
      cases e2
      exact ⟨o, e, ex.2.1⟩
  | _ => exact False.elim ty
noncomputable def tBM0 (K : PySem.W.Frag) (T : String) (r : V → List V → Hp → VK → Prop) (to : TE) : TE := fun σ H Q => to σ H fun x H1 => tyV K T x H1 ∧ r x [] H1 Q
noncomputable def tBM (K : PySem.W.Frag) (T : String) (r : V → List V → Hp → VK → Prop) (to : TE) (t : TA) : TE := fun σ H Q => to σ H fun x H1 => tyV K T x H1 ∧ t σ H1 fun xs H2 => r x xs H2 Q
variable {o e : Expr} {es : List Expr} {to : TE} {t : TA} {name : Str} {apos cpos : Pos} {T id : String} {r : V → List V → Hp → VK → Prop}
theorem pe_bm0 (pa : PlainAttrs T) (slot : Slot T name id) (hty : typeOf (.builtin id) = pure (.type "method_descriptor")) (hm : MtR X id r) (ho : PE X o to)
    (hbase : attributeBase o name X.env (eval o X.env) = eval o X.env := by rfl) (hline : (apos.endLine == cpos.line) = true := by rfl) : PE X (.Call (.Attribute o name apos) [] [] cpos) (tBM0 X.K T r to) := by
  intro pins s σ H Q I h
  refine wpAny_Call_method0_late hbase hline (thn (ho pins s σ H _ I h) fun v s1 ⟨x, H1, I1, r1, ty, q1⟩ => ?_)
  obtain ⟨h1, h2⟩ := tyV_is I1 r1 ty
  exact ⟨T, id, pa, slot, hty, h1, h2, Calls.callWith_builtin rfl (PySem.evalArgs_none (hm pins s1 σ H1 x [] v [] Q I1 r1 .nil q1))⟩
theorem pe_bm (pa : PlainAttrs T) (slot : Slot T name id) (hty : typeOf (.builtin id) = pure (.type "method_descriptor")) (hm : MtR X id r) (ho : PE X o to) (ha : PA X (e :: es) t)
    (hbase : attributeBase o name X.env (eval o X.env) = eval o X.env := by rfl)
    (hfew : ((backTo cpos (starEach (e :: es) X.env)).all (fun x => !x.1) && (backToKw cpos (keywordEach [] X.env)).all (fun x => x.1.isSome)
      && decide ((e :: es).length + ([] : List Keyword).length + (if ([] : List Keyword).isEmpty then 0 else 1) < 30)) = true := by rfl)
    (hline : (apos.endLine == cpos.line) = true := by rfl) (hs : starEach (e :: es) X.env = (false, eval e X.env) :: starEach es X.env := by rfl) (hplain : (backTo cpos (starEach es X.env)).any (·.1) = false := by rfl) :
    PE X (.Call (.Attribute o name apos) (e :: es) [] cpos) (tBM X.K T r to t) := by
  intro pins s σ H Q I h
  refine wpAny_Call_method_late hbase hfew hline rfl (thn (ho pins s σ H _ I h) fun v s1 ⟨x, H1, I1, r1, ty, q1⟩ => ?_)
  obtain ⟨h1, h2⟩ := tyV_is I1 r1 ty
  refine ⟨T, id, pa, slot, hty, h1, h2, ?_⟩
  have hA := ha cpos pins s1 σ H1 _ I1 q1
  rw [hs] at hA ⊢
  refine Calls.callWith_builtin (by show (false || (backTo cpos (starEach es X.env)).any (·.1)) = false; rw [hplain] <;> rfl) (Calls.evalArgs_plain ?_)
  exact thn hA fun us s2 ⟨vs, H2, I2, r2, q2⟩ => hm pins s2 σ H2 x vs v us Q I2 r1 r2 q2
end
end L2
namespace L2
open PySem PySem.Spec PyProof.Rows
noncomputable def MtM (X : Cx) (id : String) (r : V → List V → Hp → VK → Prop) : Prop :=
  ∀ (pins : List (Addr × Obj)) (s : Shared) (σ : St) (H : Hp) (x : V) (xs : List V) (v : Value) (us : List Value) (Q : VK), Inv X pins σ H s → RelV x v → Vals xs us → r x xs H Q →
    wpAny (model X.prog X.w) X.A (call (.builtin id) (v :: us)) (EP X pins σ Q) X.xe s
theorem Vals.one : ∀ {x : V} {us : List Value}, Vals [x] us → ∃ u, us = [u] ∧ RelV x u
  | _, _, .cons r .nil => ⟨_, rfl, r⟩
theorem Vals.zero : ∀ {us : List Value}, Vals [] us → us = []
  | _, .nil => rfl
theorem Vals.dropLast {xs : List V} {us : List Value} (h : Vals xs us) : Vals xs.dropLast us.dropLast := by
  induction h with
  | nil => exact .nil
  | cons r t ih =>
    cases t with
    | nil => exact .nil
    | cons q t' => exact .cons r ih
theorem Vals.rep {xs : List V} {us : List Value} (h : Vals xs us) : ∀ k : Nat, Vals (List.replicate k xs).flatten (List.replicate k us).flatten
  | 0 => .nil
  | k + 1 => by
    rw [List.replicate_succ, List.replicate_succ, List.flatten_cons, List.flatten_cons]
    exact Vals.append h (Vals.rep h k)
theorem erase_last {α : Type} (l : List α) : l.eraseIdx (l.length - 1) = l.dropLast := by
  induction l with
  | nil => rfl
  | cons a r ih =>
    cases r with
    | nil => rfl
    | cons b r =>
      have e : (a :: b :: r).length - 1 = ((b :: r).length - 1) + 1 := by
        have h1 : (a :: b :: r).length = r.length + 2 := rfl
        have h2 : (b :: r).length = r.length + 1 := rfl
        omega
      rw [e, List.eraseIdx_cons_succ, ih]
      all_goals rfl
theorem foldl_rep (its : List Value) : ∀ (k : Nat) (acc : List Value),
    List.foldl (fun x1 x2 => x1 ++ x2) acc.toArray (List.replicate k its.toArray) = (acc ++ (List.replicate k its).flatten).toArray
  | 0, acc => by simp
  | k + 1, acc => by
    have e : acc.toArray ++ its.toArray = (acc ++ its).toArray := by simp
    have e2 : (acc ++ its) ++ (List.replicate k its).flatten = acc ++ (List.replicate (k + 1) its).flatten := by
      rw [List.replicate_succ, List.flatten_cons, List.append_assoc]
    rw [← e2, ← foldl_rep its k (acc ++ its), ← e, List.replicate_succ, List.foldl_cons]
section
variable {X : Cx} {pins : List (Addr × Obj)} {σ : St} {H : Hp} {s : Shared} {l b : Addr} {xs ys zs : List V}
theorem Inv.lset {its its' : List Value} {n : Nat} {f : Array Value → Array Value} {t' : Nat} (I : Inv X pins σ H s) (hH : H l = some (.lst xs))
    (e : s.heap.get? l = some { cls := .type "list", data := .seq its.toArray n }) (hf : f its.toArray = its'.toArray) (hv : Vals ys its') (hz : ys.length ≤ sizeLine) :
    Inv X pins σ (upd H l (.lst ys)) { s with heap := s.heap.update l (Obj.mapSeq f), toks := t' } := by
  have q := PySem.IsL.update e f
  rw [hf] at q
  refine I.write (x := l) (e := l) (by rw [hH]; exact trivial) (.inl rfl) (fun b' u hb hu => (Heap.get?_update_other s.heap (Obj.mapSeq f) (Ne.symm hb)).trans hu) ⟨_, q⟩ ?_
  exact ⟨hz, its', _, hv, q⟩
theorem Inv.lnew {its : List Value} {t' : Nat} (I : Inv X pins σ H s) (hv : Vals ys its) (hz : ys.length ≤ sizeLine) :
    Inv X pins σ (upd H s.heap.objs.size (.lst ys)) { s with heap := s.heap.push { cls := .type "list", data := .seq its.toArray }, toks := t' } :=
  I.laid (fun _ _ q => Heap.get?_push_of_some _ q) (Nat.le_refl _) ⟨hz, its, 0, hv, Heap.get?_push_size _ rfl⟩
theorem Inv.fresh (I : Inv X pins σ H s) : H s.heap.objs.size = none := I.hok.fresh (Nat.le_refl _)
theorem Inv.lstM (I : Inv X pins σ H s) (hH : H l = some (.lst xs)) : xs.length ≤ sizeLine ∧ ∃ (its : List Value) (n : Nat), Vals xs its ∧ xs.length = its.length ∧ s.heap.get? l = some { cls := .type "list", data := .seq its.toArray n } := by
  obtain ⟨z, its, n, r, e⟩ := I.hok l _ hH
  exact ⟨z, its, n, r, r.length, e⟩
theorem notLongL {n : Nat} (h : n ≤ sizeLine) : Builtin.List.listTooLong n = false := by
  unfold Builtin.List.listTooLong
  exact decide_eq_false (by omega)
end
section
variable {X : Cx}
noncomputable def rAppend : V → List V → Hp → VK → Prop := fun x vs H Q => ∃ l xs y, x = .ref l ∧ vs = [y] ∧ H l = some (.lst xs) ∧ xs.length < sizeLine ∧ Q .non (upd H l (.lst (xs ++ [y])))
theorem mt_append : MtM X "list.append" rAppend := by
  intro pins s σ H x vs v us Q I rx rv h
  obtain ⟨l, xs, y, rfl, rfl, hH, hz, q⟩ := h
  cases rx
  obtain ⟨u, rfl, ru⟩ := rv.one
  obtain ⟨z, its, n, r, hl, e⟩ := I.lstM hH
  refine call_meets F.slot_list_append ⟨_, e, rfl⟩ F.entry_list_append (F.args_list_append_2 _ _) (PySem.list_append l its.toArray n u (by rw [List.size_toArray]; omega)) ⟨e, ?_⟩
  refine ⟨.non, _, I.lset (its' := its ++ [u]) hH e (by simp) (r.append (.cons ru .nil)) ?_, rfl, q⟩
  rw [List.length_append, List.length_singleton]
  omega
noncomputable def rExtend : V → List V → Hp → VK → Prop := fun x vs H Q => ∃ l b xs zs, x = .ref l ∧ vs = [.ref b] ∧ H l = some (.lst xs) ∧ H b = some (.lst zs) ∧ xs.length + zs.length ≤ sizeLine ∧ Q .non (upd H l (.lst (xs ++ zs)))
theorem mt_extend : MtM X "list.extend" rExtend := by
  intro pins s σ H x vs v us Q I rx rv h
  obtain ⟨l, b, xs, zs, rfl, rfl, hH, hB, hz, q⟩ := h
  cases rx
  obtain ⟨u, rfl, ru⟩ := rv.one
  cases ru
  obtain ⟨z, its, n, r, hl, e⟩ := I.lstM hH
  obtain ⟨z2, its2, n2, r2, hl2, e2⟩ := I.lstM hB
  have hsz : its.toArray.size + its2.toArray.size ≤ sizeLine := by rw [List.size_toArray, List.size_toArray]; omega
  have hlong : ¬ (!its.toArray.isEmpty && Builtin.List.listTooLong (its.toArray.size + its2.toArray.size)) = true := by
    rw [notLongL hsz, Bool.and_false]
    exact Bool.false_ne_true
  refine call_meets F.slot_list_extend ⟨_, e, rfl⟩ F.entry_list_extend (F.args_list_extend_2 _ _)
    (AutoSeq1.list_extend_list_list_0 l its.toArray n b its2.toArray n2 hlong (by rw [List.size_toArray]; omega) (by omega)) ⟨e, e2, ?_⟩
  refine ⟨.non, _, I.lset (its' := its ++ its2) hH e (by simp) (r.append r2) ?_, rfl, q⟩
  rw [List.length_append]
  omega
noncomputable def rPop : V → List V → Hp → VK → Prop := fun x vs H Q => ∃ l xs y, x = .ref l ∧ vs = [] ∧ H l = some (.lst xs) ∧ xs[xs.length - 1]? = some y ∧ Q y (upd H l (.lst xs.dropLast))
theorem mt_pop : MtM X "list.pop" rPop := by
  intro pins s σ H x vs v us Q I rx rv h
  obtain ⟨l, xs, y, rfl, rfl, hH, hy, q⟩ := h
  cases rx
  have hus := rv.zero
  subst hus
  obtain ⟨z, its, n, r, hl, e⟩ := I.lstM hH
  obtain ⟨u, hu, ru⟩ := r.get hy
  have hy' : its.toArray[its.toArray.size - 1]? = some u := by
    show its.toArray[its.length - 1]? = some u
    rw [← Array.getElem?_toList, ← hl]
    exact hu
  refine call_meets F.slot_list_pop ⟨_, e, rfl⟩ F.entry_list_pop (F.args_list_pop_1 _) (MeetsSeq.list_pop_last l its.toArray n u hy' (by rw [List.size_toArray]; omega)) ⟨e, ?_⟩
  refine ⟨y, _, I.lset (its' := its.dropLast) hH e ?_ r.dropLast ?_, ru, q⟩
  · show its.toArray.eraseIdxIfInBounds (its.toArray.size - 1) = its.dropLast.toArray
    rw [List.size_toArray, List.eraseIdxIfInBounds_toArray, erase_last]
  · rw [List.length_dropLast]
    omega
noncomputable def rCat : R2 := fun x y H Q => ∃ l b xs zs, x = .ref l ∧ y = .ref b ∧ H l = some (.lst xs) ∧ H b = some (.lst zs) ∧ xs.length + zs.length ≤ sizeLine ∧ ∀ p, H p = none → Q (.ref p) (upd H p (.lst (xs ++ zs)))
theorem op_cat : OpR X (binaryOp .Add) rCat := by
  intro pins s σ H x y v u Q I rx ry h
  obtain ⟨l, b, xs, zs, rfl, rfl, hH, hB, hz, q⟩ := h
  cases rx
  cases ry
  obtain ⟨z, its, n, r, hl, e⟩ := I.lstM hH
  obtain ⟨z2, its2, n2, r2, hl2, e2⟩ := I.lstM hB
  refine PySem.P.add_list e e2 ?_ (by rw [List.size_toArray, List.size_toArray]; omega)
  have ea : its.toArray ++ its2.toArray = (its ++ its2).toArray := by simp
  rw [ea]
  exact ⟨.ref _, _, I.lnew (t' := s.toks) (r.append r2) (by rw [List.length_append]; omega), rfl, q _ I.fresh⟩
noncomputable def rRep : R2 := fun x y H Q => ∃ l k xs, x = .ref l ∧ y = .int k ∧ H l = some (.lst xs) ∧ -(2 ^ 63) ≤ k ∧ k < 2 ^ 63 ∧ xs.length * k.toNat ≤ sizeLine ∧
  ∀ p, H p = none → Q (.ref p) (upd H p (.lst (List.replicate k.toNat xs).flatten))
theorem len_rep {α : Type} (xs : List α) (k : Nat) : (List.replicate k xs).flatten.length = k * xs.length := by
  induction k with
  | zero => simp
  | succ k ih => rw [List.replicate_succ, List.flatten_cons, List.length_append, ih, Nat.succ_mul, Nat.add_comm]
theorem op_rep : OpR X (binaryOp .Mult) rRep := by
  intro pins s σ H x y v u Q I rx ry h
  obtain ⟨l, k, xs, rfl, rfl, hH, h1, h2, hz, q⟩ := h
  cases rx
  obtain ⟨t, rfl⟩ := ry
  obtain ⟨z, its, n, r, hl, e⟩ := I.lstM hH
  have hlen : its.toArray.size * k.toNat ≤ sizeLine := by rw [List.size_toArray, ← hl]; exact hz
  have hcap : ¬ its.toArray.size * k.toNat > (2 ^ 63 - 1) / 8 := by
    have : (sizeLine : Nat) ≤ (2 ^ 63 - 1) / 8 := by decide
    omega
  have hfit : ¬ (!Builtin.List.listFitsIndex k) = true := by
    rw [fitsIndex_both h1 h2]
    exact Bool.false_ne_true
  have hlong : ¬ Builtin.List.listTooLong (its.toArray.size * k.toNat) = true := by
    rw [notLongL hlen]
    exact Bool.false_ne_true
  have hnew : List.foldl (fun x1 x2 => x1 ++ x2) #[] (List.replicate (if its.toArray.isEmpty = true then 0 else k.toNat) its.toArray) = (List.replicate k.toNat its).flatten.toArray := by
    have f0 : ∀ m : Nat, List.foldl (fun x1 x2 => x1 ++ x2) #[] (List.replicate m its.toArray) = (List.replicate m its).flatten.toArray := fun m => by
      have := foldl_rep its m []
      rw [List.nil_append] at this
      exact this
    rw [f0]
    cases its with
    | nil => simp
    | cons a r' => rw [if_neg (by simp)]
  refine wpAny_binaryOp_repeat_ref (T := "list") (U := "int") (by decide) ⟨_, e, rfl⟩ (fun s' => typeIs_int s' k t) noFill_list_mul F.fills_int_mul F.slot_int_rmul repeat_list F.slot_int_index.lookup
    (call_meets F.slot_int_rmul (typeIs_int s k t) F.entry_int_rmul (F.args_int_rmul_2 _ _) (int___rmul___int_list k t l its.toArray n)
      ⟨e, rfl, ⟨_, e, rfl⟩, call_meets F.slot_list_mul ⟨_, e, rfl⟩ F.entry_list_mul (F.args_list_mul_2 _ _) (AutoListH.list___mul___list_int_3 l its.toArray n k t hfit hcap hlong) ⟨e, ?_⟩⟩)
  rw [hnew]
  exact ⟨.ref _, _, I.lnew (t' := s.toks) (r.rep k.toNat) (by rw [len_rep, Nat.mul_comm]; exact hz), rfl, q _ I.fresh⟩
end
section
variable {prog : Program} {w : World} {A : Around} {E : Value → Shared → Prop} {s : Shared}
end
section
variable {X : Cx}
end
end L2
namespace Att
open PySem PySem.W PySem.Calls PyProof.Rows
theorem ints_of_wellAll {P : Params} {h : Heap} : ∀ (ns : List Int) (vs : List Value), WellAll P h vs (ns.map WData.int) → IntsAre vs ns := by
  intro ns
  induction ns with
  | nil =>
    intro vs w
    rw [List.map_nil] at w
    cases w
    exact .nil
  | cons n ns ih =>
    intro vs w
    rw [List.map_cons] at w
    cases w with
    | cons a b =>
      cases a
      exact .cons _ _ (ih _ b)
theorem script_of {l : OpenLaw} {n : Nat} (hn : l.most = some n) {P : Params} {h : Heap} {args : List WData} {vals : List Value}
    (hpre : l.row.toRowW.claim.pre args = true) (hwl : WellAll P h vals args) :
    ∃ a vs ns, vals = [Value.ref a] ∧ args = [WData.list (ns.map WData.int)] ∧ h.get? a = some { cls := .type "list", data := .seq vs.toArray } ∧ IntsAre vs ns ∧ ns.length ≤ n := by
  have hsh : WShape.hasAll [] args [.list .int] = true := (pre_splitW hpre).1
  have hc : l.pre.holds [] { args := args } = true := (pre_splitW hpre).2
  obtain ⟨d, r, rfl, h1, h2⟩ := hasAllW_cons hsh
  obtain rfl := hasAllW_nil h2
  obtain ⟨xs, rfl, h3⟩ := hasW_list h1
  obtain ⟨ns, rfl⟩ := items_int h3
  have hlen : ns.length ≤ n := by
    unfold OpenLaw.pre at hc
    have h4 : (WTm.not (.lt (.lit (.int (n : Int))) (.len (.arg 0)))).holds [] { args := [.list (ns.map .int)] } = true := by
      have h4 := (holds_andW hc).1
      rw [hn] at h4
      exact h4
    have h5 := condW_of h4 (w_not (w_lt w_lit (w_len_list (w_arg rfl))))
    rw [List.length_map] at h5
    refine Nat.le_of_not_lt fun q => ?_
    have q' : (n : Int) < ((ns.length : Nat) : Int) := by omega
    first
      | (rw [decide_eq_true q'] at h5; exact absurd h5 (by decide))
      | (simp at h5; omega)
  cases hwl with
  | cons w1 w2 =>
    cases w2
    cases w1 with
    | list ho hall => exact ⟨_, _, ns, rfl, rfl, ho, ints_of_wellAll ns _ hall, hlen⟩
theorem post_true (l : OpenLaw) (args : List WData) : l.row.toRowW.claim.post args (.bool true) args = true :=
  postW_of (r := l.row.toRowW) (X := (true == true))
    (show WShape.has [] (.bool true) .bool = true by first | rfl | decide | simp [WShape.has, WShape.arms, WShape.armsAll])
    (show (WTm.eq .res (.lit (.bool true))).value [] { args := args, res := some (.bool true), after := args } = some (.bool (true == true)) from w_eq_bool (w_res rfl) w_lit) rfl
section
variable {prog : Program} {w : World} {A : Around} {E : Value → Shared → Prop} {s : Shared} {K : Frag}
end
end Att
namespace L2
open PySem PySem.Spec PyProof.Rows
theorem vals_ints : ∀ {vs : List Value} {ns : List Int}, IntsAre vs ns → Vals (ns.map V.int) vs
  | _, _, .nil => .nil
  | _, _, .cons n t h => .cons ⟨t, rfl⟩ (vals_ints h)
noncomputable def Only (H : Hp) : Prop := ∀ b, H b = none ∨ ∃ o xs, H b = some (.frz o (.lst xs))
theorem law_call {P : Program} {w : World} {K : PySem.W.Frag} {mg mb : Str → Option Value} {CX : CXT} {k : Nat} {fa a : Addr} {fd : FuncData} {x : Str} {sp : Sp} {s₁ : Shared} {vs : List Value} {ns : List Int}
    (KX : K.In s₁.heap) (hns : s₁.heap.Ns mainGlobals mg) (hb : s₁.heap.Ns builtinsNs mb) (hbb : ∀ x : Str, x ≠ "__name__" → mb x = bootBuiltins x) (hlim : s₁.heap.NoLimit) (hg : s₁.gens = #[])
    (ha : s₁.heap.get? a = some { cls := .type "list", data := .seq vs.toArray }) (hi : IntsAre vs ns) (hl : ns.length ≤ sizeLine) (hr : Room k callerA)
    (F : ∀ base : Heap, K.In base → base.Ns mainGlobals mg → FnOk P w K mg base CX k fa fd [x] sp) (hbind : ∀ (s : Shared) (u : Value), BindsTo s fd ⟨[u], []⟩ [(x, u)])
    (hsp : ∀ H : Hp, Only H → SqL K H a (ns.map V.int) → sp [.ref a] H (fun v _ => v = .bl true) fun _ _ _ => False)
    (hCX : ∀ H e s', CX [] H s₁ (fun _ _ _ => False) e s' → False) :
    codeAny (model P w) callerA (.call (.ref fa) ⟨[.ref a], []⟩) (fun r s' => r = .ok (.ret (.bool true)) ∧ OldK s₁.heap s'.heap ∧ s'.os = s₁.os ∧ AllBare s'.gens) s₁ := by
  have rv := vals_ints hi
  have lenV := hi.length
  have core : ∀ H : Hp, Only H → SqL K H a (ns.map V.int) → HOk P w H s₁.heap → (∀ b, H b ≠ none → b = a) → (H a ≠ none → K.lookup a = none) →
      codeAny (model P w) callerA (.call (.ref fa) ⟨[.ref a], []⟩) (fun r s' => r = .ok (.ret (.bool true)) ∧ OldK s₁.heap s'.heap ∧ s'.os = s₁.os ∧ AllBare s'.gens) s₁ := by
    intro H hO hS hok hA hK
    have base_of : ∀ {b : Addr} {o : Obj}, s₁.heap.get? b = some o → H b = none → (hidT s₁.heap H).get? b = some o := fun e n => hidT_get e n
    have noA : ∀ {b : Addr} {o : Obj} {es : Array DictEntry} {ep : Nat}, s₁.heap.get? b = some o → o.data = .dict es ep → H b = none := fun {b o es ep} e d => by
      cases q : H b with
      | none => rfl
      | some u =>
        have e' : b = a := hA b (by rw [q]; simp)
        subst e'
        rw [ha] at e; cases e
        have d' : Data.seq vs.toArray _ = Data.dict es ep := d
        cases d'
    have nsK : ∀ {b : Addr} {m : Str → Option Value}, s₁.heap.Ns b m → (hidT s₁.heap H).Ns b m := fun {b m} ⟨o, es, ep, e, d, r⟩ => ⟨o, es, ep, base_of e (noA e d), d, r⟩
    have hKb : K.In (hidT s₁.heap H) := fun b o e => base_of (KX b o e) (by
      cases q : H b with
      | none => rfl
      | some u =>
        have e' : b = a := hA b (by rw [q]; simp)
        subst e'
        rw [hK (by rw [q]; simp)] at e; cases e)
    have hM : Mod K mg (hidT s₁.heap H) := ⟨hKb, nsK hns, ⟨mb, nsK hb, hbb⟩, let ⟨mc, h1, h2⟩ := hlim; ⟨mc, nsK h1, h2⟩⟩
    have e0 : Env0 P w K mg (hidT s₁.heap H) callerA [] s₁ H := ⟨rfl, hM, fun b o e => of_hidT e, Nat.le_of_eq (hidT_size _ _), trivial, fun b hb => absurd (show b ∈ ([] : List Addr) from hb) (by simp), hok, .of_eq hg⟩
    refine codeAny_mono ((F _ hKb (nsK hns)).run callerA [] s₁ H ⟨[.ref a], []⟩ [.ref a] [.ref a] _ _ hr e0 (hbind s₁ (.ref a)) (.cons rfl .nil) (hsp H hO hS)) fun r s' h => ?_
    cases r with
    | error e => exact (hCX H e s' h).elim
    | ok fl =>
      cases fl with
      | next => exact False.elim h
      | brk => exact False.elim h
      | cont => exact False.elim h
      | ret u =>
        obtain ⟨v, H', os, bare, un, hok', r', q⟩ := h
        have q' : v = .bl true := q
        subst q'
        obtain rfl : u = Value.bool true := r'
        refine ⟨rfl, OldK.of_keep fun b o e => ?_, os, bare⟩
        cases q : H b with
        | none => exact un.keep b o e q (by intro z; exact absurd (show b ∈ ([] : List Addr) from z) (by simp)) (by simp)
        | some u =>
          rcases hO b with z | ⟨ob, xs, z⟩
          · rw [q] at z; cases z
          · have z2 := un.frzs b ob _ z
            obtain ⟨e1, _⟩ := hok b _ z
            obtain ⟨e2, _⟩ := hok' b _ z2
            rw [e] at e1; cases e1
            exact e2
  cases hk : K.lookup a with
  | some o =>
    have e := KX a o hk
    rw [ha] at e
    cases e
    refine core (fun _ => none) (fun _ => .inl rfl) (.inr ⟨_, vs.toArray, _, hk, rfl, rfl, rfl, by rw [List.size_toArray, lenV]; exact hl, by simpa using rv⟩) (fun b u z => by have z' : (none : Option HO) = some u := z; cases z') (fun b z => absurd rfl z) fun z => absurd rfl z
  | none =>
    refine core (fun b => if b = a then some (.frz { cls := .type "list", data := .seq vs.toArray } (.lst (ns.map V.int))) else none) (fun b => ?_) (.inl (.inr ⟨{ cls := .type "list", data := .seq vs.toArray }, if_pos rfl⟩)) (fun b u z => ?_) (fun b z => ?_) fun _ => hk
    · by_cases hb : b = a
      · exact .inr ⟨_, _, if_pos hb⟩
      · exact .inl (if_neg hb)
    · by_cases hb : b = a
      · have z' := (if_pos hb).symm.trans z
        cases z'
        subst hb
        exact ⟨ha, by rw [List.length_map]; exact hl, vs, _, rv, ha⟩
      · have z' := (if_neg hb).symm.trans z
        cases z'
    · by_cases hb : b = a
      · exact hb
      · exact absurd (if_neg hb) z
end L2
namespace L2
open PySem PySem.Spec PyProof.Rows
end L2
namespace L2
open PySem PySem.Spec PyProof.Rows
noncomputable def defArgs (s : Stmt) : Arguments := match s with
  | .FunctionDef _ a _ _ _ _ _ _ _ _ => a
  | _ => { posonlyargs := [], args := [], vararg := none, kwonlyargs := [], kw_defaults := [], kwarg := none, defaults := [] }
noncomputable def defBody (s : Stmt) : List Stmt := match s with
  | .FunctionDef _ _ b _ _ _ _ _ _ _ => b
  | _ => []
noncomputable def defScope (s : Stmt) : Scope := match s with
  | .FunctionDef _ _ _ _ _ _ sc _ _ _ => sc
  | _ => { kind := .function, names := [], isGenerator := false, isCoroutine := false }
noncomputable abbrev CX0 : CXT := fun _ _ _ _ _ _ => False
noncomputable abbrev E0 : XK := fun _ _ _ => False
theorem pass0 {X : Cx} : Passes CX0 X E0 := fun _ _ _ _ _ _ _ h => h.elim
structure Fun (K : PySem.W.Frag) (x qual : Str) (st : Stmt) (f : Addr) (fd : FuncData) : Prop where
  ex : ∃ (oc : Value) (od : Option Addr) (dV kV doc pm : Value) (an : Option Addr) (cdv ct : Value) (osl : Array (Option Value)),
    fd = PySem.W.fnOf x qual (defArgs st) (defBody st) (defScope st) dV kV doc pm an cdv ct ∧ K.lookup f = some ⟨oc, od, .func fd, osl⟩ ∧ PySem.W.codeIn K cdv qual = true
  kp : PySem.W.keepIn K (.ref f) = true
section
variable {P : Program} {w : World} {K : PySem.W.Frag} {mg : Str → Option Value} {base : Heap}
theorem Fun.ok {x qual : Str} {st : Stmt} {f : Addr} {fd : FuncData} {N ps : List Str} {k : Nat} {sp : Sp} (F : Fun K x qual st f fd) (S : FnScope N ps (defScope st)) (len : ∀ vs H Q E, sp vs H Q E → vs.length = ps.length)
    (hbody : ∀ (cdv : Value) (A : Around) (outer : List Env) (s : Shared) (H : Hp) (vs : List V) (Q : VK) (E : XK), Room k (A.deeper (envOfC qual (defScope st) s.heap.objs.size f cdv)) → sp vs H Q E →
      ∃ t, PSs (cxOf CX0 P w K mg base N qual (defScope st) f cdv A outer s H E).nox (defBody st) t ∧ t { nx := fun _ H' => Q .non H', rt := Q } (start N vs) H) : FnOk P w K mg base CX0 (k + 1) f fd ps sp := by
  obtain ⟨oc, od, dV, kV, doc, pm, an, cdv, ct, osl, rfl, lk, hcd⟩ := F.ex
  refine fn_of lk hcd S len fun A outer s H vs Q E hr hsp => ?_
  obtain ⟨t, h, q⟩ := hbody cdv A outer s H vs Q E hr hsp
  exact ⟨t, h.nox, q⟩
theorem fun_mk {x qual : Str} {st : Stmt} {f : Addr} {oc : Value} {od an : Option Addr} {osl : Array (Option Value)} {dV kV doc pm cdv ct : Value} (l : K.lookup f = some ⟨oc, od, .func (PySem.W.fnOf x qual (defArgs st) (defBody st) (defScope st) dV kV doc pm an cdv ct), osl⟩)
    (c : PySem.W.codeIn K cdv qual = true) (k : PySem.W.keepIn K (.ref f) = true) : Fun K x qual st f (PySem.W.fnOf x qual (defArgs st) (defBody st) (defScope st) dV kV doc pm an cdv ct) := ⟨⟨oc, od, dV, kV, doc, pm, an, cdv, ct, osl, rfl, l, c⟩, k⟩
end
section
variable {X : Cx}
theorem pv (i : Nat) {x : Str} {pos : Pos} (hN : X.N[i]? = some x := by rfl) (hv : Vis X.env.scope x := by trivial) (hd : (x == ("__debug__" : Str)) = false := by decide)
    (hcd : (x == ("__classdict__" : Str)) = false := by decide) : PE X (.Name x pos) (tVar i) := pe_var hN hv hd hcd
end
theorem iteF {A B : Prop} (h : B) : if false = true then A else B := by
  rw [if_neg Bool.false_ne_true]
  exact h
theorem iteT {A B : Prop} (h : A) : if true = true then A else B := by
  rw [if_pos rfl]
  exact h
noncomputable def Same (H H' : Hp) : Prop := ∀ b o, H b = some o → H' b = some o
theorem Same.trans {H H1 H2 : Hp} (a : Same H H1) (b : Same H1 H2) : Same H H2 := fun c o h => b c o (a c o h)
theorem Same.seq {K : PySem.W.Frag} {H H' : Hp} {a : Addr} {xs : List V} (e : Same H H') (h : SqL K H a xs) : SqL K H' a xs := by
  rcases h with (h | ⟨o, h⟩) | h
  · exact .inl (.inl (e _ _ h))
  · exact .inl (.inr ⟨o, e _ _ h⟩)
  · exact .inr h
end L2
namespace L2
open PySem PySem.Spec PyProof.Rows
theorem relabel_lookup {env : Env} : ∀ {names : List (Str × NameKind)} {x : Str},
    (names.map fun (n, k) => if (k == NameKind.free && env.scope.kind == .function && env.kindOf n == some .cell) then (n, NameKind.cell) else (n, k)).lookup x
      = (names.lookup x).map fun k => if (k == NameKind.free && env.scope.kind == .function && env.kindOf x == some .cell) then NameKind.cell else k
  | [], _ => rfl
  | (n, k) :: r, x => by
    have ih := @relabel_lookup env r x
    show List.lookup x ((if (k == NameKind.free && env.scope.kind == .function && env.kindOf n == some .cell) = true then (n, NameKind.cell) else (n, k)) :: _) = _
    cases hx : x == n with
    | true =>
      have e : x = n := beq_iff_eq.mp hx
      subst e
      by_cases hc : (k == NameKind.free && env.scope.kind == .function && env.kindOf x == some .cell) = true
      · rw [if_pos hc]; simp only [List.lookup_cons, hx, Option.map_some]; rw [if_pos hc]
      · rw [if_neg hc]; simp only [List.lookup_cons, hx, Option.map_some]; rw [if_neg hc]
    | false =>
      by_cases hc : (k == NameKind.free && env.scope.kind == .function && env.kindOf n == some .cell) = true
      · rw [if_pos hc]; simp only [List.lookup_cons, hx]; exact ih
      · rw [if_neg hc]; simp only [List.lookup_cons, hx]; exact ih
theorem relabel_free {scope : Scope} {env : Env} {x : Str} (h : scope.names.lookup x = some .free) : (relabel scope env).names.lookup x = some .cell ∨ (relabel scope env).names.lookup x = some .free := by
  have e : (relabel scope env).names.lookup x = _ := relabel_lookup (env := env) (names := scope.names) (x := x)
  rw [e, h, Option.map_some]
  split
  · exact .inl rfl
  · exact .inr rfl
theorem relabel_back {scope : Scope} {env : Env} {x : Str} (h : (relabel scope env).names.lookup x = some .cell ∨ (relabel scope env).names.lookup x = some .free) : scope.names.lookup x = some .cell ∨ scope.names.lookup x = some .free := by
  have e : (relabel scope env).names.lookup x = _ := relabel_lookup (env := env) (names := scope.names) (x := x)
  rw [e] at h
  cases q : scope.names.lookup x with
  | none => rw [q] at h; simp at h
  | some k =>
    rw [q, Option.map_some] at h
    by_cases hc : (k == NameKind.free && env.scope.kind == .function && env.kindOf x == some .cell) = true
    · have : (k == NameKind.free) = true := by
        rw [Bool.and_eq_true, Bool.and_eq_true] at hc; exact hc.1.1
      have : k = .free := by simpa using this
      subst this; exact .inr rfl
    · rw [if_neg hc] at h
      rcases h with h | h
      · exact .inl h
      · exact .inr h
noncomputable def closL (cells : List (Str × Addr)) : List (Str × NameKind) → List (Str × Addr) → List (Str × Addr)
  | [], acc => acc
  | (n, k) :: r, acc => if k == .free then closL cells r ((n, (cells.lookup n).getD 0) :: acc) else closL cells r acc
theorem closureFor_eq {scope : Scope} {env : Env} (h : ∀ n, (n, NameKind.free) ∈ scope.names → (env.cells.lookup n).isSome = true) : closureFor scope env = pure (closL env.cells scope.names []) := by
  have all : ∀ (names : List (Str × NameKind)) (acc : List (Str × Addr)), (∀ n, (n, NameKind.free) ∈ names → (env.cells.lookup n).isSome = true) →
      (forIn names acc fun x cs => (if x.2 == NameKind.free then do let c ← cellOf env x.1; pure (ForInStep.yield ((x.1, c) :: cs)) else pure (ForInStep.yield cs) : Sem (ForInStep (List (Str × Addr))))) = pure (closL env.cells names acc) := by
    intro names
    induction names with
    | nil => intro acc _; rfl
    | cons p r ih =>
      intro acc hp
      obtain ⟨n, k⟩ := p
      rw [List.forIn_cons]
      by_cases hk : (k == NameKind.free) = true
      · have ek : k = .free := by simpa using hk
        obtain ⟨c, hc⟩ := Option.isSome_iff_exists.mp (hp n (by rw [ek]; exact List.mem_cons_self))
        have e1 : cellOf env n = pure c := by unfold cellOf; rw [hc]
        dsimp only
        rw [if_pos hk, e1]
        have e2 : closL env.cells ((n, k) :: r) acc = closL env.cells r ((n, c) :: acc) := by
          show (if k == .free then _ else _) = _
          rw [if_pos hk, hc]; rfl
        rw [e2, ← ih ((n, c) :: acc) fun m hm => hp m (List.mem_cons_of_mem _ hm)]
        rfl
      · dsimp only
        rw [if_neg hk]
        have e2 : closL env.cells ((n, k) :: r) acc = closL env.cells r acc := by
          show (if k == .free then _ else _) = _
          rw [if_neg hk]
        rw [e2, ← ih acc fun m hm => hp m (List.mem_cons_of_mem _ hm)]
        rfl
  have q := all scope.names [] h
  unfold closureFor
  show ((forIn scope.names [] fun x cs => (if x.2 == NameKind.free then do let c ← cellOf env x.1; pure (ForInStep.yield ((x.1, c) :: cs)) else pure (ForInStep.yield cs) : Sem (ForInStep (List (Str × Addr))))) >>= fun cs => pure cs) = _
  rw [q]
  rfl
theorem closL_mem {cells : List (Str × Addr)} : ∀ {names : List (Str × NameKind)} {acc : List (Str × Addr)} {n : Str} {c : Addr}, (n, c) ∈ closL cells names acc → (n, c) ∈ acc ∨ ((n, NameKind.free) ∈ names ∧ (cells.lookup n).getD 0 = c)
  | [], _, _, _, h => .inl h
  | (m, k) :: r, acc, n, c, h => by
    have h : (n, c) ∈ (if k == .free then closL cells r ((m, (cells.lookup m).getD 0) :: acc) else closL cells r acc) := h
    by_cases hk : (k == NameKind.free) = true
    · rw [if_pos hk] at h
      have ek : k = .free := by simpa using hk
      rcases closL_mem h with q | ⟨q1, q2⟩
      · rcases List.mem_cons.mp q with q | q
        · cases q
          exact .inr ⟨by rw [ek]; exact List.mem_cons_self, rfl⟩
        · exact .inl q
      · exact .inr ⟨List.mem_cons_of_mem _ q1, q2⟩
    · rw [if_neg hk] at h
      rcases closL_mem h with q | ⟨q1, q2⟩
      · exact .inl q
      · exact .inr ⟨List.mem_cons_of_mem _ q1, q2⟩
theorem closL_has {cells : List (Str × Addr)} : ∀ {names : List (Str × NameKind)} {acc : List (Str × Addr)} {n : Str}, ((n, NameKind.free) ∈ names ∨ ∃ c, (n, c) ∈ acc) → ∃ c, (n, c) ∈ closL cells names acc
  | [], _, _, h => h.elim (fun z => nomatch z) id
  | (m, k) :: r, acc, n, h => by
    show ∃ c, (n, c) ∈ (if k == .free then closL cells r ((m, (cells.lookup m).getD 0) :: acc) else closL cells r acc)
    by_cases hk : (k == NameKind.free) = true
    · rw [if_pos hk]
      refine closL_has ?_
      rcases h with h | ⟨c, h⟩
      · rcases List.mem_cons.mp h with h | h
        · cases h; exact .inr ⟨_, List.mem_cons_self⟩
        · exact .inl h
      · exact .inr ⟨c, List.mem_cons_of_mem _ h⟩
    · rw [if_neg hk]
      refine closL_has ?_
      rcases h with h | ⟨c, h⟩
      · rcases List.mem_cons.mp h with h | h
        · cases h; exact absurd rfl hk
        · exact .inl h
      · exact .inr ⟨c, h⟩
theorem lookup_of_mem_all {α : Type} {n : Str} {c : α} : ∀ {l : List (Str × α)}, (n, c) ∈ l → (∀ d, (n, d) ∈ l → d = c) → l.lookup n = some c
  | [], h, _ => nomatch h
  | (m, d) :: r, h, all => by
    rw [List.lookup_cons]
    cases hb : n == m with
    | true =>
      have e : n = m := beq_iff_eq.mp hb
      subst e
      rw [all d List.mem_cons_self]
    | false =>
      rcases List.mem_cons.mp h with q | q
      · cases q; simp at hb
      · exact lookup_of_mem_all q fun d' hd => all d' (List.mem_cons_of_mem _ hd)
theorem cellsFrom_app : ∀ (names : List (Str × NameKind)) (n : Nat) (acc : List (Str × Addr)), cellsFrom n names acc = cellsFrom n names [] ++ acc
  | [], _, _ => rfl
  | (x, k) :: r, n, acc => by
    unfold cellsFrom
    split
    · rw [cellsFrom_app r (n + 1) ((x, n) :: acc), cellsFrom_app r (n + 1) [(x, n)], List.append_assoc]; rfl
    · exact cellsFrom_app r n acc
theorem cellsFrom_kind : ∀ {names : List (Str × NameKind)} {n : Nat} {x : Str} {c : Addr}, (x, c) ∈ cellsFrom n names [] → (x, NameKind.cell) ∈ names
  | [], _, _, _, h => nomatch h
  | (y, k) :: r, n, x, c, h => by
    unfold cellsFrom at h
    split at h
    · rename_i hk
      have ek : k = .cell := by simpa using hk
      rw [cellsFrom_app] at h
      rcases List.mem_append.mp h with q | q
      · exact List.mem_cons_of_mem _ (cellsFrom_kind q)
      · cases List.mem_singleton.mp q
        rw [ek]; exact List.mem_cons_self
    · exact List.mem_cons_of_mem _ (cellsFrom_kind h)
theorem lookup_nodup {α : Type} {n : Str} {c d : α} : ∀ {l : List (Str × α)}, (l.map (·.1)).Nodup → l.lookup n = some c → (n, d) ∈ l → d = c
  | [], _, _, h => nomatch h
  | (m, e) :: r, hn, hl, hm => by
    have hn : (m :: r.map (·.1)).Nodup := hn
    obtain ⟨h1, h2⟩ := List.nodup_cons.mp hn
    rw [List.lookup_cons] at hl
    cases hb : n == m with
    | true =>
      rw [hb] at hl
      have e1 : n = m := beq_iff_eq.mp hb
      subst e1
      rcases List.mem_cons.mp hm with q | q
      · cases q; cases hl; rfl
      · exact absurd (List.mem_map.mpr ⟨(n, d), q, rfl⟩) h1
    | false =>
      rw [hb] at hl
      rcases List.mem_cons.mp hm with q | q
      · cases q; simp at hb
      · exact lookup_nodup h2 hl q
noncomputable def cxComp (X : Cx) (N' : List Str) (scope : Scope) (s : Shared) (H : Hp) (fp : List Addr) : Cx :=
  { X with N := N', s₀ := s, H₀ := H, env := compEnvC scope (cellsFrom (s.heap.objs.size + 1) scope.names (closL X.env.cells scope.names [])) s.heap.objs.size X.env, outer := X.stack, ex := fp, fn := fun x => scope.names.lookup x == some .cell, pn := [], xe := fun _ _ => False }
noncomputable def compSt (js : List (Option Nat)) (σ : St) : St := js.map fun j => match j with
  | some j => (σ[j]?).getD none
  | none => none
noncomputable def frB (X : Cx) (scope : Scope) : Bool := scope.names.all fun p => p.2 != .free || X.env.kindOf p.1 == some .cell || X.env.kindOf p.1 == some .free
noncomputable def atB (X : Cx) (N' : List Str) (js : List (Option Nat)) (scope : Scope) : Bool := (js.zip N').all fun p => match p.1 with
  | none => true
  | some j => X.N[j]? == some p.2 && scope.names.lookup p.2 == some .free
structure CompOk (X : Cx) (N' : List Str) (js : List (Option Nat)) (scope : Scope) : Prop where
  kind : scope.kind = .function
  nd : (scope.names.map (·.1)).Nodup
  frb : frB X scope = true
  len : js.length = N'.length
  atb : atB X N' js scope = true
theorem CompOk.fr {X : Cx} {N' : List Str} {js : List (Option Nat)} {scope : Scope} (C : CompOk X N' js scope) : ∀ n, (n, NameKind.free) ∈ scope.names → X.env.kindOf n = some .cell ∨ X.env.kindOf n = some .free := fun n hn => by
  have h := List.all_eq_true.mp C.frb (n, .free) hn
  simp only [Bool.or_eq_true, bne_iff_ne, ne_eq, not_true_eq_false, false_or, beq_iff_eq] at h
  exact h
theorem CompOk.at_ {X : Cx} {N' : List Str} {js : List (Option Nat)} {scope : Scope} (C : CompOk X N' js scope) : ∀ (i j : Nat), js[i]? = some (some j) → ∃ x, N'[i]? = some x ∧ X.N[j]? = some x ∧ scope.names.lookup x = some .free := fun i j hj => by
  have hi : i < js.length := (List.getElem?_eq_some_iff.mp hj).1
  have hi' : i < N'.length := by rw [← C.len]; exact hi
  have hz : (js.zip N')[i]? = some (some j, N'[i]) := by
    rw [List.getElem?_zip_eq_some]
    exact ⟨hj, by simp [hi']⟩
  have h := List.all_eq_true.mp C.atb _ (List.mem_of_getElem? hz)
  simp only [Bool.and_eq_true, beq_iff_eq] at h
  exact ⟨N'[i], by simp [hi'], h.1, h.2⟩
section
variable {X : Cx} {pins : List (Addr × Obj)} {σ : St} {H : Hp} {s : Shared} {N' : List Str} {js : List (Option Nat)} {scope : Scope} {fp : List Addr}
theorem comp_start (I : Inv X pins σ H s) (C : CompOk X N' js scope) (hf : ∀ b ∈ fp, FpOk X pins H b) (ho : ∀ b ∈ fp, ∃ o, s.heap.get? b = some o) :
    Inv (cxComp X N' scope s H fp) [] (compSt js σ) H { s with heap := pushCells (s.heap.push { cls := .type "dict", data := .dict #[] }) scope.names } := by
  have keep : ∀ b o, s.heap.get? b = some o → (pushCells (s.heap.push { cls := .type "dict", data := .dict #[] }) scope.names).get? b = some o := fun b o e => pushCells_keeps _ _ b o (Heap.get?_push_of_some _ e)
  have new := cellsFrom_ok scope.names (s.heap.push { cls := .type "dict", data := .dict #[] }) (s.heap.objs.size + 1) [] ⟨fun _ _ hm => (nomatch hm), List.Pairwise.nil⟩ (by rw [Heap.size_push]; exact Nat.le_refl _)
  rw [Heap.size_push] at new
  have old : ∀ n c, (n, c) ∈ closL X.env.cells scope.names [] → X.env.cells.lookup n = some c := fun n c h => by
    rcases closL_mem h with q | ⟨q1, q2⟩
    · exact nomatch q
    · obtain ⟨d, hd⟩ := I.ok.has n (C.fr n q1)
      rw [hd] at q2
      rw [hd]; exact congrArg some q2
  have oldlt : ∀ n c, X.env.cells.lookup n = some c → c < s.heap.objs.size := fun n c h => by
    obtain ⟨v, q⟩ := I.cell n c h
    exact q.lt
  have mem : ∀ n c, (cxComp X N' scope s H fp).env.cells.lookup n = some c → (n, c) ∈ cellsFrom (s.heap.objs.size + 1) scope.names [] ∨ X.env.cells.lookup n = some c := fun n c h => by
    have h : (cellsFrom (s.heap.objs.size + 1) scope.names (closL X.env.cells scope.names [])).lookup n = some c := h
    rw [cellsFrom_app] at h
    rcases List.mem_append.mp (PySem.mem_of_lookup h) with q | q
    · exact .inl q
    · exact .inr (old n c q)
  have lt : ∀ b ∈ fp, b < s.heap.objs.size := fun b hb => let ⟨_, e⟩ := ho b hb; Heap.lt_size e
  have fre : ∀ x c, scope.names.lookup x = some .free → X.env.cells.lookup x = some c → (cxComp X N' scope s H fp).env.cells.lookup x = some c := fun x c hx hc => by
    show (cellsFrom (s.heap.objs.size + 1) scope.names (closL X.env.cells scope.names [])).lookup x = some c
    have hm := PySem.mem_of_lookup hx
    obtain ⟨d, hd⟩ := closL_has (cells := X.env.cells) (acc := []) (.inl hm)
    have ed : ∀ d', (x, d') ∈ closL X.env.cells scope.names [] → d' = c := fun d' h' => Option.some.inj ((old x d' h').symm.trans hc)
    refine lookup_of_mem_all ?_ fun d' h' => ?_
    · rw [cellsFrom_app, ← ed d hd]; exact List.mem_append_right _ hd
    · rw [cellsFrom_app] at h'
      rcases List.mem_append.mp h' with q | q
      · exact absurd (lookup_nodup C.nd hx (cellsFrom_kind q)) (by decide)
      · exact ed d' q
  refine ⟨⟨I.ok.mod, C.kind, I.ok.glob, I.ok.blt, Nat.le_refl _, fun x y c h1 h2 => ?_, fun x hx => ?_, fun x c hx h => ?_, I.ok.hd, I.ok.frames, .inl rfl, fun b hb => ⟨Nat.ne_of_lt (lt b hb), fun x c h z => ?_⟩, fun b o e => I.bs b o e, Nat.le_trans I.ok.bsz I.sz, fun b o e hb => ?_, fun b hb z => ?_, I.stack, I.stkFree⟩,
    rfl, I.bare, Un.kept keep, ⟨_, (Heap.Ns.new s.heap (.type "dict")).keeps (pushCells_keeps _ _), fun i x v h1 h2 h3 => ?_⟩, fun x c h => ?_, I.hok.fresh (Nat.le_refl _), fun x c h => ?_, fun p hp => absurd (show p ∈ ([] : List (Addr × Obj)) from hp) (by simp), I.hok.kept keep, ?_⟩
  · rcases mem x c h1 with p1 | p1 <;> rcases mem y c h2 with p2 | p2
    · exact name_of_addr new.apart p1 p2
    · exact absurd (Nat.lt_of_lt_of_le (oldlt y c p2) (Nat.le_trans (Nat.le_succ _) (new.empty x c p1).2)) (Nat.lt_irrefl _)
    · exact absurd (Nat.lt_of_lt_of_le (oldlt x c p1) (Nat.le_trans (Nat.le_succ _) (new.empty y c p2).2)) (Nat.lt_irrefl _)
    · exact I.ok.inj x y c p1 p2
  · rcases relabel_back (scope := scope) (env := X.env) hx with q | q
    · exact Option.isSome_iff_exists.mp (PySem.W.cellsFrom_some scope.names _ _ (.inl q))
    · obtain ⟨c, hc⟩ := I.ok.has x (C.fr x (PySem.mem_of_lookup q))
      exact ⟨c, fre x c q hc⟩
  · have hx : scope.names.lookup x = some .cell := by simpa [cxComp] using hx
    rcases mem x c h with q | q
    · exact Nat.le_trans (Nat.le_succ _) (new.empty x c q).2
    ·
      have e : (cellsFrom (s.heap.objs.size + 1) scope.names (closL X.env.cells scope.names [])).lookup x = some c := h
      rw [cellsFrom_app, List.lookup_append] at e
      obtain ⟨d, hd⟩ := Option.isSome_iff_exists.mp (PySem.W.cellsFrom_some scope.names (s.heap.objs.size + 1) [] (.inl hx))
      rw [hd] at e
      cases e
      exact Nat.le_trans (Nat.le_succ _) (new.empty x _ (PySem.mem_of_lookup hd)).2
  · rcases mem x c h with q | q
    · have := (new.empty x c q).2
      rw [z] at this
      exact absurd (Nat.lt_of_lt_of_le (lt b hb) (Nat.le_trans (Nat.le_succ _) this)) (Nat.lt_irrefl _)
    · exact (hf b hb).2.2.2.2.1 x c q z
  · obtain ⟨_, _, _, h1, _⟩ := hf b hb
    rcases h1 with h1 | h1
    · exact I.ok.noex b o e h1
    · exact absurd (Nat.lt_of_lt_of_le (Heap.lt_size (I.ok.bs b o e).1) h1) (Nat.lt_irrefl _)
  · obtain ⟨_, h1, h2, _⟩ := hf b hb
    exact (List.mem_cons.mp (I.stkSub b z)).elim h1 h2
  ·
    obtain ⟨j, hj, hv⟩ : ∃ j, js[i]? = some (some j) ∧ (σ[j]?).getD none = some v := by
      have h2 : (js.map fun j => match j with | some j => (σ[j]?).getD none | none => none)[i]? = some (some v) := h2
      rw [List.getElem?_map] at h2
      cases e : js[i]? with
      | none => rw [e] at h2; cases h2
      | some o =>
        rw [e] at h2
        cases o with
        | none => cases h2
        | some j => exact ⟨j, rfl, Option.some.inj h2⟩
    obtain ⟨y, e1, e2, e3⟩ := C.at_ i j hj
    have exy : y = x := Option.some.inj (e1.symm.trans (show N'[i]? = some x from h1))
    rw [exy] at e2 e3
    have hs : σ[j]? = some (some v) := by
      cases e : σ[j]? with
      | none => rw [e] at hv; cases hv
      | some o => rw [e] at hv; exact congrArg some hv
    have kx := C.fr x (PySem.mem_of_lookup e3)
    obtain ⟨m, hn, hl⟩ := I.loc
    obtain ⟨u, r, l⟩ := hl j x v e2 hs (kx.elim (fun z => .inr (.inl z)) fun z => .inr (.inr z))
    refine ⟨u, r, .inr ⟨relabel_free e3, ?_⟩⟩
    rcases l with ⟨k, _⟩ | ⟨_, c, hc, hcell⟩
    · rcases kx with z | z
      · rw [z] at k; cases k
      · rw [z] at k; cases k
    · exact ⟨c, fre x c e3 hc, hcell.keeps keep⟩
  · rcases mem x c h with q | q
    · exact ⟨none, (new.empty x c q).1⟩
    · obtain ⟨v, z⟩ := I.cell x c q
      exact ⟨v, z.keeps keep⟩
  · rcases mem x c h with q | q
    · exact I.hok.fresh (Nat.le_trans (Nat.le_succ _) (new.empty x c q).2)
    · exact I.freeC x c q
  · show (compSt js σ).length = N'.length
    unfold compSt
    rw [List.length_map, C.len]
theorem comp_env {M : Model} {A : Around} {E : Value → Shared → Prop} {env : Env} {cl : List (Str × Addr)} {Q : Env → Shared → Prop}
    (h : Q (newEnv scope s.heap.objs.size env.globals (cellsFrom (s.heap.objs.size + 1) scope.names cl) env.qual none .none (some env) builtinsNs) { s with heap := pushCells (s.heap.push { cls := .type "dict", data := .dict #[] }) scope.names }) :
    wpAny M A (newFunctionEnv scope env.globals cl [] env.qual none .none (some env)) Q E s := by
  simp only [newFunctionEnv, Option.isSome_some, if_true]
  refine wpAny_bind (wpAny_alloc ?_)
  refine wpAny_bind (wpAny_layCells _ (fun name kind cells => by cases hkc : kind == NameKind.cell <;> simp [hkc]) _ _ _ _ ?_)
  rw [show ({ s with heap := s.heap.push { cls := .type "dict", data := .dict #[] } } : Shared).heap.objs.size = s.heap.objs.size + 1 from Heap.size_push ..]
  simp only [List.forIn_nil]
  exact wpAny_bind (wpAny_pure (wpAny_pure h))
noncomputable def PF (X : Cx) (ifs : List Expr) (t : TT) : Prop :=
  ∀ (pins : List (Addr × Obj)) (s : Shared) (σ : St) (H : Hp) (Q : Bool → Hp → Prop), Inv X pins σ H s → t σ H Q →
    wpAny (model X.prog X.w) X.A (forIn ifs true fun c r => if r = true then do let ok ← isTrue c X.env (eval c X.env); pure (ForInStep.yield ok) else pure (ForInStep.yield r)) (TP X pins σ Q) X.xe s
noncomputable def tNoIf : TT := fun _ H Q => Q true H
theorem pf_nil : PF X [] tNoIf := fun _ _ _ H _ I h => wpAny_tests_nil ⟨H, I, h⟩
theorem pf_one {c : Expr} {t : TT} (h : PT X c t) : PF X [c] t := fun pins s σ H Q I q => wpAny_tests_one (h pins s σ H Q I q)
theorem compLoop_any {prog : Program} {w : World} {A : Around} {R : Result → Shared → Prop} {s : Shared} {elt target iter : Expr} {ifs : List Expr} {scope : Scope} {pos : Pos} {it acc : Value} {env : Env} (I : Nat → Shared → Prop)
    (turn : ∀ n s, I n s → wpAny (model prog w) A (pyNext it) (fun r s₁ => match r with
      | none => R (.ok .next) s₁
      | some v => wpAny (model prog w) A (letOwnedTupleGo target it v) (fun _ s₀ => wpAny (model prog w) A (assign target env v) (fun _ s₂ =>
          wpAny (model prog w) A (forIn ifs true fun c r => if r = true then do let ok ← isTrue c env (eval c env); pure (ForInStep.yield ok) else pure (ForInStep.yield r)) (fun ok s₃ =>
            if ok = true then wpAny (model prog w) A (eval elt env) (fun x s₄ =>
              wpAny (model prog w) A (call (.builtin "list.append") [acc, x]) (fun _ s₅ => ∃ m, m < n ∧ I m s₅) (notedBy (model prog w) A env fun e s' => R (.error e) s') s₄) (notedBy (model prog w) A env fun e s' => R (.error e) s') s₃
            else ∃ m, m < n ∧ I m s₃) (notedBy (model prog w) A env fun e s' => R (.error e) s') s₂) (notedBy (model prog w) A env fun e s' => R (.error e) s') s₀) (notedBy (model prog w) A env fun e s' => R (.error e) s') s₁) (notedBy (model prog w) A env fun e s' => R (.error e) s') s)
    (n : Nat) (h : I n s) : codeAny (model prog w) A (.compLoop (.ListComp elt [⟨target, iter, ifs, 0⟩] scope pos) 0 it acc env) R s := by
  refine codeAny_loop rfl I (fun n s hI => ?_) n h
  show wpAny _ A ((compTurn (.ListComp elt [⟨target, iter, ifs, 0⟩] scope pos) 0 it acc env).onRaise (fun x => do noteFrame x env; theTreesLotGoes x)) _ _ s
  refine wpAny_noted ?_
  rw [compTurn_list]
  refine wpAny_bind (wpAny_standAt (wpAny_bind (wpAny_mono (turn n s hI) (fun r s₁ h₁ => ?_) fun _ _ h' => h')))
  cases r with
  | none => exact wpAny_pure h₁
  | some v =>
    refine wpAny_bind (wpAny_mono h₁ (fun _ s₀ h₀ => ?_) fun _ _ h' => h')
    refine wpAny_bind (wpAny_mono h₀ (fun _ s₂ h₂ => wpAny_bind (wpAny_mono h₂ (fun ok s₃ h₃ => ?_) fun _ _ h' => h')) fun _ _ h' => h')
    cases ok with
    | false => exact wpAny_pure ⟨rfl, h₃⟩
    | true =>
      exact wpAny_bind (wpAny_bind (wpAny_mono h₃ (fun x s₄ h₄ => wpAny_bind (wpAny_mono h₄ (fun _ s₅ h₅ => wpAny_pure (wpAny_pure ⟨rfl, h₅⟩)) fun _ _ h' => h')) fun _ _ h' => h'))
noncomputable def tCompW (J : It) (g : TG) (tf : TT) (te : TE) (D : Addr) (σ0 : St) (H1 : Hp) (Q : Hp → Prop) : Prop :=
  ∃ W : Nat → Nat → St → Hp → Prop, (∃ m, W 0 m σ0 (upd H1 D (.lst []))) ∧ ∀ i m σ H, W i m σ H →
    (J.stop i H ∧ Q H) ∨ (J.go i H ∧ ∀ x H2, J.yld i H x H2 → g x σ H2 fun σ2 H3 => tf σ2 H3 fun b H4 =>
      if b = true then te σ2 H4 fun y H5 => ∃ zs, H5 D = some (.lst zs) ∧ zs.length < sizeLine ∧ ∃ m', m' < m ∧ W (i + 1) m' σ2 (upd H5 D (.lst (zs ++ [y])))
      else ∃ m', m' < m ∧ W (i + 1) m' σ2 H4)
noncomputable def tComp (js : List (Option Nat)) (wi : TI) (g : Shared → Hp → List Addr → TG) (tf : Shared → Hp → List Addr → TT) (te : Shared → Hp → List Addr → TE) : TE := fun σ H Q => wi σ H fun J H1 => ∀ (D : Addr), H1 D = none → ∀ (s0 : Shared) (H0 : Hp) (fp : List Addr), tCompW J (g s0 H0 fp) (tf s0 H0 fp) (te s0 H0 fp) D (compSt js σ) H1 fun H' => Q (.ref D) H'
theorem comp_run {tg iter elt : Expr} {ifs : List Expr} {pos : Pos} {J : It} {it : Addr} {tn : Nat → Heap → Prop} {g : Shared → Hp → TG} {tf : Shared → Hp → TT} {te : Shared → Hp → TE} {E : Value → Shared → Prop} {RR : Value → Addr → Result → Shared → Prop} {Q : Addr → Hp → Prop}
    (hc : X.calm = true) (C : CompOk X N' js scope) (I : Inv X pins σ H s) (T : Turn X.prog X.w X.K tg J fp it tn) (st : tn 0 s.heap) (hf : ∀ b ∈ fp, FpOk X pins H b)
    (body : ∀ (s0 : Shared) (H0 : Hp), PG (cxComp X N' scope s0 H0 fp) tg (g s0 H0) ∧ PF (cxComp X N' scope s0 H0 fp) ifs (tf s0 H0) ∧ PE (cxComp X N' scope s0 H0 fp) elt (te s0 H0))
    (h : ∀ D, H D = none → ∀ (s0 : Shared) (H0 : Hp), tCompW J (g s0 H0) (tf s0 H0) (te s0 H0) D (compSt js σ) H (Q D))
    (hRR : ∀ (D C : Addr) (H' : Hp) (s' : Shared) (m : Str → Option Value), s'.heap.Ns C m → s.heap.objs.size ≤ C → (∀ p ∈ X.pn ++ pins, p.1 ≠ C) → H' C = none → C ≠ X.env.locals → (∀ x c, X.env.cells.lookup x = some c → c ≠ C) → (X.s₀.heap.objs.size ≤ C) → Inv X pins σ H' s' → Q D H' → RR (.ref D) C (.ok .next) s') :
    wpAny (model X.prog X.w) X.A (newList []) (fun acc s₃ => wpAny (model X.prog X.w) X.A (newFunctionEnv scope X.env.globals (closL X.env.cells scope.names []) [] X.env.qual none .none (some X.env)) (fun cenv s₄ =>
      codeAny (model X.prog X.w) X.A (.compStart (.ListComp elt [⟨tg, iter, ifs, 0⟩] scope pos) 0 (.ref it) acc { cenv with scope := relabel scope X.env }) (RR acc cenv.locals) s₄) E s₃) E s := by
  have hfr : H s.heap.objs.size = none := I.hok.fresh (Nat.le_refl _)
  have I1 : Inv X pins σ (upd H s.heap.objs.size (.lst [])) { s with heap := s.heap.push { cls := .type "list", dict := none, data := .seq ([] : List Value).toArray } } :=
    I.laid (t' := s.toks) (fun b u e => Heap.get?_push_of_some _ e) (Nat.le_refl _) ⟨Nat.zero_le _, [], _, .nil, Heap.get?_push_size _ rfl⟩
  refine wpAny_newObj_type (comp_env ?_)
  have st1 : tn 0 (s.heap.push { cls := .type "list", dict := none, data := .seq ([] : List Value).toArray }) := T.keep _ _ _ st fun b hb o e => Heap.get?_push_of_some _ e
  have lt : ∀ b ∈ fp, b < s.heap.objs.size := fun b hb => let ⟨_, e, _⟩ := T.obj _ _ st b hb; Heap.lt_size e
  have hf1 : ∀ b ∈ fp, FpOk X pins (upd H s.heap.objs.size (.lst [])) b := fun b hb => ⟨by rw [upd_ne (Nat.ne_of_lt (lt b hb))]; exact (hf b hb).1, (hf b hb).2⟩
  have I2 := comp_start (fp := fp) I1 C hf1 (fun b hb => let ⟨o, e, _⟩ := T.obj _ _ st1 b hb; ⟨o, e⟩)
  have st2 : tn 0 (pushCells ((s.heap.push { cls := .type "list", dict := none, data := .seq ([] : List Value).toArray }).push { cls := .type "dict", data := .dict #[] }) scope.names) := T.keep _ _ _ st1 fun b hb o e => pushCells_keeps _ _ b o (Heap.get?_push_of_some _ e)
  obtain ⟨W, ⟨m0, w0⟩, turn⟩ := h _ hfr { s with heap := s.heap.push { cls := .type "list", dict := none, data := .seq ([] : List Value).toArray } } (upd H s.heap.objs.size (.lst []))
  obtain ⟨bg, bf, be⟩ := body { s with heap := s.heap.push { cls := .type "list", dict := none, data := .seq ([] : List Value).toArray } } (upd H s.heap.objs.size (.lst []))
  generalize hs1 : ({ s with heap := s.heap.push { cls := .type "list", dict := none, data := .seq ([] : List Value).toArray } } : Shared) = s1 at I1 I2 st2 bg bf be turn ⊢
  have es1 : s1.heap = s.heap.push { cls := .type "list", dict := none, data := .seq ([] : List Value).toArray } := by rw [← hs1]
  have sz1 : s1.heap.objs.size = s.heap.objs.size + 1 := by rw [es1, Heap.size_push]
  rw [← es1] at st2
  have stat : ∀ {H' : Hp}, (∀ b ∈ fp, H' b = none) → ∀ b ∈ fp, FpOk (cxComp X N' scope s1 (upd H s.heap.objs.size (.lst [])) fp) [] H' b := fun hn b hb => by
    refine ⟨hn b hb, (I2.ok.exf b hb).1, ?_, .inl hb, (I2.ok.exf b hb).2, fun p hp => absurd (show p ∈ ([] : List (Addr × Obj)) from hp) (by simp)⟩
    exact I2.ok.exfs b hb
  have outE : ∀ {α : Type} {t : Sem α} {QQ : α → Shared → Prop} {E' : Value → Shared → Prop} {s' : Shared}, wpAny (model X.prog X.w) X.A t QQ (fun _ _ => False) s' → wpAny (model X.prog X.w) X.A t QQ E' s' := fun q => wpAny_mono q (fun _ _ z => z) fun _ _ z => z.elim
  have loop : ∀ s2 : Shared, s2 = { s1 with heap := pushCells (s1.heap.push { cls := .type "dict", data := .dict #[] }) scope.names } →
      codeAny (model X.prog X.w) X.A (.compLoop (.ListComp elt [⟨tg, iter, ifs, 0⟩] scope pos) 0 (.ref it) (.ref s.heap.objs.size) (cxComp X N' scope s1 (upd H s.heap.objs.size (.lst [])) fp).env) (RR (.ref s.heap.objs.size) s1.heap.objs.size) s2 := by
    rintro s2 rfl
    refine compLoop_any (fun n s' => ∃ i σ' H', Inv (cxComp X N' scope s1 (upd H s.heap.objs.size (.lst [])) fp) [] σ' H' s' ∧ tn i s'.heap ∧ (∀ b ∈ fp, H' b = none) ∧ W i n σ' H') ?_ m0 ⟨0, _, _, I2, st2, fun b hb => (hf1 b hb).1, w0⟩
    rintro n s3 ⟨i, σ3, H3, I3, st3, fr3, w3⟩
    rcases turn i n σ3 H3 w3 with ⟨stop, q⟩ | ⟨go, step⟩
    · refine outE (thn (T.done (cxComp X N' scope s1 (upd H s.heap.objs.size (.lst [])) fp) rfl rfl rfl hc i [] s3 σ3 H3 (fun _ _ => False) I3 (stat fr3) st3 stop) fun r s4 ⟨hr, I4⟩ => ?_)
      subst hr
      have u4 : Un (frs X.stack) fp (upd H s.heap.objs.size (.lst [])) H3 s1.heap s4.heap := I4.base
      have IX : Inv X pins σ H3 s4 := I1.call' I4.os u4 I4.hok I4.bare fun b hb => by
        obtain ⟨_, f1, _, f3, f4, f5⟩ := hf1 b hb
        exact ⟨f3, f1, f4, f5⟩
      obtain ⟨m, hn, _⟩ := I4.loc
      have cle : s.heap.objs.size ≤ s1.heap.objs.size := by rw [sz1]; exact Nat.le_succ _
      have clt : ∀ b, b < s1.heap.objs.size → b ≠ s1.heap.objs.size := fun b hb => Nat.ne_of_lt hb
      refine hRR _ s1.heap.objs.size H3 s4 m hn cle (fun p hp => clt _ (Heap.lt_size (I1.pin p hp).1)) I4.free (Ne.symm (clt _ I1.lt)) (fun x c e => ?_) (Nat.le_trans I.sz cle) IX q
      obtain ⟨v, z⟩ := I1.cell x c e
      exact clt _ z.lt
    · refine outE (thn (T.item (cxComp X N' scope s1 (upd H s.heap.objs.size (.lst [])) fp) rfl rfl rfl hc i [] s3 σ3 H3 (fun _ _ => False) I3 (stat fr3) st3 go) fun r s4 ⟨u, hr, h4⟩ => ?_)
      subst hr
      refine outE (thn h4 fun _ s5 ⟨x, H5, I5, r5, y5, st5, fr5⟩ => ?_)
      have I5' := I5.pinned (stat fr5) (T.obj _ _ st5)
      refine outE (thn (bg _ s5 σ3 H5 x u _ I5' r5 (step x H5 y5)) fun _ s6 ⟨σ6, H6, I6, q6⟩ => ?_)
      refine outE (thn (bf _ s6 σ6 H6 _ I6 q6) fun ok s7 ⟨H7, I7, q7⟩ => ?_)
      have again : ∀ {s8 : Shared} {σ8 : St} {H8 : Hp} {m' : Nat}, Inv (cxComp X N' scope s1 (upd H s.heap.objs.size (.lst [])) fp) ([] ++ pinsAt fp s5.heap) σ8 H8 s8 → m' < n → W (i + 1) m' σ8 H8 →
          ∃ m, m < n ∧ ∃ i σ' H', Inv (cxComp X N' scope s1 (upd H s.heap.objs.size (.lst [])) fp) [] σ' H' s8 ∧ tn i s8.heap ∧ (∀ b ∈ fp, H' b = none) ∧ W i m σ' H' := fun {s8 σ8 H8 m'} I8 hm w8 => by
        refine ⟨m', hm, i + 1, σ8, H8, I8.unpinned, T.keep _ _ _ st5 fun b hb o e => (I8.pin (b, o) (List.mem_append_right _ (List.mem_append_right _ (mem_pinsAt hb e)))).1, fun b hb => ?_, w8⟩
        obtain ⟨o, e, d⟩ := T.obj _ _ st5 b hb
        exact (I8.pin (b, o) (List.mem_append_right _ (List.mem_append_right _ (mem_pinsAt hb e)))).2.1
      cases ok with
      | false =>
        rw [if_neg Bool.false_ne_true] at q7 ⊢
        obtain ⟨m', hm, w8⟩ := q7
        exact again I7 hm w8
      | true =>
        rw [if_pos rfl] at q7 ⊢
        refine outE (thn (be _ s7 σ6 H7 _ I7 q7) fun y s8 ⟨v, H8, I8, r8, zs, hz, hlen, m', hm, w8⟩ => ?_)
        obtain ⟨hzl, its, k, rv, e8⟩ := I8.hok _ _ hz
        refine outE (PyProof.Rows.append_at (hsz := by rw [List.size_toArray, ← rv.length]; exact hzl) e8 fun h9 sb e9 => ?_)
        rw [List.push_toArray] at e9
        have I9 : Inv (cxComp X N' scope s1 (upd H s.heap.objs.size (.lst [])) fp) ([] ++ pinsAt fp s5.heap) σ6 (upd H8 s.heap.objs.size (.lst (zs ++ [v]))) { s8 with heap := h9 } :=
          I8.write (t' := s8.toks) (by rw [hz]; trivial) (.inl rfl) (fun b o hb e => (sb.2 b hb).trans e) ⟨_, e9⟩ ⟨by rw [List.length_append, List.length_singleton]; exact hlen, its ++ [y], k + 1, rv.append (.cons r8 .nil), e9⟩
        exact again I9 hm w8
  show codeAny (model X.prog X.w) X.A (.compStart (.ListComp elt [⟨tg, iter, ifs, 0⟩] scope pos) 0 (.ref it) (.ref s.heap.objs.size) (cxComp X N' scope s1 (upd H s.heap.objs.size (.lst [])) fp).env) (RR (.ref s.heap.objs.size) s1.heap.objs.size) { s1 with heap := pushCells (s1.heap.push { cls := .type "dict", data := .dict #[] }) scope.names }
  exact codeAny_compStart_list (loop _ rfl) (T.self X.A 0 _ _ _ st2 (loop _ rfl))
theorem lookup_of_nodup {α : Type} {n : Str} {c : α} : ∀ {l : List (Str × α)}, (l.map (·.1)).Nodup → (n, c) ∈ l → l.lookup n = some c
  | [], _, h => nomatch h
  | (m, e) :: r, hn, hm => by
    have hn : (m :: r.map (·.1)).Nodup := hn
    obtain ⟨h1, h2⟩ := List.nodup_cons.mp hn
    rw [List.lookup_cons]
    rcases List.mem_cons.mp hm with q | q
    · cases q; simp
    · have hne : (n == m) = false := by
        cases hb : n == m with
        | false => rfl
        | true => exact absurd (List.mem_map.mpr ⟨(n, c), q, beq_iff_eq.mp hb⟩) h1
      rw [hne]
      exact lookup_of_nodup h2 q
variable {tg iter elt : Expr} {ifs : List Expr} {pos : Pos} {wi : TI} {g : Shared → Hp → List Addr → TG} {tf : Shared → Hp → List Addr → TT} {te : Shared → Hp → List Addr → TE}
theorem pe_comp (hc : X.calm = true) (C : CompOk X N' js scope) (hi : PI X tg iter wi)
    (body : ∀ (s0 : Shared) (H0 : Hp) (fp : List Addr), PG (cxComp X N' scope s0 H0 fp) tg (g s0 H0 fp) ∧ PF (cxComp X N' scope s0 H0 fp) ifs (tf s0 H0 fp) ∧ PE (cxComp X N' scope s0 H0 fp) elt (te s0 H0 fp))
    (hs : ∀ x, foldedSetIterable iter X.env x = pure x := by intro _; rfl) : PE X (.ListComp elt [⟨tg, iter, ifs, 0⟩] scope pos) (tComp js wi g tf te) := by
  intro pins s σ H Q I h
  rw [eval_ListComp]
  have hcl : closureFor scope X.env = pure (closL X.env.cells scope.names []) := closureFor_eq fun n hn => Option.isSome_iff_exists.mpr (I.ok.has n (C.fr n hn))
  refine wpAny_comprehension_free (use := none) rfl hs hcl C.kind (fun x hx hl => lookup_of_nodup C.nd (by rw [← hl]; exact hx)) (thn (hi pins s σ H _ I h) fun v s1 h1 => thn h1 fun itv s2 h2 => ?_)
  obtain ⟨it, fp, tn, J, H2, e, I2, T, st2, f2, q⟩ := h2
  subst e
  refine comp_run (RR := fun acc C => compPost (model X.prog X.w) X.A X.xe none (EP X pins σ Q) acc C) hc C I2 T st2 f2 (g := fun s0 H0 => g s0 H0 fp) (tf := fun s0 H0 => tf s0 H0 fp) (te := fun s0 H0 => te s0 H0 fp) (fun s0 H0 => body s0 H0 fp) (Q := fun D H' => Q (.ref D) H') (fun D hD s0 H0 => q D hD s0 H0 fp) ?_
  intro D Ca H' s' m hn hle hp hC hL hcel hs0 I' q'
  exact ⟨m, hn, fun h' hs' => ⟨.ref D, H', I'.turned (t' := s'.toks) (it := Ca) (fun b o hb e => (hs'.2 b hb).trans e) hC hL (.inr hs0) hcel hp, rfl, q'⟩⟩
theorem ps_setc {i : Nat} {x : Str} {px cpos : Pos} (hc : X.calm = true) (C : CompOk X N' js scope) (hi : PI X tg iter wi)
    (body : ∀ (s0 : Shared) (H0 : Hp) (fp : List Addr), PG (cxComp X N' scope s0 H0 fp) tg (g s0 H0 fp) ∧ PF (cxComp X N' scope s0 H0 fp) ifs (tf s0 H0 fp) ∧ PE (cxComp X N' scope s0 H0 fp) elt (te s0 H0 fp))
    (hN : X.N.Nodup) (hix : X.N[i]? = some x) (hx : Loc X.env.scope x)
    (hsw : swapsWith (.ListComp elt [⟨tg, iter, ifs, 0⟩] scope cpos) (some (.Name x px)) pos.line X.env = pure true := by rfl) (hf : X.fn x = true ∨ X.env.scope.names.lookup x = some .local := by trivial)
    (hs : ∀ x, foldedSetIterable iter X.env x = pure x := by intro _; rfl) : PS X (.Assign [.Name x px] (.ListComp elt [⟨tg, iter, ifs, 0⟩] scope cpos) pos) (tAsg (tComp js wi g tf te) (gName i)) := by
  intro pins s σ H D0 I h
  rw [exec_Assign_Name_used _ _ _ _ hsw]
  refine wpAny_bind (wpAny_standAt (wpAny_bind ?_))
  show wpAny _ X.A (do let _ ← comprehension (.ListComp elt [⟨tg, iter, ifs, 0⟩] scope cpos) scope X.env _ (newList []) false (eval iter X.env) (some (assign (.Name x px) X.env))) _ _ s
  have hcl : closureFor scope X.env = pure (closL X.env.cells scope.names []) := closureFor_eq fun n hn => Option.isSome_iff_exists.mpr (I.ok.has n (C.fr n hn))
  refine wpAny_bind (wpAny_mono (wpAny_comprehension_free (use := some (assign (.Name x px) X.env)) (Q := fun _ s' => SP X pins D0 .next s') rfl hs hcl C.kind (fun x hx hl => lookup_of_nodup C.nd (by rw [← hl]; exact hx)) (thn (hi pins s σ H _ I h) fun v s1 h1 => thn h1 fun itv s2 h2 => ?_))
    (fun _ s' hq => wpAny_pure (wpAny_pure hq)) fun _ _ e => e)
  obtain ⟨it, fp, tn, J, H2, e, I2, T, st2, f2, q⟩ := h2
  subst e
  refine comp_run (RR := fun acc C => compPost (model X.prog X.w) X.A X.xe (some (assign (.Name x px) X.env)) (fun _ s' => SP X pins D0 .next s') acc C) hc C I2 T st2 f2 (g := fun s0 H0 => g s0 H0 fp) (tf := fun s0 H0 => tf s0 H0 fp) (te := fun s0 H0 => te s0 H0 fp) (fun s0 H0 => body s0 H0 fp) (Q := fun D H' => D0.nx (σ.set i (some (.ref D))) H') (fun D hD s0 H0 => q D hD s0 H0 fp) ?_
  intro D Ca H' s' m hn hle hp hC hL hcel hs0 I' q'
  show wpAny _ X.A (assign (.Name x px) X.env (.ref D)) _ _ _
  refine wpAny_assign_Name (store_ok2 I' hN hix hx (v := .ref D) rfl (fun s'' I'' hsb => ?_) hf)
  obtain ⟨a, sb, ha⟩ := hsb
  have nCa : Ca ≠ a := by
    rcases ha with z | z
    · rw [z]; exact hL
    · exact fun w => hcel x a z w.symm
  exact ⟨m, hn.sameBut sb nCa, fun h' hs' => ⟨σ.set i (some (.ref D)), H', I''.turned (t' := s''.toks) (it := Ca) (fun b o hb e => (hs'.2 b hb).trans e) hC hL (.inr hs0) hcel hp, q'⟩⟩
end
end L2
namespace L2
open PySem PySem.Spec PyProof.Rows
section
variable {prog : Program} {w : World} {A : Around} {E : Value → Shared → Prop} {s : Shared}
end
section
variable {X : Cx} {pins : List (Addr × Obj)} {σ : St} {H : Hp} {s : Shared} {h' : Heap}
end
section
variable {X : Cx}
end
end L2
namespace HT
open PySem PySem.Spec PyProof.Rows
section
variable {prog : Program} {w : World} {A : Around} {E : Value → Shared → Prop} {s : Shared}
theorem getItem_tuple_all {t sl : Addr} {items : Array Value} {vl vu : Value} {lo hi : Option Int} {Q : Value → Shared → Prop} (ht : IsTup s.heap t items) (hs : s.heap.IsSliceOf sl vl vu .none) (pl : IsPart vl lo) (pu : IsPart vu hi)
    (hw : sIx items.size 0 lo = 0 ∧ sIx items.size items.size hi = items.size) (h : Q (.ref t) s) : wpAny (model prog w) A (getItem (.ref t) (.ref sl)) Q E s := by
  obtain ⟨os, hos, hcs, hds⟩ := id hs
  have hTs : s.TypeIs (.ref sl) "slice" := ⟨os, hos, hcs⟩
  unfold getItem
  try with_reducible refine wpAny_holding ?_
  first | refine wpAny_bind (wpAny_pure ?_) | skip
  refine wpAny_bind (wpAny_sequenceKey ht.typeIs (by decide) ?_)
  refine wpAny_bind (wpAny_callSpecial?_slot (name := Str.ofString "__getitem__") ht.typeIs PyProof.Rows.slot_tuple_getitem
    (wpAny_call_entry PyProof.Rows.slot_tuple_getitem ht.typeIs entry_tuple_getitem ?_ (args_tuple_getitem _ _)))
  show wpAny _ _ (Builtin.Tuple.tupleItemsOf (.ref t) >>= _) _ _ s
  refine wpAny_bind (tupleItemsOf_ ht ?_)
  refine wpAny_bind (wpAny_typeOf hTs ?_)
  rw [if_pos (by decide)]
  refine wpAny_bind (sliceApplied_gen hs pl pu ?_)
  have hyes : (((sIx items.size 0 lo : Nat) : Int) == 0 && (1 : Int) == 1 && (sIx items.size items.size hi - sIx items.size 0 lo) == items.size) = true := by
    rw [hw.1, hw.2]; simp
  show wpAny _ _ (if (((sIx items.size 0 lo : Nat) : Int) == 0 && (1 : Int) == 1 && (sIx items.size items.size hi - sIx items.size 0 lo) == items.size) = true then _ else _) _ _ s
  rw [if_pos hyes]
  refine wpAny_bind (m := Builtin.Tuple.tupleIsExact _) ?_
  unfold Builtin.Tuple.tupleIsExact
  refine wpAny_bind (wpAny_typeOf ht.typeIs (wpAny_pure ?_))
  rw [if_pos (by decide)]
  exact wpAny_bind (wpAny_rule (wpAny_bind (wpAny_pure (wpAny_pure ⟨_, rfl, wpAny_pure h⟩))))
end
end HT
namespace L2
open PySem PySem.Spec PyProof.Rows
section
variable {X : Cx}
end
end L2
namespace L2
open PySem PySem.Spec PyProof.Rows
mutual
inductive Is (H : Hp) : V → PyData → Prop
  | non : Is H .non .none
  | bl (b : Bool) : Is H (.bl b) (.bool b)
  | int (i : Int) : Is H (.int i) (.int i)
  | str (x : Str) : Is H (.str x) (.str x)
  | lst {a : Addr} {xs : List V} {ds : List PyData} : H a = some (.lst xs) → Iss H xs ds → Is H (.ref a) (.list ds)
  | tup {a : Addr} {xs : List V} {ds : List PyData} : H a = some (.tup xs) → Iss H xs ds → Is H (.ref a) (.tuple ds)
inductive Iss (H : Hp) : List V → List PyData → Prop
  | nil : Iss H [] []
  | cons {x : V} {d : PyData} {xs : List V} {ds : List PyData} : Is H x d → Iss H xs ds → Iss H (x :: xs) (d :: ds)
end
mutual
theorem Is.mono {H H' : Hp} (s : Same H H') : ∀ {v : V} {d : PyData}, Is H v d → Is H' v d
  | _, _, .non => .non
  | _, _, .bl b => .bl b
  | _, _, .int i => .int i
  | _, _, .str x => .str x
  | _, _, .lst e h => .lst (s _ _ e) (Iss.mono s h)
  | _, _, .tup e h => .tup (s _ _ e) (Iss.mono s h)
theorem Iss.mono {H H' : Hp} (s : Same H H') : ∀ {xs : List V} {ds : List PyData}, Iss H xs ds → Iss H' xs ds
  | _, _, .nil => .nil
  | _, _, .cons h t => .cons (Is.mono s h) (Iss.mono s t)
end
theorem Iss.length {H : Hp} : ∀ {xs : List V} {ds : List PyData}, Iss H xs ds → xs.length = ds.length
  | _, _, .nil => rfl
  | _, _, .cons _ t => by rw [List.length_cons, List.length_cons, Iss.length t]
section
variable {X : Cx} {pins : List (Addr × Obj)} {σ : St} {H : Hp} {s : Shared}
theorem mt_bits : MtR X "int.bit_length" (fun x vs H Q => ∃ i, x = .int i ∧ vs = [] ∧ Q (.int (Builtin.Int.intBits i : Nat)) H) := by
  intro pins s σ H x xs v us Q I rx r h
  obtain ⟨i, rfl, rfl, q⟩ := h
  obtain ⟨t, rfl⟩ := rx
  cases r
  exact PyProof.Rows.call_int_bit_length ⟨.int (Builtin.Int.intBits i : Nat), H, I.tok _, ⟨_, rfl⟩, q⟩
end
end L2
namespace L2
open PySem PySem.Spec PyProof.Rows
structure Cal (P : Program) (w : World) (K : PySem.W.Frag) (mg : Str → Option Value) (base : Heap) (k : Nat) (x : Str) (ps : List Str) (sp : Sp) : Prop where
  ex : ∃ (f : Addr) (fd : FuncData), FnOk P w K mg base CX0 k f fd ps sp ∧ mg x = some (.ref f) ∧ PySem.W.keepIn K (.ref f) = true ∧ Binds K fd ps []
section
variable {X : Cx} {k : Nat} {ps : List Str} {sp : Sp} {x : Str} {p pos : Pos} {e : Expr} {es : List Expr} {t : TA}
theorem pe_cal (c : Cal X.prog X.w X.K X.mg X.base k x ps sp) (hr : Room k X.A) (hg : Gl X x) (ha : PA X (e :: es) t) (hdb : (x == ("__debug__" : Str)) = false := by decide)
    (he : starEach (e :: es) X.env = (false, eval e X.env) :: starEach es X.env := by rfl) (hpl : (backTo pos (starEach es X.env)).any (·.1) = false := by rfl) : PE X (.Call (.Name x p) (e :: es) [] pos) (tCall sp [] E0 t) := by
  obtain ⟨f, fd, F, hm, hk, hb⟩ := c.ex
  exact pe_call F hr hg hm hk hb .nil pass0 ha hdb he hpl
end
end L2
namespace L2
open PySem PySem.Spec PyProof.Rows
section
variable {X : Cx}
end
end L2
namespace L2
open PySem PySem.Spec PyProof.Rows
section
variable {X : Cx} {e st : Expr} {te : TE} {lo hi : Option Expr} {tl th ts : TO} {pos p2 : Pos}
end
end L2
namespace L2
open PySem PySem.Spec PyProof.Rows
section
variable {X : Cx}
end
end L2
namespace L2
open PySem PySem.Spec PyProof.Rows
section
variable {prog : Program} {w : World} {A : Around} {E : Value → Shared → Prop} {s : Shared}
end
section
variable {X : Cx} {pos : Pos}
end
end L2
namespace L2
open PySem PySem.Spec PyProof.Rows
section
variable {prog : Program} {w : World} {A : Around} {E : Value → Shared → Prop} {s : Shared}
end
end L2
namespace L2
open PySem PySem.Spec PyProof.Rows
section
variable {X : Cx}
end
end L2
namespace L2
open PySem PySem.Spec PyProof.Rows
section
variable {X : Cx} {tg : Expr}
end
section
variable {X : Cx}
end
end L2
namespace L2
open PySem
end L2
namespace L2
open PySem PySem.Spec PyProof.Rows
section
variable {prog : Program} {w : World} {A : Around} {E : Value → Shared → Prop} {s : Shared}
end
end L2
namespace L2
open PySem PySem.Spec PyProof.Rows
section
variable {prog : Program} {w : World} {A : Around} {E : Value → Shared → Prop} {s : Shared}
end
end L2
namespace L2
open PySem PySem.Spec PyProof.Rows
section
variable {X : Cx}
end
noncomputable def KDict (P : Program) (w : World) (K : PySem.W.Frag) (a : Addr) (kvs : List (Key × V)) : Prop := ∃ (o : Obj) (es : Array DictEntry) (ep : Nat) (vs : List (Key × Value)), K.lookup a = some o ∧ o.ExactDict ∧ o.data = .dict es ep ∧ KeysOf (mixKind P w) es ∧ Pairs (mixKind P w) es.toList vs ∧ (vs.map (·.1)).Nodup ∧ KV kvs vs
noncomputable def tGGet (kvs : List (Key × V)) (ty : TE) : TE := fun σ H Q => ty σ H fun y H1 => ∃ k v, y = kV k ∧ valV kvs k = some v ∧ Q v H1
theorem pe_gget {X : Cx} {x : Str} {a : Addr} {kvs : List (Key × V)} {i : Expr} {ty : TE} {p pos : Pos} (hg : Gl X x) (hm : X.mg x = some (.ref a)) (hk : KDict X.prog X.w X.K a kvs) (hi : PE X i ty) (hs : NoSl i) (hd : (x == ("__debug__" : Str)) = false := by decide) : PE X (.Subscript (.Name x p) i pos) (tGGet kvs ty) := by
  intro pins s σ H Q I h
  obtain ⟨o, es, ep, vs, h1, h2, h3, h4, h5, h6, h7⟩ := hk
  refine subD_of PySem.F.slot_dict_getitem.lookup hs (ld_glob I hg hm (thn (hi pins s σ H _ I h) fun iv s2 ⟨y, H2, I2, ry, k, v, ey, hv, q2⟩ => ?_) hd)
  subst ey
  have dd : s2.heap.DictOf (mixKind X.prog X.w) a vs := ⟨o, es, ep, I2.kIn a o h1, h2, h3, h4, h5, h6⟩
  obtain ⟨w', hw, rw'⟩ := RelO.some_of (v := v) (o := valueAt vs k) (by rw [← hv]; exact h7.val k)
  exact ⟨dd.typeIs, wpAny_getItem_of (kV_is ry) dd.mapOf hw ⟨v, H2, I2.tok _, rw', q2⟩⟩
end L2
namespace L2
open PySem
end L2
namespace L2
open PySem PySem.Spec PyProof.Rows
section
variable {X : Cx}
end
end L2
namespace DL
open PySem PySem.Spec L2
inductive D where
  | non | bl (b : Bool) | int (i : Int) | str (x : Str) | tup (xs : List D) | lst (xs : List D) | scr (xs : List D) | ref (i : Nat)
  | exc (cn : Str) (fs : List (Str × Int))
inductive O where
  | lst (xs : List D) | dT (kvs : List (List Key × D)) | dK (kvs : List (Key × D)) | ins (cn : Str) (fs : List (Str × D))
structure KP where
  K : PySem.W.Frag
  π : List Addr
noncomputable def VT (K : KP) (α : List Addr) (H : Hp) (a : Addr) (us : List V) : Prop := a ∉ α ∧ a ∉ K.π ∧ H a = some (.tup us)
noncomputable def VS (K : KP) (α : List Addr) (H : Hp) (a : Addr) (us : List V) : Prop :=
  (a ∉ α ∧ a ∉ K.π ∧ Rd H a (.lst us)) ∨ ∃ (o : Obj) (its : Array Value) (n : Nat), K.K.lookup a = some o ∧ o.cls = .type "list" ∧ o.dict = none ∧ o.data = .seq its n ∧ its.size ≤ sizeLine ∧ Vals us its.toList
noncomputable def VL (K : KP) (α : List Addr) (H : Hp) (a : Addr) (us : List V) : Prop := a ∉ α ∧ a ∉ K.π ∧ H a = some (.lst us)
noncomputable def VE (K : KP) (α : List Addr) (H : Hp) (a : Addr) (o : HO) : Prop := a ∉ α ∧ a ∉ K.π ∧ H a = some o
noncomputable def xDict (fs : List (Str × Int)) (dx : Addr) (h : Heap) : Prop := ∃ mA, h.Ns1 dx mA ∧ PySem.Within mA (fs.map (·.1)) ∧ ∀ f, RelO ((fs.lookup f).map V.int) (mA f)
noncomputable def xAny (C : Addr) (dx : Option Addr) (a : Addr) (h : Heap) : Prop := ∃ o vs, h.get? a = some o ∧ o.cls = .ref C ∧ o.dict = dx ∧ o.data = .fields vs
noncomputable def XQ (K : KP) (α : List Addr) (H : Hp) (dx : Option Addr) (fs : List (Str × Int)) : Prop := (dx = none ∧ fs = []) ∨ ∃ d, dx = some d ∧ VE K α H d (.ext (xDict fs d))
theorem XQ.map {K K' : KP} {α α' : List Addr} {H H' : Hp} {dx : Option Addr} {fs : List (Str × Int)} (hE : ∀ a o, VE K α H a o → VE K' α' H' a o) (h : XQ K α H dx fs) : XQ K' α' H' dx fs := h.imp id fun ⟨d, e, v⟩ => ⟨d, e, hE _ _ v⟩
theorem VT.sq {K : KP} {α : List Addr} {H : Hp} {a : Addr} {us : List V} (h : VT K α H a us) : SqT K.K H a us := .inl (.inl h.2.2)
theorem VS.sq {K : KP} {α : List Addr} {H : Hp} {a : Addr} {us : List V} (h : VS K α H a us) : SqL K.K H a us := by
  rcases h with ⟨_, _, h⟩ | h
  · exact .inl h
  · exact .inr h
theorem VL.sq {K : KP} {α : List Addr} {H : Hp} {a : Addr} {us : List V} (h : VL K α H a us) : SqL K.K H a us := SqL.of h.2.2
mutual
inductive RelD (K : KP) (α : List Addr) (H : Hp) : D → V → Prop
  | non : RelD K α H .non .non
  | bl (b : Bool) : RelD K α H (.bl b) (.bl b)
  | int (i : Int) : RelD K α H (.int i) (.int i)
  | str (x : Str) : RelD K α H (.str x) (.str x)
  | tup {a : Addr} {us : List V} {ds : List D} : VT K α H a us → RelDs K α H ds us → RelD K α H (.tup ds) (.ref a)
  | lst {a : Addr} {us : List V} {ds : List D} : VL K α H a us → RelDs K α H ds us → RelD K α H (.lst ds) (.ref a)
  | scr {a : Addr} {us : List V} {ds : List D} : VS K α H a us → RelDs K α H ds us → RelD K α H (.scr ds) (.ref a)
  | ref {i : Nat} {a : Addr} : α[i]? = some a → RelD K α H (.ref i) (.ref a)
  | exc {a C : Addr} {dx : Option Addr} {cn : Str} {fs : List (Str × Int)} : PySem.W.nsIn K.K mainGlobals cn = some (some (.ref C)) → VE K α H a (.ext (xAny C dx a)) → XQ K α H dx fs → RelD K α H (.exc cn fs) (.ref a)
inductive RelDs (K : KP) (α : List Addr) (H : Hp) : List D → List V → Prop
  | nil : RelDs K α H [] []
  | cons {d : D} {u : V} {ds : List D} {us : List V} : RelD K α H d u → RelDs K α H ds us → RelDs K α H (d :: ds) (u :: us)
end
theorem RelD.map {K K' : KP} {α α' : List Addr} {H H' : Hp} (hK : K'.K = K.K) (hT : ∀ a us, VT K α H a us → VT K' α' H' a us) (hL : ∀ a us, VL K α H a us → VL K' α' H' a us) (hS : ∀ a us, VS K α H a us → VS K' α' H' a us) (hE : ∀ a o, VE K α H a o → VE K' α' H' a o)
    (hR : ∀ (i : Nat) (a : Addr), α[i]? = some a → α'[i]? = some a) {d : D} {v : V} (r : RelD K α H d v) : RelD K' α' H' d v :=
  RelD.rec (motive_1 := fun d v _ => RelD K' α' H' d v) (motive_2 := fun ds us _ => RelDs K' α' H' ds us) .non .bl .int .str (fun t _ r => .tup (hT _ _ t) r) (fun t _ r => .lst (hL _ _ t) r) (fun t _ r => .scr (hS _ _ t) r) (fun h => .ref (hR _ _ h)) (fun n t r => .exc (by rw [hK]; exact n) (hE _ _ t) (r.map hE)) .nil (fun _ _ r t => .cons r t) r
theorem RelDs.map {K K' : KP} {α α' : List Addr} {H H' : Hp} (hK : K'.K = K.K) (hT : ∀ a us, VT K α H a us → VT K' α' H' a us) (hL : ∀ a us, VL K α H a us → VL K' α' H' a us) (hS : ∀ a us, VS K α H a us → VS K' α' H' a us) (hE : ∀ a o, VE K α H a o → VE K' α' H' a o)
    (hR : ∀ (i : Nat) (a : Addr), α[i]? = some a → α'[i]? = some a) {ds : List D} {us : List V} (r : RelDs K α H ds us) : RelDs K' α' H' ds us := by
  induction ds generalizing us with
  | nil => cases r; exact .nil
  | cons d ds ih => cases r with | cons h t => exact .cons (h.map hK hT hL hS hE hR) (ih t)
structure Ext (α : List Addr) (H : Hp) (α' : List Addr) (H' : Hp) : Prop where
  pre : ∃ β, α' = α ++ β ∧ ∀ p ∈ β, H p = none
  keep : ∀ b o, H b = some o → b ∉ α → H' b = some o
  dom : ∀ b, H' b = none → H b = none
theorem Ext.refl (α : List Addr) (H : Hp) : Ext α H α H := ⟨⟨[], by simp, fun p h => nomatch h⟩, fun _ _ h _ => h, fun _ h => h⟩
theorem Ext.out {α α' : List Addr} {H H' : Hp} (e : Ext α H α' H') {a : Addr} {o : HO} (h : a ∉ α) (ho : H a = some o) : a ∉ α' := by
  obtain ⟨⟨β, rfl, hb⟩, _⟩ := e
  intro z
  rcases List.mem_append.mp z with z | z
  · exact h z
  · rw [hb a z] at ho; cases ho
theorem Ext.trans {α α' α'' : List Addr} {H H' H'' : Hp} (e : Ext α H α' H') (f : Ext α' H' α'' H'') : Ext α H α'' H'' := by
  refine ⟨?_, fun b o h n => f.keep b o (e.keep b o h n) (e.out n h), fun b h => e.dom b (f.dom b h)⟩
  obtain ⟨⟨β, rfl, hb⟩, k, d⟩ := e
  obtain ⟨⟨γ, rfl, hc⟩, _⟩ := f
  refine ⟨β ++ γ, by simp, fun p hp => ?_⟩
  rcases List.mem_append.mp hp with z | z
  · exact hb p z
  · exact d p (hc p z)
theorem Ext.get {α α' : List Addr} {H H' : Hp} (e : Ext α H α' H') {i : Nat} {a : Addr} (h : α[i]? = some a) : α'[i]? = some a := by
  obtain ⟨⟨β, rfl, _⟩, _⟩ := e
  have hi : i < α.length := (List.getElem?_eq_some_iff.mp h).1
  rw [List.getElem?_append_left hi]; exact h
theorem Ext.new {α : List Addr} {H : Hp} {p : Addr} {o : HO} (h : H p = none) : Ext α H α (upd H p o) :=
  ⟨⟨[], by simp, fun p h => nomatch h⟩, fun b u e _ => by rw [upd_ne (ne_of_none e h)]; exact e, fun b e => by
    by_cases z : b = p
    · subst z; rw [upd_same] at e; cases e
    · rw [upd_ne z] at e; exact e⟩
theorem Ext.write {α : List Addr} {H : Hp} {p : Addr} {o : HO} (h : p ∈ α) : Ext α H α (upd H p o) :=
  ⟨⟨[], by simp, fun p h => nomatch h⟩, fun b u e n => by rw [upd_ne (fun (z : b = p) => n (by rw [z]; exact h))]; exact e, fun b e => by
    by_cases z : b = p
    · subst z; rw [upd_same] at e; cases e
    · rw [upd_ne z] at e; exact e⟩
theorem VT.mono {K : KP} {α α' : List Addr} {H H' : Hp} (e : Ext α H α' H') {a : Addr} {us : List V} (h : VT K α H a us) : VT K α' H' a us := ⟨e.out h.1 h.2.2, h.2.1, e.keep _ _ h.2.2 h.1⟩
theorem VS.mono {K : KP} {α α' : List Addr} {H H' : Hp} (e : Ext α H α' H') {a : Addr} {us : List V} (h : VS K α H a us) : VS K α' H' a us := by
  rcases h with ⟨n, m, h | ⟨o, h⟩⟩ | h
  · exact .inl ⟨e.out n h, m, .inl (e.keep _ _ h n)⟩
  · exact .inl ⟨e.out n h, m, .inr ⟨o, e.keep _ _ h n⟩⟩
  · exact .inr h
theorem VL.mono {K : KP} {α α' : List Addr} {H H' : Hp} (e : Ext α H α' H') {a : Addr} {us : List V} (h : VL K α H a us) : VL K α' H' a us := ⟨e.out h.1 h.2.2, h.2.1, e.keep _ _ h.2.2 h.1⟩
theorem VE.mono {K : KP} {α α' : List Addr} {H H' : Hp} (e : Ext α H α' H') {a : Addr} {u : HO} (h : VE K α H a u) : VE K α' H' a u := ⟨e.out h.1 h.2.2, h.2.1, e.keep _ _ h.2.2 h.1⟩
theorem RelD.mono {K : KP} {α α' : List Addr} {H H' : Hp} (e : Ext α H α' H') {d : D} {v : V} (r : RelD K α H d v) : RelD K α' H' d v := r.map rfl (fun _ _ t => t.mono e) (fun _ _ t => t.mono e) (fun _ _ t => t.mono e) (fun _ _ t => t.mono e) (fun _ _ h => e.get h)
theorem RelDs.mono {K : KP} {α α' : List Addr} {H H' : Hp} (e : Ext α H α' H') {ds : List D} {us : List V} (r : RelDs K α H ds us) : RelDs K α' H' ds us := r.map rfl (fun _ _ t => t.mono e) (fun _ _ t => t.mono e) (fun _ _ t => t.mono e) (fun _ _ t => t.mono e) (fun _ _ h => e.get h)
section
variable {K : KP} {α α' : List Addr} {H H' : Hp}
theorem RelDs.length : ∀ {ds : List D} {us : List V}, RelDs K α H ds us → ds.length = us.length
  | _, _, .nil => rfl
  | _, _, .cons _ t => by rw [List.length_cons, List.length_cons, RelDs.length t]
theorem RelDs.get : ∀ {ds : List D} {us : List V} {i : Nat} {d : D}, RelDs K α H ds us → ds[i]? = some d → ∃ u, us[i]? = some u ∧ RelD K α H d u
  | _, _, _, _, .nil, e => by simp at e
  | _, _, 0, _, .cons r _, e => by simp at e; subst e; exact ⟨_, rfl, r⟩
  | _, _, i + 1, d, .cons _ t, e => by
    obtain ⟨u, h1, h2⟩ := RelDs.get (i := i) (d := d) t (by simpa using e)
    exact ⟨u, by simpa using h1, h2⟩
theorem RelDs.append : ∀ {ds es : List D} {us ws : List V}, RelDs K α H ds us → RelDs K α H es ws → RelDs K α H (ds ++ es) (us ++ ws)
  | _, _, _, _, .nil, s => s
  | _, _, _, _, .cons r t, s => .cons r (RelDs.append t s)
theorem RelDs.take : ∀ {ds : List D} {us : List V} (n : Nat), RelDs K α H ds us → RelDs K α H (ds.take n) (us.take n)
  | _, _, 0, _ => .nil
  | _, _, _ + 1, .nil => .nil
  | _, _, n + 1, .cons r t => .cons r (RelDs.take n t)
theorem RelDs.drop : ∀ {ds : List D} {us : List V} (n : Nat), RelDs K α H ds us → RelDs K α H (ds.drop n) (us.drop n)
  | _, _, 0, r => r
  | _, _, _ + 1, .nil => .nil
  | _, _, n + 1, .cons _ t => RelDs.drop n t
theorem RelDs.rev : ∀ {ds : List D} {us : List V}, RelDs K α H ds us → RelDs K α H ds.reverse us.reverse
  | _, _, .nil => .nil
  | _, _, .cons r t => by rw [List.reverse_cons, List.reverse_cons]; exact (RelDs.rev t).append (.cons r .nil)
theorem RelDs.dropLast {ds : List D} {us : List V} (r : RelDs K α H ds us) : RelDs K α H ds.dropLast us.dropLast := by
  rw [List.dropLast_eq_take, List.dropLast_eq_take, r.length]; exact r.take _
theorem RelDs.snoc {ds : List D} {us : List V} {d : D} {u : V} (r : RelDs K α H ds us) (h : RelD K α H d u) : RelDs K α H (ds ++ [d]) (us ++ [u]) := r.append (.cons h .nil)
theorem RelDs.ints : ∀ ns : List Int, RelDs K α H (ns.map D.int) (ns.map V.int)
  | [] => .nil
  | n :: r => .cons (.int n) (RelDs.ints r)
theorem RelDs.inv1 {d : D} {us : List V} (h : RelDs K α H [d] us) : ∃ u, us = [u] ∧ RelD K α H d u := by
  cases h with
  | cons r t => cases t; exact ⟨_, rfl, r⟩
theorem RelDs.inv2 {d e : D} {us : List V} (h : RelDs K α H [d, e] us) : ∃ u v, us = [u, v] ∧ RelD K α H d u ∧ RelD K α H e v := by
  cases h with
  | cons r t =>
    obtain ⟨v, rfl, q⟩ := t.inv1
    exact ⟨_, _, rfl, r, q⟩
end
inductive RelKV (K : KP) (α : List Addr) (H : Hp) {κ : Type} : List (κ × D) → List (κ × V) → Prop
  | nil : RelKV K α H [] []
  | cons {k : κ} {d : D} {u : V} {ds : List (κ × D)} {us : List (κ × V)} : RelD K α H d u → RelKV K α H ds us → RelKV K α H ((k, d) :: ds) ((k, u) :: us)
theorem RelKV.mono {K : KP} {α α' : List Addr} {H H' : Hp} {κ : Type} (e : Ext α H α' H') {ds : List (κ × D)} {us : List (κ × V)} (r : RelKV K α H ds us) : RelKV K α' H' ds us := by
  induction r with
  | nil => exact .nil
  | cons h t ih => exact .cons (h.mono e) ih
inductive RelO' (K : KP) (α : List Addr) (H : Hp) (p : Addr) : O → Prop
  | lst {xs : List D} {us : List V} : H p = some (.lst us) → RelDs K α H xs us → RelO' K α H p (.lst xs)
  | dT {kvs : List (List Key × D)} {us : List (List Key × V)} : H p = some (.dT us) → RelKV K α H kvs us → RelO' K α H p (.dT kvs)
  | dK {kvs : List (Key × D)} {us : List (Key × V)} : H p = some (.dK us) → RelKV K α H kvs us → RelO' K α H p (.dK kvs)
  | ins {C dx : Addr} {cn : Str} {fs : List (Str × D)} {us : List (Str × V)} : PySem.W.nsIn K.K mainGlobals cn = some (some (.ref C)) → H p = some (.ins C dx us) → RelKV K α H fs us → RelO' K α H p (.ins cn fs)
structure HRel (K : KP) (α : List Addr) (H : Hp) (h : List O) : Prop where
  len : α.length = h.length
  nd : α.Nodup
  dis : ∀ p ∈ K.π, p ∉ α ∧ H p ≠ none
  obj : ∀ (i : Nat) (o : O), h[i]? = some o → ∃ p, α[i]? = some p ∧ RelO' K α H p o
theorem RelO'.mono {K : KP} {α α' : List Addr} {H H' : Hp} (e : Ext α H α' H') {p : Addr} {o : O} (r : RelO' K α H p o) (k : H' p = H p) : RelO' K α' H' p o := by
  cases r with
  | lst h t => exact .lst (k.trans h) (t.mono e)
  | dT h t => exact .dT (k.trans h) (t.mono e)
  | dK h t => exact .dK (k.trans h) (t.mono e)
  | ins n h t => exact .ins n (k.trans h) (t.mono e)
section
variable {K : KP} {α α' : List Addr} {H H' : Hp} {h : List O}
theorem HRel.some_ (R : HRel K α H h) {p : Addr} (hp : p ∈ α) : ∃ o, H p = some o := by
  obtain ⟨i, hi, rfl⟩ := List.getElem_of_mem hp
  have hh : i < h.length := by rw [← R.len]; exact hi
  obtain ⟨q, e, r⟩ := R.obj i h[i] (List.getElem?_eq_getElem hh)
  rw [List.getElem?_eq_getElem hi] at e
  cases e
  generalize h[i] = o at r
  cases r with
  | lst h t => exact ⟨_, h⟩
  | dT h t => exact ⟨_, h⟩
  | dK h t => exact ⟨_, h⟩
  | ins n h t => exact ⟨_, h⟩
theorem HRel.out (R : HRel K α H h) {p : Addr} (hp : H p = none) : p ∉ α := fun z => by
  obtain ⟨o, e⟩ := R.some_ z
  rw [hp] at e; cases e
theorem HRel.same (R : HRel K α H h) (e : Ext α H α H') (k : ∀ p ∈ α, H' p = H p) : HRel K α H' h :=
  ⟨R.len, R.nd, fun p hp => ⟨(R.dis p hp).1, fun z => (R.dis p hp).2 (e.dom p z)⟩, fun i o q => by
    obtain ⟨p, ep, r⟩ := R.obj i o q
    exact ⟨p, ep, r.mono e (k p (List.mem_of_getElem? ep))⟩⟩
theorem HRel.new (R : HRel K α H h) {p : Addr} {o : HO} (hp : H p = none) : HRel K α (upd H p o) h :=
  R.same (Ext.new hp) fun q hq => upd_ne fun z => R.out hp (z ▸ hq)
theorem HRel.write (R : HRel K α H h) {p : Addr} {i : Nat} {o : HO} {u : O} (hp : α[i]? = some p) (r : RelO' K α (upd H p o) p u) : HRel K α (upd H p o) (h.set i u) := by
  have hm := List.mem_of_getElem? hp
  refine ⟨by simp [R.len], R.nd, fun q hq => ⟨(R.dis q hq).1, fun z => (R.dis q hq).2 ((Ext.write (H := H) (o := o) hm).dom q z)⟩, fun j v q => ?_⟩
  by_cases e : i = j
  · subst e
    have hi : i < h.length := by
      have := (List.getElem?_eq_some_iff.mp q).1
      simpa using this
    rw [List.getElem?_set_self hi] at q
    cases q
    exact ⟨p, hp, r⟩
  · rw [List.getElem?_set_ne e] at q
    obtain ⟨a, ea, ra⟩ := R.obj j v q
    refine ⟨a, ea, ra.mono (Ext.write hm) (upd_ne fun z => e ?_)⟩
    subst z
    exact (List.getElem?_inj (List.getElem?_eq_some_iff.mp hp).1 R.nd).mp (hp.trans ea.symm)
theorem HRel.lst (R : HRel K α H h) {i : Nat} {xs : List D} (e : h[i]? = some (.lst xs)) : ∃ p us, α[i]? = some p ∧ H p = some (.lst us) ∧ RelDs K α H xs us := by
  obtain ⟨p, ep, r⟩ := R.obj i _ e
  cases r with
  | lst h t => exact ⟨p, _, ep, h, t⟩
theorem HRel.dT (R : HRel K α H h) {i : Nat} {xs : List (List Key × D)} (e : h[i]? = some (.dT xs)) : ∃ p us, α[i]? = some p ∧ H p = some (.dT us) ∧ RelKV K α H xs us := by
  obtain ⟨p, ep, r⟩ := R.obj i _ e
  cases r with
  | dT h t => exact ⟨p, _, ep, h, t⟩
theorem HRel.dK (R : HRel K α H h) {i : Nat} {xs : List (Key × D)} (e : h[i]? = some (.dK xs)) : ∃ p us, α[i]? = some p ∧ H p = some (.dK us) ∧ RelKV K α H xs us := by
  obtain ⟨p, ep, r⟩ := R.obj i _ e
  cases r with
  | dK h t => exact ⟨p, _, ep, h, t⟩
end
theorem HRel.outP {K : KP} {α : List Addr} {H : Hp} {h : List O} (R : HRel K α H h) {p : Addr} (hp : H p = none) : p ∉ K.π := fun z => (R.dis p z).2 hp
structure Priv (D : Addr) (H H' : Hp) : Prop where
  same : ∀ b, b ≠ D → H' b = H b
theorem VT.priv {K : KP} {α : List Addr} {H H' : Hp} {D a : Addr} {us : List V} (e : Priv D H H') (hD : D ∈ K.π) (h : VT K α H a us) : VT K α H' a us :=
  ⟨h.1, h.2.1, (e.same a fun z => h.2.1 (z ▸ hD)).trans h.2.2⟩
theorem VS.priv {K : KP} {α : List Addr} {H H' : Hp} {D a : Addr} {us : List V} (e : Priv D H H') (hD : D ∈ K.π) (h : VS K α H a us) : VS K α H' a us := by
  rcases h with ⟨n, m, h⟩ | h
  · have z : a ≠ D := fun z => m (z ▸ hD)
    refine .inl ⟨n, m, ?_⟩
    unfold Rd at h ⊢
    rw [e.same a z]; exact h
  · exact .inr h
theorem VL.priv {K : KP} {α : List Addr} {H H' : Hp} {D a : Addr} {us : List V} (e : Priv D H H') (hD : D ∈ K.π) (h : VL K α H a us) : VL K α H' a us :=
  ⟨h.1, h.2.1, (e.same a fun z => h.2.1 (z ▸ hD)).trans h.2.2⟩
theorem VE.priv {K : KP} {α : List Addr} {H H' : Hp} {D a : Addr} {u : HO} (e : Priv D H H') (hD : D ∈ K.π) (h : VE K α H a u) : VE K α H' a u :=
  ⟨h.1, h.2.1, (e.same a fun z => h.2.1 (z ▸ hD)).trans h.2.2⟩
theorem RelD.priv {K : KP} {α : List Addr} {H H' : Hp} {D' : Addr} (e : Priv D' H H') (hD : D' ∈ K.π) {d : D} {v : V} (r : RelD K α H d v) : RelD K α H' d v := r.map rfl (fun _ _ t => t.priv e hD) (fun _ _ t => t.priv e hD) (fun _ _ t => t.priv e hD) (fun _ _ t => t.priv e hD) (fun _ _ h => h)
theorem RelDs.priv {K : KP} {α : List Addr} {H H' : Hp} {D' : Addr} (e : Priv D' H H') (hD : D' ∈ K.π) {ds : List D} {us : List V} (r : RelDs K α H ds us) : RelDs K α H' ds us := r.map rfl (fun _ _ t => t.priv e hD) (fun _ _ t => t.priv e hD) (fun _ _ t => t.priv e hD) (fun _ _ t => t.priv e hD) (fun _ _ h => h)
theorem RelKV.priv {K : KP} {α : List Addr} {H H' : Hp} {D' : Addr} {κ : Type} (e : Priv D' H H') (hD : D' ∈ K.π) {ds : List (κ × D)} {us : List (κ × V)} (r : RelKV K α H ds us) : RelKV K α H' ds us := by
  induction r with
  | nil => exact .nil
  | cons h t ih => exact .cons (h.priv e hD) ih
theorem HRel.priv {K : KP} {α : List Addr} {H H' : Hp} {h : List O} {D' : Addr} (e : Priv D' H H') (hD : D' ∈ K.π) (hs : H' D' ≠ none) (R : HRel K α H h) : HRel K α H' h :=
  ⟨R.len, R.nd, fun p hp => ⟨(R.dis p hp).1, by
    by_cases z : p = D'
    · rw [z]; exact hs
    · rw [e.same p z]; exact (R.dis p hp).2⟩, fun i o q => by
    obtain ⟨p, ep, r⟩ := R.obj i o q
    have z : p ≠ D' := fun z => (R.dis D' hD).1 (z ▸ List.mem_of_getElem? ep)
    refine ⟨p, ep, ?_⟩
    cases r with
    | lst h t => exact .lst ((e.same p z).trans h) (t.priv e hD)
    | dT h t => exact .dT ((e.same p z).trans h) (t.priv e hD)
    | dK h t => exact .dK ((e.same p z).trans h) (t.priv e hD)
    | ins n h t => exact .ins n ((e.same p z).trans h) (t.priv e hD)⟩
theorem VT.more {K : PySem.W.Frag} {π π' : List Addr} {α : List Addr} {H : Hp} {a : Addr} {us : List V} (s : ∀ p ∈ π', p ∈ π ∨ H p = none) (h : VT ⟨K, π⟩ α H a us) : VT ⟨K, π'⟩ α H a us :=
  ⟨h.1, fun z => (s a z).elim h.2.1 (fun w => by rw [h.2.2] at w; exact nomatch w), h.2.2⟩
theorem VS.more {K : PySem.W.Frag} {π π' : List Addr} {α : List Addr} {H : Hp} {a : Addr} {us : List V} (s : ∀ p ∈ π', p ∈ π ∨ H p = none) (h : VS ⟨K, π⟩ α H a us) : VS ⟨K, π'⟩ α H a us := by
  rcases h with ⟨n, m, h⟩ | h
  · refine .inl ⟨n, fun z => ?_, h⟩
    rcases s a z with z | z
    · exact m z
    · rcases h with h | ⟨o, h⟩ <;> rw [z] at h <;> cases h
  · exact .inr h
theorem VL.more {K : PySem.W.Frag} {π π' : List Addr} {α : List Addr} {H : Hp} {a : Addr} {us : List V} (s : ∀ p ∈ π', p ∈ π ∨ H p = none) (h : VL ⟨K, π⟩ α H a us) : VL ⟨K, π'⟩ α H a us :=
  ⟨h.1, fun z => (s a z).elim h.2.1 (fun w => by rw [h.2.2] at w; exact nomatch w), h.2.2⟩
theorem VE.more {K : PySem.W.Frag} {π π' : List Addr} {α : List Addr} {H : Hp} {a : Addr} {u : HO} (s : ∀ p ∈ π', p ∈ π ∨ H p = none) (h : VE ⟨K, π⟩ α H a u) : VE ⟨K, π'⟩ α H a u :=
  ⟨h.1, fun z => (s a z).elim h.2.1 (fun w => by rw [h.2.2] at w; exact nomatch w), h.2.2⟩
theorem RelD.more {K : PySem.W.Frag} {π π' : List Addr} {α : List Addr} {H : Hp} (s : ∀ p ∈ π', p ∈ π ∨ H p = none) {d : D} {v : V} (r : RelD ⟨K, π⟩ α H d v) : RelD ⟨K, π'⟩ α H d v := r.map (K := ⟨K, π⟩) (K' := ⟨K, π'⟩) rfl (fun _ _ t => t.more s) (fun _ _ t => t.more s) (fun _ _ t => t.more s) (fun _ _ t => t.more s) (fun _ _ h => h)
theorem RelDs.more {K : PySem.W.Frag} {π π' : List Addr} {α : List Addr} {H : Hp} (s : ∀ p ∈ π', p ∈ π ∨ H p = none) {ds : List D} {us : List V} (r : RelDs ⟨K, π⟩ α H ds us) : RelDs ⟨K, π'⟩ α H ds us := r.map (K := ⟨K, π⟩) (K' := ⟨K, π'⟩) rfl (fun _ _ t => t.more s) (fun _ _ t => t.more s) (fun _ _ t => t.more s) (fun _ _ t => t.more s) (fun _ _ h => h)
theorem RelKV.more {K : PySem.W.Frag} {π π' : List Addr} {α : List Addr} {H : Hp} {κ : Type} (s : ∀ p ∈ π', p ∈ π ∨ H p = none) {ds : List (κ × D)} {us : List (κ × V)} (r : RelKV ⟨K, π⟩ α H ds us) : RelKV ⟨K, π'⟩ α H ds us := by
  induction r with
  | nil => exact .nil
  | cons h t ih => exact .cons (h.more s) ih
theorem HRel.more {K : PySem.W.Frag} {π π' : List Addr} {α : List Addr} {H : Hp} {h : List O} (s : ∀ p ∈ π', p ∈ π ∨ H p = none) (d : ∀ p ∈ π', p ∉ α ∧ H p ≠ none) (R : HRel ⟨K, π⟩ α H h) : HRel ⟨K, π'⟩ α H h :=
  ⟨R.len, R.nd, d, fun i o q => by
    obtain ⟨p, ep, r⟩ := R.obj i o q
    refine ⟨p, ep, ?_⟩
    cases r with
    | lst h t => exact .lst h (t.more s)
    | dT h t => exact .dT h (t.more s)
    | dK h t => exact .dK h (t.more s)
    | ins n h t => exact .ins n h (t.more s)⟩
noncomputable abbrev Sl := List (Option D)
noncomputable abbrev Hh := List O
noncomputable abbrev DK := D → Hh → Prop
noncomputable abbrev DE := Sl → Hh → DK → Prop
noncomputable abbrev DT := Sl → Hh → (Bool → Hh → Prop) → Prop
noncomputable abbrev DA := Sl → Hh → (List D → Hh → Prop) → Prop
noncomputable abbrev DX := Str → List (Str × Int) → Hh → Prop
structure DEnds where
  nx : Sl → Hh → Prop
  rt : DK
  bk : Sl → Hh → Prop := fun _ _ => False
  ct : Sl → Hh → Prop := fun _ _ => False
  ex : DX := fun _ _ _ => False
noncomputable abbrev DS := DEnds → Sl → Hh → Prop
noncomputable abbrev DG := D → Sl → Hh → (Sl → Hh → Prop) → Prop
noncomputable abbrev DGs := List D → Sl → Hh → (Sl → Hh → Prop) → Prop
structure RelS (K : KP) (α : List Addr) (H : Hp) (δ : Sl) (σ : St) : Prop where
  len : δ.length = σ.length
  get : ∀ (i : Nat) (d : D), δ[i]? = some (some d) → ∃ v, σ[i]? = some (some v) ∧ RelD K α H d v
theorem RelS.mono {K : KP} {α α' : List Addr} {H H' : Hp} {δ : Sl} {σ : St} (e : Ext α H α' H') (r : RelS K α H δ σ) : RelS K α' H' δ σ :=
  ⟨r.len, fun i d q => let ⟨v, h1, h2⟩ := r.get i d q; ⟨v, h1, h2.mono e⟩⟩
theorem RelS.set {K : KP} {α : List Addr} {H : Hp} {δ : Sl} {σ : St} {d : D} {v : V} (r : RelS K α H δ σ) (i : Nat) (h : RelD K α H d v) : RelS K α H (δ.set i (some d)) (σ.set i (some v)) := by
  refine ⟨by simp [r.len], fun j e q => ?_⟩
  by_cases z : i = j
  · subst z
    have hi : i < δ.length := by
      have := (List.getElem?_eq_some_iff.mp q).1
      simpa using this
    rw [List.getElem?_set_self hi] at q
    cases q
    exact ⟨v, List.getElem?_set_self (by rw [← r.len]; exact hi), h⟩
  · rw [List.getElem?_set_ne z] at q
    obtain ⟨w, h1, h2⟩ := r.get j e q
    exact ⟨w, by rw [List.getElem?_set_ne z]; exact h1, h2⟩
inductive LE (K : PySem.W.Frag) (f : DE) (σ : St) (H : Hp) (Q : VK) : Prop
  | mk (π : List Addr) (α : List Addr) (δ : Sl) (h : Hh) (Q' : DK) : HRel ⟨K, π⟩ α H h → RelS ⟨K, π⟩ α H δ σ → f δ h Q' → (∀ d h' α' H' v, Q' d h' → Ext α H α' H' → HRel ⟨K, π⟩ α' H' h' → RelD ⟨K, π⟩ α' H' d v → Q v H') → LE K f σ H Q
inductive LT (K : PySem.W.Frag) (f : DT) (σ : St) (H : Hp) (Q : Bool → Hp → Prop) : Prop
  | mk (π : List Addr) (α : List Addr) (δ : Sl) (h : Hh) (Q' : Bool → Hh → Prop) : HRel ⟨K, π⟩ α H h → RelS ⟨K, π⟩ α H δ σ → f δ h Q' → (∀ b h' α' H', Q' b h' → Ext α H α' H' → HRel ⟨K, π⟩ α' H' h' → Q b H') → LT K f σ H Q
inductive LA (K : PySem.W.Frag) (n : Nat) (f : DA) (σ : St) (H : Hp) (Q : List V → Hp → Prop) : Prop
  | mk (π : List Addr) (α : List Addr) (δ : Sl) (h : Hh) (Q' : List D → Hh → Prop) : HRel ⟨K, π⟩ α H h → RelS ⟨K, π⟩ α H δ σ → f δ h Q' → (∀ ds h' α' H' vs, Q' ds h' → Ext α H α' H' → HRel ⟨K, π⟩ α' H' h' → RelDs ⟨K, π⟩ α' H' ds vs → ds.length = n → Q vs H') → LA K n f σ H Q
structure EndsOk (K : KP) (Ex : XK) (α : List Addr) (H : Hp) (E : DEnds) (F : Ends) : Prop where
  nx : ∀ δ' h' α' H' σ', E.nx δ' h' → Ext α H α' H' → HRel K α' H' h' → RelS K α' H' δ' σ' → F.nx σ' H'
  rt : ∀ d h' α' H' v, E.rt d h' → Ext α H α' H' → HRel K α' H' h' → RelD K α' H' d v → F.rt v H'
  bk : ∀ δ' h' α' H' σ', E.bk δ' h' → Ext α H α' H' → HRel K α' H' h' → RelS K α' H' δ' σ' → F.bk σ' H'
  ct : ∀ δ' h' α' H' σ', E.ct δ' h' → Ext α H α' H' → HRel K α' H' h' → RelS K α' H' δ' σ' → F.ct σ' H'
  ex : ∀ cn fs h' α' H' C dx, E.ex cn fs h' → Ext α H α' H' → HRel K α' H' h' → PySem.W.nsIn K.K mainGlobals cn = some (some (.ref C)) → XQ K α' H' dx fs → Ex (.ref C) dx H'
theorem EndsOk.mono {K : KP} {Ex : XK} {α α' : List Addr} {H H' : Hp} {E : DEnds} {F : Ends} (x : EndsOk K Ex α H E F) (e : Ext α H α' H') : EndsOk K Ex α' H' E F :=
  ⟨fun _ _ _ _ _ a b c d => x.nx _ _ _ _ _ a (e.trans b) c d, fun _ _ _ _ _ a b c d => x.rt _ _ _ _ _ a (e.trans b) c d, fun _ _ _ _ _ a b c d => x.bk _ _ _ _ _ a (e.trans b) c d, fun _ _ _ _ _ a b c d => x.ct _ _ _ _ _ a (e.trans b) c d, fun _ _ _ _ _ _ _ a b c d => x.ex _ _ _ _ _ _ _ a (e.trans b) c d⟩
inductive LS (K : PySem.W.Frag) (Ex : XK) (f : DS) (F : Ends) (σ : St) (H : Hp) : Prop
  | mk (π : List Addr) (α : List Addr) (δ : Sl) (h : Hh) (E : DEnds) : HRel ⟨K, π⟩ α H h → RelS ⟨K, π⟩ α H δ σ → f E δ h → EndsOk ⟨K, π⟩ Ex α H E F → LS K Ex f F σ H
inductive LG (K : PySem.W.Frag) (f : DG) (v : V) (σ : St) (H : Hp) (Q : St → Hp → Prop) : Prop
  | mk (π : List Addr) (α : List Addr) (δ : Sl) (h : Hh) (d : D) (Q' : Sl → Hh → Prop) : HRel ⟨K, π⟩ α H h → RelS ⟨K, π⟩ α H δ σ → RelD ⟨K, π⟩ α H d v → f d δ h Q' → (∀ δ' h' α' H' σ', Q' δ' h' → Ext α H α' H' → HRel ⟨K, π⟩ α' H' h' → RelS ⟨K, π⟩ α' H' δ' σ' → Q σ' H') → LG K f v σ H Q
inductive LGs (K : PySem.W.Frag) (f : DGs) (vs : List V) (σ : St) (H : Hp) (Q : St → Hp → Prop) : Prop
  | mk (π : List Addr) (α : List Addr) (δ : Sl) (h : Hh) (ds : List D) (Q' : Sl → Hh → Prop) : HRel ⟨K, π⟩ α H h → RelS ⟨K, π⟩ α H δ σ → RelDs ⟨K, π⟩ α H ds vs → f ds δ h Q' → (∀ δ' h' α' H' σ', Q' δ' h' → Ext α H α' H' → HRel ⟨K, π⟩ α' H' h' → RelS ⟨K, π⟩ α' H' δ' σ' → Q σ' H') → LGs K f vs σ H Q
theorem HRel.under {K : PySem.W.Frag} {π α : List Addr} {H : Hp} {h : Hh} {p : Addr} {o : HO} (R : HRel ⟨K, π⟩ α H h) (hp : H p = none) : HRel ⟨K, p :: π⟩ α (upd H p o) h := by
  have s : ∀ q ∈ p :: π, q ∈ π ∨ H q = none := fun q hq => by
    rcases List.mem_cons.mp hq with rfl | z
    · exact .inr hp
    · exact .inl z
  refine ⟨R.len, R.nd, fun q hq => ?_, fun i ob e => ?_⟩
  · rcases List.mem_cons.mp hq with rfl | z
    · exact ⟨R.out hp, by rw [upd_same]; exact fun z => nomatch z⟩
    · exact ⟨(R.dis q z).1, fun w => (R.dis q z).2 ((Ext.new (α := α) hp).dom q w)⟩
  · obtain ⟨a, ea, r⟩ := R.obj i ob e
    refine ⟨a, ea, ?_⟩
    have k : upd H p o a = H a := upd_ne fun z => R.out hp (z ▸ List.mem_of_getElem? ea)
    have e2 : Ext α H α (upd H p o) := Ext.new hp
    cases r with
    | lst h t => exact .lst (k.trans h) ((t.more s).mono e2)
    | dT h t => exact .dT (k.trans h) ((t.more s).mono e2)
    | dK h t => exact .dK (k.trans h) ((t.more s).mono e2)
    | ins n h t => exact .ins n (k.trans h) ((t.more s).mono e2)
theorem HRel.less {K : PySem.W.Frag} {π α : List Addr} {H : Hp} {h : Hh} {p : Addr} (R : HRel ⟨K, p :: π⟩ α H h) : HRel ⟨K, π⟩ α H h :=
  R.more (fun q hq => .inl (List.mem_cons_of_mem _ hq)) fun q hq => R.dis q (List.mem_cons_of_mem _ hq)
theorem RelS.more {K : PySem.W.Frag} {π π' α : List Addr} {H : Hp} {δ : Sl} {σ : L2.St} (s : ∀ p ∈ π', p ∈ π ∨ H p = none) (S : RelS ⟨K, π⟩ α H δ σ) : RelS ⟨K, π'⟩ α H δ σ :=
  ⟨S.len, fun i d q => let ⟨v, a, b⟩ := S.get i d q; ⟨v, a, b.more s⟩⟩
theorem RelS.priv {K : KP} {α : List Addr} {H H' : Hp} {δ : Sl} {σ : L2.St} {D' : Addr} (e : Priv D' H H') (hD : D' ∈ K.π) (S : RelS K α H δ σ) : RelS K α H' δ σ :=
  ⟨S.len, fun i d q => let ⟨v, a, b⟩ := S.get i d q; ⟨v, a, b.priv e hD⟩⟩
theorem Ext.grow {α α' : List Addr} {H H' : Hp} {p : Addr} {o : HO} (e : Ext α H α' H') (hp : H p = none) : Ext α H α' (upd H' p o) :=
  ⟨e.pre, fun b u q n => by rw [upd_ne (ne_of_none q hp)]; exact e.keep b u q n, fun b q => by
    by_cases z : b = p
    · subst z; exact hp
    · rw [upd_ne z] at q; exact e.dom b q⟩
theorem VT.adopt {K : PySem.W.Frag} {π α : List Addr} {H : Hp} {p a : Addr} {us : List V} (h : VT ⟨K, p :: π⟩ α H a us) : VT ⟨K, π⟩ (α ++ [p]) H a us :=
  ⟨fun z => (List.mem_append.mp z).elim h.1 fun z => h.2.1 (by rw [List.mem_singleton.mp z]; exact List.mem_cons_self), fun z => h.2.1 (List.mem_cons_of_mem _ z), h.2.2⟩
theorem VS.adopt {K : PySem.W.Frag} {π α : List Addr} {H : Hp} {p a : Addr} {us : List V} (h : VS ⟨K, p :: π⟩ α H a us) : VS ⟨K, π⟩ (α ++ [p]) H a us := by
  rcases h with ⟨n, m, h⟩ | h
  · refine .inl ⟨fun z => ?_, fun z => m (List.mem_cons_of_mem _ z), h⟩
    rcases List.mem_append.mp z with z | z
    · exact n z
    · exact m (by rw [List.mem_singleton.mp z]; exact List.mem_cons_self)
  · exact .inr h
theorem VL.adopt {K : PySem.W.Frag} {π α : List Addr} {H : Hp} {p a : Addr} {us : List V} (h : VL ⟨K, p :: π⟩ α H a us) : VL ⟨K, π⟩ (α ++ [p]) H a us :=
  ⟨fun z => (List.mem_append.mp z).elim h.1 fun z => h.2.1 (by rw [List.mem_singleton.mp z]; exact List.mem_cons_self), fun z => h.2.1 (List.mem_cons_of_mem _ z), h.2.2⟩
theorem VE.adopt {K : PySem.W.Frag} {π α : List Addr} {H : Hp} {p a : Addr} {u : HO} (h : VE ⟨K, p :: π⟩ α H a u) : VE ⟨K, π⟩ (α ++ [p]) H a u :=
  ⟨fun z => (List.mem_append.mp z).elim h.1 fun z => h.2.1 (by rw [List.mem_singleton.mp z]; exact List.mem_cons_self), fun z => h.2.1 (List.mem_cons_of_mem _ z), h.2.2⟩
theorem get_app {α : List Addr} {p a : Addr} {i : Nat} (h : α[i]? = some a) : (α ++ [p])[i]? = some a := by
  rw [List.getElem?_append_left (List.getElem?_eq_some_iff.mp h).1]; exact h
theorem RelD.adopt {K : PySem.W.Frag} {π α : List Addr} {H : Hp} {p : Addr} {d : D} {v : V} (r : RelD ⟨K, p :: π⟩ α H d v) : RelD ⟨K, π⟩ (α ++ [p]) H d v := r.map (K := ⟨K, p :: π⟩) (K' := ⟨K, π⟩) (α' := α ++ [p]) (H' := H) rfl (fun _ _ t => t.adopt) (fun _ _ t => t.adopt) (fun _ _ t => t.adopt) (fun _ _ t => t.adopt) (fun _ _ h => get_app h)
theorem RelDs.adopt {K : PySem.W.Frag} {π α : List Addr} {H : Hp} {p : Addr} {ds : List D} {us : List V} (r : RelDs ⟨K, p :: π⟩ α H ds us) : RelDs ⟨K, π⟩ (α ++ [p]) H ds us := r.map (K := ⟨K, p :: π⟩) (K' := ⟨K, π⟩) (α' := α ++ [p]) (H' := H) rfl (fun _ _ t => t.adopt) (fun _ _ t => t.adopt) (fun _ _ t => t.adopt) (fun _ _ t => t.adopt) (fun _ _ h => get_app h)
theorem RelKV.adopt {K : PySem.W.Frag} {π α : List Addr} {H : Hp} {p : Addr} {κ : Type} {ds : List (κ × D)} {us : List (κ × V)} (r : RelKV ⟨K, p :: π⟩ α H ds us) : RelKV ⟨K, π⟩ (α ++ [p]) H ds us := by
  induction r with
  | nil => exact .nil
  | cons h t ih => exact .cons h.adopt ih
theorem HRel.adopt {K : PySem.W.Frag} {π α : List Addr} {H : Hp} {h : Hh} {p : Addr} {u : O} (R : HRel ⟨K, p :: π⟩ α H h) (np : p ∉ π) (r : RelO' ⟨K, π⟩ (α ++ [p]) H p u) : HRel ⟨K, π⟩ (α ++ [p]) H (h ++ [u]) := by
  have hp := R.dis p List.mem_cons_self
  refine ⟨by simp [R.len], ?_, fun q hq => ⟨fun z => ?_, (R.dis q (List.mem_cons_of_mem _ hq)).2⟩, fun i v q => ?_⟩
  · rw [List.nodup_append]
    exact ⟨R.nd, by simp, fun a ha b hb => by rw [List.mem_singleton.mp hb]; exact fun z => hp.1 (z ▸ ha)⟩
  · rcases List.mem_append.mp z with z | z
    · exact (R.dis q (List.mem_cons_of_mem _ hq)).1 z
    · rw [List.mem_singleton.mp z] at hq; exact np hq
  · by_cases hi : i < h.length
    · rw [List.getElem?_append_left hi] at q
      obtain ⟨a, ea, ra⟩ := R.obj i v q
      refine ⟨a, get_app ea, ?_⟩
      cases ra with
      | lst h t => exact .lst h t.adopt
      | dT h t => exact .dT h t.adopt
      | dK h t => exact .dK h t.adopt
      | ins n h t => exact .ins n h t.adopt
    · have hi' : i = h.length := by
        have := (List.getElem?_eq_some_iff.mp q).1
        rw [List.length_append, List.length_singleton] at this; omega
      subst hi'
      rw [List.getElem?_append_right (Nat.le_refl _)] at q
      simp at q; subst q
      exact ⟨p, by rw [List.getElem?_append_right (by rw [R.len]; exact Nat.le_refl _), R.len]; simp, r⟩
theorem Ext.adopt {α α' : List Addr} {H H' : Hp} {p : Addr} (e : Ext α H α' H') (hp : H p = none) : Ext α H (α' ++ [p]) H' := by
  refine ⟨?_, e.keep, e.dom⟩
  obtain ⟨⟨β, rfl, hb⟩, _⟩ := e
  exact ⟨β ++ [p], by simp, fun q hq => by
    rcases List.mem_append.mp hq with z | z
    · exact hb q z
    · rw [List.mem_singleton.mp z]; exact hp⟩
section
variable (X : Cx)
noncomputable def SE (e : Expr) (f : DE) : Prop := PE X e (LE X.K f)
noncomputable def ST (e : Expr) (f : DT) : Prop := PT X e (LT X.K f)
noncomputable def SW (e : Expr) (f : DT) : Prop := PW X e (LT X.K f)
noncomputable def SA (es : List Expr) (n : Nat) (f : DA) : Prop := PA X es (LA X.K n f)
noncomputable def SS (s : Stmt) (f : DS) : Prop := PS X s (LS X.K X.ex9 f)
noncomputable def SSs (ss : List Stmt) (f : DS) : Prop := PSs X ss (LS X.K X.ex9 f)
noncomputable def SG (t : Expr) (f : DG) : Prop := PG X t (LG X.K f)
noncomputable def SGs (ts : List Expr) (f : DGs) : Prop := PGs X ts (LGs X.K f)
end
section
variable {X : Cx}
theorem PE.imp {e : Expr} {t t' : TE} (h : PE X e t) (k : ∀ σ H Q, t' σ H Q → t σ H Q) : PE X e t' := fun pins s σ H Q I q => h pins s σ H Q I (k σ H Q q)
theorem PT.imp {e : Expr} {t t' : TT} (h : PT X e t) (k : ∀ σ H Q, t' σ H Q → t σ H Q) : PT X e t' := fun pins s σ H Q I q => h pins s σ H Q I (k σ H Q q)
theorem PW.imp {e : Expr} {t t' : TT} (h : PW X e t) (k : ∀ σ H Q, t' σ H Q → t σ H Q) : PW X e t' := fun wh pins s σ H Q I q => h wh pins s σ H Q I (k σ H Q q)
theorem PA.imp {es : List Expr} {t t' : TA} (h : PA X es t) (k : ∀ σ H Q, t' σ H Q → t σ H Q) : PA X es t' := fun pos pins s σ H Q I q => h pos pins s σ H Q I (k σ H Q q)
theorem PS.imp {e : Stmt} {t t' : TS} (h : PS X e t) (k : ∀ F σ H, t' F σ H → t F σ H) : PS X e t' := fun pins s σ H F I q => h pins s σ H F I (k F σ H q)
theorem PSs.imp {e : List Stmt} {t t' : TS} (h : PSs X e t) (k : ∀ F σ H, t' F σ H → t F σ H) : PSs X e t' := fun pins s σ H F I q => h pins s σ H F I (k F σ H q)
theorem PG.imp {e : Expr} {t t' : TG} (h : PG X e t) (k : ∀ v σ H Q, t' v σ H Q → t v σ H Q) : PG X e t' := fun pins s σ H v u Q I r q => h pins s σ H v u Q I r (k v σ H Q q)
theorem PGs.imp {e : List Expr} {t t' : TGs} (h : PGs X e t) (k : ∀ v σ H Q, t' v σ H Q → t v σ H Q) : PGs X e t' := fun pins s σ H v u Q I r q => h pins s σ H v u Q I r (k v σ H Q q)
end
end DL
namespace DL
open PySem PySem.Spec L2
noncomputable def dVar (i : Nat) : DE := fun δ h Q => match δ[i]? with | some (some d) => Q d h | _ => False
noncomputable def dC (d : D) : DE := fun _ h Q => Q d h
noncomputable abbrev P1 := D → Hh → DK → Prop
noncomputable abbrev P2 := D → D → Hh → DK → Prop
noncomputable abbrev PN := List D → Hh → DK → Prop
noncomputable def dUn (p : P1) (a : DE) : DE := fun δ h Q => a δ h fun x h1 => p x h1 Q
noncomputable def dOp (p : P2) (a b : DE) : DE := fun δ h Q => a δ h fun x h1 => b δ h1 fun y h2 => p x y h2 Q
inductive r1 (K : PySem.W.Frag) (p : P1) (x : V) (H : Hp) (Q : VK) : Prop
  | mk (π : List Addr) (α : List Addr) (h : Hh) (d : D) (Q' : DK) : HRel ⟨K, π⟩ α H h → RelD ⟨K, π⟩ α H d x → p d h Q' → (∀ d h' α' H' v, Q' d h' → Ext α H α' H' → HRel ⟨K, π⟩ α' H' h' → RelD ⟨K, π⟩ α' H' d v → Q v H') → r1 K p x H Q
inductive r2 (K : PySem.W.Frag) (p : P2) (x y : V) (H : Hp) (Q : VK) : Prop
  | mk (π : List Addr) (α : List Addr) (h : Hh) (d e : D) (Q' : DK) : HRel ⟨K, π⟩ α H h → RelD ⟨K, π⟩ α H d x → RelD ⟨K, π⟩ α H e y → p d e h Q' → (∀ d h' α' H' v, Q' d h' → Ext α H α' H' → HRel ⟨K, π⟩ α' H' h' → RelD ⟨K, π⟩ α' H' d v → Q v H') → r2 K p x y H Q
inductive rN (K : PySem.W.Frag) (p : PN) (xs : List V) (H : Hp) (Q : VK) : Prop
  | mk (π : List Addr) (α : List Addr) (h : Hh) (ds : List D) (Q' : DK) : HRel ⟨K, π⟩ α H h → RelDs ⟨K, π⟩ α H ds xs → p ds h Q' → (∀ d h' α' H' v, Q' d h' → Ext α H α' H' → HRel ⟨K, π⟩ α' H' h' → RelD ⟨K, π⟩ α' H' d v → Q v H') → rN K p xs H Q
section
variable {K : PySem.W.Frag} {σ : L2.St} {H : Hp} {Q : VK}
theorem un_lift {p : P1} {fa : DE} (g : LE K (dUn p fa) σ H Q) : LE K fa σ H fun x H1 => r1 K p x H1 Q := by
  obtain ⟨π, α, δ, h, Q', R, S, f, k⟩ := g
  exact ⟨π, α, δ, h, _, R, S, f, fun x h1 α1 H1 v1 f1 e1 R1 q1 => ⟨π, α1, h1, x, Q', R1, q1, f1, fun d h' α' H' v a b c d' => k d h' α' H' v a (e1.trans b) c d'⟩⟩
theorem op_lift {p : P2} {fa fb : DE} (g : LE K (dOp p fa fb) σ H Q) : LE K fa σ H fun x H1 => LE K fb σ H1 fun y H2 => r2 K p x y H2 Q := by
  obtain ⟨π, α, δ, h, Q', R, S, f, k⟩ := g
  refine ⟨π, α, δ, h, _, R, S, f, fun x h1 α1 H1 v1 f1 e1 R1 q1 => ?_⟩
  refine ⟨π, α1, δ, h1, _, R1, S.mono e1, f1, fun y h2 α2 H2 v2 f2 e2 R2 q2 => ?_⟩
  exact ⟨π, α2, h2, x, y, Q', R2, q1.mono e2, q2, f2, fun d h' α' H' v a b c d' => k d h' α' H' v a (e1.trans (e2.trans b)) c d'⟩
end
theorem OpR.imp {X : Cx} {f : Value → Value → Sem Value} {r r' : R2} (h : OpR X f r) (k : ∀ x y H Q, r' x y H Q → r x y H Q) : OpR X f r' := fun pins s σ H x y v u Q I rx ry q => h pins s σ H x y v u Q I rx ry (k x y H Q q)
theorem UnR.imp {X : Cx} {f : Value → Sem Value} {r r' : V → Hp → VK → Prop} (h : UnR X f r) (k : ∀ x H Q, r' x H Q → r x H Q) : UnR X f r' := fun pins s σ H x v Q I rx q => h pins s σ H x v Q I rx (k x H Q q)
theorem IxR.imp {X : Cx} {r r' : R2} (h : IxR X r) (k : ∀ x y H Q, r' x y H Q → r x y H Q) : IxR X r' := fun va sl pins s σ H x y v u Q I rx ry q => h va sl pins s σ H x y v u Q I rx ry (k x y H Q q)
theorem CallR.imp {X : Cx} {f : Value} {r r' : List V → Hp → VK → Prop} (h : CallR X f r) (k : ∀ x H Q, r' x H Q → r x H Q) : CallR X f r' := fun pins s σ H xs us Q I rx q => h pins s σ H xs us Q I rx (k xs H Q q)
noncomputable def lsOf (h : Hh) : D → Option (List D)
  | .lst xs => some xs
  | .scr xs => some xs
  | .ref i => match h[i]? with | some (.lst xs) => some xs | _ => none
  | _ => none
section
variable {K : KP} {α : List Addr} {H : Hp} {h : Hh}
theorem lsOf_sq (R : HRel K α H h) : ∀ {d : D} {v : V} {xs : List D}, RelD K α H d v → lsOf h d = some xs → ∃ p us, v = .ref p ∧ SqL K.K H p us ∧ RelDs K α H xs us
  | _, _, _, .lst t r, e => by cases e; exact ⟨_, _, rfl, t.sq, r⟩
  | _, _, _, .scr t r, e => by cases e; exact ⟨_, _, rfl, t.sq, r⟩
  | _, _, xs, .ref (i := i) hp, e => by
    have e : (match h[i]? with | some (.lst xs) => some xs | _ => none) = some xs := e
    cases q : h[i]? with
    | none => rw [q] at e; cases e
    | some o =>
      rw [q] at e
      cases o with
      | lst ys =>
        cases e
        obtain ⟨p, us, e1, e2, e3⟩ := R.lst q
        rw [hp] at e1; cases e1
        exact ⟨_, us, rfl, SqL.of e2, e3⟩
      | _ => cases e
  | _, _, _, .non, e => nomatch e
  | _, _, _, .bl _, e => nomatch e
  | _, _, _, .int _, e => nomatch e
  | _, _, _, .str _, e => nomatch e
  | _, _, _, .tup _ _, e => nomatch e
theorem tup_sq {d : List D} {v : V} (r : RelD K α H (.tup d) v) : ∃ p us, v = .ref p ∧ SqT K.K H p us ∧ RelDs K α H d us := by
  cases r with
  | tup t r => exact ⟨_, _, rfl, t.sq, r⟩
end
section
variable {X : Cx} {a b c e : Expr} {fa fb fc : DE} {pos : Pos}
theorem sv (i : Nat) {x : Str} {pos : Pos} (hN : X.N[i]? = some x := by rfl) (hv : Vis X.env.scope x := by trivial) (hd : (x == ("__debug__" : Str)) = false := by decide)
    (hcd : (x == ("__classdict__" : Str)) = false := by decide) : SE X (.Name x pos) (dVar i) := PE.imp (pe_var hN hv hd hcd) fun σ H Q ⟨π, α, δ, h, Q', R, S, f, k⟩ => by
  unfold dVar at f
  split at f
  · rename_i d e
    obtain ⟨v, h1, h2⟩ := S.get i d e
    exact ⟨v, h1, k d h α H v f (Ext.refl ..) R h2⟩
  · exact f.elim
theorem sc_lift {v : V} {d : D} (r : ∀ π α H, RelD ⟨X.K, π⟩ α H d v) (h : PE X e (tC v)) : SE X e (dC d) := PE.imp h fun σ H Q ⟨π, α, δ, h, Q', R, S, f, k⟩ => k d h α H v f (Ext.refl ..) R (r π α H)
theorem se_int {i j pos} : SE X (.Constant (.int i) j pos) (dC (.int i)) := sc_lift (fun _ _ _ => .int i) pe_int
theorem se_bl {i j pos} : SE X (.Constant (.bool i) j pos) (dC (.bl i)) := sc_lift (fun _ _ _ => .bl i) pe_bl
theorem se_non {j pos} : SE X (.Constant .none j pos) (dC .non) := sc_lift (fun _ _ _ => .non) pe_non
theorem se_str {i j pos} : SE X (.Constant (.str i) j pos) (dC (.str i)) := sc_lift (fun _ _ _ => .str i) pe_str
theorem se_op {op : Operator} {p : P2} (ho : OpR X (binaryOp op) (r2 X.K p)) (ha : SE X a fa) (hb : SE X b fb) : SE X (.BinOp a op b pos) (dOp p fa fb) := PE.imp (pe_op ho ha hb) fun _ _ _ g => op_lift g
theorem se_un {op : UnaryOp} {p : P1} (ho : UnR X (unaryOp op) (r1 X.K p)) (ha : SE X a fa) : SE X (.UnaryOp op a pos) (dUn p fa) := PE.imp (pe_un ho ha) fun _ _ _ g => un_lift g
theorem se_ix {p : P2} (ho : IxR X (r2 X.K p)) (ha : SE X a fa) (hb : SE X b fb) (hs : PlainIx b) : SE X (.Subscript a b pos) (dOp p fa fb) := PE.imp (pe_ix ho ha hb hs) fun _ _ _ g => op_lift g
theorem se_cmp {op : CmpOp} {p : P2} (ho : OpR X (compareOp op) (r2 X.K p)) (ha : SE X a fa) (hb : SE X b fb) (hm : behindInMarks op b = false) : SE X (.Compare a [op] [b] pos) (dOp p fa fb) := PE.imp (pe_cmpR ho ha hb hm) fun _ _ _ g => op_lift g
noncomputable def dTst (f : DE) : DT := fun δ h Q => f δ h fun d h' => match d with | .bl b => Q b h' | _ => False
theorem tst_lift {K : PySem.W.Frag} {f : DE} {σ : L2.St} {H : Hp} {Q : Bool → Hp → Prop} (g : LT K (dTst f) σ H Q) : LE K f σ H fun x H' => ∃ k, x = .bl k ∧ Q k H' := by
  obtain ⟨π, α, δ, h, Q', R, S, f, k⟩ := g
  refine ⟨π, α, δ, h, _, R, S, f, fun d h1 α1 H1 v1 f1 e1 R1 q1 => ?_⟩
  cases q1 with
  | bl b => exact ⟨b, rfl, k b h1 α1 H1 f1 e1 R1⟩
  | _ => exact f1.elim
theorem st_cmp {op : CmpOp} {p : P2} (ho : OpR X (compareOp op) (r2 X.K p)) (ha : SE X a fa) (hb : SE X b fb) (hm : behindInMarks op b = false) : ST X (.Compare a [op] [b] pos) (dTst (dOp p fa fb)) := PT.imp (pt_cmpR ho ha hb hm) fun _ _ _ g => by
  obtain ⟨π, α, δ, h, Q', R, S, f, k⟩ := tst_lift g
  exact op_lift (Q := fun x H' => ∃ k, x = .bl k ∧ _) ⟨π, α, δ, h, Q', R, S, f, k⟩
noncomputable def dChain (p q : P2) (a b c : DE) : DE := fun δ h Q => a δ h fun x h1 => b δ h1 fun y h2 => p x y h2 fun z h3 => match z with
  | .bl k => if k = true then c δ h3 fun w h4 => q y w h4 Q else Q (.bl false) h3
  | _ => False
theorem chain_lift {K : PySem.W.Frag} {p q : P2} {σ : L2.St} {H : Hp} {Q : VK} (g : LE K (dChain p q fa fb fc) σ H Q) : tChain (r2 K p) (r2 K q) (LE K fa) (LE K fb) (LE K fc) σ H Q := by
  obtain ⟨π, α, δ, h, Q', R, S, f, k⟩ := g
  refine ⟨π, α, δ, h, _, R, S, f, fun x h1 α1 H1 v1 f1 e1 R1 q1 => ?_⟩
  refine ⟨π, α1, δ, h1, _, R1, S.mono e1, f1, fun y h2 α2 H2 v2 f2 e2 R2 q2 => ?_⟩
  refine ⟨π, α2, h2, x, y, _, R2, q1.mono e2, q2, f2, fun z h3 α3 H3 v3 f3 e3 R3 q3 => ?_⟩
  cases q3 with
  | bl b =>
    refine ⟨b, rfl, ?_⟩
    cases b with
    | false => exact iteF (k _ _ _ _ _ (by simpa using f3) (e1.trans (e2.trans e3)) R3 (.bl false))
    | true =>
      have f3 : fc δ h3 fun w h4 => q y w h4 Q' := by simpa using f3
      refine iteT ⟨π, α3, δ, h3, _, R3, S.mono (e1.trans (e2.trans e3)), f3, fun w h4 α4 H4 v4 f4 e4 R4 q4 => ?_⟩
      exact ⟨π, α4, h4, y, w, Q', R4, q2.mono (e3.trans e4), q4, f4, fun d h' α' H' v a b c d' => k d h' α' H' v a (e1.trans (e2.trans (e3.trans (e4.trans b)))) c d'⟩
  | _ => exact f3.elim
theorem st_chain {op op' : CmpOp} {p q : P2} (ho : OpR X (compareOp op) (r2 X.K p)) (ho' : OpR X (compareOp op') (r2 X.K q)) (ha : SE X a fa) (hb : SE X b fb) (hc : SE X c fc)
    (hm : lastMarks [op, op'] [b, c] = false := by with_unfolding_all rfl) : ST X (.Compare a [op, op'] [b, c] pos) (dTst (dChain p q fa fb fc)) := PT.imp (pt_chain ho ho' ha hb hc hm) fun _ _ _ g => by
  obtain ⟨π, α, δ, h, Q', R, S, f, k⟩ := tst_lift g
  exact chain_lift (Q := fun x H' => ∃ k, x = .bl k ∧ _) ⟨π, α, δ, h, Q', R, S, f, k⟩
noncomputable def trD (h : Hh) : D → Option Bool
  | .non => some false
  | .bl b => some b
  | .int i => some (i != 0)
  | .str x => if x.length ≤ 16777216 then some ((x.length : Int) != 0) else none
  | .tup xs => some (!xs.isEmpty)
  | .lst xs => some (!xs.isEmpty)
  | .scr xs => some (!xs.isEmpty)
  | .ref i => match h[i]? with | some (.lst xs) => some (!xs.isEmpty) | _ => none
  | .exc _ _ => none
noncomputable def dTr (f : DE) : DT := fun δ h Q => f δ h fun d h' => match trD h' d with | some b => Q b h' | none => False
theorem isEmpty_rel {K : KP} {α : List Addr} {H : Hp} {ds : List D} {us : List V} (r : RelDs K α H ds us) : ds.isEmpty = us.isEmpty := by cases r <;> rfl
theorem tr_ok {K : KP} {α : List Addr} {H : Hp} {h : Hh} (R : HRel K α H h) {d : D} {v : V} {k : Bool} (r : RelD K α H d v) (e : trD h d = some k) : TruV K.K v H k := by
  cases r with
  | non => cases e; exact rfl
  | bl b => cases e; exact rfl
  | int i => cases e; exact rfl
  | str x =>
    have e : (if x.length ≤ 16777216 then some ((x.length : Int) != 0) else none) = some k := e
    split at e
    · rename_i hl
      cases e
      exact ⟨by rw [sizeLine_eq]; exact hl, rfl⟩
    · cases e
  | tup t r => cases e; exact .inr (.inl ⟨_, t.sq, by rw [isEmpty_rel r]⟩)
  | lst t r => cases e; exact .inl ⟨_, t.sq, by rw [isEmpty_rel r]⟩
  | scr t r => cases e; exact .inl ⟨_, t.sq, by rw [isEmpty_rel r]⟩
  | exc _ _ _ => cases e
  | @ref i a hp =>
    have e : (match h[i]? with | some (.lst xs) => some (!xs.isEmpty) | _ => none) = some k := e
    cases q : h[i]? with
    | none => rw [q] at e; cases e
    | some o =>
      rw [q] at e
      cases o with
      | lst ys =>
        cases e
        obtain ⟨p, us, e1, e2, e3⟩ := R.lst q
        rw [hp] at e1; cases e1
        exact .inl ⟨us, SqL.of e2, by rw [isEmpty_rel e3]⟩
      | _ => cases e
theorem st_truth (ha : SE X a fa) (he : ∀ whole, isTrue a X.env whole = (do let v ← whole; standAt a.pos; holding [v] (truthy v)) := by intro _; rfl) : ST X a (dTr fa) := PT.imp (pt_truth ha he) fun σ H Q ⟨π, α, δ, h, Q', R, S, f, k⟩ => by
  refine ⟨π, α, δ, h, _, R, S, f, fun d h1 α1 H1 v1 f1 e1 R1 q1 => ?_⟩
  cases q : trD h1 d with
  | none => rw [q] at f1; exact f1.elim
  | some b => rw [q] at f1; exact ⟨b, tr_ok R1 q1 q, k b h1 α1 H1 f1 e1 R1⟩
noncomputable def dAnd (t u : DT) : DT := fun δ h Q => t δ h fun c h1 => if c = true then u δ h1 Q else Q false h1
noncomputable def dOr (t u : DT) : DT := fun δ h Q => t δ h fun c h1 => if c = true then Q true h1 else u δ h1 Q
noncomputable def dNot (t : DT) : DT := fun δ h Q => t δ h fun c h1 => Q (!c) h1
variable {ga gb : DT} {rest : List Expr}
theorem sw_and1 (ha : ST X a ga) : SW X (.BoolOp .And [a] pos) ga := pw_and1 ha
theorem sw_or1 (ha : ST X a ga) : SW X (.BoolOp .Or [a] pos) ga := pw_or1 ha
theorem sw_and (ha : ST X a ga) (hb : SW X (.BoolOp .And (b :: rest) pos) gb) : SW X (.BoolOp .And (a :: b :: rest) pos) (dAnd ga gb) := PW.imp (pw_and ha hb) fun σ H Q ⟨π, α, δ, h, Q', R, S, f, k⟩ => by
  refine ⟨π, α, δ, h, _, R, S, f, fun c h1 α1 H1 f1 e1 R1 => ?_⟩
  cases c with
  | true => exact iteT ⟨π, α1, δ, h1, Q', R1, S.mono e1, by simpa using f1, fun b h' α' H' a e c => k b h' α' H' a (e1.trans e) c⟩
  | false => exact iteF (k false h1 α1 H1 (by simpa using f1) e1 R1)
theorem sw_or (ha : ST X a ga) (hb : SW X (.BoolOp .Or (b :: rest) pos) gb) : SW X (.BoolOp .Or (a :: b :: rest) pos) (dOr ga gb) := PW.imp (pw_or ha hb) fun σ H Q ⟨π, α, δ, h, Q', R, S, f, k⟩ => by
  refine ⟨π, α, δ, h, _, R, S, f, fun c h1 α1 H1 f1 e1 R1 => ?_⟩
  cases c with
  | true => exact iteT (k true h1 α1 H1 (by simpa using f1) e1 R1)
  | false => exact iteF ⟨π, α1, δ, h1, Q', R1, S.mono e1, by simpa using f1, fun b h' α' H' a e c => k b h' α' H' a (e1.trans e) c⟩
theorem st_w (h : SW X e ga) : ST X e ga := PW.pt h
theorem st_not (ha : ST X a ga) : ST X (.UnaryOp .Not a pos) (dNot ga) := PT.imp (pt_not ha) fun σ H Q ⟨π, α, δ, h, Q', R, S, f, k⟩ => ⟨π, α, δ, h, _, R, S, f, fun c h1 α1 H1 f1 e1 R1 => k (!c) h1 α1 H1 f1 e1 R1⟩
noncomputable def dAndV (a b : DE) : DE := fun δ h Q => a δ h fun x h1 => match x with | .bl k => if k = true then b δ h1 Q else Q (.bl false) h1 | _ => False
noncomputable def dOrV (a b : DE) : DE := fun δ h Q => a δ h fun x h1 => match x with | .bl k => if k = true then Q (.bl true) h1 else b δ h1 Q | _ => False
noncomputable def dNotV (a : DE) : DE := fun δ h Q => a δ h fun x h1 => match x with | .bl b => Q (.bl (!b)) h1 | _ => False
noncomputable def dIf (t : DT) (a b : DE) : DE := fun δ h Q => t δ h fun c h1 => if c = true then a δ h1 Q else b δ h1 Q
theorem se_if (hc : ST X c ga) (ha : SE X a fa) (hb : SE X b fb) : SE X (.IfExp c a b pos) (dIf ga fa fb) := PE.imp (pe_ifExp hc ha hb) fun σ H Q ⟨π, α, δ, h, Q', R, S, f, k⟩ => by
  refine ⟨π, α, δ, h, _, R, S, f, fun c h1 α1 H1 f1 e1 R1 => ?_⟩
  cases c with
  | true => exact iteT ⟨π, α1, δ, h1, Q', R1, S.mono e1, by simpa using f1, fun d h' α' H' v a e c d' => k d h' α' H' v a (e1.trans e) c d'⟩
  | false => exact iteF ⟨π, α1, δ, h1, Q', R1, S.mono e1, by simpa using f1, fun d h' α' H' v a e c d' => k d h' α' H' v a (e1.trans e) c d'⟩
noncomputable def dNil : DA := fun _ h Q => Q [] h
noncomputable def dCons (a : DE) (r : DA) : DA := fun δ h Q => a δ h fun x h1 => r δ h1 fun xs h2 => Q (x :: xs) h2
variable {es : List Expr} {n : Nat} {fs : DA}
theorem sa_nil : SA X [] 0 dNil := PA.imp pa_nil fun σ H Q ⟨π, α, δ, h, Q', R, S, f, k⟩ => k [] h α H [] f (Ext.refl ..) R .nil rfl
theorem sa_cons (ha : SE X e fa) (hr : SA X es n fs) (hs : starEach (e :: es) X.env = (false, eval e X.env) :: starEach es X.env := by rfl) : SA X (e :: es) (n + 1) (dCons fa fs) := PA.imp (pa_cons ha hr hs) fun σ H Q ⟨π, α, δ, h, Q', R, S, f, k⟩ => by
  refine ⟨π, α, δ, h, _, R, S, f, fun x h1 α1 H1 v1 f1 e1 R1 q1 => ?_⟩
  refine ⟨π, α1, δ, h1, _, R1, S.mono e1, f1, fun ds h2 α2 H2 vs f2 e2 R2 q2 l2 => ?_⟩
  exact k (x :: ds) h2 α2 H2 (v1 :: vs) f2 (e1.trans e2) R2 (.cons (q1.mono e2) q2) (by rw [List.length_cons, l2])
noncomputable def dTup (f : DA) : DE := fun δ h Q => f δ h fun ds h1 => Q (.tup ds) h1
theorem se_tup {x1} (hf : SA X es n fs) (hn : n ≤ sizeLine := by decide) : SE X (.Tuple es x1 pos) (dTup fs) := PE.imp (pe_tup hf) fun σ H Q ⟨π, α, δ, h, Q', R, S, f, k⟩ => by
  refine ⟨π, α, δ, h, _, R, S, f, fun ds h1 α1 H1 vs f1 e1 R1 q1 l1 => ⟨by rw [← q1.length, l1]; exact hn, fun p hp => ?_⟩⟩
  have e2 : Ext α1 H1 α1 (upd H1 p (.tup vs)) := Ext.new hp
  exact k (.tup ds) h1 α1 _ _ f1 (e1.trans e2) (R1.new hp) (.tup ⟨R1.out hp, R1.outP hp, upd_same⟩ (q1.mono e2))
noncomputable abbrev DN := Sl → Hh → (List D → Hh → Prop) → Prop
inductive LN (K : PySem.W.Frag) (f : DN) (σ : St) (H : Hp) (Q : VK) : Prop
  | mk (π : List Addr) (α : List Addr) (δ : Sl) (h : Hh) (Q' : List D → Hh → Prop) : HRel ⟨K, π⟩ α H h → RelS ⟨K, π⟩ α H δ σ → f δ h Q' → (∀ ds h' α' H' us p, Q' ds h' → Ext α H α' H' → HRel ⟨K, p :: π⟩ α' H' h' → RelDs ⟨K, p :: π⟩ α' H' ds us → H' p = some (.lst us) → H p = none → p ∉ π → Q (.ref p) H') → LN K f σ H Q
theorem LN.last {K : PySem.W.Frag} {π α α' : List Addr} {H H' : Hp} {h h' : Hh} {Q : VK} {Q' : List D → Hh → Prop} (k : ∀ ds h' α' H' us p, Q' ds h' → Ext α H α' H' → HRel ⟨K, p :: π⟩ α' H' h' → RelDs ⟨K, p :: π⟩ α' H' ds us → H' p = some (.lst us) → H p = none → p ∉ π → Q (.ref p) H')
    {ds : List D} {us : List V} {p : Addr} (f : Q' ds h') (e : Ext α H α' H') (R : HRel ⟨K, π⟩ α' H' h') (r : RelDs ⟨K, π⟩ α' H' ds us) (hp : H' p = none) : Q (.ref p) (upd H' p (.lst us)) := by
  have e2 : Ext α' H' α' (upd H' p (.lst us)) := Ext.new hp
  refine k ds h' α' _ us p f (e.trans e2) (R.under hp) ((r.more fun q hq => ?_).mono e2) upd_same (e.dom p hp) (R.outP hp)
  rcases List.mem_cons.mp hq with rfl | z
  · exact .inr hp
  · exact .inl z
noncomputable def SN (X : Cx) (e : Expr) (f : DN) : Prop := PE X e (LN X.K f)
noncomputable def dV (f : DN) : DE := fun δ h Q => f δ h fun ds h' => Q (.lst ds) h'
noncomputable def dTk (f : DN) : DE := fun δ h Q => f δ h fun ds h' => Q (.ref h'.length) (h' ++ [.lst ds])
variable {fn : DN}
theorem se_v (hf : SN X e fn) : SE X e (dV fn) := PE.imp hf fun σ H Q ⟨π, α, δ, h, Q', R, S, f, k⟩ => by
  refine ⟨π, α, δ, h, _, R, S, f, fun ds h1 α1 H1 us p f1 e1 R1 q1 hus hp np => ?_⟩
  exact k (.lst ds) h1 α1 _ _ f1 e1 R1.less (.lst ⟨(R1.dis p List.mem_cons_self).1, np, hus⟩ (q1.more fun q hq => .inl (List.mem_cons_of_mem _ hq)))
theorem se_t (hf : SN X e fn) : SE X e (dTk fn) := PE.imp hf fun σ H Q ⟨π, α, δ, h, Q', R, S, f, k⟩ => by
  refine ⟨π, α, δ, h, _, R, S, f, fun ds h1 α1 H1 us p f1 e1 R1 q1 hus hp np => ?_⟩
  refine k (.ref h1.length) (h1 ++ [.lst ds]) (α1 ++ [p]) _ _ f1 (e1.adopt hp) (R1.adopt np (.lst hus q1.adopt)) (.ref ?_)
  rw [← R1.len]; simp
theorem sn_lst (hf : SA X es n fs) (hn : n ≤ sizeLine := by decide) : SN X (.List es pos) fs := PE.imp (pe_lst hf) fun σ H Q ⟨π, α, δ, h, Q', R, S, f, k⟩ => by
  refine ⟨π, α, δ, h, _, R, S, f, fun ds h1 α1 H1 vs f1 e1 R1 q1 l1 => ⟨by rw [← q1.length, l1]; exact hn, fun p hp => ?_⟩⟩
  exact LN.last (h := h) k f1 e1 R1 q1 hp
end
end DL
namespace DL
open PySem PySem.Spec L2
section
variable {X : Cx}
noncomputable def pI (C : Int → Int → Prop) (g : Int → Int → Int) : P2 := fun x y h Q => match x, y with | .int i, .int j => C i j ∧ Q (.int (g i j)) h | _, _ => False
noncomputable def pI0 (g : Int → Int → Int) : P2 := fun x y h Q => match x, y with | .int i, .int j => Q (.int (g i j)) h | _, _ => False
noncomputable def pB0 (g : Int → Int → Bool) : P2 := fun x y h Q => match x, y with | .int i, .int j => Q (.bl (g i j)) h | _, _ => False
theorem pI_ok {f : Value → Value → Sem Value} {C : Int → Int → Prop} {g : Int → Int → Int} (h : OpR X f (rI C fun i j => .int (g i j))) : OpR X f (r2 X.K (pI C g)) := OpR.imp h fun x y H Q ⟨π, α, h, d, e, Q', R, r1, r2, f, k⟩ => by
  cases r1 with
  | int i =>
    cases r2 with
    | int j => exact ⟨i, j, rfl, rfl, f.1, k _ h α H _ f.2 (Ext.refl ..) R (.int _)⟩
    | _ => exact f.elim
  | _ => exact f.elim
theorem pI0_ok {f : Value → Value → Sem Value} {g : Int → Int → Int} (h : OpR X f (rI0 fun i j => .int (g i j))) : OpR X f (r2 X.K (pI0 g)) := OpR.imp h fun x y H Q ⟨π, α, h, d, e, Q', R, r1, r2, f, k⟩ => by
  cases r1 with
  | int i =>
    cases r2 with
    | int j => exact ⟨i, j, rfl, rfl, k _ h α H _ f (Ext.refl ..) R (.int _)⟩
    | _ => exact f.elim
  | _ => exact f.elim
theorem pB0_ok {f : Value → Value → Sem Value} {g : Int → Int → Bool} (h : OpR X f (rI0 fun i j => .bl (g i j))) : OpR X f (r2 X.K (pB0 g)) := OpR.imp h fun x y H Q ⟨π, α, h, d, e, Q', R, r1, r2, f, k⟩ => by
  cases r1 with
  | int i =>
    cases r2 with
    | int j => exact ⟨i, j, rfl, rfl, k _ h α H _ f (Ext.refl ..) R (.bl _)⟩
    | _ => exact f.elim
  | _ => exact f.elim
noncomputable abbrev pSub : P2 := pI0 fun i j => i - j
noncomputable abbrev pDiv : P2 := pI (fun _ j => 0 < j ∧ j < 2 ^ 100) fun i j => i / j
noncomputable abbrev pMod : P2 := pI (fun _ j => 0 < j) fun i j => i % j
noncomputable abbrev pPow : P2 := pI CPow fun i j => i ^ j.toNat
noncomputable abbrev pShl : P2 := pI CPow fun i j => i * 2 ^ j.toNat
noncomputable abbrev pShr : P2 := pI (fun _ j => 0 ≤ j) fun i j => i / 2 ^ j.toNat
noncomputable abbrev pBand : P2 := pI0 fun i j => Builtin.bitAnd i j
noncomputable abbrev pLtI : P2 := pB0 fun i j => decide (i < j)
noncomputable abbrev pLe : P2 := pB0 fun i j => decide (i ≤ j)
noncomputable abbrev pGt : P2 := pB0 fun i j => decide (j < i)
theorem ok_sub : OpR X (binaryOp .Sub) (r2 X.K pSub) := pI0_ok op_sub
theorem op_fdivB : OpR X (binaryOp .FloorDiv) (rI (fun _ j => 0 < j ∧ j < 2 ^ 100) fun i j => .int (i / j)) := opI fun i j _ _ _ _ _ hc q => by
  have e : i.fdiv j = i / j := Int.fdiv_eq_ediv_of_nonneg i (by omega)
  refine PyProof.Rows.floordiv_int (by omega) (by rw [e]; exact q) (.inl (PyProof.noPylong_of_log2 ?_))
  have h1 : j.natAbs ≠ 0 := by omega
  rw [Nat.log2_lt h1]
  have h2 : j.natAbs < 2 ^ 100 := by
    have := hc.2
    omega
  exact Nat.lt_of_lt_of_le h2 (Nat.pow_le_pow_right (by decide) (by decide))
theorem ok_div : OpR X (binaryOp .FloorDiv) (r2 X.K pDiv) := pI_ok op_fdivB
theorem ok_mod : OpR X (binaryOp .Mod) (r2 X.K pMod) := pI_ok op_mod
theorem ok_pow : OpR X (binaryOp .Pow) (r2 X.K pPow) := pI_ok op_pow
theorem ok_shl : OpR X (binaryOp .LShift) (r2 X.K pShl) := pI_ok op_shl
theorem ok_shr : OpR X (binaryOp .RShift) (r2 X.K pShr) := pI_ok op_shr
theorem ok_band : OpR X (binaryOp .BitAnd) (r2 X.K pBand) := pI0_ok op_and
theorem ok_le : OpR X (compareOp .LtE) (r2 X.K pLe) := pB0_ok op_le
theorem ok_gt : OpR X (compareOp .Gt) (r2 X.K pGt) := pB0_ok op_gt
theorem ok_ltI : OpR X (compareOp .Lt) (r2 X.K pLtI) := pB0_ok op_lt
theorem iok_add : OpR X (inplaceOp .Add) (r2 X.K (pI0 fun i j => i + j)) := pI0_ok iop_add
noncomputable def pAdd : P2 := fun x y h Q => match x, y with
  | .int i, .int j => Q (.int (i + j)) h
  | .str a, .str b => a.length + b.length ≤ 16777216 ∧ Q (.str (a ++ b)) h
  | .tup a, .tup b => a ≠ [] ∧ a.length + b.length ≤ 16777216 ∧ Q (.tup (a ++ b)) h
  | _, _ => False
theorem ok_add : OpR X (binaryOp .Add) (r2 X.K pAdd) := OpR.imp (op_add.or (op_add_str.or op_catT)) fun x y H Q ⟨π, α, h, d, e, Q', R, r1, r2, f, k⟩ => by
  cases r1 with
  | int i =>
    cases r2 with
    | int j => exact .inl ⟨i, j, rfl, rfl, k _ h α H _ f (Ext.refl ..) R (.int _)⟩
    | _ => exact f.elim
  | str i =>
    cases r2 with
    | str j => exact .inr (.inl ⟨i, j, rfl, rfl, by rw [sizeLine_eq]; exact f.1, k _ h α H _ f.2 (Ext.refl ..) R (.str _)⟩)
    | _ => exact f.elim
  | @tup a us ds t r =>
    cases r2 with
    | @tup a' us' ds' t' r' =>
      obtain ⟨f1, f2, f3⟩ := f
      have l1 := r.length
      have l2 := r'.length
      refine .inr (.inr ⟨a, a', us, us', rfl, rfl, t.sq, t'.sq, ?_, by rw [sizeLine_eq, ← l1, ← l2]; exact f2, fun z => ?_, fun z p hp => ?_⟩)
      · intro z
        subst z
        cases r; exact f1 rfl
      · subst z
        cases r'
        rw [List.append_nil] at f3
        exact k _ h α H _ f3 (Ext.refl ..) R (.tup t r)
      · have e2 : Ext α H α (upd H p (.tup (us ++ us'))) := Ext.new hp
        exact k _ h α _ _ f3 e2 (R.new hp) (.tup ⟨R.out hp, R.outP hp, upd_same⟩ ((r.append r').mono e2))
    | _ => exact f.elim
  | _ => exact f.elim
noncomputable def pNeg : P1 := fun x h Q => match x with | .int i => Q (.int (-i)) h | _ => False
theorem ok_neg : UnR X (unaryOp .USub) (r1 X.K pNeg) := UnR.imp un_neg fun x H Q ⟨π, α, h, d, Q', R, r1, f, k⟩ => by
  cases r1 with
  | int i => exact ⟨i, rfl, k _ h α H _ f (Ext.refl ..) R (.int _)⟩
  | _ => exact f.elim
noncomputable def isNon : D → Bool | .non => true | _ => false
noncomputable def pIs (neg : Bool) : P2 := fun x y h Q => match y with | .non => Q (.bl (if neg then !isNon x else isNon x)) h | _ => False
theorem isNon_rel {K : KP} {α : List Addr} {H : Hp} {d : D} {v : V} (r : RelD K α H d v) : decide (v = .non) = isNon d := by cases r <;> rfl
theorem ok_is : OpR X (compareOp .Is) (r2 X.K (pIs false)) := OpR.imp op_isN fun x y H Q ⟨π, α, h, d, e, Q', R, r1, r2, f, k⟩ => by
  cases r2 with
  | non =>
    refine ⟨rfl, k _ h α H _ f (Ext.refl ..) R ?_⟩
    rw [isNon_rel r1]; exact .bl _
  | _ => exact f.elim
theorem atI_rel {K : KP} {α : List Addr} {H : Hp} {ds : List D} {us : List V} {i : Int} {d : D} (r : RelDs K α H ds us) (e : atI ds i = some d) : ∃ u, atI us i = some u ∧ RelD K α H d u := by
  unfold atI at e ⊢
  rw [← r.length]
  cases q : ixN ds.length i with
  | none => rw [q] at e; cases e
  | some j =>
    rw [q] at e
    exact r.get e
noncomputable def seqOf (h : Hh) : D → Option (List D)
  | .lst xs => some xs
  | .scr xs => some xs
  | .tup xs => some xs
  | .ref i => match h[i]? with | some (.lst xs) => some xs | _ => none
  | _ => none
theorem seqOf_sq {K : KP} {α : List Addr} {H : Hp} {h : Hh} (R : HRel K α H h) {d : D} {v : V} {xs : List D} (r : RelD K α H d v) (e : seqOf h d = some xs) : ∃ p us, v = .ref p ∧ (SqL K.K H p us ∨ SqT K.K H p us) ∧ RelDs K α H xs us := by
  by_cases z : ∃ ys, d = .tup ys
  · obtain ⟨ys, rfl⟩ := z
    cases e
    obtain ⟨p, us, a, b, c⟩ := tup_sq r
    exact ⟨p, us, a, .inr b, c⟩
  · have e' : lsOf h d = some xs := by
      cases d with
      | tup ys => exact absurd ⟨ys, rfl⟩ z
      | lst ys => exact e
      | scr ys => exact e
      | ref i => exact e
      | _ => cases e
    obtain ⟨p, us, a, b, c⟩ := lsOf_sq R r e'
    exact ⟨p, us, a, .inl b, c⟩
noncomputable def strAt (x : Str) (i : Int) : Option D := if x.length ≤ 16777216 then (atI x.cps.toList i).map fun c => .str ⟨#[c]⟩ else none
noncomputable def ixD (h : Hh) (x y : D) : Option D := match y with
  | .int i => match x with
    | .tup xs => atI xs i
    | .lst xs => atI xs i
    | .scr xs => atI xs i
    | .ref j => match h[j]? with | some (.lst xs) => atI xs i | _ => none
    | .str s => strAt s i
    | _ => none
  | _ => none
noncomputable def pIx : P2 := fun x y h Q => match ixD h x y with | some d => Q d h | none => False
theorem ok_ix : IxR X (r2 X.K pIx) := IxR.imp ix_seq fun x y H Q ⟨π, α, h, d, e, Q', R, r1, r2, f, k⟩ => by
  unfold pIx at f
  cases q : ixD h d e with
  | none => rw [q] at f; exact f.elim
  | some z =>
    rw [q] at f
    cases r2 with
    | int i =>
      cases r1 with
      | @tup a us ds t r =>
        obtain ⟨u, e1, e2⟩ := atI_rel r q
        exact .inr (.inl ⟨_, us, i, u, rfl, rfl, t.sq, e1, k _ h α H _ f (Ext.refl ..) R e2⟩)
      | @lst a us ds t r =>
        obtain ⟨u, e1, e2⟩ := atI_rel r q
        exact .inl ⟨_, us, i, u, rfl, rfl, t.sq, e1, k _ h α H _ f (Ext.refl ..) R e2⟩
      | @scr a us ds t r =>
        obtain ⟨u, e1, e2⟩ := atI_rel r q
        exact .inl ⟨_, us, i, u, rfl, rfl, t.sq, e1, k _ h α H _ f (Ext.refl ..) R e2⟩
      | @ref j a hp =>
        have q : (match h[j]? with | some (.lst xs) => atI xs i | _ => none) = some z := q
        cases w : h[j]? with
        | none => rw [w] at q; cases q
        | some o =>
          rw [w] at q
          cases o with
          | lst ys =>
            obtain ⟨p, us, e1, e2, e3⟩ := R.lst w
            rw [hp] at e1; cases e1
            obtain ⟨u, e4, e5⟩ := atI_rel e3 q
            exact .inl ⟨_, us, i, u, rfl, rfl, SqL.of e2, e4, k _ h α H _ f (Ext.refl ..) R e5⟩
          | _ => cases q
      | str s =>
        have q : strAt s i = some z := q
        unfold strAt at q
        split at q
        · rename_i hl
          cases w : atI s.cps.toList i with
          | none => rw [w] at q; cases q
          | some c =>
            rw [w] at q
            cases q
            exact .inr (.inr ⟨s, i, c, rfl, rfl, by rw [sizeLine_eq]; exact hl, w, k _ h α H _ f (Ext.refl ..) R (.str _)⟩)
        · cases q
      | _ => cases q
    | _ => cases q
end
noncomputable def cutD (xs : List D) (lo hi : Option Int) : List D := (xs.drop (HT.sIx xs.length 0 lo)).take (HT.sIx xs.length xs.length hi - HT.sIx xs.length 0 lo)
theorem cut_rel {K : KP} {α : List Addr} {H : Hp} {ds : List D} {us : List V} (r : RelDs K α H ds us) (lo hi : Option Int) : RelDs K α H (cutD ds lo hi) (cutV us lo hi) := by
  unfold cutD cutV
  rw [r.length]
  exact (r.drop _).take _
noncomputable abbrev DO := Sl → Hh → (Option Int → Hh → Prop) → Prop
noncomputable def dNoPart : DO := fun _ h Q => Q none h
noncomputable def dPart (f : DE) : DO := fun δ h Q => f δ h fun d h1 => match d with | .int i => Q (some i) h1 | _ => False
inductive LO (K : PySem.W.Frag) (f : DO) (σ : St) (H : Hp) (Q : Option Int → Hp → Prop) : Prop
  | mk (π : List Addr) (α : List Addr) (δ : Sl) (h : Hh) (Q' : Option Int → Hh → Prop) : HRel ⟨K, π⟩ α H h → RelS ⟨K, π⟩ α H δ σ → f δ h Q' → (∀ i h' α' H', Q' i h' → Ext α H α' H' → HRel ⟨K, π⟩ α' H' h' → Q i H') → LO K f σ H Q
noncomputable def SO (X : Cx) (e : Option Expr) (f : DO) : Prop := PO X e (LO X.K f)
section
variable {X : Cx} {e : Expr} {fe : DE} {lo hi : Option Expr} {fl fh : DO} {pos p2 : Pos}
theorem PO.imp {o : Option Expr} {t t' : TO} (h : PO X o t) (k : ∀ σ H Q, t' σ H Q → t σ H Q) : PO X o t' := fun pins s σ H Q I q => h pins s σ H Q I (k σ H Q q)
theorem so_none : SO X none dNoPart := PO.imp po_none fun σ H Q ⟨π, α, δ, h, Q', R, S, f, k⟩ => k none h α H f (Ext.refl ..) R
theorem so_some (h : SE X e fe) : SO X (some e) (dPart fe) := PO.imp (po_some h) fun σ H Q ⟨π, α, δ, h, Q', R, S, f, k⟩ => by
  refine ⟨π, α, δ, h, _, R, S, f, fun d h1 α1 H1 v1 f1 e1 R1 q1 => ?_⟩
  cases q1 with
  | int i => exact ⟨i, rfl, k (some i) h1 α1 H1 f1 e1 R1⟩
  | _ => exact f1.elim
noncomputable def rSlD (K : PySem.W.Frag) : V → Option Int → Option Int → Hp → VK → Prop := fun x lo hi H Q => ∃ a xs, x = .ref a ∧ SqT K H a xs ∧ (cutV xs lo hi = xs → Q (.ref a) H) ∧ ∀ p, H p = none → Q (.ref p) (upd H p (.tup (cutV xs lo hi)))
theorem sl_tupD : SlR X (rSlD X.K) := by
  intro pins s σ H x v vl vu lo hi sl Q I rx hs pl pu h
  obtain ⟨a, xs, rfl, hx, q1, q2⟩ := h
  by_cases hw : HT.sIx xs.length 0 lo = 0 ∧ HT.sIx xs.length xs.length hi = xs.length
  · cases rx
    obtain ⟨its, r, ht, hz⟩ := I.tuple hx
    have hlen : its.toArray.size = xs.length := by rw [List.size_toArray]; exact r.length.symm
    refine ⟨"tuple", _, PyProof.Rows.slot_tuple_getitem.lookup, ht.typeIs, ?_⟩
    have ec : cutV xs lo hi = xs := by
      unfold cutV
      rw [hw.1, hw.2, List.drop_zero, Nat.sub_zero, List.take_length]
    exact HT.getItem_tuple_all ht hs pl pu (by rw [hlen]; exact hw) ⟨.ref a, H, I, rfl, q1 ec⟩
  · exact sl_tup pins s σ H (.ref a) v vl vu lo hi sl Q I rx hs pl pu ⟨a, xs, rfl, hx, hw, fun p hp => q2 p hp⟩
noncomputable def dSlL (fe : DE) (fl fh : DO) : DN := fun δ h Q => fe δ h fun d h1 => fl δ h1 fun l h2 => fh δ h2 fun u h3 => match lsOf h3 d with | some xs => Q (cutD xs l u) h3 | none => False
end
end DL
namespace DL
open PySem PySem.Spec L2
noncomputable def dName (i : Nat) : DG := fun d δ h Q => Q (δ.set i (some d)) h
noncomputable def dGNil : DGs := fun ds δ h Q => match ds with | [] => Q δ h | _ => False
noncomputable def dGCons (t : DG) (u : DGs) : DGs := fun ds δ h Q => match ds with | d :: r => t d δ h fun δ' h' => u r δ' h' Q | [] => False
noncomputable def dUnp (n : Nat) (t : DGs) : DG := fun d δ h Q => match d with | .tup xs => xs.length = n ∧ t xs δ h Q | _ => False
section
variable {X : Cx} {pos : Pos}
theorem sg_name {i : Nat} {x : Str} (hN : X.N.Nodup) (hi : X.N[i]? = some x) (hx : Loc X.env.scope x) (hf : X.fn x = true ∨ X.env.scope.names.lookup x = some .local := by trivial) : SG X (.Name x pos) (dName i) := PG.imp (pg_name hN hi hx hf) fun v σ H Q ⟨π, α, δ, h, d, Q', R, S, r, f, k⟩ =>
  k _ h α H _ f (Ext.refl ..) R (S.set i r)
theorem sgs_nil : SGs X [] dGNil := PGs.imp pgs_nil fun vs σ H Q ⟨π, α, δ, h, ds, Q', R, S, r, f, k⟩ => by
  cases r with
  | nil => exact ⟨rfl, k δ h α H σ f (Ext.refl ..) R S⟩
  | cons _ _ => exact f.elim
theorem sgs_cons {e : Expr} {es : List Expr} {t : DG} {u : DGs} (h1 : SG X e t) (h2 : SGs X es u) (hs : (assignEach (e :: es) X.env).map (·.2) = assign e X.env :: (assignEach es X.env).map (·.2) := by rfl) : SGs X (e :: es) (dGCons t u) := PGs.imp (pgs_cons h1 h2 hs) fun vs σ H Q ⟨π, α, δ, h, ds, Q', R, S, r, f, k⟩ => by
  cases r with
  | nil => exact f.elim
  | @cons d v ds us rd rs =>
    refine ⟨v, us, rfl, π, α, δ, h, d, _, R, S, rd, f, fun δ1 h1 α1 H1 σ1 f1 e1 R1 S1 => ?_⟩
    exact ⟨π, α1, δ1, h1, ds, Q', R1, S1, rs.mono e1, f1, fun δ' h' α' H' σ' a b c d' => k δ' h' α' H' σ' a (e1.trans b) c d'⟩
theorem sg_tup {es : List Expr} {j : Nat} {t : DGs} {n : Nat} (hc : X.calm = true) (h : SGs X es t) (hn : (assignEach es X.env).length = n := by rfl) (hst : (assignEach es X.env).findIdx? (·.1) = none := by rfl) : SG X (.Tuple es j pos) (dUnp n t) := PG.imp (pg_tup hc h hn hst) fun v σ H Q ⟨π, α, δ, h, d, Q', R, S, r, f, k⟩ => by
  cases r with
  | @tup a us ds t rs => exact ⟨a, us, rfl, t.sq, by rw [← rs.length]; exact f.1, π, α, δ, h, ds, Q', R, S, rs, f.2, k⟩
  | _ => exact f.elim
noncomputable def setD (o i v : D) (h : Hh) (Q : Hh → Prop) : Prop := match o, i with
  | .ref j, .int k => match h[j]? with
    | some (.lst xs) => match ixN xs.length k with
      | some m => Q (h.set j (.lst (xs.set m v)))
      | none => False
    | _ => False
  | _, _ => False
noncomputable def dSubL (fo fi : DE) : DG := fun v δ h Q => fo δ h fun o h1 => fi δ h1 fun i h2 => setD o i v h2 fun h3 => Q δ h3
end
noncomputable def dNext : DS := fun E δ h => E.nx δ h
noncomputable def dSeq (f g : DS) : DS := fun E δ h => f { E with nx := g E } δ h
noncomputable def dNever : DS := fun _ _ _ => False
noncomputable def dBreak : DS := fun E δ h => E.bk δ h
noncomputable def dCont : DS := fun E δ h => E.ct δ h
noncomputable def dDrop (f : DE) : DS := fun E δ h => f δ h fun _ h1 => E.nx δ h1
noncomputable def dRet (f : DE) : DS := fun E δ h => f δ h E.rt
noncomputable def dRetN : DS := fun E _ h => E.rt .non h
noncomputable def dIfS (t : DT) (f g : DS) : DS := fun E δ h => t δ h fun c h1 => if c = true then f E δ h1 else g E δ h1
noncomputable def dAsg (f : DE) (g : DG) : DS := fun E δ h => f δ h fun x h1 => g x δ h1 E.nx
noncomputable def dAug (i : Nat) (f : DE) (p : P2) : DS := fun E δ h => match δ[i]? with | some (some x) => f δ h fun y h1 => p x y h1 fun z h2 => E.nx (δ.set i (some z)) h2 | _ => False
section
variable {X : Cx} {s : Stmt} {ss : List Stmt} {f g : DS} {e : Expr} {fe : DE} {pos : Pos}
theorem seq_lift {K : PySem.W.Frag} {Ex : XK} {F : Ends} {σ : L2.St} {H : Hp} (w : LS K Ex (dSeq f g) F σ H) : tSeq (LS K Ex f) (LS K Ex g) F σ H := by
  obtain ⟨π, α, δ, h, E, R, S, q, k⟩ := w
  exact ⟨π, α, δ, h, { E with nx := g E }, R, S, q, ⟨fun δ' h' α' H' σ' a b c d => ⟨π, α', δ', h', E, c, d, a, k.mono b⟩, k.rt, k.bk, k.ct, k.ex⟩⟩
theorem ss_nil : SSs X [] dNext := PSs.imp pss_nil fun F σ H ⟨π, α, δ, h, E, R, S, q, k⟩ => k.nx δ h α H σ q (Ext.refl ..) R S
theorem ss_one (h : SS X s f) : SSs X [s] f := pss_one h
theorem ss_cons (h1 : SS X s f) (h2 : SSs X ss g) : SSs X (s :: ss) (dSeq f g) := PSs.imp (pss_cons h1 h2) fun _ _ _ w => seq_lift w
theorem s_never : SS X s dNever := PS.imp ps_never fun F σ H ⟨π, α, δ, h, E, R, S, q, k⟩ => q.elim
theorem s_expr (he : SE X e fe) (hs : swapsWith e none pos.line X.env = pure false := by rfl) : SS X (.Expr e pos) (dDrop fe) := PS.imp (ps_expr he hs) fun F σ H ⟨π, α, δ, h, E, R, S, q, k⟩ =>
  ⟨π, α, δ, h, _, R, S, q, fun d h1 α1 H1 v1 f1 e1 R1 q1 => k.nx δ h1 α1 H1 σ f1 e1 R1 (S.mono e1)⟩
theorem s_ret (he : SE X e fe) : SS X (.Return (some e) pos) (dRet fe) := PS.imp (ps_ret he) fun F σ H ⟨π, α, δ, h, E, R, S, q, k⟩ => ⟨π, α, δ, h, _, R, S, q, fun d h1 α1 H1 v1 f1 e1 R1 q1 => k.rt d h1 α1 H1 v1 f1 e1 R1 q1⟩
theorem s_if {c : Expr} {a b : List Stmt} {t : DT} (hc : ST X c t) (ha : SSs X a f) (hb : SSs X b g) : SS X (.If c a b pos) (dIfS t f g) := PS.imp (ps_if hc ha hb) fun F σ H ⟨π, α, δ, h, E, R, S, q, k⟩ => by
  refine ⟨π, α, δ, h, _, R, S, q, fun c h1 α1 H1 f1 e1 R1 => ?_⟩
  cases c with
  | true => exact iteT ⟨π, α1, δ, h1, E, R1, S.mono e1, by simpa using f1, k.mono e1⟩
  | false => exact iteF ⟨π, α1, δ, h1, E, R1, S.mono e1, by simpa using f1, k.mono e1⟩
theorem asg_lift {K : PySem.W.Frag} {Ex : XK} {tg : DG} {F : Ends} {σ : L2.St} {H : Hp} (w : LS K Ex (dAsg fe tg) F σ H) : tAsg (LE K fe) (LG K tg) F σ H := by
  obtain ⟨π, α, δ, h, E, R, S, q, k⟩ := w
  refine ⟨π, α, δ, h, _, R, S, q, fun d h1 α1 H1 v1 f1 e1 R1 q1 => ?_⟩
  exact ⟨π, α1, δ, h1, d, E.nx, R1, S.mono e1, q1, f1, fun δ' h' α' H' σ' a b c d' => k.nx δ' h' α' H' σ' a (e1.trans b) c d'⟩
theorem s_asg {tg : Expr} {t : DG} (he : SE X e fe) (hg : SG X tg t) (hs : swapsWithSole [tg] e pos.line X.env = pure false := by rfl) (hw : swappedStores [tg] e X.env = pure none := by rfl)
    (h1 : (assignEach [tg] X.env).map (·.2) = [assign tg X.env] := by rfl) : SS X (.Assign [tg] e pos) (dAsg fe t) := PS.imp (ps_asg he hg hs hw h1) fun _ _ _ w => asg_lift w
theorem asgN_lift {K : PySem.W.Frag} {Ex : XK} {i : Nat} {F : Ends} {σ : L2.St} {H : Hp} (w : LS K Ex (dAsg fe (dName i)) F σ H) : tAsg (LE K fe) (gName i) F σ H := by
  obtain ⟨π, α, δ, h, E, R, S, q, k⟩ := w
  exact ⟨π, α, δ, h, _, R, S, q, fun d h1 α1 H1 v1 f1 e1 R1 q1 => k.nx _ h1 α1 H1 _ f1 e1 R1 ((S.mono e1).set i q1)⟩
theorem s_set {i : Nat} {x : Str} {pos' : Pos} (hN : X.N.Nodup) (hi : X.N[i]? = some x) (hx : Loc X.env.scope x) (he : SE X e fe) (hs : swapsWith e (some (.Name x pos')) pos.line X.env = pure false := by rfl) (hf : X.fn x = true ∨ X.env.scope.names.lookup x = some .local := by trivial) :
    SS X (.Assign [.Name x pos'] e pos) (dAsg fe (dName i)) := PS.imp (ps_set hN hi hx he hs hf) fun _ _ _ w => asgN_lift w
theorem s_aug {i : Nat} {x : Str} {op : Operator} {p : P2} {pos' : Pos} (hN : X.N.Nodup) (hi : X.N[i]? = some x) (hx : Loc X.env.scope x) (he : SE X e fe) (ho : OpR X (inplaceOp op) (r2 X.K p)) (hf : X.fn x = true ∨ X.env.scope.names.lookup x = some .local := by trivial) :
    SS X (.AugAssign (.Name x pos') op e pos) (dAug i fe p) := PS.imp (ps_aug hN hi hx he ho hf) fun F σ H ⟨π, α, δ, h, E, R, S, q, k⟩ => by
  unfold dAug at q
  split at q
  · rename_i d w
    obtain ⟨v, h1, h2⟩ := S.get i d w
    refine ⟨v, h1, π, α, δ, h, _, R, S, q, fun y h1 α1 H1 v1 f1 e1 R1 q1 => ?_⟩
    exact ⟨π, α1, h1, d, y, _, R1, h2.mono e1, q1, f1, fun z h2 α2 H2 v2 f2 e2 R2 q2 => k.nx _ h2 α2 H2 _ f2 (e1.trans e2) R2 ((S.mono (e1.trans e2)).set i q2)⟩
  · exact q.elim
noncomputable def dAugS (fo fi fe : DE) (p : P2) : DS := fun E δ h => fo δ h fun o h1 => fi δ h1 fun i h2 => match o, i with
  | .ref j, .int n => 0 ≤ n ∧ match h2[j]? with
    | some (.lst xs) => match xs[n.toNat]? with
      | some x => fe δ h2 fun y h3 => p x y h3 fun z h4 => setD o i z h4 fun h5 => E.nx δ h5
      | none => False
    | _ => False
  | _, _ => False
end
noncomputable def whN (t : DT) (b : DS) (E : DEnds) : Nat → Sl → Hh → Prop
  | 0, _, _ => False
  | n + 1, δ, h => t δ h fun c h1 => if c = true then b { E with nx := whN t b E n, ct := whN t b E n, bk := E.nx } δ h1 else E.nx δ h1
noncomputable def dWhile (t : DT) (b : DS) : DS := fun E δ h => ∃ n, whN t b E n δ h
theorem s_while {X : Cx} {c : Expr} {body : List Stmt} {t : DT} {b : DS} {pos : Pos} (hp : PassesOwn (model X.prog X.w) X.A X.env X.xe) (hc : ST X c t) (hb : SSs X body b) : SS X (.While c body [] pos) (dWhile t b) := PS.imp (ps_while hp hc hb) fun F σ H ⟨π, α, δ, h, E, R, S, q, k⟩ => by
  obtain ⟨n, q⟩ := q
  refine ⟨fun m σ' H' => ∃ α' δ' h', Ext α H α' H' ∧ HRel ⟨X.K, π⟩ α' H' h' ∧ RelS ⟨X.K, π⟩ α' H' δ' σ' ∧ whN t b E m δ' h', ⟨n, α, δ, h, Ext.refl .., R, S, q⟩, ?_⟩
  rintro m σ' H' ⟨α', δ', h', e', R', S', q'⟩
  cases m with
  | zero => exact q'.elim
  | succ m =>
    refine ⟨π, α', δ', h', _, R', S', q', fun c h1 α1 H1 f1 e1 R1 => ?_⟩
    cases c with
    | false => exact iteF (k.nx δ' h1 α1 H1 σ' (by simpa using f1) (e'.trans e1) R1 (S'.mono e1))
    | true =>
      refine iteT ⟨fun σ2 H2 => ∃ α2 δ2 h2, Ext α H α2 H2 ∧ HRel ⟨X.K, π⟩ α2 H2 h2 ∧ RelS ⟨X.K, π⟩ α2 H2 δ2 σ2 ∧ whN t b E m δ2 h2, fun σ2 H2 z => ⟨m, Nat.lt_succ_self m, z⟩, ?_⟩
      have f1 : b { E with nx := whN t b E m, ct := whN t b E m, bk := E.nx } δ' h1 := by simpa using f1
      have k1 := k.mono (e'.trans e1)
      exact ⟨π, α1, δ', h1, _, R1, S'.mono e1, f1, ⟨fun δ2 h2 α2 H2 σ2 a b c d => ⟨α2, δ2, h2, e'.trans (e1.trans b), c, d, a⟩, k1.rt, k1.nx, fun δ2 h2 α2 H2 σ2 a b c d => ⟨α2, δ2, h2, e'.trans (e1.trans b), c, d, a⟩, k1.ex⟩⟩
structure Src where
  items : List D
  w : List (Nat × O)
noncomputable def Src.ok (S : Src) (h : Hh) : Prop := ∀ p ∈ S.w, h[p.1]? = some p.2
theorem Src.ok_nil {xs : List D} {h : Hh} : (Src.mk xs []).ok h := fun p hp => nomatch hp
noncomputable abbrev DI := Sl → Hh → (Src → Hh → Prop) → Prop
structure ItOk (K : KP) (J : It) (S : Src) (St : List Addr → Hp → Prop) : Prop where
  keep : ∀ α H α' H', St α H → Ext α H α' H' → St α' H'
  priv : ∀ α H H' D, St α H → Priv D H H' → D ∈ K.π → St α H'
  item : ∀ α H h i d, HRel K α H h → St α H → S.ok h → S.items[i]? = some d → J.go i H ∧ ∀ x H', J.yld i H x H' → Ext α H α H' ∧ HRel K α H' h ∧ RelD K α H' d x
  stop : ∀ α H h, HRel K α H h → St α H → S.ok h → J.stop S.items.length H
noncomputable def ItA (K : PySem.W.Frag) (π : List Addr) (α : List Addr) (H : Hp) (J : It) (S : Src) : Prop := ∀ π', (∀ p ∈ π', p ∈ π ∨ H p = none) → ∃ St, ItOk ⟨K, π'⟩ J S St ∧ St α H
inductive LI (K : PySem.W.Frag) (f : DI) (σ : St) (H : Hp) (R : It → Hp → Prop) : Prop
  | mk (π : List Addr) (α : List Addr) (δ : Sl) (h : Hh) (Q' : Src → Hh → Prop) : HRel ⟨K, π⟩ α H h → RelS ⟨K, π⟩ α H δ σ → f δ h Q' → (∀ S h' α' H' J, Q' S h' → Ext α H α' H' → HRel ⟨K, π⟩ α' H' h' → ItA K π α' H' J S → S.ok h' → R J H') → LI K f σ H R
noncomputable def SI (X : Cx) (tg iter : Expr) (f : DI) : Prop := PI X tg iter (LI X.K f)
noncomputable def forL (S : Src) (t : DG) (b : DS) (E : DEnds) : List D → Sl → Hh → Prop
  | [], δ, h => S.ok h ∧ E.nx δ h
  | x :: r, δ, h => S.ok h ∧ t x δ h fun δ2 h2 => b { E with nx := forL S t b E r, ct := forL S t b E r, bk := E.nx } δ2 h2
noncomputable def dFor (s : DI) (t : DG) (b : DS) : DS := fun E δ h => s δ h fun S h1 => forL S t b E S.items δ h1
theorem s_for {X : Cx} {tg iter : Expr} {body : List Stmt} {s : DI} {t : DG} {b : DS} {pos : Pos} (hp : PassesOwn (model X.prog X.w) X.A X.env X.xe) (hc : X.calm = true) (hi : SI X tg iter s) (hg : SG X tg t) (hb : SSs X body b)
    (hs : ∀ x, foldedSetIterable iter X.env x = pure x := by intro _; rfl) : SS X (.For tg iter body [] pos) (dFor s t b) := PS.imp (ps_for hp hc hi hg hb hs) fun F σ H ⟨π, α, δ, h, E, R, S, q, k⟩ => by
  refine ⟨π, α, δ, h, _, R, S, q, fun Sr h1 α1 H1 J f1 e1 R1 ia ok1 => ?_⟩
  obtain ⟨St, io, st1⟩ := ia π (fun p z => .inl z)
  refine ⟨fun i m σ' H' => m = Sr.items.length - i ∧ i ≤ Sr.items.length ∧ ∃ α' δ' h', Ext α H α' H' ∧ HRel ⟨X.K, π⟩ α' H' h' ∧ RelS ⟨X.K, π⟩ α' H' δ' σ' ∧ St α' H' ∧ forL Sr t b E (Sr.items.drop i) δ' h', ⟨_, rfl, Nat.zero_le _, α1, δ, h1, e1, R1, S.mono e1, st1, f1⟩, ?_⟩
  rintro i m σ' H' ⟨rfl, hi, α', δ', h', e', R', S', st', q'⟩
  by_cases hlt : i < Sr.items.length
  · rw [List.drop_eq_getElem_cons hlt] at q'
    obtain ⟨okh, q'⟩ := q'
    obtain ⟨go, yl⟩ := io.item α' H' h' i Sr.items[i] R' st' okh (List.getElem?_eq_getElem hlt)
    refine .inr ⟨go, fun σ2 H2 => ∃ α2 δ2 h2, Ext α H α2 H2 ∧ HRel ⟨X.K, π⟩ α2 H2 h2 ∧ RelS ⟨X.K, π⟩ α2 H2 δ2 σ2 ∧ St α2 H2 ∧ forL Sr t b E (Sr.items.drop (i + 1)) δ2 h2, fun σ2 H2 z => ⟨_, by omega, rfl, hlt, z⟩, fun x H2 y2 => ?_⟩
    obtain ⟨e2, R2, r2⟩ := yl x H2 y2
    refine ⟨π, α', δ', h', Sr.items[i], _, R2, S'.mono e2, r2, q', fun δ3 h3 α3 H3 σ3 f3 e3 R3 S3 => ?_⟩
    have e4 := e'.trans (e2.trans e3)
    have k3 := k.mono e4
    have st3 := io.keep _ _ _ _ st' (e2.trans e3)
    exact ⟨π, α3, δ3, h3, _, R3, S3, f3, ⟨fun δ5 h5 α5 H5 σ5 a b c d => ⟨α5, δ5, h5, e4.trans b, c, d, io.keep _ _ _ _ st3 b, a⟩, k3.rt, k3.nx, fun δ5 h5 α5 H5 σ5 a b c d => ⟨α5, δ5, h5, e4.trans b, c, d, io.keep _ _ _ _ st3 b, a⟩, k3.ex⟩⟩
  · have ei : i = Sr.items.length := by omega
    subst ei
    rw [List.drop_length] at q'
    exact .inl ⟨io.stop α' H' h' R' st' q'.1, k.nx δ' h' α' H' σ' q'.2 e' R' S'⟩
noncomputable def compSl (js : List (Option Nat)) (δ : Sl) : Sl := js.map fun j => match j with
  | some j => (δ[j]?).getD none
  | none => none
noncomputable def compL (S : Src) (t : DG) (tf : DT) (te : DE) : List D → List D → Sl → Hh → (List D → Hh → Prop) → Prop
  | [], acc, _, h, Q => S.ok h ∧ Q acc h
  | x :: r, acc, δ, h, Q => S.ok h ∧ t x δ h fun δ2 h2 => tf δ2 h2 fun b h3 => if b = true then te δ2 h3 fun y h4 => compL S t tf te r (acc ++ [y]) δ2 h4 Q else compL S t tf te r acc δ2 h3 Q
noncomputable def dComp (js : List (Option Nat)) (s : DI) (t : DG) (tf : DT) (te : DE) : DN := fun δ h Q => s δ h fun S h1 => S.items.length ≤ 16777216 ∧ compL S t tf te S.items [] (compSl js δ) h1 Q
theorem compS_rel {K : KP} {α : List Addr} {H : Hp} {δ : Sl} {σ : L2.St} (S : RelS K α H δ σ) (js : List (Option Nat)) : RelS K α H (compSl js δ) (compSt js σ) := by
  refine ⟨by unfold compSl compSt; simp, fun i d e => ?_⟩
  unfold compSl at e
  rw [List.getElem?_map] at e
  unfold compSt
  rw [List.getElem?_map]
  cases q : js[i]? with
  | none => rw [q] at e; cases e
  | some j =>
    rw [q] at e
    cases j with
    | none => cases e
    | some j =>
      have e : (δ[j]?).getD none = some d := Option.some.inj e
      cases w : δ[j]? with
      | none => rw [w] at e; cases e
      | some z =>
        rw [w] at e
        have e : z = some d := e
        subst e
        obtain ⟨v, h1, h2⟩ := S.get j d w
        exact ⟨v, by show some ((σ[j]?).getD none) = _; rw [h1]; rfl, h2⟩
theorem comp_lift {K : PySem.W.Frag} {js : List (Option Nat)} {s : DI} {t : DG} {tf : DT} {te : DE} {σ : L2.St} {H : Hp} {Q : VK} (w : LN K (dComp js s t tf te) σ H Q) :
    tComp js (LI K s) (fun _ _ _ => LG K t) (fun _ _ _ => LT K tf) (fun _ _ _ => LE K te) σ H Q := by
  obtain ⟨π, α, δ, h, Q', R, S, q, k⟩ := w
  refine ⟨π, α, δ, h, _, R, S, q, fun Sr h1 α1 H1 J f1 e1 R1 ia ok1 => fun Da hD s0 H0 fp => ?_⟩
  obtain ⟨hlen, f1⟩ := f1
  have sub : ∀ p ∈ Da :: π, p ∈ π ∨ H1 p = none := fun p hp => by
    rcases List.mem_cons.mp hp with rfl | z
    · exact .inr hD
    · exact .inl z
  obtain ⟨St, io, st1⟩ := ia (Da :: π) sub
  have eN : Ext α1 H1 α1 (upd H1 Da (.lst [])) := Ext.new hD
  have hin : Da ∈ (KP.mk K (Da :: π)).π := List.mem_cons_self
  refine ⟨fun i m σ' H' => m = Sr.items.length - i ∧ i ≤ Sr.items.length ∧ ∃ α' δ' h' acc us, Ext α1 H1 α' H' ∧ HRel ⟨K, Da :: π⟩ α' H' h' ∧ RelS ⟨K, Da :: π⟩ α' H' δ' σ' ∧ St α' H' ∧ H' Da = some (.lst us) ∧ RelDs ⟨K, Da :: π⟩ α' H' acc us ∧ acc.length ≤ i ∧
      compL Sr t tf te (Sr.items.drop i) acc δ' h' Q', ⟨_, rfl, Nat.zero_le _, α1, compSl js δ, h1, [], [], eN, R1.under hD, (compS_rel ((S.mono e1).more sub) js).mono eN, io.keep _ _ _ _ st1 eN, upd_same, .nil, Nat.le_refl _, f1⟩, ?_⟩
  rintro i m σ' H' ⟨rfl, hi, α', δ', h', acc, us, e', R', S', st', hus, ra, la, q'⟩
  have nD : Da ∉ α' := (R'.dis Da hin).1
  by_cases hlt : i < Sr.items.length
  · rw [List.drop_eq_getElem_cons hlt] at q'
    obtain ⟨okh, q'⟩ := q'
    obtain ⟨go, yl⟩ := io.item α' H' h' i Sr.items[i] R' st' okh (List.getElem?_eq_getElem hlt)
    refine .inr ⟨go, fun x H2 y2 => ?_⟩
    obtain ⟨e2, R2, r2⟩ := yl x H2 y2
    refine ⟨Da :: π, α', δ', h', Sr.items[i], _, R2, S'.mono e2, r2, q', fun δ3 h3 α3 H3 σ3 f3 e3 R3 S3 => ?_⟩
    refine ⟨Da :: π, α3, δ3, h3, _, R3, S3, f3, fun b h4 α4 H4 f4 e4 R4 => ?_⟩
    have e24 := e2.trans (e3.trans e4)
    cases b with
    | false =>
      refine iteF ⟨_, by omega, rfl, hlt, α4, δ3, h4, acc, us, e'.trans e24, R4, S3.mono e4, io.keep _ _ _ _ st' e24, e24.keep _ _ hus nD, ra.mono e24, by omega, by simpa using f4⟩
    | true =>
      have f4 : te δ3 h4 fun y h5 => compL Sr t tf te (Sr.items.drop (i + 1)) (acc ++ [y]) δ3 h5 Q' := by simpa using f4
      refine iteT ⟨Da :: π, α4, δ3, h4, _, R4, S3.mono e4, f4, fun y h5 α5 H5 v5 f5 e5 R5 q5 => ?_⟩
      have e25 := e24.trans e5
      have h5D : H5 Da = some (.lst us) := e25.keep _ _ hus nD
      have pv : Priv Da H5 (upd H5 Da (.lst (us ++ [v5]))) := ⟨fun b hb => upd_ne hb⟩
      have ra5 := ra.mono e25
      refine ⟨us, h5D, by rw [← ra5.length, sizeLine_eq]; omega, _, by omega, rfl, hlt, α5, δ3, h5, acc ++ [y], us ++ [v5], (e'.trans e25).grow hD, R5.priv pv hin (by rw [upd_same]; exact fun z => nomatch z), (S3.mono (e4.trans e5)).priv pv hin, io.priv _ _ _ _ (io.keep _ _ _ _ st' e25) pv hin, upd_same, (ra5.snoc q5).priv pv hin, by rw [List.length_append, List.length_singleton]; omega, f5⟩
  · have ei : i = Sr.items.length := by omega
    subst ei
    rw [List.drop_length] at q'
    exact .inl ⟨io.stop α' H' h' R' st' q'.1, k _ h' α' H' us Da q'.2 (e1.trans e') R' ra hus (e1.dom Da hD) (R1.outP hD)⟩
noncomputable def dNoIf : DT := fun _ h Q => Q true h
section
variable {X : Cx} {pins : List (Addr × Obj)} {σ : L2.St} {H : Hp} {s : Shared} {N' : List Str} {js : List (Option Nat)} {scope : Scope}
noncomputable def SF (X : Cx) (es : List Expr) (t : DT) : Prop := PF X es (LT X.K t)
theorem PF.imp {es : List Expr} {t t' : TT} (h : PF X es t) (k : ∀ σ H Q, t' σ H Q → t σ H Q) : PF X es t' := fun pins s σ H Q I q => h pins s σ H Q I (k σ H Q q)
theorem sf_nil : SF X [] dNoIf := PF.imp pf_nil fun σ H Q ⟨π, α, δ, h, Q', R, S, f, k⟩ => k true h α H f (Ext.refl ..) R
theorem sf_one {c : Expr} {t : DT} (h : ST X c t) : SF X [c] t := pf_one h
variable {tg iter elt : Expr} {ifs : List Expr} {pos : Pos} {sr : DI} {g : DG} {tf : DT} {te : DE}
theorem sn_comp (hc : X.calm = true) (C : CompOk X N' js scope) (hi : SI X tg iter sr)
    (body : ∀ (s0 : Shared) (H0 : Hp) (fp : List Addr), SG (cxComp X N' scope s0 H0 fp) tg g ∧ SF (cxComp X N' scope s0 H0 fp) ifs tf ∧ SE (cxComp X N' scope s0 H0 fp) elt te)
    (hs : ∀ x, foldedSetIterable iter X.env x = pure x := by intro _; rfl) : SN X (.ListComp elt [⟨tg, iter, ifs, 0⟩] scope pos) (dComp js sr g tf te) :=
  PE.imp (pe_comp hc C hi (g := fun _ _ _ => LG X.K g) (tf := fun _ _ _ => LT X.K tf) (te := fun _ _ _ => LE X.K te) body hs) fun _ _ _ w => comp_lift w
theorem s_setcV {i : Nat} {x : Str} {px cpos : Pos} (hc : X.calm = true) (C : CompOk X N' js scope) (hi : SI X tg iter sr)
    (body : ∀ (s0 : Shared) (H0 : Hp) (fp : List Addr), SG (cxComp X N' scope s0 H0 fp) tg g ∧ SF (cxComp X N' scope s0 H0 fp) ifs tf ∧ SE (cxComp X N' scope s0 H0 fp) elt te)
    (hN : X.N.Nodup) (hix : X.N[i]? = some x) (hx : Loc X.env.scope x)
    (hsw : swapsWith (.ListComp elt [⟨tg, iter, ifs, 0⟩] scope cpos) (some (.Name x px)) pos.line X.env = pure true := by rfl) (hf : X.fn x = true ∨ X.env.scope.names.lookup x = some .local := by trivial)
    (hs : ∀ x, foldedSetIterable iter X.env x = pure x := by intro _; rfl) : SS X (.Assign [.Name x px] (.ListComp elt [⟨tg, iter, ifs, 0⟩] scope cpos) pos) (dAsg (dV (dComp js sr g tf te)) (dName i)) :=
  PS.imp (ps_setc hc C hi (g := fun _ _ _ => LG X.K g) (tf := fun _ _ _ => LT X.K tf) (te := fun _ _ _ => LE X.K te) body hN hix hx hsw hf hs) fun F σ H w => by
    obtain ⟨π, α, δ, h, E, R, S, q, k⟩ := w
    exact comp_lift (Q := fun x H1 => gName i x σ H1 F.nx) ⟨π, α, δ, h, _, R, S, q, fun ds h1 α1 H1 us p f1 e1 R1 q1 hus hp np => k.nx _ h1 α1 H1 _ f1 e1 R1.less (((S.mono e1)).set i (.lst ⟨(R1.dis p List.mem_cons_self).1, np, hus⟩ (q1.more fun q hq => .inl (List.mem_cons_of_mem _ hq))))⟩
end
end DL
namespace DL
open PySem PySem.Spec L2
mutual
inductive IsP (h : Hh) : D → PyData → Prop
  | non : IsP h .non .none
  | bl (b : Bool) : IsP h (.bl b) (.bool b)
  | int (i : Int) : IsP h (.int i) (.int i)
  | str (x : Str) : IsP h (.str x) (.str x)
  | tup {ds : List D} {ps : List PyData} : IsPs h ds ps → IsP h (.tup ds) (.tuple ps)
  | lst {ds : List D} {ps : List PyData} : IsPs h ds ps → IsP h (.lst ds) (.list ps)
  | ref {i : Nat} {ds : List D} {ps : List PyData} : h[i]? = some (.lst ds) → IsPs h ds ps → IsP h (.ref i) (.list ps)
inductive IsPs (h : Hh) : List D → List PyData → Prop
  | nil : IsPs h [] []
  | cons {d : D} {p : PyData} {ds : List D} {ps : List PyData} : IsP h d p → IsPs h ds ps → IsPs h (d :: ds) (p :: ps)
end
section
variable {X : Cx} {pins : List (Addr × Obj)} {σ : L2.St} {H : Hp} {s : Shared} {π α : List Addr} {h : Hh}
theorem IsP.reads (I : Inv X pins σ H s) (R : HRel ⟨X.K, π⟩ α H h) {d : D} {p : PyData} (e : IsP h d p) : ∀ {v : V} {u : Value}, RelD ⟨X.K, π⟩ α H d v → RelV v u → ∃ as, Reads s.heap u p as := by
  refine IsP.rec (motive_1 := fun d p _ => ∀ {v : V} {u : Value}, RelD ⟨X.K, π⟩ α H d v → RelV v u → ∃ as, Reads s.heap u p as) (motive_2 := fun ds ps _ => ∀ {vs : List V} {us : List Value}, RelDs ⟨X.K, π⟩ α H ds vs → Vals vs us → ∃ as, ReadsAll s.heap us ps as) ?_ ?_ ?_ ?_ ?_ ?_ ?_ ?_ ?_ e
  · intro v u q r; cases q; cases r; exact ⟨_, .none⟩
  · intro b v u q r; cases q; cases r; exact ⟨_, .bool b⟩
  · intro i v u q r; cases q; obtain ⟨t, rfl⟩ := r; exact ⟨_, .int i t⟩
  · intro x v u q r; cases q; obtain ⟨t, rfl⟩ := r; exact ⟨_, .str x t⟩
  · intro ds ps _ ih v u q0 r
    cases q0 with
    | tup t rr =>
      cases r
      obtain ⟨its, rv, ⟨o, q, c, n, d⟩, _⟩ := I.tuple t.sq
      obtain ⟨as, ra⟩ := ih rr rv
      exact ⟨_, .tuple q c d (by simpa using ra)⟩
  · intro ds ps _ ih v u q0 r
    cases q0 with
    | lst t rr =>
      cases r
      obtain ⟨its, rv, ⟨o, n, q, c, _, d⟩, _⟩ := I.list t.sq
      obtain ⟨as, ra⟩ := ih rr rv
      exact ⟨_, .list q c d (by simpa using ra)⟩
  · intro i ds ps hh _ ih v u q0 r
    cases q0 with
    | ref hp =>
      cases r
      obtain ⟨a, us, e1, e2, e3⟩ := R.lst hh
      rw [hp] at e1; cases e1
      obtain ⟨its, rv, ⟨o, n, q, c, _, d⟩, _⟩ := I.list (SqL.of (K := X.K) e2)
      obtain ⟨as, ra⟩ := ih e3 rv
      exact ⟨_, .list q c d (by simpa using ra)⟩
  · intro vs us q r; cases q; cases r; exact ⟨_, .nil⟩
  · intro d ds p ps _ _ ih iht vs us q r
    cases q with
    | cons rr rs =>
      cases r with
      | cons r1 r2 =>
        obtain ⟨as, ra⟩ := ih rr r1
        obtain ⟨bs, rb⟩ := iht rs r2
        exact ⟨_, .cons ra rb⟩
end
noncomputable def eqS : D → D → Option Bool
  | .int i, .int j => some (i == j)
  | .str a, .str b => if PyData.strOk a && PyData.strOk b then some (a == b) else none
  | .bl a, .bl b => some (a == b)
  | .non, .non => some true
  | .int _, .str b => if PyData.strOk b then some false else none
  | .str a, .int _ => if PyData.strOk a then some false else none
  | .non, .int _ => some false
  | .int _, .non => some false
  | .non, .tup _ => none
  | _, _ => none
noncomputable def pEq (neg : Bool) : P2 := fun x y h Q => match eqS x y with
  | some b => Q (.bl (if neg then !b else b)) h
  | none => ∃ a b, IsP h x a ∧ IsP h y b ∧ SeqAt.shaped a = true ∧ SeqAt.shaped b = true ∧ Q (.bl (if neg then !PyData.eqv a b else PyData.eqv a b)) h
theorem eqS_ok {h : Hh} {x y : D} {b : Bool} (e : eqS x y = some b) : ∃ p q, IsP h x p ∧ IsP h y q ∧ SeqAt.shaped p = true ∧ SeqAt.shaped q = true ∧ PyData.eqv p q = b := by
  have si : ∀ i : Int, SeqAt.shaped (.int i) = true := fun i => by simp [SeqAt.shaped, PyData.canLay0, PyData.depth]
  have sn : SeqAt.shaped .none = true := by simp [SeqAt.shaped, PyData.canLay0, PyData.depth]
  have sb : ∀ b : Bool, SeqAt.shaped (.bool b) = true := fun i => by simp [SeqAt.shaped, PyData.canLay0, PyData.depth]
  have ss : ∀ x : Str, PyData.strOk x = true → SeqAt.shaped (.str x) = true := fun x hx => by simp [SeqAt.shaped, PyData.canLay0, PyData.depth, hx]
  unfold eqS at e
  split at e
  · cases e; exact ⟨_, _, .int _, .int _, si _, si _, by simp [PyData.eqv]⟩
  · split at e
    · rename_i hh
      rw [Bool.and_eq_true] at hh
      cases e; exact ⟨_, _, .str _, .str _, ss _ hh.1, ss _ hh.2, by simp [PyData.eqv]⟩
    · cases e
  · cases e; exact ⟨_, _, .bl _, .bl _, sb _, sb _, by simp [PyData.eqv]⟩
  · cases e; exact ⟨_, _, .non, .non, sn, sn, by simp [PyData.eqv]⟩
  · split at e
    · rename_i hh
      cases e; exact ⟨_, _, .int _, .str _, si _, ss _ hh, by simp [PyData.eqv]⟩
    · cases e
  · split at e
    · rename_i hh
      cases e; exact ⟨_, _, .str _, .int _, ss _ hh, si _, by simp [PyData.eqv]⟩
    · cases e
  · cases e; exact ⟨_, _, .non, .int _, sn, si _, by simp [PyData.eqv]⟩
  · cases e; exact ⟨_, _, .int _, .non, si _, sn, by simp [PyData.eqv]⟩
  · cases e
  · cases e
section
variable {X : Cx}
theorem pEq_all {neg : Bool} {x y : D} {h : Hh} {Q : DK} (f : pEq neg x y h Q) : ∃ a b, IsP h x a ∧ IsP h y b ∧ SeqAt.shaped a = true ∧ SeqAt.shaped b = true ∧ Q (.bl (if neg then !PyData.eqv a b else PyData.eqv a b)) h := by
  unfold pEq at f
  cases q : eqS x y with
  | none => rw [q] at f; exact f
  | some b =>
    rw [q] at f
    obtain ⟨p, q, a, b', c, d, e⟩ := eqS_ok (h := h) q
    exact ⟨p, q, a, b', c, d, by rw [e]; exact f⟩
theorem ok_eq (hu : X.A.units + 64 < cLine) : OpR X (compareOp .Eq) (r2 X.K (pEq false)) := by
  intro pins s σ H x y v u Q I rx ry ⟨π, α, h, d, e, Q', R, r1, r2, f, k⟩
  obtain ⟨a, b, ia, ib, sa, sb, q⟩ := pEq_all f
  obtain ⟨as, ra⟩ := ia.reads I R r1 rx
  obtain ⟨bs, rb⟩ := ib.reads I R r2 ry
  exact SeqAt.compareEq_shaped ra rb sa sb hu ⟨.bl (PyData.eqv a b), H, I, rfl, k _ h α H _ q (Ext.refl ..) R (.bl _)⟩
theorem ok_ne (hu : X.A.units + 64 < cLine) : OpR X (compareOp .NotEq) (r2 X.K (pEq true)) := by
  intro pins s σ H x y v u Q I rx ry ⟨π, α, h, d, e, Q', R, r1, r2, f, k⟩
  obtain ⟨a, b, ia, ib, sa, sb, q⟩ := pEq_all f
  obtain ⟨as, ra⟩ := ia.reads I R r1 rx
  obtain ⟨bs, rb⟩ := ib.reads I R r2 ry
  exact SeqAt.compareNe_shaped ra rb sa sb hu ⟨.bl (!PyData.eqv a b), H, I, rfl, k _ h α H _ q (Ext.refl ..) R (.bl _)⟩
end
structure SeqIt (K : KP) (Sq : Hp → List V → Prop) (xs : List D) (w : List (Nat × O)) (St : List Addr → Hp → Prop) : Prop where
  keep : ∀ α H α' H', St α H → Ext α H α' H' → St α' H'
  priv : ∀ α H H' D, St α H → Priv D H H' → D ∈ K.π → St α H'
  get : ∀ α H h, HRel K α H h → St α H → (∀ p ∈ w, h[p.1]? = some p.2) → ∃ us, Sq H us ∧ RelDs K α H xs us
noncomputable def SeqA (K : PySem.W.Frag) (π α : List Addr) (H : Hp) (Sq : Hp → List V → Prop) (xs : List D) (w : List (Nat × O)) : Prop := ∀ π', (∀ p ∈ π', p ∈ π ∨ H p = none) → ∃ St, SeqIt ⟨K, π'⟩ Sq xs w St ∧ St α H
noncomputable def seqSrc (h : Hh) : D → Option Src
  | .tup xs => some ⟨xs, []⟩
  | .lst xs => some ⟨xs, []⟩
  | .scr xs => some ⟨xs, []⟩
  | .ref i => match h[i]? with | some (.lst xs) => some ⟨xs, [(i, .lst xs)]⟩ | _ => none
  | _ => none
theorem seqSrc_ok {K : PySem.W.Frag} {π α : List Addr} {H : Hp} {h : Hh} (R : HRel ⟨K, π⟩ α H h) {d : D} {v : V} {S : Src} (r : RelD ⟨K, π⟩ α H d v) (e : seqSrc h d = some S) :
    ∃ a, v = .ref a ∧ S.ok h ∧ (((∃ us, SqL K H a us) ∧ SeqA K π α H (fun H us => SqL K H a us) S.items S.w) ∨ ((∃ us, SqT K H a us) ∧ SeqA K π α H (fun H us => SqT K H a us) S.items S.w)) := by
  cases r with
  | @tup a us ds t rs =>
    cases e
    exact ⟨a, rfl, Src.ok_nil, .inr ⟨⟨us, t.sq⟩, fun π' s => ⟨fun α H => VT ⟨K, π'⟩ α H a us ∧ RelDs ⟨K, π'⟩ α H ds us, ⟨fun α H α' H' st e => ⟨st.1.mono e, st.2.mono e⟩, fun α H H' D st e hD => ⟨st.1.priv e hD, st.2.priv e hD⟩, fun α H h R st _ => ⟨us, st.1.sq, st.2⟩⟩, t.more s, rs.more s⟩⟩⟩
  | @lst a us ds t rs =>
    cases e
    exact ⟨a, rfl, Src.ok_nil, .inl ⟨⟨us, t.sq⟩, fun π' s => ⟨fun α H => VL ⟨K, π'⟩ α H a us ∧ RelDs ⟨K, π'⟩ α H ds us, ⟨fun α H α' H' st e => ⟨st.1.mono e, st.2.mono e⟩, fun α H H' D st e hD => ⟨st.1.priv e hD, st.2.priv e hD⟩, fun α H h R st _ => ⟨us, st.1.sq, st.2⟩⟩, t.more s, rs.more s⟩⟩⟩
  | @scr a us ds t rs =>
    cases e
    exact ⟨a, rfl, Src.ok_nil, .inl ⟨⟨us, t.sq⟩, fun π' s => ⟨fun α H => VS ⟨K, π'⟩ α H a us ∧ RelDs ⟨K, π'⟩ α H ds us, ⟨fun α H α' H' st e => ⟨st.1.mono e, st.2.mono e⟩, fun α H H' D st e hD => ⟨st.1.priv e hD, st.2.priv e hD⟩, fun α H h R st _ => ⟨us, st.1.sq, st.2⟩⟩, t.more s, rs.more s⟩⟩⟩
  | @ref i a hp =>
    have e : (match h[i]? with | some (.lst xs) => some (Src.mk xs [(i, .lst xs)]) | _ => none) = some S := e
    cases q : h[i]? with
    | none => rw [q] at e; cases e
    | some o =>
      rw [q] at e
      cases o with
      | lst xs =>
        cases e
        obtain ⟨p, us, e1, e2, e3⟩ := R.lst q
        rw [hp] at e1; cases e1
        refine ⟨a, rfl, fun z hz => by rw [List.mem_singleton.mp hz]; exact q, .inl ⟨⟨us, SqL.of e2⟩, fun π' s => ⟨fun α H => α[i]? = some a, ⟨fun α H α' H' st e => e.get st, fun α H H' D st e hD => st, fun α H h R st w => ?_⟩, hp⟩⟩⟩
        obtain ⟨p, us, e1, e2, e3⟩ := R.lst (w (i, .lst xs) (List.mem_singleton.mpr rfl))
        rw [st] at e1; cases e1
        exact ⟨us, SqL.of e2, e3⟩
      | _ => cases e
  | _ => cases e
theorem it_list {K : PySem.W.Frag} {π α : List Addr} {H : Hp} {a : Addr} {S : Src} (s : SeqA K π α H (fun H us => SqL K H a us) S.items S.w) : ItA K π α H (Itl K a) S := fun π' sub => by
  obtain ⟨St, si, st⟩ := s π' sub
  refine ⟨St, ⟨si.keep, si.priv, fun α H h i d R st ok hi => ?_, fun α H h R st ok => ?_⟩, st⟩
  · obtain ⟨us, hq, rs⟩ := si.get α H h R st ok
    obtain ⟨u, hu, ru⟩ := rs.get hi
    refine ⟨⟨us, u, hq, hu⟩, fun x H' ⟨e1, e2⟩ => ?_⟩
    subst e1
    have := (e2 us hq).symm.trans hu
    cases this
    exact ⟨Ext.refl .., R, ru⟩
  · obtain ⟨us, hq, rs⟩ := si.get α H h R st ok
    exact ⟨us, hq, by rw [← rs.length]; exact Nat.le_refl _⟩
theorem it_tup {K : PySem.W.Frag} {π α : List Addr} {H : Hp} {a : Addr} {S : Src} (s : SeqA K π α H (fun H us => SqT K H a us) S.items S.w) : ItA K π α H (Itt K a) S := fun π' sub => by
  obtain ⟨St, si, st⟩ := s π' sub
  refine ⟨St, ⟨si.keep, si.priv, fun α H h i d R st ok hi => ?_, fun α H h R st ok => ?_⟩, st⟩
  · obtain ⟨us, hq, rs⟩ := si.get α H h R st ok
    obtain ⟨u, hu, ru⟩ := rs.get hi
    refine ⟨⟨us, u, hq, hu⟩, fun x H' ⟨e1, e2⟩ => ?_⟩
    subst e1
    have := (e2 us hq).symm.trans hu
    cases this
    exact ⟨Ext.refl .., R, ru⟩
  · obtain ⟨us, hq, rs⟩ := si.get α H h R st ok
    exact ⟨us, hq, by rw [← rs.length]; exact Nat.le_refl _⟩
noncomputable def enumD : Int → List D → List D
  | _, [] => []
  | n, x :: r => .tup [.int n, x] :: enumD (n + 1) r
theorem enumD_get : ∀ (n : Int) (xs : List D) (i : Nat), (enumD n xs)[i]? = (xs[i]?).map fun x => .tup [.int (n + i), x]
  | n, [], i => by simp [enumD]
  | n, x :: r, 0 => by simp [enumD]
  | n, x :: r, i + 1 => by
    have := enumD_get (n + 1) r i
    simp only [enumD, List.getElem?_cons_succ, this]
    congr 1; funext y; congr 3; push_cast; omega
noncomputable def rangeD (lo : Int) : Nat → List D
  | 0 => []
  | n + 1 => .int lo :: rangeD (lo + 1) n
theorem rangeD_get : ∀ (lo : Int) (n i : Nat), (rangeD lo n)[i]? = if i < n then some (.int (lo + i)) else none
  | lo, 0, i => by simp [rangeD]
  | lo, n + 1, 0 => by simp [rangeD]
  | lo, n + 1, i + 1 => by
    have := rangeD_get (lo + 1) n i
    simp only [rangeD, List.getElem?_cons_succ, this, Nat.add_lt_add_iff_right]
    have e : lo + 1 + (i : Int) = lo + ((i + 1 : Nat) : Int) := by push_cast; omega
    rw [e]
theorem rangeD_length : ∀ (lo : Int) (n : Nat), (rangeD lo n).length = n
  | _, 0 => rfl
  | lo, n + 1 => by simp [rangeD, rangeD_length (lo + 1) n]
theorem it_range {K : PySem.W.Frag} {π α : List Addr} {H : Hp} {lo : Int} {n : Nat} : ItA K π α H (Itr lo n) ⟨rangeD lo n, []⟩ := fun π' sub => by
  refine ⟨fun _ _ => True, ⟨fun _ _ _ _ _ _ => trivial, fun _ _ _ _ _ _ _ => trivial, fun α H h i d R st ok hi => ?_, fun α H h R st ok => ?_⟩, trivial⟩
  · have hi : (rangeD lo n)[i]? = some d := hi
    rw [rangeD_get] at hi
    split at hi
    · rename_i hlt
      cases hi
      exact ⟨hlt, fun x H' ⟨e1, e2⟩ => by subst e1 e2; exact ⟨Ext.refl .., R, .int _⟩⟩
    · cases hi
  · show n ≤ (rangeD lo n).length
    rw [rangeD_length]; exact Nat.le_refl _
noncomputable def dISeq (f : DE) : DI := fun δ h Q => f δ h fun d h1 => match seqSrc h1 d with | some S => Q S h1 | none => False
noncomputable def dIEnum (f : DA) : DI := fun δ h Q => f δ h fun ds h1 => match ds with | [d] => (match seqSrc h1 d with | some S => Q ⟨enumD 0 S.items, S.w⟩ h1 | none => False) | _ => False
noncomputable def dIRange (f : DA) : DI := fun δ h Q => f δ h fun ds h1 => match ds with
  | [.int j] => (-(2 ^ 62) ≤ j ∧ j < 2 ^ 62) ∧ Q ⟨rangeD 0 j.toNat, []⟩ h1
  | [.int i, .int j] => (-(2 ^ 62) ≤ i ∧ i < 2 ^ 62 ∧ -(2 ^ 62) ≤ j ∧ j < 2 ^ 62) ∧ Q ⟨rangeD i (j - i).toNat, []⟩ h1
  | _ => False
section
variable {X : Cx} {tg : Expr}
theorem PI.imp {e : Expr} {t t' : TI} (h : PI X tg e t) (k : ∀ σ H Q, t' σ H Q → t σ H Q) : PI X tg e t' := fun pins s σ H Q I q => h pins s σ H Q I (k σ H Q q)
noncomputable def iSeq (K : PySem.W.Frag) (tl : TE) : TI := fun σ H R => tl σ H fun x H1 => ∃ a, x = .ref a ∧ (((∃ xs, SqL K H1 a xs) ∧ R (Itl K a) H1) ∨ ((∃ xs, SqT K H1 a xs) ∧ R (Itt K a) H1))
theorem pi_seq {l : Expr} {tl : TE} (hl : PE X l tl) : PI X tg l (iSeq X.K tl) := by
  intro pins s σ H R I h
  refine thn (hl pins s σ H _ I h) fun v s1 ⟨x, H1, I1, r1, q1⟩ => ?_
  obtain ⟨a, e, ⟨⟨xs, hq⟩, q⟩ | ⟨⟨xs, hq⟩, q⟩⟩ := q1
  · subst e
    cases r1
    obtain ⟨its, rv, p, hz⟩ := I1.list hq
    refine wpAny_pyIter_list p.isList ?_
    refine ⟨s1.heap.objs.size, [s1.heap.objs.size], _, _, H1, rfl, I1.kept (t' := s1.toks) fun b o e => Heap.get?_push_of_some _ e, turn_list a _, ⟨_, Heap.get?_push_size _ rfl, rfl, rfl⟩, fun b hb => ?_, q⟩
    have e : b = s1.heap.objs.size := by simpa using hb
    subst e
    exact I1.fpOk (Nat.le_refl _) (I1.hok.fresh (Nat.le_refl _))
  · subst e
    cases r1
    obtain ⟨its, rv, p, hz⟩ := I1.tuple hq
    refine wpAny_pyIter_tuple (show s1.heap.IsTuple a its.toArray from p) ?_
    refine ⟨s1.heap.objs.size, [s1.heap.objs.size], _, _, H1, rfl, I1.kept (t' := s1.toks) fun b o e => Heap.get?_push_of_some _ e, turn_tuple a _, ⟨_, Heap.get?_push_size _ rfl, rfl, rfl⟩, fun b hb => ?_, q⟩
    have e : b = s1.heap.objs.size := by simpa using hb
    subst e
    exact I1.fpOk (Nat.le_refl _) (I1.hok.fresh (Nat.le_refl _))
theorem si_seq {l : Expr} {f : DE} (hl : SE X l f) : SI X tg l (dISeq f) := PI.imp (pi_seq hl) fun σ H Q ⟨π, α, δ, h, Q', R, S, f, k⟩ => by
  refine ⟨π, α, δ, h, _, R, S, f, fun d h1 α1 H1 v1 f1 e1 R1 q1 => ?_⟩
  cases q : seqSrc h1 d with
  | none => rw [q] at f1; exact f1.elim
  | some Sr =>
    rw [q] at f1
    obtain ⟨a, rfl, ok, ⟨hu, sa⟩ | ⟨hu, sa⟩⟩ := seqSrc_ok R1 q1 q
    · exact ⟨a, rfl, .inl ⟨hu, k Sr h1 α1 H1 _ f1 e1 R1 (it_list sa) ok⟩⟩
    · exact ⟨a, rfl, .inr ⟨hu, k Sr h1 α1 H1 _ f1 e1 R1 (it_tup sa) ok⟩⟩
theorem si_range1 {a : Expr} {n : Nat} {fs : DA} {p pos : Pos} (hg : Gl X "range") (hm : X.mg "range" = none) (ha : SA X [a] n fs) (hs : starEach [a] X.env = [(false, eval a X.env)] := by rfl) (hn : n = 1 := by rfl) : SI X tg (.Call (.Name "range" p) [a] [] pos) (dIRange fs) := PI.imp (pi_range1 hg hm ha hs) fun σ H Q ⟨π, α, δ, h, Q', R, S, f, k⟩ => by
  refine ⟨π, α, δ, h, _, R, S, f, fun ds h1 α1 H1 vs f1 e1 R1 q1 l1 => ?_⟩
  split at f1
  · obtain ⟨v, rfl, q3⟩ := q1.inv1
    cases q3 with
    | int => exact ⟨_, rfl, f1.1.1, f1.1.2, k _ h1 α1 H1 _ f1.2 e1 R1 it_range Src.ok_nil⟩
  · subst hn; cases l1
  · exact f1.elim
end
end DL
namespace DL
open PySem PySem.Spec L2
noncomputable def dCB (p : PN) (f : DA) : DE := fun δ h Q => f δ h fun ds h1 => p ds h1 Q
theorem cb_lift {K : PySem.W.Frag} {p : PN} {n : Nat} {f : DA} {σ : L2.St} {H : Hp} {Q : VK} (g : LE K (dCB p f) σ H Q) : LA K n f σ H fun vs H1 => rN K p vs H1 Q := by
  obtain ⟨π, α, δ, h, Q', R, S, f, k⟩ := g
  exact ⟨π, α, δ, h, _, R, S, f, fun ds h1 α1 H1 vs f1 e1 R1 q1 l1 => ⟨π, α1, h1, ds, Q', R1, q1, f1, fun d h' α' H' v a b c d' => k d h' α' H' v a (e1.trans b) c d'⟩⟩
section
variable {X : Cx} {x : Str} {p pos : Pos} {e : Expr} {es : List Expr} {n : Nat} {f : DA} {id T : String} {r : PN}
theorem se_callB (hc : CallR X (.builtin id) (rN X.K r)) (hg : Gl X x) (hm : X.mg x = none) (hv : bootBuiltins x = some (.builtin id)) (ha : SA X (e :: es) n f) (hn : x ≠ "__name__" := by decide) (hdb : (x == ("__debug__" : Str)) = false := by decide)
    (he : starEach (e :: es) X.env = (false, eval e X.env) :: starEach es X.env := by rfl) (hpl : (backTo pos (starEach es X.env)).any (·.1) = false := by rfl) : SE X (.Call (.Name x p) (e :: es) [] pos) (dCB r f) :=
  PE.imp (pe_callB hc hg hm hv ha hn hdb he hpl) fun _ _ _ g => cb_lift g
theorem se_callTy (hc : CallR X (.type T) (rN X.K r)) (hg : Gl X x) (hm : X.mg x = none) (hv : bootBuiltins x = some (.type T)) (ha : SA X (e :: es) n f) (hn : x ≠ "__name__" := by decide) (hdb : (x == ("__debug__" : Str)) = false := by decide)
    (he : starEach (e :: es) X.env = (false, eval e X.env) :: starEach es X.env := by rfl) (hpl : (backTo pos (starEach es X.env)).any (·.1) = false := by rfl) : SE X (.Call (.Name x p) (e :: es) [] pos) (dCB r f) :=
  PE.imp (pe_callTy hc hg hm hv ha hn hdb he hpl) fun _ _ _ g => cb_lift g
noncomputable def lenD (h : Hh) : D → Option Nat
  | .str x => if x.length ≤ 16777216 then some x.length else none
  | d => (seqOf h d).map List.length
noncomputable def pLen : PN := fun ds h Q => match ds with | [d] => (match lenD h d with | some n => Q (.int n) h | none => False) | _ => False
theorem ok_len : CallR X (.builtin "len") (rN X.K pLen) := CallR.imp call_len fun xs H Q ⟨π, α, h, ds, Q', R, rs, f, k⟩ => by
  unfold pLen at f
  split at f
  · rename_i d
    obtain ⟨v, rfl, rd⟩ := rs.inv1
    cases q : lenD h d with
    | none => rw [q] at f; exact f.elim
    | some n =>
      rw [q] at f
      refine ⟨v, n, rfl, ?_, k _ h α H _ f (Ext.refl ..) R (.int _)⟩
      by_cases z : ∃ x, d = .str x
      · obtain ⟨x, rfl⟩ := z
        cases rd
        have q : (if x.length ≤ 16777216 then some x.length else none) = some n := q
        split at q
        · rename_i hl
          cases q
          exact ⟨by rw [sizeLine_eq]; exact hl, rfl⟩
        · cases q
      · have q' : (seqOf h d).map List.length = some n := by
          cases d with
          | str x => exact absurd ⟨x, rfl⟩ z
          | _ => exact q
        cases w : seqOf h d with
        | none => rw [w] at q'; cases q'
        | some ys =>
          rw [w] at q'
          cases q'
          obtain ⟨p, us, rfl, b, c⟩ := seqOf_sq R rd w
          rcases b with b | b
          · exact .inl ⟨us, b, c.length⟩
          · exact .inr ⟨us, b, c.length⟩
  · exact f.elim
noncomputable def pTuple : PN := fun ds h Q => match ds with | [d] => (match seqOf h d with | some xs => Q (.tup xs) h | none => False) | _ => False
theorem ok_tuple : CallR X (.type "tuple") (rN X.K pTuple) := CallR.imp call_tuple_of fun xs H Q ⟨π, α, h, ds, Q', R, rs, f, k⟩ => by
  unfold pTuple at f
  split at f
  · rename_i d
    obtain ⟨v, rfl, rd⟩ := rs.inv1
    cases w : seqOf h d with
    | none => rw [w] at f; exact f.elim
    | some ys =>
      rw [w] at f
      by_cases z : ∃ x, d = .tup x
      · obtain ⟨x, rfl⟩ := z
        cases w
        cases rd with
        | tup t r => exact ⟨_, _, rfl, .inr ⟨t.sq, k _ h α H _ f (Ext.refl ..) R (.tup t r)⟩⟩
      · have w' : lsOf h d = some ys := by
          cases d with
          | tup x => exact absurd ⟨x, rfl⟩ z
          | lst x => exact w
          | scr x => exact w
          | ref x => exact w
          | _ => cases w
        obtain ⟨p, us, rfl, b, c⟩ := lsOf_sq R rd w'
        refine ⟨p, us, rfl, .inl ⟨b, fun l hl => ?_⟩⟩
        have e2 : Ext α H α (upd H l (.tup us)) := Ext.new hl
        exact k _ h α _ _ f e2 (R.new hl) (.tup ⟨R.out hl, R.outP hl, upd_same⟩ (c.mono e2))
  · exact f.elim
noncomputable def dListOf (f : DA) : DN := fun δ h Q => f δ h fun ds h1 => match ds with | [d] => (match seqOf h1 d with | some xs => Q xs h1 | none => False) | _ => False
noncomputable def pInt : PN := fun ds h Q => match ds with | [.int i] => Q (.int i) h | [.bl b] => Q (.int (if b then 1 else 0)) h | _ => False
theorem ok_int : CallR X (.type "int") (rN X.K pInt) := CallR.imp call_int1 fun xs H Q ⟨π, α, h, ds, Q', R, rs, f, k⟩ => by
  unfold pInt at f
  split at f
  · obtain ⟨v, rfl, rd⟩ := rs.inv1
    cases rd
    exact .inl ⟨_, rfl, k _ h α H _ f (Ext.refl ..) R (.int _)⟩
  · obtain ⟨v, rfl, rd⟩ := rs.inv1
    cases rd
    exact .inr ⟨_, rfl, k _ h α H _ f (Ext.refl ..) R (.int _)⟩
  · exact f.elim
noncomputable def pMin : PN := fun ds h Q => match ds with | [.int i, .int j] => Q (.int (if j < i then j else i)) h | _ => False
noncomputable def pMax : PN := fun ds h Q => match ds with | [.int i, .int j] => Q (.int (if j > i then j else i)) h | _ => False
noncomputable def pAbs : PN := fun ds h Q => match ds with | [.int i] => Q (.int (if i < 0 then -i else i)) h | _ => False
theorem ok_min (hc : X.calm = true) : CallR X (.builtin "min") (rN X.K pMin) := CallR.imp (call_min2 hc) fun xs H Q ⟨π, α, h, ds, Q', R, rs, f, k⟩ => by
  unfold pMin at f
  split at f
  · obtain ⟨v, w, rfl, rd, re⟩ := rs.inv2
    cases rd; cases re
    exact ⟨_, _, rfl, k _ h α H _ f (Ext.refl ..) R (.int _)⟩
  · exact f.elim
theorem ok_max (hc : X.calm = true) : CallR X (.builtin "max") (rN X.K pMax) := CallR.imp (call_max2 hc) fun xs H Q ⟨π, α, h, ds, Q', R, rs, f, k⟩ => by
  unfold pMax at f
  split at f
  · obtain ⟨v, w, rfl, rd, re⟩ := rs.inv2
    cases rd; cases re
    exact ⟨_, _, rfl, k _ h α H _ f (Ext.refl ..) R (.int _)⟩
  · exact f.elim
end
section
variable {X : Cx} {o e : Expr} {fo fe : DE} {fs : DA} {n : Nat} {apos cpos : Pos}
noncomputable def dBits (fo : DE) : DE := fun δ h Q => fo δ h fun d h1 => match d with | .int i => Q (.int (Builtin.Int.intBits i : Nat)) h1 | _ => False
theorem se_bits (ho : SE X o fo) (hbase : attributeBase o "bit_length" X.env (eval o X.env) = eval o X.env := by rfl) (hline : (apos.endLine == cpos.line) = true := by rfl) : SE X (.Call (.Attribute o "bit_length" apos) [] [] cpos) (dBits fo) :=
  PE.imp (pe_bm0 PySem.F.plainAttrs_int PySem.F.slot_int_bit_length PySem.F.type_int_bit_length mt_bits ho hbase hline) fun σ H Q ⟨π, α, δ, h, Q', R, S, f, k⟩ => by
    refine ⟨π, α, δ, h, _, R, S, f, fun d h1 α1 H1 v1 f1 e1 R1 q1 => ?_⟩
    cases q1 with
    | int i => exact ⟨rfl, i, rfl, rfl, k _ h1 α1 H1 _ f1 e1 R1 (.int _)⟩
    | _ => exact f1.elim
noncomputable def dAppend (fo : DE) (fs : DA) : DE := fun δ h Q => fo δ h fun d h1 => match d with
  | .ref i => (match h1[i]? with
    | some (.lst _) => fs δ h1 fun ds h2 => (match ds, h2[i]? with
      | [v], some (.lst ys) => ys.length < 16777216 ∧ Q .non (h2.set i (.lst (ys ++ [v])))
      | _, _ => False)
    | _ => False)
  | _ => False
theorem refL {K : PySem.W.Frag} {π α : List Addr} {H : Hp} {h : Hh} (R : HRel ⟨K, π⟩ α H h) {i : Nat} {a : Addr} {xs : List D} (hp : α[i]? = some a) (w : h[i]? = some (.lst xs)) : ∃ us, H a = some (.lst us) ∧ RelDs ⟨K, π⟩ α H xs us := by
  obtain ⟨p, us, e1, e2, e3⟩ := R.lst w
  rw [hp] at e1; cases e1
  exact ⟨us, e2, e3⟩
theorem se_append (ho : SE X o fo) (ha : SA X [e] n fs) (hbase : attributeBase o "append" X.env (eval o X.env) = eval o X.env := by rfl)
    (hfew : ((backTo cpos (starEach [e] X.env)).all (fun x => !x.1) && (backToKw cpos (keywordEach [] X.env)).all (fun x => x.1.isSome)
      && decide ([e].length + ([] : List Keyword).length + (if ([] : List Keyword).isEmpty then 0 else 1) < 30)) = true := by rfl)
    (hline : (apos.endLine == cpos.line) = true := by rfl) (hs : starEach [e] X.env = (false, eval e X.env) :: starEach [] X.env := by rfl) (hplain : (backTo cpos (starEach [] X.env)).any (·.1) = false := by rfl) :
    SE X (.Call (.Attribute o "append" apos) [e] [] cpos) (dAppend fo fs) :=
  PE.imp (pe_bm PySem.F.plainAttrs_list PySem.F.slot_list_append PySem.F.type_list_append mt_append ho ha hbase hfew hline hs hplain) fun σ H Q ⟨π, α, δ, h, Q', R, S, f, k⟩ => by
    refine ⟨π, α, δ, h, _, R, S, f, fun d h1 α1 H1 v1 f1 e1 R1 q1 => ?_⟩
    cases q1 with
    | @ref i a hp =>
      dsimp only at f1
      cases w : h1[i]? with
      | none => rw [w] at f1; exact f1.elim
      | some ob =>
        rw [w] at f1
        cases ob with
        | lst xs =>
          obtain ⟨us, e2, e3⟩ := refL R1 hp w
          refine ⟨.inl ⟨rfl, us, SqL.of e2⟩, π, α1, δ, h1, _, R1, S.mono e1, f1, fun ds h2 α2 H2 vs f2 e2 R2 q2 l2 => ?_⟩
          split at f2
          · rename_i v ys w2
            obtain ⟨u, rfl, q9⟩ := q2.inv1
            have hp2 := e2.get hp
            obtain ⟨us2, g2, g3⟩ := refL R2 hp2 w2
            have e4 : Ext α2 H2 α2 (upd H2 a (.lst (us2 ++ [u]))) := Ext.write (List.mem_of_getElem? hp2)
            exact ⟨a, us2, u, rfl, rfl, g2, by rw [← g3.length, sizeLine_eq]; exact f2.1, k _ _ α2 _ _ f2.2 (e1.trans (e2.trans e4)) (R2.write hp2 (.lst upd_same ((g3.snoc q9).mono e4))) .non⟩
          · exact f2.elim
        | _ => exact f1.elim
    | _ => exact f1.elim
noncomputable def dPop (fo : DE) : DE := fun δ h Q => fo δ h fun d h1 => match d with
  | .ref i => (match h1[i]? with
    | some (.lst xs) => (match xs[xs.length - 1]? with | some y => Q y (h1.set i (.lst xs.dropLast)) | none => False)
    | _ => False)
  | _ => False
theorem se_pop (ho : SE X o fo) (hbase : attributeBase o "pop" X.env (eval o X.env) = eval o X.env := by rfl) (hline : (apos.endLine == cpos.line) = true := by rfl) : SE X (.Call (.Attribute o "pop" apos) [] [] cpos) (dPop fo) :=
  PE.imp (pe_bm0 PySem.F.plainAttrs_list PySem.F.slot_list_pop PySem.F.type_list_pop mt_pop ho hbase hline) fun σ H Q ⟨π, α, δ, h, Q', R, S, f, k⟩ => by
    refine ⟨π, α, δ, h, _, R, S, f, fun d h1 α1 H1 v1 f1 e1 R1 q1 => ?_⟩
    cases q1 with
    | @ref i a hp =>
      dsimp only at f1
      cases w : h1[i]? with
      | none => rw [w] at f1; exact f1.elim
      | some ob =>
        rw [w] at f1
        cases ob with
        | lst xs =>
          dsimp only at f1
          obtain ⟨us, e2, e3⟩ := refL R1 hp w
          cases y : xs[xs.length - 1]? with
          | none => rw [y] at f1; exact f1.elim
          | some z =>
            rw [y] at f1
            obtain ⟨u, g1, g2⟩ := e3.get y
            have e4 : Ext α1 H1 α1 (upd H1 a (.lst us.dropLast)) := Ext.write (List.mem_of_getElem? hp)
            exact ⟨.inl ⟨rfl, us, SqL.of e2⟩, a, us, u, rfl, rfl, e2, by rw [← e3.length]; exact g1, k _ _ α1 _ _ f1 (e1.trans e4) (R1.write hp (.lst upd_same (e3.dropLast.mono e4))) (g2.mono e4)⟩
        | _ => exact f1.elim
    | _ => exact f1.elim
noncomputable def dClear (fo : DE) : DE := fun δ h Q => fo δ h fun d h1 => match d with
  | .ref i => (match h1[i]? with | some (.lst _) => Q .non (h1.set i (.lst [])) | _ => False)
  | _ => False
end
noncomputable abbrev DSp := List D → Hh → DK → Prop
inductive spD (K : PySem.W.Frag) (n : Nat) (g : DSp) (vs : List V) (H : Hp) (Q : VK) (X9 : XK) : Prop
  | mk (π : List Addr) (α : List Addr) (h : Hh) (ds : List D) (Q' : DK) : HRel ⟨K, π⟩ α H h → RelDs ⟨K, π⟩ α H ds vs → ds.length = n → g ds h Q' → (∀ d h' α' H' v, Q' d h' → Ext α H α' H' → HRel ⟨K, π⟩ α' H' h' → RelD ⟨K, π⟩ α' H' d v → Q v H') → spD K n g vs H Q X9
noncomputable def dCal (g : DSp) (f : DA) : DE := fun δ h Q => f δ h fun ds h1 => g ds h1 Q
section
variable {X : Cx} {k m : Nat} {ps : List Str} {g : DSp} {x : Str} {p pos : Pos} {e : Expr} {es : List Expr} {n : Nat} {f : DA}
theorem se_cal (c : Cal X.prog X.w X.K X.mg X.base k x ps (spD X.K m g)) (hr : Room k X.A) (hg : Gl X x) (ha : SA X (e :: es) n f) (hn : n = m := by rfl) (hdb : (x == ("__debug__" : Str)) = false := by decide)
    (he : starEach (e :: es) X.env = (false, eval e X.env) :: starEach es X.env := by rfl) (hpl : (backTo pos (starEach es X.env)).any (·.1) = false := by rfl) : SE X (.Call (.Name x p) (e :: es) [] pos) (dCal g f) :=
  PE.imp (pe_cal c hr hg ha hdb he hpl) fun σ H Q ⟨π, α, δ, h, Q', R, S, f, k⟩ => by
    refine ⟨π, α, δ, h, _, R, S, f, fun ds h1 α1 H1 vs f1 e1 R1 q1 l1 => ?_⟩
    show spD X.K m g (vs ++ []) H1 Q E0
    rw [List.append_nil]
    exact ⟨π, α1, h1, ds, Q', R1, q1, l1.trans hn, f1, fun d h' α' H' v a b c d' => k d h' α' H' v a (e1.trans b) c d'⟩
end
noncomputable def runD (n : Nat) (b : DS) : DSp := fun ds h Q => b { nx := fun _ h' => Q .non h', rt := Q } (ds.map some ++ List.replicate (n - ds.length) none) h
theorem relS_start {K : KP} {α : List Addr} {H : Hp} {ds : List D} {vs : List V} {N : List Str} (r : RelDs K α H ds vs) : RelS K α H (ds.map some ++ List.replicate (N.length - ds.length) none) (L2.start N vs) := by
  refine ⟨by unfold L2.start; simp [r.length], fun i d e => ?_⟩
  by_cases hi : i < ds.length
  · rw [List.getElem?_append_left (by simpa using hi), List.getElem?_map] at e
    cases q : ds[i]? with
    | none => rw [q] at e; cases e
    | some z =>
      rw [q] at e
      cases e
      obtain ⟨u, h1, h2⟩ := r.get q
      refine ⟨u, ?_, h2⟩
      unfold L2.start
      rw [List.getElem?_append_left (by rw [List.length_map, ← r.length]; exact hi), List.getElem?_map, h1]; rfl
  · rw [List.getElem?_append_right (by simpa using hi), List.getElem?_replicate] at e
    split at e <;> cases e
section
variable {P : Program} {w : World} {K : PySem.W.Frag} {mg : Str → Option Value} {base : Heap}
theorem fn_ok {x qual : Str} {st : Stmt} {f : Addr} {fd : FuncData} {N ps : List Str} {k : Nat} {b : DS} {g : DSp} (F : Fun K x qual st f fd) (S : FnScope N ps (defScope st))
    (hb : ∀ (cdv : Value) (A : Around) (outer : List Env) (s : Shared) (H : Hp) (E : XK), Room k (A.deeper (PyProof.Rows.envOfC qual (defScope st) s.heap.objs.size f cdv)) → SSs (cxOf CX0 P w K mg base N qual (defScope st) f cdv A outer s H E).nox (defBody st) b)
    (hg : ∀ ds h Q, g ds h Q → runD N.length b ds h Q) : FnOk P w K mg base CX0 (k + 1) f fd ps (spD K ps.length g) := by
  refine F.ok S (fun vs H Q E h => ?_) fun cdv A outer s H vs Q E hr h => ?_
  · obtain ⟨π, α, h, ds, Q', R, r, l, _⟩ := h
    rw [← r.length, l]
  · obtain ⟨π, α, h, ds, Q', R, r, l, q, kk⟩ := h
    refine ⟨_, hb cdv A outer s H E hr, π, α, _, h, { nx := fun _ h' => Q' .non h', rt := Q' }, R, relS_start r, hg ds h Q' q, ⟨fun _ h' α' H' σ' a b c _ => kk .non h' α' H' .non a b c .non, fun d h' α' H' v a b c d' => kk d h' α' H' v a b c d', fun _ _ _ _ _ a _ _ _ => a.elim, fun _ _ _ _ _ a _ _ _ => a.elim, fun _ _ _ _ _ _ _ a _ _ _ => a.elim⟩⟩
end
end DL
namespace DL
open PySem PySem.Spec L2
noncomputable def lsP (h : Hh) : D → Option (List D)
  | .lst xs => some xs
  | .ref i => match h[i]? with | some (.lst xs) => some xs | _ => none
  | _ => none
theorem lsP_sq {K : KP} {α : List Addr} {H : Hp} {h : Hh} (R : HRel K α H h) {d : D} {v : V} {xs : List D} (r : RelD K α H d v) (e : lsP h d = some xs) : ∃ p us, v = .ref p ∧ H p = some (.lst us) ∧ RelDs K α H xs us := by
  cases r with
  | lst t r => cases e; exact ⟨_, _, rfl, t.2.2, r⟩
  | @ref i a hp =>
    have e : (match h[i]? with | some (.lst xs) => some xs | _ => none) = some xs := e
    cases q : h[i]? with
    | none => rw [q] at e; cases e
    | some o =>
      rw [q] at e
      cases o with
      | lst ys =>
        cases e
        obtain ⟨p, us, e1, e2, e3⟩ := R.lst q
        rw [hp] at e1; cases e1
        exact ⟨_, us, rfl, e2, e3⟩
      | _ => cases e
  | _ => cases e
noncomputable def pPlus : P2 := fun x y h Q => match lsP h x, lsP h y with
  | some xs, some ys => xs.length + ys.length ≤ 16777216 ∧ Q (.lst (xs ++ ys)) h
  | _, _ => pAdd x y h Q
section
variable {X : Cx}
theorem ok_plus : OpR X (binaryOp .Add) (r2 X.K pPlus) := OpR.imp (op_cat.or ok_add) fun x y H Q ⟨π, α, h, d, e, Q', R, r1, r2, f, k⟩ => by
  unfold pPlus at f
  cases w : lsP h d with
  | none => rw [w] at f; exact .inr ⟨π, α, h, d, e, Q', R, r1, r2, f, k⟩
  | some xs =>
    cases w' : lsP h e with
    | none => rw [w, w'] at f; exact .inr ⟨π, α, h, d, e, Q', R, r1, r2, f, k⟩
    | some ys =>
      rw [w, w'] at f
      obtain ⟨p, us, rfl, b, c⟩ := lsP_sq R r1 w
      obtain ⟨p', us', rfl, b', c'⟩ := lsP_sq R r2 w'
      refine .inl ⟨p, p', us, us', rfl, rfl, b, b', by rw [← c.length, ← c'.length, sizeLine_eq]; exact f.1, fun l hl => ?_⟩
      have e2 : Ext α H α (upd H l (.lst (us ++ us'))) := Ext.new hl
      exact k _ h α _ _ f.2 e2 (R.new hl) (.lst ⟨R.out hl, R.outP hl, upd_same⟩ ((c.append c').mono e2))
noncomputable def dCatN (fa fb : DE) : DN := fun δ h Q => fa δ h fun x h1 => fb δ h1 fun y h2 => match lsP h2 x, lsP h2 y with
  | some xs, some ys => xs.length + ys.length ≤ 16777216 ∧ Q (xs ++ ys) h2
  | _, _ => False
theorem sn_cat {a b : Expr} {fa fb : DE} {pos : Pos} (ha : SE X a fa) (hb : SE X b fb) : SN X (.BinOp a .Add b pos) (dCatN fa fb) := PE.imp (pe_op op_cat ha hb) fun σ H Q ⟨π, α, δ, h, Q', R, S, f, k⟩ => by
  refine ⟨π, α, δ, h, _, R, S, f, fun x h1 α1 H1 v1 f1 e1 R1 q1 => ?_⟩
  refine ⟨π, α1, δ, h1, _, R1, S.mono e1, f1, fun y h2 α2 H2 v2 f2 e2 R2 q2 => ?_⟩
  split at f2
  · rename_i xs ys w w'
    obtain ⟨p, us, rfl, b, c⟩ := lsP_sq R2 (q1.mono e2) w
    obtain ⟨p', us', rfl, b', c'⟩ := lsP_sq R2 q2 w'
    exact ⟨p, p', us, us', rfl, rfl, b, b', by rw [← c.length, ← c'.length, sizeLine_eq]; exact f2.1, fun l hl => LN.last (h := h) k f2.2 (e1.trans e2) R2 (c.append c') hl⟩
  · exact f2.elim
theorem rel_rep {K : KP} {α : List Addr} {H : Hp} {ds : List D} {us : List V} (r : RelDs K α H ds us) : ∀ n : Nat, RelDs K α H (List.replicate n ds).flatten (List.replicate n us).flatten
  | 0 => .nil
  | n + 1 => by rw [List.replicate_succ, List.replicate_succ, List.flatten_cons, List.flatten_cons]; exact r.append (rel_rep r n)
noncomputable def dRepN (fa fb : DE) : DN := fun δ h Q => fa δ h fun x h1 => fb δ h1 fun y h2 => match lsP h2 x, y with
  | some xs, .int n => (-(2 ^ 63) ≤ n ∧ n < 2 ^ 63 ∧ xs.length * n.toNat ≤ 16777216) ∧ Q (List.replicate n.toNat xs).flatten h2
  | _, _ => False
theorem sn_rep {a b : Expr} {fa fb : DE} {pos : Pos} (ha : SE X a fa) (hb : SE X b fb) : SN X (.BinOp a .Mult b pos) (dRepN fa fb) := PE.imp (pe_op op_rep ha hb) fun σ H Q ⟨π, α, δ, h, Q', R, S, f, k⟩ => by
  refine ⟨π, α, δ, h, _, R, S, f, fun x h1 α1 H1 v1 f1 e1 R1 q1 => ?_⟩
  refine ⟨π, α1, δ, h1, _, R1, S.mono e1, f1, fun y h2 α2 H2 v2 f2 e2 R2 q2 => ?_⟩
  split at f2
  · rename_i xs n w
    cases q2
    obtain ⟨p, us, rfl, b, c⟩ := lsP_sq R2 (q1.mono e2) w
    exact ⟨p, n, us, rfl, rfl, b, f2.1.1, f2.1.2.1, by rw [← c.length, sizeLine_eq]; exact f2.1.2.2, fun l hl => LN.last (h := h) k f2.2 (e1.trans e2) R2 (rel_rep c _) hl⟩
  · exact f2.elim
theorem op_mulB : OpR X (binaryOp .Mult) (rI IntMulOk fun i j => .int (i * j)) := opI fun _ _ _ _ _ _ _ hc q => PyProof.Rows.mul_int q hc
noncomputable def pMulI : P2 := pI IntMulOk fun i j => i * j
theorem ok_timesI : OpR X (binaryOp .Mult) (r2 X.K pMulI) := pI_ok op_mulB
noncomputable def pMul : P2 := fun x y h Q => match x, y with
  | .int i, .int j => IntMulOk i j ∧ Q (.int (i * j)) h
  | .tup xs, .int n => (xs ≠ [] ∧ xs.length ≤ 10 ∧ 1 ≤ n ∧ n < 100) ∧ Q (.tup (List.replicate n.toNat xs).flatten) h
  | x, .int n => (match lsP h x with | some xs => (-(2 ^ 63) ≤ n ∧ n < 2 ^ 63 ∧ xs.length * n.toNat ≤ 16777216) ∧ Q (.lst (List.replicate n.toNat xs).flatten) h | none => False)
  | _, _ => False
noncomputable def dSl (fe : DE) (fl fh : DO) : DE := fun δ h Q => fe δ h fun d h1 => fl δ h1 fun l h2 => fh δ h2 fun u h3 => match d with
  | .tup xs => Q (.tup (cutD xs l u)) h3
  | d => match lsOf h3 d with | some xs => Q (.lst (cutD xs l u)) h3 | none => False
theorem se_sl {e : Expr} {fe : DE} {lo hi : Option Expr} {fl fh : DO} {pos p2 : Pos} (he : SE X e fe) (hl : SO X lo fl) (hu : SO X hi fh) : SE X (.Subscript e (.Slice lo hi none p2) pos) (dSl fe fl fh) := PE.imp (pe_slice (sl_tupD.or sl_list) he hl hu) fun σ H Q ⟨π, α, δ, h, Q', R, S, f, k⟩ => by
  refine ⟨π, α, δ, h, _, R, S, f, fun d h1 α1 H1 v1 f1 e1 R1 q1 => ?_⟩
  refine ⟨π, α1, δ, h1, _, R1, S.mono e1, f1, fun l h2 α2 H2 f2 e2 R2 => ?_⟩
  refine ⟨π, α2, δ, h2, _, R2, S.mono (e1.trans e2), f2, fun u h3 α3 H3 f3 e3 R3 => ?_⟩
  have q3 := (q1.mono e2).mono e3
  split at f3
  · cases q3 with
    | @tup a us ds t r =>
      refine .inl ⟨a, us, rfl, t.sq, fun z => ?_, fun p hp => ?_⟩
      · have c := cut_rel r l u
        rw [z] at c
        exact k _ h3 α3 H3 _ f3 (e1.trans (e2.trans e3)) R3 (.tup t c)
      · have e4 : Ext α3 H3 α3 (upd H3 p (.tup (cutV us l u))) := Ext.new hp
        exact k _ h3 α3 _ _ f3 (e1.trans (e2.trans (e3.trans e4))) (R3.new hp) (.tup ⟨R3.out hp, R3.outP hp, upd_same⟩ ((cut_rel r l u).mono e4))
  · split at f3
    · rename_i xs w
      obtain ⟨p, us, rfl, b, c⟩ := lsOf_sq R3 q3 w
      refine .inr ⟨p, us, rfl, b, fun l' hl => ?_⟩
      have e4 : Ext α3 H3 α3 (upd H3 l' (.lst (cutV us l u))) := Ext.new hl
      exact k _ h3 α3 _ _ f3 (e1.trans (e2.trans (e3.trans e4))) (R3.new hl) (.lst ⟨R3.out hl, R3.outP hl, upd_same⟩ ((cut_rel c l u).mono e4))
    · exact f3.elim
noncomputable def dExtend (fo : DE) (fs : DA) : DE := fun δ h Q => fo δ h fun d h1 => match d with
  | .ref i => (match h1[i]? with
    | some (.lst _) => fs δ h1 fun ds h2 => (match ds, h2[i]? with
      | [v], some (.lst ys) => (match lsP h2 v with | some zs => ys.length + zs.length ≤ 16777216 ∧ Q .non (h2.set i (.lst (ys ++ zs))) | none => False)
      | _, _ => False)
    | _ => False)
  | _ => False
theorem se_extend {o e : Expr} {fo : DE} {fs : DA} {n : Nat} {apos cpos : Pos} (ho : SE X o fo) (ha : SA X [e] n fs) (hbase : attributeBase o "extend" X.env (eval o X.env) = eval o X.env := by rfl)
    (hfew : ((backTo cpos (starEach [e] X.env)).all (fun x => !x.1) && (backToKw cpos (keywordEach [] X.env)).all (fun x => x.1.isSome)
      && decide ([e].length + ([] : List Keyword).length + (if ([] : List Keyword).isEmpty then 0 else 1) < 30)) = true := by rfl)
    (hline : (apos.endLine == cpos.line) = true := by rfl) (hs : starEach [e] X.env = (false, eval e X.env) :: starEach [] X.env := by rfl) (hplain : (backTo cpos (starEach [] X.env)).any (·.1) = false := by rfl) :
    SE X (.Call (.Attribute o "extend" apos) [e] [] cpos) (dExtend fo fs) :=
  PE.imp (pe_bm PySem.F.plainAttrs_list PySem.F.slot_list_extend PySem.F.type_list_extend mt_extend ho ha hbase hfew hline hs hplain) fun σ H Q ⟨π, α, δ, h, Q', R, S, f, k⟩ => by
    refine ⟨π, α, δ, h, _, R, S, f, fun d h1 α1 H1 v1 f1 e1 R1 q1 => ?_⟩
    cases q1 with
    | @ref i a hp =>
      dsimp only at f1
      cases w : h1[i]? with
      | none => rw [w] at f1; exact f1.elim
      | some ob =>
        rw [w] at f1
        cases ob with
        | lst xs =>
          obtain ⟨us, e2, e3⟩ := refL R1 hp w
          refine ⟨.inl ⟨rfl, us, SqL.of e2⟩, π, α1, δ, h1, _, R1, S.mono e1, f1, fun ds h2 α2 H2 vs f2 e2 R2 q2 l2 => ?_⟩
          split at f2
          · rename_i v ys w2
            obtain ⟨u, rfl, q9⟩ := q2.inv1
            split at f2
            · rename_i zs w3
              have hp2 := e2.get hp
              obtain ⟨us2, g2, g3⟩ := refL R2 hp2 w2
              obtain ⟨b, us3, rfl, g4, g5⟩ := lsP_sq R2 q9 w3
              have e4 : Ext α2 H2 α2 (upd H2 a (.lst (us2 ++ us3))) := Ext.write (List.mem_of_getElem? hp2)
              exact ⟨a, b, us2, us3, rfl, rfl, g2, g4, by rw [← g3.length, ← g5.length, sizeLine_eq]; exact f2.1, k _ _ α2 _ _ f2.2 (e1.trans (e2.trans e4)) (R2.write hp2 (.lst upd_same ((g3.append g5).mono e4))) .non⟩
            · exact f2.elim
          · exact f2.elim
        | _ => exact f1.elim
    | _ => exact f1.elim
noncomputable def kindD (h : Hh) : D → Option String
  | .non => some "NoneType"
  | .bl _ => some "bool"
  | .int _ => some "int"
  | .str _ => some "str"
  | .tup _ => some "tuple"
  | .lst _ => some "list"
  | .ref i => match h[i]? with | some (.lst _) => some "list" | some (.dT _) => some "dict" | some (.dK _) => some "dict" | _ => none
  | _ => none
noncomputable def isKind (t T : String) : Bool := t == T || (t == "bool" && T == "int")
theorem kit_of {K : PySem.W.Frag} {t T : String} (ht : t ∈ ["NoneType", "bool", "int", "str", "tuple", "list", "dict"]) (hT : T ∈ ["bool", "int", "str", "tuple", "list", "dict"]) : PySem.W.kitOne K (.type t) (.type T) = some (isKind t T) := by
  simp only [List.mem_cons, List.not_mem_nil, or_false] at ht hT
  rcases ht with rfl | rfl | rfl | rfl | rfl | rfl | rfl <;> rcases hT with rfl | rfl | rfl | rfl | rfl | rfl <;> rfl
noncomputable def dIsinst (T : String) (fa : DE) : DE := fun δ h Q => fa δ h fun d h1 => match kindD h1 d with | some t => Q (.bl (isKind t T)) h1 | none => False
theorem kind_in {h : Hh} {d : D} {t : String} (e : kindD h d = some t) : t ∈ ["NoneType", "bool", "int", "str", "tuple", "list", "dict"] := by
  unfold kindD at e
  split at e
  all_goals first | (cases e; done) | (cases e; decide) | skip
  split at e
  all_goals first | (cases e; done) | (cases e; decide)
theorem call_isinstD {T : String} : CallR X (.builtin "isinstance") (fun xs H Q => ∃ x t b, xs = [x, .ty T] ∧ (TyOf X.K H x t ∨ (t = .type "tuple" ∧ ∃ a us, x = .ref a ∧ SqT X.K H a us)) ∧ PySem.W.kitOne X.K t (.type T) = some b ∧ Q (.bl b) H) := by
  intro pins s σ H xs us Q I r h
  obtain ⟨x, t, b, rfl, ty, e, q⟩ := h
  obtain ⟨u, w', rfl, ru, rw'⟩ := vals2 r
  cases rw'
  rcases ty with ty | ⟨rfl, a, us, rfl, hq⟩
  · exact isinst_ok I ru ty e fun tk => ⟨.bl b, H, I.tok _, rfl, q⟩
  · cases ru
    obtain ⟨its, rv, ⟨o, h1, h2, _⟩, _⟩ := I.tuple hq
    exact PySem.W.kia_one PySem.W.kitx_tuple I.kIn ⟨o, h1, h2⟩ e (fun z => nomatch z) fun tk => ⟨.bl b, H, I.tok _, rfl, q⟩
theorem kind_ty {K : PySem.W.Frag} {π α : List Addr} {H : Hp} {h : Hh} {d : D} {v : V} {t : String} (R : HRel ⟨K, π⟩ α H h) (r : RelD ⟨K, π⟩ α H d v) (e : kindD h d = some t) : TyOf K H v (.type t) ∨ (Value.type t = .type "tuple" ∧ ∃ a us, v = .ref a ∧ SqT K H a us) := by
  cases r with
  | non => cases e; exact .inl .non
  | bl b => cases e; exact .inl (.bl b)
  | int i => cases e; exact .inl (.int i)
  | str x => cases e; exact .inl (.str x)
  | tup t r => cases e; exact .inr ⟨rfl, _, _, rfl, t.sq⟩
  | lst t r => cases e; exact .inl (.lst t.2.2)
  | scr t r => cases e
  | exc _ _ _ => cases e
  | @ref i a hp =>
    have e : (match h[i]? with | some (.lst _) => some "list" | some (.dT _) => some "dict" | some (.dK _) => some "dict" | _ => none) = some t := e
    cases q : h[i]? with
    | none => rw [q] at e; cases e
    | some o =>
      rw [q] at e
      cases o with
      | lst ys =>
        cases e
        obtain ⟨us, e2, e3⟩ := refL R hp q
        exact .inl (.lst e2)
      | dT ys =>
        cases e
        obtain ⟨p, us, e1, e2, e3⟩ := R.dT q
        rw [hp] at e1; cases e1
        exact .inl (.dT e2)
      | dK ys =>
        cases e
        obtain ⟨p, us, e1, e2, e3⟩ := R.dK q
        rw [hp] at e1; cases e1
        exact .inl (.dK e2)
      | ins C fs => cases e
theorem se_isinst {T : String} {a : Expr} {fa : DE} {x : Str} {p p2 pos : Pos} (hT : T ∈ ["bool", "int", "str", "tuple", "list", "dict"]) (hg : Gl X "isinstance") (hm : X.mg "isinstance" = none) (ha : SE X a fa) (ht : PE X (.Name x p2) (tC (.ty T)))
    (he : starEach [a, .Name x p2] X.env = (false, eval a X.env) :: starEach [.Name x p2] X.env := by rfl) (he2 : starEach [.Name x p2] X.env = (false, eval (.Name x p2) X.env) :: starEach [] X.env := by rfl) (hpl : (backTo pos (starEach [.Name x p2] X.env)).any (·.1) = false := by rfl) :
    SE X (.Call (.Name "isinstance" p) [a, .Name x p2] [] pos) (dIsinst T fa) := PE.imp (pe_callB call_isinstD hg hm PyProof.Rows.boot_isinstance (pa_cons ha (pa_cons ht pa_nil he2) he) (by decide) (by decide) he hpl) fun σ H Q ⟨π, α, δ, h, Q', R, S, f, k⟩ => by
  refine ⟨π, α, δ, h, _, R, S, f, fun d h1 α1 H1 v1 f1 e1 R1 q1 => ?_⟩
  split at f1
  · rename_i t w
    exact ⟨v1, .type t, _, rfl, kind_ty R1 q1 w, kit_of (kind_in w) hT, k _ h1 α1 H1 _ f1 e1 R1 (.bl _)⟩
  · exact f1.elim
noncomputable def flatD : D → Bool
  | .non => true
  | .bl _ => true
  | .int _ => true
  | .str _ => true
  | _ => false
noncomputable def eqF : D → D → Bool
  | .non, .non => true
  | .bl a, .bl b => a == b
  | .bl a, .int b => (if a then 1 else 0) == b
  | .int a, .bl b => a == (if b then 1 else 0)
  | .int a, .int b => a == b
  | .str a, .str b => a == b
  | _, _ => false
noncomputable def inF (x : D) (xs : List D) : Bool := xs.any fun y => eqF y x
theorem flat_rel {K : KP} {α : List Addr} {H : Hp} {d : D} {v : V} (r : RelD K α H d v) : flatV v = flatD d := by cases r <;> rfl
theorem flats_rel {K : KP} {α : List Addr} {H : Hp} : ∀ {ds : List D} {vs : List V}, RelDs K α H ds vs → vs.all flatV = ds.all flatD
  | _, _, .nil => rfl
  | _, _, .cons r t => by rw [List.all_cons, List.all_cons, flat_rel r, flats_rel t]
theorem eqF_rel {K : KP} {α : List Addr} {H : Hp} {d e : D} {v u : V} (r : RelD K α H d v) (s : RelD K α H e u) : eqV v u = eqF d e := by
  cases r <;> cases s <;> rfl
theorem inF_rel {K : KP} {α : List Addr} {H : Hp} {d : D} {v : V} (r : RelD K α H d v) : ∀ {ds : List D} {vs : List V}, RelDs K α H ds vs → inV v vs = inF d ds
  | _, _, .nil => rfl
  | _, _, .cons s t => by
    have := inF_rel r t
    unfold inV inF at this ⊢
    rw [List.any_cons, List.any_cons, this, eqF_rel s r]
noncomputable def pIn (neg : Bool) : P2 := fun x y h Q => match seqOf h y with
  | some xs => (flatD x && xs.all flatD) = true ∧ Q (.bl (if neg then !inF x xs else inF x xs)) h
  | none => False
theorem pIn_r {neg : Bool} {x y : V} {H : Hp} {Q : VK} (g : r2 X.K (pIn neg) x y H Q) : rIn X.K neg x y H Q := by
  obtain ⟨π, α, h, d, e, Q', R, r1, r2, f, k⟩ := g
  unfold pIn at f
  split at f
  · rename_i xs w
    obtain ⟨p, us, rfl, b, c⟩ := seqOf_sq R r2 w
    obtain ⟨f1, f2⟩ := f
    rw [Bool.and_eq_true] at f1
    refine ⟨p, us, rfl, b, by rw [flat_rel r1]; exact f1.1, by rw [flats_rel c]; exact f1.2, k _ h α H _ f2 (Ext.refl ..) R ?_⟩
    rw [inF_rel r1 c]; exact .bl _
  · exact f.elim
theorem ok_in : OpR X (compareOp .In) (r2 X.K (pIn false)) := OpR.imp op_in_seq fun _ _ _ _ g => pIn_r g
end
end DL
namespace DL
open PySem PySem.Spec L2
section
variable {X : Cx}
noncomputable def intsOf : List D → Option (List Int)
  | [] => some []
  | .int i :: r => (intsOf r).map (i :: ·)
  | _ :: _ => none
noncomputable def pLt : P2 := fun x y h Q => match x, y with
  | .int i, .int j => Q (.bl (decide (i < j))) h
  | .tup a, .tup b => (match intsOf a, intsOf b with | some ns, some ms => Q (.bl (HT.lexLt ns ms)) h | _, _ => False)
  | .str a, .str b => Q (.bl (decide (a.cps.toList < b.cps.toList))) h
  | _, _ => False
noncomputable def keyS : D → Option Key
  | .int i => some (.inl i)
  | .str x => some (.inr x)
  | _ => none
noncomputable def lkG (kvs : List (Key × Int)) (k : Key) : Option Int := (kvs.find? fun kv => decide (kv.1 = k)).map (·.2)
noncomputable def dGet (kvs : List (Key × Int)) (fi : DE) : DE := fun δ h Q => fi δ h fun d h1 => match (keyS d).bind fun k => lkG kvs k with | some v => Q (.int v) h1 | none => False
theorem key_rel {K : KP} {α : List Addr} {H : Hp} {d : D} {v : V} {k : Key} (r : RelD K α H d v) (e : keyS d = some k) : v = kV k := by
  cases r <;> cases e <;> rfl
theorem valV_lookup (kvs : List (Key × Int)) (k : Key) : valV (kvs.map fun p => (p.1, V.int p.2)) k = (lkG kvs k).map V.int := by
  unfold valV lkG
  rw [List.find?_map]
  rw [Option.map_map, Option.map_map]
  rfl
theorem se_gget {x : Str} {kvs : List (Key × Int)} {i : Expr} {fi : DE} {p pos : Pos} (hg : Gl X x) (hk : ∃ a, X.mg x = some (.ref a) ∧ KDict X.prog X.w X.K a (kvs.map fun p => (p.1, V.int p.2))) (hi : SE X i fi) (hs : NoSl i) (hd : (x == ("__debug__" : Str)) = false := by decide) :
    SE X (.Subscript (.Name x p) i pos) (dGet kvs fi) := let ⟨_, hm, hk⟩ := hk; PE.imp (pe_gget hg hm hk hi hs hd) fun σ H Q ⟨π, α, δ, h, Q', R, S, f, k⟩ => by
  refine ⟨π, α, δ, h, _, R, S, f, fun d h1 α1 H1 v1 f1 e1 R1 q1 => ?_⟩
  cases w : keyS d with
  | none => rw [w] at f1; exact f1.elim
  | some kk =>
    rw [w] at f1
    have f1 : (match lkG kvs kk with | some v => Q' (.int v) h1 | none => False) := f1
    cases w2 : lkG kvs kk with
    | none => rw [w2] at f1; exact f1.elim
    | some v =>
      rw [w2] at f1
      exact ⟨kk, .int v, key_rel q1 w, by rw [valV_lookup, w2]; rfl, k _ h1 α1 H1 _ f1 e1 R1 (.int _)⟩
noncomputable def dIEnum1 (f : DA) : DI := fun δ h Q => f δ h fun ds h1 => match ds with | [d] => (match d with | .tup _ => False | d => match seqSrc h1 d with | some S => Q ⟨enumD 1 S.items, S.w⟩ h1 | none => False) | _ => False
end
end DL
namespace Att
open PySem PySem.W PySem.Calls PyProof.Rows
theorem bits_weight : ∀ (ns : List Int) (x : Int), x ∈ ns → Builtin.Int.intBits x ≤ WData.weightAll (ns.map WData.int)
  | n :: r, x, h => by
    rw [List.map_cons]
    show _ ≤ WData.weight (.int n) + 1 + WData.weightAll (r.map WData.int)
    rcases List.mem_cons.mp h with rfl | h
    · have e : WData.weight (.int x) = Builtin.Int.intBits x := rfl
      rw [e]; omega
    · have := bits_weight r x h
      omega
theorem bits_args {ns : List Int} (h : WData.layableAll [WData.list (ns.map WData.int)] = true) : ∀ x ∈ ns, Builtin.Int.intBits x ≤ 1048576 := fun x hx => by
  have h : (WData.layable (.list (ns.map WData.int)) && true) = true := h
  rw [Bool.and_true] at h
  unfold WData.layable at h
  rw [Bool.and_eq_true] at h
  have h2 : WData.weight (.list (ns.map WData.int)) ≤ 2 ^ 20 := of_decide_eq_true h.2
  exact Nat.le_trans (bits_weight ns x hx) h2
theorem attach_call2 {l : OpenLaw} {n : Nat} {q : Program} {loose : List Str} {XP : (Str → Option Value) → Heap → Prop} {YP : World → Heap → Prop} {d : DefRec}
    (hn : l.most = some n) (hdf : d.params.defaults = [])
    (call : ∀ (w : World) (s₀ s₁ : Shared) (mg mb : Str → Option Value) (fa : Addr) (o : Obj) (pm cd doc : Value) (a : Addr) (vs : List Value) (ns : List Int),
      Ground q loose [] XP w s₀ mg mb s₁.heap → YP w s₁.heap →
      s₁.heap.get? fa = some o → o.data = .func (docDef d.name d.params d.body d.scope pm cd doc) → s₁.heap.CodeRec cd d.name → mg d.name = some (.ref fa) →
      s₁.heap.get? a = some { cls := .type "list", data := .seq vs.toArray } → IntsAre vs ns → ns.length ≤ n → (∀ x ∈ ns, Builtin.Int.intBits x ≤ 1048576) → s₁.gens = #[] →
      codeAny (model l.prog w) callerA (.call (.ref fa) ⟨[.ref a], []⟩) (fun r s' => r = .ok (.ret (.bool true)) ∧ OldK s₁.heap s'.heap ∧ s'.os = s₁.os ∧ AllBare s'.gens) s₁) :
    WalkO q loose XP YP l.row.toRowW d [] (fun f vs => PySem.call f vs) := by
  intro w s₀ s₁ mg mb G Y fa o pm cd doc dV kV ho hd hcd hD hmg hg args vals as hpre hlay hrd hwl hlo
  obtain rfl : dV = .none := Dflts.none hD hdf
  obtain rfl : kV = .none := Dflts.noKw hD
  obtain ⟨a, vs, ns, rfl, rfl, hobj, hints, hlen⟩ := script_of hn hpre hwl
  refine enter_call (codeAny_mono (call w s₀ s₁ mg mb fa o pm cd doc a vs ns G Y ho (fd_plain hd) hcd hmg hobj hints hlen (bits_args hlay) hg) fun r s' hq => ?_)
  obtain ⟨rfl, h2, h3, h4⟩ := hq
  exact ⟨.inl ⟨.bool true, .bool true, [], rfl, fun _ => rfl, .bool true, post_true l _, fun _ => ⟨List.Pairwise.nil, fun _ hm => (nomatch hm)⟩⟩, h2, h3, h4⟩
end Att
namespace DL
open PySem PySem.Spec L2 PySem.W PyProof.Rows
theorem walkD {l : OpenLaw} {n k : Nat} {q : Program} {loose : List Str} {XP : (Str → Option Value) → Heap → Prop} {YP : World → Heap → Prop} {d : DefRec} {K : Params → PySem.W.Frag} {S : DSp} {x : Str}
    (hn : l.most = some n) (hn2 : n ≤ sizeLine) (hdf : d.params.defaults = []) (hr : Room k callerA)
    (hY : ∀ (w : World) (h : Heap), YP w h → (K w.params).In h)
    (F : ∀ (w : World) (mg : Str → Option Value) (fa : Addr) (h : Heap), (K w.params).In h → h.Ns mainGlobals mg → mg d.name = some (.ref fa) →
      ∃ fd : FuncData, (∀ (s : Shared) (u : Value), BindsTo s fd ⟨[u], []⟩ [(x, u)]) ∧
        ∀ base : Heap, (K w.params).In base → base.Ns mainGlobals mg → FnOk l.prog w (K w.params) mg base CX0 k fa fd [x] (spD (K w.params) 1 S))
    (hS : ∀ ns : List Int, ns.length ≤ n → (∀ x ∈ ns, Builtin.Int.intBits x ≤ 1048576) → S [.scr (ns.map D.int)] [] (fun v _ => v = .bl true)) :
    WalkO q loose XP YP l.row.toRowW d [] (fun f vs => PySem.call f vs) := by
  refine Att.attach_call2 hn hdf fun w s₀ s₁ mg mb fa o pm cd doc a vs ns G Y ho hd hcd hmg hobj hints hlen hbits hg => ?_
  have KX := hY w _ Y
  obtain ⟨fd, hb, hF⟩ := F w mg fa _ KX G.T.g hmg
  refine L2.law_call KX G.T.g G.T.b G.T.builtins G.T.nolimit hg hobj hints (Nat.le_trans hlen hn2) hr hF hb (fun H hO hS' => ?_) fun H e s' z => z
  refine ⟨[], [], [], [.scr (ns.map D.int)], _, ⟨rfl, List.nodup_nil, fun p hp => (nomatch hp), fun i o e => ?_⟩, .cons (.scr (a := a) (us := ns.map V.int) ?_ (RelDs.ints ns)) .nil, rfl, hS ns hlen hbits, fun d h' α' H' v a b c r => ?_⟩
  · simp at e
  · rcases hS' with h | h
    · exact .inl ⟨fun z => (nomatch z), fun z => (nomatch z), h⟩
    · exact .inr h
  · have a : d = .bl true := a
    subst a
    cases r; rfl
end DL
namespace DL
open PySem PySem.Spec L2
mutual
noncomputable def nrD : D → Bool
  | .tup xs => nrDs xs
  | .lst xs => nrDs xs
  | .scr xs => nrDs xs
  | .ref _ => false
  | _ => true
noncomputable def nrDs : List D → Bool
  | [] => true
  | d :: ds => nrD d && nrDs ds
end
noncomputable def nrO : O → Bool
  | .lst xs => nrDs xs
  | .dT kvs => nrDs (kvs.map (·.2))
  | .dK kvs => nrDs (kvs.map (·.2))
  | .ins _ fs => nrDs (fs.map (·.2))
mutual
inductive Vw (n : Nat) (h : Hh) : D → D → Prop
  | nr {d : D} : nrD d = true → Vw n h d d
  | old {i : Nat} : i < n → Vw n h (.ref i) (.ref i)
  | opn {i : Nat} {xs ys : List D} : n ≤ i → h[i]? = some (.lst xs) → Vws n h xs ys → Vw n h (.ref i) (.lst ys)
  | tup {xs ys : List D} : Vws n h xs ys → Vw n h (.tup xs) (.tup ys)
  | lst {xs ys : List D} : Vws n h xs ys → Vw n h (.lst xs) (.lst ys)
inductive Vws (n : Nat) (h : Hh) : List D → List D → Prop
  | nil : Vws n h [] []
  | cons {d e : D} {ds es : List D} : Vw n h d e → Vws n h ds es → Vws n h (d :: ds) (e :: es)
end
section
variable {K : PySem.W.Frag} {π α β : List Addr} {H H' : Hp} {h : Hh}
theorem VT.less {a : Addr} {us : List V} (t : VT ⟨K, π⟩ (α ++ β) H a us) : VT ⟨K, π⟩ α H a us := ⟨fun z => t.1 (List.mem_append_left _ z), t.2⟩
theorem VS.less {a : Addr} {us : List V} (t : VS ⟨K, π⟩ (α ++ β) H a us) : VS ⟨K, π⟩ α H a us := by
  rcases t with ⟨n, m, t⟩ | t
  · exact .inl ⟨fun z => n (List.mem_append_left _ z), m, t⟩
  · exact .inr t
theorem VL.less {a : Addr} {us : List V} (t : VL ⟨K, π⟩ (α ++ β) H a us) : VL ⟨K, π⟩ α H a us := ⟨fun z => t.1 (List.mem_append_left _ z), t.2⟩
theorem VE.less {a : Addr} {u : HO} (t : VE ⟨K, π⟩ (α ++ β) H a u) : VE ⟨K, π⟩ α H a u := ⟨fun z => t.1 (List.mem_append_left _ z), t.2⟩
theorem nrDs_and {x : D} {r : List D} (e : nrDs (x :: r) = true) : nrD x = true ∧ nrDs r = true := by
  have e : (nrD _ && nrDs _) = true := e
  rw [Bool.and_eq_true] at e
  exact e
theorem RelD.nr {d : D} {v : V} (e : nrD d = true) (r : RelD ⟨K, π⟩ (α ++ β) H d v) : RelD ⟨K, π⟩ α H d v :=
  RelD.rec (motive_1 := fun d v _ => nrD d = true → RelD ⟨K, π⟩ α H d v) (motive_2 := fun ds us _ => nrDs ds = true → RelDs ⟨K, π⟩ α H ds us) (fun _ => .non) (fun b _ => .bl b) (fun i _ => .int i) (fun x _ => .str x) (fun t _ h e => .tup t.less (h e)) (fun t _ h e => .lst t.less (h e)) (fun t _ h e => .scr t.less (h e)) (fun _ e => nomatch e) (fun n t r _ => .exc n t.less (r.map fun _ _ z => z.less)) (fun _ => .nil) (fun _ _ h t e => .cons (h (nrDs_and e).1) (t (nrDs_and e).2)) r e
theorem RelDs.nr {ds : List D} {vs : List V} (e : nrDs ds = true) (r : RelDs ⟨K, π⟩ (α ++ β) H ds vs) : RelDs ⟨K, π⟩ α H ds vs := by
  induction ds generalizing vs with
  | nil => cases r; exact .nil
  | cons d ds ih => cases r with | cons h t => exact .cons (h.nr (nrDs_and e).1) (ih (nrDs_and e).2 t)
mutual
noncomputable def rfD (n : Nat) : D → Bool
  | .tup xs => rfDs n xs
  | .lst xs => rfDs n xs
  | .scr xs => rfDs n xs
  | .ref i => decide (i < n)
  | _ => true
noncomputable def rfDs (n : Nat) : List D → Bool
  | [] => true
  | x :: r => rfD n x && rfDs n r
end
theorem RelD.rf {d : D} {v : V} (r : RelD ⟨K, π⟩ α H d v) : rfD α.length d = true :=
  RelD.rec (motive_1 := fun d _ _ => rfD α.length d = true) (motive_2 := fun ds _ _ => rfDs α.length ds = true) rfl (fun _ => rfl) (fun _ => rfl) (fun _ => rfl) (fun _ _ h => h) (fun _ _ h => h) (fun _ _ h => h) (fun h => decide_eq_true (List.getElem?_eq_some_iff.mp h).1) (fun _ _ _ => rfl) rfl (fun _ _ h t => Bool.and_eq_true_iff.mpr ⟨h, t⟩) r
theorem RelDs.rf {ds : List D} {vs : List V} (r : RelDs ⟨K, π⟩ α H ds vs) : rfDs α.length ds = true := by
  induction ds generalizing vs with
  | nil => rfl
  | cons d ds ih => cases r with | cons h t => exact Bool.and_eq_true_iff.mpr ⟨h.rf, ih t⟩
theorem RelD.old2 {d : D} {v : V} (e : rfD α.length d = true) (r : RelD ⟨K, π⟩ (α ++ β) H d v) : RelD ⟨K, π⟩ α H d v :=
  RelD.rec (motive_1 := fun d v _ => rfD α.length d = true → RelD ⟨K, π⟩ α H d v) (motive_2 := fun ds us _ => rfDs α.length ds = true → RelDs ⟨K, π⟩ α H ds us) (fun _ => .non) (fun b _ => .bl b) (fun i _ => .int i) (fun x _ => .str x) (fun t _ h e => .tup t.less (h e)) (fun t _ h e => .lst t.less (h e)) (fun t _ h e => .scr t.less (h e)) (fun h1 e => .ref (by rw [List.getElem?_append_left (of_decide_eq_true e)] at h1; exact h1)) (fun n t r _ => .exc n t.less (r.map fun _ _ z => z.less)) (fun _ => .nil) (fun _ _ h t e => .cons (h (Bool.and_eq_true_iff.mp e).1) (t (Bool.and_eq_true_iff.mp e).2)) r e
theorem RelDs.old2 {ds : List D} {vs : List V} (e : rfDs α.length ds = true) (r : RelDs ⟨K, π⟩ (α ++ β) H ds vs) : RelDs ⟨K, π⟩ α H ds vs := by
  induction ds generalizing vs with
  | nil => cases r; exact .nil
  | cons d ds ih => cases r with | cons h t => exact .cons (h.old2 (Bool.and_eq_true_iff.mp e).1) (ih (Bool.and_eq_true_iff.mp e).2 t)
theorem RelD.old {d : D} {v v0 : V} (r0 : RelD ⟨K, π⟩ α H d v0) (r : RelD ⟨K, π⟩ (α ++ β) H' d v) : RelD ⟨K, π⟩ α H' d v := r.old2 r0.rf
theorem RelDs.old {ds : List D} {vs vs0 : List V} (r0 : RelDs ⟨K, π⟩ α H ds vs0) (r : RelDs ⟨K, π⟩ (α ++ β) H' ds vs) : RelDs ⟨K, π⟩ α H' ds vs := r.old2 r0.rf
theorem RelKV.old {κ : Type} : ∀ {ds : List (κ × D)} {vs vs0 : List (κ × V)}, RelKV ⟨K, π⟩ α H ds vs0 → RelKV ⟨K, π⟩ (α ++ β) H' ds vs → RelKV ⟨K, π⟩ α H' ds vs
  | _, _, _, .nil, r => by cases r; exact .nil
  | _, _, _, .cons r0 t0, r => by cases r with | cons r t => exact .cons (RelD.old r0 r) (RelKV.old t0 t)
theorem RelKV.nr {κ : Type} : ∀ {ds : List (κ × D)} {vs : List (κ × V)}, nrDs (ds.map (·.2)) = true → RelKV ⟨K, π⟩ (α ++ β) H ds vs → RelKV ⟨K, π⟩ α H ds vs
  | _, _, _, .nil => .nil
  | _, _, e, .cons r t => by
    have e : (nrD _ && nrDs _) = true := e
    rw [Bool.and_eq_true] at e
    exact .cons (RelD.nr e.1 r) (RelKV.nr e.2 t)
theorem RelO'.nr {p : Addr} {o : O} (e : nrO o = true) (r : RelO' ⟨K, π⟩ (α ++ β) H p o) : RelO' ⟨K, π⟩ α H p o := by
  cases r with
  | lst h t => exact .lst h (t.nr e)
  | dT h t => exact .dT h (t.nr e)
  | dK h t => exact .dK h (t.nr e)
  | ins n h t => exact .ins n h (t.nr e)
theorem RelO'.old {p p0 : Addr} {o : O} (r0 : RelO' ⟨K, π⟩ α H p0 o) (r : RelO' ⟨K, π⟩ (α ++ β) H' p o) : RelO' ⟨K, π⟩ α H' p o := by
  cases r0 with
  | lst h0 t0 => cases r with | lst h t => exact .lst h (t0.old t)
  | dT h0 t0 => cases r with | dT h t => exact .dT h (t0.old t)
  | dK h0 t0 => cases r with | dK h t => exact .dK h (t0.old t)
  | ins n0 h0 t0 => cases r with | ins n h t => exact .ins n h (t0.old t)
mutual
theorem Vw.rel (R : HRel ⟨K, π⟩ (α ++ β) H h) {n : Nat} (hn : α.length = n) : ∀ {d e : D} {v : V}, Vw n h d e → RelD ⟨K, π⟩ (α ++ β) H d v → RelD ⟨K, π⟩ α H e v
  | _, _, _, .nr e, r => r.nr e
  | _, _, _, .old hi, r => by
    cases r with
    | ref hp => exact .ref (by rw [List.getElem?_append_left (by omega)] at hp; exact hp)
  | _, _, _, .opn hi e t, r => by
    cases r with
    | ref hp =>
    obtain ⟨us, e2, e3⟩ := refL R hp e
    have hm := List.mem_of_getElem? hp
    refine .lst ⟨fun z => ?_, fun z => (R.dis _ z).1 hm, e2⟩ (Vws.rel R hn t e3)
    obtain ⟨j, hj, ej⟩ := List.getElem_of_mem z
    subst ej
    have q : (α ++ β)[j]? = some α[j] := by rw [List.getElem?_append_left hj, List.getElem?_eq_getElem hj]
    have := (List.getElem?_inj (List.getElem?_eq_some_iff.mp hp).1 R.nd).mp (hp.trans q.symm)
    omega
  | _, _, _, .tup t, r => by
    cases r with
    | tup q r => exact .tup q.less (Vws.rel R hn t r)
  | _, _, _, .lst t, r => by
    cases r with
    | lst q r => exact .lst q.less (Vws.rel R hn t r)
theorem Vws.rel (R : HRel ⟨K, π⟩ (α ++ β) H h) {n : Nat} (hn : α.length = n) : ∀ {ds es : List D} {vs : List V}, Vws n h ds es → RelDs ⟨K, π⟩ (α ++ β) H ds vs → RelDs ⟨K, π⟩ α H es vs
  | _, _, _, .nil, .nil => .nil
  | _, _, _, .cons e t, .cons r s => .cons (Vw.rel R hn e r) (Vws.rel R hn t s)
end
end
noncomputable def Dr (h : Hh) (Q : DK) : DK := fun d h' => ∃ h2 g d', h' = h2 ++ g ∧ h2.length = h.length ∧ (∀ (i : Nat) (o : O), h2[i]? = some o → h[i]? = some o ∨ nrO o = true) ∧ Vw h.length h' d d' ∧ Q d' h2
theorem Dr.rel {K : PySem.W.Frag} {π α α' : List Addr} {H H' : Hp} {h h' : Hh} {Q : DK} {d : D} {v : V} (R : HRel ⟨K, π⟩ α H h) (e : Ext α H α' H') (R' : HRel ⟨K, π⟩ α' H' h') (r : RelD ⟨K, π⟩ α' H' d v) (q : Dr h Q d h') :
    ∃ d' h2, Q d' h2 ∧ Ext α H α H' ∧ HRel ⟨K, π⟩ α H' h2 ∧ RelD ⟨K, π⟩ α H' d' v := by
  obtain ⟨h2, g, d', rfl, hl, ho, vw, q⟩ := q
  obtain ⟨⟨β, rfl, hb⟩, ek, ed⟩ := e
  have hn := R.len
  refine ⟨d', h2, q, ⟨⟨[], by simp, fun p hp => nomatch hp⟩, ek, ed⟩, ⟨by omega, ?_, fun p hp => ?_, fun i o eo => ?_⟩, vw.rel R' hn r⟩
  · exact R.nd
  · exact ⟨fun z => (R'.dis p hp).1 (List.mem_append_left _ z), (R'.dis p hp).2⟩
  · have hi : i < h2.length := (List.getElem?_eq_some_iff.mp eo).1
    obtain ⟨p, ep, ro⟩ := R'.obj i o (by rw [List.getElem?_append_left hi]; exact eo)
    refine ⟨p, by rw [List.getElem?_append_left (by omega)] at ep; exact ep, ?_⟩
    rcases ho i o eo with z | z
    · obtain ⟨p0, _, r0⟩ := R.obj i o z
      exact r0.old ro
    · exact ro.nr z
theorem fn_okD {P : Program} {w : World} {K : PySem.W.Frag} {mg : Str → Option Value} {base : Heap} {x qual : Str} {st : Stmt} {f : Addr} {fd : FuncData} {N ps : List Str} {k : Nat} {b : DS} {g : DSp} (F : Fun K x qual st f fd) (S : FnScope N ps (defScope st))
    (hb : ∀ (cdv : Value) (A : Around) (outer : List Env) (s : Shared) (H : Hp) (E : XK), Room k (A.deeper (PyProof.Rows.envOfC qual (defScope st) s.heap.objs.size f cdv)) → SSs (cxOf CX0 P w K mg base N qual (defScope st) f cdv A outer s H E).nox (defBody st) b)
    (hg : ∀ ds h Q, g ds h Q → runD N.length b ds h (Dr h Q)) : FnOk P w K mg base CX0 (k + 1) f fd ps (spD K ps.length g) := by
  refine F.ok S (fun vs H Q E h => ?_) fun cdv A outer s H vs Q E hr h => ?_
  · obtain ⟨π, α, h, ds, Q', R, r, l, _⟩ := h
    rw [← r.length, l]
  · obtain ⟨π, α, h, ds, Q', R, r, l, q, kk⟩ := h
    refine ⟨_, hb cdv A outer s H E hr, π, α, _, h, { nx := fun _ h' => Dr h Q' .non h', rt := Dr h Q' }, R, relS_start r, hg ds h Q' q, ⟨fun _ h' α' H' σ' a b c _ => ?_, fun d h' α' H' v a b c d' => ?_, fun _ _ _ _ _ a _ _ _ => a.elim, fun _ _ _ _ _ a _ _ _ => a.elim, fun _ _ _ _ _ _ _ a _ _ _ => a.elim⟩⟩
    · obtain ⟨d', h2, q, e, R2, r2⟩ := a.rel R b c .non
      exact kk d' h2 α H' .non q e R2 r2
    · obtain ⟨d', h2, q, e, R2, r2⟩ := a.rel R b c d'
      exact kk d' h2 α H' v q e R2 r2
theorem nrDs_map {τ : Type} {g : τ → D} (hg : ∀ x, nrD (g x) = true) : ∀ xs : List τ, nrDs (xs.map g) = true
  | [] => rfl
  | x :: r => by
    show (nrD (g x) && nrDs (r.map g)) = true
    rw [hg x, nrDs_map hg r]; rfl
theorem Vws.of {n : Nat} {h : Hh} : ∀ {xs : List D}, nrDs xs = true → Vws n h xs xs
  | [], _ => .nil
  | x :: r, e => by
    have e : (nrD x && nrDs r) = true := e
    rw [Bool.and_eq_true] at e
    exact .cons (.nr e.1) (Vws.of e.2)
theorem Dr.drop {h g : Hh} {Q : DK} {d : D} (e : nrD d = true) (q : Q d h) : Dr h Q d (h ++ g) := ⟨h, g, d, rfl, rfl, fun _ _ e => .inl e, .nr e, q⟩
theorem Dr.dropL {h : Hh} {Q : DK} {xs : List D} {g1 g2 : Hh} {k : Nat} (e : nrDs xs = true) (hk : k = h.length + g1.length) (q : Q (.lst xs) h) : Dr h Q (.ref k) (h ++ (g1 ++ .lst xs :: g2)) := by
  refine ⟨h, g1 ++ .lst xs :: g2, .lst xs, rfl, rfl, fun _ _ e => .inl e, .opn (by omega) ?_ (.of e), q⟩
  subst hk
  rw [List.getElem?_append_right (by omega), show h.length + g1.length - h.length = g1.length by omega, List.getElem?_append_right (Nat.le_refl _)]
  simp
end DL
namespace DL
open PySem L2
theorem atN {α : Type} (xs : List α) (i : Nat) : atI xs (i : Int) = xs[i]? := by
  unfold atI ixN
  by_cases h : i < xs.length
  · rw [if_pos (by omega), if_pos (by omega)]; simp
  · rw [if_pos (by omega), if_neg (by omega)]
    simp; omega
theorem atI_of {α : Type} {xs : List α} {i : Int} (h0 : 0 ≤ i) : atI xs i = xs[i.toNat]? := by
  have := atN xs i.toNat
  rwa [Int.toNat_of_nonneg h0] at this
theorem atI_2 {α : Type} (a b c : α) (l : List α) : atI (a :: b :: c :: l) 2 = some c := atN _ 2
theorem atI_3 {α : Type} (a b c d : α) (l : List α) : atI (a :: b :: c :: d :: l) 3 = some d := atN _ 3
theorem at1_0 {α : Type} (a : α) : atI [a] 0 = some a := rfl
theorem at2_0 {α : Type} (a b : α) : atI [a, b] 0 = some a := rfl
theorem at2_1 {α : Type} (a b : α) : atI [a, b] 1 = some b := rfl
theorem at3_0 {α : Type} (a b c : α) : atI [a, b, c] 0 = some a := rfl
theorem at3_1 {α : Type} (a b c : α) : atI [a, b, c] 1 = some b := rfl
theorem at3_2 {α : Type} (a b c : α) : atI [a, b, c] 2 = some c := rfl
theorem at4_0 {α : Type} (a b c d : α) : atI [a, b, c, d] 0 = some a := rfl
theorem at4_1 {α : Type} (a b c d : α) : atI [a, b, c, d] 1 = some b := rfl
theorem at4_2 {α : Type} (a b c d : α) : atI [a, b, c, d] 2 = some c := rfl
theorem at4_3 {α : Type} (a b c d : α) : atI [a, b, c, d] 3 = some d := rfl
theorem at5_0 {α : Type} (a b c d e : α) : atI [a, b, c, d, e] 0 = some a := rfl
theorem at5_1 {α : Type} (a b c d e : α) : atI [a, b, c, d, e] 1 = some b := rfl
theorem at5_2 {α : Type} (a b c d e : α) : atI [a, b, c, d, e] 2 = some c := rfl
theorem at5_3 {α : Type} (a b c d e : α) : atI [a, b, c, d, e] 3 = some d := rfl
theorem at5_4 {α : Type} (a b c d e : α) : atI [a, b, c, d, e] 4 = some e := rfl
theorem at6_0 {α : Type} (a b c d e f : α) : atI [a, b, c, d, e, f] 0 = some a := rfl
theorem at6_1 {α : Type} (a b c d e f : α) : atI [a, b, c, d, e, f] 1 = some b := rfl
theorem at6_2 {α : Type} (a b c d e f : α) : atI [a, b, c, d, e, f] 2 = some c := rfl
theorem at6_3 {α : Type} (a b c d e f : α) : atI [a, b, c, d, e, f] 3 = some d := rfl
theorem at6_4 {α : Type} (a b c d e f : α) : atI [a, b, c, d, e, f] 4 = some e := rfl
theorem at6_5 {α : Type} (a b c d e f : α) : atI [a, b, c, d, e, f] 5 = some f := rfl
theorem at7_0 {α : Type} (a b c d e f g : α) : atI [a, b, c, d, e, f, g] 0 = some a := rfl
theorem at7_1 {α : Type} (a b c d e f g : α) : atI [a, b, c, d, e, f, g] 1 = some b := rfl
theorem at7_2 {α : Type} (a b c d e f g : α) : atI [a, b, c, d, e, f, g] 2 = some c := rfl
theorem at7_3 {α : Type} (a b c d e f g : α) : atI [a, b, c, d, e, f, g] 3 = some d := rfl
theorem at7_4 {α : Type} (a b c d e f g : α) : atI [a, b, c, d, e, f, g] 4 = some e := rfl
theorem at7_5 {α : Type} (a b c d e f g : α) : atI [a, b, c, d, e, f, g] 5 = some f := rfl
theorem at7_6 {α : Type} (a b c d e f g : α) : atI [a, b, c, d, e, f, g] 6 = some g := rfl
theorem at8_0 {α : Type} (a b c d e f g i : α) : atI [a, b, c, d, e, f, g, i] 0 = some a := rfl
theorem at8_1 {α : Type} (a b c d e f g i : α) : atI [a, b, c, d, e, f, g, i] 1 = some b := rfl
theorem at8_2 {α : Type} (a b c d e f g i : α) : atI [a, b, c, d, e, f, g, i] 2 = some c := rfl
theorem at8_3 {α : Type} (a b c d e f g i : α) : atI [a, b, c, d, e, f, g, i] 3 = some d := rfl
theorem at8_4 {α : Type} (a b c d e f g i : α) : atI [a, b, c, d, e, f, g, i] 4 = some e := rfl
theorem at8_5 {α : Type} (a b c d e f g i : α) : atI [a, b, c, d, e, f, g, i] 5 = some f := rfl
theorem at8_6 {α : Type} (a b c d e f g i : α) : atI [a, b, c, d, e, f, g, i] 6 = some g := rfl
theorem at8_7 {α : Type} (a b c d e f g i : α) : atI [a, b, c, d, e, f, g, i] 7 = some i := rfl
theorem ix_ls {h : Hh} {d : D} {xs : List D} (e : lsOf h d = some xs) (k : Int) : ixD h d (.int k) = atI xs k := by
  cases d with
  | lst ys => cases e; rfl
  | scr ys => cases e; rfl
  | ref i =>
    have e : (match h[i]? with | some (.lst xs) => some xs | _ => none) = some xs := e
    show (match h[i]? with | some (.lst xs) => atI xs k | _ => none) = atI xs k
    cases q : h[i]? with
    | none => rw [q] at e; cases e
    | some o =>
      rw [q] at e
      cases o with
      | lst ys => cases e; rfl
      | _ => cases e
  | _ => cases e
theorem seq_ls {h : Hh} {d : D} {xs : List D} (e : lsOf h d = some xs) : seqOf h d = some xs := by
  cases d with
  | lst ys => exact e
  | scr ys => exact e
  | ref i => exact e
  | _ => cases e
theorem len_ls {h : Hh} {d : D} {xs : List D} (e : lsOf h d = some xs) : lenD h d = some xs.length := by
  have s := seq_ls e
  cases d with
  | lst ys => cases e; rfl
  | scr ys => cases e; rfl
  | ref i => show (seqOf h (.ref i)).map List.length = _; rw [s]; rfl
  | _ => cases e
theorem src_ls {h : Hh} {d : D} {xs : List D} (e : lsOf h d = some xs) : ∃ w, seqSrc h d = some ⟨xs, w⟩ ∧ (Src.mk xs w).ok h ∧ ∀ p ∈ w, ∃ i, d = .ref i ∧ p = (i, .lst xs) := by
  cases d with
  | lst ys => cases e; exact ⟨[], rfl, Src.ok_nil, fun p hp => nomatch hp⟩
  | scr ys => cases e; exact ⟨[], rfl, Src.ok_nil, fun p hp => nomatch hp⟩
  | ref i =>
    have e : (match h[i]? with | some (.lst xs) => some xs | _ => none) = some xs := e
    cases q : h[i]? with
    | none => rw [q] at e; cases e
    | some o =>
      rw [q] at e
      cases o with
      | lst ys =>
        cases e
        refine ⟨[(i, .lst xs)], ?_, fun p hp => ?_, fun p hp => ⟨i, rfl, List.mem_singleton.mp hp⟩⟩
        · show (match h[i]? with | some (.lst xs) => some (Src.mk xs [(i, .lst xs)]) | _ => none) = _
          rw [q]
        · rw [List.mem_singleton.mp hp]; exact q
      | _ => cases e
  | _ => cases e
noncomputable def Pre (h h' : Hh) : Prop := ∀ (i : Nat) (o : O), h[i]? = some o → h'[i]? = some o
theorem Pre.trans {a b c : Hh} (x : Pre a b) (y : Pre b c) : Pre a c := fun i o e => y i o (x i o e)
theorem Pre.app (h g : Hh) : Pre h (h ++ g) := fun i o e => by
  rw [List.getElem?_append_left (List.getElem?_eq_some_iff.mp e).1]; exact e
theorem Pre.ls {h h' : Hh} (p : Pre h h') {d : D} {xs : List D} (e : lsOf h d = some xs) : lsOf h' d = some xs := by
  cases d with
  | ref i =>
    have e : (match h[i]? with | some (.lst xs) => some xs | _ => none) = some xs := e
    show (match h'[i]? with | some (.lst xs) => some xs | _ => none) = some xs
    cases q : h[i]? with
    | none => rw [q] at e; cases e
    | some o => rw [q] at e; rw [p i o q]; exact e
  | _ => exact e
theorem ls_new (h : Hh) (xs : List D) : lsOf (h ++ [.lst xs]) (.ref h.length) = some xs := by
  show (match (h ++ [O.lst xs])[h.length]? with | some (.lst xs) => some xs | _ => none) = some xs
  rw [List.getElem?_append_right (Nat.le_refl _)]; simp
theorem get_new (h : Hh) (o : O) : (h ++ [o])[h.length]? = some o := by
  rw [List.getElem?_append_right (Nat.le_refl _)]; simp
theorem set_new (h : Hh) (o u : O) : (h ++ [o]).set h.length u = h ++ [u] := by
  rw [List.set_append_right _ _ (Nat.le_refl _)]; simp
theorem forL_map {τ : Type} {S : Src} {t : DG} {b : DS} {E : DEnds} (P : List τ → Sl → Hh → Prop) {g : τ → D} {ys : List τ} {δ : Sl} {h : Hh} (h0 : P [] δ h) (ok : ∀ p δ h, P p δ h → S.ok h)
    (hs : ∀ (p : List τ) (y : τ) (r : List τ) (δ : Sl) (h : Hh) (N : Sl → Hh → Prop), ys = p ++ y :: r → P p δ h → (∀ δ h, P (p ++ [y]) δ h → N δ h) → t (g y) δ h fun δ2 h2 => b { E with nx := N, ct := N, bk := E.nx } δ2 h2)
    (hd : ∀ δ h, P ys δ h → E.nx δ h) : forL S t b E (ys.map g) δ h := by
  have go : ∀ (r p : List τ) δ h, ys = p ++ r → P p δ h → forL S t b E (r.map g) δ h := by
    intro r
    induction r with
    | nil => intro p δ h e q; rw [List.append_nil] at e; subst e; exact ⟨ok _ _ _ q, hd _ _ q⟩
    | cons y r ih =>
      intro p δ h e q
      exact ⟨ok _ _ _ q, hs p y r δ h _ e q fun δ3 h3 p3 => ih (p ++ [y]) δ3 h3 (by rw [e]; simp) p3⟩
  exact go ys [] δ h rfl h0
theorem compL_map {τ : Type} {S : Src} {t : DG} {tf : DT} {te : DE} (P : List τ → List D → Sl → Hh → Prop) {g : τ → D} {ys : List τ} {δ : Sl} {h : Hh} {Q : List D → Hh → Prop} (h0 : P [] [] δ h) (ok : ∀ p a δ h, P p a δ h → S.ok h)
    (hs : ∀ (p : List τ) (y : τ) (r : List τ) (acc : List D) (δ : Sl) (h : Hh) (N : List D → Sl → Hh → Prop), ys = p ++ y :: r → P p acc δ h → (∀ a δ h, P (p ++ [y]) a δ h → N a δ h) →
      t (g y) δ h fun δ2 h2 => tf δ2 h2 fun b h3 => if b = true then te δ2 h3 fun z h4 => N (acc ++ [z]) δ2 h4 else N acc δ2 h3)
    (hd : ∀ a δ h, P ys a δ h → Q a h) : compL S t tf te (ys.map g) [] δ h Q := by
  have go : ∀ (r p : List τ) a δ h, ys = p ++ r → P p a δ h → compL S t tf te (r.map g) a δ h Q := by
    intro r
    induction r with
    | nil => intro p a δ h e q; rw [List.append_nil] at e; subst e; exact ⟨ok _ _ _ _ q, hd _ _ _ q⟩
    | cons y r ih =>
      intro p a δ h e q
      exact ⟨ok _ _ _ _ q, hs p y r a δ h (fun a δ h => compL S t tf te (r.map g) a δ h Q) e q fun a3 δ3 h3 p3 => ih (p ++ [y]) a3 δ3 h3 (by rw [e]; simp) p3⟩
  exact go ys [] [] δ h rfl h0
theorem comp1 {τ : Type} {S : Src} {tf : DT} {te : DE} {g : τ → D} {ys : List τ} {h : Hh} {fr : Sl} {Q : List D → Hh → Prop} (c : τ → Bool) (v : τ → D) (ok : S.ok h) (o : Option D)
    (htf : ∀ y ∈ ys, ∀ K : Bool → Hh → Prop, K (c y) h → tf (some (g y) :: fr) h K) (hte : ∀ y ∈ ys, c y = true → ∀ K : DK, K (v y) h → te (some (g y) :: fr) h K)
    (hd : Q ((ys.filter c).map v) h) : compL S (dName 0) tf te (ys.map g) [] (o :: fr) h Q := by
  refine compL_map (fun p a δ h' => h' = h ∧ (∃ o, δ = o :: fr) ∧ a = (p.filter c).map v) ⟨rfl, ⟨o, rfl⟩, rfl⟩ (fun p a δ h' q => by rw [q.1]; exact ok) ?_ ?_
  · rintro p y r acc δ h' N e ⟨rfl, ⟨o, rfl⟩, rfl⟩ hN
    have hy : y ∈ ys := by rw [e]; simp
    refine htf y hy _ ?_
    cases hc : c y with
    | true =>
      refine iteT (hte y hy hc _ (hN _ _ _ ⟨rfl, ⟨_, rfl⟩, ?_⟩))
      simp [List.filter_append, hc]
    | false =>
      refine iteF (hN _ _ _ ⟨rfl, ⟨_, rfl⟩, ?_⟩)
      simp [List.filter_append, hc]
  · rintro a δ h' ⟨rfl, _, rfl⟩
    exact hd
theorem comp1n {τ : Type} {S : Src} {te : DE} {g : τ → D} {ys : List τ} {h : Hh} {fr : Sl} {Q : List D → Hh → Prop} (v : τ → D) (ok : S.ok h) (o : Option D)
    (hte : ∀ y ∈ ys, ∀ K : DK, K (v y) h → te (some (g y) :: fr) h K) (hd : Q (ys.map v) h) : compL S (dName 0) dNoIf te (ys.map g) [] (o :: fr) h Q :=
  comp1 (fun _ => true) v ok o (fun _ _ K k => k) (fun y hy _ => hte y hy) ((show ys.filter (fun _ => true) = ys by simp).symm ▸ hd)
theorem rangeD_map (lo : Int) : ∀ n : Nat, rangeD lo n = (List.range n).map fun i => D.int (lo + (i : Nat)) := by
  intro n
  apply List.ext_getElem?
  intro i
  rw [rangeD_get]
  by_cases h : i < n <;> simp [h]
theorem isN_non : isNon .non = true := rfl
theorem isN_bl (b : Bool) : isNon (.bl b) = false := rfl
theorem isN_int (b : Int) : isNon (.int b) = false := rfl
theorem isN_str (b : Str) : isNon (.str b) = false := rfl
theorem isN_tup (b : List D) : isNon (.tup b) = false := rfl
theorem isN_lst (b : List D) : isNon (.lst b) = false := rfl
theorem isN_ref (b : Nat) : isNon (.ref b) = false := rfl
theorem lsOf_lst (h : Hh) (xs : List D) : lsOf h (.lst xs) = some xs := rfl
theorem seqOf_lst (h : Hh) (xs : List D) : seqOf h (.lst xs) = some xs := rfl
theorem seqSrc_lst (h : Hh) (xs : List D) : seqSrc h (.lst xs) = some ⟨xs, []⟩ := rfl
theorem lenD_lst (h : Hh) (xs : List D) : lenD h (.lst xs) = some xs.length := rfl
theorem ixD_lst (h : Hh) (xs : List D) (i : Int) : ixD h (.lst xs) (.int i) = atI xs i := rfl
theorem trD_lst (h : Hh) (xs : List D) : trD h (.lst xs) = some (!xs.isEmpty) := rfl
theorem lsOf_scr (h : Hh) (xs : List D) : lsOf h (.scr xs) = some xs := rfl
theorem seqOf_scr (h : Hh) (xs : List D) : seqOf h (.scr xs) = some xs := rfl
theorem seqSrc_scr (h : Hh) (xs : List D) : seqSrc h (.scr xs) = some ⟨xs, []⟩ := rfl
theorem lenD_scr (h : Hh) (xs : List D) : lenD h (.scr xs) = some xs.length := rfl
theorem ixD_scr (h : Hh) (xs : List D) (i : Int) : ixD h (.scr xs) (.int i) = atI xs i := rfl
theorem trD_scr (h : Hh) (xs : List D) : trD h (.scr xs) = some (!xs.isEmpty) := rfl
theorem lsP_lst (h : Hh) (xs : List D) : lsP h (.lst xs) = some xs := rfl
theorem lsP_tup (h : Hh) (xs : List D) : lsP h (.tup xs) = none := rfl
theorem lsP_int (h : Hh) (x : Int) : lsP h (.int x) = none := rfl
theorem lsP_str (h : Hh) (x : Str) : lsP h (.str x) = none := rfl
theorem seqOf_tup (h : Hh) (xs : List D) : seqOf h (.tup xs) = some xs := rfl
theorem seqSrc_tup (h : Hh) (xs : List D) : seqSrc h (.tup xs) = some ⟨xs, []⟩ := rfl
theorem lenD_tup (h : Hh) (xs : List D) : lenD h (.tup xs) = some xs.length := rfl
theorem ixD_tup (h : Hh) (xs : List D) (i : Int) : ixD h (.tup xs) (.int i) = atI xs i := rfl
theorem trD_tup (h : Hh) (xs : List D) : trD h (.tup xs) = some (!xs.isEmpty) := rfl
theorem trD_non (h : Hh) : trD h .non = some false := rfl
theorem trD_bl (h : Hh) (b : Bool) : trD h (.bl b) = some b := rfl
theorem trD_int (h : Hh) (i : Int) : trD h (.int i) = some (i != 0) := rfl
theorem kindD_non (h : Hh)  : kindD h (.non) = some "NoneType" := rfl
theorem kindD_bl (h : Hh) (x : Bool) : kindD h (.bl x) = some "bool" := rfl
theorem kindD_int (h : Hh) (x : Int) : kindD h (.int x) = some "int" := rfl
theorem kindD_str (h : Hh) (x : Str) : kindD h (.str x) = some "str" := rfl
theorem kindD_tup (h : Hh) (x : List D) : kindD h (.tup x) = some "tuple" := rfl
theorem kindD_lst (h : Hh) (x : List D) : kindD h (.lst x) = some "list" := rfl
theorem isK_NoneType_bool : isKind "NoneType" "bool" = false := rfl
theorem isK_NoneType_int : isKind "NoneType" "int" = false := rfl
theorem isK_NoneType_str : isKind "NoneType" "str" = false := rfl
theorem isK_NoneType_tuple : isKind "NoneType" "tuple" = false := rfl
theorem isK_NoneType_list : isKind "NoneType" "list" = false := rfl
theorem isK_NoneType_dict : isKind "NoneType" "dict" = false := rfl
theorem isK_bool_bool : isKind "bool" "bool" = true := rfl
theorem isK_bool_int : isKind "bool" "int" = true := rfl
theorem isK_bool_str : isKind "bool" "str" = false := rfl
theorem isK_bool_tuple : isKind "bool" "tuple" = false := rfl
theorem isK_bool_list : isKind "bool" "list" = false := rfl
theorem isK_bool_dict : isKind "bool" "dict" = false := rfl
theorem isK_int_bool : isKind "int" "bool" = false := rfl
theorem isK_int_int : isKind "int" "int" = true := rfl
theorem isK_int_str : isKind "int" "str" = false := rfl
theorem isK_int_tuple : isKind "int" "tuple" = false := rfl
theorem isK_int_list : isKind "int" "list" = false := rfl
theorem isK_int_dict : isKind "int" "dict" = false := rfl
theorem isK_str_bool : isKind "str" "bool" = false := rfl
theorem isK_str_int : isKind "str" "int" = false := rfl
theorem isK_str_str : isKind "str" "str" = true := rfl
theorem isK_str_tuple : isKind "str" "tuple" = false := rfl
theorem isK_str_list : isKind "str" "list" = false := rfl
theorem isK_str_dict : isKind "str" "dict" = false := rfl
theorem isK_tuple_bool : isKind "tuple" "bool" = false := rfl
theorem isK_tuple_int : isKind "tuple" "int" = false := rfl
theorem isK_tuple_str : isKind "tuple" "str" = false := rfl
theorem isK_tuple_tuple : isKind "tuple" "tuple" = true := rfl
theorem isK_tuple_list : isKind "tuple" "list" = false := rfl
theorem isK_tuple_dict : isKind "tuple" "dict" = false := rfl
theorem isK_list_bool : isKind "list" "bool" = false := rfl
theorem isK_list_int : isKind "list" "int" = false := rfl
theorem isK_list_str : isKind "list" "str" = false := rfl
theorem isK_list_tuple : isKind "list" "tuple" = false := rfl
theorem isK_list_list : isKind "list" "list" = true := rfl
theorem isK_list_dict : isKind "list" "dict" = false := rfl
theorem isK_dict_bool : isKind "dict" "bool" = false := rfl
theorem isK_dict_int : isKind "dict" "int" = false := rfl
theorem isK_dict_str : isKind "dict" "str" = false := rfl
theorem isK_dict_tuple : isKind "dict" "tuple" = false := rfl
theorem isK_dict_list : isKind "dict" "list" = false := rfl
theorem isK_dict_dict : isKind "dict" "dict" = true := rfl
theorem lsOf_ref {h : Hh} {i : Nat} {xs : List D} (e : h[i]? = some (.lst xs)) : lsOf h (.ref i) = some xs := by show (match h[i]? with | some (.lst xs) => some xs | _ => none) = _; rw [e]
theorem lsP_ref {h : Hh} {i : Nat} {xs : List D} (e : h[i]? = some (.lst xs)) : lsP h (.ref i) = some xs := by show (match h[i]? with | some (.lst xs) => some xs | _ => none) = _; rw [e]
theorem ixN_0 (n : Nat) : ixN (n + 1) 0 = some 0 := by unfold ixN; rw [if_pos (by decide), if_pos (by omega)]; rfl
theorem ixN_10 : ixN 1 0 = some 0 := rfl
theorem range_split {n d : Nat} {p r : List Nat} (e : List.range n = p ++ d :: r) : d = p.length ∧ d < n := by
  have h9 : p.length < n := by
    have : p.length < (List.range n).length := by rw [e]; simp
    simpa using this
  have h8 : (List.range n)[p.length]? = some d := by rw [e]; simp
  rw [List.getElem?_range h9] at h8
  cases h8; exact ⟨rfl, h9⟩
theorem seq_intro {f g : DS} {E : DEnds} {δ : Sl} {h : Hh} (k : ∀ N : Sl → Hh → Prop, N = g E → f { E with nx := N } δ h) : dSeq f g E δ h := k _ rfl
theorem beqN (a b : Nat) : ((a : Int) == (b : Int)) = decide (a = b) := by rw [Bool.eq_iff_iff]; simp; omega
theorem beqP (a b : Nat) : ((a : Int) == (b : Int) - 1) = decide (a + 1 = b) := by rw [Bool.eq_iff_iff]; simp; omega
theorem iteB {c : Bool} {A B : Prop} (h1 : c = true → A) (h2 : c = false → B) : if c = true then A else B := by
  cases c with
  | true => exact iteT (h1 rfl)
  | false => exact iteF (h2 rfl)
theorem mulS {i j : Int} (h : -(2 ^ 64) < i ∧ i < 2 ^ 64) : IntMulOk i j := .of_left (intBits_le_64 h.1 h.2)
theorem mulS' {i j : Int} (h : -(2 ^ 64) < j ∧ j < 2 ^ 64) : IntMulOk i j := .of_right (intBits_le_64 h.1 h.2)
end DL
namespace CM
open PySem L2 DL
theorem sk_step : PyData.strOk (Str.ofString "step") = true := by decide +kernel
theorem sq_step_step : ((Str.ofString "step") == (Str.ofString "step")) = true := by decide +kernel
theorem sq_step_call : ((Str.ofString "step") == (Str.ofString "call")) = false := by decide +kernel
theorem sq_step_in : ((Str.ofString "step") == (Str.ofString "in")) = false := by decide +kernel
theorem sq_step_over : ((Str.ofString "step") == (Str.ofString "over")) = false := by decide +kernel
theorem sq_step_begin : ((Str.ofString "step") == (Str.ofString "begin")) = false := by decide +kernel
theorem sq_step_start : ((Str.ofString "step") == (Str.ofString "start")) = false := by decide +kernel
theorem sq_step_short : ((Str.ofString "step") == (Str.ofString "short")) = false := by decide +kernel
theorem sq_step_along : ((Str.ofString "step") == (Str.ofString "along")) = false := by decide +kernel
theorem sq_step_within : ((Str.ofString "step") == (Str.ofString "within")) = false := by decide +kernel
theorem sq_step_at : ((Str.ofString "step") == (Str.ofString "at")) = false := by decide +kernel
theorem sq_step_out : ((Str.ofString "step") == (Str.ofString "out")) = false := by decide +kernel
theorem sk_call : PyData.strOk (Str.ofString "call") = true := by decide +kernel
theorem sq_call_step : ((Str.ofString "call") == (Str.ofString "step")) = false := by decide +kernel
theorem sq_call_call : ((Str.ofString "call") == (Str.ofString "call")) = true := by decide +kernel
theorem sq_call_in : ((Str.ofString "call") == (Str.ofString "in")) = false := by decide +kernel
theorem sq_call_over : ((Str.ofString "call") == (Str.ofString "over")) = false := by decide +kernel
theorem sq_call_begin : ((Str.ofString "call") == (Str.ofString "begin")) = false := by decide +kernel
theorem sq_call_start : ((Str.ofString "call") == (Str.ofString "start")) = false := by decide +kernel
theorem sq_call_short : ((Str.ofString "call") == (Str.ofString "short")) = false := by decide +kernel
theorem sq_call_along : ((Str.ofString "call") == (Str.ofString "along")) = false := by decide +kernel
theorem sq_call_within : ((Str.ofString "call") == (Str.ofString "within")) = false := by decide +kernel
theorem sq_call_at : ((Str.ofString "call") == (Str.ofString "at")) = false := by decide +kernel
theorem sq_call_out : ((Str.ofString "call") == (Str.ofString "out")) = false := by decide +kernel
theorem sk_in : PyData.strOk (Str.ofString "in") = true := by decide +kernel
theorem sq_in_step : ((Str.ofString "in") == (Str.ofString "step")) = false := by decide +kernel
theorem sq_in_call : ((Str.ofString "in") == (Str.ofString "call")) = false := by decide +kernel
theorem sq_in_in : ((Str.ofString "in") == (Str.ofString "in")) = true := by decide +kernel
theorem sq_in_over : ((Str.ofString "in") == (Str.ofString "over")) = false := by decide +kernel
theorem sq_in_begin : ((Str.ofString "in") == (Str.ofString "begin")) = false := by decide +kernel
theorem sq_in_start : ((Str.ofString "in") == (Str.ofString "start")) = false := by decide +kernel
theorem sq_in_short : ((Str.ofString "in") == (Str.ofString "short")) = false := by decide +kernel
theorem sq_in_along : ((Str.ofString "in") == (Str.ofString "along")) = false := by decide +kernel
theorem sq_in_within : ((Str.ofString "in") == (Str.ofString "within")) = false := by decide +kernel
theorem sq_in_at : ((Str.ofString "in") == (Str.ofString "at")) = false := by decide +kernel
theorem sq_in_out : ((Str.ofString "in") == (Str.ofString "out")) = false := by decide +kernel
theorem sk_over : PyData.strOk (Str.ofString "over") = true := by decide +kernel
theorem sq_over_step : ((Str.ofString "over") == (Str.ofString "step")) = false := by decide +kernel
theorem sq_over_call : ((Str.ofString "over") == (Str.ofString "call")) = false := by decide +kernel
theorem sq_over_in : ((Str.ofString "over") == (Str.ofString "in")) = false := by decide +kernel
theorem sq_over_over : ((Str.ofString "over") == (Str.ofString "over")) = true := by decide +kernel
theorem sq_over_begin : ((Str.ofString "over") == (Str.ofString "begin")) = false := by decide +kernel
theorem sq_over_start : ((Str.ofString "over") == (Str.ofString "start")) = false := by decide +kernel
theorem sq_over_short : ((Str.ofString "over") == (Str.ofString "short")) = false := by decide +kernel
theorem sq_over_along : ((Str.ofString "over") == (Str.ofString "along")) = false := by decide +kernel
theorem sq_over_within : ((Str.ofString "over") == (Str.ofString "within")) = false := by decide +kernel
theorem sq_over_at : ((Str.ofString "over") == (Str.ofString "at")) = false := by decide +kernel
theorem sq_over_out : ((Str.ofString "over") == (Str.ofString "out")) = false := by decide +kernel
theorem sk_begin : PyData.strOk (Str.ofString "begin") = true := by decide +kernel
theorem sq_begin_step : ((Str.ofString "begin") == (Str.ofString "step")) = false := by decide +kernel
theorem sq_begin_call : ((Str.ofString "begin") == (Str.ofString "call")) = false := by decide +kernel
theorem sq_begin_in : ((Str.ofString "begin") == (Str.ofString "in")) = false := by decide +kernel
theorem sq_begin_over : ((Str.ofString "begin") == (Str.ofString "over")) = false := by decide +kernel
theorem sq_begin_begin : ((Str.ofString "begin") == (Str.ofString "begin")) = true := by decide +kernel
theorem sq_begin_start : ((Str.ofString "begin") == (Str.ofString "start")) = false := by decide +kernel
theorem sq_begin_short : ((Str.ofString "begin") == (Str.ofString "short")) = false := by decide +kernel
theorem sq_begin_along : ((Str.ofString "begin") == (Str.ofString "along")) = false := by decide +kernel
theorem sq_begin_within : ((Str.ofString "begin") == (Str.ofString "within")) = false := by decide +kernel
theorem sq_begin_at : ((Str.ofString "begin") == (Str.ofString "at")) = false := by decide +kernel
theorem sq_begin_out : ((Str.ofString "begin") == (Str.ofString "out")) = false := by decide +kernel
theorem sk_start : PyData.strOk (Str.ofString "start") = true := by decide +kernel
theorem sq_start_step : ((Str.ofString "start") == (Str.ofString "step")) = false := by decide +kernel
theorem sq_start_call : ((Str.ofString "start") == (Str.ofString "call")) = false := by decide +kernel
theorem sq_start_in : ((Str.ofString "start") == (Str.ofString "in")) = false := by decide +kernel
theorem sq_start_over : ((Str.ofString "start") == (Str.ofString "over")) = false := by decide +kernel
theorem sq_start_begin : ((Str.ofString "start") == (Str.ofString "begin")) = false := by decide +kernel
theorem sq_start_start : ((Str.ofString "start") == (Str.ofString "start")) = true := by decide +kernel
theorem sq_start_short : ((Str.ofString "start") == (Str.ofString "short")) = false := by decide +kernel
theorem sq_start_along : ((Str.ofString "start") == (Str.ofString "along")) = false := by decide +kernel
theorem sq_start_within : ((Str.ofString "start") == (Str.ofString "within")) = false := by decide +kernel
theorem sq_start_at : ((Str.ofString "start") == (Str.ofString "at")) = false := by decide +kernel
theorem sq_start_out : ((Str.ofString "start") == (Str.ofString "out")) = false := by decide +kernel
theorem sk_short : PyData.strOk (Str.ofString "short") = true := by decide +kernel
theorem sq_short_step : ((Str.ofString "short") == (Str.ofString "step")) = false := by decide +kernel
theorem sq_short_call : ((Str.ofString "short") == (Str.ofString "call")) = false := by decide +kernel
theorem sq_short_in : ((Str.ofString "short") == (Str.ofString "in")) = false := by decide +kernel
theorem sq_short_over : ((Str.ofString "short") == (Str.ofString "over")) = false := by decide +kernel
theorem sq_short_begin : ((Str.ofString "short") == (Str.ofString "begin")) = false := by decide +kernel
theorem sq_short_start : ((Str.ofString "short") == (Str.ofString "start")) = false := by decide +kernel
theorem sq_short_short : ((Str.ofString "short") == (Str.ofString "short")) = true := by decide +kernel
theorem sq_short_along : ((Str.ofString "short") == (Str.ofString "along")) = false := by decide +kernel
theorem sq_short_within : ((Str.ofString "short") == (Str.ofString "within")) = false := by decide +kernel
theorem sq_short_at : ((Str.ofString "short") == (Str.ofString "at")) = false := by decide +kernel
theorem sq_short_out : ((Str.ofString "short") == (Str.ofString "out")) = false := by decide +kernel
theorem sk_along : PyData.strOk (Str.ofString "along") = true := by decide +kernel
theorem sq_along_step : ((Str.ofString "along") == (Str.ofString "step")) = false := by decide +kernel
theorem sq_along_call : ((Str.ofString "along") == (Str.ofString "call")) = false := by decide +kernel
theorem sq_along_in : ((Str.ofString "along") == (Str.ofString "in")) = false := by decide +kernel
theorem sq_along_over : ((Str.ofString "along") == (Str.ofString "over")) = false := by decide +kernel
theorem sq_along_begin : ((Str.ofString "along") == (Str.ofString "begin")) = false := by decide +kernel
theorem sq_along_start : ((Str.ofString "along") == (Str.ofString "start")) = false := by decide +kernel
theorem sq_along_short : ((Str.ofString "along") == (Str.ofString "short")) = false := by decide +kernel
theorem sq_along_along : ((Str.ofString "along") == (Str.ofString "along")) = true := by decide +kernel
theorem sq_along_within : ((Str.ofString "along") == (Str.ofString "within")) = false := by decide +kernel
theorem sq_along_at : ((Str.ofString "along") == (Str.ofString "at")) = false := by decide +kernel
theorem sq_along_out : ((Str.ofString "along") == (Str.ofString "out")) = false := by decide +kernel
theorem sk_within : PyData.strOk (Str.ofString "within") = true := by decide +kernel
theorem sq_within_step : ((Str.ofString "within") == (Str.ofString "step")) = false := by decide +kernel
theorem sq_within_call : ((Str.ofString "within") == (Str.ofString "call")) = false := by decide +kernel
theorem sq_within_in : ((Str.ofString "within") == (Str.ofString "in")) = false := by decide +kernel
theorem sq_within_over : ((Str.ofString "within") == (Str.ofString "over")) = false := by decide +kernel
theorem sq_within_begin : ((Str.ofString "within") == (Str.ofString "begin")) = false := by decide +kernel
theorem sq_within_start : ((Str.ofString "within") == (Str.ofString "start")) = false := by decide +kernel
theorem sq_within_short : ((Str.ofString "within") == (Str.ofString "short")) = false := by decide +kernel
theorem sq_within_along : ((Str.ofString "within") == (Str.ofString "along")) = false := by decide +kernel
theorem sq_within_within : ((Str.ofString "within") == (Str.ofString "within")) = true := by decide +kernel
theorem sq_within_at : ((Str.ofString "within") == (Str.ofString "at")) = false := by decide +kernel
theorem sq_within_out : ((Str.ofString "within") == (Str.ofString "out")) = false := by decide +kernel
theorem sk_at : PyData.strOk (Str.ofString "at") = true := by decide +kernel
theorem sq_at_step : ((Str.ofString "at") == (Str.ofString "step")) = false := by decide +kernel
theorem sq_at_call : ((Str.ofString "at") == (Str.ofString "call")) = false := by decide +kernel
theorem sq_at_in : ((Str.ofString "at") == (Str.ofString "in")) = false := by decide +kernel
theorem sq_at_over : ((Str.ofString "at") == (Str.ofString "over")) = false := by decide +kernel
theorem sq_at_begin : ((Str.ofString "at") == (Str.ofString "begin")) = false := by decide +kernel
theorem sq_at_start : ((Str.ofString "at") == (Str.ofString "start")) = false := by decide +kernel
theorem sq_at_short : ((Str.ofString "at") == (Str.ofString "short")) = false := by decide +kernel
theorem sq_at_along : ((Str.ofString "at") == (Str.ofString "along")) = false := by decide +kernel
theorem sq_at_within : ((Str.ofString "at") == (Str.ofString "within")) = false := by decide +kernel
theorem sq_at_at : ((Str.ofString "at") == (Str.ofString "at")) = true := by decide +kernel
theorem sq_at_out : ((Str.ofString "at") == (Str.ofString "out")) = false := by decide +kernel
theorem sk_out : PyData.strOk (Str.ofString "out") = true := by decide +kernel
theorem sq_out_step : ((Str.ofString "out") == (Str.ofString "step")) = false := by decide +kernel
theorem sq_out_call : ((Str.ofString "out") == (Str.ofString "call")) = false := by decide +kernel
theorem sq_out_in : ((Str.ofString "out") == (Str.ofString "in")) = false := by decide +kernel
theorem sq_out_over : ((Str.ofString "out") == (Str.ofString "over")) = false := by decide +kernel
theorem sq_out_begin : ((Str.ofString "out") == (Str.ofString "begin")) = false := by decide +kernel
theorem sq_out_start : ((Str.ofString "out") == (Str.ofString "start")) = false := by decide +kernel
theorem sq_out_short : ((Str.ofString "out") == (Str.ofString "short")) = false := by decide +kernel
theorem sq_out_along : ((Str.ofString "out") == (Str.ofString "along")) = false := by decide +kernel
theorem sq_out_within : ((Str.ofString "out") == (Str.ofString "within")) = false := by decide +kernel
theorem sq_out_at : ((Str.ofString "out") == (Str.ofString "at")) = false := by decide +kernel
theorem sq_out_out : ((Str.ofString "out") == (Str.ofString "out")) = true := by decide +kernel
end CM
namespace CM
open PySem L2 DL
inductive Kind where
  | step (t : List Nat) | call (g : Nat) (into back over : List Nat)
structure Edge where
  p : Nat
  q : Nat
  cost : Nat
  k : Kind
structure Fn where
  places : Nat
  facts : Nat
  edges : List Edge
noncomputable abbrev Chart := List Fn
inductive Mv where | step | over | inn
  deriving DecidableEq
noncomputable def Mv.w : Mv → Str | .step => "step" | .over => "over" | .inn => "in"
inductive Clm where
  | within (f a p d c : Nat) | at (f p d c : Nat)
inductive Row where
  | begin (f d : Int) | mv (w : Mv) (k n e : Int) | short (k n j e : Int) | start (d : Int) | along (k j : Int)
noncomputable abbrev nD (n : Nat) : D := .int (n : Int)
noncomputable def tD (t : List Nat) : D := .tup (t.map nD)
noncomputable def eD (e : Edge) : D := match e.k with
  | .step t => .tup [.str "step", nD e.p, nD e.q, nD e.cost, tD t]
  | .call g i b o => .tup [.str "call", nD e.p, nD e.q, nD e.cost, nD g, tD i, tD b, tD o]
noncomputable def clD : Clm → D
  | .within f a p d c => .tup [.str "within", nD f, nD a, nD p, nD d, nD c]
  | .at f p d c => .tup [.str "at", nD f, nD p, nD d, nD c]
noncomputable def rD : Row → D
  | .begin f d => .tup [.str "begin", .int f, .int d]
  | .mv w k n e => .tup [.str w.w, .int k, .int n, .int e]
  | .short k n j e => .tup [.str "short", .int k, .int n, .int j, .int e]
  | .start d => .tup [.str "start", .int d]
  | .along k j => .tup [.str "along", .int k, .int j]
noncomputable def oD {α : Type} (f : α → D) : Option α → D | none => .non | some a => f a
noncomputable def Edge.isStep (e : Edge) : Bool := match e.k with | .step _ => true | .call _ _ _ _ => false
theorem eD_2 (h : Hh) (e : Edge) : ixD h (eD e) (.int 2) = some (nD e.q) := by
  unfold eD; cases e.k <;> exact atI_2 ..
theorem eD_3 (h : Hh) (e : Edge) : ixD h (eD e) (.int 3) = some (nD e.cost) := by
  unfold eD; cases e.k <;> exact atI_3 ..
theorem eD_non (e : Edge) : isNon (eD e) = false := by unfold eD; cases e.k <;> rfl
theorem clD_non (c : Clm) : isNon (clD c) = false := by cases c <;> rfl
noncomputable def tOk (t : List Nat) (n m : Nat) : Prop := t.length = n ∧ ∀ x ∈ t, x < 2 ^ m
noncomputable def eOk (C : Chart) (F : Fn) (e : Edge) : Prop := e.p < F.places ∧ e.q < F.places ∧ 1 ≤ e.cost ∧ e.cost ≤ 10 ^ 18 ∧ match e.k with
  | .step t => tOk t F.facts F.facts
  | .call g i b o => ∃ G, C[g]? = some G ∧ tOk i F.facts G.facts ∧ tOk b G.facts F.facts ∧ tOk o F.facts F.facts
structure WF (C : Chart) : Prop where
  one : 1 ≤ C.length
  six : C.length ≤ 6
  fn : ∀ (f : Nat) (F : Fn), C[f]? = some F → 1 ≤ F.places ∧ F.places ≤ 10 ∧ 1 ≤ F.facts ∧ F.facts ≤ 6 ∧ F.edges.length ≤ 100 ∧ ∀ e ∈ F.edges, eOk C F e
noncomputable def ChD (h : Hh) (d : D) (C : Chart) : Prop := ∃ fs, lsOf h d = some fs ∧ fs.length = C.length ∧ ∀ (i : Nat) (F : Fn), C[i]? = some F → ∃ e, fs[i]? = some (.tup [nD F.places, nD F.facts, e]) ∧ lsOf h e = some (F.edges.map eD)
theorem ChD.mono {h h' : Hh} {d : D} {C : Chart} (p : Pre h h') (c : ChD h d C) : ChD h' d C := by
  obtain ⟨fs, h1, h2, h3⟩ := c
  exact ⟨fs, p.ls h1, h2, fun i F e => let ⟨x, a, b⟩ := h3 i F e; ⟨x, a, p.ls b⟩⟩
theorem ChD.fn {h : Hh} {d : D} {C : Chart} (c : ChD h d C) {f : Nat} {F : Fn} (e : C[f]? = some F) : ∃ x, ixD h d (nD f) = some (.tup [nD F.places, nD F.facts, x]) ∧ lsOf h x = some (F.edges.map eD) := by
  obtain ⟨fs, h1, h2, h3⟩ := c
  obtain ⟨x, a, b⟩ := h3 f F e
  exact ⟨x, by rw [ix_ls h1, atN]; exact a, b⟩
theorem ChD.len {h : Hh} {d : D} {C : Chart} (c : ChD h d C) : lenD h d = some C.length := by
  obtain ⟨fs, h1, h2, h3⟩ := c
  rw [len_ls h1, h2]
noncomputable def fD (F : Fn) : D := .tup [nD F.places, nD F.facts, .lst (F.edges.map eD)]
noncomputable def cD (C : Chart) : D := .lst (C.map fD)
theorem ChD.of (h : Hh) (C : Chart) : ChD h (cD C) C := ⟨C.map fD, rfl, by simp, fun i F e => ⟨.lst (F.edges.map eD), by rw [List.getElem?_map, e]; rfl, rfl⟩⟩
theorem band1 (x : Nat) : Builtin.bitAnd (x : Int) 1 = ((x % 2 : Nat) : Int) := by
  unfold Builtin.bitAnd
  rw [decide_eq_true (show (0 : Int) ≤ (x : Int) by omega), decide_eq_true (show (0 : Int) ≤ 1 by decide)]
  show (((x : Int).toNat &&& (1 : Int).toNat : Nat) : Int) = _
  have e1 : ((x : Int).toNat) = x := by omega
  have e2 : ((1 : Int).toNat) = 1 := rfl
  rw [e1, e2, Nat.and_one_is_mod]
theorem shr_nat (m d : Nat) : (m : Int) / 2 ^ d = ((m / 2 ^ d : Nat) : Int) := by
  have e : (2 : Int) ^ d = ((2 ^ d : Nat) : Int) := by simp
  rw [e]; exact (Int.natCast_ediv m (2 ^ d)).symm
theorem bitI (m d : Nat) : Builtin.bitAnd ((m : Int) / 2 ^ d) 1 = if m.testBit d then 1 else 0 := by
  rw [shr_nat, band1, Nat.testBit_eq_decide_div_mod_eq]
  have := Nat.mod_two_eq_zero_or_one (m / 2 ^ d)
  rcases this with h | h <;> simp [h]
theorem bitT (m d : Nat) : (Builtin.bitAnd ((m : Int) / 2 ^ d) 1 != 0) = m.testBit d := by
  rw [bitI]; cases m.testBit d <;> rfl
theorem shl1 (k : Nat) : (1 : Int) * 2 ^ ((k : Nat) : Int).toNat = ((2 ^ k : Nat) : Int) := by
  rw [Int.one_mul, Int.toNat_natCast]; simp
theorem nrD_tD (t : List Nat) : nrD (tD t) = true := nrDs_map (fun _ => rfl) t
theorem nrD_eD (e : Edge) : nrD (eD e) = true := by
  unfold eD
  cases e.k with
  | step t => show (true && (true && (true && (true && (nrD (tD t) && true))))) = true; rw [nrD_tD]; rfl
  | call g i b o => show (true && (true && (true && (true && (true && (nrD (tD i) && (nrD (tD b) && (nrD (tD o) && true)))))))) = true; rw [nrD_tD, nrD_tD, nrD_tD]; rfl
theorem nrD_rD (r : Row) : nrD (rD r) = true := by cases r <;> rfl
noncomputable def factsN (m : Nat) : List Nat := (List.range (Builtin.Int.intBits (m : Int))).filter fun d => m.testBit d
theorem bits_lt {m n : Nat} (h : m < 2 ^ n) : Builtin.Int.intBits (m : Int) ≤ n := intBits_le_iff.mpr (by simpa using h)
theorem bit_hi {m e : Nat} (h : Builtin.Int.intBits (m : Int) ≤ e) : m.testBit e = false := by
  have := intBits_le_iff.mp h
  exact Nat.testBit_lt_two_pow (by simpa using this)
theorem mem_facts {m e : Nat} : e ∈ factsN m ↔ m.testBit e = true := by
  unfold factsN
  rw [List.mem_filter, List.mem_range]
  refine ⟨fun q => q.2, fun q => ⟨?_, q⟩⟩
  rcases Nat.lt_or_ge e (Builtin.Int.intBits (m : Int)) with x | x
  · exact x
  · rw [bit_hi x] at q; cases q
noncomputable def br (t : List Nat) (d : Nat) (e : Int) : Bool := decide (0 ≤ e) && (t.getD d 0).testBit e.toNat
theorem inF_facts (m : Nat) (e : Int) : inF (.int e) ((factsN m).map nD) = (decide (0 ≤ e) && m.testBit e.toNat) := by
  rw [Bool.eq_iff_iff]
  unfold inF
  rw [List.any_map, List.any_eq_true, Bool.and_eq_true, decide_eq_true_iff]
  constructor
  · rintro ⟨x, hx, he⟩
    have he : (x : Int) = e := by simpa [eqF] using he
    subst he
    exact ⟨by omega, by simpa using mem_facts.mp hx⟩
  · rintro ⟨h0, hb⟩
    exact ⟨e.toNat, mem_facts.mpr hb, by simp [eqF]; omega⟩
theorem flat_ints (ns : List Nat) : (ns.map nD).all flatD = true := by
  rw [List.all_map]; simp [flatD, List.all_eq_true]
theorem tOk.get {t : List Nat} {n m d : Nat} (h : tOk t n m) (hd : d < n) : t[d]? = some (t.getD d 0) ∧ t.getD d 0 < 2 ^ m := by
  obtain ⟨h1, h2⟩ := h
  have hl : d < t.length := by omega
  rw [List.getD_eq_getElem?_getD, List.getElem?_eq_getElem hl]
  exact ⟨rfl, h2 _ (List.getElem_mem hl)⟩
theorem tD_ix (h : Hh) {t : List Nat} {n m d : Nat} (ht : tOk t n m) (hd : d < n) : ixD h (tD t) (nD d) = some (nD (t.getD d 0)) := by
  show atI (t.map nD) (d : Int) = _
  rw [atN, List.getElem?_map, (ht.get hd).1]; rfl
theorem pow64 {x m : Nat} (hx : x < 2 ^ m) (hm : m ≤ 6) : x < 64 := Nat.lt_of_lt_of_le hx (Nat.pow_le_pow_right (n := 2) (by decide) hm)
noncomputable def edgeAt (C : Chart) (f : Nat) (n : Int) : Option Edge := if 0 ≤ n then (C[f]?).bind fun F => F.edges[n.toNat]? else none
noncomputable def Edge.tab (e : Edge) (w : Mv) : List Nat := match w, e.k with
  | .step, .step t => t
  | .inn, .call _ i _ _ => i
  | .over, .call _ _ _ o => o
  | _, _ => []
noncomputable def takes (C : Chart) (f p d : Nat) (w : Mv) (n e : Int) : Option Edge := (edgeAt C f n).bind fun E => if (E.isStep == (w == .step)) = true ∧ E.p = p ∧ br (E.tab w) d e = true then some E else none
noncomputable def ahead (cs : List Clm) (k : Int) : Option Clm := if 0 ≤ k then cs[k.toNat]? else none
noncomputable def claimOf (C : Chart) (st : Nat) (cs : List Clm) : Row → Option Clm
  | .begin f d => if 0 ≤ f ∧ 0 ≤ d then (C[f.toNat]?).bind fun F => if d < F.facts then some (.within f.toNat d.toNat 0 d.toNat 0) else none else none
  | .start d => if 0 ≤ d then (C[0]?).bind fun F => if d < F.facts ∧ st.testBit d.toNat = true then some (.at 0 0 d.toNat 0) else none else none
  | .mv .inn k n e => match ahead cs k with
    | some (.at f p d c) => (takes C f p d .inn n e).bind fun E => match E.k with | .call g _ _ _ => some (.at g 0 e.toNat (c + E.cost)) | _ => none
    | _ => none
  | .mv w k n e => match ahead cs k with
    | some (.within f a p d c) => (takes C f p d w n e).map fun E => .within f a E.q e.toNat (c + E.cost)
    | _ => none
  | .short k n j e => match ahead cs k, ahead cs j with
    | some (.within f a p d c), some (.within g b x y c') => (takes C f p d .inn n b).bind fun E => match E.k with
      | .call g' _ bk _ => (C[g']?).bind fun G => if g' = g ∧ x + 1 = G.places ∧ br bk y e = true then some (.within f a E.q e.toNat (c + E.cost + c')) else none
      | _ => none
    | _, _ => none
  | .along k j => match ahead cs k, ahead cs j with
    | some (.at f p a c), some (.within g b q d c') => if p = 0 ∧ g = f ∧ b = a then some (.at f q d (c + c')) else none
    | _, _ => none
theorem takes_inv {C : Chart} {f p d : Nat} {w : Mv} {n e : Int} {E : Edge} (ht : takes C f p d w n e = some E) : edgeAt C f n = some E ∧ (E.isStep == (w == .step)) = true ∧ E.p = p ∧ br (E.tab w) d e = true ∧ 0 ≤ e := by
  unfold takes at ht
  cases q3 : edgeAt C f n with
  | none => rw [q3] at ht; cases ht
  | some E' =>
    rw [q3] at ht
    have ht : (if (E'.isStep == (w == .step)) = true ∧ E'.p = p ∧ br (E'.tab w) d e = true then some E' else none) = some E := ht
    split at ht
    · rename_i z
      cases ht
      refine ⟨rfl, z.1, z.2.1, z.2.2, ?_⟩
      have := z.2.2
      unfold br at this
      rw [Bool.and_eq_true] at this
      exact of_decide_eq_true this.1
    · cases ht
theorem edgeAt_inv {C : Chart} {f : Nat} {n : Int} {E : Edge} (h : edgeAt C f n = some E) : ∃ F, 0 ≤ n ∧ C[f]? = some F ∧ F.edges[n.toNat]? = some E := by
  unfold edgeAt at h
  split at h
  · rename_i h0
    cases q : C[f]? with
    | none => rw [q] at h; cases h
    | some F => rw [q] at h; exact ⟨F, h0, rfl, h⟩
  · cases h
theorem takes_in {C : Chart} (wf : WF C) {f p d : Nat} {n e : Int} {E : Edge} (ht : takes C f p d .inn n e = some E) : ∃ F g i b o G, C[f]? = some F ∧ E.k = .call g i b o ∧ C[g]? = some G ∧ tOk i F.facts G.facts ∧ tOk b G.facts F.facts ∧ tOk o F.facts F.facts ∧ E.q < F.places ∧ E.p = p ∧ br i d e = true ∧ 0 ≤ e := by
  obtain ⟨h1, h2, h3, h4, h5⟩ := takes_inv ht
  obtain ⟨F, h0, hF, hE⟩ := edgeAt_inv h1
  obtain ⟨o1, o2, o3, o4, o5⟩ := (wf.fn f F hF).2.2.2.2.2 E (List.mem_of_getElem? hE)
  obtain ⟨p', q', c', k'⟩ := E
  cases k' with
  | step t => cases h2
  | call g i b o =>
    obtain ⟨G, hG, t1, t2, t3⟩ := o5
    exact ⟨F, g, i, b, o, G, hF, rfl, hG, t1, t2, t3, o2, h3, h4, h5⟩
noncomputable def clOk (C : Chart) : Clm → Prop
  | .within f a p d _ => ∃ F, C[f]? = some F ∧ a < F.facts ∧ p < F.places ∧ d < F.facts
  | .at f p d _ => ∃ F, C[f]? = some F ∧ p < F.places ∧ d < F.facts
theorem ahead_ok {C : Chart} {cs : List Clm} (ok : ∀ c ∈ cs, clOk C c) {k : Int} {c : Clm} (h : ahead cs k = some c) : clOk C c := by
  unfold ahead at h
  split at h
  · exact ok c (List.mem_of_getElem? h)
  · cases h
noncomputable def allClaims (C : Chart) (st : Nat) : List Row → List Clm → Option (List Clm)
  | [], cs => some cs
  | r :: rs, cs => (claimOf C st cs r).bind fun c => allClaims C st rs (cs ++ [c])
theorem claim_ok {C : Chart} (wf : WF C) {st : Nat} {cs : List Clm} {r : Row} {c : Clm} (ok : ∀ c ∈ cs, clOk C c) (h : claimOf C st cs r = some c) : clOk C c := by
  have bt : ∀ {t : List Nat} {n m d : Nat} {e : Int}, tOk t n m → d < n → br t d e = true → e.toNat < m := fun {t n m d e} ht hd hb => by
    unfold br at hb
    rw [Bool.and_eq_true] at hb
    have hx := (ht.get hd).2
    rcases Nat.lt_or_ge e.toNat m with z | z
    · exact z
    · rw [Nat.testBit_lt_two_pow (Nat.lt_of_lt_of_le hx (Nat.pow_le_pow_right (by decide) z))] at hb
      exact absurd hb.2 Bool.false_ne_true
  cases r with
  | begin f d =>
    have h : (if 0 ≤ f ∧ 0 ≤ d then (C[f.toNat]?).bind fun F => if d < F.facts then some (Clm.within f.toNat d.toNat 0 d.toNat 0) else none else none) = some c := h
    split at h
    · rename_i z
      cases q : C[f.toNat]? with
      | none => rw [q] at h; cases h
      | some F =>
        rw [q] at h
        have h : (if d < F.facts then some (Clm.within f.toNat d.toNat 0 d.toNat 0) else none) = some c := h
        split at h
        · cases h; exact ⟨F, q, by omega, (wf.fn _ F q).1, by omega⟩
        · cases h
    · cases h
  | start d =>
    have h : (if 0 ≤ d then (C[0]?).bind fun F => if d < F.facts ∧ st.testBit d.toNat = true then some (Clm.at 0 0 d.toNat 0) else none else none) = some c := h
    split at h
    · cases q : C[0]? with
      | none => rw [q] at h; cases h
      | some F =>
        rw [q] at h
        have h : (if d < F.facts ∧ st.testBit d.toNat = true then some (Clm.at 0 0 d.toNat 0) else none) = some c := h
        split at h
        · rename_i z z2
          cases h; exact ⟨F, q, (wf.fn _ F q).1, by omega⟩
        · cases h
    · cases h
  | mv w k n e =>
    cases w with
    | inn =>
      have h : (match ahead cs k with
        | some (.at f p d c) => (takes C f p d .inn n e).bind fun E => match E.k with | .call g _ _ _ => some (Clm.at g 0 e.toNat (c + E.cost)) | _ => none
        | _ => none) = some c := h
      cases q : ahead cs k with
      | none => rw [q] at h; cases h
      | some x =>
        rw [q] at h
        cases x with
        | within f a p d x => cases h
        | «at» f p d x =>
          obtain ⟨F, hF, o1, o2⟩ := ahead_ok ok q
          dsimp only at h
          cases ht : takes C f p d .inn n e with
          | none => rw [ht] at h; cases h
          | some E =>
            rw [ht] at h
            obtain ⟨F', g, i, b, o, G, hF', hk', hG, t1, t2, t3, _, _, hb, _⟩ := takes_in wf ht
            rw [hF] at hF'; cases hF'
            have h : (match E.k with | .call g _ _ _ => some (Clm.at g 0 e.toNat (x + E.cost)) | _ => none) = some c := h
            rw [hk'] at h
            cases h
            exact ⟨G, hG, (wf.fn g G hG).1, bt t1 o2 hb⟩
    | step =>
      have h : (match ahead cs k with | some (.within f a p d c) => (takes C f p d .step n e).map fun E => Clm.within f a E.q e.toNat (c + E.cost) | _ => none) = some c := h
      cases q : ahead cs k with
      | none => rw [q] at h; cases h
      | some x =>
        rw [q] at h
        cases x with
        | «at» f p d x => cases h
        | within f a p d x =>
          obtain ⟨F, hF, o1, o2, o3⟩ := ahead_ok ok q
          dsimp only at h
          cases ht : takes C f p d .step n e with
          | none => rw [ht] at h; cases h
          | some E =>
            rw [ht] at h
            cases h
            obtain ⟨h1, h2, h3, h4, h5⟩ := takes_inv ht
            obtain ⟨F', _, hF', hE⟩ := edgeAt_inv h1
            rw [hF] at hF'; cases hF'
            obtain ⟨e1, e2, e3, e4, e5⟩ := (wf.fn f F hF).2.2.2.2.2 E (List.mem_of_getElem? hE)
            obtain ⟨ep, eq, ec, ek⟩ := E
            cases ek with
            | step t => exact ⟨F, hF, o1, e2, bt e5 o3 h4⟩
            | call g i b o => cases h2
    | over =>
      have h : (match ahead cs k with | some (.within f a p d c) => (takes C f p d .over n e).map fun E => Clm.within f a E.q e.toNat (c + E.cost) | _ => none) = some c := h
      cases q : ahead cs k with
      | none => rw [q] at h; cases h
      | some x =>
        rw [q] at h
        cases x with
        | «at» f p d x => cases h
        | within f a p d x =>
          obtain ⟨F, hF, o1, o2, o3⟩ := ahead_ok ok q
          dsimp only at h
          cases ht : takes C f p d .over n e with
          | none => rw [ht] at h; cases h
          | some E =>
            rw [ht] at h
            cases h
            obtain ⟨h1, h2, h3, h4, h5⟩ := takes_inv ht
            obtain ⟨F', _, hF', hE⟩ := edgeAt_inv h1
            rw [hF] at hF'; cases hF'
            obtain ⟨e1, e2, e3, e4, e5⟩ := (wf.fn f F hF).2.2.2.2.2 E (List.mem_of_getElem? hE)
            obtain ⟨ep, eq, ec, ek⟩ := E
            cases ek with
            | step t => cases h2
            | call g i b o =>
              obtain ⟨G, hG, t1, t2, t3⟩ := e5
              exact ⟨F, hF, o1, e2, bt t3 o3 h4⟩
  | short k n j e =>
    have h : (match ahead cs k, ahead cs j with
      | some (.within f a p d c), some (.within g b x y c') => (takes C f p d .inn n b).bind fun E => match E.k with
        | .call g' _ bk _ => (C[g']?).bind fun G => if g' = g ∧ x + 1 = G.places ∧ br bk y e = true then some (Clm.within f a E.q e.toNat (c + E.cost + c')) else none
        | _ => none
      | _, _ => none) = some c := h
    cases q : ahead cs k with
    | none => rw [q] at h; cases h
    | some x1 =>
      cases q2 : ahead cs j with
      | none => rw [q, q2] at h; cases x1 <;> cases h
      | some x2 =>
        rw [q, q2] at h
        cases x1 with
        | «at» f p d x => cases h
        | within f a p d x =>
          cases x2 with
          | «at» f p d x => cases h
          | within g b px y x' =>
            obtain ⟨F, hF, o1, o2, o3⟩ := ahead_ok ok q
            obtain ⟨G, hG, p1, p2, p3⟩ := ahead_ok ok q2
            dsimp only at h
            cases ht : takes C f p d .inn n b with
            | none => rw [ht] at h; cases h
            | some E =>
              rw [ht] at h
              obtain ⟨F', g', i, bk, o, G', hF', hk', hG', t1, t2, t3, eq, _, hb, _⟩ := takes_in wf ht
              rw [hF] at hF'; cases hF'
              have h : (match E.k with
                | .call g' _ bk _ => (C[g']?).bind fun G => if g' = g ∧ px + 1 = G.places ∧ br bk y e = true then some (Clm.within f a E.q e.toNat (x + E.cost + x')) else none
                | _ => none) = some c := h
              rw [hk'] at h
              have h : ((C[g']?).bind fun G => if g' = g ∧ px + 1 = G.places ∧ br bk y e = true then some (Clm.within f a E.q e.toNat (x + E.cost + x')) else none) = some c := h
              rw [hG'] at h
              have h : (if g' = g ∧ px + 1 = G'.places ∧ br bk y e = true then some (Clm.within f a E.q e.toNat (x + E.cost + x')) else none) = some c := h
              by_cases z : g' = g ∧ px + 1 = G'.places ∧ br bk y e = true
              · rw [if_pos z] at h
                have h9 := Option.some.inj h
                obtain ⟨z1, z2, z3⟩ := z
                subst z1
                rw [hG] at hG'; cases hG'
                rw [← h9]
                exact ⟨F, hF, o1, eq, bt t2 p3 z3⟩
              · rw [if_neg z] at h; cases h
  | along k j =>
    have h : (match ahead cs k, ahead cs j with | some (.at f p a c), some (.within g b q d c') => if p = 0 ∧ g = f ∧ b = a then some (Clm.at f q d (c + c')) else none | _, _ => none) = some c := h
    cases q : ahead cs k with
    | none => rw [q] at h; cases h
    | some x1 =>
      cases q2 : ahead cs j with
      | none => rw [q, q2] at h; cases x1 <;> cases h
      | some x2 =>
        rw [q, q2] at h
        cases x1 with
        | within f a p d x => cases h
        | «at» f p d x =>
          cases x2 with
          | «at» f p d x => cases h
          | within g b px y x' =>
            obtain ⟨G, hG, p1, p2, p3⟩ := ahead_ok ok q2
            have h : (if p = 0 ∧ g = f ∧ b = d then some (Clm.at f px y (x + x')) else none) = some c := h
            split at h
            · rename_i z
              obtain ⟨z1, z2, z3⟩ := z
              subst z2
              cases h
              exact ⟨G, hG, p2, p3⟩
            · cases h
end CM
namespace CM
open PySem L2 DL
noncomputable def Pd (h : Hh) (d : D) (p : PyData) (n : Nat) : Prop := IsP h d p ∧ p.canLay0 = true ∧ p.depth ≤ n
noncomputable def Pds (h : Hh) (ds : List D) (ps : List PyData) (n : Nat) : Prop := IsPs h ds ps ∧ PyData.canLayAll0 ps = true ∧ PyData.depthAll ps ≤ n
theorem Pd.int {h : Hh} {n : Nat} (i : Int) : Pd h (.int i) (.int i) n := ⟨.int i, rfl, Nat.zero_le _⟩
theorem Pd.str {h : Hh} {n : Nat} {x : Str} (e : PyData.strOk x = true) : Pd h (.str x) (.str x) n := ⟨.str x, e, Nat.zero_le _⟩
theorem Pds.nil {h : Hh} {n : Nat} : Pds h [] [] n := ⟨.nil, rfl, Nat.zero_le _⟩
theorem Pds.cons {h : Hh} {n : Nat} {d : D} {p : PyData} {ds : List D} {ps : List PyData} (a : Pd h d p n) (b : Pds h ds ps n) : Pds h (d :: ds) (p :: ps) n :=
  ⟨.cons a.1 b.1, by show (p.canLay0 && PyData.canLayAll0 ps) = true; rw [a.2.1, b.2.1]; rfl, by show max p.depth (PyData.depthAll ps) ≤ n; exact Nat.max_le.mpr ⟨a.2.2, b.2.2⟩⟩
theorem Pd.tup {h : Hh} {n : Nat} {ds : List D} {ps : List PyData} (a : Pds h ds ps n) : Pd h (.tup ds) (.tuple ps) (n + 1) := ⟨.tup a.1, a.2.1, Nat.succ_le_succ a.2.2⟩
theorem Pd.lst {h : Hh} {n : Nat} {ds : List D} {ps : List PyData} (a : Pds h ds ps n) : Pd h (.lst ds) (.list ps) (n + 1) := ⟨.lst a.1, a.2.1, Nat.succ_le_succ a.2.2⟩
theorem Pd.ref {h : Hh} {n i : Nat} {ds : List D} {ps : List PyData} (e : h[i]? = some (.lst ds)) (a : Pds h ds ps n) : Pd h (.ref i) (.list ps) (n + 1) := ⟨.ref e a.1, a.2.1, Nat.succ_le_succ a.2.2⟩
theorem Pds.map {τ : Type} {h : Hh} {n : Nat} {f : τ → D} {g : τ → PyData} : ∀ {xs : List τ}, (∀ x, Pd h (f x) (g x) n) → Pds h (xs.map f) (xs.map g) n
  | [], _ => .nil
  | x :: xs, k => .cons (k x) (Pds.map k)
theorem Pd.shaped {h : Hh} {n : Nat} {d : D} {p : PyData} (a : Pd h d p n) (e : n ≤ 64) : SeqAt.shaped p = true := by
  unfold SeqAt.shaped
  rw [a.2.1, decide_eq_true (Nat.le_trans a.2.2 e)]; rfl
theorem pEq_same {neg : Bool} {x y : D} {h : Hh} {Q : DK} {p : PyData} {n : Nat} (e : eqS x y = none) (a : Pd h x p n) (b : Pd h y p n) (hn : n ≤ 64) (q : Q (.bl (!neg)) h) : pEq neg x y h Q := by
  unfold pEq
  rw [e]
  refine ⟨p, p, a.1, b.1, a.shaped hn, b.shaped hn, ?_⟩
  rw [SeqAt.eqv_refl p a.2.1]
  cases neg <;> exact q
noncomputable def clP : Clm → PyData
  | .within f a p d c => .tuple [.str "within", .int f, .int a, .int p, .int d, .int c]
  | .at f p d c => .tuple [.str "at", .int f, .int p, .int d, .int c]
theorem pd_cl (h : Hh) (c : Clm) : Pd h (clD c) (clP c) 1 := by
  cases c with
  | within => exact .tup (.cons (.str sk_within) (.cons (.int _) (.cons (.int _) (.cons (.int _) (.cons (.int _) (.cons (.int _) .nil))))))
  | «at» => exact .tup (.cons (.str sk_at) (.cons (.int _) (.cons (.int _) (.cons (.int _) (.cons (.int _) .nil)))))
end CM
namespace DL
open PySem PySem.Spec L2
noncomputable def dCalF (g : DSp) (is : List Int) (f : DA) : DE := fun δ h Q => f δ h fun ds h1 => g (ds ++ is.map D.int) h1 Q
theorem RelDs.intsF {K : KP} {α : List Addr} {H : Hp} : ∀ is : List Int, RelDs K α H (is.map D.int) (is.map V.int)
  | [] => .nil
  | i :: r => .cons (.int i) (RelDs.intsF r)
section
variable {X : Cx} {k m n : Nat} {ps : List Str} {g : DSp} {x kw : Str} {p pos kpos : Pos} {e e2 : Expr} {es : List Expr} {f : DA} {fe : DE} {is : List Int}
end
end DL
namespace CM
open PySem L2 DL
inductive Mo where
  | go (w : Mv) (k e : Nat) | out (e : Nat)
structure Spot where
  f : Nat
  p : Nat
  d : Nat
  cost : Nat
  op : List (Nat × Nat)
noncomputable def stOk (C : Chart) : Nat → List (Nat × Nat) → Prop
  | _, [] => True
  | f, x :: r => ∃ G E i b o, C[x.1]? = some G ∧ G.edges[x.2]? = some E ∧ E.k = .call f i b o ∧ stOk C x.1 r
noncomputable def sOk (C : Chart) (s : Spot) : Prop := ∃ F, C[s.f]? = some F ∧ s.p < F.places ∧ s.d < F.facts ∧ stOk C s.f s.op
inductive Nx (C : Chart) : Spot → Mo → Spot → Prop
  | go {s : Spot} {w : Mv} {k e : Nat} {E : Edge} : w ≠ .inn → takes C s.f s.p s.d w (k : Int) (e : Int) = some E → Nx C s (.go w k e) ⟨s.f, E.q, e, s.cost + E.cost, s.op⟩
  | inn {s : Spot} {k e : Nat} {E : Edge} {g : Nat} {i b o : List Nat} : takes C s.f s.p s.d .inn (k : Int) (e : Int) = some E → E.k = .call g i b o → Nx C s (.go .inn k e) ⟨g, 0, e, s.cost + E.cost, (s.f, k) :: s.op⟩
  | out {s : Spot} {x : Nat × Nat} {r : List (Nat × Nat)} {e : Nat} {F G : Fn} {E : Edge} {g : Nat} {i b o : List Nat} : s.op = x :: r → C[s.f]? = some F → s.p + 1 = F.places → C[x.1]? = some G → G.edges[x.2]? = some E → E.k = .call g i b o → br b s.d (e : Int) = true → Nx C s (.out e) ⟨x.1, E.q, e, s.cost, r⟩
structure Way (C : Chart) (fact : Nat) (ms : List Mo) (ss : List Spot) : Prop where
  len : ss.length = ms.length + 1
  one : ss[0]? = some ⟨0, 0, fact, 0, []⟩
  ok : ∀ s ∈ ss, sOk C s
  nx : ∀ (i : Nat) (m : Mo) (s s' : Spot), ms[i]? = some m → ss[i]? = some s → ss[i + 1]? = some s' → Nx C s m s'
theorem Way.nil {C : Chart} {fact : Nat} {F : Fn} (wf : WF C) (hF : C[0]? = some F) (hd : fact < F.facts) : Way C fact [] [⟨0, 0, fact, 0, []⟩] :=
  ⟨rfl, rfl, fun s hs => by rw [List.mem_singleton.mp hs]; exact ⟨F, hF, (wf.fn 0 F hF).1, hd, trivial⟩, fun i m s s' h => by simp at h⟩
theorem Nx.len {C : Chart} {s s' : Spot} {m : Mo} (n : Nx C s m s') : s'.op.length ≤ s.op.length + 1 := by
  cases n with
  | go => exact Nat.le_succ _
  | inn => exact Nat.le_refl _
  | out h => rw [h]; show _ ≤ (_ :: _).length + 1; simp; omega
theorem atLast {α : Type} (xs : List α) (x : α) : atI (xs ++ [x]) (-1) = some x := by
  unfold atI ixN
  rw [if_neg (by decide), if_pos (by simp; omega)]
  show (xs ++ [x])[(-1 + ((xs ++ [x]).length : Int)).toNat]? = some x
  rw [show (-1 + ((xs ++ [x]).length : Int)).toNat = xs.length by simp; omega]
  simp
end CM
namespace CM
open PySem L2 DL
noncomputable def rwD (y : Fn × D) : D := .tup [nD y.1.places, nD y.1.facts, y.2]
theorem rows_of {h : Hh} : ∀ {C : Chart} {fs : List D}, fs.length = C.length → (∀ (i : Nat) (F : Fn), C[i]? = some F → ∃ e, fs[i]? = some (.tup [nD F.places, nD F.facts, e]) ∧ lsOf h e = some (F.edges.map eD)) → ∃ ys : List (Fn × D), fs = ys.map rwD ∧ ys.map (·.1) = C ∧ ∀ y ∈ ys, lsOf h y.2 = some (y.1.edges.map eD)
  | [], [], _, _ => ⟨[], rfl, rfl, fun _ h => nomatch h⟩
  | F :: C, d :: fs, hl, k => by
    obtain ⟨e, h1, h2⟩ := k 0 F rfl
    cases h1
    obtain ⟨ys, h3, h4, h5⟩ := rows_of (C := C) (fs := fs) (by simpa using hl) fun i G hG => by
      have := k (i + 1) G (by simpa using hG)
      simpa using this
    refine ⟨(F, e) :: ys, by rw [h3]; rfl, by rw [← h4]; rfl, fun y hy => ?_⟩
    rcases List.mem_cons.mp hy with z | z
    · rw [z]; exact h2
    · exact h5 y z
theorem ChD.rows {h : Hh} {d : D} {C : Chart} (c : ChD h d C) : ∃ ys : List (Fn × D), lsOf h d = some (ys.map rwD) ∧ ys.map (·.1) = C ∧ ∀ y ∈ ys, lsOf h y.2 = some (y.1.edges.map eD) := by
  obtain ⟨fs, h1, h2, h3⟩ := c
  obtain ⟨ys, h4, h5, h6⟩ := rows_of h2 h3
  exact ⟨ys, by rw [h1, h4], h5, h6⟩
end CM
namespace CM
open PySem L2 DL
inductive GM where
  | go (w : Mv) (n e : Int) | out (e : Int)
noncomputable def gmD : GM → D
  | .go w n e => .tup [.str w.w, .int n, .int e]
  | .out e => .tup [.str "out", .int e]
noncomputable def gmP : GM → PyData
  | .go w n e => .tuple [.str w.w, .int n, .int e]
  | .out e => .tuple [.str "out", .int e]
theorem pd_gm (h : Hh) (g : GM) : Pd h (gmD g) (gmP g) 1 := by
  cases g with
  | go w => exact .tup (.cons (.str (by cases w with | step => exact sk_step | over => exact sk_over | inn => exact sk_in)) (.cons (.int _) (.cons (.int _) .nil)))
  | out => exact .tup (.cons (.str sk_out) (.cons (.int _) .nil))
section
variable {C : Chart} {s s' : Spot} {w : Mv} {n e : Int} {F G : Fn} {E E' : Edge} {x : Nat × Nat} {r : List (Nat × Nat)}
end
section
variable {C : Chart} {s : Spot} {F : Fn} {E : Edge} {n : Nat} {l : List (Mo × Spot)}
section
variable {x : Nat × Nat} {r : List (Nat × Nat)} {G : Fn} {ep eq ec g : Nat} {i b o : List Nat}
end
end
end CM
namespace L2
open PySem PySem.Spec PyProof.Rows
structure Exc (h : Heap) (a : Addr) (cls : Value) (dx : Option Addr) (T : Option Addr) (fl : Value) : Prop where
  ob : ∃ o vs, h.get? a = some o ∧ o.cls = cls ∧ o.dict = dx ∧ o.data = .fields vs ∧ vs[1]? = some (T.elim .none .ref)
  tb : ∀ t, T = some t → t ≠ a ∧ ∃ o ts, h.get? t = some o ∧ o.data = .fields ts ∧ ts[3]? = some fl
structure Chg (fs : List Addr) (a : Addr) (T : Option Addr) (h h' : Heap) : Prop where
  keep : ∀ b o, h.get? b = some o → b ∉ fs → b ≠ a → T ≠ some b → h'.get? b = some o
  slot : ∀ b o, h.get? b = some o → b ≠ a → T ≠ some b → ∃ sl, h'.get? b = some { o with slots := sl }
  there : ∀ b o, h.get? b = some o → ∃ o', h'.get? b = some o'
section
variable {M : Model} {A : Around} {E : Value → Shared → Prop} {s : Shared} {env : Env} {outer : List Env} {L a : Addr} {cls : Value} {dx T : Option Addr} {fl : Value} {base : Heap}
theorem note_entry {head : Value} {hadNext : Bool} {oe : Obj} {vs : Array Value} {Q : Unit → Shared → Prop} (hfr : A.frames = some (env :: outer)) (hl : s.heap.FunFrames base (env :: outer)) (hf : env.frame = some L)
    (he : s.heap.get? a = some oe) (hd : oe.data = .fields vs) (hsz : 1 < vs.size)
    (h : ∀ h' t, Chg (frs (env :: outer)) a none s.heap h' → s.heap.objs.size ≤ t → Exc h' a oe.cls oe.dict (some t) (rawInt L) → Q () { s with heap := h' }) :
    wpAny M A (do let a' ← frameOf env; let pl ← entryPlaceOf L hadNext; let b ← EntryCells.newEntry head a' .none (rawInt L) .none pl; setField (.ref a) 1 b) Q E s := by
  have hene : a ∉ (env :: outer).filterMap (·.frame) := fun hm => by
    obtain ⟨_, o, ho, hnf⟩ := hl.mem hm
    rw [he] at ho; injection ho with ho; subst ho; exact hnf vs hd
  refine wpAny_bind (wpAny_frameOf_fun hfr hl hf fun h₁ hs₁ => ?_)
  refine wpAny_bind (wpAny_entryPlaceOf fun pl hpl => ?_)
  unfold EntryCells.newEntry newFields
  refine wpAny_bind (wpAny_newObj_type ?_ (hpl.sizeOk5 _ _ _ _ _))
  have he₁ : h₁.get? a = some oe := (hs₁.2.1 a hene).trans he
  have he₂ := Heap.get?_push_of_some (h := h₁) { cls := .type "traceback", dict := none, data := .fields ([head, .ref L, .none, rawInt L, .none] ++ (if pl.isEmpty then List.replicate 6 Value.none else pl)).toArray } he₁
  refine wpAny_setField he₂ hd hsz (h _ h₁.objs.size ⟨?_, ?_, ?_⟩ (by rw [hs₁.1]; exact Nat.le_refl _) ?_)
  · intro b o hb hnf hba _
    rw [Heap.get?_update_other _ _ (Ne.symm hba)]
    exact Heap.get?_push_of_some _ ((hs₁.2.1 b hnf).trans hb)
  · intro b o hb hba _
    obtain ⟨sl, hs⟩ := hs₁.2.2 b o hb
    exact ⟨sl, by rw [Heap.get?_update_other _ _ (Ne.symm hba)]; exact Heap.get?_push_of_some _ hs⟩
  · intro b o hb
    obtain ⟨sl, hs⟩ := hs₁.2.2 b o hb
    by_cases hba : b = a
    · subst hba
      exact ⟨_, Heap.get?_update_self _ he₂ (Obj.isFreed_of_fields (Obj.data_mapFields hd _))⟩
    · exact ⟨_, by rw [Heap.get?_update_other _ _ (Ne.symm hba)]; exact Heap.get?_push_of_some _ hs⟩
  · have hTe : h₁.objs.size ≠ a := Nat.ne_of_gt (Heap.lt_size he₁)
    have hd₃ := Obj.data_mapFields hd (·.setIfInBounds 1 (Value.ref h₁.objs.size))
    refine ⟨⟨_, _, Heap.get?_update_self _ he₂ (Obj.isFreed_of_fields hd₃), Obj.cls_mapFields _ _, ?_, hd₃, by simp [hsz]⟩, fun t ht => ?_⟩
    · obtain ⟨c, d, dt, sl⟩ := oe
      cases hd; rfl
    · cases ht
      refine ⟨hTe, _, _, (Heap.get?_update_other _ _ (Ne.symm hTe)).trans (Heap.get?_push_size h₁ rfl), rfl, ?_⟩
      first | (simp; done) | (rcases hpl with rfl | ⟨_, _, _, _, _, _, _, rfl⟩ <;> simp)
theorem note_ok {Q : Unit → Shared → Prop} (hfr : A.frames = some (env :: outer)) (hl : s.heap.FunFrames base (env :: outer)) (hf : env.frame = some L) (x : Exc s.heap a cls dx T fl) (hfl : fl = .none ∨ fl = rawInt L)
    (h : ∀ h' t, Chg (frs (env :: outer)) a T s.heap h' → (T = some t ∨ s.heap.objs.size ≤ t) → Exc h' a cls dx (some t) (rawInt L) → Q () { s with heap := h' }) : wpAny M A (noteFrame (.ref a) env) Q E s := by
  obtain ⟨⟨oe, vs, he, rfl, rfl, hd, h1⟩, tb⟩ := id x
  unfold noteFrame
  simp only [hf]
  refine wpAny_bind (wpAny_field he hd h1 ?_)
  cases T with
  | none =>
    rw [if_neg (by simp)]
    exact note_entry hfr hl hf he hd (Array.getElem?_eq_some_iff.mp h1).1 fun h' t c n e => h h' t c (.inr n) e
  | some t =>
    obtain ⟨hte, oT, ts, hT, hdT, h3⟩ := tb t rfl
    show wpAny M A (if (Value.ref t != Value.none) = true then _ else _) Q E s
    rw [if_pos (show (Value.ref t != Value.none) = true from by simp)]
    refine wpAny_bind (wpAny_field hT hdT h3 ?_)
    rcases hfl with rfl | rfl
    · rw [if_neg (show ¬ ((Value.none == rawInt L) = true) from by simp [rawInt])]
      refine wpAny_bind (wpAny_setField hT hdT (Array.getElem?_eq_some_iff.mp h3).1 ?_)
      have other : ∀ b, b ≠ t → (s.heap.update t (Obj.mapFields (·.setIfInBounds 3 Value.none))).get? b = s.heap.get? b := fun b hb => Heap.get?_update_other _ _ (Ne.symm hb)
      have noRecord : ∀ b o, s.heap.get? b = some o → (∀ vs, o.data ≠ .fields vs) → b ≠ t := fun b o hb hnf q => by
        rw [q, hT] at hb; injection hb with hb; subst hb; exact hnf ts hdT
      have ht' := Heap.get?_update_self (Obj.mapFields (·.setIfInBounds 3 Value.none)) hT (Obj.isFreed_of_fields (Obj.data_mapFields hdT _))
      refine note_entry (hfr := hfr) (hl := hl.of_keeps fun b o hb hnf => ⟨o, (other b (noRecord b o hb hnf)).trans hb, rfl⟩) (hf := hf) (he := (other a (Ne.symm hte)).trans he) (hd := hd) (hsz := (Array.getElem?_eq_some_iff.mp h1).1)
        fun h' t' c n e => h h' t' ⟨fun b o hb hnf hba hbt => ?_, fun b o hb hba hbt => ?_, fun b o hb => ?_⟩ (.inr ?_) e
      · exact c.keep b o ((other b fun q => hbt (by rw [q])).trans hb) hnf hba (by simp)
      · exact c.slot b o ((other b fun q => hbt (by rw [q])).trans hb) hba (by simp)
      · by_cases q : b = t
        · subst q; exact c.there _ _ ht'
        · exact c.there b o ((other b q).trans hb)
      · have n : (s.heap.update t (Obj.mapFields (·.setIfInBounds 3 Value.none))).objs.size ≤ t' := n
        rw [Heap.size_after_update] at n; exact n
    · rw [if_pos (show (rawInt L == rawInt L) = true from by simp)]
      exact wpAny_pure (h _ t ⟨fun b o hb _ _ _ => hb, fun b o hb _ _ => ⟨o.slots, hb⟩, fun b o hb => ⟨o, hb⟩⟩ (.inl rfl) x)
theorem flight_ok {t : Addr} {fr : Option Addr} {Q : Unit → Shared → Prop} (x : Exc s.heap a cls dx (some t) fl)
    (h : ∀ h', (∀ b o, h' = h' → s.heap.get? b = some o → b ≠ t → h'.get? b = some o) → (∀ b o, s.heap.get? b = some o → ∃ o', h'.get? b = some o') → Exc h' a cls dx (some t) (fr.elim .none fun f => rawInt f) → Q () { s with heap := h' }) :
    wpAny M A (setFlight (.ref a) fr) Q E s := by
  obtain ⟨⟨oe, vs, he, rfl, rfl, hd, h1⟩, tb⟩ := x
  obtain ⟨hte, oT, ts, hT, hdT, h3⟩ := tb t rfl
  have hsz := (Array.getElem?_eq_some_iff.mp h3).1
  unfold setFlight
  refine wpAny_bind (wpAny_field he hd h1 ?_)
  show wpAny M A (if (Value.ref t != Value.none) = true then _ else _) Q E s
  rw [if_pos (show (Value.ref t != Value.none) = true from by simp)]
  have ht' := Heap.get?_update_self (Obj.mapFields (·.setIfInBounds 3 (fr.elim .none fun f => rawInt f))) hT (Obj.isFreed_of_fields (Obj.data_mapFields hdT _))
  have other : ∀ b, b ≠ t → (s.heap.update t (Obj.mapFields (·.setIfInBounds 3 (fr.elim .none fun f => rawInt f)))).get? b = s.heap.get? b := fun b hb => Heap.get?_update_other _ _ (Ne.symm hb)
  refine wpAny_setField hT hdT hsz (h _ (fun b o _ hb hbt => (other b hbt).trans hb) (fun b o hb => ?_) ⟨⟨oe, vs, (other a (Ne.symm hte)).trans he, rfl, rfl, hd, h1⟩, fun t' ht => ?_⟩)
  · by_cases q : b = t
    · subst q; exact ⟨_, ht'⟩
    · exact ⟨o, (other b q).trans hb⟩
  · cases ht
    exact ⟨hte, _, _, ht', Obj.data_mapFields hdT _, by simp [hsz]⟩
end
end L2
namespace L2
open PySem PySem.Spec PyProof.Rows
noncomputable def Away (X : Cx) (pins : List (Addr × Obj)) (b : Addr) : Prop :=
  X.s₀.heap.objs.size ≤ b ∧ b ≠ X.env.locals ∧ (∀ x c, X.env.cells.lookup x = some c → c ≠ b) ∧ ∀ p ∈ X.pn ++ pins, p.1 ≠ b
section
variable {X : Cx} {pins : List (Addr × Obj)} {σ : St} {H H' : Hp} {s s' : Shared} {h' : Heap} {a : Addr} {cls : Value} {dx T : Option Addr} {fl : Value}
theorem Inv.away (I : Inv X pins σ H s) {b : Addr} (hb : s.heap.objs.size ≤ b) : Away X pins b := by
  refine ⟨Nat.le_trans I.sz hb, fun z => ?_, fun x c e z => ?_, fun p hp z => ?_⟩
  · obtain ⟨m, ⟨o, es, ep, ho, r⟩, _⟩ := I.loc
    have := Heap.lt_size ho
    rw [← z] at this; exact absurd (Nat.lt_of_lt_of_le this hb) (Nat.lt_irrefl _)
  · obtain ⟨v, o, ho, _⟩ := I.cell x c e
    have := Heap.lt_size ho
    rw [z] at this; exact absurd (Nat.lt_of_lt_of_le this hb) (Nat.lt_irrefl _)
  · obtain ⟨e, _⟩ := I.pin p hp
    have := Heap.lt_size e
    rw [z] at this; exact absurd (Nat.lt_of_lt_of_le this hb) (Nat.lt_irrefl _)
theorem Inv.unpin (I : Inv X pins σ H s) : Inv X [] σ H s := I.pins_of fun p hp => nomatch hp
theorem Away.unpin {b : Addr} (w : Away X pins b) : Away X [] b := ⟨w.1, w.2.1, w.2.2.1, fun p hp => w.2.2.2 p (by simp at hp; exact List.mem_append_left _ hp)⟩
theorem Inv.chg (I : Inv X pins σ H s) (c : Chg (frs X.stack) a T s.heap h') (ha : H a = none) (hT : ∀ t, T = some t → H t = none) (wa : Away X pins a) (wT : ∀ t, T = some t → Away X pins t) :
    Inv X pins σ H { s with heap := h' } := by
  have nt : ∀ b u, H b = some u → b ∉ frs X.stack ∧ b ≠ a ∧ T ≠ some b := fun b u e => ⟨fun z => (by rw [I.stkFree b z] at e; cases e), fun z => (by rw [z, ha] at e; cases e), fun z => (by rw [hT b z] at e; cases e)⟩
  have hm : ∀ b, b ∉ (a :: T.toList) → b ≠ a ∧ T ≠ some b := fun b hb => ⟨fun z => hb (by simp [z]), fun z => hb (by simp [z])⟩
  refine I.call' (s' := { s with heap := h' }) (ch := a :: T.toList) rfl ⟨fun b o e n hf hc => c.keep b o e hf (hm b hc).1 (hm b hc).2, fun b o e n hf hc => c.slot b o e (hm b hc).1 (hm b hc).2, fun b o e n hc => n, fun b o e hc => c.there b o e, fun _ _ e => e, fun _ _ _ e => e, fun b ps e => ⟨#[], by rw [e]; simp⟩⟩ (fun b u e => ?_) I.bare fun b hb => ?_
  · refine (I.hok b u e).stay (fun c' v hc q => ?_) (fun _ q => q) fun _ _ q => q
    have : ∃ u', H c' = some u' := by
      rcases hc with z | z
      · rw [z]; exact ⟨u, e⟩
      · exact ⟨_, z⟩
    obtain ⟨u', e'⟩ := this
    obtain ⟨n1, n2, n3⟩ := nt c' u' e'
    exact c.keep c' v q n1 n2 n3
  · have w : Away X pins b := by
      rcases List.mem_cons.mp hb with z | z
      · rw [z]; exact wa
      · exact wT b (by simpa using z)
    exact ⟨.inr w.1, w.2⟩
noncomputable def XF (X : Cx) (E : XK) (e : Value) (s' : Shared) : Prop := ∃ a cls dx T fl σ H, e = .ref a ∧ Inv X [] σ H s' ∧ Exc s'.heap a cls dx T fl ∧ Away X [] a ∧ H a = none ∧ (∀ t, T = some t → Away X [] t ∧ H t = none) ∧
  (fl = .none ∨ fl = rawInt X.env.locals) ∧ E cls dx H
noncomputable def CXE (P : Program) (w : World) : CXT := fun outer H s E e s' => ∃ a cls dx t H', e = .ref a ∧ s'.os = s.os ∧ AllBare s'.gens ∧ Un (frs outer) [] H H' s.heap s'.heap ∧ HOk P w H' s'.heap ∧
  Exc s'.heap a cls dx (some t) .none ∧ s.heap.objs.size ≤ a ∧ H' a = none ∧ s.heap.objs.size ≤ t ∧ H' t = none ∧ E cls dx H'
theorem flight_chg {h h' : Heap} {fs : List Addr} {t : Addr} (k : ∀ b o, h.get? b = some o → b ≠ t → h'.get? b = some o) (th : ∀ b o, h.get? b = some o → ∃ o', h'.get? b = some o') : Chg fs a (some t) h h' :=
  ⟨fun b o e _ _ n => k b o e fun z => n (by rw [z]), fun b o e _ n => ⟨o.slots, k b o e fun z => n (by rw [z])⟩, th⟩
theorem XF.noted {E : XK} {e : Value} {M : Model} {E2 : Value → Shared → Prop} {fr : Option Addr} {Q : Unit → Shared → Prop} (hst : X.stack = X.env :: X.outer ∧ X.env.frame = some X.env.locals) (x : XF X E e s)
    (k : ∀ h' a cls dx t σ H, e = .ref a → Inv X [] σ H { s with heap := h' } → Exc h' a cls dx (some t) (fr.elim .none fun f => rawInt f) → Away X [] a → H a = none → Away X [] t → H t = none → E cls dx H → Q () { s with heap := h' }) :
    wpAny M X.A (noteFrame e X.env) (fun _ s1 => wpAny M X.A (setFlight e fr) Q E2 s1) E2 s := by
  obtain ⟨a, cls, dx, T, fl, σ, H, rfl, I, ex, wa, ha, wT, hfl, q⟩ := x
  refine note_ok (base := X.base) (outer := X.outer) (by rw [I.ok.frames, hst.1]) (by have := I.stack; rw [hst.1] at this; exact this) hst.2 ex hfl fun h1 t c ht e1 => ?_
  rw [← hst.1] at c
  have I1 := I.chg c ha (fun t h => (wT t h).2) wa (fun t h => (wT t h).1)
  have wt : Away X [] t ∧ H t = none := by
    rcases ht with z | z
    · exact wT t z
    · exact ⟨I.away z, I.hok.fresh z⟩
  refine flight_ok (s := { s with heap := h1 }) e1 fun h2 k1 k2 e2 => ?_
  have c2 : Chg (frs X.stack) a (some t) h1 h2 := flight_chg (fun b o e n => k1 b o rfl e n) k2
  have I2 := I1.chg (a := a) (T := some t) c2 ha (fun t' h => by cases h; exact wt.2) wa (fun t' h => by cases h; exact wt.1)
  exact k h2 a cls dx t σ H rfl I2 e2 wa ha wt.1 wt.2 q
theorem XF.leave {E : XK} {e : Value} {M : Model} {E2 : Value → Shared → Prop} (hst : X.stack = X.env :: X.outer ∧ X.env.frame = some X.env.locals) (hex : X.ex = []) (x : XF X E e s) :
    wpAny M X.A (leaving X.env e) (fun _ s' => CXE X.prog X.w X.outer X.H₀ X.s₀ E e s') E2 s := by
  unfold leaving
  refine wpAny_bind (XF.noted (fr := none) hst x fun h' a cls dx t σ H he I ex wa ha wt ht q => ?_)
  exact ⟨a, cls, dx, t, H, he, I.os, I.bare, by have := I.base; rw [hex] at this; exact this, I.hok, ex, wa.1, ha, wt.1, ht, q⟩
noncomputable abbrev Cx.wishX (X : Cx) (E : XK) : Cx := { X with xe := XF X E, ex9 := E }
theorem Cx.Ok.wishX {X : Cx} (ok : X.Ok) (E : XK) : (X.wishX E).Ok :=
  ⟨ok.mod, ok.kind, ok.glob, ok.blt, ok.above, ok.inj, ok.has, ok.cab, ok.hd, ok.frames, ok.stk, ok.exf, ok.bs, ok.bsz, ok.noex, ok.exfs, ok.funs, ok.frf⟩
theorem Cx.Ok.unwishX {X : Cx} {E : XK} (ok : (X.wishX E).Ok) : X.Ok :=
  ⟨ok.mod, ok.kind, ok.glob, ok.blt, ok.above, ok.inj, ok.has, ok.cab, ok.hd, ok.frames, ok.stk, ok.exf, ok.bs, ok.bsz, ok.noex, ok.exfs, ok.funs, ok.frf⟩
theorem Inv.wishX (I : Inv X pins σ H s) (E : XK) : Inv (X.wishX E) pins σ H s := ⟨I.ok.wishX E, I.os, I.bare, I.base, I.loc, I.cell, I.free, I.freeC, I.pin, I.hok, I.len⟩
theorem Inv.unwishX {E : XK} (I : Inv (X.wishX E) pins σ H s) : Inv X pins σ H s := ⟨I.ok.unwishX, I.os, I.bare, I.base, I.loc, I.cell, I.free, I.freeC, I.pin, I.hok, I.len⟩
theorem SP.unwishX {E : XK} {D : Ends} {f : Flow} {s' : Shared} (h : SP (X.wishX E) pins D f s') : SP X pins D f s' := by
  cases f with
  | next => obtain ⟨σ', H', I, q⟩ := h; exact ⟨σ', H', I.unwishX, q⟩
  | brk => obtain ⟨σ', H', I, q⟩ := h; exact ⟨σ', H', I.unwishX, q⟩
  | cont => obtain ⟨σ', H', I, q⟩ := h; exact ⟨σ', H', I.unwishX, q⟩
  | ret u => obtain ⟨v, σ', H', I, r, q⟩ := h; exact ⟨v, σ', H', I.unwishX, r, q⟩
theorem PSs.wishX {st : List Stmt} {t : TS} {E : XK} (h : PSs (X.wishX E) st t) (k : ∀ e s, XF X E e s → X.xe e s) : PSs X st t := fun pins s σ H D I hw =>
  wpAny_mono (h pins s σ H D (I.wishX _) hw) (fun _ _ q => q.unwishX) k
theorem pass0X {X : Cx} : Passes (CXE X.prog X.w) X E0 := fun _ _ _ _ _ _ _ ⟨_, _, _, _, _, _, _, _, _, _, _, _, _, _, _, q⟩ => q.elim
end
section
variable {P : Program} {w : World} {K : PySem.W.Frag} {mg : Str → Option Value} {base : Heap}
theorem Fun.okX {x qual : Str} {st : Stmt} {f : Addr} {fd : FuncData} {N ps : List Str} {k : Nat} {sp : Sp} (F : Fun K x qual st f fd) (S : FnScope N ps (defScope st)) (len : ∀ vs H Q E, sp vs H Q E → vs.length = ps.length)
    (hbody : ∀ (cdv : Value) (A : Around) (outer : List Env) (s : Shared) (H : Hp) (vs : List V) (Q : VK) (E : XK), Room k (A.deeper (envOfC qual (defScope st) s.heap.objs.size f cdv)) → sp vs H Q E →
      ∃ t, PSs ((cxOf (CXE P w) P w K mg base N qual (defScope st) f cdv A outer s H E).wishX E) (defBody st) t ∧ t { nx := fun _ H' => Q .non H', rt := Q } (start N vs) H) :
    FnOk P w K mg base (CXE P w) (k + 1) f fd ps sp := by
  obtain ⟨oc, od, dV, kV, doc, pm, an, cdv, ct, osl, rfl, lk, hcd⟩ := F.ex
  refine fn_of lk hcd S len fun A outer s H vs Q E hr hsp => ?_
  obtain ⟨t, h, q⟩ := hbody cdv A outer s H vs Q E hr hsp
  exact ⟨t, h.wishX fun e s' x => XF.leave (X := cxOf (CXE P w) P w K mg base N qual (defScope st) f cdv A outer s H E) ⟨rfl, rfl⟩ rfl x, q⟩
end
end L2
namespace L2
open PySem PySem.Spec PyProof.Rows
open Sem (wp)
section
variable {M : Model} {A : Around} {E : Value → Shared → Prop} {env : Env}
variable {nm q : Str} {C N : Addr} {bs bm : List Value} {hdct : Bool} {sn : List Str} {sub : List Value} {ab : Bool} {col : Option Bool} {dd : Option Addr} {k0 k1 k2 k3 k5 : Option Value} {newId : String}
theorem raise_any {s : Shared} {x : Sem Value} {Q : Flow → Shared → Prop} (hbase : bm.contains (.type "BaseException") = true) (hh : A.handled = none)
    (h : wpAny M A x (fun v s₁ => ∃ e dx a0 sl, v = .ref e ∧ s₁.heap.get? C = some (excClassObj nm q C N bs bm hdct sn sub ab col dd k0 k1 k2 k3 k5 newId) ∧
      s₁.heap.get? e = some { cls := .ref C, dict := dx, data := .fields #[a0, .none, .none, .none, .bool false, .none], slots := sl } ∧ E (.ref e) s₁) E s) :
    wpAny M A (raiseStmt env (some x) none) Q E s := by
  have hcB : (Value.ref C :: bm).contains (.type "BaseException") = true := by rw [List.contains_cons, hbase, Bool.or_true]
  unfold raiseStmt
  refine wpAny_bind (wpAny_mono h (fun v s₁ h₁ => ?_) fun _ _ x => x)
  obtain ⟨e, dx, a0, sl, rfl, hC, he, hE⟩ := h₁
  obtain ⟨hp, g, d, tk, os⟩ := s₁
  repeat (first | with_reducible refine wpAny_loadPart_at he ?_ | with_reducible refine wpAny_loadPart_at hC ?_ | (with_reducible refine wpAny_isSubtype_exc hC ?_; rw [hcB]) | wp_step)
  exact wpAny_raiseNew_none hh hE
end
section
variable {prog : Program} {w : World} {A : Around} {E : Value → Shared → Prop} {h : Heap} {g : Array GenState} {d : Drawn} {t : Nat} {os : OsState}
variable {nm q : Str} {C N : Addr} {bs bm bmB : List Value} {hdct : Bool} {sn : List Str} {sub : List Value} {ab : Bool} {col : Option Bool} {dd : Option Addr} {k0 k1 k2 k3 k5 : Option Value} {B Bn newId nid initId inN : String} {bmN : List Value}
end
section
variable {prog : Program} {w : World} {A : Around} {E : Value → Shared → Prop} {s : Shared} {env : Env}
variable {nm q : Str} {C N : Addr} {bs bm bmB : List Value} {hdct : Bool} {sn : List Str} {sub : List Value} {ab : Bool} {col : Option Bool} {dd : Option Addr} {k0 k1 k2 k3 k5 : Option Value} {B Bn newId nid initId inN : String} {bmN : List Value}
theorem raise_call {x : Str} {np cpos pos : Pos} {args : List Expr} {Q : Flow → Shared → Prop}
    (hbase : bm.contains (.type "BaseException") = true) (hh : A.handled = none) (hplain : (backTo cpos (starEach args env)).any (·.1) = false)
    (h : wpAny (model prog w) A (eval (.Name x np) env) (fun f s₁ => f = .ref C ∧ wpAny (model prog w) A (evalArgs (.ref C) true (backTo cpos (starEach args env)) [])
      (fun a s₂ => a.kw = [] ∧ s₂.heap.get? C = some (excClassObj nm q C N bs bm hdct sn sub ab col dd k0 k1 k2 k3 k5 newId) ∧
        wpAny (model prog w) A (call (.ref C) a.pos) (fun v s₃ => ∃ e dx a0 sl, v = .ref e ∧ s₃.heap.get? C = some (excClassObj nm q C N bs bm hdct sn sub ab col dd k0 k1 k2 k3 k5 newId) ∧
          s₃.heap.get? e = some { cls := .ref C, dict := dx, data := .fields #[a0, .none, .none, .none, .bool false, .none], slots := sl } ∧ E (.ref e) s₃) E s₂) E s₁) E s) :
    wpAny (model prog w) A (exec (.Raise (some (.Call (.Name x np) args [] cpos)) none pos) env) Q E s := by
  rw [arm_exec_Raise]
  refine wpAny_bind (wpAny_standAt ?_)
  refine raise_any (C := C) (nm := nm) (q := q) (N := N) (bs := bs) (bm := bm) (hdct := hdct) (sn := sn) (sub := sub) (ab := ab) (col := col) (dd := dd) (k0 := k0) (k1 := k1) (k2 := k2) (k3 := k3) (k5 := k5) (newId := newId) hbase hh ?_
  refine wpAny_bind (wpAny_mono (wpAny_Call_ofName (wpAny_mono h (fun f s₁ h₁ => ?_) fun _ _ x => x)) (fun v s₃ h₃ => wpAny_bind (wpAny_standAt (wpAny_pure h₃))) fun _ _ x => x)
  obtain ⟨rfl, h₁⟩ := h₁
  unfold callWith
  refine wpAny_bind (wpAny_holding (wpAny_mono h₁ (fun a s₂ h₂ => wpAny_bind (wpAny_standAt ?_)) fun _ _ x => x))
  obtain ⟨apos, akw⟩ := a
  obtain ⟨hkw, hC, h₂⟩ := h₂
  obtain rfl : akw = [] := hkw
  obtain ⟨hp, g, d, tk, os⟩ := s₂
  simp only [hplain]
  refine wpAny_bind (wpAny_keeperOf_exc hC ?_)
  exact wpAny_bind (wpAny_mono h₂ (fun v s₃ h₃ => wpAny_bind (wpAny_holding (wpAny_point (wpAny_pure h₃)))) fun _ _ z => z)
end
end L2
namespace L2
open PySem PySem.Spec PyProof.Rows
open Sem (wp)
section
variable {prog : Program} {w : World} {A : Around} {E : Value → Shared → Prop} {h : Heap} {g : Array GenState} {d : Drawn} {tk : Nat} {os : OsState}
variable {nm q : Str} {C N : Addr} {bs bm bmB : List Value} {hdct : Bool} {sn : List Str} {sub : List Value} {ab : Bool} {col : Option Bool} {dd : Option Addr} {k0 k1 k2 k3 k5 : Option Value} {B newId nid initId : String}
end
section
variable {prog : Program} {w : World} {A : Around} {E : Value → Shared → Prop} {h : Heap} {g : Array GenState} {d : Drawn} {t : Nat} {os : OsState} {K : PySem.W.Frag}
variable {nm q : Str} {C N x : Addr} {bs bm : List Value} {sn : List Str} {sub : List Value} {ab : Bool} {col : Option Bool} {dd : Option Addr} {k0 k1 k2 k3 k5 : Option Value} {newId : String}
  {mA : Str → Option Value} {name : Str} {v : Value}
noncomputable abbrev bmV : List Value := [.type "ValueError", .type "Exception", .type "BaseException", .type "object"]
end
end L2
namespace L2
open PySem PySem.Spec PyProof.Rows
section
variable {X : Cx} {pins : List (Addr × Obj)} {σ : St} {H : Hp} {s : Shared} {e : Addr} {φ : Heap → Prop}
end
section
variable {X : Cx} {E : XK} {k : Nat} {f C : Addr} {fd : FuncData} {ps : List Str} {sp : Sp} {x : Str} {p pos cpos : Pos} {e : Expr} {es : List Expr} {t : TA}
end
end L2
namespace L2
open PySem PySem.Spec PyProof.Rows DL
section
variable {X : Cx} {pins : List (Addr × Obj)} {σ : St} {H : Hp} {s : Shared} {a : Addr} {o : HO}
end
noncomputable def PJ (X : Cx) (parts : List Expr) (n : Nat) (t : St → Hp → Prop) : Prop := ∀ (pins : List (Addr × Obj)) (s : Shared) (σ : St) (H : Hp) (out : Str) (Q : Value → Shared → Prop), Inv X pins σ H s → t σ H → out.length + n ≤ 1000000 →
  (∀ txt tk s', Inv X pins σ H s' → Q (.str txt tk) s') → wpAny (model X.prog X.w) X.A (joinParts out (evalEach parts X.env)) Q X.xe s
section
variable {X : Cx} {e v : Expr} {rest : List Expr} {n : Nat} {t : St → Hp → Prop} {pos p : Pos}
theorem pj_nil : PJ X [] 0 fun _ _ => True := fun pins s σ H out Q I _ hl k => joinParts_nil (k _ _ _ (I.tok _)) (by rw [sizeLine_eq]; omega)
theorem pj_str {c : Str} (he : PE X e (tC (.str c))) (hr : PJ X rest n t) : PJ X (e :: rest) (c.length + n) t := fun pins s σ H out Q I h hl k =>
  joinParts_cons (thn (he pins s σ H (fun v H' => v = .str c ∧ H' = H) I ⟨rfl, rfl⟩) fun u s1 ⟨v, H1, I1, r1, e1, e2⟩ => by
    subst e1; subst e2
    obtain ⟨tk, rfl⟩ := r1
    have z : (out ++ c).length = out.length + c.length := strLen_append out c
    exact ⟨by rw [z, sizeLine_eq]; omega, hr pins s1 σ H1 _ Q I1 h (by rw [z]; omega) k⟩)
theorem pj_int {i : Nat} (he : PE X v (tVar i)) (hr : PJ X rest n t) : PJ X (.FormattedValue v (-1) none p :: rest) (2000 + n) fun σ H => (∃ a : Int, σ[i]? = some (some (.int a)) ∧ a.natAbs.log2 < 1920) ∧ t σ H := fun pins s σ H out Q I ⟨⟨a, ha, hb⟩, h⟩ hl k =>
  joinParts_cons (FormattedValue_plain (thn (he pins s σ H (fun v H' => v = .int a ∧ H' = H) I ⟨_, ha, rfl, rfl⟩) fun u s1 ⟨v, H1, I1, r1, e1, e2⟩ => by
    subst e1; subst e2
    obtain ⟨tk, rfl⟩ := r1
    refine formatField_int_small hb ?_
    have e3 := int_text_length_le (k := 1920) (by decide) hb
    have z : (out ++ Str.ofString (toString a)).length = out.length + (toString a).length := by rw [strLen_append, PySem.ofString_length]
    exact ⟨by rw [z, sizeLine_eq]; omega, hr pins _ σ H1 _ Q (I1.tok _) h (by rw [z]; omega) k⟩))
noncomputable def tTxt (t : St → Hp → Prop) : TE := fun σ H Q => t σ H ∧ ∀ txt, Q (.str txt) H
theorem pe_joined {e2 : Expr} (h : PJ X (e :: e2 :: rest) n t) (hn : n ≤ 1000000 := by decide) : PE X (.JoinedStr (e :: e2 :: rest) pos) (tTxt t) := fun pins s σ H Q I ⟨ht, hq⟩ =>
  JoinedStr_many (h pins s σ H Str.empty _ I ht (by show 0 + n ≤ _; omega) fun txt tk s' I' => ⟨.str txt, H, I', ⟨tk, rfl⟩, hq txt⟩)
end
section
variable {X : Cx} {x : Str} {C0 : Addr} {p1 apos cpos : Pos} {e1 : Expr} {es : List Expr} {t : TA}
end
section
variable {X : Cx} {o value : Expr} {f : Str} {pos pos' : Pos} {ta tv : TE}
end
end L2
namespace L2
open PySem PySem.Spec PyProof.Rows
section
variable {prog : Program} {w : World} {A : Around} {E : Value → Shared → Prop} {h : Heap} {g : Array GenState} {d : Drawn} {t : Nat} {os : OsState} {K : PySem.W.Frag}
variable {nm q : Str} {C N x : Addr} {bs bm : List Value} {sn : List Str} {sub : List Value} {ab : Bool} {col : Option Bool} {dd : Option Addr} {k0 k1 k2 k3 k5 : Option Value} {newId : String}
end
end L2
namespace L2
open PySem PySem.Spec PyProof.Rows DL
section
variable {X : Cx} {pins : List (Addr × Obj)} {σ : St} {H : Hp} {s : Shared}
end
noncomputable def PEX (X : Cx) (e : Expr) (t : St → Hp → VK → XK → Prop) : Prop := ∀ (pins : List (Addr × Obj)) (s : Shared) (σ : St) (H : Hp) (Q : VK) (E : XK), Inv X pins σ H s → t σ H Q E →
  wpAny (model X.prog X.w) X.A (eval e X.env) (EP X pins σ Q) (fun x s' => X.xe x s' ∨ ∃ H1 s1, Inv X pins σ H1 s1 ∧ CXE X.prog X.w X.stack H1 s1 E x s') s
noncomputable def PSX (X : Cx) (st : Stmt) (t : Ends → XK → St → Hp → Prop) : Prop := ∀ (pins : List (Addr × Obj)) (s : Shared) (σ : St) (H : Hp) (D : Ends) (E : XK), Inv X pins σ H s → t D E σ H →
  wpAny (model X.prog X.w) X.A (exec st X.env) (SP X pins D) (fun x s' => X.xe x s' ∨ ∃ H1 s1, Inv X pins σ H1 s1 ∧ CXE X.prog X.w X.stack H1 s1 E x s') s
section
variable {X : Cx} {k : Nat} {f : Addr} {fd : FuncData} {ps : List Str} {sp : Sp} {x : Str} {p pos : Pos} {e : Expr} {es : List Expr} {t : TA} {te : St → Hp → VK → XK → Prop}
theorem pex_call (F : FnOk X.prog X.w X.K X.mg X.base (CXE X.prog X.w) k f fd ps sp) (hr : Room k X.A) (hg : Gl X x) (hm : X.mg x = some (.ref f)) (hk : PySem.W.keepIn X.K (.ref f) = true) (hb : Binds X.K fd ps [])
    (ha : PA X (e :: es) t) (hdb : (x == ("__debug__" : Str)) = false := by decide) (he : starEach (e :: es) X.env = (false, eval e X.env) :: starEach es X.env := by rfl) (hpl : (backTo pos (starEach es X.env)).any (·.1) = false := by rfl) :
    PEX X (.Call (.Name x p) (e :: es) [] pos) (fun σ H Q E => t σ H fun vs H1 => sp vs H1 Q E) := by
  intro pins s σ H Q E I h
  refine wpAny_Call_Name_kw (ld_glob I hg hm ?_ hdb)
  refine PySem.W.callWith_K (h₀ := X.base) I.ok.mod.kin hk (wpAny_mono (ha pos pins s σ H _ I h) (fun us s1 ⟨vs, H1, I1, r, q⟩ => ⟨I1.kIn, ?_⟩) (fun _ _ z => .inl z)) he hpl
  have hl : (us ++ []).length = ps.length := by rw [List.append_nil, ← r.length]; exact F.len _ _ _ _ q
  refine wpAny_call (codeAny_mono (F.run X.A X.stack s1 H1 ⟨us, []⟩ (us ++ []) vs Q E hr I1.env0 (hb s1 us I1.kIn hl) (by rw [List.append_nil]; exact r) q) fun r s' hq => ?_)
  cases r with
  | error z => exact .inr ⟨H1, s1, I1, hq⟩
  | ok fl =>
    cases fl with
    | ret u => exact I1.after hq
    | next => exact False.elim hq
    | brk => exact False.elim hq
    | cont => exact False.elim hq
theorem psx_expr (he : PEX X e te) (hs : swapsWith e none pos.line X.env = pure false := by rfl) : PSX X (.Expr e pos) (fun D E σ H => te σ H (fun _ H1 => D.nx σ H1) E) := by
  intro pins s σ H D E I h
  exact wpAny_Expr_any (thn (he pins s σ H _ E I h) fun v s1 ⟨x, H1, I1, r1, q1⟩ => ⟨σ, H1, I1, q1⟩) I.quiet hs
end
noncomputable abbrev Cx.hnd (X : Cx) (a : Addr) : Cx := { X with A := X.A.mark (some (.ref a)), calm := false, xe := fun _ _ => False }
section
variable {X : Cx} {pins : List (Addr × Obj)} {σ : St} {H : Hp} {s : Shared} {a : Addr}
theorem Inv.hnd (I : Inv X pins σ H s) (a : Addr) : Inv (X.hnd a) pins σ H s :=
  ⟨⟨I.ok.mod, I.ok.kind, I.ok.glob, I.ok.blt, I.ok.above, I.ok.inj, I.ok.has, I.ok.cab, (fun z => nomatch z), I.ok.frames, I.ok.stk, I.ok.exf, I.ok.bs, I.ok.bsz, I.ok.noex, I.ok.exfs, I.ok.funs, I.ok.frf⟩, I.os, I.bare, I.base, I.loc, I.cell, I.free, I.freeC, I.pin, I.hok, I.len⟩
theorem Inv.unhnd (ok : X.Ok) (I : Inv (X.hnd a) pins σ H s) : Inv X pins σ H s := ⟨ok, I.os, I.bare, I.base, I.loc, I.cell, I.free, I.freeC, I.pin, I.hok, I.len⟩
end
section
variable {X : Cx} {st b₀ : Stmt} {suite : List Stmt} {tb : Ends → XK → St → Hp → Prop} {th : TS} {cx n : Str} {CB : Addr} {cp hpos pos : Pos} {j : Nat}
end
end L2
namespace DL
open PySem PySem.Spec L2
noncomputable abbrev DSpX := List D → Hh → DK → DX → Prop
inductive spX (K : PySem.W.Frag) (n : Nat) (g : DSpX) (vs : List V) (H : Hp) (Q : VK) (E : XK) : Prop
  | mk (π : List Addr) (α : List Addr) (h : Hh) (ds : List D) (Q' : DK) (X' : DX) : HRel ⟨K, π⟩ α H h → RelDs ⟨K, π⟩ α H ds vs → ds.length = n → g ds h Q' X' →
      (∀ d h' α' H' v, Q' d h' → Ext α H α' H' → HRel ⟨K, π⟩ α' H' h' → RelD ⟨K, π⟩ α' H' d v → Q v H') →
      (∀ cn fs h' α' H' C dx, X' cn fs h' → Ext α H α' H' → HRel ⟨K, π⟩ α' H' h' → PySem.W.nsIn K mainGlobals cn = some (some (.ref C)) → XQ ⟨K, π⟩ α' H' dx fs → E (.ref C) dx H') → spX K n g vs H Q E
noncomputable def runX (n : Nat) (b : DS) : DSpX := fun ds h Q X' => b { nx := fun _ h' => Q .non h', rt := Q, ex := X' } (ds.map some ++ List.replicate (n - ds.length) none) h
noncomputable def DrX (h : Hh) (X' : DX) : DX := fun cn fs h' => Dr h (fun _ h2 => X' cn fs h2) .non h'
structure CalX (P : Program) (w : World) (K : PySem.W.Frag) (mg : Str → Option Value) (base : Heap) (k : Nat) (x : Str) (ps : List Str) (sp : Sp) : Prop where
  ex : ∃ (f : Addr) (fd : FuncData), FnOk P w K mg base (CXE P w) k f fd ps sp ∧ mg x = some (.ref f) ∧ PySem.W.keepIn K (.ref f) = true ∧ Binds K fd ps []
section
variable {P : Program} {w : World} {K : PySem.W.Frag} {mg : Str → Option Value} {base : Heap}
theorem fn_okX {x qual : Str} {st : Stmt} {f : Addr} {fd : FuncData} {N ps : List Str} {k : Nat} {b : DS} {g : DSpX} (F : Fun K x qual st f fd) (S : FnScope N ps (defScope st))
    (hb : ∀ (cdv : Value) (A : Around) (outer : List Env) (s : Shared) (H : Hp) (E : XK), Room k (A.deeper (PyProof.Rows.envOfC qual (defScope st) s.heap.objs.size f cdv)) → SSs ((cxOf (CXE P w) P w K mg base N qual (defScope st) f cdv A outer s H E).wishX E) (defBody st) b)
    (hg : ∀ ds h Q X', g ds h Q X' → runX N.length b ds h (Dr h Q) (DrX h X')) : FnOk P w K mg base (CXE P w) (k + 1) f fd ps (spX K ps.length g) := by
  refine F.okX S (fun vs H Q E h => ?_) fun cdv A outer s H vs Q E hr h => ?_
  · obtain ⟨π, α, h, ds, Q', X', R, r, l, _⟩ := h
    rw [← r.length, l]
  · obtain ⟨π, α, h, ds, Q', X', R, r, l, q, kk, kx⟩ := h
    refine ⟨_, hb cdv A outer s H E hr, π, α, _, h, { nx := fun _ h' => Dr h Q' .non h', rt := Dr h Q', ex := DrX h X' }, R, relS_start r, hg ds h Q' X' q, ⟨fun _ h' α' H' σ' a b c _ => ?_, fun d h' α' H' v a b c d' => ?_, fun _ _ _ _ _ a _ _ _ => a.elim, fun _ _ _ _ _ a _ _ _ => a.elim, fun cn fs h' α' H' C dx a b c d d2 => ?_⟩⟩
    · obtain ⟨d', h2, q, e, R2, r2⟩ := a.rel R b c .non
      exact kk d' h2 α H' .non q e R2 r2
    · obtain ⟨d', h2, q, e, R2, r2⟩ := a.rel R b c d'
      exact kk d' h2 α H' v q e R2 r2
    · obtain ⟨d', h2, q, e, R2, r2⟩ := Dr.rel R b c .non a
      exact kx cn fs h2 α H' C dx q e R2 d (d2.map fun _ _ d2 => ⟨fun z => d2.1 (by obtain ⟨β, hβ, _⟩ := b.pre; rw [hβ]; exact List.mem_append_left _ z), d2.2⟩)
end
section
variable {X : Cx} {k m : Nat} {ps : List Str} {g : DSpX} {x : Str} {p pos : Pos} {e : Expr} {es : List Expr} {n : Nat} {f : DA}
theorem se_calX (c : CalX X.prog X.w X.K X.mg X.base k x ps (spX X.K m g)) (hr : Room k X.A) (hg : Gl X x) (ha : SA X (e :: es) n f) (hn : n = m := by rfl) (hdb : (x == ("__debug__" : Str)) = false := by decide)
    (he : starEach (e :: es) X.env = (false, eval e X.env) :: starEach es X.env := by rfl) (hpl : (backTo pos (starEach es X.env)).any (·.1) = false := by rfl) : SE X (.Call (.Name x p) (e :: es) [] pos) (dCal (fun ds h Q => g ds h Q fun _ _ _ => False) f) := by
  obtain ⟨fa, fd, F, hm, hk, hb⟩ := c.ex
  refine PE.imp (pe_call F hr hg hm hk hb .nil pass0X ha hdb he hpl) fun σ H Q ⟨π, α, δ, h, Q', R, S, f, k⟩ => ?_
  refine ⟨π, α, δ, h, _, R, S, f, fun ds h1 α1 H1 vs f1 e1 R1 q1 l1 => ?_⟩
  show spX X.K m g (vs ++ []) H1 Q E0
  rw [List.append_nil]
  exact ⟨π, α1, h1, ds, Q', _, R1, q1, l1.trans hn, f1, fun d h' α' H' v a b c d' => k d h' α' H' v a (e1.trans b) c d', fun _ _ _ _ _ _ _ a _ _ _ => a.elim⟩
end
noncomputable abbrev DEX := Sl → Hh → DK → DX → Prop
noncomputable def dCalX (g : DSpX) (f : DA) : DEX := fun δ h Q X' => f δ h fun ds h1 => g ds h1 Q X'
noncomputable def dIxX (fa : DEX) (fc : DE) : DEX := fun δ h Q X' => fa δ h (fun x h1 => fc δ h1 fun y h2 => pIx x y h2 Q) X'
noncomputable def dDropX (f : DEX) : DS := fun En δ h => f δ h (fun _ h1 => En.nx δ h1) En.ex
noncomputable def dRetX (f : DEX) : DS := fun En δ h => f δ h En.rt En.ex
section
variable {X : Cx} {E : XK} {k m : Nat} {ps : List Str} {g : DSpX} {x : Str} {p pos : Pos} {e a c : Expr} {es : List Expr} {n : Nat} {f : DA} {fa : DEX} {fc : DE}
end
noncomputable def dRaise (cn : Str) (ns : List Str) (f : DA) : DS := fun En δ h => f δ h fun ds h1 => ∃ is : List Int, ds = is.map D.int ∧ is.length = ns.length ∧ (∀ i ∈ is, i.natAbs.log2 < 1920) ∧ En.ex cn (ns.zip is) h1
section
variable {X : Cx} {E : XK} {k : Nat} {ps ns : List Str} {x : Str} {p pos cpos : Pos} {e : Expr} {es : List Expr} {n : Nat} {f : DA}
end
end DL
namespace DL
open PySem PySem.Spec L2
noncomputable def dTryE (En : DEnds) (j : Nat) : DEnds := { nx := fun δ h => En.nx (δ.set j none) h, rt := En.rt, bk := fun δ h => En.bk (δ.set j none) h, ct := fun δ h => En.ct (δ.set j none) h, ex := En.ex }
noncomputable def dTryS (i : Nat) (g : DSpX) (fa : DA) (cn : Str) (j : Nat) (bh : DS) : DS := fun En δ h => fa δ h fun ds h1 => g ds h1 (fun d h2 => En.nx (δ.set i (some d)) h2) (fun c fs h2 => c = cn ∧ bh (dTryE En j) (δ.set j (some (.exc cn fs))) h2)
noncomputable def dTryD (g : DSpX) (fa : DA) (cn : Str) (j : Nat) (bh : DS) : DS := fun En δ h => fa δ h fun ds h1 => g ds h1 (fun _ h2 => En.nx δ h2) (fun c fs h2 => c = cn ∧ bh (dTryE En j) (δ.set j (some (.exc cn fs))) h2)
structure CatchX (K : PySem.W.Frag) (mg : Str → Option Value) (cx cn : Str) : Prop where
  ex : ∃ CB, mg cx = some (.ref CB) ∧ ∀ C, PySem.W.nsIn K mainGlobals cn = some (some (.ref C)) → PySem.W.exmOne K (.ref C) (.ref CB) = some true
section
variable {K : PySem.W.Frag} {Ex : XK} {π α : List Addr} {H : Hp} {δ : Sl} {σ : L2.St} {h : Hh} {En : DEnds} {F : Ends} {CB : Addr} {cn : Str} {j : Nat} {bh : DS}
end
section
variable {X : Cx} {k m : Nat} {ps : List Str} {g : DSpX} {x cx cn n : Str} {p pos cpos cp hpos tpos : Pos} {e : Expr} {es : List Expr} {l : Nat} {fa : DA} {b₀ : Stmt} {suite : List Stmt} {bh : DS} {j : Nat}
end
end DL
namespace L2
open PySem PySem.Spec PyProof.Rows DL
structure XIs (K : PySem.W.Frag) (C : Addr) : Prop where
  cls : ∃ nm q N bs bm sn sub ab col dd k0 k1 k2 k3 k5, K.lookup C = some (excClassObj nm q C N bs bm true sn sub ab col dd k0 k1 k2 k3 k5 "ValueError.__new__") ∧ PySem.W.tailIn K bmV bm = true
  ga : PySem.W.findIn K (.ref C) "__getattribute__" = some (some (.builtin "BaseException.__getattribute__"))
  gg : PySem.W.findIn K (.ref C) "__getattr__" = some none
  cl : PySem.W.findIn K (.ref C) "__class__" = some (some (.builtin "object.__class__"))
  cg : PySem.W.specialIn K (.builtin "object.__class__") "__get__" = some (some (.builtin "getset_descriptor.__get__"))
  ct : PySem.W.takesIn K (.builtin "object.__class__") = some true
  mo : PySem.W.mroIn K C (.type "object") = some true
section
variable {K : PySem.W.Frag} {C f x : Addr} {ox : Obj} {od : Option Obj}
end
section
variable {X : Cx}
end
end L2
namespace DL
open PySem PySem.Spec L2
theorem XQ.dict {K : KP} {α : List Addr} {H : Hp} {dx : Option Addr} {fs : List (Str × Int)} (h : XQ K α H dx fs) : ∀ d', dx = some d' → ∃ fs, H d' = some (.ext (xDict fs d')) := by
  rintro d' rfl
  rcases h with ⟨h, _⟩ | ⟨d, e, v⟩
  · cases h
  · cases e; exact ⟨fs, v.2.2⟩
noncomputable def dIsX (cn : Str) (b : Bool) (fa : DE) : DE := fun δ h Q => fa δ h fun d h1 => match d with | .exc c _ => c = cn ∧ Q (.bl b) h1 | _ => False
noncomputable def dXA (cn name : Str) (fa : DE) : DE := fun δ h Q => fa δ h fun d h1 => match d with | .exc c fs => c = cn ∧ (match fs.lookup name with | some i => Q (.int i) h1 | none => False) | _ => False
section
variable {X : Cx} {cn : Str} {b : Bool} {a t : Expr} {fa : DE} {p pos : Pos} {u : Value} {v : V}
end
end DL
namespace L2
open PySem PySem.Spec PyProof.Rows
open Sem (wp)
section
variable {prog : Program} {w : World} {A : Around} {E : Value → Shared → Prop} {h : Heap} {g : Array GenState} {d : Drawn} {t : Nat} {os : OsState}
variable {nm q : Str} {C N : Addr} {bs bm bmB : List Value} {hdct : Bool} {sn : List Str} {sub : List Value} {ab : Bool} {col : Option Bool} {dd : Option Addr} {k0 k1 k2 k3 k5 : Option Value} {B Bn newId nid initId inN : String} {bmN : List Value}
theorem type_call0 (Fn : ExcBaseFacts Bn newId inN bmN) (hBn : bmB.contains (.type Bn) = true) (F : ExcBaseFacts B nid initId bmB) (T : OwnTail h bmB bm) {mN : Str → Option Value} {rest : List Value} {Q : Fin → Shared → Prop}
    (hC : h.get? C = some (excClassObj nm q C N bs bm hdct sn sub ab col dd k0 k1 k2 k3 k5 newId)) (hn : h.Ns N mN) (hi : mN "__init__" = none)
    (hq : ∀ h' e, Heap.MadeExcOf h h' e (.ref C) rest → h.objs.size ≤ e → Q (.done (.ret (.ref e))) ⟨h', g, d, t, os⟩) (hrest : rest.length ≤ sizeLine := by size_fits) :
    wpAny (model prog w) A (Builtin.«type.__call__» ⟨.ref C :: rest, []⟩) Q E ⟨h, g, d, t, os⟩ := by
  repeat (first | with_reducible refine wpAny_loadPart_at hC ?_ | with_reducible refine wpAny_madeBy_exc hC ?_ | wp_step)
  refine codeAny_call_builtin_code (Code.quiet_builtin _ Fn.quiet) (wpAny_check_new_subU Fn hBn T hC ?_)
  refine codeAny_exc_new_subU Fn hBn F T hC ?_ hrest
  show wpAny _ _ _ _ _ _
  have up : ∀ b o, h.get? b = some o → ((h.push { cls := .type "tuple", data := .seq rest.toArray }).push { cls := .ref C, data := .fields #[.ref h.objs.size, .none, .none, .none, .bool false, .none] }).get? b = some o := fun b o e => Heap.get?_push_of_some _ (Heap.get?_push_of_some _ e)
  have hC₁ := up _ _ hC
  have hn₁ : ((h.push { cls := .type "tuple", data := .seq rest.toArray }).push { cls := .ref C, data := .fields #[.ref h.objs.size, .none, .none, .none, .bool false, .none] }).Ns N mN :=
    let ⟨o, es, ep, e, r⟩ := hn; ⟨o, es, ep, up _ _ e, r⟩
  have hget : ((h.push { cls := .type "tuple", data := .seq rest.toArray }).push
      { cls := .ref C, data := .fields #[.ref h.objs.size, .none, .none, .none, .bool false, .none] }).get? (h.objs.size + 1) = some
      { cls := .ref C, data := .fields #[.ref h.objs.size, .none, .none, .none, .bool false, .none] } := by heap_get
  have hcC : (Value.ref C :: bm).contains (.ref C) = true := by simp
  have T₁ := T.keeps up
  unfold isInstance
  repeat (first | with_reducible refine wpAny_loadPart_at hget ?_ | (with_reducible refine wpAny_isSubtype_exc hC₁ ?_; rw [hcC]) | wp_step)
  show wpAny _ _ (typeLookup (.ref C) _) _ _ _
  refine wpAny_typeLookup_tail hC₁ hn₁ T₁ F.mroIs F.init.lookup ?_
  rw [hi]
  refine wpAny_holding (wpAny_bind (wpAny_of_eq (F.init.bind _) ?_))
  refine wpAny_bind (wpAny_call (codeAny_call_builtin F.init.plain F.initEntry (wpAny_check_init_subU F T₁ hC₁ hget rfl ?_)))
  wp_walk
  refine hq _ (h.objs.size + 1) ⟨fun b o hb => ?_, Heap.get?_none_of_le (Nat.le_succ _), h.objs.size + 2, ?_, Heap.get?_none_of_le (by omega), ?_⟩ (Nat.le_succ _)
  · rw [Heap.get?_update_other _ _ (Nat.ne_of_gt (Nat.lt_succ_of_lt (Heap.lt_size hb)))]
    exact Heap.get?_push_of_some _ (up _ _ hb)
  · rw [Heap.get?_update_self _ (Heap.get?_push_of_some _ hget) rfl]
    simp only [Heap.size_push]
    rfl
  · rw [Heap.get?_update_other _ _ (show h.objs.size + 1 ≠ h.objs.size + 2 by omega)]
    exact Heap.get?_push_at (by simp only [Heap.size_push]) rfl
theorem call0 (Fn : ExcBaseFacts Bn newId inN bmN) (hBn : bmB.contains (.type Bn) = true) (F : ExcBaseFacts B nid initId bmB) (T : OwnTail h bmB bm) {mN : Str → Option Value} {rest : List Value} {Q : Value → Shared → Prop}
    (hC : h.get? C = some (excClassObj nm q C N bs bm hdct sn sub ab col dd k0 k1 k2 k3 k5 newId)) (hn : h.Ns N mN) (hi : mN "__init__" = none)
    (hq : ∀ h' e, Heap.MadeExcOf h h' e (.ref C) rest → h.objs.size ≤ e → Q (.ref e) ⟨h', g, d, t, os⟩) (hrest : rest.length ≤ sizeLine := by size_fits) :
    wpAny (model prog w) A (call (.ref C) rest) Q E ⟨h, g, d, t, os⟩ := by
  have f1 := tc_lookup
  have f2 := tc_bind (.ref C)
  have hT : (⟨h, g, d, t, os⟩ : Shared).TypeIs (.ref C) "type" := ⟨_, hC, rfl⟩
  refine wpAny_call (codeAny_of_tree ?_)
  show wpAny _ _ (callAny (.ref C) _) _ _ _
  repeat (any_goals (first | assumption | with_reducible refine wpAny_loadPart_at hC ?_ | wp_step))
  refine ⟨rfl, ?_⟩
  refine codeAny_call_builtin_at (Code.quiet_builtin _ (by decide +kernel)) entry_typeCall (wpAny_check_type_call_sub hC (type_call0 (hrest := hrest) Fn hBn F T hC hn hi fun h' e hm he => ?_))
  exact hq h' e hm he
end
theorem ns_none_of {K : PySem.W.Frag} {h : Heap} {N : Addr} {mg : Str → Option Value} {n : Str} (X : K.In h) (G : h.Ns N mg) (e : PySem.W.nsIn K N n = some none) : mg n = none := by
  obtain ⟨o, es, ep, ho, hd, _, hf⟩ := G
  unfold PySem.W.nsIn at e
  split at e
  · rename_i c d es' n' sl q
    have := X _ _ q
    rw [ho] at this
    cases this
    cases hd
    split at e
    · cases e
    · rename_i he
      rw [← hf]
      unfold nsFind findBy
      rw [← Array.find?_toList, he]
      rfl
  · cases e
structure XCls0 (K : PySem.W.Frag) (C : Addr) : Prop where
  cls : ∃ nm q N bs bm sn sub ab col dd k0 k1 k2 k3 k5, K.lookup C = some (excClassObj nm q C N bs bm true sn sub ab col dd k0 k1 k2 k3 k5 "ValueError.__new__") ∧ PySem.W.tailIn K bmV bm = true ∧ PySem.W.nsOkIn K N = true ∧ PySem.W.nsIn K N "__init__" = some none
noncomputable def tRaise0 (C : Addr) (E : XK) (t : TA) : TS := fun _ σ H => t σ H fun vs H1 => vs.length ≤ 100 ∧ E (.ref C) none H1
section
variable {X : Cx} {E : XK} {k : Nat} {C : Addr} {x : Str} {p pos cpos : Pos} {e : Expr} {t : TA}
theorem ps_raise0 (c : XCls0 X.K C) (hr : Room k X.A) (hg : Gl X x) (hm : X.mg x = some (.ref C))
    (ha : PA (X.wishX E) [e] t) (hdb : (x == ("__debug__" : Str)) = false := by decide) (he : starEach [e] X.env = (false, eval e X.env) :: starEach [] X.env := by rfl) (hpl : (backTo cpos (starEach [e] X.env)).any (·.1) = false := by rfl) :
    PS (X.wishX E) (.Raise (some (.Call (.Name x p) [e] [] cpos)) none pos) (tRaise0 C E t) := by
  intro pins s σ H D I h
  obtain ⟨nm, q, N, bs, bm, sn, sub, ab, col, dd, k0, k1, k2, k3, k5, lC, hT, hok, hi⟩ := c.cls
  have hbase : bm.contains (.type "BaseException") = true := (PySem.W.tail_of_in I.kIn hT).hasType (by decide +kernel)
  refine raise_call (C := C) (nm := nm) (q := q) (N := N) (bs := bs) (bm := bm) (hdct := true) (sn := sn) (sub := sub) (ab := ab) (col := col) (dd := dd) (k0 := k0) (k1 := k1) (k2 := k2) (k3 := k3) (k5 := k5) (newId := "ValueError.__new__") hbase hr.hd hpl ?_
  refine ld_glob (X := X.wishX E) I hg hm ⟨rfl, ?_⟩ hdb
  have hA := ha cpos pins s σ H _ I h
  rw [he] at hA ⊢
  refine Calls.evalArgs_plain (thn hA fun us s1 ⟨vs, H1, I1, r1, q1⟩ => ⟨rfl, I1.kIn _ _ lC, ?_⟩)
  have KX : X.K.In s1.heap := I1.kIn
  have T := PySem.W.tail_of_in KX hT
  have Ns : s1.heap.Ns N (s1.heap.nsMap N) := .of_isNs (PySem.W.isNs_of_in KX hok)
  have hi' : s1.heap.nsMap N "__init__" = none := ns_none_of KX Ns hi
  obtain ⟨hp, g, d, tk, os⟩ := s1
  have FV := _root_.PySem.F.excBase_ValueError
  refine call0 (mN := hp.nsMap N) FV (by decide +kernel) FV T (KX _ _ lC) Ns hi' (fun h' e' hm' hle => ?_) (by rw [← r1.length]; exact Nat.le_trans q1.1 (by decide))
  obtain ⟨t0, ht, _⟩ := hm'.there
  refine ⟨e', none, .ref t0, #[], rfl, hm'.keeps _ _ (KX _ _ lC), ht, ?_⟩
  have I2 := I1.kept (t' := tk) (fun b o e => hm'.keeps b o e)
  exact ⟨e', .ref C, none, none, .none, σ, H1, rfl, I2.unwishX.unpin, ⟨⟨_, _, ht, rfl, rfl, rfl, rfl⟩, (fun t h => nomatch h)⟩, (I1.unwishX.away hle).unpin, I1.hok.fresh hle, (fun t h => nomatch h), .inl rfl, q1.2⟩
end
end L2
namespace DL
open PySem PySem.Spec L2
structure RaiseX0 (K : PySem.W.Frag) (mg : Str → Option Value) (x : Str) : Prop where
  ex : ∃ C, mg x = some (.ref C) ∧ PySem.W.nsIn K mainGlobals x = some (some (.ref C)) ∧ XCls0 K C
noncomputable def dRaise0 (cn : Str) (js : List Nat) : DS := fun En δ h => (∀ j ∈ js, ∃ a : Int, δ[j]? = some (some (.int a)) ∧ a.natAbs.log2 < 1920) ∧ En.ex cn [] h
section
variable {X : Cx} {E : XK} {k n : Nat} {x : Str} {p pos p2 cpos : Pos} {e e2 : Expr} {rest : List Expr} {t : L2.St → Hp → Prop} {js : List Nat}
theorem s_raise0 (c : RaiseX0 X.K X.mg x) (hr : Room k X.A) (hg : Gl X x) (hj : PJ (X.wishX E) (e :: e2 :: rest) n t) (hjs : ∀ σ H, (∀ j ∈ js, ∃ a : Int, σ[j]? = some (some (V.int a)) ∧ a.natAbs.log2 < 1920) → t σ H) (hn : n ≤ 1000000 := by decide) (hdb : (x == ("__debug__" : Str)) = false := by decide)
    (he : starEach [.JoinedStr (e :: e2 :: rest) p2] X.env = (false, eval (.JoinedStr (e :: e2 :: rest) p2) X.env) :: starEach [] X.env := by rfl) (hpl : (backTo cpos (starEach [.JoinedStr (e :: e2 :: rest) p2] X.env)).any (·.1) = false := by rfl) :
    SS (X.wishX E) (.Raise (some (.Call (.Name x p) [.JoinedStr (e :: e2 :: rest) p2] [] cpos)) none pos) (dRaise0 x js) := by
  obtain ⟨C, hbd, hns, cl⟩ := c.ex
  refine PS.imp (ps_raise0 (X := X) (E := E) cl hr hg hbd (pa_cons (pe_joined hj hn) pa_nil he) hdb he hpl) fun F' σ H ⟨π, α, δ, h, En, R, S, q, k⟩ => ?_
  refine ⟨hjs σ H fun j hj' => ?_, fun txt => ⟨(show 1 ≤ 100 by decide), k.ex x [] h α H C none q.2 (Ext.refl ..) R hns (.inl ⟨rfl, rfl⟩)⟩⟩
  obtain ⟨a, ha, hb⟩ := q.1 j hj'
  obtain ⟨v, h1, h2⟩ := S.get j _ ha
  cases h2
  exact ⟨a, h1, hb⟩
end
end DL
namespace L2
open PySem PySem.Spec PyProof.Rows DL
section
variable {X : Cx}
noncomputable def rInsert : V → List V → Hp → VK → Prop := fun x vs H Q => ∃ l xs i y, x = .ref l ∧ vs = [.int i, y] ∧ H l = some (.lst xs) ∧ 0 ≤ i ∧ i.toNat ≤ xs.length ∧ xs.length < 16777216 ∧ Q .non (upd H l (.lst (xs.take i.toNat ++ y :: xs.drop i.toNat)))
theorem Vals.ins : ∀ {xs : List V} {us : List Value} (n : Nat) {y : V} {u : Value}, Vals xs us → RelV y u → Vals (xs.take n ++ y :: xs.drop n) (us.take n ++ u :: us.drop n)
  | xs, us, 0, _, _, r, q => .cons q r
  | _, _, n + 1, _, _, .nil, q => .cons q .nil
  | _, _, n + 1, _, _, .cons h t, q => .cons h (Vals.ins n t q)
theorem mt_insert : MtM X "list.insert" rInsert := by
  intro pins s σ H x vs v us Q I rx rv h
  obtain ⟨l, xs, i, y, rfl, rfl, hH, h0, hi, hz, q⟩ := h
  cases rx
  obtain ⟨u1, u2, rfl, r1, r2⟩ := vals2 rv
  obtain ⟨t, rfl⟩ := r1
  obtain ⟨z, its, n, r, hl, e⟩ := I.lstM hH
  have hf : ¬ (!Builtin.List.listFitsIndex i) = true := by rw [fitsIndex_both (by omega) (by omega)]; simp
  have hlen : its.toArray.size = xs.length := by rw [List.size_toArray]; exact hl.symm
  refine call_meets PySem.F.slot_list_insert ⟨_, e, rfl⟩ PySem.F.entry_list_insert (PySem.F.args_list_insert_3 _ _ _) (PySem.AutoListH.list_insert_list_int_val_1 l its.toArray n i t u2 hf (by rw [hlen, sizeLine_eq]; omega)) ⟨e, ?_⟩
  refine ⟨.non, _, I.lset (its' := its.take i.toNat ++ u2 :: its.drop i.toNat) hH e ?_ (r.ins i.toNat r2) ?_, rfl, q⟩
  · dsimp only
    rw [if_neg (by omega), hlen, Nat.min_eq_left hi]
    apply Array.toList_inj.mp
    simp [List.extract_eq_take_drop, List.take_of_length_le]
    exact List.take_of_length_le (by rw [List.length_drop]; omega)
  · rw [List.length_append, List.length_cons, List.length_take, List.length_drop, sizeLine_eq]
    omega
end
end L2
namespace DL
open PySem PySem.Spec L2
section
variable {X : Cx} {cn : Str} {a : Expr} {fa : DE} {p pos : Pos} {x1 x2 x3 : Str} {p1 p2 p3 tpos : Pos} {ctx : Nat}
end
noncomputable def dInsert (fo : DE) (fs : DA) : DE := fun δ h Q => fo δ h fun d h1 => match d with
  | .ref i => (match h1[i]? with
    | some (.lst _) => fs δ h1 fun ds h2 => (match ds, h2[i]? with
      | [.int n, y], some (.lst xs) => (0 ≤ n ∧ n.toNat ≤ xs.length ∧ xs.length < 16777216) ∧ Q .non (h2.set i (.lst (xs.take n.toNat ++ y :: xs.drop n.toNat)))
      | _, _ => False)
    | _ => False)
  | _ => False
theorem RelDs.ins {K : KP} {α : List Addr} {H : Hp} : ∀ {ds : List D} {us : List V} (n : Nat) {d : D} {u : V}, RelDs K α H ds us → RelD K α H d u → RelDs K α H (ds.take n ++ d :: ds.drop n) (us.take n ++ u :: us.drop n)
  | _, _, 0, _, _, r, q => .cons q r
  | _, _, n + 1, _, _, .nil, q => .cons q .nil
  | _, _, n + 1, _, _, .cons h t, q => .cons h (RelDs.ins n t q)
section
variable {X : Cx} {o e e2 : Expr} {fo : DE} {cpos apos : Pos}
theorem se_insert {fs : DA} {n : Nat} (ho : SE X o fo) (ha : SA X [e, e2] n fs) (hbase : attributeBase o "insert" X.env (eval o X.env) = eval o X.env := by rfl)
    (hfew : ((backTo cpos (starEach [e, e2] X.env)).all (fun x => !x.1) && (backToKw cpos (keywordEach [] X.env)).all (fun x => x.1.isSome)
      && decide ([e, e2].length + ([] : List Keyword).length + (if ([] : List Keyword).isEmpty then 0 else 1) < 30)) = true := by rfl)
    (hline : (apos.endLine == cpos.line) = true := by rfl) (hs : starEach [e, e2] X.env = (false, eval e X.env) :: starEach [e2] X.env := by rfl) (hplain : (backTo cpos (starEach [e2] X.env)).any (·.1) = false := by rfl) :
    SE X (.Call (.Attribute o "insert" apos) [e, e2] [] cpos) (dInsert fo fs) :=
  PE.imp (pe_bm PySem.F.plainAttrs_list PySem.F.slot_list_insert PySem.F.type_list_insert mt_insert ho ha hbase hfew hline hs hplain) fun σ H Q ⟨π, α, δ, h, Q', R, S, f, k⟩ => by
    refine ⟨π, α, δ, h, _, R, S, f, fun d h1 α1 H1 v1 f1 e1 R1 q1 => ?_⟩
    cases q1 with
    | @ref i a hp =>
      dsimp only at f1
      cases w : h1[i]? with
      | none => rw [w] at f1; exact f1.elim
      | some ob =>
        rw [w] at f1
        cases ob with
        | lst xs =>
          obtain ⟨us, e2, e3⟩ := refL R1 hp w
          refine ⟨.inl ⟨rfl, us, SqL.of e2⟩, π, α1, δ, h1, _, R1, S.mono e1, f1, fun ds h2 α2 H2 vs f2 e2 R2 q2 l2 => ?_⟩
          split at f2
          · rename_i m y ys w2
            obtain ⟨u, u', rfl, q9, q8⟩ := q2.inv2
            cases q9
            have hp2 := e2.get hp
            obtain ⟨us2, g2, g3⟩ := refL R2 hp2 w2
            obtain ⟨⟨h0, hi, hz⟩, f2⟩ := f2
            have e4 : Ext α2 H2 α2 (upd H2 a (.lst (us2.take m.toNat ++ u' :: us2.drop m.toNat))) := Ext.write (List.mem_of_getElem? hp2)
            have gl := g3.length
            exact ⟨a, us2, m, u', rfl, rfl, g2, h0, by omega, by omega, k _ _ α2 _ _ f2 (e1.trans (e2.trans e4)) (R2.write hp2 (.lst upd_same ((g3.ins m.toNat q8).mono e4))) .non⟩
          · exact f2.elim
        | _ => exact f1.elim
    | _ => exact f1.elim
end
end DL
namespace L2
open PySem PySem.Spec PyProof.Rows
theorem lri_no_len : typeLookup (.type "list_reverseiterator") "__len__" = pure none := by rw [typeLookup_type, builtinLookup_eq_fast]; kernel_rfl
theorem lri_hint : typeLookup (.type "list_reverseiterator") "__length_hint__" = pure (some (.builtin "list_reverseiterator.__length_hint__")) := by rw [typeLookup_type, builtinLookup_eq_fast]; kernel_rfl
section
variable {prog : Program} {w : World} {A : Around} {E : Value → Shared → Prop} {s : Shared} {R : Result → Shared → Prop} {I l : Addr} {items : Array Value}
theorem hint_lri {Q : Bool → Shared → Prop} (hT : s.TypeIs (.ref I) "list_reverseiterator") (h : Q false s) : wpAny (model prog w) A (Builtin.List.listLengthHint (.ref I)) Q E s := by
  unfold Builtin.List.listLengthHint
  refine wpAny_bind (wpAny_specialOf hT lri_no_len ?_)
  show wpAny _ _ (specialOf (Value.ref I) (Str.ofString "__length_hint__") >>= _) _ _ _
  refine wpAny_bind (wpAny_specialOf hT lri_hint ?_)
  generalize hid : ("list_reverseiterator.__length_hint__" : String) = id0
  wp_delta
  rw [show splitId id0 = some ("list_reverseiterator", "__length_hint__") from by subst hid; decide +kernel]
  subst hid
  refine wpAny_bind (wpAny_isInstance (T := "list_reverseiterator") (b := true) hT (by rw [isSubtype_type]; kernel_rfl) ?_)
  refine wpAny_ite_split (fun hab => absurd hab (by decide)) (fun _ => ?_)
  refine wpAny_ite_split (fun _ => ?_) (fun hab => absurd (by decide +kernel) hab)
  refine wpAny_ite_split (fun hab => absurd hab (by decide +kernel)) (fun _ => ?_)
  exact wpAny_pure h
theorem extend_lri (hh : A.handled = none) (S : Addr) (hne : l ≠ I) (hSI : S ≠ I) (hSl : S ≠ l) (res : Value) (c₀ : Nat) (hit : s.heap.IsRevIter I l ((items.size : Int) - 1)) (hl : s.heap.IsList l items)
    (hS : s.heap.get? S = some { cls := .type "list", data := .seq #[] c₀ }) (hn : items.size ≤ sizeLine)
    (hR : ∀ s' acc' c', Moved [S, I] (fun a b => b = a) s s' → s'.heap.get? S = some { cls := .type "list", dict := none, data := .seq acc' c', slots := #[] } → ItemsOf (fun i v => items[items.size - 1 - i]? = some v) acc' items.size → R (.ok (.ret res)) s') :
    wpAny (model prog w) A.in1 (Builtin.List.listExtendWith (.ref S) (.ref I) res)
      (fun fin s' => match fin with | .done f => R (.ok f) s' | .again c' => c'.quiet = true ∧ codeAny (model prog w) A c' R s') (fun e s' => R (.error e) s') s := by
  unfold Builtin.List.listExtendWith
  refine wpAny_bind (wpAny_typeOf hit.typeIs ?_)
  have h1 : Builtin.List.listSameRef (.ref S) (.ref I) = false := by simp [Builtin.List.listSameRef, hSI]
  have h2 : (Value.type "list_reverseiterator" == Value.type "list") = false := by decide
  have h3 : (Value.type "list_reverseiterator" == Value.type "tuple") = false := by decide
  simp only [h1, h2, h3, Bool.or_false, Bool.false_eq_true, if_false]
  refine wpAny_bind (wpAny_pyIter_revIter hit ?_)
  refine wpAny_bind (wpAny_holding (hint_lri hit.typeIs ?_))
  refine wpAny_ite_split (fun hab => absurd hab (by decide +kernel)) (fun _ => ?_)
  have hSf : S ∉ [I, l] := by simp [hSI, hSl]
  refine wpAny_pure ⟨plainId_quiet PySem.F.plain_extend_loop _, codeAny_extend_loopS (Walks.listRev (prog := prog) (w := w) (A := A.in1) hh I l hne items).toS hn S hSf res items.size 0 s #[] c₀ rfl (Nat.zero_le _) ⟨Nat.zero_le _, by simpa using hit, hl⟩ hS (ItemsOf.nil _) fun s' acc' c' hm hS' hacc => hR s' acc' c' hm hS' hacc⟩
theorem init_lri (hh : A.handled = none) (S : Addr) (hne : l ≠ I) (hSI : S ≠ I) (hSl : S ≠ l) (hit : s.heap.IsRevIter I l ((items.size : Int) - 1)) (hl : s.heap.IsList l items)
    (hS : s.heap.get? S = some { cls := .type "list", data := .seq #[] }) (hn : items.size ≤ sizeLine)
    (hR : ∀ s' acc' c', Moved [S, I] (fun a b => b = a) s s' → s'.heap.get? S = some { cls := .type "list", dict := none, data := .seq acc' c', slots := #[] } → ItemsOf (fun i v => items[items.size - 1 - i]? = some v) acc' items.size → R (.ok (.ret .none)) s') :
    wpAny (model prog w) A.in1 (Builtin.«list.__init__» ⟨[.ref S, .ref I], []⟩)
      (fun fin s' => match fin with | .done f => R (.ok f) s' | .again c' => c'.quiet = true ∧ codeAny (model prog w) A c' R s') (fun e s' => R (.error e) s') s := by
  show wpAny _ A.in1 (do let old ← Builtin.List.listItems (.ref S); Builtin.List.listUpdate (.ref S) (fun _ => #[]); letGo old.toList.reverse; Builtin.List.listExtendWith (.ref S) (.ref I) .none) _ _ s
  refine wpAny_bind ?_
  unfold Builtin.List.listItems
  refine wpAny_bind (wpAny_seqItems hS rfl (wpAny_pure ?_))
  show wpAny _ A.in1 (updateSeq S (fun _ => #[]) >>= fun _ => letGo (#[] : Array Value).toList.reverse >>= fun _ => Builtin.List.listExtendWith (.ref S) (.ref I) .none) _ _ s
  refine wpAny_bind (wpAny_updateSeq hS rfl ?_)
  have hS₂ := Heap.get?_update_self (Obj.mapSeq (fun _ => (#[] : Array Value))) hS rfl
  have oth : ∀ b o, b ≠ S → s.heap.get? b = some o → (s.heap.update S (Obj.mapSeq (fun _ => (#[] : Array Value)))).get? b = some o :=
    fun b o hb e => (Heap.get?_update_other _ _ (Ne.symm hb)).trans e
  refine wpAny_bind (wpAny_letGo ?_)
  refine extend_lri (s := { s with heap := s.heap.update S (Obj.mapSeq (fun _ => (#[] : Array Value))) }) hh S hne hSI hSl .none _ (hit.at fun o e => oth I o (Ne.symm hSI) e) (hl.at fun o e => oth l o (Ne.symm hSl) e) hS₂ hn fun s' acc' c' hm hS' hacc => ?_
  refine hR s' acc' c' ⟨fun b o hb e => hm.heap b o hb (oth b o (fun z => hb (by rw [z]; exact List.mem_cons_self)) e), hm.gens, hm.drawn, hm.os, hm.toks⟩ hS' hacc
theorem list_lri {Q : Value → Shared → Prop} (hh : A.handled = none) (hne : l ≠ I) (hit : s.heap.IsRevIter I l ((items.size : Int) - 1)) (hl : s.heap.IsList l items) (hn : items.size ≤ sizeLine)
    (h : ∀ h' tk (acc : Array Value) c, (∀ b o, b ≠ I → s.heap.get? b = some o → h'.get? b = some o) → h'.get? s.heap.objs.size = some { cls := .type "list", dict := none, data := .seq acc c, slots := #[] } → acc.toList = items.toList.reverse → Q (.ref s.heap.objs.size) { s with heap := h', toks := tk }) :
    wpAny (model prog w) A (call (.type "list") [.ref I]) Q E s := by
  refine callType_codes (Q₁ := fun obj s₁ => obj = .ref s.heap.objs.size ∧ s₁ = { s with heap := s.heap.push { cls := .type "list", data := .seq #[] } }) PySem.F.called_list (PySem.F.typeCall_list_1 _) PySem.F.entry_list_init
    (code_list_new _ ⟨rfl, rfl⟩) fun obj s₁ h₁ => ?_
  obtain ⟨rfl, rfl⟩ := h₁
  have hS : (s.heap.push { cls := .type "list", data := .seq #[] }).get? s.heap.objs.size = some { cls := .type "list", data := .seq #[] } := Heap.get?_push_size _ rfl
  have l1 : I < s.heap.objs.size := let ⟨_, e, _⟩ := hit; Heap.lt_size e
  have l2 : l < s.heap.objs.size := let ⟨_, e, _⟩ := hl; Heap.lt_size e
  refine ⟨⟨_, hS, rfl⟩, PySem.F.args_list_init_2 _ _, init_lri (A := A.in1) (s := { s with heap := s.heap.push { cls := .type "list", data := .seq #[] } }) hh s.heap.objs.size hne (Nat.ne_of_gt l1) (Nat.ne_of_gt l2) (hit.at fun o e => Heap.get?_push_of_some _ e) (hl.push _) hS hn fun s' acc c' hm hS' hacc => ⟨rfl, ?_⟩⟩
  obtain ⟨h', g', d', tk', os'⟩ := s'
  have eg : g' = s.gens := hm.gens
  have ed : d' = s.drawn := hm.drawn
  have eo : os' = s.os := hm.os
  subst eg; subst ed; subst eo
  refine h h' tk' acc c' (fun b o hb e => hm.heap b o (by simp only [List.mem_cons, List.not_mem_nil, or_false, not_or]; exact ⟨Nat.ne_of_lt (Heap.lt_size e), hb⟩) (Heap.get?_push_of_some _ e)) hS' ?_
  refine List.ext_getElem (by simp [hacc.1]) fun i h1 h2 => ?_
  have hi : i < acc.size := by simpa using h1
  have := hacc.2 i acc[i] (Array.getElem?_eq_getElem hi)
  obtain ⟨z1, z2⟩ := Array.getElem?_eq_some_iff.mp this
  rw [List.getElem_reverse]
  simp [z2]
end
noncomputable def tListRev (K : PySem.W.Frag) (t : TA) : TE := fun σ H Q => t σ H fun vs H1 => ∃ a us, vs = [.ref a] ∧ SqL K H1 a us ∧ ∀ l, H1 l = none → Q (.ref l) (upd H1 l (.lst us.reverse))
theorem vals_rev : ∀ {xs : List V} {us : List Value}, Vals xs us → Vals xs.reverse us.reverse
  | _, _, .nil => .nil
  | _, _, .cons h t => by rw [List.reverse_cons, List.reverse_cons]; exact (vals_rev t).append (.cons h .nil)
section
variable {X : Cx} {e : Expr} {t : TA} {p p2 pos pos2 : Pos}
theorem pe_listRev (hc : X.calm = true) (hg : Gl X "list") (hm : X.mg "list" = none) (hg2 : Gl X "reversed") (hm2 : X.mg "reversed" = none) (ha : PA X [e] t) (he : starEach [e] X.env = (false, eval e X.env) :: starEach [] X.env := by rfl)
    (he2 : starEach [.Call (.Name "reversed" p2) [e] [] pos2] X.env = (false, eval (.Call (.Name "reversed" p2) [e] [] pos2) X.env) :: starEach [] X.env := by rfl) (hpl : (backTo pos2 (starEach [] X.env)).any (·.1) = false := by rfl) (hpl2 : (backTo pos (starEach [] X.env)).any (·.1) = false := by rfl) :
    PE X (.Call (.Name "list" p) [.Call (.Name "reversed" p2) [e] [] pos2] [] pos) (tListRev X.K t) := by
  intro pins s σ H Q I h
  refine wpAny_Call_Name_kw (ld_blt I hg hm boot_list ?_ (by decide) (by decide))
  refine PyProof.Rows.callWith_type1 ?_ he2 hpl2
  rw [he2]
  show wpAny _ _ (spliced ((false, eval (.Call (.Name "reversed" p2) [e] [] pos2) X.env) :: backTo pos (starEach [] X.env))) _ _ s
  refine Calls.spliced_cons ?_
  refine wpAny_Call_Name_kw (ld_blt I hg2 hm2 boot_reversed ?_ (by decide) (by decide))
  refine PyProof.Rows.callWith_type1 (thn (ha pos2 pins s σ H _ I h) fun us s1 ⟨vs, H1, I1, r1, q1⟩ => ?_) he hpl
  obtain ⟨a, xs, rfl, hq, q⟩ := q1
  obtain ⟨u, rfl, rx⟩ := vals1 r1
  cases rx
  obtain ⟨its, r, pl, hz⟩ := I1.list hq
  refine call_reversed_list pl.isList ?_
  refine Calls.spliced_nil ?_
  have lt : a < s1.heap.objs.size := let ⟨_, e, _⟩ := pl.isList; Heap.lt_size e
  refine list_lri (s := { s1 with heap := s1.heap.push (revObj a ((its.toArray.size : Int) - 1)) }) (I1.ok.hd hc) (Nat.ne_of_lt lt) ⟨_, Heap.get?_push_size _ rfl, rfl, rfl⟩ (pl.isList.push _) (by rw [List.size_toArray, ← r.length]; exact hz) fun h' tk acc c kp e ea => ?_
  have eo : acc = (its.reverse).toArray := by rw [← ea]
  refine ⟨.ref (s1.heap.push (revObj a ((its.toArray.size : Int) - 1))).objs.size, _, I1.laid (t' := tk) (fun b o eb => kp b o (Nat.ne_of_lt (Heap.lt_size eb)) (Heap.get?_push_of_some _ eb)) (by rw [Heap.size_push]; exact Nat.le_succ _) (show ObjOk X.prog X.w _ h' _ (.lst xs.reverse) from ⟨by rw [List.length_reverse]; exact hz, its.reverse, c, vals_rev r, by rw [← eo]; exact e⟩), rfl, q _ (I1.hok.fresh (by rw [Heap.size_push]; exact Nat.le_succ _))⟩
end
end L2
namespace DL
open PySem PySem.Spec L2
noncomputable def dListRev (f : DA) : DN := fun δ h Q => f δ h fun ds h1 => match ds with | [d] => (match lsOf h1 d with | some xs => Q xs.reverse h1 | none => False) | _ => False
section
variable {X : Cx} {e : Expr} {p p2 pos pos2 : Pos} {n : Nat} {f : DA}
theorem sn_listRev (hc : X.calm = true) (hg : Gl X "list") (hm : X.mg "list" = none) (hg2 : Gl X "reversed") (hm2 : X.mg "reversed" = none) (ha : SA X [e] n f) (he : starEach [e] X.env = (false, eval e X.env) :: starEach [] X.env := by rfl)
    (he2 : starEach [.Call (.Name "reversed" p2) [e] [] pos2] X.env = (false, eval (.Call (.Name "reversed" p2) [e] [] pos2) X.env) :: starEach [] X.env := by rfl) (hpl : (backTo pos2 (starEach [] X.env)).any (·.1) = false := by rfl) (hpl2 : (backTo pos (starEach [] X.env)).any (·.1) = false := by rfl) :
    SN X (.Call (.Name "list" p) [.Call (.Name "reversed" p2) [e] [] pos2] [] pos) (dListRev f) := PE.imp (pe_listRev hc hg hm hg2 hm2 ha he he2 hpl hpl2) fun σ H Q ⟨π, α, δ, h, Q', R, S, f, k⟩ => by
  refine ⟨π, α, δ, h, _, R, S, f, fun ds h1 α1 H1 vs f1 e1 R1 q1 l1 => ?_⟩
  split at f1
  · rename_i d
    obtain ⟨v, rfl, rd⟩ := q1.inv1
    cases w : lsOf h1 d with
    | none => rw [w] at f1; exact f1.elim
    | some ys =>
      rw [w] at f1
      obtain ⟨p, us, rfl, b, c⟩ := lsOf_sq R1 rd w
      exact ⟨p, us, rfl, b, fun l hl => LN.last (h := h) k f1 e1 R1 c.rev hl⟩
  · exact f1.elim
end
end DL
namespace L2
open PySem PySem.Spec PyProof.Rows
noncomputable def tTryN (K : PySem.W.Frag) (CB : Addr) (tb : Ends → XK → St → Hp → Prop) (th : TS) : TS := fun D σ H => tb D (fun cls _ H' => ∃ C, cls = .ref C ∧ PySem.W.exmOne K cls (.ref CB) = some true ∧ th D σ H') σ H
section
variable {X : Cx} {st b₀ : Stmt} {suite : List Stmt} {tb : Ends → XK → St → Hp → Prop} {th : TS} {cx : Str} {CB : Addr} {cp hpos pos : Pos}
theorem ps_tryN (hst : X.stack = X.env :: X.outer ∧ X.env.frame = some X.env.locals) (hxe : ∀ e s, ¬ X.xe e s) (hb : PSX X st tb) (hgc : Gl X cx) (hmc : X.mg cx = some (.ref CB))
    (hB : ∀ a, PSs (X.hnd a) (b₀ :: suite) th) (hdb : (cx == ("__debug__" : Str)) = false := by decide) :
    PS X (.Try [st] [.ExceptHandler (some (.Name cx cp)) none (b₀ :: suite) hpos] [] [] pos) (tTryN X.K CB tb th) := by
  intro pins s σ H D I h
  refine wpAny_Try_except ?_
  have hb' := hb pins s σ H D _ I h
  refine wpAny_execs_cons (wpAny_mono hb' (fun f s1 q => ?_) fun x s' hx => ?_)
  · cases f with
    | next => exact wpAny_execs_nil (wpAny_execs_nil q)
    | ret v => exact q
    | brk => exact q
    | cont => exact q
  rcases hx with hx | ⟨H1, s1, I1, a, cls, dx, t, H', rfl, os, bare, un, hok, ex, wa, ha, wt, ht, C, rfl, exm, kk⟩
  · exact absurd hx (hxe _ _)
  have I2 : Inv X pins σ H' s' := I1.call' (ch := []) os un hok bare (fun b z => absurd z (by simp))
  have aw := I1.away wa
  have tw := I1.away wt
  refine note_ok (base := X.base) (outer := X.outer) (by rw [I2.ok.frames, hst.1]) (by have := I2.stack; rw [hst.1] at this; exact this) hst.2 ex (.inl rfl) fun h1 t1 c1 ht1 e1 => ?_
  rw [← hst.1] at c1
  have I3 := I2.chg c1 ha (fun t' h => by cases h; exact ht) aw (fun t' h => by cases h; exact tw)
  have wt1 : Away X pins t1 ∧ H' t1 = none := by
    rcases ht1 with z | z
    · cases z; exact ⟨tw, ht⟩
    · exact ⟨I2.away z, I2.hok.fresh z⟩
  refine flight_ok (s := { s' with heap := h1 }) e1 fun h2 k1 k2 e2 => ?_
  have c2 : Chg (frs X.stack) a (some t1) h1 h2 := flight_chg (fun b o e n => k1 b o rfl e n) k2
  have I4 := I3.chg (a := a) (T := some t1) c2 ha (fun t' h => by cases h; exact wt1.2) aw (fun t' h => by cases h; exact wt1.1)
  refine wpAny_handleBy_cons (codeAny_handlers_test ?_) (by intro q; cases q)
  refine ld_glob (X := X.hnd a) (I4.hnd a) hgc hmc ?_ hdb
  have LT : PySem.W.Looks (model X.prog X.w) h2 (typeOf (.ref a)) (.ref C) := by
    obtain ⟨⟨o, vs, z1, z2, _⟩, _⟩ := e2
    rw [← z2]
    exact (PySem.W.Looks.ld z1).andThen .now
  refine (PySem.W.exm_one (M := model X.prog X.w) (h := h2) I4.kIn LT exm).here ?_
  refine codeAny_handlers_suite ?_
  refine flight_ok (s := { s' with heap := h2 }) e2 fun h3 k3 k4 e3 => ?_
  have c3 : Chg (frs X.stack) a (some t1) h2 h3 := flight_chg (fun b o e n => k3 b o rfl e n) k4
  have I5 := I4.chg (a := a) (T := some t1) c3 ha (fun t' h => by cases h; exact wt1.2) aw (fun t' h => by cases h; exact wt1.1)
  refine wpAny_mono (hB a pins _ _ _ _ (I5.hnd a) kk) (fun f s8 q => ?_) fun _ _ z => z.elim
  have ok := I.ok
  cases f with
  | next => obtain ⟨σ', H'', J, q⟩ := q; exact ⟨_, H'', J.unhnd ok, q⟩
  | brk => obtain ⟨σ', H'', J, q⟩ := q; exact ⟨_, H'', J.unhnd ok, q⟩
  | cont => obtain ⟨σ', H'', J, q⟩ := q; exact ⟨_, H'', J.unhnd ok, q⟩
  | ret u => obtain ⟨v, σ', H'', J, r, q⟩ := q; exact ⟨v, _, H'', J.unhnd ok, r, q⟩
end
end L2
namespace DL
open PySem PySem.Spec L2
noncomputable def dTryN (g : DSpX) (fa : DA) (cn : Str) (bh : DS) : DS := fun En δ h => fa δ h fun ds h1 => g ds h1 (fun _ h2 => En.nx δ h2) (fun c _ h2 => c = cn ∧ bh En δ h2)
section
variable {X : Cx} {k m : Nat} {ps : List Str} {g : DSpX} {x cx cn : Str} {p pos cpos cp hpos tpos : Pos} {e : Expr} {es : List Expr} {l : Nat} {fa : DA} {b₀ : Stmt} {suite : List Stmt} {bh : DS}
theorem s_tryN (hst : X.stack = X.env :: X.outer ∧ X.env.frame = some X.env.locals) (hxe : ∀ e s, ¬ X.xe e s)
    (c : CalX X.prog X.w X.K X.mg X.base k x ps (spX X.K m g)) (hr : Room k X.A) (hg : Gl X x) (ha : SA X (e :: es) l fa) (hc : CatchX X.K X.mg cx cn) (hgc : Gl X cx) (hB : ∀ a, SSs (X.hnd a) (b₀ :: suite) bh) (hl : l = m := by rfl) (hdb : (x == ("__debug__" : Str)) = false := by decide) (hdc : (cx == ("__debug__" : Str)) = false := by decide)
    (he : starEach (e :: es) X.env = (false, eval e X.env) :: starEach es X.env := by rfl) (hpl : (backTo cpos (starEach es X.env)).any (·.1) = false := by rfl) (hs : swapsWith (.Call (.Name x p) (e :: es) [] cpos) none pos.line X.env = pure false := by rfl) :
    SS X (.Try [.Expr (.Call (.Name x p) (e :: es) [] cpos) pos] [.ExceptHandler (some (.Name cx cp)) none (b₀ :: suite) hpos] [] [] tpos) (dTryN g fa cn bh) := by
  obtain ⟨CB, hmc, hex⟩ := hc.ex
  obtain ⟨f, fd, F, hm, hkp, hb⟩ := c.ex
  refine PS.imp (ps_tryN (th := LS X.K X.ex9 bh) hst hxe (psx_expr (pex_call F hr hg hm hkp hb ha hdb he hpl) hs) hgc hmc hB hdc) fun F σ H ⟨π, α, δ, h, En, R, S, q, k⟩ => ?_
  refine ⟨π, α, δ, h, _, R, S, q, fun ds h1 α1 H1 vs f1 e1 R1 q1 l1 => ?_⟩
  refine ⟨π, α1, h1, ds, _, _, R1, q1, l1.trans hl, f1, fun d h' α' H' v a b c d' => k.nx _ h' α' H' _ a (e1.trans b) c (S.mono (e1.trans b)), ?_⟩
  rintro c fs h2 α2 H2 C dx ⟨rfl, b⟩ e2 R2 hns hve
  exact ⟨C, rfl, hex C hns, π, α2, _, h2, En, R2, S.mono (e1.trans e2), b, k.mono (e1.trans e2)⟩
end
structure CalXF (P : Program) (w : World) (K : PySem.W.Frag) (mg : Str → Option Value) (base : Heap) (k : Nat) (x : Str) (ps : List Str) (sp : Sp) (is : List Int) : Prop where
  ex : ∃ (f : Addr) (fd : FuncData) (ds : List Value), FnOk P w K mg base (CXE P w) k f fd ps sp ∧ mg x = some (.ref f) ∧ PySem.W.keepIn K (.ref f) = true ∧ Binds K fd ps ds ∧ Vals (is.map V.int) ds
section
variable {X : Cx} {k m n : Nat} {ps : List Str} {g : DSpX} {x : Str} {p pos : Pos} {e : Expr} {es : List Expr} {f : DA} {is : List Int}
theorem se_calXF (c : CalXF X.prog X.w X.K X.mg X.base k x ps (spX X.K m g) is) (hr : Room k X.A) (hg : Gl X x) (ha : SA X (e :: es) n f) (hn : n + is.length = m := by rfl) (hdb : (x == ("__debug__" : Str)) = false := by decide)
    (he : starEach (e :: es) X.env = (false, eval e X.env) :: starEach es X.env := by rfl) (hpl : (backTo pos (starEach es X.env)).any (·.1) = false := by rfl) : SE X (.Call (.Name x p) (e :: es) [] pos) (dCalF (fun ds h Q => g ds h Q fun _ _ _ => False) is f) := by
  obtain ⟨fa, fd, ds, F, hm, hk, hb, hv⟩ := c.ex
  refine PE.imp (pe_call F hr hg hm hk hb hv pass0X ha hdb he hpl) fun σ H Q ⟨π, α, δ, h, Q', R, S, f, k⟩ => ?_
  refine ⟨π, α, δ, h, _, R, S, f, fun ds h1 α1 H1 vs f1 e1 R1 q1 l1 => ?_⟩
  show spX X.K m g (vs ++ is.map V.int) H1 Q E0
  exact ⟨π, α1, h1, ds ++ is.map D.int, Q', _, R1, q1.append (RelDs.intsF is), by rw [List.length_append, List.length_map, l1]; exact hn, f1, fun d h' α' H' v a b c d' => k d h' α' H' v a (e1.trans b) c d', fun _ _ _ _ _ _ _ a _ _ _ => a.elim⟩
end
end DL
namespace CM
open PySem L2 DL
theorem while_d {t : DT} {b : DS} {E : DEnds} (P : Nat → Sl → Hh → Prop) {m : Nat} {δ : Sl} {h : Hh} (h0 : P m δ h) (step : ∀ m δ h (N : Sl → Hh → Prop), P m δ h → (∀ m' δ' h', m' < m → P m' δ' h' → N δ' h') → t δ h fun c h1 => if c = true then b { E with nx := N, ct := N, bk := E.nx } δ h1 else E.nx δ h1) : dWhile t b E δ h := by
  refine ⟨m + 1, ?_⟩
  have key : ∀ n m δ h, m < n → P m δ h → whN t b E n δ h := by
    intro n
    induction n with
    | zero => intro m δ h hm; exact absurd hm (Nat.not_lt_zero _)
    | succ n ih =>
      intro m δ h hm hp
      exact step m δ h _ hp fun m' δ' h' hm' hp' => ih m' δ' h' (Nat.lt_of_lt_of_le hm' (Nat.le_of_lt_succ hm)) hp'
  exact key _ m δ h (Nat.lt_succ_self _) h0
theorem takes_mk {C : Chart} {f n p d e : Nat} {w : Mv} {F : Fn} {E : Edge} (hF : C[f]? = some F) (hE : F.edges[n]? = some E) (h1 : (E.isStep == (w == .step)) = true) (h2 : E.p = p) (h3 : br (E.tab w) d e = true) : takes C f p d w (n : Int) (e : Int) = some E := by
  have : edgeAt C f (n : Int) = some E := by unfold edgeAt; rw [if_pos (by omega), hF, Int.toNat_natCast]; exact hE
  unfold takes; rw [this]; exact if_pos ⟨h1, h2, h3⟩
theorem ahead_nat {cs : List Clm} {k : Nat} {c : Clm} (h : cs[k]? = some c) : ahead cs (k : Int) = some c := by
  unfold ahead; rw [if_pos (by omega), Int.toNat_natCast]; exact h
theorem cl_mv {C : Chart} {cs : List Clm} {w : Mv} {k n e : Int} {f a p d c : Nat} (st : Nat) (hw : w ≠ .inn) (h : ahead cs k = some (.within f a p d c)) : claimOf C st cs (.mv w k n e) = (takes C f p d w n e).map fun E => .within f a E.q e.toNat (c + E.cost) := by
  cases w with
  | inn => exact absurd rfl hw
  | step => simp only [claimOf, h]
  | over => simp only [claimOf, h]
theorem cl_in {C : Chart} {cs : List Clm} {k n e : Int} {f p d c : Nat} (st : Nat) (h : ahead cs k = some (.at f p d c)) : claimOf C st cs (.mv .inn k n e) = (takes C f p d .inn n e).bind fun E => match E.k with | .call g _ _ _ => some (.at g 0 e.toNat (c + E.cost)) | _ => none := by
  simp only [claimOf, h] <;> rfl
theorem cl_short {C : Chart} {cs : List Clm} {k n j e : Int} {f a p d c g b x y c' : Nat} (st : Nat) (h1 : ahead cs k = some (.within f a p d c)) (h2 : ahead cs j = some (.within g b x y c')) : claimOf C st cs (.short k n j e) = (takes C f p d .inn n b).bind fun E => match E.k with
      | .call g' _ bk _ => (C[g']?).bind fun G => if g' = g ∧ x + 1 = G.places ∧ br bk y e = true then some (.within f a E.q e.toNat (c + E.cost + c')) else none
      | _ => none := by
  simp only [claimOf, h1, h2] <;> rfl
theorem cl_along {C : Chart} {cs : List Clm} {k j : Int} {f a c q d c' : Nat} (st : Nat) (h1 : ahead cs k = some (.at f 0 a c)) (h2 : ahead cs j = some (.within f a q d c')) : claimOf C st cs (.along k j) = some (.at f q d (c + c')) := by
  simp only [claimOf, h1, h2, true_and, and_self, if_true]
theorem cl_begin {C : Chart} {cs : List Clm} {F : Fn} {f d : Nat} (st : Nat) (hF : C[f]? = some F) (hl : d < F.facts) : claimOf C st cs (.begin f d) = some (.within f d 0 d 0) := by
  simp only [claimOf, Int.toNat_natCast, hF]
  rw [if_pos ⟨by omega, by omega⟩]
  show (if ((d : Nat) : Int) < F.facts then some (Clm.within f d 0 d 0) else none) = _
  rw [if_pos (by omega)]
theorem allClaims_snoc {C : Chart} {st : Nat} {r : Row} {c : Clm} : ∀ {rs : List Row} {cs ds : List Clm}, allClaims C st rs cs = some ds → claimOf C st ds r = some c → allClaims C st (rs ++ [r]) cs = some (ds ++ [c])
  | [], cs, ds, h, k => by cases h; show (claimOf C st cs r).bind _ = _; rw [k]; rfl
  | r' :: rs, cs, ds, h, k => by
    have h : ((claimOf C st cs r').bind fun c => allClaims C st rs (cs ++ [c])) = some ds := h
    show ((claimOf C st cs r').bind fun c => allClaims C st (rs ++ [r]) (cs ++ [c])) = _
    cases q : claimOf C st cs r' with
    | none => rw [q] at h; cases h
    | some c' => rw [q] at h; exact allClaims_snoc (rs := rs) h k
theorem br_nat {t : List Nat} {d e : Nat} (h : (t.getD d 0).testBit e = true) : br t d (e : Int) = true := by
  unfold br; rw [decide_eq_true (by omega), Int.toNat_natCast]; simpa using h
theorem cl_start' {C : Chart} {cs : List Clm} {F : Fn} {st d : Nat} (hF : C[0]? = some F) (hl : d < F.facts) (hb : st.testBit d = true) : claimOf C st cs (.start d) = some (.at 0 0 d 0) := by
  simp only [claimOf, hF]
  rw [if_pos (by omega)]
  show (if ((d : Nat) : Int) < F.facts ∧ st.testBit ((d : Nat) : Int).toNat = true then some (Clm.at 0 0 ((d : Nat) : Int).toNat 0) else none) = _
  rw [Int.toNat_natCast, if_pos ⟨by omega, hb⟩]
inductive Part where | row (j : Nat) | mv (m : GM)
noncomputable def ptD : Part → D | .row j => nD j | .mv m => gmD m
noncomputable def pF (ws : List (List GM)) : Part → List GM | .row j => ws.getD j [] | .mv m => [m]
noncomputable def pW (vs : List Nat) : Part → Nat | .row j => vs.getD j 0 | .mv _ => 1
noncomputable def pC (M : Nat) (ws : List (List GM)) : Part → Nat | .row j => min (ws.getD j []).length M | .mv _ => 1
noncomputable def flat (ws : List (List GM)) (p : List Part) : List GM := p.flatMap (pF ws)
noncomputable def wt (vs : List Nat) (p : List Part) : Nat := (p.map (pW vs)).sum
noncomputable def cnt (M : Nat) (ws : List (List GM)) (p : List Part) : Nat := (p.map (pC M ws)).sum
noncomputable def rowsLt (n : Nat) (p : List Part) : Prop := ∀ j, Part.row j ∈ p → j < n
inductive Fl : List (List Part) → List (List GM) → List Nat → Prop
  | nil : Fl [] [] []
  | snoc {ps ws vs p} : Fl ps ws vs → rowsLt ps.length p → Fl (ps ++ [p]) (ws ++ [flat ws p]) (vs ++ [1 + wt vs p])
theorem Fl.lens {ps ws vs} (f : Fl ps ws vs) : ws.length = ps.length ∧ vs.length = ps.length := by
  induction f with
  | nil => exact ⟨rfl, rfl⟩
  | snoc _ _ ih => simp [ih.1, ih.2]
theorem getD_snoc {α : Type} {xs : List α} {x d : α} {j : Nat} (h : j < xs.length) : (xs ++ [x]).getD j d = xs.getD j d := by
  rw [List.getD_eq_getElem?_getD, List.getD_eq_getElem?_getD, List.getElem?_append_left h]
theorem getD_last {α : Type} {xs : List α} {x d : α} : (xs ++ [x]).getD xs.length d = x := by
  rw [List.getD_eq_getElem?_getD, List.getElem?_append_right (Nat.le_refl _)]; simp
theorem flat_snoc {ws : List (List GM)} {w : List GM} {p : List Part} (h : rowsLt ws.length p) : flat (ws ++ [w]) p = flat ws p := by
  unfold flat
  induction p with
  | nil => rfl
  | cons x p ih =>
    rw [List.flatMap_cons, List.flatMap_cons, ih fun j hj => h j (List.mem_cons_of_mem _ hj)]
    cases x with
    | mv m => rfl
    | row j => show (ws ++ [w]).getD j [] ++ _ = ws.getD j [] ++ _; rw [getD_snoc (h j List.mem_cons_self)]
theorem wt_snoc {vs : List Nat} {v : Nat} {p : List Part} (h : rowsLt vs.length p) : wt (vs ++ [v]) p = wt vs p := by
  unfold wt
  congr 1
  refine List.map_congr_left fun x hx => ?_
  cases x with
  | mv m => rfl
  | row j => exact getD_snoc (h j hx)
theorem Fl.get {ps ws vs} (f : Fl ps ws vs) : ∀ {k : Nat} {p : List Part}, ps[k]? = some p → ws[k]? = some (flat ws p) ∧ vs[k]? = some (1 + wt vs p) ∧ rowsLt k p := by
  induction f with
  | nil => intro k p h; simp at h
  | @snoc ps ws vs p0 f hp ih =>
    intro k p h
    obtain ⟨l1, l2⟩ := f.lens
    have hk : k < ps.length + 1 := by have := (List.getElem?_eq_some_iff.mp h).1; simpa using this
    by_cases z : k < ps.length
    · rw [List.getElem?_append_left z] at h
      obtain ⟨a, b, c⟩ := ih h
      rw [List.getElem?_append_left (by omega), List.getElem?_append_left (by omega), flat_snoc (fun j hj => by have := c j hj; omega), wt_snoc (fun j hj => by have := c j hj; omega)]
      exact ⟨a, b, c⟩
    · obtain rfl : k = ps.length := by omega
      rw [List.getElem?_append_right (Nat.le_refl _)] at h
      simp at h
      subst h
      rw [flat_snoc (by rw [l1]; exact hp), wt_snoc (by rw [l2]; exact hp), List.getElem?_append_right (by omega), List.getElem?_append_right (by omega)]
      simp [l1, l2]
      exact hp
theorem cap_add {a s t M : Nat} (h : min s M = min t M) : min (a + s) M = min (a + t) M := by
  rcases Nat.le_total M s with h1 | h1
  · rw [Nat.min_eq_right h1] at h
    have h2 : M ≤ t := by rcases Nat.le_total M t with z | z; exact z; rw [Nat.min_eq_left z] at h; rw [h]; exact Nat.le_refl _
    rw [Nat.min_eq_right (Nat.le_trans h1 (Nat.le_add_left ..)), Nat.min_eq_right (Nat.le_trans h2 (Nat.le_add_left ..))]
  · rw [Nat.min_eq_left h1] at h
    rcases Nat.le_total M t with h2 | h2
    · rw [Nat.min_eq_right h2] at h
      rw [h, Nat.min_eq_right (Nat.le_add_left ..), Nat.min_eq_right (Nat.le_trans h2 (Nat.le_add_left ..))]
    · rw [Nat.min_eq_left h2] at h; rw [h]
theorem cap_min {a t M : Nat} : min (min a M + t) M = min (a + t) M := by
  rcases Nat.le_total M a with h1 | h1
  · rw [Nat.min_eq_right h1, Nat.min_eq_right (Nat.le_add_right ..), Nat.min_eq_right (Nat.le_trans h1 (Nat.le_add_right ..))]
  · rw [Nat.min_eq_left h1]
theorem cnt_cap (M : Nat) (ws : List (List GM)) (p : List Part) : min (cnt M ws p) M = min (flat ws p).length M := by
  unfold cnt flat
  induction p with
  | nil => rfl
  | cons x p ih =>
    rw [List.map_cons, List.sum_cons, List.flatMap_cons, List.length_append]
    cases x with
    | mv m => exact cap_add ih
    | row j => exact cap_min.trans (cap_add ih)
theorem Fl.wt_len {ps ws vs} (f : Fl ps ws vs) {p : List Part} (h : rowsLt ps.length p) : p.length ≤ wt vs p := by
  unfold wt
  induction p with
  | nil => exact Nat.zero_le _
  | cons x p ih =>
    have := ih fun j hj => h j (List.mem_cons_of_mem _ hj)
    rw [List.map_cons, List.sum_cons, List.length_cons]
    have h1 : 1 ≤ pW vs x := by
      cases x with
      | mv m => exact Nat.le_refl 1
      | row j =>
        have hj := h j List.mem_cons_self
        obtain ⟨_, b, _⟩ := f.get (List.getElem?_eq_getElem hj)
        show 1 ≤ vs.getD j 0
        rw [List.getD_eq_getElem?_getD, b]; simp
    omega
noncomputable def aOf (cs : List Clm) (j : Int) : Nat := match cs[j.toNat]? with | some (.within _ a _ _ _) => a | _ => 0
noncomputable def partsOf (cs : List Clm) : Row → List Part
  | .begin _ _ => []
  | .start _ => []
  | .along k j => [.row k.toNat, .row j.toNat]
  | .mv w k n e => [.row k.toNat, .mv (.go w n e)]
  | .short k n j e => [.row k.toNat, .mv (.go .inn n (aOf cs j)), .row j.toNat, .mv (.out e)]
noncomputable def fitR (cs : List Clm) : Row → Prop
  | .begin _ _ => True
  | .start _ => True
  | .along k j => 0 ≤ k ∧ 0 ≤ j
  | .mv _ k _ _ => 0 ≤ k
  | .short k _ j _ => 0 ≤ k ∧ 0 ≤ j ∧ ∃ f a p d c, cs[j.toNat]? = some (.within f a p d c)
theorem fitR.snoc {cs : List Clm} {r : Row} (c : Clm) (h : fitR cs r) : fitR (cs ++ [c]) r ∧ partsOf (cs ++ [c]) r = partsOf cs r := by
  cases r with
  | short k n j e =>
    obtain ⟨a, b, f, a', p, d, c', z⟩ := h
    have z' : (cs ++ [c])[j.toNat]? = some (.within f a' p d c') := by rw [List.getElem?_append_left (List.getElem?_eq_some_iff.mp z).1]; exact z
    refine ⟨⟨a, b, f, a', p, d, c', z'⟩, ?_⟩
    simp only [partsOf, aOf, z, z']
  | _ => exact ⟨h, rfl⟩
structure PP (C : Chart) (d : Nat) (rs : List Row) (cs : List Clm) (ws : List (List GM)) (vs : List Nat) : Prop where
  cl : ∀ st, st.testBit d = true → allClaims C st rs [] = some cs
  len : cs.length = rs.length
  fl : Fl (rs.map (partsOf cs)) ws vs
  fit : ∀ r ∈ rs, fitR cs r
theorem PP.lens {C d rs cs ws vs} (p : PP C d rs cs ws vs) : ws.length = rs.length ∧ vs.length = rs.length := by
  have := p.fl.lens; simpa using this
theorem PP.nil (C : Chart) (d : Nat) : PP C d [] [] [] [] := ⟨fun _ _ => rfl, rfl, .nil, fun _ h => nomatch h⟩
theorem PP.snoc {C d rs cs ws vs} (p : PP C d rs cs ws vs) {r : Row} {c : Clm} (h : ∀ st, st.testBit d = true → claimOf C st cs r = some c) (f : fitR cs r) (l : rowsLt rs.length (partsOf cs r)) :
    PP C d (rs ++ [r]) (cs ++ [c]) (ws ++ [flat ws (partsOf cs r)]) (vs ++ [1 + wt vs (partsOf cs r)]) := by
  refine ⟨fun st hs => allClaims_snoc (p.cl st hs) (h st hs), by simp [p.len], ?_, fun r' hr => ?_⟩
  · have e : (rs ++ [r]).map (partsOf (cs ++ [c])) = rs.map (partsOf cs) ++ [partsOf cs r] := by
      rw [List.map_append, List.map_cons, List.map_nil, (f.snoc c).2]
      congr 1
      exact List.map_congr_left fun x hx => ((p.fit x hx).snoc c).2
    rw [e]
    exact .snoc p.fl (by rw [List.length_map]; exact l)
  · rcases List.mem_append.mp hr with z | z
    · exact ((p.fit r' z).snoc c).1
    · rw [List.mem_singleton.mp z]; exact (f.snoc c).1
section
variable {C : Chart} {d : Nat} {rs : List Row} {cs : List Clm} {ws : List (List GM)} {vs : List Nat} {F : Fn}
theorem PP.begin (p : PP C d rs cs ws vs) (hF : C[0]? = some F) (hd : d < F.facts) : PP C d (rs ++ [.begin 0 d]) (cs ++ [.within 0 d 0 d 0]) (ws ++ [[]]) (vs ++ [1]) :=
  p.snoc (fun st _ => cl_begin (f := 0) st hF hd) trivial (fun _ h => nomatch h)
theorem PP.start (p : PP C d rs cs ws vs) (hF : C[0]? = some F) (hd : d < F.facts) : PP C d (rs ++ [.start d]) (cs ++ [.at 0 0 d 0]) (ws ++ [[]]) (vs ++ [1]) :=
  p.snoc (fun _ hs => cl_start' hF hd hs) trivial (fun _ h => nomatch h)
theorem PP.lt (p : PP C d rs cs ws vs) {k : Nat} {c : Clm} (h : cs[k]? = some c) : k < rs.length := by rw [← p.len]; exact (List.getElem?_eq_some_iff.mp h).1
theorem PP.along (p : PP C d rs cs ws vs) {k j f a c q e c' : Nat} (h1 : cs[k]? = some (.at f 0 a c)) (h2 : cs[j]? = some (.within f a q e c')) :
    PP C d (rs ++ [.along k j]) (cs ++ [.at f q e (c + c')]) (ws ++ [ws.getD k [] ++ ws.getD j []]) (vs ++ [1 + (vs.getD k 0 + vs.getD j 0)]) := by
  have := p.snoc (r := .along k j) (c := .at f q e (c + c')) (fun st _ => cl_along st (ahead_nat h1) (ahead_nat h2)) ⟨by omega, by omega⟩ (fun x hx => by
    simp [partsOf] at hx
    rcases hx with rfl | rfl
    · exact p.lt h1
    · exact p.lt h2)
  simpa [flat, wt, partsOf, pF, pW] using this
theorem PP.step (p : PP C d rs cs ws vs) {k i f a pl q x c w e : Nat} {t : List Nat} (h1 : cs[k]? = some (.within f a pl x c)) (hF : C[f]? = some F) (hE : F.edges[i]? = some ⟨pl, q, w, .step t⟩) (hb : (t.getD x 0).testBit e = true) :
    PP C d (rs ++ [.mv .step k i e]) (cs ++ [.within f a q e (c + w)]) (ws ++ [ws.getD k [] ++ [.go .step i e]]) (vs ++ [1 + (vs.getD k 0 + 1)]) := by
  have := p.snoc (r := .mv .step k i e) (c := .within f a q e (c + w)) (fun st _ => by
    rw [cl_mv st (by decide) (ahead_nat h1), takes_mk (w := .step) (d := x) (e := e) hF hE rfl rfl (br_nat hb)]; rfl) (show (0 : Int) ≤ k by omega) (fun x hx => by
    simp [partsOf] at hx
    subst hx
    exact p.lt h1)
  simpa [flat, wt, partsOf, pF, pW] using this
theorem PP.inn (p : PP C d rs cs ws vs) {k i f pl q x c w e g : Nat} {t1 t2 t3 : List Nat} (h1 : cs[k]? = some (.at f pl x c)) (hF : C[f]? = some F) (hE : F.edges[i]? = some ⟨pl, q, w, .call g t1 t2 t3⟩) (hb : (t1.getD x 0).testBit e = true) :
    PP C d (rs ++ [.mv .inn k i e]) (cs ++ [.at g 0 e (c + w)]) (ws ++ [ws.getD k [] ++ [.go .inn i e]]) (vs ++ [1 + (vs.getD k 0 + 1)]) := by
  have := p.snoc (r := .mv .inn k i e) (c := .at g 0 e (c + w)) (fun st _ => by
    rw [cl_in st (ahead_nat h1), takes_mk (w := .inn) (d := x) (e := e) hF hE rfl rfl (br_nat hb)]; rfl) (show (0 : Int) ≤ k by omega) (fun x hx => by
    simp [partsOf] at hx
    subst hx
    exact p.lt h1)
  simpa [flat, wt, partsOf, pF, pW] using this
theorem PP.short (p : PP C d rs cs ws vs) {k i j f a pl q x c w e g b y z c' : Nat} {t1 t2 t3 : List Nat} {G : Fn} (h1 : cs[k]? = some (.within f a pl x c)) (h2 : cs[j]? = some (.within g b z y c')) (hF : C[f]? = some F) (hG : C[g]? = some G) (hz : z + 1 = G.places)
    (hE : F.edges[i]? = some ⟨pl, q, w, .call g t1 t2 t3⟩) (hb : (t1.getD x 0).testBit b = true) (hb2 : (t2.getD y 0).testBit e = true) :
    PP C d (rs ++ [.short k i j e]) (cs ++ [.within f a q e (c + w + c')]) (ws ++ [ws.getD k [] ++ (.go .inn i b :: (ws.getD j [] ++ [.out e]))]) (vs ++ [1 + (vs.getD k 0 + (1 + (vs.getD j 0 + 1)))]) := by
  have := p.snoc (r := .short k i j e) (c := .within f a q e (c + w + c')) (fun st _ => by
    rw [cl_short st (ahead_nat h1) (ahead_nat h2), takes_mk (w := .inn) (d := x) (e := b) hF hE rfl rfl (br_nat hb)]
    show ((C[g]?).bind fun G => if g = g ∧ z + 1 = G.places ∧ br t2 y e = true then some (Clm.within f a q ((e : Nat) : Int).toNat (c + w + c')) else none) = _
    rw [hG]
    exact if_pos ⟨rfl, hz, br_nat hb2⟩) ⟨by omega, by omega, g, b, z, y, c', by rw [Int.toNat_natCast]; exact h2⟩ (fun x hx => by
    simp [partsOf] at hx
    rcases hx with rfl | rfl
    · exact p.lt h1
    · exact p.lt h2)
  simpa [flat, wt, partsOf, pF, pW, aOf, h2] using this
end
inductive First (rs : List Row) : Nat → Int → Prop
  | start {k : Nat} {d : Int} : rs[k]? = some (.start d) → First rs k d
  | inn {k j : Nat} {n e d : Int} : rs[k]? = some (.mv .inn j n e) → j < k → First rs j d → First rs k d
  | along {k j : Nat} {i d : Int} : rs[k]? = some (.along j i) → j < k → First rs j d → First rs k d
end CM
namespace CM
open PySem L2 DL
noncomputable def shiftT (m : Nat) : List Nat := (List.range m).map fun x => 2 ^ ((x + 1) % m)
noncomputable def homeT (n m : Nat) : List Nat := (List.range m).map fun x => 2 ^ ((x + m * n - n + 1) % m)
noncomputable def stayT (m : Nat) : List Nat := (List.range m).map fun x => 2 ^ x
noncomputable def callE (n m c : Nat) : Edge := ⟨n - 1, n - 1, c, .call 0 (homeT n m) (stayT m) (stayT m)⟩
noncomputable def stepE (m p c : Nat) : Edge := ⟨p, p + 1, c, .step (shiftT m)⟩
noncomputable def ringE (m p : Nat) : Edge := ⟨p, p, 1, .step (stayT m)⟩
theorem tab_get {m x : Nat} (f : Nat → Nat) (h : x < m) : ((List.range m).map fun x => 2 ^ f x).getD x 0 = 2 ^ f x := by
  rw [List.getD_eq_getElem?_getD, List.getElem?_map, List.getElem?_range h]; rfl
theorem tab_ok {m k : Nat} (f : Nat → Nat) (h : ∀ x, x < m → f x < k) : tOk ((List.range m).map fun x => 2 ^ f x) m k := by
  refine ⟨by simp, fun y hy => ?_⟩
  obtain ⟨x, hx, rfl⟩ := List.mem_map.mp hy
  exact Nat.pow_lt_pow_right (by decide) (h x (List.mem_range.mp hx))
noncomputable def goodE (n m : Nat) (e : Edge) : Prop := (∃ p c, e = stepE m p c ∧ p + 1 < n ∧ 1 ≤ c ∧ c ≤ 10 ^ 18) ∨ (∃ p, e = ringE m p ∧ p + 1 < n) ∨ (∃ c, e = callE n m c ∧ 1 ≤ c ∧ c ≤ 10 ^ 18)
structure EO (n m : Nat) (Es : List Edge) : Prop where
  len : Es.length ≤ 30
  each : ∀ e ∈ Es, goodE n m e
  steps : ∀ p, p + 1 < n → ∃ c, stepE m p c ∈ Es
  call : ∃ c, callE n m c ∈ Es
noncomputable abbrev ch (n m : Nat) (Es : List Edge) : Chart := [⟨n, m, Es⟩]
theorem EO.wf {n m : Nat} {Es : List Edge} (e : EO n m Es) (n1 : 1 ≤ n) (n10 : n ≤ 10) (m1 : 1 ≤ m) (m6 : m ≤ 6) : WF (ch n m Es) := by
  refine ⟨by simp, by simp, fun f F hF => ?_⟩
  have hf : f = 0 := by have := (List.getElem?_eq_some_iff.mp hF).1; simp at this; exact this
  subst hf
  cases hF
  refine ⟨n1, n10, m1, m6, by have := e.len; show Es.length ≤ 100; omega, fun x hx => ?_⟩
  rcases e.each x hx with ⟨p, c, rfl, a, b, d⟩ | ⟨p, rfl, a⟩ | ⟨c, rfl, b, d⟩
  · exact ⟨by show p < n; omega, a, b, d, tab_ok _ fun x _ => Nat.mod_lt _ m1⟩
  · exact ⟨by show p < n; omega, by show p < n; omega, by show 1 ≤ 1; decide, by show 1 ≤ 10 ^ 18; decide, tab_ok _ fun x h => h⟩
  · exact ⟨by show n - 1 < n; omega, by show n - 1 < n; omega, b, d, ⟨n, m, Es⟩, rfl, tab_ok _ fun x _ => Nat.mod_lt _ m1, tab_ok _ fun x h => h, tab_ok _ fun x h => h⟩
noncomputable def clAt (n m d k x : Nat) : Clm := .within 0 d (min k (n - 1)) ((d + min k (n - 1)) % m) x
noncomputable def due (n m d : Nat) (xs : List Nat) : List Clm := (List.range xs.length).map fun k => clAt n m d k (xs.getD k 0)
theorem due_snoc (n m d : Nat) (xs : List Nat) (x : Nat) : due n m d (xs ++ [x]) = due n m d xs ++ [clAt n m d xs.length x] := by
  unfold due
  rw [List.length_append, List.length_cons, List.length_nil, List.range_succ, List.map_append]
  congr 1
  · refine List.map_congr_left fun k hk => ?_
    rw [getD_snoc (List.mem_range.mp hk)]
  · rw [List.map_cons, List.map_nil, getD_last]
theorem due_get (n m d : Nat) (xs : List Nat) {k : Nat} (h : k < xs.length) : (due n m d xs)[k]? = some (clAt n m d k (xs.getD k 0)) := by
  unfold due; rw [List.getElem?_map, List.getElem?_range h]; rfl
theorem due_len (n m d : Nat) (xs : List Nat) : (due n m d xs).length = xs.length := by unfold due; simp
structure DP (n m d : Nat) (Es : List Edge) (rs : List Row) (xs : List Nat) (w : List GM) : Prop where
  ex : ∃ ws vs, PP (ch n m Es) d rs (due n m d xs) ws vs ∧ ws.getD (rs.length - 1) [] = w ∧ vs.getD (rs.length - 1) 0 = 2 * w.length + 1
  len : xs.length = rs.length
  pos : 1 ≤ rs.length
section
variable {n m d : Nat} {Es : List Edge} {rs : List Row} {xs : List Nat} {w : List GM}
theorem DP.base (hd : d < m) : DP n m d Es [.begin 0 d] [0] [] := by
  have e : due n m d [0] = [.within 0 d 0 d 0] := by
    show [Clm.within 0 d (min 0 (n - 1)) ((d + min 0 (n - 1)) % m) 0] = _
    rw [Nat.zero_min, Nat.add_zero, Nat.mod_eq_of_lt hd]
  refine ⟨⟨[[]], [1], ?_, rfl, rfl⟩, rfl, Nat.le_refl _⟩
  rw [e]
  exact (PP.nil _ _).begin (F := ⟨n, m, Es⟩) rfl hd
theorem DP.step (D : DP n m d Es rs xs w) (m1 : 1 ≤ m) {p i c : Nat} (hl : rs.length = p + 1) (hp : p + 1 < n) (hE : Es[i]? = some (stepE m p c)) :
    DP n m d Es (rs ++ [.mv .step p i ((d + p + 1) % m : Nat)]) (xs ++ [xs.getD p 0 + c]) (w ++ [.go .step i ((d + p + 1) % m : Nat)]) := by
  obtain ⟨ws, vs, pp, hw, hv⟩ := D.ex
  have l := D.len
  have h1 := due_get n m d xs (k := p) (by omega)
  have mp : min p (n - 1) = p := by omega
  unfold clAt at h1
  rw [mp] at h1
  have lt : (d + p) % m < m := Nat.mod_lt _ m1
  have hb : ((shiftT m).getD ((d + p) % m) 0).testBit ((d + p + 1) % m) = true := by
    unfold shiftT
    rw [tab_get _ lt, Nat.mod_add_mod]
    simp
  have s := pp.step (F := ⟨n, m, Es⟩) (i := i) h1 rfl hE hb
  rw [hl, Nat.add_sub_cancel] at hw hv
  obtain ⟨l1, l2⟩ := pp.lens
  have e : due n m d (xs ++ [xs.getD p 0 + c]) = due n m d xs ++ [.within 0 d (p + 1) ((d + p + 1) % m) (xs.getD p 0 + c)] := by
    rw [due_snoc]; unfold clAt
    rw [l, hl, show min (p + 1) (n - 1) = p + 1 by omega]; rfl
  refine ⟨⟨_, _, by rw [e]; exact s, ?_, ?_⟩, by simp [l], by simp⟩
  · rw [List.length_append, List.length_cons, List.length_nil, Nat.add_sub_cancel, ← l1, getD_last, hw]
  · rw [List.length_append, List.length_cons, List.length_nil, Nat.add_sub_cancel, ← l2, getD_last, hv]
    simp; omega
theorem home_bit (n1 : 1 ≤ n) (hd : d < m) : ((homeT n m).getD ((d + (n - 1)) % m) 0).testBit d = true := by
  have lt : (d + (n - 1)) % m < m := Nat.mod_lt _ (by omega)
  unfold homeT
  rw [tab_get _ lt]
  have e : ((d + (n - 1)) % m + m * n - n + 1) % m = d := by
    have h1 : n ≤ m * n := Nat.le_mul_of_pos_left n (by omega)
    rw [show (d + (n - 1)) % m + m * n - n + 1 = (d + (n - 1)) % m + (m * n - n + 1) by omega, Nat.mod_add_mod, show d + (n - 1) + (m * n - n + 1) = d + m * n by omega, Nat.add_mul_mod_self_left, Nat.mod_eq_of_lt hd]
  rw [e]; simp
theorem DP.short (D : DP n m d Es rs xs w) (n1 : 1 ≤ n) (hd : d < m) {l i c : Nat} (hl : rs.length = l + 1) (hn : n ≤ l + 1) (hE : Es[i]? = some (callE n m c)) :
    DP n m d Es (rs ++ [.short l i l ((d + (n - 1)) % m : Nat)]) (xs ++ [2 * xs.getD l 0 + c]) (w ++ (.go .inn i d :: (w ++ [.out ((d + (n - 1)) % m : Nat)]))) := by
  obtain ⟨ws, vs, pp, hw, hv⟩ := D.ex
  have len := D.len
  have h1 := due_get n m d xs (k := l) (by omega)
  have mp : min l (n - 1) = n - 1 := by omega
  unfold clAt at h1
  rw [mp] at h1
  have lt : (d + (n - 1)) % m < m := Nat.mod_lt _ (by omega)
  have hb2 : ((stayT m).getD ((d + (n - 1)) % m) 0).testBit ((d + (n - 1)) % m) = true := by
    unfold stayT
    rw [tab_get _ lt]; simp
  have s := pp.short (F := ⟨n, m, Es⟩) (G := ⟨n, m, Es⟩) (i := i) h1 h1 rfl rfl (by show n - 1 + 1 = n; omega) hE (home_bit n1 hd) hb2
  rw [hl, Nat.add_sub_cancel] at hw hv
  obtain ⟨l1, l2⟩ := pp.lens
  have e : due n m d (xs ++ [2 * xs.getD l 0 + c]) = due n m d xs ++ [.within 0 d (n - 1) ((d + (n - 1)) % m) (xs.getD l 0 + c + xs.getD l 0)] := by
    rw [due_snoc]; unfold clAt
    rw [len, hl, show min (l + 1) (n - 1) = n - 1 by omega, show 2 * xs.getD l 0 + c = xs.getD l 0 + c + xs.getD l 0 by omega]
  refine ⟨⟨_, _, by rw [e]; exact s, ?_, ?_⟩, by simp [len], by simp⟩
  · rw [List.length_append, List.length_cons, List.length_nil, Nat.add_sub_cancel, ← l1, getD_last, hw]
  · rw [List.length_append, List.length_cons, List.length_nil, Nat.add_sub_cancel, ← l2, getD_last, hv]
    simp; omega
theorem DP.tail (D : DP n m d Es rs xs w) (n1 : 1 ≤ n) (hd : d < m) {l i c x : Nat} (hl : rs.length = l + 1) (hn : n ≤ l + 1) (hx : xs.getD l 0 = x) (hE : Es[i]? = some (callE n m c)) :
    ∃ ws vs, PP (ch n m Es) d (rs ++ [.start d, .along (l + 1 : Nat) l]) (due n m d xs ++ [.at 0 0 d 0, .at 0 (n - 1) ((d + (n - 1)) % m) x]) (ws ++ [[], w]) (vs ++ [1, 2 * w.length + 3]) ∧
      PP (ch n m Es) d (rs ++ [.start d, .along (l + 1 : Nat) l, .mv .inn (l + 2 : Nat) i d, .along (l + 3 : Nat) l]) (due n m d xs ++ [.at 0 0 d 0, .at 0 (n - 1) ((d + (n - 1)) % m) x, .at 0 0 d (x + c), .at 0 (n - 1) ((d + (n - 1)) % m) (2 * x + c)]) (ws ++ [[], w, w ++ [.go .inn i d], w ++ (.go .inn i d :: w)]) (vs ++ [1, 2 * w.length + 3, 2 * w.length + 5, 4 * w.length + 7]) ∧ ws.length = rs.length ∧ vs.length = rs.length := by
  obtain ⟨ws, vs, pp, hw, hv⟩ := D.ex
  have len := D.len
  have dl := due_len n m d xs
  have h1 := due_get n m d xs (k := l) (by omega)
  have mp : min l (n - 1) = n - 1 := by omega
  unfold clAt at h1
  rw [mp, hx] at h1
  rw [hl, Nat.add_sub_cancel] at hw hv
  obtain ⟨l1, l2⟩ := pp.lens
  have g1 : ∀ (k : Clm) (ys : List Clm), (due n m d xs ++ k :: ys)[l + 1]? = some k := fun k ys => by
    rw [List.getElem?_append_right (by omega), show l + 1 - (due n m d xs).length = 0 by omega]; rfl
  have g2 : ∀ (k k2 : Clm) (ys : List Clm), (due n m d xs ++ k :: k2 :: ys)[l + 2]? = some k2 := fun k k2 ys => by
    rw [List.getElem?_append_right (by omega), show l + 2 - (due n m d xs).length = 1 by omega]; rfl
  have g3 : ∀ (k k2 k3 : Clm) (ys : List Clm), (due n m d xs ++ k :: k2 :: k3 :: ys)[l + 3]? = some k3 := fun k k2 k3 ys => by
    rw [List.getElem?_append_right (by omega), show l + 3 - (due n m d xs).length = 2 by omega]; rfl
  have g0 : ∀ (ys : List Clm), (due n m d xs ++ ys)[l]? = some (.within 0 d (n - 1) ((d + (n - 1)) % m) x) := fun ys => by
    rw [List.getElem?_append_left (by omega)]; exact h1
  have w0 : ∀ ys : List (List GM), (ws ++ ys).getD l [] = w := fun ys => by
    rw [← hw, List.getD_eq_getElem?_getD, List.getD_eq_getElem?_getD, List.getElem?_append_left (by omega)]
  have v0 : ∀ ys : List Nat, (vs ++ ys).getD l 0 = 2 * w.length + 1 := fun ys => by
    rw [← hv, List.getD_eq_getElem?_getD, List.getD_eq_getElem?_getD, List.getElem?_append_left (by omega)]
  have wk : ∀ (k : Nat) (ys : List (List GM)), (ws ++ ys).getD (l + 1 + k) [] = ys.getD k [] := fun k ys => by
    rw [List.getD_eq_getElem?_getD, List.getD_eq_getElem?_getD, List.getElem?_append_right (by omega), show l + 1 + k - ws.length = k by omega]
  have vk : ∀ (k : Nat) (ys : List Nat), (vs ++ ys).getD (l + 1 + k) 0 = ys.getD k 0 := fun k ys => by
    rw [List.getD_eq_getElem?_getD, List.getD_eq_getElem?_getD, List.getElem?_append_right (by omega), show l + 1 + k - vs.length = k by omega]
  have s1 := pp.start (F := ⟨n, m, Es⟩) rfl hd
  have s2 := s1.along (k := l + 1) (j := l) (g1 _ _) (g0 _)
  rw [wk 0, w0, vk 0, v0] at s2
  simp only [List.append_assoc, List.cons_append, List.nil_append, Nat.zero_add, List.getD_cons_zero] at s2
  rw [show 1 + (1 + (2 * w.length + 1)) = 2 * w.length + 3 by omega] at s2
  have s3 := s2.inn (F := ⟨n, m, Es⟩) (k := l + 2) (i := i) (e := d) (g2 _ _ _) rfl hE (home_bit n1 hd)
  rw [show l + 2 = l + 1 + 1 from rfl, wk 1, vk 1] at s3
  simp only [List.append_assoc, List.cons_append, List.nil_append, List.getD_cons_succ, List.getD_cons_zero] at s3
  rw [show 1 + (2 * w.length + 3 + 1) = 2 * w.length + 5 by omega] at s3
  have s4 := s3.along (k := l + 3) (j := l) (g3 _ _ _ _) (g0 _)
  rw [show l + 3 = l + 1 + 2 from rfl, wk 2, w0, vk 2, v0] at s4
  simp only [List.append_assoc, List.cons_append, List.nil_append, List.getD_cons_succ, List.getD_cons_zero] at s4
  rw [show 1 + (2 * w.length + 5 + (2 * w.length + 1)) = 4 * w.length + 7 by omega, show x + c + x = 2 * x + c by omega] at s4
  exact ⟨ws, vs, s2, s4, l1, l2⟩
end
end CM
namespace CM
open PySem L2 DL
noncomputable def rgR (d k0 : Nat) (M : Nat) : List Row := .begin 0 d :: (List.range M).map fun k : Nat => .mv .step k k0 d
noncomputable def rgC (d c : Nat) (M : Nat) : List Clm := (List.range (M + 1)).map fun k => .within 0 d 0 d (k * c)
noncomputable def rgW (d k0 : Nat) (M : Nat) : List (List GM) := (List.range (M + 1)).map fun k => List.replicate k (.go .step k0 d)
noncomputable def rgV (M : Nat) : List Nat := (List.range (M + 1)).map fun k => 2 * k + 1
theorem rng_get {α : Type} {M k : Nat} (f : Nat → α) (h : k < M) : ((List.range M).map f)[k]? = some (f k) := by
  rw [List.getElem?_map, List.getElem?_range h]; rfl
theorem rng_getD {α : Type} {M k : Nat} (f : Nat → α) (x : α) (h : k < M) : ((List.range M).map f).getD k x = f k := by
  rw [List.getD_eq_getElem?_getD, rng_get f h]; rfl
section
variable {m d c k0 : Nat} {Es : List Edge}
theorem ring_pp (hd : d < m) (hE : Es[k0]? = some ⟨0, 0, c, .step (stayT m)⟩) : ∀ M : Nat, PP (ch 1 m Es) d (rgR d k0 M) (rgC d c M) (rgW d k0 M) (rgV M)
  | 0 => by
    have := (PP.nil (ch 1 m Es) d).begin (F := ⟨1, m, Es⟩) rfl hd
    simpa [rgR, rgC, rgW, rgV] using this
  | M + 1 => by
    have ih := ring_pp hd hE M
    have hb : ((stayT m).getD d 0).testBit d = true := by
      unfold stayT
      rw [tab_get (fun x => x) hd]; simp
    have s := ih.step (F := ⟨1, m, Es⟩) (k := M) (i := k0) (e := d) (rng_get (M := M + 1) (fun k => Clm.within 0 d 0 d (k * c)) (Nat.lt_succ_self M)) rfl hE hb
    have e1 : rgR d k0 (M + 1) = rgR d k0 M ++ [.mv .step (M : Nat) k0 d] := by unfold rgR; rw [List.range_succ, List.map_append]; rfl
    have e2 : rgC d c (M + 1) = rgC d c M ++ [.within 0 d 0 d (M * c + c)] := by
      unfold rgC; rw [List.range_succ, List.map_append, List.map_cons, List.map_nil, Nat.succ_mul]
    have e3 : rgW d k0 (M + 1) = rgW d k0 M ++ [(rgW d k0 M).getD M [] ++ [.go .step k0 d]] := by
      conv => lhs; unfold rgW
      rw [List.range_succ, List.map_append, List.map_cons, List.map_nil, List.replicate_succ', show (rgW d k0 M).getD M [] = _ from rng_getD _ _ (Nat.lt_succ_self M)]; rfl
    have e4 : rgV (M + 1) = rgV M ++ [1 + ((rgV M).getD M 0 + 1)] := by
      conv => lhs; unfold rgV
      rw [List.range_succ, List.map_append, List.map_cons, List.map_nil, show (rgV M).getD M 0 = _ from rng_getD _ _ (Nat.lt_succ_self M)]
      show rgV M ++ [2 * (M + 1) + 1] = rgV M ++ [1 + (2 * M + 1 + 1)]
      rw [show 2 * (M + 1) + 1 = 1 + (2 * M + 1 + 1) by omega]
    rw [e1, e2, e3, e4]
    exact s
theorem ring_tail (hd : d < m) (hE : Es[k0]? = some ⟨0, 0, c, .step (stayT m)⟩) {M r : Nat} (hr : r ≤ M) :
    PP (ch 1 m Es) d (rgR d k0 M ++ [.start d, .along (M + 1 : Nat) M]) (rgC d c M ++ [.at 0 0 d 0, .at 0 0 d (M * c)]) (rgW d k0 M ++ [[], List.replicate M (.go .step k0 d)]) (rgV M ++ [1, 2 * M + 3]) ∧
    PP (ch 1 m Es) d (rgR d k0 M ++ [.start d, .along (M + 1 : Nat) M, .along (M + 1 : Nat) r]) (rgC d c M ++ [.at 0 0 d 0, .at 0 0 d (M * c), .at 0 0 d (r * c)]) (rgW d k0 M ++ [[], List.replicate M (.go .step k0 d), List.replicate r (.go .step k0 d)]) (rgV M ++ [1, 2 * M + 3, 2 * r + 3]) := by
  have p := ring_pp (c := c) (k0 := k0) hd hE M
  have lc : (rgC d c M).length = M + 1 := by unfold rgC; simp
  have lw : (rgW d k0 M).length = M + 1 := by unfold rgW; simp
  have lv : (rgV M).length = M + 1 := by unfold rgV; simp
  have g0 : ∀ (k : Nat) (ys : List Clm), k ≤ M → (rgC d c M ++ ys)[k]? = some (.within 0 d 0 d (k * c)) := fun k ys h => by
    rw [List.getElem?_append_left (by omega)]; exact rng_get _ (by omega)
  have g1 : ∀ (x : Clm) (ys : List Clm), (rgC d c M ++ x :: ys)[M + 1]? = some x := fun x ys => by
    rw [List.getElem?_append_right (by omega), show M + 1 - (rgC d c M).length = 0 by omega]; rfl
  have w0 : ∀ (k : Nat) (ys : List (List GM)), k ≤ M → (rgW d k0 M ++ ys).getD k [] = List.replicate k (.go .step k0 d) := fun k ys h => by
    rw [List.getD_eq_getElem?_getD, List.getElem?_append_left (by omega), show (rgW d k0 M)[k]? = _ from rng_get _ (by omega)]; rfl
  have v0 : ∀ (k : Nat) (ys : List Nat), k ≤ M → (rgV M ++ ys).getD k 0 = 2 * k + 1 := fun k ys h => by
    rw [List.getD_eq_getElem?_getD, List.getElem?_append_left (by omega), show (rgV M)[k]? = _ from rng_get _ (by omega)]; rfl
  have w1 : ∀ (x : List GM) (ys : List (List GM)), (rgW d k0 M ++ x :: ys).getD (M + 1) [] = x := fun x ys => by
    rw [List.getD_eq_getElem?_getD, List.getElem?_append_right (by omega), show M + 1 - (rgW d k0 M).length = 0 by omega]; rfl
  have v1 : ∀ (x : Nat) (ys : List Nat), (rgV M ++ x :: ys).getD (M + 1) 0 = x := fun x ys => by
    rw [List.getD_eq_getElem?_getD, List.getElem?_append_right (by omega), show M + 1 - (rgV M).length = 0 by omega]; rfl
  have s1 := p.start (F := ⟨1, m, Es⟩) rfl hd
  have s2 := s1.along (k := M + 1) (j := M) (g1 _ _) (g0 _ _ (Nat.le_refl _))
  rw [w1, w0 _ _ (Nat.le_refl _), v1, v0 _ _ (Nat.le_refl _)] at s2
  simp only [List.append_assoc, List.cons_append, List.nil_append, Nat.zero_add] at s2
  rw [show 1 + (1 + (2 * M + 1)) = 2 * M + 3 by omega] at s2
  have s3 := s2.along (k := M + 1) (j := r) (g1 _ _) (g0 _ _ hr)
  rw [w1, w0 _ _ hr, v1, v0 _ _ hr] at s3
  simp only [List.append_assoc, List.cons_append, List.nil_append, Nat.zero_add] at s3
  rw [show 1 + (1 + (2 * r + 1)) = 2 * r + 3 by omega] at s3
  exact ⟨s2, s3⟩
theorem ring_wf (m1 : 1 ≤ m) (m6 : m ≤ 6) (hl : Es.length ≤ 30) (he : ∀ e ∈ Es, ∃ c, e = ⟨0, 0, c, .step (stayT m)⟩ ∧ 1 ≤ c ∧ c ≤ 10 ^ 18) : WF (ch 1 m Es) := by
  refine ⟨by simp, by simp, fun f F hF => ?_⟩
  have hf : f = 0 := by have := (List.getElem?_eq_some_iff.mp hF).1; simp at this; exact this
  subst hf
  cases hF
  refine ⟨Nat.le_refl _, by show 1 ≤ 10; decide, m1, m6, by show Es.length ≤ 100; omega, fun x hx => ?_⟩
  obtain ⟨c, rfl, b, d⟩ := he x hx
  exact ⟨by show 0 < 1; decide, by show 0 < 1; decide, b, d, tab_ok (fun x => x) fun x h => h⟩
end
end CM
namespace K34
open PySem L2 DL CM
def vvA : String := "dAsg dName dVar dC dOp dUn dTst dTr dAnd dOr dNot dAndV dOrV dNotV dIf dIfS dRet dRetN dDrop dNext dNever dCB dCal dCons dNil dTup dV dTk dListOf dBits dIsinst dChain dPart dNoPart dSl dGNil dGCons dUnp dAug dAugS dSubL dAppend dExtend dPop dClear dFor dISeq dIRange dIEnum dIEnum1 dComp dNoIf dCatN dRepN dSlL dBreak dCont pI pI0 pB0 pNeg pIs pIx pEq pLtI pLen pTuple pInt pMin pMax pAbs pPlus pAdd pMulI pIn dGet dRaise dRaise0 dTryS dTryD dTryE dIsX dXA dCalX dIxX dDropX dRetX dCalF dInsert dListRev dTryN reduceIte"
def vvB : String := "setD compSl isN_non isN_bl isN_int isN_str isN_tup isN_lst isN_ref eqS List.map_cons List.map_nil List.cons_append List.nil_append List.length_cons List.length_nil List.replicate List.getElem?_cons_zero List.getElem?_cons_succ List.set_cons_zero List.set_cons_succ Option.getD_some Option.getD_none List.getElem?_nil Bool.false_eq_true Bool.not_true Bool.not_false if_true if_false ite_true ite_false eq_self_iff_true decide_true decide_false Nat.reduceSub Nat.reduceAdd Nat.sub_zero Nat.sub_self Nat.zero_add Option.map_some Option.map_none Option.bind_some Option.bind_none lsOf_lst seqOf_lst seqSrc_lst lenD_lst ixD_lst trD_lst lsOf_scr seqOf_scr seqSrc_scr lenD_scr ixD_scr trD_scr lsP_lst lsP_tup lsP_int lsP_str seqOf_tup seqSrc_tup lenD_tup ixD_tup trD_tup trD_non trD_bl trD_int kindD_non kindD_bl kindD_int kindD_str kindD_tup kindD_lst isK_NoneType_bool isK_NoneType_int isK_NoneType_str isK_NoneType_tuple isK_NoneType_list isK_NoneType_dict isK_bool_bool isK_bool_int isK_bool_str isK_bool_tuple isK_bool_list isK_bool_dict isK_int_bool isK_int_int isK_int_str isK_int_tuple isK_int_list isK_int_dict isK_str_bool isK_str_int isK_str_str isK_str_tuple isK_str_list isK_str_dict isK_tuple_bool isK_tuple_int isK_tuple_str isK_tuple_tuple isK_tuple_list isK_tuple_dict isK_list_bool isK_list_int isK_list_str isK_list_tuple isK_list_list isK_list_dict isK_dict_bool isK_dict_int isK_dict_str isK_dict_tuple isK_dict_list isK_dict_dict ixN_10 ixN_0 at1_0 at2_0 at2_1 at3_0 at3_1 at3_2 at4_0 at4_1 at4_2 at4_3 at5_0 at5_1 at5_2 at5_3 at5_4 at6_0 at6_1 at6_2 at6_3 at6_4 at6_5 at7_0 at7_1 at7_2 at7_3 at7_4 at7_5 at7_6 at8_0 at8_1 at8_2 at8_3 at8_4 at8_5 at8_6 at8_7 sk_step sq_step_step sq_step_call sq_step_in sq_step_over sq_step_begin sq_step_start sq_step_short sq_step_along sq_step_within sq_step_at sq_step_out sk_call sq_call_step sq_call_call sq_call_in sq_call_over sq_call_begin sq_call_start sq_call_short sq_call_along sq_call_within sq_call_at sq_call_out sk_in sq_in_step sq_in_call sq_in_in sq_in_over sq_in_begin sq_in_start sq_in_short sq_in_along sq_in_within sq_in_at sq_in_out sk_over sq_over_step sq_over_call sq_over_in sq_over_over sq_over_begin sq_over_start sq_over_short sq_over_along sq_over_within sq_over_at sq_over_out sk_begin sq_begin_step sq_begin_call sq_begin_in sq_begin_over sq_begin_begin sq_begin_start sq_begin_short sq_begin_along sq_begin_within sq_begin_at sq_begin_out sk_start sq_start_step sq_start_call sq_start_in sq_start_over sq_start_begin sq_start_start sq_start_short sq_start_along sq_start_within sq_start_at sq_start_out sk_short sq_short_step sq_short_call sq_short_in sq_short_over sq_short_begin sq_short_start sq_short_short sq_short_along sq_short_within sq_short_at sq_short_out sk_along sq_along_step sq_along_call sq_along_in sq_along_over sq_along_begin sq_along_start sq_along_short sq_along_along sq_along_within sq_along_at sq_along_out sk_within sq_within_step sq_within_call sq_within_in sq_within_over sq_within_begin sq_within_start sq_within_short sq_within_along sq_within_within sq_within_at sq_within_out sk_at sq_at_step sq_at_call sq_at_in sq_at_over sq_at_begin sq_at_start sq_at_short sq_at_along sq_at_within sq_at_at sq_at_out sk_out sq_out_step sq_out_call sq_out_in sq_out_over sq_out_begin sq_out_start sq_out_short sq_out_along sq_out_within sq_out_at sq_out_out Bool.and_self Bool.and_true"
local macro_rules | `(tactic| simp only [VV]) => do
  let as := ((vvA.splitOn " ")).toArray.map fun s => Lean.mkIdent s.toName
  let bs := ((vvB.splitOn " ")).toArray.map fun s => Lean.mkIdent s.toName
  `(tactic| simp only [$[↓$as:ident],*, $[$bs:ident],*])
local macro_rules | `(tactic| simp only [$xs,*, VV]) => do
  let as := ((vvA.splitOn " ")).toArray.map fun s => Lean.mkIdent s.toName
  let bs := ((vvB.splitOn " ")).toArray.map fun s => Lean.mkIdent s.toName
  `(tactic| simp only [$xs,*, $[↓$as:ident],*, $[$bs:ident],*])
local macro_rules | `(tactic| simp only [VV0]) => do
  let as := ((vvA.splitOn " ").filter (fun s => !(["eqS", "pEq"] : List String).contains s)).toArray.map fun s => Lean.mkIdent s.toName
  let bs := ((vvB.splitOn " ").filter (fun s => !(["eqS", "pEq"] : List String).contains s)).toArray.map fun s => Lean.mkIdent s.toName
  `(tactic| simp only [$[↓$as:ident],*, $[$bs:ident],*])
local macro_rules | `(tactic| simp only [$xs,*, VV0]) => do
  let as := ((vvA.splitOn " ").filter (fun s => !(["eqS", "pEq"] : List String).contains s)).toArray.map fun s => Lean.mkIdent s.toName
  let bs := ((vvB.splitOn " ").filter (fun s => !(["eqS", "pEq"] : List String).contains s)).toArray.map fun s => Lean.mkIdent s.toName
  `(tactic| simp only [$xs,*, $[↓$as:ident],*, $[$bs:ident],*])
noncomputable def top (i : Nat) : Stmt := PySem.Challenge.pw_callmatch_k34_doubled_papers.main.body.getD i (.Pass ⟨0, 0, 0, 0⟩)
noncomputable def clsFn : Stmt → Nat → Stmt
  | .ClassDef _ _ _ body _ _ _ _ _ _ _, k => body.getD k (.Pass ⟨0, 0, 0, 0⟩)
  | s, _ => s
noncomputable abbrev s_facts_in : Stmt := top 5
noncomputable abbrev s_exit_of : Stmt := top 9
noncomputable abbrev s_start_facts : Stmt := top 10
noncomputable abbrev s_claim_ahead : Stmt := top 15
noncomputable abbrev s_begin_claim : Stmt := top 16
noncomputable abbrev s_move_of : Stmt := top 22
noncomputable abbrev s_counted : Stmt := top 26
noncomputable abbrev s_first_fact : Stmt := top 27
noncomputable abbrev s_moves_of : Stmt := top 28
noncomputable abbrev s__law_cell : Stmt := top 30
noncomputable abbrev s__law_number : Stmt := top 31
noncomputable abbrev s__law_paper : Stmt := top 33
noncomputable abbrev s__law_due : Stmt := top 34
noncomputable abbrev s_brings : Stmt := top 6
noncomputable abbrev s_start_claim : Stmt := top 17
noncomputable abbrev s_along_claim : Stmt := top 21
noncomputable abbrev s_parts_of : Stmt := top 25
noncomputable abbrev s__law_edges : Stmt := top 32
noncomputable abbrev s_edge_taken : Stmt := top 11
noncomputable abbrev s_edge_claim : Stmt := top 18
noncomputable abbrev s_short_claim : Stmt := top 19
noncomputable abbrev s_in_claim : Stmt := top 20
noncomputable abbrev s_claim_of : Stmt := top 14
noncomputable abbrev s_claims : Stmt := top 13
noncomputable abbrev s_unrolled : Stmt := top 24
noncomputable abbrev s__law_late : Stmt := top 35
noncomputable abbrev s__law_long_row : Stmt := top 36
noncomputable abbrev s_law : Stmt := top 37
theorem sc_facts_in : FnScope ["mask"] ["mask"] (defScope s_facts_in) := ⟨rfl, rfl, rfl, by decide +kernel, rfl, by decide +kernel, by decide +kernel⟩
theorem sc_exit_of : FnScope ["chart", "f"] ["chart", "f"] (defScope s_exit_of) := ⟨rfl, rfl, rfl, by decide +kernel, rfl, by decide +kernel, by decide +kernel⟩
theorem sc_start_facts : FnScope ["chart", "start"] ["chart", "start"] (defScope s_start_facts) := ⟨rfl, rfl, rfl, by decide +kernel, rfl, by decide +kernel, by decide +kernel⟩
theorem sc_claim_ahead : FnScope ["ahead", "k", "sort"] ["ahead", "k", "sort"] (defScope s_claim_ahead) := ⟨rfl, rfl, rfl, by decide +kernel, rfl, by decide +kernel, by decide +kernel⟩
theorem sc_begin_claim : FnScope ["chart", "row", "f", "d"] ["chart", "row"] (defScope s_begin_claim) := ⟨rfl, rfl, rfl, by decide +kernel, rfl, by decide +kernel, by decide +kernel⟩
theorem sc_move_of : FnScope ["row"] ["row"] (defScope s_move_of) := ⟨rfl, rfl, rfl, by decide +kernel, rfl, by decide +kernel, by decide +kernel⟩
theorem sc_counted : FnScope ["parts", "most", "many", "row_parts", "total", "part"] ["parts", "most"] (defScope s_counted) := ⟨rfl, rfl, rfl, by decide +kernel, rfl, by decide +kernel, by decide +kernel⟩
theorem sc_first_fact : FnScope ["rows", "k"] ["rows", "k"] (defScope s_first_fact) := ⟨rfl, rfl, rfl, by decide +kernel, rfl, by decide +kernel, by decide +kernel⟩
theorem sc_moves_of : FnScope ["parts", "k", "moves", "waiting", "part"] ["parts", "k"] (defScope s_moves_of) := ⟨rfl, rfl, rfl, by decide +kernel, rfl, by decide +kernel, by decide +kernel⟩
theorem sc__law_cell : FnScope ["_law_script", "_law_k", "_law_number_here"] ["_law_script", "_law_k"] (defScope s__law_cell) := ⟨rfl, rfl, rfl, by decide +kernel, rfl, by decide +kernel, by decide +kernel⟩
theorem sc__law_number : FnScope ["_law_cell_here"] ["_law_cell_here"] (defScope s__law_number) := ⟨rfl, rfl, rfl, by decide +kernel, rfl, by decide +kernel, by decide +kernel⟩
theorem sc__law_paper : FnScope ["_law_edges_here", "_law_places", "_law_facts", "_law_d", "_law_times", "_law_rows", "_law_moves", "_law_costs", "_law_p", "_law_numbers", "_law_call", "_law_end", "_law_many", "_law_k", "_law_last"] ["_law_edges_here", "_law_places", "_law_facts", "_law_d", "_law_times"] (defScope s__law_paper) := ⟨rfl, rfl, rfl, by decide +kernel, rfl, by decide +kernel, by decide +kernel⟩
theorem sc__law_due : FnScope ["_law_rows", "_law_costs", "_law_places", "_law_facts", "_law_d", "_law_due_here"] ["_law_rows", "_law_costs", "_law_places", "_law_facts", "_law_d"] (defScope s__law_due) := ⟨rfl, rfl, rfl, by decide +kernel, rfl, by decide +kernel, by decide +kernel⟩
theorem sc_brings : FnScope ["table", "d", "e"] ["table", "d", "e"] (defScope s_brings) := ⟨rfl, rfl, rfl, by decide +kernel, rfl, by decide +kernel, by decide +kernel⟩
theorem sc_start_claim : FnScope ["chart", "start", "row", "d"] ["chart", "start", "row"] (defScope s_start_claim) := ⟨rfl, rfl, rfl, by decide +kernel, rfl, by decide +kernel, by decide +kernel⟩
theorem sc_along_claim : FnScope ["ahead", "row", "base", "moved", "f"] ["ahead", "row"] (defScope s_along_claim) := ⟨rfl, rfl, rfl, by decide +kernel, rfl, by decide +kernel, by decide +kernel⟩
theorem sc_parts_of : FnScope ["told", "row"] ["told", "row"] (defScope s_parts_of) := ⟨rfl, rfl, rfl, by decide +kernel, rfl, by decide +kernel, by decide +kernel⟩
theorem sc__law_edges : FnScope ["_law_script", "_law_places", "_law_facts", "_law_shift", "_law_home", "_law_stay", "_law_edges_here", "_law_p", "_law_call"] ["_law_script", "_law_places", "_law_facts"] (defScope s__law_edges) := ⟨rfl, rfl, rfl, by decide +kernel, rfl, by decide +kernel, by decide +kernel⟩
theorem sc_edge_taken : FnScope ["chart", "here", "move", "edges", "n", "edge"] ["chart", "here", "move"] (defScope s_edge_taken) := ⟨rfl, rfl, rfl, by decide +kernel, rfl, by decide +kernel, by decide +kernel⟩
theorem sc_edge_claim : FnScope ["chart", "ahead", "row", "base", "f", "edge"] ["chart", "ahead", "row"] (defScope s_edge_claim) := ⟨rfl, rfl, rfl, by decide +kernel, rfl, by decide +kernel, by decide +kernel⟩
theorem sc_short_claim : FnScope ["chart", "ahead", "row", "base", "called", "f", "edge"] ["chart", "ahead", "row"] (defScope s_short_claim) := ⟨rfl, rfl, rfl, by decide +kernel, rfl, by decide +kernel, by decide +kernel⟩
theorem sc_in_claim : FnScope ["chart", "ahead", "row", "base", "edge"] ["chart", "ahead", "row"] (defScope s_in_claim) := ⟨rfl, rfl, rfl, by decide +kernel, rfl, by decide +kernel, by decide +kernel⟩
theorem sc_claim_of : FnScope ["chart", "start", "ahead", "row"] ["chart", "start", "ahead", "row"] (defScope s_claim_of) := ⟨rfl, rfl, rfl, by decide +kernel, rfl, by decide +kernel, by decide +kernel⟩
theorem sc_claims : FnScope ["chart", "start", "rows", "told", "row", "claim"] ["chart", "start", "rows"] (defScope s_claims) := ⟨rfl, rfl, rfl, by decide +kernel, rfl, by decide +kernel, by decide +kernel⟩
theorem sc_unrolled : FnScope ["chart", "start", "rows", "k", "most", "ahead", "told", "parts"] ["chart", "start", "rows", "k", "most"] (defScope s_unrolled) := ⟨rfl, rfl, rfl, by decide +kernel, rfl, by decide +kernel, by decide +kernel⟩
theorem sc__law_late : FnScope ["_law_chart", "_law_start", "_law_rows", "_law_k", "_law_most", "_law_late_here"] ["_law_chart", "_law_start", "_law_rows", "_law_k", "_law_most"] (defScope s__law_late) := ⟨rfl, rfl, rfl, by decide +kernel, rfl, by decide +kernel, by decide +kernel⟩
theorem sc__law_long_row : FnScope ["_law_script", "_law_facts", "_law_d", "_law_cost", "_law_many", "_law_n", "_law_edges_here", "_law_chart", "_law_rows", "_law_near", "_law_found"] ["_law_script"] (defScope s__law_long_row) := ⟨rfl, rfl, rfl, by decide +kernel, rfl, by decide +kernel, by decide +kernel⟩
theorem sc_law : FnScope ["_law_script", "_law_places", "_law_facts", "_law_d", "_law_times", "_law_edges_here", "_law_chart", "_law_rows", "_law_moves", "_law_costs", "_law_many", "_law_call", "_law_due_here", "_law_end", "_law_last", "_law_cost"] ["_law_script"] (defScope s_law) := ⟨rfl, rfl, rfl, by decide +kernel, rfl, by decide +kernel, by decide +kernel⟩
noncomputable def k_MOVE_TABLES : List (Key × Int) := [(.inr "step", 4), (.inr "in", 5), (.inr "over", 7)]
structure Txt (P : Program) (w : World) (K : PySem.W.Frag) (mg : Str → Option Value) : Prop where
  b_int : mg "int" = none
  b_isinstance : mg "isinstance" = none
  b_len : mg "len" = none
  b_list : mg "list" = none
  b_max : mg "max" = none
  b_min : mg "min" = none
  b_range : mg "range" = none
  b_reversed : mg "reversed" = none
  b_tuple : mg "tuple" = none
  c_MOVE_TABLES : ∃ a, mg "MOVE_TABLES" = some (.ref a) ∧ KDict P w K a (k_MOVE_TABLES.map fun p => (p.1, V.int p.2))
  k_TooLong : CatchX K mg "TooLong" "TooLong"
section
variable {P : Program} {w : World} {K : PySem.W.Frag} {mg : Str → Option Value} {base : Heap}
noncomputable def b_facts_in : DS := (dRet (dV (dComp [none, some 0] (dIRange (dCons (dBits (dVar 0)) dNil)) (dName 0) (dTr (dOp pBand (dOp pShr (dVar 1) (dVar 0)) (dC (.int 1)))) (dVar 0))))
noncomputable def S_facts_in : DSp := fun ds h Q => ∃ m : Nat, ds = [nD m] ∧ m < 2 ^ 60 ∧ Q (.lst ((factsN m).map nD)) h
theorem imp_facts_in : ∀ ds h Q, S_facts_in ds h Q → runD 1 b_facts_in ds h Q := by
  rintro ds h Q ⟨m, rfl, hm, q⟩
  have hb := bits_lt hm
  simp only [↓b_facts_in, ↓runD, ↓dSeq, ↓runX, VV]
  refine ⟨⟨by first | decide | omega, by first | decide | omega⟩, by rw [rangeD_length]; omega, ?_⟩
  rw [rangeD_map]
  refine comp1 (fun d => m.testBit d) nD Src.ok_nil none (fun y hy K k => ?_) (fun y hy _ K k => ?_) ?_
  · simp only [↓b_facts_in, ↓runD, ↓dSeq, ↓runX, VV]
    refine ⟨by first | decide | omega, ?_⟩
    rw [show ((0 : Int) + (y : Nat)).toNat = y by first | decide | omega, bitT]
    exact k
  · simp only [↓b_facts_in, ↓runD, ↓dSeq, ↓runX, VV]
    rw [Int.zero_add]; exact k
  · rw [Int.toNat_natCast]
    exact q
theorem ok_facts_in {f : Addr} {fd : FuncData} (F : Fun K "facts_in" "facts_in" s_facts_in f fd) (T : Txt P w K mg) : FnOk P w K mg base CX0 1 f fd ["mask"] (spD K 1 S_facts_in) :=
  fn_ok (k := 0) (b := b_facts_in) F sc_facts_in (fun cdv A outer s H E hr => by
    refine ss_one ?_
    refine s_ret ?_
    refine se_v ?_
    exact sn_comp rfl (N' := ["d", "mask"]) (js := [none, some 0]) ⟨rfl, by decide +kernel, rfl, rfl, rfl⟩ (si_range1 rfl T.b_range (sa_cons (se_bits (sv 0)) sa_nil)) (fun s0 H0 fp => ⟨(sg_name (i := 0) (show (["d", "mask"] : List Str).Nodup by decide +kernel) rfl (Or.inl rfl)), (sf_one (st_truth (se_op ok_band (se_op ok_shr (sv 1) (sv 0)) se_int))), (sv 0)⟩)) imp_facts_in
noncomputable def b_exit_of : DS := (dRet (dOp pSub (dOp pIx (dOp pIx (dVar 0) (dVar 1)) (dC (.int 0))) (dC (.int 1))))
noncomputable def S_exit_of : DSp := fun ds h Q => ∃ (c : D) (C : Chart) (f : Nat) (F : Fn), ds = [c, nD f] ∧ ChD h c C ∧ C[f]? = some F ∧ Q (.int ((F.places : Int) - 1)) h
theorem imp_exit_of : ∀ ds h Q, S_exit_of ds h Q → runD 2 b_exit_of ds h Q := by
  rintro ds h Q ⟨c, C, f, F, rfl, hc, hf, q⟩
  obtain ⟨x, e1, e2⟩ := hc.fn hf
  simp only [e1, ↓b_exit_of, ↓runD, ↓dSeq, ↓runX, VV]
  exact q
theorem ok_exit_of {f : Addr} {fd : FuncData} (F : Fun K "exit_of" "exit_of" s_exit_of f fd) (T : Txt P w K mg) : FnOk P w K mg base CX0 1 f fd ["chart", "f"] (spD K 2 S_exit_of) :=
  fn_ok (k := 0) (b := b_exit_of) F sc_exit_of (fun cdv A outer s H E hr => by
    refine ss_one ?_
    refine s_ret ?_
    exact se_op ok_sub (se_ix ok_ix (se_ix ok_ix (sv 0) (sv 1) (fun _ _ => rfl)) se_int (fun _ _ => rfl)) se_int) imp_exit_of
noncomputable def b_start_facts : DS := (dRet (dV (dComp [none, some 1] (dIRange (dCons (dOp pIx (dOp pIx (dVar 0) (dC (.int 0))) (dC (.int 1))) dNil)) (dName 0) (dTr (dOp pBand (dOp pShr (dVar 1) (dVar 0)) (dC (.int 1)))) (dVar 0))))
noncomputable def S_start_facts : DSp := fun ds h Q => ∃ (c : D) (C : Chart) (st : Nat) (F : Fn), ds = [c, nD st] ∧ ChD h c C ∧ C[0]? = some F ∧ F.facts ≤ 6 ∧ Q (.lst (((List.range F.facts).filter fun d => st.testBit d).map nD)) h
theorem imp_start_facts : ∀ ds h Q, S_start_facts ds h Q → runD 2 b_start_facts ds h Q := by
  rintro ds h Q ⟨c, C, st, F, rfl, hc, hf, h6, q⟩
  obtain ⟨x, e1, e2⟩ := hc.fn hf
  have e1 : ixD h c (.int 0) = some (.tup [nD F.places, nD F.facts, x]) := e1
  simp only [e1, ↓b_start_facts, ↓runD, ↓dSeq, ↓runX, VV]
  refine ⟨⟨by first | decide | omega, by first | decide | omega⟩, by rw [rangeD_length]; omega, ?_⟩
  rw [rangeD_map]
  refine comp1 (fun d => st.testBit d) nD Src.ok_nil none (fun y hy K k => ?_) (fun y hy _ K k => ?_) ?_
  · simp only [↓b_start_facts, ↓runD, ↓dSeq, ↓runX, VV]
    refine ⟨by first | decide | omega, ?_⟩
    rw [show ((0 : Int) + (y : Nat)).toNat = y by first | decide | omega, bitT]
    exact k
  · simp only [↓b_start_facts, ↓runD, ↓dSeq, ↓runX, VV]
    rw [Int.zero_add]; exact k
  · rw [Int.toNat_natCast]
    exact q
theorem ok_start_facts {f : Addr} {fd : FuncData} (F : Fun K "start_facts" "start_facts" s_start_facts f fd) (T : Txt P w K mg) : FnOk P w K mg base CX0 1 f fd ["chart", "start"] (spD K 2 S_start_facts) :=
  fn_ok (k := 0) (b := b_start_facts) F sc_start_facts (fun cdv A outer s H E hr => by
    refine ss_one ?_
    refine s_ret ?_
    refine se_v ?_
    exact sn_comp rfl (N' := ["d", "start"]) (js := [none, some 1]) ⟨rfl, by decide +kernel, rfl, rfl, rfl⟩ (si_range1 rfl T.b_range (sa_cons (se_ix ok_ix (se_ix ok_ix (sv 0) se_int (fun _ _ => rfl)) se_int (fun _ _ => rfl)) sa_nil)) (fun s0 H0 fp => ⟨(sg_name (i := 0) (show (["d", "start"] : List Str).Nodup by decide +kernel) rfl (Or.inl rfl)), (sf_one (st_truth (se_op ok_band (se_op ok_shr (sv 1) (sv 0)) se_int))), (sv 0)⟩)) imp_start_facts
noncomputable def b_claim_ahead : DS := (dSeq (dIfS (dAnd (dTst (dChain pLe pLtI (dC (.int 0)) (dVar 1) (dCB pLen (dCons (dVar 0) dNil)))) (dTst (dOp (pEq false) (dOp pIx (dOp pIx (dVar 0) (dVar 1)) (dC (.int 0))) (dVar 2)))) (dRet (dOp pIx (dVar 0) (dVar 1))) dNext)
    (dRet (dC .non)))
noncomputable def isW : Clm → Bool | .within _ _ _ _ _ => true | .at _ _ _ _ => false
noncomputable def bw : Bool → Str | true => "within" | false => "at"
noncomputable def aheadW (cs : List Clm) (k : Int) (w : Bool) : Option Clm := (ahead cs k).bind fun c => if isW c = w then some c else none
noncomputable def S_claim_ahead : DSp := fun ds h Q => ∃ (a : D) (cs : List Clm) (k : Int) (w : Bool), ds = [a, .int k, .str (bw w)] ∧ lsOf h a = some (cs.map clD) ∧ Q (oD clD (aheadW cs k w)) h
theorem imp_claim_ahead : ∀ ds h Q, S_claim_ahead ds h Q → runD 3 b_claim_ahead ds h Q := by
  rintro ds h Q ⟨a, cs, k, w, rfl, ha, q⟩
  simp only [runD, runX, b_claim_ahead, List.map_cons, List.map_nil, List.cons_append, List.nil_append, List.length_cons, List.length_nil, List.replicate, Nat.reduceSub, Nat.reduceAdd, Nat.zero_add, Nat.sub_self]
  (try dsimp only); refine seq_intro fun N hN => ?_
  by_cases h0 : 0 ≤ k
  · by_cases h1 : k < cs.length
    · have hl : k.toNat < cs.length := by first | decide | omega
      obtain ⟨c, hE⟩ : ∃ E, cs[k.toNat]? = some E := ⟨_, List.getElem?_eq_getElem hl⟩
      have ax : atI (cs.map clD) k = some (clD c) := by rw [atI_of h0, List.getElem?_map, hE]; rfl
      have eq : aheadW cs k w = if isW c = w then some c else none := by unfold aheadW ahead; rw [if_pos h0, hE]; rfl
      rw [eq] at q
      cases c <;> cases w
      all_goals simp only [len_ls ha, List.length_map, h0, h1, ix_ls ha, ax, clD, bw, VV]
      all_goals first | exact q | (subst hN; exact q)
    · have eq : aheadW cs k w = none := by unfold aheadW ahead; rw [if_pos h0, List.getElem?_eq_none (by first | decide | omega)]; rfl
      rw [eq] at q
      simp only [len_ls ha, List.length_map, h0, h1, VV]
      subst hN
      exact q
  · have eq : aheadW cs k w = none := by unfold aheadW ahead; rw [if_neg h0]; rfl
    rw [eq] at q
    simp only [len_ls ha, List.length_map, h0, VV]
    subst hN
    exact q
theorem aheadW_T {cs : List Clm} {k : Int} {c : Clm} (h : aheadW cs k true = some c) : ∃ f a p d x, c = .within f a p d x ∧ ahead cs k = some (.within f a p d x) := by
  unfold aheadW at h
  cases q : ahead cs k with
  | none => rw [q] at h; cases h
  | some e =>
    rw [q] at h
    cases e with
    | within f a p d x => cases h; exact ⟨f, a, p, d, x, rfl, rfl⟩
    | «at» f p d x => cases h
theorem aheadW_F {cs : List Clm} {k : Int} {c : Clm} (h : aheadW cs k false = some c) : ∃ f p d x, c = .at f p d x ∧ ahead cs k = some (.at f p d x) := by
  unfold aheadW at h
  cases q : ahead cs k with
  | none => rw [q] at h; cases h
  | some e =>
    rw [q] at h
    cases e with
    | within f a p d x => cases h
    | «at» f p d x => cases h; exact ⟨f, p, d, x, rfl, rfl⟩
theorem aheadW_Tn {cs : List Clm} {k : Int} (h : aheadW cs k true = none) : ∀ f a p d x, ahead cs k ≠ some (.within f a p d x) := fun f a p d x z => by
  unfold aheadW at h; rw [z] at h; cases h
theorem aheadW_Fn {cs : List Clm} {k : Int} (h : aheadW cs k false = none) : ∀ f p d x, ahead cs k ≠ some (.at f p d x) := fun f p d x z => by
  unfold aheadW at h; rw [z] at h; cases h
theorem ok_claim_ahead {f : Addr} {fd : FuncData} (F : Fun K "claim_ahead" "claim_ahead" s_claim_ahead f fd) (T : Txt P w K mg) : FnOk P w K mg base CX0 1 f fd ["ahead", "k", "sort"] (spD K 3 S_claim_ahead) :=
  fn_ok (k := 0) (b := b_claim_ahead) F sc_claim_ahead (fun cdv A outer s H E hr => by
    refine ss_cons ?_ ?_
    · refine s_if ?_ ?_ ?_
      · exact st_w (sw_and (st_chain ok_le ok_ltI se_int (sv 1) (se_callB ok_len rfl T.b_len PySem.boot_len (sa_cons (sv 0) sa_nil))) (sw_and1 (st_cmp (ok_eq hr.units) (se_ix ok_ix (se_ix ok_ix (sv 0) (sv 1) (fun _ _ => rfl)) se_int (fun _ _ => rfl)) (sv 2) (nomark _))))
      · refine ss_one ?_
        refine s_ret ?_
        exact se_ix ok_ix (sv 0) (sv 1) (fun _ _ => rfl)
      exact ss_nil
    refine ss_one ?_
    refine s_ret ?_
    exact se_non) imp_claim_ahead
noncomputable def b_begin_claim : DS := (dSeq (dAsg (dOp pIx (dVar 1) (dC (.int 1))) (dName 2))
    (dSeq (dAsg (dOp pIx (dVar 1) (dC (.int 2))) (dName 3))
    (dSeq (dIfS (dAnd (dTst (dChain pLe pLtI (dC (.int 0)) (dVar 2) (dCB pLen (dCons (dVar 0) dNil)))) (dTst (dChain pLe pLtI (dC (.int 0)) (dVar 3) (dOp pIx (dOp pIx (dVar 0) (dVar 2)) (dC (.int 1)))))) (dRet (dTup (dCons (dC (.str "within")) (dCons (dVar 2) (dCons (dVar 3) (dCons (dC (.int 0)) (dCons (dVar 3) (dCons (dC (.int 0)) dNil)))))))) dNext)
    (dRet (dC .non)))))
noncomputable def S_begin_claim : DSp := fun ds h Q => ∃ (c : D) (C : Chart) (cs : List Clm) (st : Nat) (f d : Int), ds = [c, rD (.begin f d)] ∧ ChD h c C ∧ Q (oD clD (claimOf C st cs (.begin f d))) h
theorem imp_begin_claim : ∀ ds h Q, S_begin_claim ds h Q → runD 4 b_begin_claim ds h Q := by
  rintro ds h Q ⟨c, C, cs, st, f, d, rfl, hc, q⟩
  simp only [runD, runX, b_begin_claim, List.map_cons, List.map_nil, List.cons_append, List.nil_append, List.length_cons, List.length_nil, List.replicate, Nat.reduceSub, Nat.reduceAdd, Nat.zero_add, Nat.sub_self]
  (try dsimp only); refine seq_intro fun N hN => ?_
  simp only [rD, VV]
  subst hN
  (try dsimp only); refine seq_intro fun N hN => ?_
  simp only [VV]
  subst hN
  (try dsimp only); refine seq_intro fun N hN => ?_
  by_cases h0 : 0 ≤ f
  · by_cases h1 : f < C.length
    · have hl : f.toNat < C.length := by first | decide | omega
      obtain ⟨F, hF⟩ : ∃ E, C[f.toNat]? = some E := ⟨_, List.getElem?_eq_getElem hl⟩
      obtain ⟨x, e1, e2⟩ := hc.fn hF
      have e1 : ixD h c (.int f) = some (.tup [nD F.places, nD F.facts, x]) := by
        rw [show nD f.toNat = .int f from congrArg D.int (by first | decide | omega)] at e1; exact e1
      by_cases h2 : 0 ≤ d
      · by_cases h3 : d < F.facts
        · have eq : claimOf C st cs (.begin f d) = some (.within f.toNat d.toNat 0 d.toNat 0) := by
            show (if 0 ≤ f ∧ 0 ≤ d then (C[f.toNat]?).bind fun F => if d < F.facts then some (Clm.within f.toNat d.toNat 0 d.toNat 0) else none else none) = _
            rw [if_pos ⟨h0, h2⟩, hF]; exact if_pos h3
          rw [eq] at q
          simp only [hc.len, h0, h1, e1, h2, h3, VV]
          have q : Q (.tup [.str "within", .int ((f.toNat : Nat) : Int), .int ((d.toNat : Nat) : Int), nD 0, .int ((d.toNat : Nat) : Int), nD 0]) h := q
          rw [Int.toNat_of_nonneg h0, Int.toNat_of_nonneg h2] at q
          exact q
        · have eq : claimOf C st cs (.begin f d) = none := by
            show (if 0 ≤ f ∧ 0 ≤ d then (C[f.toNat]?).bind fun F => if d < F.facts then some (Clm.within f.toNat d.toNat 0 d.toNat 0) else none else none) = _
            rw [if_pos ⟨h0, h2⟩, hF]; exact if_neg h3
          rw [eq] at q
          simp only [hc.len, h0, h1, e1, h2, h3, VV]
          subst hN
          exact q
      · have eq : claimOf C st cs (.begin f d) = none := if_neg (fun z => h2 z.2)
        rw [eq] at q
        simp only [hc.len, h0, h1, e1, h2, VV]
        subst hN
        exact q
    · have eq : claimOf C st cs (.begin f d) = none := by
        show (if 0 ≤ f ∧ 0 ≤ d then (C[f.toNat]?).bind fun F => if d < F.facts then some (Clm.within f.toNat d.toNat 0 d.toNat 0) else none else none) = _
        rw [List.getElem?_eq_none (by first | decide | omega)]; split <;> rfl
      rw [eq] at q
      simp only [hc.len, h0, h1, VV]
      subst hN
      exact q
  · have eq : claimOf C st cs (.begin f d) = none := if_neg (fun z => h0 z.1)
    rw [eq] at q
    simp only [hc.len, h0, VV]
    subst hN
    exact q
theorem ok_begin_claim {f : Addr} {fd : FuncData} (F : Fun K "begin_claim" "begin_claim" s_begin_claim f fd) (T : Txt P w K mg) : FnOk P w K mg base CX0 1 f fd ["chart", "row"] (spD K 2 S_begin_claim) :=
  fn_ok (k := 0) (b := b_begin_claim) F sc_begin_claim (fun cdv A outer s H E hr => by
    refine ss_cons ?_ ?_
    · refine s_set (i := 2) ?_ ?_ ?_ ?_
      · exact sc_begin_claim.nd
      · exact rfl
      · exact Or.inl rfl
      exact se_ix ok_ix (sv 1) se_int (fun _ _ => rfl)
    refine ss_cons ?_ ?_
    · refine s_set (i := 3) ?_ ?_ ?_ ?_
      · exact sc_begin_claim.nd
      · exact rfl
      · exact Or.inl rfl
      exact se_ix ok_ix (sv 1) se_int (fun _ _ => rfl)
    refine ss_cons ?_ ?_
    · refine s_if ?_ ?_ ?_
      · exact st_w (sw_and (st_chain ok_le ok_ltI se_int (sv 2) (se_callB ok_len rfl T.b_len PySem.boot_len (sa_cons (sv 0) sa_nil))) (sw_and1 (st_chain ok_le ok_ltI se_int (sv 3) (se_ix ok_ix (se_ix ok_ix (sv 0) (sv 2) (fun _ _ => rfl)) se_int (fun _ _ => rfl)))))
      · refine ss_one ?_
        refine s_ret ?_
        exact se_tup (sa_cons se_str (sa_cons (sv 2) (sa_cons (sv 3) (sa_cons se_int (sa_cons (sv 3) (sa_cons se_int sa_nil))))))
      exact ss_nil
    refine ss_one ?_
    refine s_ret ?_
    exact se_non) imp_begin_claim
noncomputable def b_move_of : DS := (dRet (dTup (dCons (dOp pIx (dVar 0) (dC (.int 0))) (dCons (dOp pIx (dVar 0) (dC (.int 2))) (dCons (dOp pIx (dVar 0) (dC (.int 3))) dNil)))))
noncomputable def S_move_of : DSp := fun ds h Q => ∃ (a b c d : D), ds = [.tup [a, b, c, d]] ∧ Q (.tup [a, c, d]) h
theorem imp_move_of : ∀ ds h Q, S_move_of ds h Q → runD 1 b_move_of ds h Q := by
  rintro ds h Q ⟨a, b, c, d, rfl, q⟩
  exact q
theorem ok_move_of {f : Addr} {fd : FuncData} (F : Fun K "move_of" "move_of" s_move_of f fd) (T : Txt P w K mg) : FnOk P w K mg base CX0 1 f fd ["row"] (spD K 1 S_move_of) :=
  fn_ok (k := 0) (b := b_move_of) F sc_move_of (fun cdv A outer s H E hr => by
    refine ss_one ?_
    refine s_ret ?_
    exact se_tup (sa_cons (se_ix ok_ix (sv 0) se_int (fun _ _ => rfl)) (sa_cons (se_ix ok_ix (sv 0) se_int (fun _ _ => rfl)) (sa_cons (se_ix ok_ix (sv 0) se_int (fun _ _ => rfl)) sa_nil)))) imp_move_of
noncomputable def b_counted : DS := (dSeq (dAsg (dTk dNil) (dName 2))
    (dSeq (dFor (dISeq (dVar 0)) (dName 3) (dSeq (dAsg (dC (.int 0)) (dName 4))
    (dSeq (dFor (dISeq (dVar 3)) (dName 5) (dAug 4 (dIf (dTr (dIsinst "int" (dVar 5))) (dOp pIx (dVar 2) (dVar 5)) (dC (.int 1))) (pI0 fun i j => i + j)))
    (dDrop (dAppend (dVar 2) (dCons (dCB pMin (dCons (dVar 4) (dCons (dOp pPlus (dVar 1) (dC (.int 1))) dNil))) dNil))))))
    (dRet (dOp pIx (dVar 2) (dUn pNeg (dC (.int 1)))))))
theorem nrD_gm (g : GM) : nrD (gmD g) = true := by cases g <;> rfl
theorem snoc_or {α : Type} (xs : List α) : xs = [] ∨ ∃ ys y, xs = ys ++ [y] := by
  rcases List.eq_nil_or_concat xs with z | ⟨ys, y, z⟩
  · exact .inl z
  · exact .inr ⟨ys, y, by rw [z, List.concat_eq_append]⟩
theorem atI_m1 {xs : List D} (h : 1 ≤ xs.length) : atI xs (-1) = xs[xs.length - 1]? := by
  rcases snoc_or xs with rfl | ⟨ys, y, rfl⟩
  · simp at h
  · rw [atLast]; simp
noncomputable abbrev psD (ps : List (List Part)) : D := .lst (ps.map fun p => .lst (p.map ptD))
noncomputable def S_counted : DSp := fun ds h Q => ∃ (ps : List (List Part)) (ws : List (List GM)) (vs : List Nat) (most : Nat) (w : List GM), ds = [psD ps, nD most] ∧ Fl ps ws vs ∧ ps.length ≤ 100000 ∧ ws[ps.length - 1]? = some w ∧ Q (nD (min w.length (most + 1))) h
theorem cnt_snoc (M : Nat) (ws : List (List GM)) (p : List Part) (x : Part) : cnt M ws (p ++ [x]) = cnt M ws p + pC M ws x := by
  unfold cnt; rw [List.map_append, List.map_cons, List.map_nil, List.sum_append]; simp
theorem kd_gm (h : Hh) (g : GM) : kindD h (gmD g) = some "tuple" := by cases g <;> rfl
theorem imp_counted : ∀ ds h Q, S_counted ds h Q → runD 6 b_counted ds h (Dr h Q) := by
  rintro ds h Q ⟨ps, ws, vs, most, w, rfl, fl, hl, hw, q⟩
  have lw := fl.lens.1
  simp only [runD, runX, b_counted, List.map_cons, List.map_nil, List.cons_append, List.nil_append, List.length_cons, List.length_nil, List.replicate, Nat.reduceSub, Nat.reduceAdd, Nat.zero_add, Nat.sub_self]
  (try dsimp only); refine seq_intro fun N hN => ?_
  simp only [VV]
  subst hN
  (try dsimp only); refine seq_intro fun N hN => ?_
  simp only [VV]
  refine forL_map (fun p δ h' => ∃ (x3 x4 x5 : Option D), δ = [some (psD ps), some (nD most), some (.ref h.length), x3, x4, x5] ∧ h' = h ++ [.lst ((ws.take p.length).map fun w => nD (min w.length (most + 1)))]) ⟨none, none, none, rfl, rfl⟩ (fun _ _ _ _ => Src.ok_nil) ?_ ?_
  · rintro p y r δ h' N1 e ⟨x3, x4, x5, rfl, rfl⟩ hN1
    have pl : p.length < ps.length := by rw [e]; simp
    have hy : ps[p.length]? = some y := by rw [e]; simp
    obtain ⟨gw, _, lt⟩ := fl.get hy
    simp only [VV]
    (try dsimp only); refine seq_intro fun N hN => ?_
    simp only [VV]
    subst hN
    (try dsimp only); refine seq_intro fun N hN => ?_
    simp only [VV]
    refine forL_map (fun p2 δ h2 => ∃ x5 : Option D, δ = [some (psD ps), some (nD most), some (.ref h.length), some (.lst (y.map ptD)), some (nD (cnt (most + 1) ws p2)), x5] ∧ h2 = h ++ [.lst ((ws.take p.length).map fun w => nD (min w.length (most + 1)))]) ⟨x5, rfl, rfl⟩ (fun _ _ _ _ => Src.ok_nil) ?_ ?_
    · rintro p2 x r2 δ h2 N2 e2 ⟨x5, rfl, rfl⟩ hN2
      have mem : x ∈ y := by rw [e2]; simp
      cases x with
      | mv g =>
        simp only [ptD, kd_gm, VV]
        refine hN2 _ _ ⟨some (gmD g), ?_, rfl⟩
        rw [cnt_snoc]; rfl
      | row j =>
        have hj := lt j mem
        obtain ⟨wj, hwj⟩ : ∃ wj, ws[j]? = some wj := ⟨_, List.getElem?_eq_getElem (by first | decide | omega)⟩
        have ax : atI ((ws.take p.length).map fun w => nD (min w.length (most + 1))) (j : Int) = some (nD (min wj.length (most + 1))) := by
          rw [atN, List.getElem?_map, List.getElem?_take_of_lt hj, hwj]; rfl
        simp only [ptD, ix_ls (ls_new h _), ax, VV]
        refine hN2 _ _ ⟨some (nD j), ?_, rfl⟩
        rw [cnt_snoc]
        have : pC (most + 1) ws (.row j) = min wj.length (most + 1) := by show min (ws.getD j []).length _ = _; rw [List.getD_eq_getElem?_getD, hwj]; rfl
        rw [this]; simp
    · rintro δ h2 ⟨x5, rfl, rfl⟩
      subst hN
      have e5 : (if (most : Int) + 1 < ((cnt (most + 1) ws y : Nat) : Int) then (most : Int) + 1 else ((cnt (most + 1) ws y : Nat) : Int)) = ((min (flat ws y).length (most + 1) : Nat) : Int) := by
        rw [← cnt_cap]; split <;> omega
      have e6 : (ws.take (p ++ [y]).length).map (fun w => nD (min w.length (most + 1))) = (ws.take p.length).map (fun w => nD (min w.length (most + 1))) ++ [nD (min (flat ws y).length (most + 1))] := by
        rw [List.length_append, List.length_cons, List.length_nil, List.take_add_one, gw, List.map_append]; rfl
      simp only [get_new, set_new, e5, VV]
      refine ⟨by rw [List.length_map, List.length_take]; omega, hN1 _ _ ⟨_, _, _, rfl, by rw [e6]⟩⟩
  · rintro δ h' ⟨x3, x4, x5, rfl, rfl⟩
    subst hN
    have hne : 1 ≤ ps.length := by
      have := (List.getElem?_eq_some_iff.mp hw).1
      omega
    have ex : ws.take ps.length = ws := by rw [← lw]; exact List.take_length
    have ax : atI (ws.map fun w => nD (min w.length (most + 1))) (-1) = some (nD (min w.length (most + 1))) := by
      have e0 : (ws.map fun w => nD (min w.length (most + 1))).length = ps.length := by rw [List.length_map, lw]
      rw [atI_m1 (by rw [e0]; exact hne), e0, List.getElem?_map, hw]; rfl
    simp only [ex, ix_ls (ls_new h _), ax, VV]
    exact Dr.drop rfl q
theorem ok_counted {f : Addr} {fd : FuncData} (F : Fun K "counted" "counted" s_counted f fd) (T : Txt P w K mg) : FnOk P w K mg base CX0 1 f fd ["parts", "most"] (spD K 2 S_counted) :=
  fn_okD (k := 0) (b := b_counted) F sc_counted (fun cdv A outer s H E hr => by
    refine ss_cons ?_ ?_
    · refine s_set (i := 2) ?_ ?_ ?_ ?_
      · exact sc_counted.nd
      · exact rfl
      · exact Or.inl rfl
      exact se_t (sn_lst sa_nil)
    refine ss_cons ?_ ?_
    · refine s_for ?_ ?_ ?_ ?_ ?_
      · exact PassesOwn.never
      · exact rfl
      · exact si_seq (sv 0)
      · exact sg_name (i := 3) sc_counted.nd rfl (Or.inl rfl)
      refine ss_cons ?_ ?_
      · refine s_set (i := 4) ?_ ?_ ?_ ?_
        · exact sc_counted.nd
        · exact rfl
        · exact Or.inl rfl
        exact se_int
      refine ss_cons ?_ ?_
      · refine s_for ?_ ?_ ?_ ?_ ?_
        · exact PassesOwn.never
        · exact rfl
        · exact si_seq (sv 3)
        · exact sg_name (i := 5) sc_counted.nd rfl (Or.inl rfl)
        refine ss_one ?_
        exact s_aug (i := 4) sc_counted.nd rfl (Or.inl rfl) (se_if (st_truth (se_isinst (by decide) rfl T.b_isinstance (sv 5) (pe_bltn (v := .ty "int") rfl T.b_int PyProof.Rows.boot_int rfl))) (se_ix ok_ix (sv 2) (sv 5) (fun _ _ => rfl)) se_int) iok_add
      refine ss_one ?_
      exact s_expr (se_append (sv 2) (sa_cons (se_callB (ok_min rfl) rfl T.b_min PyProof.Rows.boot_min (sa_cons (sv 4) (sa_cons (se_op ok_plus (sv 1) se_int) sa_nil))) sa_nil))
    refine ss_one ?_
    refine s_ret ?_
    exact se_ix ok_ix (sv 2) (se_un ok_neg se_int) (fun _ _ => rfl)) imp_counted
noncomputable def b_first_fact : DS := (dSeq (dWhile (dTst (dOp (pEq true) (dOp pIx (dOp pIx (dVar 0) (dVar 1)) (dC (.int 0))) (dC (.str "start")))) (dAsg (dOp pIx (dOp pIx (dVar 0) (dVar 1)) (dC (.int 1))) (dName 1)))
    (dRet (dOp pIx (dOp pIx (dVar 0) (dVar 1)) (dC (.int 1)))))
noncomputable def S_first_fact : DSp := fun ds h Q => ∃ (a : D) (rs : List Row) (k : Nat) (d : Int), ds = [a, nD k] ∧ lsOf h a = some (rs.map rD) ∧ First rs k d ∧ Q (.int d) h
theorem imp_first_fact : ∀ ds h Q, S_first_fact ds h Q → runD 2 b_first_fact ds h Q := by
  rintro ds h Q ⟨a, rs, k, d, rfl, ha, hf, q⟩
  simp only [runD, runX, b_first_fact, List.map_cons, List.map_nil, List.cons_append, List.nil_append, List.length_cons, List.length_nil, List.replicate, Nat.reduceSub, Nat.reduceAdd, Nat.zero_add, Nat.sub_self]
  (try dsimp only); refine seq_intro fun N hN => ?_
  refine while_d (fun m δ h' => h' = h ∧ First rs m d ∧ δ = [some a, some (nD m)]) (m := k) ⟨rfl, hf, rfl⟩ ?_
  rintro m δ h' N1 ⟨rfl, hf, rfl⟩ hN1
  have ix : ∀ r, rs[m]? = some r → ixD h' a (nD m) = some (rD r) := fun r e => by rw [ix_ls ha, atN, List.getElem?_map, e]; rfl
  cases hf with
  | start e => simp only [ix _ e, rD, VV]; subst hN; simp only [ix _ e, rD, VV]; exact q
  | inn e l f => simp only [ix _ e, rD, Mv.w, VV]; exact hN1 _ _ _ l ⟨rfl, f, rfl⟩
  | along e l f => simp only [ix _ e, rD, VV]; exact hN1 _ _ _ l ⟨rfl, f, rfl⟩
theorem ok_first_fact {f : Addr} {fd : FuncData} (F : Fun K "first_fact" "first_fact" s_first_fact f fd) (T : Txt P w K mg) : FnOk P w K mg base CX0 1 f fd ["rows", "k"] (spD K 2 S_first_fact) :=
  fn_ok (k := 0) (b := b_first_fact) F sc_first_fact (fun cdv A outer s H E hr => by
    refine ss_cons ?_ ?_
    · refine s_while ?_ ?_ ?_
      · exact PassesOwn.never
      · exact st_cmp (ok_ne hr.units) (se_ix ok_ix (se_ix ok_ix (sv 0) (sv 1) (fun _ _ => rfl)) se_int (fun _ _ => rfl)) se_str (nomark _)
      refine ss_one ?_
      refine s_set (i := 1) ?_ ?_ ?_ ?_
      · exact sc_first_fact.nd
      · exact rfl
      · exact Or.inl rfl
      exact se_ix ok_ix (se_ix ok_ix (sv 0) (sv 1) (fun _ _ => rfl)) se_int (fun _ _ => rfl)
    refine ss_one ?_
    refine s_ret ?_
    exact se_ix ok_ix (se_ix ok_ix (sv 0) (sv 1) (fun _ _ => rfl)) se_int (fun _ _ => rfl)) imp_first_fact
noncomputable def b_moves_of : DS := (dSeq (dAsg (dTk dNil) (dName 2))
    (dSeq (dAsg (dTk (dCons (dVar 1) dNil)) (dName 3))
    (dSeq (dWhile (dTst (dOp pGt (dCB pLen (dCons (dVar 3) dNil)) (dC (.int 0)))) (dSeq (dAsg (dPop (dVar 3)) (dName 4))
    (dIfS (dTr (dIsinst "int" (dVar 4))) (dDrop (dExtend (dVar 3) (dCons (dV (dListRev (dCons (dOp pIx (dVar 0) (dVar 4)) dNil))) dNil))) (dDrop (dAppend (dVar 2) (dCons (dVar 4) dNil))))))
    (dRet (dVar 2)))))
noncomputable def S_moves_of : DSp := fun ds h Q => ∃ (ps : List (List Part)) (ws : List (List GM)) (vs : List Nat) (k : Nat) (w : List GM) (v : Nat), ds = [psD ps, nD k] ∧ Fl ps ws vs ∧ ws[k]? = some w ∧ vs[k]? = some v ∧ v ≤ 16000000 ∧ w.length ≤ 16000000 ∧ Q (.lst (w.map gmD)) h
noncomputable def mH (h : Hh) (xs ys : List D) : Hh := h ++ [.lst xs, .lst ys]
theorem mH_0 (h : Hh) (xs ys : List D) : (mH h xs ys)[h.length]? = some (.lst xs) := by
  unfold mH; rw [List.getElem?_append_right (Nat.le_refl _)]; simp
theorem mH_1 (h : Hh) (xs ys : List D) : (mH h xs ys)[h.length + 1]? = some (.lst ys) := by
  unfold mH; rw [List.getElem?_append_right (by first | decide | omega), show h.length + 1 - h.length = 1 by first | decide | omega]; rfl
theorem mH_s0 (h : Hh) (xs ys zs : List D) : (mH h xs ys).set h.length (.lst zs) = mH h zs ys := by
  unfold mH; rw [List.set_append_right _ _ (Nat.le_refl _)]; simp
theorem mH_s1 (h : Hh) (xs ys zs : List D) : (mH h xs ys).set (h.length + 1) (.lst zs) = mH h xs zs := by
  unfold mH; rw [List.set_append_right _ _ (by first | decide | omega), show h.length + 1 - h.length = 1 by first | decide | omega]; rfl
theorem pop_E (xs : List D) (x : D) : (xs ++ [x])[(xs ++ [x]).length - 1]? = some x := by simp
theorem pop_D (xs : List D) (x : D) : (xs ++ [x]).dropLast = xs := by simp
theorem imp_moves_of : ∀ ds h Q, S_moves_of ds h Q → runD 5 b_moves_of ds h (Dr h Q) := by
  rintro ds h Q ⟨ps, ws, vs, k, w, v, rfl, fl, hw, hv, bv, bw, q⟩
  have lw := fl.lens.1
  have kl : k < ps.length := by rw [← lw]; exact (List.getElem?_eq_some_iff.mp hw).1
  simp only [runD, runX, b_moves_of, List.map_cons, List.map_nil, List.cons_append, List.nil_append, List.length_cons, List.length_nil, List.replicate, Nat.reduceSub, Nat.reduceAdd, Nat.zero_add, Nat.sub_self]
  (try dsimp only); refine seq_intro fun N hN => ?_
  simp only [VV]
  subst hN
  (try dsimp only); refine seq_intro fun N hN => ?_
  simp only [VV]
  subst hN
  (try dsimp only); refine seq_intro fun N hN => ?_
  refine while_d (fun m δ h' => ∃ (ms : List GM) (st : List Part) (x4 : Option D), δ = [some (psD ps), some (nD k), some (.ref h.length), some (.ref (h.length + 1)), x4] ∧ h' = mH h (ms.map gmD) (st.map ptD) ∧ ms ++ flat ws st.reverse = w ∧ rowsLt ps.length st ∧ wt vs st = m ∧ m ≤ v) (m := v) ⟨[], [.row k], none, ?_, ?_, ?_, ?_, ?_, Nat.le_refl _⟩ ?_
  · simp
  · unfold mH; simp [ptD]
  · show [] ++ (ws.getD k [] ++ []) = w
    rw [List.getD_eq_getElem?_getD, hw]; simp
  · intro j hj; rw [List.mem_singleton] at hj; cases hj; exact kl
  · show vs.getD k 0 + 0 = v
    rw [List.getD_eq_getElem?_getD, hv]; simp
  rintro m δ h' N1 ⟨ms, st, x4, rfl, rfl, e1, e2, e3, e4⟩ hN1
  rcases snoc_or st with rfl | ⟨st', x, rfl⟩
  · simp only [len_ls (lsOf_ref (mH_1 h _ _)), VV]
    subst hN
    simp only [VV]
    have e1 : ms = w := by simpa [flat] using e1
    subst e1
    have := Dr.dropL (h := h) (Q := Q) (xs := ms.map gmD) (g1 := []) (g2 := [.lst []]) (k := h.length) (nrDs_map nrD_gm ms) (by simp) q
    exact this
  · have lt0 : rowsLt ps.length st' := fun j hj => e2 j (List.mem_append_left _ hj)
    have mp : (st' ++ [x]).map ptD = st'.map ptD ++ [ptD x] := by rw [List.map_append]; rfl
    have w1 : wt vs (st' ++ [x]) = wt vs st' + pW vs x := by unfold wt; rw [List.map_append, List.sum_append]; simp
    have f1 : flat ws (st' ++ [x]).reverse = pF ws x ++ flat ws st'.reverse := by unfold flat; rw [List.reverse_append]; simp
    have pos : (0 : Int) < ((st'.map ptD ++ [ptD x]).length : Int) := by rw [List.length_append, List.length_cons]; omega
    rw [mp]
    rw [f1] at e1
    rw [w1] at e3
    simp only [len_ls (lsOf_ref (mH_1 h _ _)), pos, VV]
    (try dsimp only); refine seq_intro fun N hN => ?_
    simp only [mH_1, pop_E, pop_D, mH_s1, VV]
    subst hN
    cases x with
    | mv g =>
      simp only [ptD, kd_gm, mH_0, mH_s0, VV]
      have hl : ms.length < w.length := by rw [← e1]; simp [pF]
      refine ⟨by rw [List.length_map]; omega, hN1 (wt vs st') _ _ ?_ ⟨ms ++ [g], st', some (gmD g), rfl, by rw [List.map_append]; rfl, ?_, lt0, rfl, ?_⟩⟩
      · have : pW vs (.mv g) = 1 := rfl
        omega
      · rw [← e1]; simp [pF]
      · omega
    | row j =>
      have hj := e2 j (List.mem_append_right _ List.mem_cons_self)
      obtain ⟨p, hp⟩ : ∃ p, ps[j]? = some p := ⟨_, List.getElem?_eq_getElem hj⟩
      obtain ⟨gw, gv, lt⟩ := fl.get hp
      have ax : atI (ps.map fun p => D.lst (p.map ptD)) (j : Int) = some (.lst (p.map ptD)) := by rw [atN, List.getElem?_map, hp]; rfl
      have pw : pW vs (.row j) = 1 + wt vs p := by show vs.getD j 0 = _; rw [List.getD_eq_getElem?_getD, gv]; rfl
      have pf : pF ws (.row j) = flat ws p := by show ws.getD j [] = _; rw [List.getD_eq_getElem?_getD, gw]; rfl
      have lt2 : rowsLt ps.length (st' ++ p.reverse) := fun i hi => by
        rcases List.mem_append.mp hi with z | z
        · exact lt0 i z
        · have := lt i (List.mem_reverse.mp z); omega
      have w2 : wt vs (st' ++ p.reverse) = wt vs st' + wt vs p := by unfold wt; rw [List.map_append, List.sum_append, List.map_reverse, List.sum_reverse]
      have le := fl.wt_len lt2
      have le2 : st'.length + p.length ≤ 16777216 := by rw [List.length_append, List.length_reverse] at le; omega
      simp only [ptD, ax, mH_1, mH_s1, List.length_map, List.length_reverse, VV]
      refine ⟨le2, hN1 (wt vs st' + wt vs p) _ _ (by first | decide | omega) ⟨ms, st' ++ p.reverse, some (nD j), rfl, by rw [List.map_append, List.map_reverse], ?_, lt2, w2, by first | decide | omega⟩⟩
      rw [← e1, pf]
      unfold flat
      rw [List.reverse_append, List.reverse_reverse, List.flatMap_append]
theorem ok_moves_of {f : Addr} {fd : FuncData} (F : Fun K "moves_of" "moves_of" s_moves_of f fd) (T : Txt P w K mg) : FnOk P w K mg base CX0 1 f fd ["parts", "k"] (spD K 2 S_moves_of) :=
  fn_okD (k := 0) (b := b_moves_of) F sc_moves_of (fun cdv A outer s H E hr => by
    refine ss_cons ?_ ?_
    · refine s_set (i := 2) ?_ ?_ ?_ ?_
      · exact sc_moves_of.nd
      · exact rfl
      · exact Or.inl rfl
      exact se_t (sn_lst sa_nil)
    refine ss_cons ?_ ?_
    · refine s_set (i := 3) ?_ ?_ ?_ ?_
      · exact sc_moves_of.nd
      · exact rfl
      · exact Or.inl rfl
      exact se_t (sn_lst (sa_cons (sv 1) sa_nil))
    refine ss_cons ?_ ?_
    · refine s_while ?_ ?_ ?_
      · exact PassesOwn.never
      · exact st_cmp ok_gt (se_callB ok_len rfl T.b_len PySem.boot_len (sa_cons (sv 3) sa_nil)) se_int (nomark _)
      refine ss_cons ?_ ?_
      · refine s_set (i := 4) ?_ ?_ ?_ ?_
        · exact sc_moves_of.nd
        · exact rfl
        · exact Or.inl rfl
        exact se_pop (sv 3)
      refine ss_one ?_
      refine s_if ?_ ?_ ?_
      · exact st_truth (se_isinst (by decide) rfl T.b_isinstance (sv 4) (pe_bltn (v := .ty "int") rfl T.b_int PyProof.Rows.boot_int rfl))
      · refine ss_one ?_
        exact s_expr (se_extend (sv 3) (sa_cons (se_v (sn_listRev rfl rfl T.b_list rfl T.b_reversed (sa_cons (se_ix ok_ix (sv 0) (sv 4) (fun _ _ => rfl)) sa_nil))) sa_nil))
      refine ss_one ?_
      exact s_expr (se_append (sv 2) (sa_cons (sv 4) sa_nil))
    refine ss_one ?_
    refine s_ret ?_
    exact sv 2) imp_moves_of
noncomputable def b__law_cell : DS := (dSeq (dIfS (dTst (dOp pLtI (dVar 1) (dCB pLen (dCons (dVar 0) dNil)))) (dRet (dOp pIx (dVar 0) (dVar 1))) dNext)
    (dSeq (dAsg (dOp pPlus (dOp pMulI (dC (.int 6007)) (dVar 1)) (dC (.int 29))) (dName 2))
    (dSeq (dIfS (dTst (dOp pGt (dCB pLen (dCons (dVar 0) dNil)) (dC (.int 0)))) (dAsg (dOp pPlus (dVar 2) (dOp pMulI (dC (.int 40961)) (dOp pIx (dVar 0) (dOp pMod (dOp pMulI (dC (.int 7)) (dVar 1)) (dCB pLen (dCons (dVar 0) dNil)))))) (dName 2)) dNext)
    (dRet (dOp pMod (dOp pMulI (dVar 2) (dVar 2)) (dC (.int 1000081)))))))
noncomputable def S__law_cell : DSp := fun ds h Q => ∃ (ns : List Int) (k : Nat), ds = [.scr (ns.map .int), nD k] ∧ ns.length ≤ 63 ∧ (∀ x ∈ ns, Builtin.Int.intBits x ≤ 1048576) ∧ k ≤ 1000 ∧ ∀ r : Int, Builtin.Int.intBits r ≤ 1048576 → Q (.int r) h
theorem small_bits {r : Int} (h0 : -(2 ^ 64) < r) (h1 : r < 2 ^ 64) : Builtin.Int.intBits r ≤ 1048576 := Nat.le_trans (intBits_le_64 h0 h1) (by decide)
theorem imp__law_cell : ∀ ds h Q, S__law_cell ds h Q → runD 3 b__law_cell ds h Q := by
  rintro ds h Q ⟨ns, k, rfl, hl, hb, hk, q⟩
  simp only [runD, runX, b__law_cell, List.map_cons, List.map_nil, List.cons_append, List.nil_append, List.length_cons, List.length_nil, List.replicate, Nat.reduceSub, Nat.reduceAdd, Nat.zero_add, Nat.sub_self]
  (try dsimp only); refine seq_intro fun N hN => ?_
  by_cases z : k < ns.length
  · have e1 : atI (ns.map D.int) (k : Int) = some (.int ns[k]) := by rw [atN, List.getElem?_map, List.getElem?_eq_getElem z]; rfl
    have e2 : ((k : Int) < (ns.length : Int)) := by first | decide | omega
    simp only [List.length_map, e1, e2, VV]
    exact q _ (hb _ (List.getElem_mem z))
  · have fin : ∀ r : Int, 0 ≤ r % 1000081 ∧ r % 1000081 < 1000081 := fun r => by first | decide | omega
    have e2 : ¬ ((k : Int) < (ns.length : Int)) := by first | decide | omega
    simp only [List.length_map, e2, VV]
    subst hN
    (try dsimp only); refine seq_intro fun N hN => ?_
    simp only [VV]
    refine ⟨mulS (by first | decide | omega), ?_⟩
    subst hN
    (try dsimp only); refine seq_intro fun N hN => ?_
    have rest : ∀ x : Int, Builtin.Int.intBits x ≤ 2000000 → N [some (.scr (ns.map D.int)), some (nD k), some (.int x)] h := fun x b3 => by
      subst hN
      simp only [VV]
      refine ⟨.of_le b3 b3 (by first | decide | omega), by first | decide | omega, ?_⟩
      have := fin (x * x)
      exact q _ (small_bits (by first | decide | omega) (by first | decide | omega))
    by_cases z0 : 0 < ns.length
    · have hi : (7 * (k : Int) % (ns.length : Int)).toNat < ns.length := by
        have := Int.emod_lt_of_pos (7 * (k : Int)) (show (0 : Int) < ns.length by first | decide | omega)
        have := Int.emod_nonneg (7 * (k : Int)) (show (ns.length : Int) ≠ 0 by first | decide | omega)
        omega
      have e1 : atI (ns.map D.int) (7 * (k : Int) % (ns.length : Int)) = some (.int ns[(7 * (k : Int) % (ns.length : Int)).toNat]) := by
        rw [atI_of (Int.emod_nonneg _ (by first | decide | omega)), List.getElem?_map, List.getElem?_eq_getElem hi]; rfl
      have e3 : ((0 : Int) < (ns.length : Int)) := by first | decide | omega
      simp only [List.length_map, e1, e3, VV]
      have hx := hb _ (List.getElem_mem hi)
      generalize ns[(7 * (k : Int) % (ns.length : Int)).toNat] = x at hx
      have b1 : Builtin.Int.intBits (40961 * x) ≤ 64 + 1048576 := intBits_mul_le (intBits_le_64 (by decide) (by decide)) hx
      have b2 : Builtin.Int.intBits (6007 * (k : Int) + 29 + 40961 * x) ≤ max 64 (64 + 1048576) + 1 := intBits_add_le (intBits_le_64 (by first | decide | omega) (by first | decide | omega)) b1
      exact ⟨mulS (by first | decide | omega), trivial, mulS (by first | decide | omega), rest _ (by first | decide | omega)⟩
    · have e3 : ¬ ((0 : Int) < (ns.length : Int)) := by first | decide | omega
      simp only [List.length_map, e3, VV]
      exact rest _ (Nat.le_trans (intBits_le_64 (by first | decide | omega) (by first | decide | omega)) (by decide))
theorem ok__law_cell {f : Addr} {fd : FuncData} (F : Fun K "_law_cell" "_law_cell" s__law_cell f fd) (T : Txt P w K mg) : FnOk P w K mg base CX0 1 f fd ["_law_script", "_law_k"] (spD K 2 S__law_cell) :=
  fn_ok (k := 0) (b := b__law_cell) F sc__law_cell (fun cdv A outer s H E hr => by
    refine ss_cons ?_ ?_
    · refine s_if ?_ ?_ ?_
      · exact st_cmp ok_ltI (sv 1) (se_callB ok_len rfl T.b_len PySem.boot_len (sa_cons (sv 0) sa_nil)) (nomark _)
      · refine ss_one ?_
        refine s_ret ?_
        exact se_ix ok_ix (sv 0) (sv 1) (fun _ _ => rfl)
      exact ss_nil
    refine ss_cons ?_ ?_
    · refine s_set (i := 2) ?_ ?_ ?_ ?_
      · exact sc__law_cell.nd
      · exact rfl
      · exact Or.inl rfl
      exact se_op ok_plus (se_op ok_timesI se_int (sv 1)) se_int
    refine ss_cons ?_ ?_
    · refine s_if ?_ ?_ ?_
      · exact st_cmp ok_gt (se_callB ok_len rfl T.b_len PySem.boot_len (sa_cons (sv 0) sa_nil)) se_int (nomark _)
      · refine ss_one ?_
        refine s_set (i := 2) ?_ ?_ ?_ ?_
        · exact sc__law_cell.nd
        · exact rfl
        · exact Or.inl rfl
        exact se_op ok_plus (sv 2) (se_op ok_timesI se_int (se_ix ok_ix (sv 0) (se_op ok_mod (se_op ok_timesI se_int (sv 1)) (se_callB ok_len rfl T.b_len PySem.boot_len (sa_cons (sv 0) sa_nil))) (fun _ _ => rfl)))
      exact ss_nil
    refine ss_one ?_
    refine s_ret ?_
    exact se_op ok_mod (se_op ok_timesI (sv 2) (sv 2)) se_int) imp__law_cell
noncomputable def b__law_number : DS := (dSeq (dIfS (dTst (dOp (pEq false) (dOp pMod (dVar 0) (dC (.int 3))) (dC (.int 0)))) (dRet (dOp pPlus (dC (.int 1)) (dOp pMod (dOp pDiv (dVar 0) (dC (.int 3))) (dC (.int 9))))) dNext)
    (dRet (dOp pPlus (dC (.int 1)) (dOp pMod (dOp pMulI (dVar 0) (dC (.int 982451653))) (dOp pPow (dC (.int 10)) (dC (.int 18)))))))
theorem emodN (a b : Nat) : ((a : Nat) : Int) % ((b : Nat) : Int) = ((a % b : Nat) : Int) := (Int.natCast_emod a b).symm
noncomputable def S__law_number : DSp := fun ds h Q => ∃ c : Int, ds = [.int c] ∧ ∀ r : Nat, 1 ≤ r → r ≤ 10 ^ 18 → Q (nD r) h
theorem imp__law_number : ∀ ds h Q, S__law_number ds h Q → runD 1 b__law_number ds h Q := by
  rintro ds h Q ⟨c, rfl, q⟩
  simp only [runD, runX, b__law_number, List.map_cons, List.map_nil, List.cons_append, List.nil_append, List.length_cons, List.length_nil, List.replicate, Nat.reduceSub, Nat.reduceAdd, Nat.zero_add, Nat.sub_self]
  (try dsimp only); refine seq_intro fun N hN => ?_
  simp only [VV]
  refine ⟨by decide, ?_⟩
  refine iteB (fun z => ?_) (fun z => ?_)
  · refine ⟨by decide, by decide, ?_⟩
    have h0 := Int.emod_nonneg (c / 3) (show (9 : Int) ≠ 0 by decide)
    have h1 := Int.emod_lt_of_pos (c / 3) (show (0 : Int) < 9 by decide)
    rw [show (1 : Int) + c / 3 % 9 = ((1 + (c / 3 % 9).toNat : Nat) : Int) by first | decide | omega]
    exact q _ (by first | decide | omega) (by first | decide | omega)
  · subst hN
    simp only [VV]
    refine ⟨mulS' (by decide), ⟨by decide, by decide, by decide⟩, by decide, ?_⟩
    have e10 : (10 : Int) ^ (18 : Int).toNat = 1000000000000000000 := by decide
    rw [e10]
    generalize c * 982451653 = y
    have h0 := Int.emod_nonneg y (show (1000000000000000000 : Int) ≠ 0 by decide)
    have h1 := Int.emod_lt_of_pos y (show (0 : Int) < 1000000000000000000 by decide)
    rw [show (1 : Int) + y % 1000000000000000000 = ((1 + (y % 1000000000000000000).toNat : Nat) : Int) by first | decide | omega]
    exact q _ (by first | decide | omega) (by first | decide | omega)
theorem ok__law_number {f : Addr} {fd : FuncData} (F : Fun K "_law_number" "_law_number" s__law_number f fd) (T : Txt P w K mg) : FnOk P w K mg base CX0 1 f fd ["_law_cell_here"] (spD K 1 S__law_number) :=
  fn_ok (k := 0) (b := b__law_number) F sc__law_number (fun cdv A outer s H E hr => by
    refine ss_cons ?_ ?_
    · refine s_if ?_ ?_ ?_
      · exact st_cmp (ok_eq hr.units) (se_op ok_mod (sv 0) se_int) se_int (nomark _)
      · refine ss_one ?_
        refine s_ret ?_
        exact se_op ok_plus se_int (se_op ok_mod (se_op ok_div (sv 0) se_int) se_int)
      exact ss_nil
    refine ss_one ?_
    refine s_ret ?_
    exact se_op ok_plus se_int (se_op ok_mod (se_op ok_timesI (sv 0) se_int) (se_op ok_pow se_int se_int))) imp__law_number
noncomputable def b__law_paper : DS := (dSeq (dAsg (dTk (dCons (dTup (dCons (dC (.str "begin")) (dCons (dC (.int 0)) (dCons (dVar 3) dNil)))) dNil)) (dName 5))
    (dSeq (dAsg (dTk dNil) (dName 6))
    (dSeq (dAsg (dTk (dCons (dC (.int 0)) dNil)) (dName 7))
    (dSeq (dFor (dIRange (dCons (dOp pSub (dVar 1) (dC (.int 1))) dNil)) (dName 8) (dSeq (dAsg (dV (dComp [none, some 0, some 8] (dIRange (dCons (dCB pLen (dCons (dVar 0) dNil)) dNil)) (dName 0) (dAnd (dTst (dOp (pEq false) (dOp pIx (dOp pIx (dVar 1) (dVar 0)) (dC (.int 0))) (dC (.str "step")))) (dAnd (dTst (dOp (pEq false) (dOp pIx (dOp pIx (dVar 1) (dVar 0)) (dC (.int 1))) (dVar 2))) (dTst (dOp (pEq false) (dOp pIx (dOp pIx (dVar 1) (dVar 0)) (dC (.int 2))) (dOp pPlus (dVar 2) (dC (.int 1))))))) (dVar 0))) (dName 9))
    (dSeq (dDrop (dAppend (dVar 5) (dCons (dTup (dCons (dC (.str "step")) (dCons (dOp pSub (dCB pLen (dCons (dVar 5) dNil)) (dC (.int 1))) (dCons (dOp pIx (dVar 9) (dC (.int 0))) (dCons (dOp pMod (dOp pPlus (dOp pPlus (dVar 3) (dVar 8)) (dC (.int 1))) (dVar 2)) dNil))))) dNil)))
    (dSeq (dDrop (dAppend (dVar 6) (dCons (dTup (dCons (dC (.str "step")) (dCons (dOp pIx (dVar 9) (dC (.int 0))) (dCons (dOp pMod (dOp pPlus (dOp pPlus (dVar 3) (dVar 8)) (dC (.int 1))) (dVar 2)) dNil)))) dNil)))
    (dDrop (dAppend (dVar 7) (dCons (dOp pPlus (dOp pIx (dVar 7) (dUn pNeg (dC (.int 1)))) (dOp pIx (dOp pIx (dVar 0) (dOp pIx (dVar 9) (dC (.int 0)))) (dC (.int 3)))) dNil)))))))
    (dSeq (dAsg (dOp pIx (dV (dComp [none, some 0] (dIRange (dCons (dCB pLen (dCons (dVar 0) dNil)) dNil)) (dName 0) (dTst (dOp (pEq false) (dOp pIx (dOp pIx (dVar 1) (dVar 0)) (dC (.int 0))) (dC (.str "call")))) (dVar 0))) (dC (.int 0))) (dName 10))
    (dSeq (dAsg (dOp pMod (dOp pSub (dOp pPlus (dVar 3) (dVar 1)) (dC (.int 1))) (dVar 2)) (dName 11))
    (dSeq (dAsg (dCB pLen (dCons (dVar 6) dNil)) (dName 12))
    (dSeq (dFor (dIRange (dCons (dVar 4) dNil)) (dName 13) (dSeq (dAsg (dOp pSub (dCB pLen (dCons (dVar 5) dNil)) (dC (.int 1))) (dName 14))
    (dSeq (dDrop (dAppend (dVar 5) (dCons (dTup (dCons (dC (.str "short")) (dCons (dVar 14) (dCons (dVar 10) (dCons (dVar 14) (dCons (dVar 11) dNil)))))) dNil)))
    (dSeq (dDrop (dAppend (dVar 7) (dCons (dOp pPlus (dOp pMulI (dC (.int 2)) (dOp pIx (dVar 7) (dUn pNeg (dC (.int 1))))) (dOp pIx (dOp pIx (dVar 0) (dVar 10)) (dC (.int 3)))) dNil)))
    (dSeq (dAsg (dOp pPlus (dOp pMulI (dC (.int 2)) (dVar 12)) (dC (.int 2))) (dName 12))
    (dIfS (dTst (dOp pLtI (dCB pLen (dCons (dVar 6) dNil)) (dC (.int 1000)))) (dAsg (dOp pPlus (dOp pPlus (dOp pPlus (dVar 6) (dV (dCons (dTup (dCons (dC (.str "in")) (dCons (dVar 10) (dCons (dVar 3) dNil)))) dNil))) (dVar 6)) (dV (dCons (dTup (dCons (dC (.str "out")) (dCons (dVar 11) dNil))) dNil))) (dName 6)) dNext))))))
    (dRet (dTup (dCons (dVar 5) (dCons (dVar 6) (dCons (dVar 7) (dCons (dVar 12) (dCons (dVar 10) dNil)))))))))))))))
noncomputable def qH (h : Hh) (a b c : List D) : Hh := h ++ [.lst a, .lst b, .lst c]
theorem qH_0 (h : Hh) (a b c : List D) : (qH h a b c)[h.length]? = some (.lst a) := by
  unfold qH; rw [List.getElem?_append_right (Nat.le_refl _)]; simp
theorem qH_1 (h : Hh) (a b c : List D) : (qH h a b c)[h.length + 1]? = some (.lst b) := by
  unfold qH; rw [List.getElem?_append_right (by first | decide | omega), show h.length + 1 - h.length = 1 by first | decide | omega]; rfl
theorem qH_2 (h : Hh) (a b c : List D) : (qH h a b c)[h.length + 2]? = some (.lst c) := by
  unfold qH; rw [List.getElem?_append_right (by first | decide | omega), show h.length + 2 - h.length = 2 by first | decide | omega]; rfl
theorem qH_s0 (h : Hh) (a b c x : List D) : (qH h a b c).set h.length (.lst x) = qH h x b c := by
  unfold qH; rw [List.set_append_right _ _ (Nat.le_refl _)]; simp
theorem qH_s1 (h : Hh) (a b c x : List D) : (qH h a b c).set (h.length + 1) (.lst x) = qH h a x c := by
  unfold qH; rw [List.set_append_right _ _ (by first | decide | omega), show h.length + 1 - h.length = 1 by first | decide | omega]; rfl
theorem qH_s2 (h : Hh) (a b c x : List D) : (qH h a b c).set (h.length + 2) (.lst x) = qH h a b x := by
  unfold qH; rw [List.set_append_right _ _ (by first | decide | omega), show h.length + 2 - h.length = 2 by first | decide | omega]; rfl
noncomputable def cS (Es : List Edge) (p i : Nat) : Bool := match Es[i]? with | some e => e.isStep && (decide (e.p = p) && decide (e.q = p + 1)) | none => false
noncomputable def cC (Es : List Edge) (i : Nat) : Bool := match Es[i]? with | some e => !e.isStep | none => false
theorem filt_head {c : Nat → Bool} {n i : Nat} (hi : i < n) (h : c i = true) : ∃ j r, (List.range n).filter c = j :: r ∧ c j = true ∧ j < n := by
  have mem : i ∈ (List.range n).filter c := List.mem_filter.mpr ⟨List.mem_range.mpr hi, h⟩
  cases e : (List.range n).filter c with
  | nil => rw [e] at mem; cases mem
  | cons j r =>
    have : j ∈ (List.range n).filter c := by rw [e]; exact List.mem_cons_self
    obtain ⟨a, b⟩ := List.mem_filter.mp this
    exact ⟨j, r, rfl, b, List.mem_range.mp a⟩
theorem eo_stepI {n m : Nat} {Es : List Edge} (eo : EO n m Es) {p : Nat} (hp : p + 1 < n) : ∃ i r c, (List.range Es.length).filter (cS Es p) = i :: r ∧ i < Es.length ∧ Es[i]? = some (stepE m p c) := by
  obtain ⟨c, hc⟩ := eo.steps p hp
  obtain ⟨i, hi, e⟩ := List.getElem_of_mem hc
  have e' : Es[i]? = some (stepE m p c) := by rw [List.getElem?_eq_getElem hi, e]
  obtain ⟨j, r, h1, h2, h3⟩ := filt_head (c := cS Es p) hi (by unfold cS; rw [e']; simp [stepE, Edge.isStep])
  refine ⟨j, r, ?_⟩
  have ej := List.getElem?_eq_getElem h3
  unfold cS at h2
  rw [ej] at h2
  rcases eo.each _ (List.getElem_mem h3) with ⟨p', c', z, _⟩ | ⟨p', z, _⟩ | ⟨c', z, _⟩
  · rw [z] at h2 ej
    simp [stepE, Edge.isStep] at h2
    obtain rfl := h2.2
    exact ⟨c', h1, h3, ej⟩
  · rw [z] at h2
    have h2 : (true && (decide (p' = p) && decide (p' = p + 1))) = true := h2
    simp only [Bool.true_and, Bool.and_eq_true, decide_eq_true_eq] at h2
    omega
  · rw [z] at h2
    simp [callE, Edge.isStep] at h2
theorem eo_callI {n m : Nat} {Es : List Edge} (eo : EO n m Es) : ∃ i r c, (List.range Es.length).filter (cC Es) = i :: r ∧ i < Es.length ∧ Es[i]? = some (callE n m c) := by
  obtain ⟨c, hc⟩ := eo.call
  obtain ⟨i, hi, e⟩ := List.getElem_of_mem hc
  have e' : Es[i]? = some (callE n m c) := by rw [List.getElem?_eq_getElem hi, e]
  obtain ⟨j, r, h1, h2, h3⟩ := filt_head (c := cC Es) hi (by unfold cC; rw [e']; simp [callE, Edge.isStep])
  refine ⟨j, r, ?_⟩
  have ej := List.getElem?_eq_getElem h3
  unfold cC at h2
  rw [ej] at h2
  rcases eo.each _ (List.getElem_mem h3) with ⟨p', c', z, _⟩ | ⟨p', z, _⟩ | ⟨c', z, _⟩
  · rw [z] at h2
    simp [stepE, Edge.isStep] at h2
  · rw [z] at h2
    simp [ringE, Edge.isStep] at h2
  · rw [z] at ej
    exact ⟨c', h1, h3, ej⟩
noncomputable def S__law_paper : DSp := fun ds h Q => ∃ (n m d T : Nat) (Es : List Edge), ds = [.lst (Es.map eD), nD n, nD m, nD d, nD T] ∧ EO n m Es ∧ 1 ≤ n ∧ n ≤ 10 ∧ 1 ≤ m ∧ m ≤ 6 ∧ d < m ∧ T ≤ 60 ∧ ∀ (rs : List Row) (xs : List Nat) (w mv : List GM) (i c : Nat), DP n m d Es rs xs w → rs.length = n + T → Es[i]? = some (callE n m c) → (w.length ≤ 900 → mv = w) → Q (.tup [.lst (rs.map rD), .lst (mv.map gmD), .lst (xs.map nD), nD w.length, nD i]) h
theorem imp__law_paper : ∀ ds h Q, S__law_paper ds h Q → runD 15 b__law_paper ds h (Dr h Q) := by
  rintro ds h Q ⟨n, m, d, T, Es, rfl, eo, n1, n10, m1, m6, hd, hT, q⟩
  have en : (n : Int) - 1 = ((n - 1 : Nat) : Int) := by first | decide | omega
  have el := eo.len
  have lastX : ∀ (rs : List Row) (xs : List Nat) (w : List GM), DP n m d Es rs xs w → atI (xs.map nD) (-1) = some (nD (xs.getD (rs.length - 1) 0)) := fun rs xs w dp => by
    have h1 := dp.len
    have h2 := dp.pos
    rw [atI_m1 (by rw [List.length_map]; omega), List.length_map, List.getElem?_map, List.getD_eq_getElem?_getD, ← h1, List.getElem?_eq_getElem (by first | decide | omega)]; rfl
  simp only [runD, runX, b__law_paper, List.map_cons, List.map_nil, List.cons_append, List.nil_append, List.length_cons, List.length_nil, List.replicate, Nat.reduceSub, Nat.reduceAdd, Nat.zero_add, Nat.sub_self]
  (try dsimp only); refine seq_intro fun N hN => ?_
  simp only [VV]
  subst hN
  (try dsimp only); refine seq_intro fun N hN => ?_
  simp only [VV]
  subst hN
  (try dsimp only); refine seq_intro fun N hN => ?_
  simp only [VV]
  subst hN
  (try dsimp only); refine seq_intro fun N hN => ?_
  simp only [en, VV]
  refine ⟨⟨by first | decide | omega, by first | decide | omega⟩, ?_⟩
  rw [rangeD_map, Int.toNat_natCast]
  refine forL_map (fun p δ h' => ∃ (rs : List Row) (xs : List Nat) (w : List GM) (x8 x9 : Option D), δ = [some (.lst (Es.map eD)), some (nD n), some (nD m), some (nD d), some (nD T), some (.ref h.length), some (.ref (h.length + 1)), some (.ref (h.length + 2)), x8, x9, none, none, none, none, none] ∧ h' = qH h (rs.map rD) (w.map gmD) (xs.map nD) ∧ DP n m d Es rs xs w ∧ rs.length = p.length + 1 ∧ w.length = p.length) ⟨[.begin 0 d], [0], [], none, none, ?_, ?_, DP.base hd, rfl, rfl⟩ (fun _ _ _ _ => Src.ok_nil) ?_ ?_
  · simp
  · unfold qH; simp [rD]
  · rintro p k r δ h' N1 e ⟨rs, xs, w, x8, x9, rfl, rfl, dp, hl, hwl⟩ hN1
    obtain ⟨hk, hkn⟩ := range_split e
    obtain ⟨i, ri, c, fi, hi, hE⟩ := eo_stepI eo (p := k) (by first | decide | omega)
    have xl := dp.len
    simp only [VV]
    (try dsimp only); refine seq_intro fun N hN => ?_
    simp only [List.length_map, VV]
    refine ⟨⟨by first | decide | omega, by first | decide | omega⟩, by rw [rangeD_length]; omega, ?_⟩
    rw [rangeD_map, Int.toNat_natCast]
    refine comp1 (cS Es k) nD Src.ok_nil none (fun y hy K kk => ?_) (fun y hy _ K kk => ?_) ?_
    · have yl := List.mem_range.mp hy
      obtain ⟨e, he⟩ : ∃ e, Es[y]? = some e := ⟨_, List.getElem?_eq_getElem yl⟩
      have ax : atI (Es.map eD) (0 + (y : Int)) = some (eD e) := by rw [Int.zero_add, atN, List.getElem?_map, he]; rfl
      unfold cS at kk
      rw [he] at kk
      obtain ⟨ep, eq, ec, ek⟩ := e
      cases ek with
      | step t =>
        have t1 : ((ep : Int) == 0 + (k : Int)) = decide (ep = k) := by rw [Bool.eq_iff_iff]; simp; omega
        have t2 : ((eq : Int) == 0 + (k : Int) + 1) = decide (eq = k + 1) := by rw [Bool.eq_iff_iff]; simp; omega
        have kk : K (decide (ep = k) && decide (eq = k + 1)) _ := kk
        simp only [ax, eD, t1, t2, VV]
        by_cases z : ep = k
        · simp only [z, decide_true, Bool.true_and] at kk
          simp only [z, VV]
          exact kk
        · simp only [z, decide_false, Bool.false_and] at kk
          simp only [z, VV]
          exact kk
      | call g a b o =>
        have kk : K false _ := kk
        simp only [ax, eD, VV]
        exact kk
    · simp only [VV]
      rw [Int.zero_add]
      exact kk
    rw [fi]
    subst hN
    (try dsimp only); refine seq_intro fun N hN => ?_
    have a0 : atI (nD i :: List.map nD ri) 0 = some (nD i) := by rw [show (0 : Int) = ((0 : Nat) : Int) from rfl, atN]; rfl
    have rl : ((rs.length : Nat) : Int) - 1 = ((k : Nat) : Int) := by first | decide | omega
    have em : ((d : Int) + (0 + (k : Int)) + 1) % (m : Int) = (((d + k + 1) % m : Nat) : Int) := by rw [← emodN]; congr 1; omega
    have aE : atI (Es.map eD) (i : Int) = some (eD (stepE m k c)) := by rw [atN, List.getElem?_map, hE]; rfl
    simp only [qH_0, qH_s0, len_ls (lsOf_ref (qH_0 h _ _ _)), List.length_map, a0, rl, em, VV]
    refine ⟨by first | decide | omega, by first | decide | omega, ?_⟩
    subst hN
    (try dsimp only); refine seq_intro fun N hN => ?_
    simp only [qH_1, qH_s1, List.length_map, a0, em, VV]
    refine ⟨by first | decide | omega, by first | decide | omega, ?_⟩
    subst hN
    simp only [qH_2, qH_s2, List.length_map, a0, aE, eD_3, ix_ls (lsOf_ref (qH_2 h _ _ _)), lastX rs xs w dp, VV]
    refine ⟨by first | decide | omega, ?_⟩
    have rk : rs.length - 1 = k := by first | decide | omega
    rw [rk]
    refine hN1 _ _ ⟨_, _, _, _, _, rfl, ?_, dp.step m1 (p := k) (i := i) (c := c) (by first | decide | omega) (by first | decide | omega) hE, by simp [hl], by simp [hwl]⟩
    rw [List.map_append, List.map_append, List.map_append]
    rfl
  · rintro δ h' ⟨rs, xs, w, x8, x9, rfl, rfl, dp, hl, hwl⟩
    rw [List.length_range] at hl hwl
    obtain ⟨i, ri, c, fi, hi, hE⟩ := eo_callI eo
    subst hN
    (try dsimp only); refine seq_intro fun N hN => ?_
    simp only [List.length_map, VV]
    refine ⟨⟨by first | decide | omega, by first | decide | omega⟩, by rw [rangeD_length]; omega, ?_⟩
    rw [rangeD_map, Int.toNat_natCast]
    refine comp1 (cC Es) nD Src.ok_nil none (fun y hy K kk => ?_) (fun y hy _ K kk => ?_) ?_
    · have yl := List.mem_range.mp hy
      obtain ⟨e, he⟩ : ∃ e, Es[y]? = some e := ⟨_, List.getElem?_eq_getElem yl⟩
      have ax : atI (Es.map eD) (0 + (y : Int)) = some (eD e) := by rw [Int.zero_add, atN, List.getElem?_map, he]; rfl
      unfold cC at kk
      rw [he] at kk
      obtain ⟨ep, eq, ec, ek⟩ := e
      cases ek with
      | step t =>
        have kk : K false _ := kk
        simp only [ax, eD, VV]
        exact kk
      | call g a b o =>
        have kk : K true _ := kk
        simp only [ax, eD, VV]
        exact kk
    · simp only [VV]
      rw [Int.zero_add]
      exact kk
    rw [fi]
    have a0 : atI (nD i :: List.map nD ri) 0 = some (nD i) := by rw [show (0 : Int) = ((0 : Nat) : Int) from rfl, atN]; rfl
    have aE : atI (Es.map eD) (i : Int) = some (eD (callE n m c)) := by rw [atN, List.getElem?_map, hE]; rfl
    have em : ((d : Int) + (n : Int) - 1) % (m : Int) = (((d + (n - 1)) % m : Nat) : Int) := by rw [← emodN]; congr 1; omega
    simp only [a0, VV]
    subst hN
    (try dsimp only); refine seq_intro fun N hN => ?_
    simp only [em, VV]
    refine ⟨by first | decide | omega, ?_⟩
    subst hN
    (try dsimp only); refine seq_intro fun N hN => ?_
    simp only [len_ls (lsOf_ref (qH_1 h _ _ _)), List.length_map, VV]
    subst hN
    (try dsimp only); refine seq_intro fun N hN => ?_
    simp only [VV]
    refine ⟨⟨by first | decide | omega, by first | decide | omega⟩, ?_⟩
    rw [rangeD_map, Int.toNat_natCast]
    refine forL_map (fun p δ h' => ∃ (rs : List Row) (xs : List Nat) (w mv : List GM) (b : List D) (x6 : D) (x13 x14 : Option D), δ = [some (.lst (Es.map eD)), some (nD n), some (nD m), some (nD d), some (nD T), some (.ref h.length), some x6, some (.ref (h.length + 2)), x8, x9, some (nD i), some (nD ((d + (n - 1)) % m)), some (nD w.length), x13, x14] ∧ h' = qH h (rs.map rD) b (xs.map nD) ∧ DP n m d Es rs xs w ∧ rs.length = n + p.length ∧ (x6 = .lst (mv.map gmD) ∨ x6 = .ref (h.length + 1) ∧ b = mv.map gmD) ∧ (mv = w ∨ 1000 ≤ mv.length ∧ 1000 ≤ w.length) ∧ mv.length ≤ 3000) ⟨rs, xs, w, w, w.map gmD, .ref (h.length + 1), none, none, rfl, rfl, dp, by simp; omega, .inr ⟨rfl, rfl⟩, .inl rfl, by first | decide | omega⟩ (fun _ _ _ _ => Src.ok_nil) ?_ ?_
    · rintro p k r δ h' N1 e ⟨rs, xs, w, mv, b, x6, x13, x14, rfl, rfl, dp, hl, h6, hmv, bm⟩ hN1
      obtain ⟨hk, hkn⟩ := range_split e
      have xl := dp.len
      have rl : ((rs.length : Nat) : Int) - 1 = ((rs.length - 1 : Nat) : Int) := by first | decide | omega
      obtain ⟨l, hl1⟩ : ∃ l, rs.length = l + 1 := ⟨rs.length - 1, by first | decide | omega⟩
      have DD := dp.short n1 hd (l := l) (i := i) (c := c) hl1 (by first | decide | omega) hE
      have ls6 : ∀ rs' xs', lsOf (qH h rs' b xs') x6 = some (mv.map gmD) ∧ lsP (qH h rs' b xs') x6 = some (mv.map gmD) := fun rs' xs' => by
        rcases h6 with z | ⟨z, zb⟩
        · rw [z]; exact ⟨rfl, rfl⟩
        · rw [z, zb]; exact ⟨lsOf_ref (qH_1 ..), lsP_ref (qH_1 ..)⟩
      simp only [VV]
      (try dsimp only); refine seq_intro fun N hN => ?_
      simp only [len_ls (lsOf_ref (qH_0 h _ _ _)), List.length_map, rl, VV]
      subst hN
      (try dsimp only); refine seq_intro fun N hN => ?_
      simp only [qH_0, qH_s0, List.length_map, VV]
      refine ⟨by first | decide | omega, ?_⟩
      subst hN
      (try dsimp only); refine seq_intro fun N hN => ?_
      simp only [qH_2, qH_s2, List.length_map, aE, eD_3, ix_ls (lsOf_ref (qH_2 h _ _ _)), lastX rs xs w dp, VV]
      refine ⟨mulS (by decide), by first | decide | omega, ?_⟩
      subst hN
      (try dsimp only); refine seq_intro fun N hN => ?_
      simp only [VV]
      refine ⟨mulS (by decide), ?_⟩
      subst hN
      have rk : rs.length - 1 = l := by first | decide | omega
      have lw : (2 : Int) * ((w.length : Nat) : Int) + 2 = (((w ++ (.go .inn i d :: (w ++ [GM.out ((d + (n - 1)) % m : Nat)]))).length : Nat) : Int) := by simp; omega
      rw [rk, lw]
      have hp : ∀ (x : D), qH h (rs.map rD ++ [.tup [.str "short", .int (l : Int), .int (i : Int), .int (l : Int), nD ((d + (n - 1)) % m)]]) b (xs.map nD ++ [.int (2 * ((xs.getD l 0 : Nat) : Int) + (((callE n m c).cost : Nat) : Int))]) = qH h ((rs ++ [Row.short l i l ((d + (n - 1)) % m : Nat)]).map rD) b ((xs ++ [2 * xs.getD l 0 + c]).map nD) := fun _ => by
        rw [List.map_append, List.map_append]; rfl
      rw [hp .non]
      by_cases z : mv.length < 1000
      · have z2 : ((mv.length : Nat) : Int) < 1000 := by first | decide | omega
        have em2 : mv = w := by rcases hmv with z | z; exact z; omega
        subst em2
        simp only [len_ls (ls6 _ _).1, List.length_map, z2, (ls6 _ _).2, VV]
        refine ⟨by first | decide | omega, by simp; omega, by simp; omega, hN1 _ _ ⟨_, _, _, mv ++ (.go .inn i d :: (mv ++ [.out ((d + (n - 1)) % m : Nat)])), b, _, _, _, rfl, rfl, DD, by simp [hl]; omega, .inl ?_, .inl rfl, by simp; omega⟩⟩
        simp [gmD, Mv.w]
      · have z2 : ¬ ((mv.length : Nat) : Int) < 1000 := by first | decide | omega
        simp only [len_ls (ls6 _ _).1, List.length_map, z2, VV]
        refine hN1 _ _ ⟨_, _, _, mv, b, x6, _, _, rfl, rfl, DD, by simp [hl]; omega, h6, .inr ⟨by first | decide | omega, ?_⟩, bm⟩
        have : 1000 ≤ w.length := by
          rcases hmv with z | z
          · rw [← z]; omega
          · exact z.2
        simp; omega
    · rintro δ h' ⟨rs, xs, w, mv, b, x6, x13, x14, rfl, rfl, dp, hl, h6, hmv, bm⟩
      rw [List.length_range] at hl
      subst hN
      simp only [VV]
      refine ⟨h, [.lst (rs.map rD), .lst b, .lst (xs.map nD)], _, rfl, rfl, fun _ _ e => .inl e, ?_, q rs xs w mv i c dp hl hE fun z => ?_⟩
      · refine .tup (.cons (.opn (Nat.le_refl _) (qH_0 ..) (.of (nrDs_map nrD_rD _))) (.cons ?_ (.cons (.opn (by first | decide | omega) (qH_2 ..) (.of (nrDs_map (fun _ => rfl) _))) (.cons (.nr rfl) (.cons (.nr rfl) .nil)))))
        rcases h6 with z | ⟨z, zb⟩
        · rw [z]; exact .nr (nrDs_map nrD_gm _)
        · rw [z]; exact .opn (by first | decide | omega) (by rw [zb]; exact qH_1 ..) (.of (nrDs_map nrD_gm _))
      · rcases hmv with z2 | z2
        · exact z2
        · omega
theorem ok__law_paper {f : Addr} {fd : FuncData} (F : Fun K "_law_paper" "_law_paper" s__law_paper f fd) (T : Txt P w K mg) : FnOk P w K mg base CX0 1 f fd ["_law_edges_here", "_law_places", "_law_facts", "_law_d", "_law_times"] (spD K 5 S__law_paper) :=
  fn_okD (k := 0) (b := b__law_paper) F sc__law_paper (fun cdv A outer s H E hr => by
    refine ss_cons ?_ ?_
    · refine s_set (i := 5) ?_ ?_ ?_ ?_
      · exact sc__law_paper.nd
      · exact rfl
      · exact Or.inl rfl
      exact se_t (sn_lst (sa_cons (se_tup (sa_cons se_str (sa_cons se_int (sa_cons (sv 3) sa_nil)))) sa_nil))
    refine ss_cons ?_ ?_
    · refine s_set (i := 6) ?_ ?_ ?_ ?_
      · exact sc__law_paper.nd
      · exact rfl
      · exact Or.inl rfl
      exact se_t (sn_lst sa_nil)
    refine ss_cons ?_ ?_
    · refine s_set (i := 7) ?_ ?_ ?_ ?_
      · exact sc__law_paper.nd
      · exact rfl
      · exact Or.inl rfl
      exact se_t (sn_lst (sa_cons se_int sa_nil))
    refine ss_cons ?_ ?_
    · refine s_for ?_ ?_ ?_ ?_ ?_
      · exact PassesOwn.never
      · exact rfl
      · exact si_range1 rfl T.b_range (sa_cons (se_op ok_sub (sv 1) se_int) sa_nil)
      · exact sg_name (i := 8) sc__law_paper.nd rfl (Or.inr rfl)
      refine ss_cons ?_ ?_
      · exact s_setcV (i := 9) (hN := sc__law_paper.nd) (hix := rfl) (hx := (Or.inl rfl)) rfl (N' := ["_law_n", "_law_edges_here", "_law_p"]) (js := [none, some 0, some 8]) ⟨rfl, by decide +kernel, rfl, rfl, rfl⟩ (si_range1 rfl T.b_range (sa_cons (se_callB ok_len rfl T.b_len PySem.boot_len (sa_cons (sv 0) sa_nil)) sa_nil)) (fun s0 H0 fp => ⟨(sg_name (i := 0) (show (["_law_n", "_law_edges_here", "_law_p"] : List Str).Nodup by decide +kernel) rfl (Or.inl rfl)), (sf_one (st_w (sw_and (st_cmp (ok_eq hr.units) (se_ix ok_ix (se_ix ok_ix (sv 1) (sv 0) (fun _ _ => rfl)) se_int (fun _ _ => rfl)) se_str (nomark _)) (sw_and (st_cmp (ok_eq hr.units) (se_ix ok_ix (se_ix ok_ix (sv 1) (sv 0) (fun _ _ => rfl)) se_int (fun _ _ => rfl)) (sv 2) (nomark _)) (sw_and1 (st_cmp (ok_eq hr.units) (se_ix ok_ix (se_ix ok_ix (sv 1) (sv 0) (fun _ _ => rfl)) se_int (fun _ _ => rfl)) (se_op ok_plus (sv 2) se_int) (nomark _))))))), (sv 0)⟩)
      refine ss_cons ?_ ?_
      · exact s_expr (se_append (sv 5) (sa_cons (se_tup (sa_cons se_str (sa_cons (se_op ok_sub (se_callB ok_len rfl T.b_len PySem.boot_len (sa_cons (sv 5) sa_nil)) se_int) (sa_cons (se_ix ok_ix (sv 9) se_int (fun _ _ => rfl)) (sa_cons (se_op ok_mod (se_op ok_plus (se_op ok_plus (sv 3) (sv 8)) se_int) (sv 2)) sa_nil))))) sa_nil))
      refine ss_cons ?_ ?_
      · exact s_expr (se_append (sv 6) (sa_cons (se_tup (sa_cons se_str (sa_cons (se_ix ok_ix (sv 9) se_int (fun _ _ => rfl)) (sa_cons (se_op ok_mod (se_op ok_plus (se_op ok_plus (sv 3) (sv 8)) se_int) (sv 2)) sa_nil)))) sa_nil))
      refine ss_one ?_
      exact s_expr (se_append (sv 7) (sa_cons (se_op ok_plus (se_ix ok_ix (sv 7) (se_un ok_neg se_int) (fun _ _ => rfl)) (se_ix ok_ix (se_ix ok_ix (sv 0) (se_ix ok_ix (sv 9) se_int (fun _ _ => rfl)) (fun _ _ => rfl)) se_int (fun _ _ => rfl))) sa_nil))
    refine ss_cons ?_ ?_
    · refine s_set (i := 10) ?_ ?_ ?_ ?_
      · exact sc__law_paper.nd
      · exact rfl
      · exact Or.inl rfl
      exact se_ix ok_ix (se_v (sn_comp rfl (N' := ["_law_n", "_law_edges_here"]) (js := [none, some 0]) ⟨rfl, by decide +kernel, rfl, rfl, rfl⟩ (si_range1 rfl T.b_range (sa_cons (se_callB ok_len rfl T.b_len PySem.boot_len (sa_cons (sv 0) sa_nil)) sa_nil)) (fun s0 H0 fp => ⟨(sg_name (i := 0) (show (["_law_n", "_law_edges_here"] : List Str).Nodup by decide +kernel) rfl (Or.inl rfl)), (sf_one (st_cmp (ok_eq hr.units) (se_ix ok_ix (se_ix ok_ix (sv 1) (sv 0) (fun _ _ => rfl)) se_int (fun _ _ => rfl)) se_str (nomark _))), (sv 0)⟩))) se_int (fun _ _ => rfl)
    refine ss_cons ?_ ?_
    · refine s_set (i := 11) ?_ ?_ ?_ ?_
      · exact sc__law_paper.nd
      · exact rfl
      · exact Or.inl rfl
      exact se_op ok_mod (se_op ok_sub (se_op ok_plus (sv 3) (sv 1)) se_int) (sv 2)
    refine ss_cons ?_ ?_
    · refine s_set (i := 12) ?_ ?_ ?_ ?_
      · exact sc__law_paper.nd
      · exact rfl
      · exact Or.inl rfl
      exact se_callB ok_len rfl T.b_len PySem.boot_len (sa_cons (sv 6) sa_nil)
    refine ss_cons ?_ ?_
    · refine s_for ?_ ?_ ?_ ?_ ?_
      · exact PassesOwn.never
      · exact rfl
      · exact si_range1 rfl T.b_range (sa_cons (sv 4) sa_nil)
      · exact sg_name (i := 13) sc__law_paper.nd rfl (Or.inl rfl)
      refine ss_cons ?_ ?_
      · refine s_set (i := 14) ?_ ?_ ?_ ?_
        · exact sc__law_paper.nd
        · exact rfl
        · exact Or.inl rfl
        exact se_op ok_sub (se_callB ok_len rfl T.b_len PySem.boot_len (sa_cons (sv 5) sa_nil)) se_int
      refine ss_cons ?_ ?_
      · exact s_expr (se_append (sv 5) (sa_cons (se_tup (sa_cons se_str (sa_cons (sv 14) (sa_cons (sv 10) (sa_cons (sv 14) (sa_cons (sv 11) sa_nil)))))) sa_nil))
      refine ss_cons ?_ ?_
      · exact s_expr (se_append (sv 7) (sa_cons (se_op ok_plus (se_op ok_timesI se_int (se_ix ok_ix (sv 7) (se_un ok_neg se_int) (fun _ _ => rfl))) (se_ix ok_ix (se_ix ok_ix (sv 0) (sv 10) (fun _ _ => rfl)) se_int (fun _ _ => rfl))) sa_nil))
      refine ss_cons ?_ ?_
      · refine s_set (i := 12) ?_ ?_ ?_ ?_
        · exact sc__law_paper.nd
        · exact rfl
        · exact Or.inl rfl
        exact se_op ok_plus (se_op ok_timesI se_int (sv 12)) se_int
      refine ss_one ?_
      refine s_if ?_ ?_ ?_
      · exact st_cmp ok_ltI (se_callB ok_len rfl T.b_len PySem.boot_len (sa_cons (sv 6) sa_nil)) se_int (nomark _)
      · refine ss_one ?_
        refine s_set (i := 6) ?_ ?_ ?_ ?_
        · exact sc__law_paper.nd
        · exact rfl
        · exact Or.inl rfl
        exact se_op ok_plus (se_op ok_plus (se_op ok_plus (sv 6) (se_v (sn_lst (sa_cons (se_tup (sa_cons se_str (sa_cons (sv 10) (sa_cons (sv 3) sa_nil)))) sa_nil)))) (sv 6)) (se_v (sn_lst (sa_cons (se_tup (sa_cons se_str (sa_cons (sv 11) sa_nil))) sa_nil)))
      exact ss_nil
    refine ss_one ?_
    refine s_ret ?_
    exact se_tup (sa_cons (sv 5) (sa_cons (sv 6) (sa_cons (sv 7) (sa_cons (sv 12) (sa_cons (sv 10) sa_nil)))))) imp__law_paper
noncomputable def b__law_due : DS := (dSeq (dAsg (dV (dComp [none, some 4, some 2, some 3, some 1] (dIRange (dCons (dCB pLen (dCons (dVar 0) dNil)) dNil)) (dName 0) dNoIf (dTup (dCons (dC (.str "within")) (dCons (dC (.int 0)) (dCons (dVar 1) (dCons (dCB pMin (dCons (dVar 0) (dCons (dOp pSub (dVar 2) (dC (.int 1))) dNil))) (dCons (dOp pMod (dOp pPlus (dVar 1) (dCB pMin (dCons (dVar 0) (dCons (dOp pSub (dVar 2) (dC (.int 1))) dNil)))) (dVar 3)) (dCons (dOp pIx (dVar 4) (dVar 0)) dNil))))))))) (dName 5))
    (dRet (dVar 5)))
noncomputable def S__law_due : DSp := fun ds h Q => ∃ (a b : D) (xs : List Nat) (n m d : Nat), ds = [a, b, nD n, nD m, nD d] ∧ lenD h a = some xs.length ∧ lsOf h b = some (xs.map nD) ∧ 1 ≤ n ∧ 1 ≤ m ∧ xs.length ≤ 1000 ∧ Q (.lst ((due n m d xs).map clD)) h
theorem imp__law_due : ∀ ds h Q, S__law_due ds h Q → runD 6 b__law_due ds h Q := by
  rintro ds h Q ⟨a, b, xs, n, m, d, rfl, ha, hb, n1, m1, hl, q⟩
  simp only [runD, runX, b__law_due, List.map_cons, List.map_nil, List.cons_append, List.nil_append, List.length_cons, List.length_nil, List.replicate, Nat.reduceSub, Nat.reduceAdd, Nat.zero_add, Nat.sub_self]
  (try dsimp only); refine seq_intro fun N hN => ?_
  simp only [ha, VV]
  refine ⟨⟨by first | decide | omega, by first | decide | omega⟩, by rw [rangeD_length]; omega, ?_⟩
  rw [rangeD_map, Int.toNat_natCast]
  have fin : (List.range xs.length).map (fun k => clD (clAt n m d k (xs.getD k 0))) = (due n m d xs).map clD := by unfold due; rw [List.map_map]; rfl
  refine comp1n (fun k => clD (clAt n m d k (xs.getD k 0))) Src.ok_nil none (fun k hk K kk => ?_) ?_
  · have kl := List.mem_range.mp hk
    have ax : atI (xs.map nD) (0 + (k : Int)) = some (nD (xs.getD k 0)) := by
      rw [Int.zero_add, atN, List.getElem?_map, List.getD_eq_getElem?_getD, List.getElem?_eq_getElem kl]; rfl
    have mn : (if (n : Int) - 1 < 0 + (k : Int) then (n : Int) - 1 else 0 + (k : Int)) = ((min k (n - 1) : Nat) : Int) := by split <;> omega
    simp only [mn, ix_ls hb, ax, VV]
    refine ⟨by first | decide | omega, ?_⟩
    have em : ((d : Int) + ((min k (n - 1) : Nat) : Int)) % (m : Int) = (((d + min k (n - 1)) % m : Nat) : Int) := by rw [← Int.natCast_add]; exact (Int.natCast_emod _ m).symm
    rw [em]
    exact kk
  · rw [fin]
    subst hN
    simp only [VV]
    exact q
theorem ok__law_due {f : Addr} {fd : FuncData} (F : Fun K "_law_due" "_law_due" s__law_due f fd) (T : Txt P w K mg) : FnOk P w K mg base CX0 1 f fd ["_law_rows", "_law_costs", "_law_places", "_law_facts", "_law_d"] (spD K 5 S__law_due) :=
  fn_ok (k := 0) (b := b__law_due) F sc__law_due (fun cdv A outer s H E hr => by
    refine ss_cons ?_ ?_
    · exact s_setcV (i := 5) (hN := sc__law_due.nd) (hix := rfl) (hx := (Or.inl rfl)) rfl (N' := ["_law_k", "_law_d", "_law_places", "_law_facts", "_law_costs"]) (js := [none, some 4, some 2, some 3, some 1]) ⟨rfl, by decide +kernel, rfl, rfl, rfl⟩ (si_range1 rfl T.b_range (sa_cons (se_callB ok_len rfl T.b_len PySem.boot_len (sa_cons (sv 0) sa_nil)) sa_nil)) (fun s0 H0 fp => ⟨(sg_name (i := 0) (show (["_law_k", "_law_d", "_law_places", "_law_facts", "_law_costs"] : List Str).Nodup by decide +kernel) rfl (Or.inl rfl)), sf_nil, (se_tup (sa_cons se_str (sa_cons se_int (sa_cons (sv 1) (sa_cons (se_callB (ok_min rfl) rfl T.b_min PyProof.Rows.boot_min (sa_cons (sv 0) (sa_cons (se_op ok_sub (sv 2) se_int) sa_nil))) (sa_cons (se_op ok_mod (se_op ok_plus (sv 1) (se_callB (ok_min rfl) rfl T.b_min PyProof.Rows.boot_min (sa_cons (sv 0) (sa_cons (se_op ok_sub (sv 2) se_int) sa_nil)))) (sv 3)) (sa_cons (se_ix ok_ix (sv 4) (sv 0) (fun _ _ => rfl)) sa_nil)))))))⟩)
    refine ss_one ?_
    refine s_ret ?_
    exact sv 5) imp__law_due
noncomputable def b_brings : DS := (dRet (dOp (pIn false) (dVar 2) (dCal S_facts_in (dCons (dOp pIx (dVar 0) (dVar 1)) dNil))))
noncomputable def S_brings : DSp := fun ds h Q => ∃ (t : List Nat) (n m d : Nat) (e : Int), ds = [tD t, nD d, .int e] ∧ tOk t n m ∧ m ≤ 6 ∧ d < n ∧ Q (.bl (br t d e)) h
theorem imp_brings : ∀ ds h Q, S_brings ds h Q → runD 3 b_brings ds h Q := by
  rintro ds h Q ⟨t, n, m, d, e, rfl, ht, hm, hd, q⟩
  have hx := pow64 (ht.get hd).2 hm
  simp only [tD_ix h ht hd, ↓b_brings, ↓runD, ↓dSeq, ↓runX, VV]
  refine ⟨_, rfl, Nat.lt_trans hx (by decide), ?_⟩
  simp only [↓b_brings, ↓runD, ↓dSeq, ↓runX, VV]
  refine ⟨by rw [flat_ints]; rfl, ?_⟩
  rw [inF_facts]; exact q
theorem ok_brings {f : Addr} {fd : FuncData} (F : Fun K "brings" "brings" s_brings f fd) (T : Txt P w K mg) (C_facts_in : Cal P w K mg base 1 "facts_in" ["mask"] (spD K 1 S_facts_in)) : FnOk P w K mg base CX0 2 f fd ["table", "d", "e"] (spD K 3 S_brings) :=
  fn_ok (k := 1) (b := b_brings) F sc_brings (fun cdv A outer s H E hr => by
    refine ss_one ?_
    refine s_ret ?_
    exact se_cmp ok_in (sv 2) (se_cal C_facts_in (hr.mono (by decide)) rfl (sa_cons (se_ix ok_ix (sv 0) (sv 1) (fun _ _ => rfl)) sa_nil)) rfl) imp_brings
noncomputable def b_start_claim : DS := (dSeq (dAsg (dOp pIx (dVar 2) (dC (.int 1))) (dName 3))
    (dRet (dIf (dTst (dOp (pIn false) (dVar 3) (dCal S_start_facts (dCons (dVar 0) (dCons (dVar 1) dNil))))) (dTup (dCons (dC (.str "at")) (dCons (dC (.int 0)) (dCons (dC (.int 0)) (dCons (dVar 3) (dCons (dC (.int 0)) dNil)))))) (dC .non))))
theorem inF_filter (n st : Nat) (e : Int) : inF (.int e) (((List.range n).filter fun d => st.testBit d).map nD) = (decide (0 ≤ e) && (decide (e < n) && st.testBit e.toNat)) := by
  rw [Bool.eq_iff_iff]
  unfold inF
  rw [List.any_map, List.any_eq_true, Bool.and_eq_true, Bool.and_eq_true, decide_eq_true_iff, decide_eq_true_iff]
  constructor
  · rintro ⟨x, hx, he⟩
    have he : (x : Int) = e := by simpa [eqF] using he
    subst he
    rw [List.mem_filter, List.mem_range] at hx
    exact ⟨by first | decide | omega, by first | decide | omega, by simpa using hx.2⟩
  · rintro ⟨h0, h1, hb⟩
    exact ⟨e.toNat, List.mem_filter.mpr ⟨List.mem_range.mpr (by first | decide | omega), hb⟩, by simp [eqF]; omega⟩
noncomputable def S_start_claim : DSp := fun ds h Q => ∃ (c : D) (C : Chart) (cs : List Clm) (st : Nat) (d : Int), ds = [c, nD st, rD (.start d)] ∧ ChD h c C ∧ WF C ∧ Q (oD clD (claimOf C st cs (.start d))) h
theorem imp_start_claim : ∀ ds h Q, S_start_claim ds h Q → runD 4 b_start_claim ds h Q := by
  rintro ds h Q ⟨c, C, cs, st, d, rfl, hc, wf, q⟩
  obtain ⟨F, hF⟩ : ∃ E, C[0]? = some E := ⟨_, List.getElem?_eq_getElem wf.one⟩
  simp only [rD, ↓b_start_claim, ↓runD, ↓dSeq, ↓runX, VV]
  refine ⟨c, C, st, F, rfl, hc, hF, (wf.fn 0 F hF).2.2.2.1, ?_⟩
  simp only [↓b_start_claim, ↓runD, ↓dSeq, ↓runX, VV]
  refine ⟨by rw [flat_ints]; rfl, ?_⟩
  rw [inF_filter]
  have eq : claimOf C st cs (.start d) = if (decide (0 ≤ d) && (decide (d < F.facts) && st.testBit d.toNat)) = true then some (.at 0 0 d.toNat 0) else none := by
    show (if 0 ≤ d then (C[0]?).bind fun F => if d < F.facts ∧ st.testBit d.toNat = true then some (Clm.at 0 0 d.toNat 0) else none else none) = _
    rw [hF]
    by_cases h0 : 0 ≤ d
    · by_cases h1 : d < F.facts <;> simp [h0, h1]
    · simp [h0]
  rw [eq] at q
  refine iteB (fun z => ?_) (fun z => ?_)
  · rw [if_pos z] at q
    have h0 : 0 ≤ d := by rw [Bool.and_eq_true] at z; exact of_decide_eq_true z.1
    have q : Q (.tup [.str "at", nD 0, nD 0, .int ((d.toNat : Nat) : Int), nD 0]) h := q
    rw [Int.toNat_of_nonneg h0] at q
    exact q
  · rw [if_neg (by rw [z]; exact Bool.false_ne_true)] at q
    exact q
theorem ok_start_claim {f : Addr} {fd : FuncData} (F : Fun K "start_claim" "start_claim" s_start_claim f fd) (T : Txt P w K mg) (C_start_facts : Cal P w K mg base 1 "start_facts" ["chart", "start"] (spD K 2 S_start_facts)) : FnOk P w K mg base CX0 2 f fd ["chart", "start", "row"] (spD K 3 S_start_claim) :=
  fn_ok (k := 1) (b := b_start_claim) F sc_start_claim (fun cdv A outer s H E hr => by
    refine ss_cons ?_ ?_
    · refine s_set (i := 3) ?_ ?_ ?_ ?_
      · exact sc_start_claim.nd
      · exact rfl
      · exact Or.inl rfl
      exact se_ix ok_ix (sv 2) se_int (fun _ _ => rfl)
    refine ss_one ?_
    refine s_ret ?_
    exact se_if (st_cmp ok_in (sv 3) (se_cal C_start_facts (hr.mono (by decide)) rfl (sa_cons (sv 0) (sa_cons (sv 1) sa_nil))) rfl) (se_tup (sa_cons se_str (sa_cons se_int (sa_cons se_int (sa_cons (sv 3) (sa_cons se_int sa_nil)))))) se_non) imp_start_claim
noncomputable def b_along_claim : DS := (dSeq (dAsg (dCal S_claim_ahead (dCons (dVar 0) (dCons (dOp pIx (dVar 1) (dC (.int 1))) (dCons (dC (.str "at")) dNil)))) (dName 2))
    (dSeq (dAsg (dCal S_claim_ahead (dCons (dVar 0) (dCons (dOp pIx (dVar 1) (dC (.int 2))) (dCons (dC (.str "within")) dNil)))) (dName 3))
    (dSeq (dIfS (dOr (dTst (dOp (pIs false) (dVar 2) (dC .non))) (dTst (dOp (pIs false) (dVar 3) (dC .non)))) (dRet (dC .non)) dNext)
    (dSeq (dAsg (dOp pIx (dVar 2) (dC (.int 1))) (dName 4))
    (dSeq (dIfS (dOr (dTst (dOp (pEq true) (dOp pIx (dVar 2) (dC (.int 2))) (dC (.int 0)))) (dOr (dTst (dOp (pEq true) (dOp pIx (dVar 3) (dC (.int 1))) (dVar 4))) (dTst (dOp (pEq true) (dOp pIx (dVar 3) (dC (.int 2))) (dOp pIx (dVar 2) (dC (.int 3))))))) (dRet (dC .non)) dNext)
    (dRet (dTup (dCons (dC (.str "at")) (dCons (dVar 4) (dCons (dOp pIx (dVar 3) (dC (.int 3))) (dCons (dOp pIx (dVar 3) (dC (.int 4))) (dCons (dOp pPlus (dOp pIx (dVar 2) (dC (.int 4))) (dOp pIx (dVar 3) (dC (.int 5)))) dNil))))))))))))
noncomputable def S_along_claim : DSp := fun ds h Q => ∃ (a : D) (C : Chart) (cs : List Clm) (st : Nat) (k j : Int), ds = [a, rD (.along k j)] ∧ lsOf h a = some (cs.map clD) ∧ Q (oD clD (claimOf C st cs (.along k j))) h
theorem imp_along_claim : ∀ ds h Q, S_along_claim ds h Q → runD 5 b_along_claim ds h Q := by
  rintro ds h Q ⟨a, C, cs, st, k, j, rfl, ha, q⟩
  simp only [runD, runX, b_along_claim, List.map_cons, List.map_nil, List.cons_append, List.nil_append, List.length_cons, List.length_nil, List.replicate, Nat.reduceSub, Nat.reduceAdd, Nat.zero_add, Nat.sub_self]
  (try dsimp only); refine seq_intro fun N hN => ?_
  simp only [rD, VV]
  refine ⟨a, cs, k, false, rfl, ha, ?_⟩
  subst hN
  (try dsimp only); refine seq_intro fun N hN => ?_
  simp only [VV]
  refine ⟨a, cs, j, true, rfl, ha, ?_⟩
  subst hN
  (try dsimp only); refine seq_intro fun N hN => ?_
  cases hb : aheadW cs k false with
  | none =>
    have eq : claimOf C st cs (.along k j) = none := by
      have hn := aheadW_Fn hb
      show (match ahead cs k, ahead cs j with | some (.at f p a c), some (.within g b q d c') => _ | _, _ => none) = none
      cases q2 : ahead cs k with
      | none => rfl
      | some x =>
        cases x with
        | within f a p d c => rfl
        | «at» f p d c => exact absurd q2 (hn f p d c)
    rw [eq] at q
    simp only [oD, VV]
    exact q
  | some b =>
    obtain ⟨f, p, d, x, rfl, hk⟩ := aheadW_F hb
    cases hb2 : aheadW cs j true with
    | none =>
      have eq : claimOf C st cs (.along k j) = none := by
        have hn := aheadW_Tn hb2
        show (match ahead cs k, ahead cs j with | some (.at f p a c), some (.within g b q d c') => _ | _, _ => none) = none
        rw [hk]
        cases q2 : ahead cs j with
        | none => rfl
        | some x =>
          cases x with
          | within f a p d c => exact absurd q2 (hn f a p d c)
          | «at» f p d c => rfl
      rw [eq] at q
      simp only [oD, clD, VV]
      exact q
    | some b2 =>
      obtain ⟨g, b, q', d', x', rfl, hk2⟩ := aheadW_T hb2
      have eq : claimOf C st cs (.along k j) = if p = 0 ∧ g = f ∧ b = d then some (.at f q' d' (x + x')) else none := by
        show (match ahead cs k, ahead cs j with | some (.at f p a c), some (.within g b q d c') => _ | _, _ => none) = _
        rw [hk, hk2]
      rw [eq] at q
      have e1 : ((p : Int) == 0) = decide (p = 0) := by rw [Bool.eq_iff_iff]; simp
      have e2 : ((g : Int) == (f : Int)) = decide (g = f) := by first | exact beqN _ _ | exact beqP _ _ | exact beqS _ _
      have e3 : ((b : Int) == (d : Int)) = decide (b = d) := by first | exact beqN _ _ | exact beqP _ _ | exact beqS _ _
      simp only [oD, clD, VV]
      subst hN
      (try dsimp only); refine seq_intro fun N hN => ?_
      simp only [VV]
      subst hN
      (try dsimp only); refine seq_intro fun N hN => ?_
      simp only [e1, e2, e3, VV]
      by_cases h1 : p = 0
      · by_cases h2 : g = f
        · by_cases h3 : b = d
          · rw [if_pos ⟨h1, h2, h3⟩] at q
            simp only [h1, h2, h3, VV]
            subst hN
            simp only [VV]
            have q : Q (.tup [.str "at", nD f, nD q', nD d', .int ((x + x' : Nat) : Int)]) h := q
            rw [Int.natCast_add] at q
            exact q
          · rw [if_neg (fun z => h3 z.2.2)] at q; simp only [h1, h2, h3, VV]; exact q
        · rw [if_neg (fun z => h2 z.2.1)] at q; simp only [h1, h2, VV]; exact q
      · rw [if_neg (fun z => h1 z.1)] at q; simp only [h1, VV]; exact q
theorem ok_along_claim {f : Addr} {fd : FuncData} (F : Fun K "along_claim" "along_claim" s_along_claim f fd) (T : Txt P w K mg) (C_claim_ahead : Cal P w K mg base 1 "claim_ahead" ["ahead", "k", "sort"] (spD K 3 S_claim_ahead)) : FnOk P w K mg base CX0 2 f fd ["ahead", "row"] (spD K 2 S_along_claim) :=
  fn_ok (k := 1) (b := b_along_claim) F sc_along_claim (fun cdv A outer s H E hr => by
    refine ss_cons ?_ ?_
    · refine s_set (i := 2) ?_ ?_ ?_ ?_
      · exact sc_along_claim.nd
      · exact rfl
      · exact Or.inl rfl
      exact se_cal C_claim_ahead (hr.mono (by decide)) rfl (sa_cons (sv 0) (sa_cons (se_ix ok_ix (sv 1) se_int (fun _ _ => rfl)) (sa_cons se_str sa_nil)))
    refine ss_cons ?_ ?_
    · refine s_set (i := 3) ?_ ?_ ?_ ?_
      · exact sc_along_claim.nd
      · exact rfl
      · exact Or.inl rfl
      exact se_cal C_claim_ahead (hr.mono (by decide)) rfl (sa_cons (sv 0) (sa_cons (se_ix ok_ix (sv 1) se_int (fun _ _ => rfl)) (sa_cons se_str sa_nil)))
    refine ss_cons ?_ ?_
    · refine s_if ?_ ?_ ?_
      · exact st_w (sw_or (st_cmp ok_is (sv 2) se_non (nomark _)) (sw_or1 (st_cmp ok_is (sv 3) se_non (nomark _))))
      · refine ss_one ?_
        refine s_ret ?_
        exact se_non
      exact ss_nil
    refine ss_cons ?_ ?_
    · refine s_set (i := 4) ?_ ?_ ?_ ?_
      · exact sc_along_claim.nd
      · exact rfl
      · exact Or.inl rfl
      exact se_ix ok_ix (sv 2) se_int (fun _ _ => rfl)
    refine ss_cons ?_ ?_
    · refine s_if ?_ ?_ ?_
      · exact st_w (sw_or (st_cmp (ok_ne hr.units) (se_ix ok_ix (sv 2) se_int (fun _ _ => rfl)) se_int (nomark _)) (sw_or (st_cmp (ok_ne hr.units) (se_ix ok_ix (sv 3) se_int (fun _ _ => rfl)) (sv 4) (nomark _)) (sw_or1 (st_cmp (ok_ne hr.units) (se_ix ok_ix (sv 3) se_int (fun _ _ => rfl)) (se_ix ok_ix (sv 2) se_int (fun _ _ => rfl)) (nomark _)))))
      · refine ss_one ?_
        refine s_ret ?_
        exact se_non
      exact ss_nil
    refine ss_one ?_
    refine s_ret ?_
    exact se_tup (sa_cons se_str (sa_cons (sv 4) (sa_cons (se_ix ok_ix (sv 3) se_int (fun _ _ => rfl)) (sa_cons (se_ix ok_ix (sv 3) se_int (fun _ _ => rfl)) (sa_cons (se_op ok_plus (se_ix ok_ix (sv 2) se_int (fun _ _ => rfl)) (se_ix ok_ix (sv 3) se_int (fun _ _ => rfl))) sa_nil)))))) imp_along_claim
noncomputable def b_parts_of : DS := (dSeq (dIfS (dOr (dTst (dOp (pEq false) (dOp pIx (dVar 1) (dC (.int 0))) (dC (.str "begin")))) (dTst (dOp (pEq false) (dOp pIx (dVar 1) (dC (.int 0))) (dC (.str "start"))))) (dRet (dV dNil)) dNext)
    (dSeq (dIfS (dTst (dOp (pEq false) (dOp pIx (dVar 1) (dC (.int 0))) (dC (.str "along")))) (dRet (dV (dCons (dOp pIx (dVar 1) (dC (.int 1))) (dCons (dOp pIx (dVar 1) (dC (.int 2))) dNil)))) dNext)
    (dSeq (dIfS (dTst (dOp (pEq false) (dOp pIx (dVar 1) (dC (.int 0))) (dC (.str "short")))) (dRet (dV (dCons (dOp pIx (dVar 1) (dC (.int 1))) (dCons (dTup (dCons (dC (.str "in")) (dCons (dOp pIx (dVar 1) (dC (.int 2))) (dCons (dOp pIx (dOp pIx (dVar 0) (dOp pIx (dVar 1) (dC (.int 3)))) (dC (.int 2))) dNil)))) (dCons (dOp pIx (dVar 1) (dC (.int 3))) (dCons (dTup (dCons (dC (.str "out")) (dCons (dOp pIx (dVar 1) (dC (.int 4))) dNil))) dNil)))))) dNext)
    (dRet (dV (dCons (dOp pIx (dVar 1) (dC (.int 1))) (dCons (dCal S_move_of (dCons (dVar 1) dNil)) dNil)))))))
noncomputable def S_parts_of : DSp := fun ds h Q => ∃ (t : D) (cs : List Clm) (r : Row), ds = [t, rD r] ∧ lsOf h t = some (cs.map clD) ∧ fitR cs r ∧ Q (.lst ((partsOf cs r).map ptD)) h
theorem imp_parts_of : ∀ ds h Q, S_parts_of ds h Q → runD 2 b_parts_of ds h Q := by
  rintro ds h Q ⟨t, cs, r, rfl, ht, hf, q⟩
  cases r with
  | begin f d => simp only [runD, runX, b_parts_of, List.map_cons, List.map_nil, List.cons_append, List.nil_append, List.length_cons, List.length_nil, List.replicate, Nat.reduceSub, Nat.reduceAdd, Nat.zero_add, Nat.sub_self]; (try dsimp only); refine seq_intro fun N hN => ?_; simp only [rD, VV]; exact q
  | start d => simp only [runD, runX, b_parts_of, List.map_cons, List.map_nil, List.cons_append, List.nil_append, List.length_cons, List.length_nil, List.replicate, Nat.reduceSub, Nat.reduceAdd, Nat.zero_add, Nat.sub_self]; (try dsimp only); refine seq_intro fun N hN => ?_; simp only [rD, VV]; exact q
  | along k j =>
    obtain ⟨h1, h2⟩ := hf
    have q : Q (.lst [.int ((k.toNat : Nat) : Int), .int ((j.toNat : Nat) : Int)]) h := q
    rw [Int.toNat_of_nonneg h1, Int.toNat_of_nonneg h2] at q
    simp only [runD, runX, b_parts_of, List.map_cons, List.map_nil, List.cons_append, List.nil_append, List.length_cons, List.length_nil, List.replicate, Nat.reduceSub, Nat.reduceAdd, Nat.zero_add, Nat.sub_self]; (try dsimp only); refine seq_intro fun N hN => ?_; simp only [rD, VV]; subst hN; (try dsimp only); refine seq_intro fun N hN => ?_; simp only [VV]; exact q
  | short k n j e =>
    obtain ⟨h1, h2, f, a, p, d, c, z⟩ := hf
    have q : Q (.lst [.int ((k.toNat : Nat) : Int), .tup [.str "in", .int n, .int ((aOf cs j : Nat) : Int)], .int ((j.toNat : Nat) : Int), .tup [.str "out", .int e]]) h := q
    have ea : aOf cs j = a := by unfold aOf; rw [z]
    rw [Int.toNat_of_nonneg h1, Int.toNat_of_nonneg h2, ea] at q
    have ax : atI (cs.map clD) j = some (clD (.within f a p d c)) := by rw [atI_of h2, List.getElem?_map, z]; rfl
    simp only [runD, runX, b_parts_of, List.map_cons, List.map_nil, List.cons_append, List.nil_append, List.length_cons, List.length_nil, List.replicate, Nat.reduceSub, Nat.reduceAdd, Nat.zero_add, Nat.sub_self]; (try dsimp only); refine seq_intro fun N hN => ?_; simp only [rD, VV]; subst hN; (try dsimp only); refine seq_intro fun N hN => ?_; simp only [VV]; subst hN; (try dsimp only); refine seq_intro fun N hN => ?_; simp only [ix_ls ht, ax, clD, VV]; exact q
  | mv w k n e =>
    have q : Q (.lst [.int ((k.toNat : Nat) : Int), .tup [.str w.w, .int n, .int e]]) h := q
    rw [Int.toNat_of_nonneg hf] at q
    cases w with
    | inn => simp only [runD, runX, b_parts_of, List.map_cons, List.map_nil, List.cons_append, List.nil_append, List.length_cons, List.length_nil, List.replicate, Nat.reduceSub, Nat.reduceAdd, Nat.zero_add, Nat.sub_self]; (try dsimp only); refine seq_intro fun N hN => ?_; simp only [rD, Mv.w, VV]; subst hN; (try dsimp only); refine seq_intro fun N hN => ?_; simp only [VV]; subst hN; (try dsimp only); refine seq_intro fun N hN => ?_; simp only [VV]; subst hN; simp only [VV]; exact ⟨_, _, _, _, rfl, q⟩
    | step => simp only [runD, runX, b_parts_of, List.map_cons, List.map_nil, List.cons_append, List.nil_append, List.length_cons, List.length_nil, List.replicate, Nat.reduceSub, Nat.reduceAdd, Nat.zero_add, Nat.sub_self]; (try dsimp only); refine seq_intro fun N hN => ?_; simp only [rD, Mv.w, VV]; subst hN; (try dsimp only); refine seq_intro fun N hN => ?_; simp only [VV]; subst hN; (try dsimp only); refine seq_intro fun N hN => ?_; simp only [VV]; subst hN; simp only [VV]; exact ⟨_, _, _, _, rfl, q⟩
    | over => simp only [runD, runX, b_parts_of, List.map_cons, List.map_nil, List.cons_append, List.nil_append, List.length_cons, List.length_nil, List.replicate, Nat.reduceSub, Nat.reduceAdd, Nat.zero_add, Nat.sub_self]; (try dsimp only); refine seq_intro fun N hN => ?_; simp only [rD, Mv.w, VV]; subst hN; (try dsimp only); refine seq_intro fun N hN => ?_; simp only [VV]; subst hN; (try dsimp only); refine seq_intro fun N hN => ?_; simp only [VV]; subst hN; simp only [VV]; exact ⟨_, _, _, _, rfl, q⟩
theorem ok_parts_of {f : Addr} {fd : FuncData} (F : Fun K "parts_of" "parts_of" s_parts_of f fd) (T : Txt P w K mg) (C_move_of : Cal P w K mg base 1 "move_of" ["row"] (spD K 1 S_move_of)) : FnOk P w K mg base CX0 2 f fd ["told", "row"] (spD K 2 S_parts_of) :=
  fn_ok (k := 1) (b := b_parts_of) F sc_parts_of (fun cdv A outer s H E hr => by
    refine ss_cons ?_ ?_
    · refine s_if ?_ ?_ ?_
      · exact st_w (sw_or (st_cmp (ok_eq hr.units) (se_ix ok_ix (sv 1) se_int (fun _ _ => rfl)) se_str (nomark _)) (sw_or1 (st_cmp (ok_eq hr.units) (se_ix ok_ix (sv 1) se_int (fun _ _ => rfl)) se_str (nomark _))))
      · refine ss_one ?_
        refine s_ret ?_
        refine se_v ?_
        exact sn_lst sa_nil
      exact ss_nil
    refine ss_cons ?_ ?_
    · refine s_if ?_ ?_ ?_
      · exact st_cmp (ok_eq hr.units) (se_ix ok_ix (sv 1) se_int (fun _ _ => rfl)) se_str (nomark _)
      · refine ss_one ?_
        refine s_ret ?_
        refine se_v ?_
        exact sn_lst (sa_cons (se_ix ok_ix (sv 1) se_int (fun _ _ => rfl)) (sa_cons (se_ix ok_ix (sv 1) se_int (fun _ _ => rfl)) sa_nil))
      exact ss_nil
    refine ss_cons ?_ ?_
    · refine s_if ?_ ?_ ?_
      · exact st_cmp (ok_eq hr.units) (se_ix ok_ix (sv 1) se_int (fun _ _ => rfl)) se_str (nomark _)
      · refine ss_one ?_
        refine s_ret ?_
        refine se_v ?_
        exact sn_lst (sa_cons (se_ix ok_ix (sv 1) se_int (fun _ _ => rfl)) (sa_cons (se_tup (sa_cons se_str (sa_cons (se_ix ok_ix (sv 1) se_int (fun _ _ => rfl)) (sa_cons (se_ix ok_ix (se_ix ok_ix (sv 0) (se_ix ok_ix (sv 1) se_int (fun _ _ => rfl)) (fun _ _ => rfl)) se_int (fun _ _ => rfl)) sa_nil)))) (sa_cons (se_ix ok_ix (sv 1) se_int (fun _ _ => rfl)) (sa_cons (se_tup (sa_cons se_str (sa_cons (se_ix ok_ix (sv 1) se_int (fun _ _ => rfl)) sa_nil))) sa_nil))))
      exact ss_nil
    refine ss_one ?_
    refine s_ret ?_
    refine se_v ?_
    exact sn_lst (sa_cons (se_ix ok_ix (sv 1) se_int (fun _ _ => rfl)) (sa_cons (se_cal C_move_of (hr.mono (by decide)) rfl (sa_cons (sv 1) sa_nil)) sa_nil))) imp_parts_of
noncomputable def b__law_edges : DS := (dSeq (dAsg (dCB pTuple (dCons (dV (dComp [none, some 2] (dIRange (dCons (dVar 2) dNil)) (dName 0) dNoIf (dOp pShl (dC (.int 1)) (dOp pMod (dOp pPlus (dVar 0) (dC (.int 1))) (dVar 1))))) dNil)) (dName 3))
    (dSeq (dAsg (dCB pTuple (dCons (dV (dComp [none, some 2, some 1] (dIRange (dCons (dVar 2) dNil)) (dName 0) dNoIf (dOp pShl (dC (.int 1)) (dOp pMod (dOp pPlus (dOp pSub (dOp pPlus (dVar 0) (dOp pMulI (dVar 1) (dVar 2))) (dVar 2)) (dC (.int 1))) (dVar 1))))) dNil)) (dName 4))
    (dSeq (dAsg (dCB pTuple (dCons (dV (dComp [none] (dIRange (dCons (dVar 2) dNil)) (dName 0) dNoIf (dOp pShl (dC (.int 1)) (dVar 0)))) dNil)) (dName 5))
    (dSeq (dAsg (dTk dNil) (dName 6))
    (dSeq (dFor (dIRange (dCons (dOp pSub (dVar 1) (dC (.int 1))) dNil)) (dName 7) (dSeq (dDrop (dAppend (dVar 6) (dCons (dTup (dCons (dC (.str "step")) (dCons (dVar 7) (dCons (dOp pPlus (dVar 7) (dC (.int 1))) (dCons (dCal S__law_number (dCons (dCal S__law_cell (dCons (dVar 0) (dCons (dOp pPlus (dC (.int 6)) (dVar 7)) dNil))) dNil)) (dCons (dVar 3) dNil)))))) dNil)))
    (dIfS (dTst (dOp (pEq false) (dOp pMod (dOp pDiv (dCal S__law_cell (dCons (dVar 0) (dCons (dOp pPlus (dC (.int 6)) (dVar 7)) dNil))) (dC (.int 7))) (dC (.int 3))) (dC (.int 1)))) (dDrop (dInsert (dVar 6) (dCons (dC (.int 0)) (dCons (dTup (dCons (dC (.str "step")) (dCons (dVar 7) (dCons (dVar 7) (dCons (dC (.int 1)) (dCons (dVar 5) dNil)))))) dNil)))) dNext)))
    (dSeq (dAsg (dTup (dCons (dC (.str "call")) (dCons (dOp pSub (dVar 1) (dC (.int 1))) (dCons (dOp pSub (dVar 1) (dC (.int 1))) (dCons (dCal S__law_number (dCons (dCal S__law_cell (dCons (dVar 0) (dCons (dC (.int 5)) dNil))) dNil)) (dCons (dC (.int 0)) (dCons (dVar 4) (dCons (dVar 5) (dCons (dVar 5) dNil))))))))) (dName 8))
    (dSeq (dDrop (dInsert (dVar 6) (dCons (dOp pMod (dCal S__law_cell (dCons (dVar 0) (dCons (dC (.int 4)) dNil))) (dOp pPlus (dCB pLen (dCons (dVar 6) dNil)) (dC (.int 1)))) (dCons (dVar 8) dNil))))
    (dRet (dVar 6)))))))))
noncomputable def S__law_edges : DSp := fun ds h Q => ∃ (ns : List Int) (n m : Nat), ds = [.scr (ns.map .int), nD n, nD m] ∧ ns.length ≤ 63 ∧ (∀ x ∈ ns, Builtin.Int.intBits x ≤ 1048576) ∧ 1 ≤ n ∧ n ≤ 10 ∧ 1 ≤ m ∧ m ≤ 6 ∧ ∀ Es, EO n m Es → Q (.lst (Es.map eD)) h
theorem imp__law_edges : ∀ ds h Q, S__law_edges ds h Q → runD 9 b__law_edges ds h (Dr h Q) := by
  rintro ds h Q ⟨ns, n, m, rfl, hns, hbs, n1, n10, m1, m6, q⟩
  have tS : (List.range m).map (fun x => nD (2 ^ ((x + 1) % m))) = (shiftT m).map nD := by unfold shiftT; rw [List.map_map]; rfl
  have tH : (List.range m).map (fun x => nD (2 ^ ((x + m * n - n + 1) % m))) = (homeT n m).map nD := by unfold homeT; rw [List.map_map]; rfl
  have tY : (List.range m).map (fun x => nD (2 ^ x)) = (stayT m).map nD := by unfold stayT; rw [List.map_map]; rfl
  have en : (n : Int) - 1 = ((n - 1 : Nat) : Int) := by first | decide | omega
  simp only [runD, runX, b__law_edges, List.map_cons, List.map_nil, List.cons_append, List.nil_append, List.length_cons, List.length_nil, List.replicate, Nat.reduceSub, Nat.reduceAdd, Nat.zero_add, Nat.sub_self]
  (try dsimp only); refine seq_intro fun N hN => ?_
  simp only [VV]
  refine ⟨⟨by first | decide | omega, by first | decide | omega⟩, by rw [rangeD_length]; omega, ?_⟩
  rw [rangeD_map, Int.toNat_natCast]
  refine comp1n (fun x => nD (2 ^ ((x + 1) % m))) Src.ok_nil none (fun x hx K k => ?_) ?_
  · simp only [VV]
    have lt : (x + 1) % m < m := Nat.mod_lt _ m1
    have em : (0 + (x : Int) + 1) % (m : Int) = (((x + 1) % m : Nat) : Int) := by rw [← emodN]; congr 1; omega
    rw [em]
    refine ⟨by first | decide | omega, ⟨by first | decide | omega, by first | decide | omega, by decide⟩, ?_⟩
    rw [shl1]
    exact k
  rw [tS]
  subst hN
  (try dsimp only); refine seq_intro fun N hN => ?_
  simp only [VV]
  refine ⟨⟨by first | decide | omega, by first | decide | omega⟩, by rw [rangeD_length]; omega, ?_⟩
  rw [rangeD_map, Int.toNat_natCast]
  refine comp1n (fun x => nD (2 ^ ((x + m * n - n + 1) % m))) Src.ok_nil none (fun x hx K k => ?_) ?_
  · simp only [VV]
    have lt : (x + m * n - n + 1) % m < m := Nat.mod_lt _ m1
    have le : n ≤ m * n := Nat.le_mul_of_pos_left n (by first | decide | omega)
    have em : (0 + (x : Int) + (m : Int) * (n : Int) - (n : Int) + 1) % (m : Int) = (((x + m * n - n + 1) % m : Nat) : Int) := by
      rw [← emodN]; congr 1; rw [← Int.natCast_mul]; omega
    rw [em]
    refine ⟨mulS (by first | decide | omega), by first | decide | omega, ⟨by first | decide | omega, by first | decide | omega, by decide⟩, ?_⟩
    rw [shl1]
    exact k
  rw [tH]
  subst hN
  (try dsimp only); refine seq_intro fun N hN => ?_
  simp only [VV]
  refine ⟨⟨by first | decide | omega, by first | decide | omega⟩, by rw [rangeD_length]; omega, ?_⟩
  rw [rangeD_map, Int.toNat_natCast]
  refine comp1n (fun x => nD (2 ^ x)) Src.ok_nil none (fun x hx K k => ?_) ?_
  · simp only [VV]
    have lt := List.mem_range.mp hx
    rw [Int.zero_add]
    refine ⟨⟨by first | decide | omega, by first | decide | omega, by decide⟩, ?_⟩
    rw [shl1]
    exact k
  rw [tY]
  subst hN
  (try dsimp only); refine seq_intro fun N hN => ?_
  simp only [VV]
  subst hN
  (try dsimp only); refine seq_intro fun N hN => ?_
  simp only [en, VV]
  refine ⟨⟨by first | decide | omega, by first | decide | omega⟩, ?_⟩
  rw [rangeD_map, Int.toNat_natCast]
  refine forL_map (fun p δ h' => ∃ (Es : List Edge) (x7 : Option D), δ = [some (.scr (ns.map .int)), some (nD n), some (nD m), some (tD (shiftT m)), some (tD (homeT n m)), some (tD (stayT m)), some (.ref h.length), x7, none] ∧ h' = h ++ [.lst (Es.map eD)] ∧ Es.length ≤ 2 * p.length ∧ (∀ e ∈ Es, goodE n m e) ∧ ∀ p', p' < p.length → ∃ c, stepE m p' c ∈ Es) ⟨[], none, rfl, rfl, Nat.le_refl _, (fun _ hx => nomatch hx), fun _ hx => absurd hx (Nat.not_lt_zero _)⟩ (fun _ _ _ _ => Src.ok_nil) ?_ ?_
  · rintro p k r δ h' N1 e ⟨Es, x7, rfl, rfl, hl, hg, hst⟩ hN1
    obtain ⟨hk, hkn⟩ := range_split e
    have e6 : (6 : Int) + (0 + (k : Int)) = ((6 + k : Nat) : Int) := by first | decide | omega
    simp only [VV]
    (try dsimp only); refine seq_intro fun N hN => ?_
    simp only [get_new, e6, VV]
    refine ⟨ns, 6 + k, rfl, hns, hbs, by first | decide | omega, fun r1 _ => ⟨r1, rfl, fun c c1 c2 => ?_⟩⟩
    simp only [get_new, set_new, List.length_map, VV]
    refine ⟨by first | decide | omega, ?_⟩
    have g1 : goodE n m (stepE m k c) := .inl ⟨k, c, rfl, by first | decide | omega, c1, c2⟩
    have m1' : Es.map eD ++ [.tup [.str "step", .int (0 + (k : Int)), .int (0 + (k : Int) + 1), nD c, tD (shiftT m)]] = (Es ++ [stepE m k c]).map eD := by
      rw [List.map_append, Int.zero_add]; rfl
    rw [m1']
    have hg1 : ∀ e ∈ Es ++ [stepE m k c], goodE n m e := fun e he => by
      rcases List.mem_append.mp he with z | z
      · exact hg e z
      · rw [List.mem_singleton.mp z]; exact g1
    have hst1 : ∀ p', p' < (p ++ [k]).length → ∃ c', stepE m p' c' ∈ Es ++ [stepE m k c] := fun p' hp' => by
      rw [List.length_append, List.length_cons, List.length_nil] at hp'
      by_cases z : p' < p.length
      · obtain ⟨c', hc'⟩ := hst p' z; exact ⟨c', List.mem_append_left _ hc'⟩
      · obtain rfl : p' = k := by first | decide | omega
        exact ⟨c, List.mem_append_right _ List.mem_cons_self⟩
    subst hN
    simp only [get_new, e6, VV]
    refine ⟨ns, 6 + k, rfl, hns, hbs, by first | decide | omega, fun r2 _ => ?_⟩
    simp only [VV]
    refine ⟨by decide, by decide, ?_⟩
    refine iteB (fun z => ?_) (fun z => ?_)
    · simp only [get_new, set_new, List.length_map, VV]
      refine ⟨⟨by decide, Nat.zero_le _, by rw [List.length_append, List.length_cons, List.length_nil]; omega⟩, hN1 _ _ ⟨ringE m k :: (Es ++ [stepE m k c]), _, rfl, ?_, ?_, fun e he => ?_, fun p' hp' => ?_⟩⟩
      · show _ = h ++ [.lst (eD (ringE m k) :: (Es ++ [stepE m k c]).map eD)]
        rw [Int.zero_add]; rfl
      · simp; omega
      · rcases List.mem_cons.mp he with z | z
        · rw [z]; exact .inr (.inl ⟨k, rfl, by first | decide | omega⟩)
        · exact hg1 e z
      · obtain ⟨c', hc'⟩ := hst1 p' hp'; exact ⟨c', List.mem_cons_of_mem _ hc'⟩
    · exact hN1 _ _ ⟨_, _, rfl, rfl, by simp; omega, hg1, hst1⟩
  · rintro δ h' ⟨Es, x7, rfl, rfl, hl, hg, hst⟩
    rw [List.length_range] at hl hst
    subst hN
    (try dsimp only); refine seq_intro fun N hN => ?_
    simp only [en, VV]
    refine ⟨ns, 5, rfl, hns, hbs, by first | decide | omega, fun r1 _ => ⟨r1, rfl, fun c c1 c2 => ?_⟩⟩
    subst hN
    (try dsimp only); refine seq_intro fun N hN => ?_
    simp only [get_new, VV]
    refine ⟨ns, 4, rfl, hns, hbs, by first | decide | omega, fun r2 _ => ?_⟩
    simp only [len_ls (ls_new h _), List.length_map, get_new, set_new, VV]
    have b0 := Int.emod_nonneg r2 (show ((Es.length : Nat) : Int) + 1 ≠ 0 by first | decide | omega)
    have b1 := Int.emod_lt_of_pos r2 (show (0 : Int) < ((Es.length : Nat) : Int) + 1 by first | decide | omega)
    generalize hj : r2 % (((Es.length : Nat) : Int) + 1) = j at b0 b1
    refine ⟨by first | decide | omega, ⟨b0, by first | decide | omega, by first | decide | omega⟩, ?_⟩
    subst hN
    have mE : (Es.map eD).take j.toNat ++ .tup [.str "call", nD (n - 1), nD (n - 1), nD c, .int 0, tD (homeT n m), tD (stayT m), tD (stayT m)] :: (Es.map eD).drop j.toNat = (Es.take j.toNat ++ callE n m c :: Es.drop j.toNat).map eD := by
      rw [List.map_append, List.map_cons, List.map_take, List.map_drop]; rfl
    rw [mE]
    simp only [VV]
    have mem : ∀ e ∈ Es, e ∈ Es.take j.toNat ++ callE n m c :: Es.drop j.toNat := fun e he => by
      rw [← List.take_append_drop j.toNat Es] at he
      rcases List.mem_append.mp he with z | z
      · exact List.mem_append_left _ z
      · exact List.mem_append_right _ (List.mem_cons_of_mem _ z)
    have := Dr.dropL (h := h) (Q := Q) (xs := (Es.take j.toNat ++ callE n m c :: Es.drop j.toNat).map eD) (g1 := []) (g2 := []) (k := h.length) (nrDs_map nrD_eD _) (by simp) (q _ ⟨?_, fun e he => ?_, fun p hp => ?_, c, List.mem_append_right _ List.mem_cons_self⟩)
    · exact this
    · rw [List.length_append, List.length_cons, List.length_take, List.length_drop]; omega
    · rcases List.mem_append.mp he with z | z
      · exact hg e (List.mem_of_mem_take z)
      · rcases List.mem_cons.mp z with z | z
        · rw [z]; exact .inr (.inr ⟨c, rfl, c1, c2⟩)
        · exact hg e (List.mem_of_mem_drop z)
    · obtain ⟨c', hc'⟩ := hst p (by first | decide | omega); exact ⟨c', mem _ hc'⟩
theorem ok__law_edges {f : Addr} {fd : FuncData} (F : Fun K "_law_edges" "_law_edges" s__law_edges f fd) (T : Txt P w K mg) (C__law_cell : Cal P w K mg base 1 "_law_cell" ["_law_script", "_law_k"] (spD K 2 S__law_cell)) (C__law_number : Cal P w K mg base 1 "_law_number" ["_law_cell_here"] (spD K 1 S__law_number)) : FnOk P w K mg base CX0 2 f fd ["_law_script", "_law_places", "_law_facts"] (spD K 3 S__law_edges) :=
  fn_okD (k := 1) (b := b__law_edges) F sc__law_edges (fun cdv A outer s H E hr => by
    refine ss_cons ?_ ?_
    · refine s_set (i := 3) ?_ ?_ ?_ ?_
      · exact sc__law_edges.nd
      · exact rfl
      · exact Or.inl rfl
      exact se_callTy ok_tuple rfl T.b_tuple PyProof.Rows.boot_tuple (sa_cons (se_v (sn_comp rfl (N' := ["_law_d", "_law_facts"]) (js := [none, some 2]) ⟨rfl, by decide +kernel, rfl, rfl, rfl⟩ (si_range1 rfl T.b_range (sa_cons (sv 2) sa_nil)) (fun s0 H0 fp => ⟨(sg_name (i := 0) (show (["_law_d", "_law_facts"] : List Str).Nodup by decide +kernel) rfl (Or.inl rfl)), sf_nil, (se_op ok_shl se_int (se_op ok_mod (se_op ok_plus (sv 0) se_int) (sv 1)))⟩))) sa_nil)
    refine ss_cons ?_ ?_
    · refine s_set (i := 4) ?_ ?_ ?_ ?_
      · exact sc__law_edges.nd
      · exact rfl
      · exact Or.inl rfl
      exact se_callTy ok_tuple rfl T.b_tuple PyProof.Rows.boot_tuple (sa_cons (se_v (sn_comp rfl (N' := ["_law_d", "_law_facts", "_law_places"]) (js := [none, some 2, some 1]) ⟨rfl, by decide +kernel, rfl, rfl, rfl⟩ (si_range1 rfl T.b_range (sa_cons (sv 2) sa_nil)) (fun s0 H0 fp => ⟨(sg_name (i := 0) (show (["_law_d", "_law_facts", "_law_places"] : List Str).Nodup by decide +kernel) rfl (Or.inl rfl)), sf_nil, (se_op ok_shl se_int (se_op ok_mod (se_op ok_plus (se_op ok_sub (se_op ok_plus (sv 0) (se_op ok_timesI (sv 1) (sv 2))) (sv 2)) se_int) (sv 1)))⟩))) sa_nil)
    refine ss_cons ?_ ?_
    · refine s_set (i := 5) ?_ ?_ ?_ ?_
      · exact sc__law_edges.nd
      · exact rfl
      · exact Or.inl rfl
      exact se_callTy ok_tuple rfl T.b_tuple PyProof.Rows.boot_tuple (sa_cons (se_v (sn_comp rfl (N' := ["_law_d"]) (js := [none]) ⟨rfl, by decide +kernel, rfl, rfl, rfl⟩ (si_range1 rfl T.b_range (sa_cons (sv 2) sa_nil)) (fun s0 H0 fp => ⟨(sg_name (i := 0) (show (["_law_d"] : List Str).Nodup by decide +kernel) rfl (Or.inl rfl)), sf_nil, (se_op ok_shl se_int (sv 0))⟩))) sa_nil)
    refine ss_cons ?_ ?_
    · refine s_set (i := 6) ?_ ?_ ?_ ?_
      · exact sc__law_edges.nd
      · exact rfl
      · exact Or.inl rfl
      exact se_t (sn_lst sa_nil)
    refine ss_cons ?_ ?_
    · refine s_for ?_ ?_ ?_ ?_ ?_
      · exact PassesOwn.never
      · exact rfl
      · exact si_range1 rfl T.b_range (sa_cons (se_op ok_sub (sv 1) se_int) sa_nil)
      · exact sg_name (i := 7) sc__law_edges.nd rfl (Or.inl rfl)
      refine ss_cons ?_ ?_
      · exact s_expr (se_append (sv 6) (sa_cons (se_tup (sa_cons se_str (sa_cons (sv 7) (sa_cons (se_op ok_plus (sv 7) se_int) (sa_cons (se_cal C__law_number (hr.mono (by decide)) rfl (sa_cons (se_cal C__law_cell (hr.mono (by decide)) rfl (sa_cons (sv 0) (sa_cons (se_op ok_plus se_int (sv 7)) sa_nil))) sa_nil)) (sa_cons (sv 3) sa_nil)))))) sa_nil))
      refine ss_one ?_
      refine s_if ?_ ?_ ?_
      · exact st_cmp (ok_eq hr.units) (se_op ok_mod (se_op ok_div (se_cal C__law_cell (hr.mono (by decide)) rfl (sa_cons (sv 0) (sa_cons (se_op ok_plus se_int (sv 7)) sa_nil))) se_int) se_int) se_int (nomark _)
      · refine ss_one ?_
        exact s_expr (se_insert (sv 6) (sa_cons se_int (sa_cons (se_tup (sa_cons se_str (sa_cons (sv 7) (sa_cons (sv 7) (sa_cons se_int (sa_cons (sv 5) sa_nil)))))) sa_nil)))
      exact ss_nil
    refine ss_cons ?_ ?_
    · refine s_set (i := 8) ?_ ?_ ?_ ?_
      · exact sc__law_edges.nd
      · exact rfl
      · exact Or.inl rfl
      exact se_tup (sa_cons se_str (sa_cons (se_op ok_sub (sv 1) se_int) (sa_cons (se_op ok_sub (sv 1) se_int) (sa_cons (se_cal C__law_number (hr.mono (by decide)) rfl (sa_cons (se_cal C__law_cell (hr.mono (by decide)) rfl (sa_cons (sv 0) (sa_cons se_int sa_nil))) sa_nil)) (sa_cons se_int (sa_cons (sv 4) (sa_cons (sv 5) (sa_cons (sv 5) sa_nil))))))))
    refine ss_cons ?_ ?_
    · exact s_expr (se_insert (sv 6) (sa_cons (se_op ok_mod (se_cal C__law_cell (hr.mono (by decide)) rfl (sa_cons (sv 0) (sa_cons se_int sa_nil))) (se_op ok_plus (se_callB ok_len rfl T.b_len PySem.boot_len (sa_cons (sv 6) sa_nil)) se_int)) (sa_cons (sv 8) sa_nil)))
    refine ss_one ?_
    refine s_ret ?_
    exact sv 6) imp__law_edges
noncomputable def b_edge_taken : DS := (dSeq (dAsg (dOp pIx (dOp pIx (dVar 0) (dOp pIx (dVar 1) (dC (.int 0)))) (dC (.int 2))) (dName 3))
    (dSeq (dAsg (dOp pIx (dVar 2) (dC (.int 1))) (dName 4))
    (dSeq (dIfS (dNot (dTst (dChain pLe pLtI (dC (.int 0)) (dVar 4) (dCB pLen (dCons (dVar 3) dNil))))) (dRet (dC .non)) dNext)
    (dSeq (dAsg (dOp pIx (dVar 3) (dVar 4)) (dName 5))
    (dSeq (dIfS (dOr (dTst (dOp (pEq true) (dOp pIx (dVar 5) (dC (.int 0))) (dIf (dTst (dOp (pEq false) (dOp pIx (dVar 2) (dC (.int 0))) (dC (.str "step")))) (dC (.str "step")) (dC (.str "call"))))) (dTst (dOp (pEq true) (dOp pIx (dVar 5) (dC (.int 1))) (dOp pIx (dVar 1) (dC (.int 1)))))) (dRet (dC .non)) dNext)
    (dRet (dIf (dTr (dCal S_brings (dCons (dOp pIx (dVar 5) (dGet k_MOVE_TABLES (dOp pIx (dVar 2) (dC (.int 0))))) (dCons (dOp pIx (dVar 1) (dC (.int 2))) (dCons (dOp pIx (dVar 2) (dC (.int 2))) dNil))))) (dVar 5) (dC .non))))))))
noncomputable def S_edge_taken : DSp := fun ds h Q => ∃ (c : D) (C : Chart) (f p d : Nat) (F : Fn) (w : Mv) (n e : Int), ds = [c, .tup [nD f, nD p, nD d], .tup [.str w.w, .int n, .int e]] ∧ ChD h c C ∧ WF C ∧ C[f]? = some F ∧ d < F.facts ∧ Q (oD eD (takes C f p d w n e)) h
theorem imp_edge_taken : ∀ ds h Q, S_edge_taken ds h Q → runD 6 b_edge_taken ds h Q := by
  rintro ds h Q ⟨c, C, f, p, d, F, w, n, e, rfl, hc, wf, hf, hd, q⟩
  obtain ⟨x, e1, e2⟩ := hc.fn hf
  have hw := wf.fn f F hf
  simp only [runD, runX, b_edge_taken, List.map_cons, List.map_nil, List.cons_append, List.nil_append, List.length_cons, List.length_nil, List.replicate, Nat.reduceSub, Nat.reduceAdd, Nat.zero_add, Nat.sub_self]
  (try dsimp only); refine seq_intro fun N hN => ?_
  simp only [e1, VV]
  subst hN
  (try dsimp only); refine seq_intro fun N hN => ?_
  simp only [VV]
  subst hN
  (try dsimp only); refine seq_intro fun N hN => ?_
  by_cases h0 : 0 ≤ n
  · by_cases h1 : n < F.edges.length
    · have hl : n.toNat < F.edges.length := by first | decide | omega
      obtain ⟨E, hE⟩ : ∃ E, F.edges[n.toNat]? = some E := ⟨_, List.getElem?_eq_getElem hl⟩
      have eE : edgeAt C f n = some E := by unfold edgeAt; rw [if_pos h0, hf]; exact hE
      have ax : atI (F.edges.map eD) n = some (eD E) := by rw [atI_of h0, List.getElem?_map, hE]; rfl
      obtain ⟨o1, o2, o3, o4, o5⟩ := hw.2.2.2.2.2 E (List.mem_of_getElem? hE)
      have tk : takes C f p d w n e = if (E.isStep == (w == .step)) = true ∧ E.p = p ∧ br (E.tab w) d e = true then some E else none := by unfold takes; rw [eE]; rfl
      rw [tk] at q
      clear tk eE hE hl
      simp only [len_ls e2, List.length_map, h0, h1, VV]
      subst hN
      (try dsimp only); refine seq_intro fun N hN => ?_
      simp only [ix_ls e2, ax, VV]
      clear ax e1 e2 h0 h1
      subst hN
      (try dsimp only); refine seq_intro fun N hN => ?_
      obtain ⟨ep, eq, ec, ek⟩ := E
      have hpp : ((ep : Int) == (p : Int)) = decide (ep = p) := by first | exact beqN _ _ | exact beqP _ _ | exact beqS _ _
      cases w <;> cases ek
      case step.step t =>
        simp only [eD, Mv.w, hpp, VV]
        by_cases hp : ep = p
        · subst hp
          simp only [VV]
          subst hN
          simp only [Mv.w, keyS, lkG, k_MOVE_TABLES, VV]
          refine ⟨t, _, _, d, e, rfl, o5, hw.2.2.2.1, hd, ?_⟩
          by_cases hb : br t d e = true
          · rw [if_pos ⟨rfl, rfl, hb⟩] at q; simp only [hb, VV]; exact q
          · rw [if_neg fun z => hb z.2.2] at q; simp only [hb, VV]; exact q
        · rw [if_neg fun z => hp z.2.1] at q; simp only [hp, VV]; exact q
      case over.call g i b o =>
        simp only [eD, Mv.w, hpp, VV]
        by_cases hp : ep = p
        · subst hp
          simp only [VV]
          subst hN
          obtain ⟨G, hG, t1, t2, t3⟩ := o5
          simp only [Mv.w, keyS, lkG, k_MOVE_TABLES, VV]
          refine ⟨o, _, _, d, e, rfl, t3, hw.2.2.2.1, hd, ?_⟩
          by_cases hb : br o d e = true
          · rw [if_pos ⟨rfl, rfl, hb⟩] at q; simp only [hb, VV]; exact q
          · rw [if_neg fun z => hb z.2.2] at q; simp only [hb, VV]; exact q
        · rw [if_neg fun z => hp z.2.1] at q; simp only [hp, VV]; exact q
      case inn.call g i b o =>
        simp only [eD, Mv.w, hpp, VV]
        by_cases hp : ep = p
        · subst hp
          simp only [VV]
          subst hN
          obtain ⟨G, hG, t1, t2, t3⟩ := o5
          simp only [Mv.w, keyS, lkG, k_MOVE_TABLES, VV]
          refine ⟨i, _, _, d, e, rfl, t1, (wf.fn g G hG).2.2.2.1, hd, ?_⟩
          by_cases hb : br i d e = true
          · rw [if_pos ⟨rfl, rfl, hb⟩] at q; simp only [hb, VV]; exact q
          · rw [if_neg fun z => hb z.2.2] at q; simp only [hb, VV]; exact q
        · rw [if_neg fun z => hp z.2.1] at q; simp only [hp, VV]; exact q
      all_goals
        simp only [eD, Mv.w, VV]
        rw [if_neg fun z => Bool.false_ne_true z.1] at q
        exact q
    · have eE : takes C f p d w n e = none := by
        unfold takes edgeAt
        rw [if_pos h0, hf]
        show (F.edges[n.toNat]?).bind _ = none
        rw [List.getElem?_eq_none (by first | decide | omega)]; rfl
      rw [eE] at q
      simp only [len_ls e2, List.length_map, h0, h1, VV]
      exact q
  · have eE : takes C f p d w n e = none := by unfold takes edgeAt; rw [if_neg h0]; rfl
    rw [eE] at q
    simp only [len_ls e2, List.length_map, h0, VV]
    exact q
theorem ok_edge_taken {f : Addr} {fd : FuncData} (F : Fun K "edge_taken" "edge_taken" s_edge_taken f fd) (T : Txt P w K mg) (C_brings : Cal P w K mg base 2 "brings" ["table", "d", "e"] (spD K 3 S_brings)) : FnOk P w K mg base CX0 3 f fd ["chart", "here", "move"] (spD K 3 S_edge_taken) :=
  fn_ok (k := 2) (b := b_edge_taken) F sc_edge_taken (fun cdv A outer s H E hr => by
    refine ss_cons ?_ ?_
    · refine s_set (i := 3) ?_ ?_ ?_ ?_
      · exact sc_edge_taken.nd
      · exact rfl
      · exact Or.inl rfl
      exact se_ix ok_ix (se_ix ok_ix (sv 0) (se_ix ok_ix (sv 1) se_int (fun _ _ => rfl)) (fun _ _ => rfl)) se_int (fun _ _ => rfl)
    refine ss_cons ?_ ?_
    · refine s_set (i := 4) ?_ ?_ ?_ ?_
      · exact sc_edge_taken.nd
      · exact rfl
      · exact Or.inl rfl
      exact se_ix ok_ix (sv 2) se_int (fun _ _ => rfl)
    refine ss_cons ?_ ?_
    · refine s_if ?_ ?_ ?_
      · exact st_not (st_chain ok_le ok_ltI se_int (sv 4) (se_callB ok_len rfl T.b_len PySem.boot_len (sa_cons (sv 3) sa_nil)))
      · refine ss_one ?_
        refine s_ret ?_
        exact se_non
      exact ss_nil
    refine ss_cons ?_ ?_
    · refine s_set (i := 5) ?_ ?_ ?_ ?_
      · exact sc_edge_taken.nd
      · exact rfl
      · exact Or.inl rfl
      exact se_ix ok_ix (sv 3) (sv 4) (fun _ _ => rfl)
    refine ss_cons ?_ ?_
    · refine s_if ?_ ?_ ?_
      · exact st_w (sw_or (st_cmp (ok_ne hr.units) (se_ix ok_ix (sv 5) se_int (fun _ _ => rfl)) (se_if (st_cmp (ok_eq hr.units) (se_ix ok_ix (sv 2) se_int (fun _ _ => rfl)) se_str (nomark _)) se_str se_str) (nomark _)) (sw_or1 (st_cmp (ok_ne hr.units) (se_ix ok_ix (sv 5) se_int (fun _ _ => rfl)) (se_ix ok_ix (sv 1) se_int (fun _ _ => rfl)) (nomark _))))
      · refine ss_one ?_
        refine s_ret ?_
        exact se_non
      exact ss_nil
    refine ss_one ?_
    refine s_ret ?_
    exact se_if (st_truth (se_cal C_brings (hr.mono (by decide)) rfl (sa_cons (se_ix ok_ix (sv 5) (se_gget (kvs := k_MOVE_TABLES) rfl T.c_MOVE_TABLES (se_ix ok_ix (sv 2) se_int (fun _ _ => rfl)) (fun _ _ => rfl)) (fun _ _ => rfl)) (sa_cons (se_ix ok_ix (sv 1) se_int (fun _ _ => rfl)) (sa_cons (se_ix ok_ix (sv 2) se_int (fun _ _ => rfl)) sa_nil))))) (sv 5) se_non) imp_edge_taken
noncomputable def b_edge_claim : DS := (dSeq (dAsg (dCal S_claim_ahead (dCons (dVar 1) (dCons (dOp pIx (dVar 2) (dC (.int 1))) (dCons (dC (.str "within")) dNil)))) (dName 3))
    (dSeq (dIfS (dTst (dOp (pIs false) (dVar 3) (dC .non))) (dRet (dC .non)) dNext)
    (dSeq (dAsg (dOp pIx (dVar 3) (dC (.int 1))) (dName 4))
    (dSeq (dAsg (dCal S_edge_taken (dCons (dVar 0) (dCons (dTup (dCons (dVar 4) (dCons (dOp pIx (dVar 3) (dC (.int 3))) (dCons (dOp pIx (dVar 3) (dC (.int 4))) dNil)))) (dCons (dCal S_move_of (dCons (dVar 2) dNil)) dNil)))) (dName 5))
    (dSeq (dIfS (dTst (dOp (pIs false) (dVar 5) (dC .non))) (dRet (dC .non)) dNext)
    (dRet (dTup (dCons (dC (.str "within")) (dCons (dVar 4) (dCons (dOp pIx (dVar 3) (dC (.int 2))) (dCons (dOp pIx (dVar 5) (dC (.int 2))) (dCons (dOp pIx (dVar 2) (dC (.int 3))) (dCons (dOp pPlus (dOp pIx (dVar 3) (dC (.int 5))) (dOp pIx (dVar 5) (dC (.int 3)))) dNil)))))))))))))
noncomputable def S_edge_claim : DSp := fun ds h Q => ∃ (c a : D) (C : Chart) (cs : List Clm) (st : Nat) (w : Mv) (k n e : Int), ds = [c, a, rD (.mv w k n e)] ∧ w ≠ .inn ∧ ChD h c C ∧ WF C ∧ lsOf h a = some (cs.map clD) ∧ (∀ c ∈ cs, clOk C c) ∧ Q (oD clD (claimOf C st cs (.mv w k n e))) h
theorem imp_edge_claim : ∀ ds h Q, S_edge_claim ds h Q → runD 6 b_edge_claim ds h Q := by
  rintro ds h Q ⟨c, a, C, cs, st, w, k, n, e, rfl, nw, hc, wf, ha, ok, q⟩
  simp only [runD, runX, b_edge_claim, List.map_cons, List.map_nil, List.cons_append, List.nil_append, List.length_cons, List.length_nil, List.replicate, Nat.reduceSub, Nat.reduceAdd, Nat.zero_add, Nat.sub_self]
  (try dsimp only); refine seq_intro fun N hN => ?_
  simp only [rD, VV]
  refine ⟨a, cs, k, true, rfl, ha, ?_⟩
  subst hN
  (try dsimp only); refine seq_intro fun N hN => ?_
  cases hb : aheadW cs k true with
  | none =>
    have eq : claimOf C st cs (.mv w k n e) = none := by
      have hn := aheadW_Tn hb
      cases w with
      | inn => exact absurd rfl nw
      | _ =>
        show (match ahead cs k with | some (.within f a p d c) => _ | _ => none) = none
        cases q2 : ahead cs k with
        | none => rfl
        | some x =>
          cases x with
          | within f a p d c => exact absurd q2 (hn f a p d c)
          | «at» f p d c => rfl
    rw [eq] at q
    simp only [oD, VV]
    exact q
  | some b =>
    obtain ⟨f, a', p, d, x, rfl, hk⟩ := aheadW_T hb
    obtain ⟨F, hF, o1, o2, o3⟩ := ahead_ok ok hk
    simp only [oD, clD, VV]
    subst hN
    (try dsimp only); refine seq_intro fun N hN => ?_
    simp only [VV]
    subst hN
    (try dsimp only); refine seq_intro fun N hN => ?_
    simp only [VV]
    refine ⟨_, _, _, _, rfl, c, C, f, p, d, F, w, n, e, rfl, hc, wf, hF, o3, ?_⟩
    have eq : claimOf C st cs (.mv w k n e) = (takes C f p d w n e).map fun E => .within f a' E.q e.toNat (x + E.cost) := by
      cases w with
      | inn => exact absurd rfl nw
      | _ =>
        show (match ahead cs k with | some (.within f a p d c) => _ | _ => none) = _
        rw [hk]
    rw [eq] at q
    subst hN
    (try dsimp only); refine seq_intro fun N hN => ?_
    cases ht : takes C f p d w n e with
    | none => rw [ht] at q; simp only [oD, VV]; exact q
    | some E =>
      rw [ht] at q
      simp only [oD, eD_non, VV]
      subst hN
      simp only [eD_2, eD_3, VV]
      have he : 0 ≤ e := (takes_inv ht).2.2.2.2
      have q : Q (.tup [.str "within", nD f, nD a', nD E.q, .int ((e.toNat : Nat) : Int), .int ((x + E.cost : Nat) : Int)]) h := q
      rw [Int.toNat_of_nonneg he, Int.natCast_add] at q
      exact q
theorem ok_edge_claim {f : Addr} {fd : FuncData} (F : Fun K "edge_claim" "edge_claim" s_edge_claim f fd) (T : Txt P w K mg) (C_claim_ahead : Cal P w K mg base 1 "claim_ahead" ["ahead", "k", "sort"] (spD K 3 S_claim_ahead)) (C_move_of : Cal P w K mg base 1 "move_of" ["row"] (spD K 1 S_move_of)) (C_edge_taken : Cal P w K mg base 3 "edge_taken" ["chart", "here", "move"] (spD K 3 S_edge_taken)) : FnOk P w K mg base CX0 4 f fd ["chart", "ahead", "row"] (spD K 3 S_edge_claim) :=
  fn_ok (k := 3) (b := b_edge_claim) F sc_edge_claim (fun cdv A outer s H E hr => by
    refine ss_cons ?_ ?_
    · refine s_set (i := 3) ?_ ?_ ?_ ?_
      · exact sc_edge_claim.nd
      · exact rfl
      · exact Or.inl rfl
      exact se_cal C_claim_ahead (hr.mono (by decide)) rfl (sa_cons (sv 1) (sa_cons (se_ix ok_ix (sv 2) se_int (fun _ _ => rfl)) (sa_cons se_str sa_nil)))
    refine ss_cons ?_ ?_
    · refine s_if ?_ ?_ ?_
      · exact st_cmp ok_is (sv 3) se_non (nomark _)
      · refine ss_one ?_
        refine s_ret ?_
        exact se_non
      exact ss_nil
    refine ss_cons ?_ ?_
    · refine s_set (i := 4) ?_ ?_ ?_ ?_
      · exact sc_edge_claim.nd
      · exact rfl
      · exact Or.inl rfl
      exact se_ix ok_ix (sv 3) se_int (fun _ _ => rfl)
    refine ss_cons ?_ ?_
    · refine s_set (i := 5) ?_ ?_ ?_ ?_
      · exact sc_edge_claim.nd
      · exact rfl
      · exact Or.inl rfl
      exact se_cal C_edge_taken (hr.mono (by decide)) rfl (sa_cons (sv 0) (sa_cons (se_tup (sa_cons (sv 4) (sa_cons (se_ix ok_ix (sv 3) se_int (fun _ _ => rfl)) (sa_cons (se_ix ok_ix (sv 3) se_int (fun _ _ => rfl)) sa_nil)))) (sa_cons (se_cal C_move_of (hr.mono (by decide)) rfl (sa_cons (sv 2) sa_nil)) sa_nil)))
    refine ss_cons ?_ ?_
    · refine s_if ?_ ?_ ?_
      · exact st_cmp ok_is (sv 5) se_non (nomark _)
      · refine ss_one ?_
        refine s_ret ?_
        exact se_non
      exact ss_nil
    refine ss_one ?_
    refine s_ret ?_
    exact se_tup (sa_cons se_str (sa_cons (sv 4) (sa_cons (se_ix ok_ix (sv 3) se_int (fun _ _ => rfl)) (sa_cons (se_ix ok_ix (sv 5) se_int (fun _ _ => rfl)) (sa_cons (se_ix ok_ix (sv 2) se_int (fun _ _ => rfl)) (sa_cons (se_op ok_plus (se_ix ok_ix (sv 3) se_int (fun _ _ => rfl)) (se_ix ok_ix (sv 5) se_int (fun _ _ => rfl))) sa_nil))))))) imp_edge_claim
noncomputable def b_short_claim : DS := (dSeq (dAsg (dCal S_claim_ahead (dCons (dVar 1) (dCons (dOp pIx (dVar 2) (dC (.int 1))) (dCons (dC (.str "within")) dNil)))) (dName 3))
    (dSeq (dAsg (dCal S_claim_ahead (dCons (dVar 1) (dCons (dOp pIx (dVar 2) (dC (.int 3))) (dCons (dC (.str "within")) dNil)))) (dName 4))
    (dSeq (dIfS (dOr (dTst (dOp (pIs false) (dVar 3) (dC .non))) (dTst (dOp (pIs false) (dVar 4) (dC .non)))) (dRet (dC .non)) dNext)
    (dSeq (dAsg (dOp pIx (dVar 3) (dC (.int 1))) (dName 5))
    (dSeq (dAsg (dCal S_edge_taken (dCons (dVar 0) (dCons (dTup (dCons (dVar 5) (dCons (dOp pIx (dVar 3) (dC (.int 3))) (dCons (dOp pIx (dVar 3) (dC (.int 4))) dNil)))) (dCons (dTup (dCons (dC (.str "in")) (dCons (dOp pIx (dVar 2) (dC (.int 2))) (dCons (dOp pIx (dVar 4) (dC (.int 2))) dNil)))) dNil)))) (dName 6))
    (dSeq (dIfS (dOr (dTst (dOp (pIs false) (dVar 6) (dC .non))) (dOr (dTst (dOp (pEq true) (dOp pIx (dVar 6) (dC (.int 4))) (dOp pIx (dVar 4) (dC (.int 1))))) (dTst (dOp (pEq true) (dOp pIx (dVar 4) (dC (.int 3))) (dCal S_exit_of (dCons (dVar 0) (dCons (dOp pIx (dVar 4) (dC (.int 1))) dNil))))))) (dRet (dC .non)) dNext)
    (dSeq (dIfS (dNot (dTr (dCal S_brings (dCons (dOp pIx (dVar 6) (dC (.int 6))) (dCons (dOp pIx (dVar 4) (dC (.int 4))) (dCons (dOp pIx (dVar 2) (dC (.int 4))) dNil)))))) (dRet (dC .non)) dNext)
    (dRet (dTup (dCons (dC (.str "within")) (dCons (dVar 5) (dCons (dOp pIx (dVar 3) (dC (.int 2))) (dCons (dOp pIx (dVar 6) (dC (.int 2))) (dCons (dOp pIx (dVar 2) (dC (.int 4))) (dCons (dOp pPlus (dOp pPlus (dOp pIx (dVar 3) (dC (.int 5))) (dOp pIx (dVar 6) (dC (.int 3)))) (dOp pIx (dVar 4) (dC (.int 5)))) dNil)))))))))))))))
noncomputable def S_short_claim : DSp := fun ds h Q => ∃ (c a : D) (C : Chart) (cs : List Clm) (st : Nat) (k n j e : Int), ds = [c, a, rD (.short k n j e)] ∧ ChD h c C ∧ WF C ∧ lsOf h a = some (cs.map clD) ∧ (∀ c ∈ cs, clOk C c) ∧ Q (oD clD (claimOf C st cs (.short k n j e))) h
theorem imp_short_claim : ∀ ds h Q, S_short_claim ds h Q → runD 7 b_short_claim ds h Q := by
  rintro ds h Q ⟨c, a, C, cs, st, k, n, j, e, rfl, hc, wf, ha, ok, q⟩
  simp only [runD, runX, b_short_claim, List.map_cons, List.map_nil, List.cons_append, List.nil_append, List.length_cons, List.length_nil, List.replicate, Nat.reduceSub, Nat.reduceAdd, Nat.zero_add, Nat.sub_self]
  (try dsimp only); refine seq_intro fun N hN => ?_
  simp only [rD, VV]
  refine ⟨a, cs, k, true, rfl, ha, ?_⟩
  subst hN
  (try dsimp only); refine seq_intro fun N hN => ?_
  simp only [VV]
  refine ⟨a, cs, j, true, rfl, ha, ?_⟩
  subst hN
  (try dsimp only); refine seq_intro fun N hN => ?_
  cases hb : aheadW cs k true with
  | none =>
    have eq : claimOf C st cs (.short k n j e) = none := by
      have hn := aheadW_Tn hb
      show (match ahead cs k, ahead cs j with | some (.within f a p d c), some (.within g b x y c') => _ | _, _ => none) = none
      cases q2 : ahead cs k with
      | none => rfl
      | some x =>
        cases x with
        | within f a p d c => exact absurd q2 (hn f a p d c)
        | «at» f p d c => rfl
    rw [eq] at q
    simp only [oD, VV]
    exact q
  | some b =>
    obtain ⟨f, a', p, d, x, rfl, hk⟩ := aheadW_T hb
    obtain ⟨F, hF, o1, o2, o3⟩ := ahead_ok ok hk
    cases hb2 : aheadW cs j true with
    | none =>
      have eq : claimOf C st cs (.short k n j e) = none := by
        have hn := aheadW_Tn hb2
        show (match ahead cs k, ahead cs j with | some (.within f a p d c), some (.within g b x y c') => _ | _, _ => none) = none
        rw [hk]
        cases q2 : ahead cs j with
        | none => rfl
        | some x =>
          cases x with
          | within f a p d c => exact absurd q2 (hn f a p d c)
          | «at» f p d c => rfl
      rw [eq] at q
      simp only [oD, clD, VV]
      exact q
    | some b2 =>
      obtain ⟨g, b, px, y, x', rfl, hk2⟩ := aheadW_T hb2
      obtain ⟨G, hG, p1, p2, p3⟩ := ahead_ok ok hk2
      simp only [oD, clD, VV]
      subst hN
      (try dsimp only); refine seq_intro fun N hN => ?_
      simp only [VV]
      subst hN
      (try dsimp only); refine seq_intro fun N hN => ?_
      simp only [VV]
      refine ⟨c, C, f, p, d, F, .inn, n, (b : Int), rfl, hc, wf, hF, o3, ?_⟩
      subst hN
      (try dsimp only); refine seq_intro fun N hN => ?_
      have eq : claimOf C st cs (.short k n j e) = (takes C f p d .inn n b).bind fun E => match E.k with
          | .call g' _ bk _ => (C[g']?).bind fun G => if g' = g ∧ px + 1 = G.places ∧ br bk y e = true then some (.within f a' E.q e.toNat (x + E.cost + x')) else none
          | _ => none := by
        show (match ahead cs k, ahead cs j with | some (.within f a p d c), some (.within g b x y c') => _ | _, _ => none) = _
        rw [hk, hk2] <;> rfl
      rw [eq] at q
      cases ht : takes C f p d .inn n b with
      | none => rw [ht] at q; simp only [oD, VV]; exact q
      | some E =>
        rw [ht] at q
        obtain ⟨F', g', i, bk, o, G', hF', hk', hG', t1, t2, t3, _, _, _, _⟩ := takes_in wf ht
        obtain ⟨ep, eq', ec, ek⟩ := E
        dsimp only at hk'
        subst hk'
        rw [hF] at hF'; cases hF'
        have q : Q (oD clD ((C[g']?).bind fun G => if g' = g ∧ px + 1 = G.places ∧ br bk y e = true then some (.within f a' eq' e.toNat (x + ec + x')) else none)) h := q
        rw [hG'] at q
        have q : Q (oD clD (if g' = g ∧ px + 1 = G'.places ∧ br bk y e = true then some (.within f a' eq' e.toNat (x + ec + x')) else none)) h := q
        have e1 : ((g' : Int) == (g : Int)) = decide (g' = g) := by first | exact beqN _ _ | exact beqP _ _ | exact beqS _ _
        simp only [oD, eD, e1, VV]
        by_cases h1 : g' = g
        · subst h1
          rw [hG] at hG'; cases hG'
          simp only [VV]
          refine ⟨c, C, g', G, rfl, hc, hG, ?_⟩
          have e2 : ((px : Int) == (G.places : Int) - 1) = decide (px + 1 = G.places) := by first | exact beqN _ _ | exact beqP _ _ | exact beqS _ _
          simp only [e2, VV]
          by_cases h2 : px + 1 = G.places
          · simp only [h2, VV]
            subst hN
            (try dsimp only); refine seq_intro fun N hN => ?_
            simp only [VV]
            refine ⟨bk, _, _, y, e, rfl, t2, (wf.fn f F hF).2.2.2.1, p3, ?_⟩
            by_cases h3 : br bk y e = true
            · rw [if_pos ⟨rfl, h2, h3⟩] at q
              simp only [h3, VV]
              subst hN
              simp only [VV]
              have he : 0 ≤ e := by unfold br at h3; rw [Bool.and_eq_true] at h3; exact of_decide_eq_true h3.1
              have q : Q (.tup [.str "within", nD f, nD a', nD eq', .int ((e.toNat : Nat) : Int), .int ((x + ec + x' : Nat) : Int)]) h := q
              rw [Int.toNat_of_nonneg he, Int.natCast_add, Int.natCast_add] at q
              exact q
            · rw [if_neg (fun z => h3 z.2.2)] at q
              simp only [h3, VV]
              exact q
          · rw [if_neg (fun z => h2 z.2.1)] at q
            simp only [h2, VV]
            exact q
        · rw [if_neg (fun z => h1 z.1)] at q
          simp only [h1, VV]
          exact q
theorem ok_short_claim {f : Addr} {fd : FuncData} (F : Fun K "short_claim" "short_claim" s_short_claim f fd) (T : Txt P w K mg) (C_claim_ahead : Cal P w K mg base 1 "claim_ahead" ["ahead", "k", "sort"] (spD K 3 S_claim_ahead)) (C_edge_taken : Cal P w K mg base 3 "edge_taken" ["chart", "here", "move"] (spD K 3 S_edge_taken)) (C_exit_of : Cal P w K mg base 1 "exit_of" ["chart", "f"] (spD K 2 S_exit_of)) (C_brings : Cal P w K mg base 2 "brings" ["table", "d", "e"] (spD K 3 S_brings)) : FnOk P w K mg base CX0 4 f fd ["chart", "ahead", "row"] (spD K 3 S_short_claim) :=
  fn_ok (k := 3) (b := b_short_claim) F sc_short_claim (fun cdv A outer s H E hr => by
    refine ss_cons ?_ ?_
    · refine s_set (i := 3) ?_ ?_ ?_ ?_
      · exact sc_short_claim.nd
      · exact rfl
      · exact Or.inl rfl
      exact se_cal C_claim_ahead (hr.mono (by decide)) rfl (sa_cons (sv 1) (sa_cons (se_ix ok_ix (sv 2) se_int (fun _ _ => rfl)) (sa_cons se_str sa_nil)))
    refine ss_cons ?_ ?_
    · refine s_set (i := 4) ?_ ?_ ?_ ?_
      · exact sc_short_claim.nd
      · exact rfl
      · exact Or.inl rfl
      exact se_cal C_claim_ahead (hr.mono (by decide)) rfl (sa_cons (sv 1) (sa_cons (se_ix ok_ix (sv 2) se_int (fun _ _ => rfl)) (sa_cons se_str sa_nil)))
    refine ss_cons ?_ ?_
    · refine s_if ?_ ?_ ?_
      · exact st_w (sw_or (st_cmp ok_is (sv 3) se_non (nomark _)) (sw_or1 (st_cmp ok_is (sv 4) se_non (nomark _))))
      · refine ss_one ?_
        refine s_ret ?_
        exact se_non
      exact ss_nil
    refine ss_cons ?_ ?_
    · refine s_set (i := 5) ?_ ?_ ?_ ?_
      · exact sc_short_claim.nd
      · exact rfl
      · exact Or.inl rfl
      exact se_ix ok_ix (sv 3) se_int (fun _ _ => rfl)
    refine ss_cons ?_ ?_
    · refine s_set (i := 6) ?_ ?_ ?_ ?_
      · exact sc_short_claim.nd
      · exact rfl
      · exact Or.inl rfl
      exact se_cal C_edge_taken (hr.mono (by decide)) rfl (sa_cons (sv 0) (sa_cons (se_tup (sa_cons (sv 5) (sa_cons (se_ix ok_ix (sv 3) se_int (fun _ _ => rfl)) (sa_cons (se_ix ok_ix (sv 3) se_int (fun _ _ => rfl)) sa_nil)))) (sa_cons (se_tup (sa_cons se_str (sa_cons (se_ix ok_ix (sv 2) se_int (fun _ _ => rfl)) (sa_cons (se_ix ok_ix (sv 4) se_int (fun _ _ => rfl)) sa_nil)))) sa_nil)))
    refine ss_cons ?_ ?_
    · refine s_if ?_ ?_ ?_
      · exact st_w (sw_or (st_cmp ok_is (sv 6) se_non (nomark _)) (sw_or (st_cmp (ok_ne hr.units) (se_ix ok_ix (sv 6) se_int (fun _ _ => rfl)) (se_ix ok_ix (sv 4) se_int (fun _ _ => rfl)) (nomark _)) (sw_or1 (st_cmp (ok_ne hr.units) (se_ix ok_ix (sv 4) se_int (fun _ _ => rfl)) (se_cal C_exit_of (hr.mono (by decide)) rfl (sa_cons (sv 0) (sa_cons (se_ix ok_ix (sv 4) se_int (fun _ _ => rfl)) sa_nil))) (nomark _)))))
      · refine ss_one ?_
        refine s_ret ?_
        exact se_non
      exact ss_nil
    refine ss_cons ?_ ?_
    · refine s_if ?_ ?_ ?_
      · exact st_not (st_truth (se_cal C_brings (hr.mono (by decide)) rfl (sa_cons (se_ix ok_ix (sv 6) se_int (fun _ _ => rfl)) (sa_cons (se_ix ok_ix (sv 4) se_int (fun _ _ => rfl)) (sa_cons (se_ix ok_ix (sv 2) se_int (fun _ _ => rfl)) sa_nil)))))
      · refine ss_one ?_
        refine s_ret ?_
        exact se_non
      exact ss_nil
    refine ss_one ?_
    refine s_ret ?_
    exact se_tup (sa_cons se_str (sa_cons (sv 5) (sa_cons (se_ix ok_ix (sv 3) se_int (fun _ _ => rfl)) (sa_cons (se_ix ok_ix (sv 6) se_int (fun _ _ => rfl)) (sa_cons (se_ix ok_ix (sv 2) se_int (fun _ _ => rfl)) (sa_cons (se_op ok_plus (se_op ok_plus (se_ix ok_ix (sv 3) se_int (fun _ _ => rfl)) (se_ix ok_ix (sv 6) se_int (fun _ _ => rfl))) (se_ix ok_ix (sv 4) se_int (fun _ _ => rfl))) sa_nil))))))) imp_short_claim
noncomputable def b_in_claim : DS := (dSeq (dAsg (dCal S_claim_ahead (dCons (dVar 1) (dCons (dOp pIx (dVar 2) (dC (.int 1))) (dCons (dC (.str "at")) dNil)))) (dName 3))
    (dSeq (dIfS (dTst (dOp (pIs false) (dVar 3) (dC .non))) (dRet (dC .non)) dNext)
    (dSeq (dAsg (dCal S_edge_taken (dCons (dVar 0) (dCons (dTup (dCons (dOp pIx (dVar 3) (dC (.int 1))) (dCons (dOp pIx (dVar 3) (dC (.int 2))) (dCons (dOp pIx (dVar 3) (dC (.int 3))) dNil)))) (dCons (dCal S_move_of (dCons (dVar 2) dNil)) dNil)))) (dName 4))
    (dRet (dIf (dTst (dOp (pIs false) (dVar 4) (dC .non))) (dC .non) (dTup (dCons (dC (.str "at")) (dCons (dOp pIx (dVar 4) (dC (.int 4))) (dCons (dC (.int 0)) (dCons (dOp pIx (dVar 2) (dC (.int 3))) (dCons (dOp pPlus (dOp pIx (dVar 3) (dC (.int 4))) (dOp pIx (dVar 4) (dC (.int 3)))) dNil)))))))))))
noncomputable def S_in_claim : DSp := fun ds h Q => ∃ (c a : D) (C : Chart) (cs : List Clm) (st : Nat) (k n e : Int), ds = [c, a, rD (.mv .inn k n e)] ∧ ChD h c C ∧ WF C ∧ lsOf h a = some (cs.map clD) ∧ (∀ c ∈ cs, clOk C c) ∧ Q (oD clD (claimOf C st cs (.mv .inn k n e))) h
theorem imp_in_claim : ∀ ds h Q, S_in_claim ds h Q → runD 5 b_in_claim ds h Q := by
  rintro ds h Q ⟨c, a, C, cs, st, k, n, e, rfl, hc, wf, ha, ok, q⟩
  simp only [runD, runX, b_in_claim, List.map_cons, List.map_nil, List.cons_append, List.nil_append, List.length_cons, List.length_nil, List.replicate, Nat.reduceSub, Nat.reduceAdd, Nat.zero_add, Nat.sub_self]
  (try dsimp only); refine seq_intro fun N hN => ?_
  simp only [rD, VV]
  refine ⟨a, cs, k, false, rfl, ha, ?_⟩
  subst hN
  (try dsimp only); refine seq_intro fun N hN => ?_
  cases hb : aheadW cs k false with
  | none =>
    have eq : claimOf C st cs (.mv .inn k n e) = none := by
      have hn := aheadW_Fn hb
      show (match ahead cs k with | some (.at f p d c) => _ | _ => none) = none
      cases q2 : ahead cs k with
      | none => rfl
      | some x =>
        cases x with
        | within f a p d c => rfl
        | «at» f p d c => exact absurd q2 (hn f p d c)
    rw [eq] at q
    simp only [oD, VV]
    exact q
  | some b =>
    obtain ⟨f, p, d, x, rfl, hk⟩ := aheadW_F hb
    obtain ⟨F, hF, o1, o2⟩ := ahead_ok ok hk
    simp only [oD, clD, VV]
    subst hN
    (try dsimp only); refine seq_intro fun N hN => ?_
    simp only [VV]
    refine ⟨_, _, _, _, rfl, c, C, f, p, d, F, .inn, n, e, rfl, hc, wf, hF, o2, ?_⟩
    have eq : claimOf C st cs (.mv .inn k n e) = (takes C f p d .inn n e).bind fun E => match E.k with | .call g _ _ _ => some (.at g 0 e.toNat (x + E.cost)) | _ => none := by
      show (match ahead cs k with | some (.at f p d c) => _ | _ => none) = _
      rw [hk] <;> rfl
    rw [eq] at q
    subst hN
    cases ht : takes C f p d .inn n e with
    | none => rw [ht] at q; simp only [oD, VV]; exact q
    | some E =>
      rw [ht] at q
      obtain ⟨F', g, i, b, o, G, _, hk', _, _, _, _, _, _, _, he⟩ := takes_in wf ht
      obtain ⟨ep, eq', ec, ek⟩ := E
      dsimp only at hk'
      subst hk'
      simp only [oD, eD, VV]
      have q : Q (.tup [.str "at", nD g, nD 0, .int ((e.toNat : Nat) : Int), .int ((x + ec : Nat) : Int)]) h := q
      rw [Int.toNat_of_nonneg he, Int.natCast_add] at q
      exact q
theorem ok_in_claim {f : Addr} {fd : FuncData} (F : Fun K "in_claim" "in_claim" s_in_claim f fd) (T : Txt P w K mg) (C_claim_ahead : Cal P w K mg base 1 "claim_ahead" ["ahead", "k", "sort"] (spD K 3 S_claim_ahead)) (C_move_of : Cal P w K mg base 1 "move_of" ["row"] (spD K 1 S_move_of)) (C_edge_taken : Cal P w K mg base 3 "edge_taken" ["chart", "here", "move"] (spD K 3 S_edge_taken)) : FnOk P w K mg base CX0 4 f fd ["chart", "ahead", "row"] (spD K 3 S_in_claim) :=
  fn_ok (k := 3) (b := b_in_claim) F sc_in_claim (fun cdv A outer s H E hr => by
    refine ss_cons ?_ ?_
    · refine s_set (i := 3) ?_ ?_ ?_ ?_
      · exact sc_in_claim.nd
      · exact rfl
      · exact Or.inl rfl
      exact se_cal C_claim_ahead (hr.mono (by decide)) rfl (sa_cons (sv 1) (sa_cons (se_ix ok_ix (sv 2) se_int (fun _ _ => rfl)) (sa_cons se_str sa_nil)))
    refine ss_cons ?_ ?_
    · refine s_if ?_ ?_ ?_
      · exact st_cmp ok_is (sv 3) se_non (nomark _)
      · refine ss_one ?_
        refine s_ret ?_
        exact se_non
      exact ss_nil
    refine ss_cons ?_ ?_
    · refine s_set (i := 4) ?_ ?_ ?_ ?_
      · exact sc_in_claim.nd
      · exact rfl
      · exact Or.inl rfl
      exact se_cal C_edge_taken (hr.mono (by decide)) rfl (sa_cons (sv 0) (sa_cons (se_tup (sa_cons (se_ix ok_ix (sv 3) se_int (fun _ _ => rfl)) (sa_cons (se_ix ok_ix (sv 3) se_int (fun _ _ => rfl)) (sa_cons (se_ix ok_ix (sv 3) se_int (fun _ _ => rfl)) sa_nil)))) (sa_cons (se_cal C_move_of (hr.mono (by decide)) rfl (sa_cons (sv 2) sa_nil)) sa_nil)))
    refine ss_one ?_
    refine s_ret ?_
    exact se_if (st_cmp ok_is (sv 4) se_non (nomark _)) se_non (se_tup (sa_cons se_str (sa_cons (se_ix ok_ix (sv 4) se_int (fun _ _ => rfl)) (sa_cons se_int (sa_cons (se_ix ok_ix (sv 2) se_int (fun _ _ => rfl)) (sa_cons (se_op ok_plus (se_ix ok_ix (sv 3) se_int (fun _ _ => rfl)) (se_ix ok_ix (sv 4) se_int (fun _ _ => rfl))) sa_nil))))))) imp_in_claim
noncomputable def b_claim_of : DS := (dSeq (dIfS (dTst (dOp (pEq false) (dOp pIx (dVar 3) (dC (.int 0))) (dC (.str "begin")))) (dRet (dCal S_begin_claim (dCons (dVar 0) (dCons (dVar 3) dNil)))) dNext)
    (dSeq (dIfS (dTst (dOp (pEq false) (dOp pIx (dVar 3) (dC (.int 0))) (dC (.str "start")))) (dRet (dCal S_start_claim (dCons (dVar 0) (dCons (dVar 1) (dCons (dVar 3) dNil))))) dNext)
    (dSeq (dIfS (dTst (dOp (pEq false) (dOp pIx (dVar 3) (dC (.int 0))) (dC (.str "short")))) (dRet (dCal S_short_claim (dCons (dVar 0) (dCons (dVar 2) (dCons (dVar 3) dNil))))) dNext)
    (dSeq (dIfS (dTst (dOp (pEq false) (dOp pIx (dVar 3) (dC (.int 0))) (dC (.str "in")))) (dRet (dCal S_in_claim (dCons (dVar 0) (dCons (dVar 2) (dCons (dVar 3) dNil))))) dNext)
    (dSeq (dIfS (dTst (dOp (pEq false) (dOp pIx (dVar 3) (dC (.int 0))) (dC (.str "along")))) (dRet (dCal S_along_claim (dCons (dVar 2) (dCons (dVar 3) dNil)))) dNext)
    (dRet (dCal S_edge_claim (dCons (dVar 0) (dCons (dVar 2) (dCons (dVar 3) dNil))))))))))
noncomputable def S_claim_of : DSp := fun ds h Q => ∃ (c a : D) (C : Chart) (cs : List Clm) (st : Nat) (r : Row), ds = [c, nD st, a, rD r] ∧ ChD h c C ∧ WF C ∧ lsOf h a = some (cs.map clD) ∧ (∀ c ∈ cs, clOk C c) ∧ Q (oD clD (claimOf C st cs r)) h
theorem imp_claim_of : ∀ ds h Q, S_claim_of ds h Q → runD 4 b_claim_of ds h Q := by
  rintro ds h Q ⟨c, a, C, cs, st, r, rfl, hc, wf, ha, ok, q⟩
  cases r with
  | begin f d => simp only [runD, runX, b_claim_of, List.map_cons, List.map_nil, List.cons_append, List.nil_append, List.length_cons, List.length_nil, List.replicate, Nat.reduceSub, Nat.reduceAdd, Nat.zero_add, Nat.sub_self]; (try dsimp only); refine seq_intro fun N hN => ?_; simp only [rD, VV]; exact ⟨c, C, cs, st, f, d, rfl, hc, q⟩
  | start d => simp only [runD, runX, b_claim_of, List.map_cons, List.map_nil, List.cons_append, List.nil_append, List.length_cons, List.length_nil, List.replicate, Nat.reduceSub, Nat.reduceAdd, Nat.zero_add, Nat.sub_self]; (try dsimp only); refine seq_intro fun N hN => ?_; simp only [rD, VV]; subst hN; (try dsimp only); refine seq_intro fun N hN => ?_; simp only [VV]; exact ⟨c, C, cs, st, d, rfl, hc, wf, q⟩
  | short k n j e => simp only [runD, runX, b_claim_of, List.map_cons, List.map_nil, List.cons_append, List.nil_append, List.length_cons, List.length_nil, List.replicate, Nat.reduceSub, Nat.reduceAdd, Nat.zero_add, Nat.sub_self]; (try dsimp only); refine seq_intro fun N hN => ?_; simp only [rD, VV]; subst hN; (try dsimp only); refine seq_intro fun N hN => ?_; simp only [VV]; subst hN; (try dsimp only); refine seq_intro fun N hN => ?_; simp only [VV]; exact ⟨c, a, C, cs, st, k, n, j, e, rfl, hc, wf, ha, ok, q⟩
  | along k j => simp only [runD, runX, b_claim_of, List.map_cons, List.map_nil, List.cons_append, List.nil_append, List.length_cons, List.length_nil, List.replicate, Nat.reduceSub, Nat.reduceAdd, Nat.zero_add, Nat.sub_self]; (try dsimp only); refine seq_intro fun N hN => ?_; simp only [rD, VV]; subst hN; (try dsimp only); refine seq_intro fun N hN => ?_; simp only [VV]; subst hN; (try dsimp only); refine seq_intro fun N hN => ?_; simp only [VV]; subst hN; (try dsimp only); refine seq_intro fun N hN => ?_; simp only [VV]; subst hN; (try dsimp only); refine seq_intro fun N hN => ?_; simp only [VV]; exact ⟨a, C, cs, st, k, j, rfl, ha, q⟩
  | mv w k n e =>
    cases w with
    | inn => simp only [runD, runX, b_claim_of, List.map_cons, List.map_nil, List.cons_append, List.nil_append, List.length_cons, List.length_nil, List.replicate, Nat.reduceSub, Nat.reduceAdd, Nat.zero_add, Nat.sub_self]; (try dsimp only); refine seq_intro fun N hN => ?_; simp only [rD, Mv.w, VV]; subst hN; (try dsimp only); refine seq_intro fun N hN => ?_; simp only [VV]; subst hN; (try dsimp only); refine seq_intro fun N hN => ?_; simp only [VV]; subst hN; (try dsimp only); refine seq_intro fun N hN => ?_; simp only [VV]; exact ⟨c, a, C, cs, st, k, n, e, rfl, hc, wf, ha, ok, q⟩
    | step => simp only [runD, runX, b_claim_of, List.map_cons, List.map_nil, List.cons_append, List.nil_append, List.length_cons, List.length_nil, List.replicate, Nat.reduceSub, Nat.reduceAdd, Nat.zero_add, Nat.sub_self]; (try dsimp only); refine seq_intro fun N hN => ?_; simp only [rD, Mv.w, VV]; subst hN; (try dsimp only); refine seq_intro fun N hN => ?_; simp only [VV]; subst hN; (try dsimp only); refine seq_intro fun N hN => ?_; simp only [VV]; subst hN; (try dsimp only); refine seq_intro fun N hN => ?_; simp only [VV]; subst hN; (try dsimp only); refine seq_intro fun N hN => ?_; simp only [VV]; subst hN; simp only [VV]; exact ⟨c, a, C, cs, st, .step, k, n, e, rfl, by decide, hc, wf, ha, ok, q⟩
    | over => simp only [runD, runX, b_claim_of, List.map_cons, List.map_nil, List.cons_append, List.nil_append, List.length_cons, List.length_nil, List.replicate, Nat.reduceSub, Nat.reduceAdd, Nat.zero_add, Nat.sub_self]; (try dsimp only); refine seq_intro fun N hN => ?_; simp only [rD, Mv.w, VV]; subst hN; (try dsimp only); refine seq_intro fun N hN => ?_; simp only [VV]; subst hN; (try dsimp only); refine seq_intro fun N hN => ?_; simp only [VV]; subst hN; (try dsimp only); refine seq_intro fun N hN => ?_; simp only [VV]; subst hN; (try dsimp only); refine seq_intro fun N hN => ?_; simp only [VV]; subst hN; simp only [VV]; exact ⟨c, a, C, cs, st, .over, k, n, e, rfl, by decide, hc, wf, ha, ok, q⟩
theorem ok_claim_of {f : Addr} {fd : FuncData} (F : Fun K "claim_of" "claim_of" s_claim_of f fd) (T : Txt P w K mg) (C_begin_claim : Cal P w K mg base 1 "begin_claim" ["chart", "row"] (spD K 2 S_begin_claim)) (C_start_claim : Cal P w K mg base 2 "start_claim" ["chart", "start", "row"] (spD K 3 S_start_claim)) (C_short_claim : Cal P w K mg base 4 "short_claim" ["chart", "ahead", "row"] (spD K 3 S_short_claim)) (C_in_claim : Cal P w K mg base 4 "in_claim" ["chart", "ahead", "row"] (spD K 3 S_in_claim)) (C_along_claim : Cal P w K mg base 2 "along_claim" ["ahead", "row"] (spD K 2 S_along_claim)) (C_edge_claim : Cal P w K mg base 4 "edge_claim" ["chart", "ahead", "row"] (spD K 3 S_edge_claim)) : FnOk P w K mg base CX0 5 f fd ["chart", "start", "ahead", "row"] (spD K 4 S_claim_of) :=
  fn_ok (k := 4) (b := b_claim_of) F sc_claim_of (fun cdv A outer s H E hr => by
    refine ss_cons ?_ ?_
    · refine s_if ?_ ?_ ?_
      · exact st_cmp (ok_eq hr.units) (se_ix ok_ix (sv 3) se_int (fun _ _ => rfl)) se_str (nomark _)
      · refine ss_one ?_
        refine s_ret ?_
        exact se_cal C_begin_claim (hr.mono (by decide)) rfl (sa_cons (sv 0) (sa_cons (sv 3) sa_nil))
      exact ss_nil
    refine ss_cons ?_ ?_
    · refine s_if ?_ ?_ ?_
      · exact st_cmp (ok_eq hr.units) (se_ix ok_ix (sv 3) se_int (fun _ _ => rfl)) se_str (nomark _)
      · refine ss_one ?_
        refine s_ret ?_
        exact se_cal C_start_claim (hr.mono (by decide)) rfl (sa_cons (sv 0) (sa_cons (sv 1) (sa_cons (sv 3) sa_nil)))
      exact ss_nil
    refine ss_cons ?_ ?_
    · refine s_if ?_ ?_ ?_
      · exact st_cmp (ok_eq hr.units) (se_ix ok_ix (sv 3) se_int (fun _ _ => rfl)) se_str (nomark _)
      · refine ss_one ?_
        refine s_ret ?_
        exact se_cal C_short_claim (hr.mono (by decide)) rfl (sa_cons (sv 0) (sa_cons (sv 2) (sa_cons (sv 3) sa_nil)))
      exact ss_nil
    refine ss_cons ?_ ?_
    · refine s_if ?_ ?_ ?_
      · exact st_cmp (ok_eq hr.units) (se_ix ok_ix (sv 3) se_int (fun _ _ => rfl)) se_str (nomark _)
      · refine ss_one ?_
        refine s_ret ?_
        exact se_cal C_in_claim (hr.mono (by decide)) rfl (sa_cons (sv 0) (sa_cons (sv 2) (sa_cons (sv 3) sa_nil)))
      exact ss_nil
    refine ss_cons ?_ ?_
    · refine s_if ?_ ?_ ?_
      · exact st_cmp (ok_eq hr.units) (se_ix ok_ix (sv 3) se_int (fun _ _ => rfl)) se_str (nomark _)
      · refine ss_one ?_
        refine s_ret ?_
        exact se_cal C_along_claim (hr.mono (by decide)) rfl (sa_cons (sv 2) (sa_cons (sv 3) sa_nil))
      exact ss_nil
    refine ss_one ?_
    refine s_ret ?_
    exact se_cal C_edge_claim (hr.mono (by decide)) rfl (sa_cons (sv 0) (sa_cons (sv 2) (sa_cons (sv 3) sa_nil)))) imp_claim_of
noncomputable def b_claims : DS := (dSeq (dAsg (dTk dNil) (dName 3))
    (dSeq (dFor (dISeq (dVar 2)) (dName 4) (dSeq (dAsg (dCal S_claim_of (dCons (dVar 0) (dCons (dVar 1) (dCons (dVar 3) (dCons (dVar 4) dNil))))) (dName 5))
    (dSeq (dIfS (dTst (dOp (pIs false) (dVar 5) (dC .non))) dNever dNext)
    (dDrop (dAppend (dVar 3) (dCons (dVar 5) dNil))))))
    (dRet (dVar 3))))
noncomputable def S_claims : DSp := fun ds h Q => ∃ (c a : D) (C : Chart) (rs : List Row) (st : Nat) (cs : List Clm), ds = [c, nD st, a] ∧ ChD h c C ∧ WF C ∧ lsOf h a = some (rs.map rD) ∧ rs.length ≤ 100000 ∧ allClaims C st rs [] = some cs ∧ Q (.ref h.length) (h ++ [.lst (cs.map clD)])
theorem imp_claims : ∀ ds h Q, S_claims ds h Q → runD 6 b_claims ds h Q := by
  rintro ds h Q ⟨c, a, C, rs, st, cs, rfl, hc, wf, ha, hl, hcs, q⟩
  have p0 : Pre h (h ++ [.lst []]) := Pre.app _ _
  obtain ⟨w, e1, e2, e3⟩ := src_ls (p0.ls ha)
  simp only [e1, ↓b_claims, ↓runD, ↓dSeq, ↓runX, VV]
  refine forL_map (fun p δ h' => ∃ (cl : List Clm) (x1 x2 : Option D), δ = [some c, some (nD st), some a, some (.ref h.length), x1, x2] ∧ h' = h ++ [.lst (cl.map clD)] ∧ (∀ c ∈ cl, clOk C c) ∧ cl.length = p.length ∧ allClaims C st (rs.drop p.length) cl = some cs) ⟨[], none, none, rfl, rfl, (fun c hc => nomatch hc), rfl, hcs⟩ ?_ ?_ ?_
  · rintro p δ h' ⟨cl, x1, x2, rfl, rfl, _⟩ z hz
    obtain ⟨i, e4, e5⟩ := e3 z hz
    subst e4 e5
    have hi : i < h.length := by
      rcases Nat.lt_or_ge i h.length with y | y
      · exact y
      · have ha' : lsOf h (.ref i) = some (rs.map rD) := ha
        have : (match h[i]? with | some (.lst xs) => some xs | _ => none) = some (rs.map rD) := ha'
        rw [List.getElem?_eq_none y] at this; cases this
    have ok := e2 _ hz
    rw [List.getElem?_append_left hi] at ok ⊢
    exact ok
  · rintro p r rest δ h' N e ⟨cl, x1, x2, rfl, rfl, ok, hlen, hall⟩ hN
    have p1 : Pre h (h ++ [.lst (cl.map clD)]) := Pre.app _ _
    have hd : rs.drop p.length = r :: rest := by rw [e]; simp
    rw [hd] at hall
    have hall : ((claimOf C st cl r).bind fun c => allClaims C st rest (cl ++ [c])) = some cs := hall
    simp only [↓b_claims, ↓runD, ↓dSeq, ↓runX, VV]
    refine ⟨c, .ref h.length, C, cl, st, r, rfl, hc.mono p1, wf, ls_new _ _, ok, ?_⟩
    cases hr : claimOf C st cl r with
    | none => rw [hr] at hall; cases hall
    | some k =>
      rw [hr] at hall
      simp only [oD, clD_non, get_new, set_new, ↓b_claims, ↓runD, ↓dSeq, ↓runX, VV]
      have hb : cl.length < rs.length := by rw [hlen, e]; simp
      refine ⟨by rw [List.length_map]; omega, hN _ _ ⟨cl ++ [k], _, _, rfl, by rw [List.map_append]; rfl, fun c hc' => ?_, by simp [hlen], ?_⟩⟩
      · rcases List.mem_append.mp hc' with z | z
        · exact ok c z
        · rw [List.mem_singleton.mp z]; exact claim_ok wf ok hr
      · have hd2 : rs.drop (p ++ [r]).length = rest := by rw [e]; simp
        rw [hd2]; exact hall
  · rintro δ h' ⟨cl, x1, x2, rfl, rfl, ok, hlen, hall⟩
    rw [List.drop_length] at hall
    cases hall
    simp only [↓b_claims, ↓runD, ↓dSeq, ↓runX, VV]
    exact q
theorem ok_claims {f : Addr} {fd : FuncData} (F : Fun K "claims" "claims" s_claims f fd) (T : Txt P w K mg) (C_claim_of : Cal P w K mg base 5 "claim_of" ["chart", "start", "ahead", "row"] (spD K 4 S_claim_of)) : FnOk P w K mg base CX0 6 f fd ["chart", "start", "rows"] (spD K 3 S_claims) :=
  fn_ok (k := 5) (b := b_claims) F sc_claims (fun cdv A outer s H E hr => by
    refine ss_cons ?_ ?_
    · refine s_set (i := 3) ?_ ?_ ?_ ?_
      · exact sc_claims.nd
      · exact rfl
      · exact Or.inl rfl
      exact se_t (sn_lst sa_nil)
    refine ss_cons ?_ ?_
    · refine s_for ?_ ?_ ?_ ?_ ?_
      · exact PassesOwn.never
      · exact rfl
      · exact si_seq (sv 2)
      · exact sg_name (i := 4) sc_claims.nd rfl (Or.inl rfl)
      refine ss_cons ?_ ?_
      · refine s_set (i := 5) ?_ ?_ ?_ ?_
        · exact sc_claims.nd
        · exact rfl
        · exact Or.inl rfl
        exact se_cal C_claim_of (hr.mono (by decide)) rfl (sa_cons (sv 0) (sa_cons (sv 1) (sa_cons (sv 3) (sa_cons (sv 4) sa_nil))))
      refine ss_cons ?_ ?_
      · refine s_if ?_ ?_ ?_
        · exact st_cmp ok_is (sv 5) se_non (nomark _)
        · refine ss_one ?_
          exact s_never
        exact ss_nil
      refine ss_one ?_
      exact s_expr (se_append (sv 3) (sa_cons (sv 5) sa_nil))
    refine ss_one ?_
    refine s_ret ?_
    exact sv 3) imp_claims
noncomputable def b_unrolled : DS := (dSeq (dIfS (dNot (dTst (dChain pLe pLtI (dC (.int 0)) (dVar 3) (dCB pLen (dCons (dVar 2) dNil))))) dNever dNext)
    (dSeq (dAsg (dSl (dVar 2) dNoPart (dPart (dOp pPlus (dVar 3) (dC (.int 1))))) (dName 5))
    (dSeq (dAsg (dCal S_claims (dCons (dVar 0) (dCons (dOp pSub (dOp pShl (dC (.int 1)) (dOp pIx (dOp pIx (dVar 0) (dC (.int 0))) (dC (.int 1)))) (dC (.int 1))) (dCons (dVar 5) dNil)))) (dName 6))
    (dSeq (dIfS (dTst (dOp (pEq true) (dOp pIx (dOp pIx (dVar 6) (dVar 3)) (dC (.int 0))) (dC (.str "at")))) dNever dNext)
    (dSeq (dAsg (dV (dComp [none, some 6] (dISeq (dVar 5)) (dName 0) dNoIf (dCal S_parts_of (dCons (dVar 1) (dCons (dVar 0) dNil))))) (dName 7))
    (dSeq (dIfS (dTst (dOp pGt (dCal S_counted (dCons (dVar 7) (dCons (dVar 4) dNil))) (dVar 4))) (dRaise0 "TooLong" [3, 4]) dNext)
    (dRet (dTup (dCons (dCal S_first_fact (dCons (dVar 5) (dCons (dVar 3) dNil))) (dCons (dCal S_moves_of (dCons (dVar 7) (dCons (dVar 3) dNil))) dNil))))))))))
noncomputable def UA (ds : List D) (h : Hh) (most : Nat) (w : List GM) (dd : Int) : Prop := ∃ (c s : D) (C : Chart) (F : Fn) (d k : Nat) (rs rest : List Row) (cs : List Clm) (ws : List (List GM)) (vs : List Nat) (v f p x c' : Nat), ds = [c, s, .lst ((rs ++ rest).map rD), nD k, nD most] ∧ ChD h c C ∧ WF C ∧ C[0]? = some F ∧ d < F.facts ∧ rs.length = k + 1 ∧ rs.length ≤ 90000 ∧ most ≤ 90000 ∧ PP C d rs cs ws vs ∧ cs[k]? = some (.at f p x c') ∧ ws[k]? = some w ∧ vs[k]? = some v ∧ First rs k dd ∧ (w.length ≤ most → v ≤ 1000000)
noncomputable def S_unrolled : DSpX := fun ds h Q X' => ∃ (most : Nat) (w : List GM) (dd : Int), UA ds h most w dd ∧ (w.length ≤ most → Q (.tup [.int dd, .lst (w.map gmD)]) h) ∧ (most < w.length → X' "TooLong" [] h)
theorem log_small {i : Nat} (h : i ≤ 90000) : (i : Int).natAbs.log2 < 1920 := by
  rw [Int.natAbs_natCast]
  rcases Nat.eq_zero_or_pos i with z | z
  · subst z; decide
  · exact Nat.lt_of_lt_of_le ((Nat.log2_lt (by first | decide | omega)).mpr (show i < 2 ^ 17 by first | decide | omega)) (by decide)
theorem cut_take (xs : List D) (k : Nat) (hk : k < xs.length) : cutD xs none (some ((k : Int) + 1)) = xs.take (k + 1) := by
  unfold cutD
  rw [show HT.sIx xs.length 0 none = 0 from rfl, show HT.sIx xs.length xs.length (some ((k : Int) + 1)) = k + 1 by
    have := HT.sIx_nat xs.length xs.length (k + 1)
    rw [Int.natCast_add] at this
    rw [show (k : Int) + 1 = (k : Int) + ((1 : Nat) : Int) from rfl, this]; omega]
  rfl
theorem imp_unrolled : ∀ ds h Q X', S_unrolled ds h Q X' → runX 8 b_unrolled ds h (Dr h Q) (DrX h X') := by
  rintro ds h Q X' ⟨most, w, dd, ⟨c, s, C, F, d, k, rs, rest, cs, ws, vs, v, f, p, x, c', rfl, hc, wf, hF, hd, hl, hb, hm, pp, ck, hw, hv, ff, yv⟩, y1, y2⟩
  have F6 := (wf.fn 0 F hF).2.2.2.1
  obtain ⟨xe, e1, e2⟩ := hc.fn hF
  have e1 : ixD h c (.int 0) = some (.tup [nD F.places, nD F.facts, xe]) := e1
  have k0 : (0 : Int) ≤ (k : Int) := by first | decide | omega
  have k1 : (k : Int) < (((rs ++ rest).map rD).length : Int) := by rw [List.length_map, List.length_append]; omega
  have ct : cutD ((rs ++ rest).map rD) none (some ((k : Int) + 1)) = rs.map rD := by
    rw [cut_take _ _ (by first | decide | omega), ← List.map_take, ← hl, List.take_left]
  have tb : (2 ^ F.facts - 1).testBit d = true := by rw [Nat.testBit_two_pow_sub_one]; exact decide_eq_true hd
  have sub : ((2 ^ F.facts : Nat) : Int) - 1 = ((2 ^ F.facts - 1 : Nat) : Int) := by have := Nat.two_pow_pos F.facts; omega
  have mm : (rs.map fun r => D.lst ((partsOf cs r).map ptD)) = (rs.map (partsOf cs)).map fun p => .lst (p.map ptD) := by rw [List.map_map]; rfl
  simp only [runD, runX, b_unrolled, List.map_cons, List.map_nil, List.cons_append, List.nil_append, List.length_cons, List.length_nil, List.replicate, Nat.reduceSub, Nat.reduceAdd, Nat.zero_add, Nat.sub_self]
  (try dsimp only); refine seq_intro fun N hN => ?_
  simp only [k0, k1, VV]
  subst hN
  (try dsimp only); refine seq_intro fun N hN => ?_
  simp only [ct, VV]
  subst hN
  (try dsimp only); refine seq_intro fun N hN => ?_
  simp only [e1, VV]
  refine ⟨⟨by first | decide | omega, by first | decide | omega, by decide⟩, ?_⟩
  rw [shl1, sub]
  refine ⟨c, _, C, rs, 2 ^ F.facts - 1, cs, rfl, hc, wf, rfl, by first | decide | omega, pp.cl _ tb, ?_⟩
  subst hN
  (try dsimp only); refine seq_intro fun N hN => ?_
  have ax : atI (cs.map clD) (k : Int) = some (clD (.at f p x c')) := by rw [atN, List.getElem?_map, ck]; rfl
  simp only [ix_ls (ls_new h _), ax, clD, VV]
  subst hN
  (try dsimp only); refine seq_intro fun N hN => ?_
  simp only [VV]
  refine ⟨by rw [List.length_map]; omega, ?_⟩
  refine comp1n (fun r => .lst ((partsOf cs r).map ptD)) Src.ok_nil none (fun r hr K kk => ?_) ?_
  · simp only [VV]
    exact ⟨_, cs, r, rfl, ls_new h _, pp.fit r hr, kk⟩
  rw [mm]
  subst hN
  (try dsimp only); refine seq_intro fun N hN => ?_
  simp only [VV]
  have lps : (rs.map (partsOf cs)).length = k + 1 := by rw [List.length_map]; exact hl
  refine ⟨_, ws, vs, most, w, rfl, pp.fl, by first | decide | omega, by rw [lps]; exact hw, ?_⟩
  by_cases z : w.length ≤ most
  · have z2 : ¬ ((most : Int) < ((min w.length (most + 1) : Nat) : Int)) := by first | decide | omega
    simp only [z2, VV]
    subst hN
    have b1 := yv z
    have b2 := y1 z
    simp only [VV]
    refine ⟨_, rs, k, dd, rfl, rfl, ff, ?_⟩
    refine ⟨_, ws, vs, k, w, v, rfl, pp.fl, hw, hv, by first | decide | omega, by first | decide | omega, ?_⟩
    exact Dr.drop (by show (true && (nrDs (w.map gmD) && true)) = true; rw [nrDs_map nrD_gm]; rfl) b2
  · have z2 : (most : Int) < ((min w.length (most + 1) : Nat) : Int) := by first | decide | omega
    simp only [z2, VV]
    refine ⟨fun j hj => ?_, Dr.drop rfl (y2 (by first | decide | omega))⟩
    rcases List.mem_cons.mp hj with rfl | hj
    · exact ⟨(k : Int), rfl, log_small (by first | decide | omega)⟩
    · rw [List.mem_singleton.mp hj]
      exact ⟨(most : Int), rfl, log_small hm⟩
theorem ok_unrolled {f : Addr} {fd : FuncData} (F : Fun K "unrolled" "unrolled" s_unrolled f fd) (T : Txt P w K mg) (R_TooLong : RaiseX0 K mg "TooLong") (C_claims : Cal P w K mg base 6 "claims" ["chart", "start", "rows"] (spD K 3 S_claims)) (C_parts_of : Cal P w K mg base 2 "parts_of" ["told", "row"] (spD K 2 S_parts_of)) (C_counted : Cal P w K mg base 1 "counted" ["parts", "most"] (spD K 2 S_counted)) (C_moves_of : Cal P w K mg base 1 "moves_of" ["parts", "k"] (spD K 2 S_moves_of)) (C_first_fact : Cal P w K mg base 1 "first_fact" ["rows", "k"] (spD K 2 S_first_fact)) : FnOk P w K mg base (CXE P w) 7 f fd ["chart", "start", "rows", "k", "most"] (spX K 5 S_unrolled) :=
  fn_okX (k := 6) (b := b_unrolled) F sc_unrolled (fun cdv A outer s H E hr => by
    refine ss_cons ?_ ?_
    · refine s_if ?_ ?_ ?_
      · exact st_not (st_chain ok_le ok_ltI se_int (sv 3) (se_callB ok_len rfl T.b_len PySem.boot_len (sa_cons (sv 2) sa_nil)))
      · refine ss_one ?_
        exact s_never
      exact ss_nil
    refine ss_cons ?_ ?_
    · refine s_set (i := 5) ?_ ?_ ?_ ?_
      · exact sc_unrolled.nd
      · exact rfl
      · exact Or.inl rfl
      exact se_sl (sv 2) so_none (so_some (se_op ok_plus (sv 3) se_int))
    refine ss_cons ?_ ?_
    · refine s_set (i := 6) ?_ ?_ ?_ ?_
      · exact sc_unrolled.nd
      · exact rfl
      · exact Or.inr rfl
      exact se_cal C_claims (hr.mono (by decide)) rfl (sa_cons (sv 0) (sa_cons (se_op ok_sub (se_op ok_shl se_int (se_ix ok_ix (se_ix ok_ix (sv 0) se_int (fun _ _ => rfl)) se_int (fun _ _ => rfl))) se_int) (sa_cons (sv 5) sa_nil)))
    refine ss_cons ?_ ?_
    · refine s_if ?_ ?_ ?_
      · exact st_cmp (ok_ne hr.units) (se_ix ok_ix (se_ix ok_ix (sv 6) (sv 3) (fun _ _ => rfl)) se_int (fun _ _ => rfl)) se_str (nomark _)
      · refine ss_one ?_
        exact s_never
      exact ss_nil
    refine ss_cons ?_ ?_
    · exact s_setcV (i := 7) (hN := sc_unrolled.nd) (hix := rfl) (hx := (Or.inl rfl)) rfl (N' := ["row", "told"]) (js := [none, some 6]) ⟨rfl, by decide +kernel, rfl, rfl, rfl⟩ (si_seq (sv 5)) (fun s0 H0 fp => ⟨(sg_name (i := 0) (show (["row", "told"] : List Str).Nodup by decide +kernel) rfl (Or.inl rfl)), sf_nil, (se_cal C_parts_of (hr.mono (by decide)) rfl (sa_cons (sv 1) (sa_cons (sv 0) sa_nil)))⟩)
    refine ss_cons ?_ ?_
    · refine s_if ?_ ?_ ?_
      · exact st_cmp ok_gt (se_cal C_counted (hr.mono (by decide)) rfl (sa_cons (sv 7) (sa_cons (sv 4) sa_nil))) (sv 4) (nomark _)
      · refine ss_one ?_
        exact s_raise0 (js := [3, 4]) R_TooLong hr rfl (pj_str pe_str (pj_int (pv 3) (pj_str pe_str (pj_int (pv 4) (pj_str pe_str pj_nil))))) (fun _ _ z => ⟨z 3 (by decide), ⟨z 4 (by decide), trivial⟩⟩)
      exact ss_nil
    refine ss_one ?_
    refine s_ret ?_
    exact se_tup (sa_cons (se_cal C_first_fact (hr.mono (by decide)) rfl (sa_cons (sv 5) (sa_cons (sv 3) sa_nil))) (sa_cons (se_cal C_moves_of (hr.mono (by decide)) rfl (sa_cons (sv 7) (sa_cons (sv 3) sa_nil))) sa_nil))) imp_unrolled
noncomputable def b__law_late : DS := (dSeq (dAsg (dC (.bl false)) (dName 5))
    (dSeq (dTryN S_unrolled (dCons (dVar 0) (dCons (dVar 1) (dCons (dVar 2) (dCons (dVar 3) (dCons (dVar 4) dNil))))) "TooLong" (dAsg (dC (.bl true)) (dName 5)))
    (dRet (dVar 5))))
noncomputable def S__law_late : DSp := fun ds h Q => ∃ (a1 a2 a3 a4 a5 : D) (b : Bool), ds = [a1, a2, a3, a4, a5] ∧ S_unrolled [a1, a2, a3, a4, a5] h (fun _ h' => b = false ∧ h' = h) (fun cn _ h' => cn = "TooLong" ∧ b = true ∧ h' = h) ∧ Q (.bl b) h
theorem un_mono {ds : List D} {h : Hh} {Q Q2 : DK} {X X2 : DX} (u : S_unrolled ds h Q X) (a : ∀ d, Q d h → Q2 d h) (b : X "TooLong" [] h → X2 "TooLong" [] h) : S_unrolled ds h Q2 X2 := by
  obtain ⟨most, w, dd, u, y1, y2⟩ := u
  exact ⟨most, w, dd, u, fun z => a _ (y1 z), fun z => b (y2 z)⟩
theorem imp__law_late : ∀ ds h Q, S__law_late ds h Q → runD 6 b__law_late ds h Q := by
  rintro ds h Q ⟨a1, a2, a3, a4, a5, b, rfl, u, q⟩
  simp only [runD, runX, b__law_late, List.map_cons, List.map_nil, List.cons_append, List.nil_append, List.length_cons, List.length_nil, List.replicate, Nat.reduceSub, Nat.reduceAdd, Nat.zero_add, Nat.sub_self]
  (try dsimp only); refine seq_intro fun N hN => ?_
  simp only [VV]
  subst hN
  (try dsimp only); refine seq_intro fun N hN => ?_
  simp only [VV]
  refine un_mono u (fun _ y => ?_) (fun y => ⟨rfl, ?_⟩)
  · obtain ⟨rfl, _⟩ := y
    subst hN
    simp only [VV]
    exact q
  · obtain ⟨_, rfl, _⟩ := y
    subst hN
    simp only [VV]
    exact q
theorem ok__law_late {f : Addr} {fd : FuncData} (F : Fun K "_law_late" "_law_late" s__law_late f fd) (T : Txt P w K mg) (C_unrolled : CalX P w K mg base 7 "unrolled" ["chart", "start", "rows", "k", "most"] (spX K 5 S_unrolled)) : FnOk P w K mg base CX0 8 f fd ["_law_chart", "_law_start", "_law_rows", "_law_k", "_law_most"] (spD K 5 S__law_late) :=
  fn_ok (k := 7) (b := b__law_late) F sc__law_late (fun cdv A outer s H E hr => by
    refine ss_cons ?_ ?_
    · refine s_set (i := 5) ?_ ?_ ?_ ?_
      · exact sc__law_late.nd
      · exact rfl
      · exact Or.inl rfl
      exact se_bl
    refine ss_cons ?_ ?_
    · exact s_tryN ⟨rfl, rfl⟩ (fun _ _ z => z) C_unrolled (hr.mono (by decide)) rfl (sa_cons (sv 0) (sa_cons (sv 1) (sa_cons (sv 2) (sa_cons (sv 3) (sa_cons (sv 4) sa_nil))))) T.k_TooLong rfl (fun a => (ss_one (s_set (i := 5) sc__law_late.nd rfl (Or.inl rfl) se_bl)))
    refine ss_one ?_
    refine s_ret ?_
    exact sv 5) imp__law_late
noncomputable def b__law_long_row : DS := (dSeq (dAsg (dOp pPlus (dC (.int 1)) (dOp pMod (dCal S__law_cell (dCons (dVar 0) (dCons (dC (.int 1)) dNil))) (dC (.int 6)))) (dName 1))
    (dSeq (dAsg (dOp pMod (dCal S__law_cell (dCons (dVar 0) (dCons (dC (.int 2)) dNil))) (dVar 1)) (dName 2))
    (dSeq (dAsg (dCal S__law_number (dCons (dCal S__law_cell (dCons (dVar 0) (dCons (dC (.int 5)) dNil))) dNil)) (dName 3))
    (dSeq (dAsg (dOp pPlus (dC (.int 1100)) (dOp pMod (dCal S__law_cell (dCons (dVar 0) (dCons (dC (.int 4)) dNil))) (dC (.int 400)))) (dName 4))
    (dSeq (dAsg (dOp pMod (dCal S__law_cell (dCons (dVar 0) (dCons (dC (.int 6)) dNil))) (dC (.int 3))) (dName 5))
    (dSeq (dAsg (dV (dComp [none, some 3, some 5, some 1] (dIRange (dCons (dC (.int 3)) dNil)) (dName 0) dNoIf (dTup (dCons (dC (.str "step")) (dCons (dC (.int 0)) (dCons (dC (.int 0)) (dCons (dCB pMax (dCons (dC (.int 1)) (dCons (dOp pSub (dVar 1) (dCB pInt (dCons (dOp (pEq true) (dVar 0) (dVar 2)) dNil))) dNil))) (dCons (dCB pTuple (dCons (dV (dComp [none] (dIRange (dCons (dVar 3) dNil)) (dName 0) dNoIf (dOp pShl (dC (.int 1)) (dVar 0)))) dNil)) dNil)))))))) (dName 6))
    (dSeq (dAsg (dV (dCons (dTup (dCons (dC (.int 1)) (dCons (dVar 1) (dCons (dVar 6) dNil)))) dNil)) (dName 7))
    (dSeq (dAsg (dOp pPlus (dV (dCons (dTup (dCons (dC (.str "begin")) (dCons (dC (.int 0)) (dCons (dVar 2) dNil)))) dNil)) (dV (dComp [none, some 5, some 2] (dIRange (dCons (dVar 4) dNil)) (dName 0) dNoIf (dTup (dCons (dC (.str "step")) (dCons (dVar 0) (dCons (dVar 1) (dCons (dVar 2) dNil)))))))) (dName 8))
    (dSeq (dAsg (dOp pMod (dCal S__law_cell (dCons (dVar 0) (dCons (dC (.int 7)) dNil))) (dC (.int 401))) (dName 9))
    (dSeq (dAsg (dOp pPlus (dVar 8) (dV (dCons (dTup (dCons (dC (.str "start")) (dCons (dVar 2) dNil))) (dCons (dTup (dCons (dC (.str "along")) (dCons (dOp pPlus (dVar 4) (dC (.int 1))) (dCons (dVar 4) dNil)))) (dCons (dTup (dCons (dC (.str "along")) (dCons (dOp pPlus (dVar 4) (dC (.int 1))) (dCons (dVar 9) dNil)))) dNil))))) (dName 8))
    (dSeq (dAsg (dCal S_claims (dCons (dVar 7) (dCons (dOp pShl (dC (.int 1)) (dVar 2)) (dCons (dVar 8) dNil)))) (dName 10))
    (dSeq (dIfS (dOr (dTst (dOp (pEq true) (dOp pIx (dVar 10) (dVar 4)) (dTup (dCons (dC (.str "within")) (dCons (dC (.int 0)) (dCons (dVar 2) (dCons (dC (.int 0)) (dCons (dVar 2) (dCons (dOp pMulI (dVar 4) (dVar 3)) dNil))))))))) (dTst (dOp (pEq true) (dOp pIx (dVar 10) (dUn pNeg (dC (.int 1)))) (dTup (dCons (dC (.str "at")) (dCons (dC (.int 0)) (dCons (dC (.int 0)) (dCons (dVar 2) (dCons (dOp pMulI (dVar 9) (dVar 3)) dNil))))))))) (dRet (dC (.bl false))) dNext)
    (dSeq (dIfS (dOr (dNot (dTr (dCal S__law_late (dCons (dVar 7) (dCons (dOp pShl (dC (.int 1)) (dVar 2)) (dCons (dVar 8) (dCons (dOp pPlus (dVar 4) (dC (.int 2))) (dCons (dC (.int 400)) dNil)))))))) (dTst (dOp (pEq true) (dOp pIx (dOp pIx (dVar 10) (dOp pPlus (dVar 4) (dC (.int 2)))) (dC (.int 4))) (dOp pMulI (dVar 4) (dVar 3))))) (dRet (dC (.bl false))) dNext)
    (dRet (dOp (pEq false) (dCalF (fun ds h Q => S_unrolled ds h Q fun _ _ _ => False) [400] (dCons (dVar 7) (dCons (dOp pShl (dC (.int 1)) (dVar 2)) (dCons (dVar 8) (dCons (dOp pPlus (dVar 4) (dC (.int 3))) dNil))))) (dTup (dCons (dVar 2) (dCons (dV (dRepN (dV (dCons (dTup (dCons (dC (.str "step")) (dCons (dVar 5) (dCons (dVar 2) dNil)))) dNil)) (dVar 9))) dNil))))))))))))))))))
theorem modN {r : Int} (k : Nat) (hk : 1 ≤ k) : ∃ x : Nat, r % (k : Int) = (x : Int) ∧ x < k := by
  have h0 := Int.emod_nonneg r (show (k : Int) ≠ 0 by first | decide | omega)
  have h1 := Int.emod_lt_of_pos r (show (0 : Int) < (k : Int) by first | decide | omega)
  exact ⟨(r % (k : Int)).toNat, by first | decide | omega, by first | decide | omega⟩
theorem rep_flat {α : Type} (n : Nat) (x : α) : (List.replicate n [x]).flatten = List.replicate n x := by
  induction n with
  | zero => rfl
  | succ n ih => rw [List.replicate_succ, List.flatten_cons, ih]; rfl
noncomputable def rgE (m c k0 k : Nat) : Edge := ⟨0, 0, if k = k0 then c else max 1 (c - 1), .step (stayT m)⟩
theorem pd_way (h : Hh) (d : Int) (w : List GM) : Pd h (.tup [.int d, .lst (w.map gmD)]) (.tuple [.int d, .list (w.map gmP)]) 3 := .tup (.cons (.int _) (.cons (.lst (Pds.map (pd_gm h))) .nil))
noncomputable def S__law_long_row : DSp := fun ds h Q => ∃ (ns : List Int), ds = [.scr (ns.map .int)] ∧ ns.length ≤ 63 ∧ (∀ x ∈ ns, Builtin.Int.intBits x ≤ 1048576) ∧ Q (.bl true) h
theorem imp__law_long_row : ∀ ds h Q, S__law_long_row ds h Q → runD 11 b__law_long_row ds h (Dr h Q) := by
  rintro ds h Q ⟨ns, rfl, hns, hbs, q⟩
  have cell : ∀ (k : Nat) (h' : Hh) (K : DK), k ≤ 1000 → (∀ r : Int, K (.int r) h') → S__law_cell [.scr (ns.map .int), nD k] h' K := fun k h' K hk kk => ⟨ns, k, rfl, hns, hbs, hk, fun r _ => kk r⟩
  simp only [runD, runX, b__law_long_row, List.map_cons, List.map_nil, List.cons_append, List.nil_append, List.length_cons, List.length_nil, List.replicate, Nat.reduceSub, Nat.reduceAdd, Nat.zero_add, Nat.sub_self]
  (try dsimp only); refine seq_intro fun N hN => ?_
  simp only [VV]
  refine cell 1 _ _ (by decide) fun r1 => ?_
  obtain ⟨m0, hm0, lm0⟩ := modN (r := r1) 6 (by decide)
  have hm0 : r1 % 6 = (m0 : Int) := hm0
  obtain ⟨m, hm⟩ : ∃ m, m = 1 + m0 := ⟨_, rfl⟩
  have em : (1 : Int) + (m0 : Int) = (m : Int) := by first | decide | omega
  simp only [hm0, em, VV]
  refine ⟨by decide, ?_⟩
  subst hN
  (try dsimp only); refine seq_intro fun N hN => ?_
  simp only [VV]
  refine cell 2 _ _ (by decide) fun r2 => ?_
  obtain ⟨d, hd, ld⟩ := modN (r := r2) m (by first | decide | omega)
  simp only [hd, VV]
  refine ⟨by first | decide | omega, ?_⟩
  subst hN
  (try dsimp only); refine seq_intro fun N hN => ?_
  simp only [VV]
  refine cell 5 _ _ (by decide) fun r3 => ⟨r3, rfl, fun c c1 c2 => ?_⟩
  subst hN
  (try dsimp only); refine seq_intro fun N hN => ?_
  simp only [VV]
  refine cell 4 _ _ (by decide) fun r4 => ?_
  obtain ⟨M0, hM0, lM0⟩ := modN (r := r4) 400 (by decide)
  have hM0 : r4 % 400 = (M0 : Int) := hM0
  obtain ⟨M, hM⟩ : ∃ M, M = 1100 + M0 := ⟨_, rfl⟩
  have eM : (1100 : Int) + (M0 : Int) = (M : Int) := by first | decide | omega
  simp only [hM0, eM, VV]
  refine ⟨by decide, ?_⟩
  subst hN
  (try dsimp only); refine seq_intro fun N hN => ?_
  simp only [VV]
  refine cell 6 _ _ (by decide) fun r6 => ?_
  obtain ⟨k0, hk0, lk0⟩ := modN (r := r6) 3 (by decide)
  have hk0 : r6 % 3 = (k0 : Int) := hk0
  simp only [hk0, VV]
  refine ⟨by decide, ?_⟩
  subst hN
  (try dsimp only); refine seq_intro fun N hN => ?_
  simp only [VV]
  refine ⟨⟨by decide, by decide⟩, by rw [rangeD_length]; decide, ?_⟩
  rw [rangeD_map, show (3 : Int).toNat = 3 from rfl]
  have tY : (List.range m).map (fun x => nD (2 ^ x)) = (stayT m).map nD := by unfold stayT; rw [List.map_map]; rfl
  refine comp1n (fun k => eD (rgE m c k0 k)) Src.ok_nil none (fun k hk K kk => ?_) ?_
  · have cst : (if (c : Int) - (if (!(0 + (k : Int) == (k0 : Int))) = true then (1 : Int) else 0) > 1 then (c : Int) - (if (!(0 + (k : Int) == (k0 : Int))) = true then (1 : Int) else 0) else 1) = (((if k = k0 then c else max 1 (c - 1)) : Nat) : Int) := by
      by_cases z : k = k0
      · subst z; simp; omega
      · have z2 : (0 + (k : Int) == (k0 : Int)) = false := by rw [beq_eq_false_iff_ne]; omega
        rw [z2, if_neg z]; simp; first | omega | (split <;> omega)
    simp only [cst, VV]
    refine ⟨⟨by first | decide | omega, by first | decide | omega⟩, by rw [rangeD_length]; omega, ?_⟩
    rw [rangeD_map, Int.toNat_natCast]
    refine comp1n (fun x => nD (2 ^ x)) Src.ok_nil none (fun x hx K2 kk2 => ?_) ?_
    · simp only [VV]
      have lt := List.mem_range.mp hx
      rw [Int.zero_add]
      refine ⟨⟨by first | decide | omega, by first | decide | omega, by decide⟩, ?_⟩
      rw [shl1]
      exact kk2
    · rw [tY]
      exact kk
  obtain ⟨Es, hEs⟩ : ∃ Es, Es = (List.range 3).map (rgE m c k0) := ⟨_, rfl⟩
  have mE : (List.range 3).map (fun k => eD (rgE m c k0 k)) = Es.map eD := by rw [hEs, List.map_map]; rfl
  have hE : Es[k0]? = some ⟨0, 0, c, .step (stayT m)⟩ := by
    rw [hEs, rng_get _ lk0]; unfold rgE; rw [if_pos rfl]
  have wf : WF (ch 1 m Es) := ring_wf (by first | decide | omega) (by first | decide | omega) (by rw [hEs]; simp) fun e he => by
    rw [hEs] at he
    obtain ⟨k, _, rfl⟩ := List.mem_map.mp he
    refine ⟨_, rfl, ?_, ?_⟩ <;> split <;> omega
  rw [mE]
  subst hN
  (try dsimp only); refine seq_intro fun N hN => ?_
  simp only [VV]
  subst hN
  (try dsimp only); refine seq_intro fun N hN => ?_
  simp only [VV]
  refine ⟨⟨by first | decide | omega, by first | decide | omega⟩, by rw [rangeD_length]; omega, ?_⟩
  rw [rangeD_map, Int.toNat_natCast]
  refine comp1n (fun k : Nat => rD (.mv .step k k0 d)) Src.ok_nil none (fun k hk K kk => ?_) ?_
  · simp only [VV]
    rw [Int.zero_add]
    exact kk
  have mR : [D.tup [.str "begin", .int 0, nD d]] ++ (List.range M).map (fun k : Nat => rD (.mv .step k k0 d)) = (rgR d k0 M).map rD := by
    unfold rgR; rw [List.map_cons, List.map_map]; rfl
  refine ⟨by rw [List.length_map, List.length_range]; omega, ?_⟩
  rw [show (D.tup [.str "begin", .int 0, nD d]) :: (List.range M).map (fun k : Nat => rD (.mv .step k k0 d)) = (rgR d k0 M).map rD from mR]
  have lR : (rgR d k0 M).length = M + 1 := by unfold rgR; simp
  subst hN
  (try dsimp only); refine seq_intro fun N hN => ?_
  simp only [VV]
  refine cell 7 _ _ (by decide) fun r7 => ?_
  obtain ⟨nr, hnr, lnr⟩ := modN (r := r7) 401 (by decide)
  have hnr : r7 % 401 = (nr : Int) := hnr
  simp only [hnr, VV]
  refine ⟨by decide, ?_⟩
  subst hN
  (try dsimp only); refine seq_intro fun N hN => ?_
  simp only [VV]
  refine ⟨by rw [List.length_map, lR]; omega, ?_⟩
  have mR3 : (rgR d k0 M).map rD ++ [.tup [.str "start", nD d], .tup [.str "along", .int ((M : Int) + 1), nD M], .tup [.str "along", .int ((M : Int) + 1), nD nr]] = (rgR d k0 M ++ [Row.start d, Row.along (M + 1 : Nat) M, Row.along (M + 1 : Nat) nr]).map rD := by
    rw [List.map_append]; rfl
  rw [mR3]
  obtain ⟨pp2, pp3⟩ := ring_tail (c := c) (k0 := k0) ld hE (M := M) (r := nr) (by first | decide | omega)
  subst hN
  (try dsimp only); refine seq_intro fun N hN => ?_
  simp only [VV]
  refine ⟨⟨by first | decide | omega, by first | decide | omega, by decide⟩, ?_⟩
  rw [shl1]
  have lcs : (rgC d c M).length = M + 1 := by unfold rgC; simp
  have lws : (rgW d k0 M).length = M + 1 := by unfold rgW; simp
  have lvs : (rgV M).length = M + 1 := by unfold rgV; simp
  have fn0 : (ch 1 m Es)[0]? = some ⟨1, m, Es⟩ := rfl
  refine ⟨_, _, ch 1 m Es, rgR d k0 M ++ [Row.start d, Row.along (M + 1 : Nat) M, Row.along (M + 1 : Nat) nr], 2 ^ d, rgC d c M ++ [Clm.at 0 0 d 0, Clm.at 0 0 d (M * c), Clm.at 0 0 d (nr * c)], rfl, ChD.of _ (ch 1 m Es), wf, rfl, by rw [List.length_append, lR]; simp; omega, pp3.cl _ (by simp), ?_⟩
  subst hN
  (try dsimp only); refine seq_intro fun N hN => ?_
  have eMc : (M : Int) * (c : Int) = ((M * c : Nat) : Int) := (Int.natCast_mul M c).symm
  have eNc : (nr : Int) * (c : Int) = ((nr * c : Nat) : Int) := (Int.natCast_mul nr c).symm
  have aM : atI ((rgC d c M ++ [Clm.at 0 0 d 0, Clm.at 0 0 d (M * c), Clm.at 0 0 d (nr * c)]).map clD) (M : Int) = some (clD (.within 0 d 0 d (M * c))) := by
    rw [atN, List.getElem?_map, List.getElem?_append_left (by first | decide | omega), show (rgC d c M)[M]? = _ from rng_get _ (Nat.lt_succ_self M)]; rfl
  have aL : atI ((rgC d c M ++ [Clm.at 0 0 d 0, Clm.at 0 0 d (M * c), Clm.at 0 0 d (nr * c)]).map clD) (-1) = some (clD (.at 0 0 d (nr * c))) := by
    rw [show rgC d c M ++ [Clm.at 0 0 d 0, Clm.at 0 0 d (M * c), Clm.at 0 0 d (nr * c)] = (rgC d c M ++ [Clm.at 0 0 d 0, Clm.at 0 0 d (M * c)]) ++ [Clm.at 0 0 d (nr * c)] by simp, List.map_append]; exact atLast _ _
  have aK : atI ((rgC d c M ++ [Clm.at 0 0 d 0, Clm.at 0 0 d (M * c), Clm.at 0 0 d (nr * c)]).map clD) ((M + 2 : Nat) : Int) = some (clD (.at 0 0 d (M * c))) := by
    rw [atN, List.getElem?_map, List.getElem?_append_right (by first | decide | omega), show M + 2 - (rgC d c M).length = 1 by first | decide | omega]; rfl
  simp only [ix_ls (ls_new h _), aM, aL, eMc, eNc, VV0]
  refine ⟨mulS (by first | decide | omega), ?_⟩
  refine pEq_same rfl (pd_cl _ _) (pd_cl _ (.within 0 d 0 d (M * c))) (by decide) ?_
  dsimp only
  rw [Bool.not_true]
  refine iteF ?_
  simp only [ix_ls (ls_new h _), aL, VV0]
  refine ⟨mulS (by first | decide | omega), ?_⟩
  refine pEq_same rfl (pd_cl _ _) (pd_cl _ (.at 0 0 d (nr * c))) (by decide) ?_
  dsimp only
  rw [Bool.not_true]
  refine iteF ?_
  subst hN
  (try dsimp only); refine seq_intro fun N hN => ?_
  simp only [VV]
  refine ⟨⟨by first | decide | omega, by first | decide | omega, by decide⟩, ?_⟩
  rw [shl1]
  have k2 : (M : Int) + 2 = ((M + 2 : Nat) : Int) := by first | decide | omega
  have k3 : (M : Int) + 3 = ((M + 3 : Nat) : Int) := by first | decide | omega
  rw [k2]
  have sp : rgR d k0 M ++ [Row.start d, Row.along (M + 1 : Nat) M, Row.along (M + 1 : Nat) nr] = (rgR d k0 M ++ [Row.start d, Row.along (M + 1 : Nat) M]) ++ [Row.along (M + 1 : Nat) nr] := by simp
  have rS : ∀ ys : List Row, (rgR d k0 M ++ Row.start d :: ys)[M + 1]? = some (.start d) := fun ys => by
    rw [List.getElem?_append_right (by first | decide | omega), show M + 1 - (rgR d k0 M).length = 0 by first | decide | omega]; rfl
  refine ⟨_, _, _, _, _, true, rfl, ?_, ?_⟩
  · refine ⟨400, List.replicate M (.go .step k0 d), (d : Int), ⟨_, _, ch 1 m Es, ⟨1, m, Es⟩, d, M + 2, rgR d k0 M ++ [Row.start d, Row.along (M + 1 : Nat) M], [Row.along (M + 1 : Nat) nr], _, _, _, 2 * M + 3, 0, 0, d, M * c, by rw [← sp]; rfl, ChD.of _ (ch 1 m Es), wf, rfl, ld, by rw [List.length_append, lR]; rfl, by rw [List.length_append, lR]; simp; omega, by decide, pp2, ?_, ?_, ?_, ?_, fun z => ?_⟩, fun z => ?_, fun _ => ⟨rfl, rfl, rfl⟩⟩
    · rw [List.getElem?_append_right (by first | decide | omega), show M + 2 - (rgC d c M).length = 1 by first | decide | omega]; rfl
    · rw [List.getElem?_append_right (by first | decide | omega), show M + 2 - (rgW d k0 M).length = 1 by first | decide | omega]; rfl
    · rw [List.getElem?_append_right (by first | decide | omega), show M + 2 - (rgV M).length = 1 by first | decide | omega]; rfl
    · refine .along (j := M + 1) (i := (M : Int)) ?_ (by first | decide | omega) (.start (rS _))
      rw [List.getElem?_append_right (by first | decide | omega), show M + 2 - (rgR d k0 M).length = 1 by first | decide | omega]; rfl
    · rw [List.length_replicate] at z; omega
    · rw [List.length_replicate] at z; omega
  simp only [ix_ls (ls_new h _), aK, clD, eMc, VV]
  refine ⟨mulS (by first | decide | omega), ?_⟩
  have ee : (((M * c : Nat) : Int) == ((M * c : Nat) : Int)) = true := by simp
  simp only [ee, VV]
  subst hN
  simp only [VV0]
  refine ⟨⟨by first | decide | omega, by first | decide | omega, by decide⟩, ?_⟩
  rw [shl1, k3]
  refine ⟨400, List.replicate nr (.go .step k0 d), (d : Int), ⟨_, _, ch 1 m Es, ⟨1, m, Es⟩, d, M + 3, rgR d k0 M ++ [Row.start d, Row.along (M + 1 : Nat) M, Row.along (M + 1 : Nat) nr], [], _, _, _, 2 * nr + 3, 0, 0, d, nr * c, by rw [List.append_nil]; rfl, ChD.of _ (ch 1 m Es), wf, rfl, ld, by rw [List.length_append, lR]; rfl, by rw [List.length_append, lR]; simp; omega, by decide, pp3, ?_, ?_, ?_, ?_, fun _ => by first | decide | omega⟩, fun _ => ?_, fun z => ?_⟩
  · rw [List.getElem?_append_right (by first | decide | omega), show M + 3 - (rgC d c M).length = 2 by first | decide | omega]; rfl
  · rw [List.getElem?_append_right (by first | decide | omega), show M + 3 - (rgW d k0 M).length = 2 by first | decide | omega]; rfl
  · rw [List.getElem?_append_right (by first | decide | omega), show M + 3 - (rgV M).length = 2 by first | decide | omega]; rfl
  · refine .along (j := M + 1) (i := (nr : Int)) ?_ (by first | decide | omega) (.start (rS _))
    rw [List.getElem?_append_right (by first | decide | omega), show M + 3 - (rgR d k0 M).length = 2 by first | decide | omega]; rfl
  · refine ⟨⟨by first | decide | omega, by first | decide | omega, by simp; omega⟩, ?_⟩
    have rp : (List.replicate (nr : Int).toNat [D.tup [.str "step", nD k0, nD d]]).flatten = (List.replicate nr (GM.go .step k0 d)).map gmD := by
      rw [Int.toNat_natCast, List.map_replicate]; exact rep_flat _ _
    rw [rp]
    refine pEq_same rfl (pd_way _ _ _) (pd_way _ (d : Int) _) (by decide) ?_
    exact Dr.drop rfl q
  · rw [List.length_replicate] at z; omega
theorem ok__law_long_row {f : Addr} {fd : FuncData} (F : Fun K "_law_long_row" "_law_long_row" s__law_long_row f fd) (T : Txt P w K mg) (C__law_cell : Cal P w K mg base 1 "_law_cell" ["_law_script", "_law_k"] (spD K 2 S__law_cell)) (C__law_number : Cal P w K mg base 1 "_law_number" ["_law_cell_here"] (spD K 1 S__law_number)) (C_claims : Cal P w K mg base 6 "claims" ["chart", "start", "rows"] (spD K 3 S_claims)) (C__law_late : Cal P w K mg base 8 "_law_late" ["_law_chart", "_law_start", "_law_rows", "_law_k", "_law_most"] (spD K 5 S__law_late)) (C_unrolled__F1 : CalXF P w K mg base 7 "unrolled" ["chart", "start", "rows", "k", "most"] (spX K 5 S_unrolled) [400]) : FnOk P w K mg base CX0 9 f fd ["_law_script"] (spD K 1 S__law_long_row) :=
  fn_okD (k := 8) (b := b__law_long_row) F sc__law_long_row (fun cdv A outer s H E hr => by
    refine ss_cons ?_ ?_
    · refine s_set (i := 1) ?_ ?_ ?_ ?_
      · exact sc__law_long_row.nd
      · exact rfl
      · exact Or.inr rfl
      exact se_op ok_plus se_int (se_op ok_mod (se_cal C__law_cell (hr.mono (by decide)) rfl (sa_cons (sv 0) (sa_cons se_int sa_nil))) se_int)
    refine ss_cons ?_ ?_
    · refine s_set (i := 2) ?_ ?_ ?_ ?_
      · exact sc__law_long_row.nd
      · exact rfl
      · exact Or.inr rfl
      exact se_op ok_mod (se_cal C__law_cell (hr.mono (by decide)) rfl (sa_cons (sv 0) (sa_cons se_int sa_nil))) (sv 1)
    refine ss_cons ?_ ?_
    · refine s_set (i := 3) ?_ ?_ ?_ ?_
      · exact sc__law_long_row.nd
      · exact rfl
      · exact Or.inr rfl
      exact se_cal C__law_number (hr.mono (by decide)) rfl (sa_cons (se_cal C__law_cell (hr.mono (by decide)) rfl (sa_cons (sv 0) (sa_cons se_int sa_nil))) sa_nil)
    refine ss_cons ?_ ?_
    · refine s_set (i := 4) ?_ ?_ ?_ ?_
      · exact sc__law_long_row.nd
      · exact rfl
      · exact Or.inl rfl
      exact se_op ok_plus se_int (se_op ok_mod (se_cal C__law_cell (hr.mono (by decide)) rfl (sa_cons (sv 0) (sa_cons se_int sa_nil))) se_int)
    refine ss_cons ?_ ?_
    · refine s_set (i := 5) ?_ ?_ ?_ ?_
      · exact sc__law_long_row.nd
      · exact rfl
      · exact Or.inr rfl
      exact se_op ok_mod (se_cal C__law_cell (hr.mono (by decide)) rfl (sa_cons (sv 0) (sa_cons se_int sa_nil))) se_int
    refine ss_cons ?_ ?_
    · exact s_setcV (i := 6) (hN := sc__law_long_row.nd) (hix := rfl) (hx := (Or.inl rfl)) rfl (N' := ["_law_k", "_law_cost", "_law_n", "_law_facts"]) (js := [none, some 3, some 5, some 1]) ⟨rfl, by decide +kernel, rfl, rfl, rfl⟩ (si_range1 rfl T.b_range (sa_cons se_int sa_nil)) (fun s0 H0 fp => ⟨(sg_name (i := 0) (show (["_law_k", "_law_cost", "_law_n", "_law_facts"] : List Str).Nodup by decide +kernel) rfl (Or.inl rfl)), sf_nil, (se_tup (sa_cons se_str (sa_cons se_int (sa_cons se_int (sa_cons (se_callB (ok_max rfl) rfl T.b_max PyProof.Rows.boot_max (sa_cons se_int (sa_cons (se_op ok_sub (sv 1) (se_callTy ok_int rfl T.b_int PyProof.Rows.boot_int (sa_cons (se_cmp (ok_ne hr.units) (sv 0) (sv 2) (nomark _)) sa_nil))) sa_nil))) (sa_cons (se_callTy ok_tuple rfl T.b_tuple PyProof.Rows.boot_tuple (sa_cons (se_v (sn_comp rfl (N' := ["_law_e"]) (js := [none]) ⟨rfl, by decide +kernel, rfl, rfl, rfl⟩ (si_range1 rfl T.b_range (sa_cons (sv 3) sa_nil)) (fun s0 H0 fp => ⟨(sg_name (i := 0) (show (["_law_e"] : List Str).Nodup by decide +kernel) rfl (Or.inl rfl)), sf_nil, (se_op ok_shl se_int (sv 0))⟩))) sa_nil)) sa_nil))))))⟩)
    refine ss_cons ?_ ?_
    · refine s_set (i := 7) ?_ ?_ ?_ ?_
      · exact sc__law_long_row.nd
      · exact rfl
      · exact Or.inl rfl
      refine se_v ?_
      exact sn_lst (sa_cons (se_tup (sa_cons se_int (sa_cons (sv 1) (sa_cons (sv 6) sa_nil)))) sa_nil)
    refine ss_cons ?_ ?_
    · refine s_set (i := 8) ?_ ?_ ?_ ?_
      · exact sc__law_long_row.nd
      · exact rfl
      · exact Or.inl rfl
      exact se_op ok_plus (se_v (sn_lst (sa_cons (se_tup (sa_cons se_str (sa_cons se_int (sa_cons (sv 2) sa_nil)))) sa_nil))) (se_v (sn_comp rfl (N' := ["_law_k", "_law_n", "_law_d"]) (js := [none, some 5, some 2]) ⟨rfl, by decide +kernel, rfl, rfl, rfl⟩ (si_range1 rfl T.b_range (sa_cons (sv 4) sa_nil)) (fun s0 H0 fp => ⟨(sg_name (i := 0) (show (["_law_k", "_law_n", "_law_d"] : List Str).Nodup by decide +kernel) rfl (Or.inl rfl)), sf_nil, (se_tup (sa_cons se_str (sa_cons (sv 0) (sa_cons (sv 1) (sa_cons (sv 2) sa_nil)))))⟩)))
    refine ss_cons ?_ ?_
    · refine s_set (i := 9) ?_ ?_ ?_ ?_
      · exact sc__law_long_row.nd
      · exact rfl
      · exact Or.inl rfl
      exact se_op ok_mod (se_cal C__law_cell (hr.mono (by decide)) rfl (sa_cons (sv 0) (sa_cons se_int sa_nil))) se_int
    refine ss_cons ?_ ?_
    · refine s_set (i := 8) ?_ ?_ ?_ ?_
      · exact sc__law_long_row.nd
      · exact rfl
      · exact Or.inl rfl
      exact se_op ok_plus (sv 8) (se_v (sn_lst (sa_cons (se_tup (sa_cons se_str (sa_cons (sv 2) sa_nil))) (sa_cons (se_tup (sa_cons se_str (sa_cons (se_op ok_plus (sv 4) se_int) (sa_cons (sv 4) sa_nil)))) (sa_cons (se_tup (sa_cons se_str (sa_cons (se_op ok_plus (sv 4) se_int) (sa_cons (sv 9) sa_nil)))) sa_nil)))))
    refine ss_cons ?_ ?_
    · refine s_set (i := 10) ?_ ?_ ?_ ?_
      · exact sc__law_long_row.nd
      · exact rfl
      · exact Or.inl rfl
      exact se_cal C_claims (hr.mono (by decide)) rfl (sa_cons (sv 7) (sa_cons (se_op ok_shl se_int (sv 2)) (sa_cons (sv 8) sa_nil)))
    refine ss_cons ?_ ?_
    · refine s_if ?_ ?_ ?_
      · exact st_w (sw_or (st_cmp (ok_ne hr.units) (se_ix ok_ix (sv 10) (sv 4) (fun _ _ => rfl)) (se_tup (sa_cons se_str (sa_cons se_int (sa_cons (sv 2) (sa_cons se_int (sa_cons (sv 2) (sa_cons (se_op ok_timesI (sv 4) (sv 3)) sa_nil))))))) (nomark _)) (sw_or1 (st_cmp (ok_ne hr.units) (se_ix ok_ix (sv 10) (se_un ok_neg se_int) (fun _ _ => rfl)) (se_tup (sa_cons se_str (sa_cons se_int (sa_cons se_int (sa_cons (sv 2) (sa_cons (se_op ok_timesI (sv 9) (sv 3)) sa_nil)))))) (nomark _))))
      · refine ss_one ?_
        refine s_ret ?_
        exact se_bl
      exact ss_nil
    refine ss_cons ?_ ?_
    · refine s_if ?_ ?_ ?_
      · exact st_w (sw_or (st_not (st_truth (se_cal C__law_late (hr.mono (by decide)) rfl (sa_cons (sv 7) (sa_cons (se_op ok_shl se_int (sv 2)) (sa_cons (sv 8) (sa_cons (se_op ok_plus (sv 4) se_int) (sa_cons se_int sa_nil)))))))) (sw_or1 (st_cmp (ok_ne hr.units) (se_ix ok_ix (se_ix ok_ix (sv 10) (se_op ok_plus (sv 4) se_int) (fun _ _ => rfl)) se_int (fun _ _ => rfl)) (se_op ok_timesI (sv 4) (sv 3)) (nomark _))))
      · refine ss_one ?_
        refine s_ret ?_
        exact se_bl
      exact ss_nil
    refine ss_one ?_
    refine s_ret ?_
    exact se_cmp (ok_eq hr.units) (se_calXF C_unrolled__F1 (hr.mono (by decide)) rfl (sa_cons (sv 7) (sa_cons (se_op ok_shl se_int (sv 2)) (sa_cons (sv 8) (sa_cons (se_op ok_plus (sv 4) se_int) sa_nil))))) (se_tup (sa_cons (sv 2) (sa_cons (se_v (sn_rep (se_v (sn_lst (sa_cons (se_tup (sa_cons se_str (sa_cons (sv 5) (sa_cons (sv 2) sa_nil)))) sa_nil))) (sv 9))) sa_nil))) (nomark _)) imp__law_long_row
noncomputable def b_law : DS := (dSeq (dIfS (dTst (dOp (pEq false) (dOp pMod (dOp pDiv (dCal S__law_cell (dCons (dVar 0) (dCons (dC (.int 3)) dNil))) (dC (.int 427))) (dC (.int 8))) (dC (.int 1)))) (dRet (dCal S__law_long_row (dCons (dVar 0) dNil))) dNext)
    (dSeq (dAsg (dOp pPlus (dC (.int 1)) (dOp pMod (dCal S__law_cell (dCons (dVar 0) (dCons (dC (.int 0)) dNil))) (dC (.int 10)))) (dName 1))
    (dSeq (dAsg (dOp pPlus (dC (.int 1)) (dOp pMod (dCal S__law_cell (dCons (dVar 0) (dCons (dC (.int 1)) dNil))) (dC (.int 6)))) (dName 2))
    (dSeq (dAsg (dOp pMod (dCal S__law_cell (dCons (dVar 0) (dCons (dC (.int 2)) dNil))) (dVar 2)) (dName 3))
    (dSeq (dAsg (dOp pMod (dCal S__law_cell (dCons (dVar 0) (dCons (dC (.int 3)) dNil))) (dOp pIx (dV (dCons (dC (.int 61)) (dCons (dC (.int 7)) dNil))) (dOp pMod (dOp pDiv (dCal S__law_cell (dCons (dVar 0) (dCons (dC (.int 3)) dNil))) (dC (.int 61))) (dC (.int 2))))) (dName 4))
    (dSeq (dAsg (dCal S__law_edges (dCons (dVar 0) (dCons (dVar 1) (dCons (dVar 2) dNil)))) (dName 5))
    (dSeq (dAsg (dV (dCons (dTup (dCons (dVar 1) (dCons (dVar 2) (dCons (dVar 5) dNil)))) dNil)) (dName 6))
    (dSeq (dAsg (dCal S__law_paper (dCons (dVar 5) (dCons (dVar 1) (dCons (dVar 2) (dCons (dVar 3) (dCons (dVar 4) dNil)))))) (dUnp 5 (dGCons (dName 7) (dGCons (dName 8) (dGCons (dName 9) (dGCons (dName 10) (dGCons (dName 11) dGNil)))))))
    (dSeq (dAsg (dCal S__law_due (dCons (dVar 7) (dCons (dVar 9) (dCons (dVar 1) (dCons (dVar 2) (dCons (dVar 3) dNil)))))) (dName 12))
    (dSeq (dAsg (dOp pMod (dOp pSub (dOp pPlus (dVar 3) (dVar 1)) (dC (.int 1))) (dVar 2)) (dName 13))
    (dSeq (dAsg (dOp pSub (dCB pLen (dCons (dVar 7) dNil)) (dC (.int 1))) (dName 14))
    (dSeq (dAsg (dOp pPlus (dVar 7) (dV (dCons (dTup (dCons (dC (.str "start")) (dCons (dVar 3) dNil))) (dCons (dTup (dCons (dC (.str "along")) (dCons (dOp pPlus (dVar 14) (dC (.int 1))) (dCons (dVar 14) dNil)))) (dCons (dTup (dCons (dC (.str "in")) (dCons (dOp pPlus (dVar 14) (dC (.int 2))) (dCons (dVar 11) (dCons (dVar 3) dNil))))) (dCons (dTup (dCons (dC (.str "along")) (dCons (dOp pPlus (dVar 14) (dC (.int 3))) (dCons (dVar 14) dNil)))) dNil)))))) (dName 7))
    (dSeq (dAsg (dOp pIx (dVar 9) (dUn pNeg (dC (.int 1)))) (dName 15))
    (dSeq (dAsg (dTk (dCatN (dVar 12) (dV (dCons (dTup (dCons (dC (.str "at")) (dCons (dC (.int 0)) (dCons (dC (.int 0)) (dCons (dVar 3) (dCons (dC (.int 0)) dNil)))))) (dCons (dTup (dCons (dC (.str "at")) (dCons (dC (.int 0)) (dCons (dOp pSub (dVar 1) (dC (.int 1))) (dCons (dVar 13) (dCons (dVar 15) dNil)))))) (dCons (dTup (dCons (dC (.str "at")) (dCons (dC (.int 0)) (dCons (dC (.int 0)) (dCons (dVar 3) (dCons (dOp pPlus (dVar 15) (dOp pIx (dOp pIx (dVar 5) (dVar 11)) (dC (.int 3)))) dNil)))))) dNil)))))) (dName 12))
    (dSeq (dDrop (dAppend (dVar 12) (dCons (dTup (dCons (dC (.str "at")) (dCons (dC (.int 0)) (dCons (dOp pSub (dVar 1) (dC (.int 1))) (dCons (dVar 13) (dCons (dOp pPlus (dOp pMulI (dC (.int 2)) (dVar 15)) (dOp pIx (dOp pIx (dVar 5) (dVar 11)) (dC (.int 3)))) dNil)))))) dNil)))
    (dSeq (dIfS (dTst (dOp (pEq true) (dCal S_claims (dCons (dVar 6) (dCons (dOp pShl (dC (.int 1)) (dVar 3)) (dCons (dVar 7) dNil)))) (dVar 12))) (dRet (dC (.bl false))) dNext)
    (dSeq (dIfS (dAnd (dTst (dOp pGt (dVar 10) (dC (.int 400)))) (dNot (dTr (dCal S__law_late (dCons (dVar 6) (dCons (dOp pShl (dC (.int 1)) (dVar 3)) (dCons (dVar 7) (dCons (dOp pPlus (dVar 14) (dC (.int 2))) (dCons (dC (.int 400)) dNil))))))))) (dRet (dC (.bl false))) dNext)
    (dSeq (dIfS (dAnd (dTst (dOp pLe (dVar 10) (dC (.int 400)))) (dTst (dOp (pEq true) (dCal (fun ds h Q => S_unrolled ds h Q fun _ _ _ => False) (dCons (dVar 6) (dCons (dOp pShl (dC (.int 1)) (dVar 3)) (dCons (dVar 7) (dCons (dOp pPlus (dVar 14) (dC (.int 2))) (dCons (dVar 10) dNil)))))) (dTup (dCons (dVar 3) (dCons (dVar 8) dNil)))))) (dRet (dC (.bl false))) dNext)
    (dSeq (dIfS (dTst (dOp pGt (dOp pPlus (dOp pMulI (dC (.int 2)) (dVar 10)) (dC (.int 1))) (dC (.int 400)))) (dRet (dCal S__law_late (dCons (dVar 6) (dCons (dOp pShl (dC (.int 1)) (dVar 3)) (dCons (dVar 7) (dCons (dOp pPlus (dVar 14) (dC (.int 4))) (dCons (dC (.int 400)) dNil))))))) dNext)
    (dRet (dOp (pEq false) (dCalF (fun ds h Q => S_unrolled ds h Q fun _ _ _ => False) [400] (dCons (dVar 6) (dCons (dOp pShl (dC (.int 1)) (dVar 3)) (dCons (dVar 7) (dCons (dOp pPlus (dVar 14) (dC (.int 4))) dNil))))) (dTup (dCons (dVar 3) (dCons (dOp pPlus (dOp pPlus (dVar 8) (dV (dCons (dTup (dCons (dC (.str "in")) (dCons (dVar 11) (dCons (dVar 3) dNil)))) dNil))) (dVar 8)) dNil))))))))))))))))))))))))
noncomputable def S_law : DSp := runD 16 b_law
theorem imp_law : ∀ ds h Q, S_law ds h Q → runD 16 b_law ds h Q := fun _ _ _ h => h
theorem law_true (ns : List Int) (hl : ns.length ≤ 63) (hb : ∀ x ∈ ns, Builtin.Int.intBits x ≤ 1048576) : S_law [.scr (ns.map D.int)] [] (fun v _ => v = .bl true) := by
  unfold S_law
  have cell : ∀ (k : Nat) (h' : Hh) (K : DK), k ≤ 1000 → (∀ r : Int, K (.int r) h') → S__law_cell [.scr (ns.map .int), nD k] h' K := fun k h' K hk kk => ⟨ns, k, rfl, hl, hb, hk, fun r _ => kk r⟩
  simp only [runD, runX, b_law, List.map_cons, List.map_nil, List.cons_append, List.nil_append, List.length_cons, List.length_nil, List.replicate, Nat.reduceSub, Nat.reduceAdd, Nat.zero_add, Nat.sub_self]
  (try dsimp only); refine seq_intro fun N hN => ?_
  simp only [VV]
  refine cell 3 _ _ (by decide) fun r0 => ?_
  simp only [VV]
  refine ⟨by decide, by decide, ?_⟩
  refine iteB (fun _ => ?_) (fun _ => ?_)
  · exact ⟨ns, rfl, hl, hb, rfl⟩
  subst hN
  (try dsimp only); refine seq_intro fun N hN => ?_
  simp only [VV]
  refine cell 0 _ _ (by decide) fun r1 => ?_
  obtain ⟨n0, hn0, ln0⟩ := modN (r := r1) 10 (by decide)
  have hn0 : r1 % 10 = (n0 : Int) := hn0
  obtain ⟨n, hn⟩ : ∃ n, n = 1 + n0 := ⟨_, rfl⟩
  have e1 : (1 : Int) + (n0 : Int) = (n : Int) := by first | decide | omega
  simp only [hn0, e1, VV]
  refine ⟨by decide, ?_⟩
  subst hN
  (try dsimp only); refine seq_intro fun N hN => ?_
  simp only [VV]
  refine cell 1 _ _ (by decide) fun r2 => ?_
  obtain ⟨m0, hm0, lm0⟩ := modN (r := r2) 6 (by decide)
  have hm0 : r2 % 6 = (m0 : Int) := hm0
  obtain ⟨m, hm⟩ : ∃ m, m = 1 + m0 := ⟨_, rfl⟩
  have e2 : (1 : Int) + (m0 : Int) = (m : Int) := by first | decide | omega
  simp only [hm0, e2, VV]
  refine ⟨by decide, ?_⟩
  subst hN
  (try dsimp only); refine seq_intro fun N hN => ?_
  simp only [VV]
  refine cell 2 _ _ (by decide) fun r3 => ?_
  obtain ⟨d, hd, ld⟩ := modN (r := r3) m (by first | decide | omega)
  simp only [hd, VV]
  refine ⟨by first | decide | omega, ?_⟩
  subst hN
  (try dsimp only); refine seq_intro fun N hN => ?_
  simp only [VV]
  refine cell 3 _ _ (by decide) fun r4 => cell 3 _ _ (by decide) fun r5 => ?_
  obtain ⟨b, hb2, lb⟩ := modN (r := r5 / 61) 2 (by decide)
  have hb2 : r5 / 61 % 2 = (b : Int) := hb2
  obtain ⟨q, ax, q1, q61⟩ : ∃ q : Nat, atI [D.int 61, D.int 7] (b : Int) = some (nD q) ∧ 1 ≤ q ∧ q ≤ 61 := by
    rw [atN]
    rcases (show b = 0 ∨ b = 1 by first | decide | omega) with rfl | rfl
    · exact ⟨61, rfl, by decide, by decide⟩
    · exact ⟨7, rfl, by decide, by decide⟩
  obtain ⟨T, hT, lT⟩ := modN (r := r4) q q1
  simp only [hb2, ax, hT, VV]
  refine ⟨by decide, by decide, by first | decide | omega, ?_⟩
  subst hN
  (try dsimp only); refine seq_intro fun N hN => ?_
  simp only [VV]
  refine ⟨ns, n, m, rfl, hl, hb, by first | decide | omega, by first | decide | omega, by first | decide | omega, by first | decide | omega, fun Es eo => ?_⟩
  subst hN
  (try dsimp only); refine seq_intro fun N hN => ?_
  simp only [VV]
  subst hN
  (try dsimp only); refine seq_intro fun N hN => ?_
  simp only [VV]
  refine ⟨n, m, d, T, Es, rfl, eo, by first | decide | omega, by first | decide | omega, by first | decide | omega, by first | decide | omega, ld, by first | decide | omega, fun rs xs w mv i c dp hrs hE hmv => ?_⟩
  have wf := eo.wf (show 1 ≤ n by first | decide | omega) (show n ≤ 10 by first | decide | omega) (show 1 ≤ m by first | decide | omega) (show m ≤ 6 by first | decide | omega)
  have xl := dp.len
  obtain ⟨l, hl1⟩ : ∃ l, rs.length = l + 1 := ⟨n + T - 1, by first | decide | omega⟩
  simp only [VV]
  refine ⟨trivial, ?_⟩
  subst hN
  (try dsimp only); refine seq_intro fun N hN => ?_
  simp only [VV]
  refine ⟨_, _, xs, n, m, d, rfl, by rw [len_ls (xs := rs.map rD) rfl, List.length_map, xl], rfl, by first | decide | omega, by first | decide | omega, by first | decide | omega, ?_⟩
  subst hN
  (try dsimp only); refine seq_intro fun N hN => ?_
  have em : ((d : Int) + (n : Int) - 1) % (m : Int) = (((d + (n - 1)) % m : Nat) : Int) := by rw [← emodN]; congr 1; omega
  have en : (n : Int) - 1 = ((n - 1 : Nat) : Int) := by first | decide | omega
  simp only [em, VV]
  refine ⟨by first | decide | omega, ?_⟩
  subst hN
  (try dsimp only); refine seq_intro fun N hN => ?_
  have rl : ((rs.length : Nat) : Int) - 1 = ((l : Nat) : Int) := by first | decide | omega
  simp only [List.length_map, rl, VV]
  subst hN
  (try dsimp only); refine seq_intro fun N hN => ?_
  simp only [VV]
  refine ⟨by rw [List.length_map]; omega, ?_⟩
  obtain ⟨R4, hR4⟩ : ∃ R4, R4 = rs ++ [Row.start d, Row.along (l + 1 : Nat) l, Row.mv .inn (l + 2 : Nat) i d, Row.along (l + 3 : Nat) l] := ⟨_, rfl⟩
  have mR : rs.map rD ++ [.tup [.str "start", nD d], .tup [.str "along", .int ((l : Int) + 1), nD l], .tup [.str "in", .int ((l : Int) + 2), nD i, nD d], .tup [.str "along", .int ((l : Int) + 3), nD l]] = R4.map rD := by
    rw [hR4, List.map_append]; rfl
  rw [mR]
  subst hN
  (try dsimp only); refine seq_intro fun N hN => ?_
  have lastX : atI (xs.map nD) (-1) = some (nD (xs.getD l 0)) := by
    rw [atI_m1 (by rw [List.length_map]; omega), List.length_map, List.getElem?_map, List.getD_eq_getElem?_getD, show xs.length - 1 = l by first | decide | omega, List.getElem?_eq_getElem (by first | decide | omega)]; rfl
  obtain ⟨x, hx⟩ : ∃ x, xs.getD l 0 = x := ⟨_, rfl⟩
  rw [hx] at lastX
  simp only [lastX, VV]
  subst hN
  (try dsimp only); refine seq_intro fun N hN => ?_
  have aE : atI (Es.map eD) (i : Int) = some (eD (callE n m c)) := by rw [atN, List.getElem?_map, hE]; rfl
  simp only [aE, eD_3, en, VV]
  refine ⟨by rw [List.length_map, due_len]; omega, ?_⟩
  subst hN
  (try dsimp only); refine seq_intro fun N hN => ?_
  simp only [aE, eD_3, en, VV]
  refine ⟨mulS (by decide), by rw [List.length_append, List.length_map, due_len]; simp; omega, ?_⟩
  obtain ⟨C4, hC4⟩ : ∃ C4, C4 = due n m d xs ++ [Clm.at 0 0 d 0, Clm.at 0 (n - 1) ((d + (n - 1)) % m) x, Clm.at 0 0 d (x + c), Clm.at 0 (n - 1) ((d + (n - 1)) % m) (2 * x + c)] := ⟨_, rfl⟩
  have mC : (due n m d xs).map clD ++ [.tup [.str "at", .int 0, .int 0, nD d, .int 0], .tup [.str "at", .int 0, nD (n - 1), nD ((d + (n - 1)) % m), nD x], .tup [.str "at", .int 0, .int 0, nD d, .int ((x : Int) + (((callE n m c).cost : Nat) : Int))]] ++ [.tup [.str "at", .int 0, nD (n - 1), nD ((d + (n - 1)) % m), .int (2 * (x : Int) + (((callE n m c).cost : Nat) : Int))]] = C4.map clD := by
    rw [hC4, List.map_append, List.append_assoc]; rfl
  rw [mC]
  obtain ⟨ws, vs, pp2, pp4, lws, lvs⟩ := dp.tail (show 1 ≤ n by first | decide | omega) ld hl1 (by first | decide | omega) hx hE
  rw [← hR4, ← hC4] at pp4
  have dl := due_len n m d xs
  have lR4 : R4.length = l + 5 := by rw [hR4, List.length_append, hl1]; rfl
  have spl : R4 = (rs ++ [Row.start d, Row.along (l + 1 : Nat) l]) ++ [Row.mv .inn (l + 2 : Nat) i d, Row.along (l + 3 : Nat) l] := by rw [hR4]; simp
  have rS : ∀ ys : List Row, (rs ++ Row.start d :: ys)[l + 1]? = some (.start d) := fun ys => by
    rw [List.getElem?_append_right (by first | decide | omega), show l + 1 - rs.length = 0 by first | decide | omega]; rfl
  have rA : ∀ (y : Row) (ys : List Row), (rs ++ y :: Row.along (l + 1 : Nat) l :: ys)[l + 2]? = some (.along (l + 1 : Nat) l) := fun y ys => by
    rw [List.getElem?_append_right (by first | decide | omega), show l + 2 - rs.length = 1 by first | decide | omega]; rfl
  have U2 : ∀ (s : D) (most : Nat) (h : Hh) (Q : DK) (X' : DX), most ≤ 90000 → (w.length ≤ most → Q (.tup [nD d, .lst (w.map gmD)]) h) → (most < w.length → X' "TooLong" [] h) → S_unrolled [.lst [.tup [nD n, nD m, .lst (Es.map eD)]], s, .lst (R4.map rD), nD (l + 2), nD most] h Q X' := fun s most h Q X' hm y1 y2 => by
    refine ⟨most, w, (d : Int), ⟨_, s, ch n m Es, ⟨n, m, Es⟩, d, l + 2, rs ++ [Row.start d, Row.along (l + 1 : Nat) l], [Row.mv .inn (l + 2 : Nat) i d, Row.along (l + 3 : Nat) l], _, _, _, 2 * w.length + 3, 0, n - 1, (d + (n - 1)) % m, x, by rw [← spl]; rfl, ChD.of _ (ch n m Es), wf, rfl, ld, by rw [List.length_append, hl1]; rfl, by rw [List.length_append, hl1]; simp; omega, hm, pp2, ?_, ?_, ?_, ?_, fun z => by first | decide | omega⟩, y1, y2⟩
    · rw [List.getElem?_append_right (by first | decide | omega), show l + 2 - (due n m d xs).length = 1 by first | decide | omega]; rfl
    · rw [List.getElem?_append_right (by first | decide | omega), show l + 2 - ws.length = 1 by first | decide | omega]; rfl
    · rw [List.getElem?_append_right (by first | decide | omega), show l + 2 - vs.length = 1 by first | decide | omega]; rfl
    · exact .along (j := l + 1) (i := (l : Int)) (rA _ _) (by first | decide | omega) (.start (rS _))
  have U4 : ∀ (s : D) (most : Nat) (h : Hh) (Q : DK) (X' : DX), most ≤ 90000 → (2 * w.length + 1 ≤ most → Q (.tup [nD d, .lst ((w ++ (.go .inn i d :: w)).map gmD)]) h) → (most < 2 * w.length + 1 → X' "TooLong" [] h) → S_unrolled [.lst [.tup [nD n, nD m, .lst (Es.map eD)]], s, .lst (R4.map rD), nD (l + 4), nD most] h Q X' := fun s most h Q X' hm y1 y2 => by
    have lw : (w ++ (GM.go .inn i d :: w)).length = 2 * w.length + 1 := by simp; omega
    refine ⟨most, w ++ (.go .inn i d :: w), (d : Int), ⟨_, s, ch n m Es, ⟨n, m, Es⟩, d, l + 4, R4, [], C4, _, _, 4 * w.length + 7, 0, n - 1, (d + (n - 1)) % m, 2 * x + c, by rw [List.append_nil]; rfl, ChD.of _ (ch n m Es), wf, rfl, ld, by rw [lR4], by first | decide | omega, hm, pp4, ?_, ?_, ?_, ?_, fun z => by first | decide | omega⟩, fun z => y1 (by first | decide | omega), fun z => y2 (by first | decide | omega)⟩
    · rw [hC4, List.getElem?_append_right (by first | decide | omega), show l + 4 - (due n m d xs).length = 3 by first | decide | omega]; rfl
    · rw [List.getElem?_append_right (by first | decide | omega), show l + 4 - ws.length = 3 by first | decide | omega]; rfl
    · rw [List.getElem?_append_right (by first | decide | omega), show l + 4 - vs.length = 3 by first | decide | omega]; rfl
    · rw [hR4]
      refine .along (j := l + 3) (i := (l : Int)) ?_ (by first | decide | omega) (.inn (j := l + 2) (n := (i : Int)) (e := (d : Int)) ?_ (by first | decide | omega) (.along (j := l + 1) (i := (l : Int)) (rA _ _) (by first | decide | omega) (.start (rS _))))
      · rw [List.getElem?_append_right (by first | decide | omega), show l + 4 - rs.length = 3 by first | decide | omega]; rfl
      · rw [List.getElem?_append_right (by first | decide | omega), show l + 3 - rs.length = 2 by first | decide | omega]; rfl
  have k2 : (l : Int) + 2 = ((l + 2 : Nat) : Int) := by first | decide | omega
  have k4 : (l : Int) + 4 = ((l + 4 : Nat) : Int) := by first | decide | omega
  subst hN
  (try dsimp only); refine seq_intro fun N hN => ?_
  simp only [VV0]
  refine ⟨⟨by first | decide | omega, by first | decide | omega, by decide⟩, ?_⟩
  rw [shl1]
  refine ⟨_, _, ch n m Es, R4, 2 ^ d, C4, rfl, ChD.of _ (ch n m Es), wf, rfl, by first | decide | omega, pp4.cl _ (by simp), ?_⟩
  refine pEq_same rfl (.ref (ds := C4.map clD) rfl (Pds.map (pd_cl _))) (.ref (ds := C4.map clD) rfl (Pds.map (pd_cl _))) (by decide) ?_
  dsimp only
  rw [Bool.not_true]
  refine iteF ?_
  generalize ([O.lst (C4.map clD)] ++ [O.lst (C4.map clD)] : Hh) = h2
  subst hN
  (try dsimp only); refine seq_intro fun N hN => ?_
  by_cases z : 400 < w.length
  · have z1 : (400 : Int) < ((w.length : Nat) : Int) := by first | decide | omega
    have z2 : ¬ ((w.length : Nat) : Int) ≤ 400 := by first | decide | omega
    have z3 : (400 : Int) < 2 * ((w.length : Nat) : Int) + 1 := by first | decide | omega
    simp only [z1, VV]
    refine ⟨⟨by first | decide | omega, by first | decide | omega, by decide⟩, ?_⟩
    rw [shl1, k2]
    refine ⟨_, _, _, _, _, true, rfl, U2 _ 400 _ _ _ (by decide) (fun y => absurd y (by first | decide | omega)) (fun _ => ⟨rfl, rfl, rfl⟩), ?_⟩
    simp only [VV]
    subst hN
    (try dsimp only); refine seq_intro fun N hN => ?_
    simp only [z2, VV]
    subst hN
    (try dsimp only); refine seq_intro fun N hN => ?_
    simp only [z3, VV]
    refine ⟨mulS (by decide), ⟨by first | decide | omega, by first | decide | omega, by decide⟩, ?_⟩
    rw [shl1, k4]
    exact ⟨_, _, _, _, _, true, rfl, U4 _ 400 _ _ _ (by decide) (fun y => absurd y (by first | decide | omega)) (fun _ => ⟨rfl, rfl, rfl⟩), rfl⟩
  · have z1 : ¬ (400 : Int) < ((w.length : Nat) : Int) := by first | decide | omega
    have z2 : ((w.length : Nat) : Int) ≤ 400 := by first | decide | omega
    have hmw := hmv (by first | decide | omega)
    subst hmw
    simp only [z1, VV]
    subst hN
    (try dsimp only); refine seq_intro fun N hN => ?_
    simp only [z2, VV0]
    refine ⟨⟨by first | decide | omega, by first | decide | omega, by decide⟩, ?_⟩
    rw [shl1, k2]
    refine U2 _ mv.length _ _ _ (by first | decide | omega) (fun _ => ?_) (fun y => absurd y (by first | decide | omega))
    refine pEq_same rfl (pd_way _ _ _) (pd_way _ (d : Int) mv) (by decide) ?_
    dsimp only
    rw [Bool.not_true]
    refine iteF ?_
    subst hN
    (try dsimp only); refine seq_intro fun N hN => ?_
    by_cases z4 : 400 < 2 * mv.length + 1
    · have z3 : (400 : Int) < 2 * ((mv.length : Nat) : Int) + 1 := by first | decide | omega
      simp only [z3, VV]
      refine ⟨mulS (by decide), ⟨by first | decide | omega, by first | decide | omega, by decide⟩, ?_⟩
      rw [shl1, k4]
      exact ⟨_, _, _, _, _, true, rfl, U4 _ 400 _ _ _ (by decide) (fun y => absurd y (by first | decide | omega)) (fun _ => ⟨rfl, rfl, rfl⟩), rfl⟩
    · have z3 : ¬ (400 : Int) < 2 * ((mv.length : Nat) : Int) + 1 := by first | decide | omega
      simp only [z3, VV]
      refine ⟨mulS (by decide), ?_⟩
      subst hN
      simp only [VV0]
      refine ⟨⟨by first | decide | omega, by first | decide | omega, by decide⟩, ?_⟩
      rw [shl1, k4]
      refine U4 _ 400 _ _ _ (by decide) (fun _ => ?_) (fun y => absurd y (by first | decide | omega))
      refine ⟨by simp; omega, by simp; omega, ?_⟩
      have mm : mv.map gmD ++ [.tup [.str "in", nD i, nD d]] ++ mv.map gmD = (mv ++ (.go .inn i d :: mv)).map gmD := by
        rw [List.map_append, List.append_assoc]; rfl
      rw [mm]
      exact pEq_same rfl (pd_way _ _ _) (pd_way _ (d : Int) _) (by decide) rfl
theorem ok_law {f : Addr} {fd : FuncData} (F : Fun K "law" "law" s_law f fd) (T : Txt P w K mg) (C__law_cell : Cal P w K mg base 1 "_law_cell" ["_law_script", "_law_k"] (spD K 2 S__law_cell)) (C__law_long_row : Cal P w K mg base 9 "_law_long_row" ["_law_script"] (spD K 1 S__law_long_row)) (C__law_edges : Cal P w K mg base 2 "_law_edges" ["_law_script", "_law_places", "_law_facts"] (spD K 3 S__law_edges)) (C__law_paper : Cal P w K mg base 1 "_law_paper" ["_law_edges_here", "_law_places", "_law_facts", "_law_d", "_law_times"] (spD K 5 S__law_paper)) (C__law_due : Cal P w K mg base 1 "_law_due" ["_law_rows", "_law_costs", "_law_places", "_law_facts", "_law_d"] (spD K 5 S__law_due)) (C_claims : Cal P w K mg base 6 "claims" ["chart", "start", "rows"] (spD K 3 S_claims)) (C__law_late : Cal P w K mg base 8 "_law_late" ["_law_chart", "_law_start", "_law_rows", "_law_k", "_law_most"] (spD K 5 S__law_late)) (C_unrolled : CalX P w K mg base 7 "unrolled" ["chart", "start", "rows", "k", "most"] (spX K 5 S_unrolled)) (C_unrolled__F1 : CalXF P w K mg base 7 "unrolled" ["chart", "start", "rows", "k", "most"] (spX K 5 S_unrolled) [400]) : FnOk P w K mg base CX0 10 f fd ["_law_script"] (spD K 1 S_law) :=
  fn_ok (k := 9) (b := b_law) F sc_law (fun cdv A outer s H E hr => by
    refine ss_cons ?_ ?_
    · refine s_if ?_ ?_ ?_
      · exact st_cmp (ok_eq hr.units) (se_op ok_mod (se_op ok_div (se_cal C__law_cell (hr.mono (by decide)) rfl (sa_cons (sv 0) (sa_cons se_int sa_nil))) se_int) se_int) se_int (nomark _)
      · refine ss_one ?_
        refine s_ret ?_
        exact se_cal C__law_long_row (hr.mono (by decide)) rfl (sa_cons (sv 0) sa_nil)
      exact ss_nil
    refine ss_cons ?_ ?_
    · refine s_set (i := 1) ?_ ?_ ?_ ?_
      · exact sc_law.nd
      · exact rfl
      · exact Or.inl rfl
      exact se_op ok_plus se_int (se_op ok_mod (se_cal C__law_cell (hr.mono (by decide)) rfl (sa_cons (sv 0) (sa_cons se_int sa_nil))) se_int)
    refine ss_cons ?_ ?_
    · refine s_set (i := 2) ?_ ?_ ?_ ?_
      · exact sc_law.nd
      · exact rfl
      · exact Or.inl rfl
      exact se_op ok_plus se_int (se_op ok_mod (se_cal C__law_cell (hr.mono (by decide)) rfl (sa_cons (sv 0) (sa_cons se_int sa_nil))) se_int)
    refine ss_cons ?_ ?_
    · refine s_set (i := 3) ?_ ?_ ?_ ?_
      · exact sc_law.nd
      · exact rfl
      · exact Or.inl rfl
      exact se_op ok_mod (se_cal C__law_cell (hr.mono (by decide)) rfl (sa_cons (sv 0) (sa_cons se_int sa_nil))) (sv 2)
    refine ss_cons ?_ ?_
    · refine s_set (i := 4) ?_ ?_ ?_ ?_
      · exact sc_law.nd
      · exact rfl
      · exact Or.inl rfl
      exact se_op ok_mod (se_cal C__law_cell (hr.mono (by decide)) rfl (sa_cons (sv 0) (sa_cons se_int sa_nil))) (se_ix ok_ix (se_v (sn_lst (sa_cons se_int (sa_cons se_int sa_nil)))) (se_op ok_mod (se_op ok_div (se_cal C__law_cell (hr.mono (by decide)) rfl (sa_cons (sv 0) (sa_cons se_int sa_nil))) se_int) se_int) (fun _ _ => rfl))
    refine ss_cons ?_ ?_
    · refine s_set (i := 5) ?_ ?_ ?_ ?_
      · exact sc_law.nd
      · exact rfl
      · exact Or.inl rfl
      exact se_cal C__law_edges (hr.mono (by decide)) rfl (sa_cons (sv 0) (sa_cons (sv 1) (sa_cons (sv 2) sa_nil)))
    refine ss_cons ?_ ?_
    · refine s_set (i := 6) ?_ ?_ ?_ ?_
      · exact sc_law.nd
      · exact rfl
      · exact Or.inl rfl
      refine se_v ?_
      exact sn_lst (sa_cons (se_tup (sa_cons (sv 1) (sa_cons (sv 2) (sa_cons (sv 5) sa_nil)))) sa_nil)
    refine ss_cons ?_ ?_
    · exact s_asg (se_cal C__law_paper (hr.mono (by decide)) rfl (sa_cons (sv 5) (sa_cons (sv 1) (sa_cons (sv 2) (sa_cons (sv 3) (sa_cons (sv 4) sa_nil)))))) (sg_tup rfl (sgs_cons (sg_name (i := 7) sc_law.nd rfl (Or.inl rfl)) (sgs_cons (sg_name (i := 8) sc_law.nd rfl (Or.inl rfl)) (sgs_cons (sg_name (i := 9) sc_law.nd rfl (Or.inl rfl)) (sgs_cons (sg_name (i := 10) sc_law.nd rfl (Or.inl rfl)) (sgs_cons (sg_name (i := 11) sc_law.nd rfl (Or.inl rfl)) sgs_nil))))))
    refine ss_cons ?_ ?_
    · refine s_set (i := 12) ?_ ?_ ?_ ?_
      · exact sc_law.nd
      · exact rfl
      · exact Or.inl rfl
      exact se_cal C__law_due (hr.mono (by decide)) rfl (sa_cons (sv 7) (sa_cons (sv 9) (sa_cons (sv 1) (sa_cons (sv 2) (sa_cons (sv 3) sa_nil)))))
    refine ss_cons ?_ ?_
    · refine s_set (i := 13) ?_ ?_ ?_ ?_
      · exact sc_law.nd
      · exact rfl
      · exact Or.inl rfl
      exact se_op ok_mod (se_op ok_sub (se_op ok_plus (sv 3) (sv 1)) se_int) (sv 2)
    refine ss_cons ?_ ?_
    · refine s_set (i := 14) ?_ ?_ ?_ ?_
      · exact sc_law.nd
      · exact rfl
      · exact Or.inl rfl
      exact se_op ok_sub (se_callB ok_len rfl T.b_len PySem.boot_len (sa_cons (sv 7) sa_nil)) se_int
    refine ss_cons ?_ ?_
    · refine s_set (i := 7) ?_ ?_ ?_ ?_
      · exact sc_law.nd
      · exact rfl
      · exact Or.inl rfl
      exact se_op ok_plus (sv 7) (se_v (sn_lst (sa_cons (se_tup (sa_cons se_str (sa_cons (sv 3) sa_nil))) (sa_cons (se_tup (sa_cons se_str (sa_cons (se_op ok_plus (sv 14) se_int) (sa_cons (sv 14) sa_nil)))) (sa_cons (se_tup (sa_cons se_str (sa_cons (se_op ok_plus (sv 14) se_int) (sa_cons (sv 11) (sa_cons (sv 3) sa_nil))))) (sa_cons (se_tup (sa_cons se_str (sa_cons (se_op ok_plus (sv 14) se_int) (sa_cons (sv 14) sa_nil)))) sa_nil))))))
    refine ss_cons ?_ ?_
    · refine s_set (i := 15) ?_ ?_ ?_ ?_
      · exact sc_law.nd
      · exact rfl
      · exact Or.inl rfl
      exact se_ix ok_ix (sv 9) (se_un ok_neg se_int) (fun _ _ => rfl)
    refine ss_cons ?_ ?_
    · refine s_set (i := 12) ?_ ?_ ?_ ?_
      · exact sc_law.nd
      · exact rfl
      · exact Or.inl rfl
      exact se_t (sn_cat (sv 12) (se_v (sn_lst (sa_cons (se_tup (sa_cons se_str (sa_cons se_int (sa_cons se_int (sa_cons (sv 3) (sa_cons se_int sa_nil)))))) (sa_cons (se_tup (sa_cons se_str (sa_cons se_int (sa_cons (se_op ok_sub (sv 1) se_int) (sa_cons (sv 13) (sa_cons (sv 15) sa_nil)))))) (sa_cons (se_tup (sa_cons se_str (sa_cons se_int (sa_cons se_int (sa_cons (sv 3) (sa_cons (se_op ok_plus (sv 15) (se_ix ok_ix (se_ix ok_ix (sv 5) (sv 11) (fun _ _ => rfl)) se_int (fun _ _ => rfl))) sa_nil)))))) sa_nil))))))
    refine ss_cons ?_ ?_
    · exact s_expr (se_append (sv 12) (sa_cons (se_tup (sa_cons se_str (sa_cons se_int (sa_cons (se_op ok_sub (sv 1) se_int) (sa_cons (sv 13) (sa_cons (se_op ok_plus (se_op ok_timesI se_int (sv 15)) (se_ix ok_ix (se_ix ok_ix (sv 5) (sv 11) (fun _ _ => rfl)) se_int (fun _ _ => rfl))) sa_nil)))))) sa_nil))
    refine ss_cons ?_ ?_
    · refine s_if ?_ ?_ ?_
      · exact st_cmp (ok_ne hr.units) (se_cal C_claims (hr.mono (by decide)) rfl (sa_cons (sv 6) (sa_cons (se_op ok_shl se_int (sv 3)) (sa_cons (sv 7) sa_nil)))) (sv 12) (nomark _)
      · refine ss_one ?_
        refine s_ret ?_
        exact se_bl
      exact ss_nil
    refine ss_cons ?_ ?_
    · refine s_if ?_ ?_ ?_
      · exact st_w (sw_and (st_cmp ok_gt (sv 10) se_int (nomark _)) (sw_and1 (st_not (st_truth (se_cal C__law_late (hr.mono (by decide)) rfl (sa_cons (sv 6) (sa_cons (se_op ok_shl se_int (sv 3)) (sa_cons (sv 7) (sa_cons (se_op ok_plus (sv 14) se_int) (sa_cons se_int sa_nil))))))))))
      · refine ss_one ?_
        refine s_ret ?_
        exact se_bl
      exact ss_nil
    refine ss_cons ?_ ?_
    · refine s_if ?_ ?_ ?_
      · exact st_w (sw_and (st_cmp ok_le (sv 10) se_int (nomark _)) (sw_and1 (st_cmp (ok_ne hr.units) (se_calX C_unrolled (hr.mono (by decide)) rfl (sa_cons (sv 6) (sa_cons (se_op ok_shl se_int (sv 3)) (sa_cons (sv 7) (sa_cons (se_op ok_plus (sv 14) se_int) (sa_cons (sv 10) sa_nil)))))) (se_tup (sa_cons (sv 3) (sa_cons (sv 8) sa_nil))) (nomark _))))
      · refine ss_one ?_
        refine s_ret ?_
        exact se_bl
      exact ss_nil
    refine ss_cons ?_ ?_
    · refine s_if ?_ ?_ ?_
      · exact st_cmp ok_gt (se_op ok_plus (se_op ok_timesI se_int (sv 10)) se_int) se_int (nomark _)
      · refine ss_one ?_
        refine s_ret ?_
        exact se_cal C__law_late (hr.mono (by decide)) rfl (sa_cons (sv 6) (sa_cons (se_op ok_shl se_int (sv 3)) (sa_cons (sv 7) (sa_cons (se_op ok_plus (sv 14) se_int) (sa_cons se_int sa_nil)))))
      exact ss_nil
    refine ss_one ?_
    refine s_ret ?_
    exact se_cmp (ok_eq hr.units) (se_calXF C_unrolled__F1 (hr.mono (by decide)) rfl (sa_cons (sv 6) (sa_cons (se_op ok_shl se_int (sv 3)) (sa_cons (sv 7) (sa_cons (se_op ok_plus (sv 14) se_int) sa_nil))))) (se_tup (sa_cons (sv 3) (sa_cons (se_op ok_plus (se_op ok_plus (sv 8) (se_v (sn_lst (sa_cons (se_tup (sa_cons se_str (sa_cons (sv 11) (sa_cons (sv 3) sa_nil)))) sa_nil)))) (sv 8)) sa_nil))) (nomark _)) imp_law
end
theorem kd_MOVE_TABLES {P : Program} {w : World} {K : PySem.W.Frag} {a : Addr} {t1 t2 t3 t4 t5 t6 : Tok} {ep : Nat} (l : K.lookup a = some { cls := .type "dict", data := .dict #[{ hash := PyData.keyHash w.params "step", key := .str "step" t1, val := .int 4 t2 }, { hash := PyData.keyHash w.params "in", key := .str "in" t3, val := .int 5 t4 }, { hash := PyData.keyHash w.params "over", key := .str "over" t5, val := .int 7 t6 }] ep }) : KDict P w K a (k_MOVE_TABLES.map fun p => (p.1, V.int p.2)) := by
  have ks : ∀ (x : Str) (t : Tok), keyIs (.inr x) (.str x t) = true := fun x t => by simp [keyIs, Value.isStrOf]
  refine ⟨_, _, _, [(.inr "step", .int 4 t2), (.inr "in", .int 5 t4), (.inr "over", .int 7 t6)], l, ⟨rfl, rfl, rfl⟩, rfl, ?_, .cons (ks _ t1) rfl (.cons (ks _ t3) rfl (.cons (ks _ t5) rfl .nil)), (show [(.inr "step" : Key), .inr "in", .inr "over"].Nodup by decide +kernel), .cons ⟨rfl, ⟨_, rfl⟩⟩ (.cons ⟨rfl, ⟨_, rfl⟩⟩ (.cons ⟨rfl, ⟨_, rfl⟩⟩ .nil))⟩
  intro e he
  simp only [List.mem_toArray, List.mem_cons, List.not_mem_nil, or_false] at he
  rcases he with rfl | rfl | rfl
  · exact ⟨.inr "step", ks _ t1, rfl⟩
  · exact ⟨.inr "in", ks _ t3, rfl⟩
  · exact ⟨.inr "over", ks _ t5, rfl⟩
theorem len_s {α : Type} {n : Nat} {us : List α} (h : us.length = n + 1) : ∃ a t, us = a :: t ∧ t.length = n := by
  cases us with
  | nil => cases h
  | cons a t => exact ⟨a, t, rfl, Nat.succ.inj h⟩
theorem len_z {α : Type} {us : List α} (h : us.length = 0) : us = [] := List.length_eq_zero_iff.mp h
theorem ln1 {F : FuncData} {ps : List Str} {us : List Value} (h : us.length = 1) (k : ∀ a, bindArgs F ⟨[a], []⟩ = pure (ps.zip [a])) : bindArgs F ⟨us, []⟩ = pure (ps.zip us) := by
  obtain ⟨a, us1, rfl, h1⟩ := len_s h
  cases len_z h1
  exact k a
theorem ln2 {F : FuncData} {ps : List Str} {us : List Value} (h : us.length = 2) (k : ∀ a b, bindArgs F ⟨[a, b], []⟩ = pure (ps.zip [a, b])) : bindArgs F ⟨us, []⟩ = pure (ps.zip us) := by
  obtain ⟨a, us1, rfl, h1⟩ := len_s h
  obtain ⟨b, us2, rfl, h2⟩ := len_s h1
  cases len_z h2
  exact k a b
theorem ln3 {F : FuncData} {ps : List Str} {us : List Value} (h : us.length = 3) (k : ∀ a b c, bindArgs F ⟨[a, b, c], []⟩ = pure (ps.zip [a, b, c])) : bindArgs F ⟨us, []⟩ = pure (ps.zip us) := by
  obtain ⟨a, us1, rfl, h1⟩ := len_s h
  obtain ⟨b, us2, rfl, h2⟩ := len_s h1
  obtain ⟨c, us3, rfl, h3⟩ := len_s h2
  cases len_z h3
  exact k a b c
theorem ln4 {F : FuncData} {ps : List Str} {us : List Value} (h : us.length = 4) (k : ∀ a b c d, bindArgs F ⟨[a, b, c, d], []⟩ = pure (ps.zip [a, b, c, d])) : bindArgs F ⟨us, []⟩ = pure (ps.zip us) := by
  obtain ⟨a, us1, rfl, h1⟩ := len_s h
  obtain ⟨b, us2, rfl, h2⟩ := len_s h1
  obtain ⟨c, us3, rfl, h3⟩ := len_s h2
  obtain ⟨d, us4, rfl, h4⟩ := len_s h3
  cases len_z h4
  exact k a b c d
theorem ln5 {F : FuncData} {ps : List Str} {us : List Value} (h : us.length = 5) (k : ∀ a b c d e, bindArgs F ⟨[a, b, c, d, e], []⟩ = pure (ps.zip [a, b, c, d, e])) : bindArgs F ⟨us, []⟩ = pure (ps.zip us) := by
  obtain ⟨a, us1, rfl, h1⟩ := len_s h
  obtain ⟨b, us2, rfl, h2⟩ := len_s h1
  obtain ⟨c, us3, rfl, h3⟩ := len_s h2
  obtain ⟨d, us4, rfl, h4⟩ := len_s h3
  obtain ⟨e, us5, rfl, h5⟩ := len_s h4
  cases len_z h5
  exact k a b c d e
theorem lnD4 {p : List Value → Prop} {us : List Value} (h : us.length = 4) (k : ∀ a b c d, p [a, b, c, d]) : p us := by
  obtain ⟨a, us1, rfl, h1⟩ := len_s h
  obtain ⟨b, us2, rfl, h2⟩ := len_s h1
  obtain ⟨c, us3, rfl, h3⟩ := len_s h2
  obtain ⟨d, us4, rfl, h4⟩ := len_s h3
  cases len_z h4
  exact k a b c d
theorem lnD5 {p : List Value → Prop} {us : List Value} (h : us.length = 5) (k : ∀ a b c d e, p [a, b, c, d, e]) : p us := by
  obtain ⟨a, us1, rfl, h1⟩ := len_s h
  obtain ⟨b, us2, rfl, h2⟩ := len_s h1
  obtain ⟨c, us3, rfl, h3⟩ := len_s h2
  obtain ⟨d, us4, rfl, h4⟩ := len_s h3
  obtain ⟨e, us5, rfl, h5⟩ := len_s h4
  cases len_z h5
  exact k a b c d e
theorem all_mk {l : PySem.W.OpenLaw} {w : World} {K : PySem.W.Frag} {h : Heap} {mg : Str → Option Value} {fa a_facts_in a_brings a_exit_of a_start_facts a_edge_taken a_claims a_claim_of a_claim_ahead a_begin_claim a_start_claim a_edge_claim a_short_claim a_in_claim a_along_claim a_move_of a_unrolled a_parts_of a_counted a_first_fact a_moves_of a__law_cell a__law_number a__law_edges a__law_paper a__law_due a__law_late a__law_long_row a_law : Addr} (X : K.In h) (G : h.Ns mainGlobals mg) (hfa : mg "law" = some (.ref fa))
    {od_facts_in an_facts_in : Option Addr} {sl_facts_in : Array (Option Value)} {oc_facts_in kV_facts_in dc_facts_in pm_facts_in cd_facts_in ct_facts_in : Value}
    {od_brings an_brings : Option Addr} {sl_brings : Array (Option Value)} {oc_brings kV_brings dc_brings pm_brings cd_brings ct_brings : Value}
    {od_exit_of an_exit_of : Option Addr} {sl_exit_of : Array (Option Value)} {oc_exit_of kV_exit_of dc_exit_of pm_exit_of cd_exit_of ct_exit_of : Value}
    {od_start_facts an_start_facts : Option Addr} {sl_start_facts : Array (Option Value)} {oc_start_facts kV_start_facts dc_start_facts pm_start_facts cd_start_facts ct_start_facts : Value}
    {od_edge_taken an_edge_taken : Option Addr} {sl_edge_taken : Array (Option Value)} {oc_edge_taken kV_edge_taken dc_edge_taken pm_edge_taken cd_edge_taken ct_edge_taken : Value}
    {od_claims an_claims : Option Addr} {sl_claims : Array (Option Value)} {oc_claims kV_claims dc_claims pm_claims cd_claims ct_claims : Value}
    {od_claim_of an_claim_of : Option Addr} {sl_claim_of : Array (Option Value)} {oc_claim_of kV_claim_of dc_claim_of pm_claim_of cd_claim_of ct_claim_of : Value}
    {od_claim_ahead an_claim_ahead : Option Addr} {sl_claim_ahead : Array (Option Value)} {oc_claim_ahead kV_claim_ahead dc_claim_ahead pm_claim_ahead cd_claim_ahead ct_claim_ahead : Value}
    {od_begin_claim an_begin_claim : Option Addr} {sl_begin_claim : Array (Option Value)} {oc_begin_claim kV_begin_claim dc_begin_claim pm_begin_claim cd_begin_claim ct_begin_claim : Value}
    {od_start_claim an_start_claim : Option Addr} {sl_start_claim : Array (Option Value)} {oc_start_claim kV_start_claim dc_start_claim pm_start_claim cd_start_claim ct_start_claim : Value}
    {od_edge_claim an_edge_claim : Option Addr} {sl_edge_claim : Array (Option Value)} {oc_edge_claim kV_edge_claim dc_edge_claim pm_edge_claim cd_edge_claim ct_edge_claim : Value}
    {od_short_claim an_short_claim : Option Addr} {sl_short_claim : Array (Option Value)} {oc_short_claim kV_short_claim dc_short_claim pm_short_claim cd_short_claim ct_short_claim : Value}
    {od_in_claim an_in_claim : Option Addr} {sl_in_claim : Array (Option Value)} {oc_in_claim kV_in_claim dc_in_claim pm_in_claim cd_in_claim ct_in_claim : Value}
    {od_along_claim an_along_claim : Option Addr} {sl_along_claim : Array (Option Value)} {oc_along_claim kV_along_claim dc_along_claim pm_along_claim cd_along_claim ct_along_claim : Value}
    {od_move_of an_move_of : Option Addr} {sl_move_of : Array (Option Value)} {oc_move_of kV_move_of dc_move_of pm_move_of cd_move_of ct_move_of : Value}
    {od_unrolled an_unrolled : Option Addr} {sl_unrolled : Array (Option Value)} {oc_unrolled kV_unrolled dc_unrolled pm_unrolled cd_unrolled ct_unrolled : Value}
    {od_parts_of an_parts_of : Option Addr} {sl_parts_of : Array (Option Value)} {oc_parts_of kV_parts_of dc_parts_of pm_parts_of cd_parts_of ct_parts_of : Value}
    {od_counted an_counted : Option Addr} {sl_counted : Array (Option Value)} {oc_counted kV_counted dc_counted pm_counted cd_counted ct_counted : Value}
    {od_first_fact an_first_fact : Option Addr} {sl_first_fact : Array (Option Value)} {oc_first_fact kV_first_fact dc_first_fact pm_first_fact cd_first_fact ct_first_fact : Value}
    {od_moves_of an_moves_of : Option Addr} {sl_moves_of : Array (Option Value)} {oc_moves_of kV_moves_of dc_moves_of pm_moves_of cd_moves_of ct_moves_of : Value}
    {od__law_cell an__law_cell : Option Addr} {sl__law_cell : Array (Option Value)} {oc__law_cell kV__law_cell dc__law_cell pm__law_cell cd__law_cell ct__law_cell : Value}
    {od__law_number an__law_number : Option Addr} {sl__law_number : Array (Option Value)} {oc__law_number kV__law_number dc__law_number pm__law_number cd__law_number ct__law_number : Value}
    {od__law_edges an__law_edges : Option Addr} {sl__law_edges : Array (Option Value)} {oc__law_edges kV__law_edges dc__law_edges pm__law_edges cd__law_edges ct__law_edges : Value}
    {od__law_paper an__law_paper : Option Addr} {sl__law_paper : Array (Option Value)} {oc__law_paper kV__law_paper dc__law_paper pm__law_paper cd__law_paper ct__law_paper : Value}
    {od__law_due an__law_due : Option Addr} {sl__law_due : Array (Option Value)} {oc__law_due kV__law_due dc__law_due pm__law_due cd__law_due ct__law_due : Value}
    {od__law_late an__law_late : Option Addr} {sl__law_late : Array (Option Value)} {oc__law_late kV__law_late dc__law_late pm__law_late cd__law_late ct__law_late : Value}
    {od__law_long_row an__law_long_row : Option Addr} {sl__law_long_row : Array (Option Value)} {oc__law_long_row kV__law_long_row dc__law_long_row pm__law_long_row cd__law_long_row ct__law_long_row : Value}
    {od_law an_law : Option Addr} {sl_law : Array (Option Value)} {oc_law kV_law dc_law pm_law cd_law ct_law : Value}
    (e_facts_in : PySem.W.nsIn K mainGlobals "facts_in" = some (some (.ref a_facts_in))) (l_facts_in : K.lookup a_facts_in = some ⟨oc_facts_in, od_facts_in, .func (PySem.W.fnOf "facts_in" "facts_in" (defArgs s_facts_in) (defBody s_facts_in) (defScope s_facts_in) .none kV_facts_in dc_facts_in pm_facts_in an_facts_in cd_facts_in ct_facts_in), sl_facts_in⟩) (c_facts_in : PySem.W.codeIn K cd_facts_in "facts_in" = true) (k_facts_in : PySem.W.keepIn K (.ref a_facts_in) = true)
    (e_brings : PySem.W.nsIn K mainGlobals "brings" = some (some (.ref a_brings))) (l_brings : K.lookup a_brings = some ⟨oc_brings, od_brings, .func (PySem.W.fnOf "brings" "brings" (defArgs s_brings) (defBody s_brings) (defScope s_brings) .none kV_brings dc_brings pm_brings an_brings cd_brings ct_brings), sl_brings⟩) (c_brings : PySem.W.codeIn K cd_brings "brings" = true) (k_brings : PySem.W.keepIn K (.ref a_brings) = true)
    (e_exit_of : PySem.W.nsIn K mainGlobals "exit_of" = some (some (.ref a_exit_of))) (l_exit_of : K.lookup a_exit_of = some ⟨oc_exit_of, od_exit_of, .func (PySem.W.fnOf "exit_of" "exit_of" (defArgs s_exit_of) (defBody s_exit_of) (defScope s_exit_of) .none kV_exit_of dc_exit_of pm_exit_of an_exit_of cd_exit_of ct_exit_of), sl_exit_of⟩) (c_exit_of : PySem.W.codeIn K cd_exit_of "exit_of" = true) (k_exit_of : PySem.W.keepIn K (.ref a_exit_of) = true)
    (e_start_facts : PySem.W.nsIn K mainGlobals "start_facts" = some (some (.ref a_start_facts))) (l_start_facts : K.lookup a_start_facts = some ⟨oc_start_facts, od_start_facts, .func (PySem.W.fnOf "start_facts" "start_facts" (defArgs s_start_facts) (defBody s_start_facts) (defScope s_start_facts) .none kV_start_facts dc_start_facts pm_start_facts an_start_facts cd_start_facts ct_start_facts), sl_start_facts⟩) (c_start_facts : PySem.W.codeIn K cd_start_facts "start_facts" = true) (k_start_facts : PySem.W.keepIn K (.ref a_start_facts) = true)
    (e_edge_taken : PySem.W.nsIn K mainGlobals "edge_taken" = some (some (.ref a_edge_taken))) (l_edge_taken : K.lookup a_edge_taken = some ⟨oc_edge_taken, od_edge_taken, .func (PySem.W.fnOf "edge_taken" "edge_taken" (defArgs s_edge_taken) (defBody s_edge_taken) (defScope s_edge_taken) .none kV_edge_taken dc_edge_taken pm_edge_taken an_edge_taken cd_edge_taken ct_edge_taken), sl_edge_taken⟩) (c_edge_taken : PySem.W.codeIn K cd_edge_taken "edge_taken" = true) (k_edge_taken : PySem.W.keepIn K (.ref a_edge_taken) = true)
    (e_claims : PySem.W.nsIn K mainGlobals "claims" = some (some (.ref a_claims))) (l_claims : K.lookup a_claims = some ⟨oc_claims, od_claims, .func (PySem.W.fnOf "claims" "claims" (defArgs s_claims) (defBody s_claims) (defScope s_claims) .none kV_claims dc_claims pm_claims an_claims cd_claims ct_claims), sl_claims⟩) (c_claims : PySem.W.codeIn K cd_claims "claims" = true) (k_claims : PySem.W.keepIn K (.ref a_claims) = true)
    (e_claim_of : PySem.W.nsIn K mainGlobals "claim_of" = some (some (.ref a_claim_of))) (l_claim_of : K.lookup a_claim_of = some ⟨oc_claim_of, od_claim_of, .func (PySem.W.fnOf "claim_of" "claim_of" (defArgs s_claim_of) (defBody s_claim_of) (defScope s_claim_of) .none kV_claim_of dc_claim_of pm_claim_of an_claim_of cd_claim_of ct_claim_of), sl_claim_of⟩) (c_claim_of : PySem.W.codeIn K cd_claim_of "claim_of" = true) (k_claim_of : PySem.W.keepIn K (.ref a_claim_of) = true)
    (e_claim_ahead : PySem.W.nsIn K mainGlobals "claim_ahead" = some (some (.ref a_claim_ahead))) (l_claim_ahead : K.lookup a_claim_ahead = some ⟨oc_claim_ahead, od_claim_ahead, .func (PySem.W.fnOf "claim_ahead" "claim_ahead" (defArgs s_claim_ahead) (defBody s_claim_ahead) (defScope s_claim_ahead) .none kV_claim_ahead dc_claim_ahead pm_claim_ahead an_claim_ahead cd_claim_ahead ct_claim_ahead), sl_claim_ahead⟩) (c_claim_ahead : PySem.W.codeIn K cd_claim_ahead "claim_ahead" = true) (k_claim_ahead : PySem.W.keepIn K (.ref a_claim_ahead) = true)
    (e_begin_claim : PySem.W.nsIn K mainGlobals "begin_claim" = some (some (.ref a_begin_claim))) (l_begin_claim : K.lookup a_begin_claim = some ⟨oc_begin_claim, od_begin_claim, .func (PySem.W.fnOf "begin_claim" "begin_claim" (defArgs s_begin_claim) (defBody s_begin_claim) (defScope s_begin_claim) .none kV_begin_claim dc_begin_claim pm_begin_claim an_begin_claim cd_begin_claim ct_begin_claim), sl_begin_claim⟩) (c_begin_claim : PySem.W.codeIn K cd_begin_claim "begin_claim" = true) (k_begin_claim : PySem.W.keepIn K (.ref a_begin_claim) = true)
    (e_start_claim : PySem.W.nsIn K mainGlobals "start_claim" = some (some (.ref a_start_claim))) (l_start_claim : K.lookup a_start_claim = some ⟨oc_start_claim, od_start_claim, .func (PySem.W.fnOf "start_claim" "start_claim" (defArgs s_start_claim) (defBody s_start_claim) (defScope s_start_claim) .none kV_start_claim dc_start_claim pm_start_claim an_start_claim cd_start_claim ct_start_claim), sl_start_claim⟩) (c_start_claim : PySem.W.codeIn K cd_start_claim "start_claim" = true) (k_start_claim : PySem.W.keepIn K (.ref a_start_claim) = true)
    (e_edge_claim : PySem.W.nsIn K mainGlobals "edge_claim" = some (some (.ref a_edge_claim))) (l_edge_claim : K.lookup a_edge_claim = some ⟨oc_edge_claim, od_edge_claim, .func (PySem.W.fnOf "edge_claim" "edge_claim" (defArgs s_edge_claim) (defBody s_edge_claim) (defScope s_edge_claim) .none kV_edge_claim dc_edge_claim pm_edge_claim an_edge_claim cd_edge_claim ct_edge_claim), sl_edge_claim⟩) (c_edge_claim : PySem.W.codeIn K cd_edge_claim "edge_claim" = true) (k_edge_claim : PySem.W.keepIn K (.ref a_edge_claim) = true)
    (e_short_claim : PySem.W.nsIn K mainGlobals "short_claim" = some (some (.ref a_short_claim))) (l_short_claim : K.lookup a_short_claim = some ⟨oc_short_claim, od_short_claim, .func (PySem.W.fnOf "short_claim" "short_claim" (defArgs s_short_claim) (defBody s_short_claim) (defScope s_short_claim) .none kV_short_claim dc_short_claim pm_short_claim an_short_claim cd_short_claim ct_short_claim), sl_short_claim⟩) (c_short_claim : PySem.W.codeIn K cd_short_claim "short_claim" = true) (k_short_claim : PySem.W.keepIn K (.ref a_short_claim) = true)
    (e_in_claim : PySem.W.nsIn K mainGlobals "in_claim" = some (some (.ref a_in_claim))) (l_in_claim : K.lookup a_in_claim = some ⟨oc_in_claim, od_in_claim, .func (PySem.W.fnOf "in_claim" "in_claim" (defArgs s_in_claim) (defBody s_in_claim) (defScope s_in_claim) .none kV_in_claim dc_in_claim pm_in_claim an_in_claim cd_in_claim ct_in_claim), sl_in_claim⟩) (c_in_claim : PySem.W.codeIn K cd_in_claim "in_claim" = true) (k_in_claim : PySem.W.keepIn K (.ref a_in_claim) = true)
    (e_along_claim : PySem.W.nsIn K mainGlobals "along_claim" = some (some (.ref a_along_claim))) (l_along_claim : K.lookup a_along_claim = some ⟨oc_along_claim, od_along_claim, .func (PySem.W.fnOf "along_claim" "along_claim" (defArgs s_along_claim) (defBody s_along_claim) (defScope s_along_claim) .none kV_along_claim dc_along_claim pm_along_claim an_along_claim cd_along_claim ct_along_claim), sl_along_claim⟩) (c_along_claim : PySem.W.codeIn K cd_along_claim "along_claim" = true) (k_along_claim : PySem.W.keepIn K (.ref a_along_claim) = true)
    (e_move_of : PySem.W.nsIn K mainGlobals "move_of" = some (some (.ref a_move_of))) (l_move_of : K.lookup a_move_of = some ⟨oc_move_of, od_move_of, .func (PySem.W.fnOf "move_of" "move_of" (defArgs s_move_of) (defBody s_move_of) (defScope s_move_of) .none kV_move_of dc_move_of pm_move_of an_move_of cd_move_of ct_move_of), sl_move_of⟩) (c_move_of : PySem.W.codeIn K cd_move_of "move_of" = true) (k_move_of : PySem.W.keepIn K (.ref a_move_of) = true)
    {dT_unrolled : Addr} {do_unrolled : Obj} {dn_unrolled : Nat} {dk_unrolled_0 : Tok}
    (e_unrolled : PySem.W.nsIn K mainGlobals "unrolled" = some (some (.ref a_unrolled))) (l_unrolled : K.lookup a_unrolled = some ⟨oc_unrolled, od_unrolled, .func (PySem.W.fnOf "unrolled" "unrolled" (defArgs s_unrolled) (defBody s_unrolled) (defScope s_unrolled) (.ref dT_unrolled) kV_unrolled dc_unrolled pm_unrolled an_unrolled cd_unrolled ct_unrolled), sl_unrolled⟩) (c_unrolled : PySem.W.codeIn K cd_unrolled "unrolled" = true) (k_unrolled : PySem.W.keepIn K (.ref a_unrolled) = true)
    (dl_unrolled : K.lookup dT_unrolled = some do_unrolled) (ds_unrolled : do_unrolled.data = .seq #[.int 400 dk_unrolled_0] dn_unrolled)
    (e_parts_of : PySem.W.nsIn K mainGlobals "parts_of" = some (some (.ref a_parts_of))) (l_parts_of : K.lookup a_parts_of = some ⟨oc_parts_of, od_parts_of, .func (PySem.W.fnOf "parts_of" "parts_of" (defArgs s_parts_of) (defBody s_parts_of) (defScope s_parts_of) .none kV_parts_of dc_parts_of pm_parts_of an_parts_of cd_parts_of ct_parts_of), sl_parts_of⟩) (c_parts_of : PySem.W.codeIn K cd_parts_of "parts_of" = true) (k_parts_of : PySem.W.keepIn K (.ref a_parts_of) = true)
    (e_counted : PySem.W.nsIn K mainGlobals "counted" = some (some (.ref a_counted))) (l_counted : K.lookup a_counted = some ⟨oc_counted, od_counted, .func (PySem.W.fnOf "counted" "counted" (defArgs s_counted) (defBody s_counted) (defScope s_counted) .none kV_counted dc_counted pm_counted an_counted cd_counted ct_counted), sl_counted⟩) (c_counted : PySem.W.codeIn K cd_counted "counted" = true) (k_counted : PySem.W.keepIn K (.ref a_counted) = true)
    (e_first_fact : PySem.W.nsIn K mainGlobals "first_fact" = some (some (.ref a_first_fact))) (l_first_fact : K.lookup a_first_fact = some ⟨oc_first_fact, od_first_fact, .func (PySem.W.fnOf "first_fact" "first_fact" (defArgs s_first_fact) (defBody s_first_fact) (defScope s_first_fact) .none kV_first_fact dc_first_fact pm_first_fact an_first_fact cd_first_fact ct_first_fact), sl_first_fact⟩) (c_first_fact : PySem.W.codeIn K cd_first_fact "first_fact" = true) (k_first_fact : PySem.W.keepIn K (.ref a_first_fact) = true)
    (e_moves_of : PySem.W.nsIn K mainGlobals "moves_of" = some (some (.ref a_moves_of))) (l_moves_of : K.lookup a_moves_of = some ⟨oc_moves_of, od_moves_of, .func (PySem.W.fnOf "moves_of" "moves_of" (defArgs s_moves_of) (defBody s_moves_of) (defScope s_moves_of) .none kV_moves_of dc_moves_of pm_moves_of an_moves_of cd_moves_of ct_moves_of), sl_moves_of⟩) (c_moves_of : PySem.W.codeIn K cd_moves_of "moves_of" = true) (k_moves_of : PySem.W.keepIn K (.ref a_moves_of) = true)
    (e__law_cell : PySem.W.nsIn K mainGlobals "_law_cell" = some (some (.ref a__law_cell))) (l__law_cell : K.lookup a__law_cell = some ⟨oc__law_cell, od__law_cell, .func (PySem.W.fnOf "_law_cell" "_law_cell" (defArgs s__law_cell) (defBody s__law_cell) (defScope s__law_cell) .none kV__law_cell dc__law_cell pm__law_cell an__law_cell cd__law_cell ct__law_cell), sl__law_cell⟩) (c__law_cell : PySem.W.codeIn K cd__law_cell "_law_cell" = true) (k__law_cell : PySem.W.keepIn K (.ref a__law_cell) = true)
    (e__law_number : PySem.W.nsIn K mainGlobals "_law_number" = some (some (.ref a__law_number))) (l__law_number : K.lookup a__law_number = some ⟨oc__law_number, od__law_number, .func (PySem.W.fnOf "_law_number" "_law_number" (defArgs s__law_number) (defBody s__law_number) (defScope s__law_number) .none kV__law_number dc__law_number pm__law_number an__law_number cd__law_number ct__law_number), sl__law_number⟩) (c__law_number : PySem.W.codeIn K cd__law_number "_law_number" = true) (k__law_number : PySem.W.keepIn K (.ref a__law_number) = true)
    (e__law_edges : PySem.W.nsIn K mainGlobals "_law_edges" = some (some (.ref a__law_edges))) (l__law_edges : K.lookup a__law_edges = some ⟨oc__law_edges, od__law_edges, .func (PySem.W.fnOf "_law_edges" "_law_edges" (defArgs s__law_edges) (defBody s__law_edges) (defScope s__law_edges) .none kV__law_edges dc__law_edges pm__law_edges an__law_edges cd__law_edges ct__law_edges), sl__law_edges⟩) (c__law_edges : PySem.W.codeIn K cd__law_edges "_law_edges" = true) (k__law_edges : PySem.W.keepIn K (.ref a__law_edges) = true)
    (e__law_paper : PySem.W.nsIn K mainGlobals "_law_paper" = some (some (.ref a__law_paper))) (l__law_paper : K.lookup a__law_paper = some ⟨oc__law_paper, od__law_paper, .func (PySem.W.fnOf "_law_paper" "_law_paper" (defArgs s__law_paper) (defBody s__law_paper) (defScope s__law_paper) .none kV__law_paper dc__law_paper pm__law_paper an__law_paper cd__law_paper ct__law_paper), sl__law_paper⟩) (c__law_paper : PySem.W.codeIn K cd__law_paper "_law_paper" = true) (k__law_paper : PySem.W.keepIn K (.ref a__law_paper) = true)
    (e__law_due : PySem.W.nsIn K mainGlobals "_law_due" = some (some (.ref a__law_due))) (l__law_due : K.lookup a__law_due = some ⟨oc__law_due, od__law_due, .func (PySem.W.fnOf "_law_due" "_law_due" (defArgs s__law_due) (defBody s__law_due) (defScope s__law_due) .none kV__law_due dc__law_due pm__law_due an__law_due cd__law_due ct__law_due), sl__law_due⟩) (c__law_due : PySem.W.codeIn K cd__law_due "_law_due" = true) (k__law_due : PySem.W.keepIn K (.ref a__law_due) = true)
    (e__law_late : PySem.W.nsIn K mainGlobals "_law_late" = some (some (.ref a__law_late))) (l__law_late : K.lookup a__law_late = some ⟨oc__law_late, od__law_late, .func (PySem.W.fnOf "_law_late" "_law_late" (defArgs s__law_late) (defBody s__law_late) (defScope s__law_late) .none kV__law_late dc__law_late pm__law_late an__law_late cd__law_late ct__law_late), sl__law_late⟩) (c__law_late : PySem.W.codeIn K cd__law_late "_law_late" = true) (k__law_late : PySem.W.keepIn K (.ref a__law_late) = true)
    (e__law_long_row : PySem.W.nsIn K mainGlobals "_law_long_row" = some (some (.ref a__law_long_row))) (l__law_long_row : K.lookup a__law_long_row = some ⟨oc__law_long_row, od__law_long_row, .func (PySem.W.fnOf "_law_long_row" "_law_long_row" (defArgs s__law_long_row) (defBody s__law_long_row) (defScope s__law_long_row) .none kV__law_long_row dc__law_long_row pm__law_long_row an__law_long_row cd__law_long_row ct__law_long_row), sl__law_long_row⟩) (c__law_long_row : PySem.W.codeIn K cd__law_long_row "_law_long_row" = true) (k__law_long_row : PySem.W.keepIn K (.ref a__law_long_row) = true)
    (e_law : PySem.W.nsIn K mainGlobals "law" = some (some (.ref a_law))) (l_law : K.lookup a_law = some ⟨oc_law, od_law, .func (PySem.W.fnOf "law" "law" (defArgs s_law) (defBody s_law) (defScope s_law) .none kV_law dc_law pm_law an_law cd_law ct_law), sl_law⟩) (c_law : PySem.W.codeIn K cd_law "law" = true) (k_law : PySem.W.keepIn K (.ref a_law) = true)
    (z_int : PySem.W.nsIn K mainGlobals "int" = some none)
    (z_isinstance : PySem.W.nsIn K mainGlobals "isinstance" = some none)
    (z_len : PySem.W.nsIn K mainGlobals "len" = some none)
    (z_list : PySem.W.nsIn K mainGlobals "list" = some none)
    (z_max : PySem.W.nsIn K mainGlobals "max" = some none)
    (z_min : PySem.W.nsIn K mainGlobals "min" = some none)
    (z_range : PySem.W.nsIn K mainGlobals "range" = some none)
    (z_reversed : PySem.W.nsIn K mainGlobals "reversed" = some none)
    (z_tuple : PySem.W.nsIn K mainGlobals "tuple" = some none)
    {da_MOVE_TABLES : Addr} {t1 t2 t3 t4 t5 t6 : Tok} {ep : Nat} (y_MOVE_TABLES : PySem.W.nsIn K mainGlobals "MOVE_TABLES" = some (some (.ref da_MOVE_TABLES))) (d_MOVE_TABLES : K.lookup da_MOVE_TABLES = some { cls := .type "dict", data := .dict #[{ hash := PyData.keyHash w.params "step", key := .str "step" t1, val := .int 4 t2 }, { hash := PyData.keyHash w.params "in", key := .str "in" t3, val := .int 5 t4 }, { hash := PyData.keyHash w.params "over", key := .str "over" t5, val := .int 7 t6 }] ep })
    {C_TooLong : Addr} (e_TooLong : PySem.W.nsIn K mainGlobals "TooLong" = some (some (.ref C_TooLong)))
    {xnm xq : Str} {xN : Addr} {xbs xbm xsub : List Value} {xsn : List Str} {xab : Bool} {xcol : Option Bool} {xdd : Option Addr} {x0 x1 x2 x3 x5 : Option Value}
    (l_TooLong : K.lookup C_TooLong = some (excClassObj xnm xq C_TooLong xN xbs xbm true xsn xsub xab xcol xdd x0 x1 x2 x3 x5 "ValueError.__new__")) (t_TooLong : PySem.W.tailIn K bmV xbm = true) (o_TooLong : PySem.W.nsOkIn K xN = true) (i_TooLong : PySem.W.nsIn K xN "__init__" = some none)
    (ga_TooLong : PySem.W.findIn K (.ref C_TooLong) "__getattribute__" = some (some (.builtin "BaseException.__getattribute__"))) (gg_TooLong : PySem.W.findIn K (.ref C_TooLong) "__getattr__" = some none) (cl_TooLong : PySem.W.findIn K (.ref C_TooLong) "__class__" = some (some (.builtin "object.__class__"))) (cg_TooLong : PySem.W.specialIn K (.builtin "object.__class__") "__get__" = some (some (.builtin "getset_descriptor.__get__"))) (ct_TooLong : PySem.W.takesIn K (.builtin "object.__class__") = some true) (mo_TooLong : PySem.W.mroIn K C_TooLong (.type "object") = some true)
    (m_TooLong : PySem.W.exmOne K (.ref C_TooLong) (.ref C_TooLong) = some true)
    : ∃ fd : FuncData, (∀ (s : Shared) (v : Value), BindsTo s fd ⟨[v], []⟩ [("_law_script", v)]) ∧ ∀ base : Heap, K.In base → base.Ns mainGlobals mg → FnOk l.prog w K mg base CX0 10 fa fd ["_law_script"] (spD K 1 S_law) := by
  have e := hfa.symm.trans (PySem.W.mg_of X G e_law)
  cases e
  have X0 : XCls0 K C_TooLong := ⟨⟨_, _, _, _, _, _, _, _, _, _, _, _, _, _, _, l_TooLong, t_TooLong, o_TooLong, i_TooLong⟩⟩
  have XI : XIs K C_TooLong := ⟨⟨_, _, _, _, _, _, _, _, _, _, _, _, _, _, _, l_TooLong, t_TooLong⟩, ga_TooLong, gg_TooLong, cl_TooLong, cg_TooLong, ct_TooLong, mo_TooLong⟩
  have T : Txt l.prog w K mg := ⟨PySem.W.mg_none_of X G z_int, PySem.W.mg_none_of X G z_isinstance, PySem.W.mg_none_of X G z_len, PySem.W.mg_none_of X G z_list, PySem.W.mg_none_of X G z_max, PySem.W.mg_none_of X G z_min, PySem.W.mg_none_of X G z_range, PySem.W.mg_none_of X G z_reversed, PySem.W.mg_none_of X G z_tuple, ⟨_, PySem.W.mg_of X G y_MOVE_TABLES, kd_MOVE_TABLES d_MOVE_TABLES⟩, ⟨_, PySem.W.mg_of X G e_TooLong, fun C h => by rw [e_TooLong] at h; cases h; exact m_TooLong⟩⟩
  have F_facts_in := fun_mk (st := s_facts_in) l_facts_in c_facts_in k_facts_in
  have F_brings := fun_mk (st := s_brings) l_brings c_brings k_brings
  have F_exit_of := fun_mk (st := s_exit_of) l_exit_of c_exit_of k_exit_of
  have F_start_facts := fun_mk (st := s_start_facts) l_start_facts c_start_facts k_start_facts
  have F_edge_taken := fun_mk (st := s_edge_taken) l_edge_taken c_edge_taken k_edge_taken
  have F_claims := fun_mk (st := s_claims) l_claims c_claims k_claims
  have F_claim_of := fun_mk (st := s_claim_of) l_claim_of c_claim_of k_claim_of
  have F_claim_ahead := fun_mk (st := s_claim_ahead) l_claim_ahead c_claim_ahead k_claim_ahead
  have F_begin_claim := fun_mk (st := s_begin_claim) l_begin_claim c_begin_claim k_begin_claim
  have F_start_claim := fun_mk (st := s_start_claim) l_start_claim c_start_claim k_start_claim
  have F_edge_claim := fun_mk (st := s_edge_claim) l_edge_claim c_edge_claim k_edge_claim
  have F_short_claim := fun_mk (st := s_short_claim) l_short_claim c_short_claim k_short_claim
  have F_in_claim := fun_mk (st := s_in_claim) l_in_claim c_in_claim k_in_claim
  have F_along_claim := fun_mk (st := s_along_claim) l_along_claim c_along_claim k_along_claim
  have F_move_of := fun_mk (st := s_move_of) l_move_of c_move_of k_move_of
  have F_unrolled := fun_mk (st := s_unrolled) l_unrolled c_unrolled k_unrolled
  have F_parts_of := fun_mk (st := s_parts_of) l_parts_of c_parts_of k_parts_of
  have F_counted := fun_mk (st := s_counted) l_counted c_counted k_counted
  have F_first_fact := fun_mk (st := s_first_fact) l_first_fact c_first_fact k_first_fact
  have F_moves_of := fun_mk (st := s_moves_of) l_moves_of c_moves_of k_moves_of
  have F__law_cell := fun_mk (st := s__law_cell) l__law_cell c__law_cell k__law_cell
  have F__law_number := fun_mk (st := s__law_number) l__law_number c__law_number k__law_number
  have F__law_edges := fun_mk (st := s__law_edges) l__law_edges c__law_edges k__law_edges
  have F__law_paper := fun_mk (st := s__law_paper) l__law_paper c__law_paper k__law_paper
  have F__law_due := fun_mk (st := s__law_due) l__law_due c__law_due k__law_due
  have F__law_late := fun_mk (st := s__law_late) l__law_late c__law_late k__law_late
  have F__law_long_row := fun_mk (st := s__law_long_row) l__law_long_row c__law_long_row k__law_long_row
  have F_law := fun_mk (st := s_law) l_law c_law k_law
  have b_facts_in : Binds K (PySem.W.fnOf "facts_in" "facts_in" (defArgs s_facts_in) (defBody s_facts_in) (defScope s_facts_in) .none kV_facts_in dc_facts_in pm_facts_in an_facts_in cd_facts_in ct_facts_in) ["mask"] [] := .all fun us hl => ln1 hl fun _ => rfl
  have b_brings : Binds K (PySem.W.fnOf "brings" "brings" (defArgs s_brings) (defBody s_brings) (defScope s_brings) .none kV_brings dc_brings pm_brings an_brings cd_brings ct_brings) ["table", "d", "e"] [] := .all fun us hl => ln3 hl fun _ _ _ => rfl
  have b_exit_of : Binds K (PySem.W.fnOf "exit_of" "exit_of" (defArgs s_exit_of) (defBody s_exit_of) (defScope s_exit_of) .none kV_exit_of dc_exit_of pm_exit_of an_exit_of cd_exit_of ct_exit_of) ["chart", "f"] [] := .all fun us hl => ln2 hl fun _ _ => rfl
  have b_start_facts : Binds K (PySem.W.fnOf "start_facts" "start_facts" (defArgs s_start_facts) (defBody s_start_facts) (defScope s_start_facts) .none kV_start_facts dc_start_facts pm_start_facts an_start_facts cd_start_facts ct_start_facts) ["chart", "start"] [] := .all fun us hl => ln2 hl fun _ _ => rfl
  have b_edge_taken : Binds K (PySem.W.fnOf "edge_taken" "edge_taken" (defArgs s_edge_taken) (defBody s_edge_taken) (defScope s_edge_taken) .none kV_edge_taken dc_edge_taken pm_edge_taken an_edge_taken cd_edge_taken ct_edge_taken) ["chart", "here", "move"] [] := .all fun us hl => ln3 hl fun _ _ _ => rfl
  have b_claims : Binds K (PySem.W.fnOf "claims" "claims" (defArgs s_claims) (defBody s_claims) (defScope s_claims) .none kV_claims dc_claims pm_claims an_claims cd_claims ct_claims) ["chart", "start", "rows"] [] := .all fun us hl => ln3 hl fun _ _ _ => rfl
  have b_claim_of : Binds K (PySem.W.fnOf "claim_of" "claim_of" (defArgs s_claim_of) (defBody s_claim_of) (defScope s_claim_of) .none kV_claim_of dc_claim_of pm_claim_of an_claim_of cd_claim_of ct_claim_of) ["chart", "start", "ahead", "row"] [] := .all fun us hl => ln4 hl fun _ _ _ _ => rfl
  have b_claim_ahead : Binds K (PySem.W.fnOf "claim_ahead" "claim_ahead" (defArgs s_claim_ahead) (defBody s_claim_ahead) (defScope s_claim_ahead) .none kV_claim_ahead dc_claim_ahead pm_claim_ahead an_claim_ahead cd_claim_ahead ct_claim_ahead) ["ahead", "k", "sort"] [] := .all fun us hl => ln3 hl fun _ _ _ => rfl
  have b_begin_claim : Binds K (PySem.W.fnOf "begin_claim" "begin_claim" (defArgs s_begin_claim) (defBody s_begin_claim) (defScope s_begin_claim) .none kV_begin_claim dc_begin_claim pm_begin_claim an_begin_claim cd_begin_claim ct_begin_claim) ["chart", "row"] [] := .all fun us hl => ln2 hl fun _ _ => rfl
  have b_start_claim : Binds K (PySem.W.fnOf "start_claim" "start_claim" (defArgs s_start_claim) (defBody s_start_claim) (defScope s_start_claim) .none kV_start_claim dc_start_claim pm_start_claim an_start_claim cd_start_claim ct_start_claim) ["chart", "start", "row"] [] := .all fun us hl => ln3 hl fun _ _ _ => rfl
  have b_edge_claim : Binds K (PySem.W.fnOf "edge_claim" "edge_claim" (defArgs s_edge_claim) (defBody s_edge_claim) (defScope s_edge_claim) .none kV_edge_claim dc_edge_claim pm_edge_claim an_edge_claim cd_edge_claim ct_edge_claim) ["chart", "ahead", "row"] [] := .all fun us hl => ln3 hl fun _ _ _ => rfl
  have b_short_claim : Binds K (PySem.W.fnOf "short_claim" "short_claim" (defArgs s_short_claim) (defBody s_short_claim) (defScope s_short_claim) .none kV_short_claim dc_short_claim pm_short_claim an_short_claim cd_short_claim ct_short_claim) ["chart", "ahead", "row"] [] := .all fun us hl => ln3 hl fun _ _ _ => rfl
  have b_in_claim : Binds K (PySem.W.fnOf "in_claim" "in_claim" (defArgs s_in_claim) (defBody s_in_claim) (defScope s_in_claim) .none kV_in_claim dc_in_claim pm_in_claim an_in_claim cd_in_claim ct_in_claim) ["chart", "ahead", "row"] [] := .all fun us hl => ln3 hl fun _ _ _ => rfl
  have b_along_claim : Binds K (PySem.W.fnOf "along_claim" "along_claim" (defArgs s_along_claim) (defBody s_along_claim) (defScope s_along_claim) .none kV_along_claim dc_along_claim pm_along_claim an_along_claim cd_along_claim ct_along_claim) ["ahead", "row"] [] := .all fun us hl => ln2 hl fun _ _ => rfl
  have b_move_of : Binds K (PySem.W.fnOf "move_of" "move_of" (defArgs s_move_of) (defBody s_move_of) (defScope s_move_of) .none kV_move_of dc_move_of pm_move_of an_move_of cd_move_of ct_move_of) ["row"] [] := .all fun us hl => ln1 hl fun _ => rfl
  have b_unrolled : Binds K (PySem.W.fnOf "unrolled" "unrolled" (defArgs s_unrolled) (defBody s_unrolled) (defScope s_unrolled) (.ref dT_unrolled) kV_unrolled dc_unrolled pm_unrolled an_unrolled cd_unrolled ct_unrolled) ["chart", "start", "rows", "k", "most"] [] := fun s us KI hl => by rw [List.append_nil] at hl ⊢; exact lnD5 (p := fun us => BindsTo s _ ⟨us, []⟩ ((["chart", "start", "rows", "k", "most"] : List Str).zip us)) hl fun _ _ _ _ _ => .of_defaults rfl (KI _ _ dl_unrolled) ds_unrolled rfl rfl
  have b_parts_of : Binds K (PySem.W.fnOf "parts_of" "parts_of" (defArgs s_parts_of) (defBody s_parts_of) (defScope s_parts_of) .none kV_parts_of dc_parts_of pm_parts_of an_parts_of cd_parts_of ct_parts_of) ["told", "row"] [] := .all fun us hl => ln2 hl fun _ _ => rfl
  have b_counted : Binds K (PySem.W.fnOf "counted" "counted" (defArgs s_counted) (defBody s_counted) (defScope s_counted) .none kV_counted dc_counted pm_counted an_counted cd_counted ct_counted) ["parts", "most"] [] := .all fun us hl => ln2 hl fun _ _ => rfl
  have b_first_fact : Binds K (PySem.W.fnOf "first_fact" "first_fact" (defArgs s_first_fact) (defBody s_first_fact) (defScope s_first_fact) .none kV_first_fact dc_first_fact pm_first_fact an_first_fact cd_first_fact ct_first_fact) ["rows", "k"] [] := .all fun us hl => ln2 hl fun _ _ => rfl
  have b_moves_of : Binds K (PySem.W.fnOf "moves_of" "moves_of" (defArgs s_moves_of) (defBody s_moves_of) (defScope s_moves_of) .none kV_moves_of dc_moves_of pm_moves_of an_moves_of cd_moves_of ct_moves_of) ["parts", "k"] [] := .all fun us hl => ln2 hl fun _ _ => rfl
  have b__law_cell : Binds K (PySem.W.fnOf "_law_cell" "_law_cell" (defArgs s__law_cell) (defBody s__law_cell) (defScope s__law_cell) .none kV__law_cell dc__law_cell pm__law_cell an__law_cell cd__law_cell ct__law_cell) ["_law_script", "_law_k"] [] := .all fun us hl => ln2 hl fun _ _ => rfl
  have b__law_number : Binds K (PySem.W.fnOf "_law_number" "_law_number" (defArgs s__law_number) (defBody s__law_number) (defScope s__law_number) .none kV__law_number dc__law_number pm__law_number an__law_number cd__law_number ct__law_number) ["_law_cell_here"] [] := .all fun us hl => ln1 hl fun _ => rfl
  have b__law_edges : Binds K (PySem.W.fnOf "_law_edges" "_law_edges" (defArgs s__law_edges) (defBody s__law_edges) (defScope s__law_edges) .none kV__law_edges dc__law_edges pm__law_edges an__law_edges cd__law_edges ct__law_edges) ["_law_script", "_law_places", "_law_facts"] [] := .all fun us hl => ln3 hl fun _ _ _ => rfl
  have b__law_paper : Binds K (PySem.W.fnOf "_law_paper" "_law_paper" (defArgs s__law_paper) (defBody s__law_paper) (defScope s__law_paper) .none kV__law_paper dc__law_paper pm__law_paper an__law_paper cd__law_paper ct__law_paper) ["_law_edges_here", "_law_places", "_law_facts", "_law_d", "_law_times"] [] := .all fun us hl => ln5 hl fun _ _ _ _ _ => rfl
  have b__law_due : Binds K (PySem.W.fnOf "_law_due" "_law_due" (defArgs s__law_due) (defBody s__law_due) (defScope s__law_due) .none kV__law_due dc__law_due pm__law_due an__law_due cd__law_due ct__law_due) ["_law_rows", "_law_costs", "_law_places", "_law_facts", "_law_d"] [] := .all fun us hl => ln5 hl fun _ _ _ _ _ => rfl
  have b__law_late : Binds K (PySem.W.fnOf "_law_late" "_law_late" (defArgs s__law_late) (defBody s__law_late) (defScope s__law_late) .none kV__law_late dc__law_late pm__law_late an__law_late cd__law_late ct__law_late) ["_law_chart", "_law_start", "_law_rows", "_law_k", "_law_most"] [] := .all fun us hl => ln5 hl fun _ _ _ _ _ => rfl
  have b__law_long_row : Binds K (PySem.W.fnOf "_law_long_row" "_law_long_row" (defArgs s__law_long_row) (defBody s__law_long_row) (defScope s__law_long_row) .none kV__law_long_row dc__law_long_row pm__law_long_row an__law_long_row cd__law_long_row ct__law_long_row) ["_law_script"] [] := .all fun us hl => ln1 hl fun _ => rfl
  refine ⟨PySem.W.fnOf "law" "law" (defArgs s_law) (defBody s_law) (defScope s_law) .none kV_law dc_law pm_law an_law cd_law ct_law, fun s v => .of_eq rfl, fun base _ _ => ?_⟩
  have R_TooLong : RaiseX0 K mg "TooLong" := ⟨_, PySem.W.mg_of X G e_TooLong, e_TooLong, X0⟩
  have C_facts_in : Cal l.prog w K mg base 1 "facts_in" ["mask"] (spD K 1 S_facts_in) := ⟨a_facts_in, _, ok_facts_in F_facts_in T , PySem.W.mg_of X G e_facts_in, k_facts_in, b_facts_in⟩
  have C_exit_of : Cal l.prog w K mg base 1 "exit_of" ["chart", "f"] (spD K 2 S_exit_of) := ⟨a_exit_of, _, ok_exit_of F_exit_of T , PySem.W.mg_of X G e_exit_of, k_exit_of, b_exit_of⟩
  have C_start_facts : Cal l.prog w K mg base 1 "start_facts" ["chart", "start"] (spD K 2 S_start_facts) := ⟨a_start_facts, _, ok_start_facts F_start_facts T , PySem.W.mg_of X G e_start_facts, k_start_facts, b_start_facts⟩
  have C_claim_ahead : Cal l.prog w K mg base 1 "claim_ahead" ["ahead", "k", "sort"] (spD K 3 S_claim_ahead) := ⟨a_claim_ahead, _, ok_claim_ahead F_claim_ahead T , PySem.W.mg_of X G e_claim_ahead, k_claim_ahead, b_claim_ahead⟩
  have C_begin_claim : Cal l.prog w K mg base 1 "begin_claim" ["chart", "row"] (spD K 2 S_begin_claim) := ⟨a_begin_claim, _, ok_begin_claim F_begin_claim T , PySem.W.mg_of X G e_begin_claim, k_begin_claim, b_begin_claim⟩
  have C_move_of : Cal l.prog w K mg base 1 "move_of" ["row"] (spD K 1 S_move_of) := ⟨a_move_of, _, ok_move_of F_move_of T , PySem.W.mg_of X G e_move_of, k_move_of, b_move_of⟩
  have C_counted : Cal l.prog w K mg base 1 "counted" ["parts", "most"] (spD K 2 S_counted) := ⟨a_counted, _, ok_counted F_counted T , PySem.W.mg_of X G e_counted, k_counted, b_counted⟩
  have C_first_fact : Cal l.prog w K mg base 1 "first_fact" ["rows", "k"] (spD K 2 S_first_fact) := ⟨a_first_fact, _, ok_first_fact F_first_fact T , PySem.W.mg_of X G e_first_fact, k_first_fact, b_first_fact⟩
  have C_moves_of : Cal l.prog w K mg base 1 "moves_of" ["parts", "k"] (spD K 2 S_moves_of) := ⟨a_moves_of, _, ok_moves_of F_moves_of T , PySem.W.mg_of X G e_moves_of, k_moves_of, b_moves_of⟩
  have C__law_cell : Cal l.prog w K mg base 1 "_law_cell" ["_law_script", "_law_k"] (spD K 2 S__law_cell) := ⟨a__law_cell, _, ok__law_cell F__law_cell T , PySem.W.mg_of X G e__law_cell, k__law_cell, b__law_cell⟩
  have C__law_number : Cal l.prog w K mg base 1 "_law_number" ["_law_cell_here"] (spD K 1 S__law_number) := ⟨a__law_number, _, ok__law_number F__law_number T , PySem.W.mg_of X G e__law_number, k__law_number, b__law_number⟩
  have C__law_paper : Cal l.prog w K mg base 1 "_law_paper" ["_law_edges_here", "_law_places", "_law_facts", "_law_d", "_law_times"] (spD K 5 S__law_paper) := ⟨a__law_paper, _, ok__law_paper F__law_paper T , PySem.W.mg_of X G e__law_paper, k__law_paper, b__law_paper⟩
  have C__law_due : Cal l.prog w K mg base 1 "_law_due" ["_law_rows", "_law_costs", "_law_places", "_law_facts", "_law_d"] (spD K 5 S__law_due) := ⟨a__law_due, _, ok__law_due F__law_due T , PySem.W.mg_of X G e__law_due, k__law_due, b__law_due⟩
  have C_brings : Cal l.prog w K mg base 2 "brings" ["table", "d", "e"] (spD K 3 S_brings) := ⟨a_brings, _, ok_brings F_brings T C_facts_in, PySem.W.mg_of X G e_brings, k_brings, b_brings⟩
  have C_start_claim : Cal l.prog w K mg base 2 "start_claim" ["chart", "start", "row"] (spD K 3 S_start_claim) := ⟨a_start_claim, _, ok_start_claim F_start_claim T C_start_facts, PySem.W.mg_of X G e_start_claim, k_start_claim, b_start_claim⟩
  have C_along_claim : Cal l.prog w K mg base 2 "along_claim" ["ahead", "row"] (spD K 2 S_along_claim) := ⟨a_along_claim, _, ok_along_claim F_along_claim T C_claim_ahead, PySem.W.mg_of X G e_along_claim, k_along_claim, b_along_claim⟩
  have C_parts_of : Cal l.prog w K mg base 2 "parts_of" ["told", "row"] (spD K 2 S_parts_of) := ⟨a_parts_of, _, ok_parts_of F_parts_of T C_move_of, PySem.W.mg_of X G e_parts_of, k_parts_of, b_parts_of⟩
  have C__law_edges : Cal l.prog w K mg base 2 "_law_edges" ["_law_script", "_law_places", "_law_facts"] (spD K 3 S__law_edges) := ⟨a__law_edges, _, ok__law_edges F__law_edges T C__law_cell C__law_number, PySem.W.mg_of X G e__law_edges, k__law_edges, b__law_edges⟩
  have C_edge_taken : Cal l.prog w K mg base 3 "edge_taken" ["chart", "here", "move"] (spD K 3 S_edge_taken) := ⟨a_edge_taken, _, ok_edge_taken F_edge_taken T C_brings, PySem.W.mg_of X G e_edge_taken, k_edge_taken, b_edge_taken⟩
  have C_edge_claim : Cal l.prog w K mg base 4 "edge_claim" ["chart", "ahead", "row"] (spD K 3 S_edge_claim) := ⟨a_edge_claim, _, ok_edge_claim F_edge_claim T C_claim_ahead C_move_of C_edge_taken, PySem.W.mg_of X G e_edge_claim, k_edge_claim, b_edge_claim⟩
  have C_short_claim : Cal l.prog w K mg base 4 "short_claim" ["chart", "ahead", "row"] (spD K 3 S_short_claim) := ⟨a_short_claim, _, ok_short_claim F_short_claim T C_claim_ahead C_edge_taken C_exit_of C_brings, PySem.W.mg_of X G e_short_claim, k_short_claim, b_short_claim⟩
  have C_in_claim : Cal l.prog w K mg base 4 "in_claim" ["chart", "ahead", "row"] (spD K 3 S_in_claim) := ⟨a_in_claim, _, ok_in_claim F_in_claim T C_claim_ahead C_move_of C_edge_taken, PySem.W.mg_of X G e_in_claim, k_in_claim, b_in_claim⟩
  have C_claim_of : Cal l.prog w K mg base 5 "claim_of" ["chart", "start", "ahead", "row"] (spD K 4 S_claim_of) := ⟨a_claim_of, _, ok_claim_of F_claim_of T C_begin_claim C_start_claim C_short_claim C_in_claim C_along_claim C_edge_claim, PySem.W.mg_of X G e_claim_of, k_claim_of, b_claim_of⟩
  have C_claims : Cal l.prog w K mg base 6 "claims" ["chart", "start", "rows"] (spD K 3 S_claims) := ⟨a_claims, _, ok_claims F_claims T C_claim_of, PySem.W.mg_of X G e_claims, k_claims, b_claims⟩
  have O_unrolled := ok_unrolled (base := base) F_unrolled T R_TooLong C_claims C_parts_of C_counted C_moves_of C_first_fact
  have C_unrolled__F1 : CalXF l.prog w K mg base 7 "unrolled" ["chart", "start", "rows", "k", "most"] (spX K 5 S_unrolled) [400] := ⟨a_unrolled, _, [.int 400 dk_unrolled_0], O_unrolled, PySem.W.mg_of X G e_unrolled, k_unrolled, fun s us KI hl => lnD4 (p := fun us => BindsTo s _ ⟨us, []⟩ ((["chart", "start", "rows", "k", "most"] : List Str).zip (us ++ [.int 400 dk_unrolled_0]))) (by simp at hl; omega) fun _ _ _ _ => .of_defaults rfl (KI _ _ dl_unrolled) ds_unrolled rfl rfl, (.cons ⟨_, rfl⟩ .nil)⟩
  have C_unrolled : CalX l.prog w K mg base 7 "unrolled" ["chart", "start", "rows", "k", "most"] (spX K 5 S_unrolled) := ⟨a_unrolled, _, ok_unrolled F_unrolled T R_TooLong C_claims C_parts_of C_counted C_moves_of C_first_fact, PySem.W.mg_of X G e_unrolled, k_unrolled, b_unrolled⟩
  have C__law_late : Cal l.prog w K mg base 8 "_law_late" ["_law_chart", "_law_start", "_law_rows", "_law_k", "_law_most"] (spD K 5 S__law_late) := ⟨a__law_late, _, ok__law_late F__law_late T C_unrolled, PySem.W.mg_of X G e__law_late, k__law_late, b__law_late⟩
  have C__law_long_row : Cal l.prog w K mg base 9 "_law_long_row" ["_law_script"] (spD K 1 S__law_long_row) := ⟨a__law_long_row, _, ok__law_long_row F__law_long_row T C__law_cell C__law_number C_claims C__law_late C_unrolled__F1, PySem.W.mg_of X G e__law_long_row, k__law_long_row, b__law_long_row⟩
  exact ok_law F_law T C__law_cell C__law_long_row C__law_edges C__law_paper C__law_due C_claims C__law_late C_unrolled C_unrolled__F1
end K34
open PySem PySem.W PyProof.Rows
set_option maxRecDepth 100000 in
set_option maxHeartbeats 0 in
theorem PySem.Challenge.cw_callmatch_k34_doubled_papers_holds : PySem.Challenge.rw_callmatch_k34_doubled_papers.Holds := by
  w_on; o_law; k_head; (case hw => w_witness2)
  k_fill
  refine DL.walkD (l := PySem.Challenge.rw_callmatch_k34_doubled_papers) (n := 63) (k := 10) (S := K34.S_law) (x := "_law_script") rfl (by decide) rfl ⟨rfl, by decide, by decide⟩ (fun w h Y => PySem.W.kIn_of Y) ?F K34.law_true
  case F =>
    intro w mg fa h KX G hmg
    refine' K34.all_mk KX G hmg ?e_facts_in ?l_facts_in ?c_facts_in ?k_facts_in ?e_brings ?l_brings ?c_brings ?k_brings ?e_exit_of ?l_exit_of ?c_exit_of ?k_exit_of ?e_start_facts ?l_start_facts ?c_start_facts ?k_start_facts ?e_edge_taken ?l_edge_taken ?c_edge_taken ?k_edge_taken ?e_claims ?l_claims ?c_claims ?k_claims ?e_claim_of ?l_claim_of ?c_claim_of ?k_claim_of ?e_claim_ahead ?l_claim_ahead ?c_claim_ahead ?k_claim_ahead ?e_begin_claim ?l_begin_claim ?c_begin_claim ?k_begin_claim ?e_start_claim ?l_start_claim ?c_start_claim ?k_start_claim ?e_edge_claim ?l_edge_claim ?c_edge_claim ?k_edge_claim ?e_short_claim ?l_short_claim ?c_short_claim ?k_short_claim ?e_in_claim ?l_in_claim ?c_in_claim ?k_in_claim ?e_along_claim ?l_along_claim ?c_along_claim ?k_along_claim ?e_move_of ?l_move_of ?c_move_of ?k_move_of ?e_unrolled ?l_unrolled ?c_unrolled ?k_unrolled ?dl_unrolled ?ds_unrolled ?e_parts_of ?l_parts_of ?c_parts_of ?k_parts_of ?e_counted ?l_counted ?c_counted ?k_counted ?e_first_fact ?l_first_fact ?c_first_fact ?k_first_fact ?e_moves_of ?l_moves_of ?c_moves_of ?k_moves_of ?e__law_cell ?l__law_cell ?c__law_cell ?k__law_cell ?e__law_number ?l__law_number ?c__law_number ?k__law_number ?e__law_edges ?l__law_edges ?c__law_edges ?k__law_edges ?e__law_paper ?l__law_paper ?c__law_paper ?k__law_paper ?e__law_due ?l__law_due ?c__law_due ?k__law_due ?e__law_late ?l__law_late ?c__law_late ?k__law_late ?e__law_long_row ?l__law_long_row ?c__law_long_row ?k__law_long_row ?e_law ?l_law ?c_law ?k_law ?z_int ?z_isinstance ?z_len ?z_list ?z_max ?z_min ?z_range ?z_reversed ?z_tuple ?y_MOVE_TABLES ?d_MOVE_TABLES ?e_TooLong ?l_TooLong ?t_TooLong ?o_TooLong ?i_TooLong ?ga_TooLong ?gg_TooLong ?cl_TooLong ?cg_TooLong ?ct_TooLong ?mo_TooLong ?m_TooLong
    (case e_facts_in => k_is)
    (case l_facts_in => k_is)
    (case c_facts_in => k_is)
    (case k_facts_in => k_is)
    (case e_brings => k_is)
    (case l_brings => k_is)
    (case c_brings => k_is)
    (case k_brings => k_is)
    (case e_exit_of => k_is)
    (case l_exit_of => k_is)
    (case c_exit_of => k_is)
    (case k_exit_of => k_is)
    (case e_start_facts => k_is)
    (case l_start_facts => k_is)
    (case c_start_facts => k_is)
    (case k_start_facts => k_is)
    (case e_edge_taken => k_is)
    (case l_edge_taken => k_is)
    (case c_edge_taken => k_is)
    (case k_edge_taken => k_is)
    (case e_claims => k_is)
    (case l_claims => k_is)
    (case c_claims => k_is)
    (case k_claims => k_is)
    (case e_claim_of => k_is)
    (case l_claim_of => k_is)
    (case c_claim_of => k_is)
    (case k_claim_of => k_is)
    (case e_claim_ahead => k_is)
    (case l_claim_ahead => k_is)
    (case c_claim_ahead => k_is)
    (case k_claim_ahead => k_is)
    (case e_begin_claim => k_is)
    (case l_begin_claim => k_is)
    (case c_begin_claim => k_is)
    (case k_begin_claim => k_is)
    (case e_start_claim => k_is)
    (case l_start_claim => k_is)
    (case c_start_claim => k_is)
    (case k_start_claim => k_is)
    (case e_edge_claim => k_is)
    (case l_edge_claim => k_is)
    (case c_edge_claim => k_is)
    (case k_edge_claim => k_is)
    (case e_short_claim => k_is)
    (case l_short_claim => k_is)
    (case c_short_claim => k_is)
    (case k_short_claim => k_is)
    (case e_in_claim => k_is)
    (case l_in_claim => k_is)
    (case c_in_claim => k_is)
    (case k_in_claim => k_is)
    (case e_along_claim => k_is)
    (case l_along_claim => k_is)
    (case c_along_claim => k_is)
    (case k_along_claim => k_is)
    (case e_move_of => k_is)
    (case l_move_of => k_is)
    (case c_move_of => k_is)
    (case k_move_of => k_is)
    (case e_unrolled => k_is)
    (case l_unrolled => k_is)
    (case c_unrolled => k_is)
    (case k_unrolled => k_is)
    (case dl_unrolled => k_is)
    (case ds_unrolled => exact rfl)
    (case e_parts_of => k_is)
    (case l_parts_of => k_is)
    (case c_parts_of => k_is)
    (case k_parts_of => k_is)
    (case e_counted => k_is)
    (case l_counted => k_is)
    (case c_counted => k_is)
    (case k_counted => k_is)
    (case e_first_fact => k_is)
    (case l_first_fact => k_is)
    (case c_first_fact => k_is)
    (case k_first_fact => k_is)
    (case e_moves_of => k_is)
    (case l_moves_of => k_is)
    (case c_moves_of => k_is)
    (case k_moves_of => k_is)
    (case e__law_cell => k_is)
    (case l__law_cell => k_is)
    (case c__law_cell => k_is)
    (case k__law_cell => k_is)
    (case e__law_number => k_is)
    (case l__law_number => k_is)
    (case c__law_number => k_is)
    (case k__law_number => k_is)
    (case e__law_edges => k_is)
    (case l__law_edges => k_is)
    (case c__law_edges => k_is)
    (case k__law_edges => k_is)
    (case e__law_paper => k_is)
    (case l__law_paper => k_is)
    (case c__law_paper => k_is)
    (case k__law_paper => k_is)
    (case e__law_due => k_is)
    (case l__law_due => k_is)
    (case c__law_due => k_is)
    (case k__law_due => k_is)
    (case e__law_late => k_is)
    (case l__law_late => k_is)
    (case c__law_late => k_is)
    (case k__law_late => k_is)
    (case e__law_long_row => k_is)
    (case l__law_long_row => k_is)
    (case c__law_long_row => k_is)
    (case k__law_long_row => k_is)
    (case e_law => k_is)
    (case l_law => k_is)
    (case c_law => k_is)
    (case k_law => k_is)
    (case z_int => k_is)
    (case z_isinstance => k_is)
    (case z_len => k_is)
    (case z_list => k_is)
    (case z_max => k_is)
    (case z_min => k_is)
    (case z_range => k_is)
    (case z_reversed => k_is)
    (case z_tuple => k_is)
    (case y_MOVE_TABLES => k_is)
    (case d_MOVE_TABLES => k_is)
    (case e_TooLong => k_is)
    (case l_TooLong => k_is)
    (case t_TooLong => kernel_rfl)
    (case o_TooLong => kernel_rfl)
    (case i_TooLong => k_is)
    (case ga_TooLong => k_is)
    (case gg_TooLong => k_is)
    (case cl_TooLong => k_is)
    (case cg_TooLong => k_is)
    (case ct_TooLong => k_is)
    (case mo_TooLong => k_is)
    (case m_TooLong => kernel_rfl)
#print axioms PySem.Challenge.cw_callmatch_k34_doubled_papers_holds
