import PyProof.Rows.All
import Wide.All
import OpenK.AllK
import Wide.FinOn
import Lean
import PyProof.EqAt
import PyProof.EqKinds
import PyProof.TupleCall
import PyProof.EqLayable
import PyProof.P3In
import PyProof.Draws
import PyProof.EnumMake
import PyProof.CompFree
import PyProof.CompUse
import KE.KRevIter
import PyProof.DictIter
import PyProof.ZipIter
import PyProof.ListMulRoad
import PyProof.ConsumeWalk
import PyProof.StrWalks
import PyProof.FString5
import PyProof.StrOps
import KE.KIntText
import PyProof.SliceStr2
import PyProof.StrBlock
import PyProof.StrCalls
import PyProof.StrLawsIn
import KE.IntTextLaws
import PyProof.Rows.StrMadeLen
import PySem.Challenge.RW_callmatch_k61_names_and_numbers
set_option Elab.async false
set_option linter.all false
set_option maxRecDepth 100000
set_option genSizeOfSpec false
set_option compiler.extract_closed false
set_option maxHeartbeats 4000000
local macro_rules | `(tactic| trivial) => `(tactic| first | exact .inl rfl | exact .inr (.inl rfl) | exact .inr (.inr rfl) | exact .inr rfl | assumption)
namespace L2
open PySem PySem.Spec PyProof.Rows
noncomputable abbrev Key := Sum Int Str
noncomputable def keyIs : Key → Value → Bool
  | .inl k, v => Value.isInt k v
  | .inr x, v => Value.isStrOf x v
noncomputable def keyH (w : World) : Key → Int
  | .inl k => hashInt k
  | .inr x => hashStr w x
theorem keyIs_shape : ∀ {k : Key} {v : Value}, keyIs k v = true → (∃ i t, k = Sum.inl i ∧ v = Value.int i t) ∨ (∃ x t, k = Sum.inr x ∧ v = Value.str x t)
  | .inl i, v, h => by
    obtain ⟨t, e⟩ := Value.isInt_shape (k := i) (v := v) h
    exact .inl ⟨i, t, rfl, e⟩
  | .inr x, v, h => by
    obtain ⟨t, e⟩ := Value.isStrOf_shape (x := x) (v := v) h
    exact .inr ⟨x, t, rfl, e⟩
theorem key_ll (a b : Int) : decide ((Sum.inl a : Key) = Sum.inl b) = (a == b) := by
  by_cases e : a = b
  · subst e; simp
  · have h : ¬ (Sum.inl a : Key) = Sum.inl b := fun q => e (Sum.inl.inj q)
    rw [decide_eq_false h]
    exact (beq_eq_false_iff_ne.mpr e).symm
theorem key_rr (a b : Str) : decide ((Sum.inr a : Key) = Sum.inr b) = decide (a = b) := by
  by_cases e : a = b
  · subst e; simp
  · have h : ¬ (Sum.inr a : Key) = Sum.inr b := fun q => e (Sum.inr.inj q)
    rw [decide_eq_false h, decide_eq_false e]
theorem key_lr (a : Int) (b : Str) : decide ((Sum.inl a : Key) = Sum.inr b) = false := decide_eq_false (fun q => nomatch q)
theorem key_rl (a : Str) (b : Int) : decide ((Sum.inr a : Key) = Sum.inl b) = false := decide_eq_false (fun q => nomatch q)
noncomputable def mixKind (prog : Program) (w : World) : PySem.KeyKind prog w Key where
  is := keyIs
  hash := keyH w
  inj := fun v a b ha hb => by
    rcases keyIs_shape ha with ⟨i, t, rfl, rfl⟩ | ⟨x, t, rfl, rfl⟩
    · rcases keyIs_shape hb with ⟨j, u, rfl, e⟩ | ⟨y, u, rfl, e⟩
      · injection e with e1 _; rw [e1]
      · exact nomatch e
    · rcases keyIs_shape hb with ⟨j, u, rfl, e⟩ | ⟨y, u, rfl, e⟩
      · exact nomatch e
      · injection e with e1 _; rw [e1]
  byValue := fun k v h => by
    rcases keyIs_shape h with ⟨i, t, rfl, rfl⟩ | ⟨x, t, rfl, rfl⟩ <;> rfl
  pyHash := fun hv h => by
    rcases keyIs_shape hv with ⟨i, t, rfl, rfl⟩ | ⟨x, t, rfl, rfl⟩
    · exact wpAny_pyHash_int h
    · exact wpAny_pyHash_str h
  eqBool := fun hu hv h => by
    rcases keyIs_shape hu with ⟨i, t, rfl, rfl⟩ | ⟨x, t, rfl, rfl⟩
    · rcases keyIs_shape hv with ⟨j, u, rfl, rfl⟩ | ⟨y, u, rfl, rfl⟩
      · rw [key_ll] at h; exact wpAny_eqBool_int h
      · rw [key_lr] at h; exact SeqAt.EqAt.int_str i t y u _ _ _ _ h
    · rcases keyIs_shape hv with ⟨j, u, rfl, rfl⟩ | ⟨y, u, rfl, rfl⟩
      · rw [key_rl] at h; exact SeqAt.EqAt.str_int x t j u _ _ _ _ h
      · rw [key_rr] at h; exact wpAny_eqBool_str h
  «strs» := fun k x t v h => by
    rcases keyIs_shape h with ⟨i, u, rfl, e⟩ | ⟨y, u, rfl, e⟩
    · exact nomatch e
    · injection e with e1 _
      subst e1
      cases v <;> rfl
end L2
namespace L2
open PySem PySem.Spec PyProof.Rows
inductive V where
  | non | bl (b : Bool) | int (i : Int) | str (x : Str) | byt (b : Array UInt8) | flt (b : UInt64) | ref (a : Addr) | ty (n : String)
  deriving DecidableEq
noncomputable def RelV : V → Value → Prop
  | .non, u => u = Value.none
  | .bl b, u => u = Value.bool b
  | .int i, u => ∃ t, u = Value.int i t
  | .str x, u => ∃ t, u = Value.str x t
  | .byt b, u => ∃ t, u = Value.bytes b t
  | .flt b, u => ∃ t, u = Value.float b t
  | .ref a, u => u = Value.ref a
  | .ty n, u => u = Value.type n
noncomputable abbrev Vals : List V → List Value → Prop := Paired RelV
theorem Vals.length {xs : List V} {us : List Value} (r : Vals xs us) : xs.length = us.length := Paired.length r
theorem Vals.get : ∀ {xs : List V} {us : List Value} {i : Nat} {x : V}, Vals xs us → xs[i]? = some x → ∃ u, us[i]? = some u ∧ RelV x u
  | _, _, _, _, .nil, e => by simp at e
  | _, _, 0, _, .cons r _, e => by simp at e; subst e; exact ⟨_, rfl, r⟩
  | _, _, i + 1, x, .cons _ t, e => by
    obtain ⟨u, h1, h2⟩ := Vals.get (i := i) (x := x) t (by simpa using e)
    exact ⟨u, by simpa using h1, h2⟩
theorem Vals.append : ∀ {xs ys : List V} {us ws : List Value}, Vals xs us → Vals ys ws → Vals (xs ++ ys) (us ++ ws)
  | _, _, _, _, .nil, s => s
  | _, _, _, _, .cons r t, s => .cons r (Vals.append t s)
noncomputable def RelO : Option V → Option Value → Prop
  | some v, some u => RelV v u
  | none, none => True
  | _, _ => False
noncomputable def KV {κ : Type} : List (κ × V) → List (κ × Value) → Prop := Paired fun (p : κ × V) (q : κ × Value) => p.1 = q.1 ∧ RelV p.2 q.2
noncomputable def kV : Key → V
  | .inl i => .int i
  | .inr x => .str x
inductive HO where
  | lst (xs : List V)
  | tup (xs : List V)
  | dK (kvs : List (Key × V)) | dT (kvs : List (List Key × V))
  | set (S : Int → Bool) (n : Nat)
  | ins (C dx : Addr) (fs : List (Str × V))
  | own (x : Addr)
  | xd (fs : List (Str × V))
  | met (f x : Addr)
  | rng (lo hi : Int)
  | frz (o : Obj) (u : HO)
  | tbl (ps : Array Value)
  | ext (φ : Heap → Prop)
noncomputable abbrev Hp := Addr → Option HO
noncomputable def upd (H : Hp) (a : Addr) (o : HO) : Hp := fun b => if b = a then some o else H b
theorem upd_same {H : Hp} {a : Addr} {o : HO} : upd H a o a = some o := by unfold upd; rw [if_pos rfl]
theorem upd_ne {H : Hp} {a b : Addr} {o : HO} (h : b ≠ a) : upd H a o b = H b := by unfold upd; rw [if_neg h]
theorem ne_of_none {H : Hp} {a b : Addr} {o : HO} (h : H a = some o) (h' : H b = none) : a ≠ b := by
  intro e; subst e; rw [h] at h'; cases h'
section
variable (P : Program) (w : World)
noncomputable def ObjOk (H : Hp) (h : Heap) (a : Addr) : HO → Prop
  | .lst xs => xs.length ≤ sizeLine ∧ ∃ (its : List Value) (n : Nat), Vals xs its ∧ h.get? a = some { cls := .type "list", data := .seq its.toArray n }
  | .tup xs => xs.length ≤ sizeLine ∧ ∃ its : List Value, Vals xs its ∧ IsTup h a its.toArray
  | .dK kvs => kvs.length ≤ sizeLine ∧ (a == sysModules) = false ∧ ∃ vs, KV kvs vs ∧ h.DictOf (mixKind P w) a vs
  | .dT kvs => kvs.length ≤ sizeLine ∧ (a == sysModules) = false ∧ ∃ xs : List (List Key × Addr × Value),
      Paired (fun (p : List Key × V) (q : List Key × Addr × Value) => p.1 = q.1 ∧ H q.2.1 = some (.tup (p.1.map kV)) ∧ RelV p.2 q.2.2) kvs xs ∧
      ∃ o es ep, h.get? a = some o ∧ o.ExactDict ∧ o.data = .dict es ep ∧ es.toList = xs.map (entryOfKey (tupleKind (mixKind P w))) ∧ (xs.map (·.1)).Nodup
  | .set S n => h.SetOf (intKind P w) a S n
  | .ins C dx fs => H dx = some (.own a) ∧ fs.length ≤ 1000 ∧ dx ≠ a ∧ h.get? a = some (PySem.W.instObj C dx) ∧
      ∃ mA, h.Ns1 dx mA ∧ (∀ f, RelO (fs.lookup f) (mA f)) ∧ PySem.Within mA (fs.map (·.1))
  | .own _ => ∃ o, h.get? a = some o
  | .xd fs => ∃ mA, h.Ns1 a mA ∧ ∀ f, RelO (fs.lookup f) (mA f)
  | .rng lo hi => ∃ t u v, h.get? a = some { cls := .type "range", data := .fields #[.int lo t, .int hi u, .int 1 v] }
  | .frz o u => h.get? a = some o ∧ ObjOk H h a u
  | .tbl ps => h.get? a = some { cls := .none, data := .fields ps }
  | .met f x => h.get? a = some (PySem.W.methodObj (.ref f) (.ref x))
  | .ext φ => φ h ∧ (∃ o, h.get? a = some o) ∧ ∀ h1 h2 : Heap, φ h1 → (∀ o, h1.get? a = some o → h2.get? a = some o) → φ h2
noncomputable def HOk (H : Hp) (h : Heap) : Prop := ∀ a o, H a = some o → ObjOk P w H h a o
end
section
variable {P : Program} {w : World} {H H' : Hp} {h h' : Heap} {a : Addr} {o : HO}
theorem ObjOk.lt (x : ObjOk P w H h a o) : a < h.objs.size := by
  cases o with
  | lst xs => obtain ⟨_, _, _, _, e⟩ := x; exact Heap.lt_size e
  | tup xs => obtain ⟨_, _, _, p⟩ := x; exact p.lt
  | dK kvs => obtain ⟨_, _, _, _, o, _, _, e, _⟩ := x; exact Heap.lt_size e
  | dT kvs => obtain ⟨_, _, _, _, o, _, _, e, _⟩ := x; exact Heap.lt_size e
  | set S n => obtain ⟨o, _, _, _, e, _⟩ := x; exact Heap.lt_size e
  | ins C dx fs => obtain ⟨_, _, _, e, _⟩ := x; exact Heap.lt_size e
  | own y => obtain ⟨_, e⟩ := x; exact Heap.lt_size e
  | xd fs => obtain ⟨_, ⟨_, _, _, e, _⟩, _⟩ := x; exact Heap.lt_size e
  | rng lo hi => obtain ⟨_, _, _, e⟩ := x; exact Heap.lt_size e
  | frz ob u => obtain ⟨e, _⟩ := x; exact Heap.lt_size e
  | tbl ps => exact Heap.lt_size (show h.get? a = some _ from x)
  | met f y => exact Heap.lt_size (show h.get? a = some _ from x)
  | ext φ => obtain ⟨_, ⟨_, e⟩, _⟩ := x; exact Heap.lt_size e
theorem Paired.mapP {α β : Type} {F G : α → β → Prop} : ∀ {l₁ : List α} {l₂ : List β}, Paired F l₁ l₂ → (∀ a b, F a b → G a b) → Paired G l₁ l₂
  | _, _, .nil, _ => .nil
  | _, _, .cons r t, f => .cons (f _ _ r) (Paired.mapP t f)
theorem ObjOk.stay (x : ObjOk P w H h a o) (k : ∀ b u, (b = a ∨ H b = some (.own a)) → h.get? b = some u → h'.get? b = some u)
    (ho : ∀ b, H b = some (.own a) → H' b = some (.own a)) (ht : ∀ b xs, H b = some (.tup xs) → H' b = some (.tup xs)) : ObjOk P w H' h' a o := by
  induction o with
  | lst xs => obtain ⟨z, its, n, r, e⟩ := x; exact ⟨z, its, n, r, k _ _ (.inl rfl) e⟩
  | tup xs => obtain ⟨z, its, r, ob, e, c⟩ := x; exact ⟨z, its, r, ob, k _ _ (.inl rfl) e, c⟩
  | dK kvs => obtain ⟨z, y, vs, r, ob, es, ep, e, c⟩ := x; exact ⟨z, y, vs, r, ob, es, ep, k _ _ (.inl rfl) e, c⟩
  | dT kvs =>
    obtain ⟨z, y, xs, r, ob, es, ep, e, c⟩ := x
    exact ⟨z, y, xs, Paired.mapP r fun p q z => ⟨z.1, ht _ _ z.2.1, z.2.2⟩, ob, es, ep, k _ _ (.inl rfl) e, c⟩
  | set S n => obtain ⟨ob, es, ep, t, e, c⟩ := x; exact ⟨ob, es, ep, t, k _ _ (.inl rfl) e, c⟩
  | ins C dx fs =>
    obtain ⟨d, z, ne, e, mA, ⟨od, es, ep, e2, c⟩, r⟩ := x
    exact ⟨ho _ d, z, ne, k _ _ (.inl rfl) e, mA, ⟨od, es, ep, k _ _ (.inr d) e2, c⟩, r⟩
  | own y => obtain ⟨ob, e⟩ := x; exact ⟨ob, k _ _ (.inl rfl) e⟩
  | xd fs => obtain ⟨mA, ⟨od, es, ep, e, c⟩, r⟩ := x; exact ⟨mA, ⟨od, es, ep, k _ _ (.inl rfl) e, c⟩, r⟩
  | rng lo hi => obtain ⟨t, u, v, e⟩ := x; exact ⟨t, u, v, k _ _ (.inl rfl) e⟩
  | frz ob u ih => obtain ⟨e, q⟩ := x; exact ⟨k _ _ (.inl rfl) e, ih q⟩
  | tbl ps =>
    have e : h.get? a = some { cls := .none, data := .fields ps } := x
    show h'.get? a = some { cls := .none, data := .fields ps }
    exact k a _ (.inl rfl) e
  | met f y =>
    have e : h.get? a = some (PySem.W.methodObj (.ref f) (.ref y)) := x
    show h'.get? a = some (PySem.W.methodObj (.ref f) (.ref y))
    exact k a _ (.inl rfl) e
  | ext φ => obtain ⟨p, ⟨o, e⟩, st⟩ := x; exact ⟨st _ _ p fun o q => k _ _ (.inl rfl) q, ⟨o, k _ _ (.inl rfl) e⟩, st⟩
theorem HOk.lt (x : HOk P w H h) (e : H a = some o) : a < h.objs.size := (x a o e).lt
theorem HOk.fresh (x : HOk P w H h) (e : h.objs.size ≤ a) : H a = none := by
  cases q : H a with
  | none => rfl
  | some u => exact absurd (Nat.lt_of_lt_of_le (x.lt q) e) (Nat.lt_irrefl _)
theorem HOk.kept (x : HOk P w H h) (k : ∀ b u, h.get? b = some u → h'.get? b = some u) : HOk P w H h' := fun a o e =>
  (x a o e).stay (fun b u _ q => k b u q) (fun _ q => q) fun _ _ q => q
theorem HOk.laid (x : HOk P w H h) (k : ∀ b u, h.get? b = some u → h'.get? b = some u) (hp : h.objs.size ≤ a) (new : ObjOk P w (upd H a o) h' a o) : HOk P w (upd H a o) h' := fun b u e => by
  have hn := x.fresh hp
  by_cases hb : b = a
  · subst hb; rw [upd_same] at e; cases e; exact new
  · rw [upd_ne hb] at e
    exact (x b u e).stay (fun c v _ q => k c v q) (fun c q => by rw [upd_ne (ne_of_none q hn)]; exact q) fun c xs q => by rw [upd_ne (ne_of_none q hn)]; exact q
end
noncomputable def Rd (H : Hp) (a : Addr) (u : HO) : Prop := H a = some u ∨ ∃ o, H a = some (.frz o u)
theorem Rd.ok {P : Program} {w : World} {H : Hp} {h : Heap} {a : Addr} {u : HO} (r : Rd H a u) (x : HOk P w H h) : ObjOk P w H h a u := by
  rcases r with r | ⟨o, r⟩
  · exact x a u r
  · obtain ⟨_, q⟩ := x a _ r
    exact q
noncomputable def Mut : Option HO → Prop
  | some (.lst _) => True
  | some (.dK _) => True
  | some (.dT _) => True
  | some (.set _ _) => True
  | some (.ins _ _ _) => True
  | some (.ext _) => True
  | _ => False
section
variable {P : Program} {w : World} {H : Hp} {h h' : Heap} {x e : Addr} {o' : HO}
theorem HOk.write (ok : HOk P w H h) (mu : Mut (H x)) (he : e = x ∨ H e = some (.own x)) (k : ∀ b u, b ≠ e → h.get? b = some u → h'.get? b = some u) (heo : ∃ u, h'.get? e = some u)
    (new : ObjOk P w (upd H x o') h' x o') : HOk P w (upd H x o') h' := fun b u q => by
  have nown : ∀ c y, H c = some (.own y) → c ≠ x := fun c y r z => by subst z; rw [r] at mu; exact mu
  have ntup : ∀ c xs, H c = some (.tup xs) → c ≠ x := fun c xs r z => by subst z; rw [r] at mu; exact mu
  by_cases hb : b = x
  · subst hb; rw [upd_same] at q; cases q; exact new
  · rw [upd_ne hb] at q
    by_cases hbe : b = e
    · have q' : H b = some (.own x) := by
        rcases he with z | z
        · exact absurd (hbe.trans z) hb
        · rw [hbe]; exact z
      rw [q] at q'; cases q'
      obtain ⟨v, hv⟩ := heo
      exact ⟨v, by rw [hbe]; exact hv⟩
    · refine (ok b u q).stay (fun c v hc r => k c v ?_ r) (fun c r => by rw [upd_ne (nown c b r)]; exact r) fun c xs r => by rw [upd_ne (ntup c xs r)]; exact r
      rcases hc with rfl | hc
      · exact hbe
      · rintro rfl
        rcases he with z | z
        · exact nown c b hc z
        · rw [hc] at z; cases z; exact hb rfl
end
structure Un (fs ex : List Addr) (H H' : Hp) (h h' : Heap) : Prop where
  keep : ∀ b o, h.get? b = some o → H b = none → b ∉ fs → b ∉ ex → h'.get? b = some o
  slot : ∀ b o, h.get? b = some o → H b = none → b ∈ fs → b ∉ ex → ∃ sl, h'.get? b = some { o with slots := sl }
  free : ∀ b o, h.get? b = some o → H b = none → b ∉ ex → H' b = none
  there : ∀ b o, h.get? b = some o → b ∉ ex → ∃ o', h'.get? b = some o'
  tups : ∀ b xs, H b = some (.tup xs) → H' b = some (.tup xs)
  frzs : ∀ b o u, H b = some (.frz o u) → H' b = some (.frz o u)
  tbls : ∀ b ps, H b = some (.tbl ps) → ∃ more, H' b = some (.tbl (ps ++ more))
section
variable {fs fs' ex ex' : List Addr} {H H1 H2 : Hp} {h h1 h2 h' : Heap} {a x e : Addr} {o : HO}
theorem Un.any (u : Un fs ex H H1 h h1) {b : Addr} {ob : Obj} (q : h.get? b = some ob) (n : H b = none) (hx : b ∉ ex) : ∃ sl, h1.get? b = some { ob with slots := sl } := by
  by_cases hb : b ∈ fs
  · exact u.slot b ob q n hb hx
  · exact ⟨ob.slots, u.keep b ob q n hb hx⟩
theorem Un.trans (a : Un fs ex H H1 h h1) (b : Un fs ex H1 H2 h1 h2) : Un fs ex H H2 h h2 where
  keep := fun c ob q n hc hx => b.keep c ob (a.keep c ob q n hc hx) (a.free c ob q n hx) hc hx
  slot := fun c ob q n hc hx => by
    obtain ⟨sl, e1⟩ := a.slot c ob q n hc hx
    obtain ⟨sl', e2⟩ := b.slot c _ e1 (a.free c ob q n hx) hc hx
    exact ⟨sl', e2⟩
  free := fun c ob q n hx => by
    obtain ⟨o', e1⟩ := a.there c ob q hx
    exact b.free c o' e1 (a.free c ob q n hx) hx
  there := fun c ob q hx => by
    obtain ⟨o', e1⟩ := a.there c ob q hx
    exact b.there c o' e1 hx
  tups := fun c xs q => b.tups c xs (a.tups c xs q)
  frzs := fun c ob xs q => b.frzs c ob xs (a.frzs c ob xs q)
  tbls := fun c ps q => by
    obtain ⟨m1, e1⟩ := a.tbls c ps q
    obtain ⟨m2, e2⟩ := b.tbls c _ e1
    exact ⟨m1 ++ m2, by rw [e2, Array.append_assoc]⟩
theorem Un.kept (k : ∀ b u, h.get? b = some u → h'.get? b = some u) : Un fs ex H H h h' :=
  ⟨fun b ob q _ _ _ => k b ob q, fun b ob q _ _ _ => ⟨ob.slots, k b ob q⟩, fun _ _ _ n _ => n, fun b ob q _ => ⟨ob, k b ob q⟩, fun _ _ q => q, fun _ _ _ q => q, fun _ ps q => ⟨#[], by rw [q]; simp⟩⟩
theorem Un.refl : Un fs ex H H h h := Un.kept fun _ _ q => q
theorem Un.laid (k : ∀ b u, h.get? b = some u → h'.get? b = some u) (hp : h.objs.size ≤ a) (hn : H a = none) : Un fs ex H (upd H a o) h h' where
  keep := fun b u q _ _ _ => k b u q
  slot := fun b u q _ _ _ => ⟨u.slots, k b u q⟩
  free := fun b u q n _ => by rw [upd_ne (Nat.ne_of_lt (Nat.lt_of_lt_of_le (Heap.lt_size q) hp))]; exact n
  there := fun b u q _ => ⟨u, k b u q⟩
  tups := fun b xs q => by rw [upd_ne (ne_of_none q hn)]; exact q
  frzs := fun b u xs q => by rw [upd_ne (ne_of_none q hn)]; exact q
  tbls := fun b ps q => ⟨#[], by rw [upd_ne (ne_of_none q hn), q]; simp⟩
theorem Un.write (mu : Mut (H x)) (he : e = x ∨ H e = some (.own x)) (k : ∀ b u, b ≠ e → h.get? b = some u → h'.get? b = some u) (heo : ∃ u, h'.get? e = some u) : Un fs ex H (upd H x o) h h' := by
  have hx : ∀ b, H b = none → b ≠ x := fun b n z => by subst z; rw [n] at mu; exact mu
  have hb : ∀ b, H b = none → b ≠ e := fun b n z => by
    subst z
    rcases he with r | r
    · exact hx b n r
    · rw [n] at r; cases r
  have hm : ∀ b u, H b = some u → ¬ Mut (some u) → b ≠ x := fun b u q nm z => by subst z; rw [q] at mu; exact nm mu
  refine ⟨fun b u q n _ _ => k b u (hb b n) q, fun b u q n _ _ => ⟨u.slots, k b u (hb b n) q⟩, fun b u q n _ => by rw [upd_ne (hx b n)]; exact n, fun b u q _ => ?_,
    fun b xs q => by rw [upd_ne (hm b _ q fun z => z)]; exact q, fun b u xs q => by rw [upd_ne (hm b _ q fun z => z)]; exact q, fun b ps q => ⟨#[], by rw [upd_ne (hm b _ q fun z => z), q]; simp⟩⟩
  by_cases hbe : b = e
  · subst hbe; exact heo
  · exact ⟨u, k b u hbe q⟩
theorem Un.mono (u : Un fs ex H H1 h h1) (hs : ∀ b ∈ fs, b ∈ fs') (hx : ∀ b ∈ ex, b ∈ ex') : Un fs' ex' H H1 h h1 :=
  ⟨fun b ob q n hb he => u.keep b ob q n (fun z => hb (hs b z)) fun z => he (hx b z), fun _ _ q n _ he => u.any q n fun z => he (hx _ z), fun b ob q n he => u.free b ob q n fun z => he (hx b z), fun b ob q he => u.there b ob q fun z => he (hx b z), u.tups, u.frzs, u.tbls⟩
end
noncomputable def trk (h : Heap) (H : Hp) : List Addr := (List.range h.objs.size).filter fun a => (H a).isSome
noncomputable def hidT (h : Heap) (H : Hp) : Heap := PySem.W.hideAll h (trk h H)
theorem hidT_size (h : Heap) (H : Hp) : (hidT h H).objs.size = h.objs.size := PySem.W.hideAll_size _ _
theorem hidT_get {h : Heap} {H : Hp} {b : Addr} {o : Obj} (e : h.get? b = some o) (n : H b = none) : (hidT h H).get? b = some o :=
  PySem.W.hideAll_get _ e fun hm => by
    have q : (H b).isSome = true := (List.mem_filter.mp hm).2
    rw [n] at q; simp at q
theorem of_hidT {h : Heap} {H : Hp} {b : Addr} {o : Obj} (e : (hidT h H).get? b = some o) : h.get? b = some o ∧ H b = none := by
  have e' : h.get? b = some o := PySem.W.of_hideAll (trk h H) e
  refine ⟨e', ?_⟩
  cases q : H b with
  | none => rfl
  | some x =>
    have hm : b ∈ trk h H := List.mem_filter.mpr ⟨List.mem_range.mpr (Heap.lt_size e'), by simp [q]⟩
    have z : (hidT h H).get? b = none := PySem.W.hideAll_none (trk h H) hm
    rw [z] at e; cases e
end L2
namespace L2
open PySem PySem.Spec PyProof.Rows
structure Mod (K : PySem.W.Frag) (mg : Str → Option Value) (base : Heap) : Prop where
  kin : K.In base
  glob : base.Ns mainGlobals mg
  blt : ∃ mb, base.Ns builtinsNs mb ∧ ∀ x : Str, x ≠ "__name__" → mb x = bootBuiltins x
  nolimit : base.NoLimit
structure Cx where
  prog : Program
  w : World
  K : PySem.W.Frag
  mg : Str → Option Value
  base : Heap
  A : Around
  N : List Str
  s₀ : Shared
  H₀ : Hp
  env : Env
  outer : List Env
  stack : List Env
  ex : List Addr
  fn : Str → Bool
  calm : Bool
  pn : List (Addr × Obj)
  xe : Value → Shared → Prop
  ex9 : Value → Option Addr → Hp → Prop := fun _ _ _ => False
noncomputable def frs (l : List Env) : List Addr := l.filterMap (·.frame)
noncomputable abbrev Cx.fs (X : Cx) : List Addr := frs X.outer
noncomputable def Vis (sc : Scope) (x : Str) : Prop := sc.names.lookup x = some .local ∨ sc.names.lookup x = some .cell ∨ sc.names.lookup x = some .free
noncomputable def Loc (sc : Scope) (x : Str) : Prop := sc.names.lookup x = some .local ∨ sc.names.lookup x = some .cell
noncomputable def Look (env : Env) (h : Heap) (m : Str → Option Value) (x : Str) (u : Value) : Prop :=
  (env.kindOf x = some .local ∧ m x = some u) ∨ ((env.kindOf x = some .cell ∨ env.kindOf x = some .free) ∧ ∃ c, env.cells.lookup x = some c ∧ h.IsCell c (some u))
structure Cx.Ok (X : Cx) : Prop where
  mod : Mod X.K X.mg X.base
  kind : X.env.scope.kind = .function
  glob : X.env.globals = mainGlobals
  blt : X.env.builtins = builtinsNs
  above : X.s₀.heap.objs.size ≤ X.env.locals
  inj : ∀ x y c, X.env.cells.lookup x = some c → X.env.cells.lookup y = some c → x = y
  has : ∀ x, (X.env.kindOf x = some .cell ∨ X.env.kindOf x = some .free) → ∃ c, X.env.cells.lookup x = some c
  cab : ∀ x c, X.fn x = true → X.env.cells.lookup x = some c → X.s₀.heap.objs.size ≤ c
  hd : X.calm = true → X.A.handled = none
  frames : X.A.frames = some X.stack
  stk : X.stack = X.outer ∨ (X.stack = X.env :: X.outer ∧ X.env.frame = some X.env.locals)
  exf : ∀ b ∈ X.ex, b ≠ X.env.locals ∧ ∀ x c, X.env.cells.lookup x = some c → c ≠ b
  bs : ∀ b o, X.base.get? b = some o → X.s₀.heap.get? b = some o ∧ X.H₀ b = none
  bsz : X.base.objs.size ≤ X.s₀.heap.objs.size
  noex : ∀ b o, X.base.get? b = some o → b ∉ X.ex
  exfs : ∀ b ∈ X.ex, b ∉ X.fs
  funs : X.s₀.heap.FunFrames X.base X.outer
  frf : ∀ b ∈ X.fs, X.H₀ b = none
structure Inv (X : Cx) (pins : List (Addr × Obj)) (σ : List (Option V)) (H : Hp) (s : Shared) : Prop where
  ok : X.Ok
  os : s.os = X.s₀.os
  bare : AllBare s.gens
  base : Un X.fs X.ex X.H₀ H X.s₀.heap s.heap
  loc : ∃ m, s.heap.Ns X.env.locals m ∧ ∀ (i : Nat) (x : Str) (v : V), X.N[i]? = some x → σ[i]? = some (some v) → Vis X.env.scope x → ∃ u, RelV v u ∧ Look X.env s.heap m x u
  cell : ∀ x c, X.env.cells.lookup x = some c → ∃ v, s.heap.IsCell c v
  free : H X.env.locals = none
  freeC : ∀ x c, X.env.cells.lookup x = some c → H c = none
  pin : ∀ p ∈ X.pn ++ pins, s.heap.get? p.1 = some p.2 ∧ H p.1 = none ∧ p.1 ≠ X.env.locals ∧ p.1 ∉ X.fs ∧ ∀ v, p.2.data ≠ .cell v
  hok : HOk X.prog X.w H s.heap
  len : σ.length = X.N.length
section
variable {X : Cx} {pins : List (Addr × Obj)} {σ : List (Option V)} {H H' : Hp} {s : Shared} {h' : Heap}
theorem Cx.Ok.nofr (ok : X.Ok) {b : Addr} {o : Obj} (e : X.base.get? b = some o) : b ∉ X.fs := fun hb => by
  have := (ok.funs.mem hb).1
  rw [e] at this; cases this
theorem Inv.bs (I : Inv X pins σ H s) : ∀ b o, X.base.get? b = some o → s.heap.get? b = some o ∧ H b = none := fun b o e =>
  ⟨I.base.keep b o (I.ok.bs b o e).1 (I.ok.bs b o e).2 (I.ok.nofr e) (I.ok.noex b o e), I.base.free b o (I.ok.bs b o e).1 (I.ok.bs b o e).2 (I.ok.noex b o e)⟩
theorem Inv.bk (I : Inv X pins σ H s) : ∀ b o, X.base.get? b = some o → s.heap.get? b = some o := fun b o e => (I.bs b o e).1
theorem Inv.mod (I : Inv X pins σ H s) : Mod X.K X.mg X.base := I.ok.mod
theorem Inv.kIn (I : Inv X pins σ H s) : X.K.In s.heap := I.ok.mod.kin.keeps I.bk
theorem Inv.lt (I : Inv X pins σ H s) : X.env.locals < s.heap.objs.size := let ⟨_, hn, _⟩ := I.loc; hn.lt
theorem Inv.sz (I : Inv X pins σ H s) : X.s₀.heap.objs.size ≤ s.heap.objs.size := Nat.le_trans I.ok.above (Nat.le_of_lt I.lt)
theorem Inv.nofs (I : Inv X pins σ H s) {a : Addr} (h : s.heap.objs.size ≤ a) : a ∉ X.fs := fun hb => by
  obtain ⟨_, o, ho, _⟩ := I.ok.funs.mem hb
  exact absurd (Nat.lt_of_lt_of_le (Heap.lt_size ho) (Nat.le_trans I.sz h)) (Nat.lt_irrefl _)
theorem Inv.cne (I : Inv X pins σ H s) : ∀ x c, X.env.cells.lookup x = some c → c ≠ X.env.locals := fun x c e z => by
  obtain ⟨v, o, ho, hd⟩ := I.cell x c e
  obtain ⟨m, ⟨o', es, ep, ho', hd', _⟩, _⟩ := I.loc
  rw [z, ho'] at ho; cases ho; rw [hd'] at hd; cases hd
theorem Inv.funs (I : Inv X pins σ H s) : s.heap.FunFrames X.base X.outer := by
  have all : ∀ (l : List Env), (∀ b ∈ frs l, b ∈ X.fs) → X.s₀.heap.FunFrames X.base l → s.heap.FunFrames X.base l := by
    intro l
    induction l with
    | nil => intro _ _; trivial
    | cons env r ih =>
      intro hs hl
      obtain ⟨hk, ⟨L, o, hf, hn, ho, hd⟩, hr⟩ := hl
      have hL : L ∈ X.fs := hs L (by unfold frs; rw [List.filterMap_cons, hf]; exact List.mem_cons_self)
      obtain ⟨sl, e⟩ := I.base.slot L o ho (I.ok.frf L hL) hL fun z => I.ok.exfs L z hL
      exact ⟨hk, ⟨L, _, hf, hn, e, hd⟩, ih (fun b hb => hs b (by unfold frs; rw [List.filterMap_cons, hf]; exact List.mem_cons_of_mem _ hb)) hr⟩
  exact all X.outer (fun _ hb => hb) I.ok.funs
theorem Inv.stack (I : Inv X pins σ H s) : s.heap.FunFrames X.base X.stack := by
  rcases I.ok.stk with e | ⟨e, hf⟩
  · rw [e]; exact I.funs
  · rw [e]
    obtain ⟨m, hn, _⟩ := I.loc
    refine .cons (by rw [I.ok.kind]; decide) hf hn ?_ I.funs
    exact Heap.get?_none_of_le (Nat.le_trans I.ok.bsz I.ok.above)
theorem Inv.stkSub (I : Inv X pins σ H s) : ∀ b ∈ frs X.stack, b ∈ X.env.locals :: X.fs := fun b hb => by
  rcases I.ok.stk with e | ⟨e, hf⟩
  · rw [e] at hb; exact List.mem_cons_of_mem _ hb
  · rw [e] at hb
    unfold frs at hb
    rw [List.filterMap_cons, hf] at hb
    exact hb
theorem Inv.stkFree (I : Inv X pins σ H s) : ∀ b ∈ frs X.stack, H b = none := fun b hb => by
  rcases List.mem_cons.mp (I.stkSub b hb) with e | hb
  · rw [e]; exact I.free
  · obtain ⟨_, o, ho, _⟩ := I.ok.funs.mem hb
    exact I.base.free b o ho (I.ok.frf b hb) fun z => I.ok.exfs b z hb
theorem Inv.step {g' : Array GenState} {t' : Nat} {d' : Drawn} {ch : List Addr} (I : Inv X pins σ H s)
    (hch : ∀ b ∈ ch, (b ∈ X.ex ∨ X.s₀.heap.objs.size ≤ b) ∧ b ≠ X.env.locals ∧ (∀ x c, X.env.cells.lookup x = some c → c ≠ b) ∧ ∀ p ∈ X.pn ++ pins, p.1 ≠ b)
    (keep : ∀ b o, b ≠ X.env.locals → b ∉ X.fs → b ∉ ch → s.heap.get? b = some o → H b = none → h'.get? b = some o)
    (slot : ∀ b o, b ≠ X.env.locals → b ∈ X.fs → b ∉ ch → s.heap.get? b = some o → H b = none → ∃ sl, h'.get? b = some { o with slots := sl }) (free : ∀ b o, b ∉ ch → s.heap.get? b = some o → H b = none → H' b = none)
    (there : ∀ b o, b ∉ ch → s.heap.get? b = some o → ∃ o', h'.get? b = some o')
    (tups : ∀ b xs, H b = some (.tup xs) → H' b = some (.tup xs)) (frzs : ∀ b o u, H b = some (.frz o u) → H' b = some (.frz o u)) (tbls : ∀ b ps, H b = some (.tbl ps) → ∃ more, H' b = some (.tbl (ps ++ more)))
    (ns : ∀ m, s.heap.Ns X.env.locals m → h'.Ns X.env.locals m) (hok : HOk X.prog X.w H' h') (hg : AllBare g') :
    Inv X pins σ H' { s with heap := h', gens := g', drawn := d', toks := t' } := by
  have neL : ∀ b o, X.s₀.heap.get? b = some o → b ≠ X.env.locals := fun b o e => Nat.ne_of_lt (Nat.lt_of_lt_of_le (Heap.lt_size e) I.ok.above)
  have neC : ∀ b o, X.s₀.heap.get? b = some o → b ∉ X.ex → b ∉ ch := fun b o e hx hb => by
    rcases (hch b hb).1 with z | z
    · exact hx z
    · exact absurd (Nat.lt_of_lt_of_le (Heap.lt_size e) z) (Nat.lt_irrefl _)
  have cellK : ∀ x c, X.env.cells.lookup x = some c → ∀ v, s.heap.IsCell c v → h'.IsCell c v := fun x c e v ⟨o, ho, hd⟩ => by
    have nch : c ∉ ch := fun z => (hch c z).2.2.1 x c e rfl
    by_cases hc : c ∈ X.fs
    · obtain ⟨sl, q⟩ := slot c o (I.cne x c e) hc nch ho (I.freeC x c e)
      exact ⟨_, q, hd⟩
    · exact ⟨o, keep c o (I.cne x c e) hc nch ho (I.freeC x c e), hd⟩
  refine ⟨I.ok, I.os, hg, ⟨fun b o e n hb hx => ?_, fun b o e n hb hx => ?_, fun b o e n hx => ?_, fun b o e hx => ?_, fun b xs e => tups b xs (I.base.tups b xs e), fun b o xs e => frzs b o xs (I.base.frzs b o xs e), fun b ps e => ?_⟩, ?_, fun x c e => ?_, ?_, fun x c e => ?_, fun p hp => ?_, hok, I.len⟩
  · exact keep b o (neL b o e) hb (neC b o e hx) (I.base.keep b o e n hb hx) (I.base.free b o e n hx)
  · obtain ⟨sl, e1⟩ := I.base.slot b o e n hb hx
    obtain ⟨sl', e2⟩ := slot b _ (neL b o e) hb (neC b o e hx) e1 (I.base.free b o e n hx)
    exact ⟨sl', e2⟩
  · obtain ⟨o', e1⟩ := I.base.there b o e hx
    exact free b o' (neC b o e hx) e1 (I.base.free b o e n hx)
  · obtain ⟨o', e1⟩ := I.base.there b o e hx
    exact there b o' (neC b o e hx) e1
  · obtain ⟨m1, e1⟩ := I.base.tbls b ps e
    obtain ⟨m2, e2⟩ := tbls b _ e1
    exact ⟨m1 ++ m2, by rw [e2, Array.append_assoc]⟩
  · obtain ⟨m, hn, hl⟩ := I.loc
    refine ⟨m, ns m hn, fun i x v e1 e2 e3 => ?_⟩
    obtain ⟨u, r, l⟩ := hl i x v e1 e2 e3
    refine ⟨u, r, ?_⟩
    rcases l with l | ⟨k, c, e, z⟩
    · exact .inl l
    · exact .inr ⟨k, c, e, cellK x c e _ z⟩
  · obtain ⟨v, z⟩ := I.cell x c e
    exact ⟨v, cellK x c e v z⟩
  · obtain ⟨m, ⟨o, _, _, ho, _⟩, _⟩ := I.loc
    exact free _ o (fun z => (hch _ z).2.1 rfl) ho I.free
  · obtain ⟨v, o, ho, hd⟩ := I.cell x c e
    exact free c o (fun z => (hch c z).2.2.1 x c e rfl) ho (I.freeC x c e)
  · obtain ⟨e, n, ne, nf, d⟩ := I.pin p hp
    have nch : p.1 ∉ ch := fun z => (hch p.1 z).2.2.2 p hp rfl
    exact ⟨keep p.1 p.2 ne nf nch e n, free p.1 p.2 nch e n, ne, nf, d⟩
theorem Inv.un {t' : Nat} (I : Inv X pins σ H s) (u : Un X.fs [] H H' s.heap h') (hok : HOk X.prog X.w H' h') : Inv X pins σ H' { s with heap := h', toks := t' } := by
  obtain ⟨m, ⟨o, es, ep, ho, r⟩, _⟩ := id I.loc
  obtain ⟨sl, hL⟩ := u.any ho I.free (by simp)
  exact I.step (g' := s.gens) (d' := s.drawn) (ch := []) (fun _ z => nomatch z) (fun b o _ hb _ e n => u.keep b o e n hb (by simp)) (fun b o _ hb _ e n => u.slot b o e n hb (by simp)) (fun b o _ e n => u.free b o e n (by simp)) (fun b o _ e => u.there b o e (by simp)) u.tups u.frzs u.tbls (fun m' hm => by
    obtain ⟨o', es', ep', ho', r'⟩ := hm
    rw [ho] at ho'; cases ho'
    exact ⟨_, es', ep', hL, r'⟩) hok I.bare
theorem Inv.call {g' : Array GenState} {t' : Nat} {d' : Drawn} {ch : List Addr} (I : Inv X pins σ H s) (u : Un (frs X.stack) ch H H' s.heap h') (hok : HOk X.prog X.w H' h') (hg : AllBare g')
    (hch : ∀ b ∈ ch, (b ∈ X.ex ∨ X.s₀.heap.objs.size ≤ b) ∧ b ≠ X.env.locals ∧ (∀ x c, X.env.cells.lookup x = some c → c ≠ b) ∧ ∀ p ∈ X.pn ++ pins, p.1 ≠ b) :
    Inv X pins σ H' { s with heap := h', gens := g', drawn := d', toks := t' } := by
  obtain ⟨m, ⟨o, es, ep, ho, r⟩, _⟩ := id I.loc
  obtain ⟨sl, hL⟩ := u.any ho I.free fun z => (hch _ z).2.1 rfl
  exact I.step (ch := ch) hch (fun b o hL hb hc e n => u.keep b o e n (fun z => (List.mem_cons.mp (I.stkSub b z)).elim hL hb) hc) (fun b o _ _ hc e n => u.any e n hc) (fun b o hc e n => u.free b o e n hc) (fun b o hc e => u.there b o e hc) u.tups u.frzs u.tbls (fun m' hm => by
    obtain ⟨o', es', ep', ho', r'⟩ := hm
    rw [ho] at ho'; cases ho'
    exact ⟨_, es', ep', hL, r'⟩) hok hg
theorem Inv.turned {t' : Nat} {it : Addr} (I : Inv X pins σ H s) (k : ∀ b o, b ≠ it → s.heap.get? b = some o → h'.get? b = some o) (hn : H it = none) (hL : it ≠ X.env.locals)
    (h1 : it ∈ X.ex ∨ X.s₀.heap.objs.size ≤ it) (h2 : ∀ x c, X.env.cells.lookup x = some c → c ≠ it) (h3 : ∀ p ∈ X.pn ++ pins, p.1 ≠ it) : Inv X pins σ H { s with heap := h', toks := t' } := by
  have nit : ∀ b u, H b = some u → b ≠ it := fun b u e z => by rw [z, hn] at e; cases e
  refine I.step (g' := s.gens) (d' := s.drawn) (ch := [it]) (fun b hb => ?_) (fun b o _ _ hc e _ => k b o (fun z => hc (by simp [z])) e) (fun b o _ _ hc e _ => ⟨o.slots, k b o (fun z => hc (by simp [z])) e⟩) (fun _ _ _ _ n => n)
    (fun b o hc e => ⟨o, k b o (fun z => hc (by simp [z])) e⟩) (fun _ _ e => e) (fun _ _ _ e => e) (fun b ps e => ⟨#[], by rw [e]; simp⟩) (fun m hm => ?_) (fun b u e => ?_) I.bare
  · have e : b = it := by simpa using hb
    subst e
    exact ⟨h1, hL, h2, h3⟩
  · obtain ⟨o, es, ep, ho, r⟩ := hm
    exact ⟨o, es, ep, k _ o (Ne.symm hL) ho, r⟩
  · refine (I.hok b u e).stay (fun c v hc q => k c v ?_ q) (fun _ q => q) fun _ _ q => q
    rcases hc with z | z
    · rw [z]; exact nit b u e
    · exact nit c _ z
theorem Inv.tok (I : Inv X pins σ H s) (t : Nat) : Inv X pins σ H { s with toks := t } := I.un (h' := s.heap) (t' := t) Un.refl I.hok
theorem Inv.kept {t' : Nat} (I : Inv X pins σ H s) (k : ∀ b u, s.heap.get? b = some u → h'.get? b = some u) : Inv X pins σ H { s with heap := h', toks := t' } := I.un (Un.kept k) (I.hok.kept k)
theorem Inv.laid {a : Addr} {o : HO} {t' : Nat} (I : Inv X pins σ H s) (k : ∀ b u, s.heap.get? b = some u → h'.get? b = some u) (hp : s.heap.objs.size ≤ a) (new : ObjOk X.prog X.w (upd H a o) h' a o) :
    Inv X pins σ (upd H a o) { s with heap := h', toks := t' } := I.un (Un.laid k hp (I.hok.fresh hp)) (I.hok.laid k hp new)
theorem Inv.write {x e : Addr} {o : HO} {t' : Nat} (I : Inv X pins σ H s) (mu : Mut (H x)) (he : e = x ∨ H e = some (.own x)) (k : ∀ b u, b ≠ e → s.heap.get? b = some u → h'.get? b = some u) (heo : ∃ u, h'.get? e = some u)
    (new : ObjOk X.prog X.w (upd H x o) h' x o) : Inv X pins σ (upd H x o) { s with heap := h', toks := t' } := I.un (Un.write mu he k heo) (I.hok.write mu he k heo new)
theorem Inv.pins_of {pins' : List (Addr × Obj)} (I : Inv X pins σ H s) (h : ∀ p ∈ pins', s.heap.get? p.1 = some p.2 ∧ H p.1 = none ∧ p.1 ≠ X.env.locals ∧ p.1 ∉ X.fs ∧ ∀ v, p.2.data ≠ .cell v) : Inv X pins' σ H s :=
  ⟨I.ok, I.os, I.bare, I.base, I.loc, I.cell, I.free, I.freeC, fun p hp => (List.mem_append.mp hp).elim (fun z => I.pin p (List.mem_append_left _ z)) (h p), I.hok, I.len⟩
theorem nodup_ix {N : List Str} (hN : N.Nodup) {i j : Nat} {x : Str} (a : N[i]? = some x) (b : N[j]? = some x) : i = j := by
  obtain ⟨h1, e1⟩ := List.getElem?_eq_some_iff.mp a
  obtain ⟨h2, e2⟩ := List.getElem?_eq_some_iff.mp b
  exact (List.getElem_inj hN).mp (e1.trans e2.symm)
theorem store_ok2 {M : Model} {A : Around} {E : Value → Shared → Prop} {i : Nat} {x : Str} {v : V} {u : Value} {Q : Unit → Shared → Prop} (I : Inv X pins σ H s) (hN : X.N.Nodup) (hi : X.N[i]? = some x) (hx : Loc X.env.scope x) (r : RelV v u)
    (h : ∀ s', Inv X pins (σ.set i (some v)) H s' → (∃ a, Heap.SameBut a s.heap s'.heap ∧ (a = X.env.locals ∨ X.env.cells.lookup x = some a)) → Q () s') (hf : X.fn x = true ∨ X.env.scope.names.lookup x = some .local := by trivial) : wpAny M A (storeName X.env x u) Q E s := by
  obtain ⟨m, hn, hl⟩ := id I.loc
  have hcls : (X.env.scope.kind == .class || (X.env.scope.kind == .module && X.env.locals != X.env.globals)) = false := by rw [I.ok.kind]; rfl
  have hiσ : i < σ.length := by rw [I.len]; exact (List.getElem?_eq_some_iff.mp hi).1
  have cne := I.cne
  have tracked : ∀ {a : Addr} {h' : Heap}, (∃ o, s.heap.get? a = some o ∧ H a = none) → Heap.SameBut a s.heap h' → HOk X.prog X.w H h' := fun {a h'} ha hs b ob e => by
    obtain ⟨_, _, hfree⟩ := ha
    refine (I.hok b ob e).stay (fun c w' hc q => (hs.2 c ?_).trans q) (fun _ q => q) fun _ _ q => q
    rintro rfl
    rcases hc with rfl | hc
    · rw [hfree] at e; cases e
    · rw [hfree] at hc; cases hc
  rcases hx with hk | hk
  · refine wpAny_storeName_local hk hn (fun h' hn' hs => ?_) hcls
    obtain ⟨oL, _, _, hoL, _⟩ := id hn
    refine h _ ⟨I.ok, I.os, I.bare, ⟨fun b o e n hb hx => ?_, fun b o e n hb hx => ?_, I.base.free, fun b o e hx => ?_, I.base.tups, I.base.frzs, I.base.tbls⟩, ⟨_, hn', fun j y v' e1 e2 e3 => ?_⟩, fun y c e => ?_, I.free, I.freeC, fun p hp => ?_, tracked ⟨oL, hoL, I.free⟩ hs, by simpa using I.len⟩ ⟨_, hs, .inl rfl⟩
    · exact (hs.2 b (Nat.ne_of_lt (Nat.lt_of_lt_of_le (Heap.lt_size e) I.ok.above))).trans (I.base.keep b o e n hb hx)
    · obtain ⟨sl, e1⟩ := I.base.slot b o e n hb hx
      exact ⟨sl, (hs.2 b (Nat.ne_of_lt (Nat.lt_of_lt_of_le (Heap.lt_size e) I.ok.above))).trans e1⟩
    · obtain ⟨o', e1⟩ := I.base.there b o e hx
      exact ⟨o', (hs.2 b (Nat.ne_of_lt (Nat.lt_of_lt_of_le (Heap.lt_size e) I.ok.above))).trans e1⟩
    · by_cases hj : j = i
      · subst hj
        rw [hi] at e1; cases e1
        rw [List.getElem?_set_self hiσ] at e2
        cases e2
        exact ⟨u, r, .inl ⟨hk, by simp⟩⟩
      · rw [List.getElem?_set_ne (Ne.symm hj)] at e2
        obtain ⟨u', r', q⟩ := hl j y v' e1 e2 e3
        refine ⟨u', r', ?_⟩
        rcases q with ⟨k, e⟩ | ⟨k, c, e, z⟩
        · refine .inl ⟨k, ?_⟩
          have : y ≠ x := fun e => hj (nodup_ix hN e1 (e ▸ hi))
          simp [this, e]
        · exact .inr ⟨k, c, e, z.sameBut hs (cne y c e)⟩
    · obtain ⟨w', z⟩ := I.cell y c e
      exact ⟨w', z.sameBut hs (cne y c e)⟩
    · obtain ⟨e, n, ne, nf, d⟩ := I.pin p hp
      exact ⟨(hs.2 p.1 ne).trans e, n, ne, nf, d⟩
  · have hfn : X.fn x = true := by
      rcases hf with z | z
      · exact z
      · rw [z] at hk; cases hk
    obtain ⟨c, hc⟩ := I.ok.has x (.inl hk)
    obtain ⟨w', z⟩ := I.cell x c hc
    refine wpAny_storeName_cell I.ok.kind hk hc z (fun h' hc' hs => ?_)
    obtain ⟨oc, hoc, hocd⟩ := id z
    refine h { s with heap := h' } ⟨I.ok, I.os, I.bare, ⟨fun b o e n hb hx => ?_, fun b o e n hb hx => ?_, I.base.free, fun b o e hx => ?_, I.base.tups, I.base.frzs, I.base.tbls⟩, ⟨m, hn.sameBut hs (Ne.symm (cne x c hc)), fun j y v' e1 e2 e3 => ?_⟩, fun y c' e => ?_, I.free, I.freeC, fun p hp => ?_, tracked ⟨oc, hoc, I.freeC x c hc⟩ hs, by simpa using I.len⟩ ⟨c, hs, .inr hc⟩
    · exact (hs.2 b (Nat.ne_of_lt (Nat.lt_of_lt_of_le (Heap.lt_size e) (I.ok.cab x c hfn hc)))).trans (I.base.keep b o e n hb hx)
    · obtain ⟨sl, e1⟩ := I.base.slot b o e n hb hx
      exact ⟨sl, (hs.2 b (Nat.ne_of_lt (Nat.lt_of_lt_of_le (Heap.lt_size e) (I.ok.cab x c hfn hc)))).trans e1⟩
    · obtain ⟨o', e1⟩ := I.base.there b o e hx
      exact ⟨o', (hs.2 b (Nat.ne_of_lt (Nat.lt_of_lt_of_le (Heap.lt_size e) (I.ok.cab x c hfn hc)))).trans e1⟩
    · by_cases hj : j = i
      · subst hj
        rw [hi] at e1; cases e1
        rw [List.getElem?_set_self hiσ] at e2
        cases e2
        exact ⟨u, r, .inr ⟨.inl hk, c, hc, hc'⟩⟩
      · rw [List.getElem?_set_ne (Ne.symm hj)] at e2
        obtain ⟨u', r', q⟩ := hl j y v' e1 e2 e3
        refine ⟨u', r', ?_⟩
        rcases q with q | ⟨k, c', e, z'⟩
        · exact .inl q
        · refine .inr ⟨k, c', e, z'.sameBut hs ?_⟩
          rintro rfl
          exact hj (nodup_ix hN e1 (I.ok.inj _ _ _ e hc ▸ hi))
    · by_cases hcc : c' = c
      · subst hcc; exact ⟨_, hc'⟩
      · obtain ⟨w2, z2⟩ := I.cell y c' e
        exact ⟨w2, z2.sameBut hs hcc⟩
    · obtain ⟨e, n, ne, nf, d⟩ := I.pin p hp
      refine ⟨(hs.2 p.1 ?_).trans e, n, ne, nf, d⟩
      intro q
      rw [q, hoc] at e
      have q' : oc = p.2 := Option.some.inj e
      exact d w' (by rw [← q']; exact hocd)
theorem store_ok {M : Model} {A : Around} {E : Value → Shared → Prop} {i : Nat} {x : Str} {v : V} {u : Value} {Q : Unit → Shared → Prop} (I : Inv X pins σ H s) (hN : X.N.Nodup) (hi : X.N[i]? = some x) (hx : Loc X.env.scope x) (r : RelV v u)
    (h : ∀ s', Inv X pins (σ.set i (some v)) H s' → Q () s') (hf : X.fn x = true ∨ X.env.scope.names.lookup x = some .local := by trivial) : wpAny M A (storeName X.env x u) Q E s :=
  store_ok2 I hN hi hx r (fun s' I' _ => h s' I') hf
theorem Inv.call' {s' : Shared} {ch : List Addr} (I : Inv X pins σ H s) (ho : s'.os = s.os) (u : Un (frs X.stack) ch H H' s.heap s'.heap) (hok : HOk X.prog X.w H' s'.heap) (hg : AllBare s'.gens)
    (hch : ∀ b ∈ ch, (b ∈ X.ex ∨ X.s₀.heap.objs.size ≤ b) ∧ b ≠ X.env.locals ∧ (∀ x c, X.env.cells.lookup x = some c → c ≠ b) ∧ ∀ p ∈ X.pn ++ pins, p.1 ≠ b) : Inv X pins σ H' s' := by
  obtain ⟨h', g', d', t', o'⟩ := s'
  have e : o' = s.os := ho
  subst e
  exact I.call (g' := g') (t' := t') (d' := d') u hok hg hch
end
noncomputable abbrev XK := Value → Option Addr → Hp → Prop
noncomputable abbrev St := List (Option V)
noncomputable abbrev VK := V → Hp → Prop
noncomputable abbrev TE := St → Hp → VK → Prop
noncomputable abbrev TT := St → Hp → (Bool → Hp → Prop) → Prop
noncomputable abbrev TA := St → Hp → (List V → Hp → Prop) → Prop
structure Ends where
  nx : St → Hp → Prop
  rt : VK
  bk : St → Hp → Prop := fun _ _ => False
  ct : St → Hp → Prop := fun _ _ => False
noncomputable abbrev TS := Ends → St → Hp → Prop
noncomputable def EP (X : Cx) (pins : List (Addr × Obj)) (σ : St) (Q : VK) (u : Value) (s' : Shared) : Prop := ∃ v H', Inv X pins σ H' s' ∧ RelV v u ∧ Q v H'
noncomputable def TP (X : Cx) (pins : List (Addr × Obj)) (σ : St) (Q : Bool → Hp → Prop) (b : Bool) (s' : Shared) : Prop := ∃ H', Inv X pins σ H' s' ∧ Q b H'
noncomputable def AP (X : Cx) (pins : List (Addr × Obj)) (σ : St) (Q : List V → Hp → Prop) (us : List Value) (s' : Shared) : Prop := ∃ vs H', Inv X pins σ H' s' ∧ Vals vs us ∧ Q vs H'
noncomputable def SP (X : Cx) (pins : List (Addr × Obj)) (D : Ends) (f : Flow) (s' : Shared) : Prop :=
  match f with
  | .next => ∃ σ' H', Inv X pins σ' H' s' ∧ D.nx σ' H'
  | .brk => ∃ σ' H', Inv X pins σ' H' s' ∧ D.bk σ' H'
  | .cont => ∃ σ' H', Inv X pins σ' H' s' ∧ D.ct σ' H'
  | .ret u => ∃ v σ' H', Inv X pins σ' H' s' ∧ RelV v u ∧ D.rt v H'
noncomputable def PE (X : Cx) (e : Expr) (t : TE) : Prop :=
  ∀ (pins : List (Addr × Obj)) (s : Shared) (σ : St) (H : Hp) (Q : VK), Inv X pins σ H s → t σ H Q → wpAny (model X.prog X.w) X.A (eval e X.env) (EP X pins σ Q) X.xe s
noncomputable def PT (X : Cx) (e : Expr) (t : TT) : Prop :=
  ∀ (pins : List (Addr × Obj)) (s : Shared) (σ : St) (H : Hp) (Q : Bool → Hp → Prop), Inv X pins σ H s → t σ H Q → wpAny (model X.prog X.w) X.A (isTrue e X.env (eval e X.env)) (TP X pins σ Q) X.xe s
noncomputable def PW (X : Cx) (e : Expr) (t : TT) : Prop :=
  ∀ (whole : Sem Value) (pins : List (Addr × Obj)) (s : Shared) (σ : St) (H : Hp) (Q : Bool → Hp → Prop), Inv X pins σ H s → t σ H Q → wpAny (model X.prog X.w) X.A (isTrue e X.env whole) (TP X pins σ Q) X.xe s
theorem PW.pt {X : Cx} {e : Expr} {t : TT} (h : PW X e t) : PT X e t := h _
noncomputable def PA (X : Cx) (es : List Expr) (t : TA) : Prop :=
  ∀ (pos : Pos) (pins : List (Addr × Obj)) (s : Shared) (σ : St) (H : Hp) (Q : List V → Hp → Prop), Inv X pins σ H s → t σ H Q → wpAny (model X.prog X.w) X.A (spliced (backTo pos (starEach es X.env))) (AP X pins σ Q) X.xe s
noncomputable def PS (X : Cx) (st : Stmt) (t : TS) : Prop :=
  ∀ (pins : List (Addr × Obj)) (s : Shared) (σ : St) (H : Hp) (D : Ends), Inv X pins σ H s → t D σ H → wpAny (model X.prog X.w) X.A (exec st X.env) (SP X pins D) X.xe s
noncomputable def PSs (X : Cx) (st : List Stmt) (t : TS) : Prop :=
  ∀ (pins : List (Addr × Obj)) (s : Shared) (σ : St) (H : Hp) (D : Ends), Inv X pins σ H s → t D σ H → wpAny (model X.prog X.w) X.A (execs st X.env) (SP X pins D) X.xe s
theorem thn {α : Type} {t : Sem α} {Q Q' : α → Shared → Prop} {M : Model} {A : Around} {E : Value → Shared → Prop} {s : Shared} (h : wpAny M A t Q E s) (hQ : ∀ a s, Q a s → Q' a s) : wpAny M A t Q' E s := wpAny_mono h hQ fun _ _ x => x
end L2
namespace L2
open PySem PySem.Spec PyProof.Rows
section
variable {X : Cx}
theorem bin {a b : Expr} {ta tb : TE} (ha : PE X a ta) (hb : PE X b tb) {pins : List (Addr × Obj)} {s : Shared} {σ : St} {H : Hp} {R : V → V → Hp → Prop} (I : Inv X pins σ H s) (h : ta σ H fun x H1 => tb σ H1 fun y H2 => R x y H2)
    {α : Type} {Q : α → Shared → Prop} {f : Value → Value → Sem α}
    (hf : ∀ v u s2 x y H2, Inv X pins σ H2 s2 → RelV x v → RelV y u → R x y H2 → wpAny (model X.prog X.w) X.A (f v u) Q X.xe s2) :
    wpAny (model X.prog X.w) X.A (eval a X.env) (fun v s₁ => wpAny (model X.prog X.w) X.A (eval b X.env) (fun u s₂ => wpAny (model X.prog X.w) X.A (f v u) Q X.xe s₂) X.xe s₁) X.xe s := by
  refine thn (ha pins s σ H _ I h) fun v s1 ⟨x, H1, I1, r1, q1⟩ => ?_
  refine thn (hb pins s1 σ H1 _ I1 q1) fun u s2 ⟨y, H2, I2, r2, q2⟩ => ?_
  exact hf v u s2 x y H2 I2 r1 r2 q2
noncomputable def tVar (i : Nat) : TE := fun σ H Q => ∃ v, σ[i]? = some (some v) ∧ Q v H
noncomputable def tC (v : V) : TE := fun _ H Q => Q v H
theorem pe_var {i : Nat} {x : Str} {pos : Pos} (hN : X.N[i]? = some x) (hv : Vis X.env.scope x) (hd : (x == ("__debug__" : Str)) = false := by decide) (hcd : (x == ("__classdict__" : Str)) = false := by decide) : PE X (.Name x pos) (tVar i) := by
  intro pins s σ H Q I h
  obtain ⟨v, e, h⟩ := h
  obtain ⟨m, hn, hl⟩ := I.loc
  obtain ⟨u, r, l⟩ := hl i x v hN e hv
  have fin : EP X pins σ Q u s := ⟨v, H, I, r, h⟩
  rcases l with ⟨hk, hm⟩ | ⟨hk, c, hc, hcell⟩
  · exact wpAny_Name (wpAny_loadName_local I.ok.kind hk hn hm fin) hd
  · rcases hk with hk | hk
    · exact wpAny_Name (wpAny_loadName_cell I.ok.kind hk hc hcell fin) hd
    · exact wpAny_Name (wpAny_loadName_free I.ok.kind hk hc hcell fin hcd) hd
theorem pe_int {i j pos} : PE X (.Constant (.int i) j pos) (tC (.int i)) := fun _ _ _ H _ I h => wpAny_Constant_int ⟨.int i, H, I.tok _, ⟨_, rfl⟩, h⟩
theorem pe_bl {b j pos} : PE X (.Constant (.bool b) j pos) (tC (.bl b)) := fun _ _ _ H _ I h => Constant_bool ⟨.bl b, H, I, rfl, h⟩
theorem pe_non {j pos} : PE X (.Constant .none j pos) (tC .non) := fun _ _ _ H _ I h => Constant_none ⟨.non, H, I, rfl, h⟩
theorem pe_str {x j pos} : PE X (.Constant (.str x) j pos) (tC (.str x)) := fun _ _ _ H _ I h => Calls.Constant_str ⟨.str x, H, I.tok _, ⟨_, rfl⟩, h⟩
noncomputable def Gl (X : Cx) (x : Str) : Prop := X.env.kindOf x = some .globalImplicit
theorem ld_glob {E : Value → Shared → Prop} {pins : List (Addr × Obj)} {s : Shared} {σ : St} {H : Hp} {x : Str} {u : Value} {pos : Pos} {Q : Value → Shared → Prop} (I : Inv X pins σ H s) (hg : Gl X x) (hm : X.mg x = some u) (h : Q u s)
    (hd : (x == ("__debug__" : Str)) = false := by decide) : wpAny (model X.prog X.w) X.A (eval (.Name x pos) X.env) Q E s :=
  Calls.Name_function_global I.ok.kind hg (Calls.loadGlobal_global (by rw [I.ok.glob]; exact I.mod.glob.keeps I.bk) hm h) hd
theorem ld_blt {E : Value → Shared → Prop} {pins : List (Addr × Obj)} {s : Shared} {σ : St} {H : Hp} {x : Str} {u : Value} {pos : Pos} {Q : Value → Shared → Prop} (I : Inv X pins σ H s) (hg : Gl X x) (hm : X.mg x = none) (hv : bootBuiltins x = some u) (h : Q u s)
    (hn : x ≠ "__name__" := by decide) (hd : (x == ("__debug__" : Str)) = false := by decide) : wpAny (model X.prog X.w) X.A (eval (.Name x pos) X.env) Q E s := by
  obtain ⟨mb, h1, h2⟩ := I.mod.blt
  exact Calls.Name_function_global I.ok.kind hg (Calls.loadGlobal_builtin (by rw [I.ok.glob]; exact I.mod.glob.keeps I.bk) hm (by rw [I.ok.blt]; exact h1.keeps I.bk) ((h2 x hn).trans hv) h) hd
theorem pe_glob {x : Str} {v : V} {u : Value} {pos : Pos} (hg : Gl X x) (hm : X.mg x = some u) (r : RelV v u) (hd : (x == ("__debug__" : Str)) = false := by decide) : PE X (.Name x pos) (tC v) :=
  fun _ _ _ H _ I h => ld_glob I hg hm ⟨v, H, I, r, h⟩ hd
theorem pe_bltn {x : Str} {v : V} {u : Value} {pos : Pos} (hg : Gl X x) (hm : X.mg x = none) (hv : bootBuiltins x = some u) (r : RelV v u) (hn : x ≠ "__name__" := by decide) (hd : (x == ("__debug__" : Str)) = false := by decide) : PE X (.Name x pos) (tC v) :=
  fun _ _ _ H _ I h => ld_blt I hg hm hv ⟨v, H, I, r, h⟩ hn hd
variable {a b : Expr} {ta tb : TE} {pos : Pos}
variable {tA tB' : TT} {rest : List Expr}
noncomputable def tAnd (t u : TT) : TT := fun σ H Q => t σ H fun c H1 => if c = true then u σ H1 Q else Q false H1
noncomputable def tOr (t u : TT) : TT := fun σ H Q => t σ H fun c H1 => if c = true then Q true H1 else u σ H1 Q
noncomputable def tNot (t : TT) : TT := fun σ H Q => t σ H fun c H1 => Q (!c) H1
theorem pw_and1 (ha : PT X a tA) : PW X (.BoolOp .And [a] pos) tA := by
  intro wh pins s σ H Q I h
  refine isTrue_and (thn (ha pins s σ H Q I h) fun c s1 e => ?_)
  cases c with
  | true => exact isTrue_and_nil e
  | false => exact e
theorem pw_or1 (ha : PT X a tA) : PW X (.BoolOp .Or [a] pos) tA := by
  intro wh pins s σ H Q I h
  refine isTrue_or (thn (ha pins s σ H Q I h) fun c s1 e => ?_)
  cases c with
  | false => exact isTrue_or_nil e
  | true => exact e
theorem pw_and (ha : PT X a tA) (hb : PW X (.BoolOp .And (b :: rest) pos) tB') : PW X (.BoolOp .And (a :: b :: rest) pos) (tAnd tA tB') := by
  intro wh pins s σ H Q I h
  refine isTrue_and (thn (ha pins s σ H _ I h) fun c s1 ⟨H1, I1, q1⟩ => ?_)
  cases c with
  | true => exact hb wh pins s1 σ H1 Q I1 q1
  | false => exact ⟨H1, I1, q1⟩
theorem pw_or (ha : PT X a tA) (hb : PW X (.BoolOp .Or (b :: rest) pos) tB') : PW X (.BoolOp .Or (a :: b :: rest) pos) (tOr tA tB') := by
  intro wh pins s σ H Q I h
  refine isTrue_or (thn (ha pins s σ H _ I h) fun c s1 ⟨H1, I1, q1⟩ => ?_)
  cases c with
  | true => exact ⟨H1, I1, q1⟩
  | false => exact hb wh pins s1 σ H1 Q I1 q1
theorem pt_not (ha : PT X a tA) : PT X (.UnaryOp .Not a pos) (tNot tA) := by
  intro pins s σ H Q I h
  exact isTrue_not (ha pins s σ H (fun c H1 => Q (!c) H1) I h)
noncomputable def tAndV (ta tb : TE) : TE := fun σ H Q => ta σ H fun x H1 => ∃ c, x = .bl c ∧ if c = true then tb σ H1 Q else Q (.bl false) H1
noncomputable def tNotV (ta : TE) : TE := fun σ H Q => ta σ H fun x H1 => ∃ c, x = .bl c ∧ Q (.bl (!c)) H1
theorem pe_one {op} {t : TE} (h : PE X a t) : PE X (.BoolOp op [a] pos) t := fun pins s σ H Q I hw => BoolOp_one (h pins s σ H Q I hw)
theorem pe_and (ha : PE X a ta) (hb : PE X (.BoolOp .And (b :: rest) pos) tb) : PE X (.BoolOp .And (a :: b :: rest) pos) (tAndV ta tb) := by
  intro pins s σ H Q I h
  refine BoolOp_and (thn (ha pins s σ H _ I h) fun v s1 ⟨x, H1, I1, r1, q1⟩ => ?_)
  obtain ⟨c, rfl, q1⟩ := q1
  cases r1
  refine wpAny_truthy_bool ?_
  cases c with
  | true => exact hb pins s1 σ H1 Q I1 q1
  | false => exact ⟨.bl false, H1, I1, rfl, q1⟩
theorem pe_not (ha : PE X a ta) : PE X (.UnaryOp .Not a pos) (tNotV ta) := by
  intro pins s σ H Q I h
  refine UnaryOp_ (thn (ha pins s σ H _ I h) fun v s1 ⟨x, H1, I1, r1, q1⟩ => ?_)
  obtain ⟨c, rfl, q1⟩ := q1
  cases r1
  exact not_of (wpAny_truthy_bool ⟨.bl (!c), H1, I1, rfl, q1⟩)
end
end L2
namespace L2
open PySem PySem.Spec PyProof.Rows
noncomputable def SqL (K : PySem.W.Frag) (H : Hp) (a : Addr) (xs : List V) : Prop :=
  Rd H a (.lst xs) ∨
    ∃ (o : Obj) (its : Array Value) (n : Nat), K.lookup a = some o ∧ o.cls = .type "list" ∧ o.dict = none ∧ o.data = .seq its n ∧ its.size ≤ sizeLine ∧ Vals xs its.toList
noncomputable def SqT (K : PySem.W.Frag) (H : Hp) (a : Addr) (xs : List V) : Prop :=
  Rd H a (.tup xs) ∨
    ∃ (o : Obj) (its : Array Value) (n : Nat), K.lookup a = some o ∧ o.cls = .type "tuple" ∧ o.data = .seq its n ∧ its.size ≤ sizeLine ∧ Vals xs its.toList
noncomputable def absV : Value → Option V
  | .none => some .non
  | .bool b => some (.bl b)
  | .int i _ => some (.int i)
  | .str x _ => some (.str x)
  | .bytes b _ => some (.byt b)
  | .float b _ => some (.flt b)
  | .ref a => some (.ref a)
  | .type n => some (.ty n)
  | _ => none
theorem RelV.abs {x : V} {u : Value} (r : RelV x u) : absV u = some x := by
  cases x with
  | non => cases r; rfl
  | bl _ => cases r; rfl
  | int _ => obtain ⟨t, rfl⟩ := r; rfl
  | str _ => obtain ⟨t, rfl⟩ := r; rfl
  | byt _ => obtain ⟨t, rfl⟩ := r; rfl
  | flt _ => obtain ⟨t, rfl⟩ := r; rfl
  | ref _ => cases r; rfl
  | ty _ => cases r; rfl
theorem RelV.inj {x y : V} {u : Value} (r : RelV x u) (q : RelV y u) : x = y := Option.some.inj (r.abs.symm.trans q.abs)
theorem Vals.inj : ∀ {xs ys : List V} {us : List Value}, Vals xs us → Vals ys us → xs = ys
  | _, _, _, .nil, .nil => rfl
  | _, _, _, .cons r t, .cons r' t' => by rw [r.inj r', Vals.inj t t']
section
variable {X : Cx} {pins : List (Addr × Obj)} {σ : St} {H : Hp} {s : Shared} {a : Addr} {xs ys : List V}
theorem SqL.of {K : PySem.W.Frag} (h : H a = some (.lst xs)) : SqL K H a xs := .inl (.inl h)
theorem Inv.list (I : Inv X pins σ H s) (h : SqL X.K H a xs) : ∃ its : List Value, Vals xs its ∧ PlainL s.heap a its.toArray ∧ xs.length ≤ sizeLine := by
  rcases h with h | ⟨o, its, n, hk, hc, hd, hs, hz, r⟩
  · obtain ⟨z, its, n, r, e⟩ := h.ok I.hok
    exact ⟨its, r, ⟨_, n, e, rfl, rfl, rfl⟩, z⟩
  · refine ⟨its.toList, r, ⟨o, n, I.kIn a o hk, hc, hd, by simpa using hs⟩, ?_⟩
    have e := r.length
    simp only [Array.length_toList] at e
    omega
theorem Inv.tuple (I : Inv X pins σ H s) (h : SqT X.K H a xs) : ∃ its : List Value, Vals xs its ∧ IsTup s.heap a its.toArray ∧ xs.length ≤ sizeLine := by
  rcases h with h | ⟨o, its, n, hk, hc, hs, hz, r⟩
  · obtain ⟨z, its, r, p⟩ := h.ok I.hok
    exact ⟨its, r, p, z⟩
  · refine ⟨its.toList, r, ⟨o, I.kIn a o hk, hc, n, by simpa using hs⟩, ?_⟩
    have e := r.length
    simp only [Array.length_toList] at e
    omega
theorem Inv.list_inj (I : Inv X pins σ H s) (h : SqL X.K H a xs) (h' : SqL X.K H a ys) : xs = ys := by
  obtain ⟨its, r, ⟨o, n, e, _, _, d⟩, _⟩ := I.list h
  obtain ⟨its', r', ⟨o', n', e', _, _, d'⟩, _⟩ := I.list h'
  rw [e] at e'; cases e'
  rw [d] at d'
  injection d' with d1 _
  have : its = its' := by simpa using congrArg Array.toList d1
  subst this
  exact r.inj r'
theorem Inv.tuple_inj (I : Inv X pins σ H s) (h : SqT X.K H a xs) (h' : SqT X.K H a ys) : xs = ys := by
  obtain ⟨its, r, ⟨o, e, _, n, d⟩, _⟩ := I.tuple h
  obtain ⟨its', r', ⟨o', e', _, n', d'⟩, _⟩ := I.tuple h'
  rw [e] at e'; cases e'
  rw [d] at d'
  injection d' with d1 _
  have : its = its' := by simpa using congrArg Array.toList d1
  subst this
  exact r.inj r'
end
noncomputable abbrev Cx.wish (X : Cx) (E : Value → Shared → Prop) : Cx := { X with xe := E }
noncomputable abbrev Cx.nox (X : Cx) : Cx := X.wish fun _ _ => False
theorem Cx.Ok.wish {X : Cx} (ok : X.Ok) (E : Value → Shared → Prop) : (X.wish E).Ok :=
  ⟨ok.mod, ok.kind, ok.glob, ok.blt, ok.above, ok.inj, ok.has, ok.cab, ok.hd, ok.frames, ok.stk, ok.exf, ok.bs, ok.bsz, ok.noex, ok.exfs, ok.funs, ok.frf⟩
theorem Cx.Ok.unwish {X : Cx} {E : Value → Shared → Prop} (ok : (X.wish E).Ok) : X.Ok :=
  ⟨ok.mod, ok.kind, ok.glob, ok.blt, ok.above, ok.inj, ok.has, ok.cab, ok.hd, ok.frames, ok.stk, ok.exf, ok.bs, ok.bsz, ok.noex, ok.exfs, ok.funs, ok.frf⟩
section
variable {X : Cx} {pins : List (Addr × Obj)} {σ : St} {H : Hp} {s : Shared} {E : Value → Shared → Prop}
theorem Inv.wish (I : Inv X pins σ H s) (E : Value → Shared → Prop) : Inv (X.wish E) pins σ H s := ⟨I.ok.wish E, I.os, I.bare, I.base, I.loc, I.cell, I.free, I.freeC, I.pin, I.hok, I.len⟩
theorem Inv.unwish (I : Inv (X.wish E) pins σ H s) : Inv X pins σ H s := ⟨I.ok.unwish, I.os, I.bare, I.base, I.loc, I.cell, I.free, I.freeC, I.pin, I.hok, I.len⟩
theorem SP.unwish {D : Ends} {f : Flow} {s' : Shared} (h : SP (X.wish E) pins D f s') : SP X pins D f s' := by
  cases f with
  | next => obtain ⟨σ', H', I, q⟩ := h; exact ⟨σ', H', I.unwish, q⟩
  | brk => obtain ⟨σ', H', I, q⟩ := h; exact ⟨σ', H', I.unwish, q⟩
  | cont => obtain ⟨σ', H', I, q⟩ := h; exact ⟨σ', H', I.unwish, q⟩
  | ret u => obtain ⟨v, σ', H', I, r, q⟩ := h; exact ⟨v, σ', H', I.unwish, r, q⟩
theorem PSs.nox {st : List Stmt} {t : TS} (h : PSs X.nox st t) : PSs X st t := fun pins s σ H D I hw =>
  wpAny_mono (h pins s σ H D (I.wish _) hw) (fun _ _ q => q.unwish) fun _ _ z => False.elim z
end
section
variable {X : Cx} {st : Stmt} {rest : List Stmt} {t u : TS} {e : Expr} {te : TE} {pos : Pos}
noncomputable def tNext : TS := fun D σ H => D.nx σ H
noncomputable def tSeq (t u : TS) : TS := fun D σ H => t { D with nx := u D } σ H
theorem pss_nil : PSs X [] tNext := fun _ _ σ H _ I h => wpAny_execs_nil ⟨σ, H, I, h⟩
theorem pss_cons (h1 : PS X st t) (h2 : PSs X rest u) : PSs X (st :: rest) (tSeq t u) := by
  intro pins s σ H D I h
  refine wpAny_execs_cons (thn (h1 pins s σ H { D with nx := u D } I h) fun f s1 q => ?_)
  cases f with
  | next =>
    obtain ⟨σ', H', I', q⟩ := q
    exact h2 pins s1 σ' H' D I' q
  | ret v => exact q
  | brk => exact q
  | cont => exact q
theorem pss_one (h1 : PS X st t) : PSs X [st] t := by
  intro pins s σ H D I h
  refine wpAny_execs_cons (thn (h1 pins s σ H D I h) fun f s1 q => ?_)
  cases f with
  | next => exact wpAny_execs_nil q
  | ret v => exact q
  | brk => exact q
  | cont => exact q
theorem Inv.quiet {pins : List (Addr × Obj)} {σ : St} {H : Hp} {s : Shared} (I : Inv X pins σ H s) : interactive X.env = false := by simp [interactive, I.ok.kind]
noncomputable def tDrop (te : TE) : TS := fun D σ H => te σ H fun _ H1 => D.nx σ H1
theorem ps_expr (he : PE X e te) (hs : swapsWith e none pos.line X.env = pure false := by rfl) : PS X (.Expr e pos) (tDrop te) := by
  intro pins s σ H D I h
  exact wpAny_Expr_any (thn (he pins s σ H _ I h) fun v s1 ⟨x, H1, I1, r1, q1⟩ => ⟨σ, H1, I1, q1⟩) I.quiet hs
noncomputable def tRet (te : TE) : TS := fun D σ H => te σ H D.rt
theorem ps_ret (he : PE X e te) : PS X (.Return (some e) pos) (tRet te) := by
  intro pins s σ H D I h
  exact wpAny_Return_some (thn (he pins s σ H _ I h) fun v s1 ⟨x, H1, I1, r1, q1⟩ => ⟨x, σ, H1, I1, r1, q1⟩)
noncomputable def tIfS (c : TT) (t u : TS) : TS := fun D σ H => c σ H fun b H1 => if b = true then t D σ H1 else u D σ H1
theorem ps_if {c : Expr} {a b : List Stmt} {tc : TT} (hc : PT X c tc) (ha : PSs X a t) (hb : PSs X b u) : PS X (.If c a b pos) (tIfS tc t u) := by
  intro pins s σ H D I h
  refine wpAny_If (thn (hc pins s σ H _ I h) fun d s1 ⟨H1, I1, q1⟩ => ?_)
  cases d with
  | true => exact ha pins s1 σ H1 D I1 q1
  | false => exact hb pins s1 σ H1 D I1 q1
end
noncomputable abbrev TG := V → St → Hp → (St → Hp → Prop) → Prop
noncomputable def PG (X : Cx) (target : Expr) (t : TG) : Prop :=
  ∀ (pins : List (Addr × Obj)) (s : Shared) (σ : St) (H : Hp) (v : V) (u : Value) (Q : St → Hp → Prop), Inv X pins σ H s → RelV v u → t v σ H Q →
    wpAny (model X.prog X.w) X.A (assign target X.env u) (fun _ s' => ∃ σ' H', Inv X pins σ' H' s' ∧ Q σ' H') X.xe s
section
variable {X : Cx} {pos : Pos}
noncomputable def gName (i : Nat) : TG := fun v σ H Q => Q (σ.set i (some v)) H
theorem pg_name {i : Nat} {x : Str} (hN : X.N.Nodup) (hi : X.N[i]? = some x) (hx : Loc X.env.scope x) (hf : X.fn x = true ∨ X.env.scope.names.lookup x = some .local := by trivial) : PG X (.Name x pos) (gName i) := by
  intro pins s σ H v u Q I r h
  exact wpAny_assign_Name (store_ok I hN hi hx r (fun s' I' => ⟨_, H, I', h⟩) hf)
noncomputable def tAsg (te : TE) (g : TG) : TS := fun D σ H => te σ H fun x H1 => g x σ H1 D.nx
theorem ps_set {i : Nat} {x : Str} {e : Expr} {te : TE} {pos' : Pos} (hN : X.N.Nodup) (hi : X.N[i]? = some x) (hx : Loc X.env.scope x) (he : PE X e te) (hs : swapsWith e (some (.Name x pos')) pos.line X.env = pure false := by rfl) (hf : X.fn x = true ∨ X.env.scope.names.lookup x = some .local := by trivial) :
    PS X (.Assign [.Name x pos'] e pos) (tAsg te (gName i)) := by
  intro pins s σ H D I h
  refine wpAny_Assign_Name (thn (he pins s σ H _ I h) fun v s1 ⟨y, H1, I1, r1, q1⟩ => ?_) hs
  exact store_ok I1 hN hi hx r1 (fun s2 I2 => ⟨_, H1, I2, q1⟩) hf
end
section
variable {X : Cx} {pos : Pos}
end
structure It where
  go : Nat → Hp → Prop
  yld : Nat → Hp → V → Hp → Prop
  stop : Nat → Hp → Prop
noncomputable def FpOk (X : Cx) (pins : List (Addr × Obj)) (H : Hp) (b : Addr) : Prop :=
  H b = none ∧ b ≠ X.env.locals ∧ b ∉ X.fs ∧ (b ∈ X.ex ∨ X.s₀.heap.objs.size ≤ b) ∧ (∀ x c, X.env.cells.lookup x = some c → c ≠ b) ∧ ∀ p ∈ X.pn ++ pins, p.1 ≠ b
theorem Inv.fpOk {X : Cx} {pins : List (Addr × Obj)} {σ : St} {H H' : Hp} {s : Shared} {b : Addr} (I : Inv X pins σ H s) (hb : s.heap.objs.size ≤ b) (hn : H' b = none) : FpOk X pins H' b := by
  refine ⟨hn, Nat.ne_of_gt (Nat.lt_of_lt_of_le I.lt hb), I.nofs hb, .inr (Nat.le_trans I.sz hb), fun x c e z => ?_, fun p hp z => ?_⟩
  · obtain ⟨v, q⟩ := I.cell x c e
    exact absurd (Nat.lt_of_lt_of_le q.lt (by rw [z]; exact hb)) (Nat.lt_irrefl _)
  · exact absurd (Nat.lt_of_lt_of_le (Heap.lt_size (I.pin p hp).1) (by rw [z]; exact hb)) (Nat.lt_irrefl _)
structure Turn (P : Program) (w : World) (K : PySem.W.Frag) (tg : Expr) (J : It) (fp : List Addr) (it : Addr) (tn : Nat → Heap → Prop) : Prop where
  mem : it ∈ fp
  obj : ∀ i h, tn i h → ∀ b ∈ fp, ∃ o, h.get? b = some o ∧ ∀ v, o.data ≠ .cell v
  keep : ∀ i h h', tn i h → (∀ b ∈ fp, ∀ o, h.get? b = some o → h'.get? b = some o) → tn i h'
  item : ∀ (X : Cx), X.prog = P → X.w = w → X.K = K → X.calm = true → ∀ (i : Nat) (pins : List (Addr × Obj)) (s : Shared) (σ : St) (H : Hp) (E : Value → Shared → Prop), Inv X pins σ H s → (∀ b ∈ fp, FpOk X pins H b) → tn i s.heap → J.go i H →
    wpAny (model P w) X.A (pyNext (.ref it)) (fun r s1 => ∃ u, r = some u ∧
      wpAny (model P w) X.A (letOwnedTupleGo tg (.ref it) u) (fun _ s2 => ∃ x H', Inv X pins σ H' s2 ∧ RelV x u ∧ J.yld i H x H' ∧ tn (i + 1) s2.heap ∧ ∀ b ∈ fp, H' b = none) E s1) E s
  done : ∀ (X : Cx), X.prog = P → X.w = w → X.K = K → X.calm = true → ∀ (i : Nat) (pins : List (Addr × Obj)) (s : Shared) (σ : St) (H : Hp) (E : Value → Shared → Prop), Inv X pins σ H s → (∀ b ∈ fp, FpOk X pins H b) → tn i s.heap → J.stop i H →
    wpAny (model P w) X.A (pyNext (.ref it)) (fun r s1 => r = none ∧ Inv X pins σ H s1) E s
  self : ∀ (A : Around) (i : Nat) (s : Shared) (Q : Value → Shared → Prop) (E : Value → Shared → Prop), tn i s.heap → Q (.ref it) s → wpAny (model P w) A (pyIter (.ref it)) Q E s
noncomputable abbrev TI := St → Hp → (It → Hp → Prop) → Prop
noncomputable def PIE (X : Cx) (pins : List (Addr × Obj)) (σ : St) (tg : Expr) (R : It → Hp → Prop) (itv : Value) (s2 : Shared) : Prop :=
  ∃ (it : Addr) (fp : List Addr) (tn : Nat → Heap → Prop) (J : It) (H' : Hp), itv = .ref it ∧ Inv X pins σ H' s2 ∧ Turn X.prog X.w X.K tg J fp it tn ∧ tn 0 s2.heap ∧ (∀ b ∈ fp, FpOk X pins H' b) ∧ R J H'
noncomputable def PI (X : Cx) (tg iter : Expr) (wi : TI) : Prop :=
  ∀ (pins : List (Addr × Obj)) (s : Shared) (σ : St) (H : Hp) (R : It → Hp → Prop), Inv X pins σ H s → wi σ H R →
    wpAny (model X.prog X.w) X.A (eval iter X.env) (fun v s1 => wpAny (model X.prog X.w) X.A (pyIter v) (PIE X pins σ tg R) X.xe s1) X.xe s
theorem go_of {M : Model} {A : Around} {E : Value → Shared → Prop} {s : Shared} {tg : Expr} {it : Addr} {u : Value} {o : Obj} {n : String} {vs : Array Value} {Q : Unit → Shared → Prop} (ho : s.heap.get? it = some o) (hc : o.cls = .type n) (hd : o.data = .fields vs)
    (hn : ["enumerate", "zip", "dict_itemiterator", "dict_reverseitemiterator", "odict_iterator", "itertools.zip_longest", "itertools.pairwise"].contains n = false) (hQ : Q () s) : wpAny M A (letOwnedTupleGo tg (.ref it) u) Q E s := by
  unfold letOwnedTupleGo
  cases tg <;> first
    | exact wpAny_pure hQ
    | (cases u <;> first
        | exact wpAny_pure hQ
        | (refine wpAny_bind (wpAny_load ho ?_)
           rw [hc, hd]
           show wpAny M A (if (["enumerate", "zip", "dict_itemiterator", "dict_reverseitemiterator", "odict_iterator", "itertools.zip_longest", "itertools.pairwise"].contains n && vs[0]? == some (rawInt _)) = true then _ else _) Q E s
           rw [if_neg (by intro h; rw [hn, Bool.false_and] at h; cases h)]
           exact wpAny_pure hQ))
noncomputable def Itl (K : PySem.W.Frag) (a : Addr) : It :=
  ⟨fun i H => ∃ xs x, SqL K H a xs ∧ xs[i]? = some x, fun i H x H' => H' = H ∧ ∀ xs, SqL K H a xs → xs[i]? = some x, fun i H => ∃ xs, SqL K H a xs ∧ xs.length ≤ i⟩
noncomputable def Itt (K : PySem.W.Frag) (a : Addr) : It :=
  ⟨fun i H => ∃ xs x, SqT K H a xs ∧ xs[i]? = some x, fun i H x H' => H' = H ∧ ∀ xs, SqT K H a xs → xs[i]? = some x, fun i H => ∃ xs, SqT K H a xs ∧ xs.length ≤ i⟩
noncomputable def Itr (lo : Int) (n : Nat) : It := ⟨fun i _ => i < n, fun i H x H' => H' = H ∧ x = .int (lo + i), fun i _ => n ≤ i⟩
theorem turn_list {P : Program} {w : World} {K : PySem.W.Frag} {tg : Expr} (a it : Addr) : Turn P w K tg (Itl K a) [it] it (fun i h => h.IsListIter it a i) where
  mem := by simp
  obj := fun i h st b hb => by
    have e : b = it := by simpa using hb
    subst e
    obtain ⟨o, e, c, d⟩ := st
    exact ⟨o, e, fun v z => by rw [d] at z; cases z⟩
  keep := fun i h h' st k => st.at fun o e => k it (by simp) o e
  item := by
    intro X hP hw hK hc i pins s σ H E I hf st hg
    subst hP hw hK
    obtain ⟨xs, x, hq, hx⟩ := hg
    obtain ⟨its, rv, p, hz⟩ := I.list hq
    obtain ⟨u, hu, ru⟩ := rv.get hx
    obtain ⟨f0, f1, f2, f3, f4, f5⟩ := hf it (by simp)
    refine wpAny_pyNext_list_item st p.isList (x := u) (by simpa using hu) fun h' st' sb => ?_
    have I1 : Inv X pins σ H { s with heap := h' } := I.turned (t' := s.toks) (fun b o hb e => (sb.2 b hb).trans e) f0 f1 f3 f4 f5
    obtain ⟨o, e, c, d⟩ := id st'
    exact ⟨u, rfl, go_of (s := { s with heap := h' }) e c d (by decide) ⟨x, H, I1, ru, ⟨rfl, fun ys hy => by rw [I.list_inj hy hq]; exact hx⟩, st', fun b hb => (hf b hb).1⟩⟩
  done := by
    intro X hP hw hK hc i pins s σ H E I hf st hg
    subst hP hw hK
    obtain ⟨xs, hq, hx⟩ := hg
    obtain ⟨its, rv, p, hz⟩ := I.list hq
    obtain ⟨f0, f1, f2, f3, f4, f5⟩ := hf it (by simp)
    have hl := rv.length
    exact wpAny_pyNext_list_end (I.ok.hd hc) st p.isList (by simp; omega) fun h' eb => ⟨rfl, I.turned (t' := s.toks) (fun b o hb e => eb b o hb e) f0 f1 f3 f4 f5⟩
  self := fun _ _ _ _ _ st h => wpAny_pyIter_listiter st h
theorem turn_tuple {P : Program} {w : World} {K : PySem.W.Frag} {tg : Expr} (a it : Addr) : Turn P w K tg (Itt K a) [it] it (fun i h => h.IsTupleIter it a i) where
  mem := by simp
  obj := fun i h st b hb => by
    have e : b = it := by simpa using hb
    subst e
    obtain ⟨o, e, c, d⟩ := st
    exact ⟨o, e, fun v z => by rw [d] at z; cases z⟩
  keep := fun i h h' st k => st.at fun o e => k it (by simp) o e
  item := by
    intro X hP hw hK hc i pins s σ H E I hf st hg
    subst hP hw hK
    obtain ⟨xs, x, hq, hx⟩ := hg
    obtain ⟨its, rv, p, hz⟩ := I.tuple hq
    obtain ⟨u, hu, ru⟩ := rv.get hx
    obtain ⟨f0, f1, f2, f3, f4, f5⟩ := hf it (by simp)
    refine wpAny_pyNext_tuple_item st (show s.heap.IsTuple a its.toArray from p) (x := u) (by simpa using hu) fun h' st' sb => ?_
    have I1 : Inv X pins σ H { s with heap := h' } := I.turned (t' := s.toks) (fun b o hb e => (sb.2 b hb).trans e) f0 f1 f3 f4 f5
    obtain ⟨o, e, c, d⟩ := id st'
    exact ⟨u, rfl, go_of (s := { s with heap := h' }) e c d (by decide) ⟨x, H, I1, ru, ⟨rfl, fun ys hy => by rw [I.tuple_inj hy hq]; exact hx⟩, st', fun b hb => (hf b hb).1⟩⟩
  done := by
    intro X hP hw hK hc i pins s σ H E I hf st hg
    subst hP hw hK
    obtain ⟨xs, hq, hx⟩ := hg
    obtain ⟨its, rv, p, hz⟩ := I.tuple hq
    obtain ⟨f0, f1, f2, f3, f4, f5⟩ := hf it (by simp)
    have hl := rv.length
    exact wpAny_pyNext_tuple_end (I.ok.hd hc) st (show s.heap.IsTuple a its.toArray from p) (by simp; omega) fun h' eb => ⟨rfl, I.turned (t' := s.toks) (fun b o hb e => eb b o hb e) f0 f1 f3 f4 f5⟩
  self := fun _ _ _ _ _ st h => wpAny_pyIter_tupleiter st h
theorem turn_range {P : Program} {w : World} {K : PySem.W.Frag} {tg : Expr} (it : Addr) (lo : Int) (n : Nat) : Turn P w K tg (Itr lo n) [it] it (fun i h => IsRangeIter h it (lo + (i : Nat) * 1) ((n : Int) - (i : Nat)) 1) where
  mem := by simp
  obj := fun i h st b hb => by
    have e : b = it := by simpa using hb
    subst e
    exact ⟨_, st, fun v z => by
      have z' : Data.fields _ = Data.cell v := z
      cases z'⟩
  keep := fun i h h' st k => k it (by simp) _ st
  item := by
    intro X hP hw hK hc i pins s σ H E I hf st hg
    subst hP hw hK
    obtain ⟨f0, f1, f2, f3, f4, f5⟩ := hf it (by simp)
    have W := Walks.range (prog := X.prog) (w := X.w) (I.ok.hd hc) it lo 1 n
    refine W.item i s _ _ hg st fun v h' tk hv st' kk => ?_
    obtain ⟨t, rfl⟩ := hv
    have I1 : Inv X pins σ H { s with heap := h', toks := tk } := I.turned (fun b o hb e => kk b o (by simpa using hb) e) f0 f1 f3 f4 f5
    refine ⟨_, rfl, go_of (s := { s with heap := h', toks := tk }) (n := "range_iterator") st' rfl rfl (by decide) ⟨.int (lo + i), H, I1, ⟨t, ?_⟩, ⟨rfl, rfl⟩, st', fun b hb => (hf b hb).1⟩⟩
    rw [Int.mul_one]
  done := by
    intro X hP hw hK hc i pins s σ H E I hf st hg
    subst hP hw hK
    obtain ⟨f0, f1, f2, f3, f4, f5⟩ := hf it (by simp)
    exact wpAny_pyNext_range_end (I.ok.hd hc) st (by have : n ≤ i := hg; omega) fun h' eb => ⟨rfl, I.turned (t' := s.toks) (fun b o hb e => eb b o hb e) f0 f1 f3 f4 f5⟩
  self := fun _ _ _ _ _ st h => wpAny_pyIter_rangeiter st h
end L2
namespace L2
open PySem PySem.Spec PyProof.Rows
section
variable {X : Cx} {tg : Expr}
theorem range_it {pins : List (Addr × Obj)} {σ : St} {H : Hp} {s : Shared} {R : It → Hp → Prop} {E : Value → Shared → Prop} {lo hi : Int} {t u v : Tok} {tk : Nat} (I : Inv X pins σ H s) (h1 : -(2 ^ 62) ≤ lo) (h2 : lo < 2 ^ 62) (h3 : -(2 ^ 62) ≤ hi) (h4 : hi < 2 ^ 62)
    (q : R (Itr lo (hi - lo).toNat) H) : wpAny (model X.prog X.w) X.A (pyIter (.ref s.heap.objs.size)) (PIE X pins σ tg R) E { s with heap := s.heap.push { cls := .type "range", data := .fields #[.int lo t, .int hi u, .int 1 v] }, toks := tk } := by
  refine wpAny_pyIter_range (IsRange.new ..) (small_one h1 h2 h3 h4) ?_
  have I1 : Inv X pins σ H { s with heap := s.heap.push { cls := .type "range", data := .fields #[.int lo t, .int hi u, .int 1 v] }, toks := tk } := I.kept fun b o e => Heap.get?_push_of_some _ e
  refine ⟨(s.heap.push { cls := .type "range", data := .fields #[.int lo t, .int hi u, .int 1 v] }).objs.size, [(s.heap.push { cls := .type "range", data := .fields #[.int lo t, .int hi u, .int 1 v] }).objs.size], _, _, H, rfl,
    I1.kept (t' := tk) fun b o e => Heap.get?_push_of_some _ e, turn_range _ lo (hi - lo).toNat, ?_, fun b hb => ?_, q⟩
  · have e1 : lo + ((0 : Nat) : Int) * 1 = lo := by simp
    have e2 : (((hi - lo).toNat : Nat) : Int) - ((0 : Nat) : Int) = Builtin.Range.rangeSize lo hi 1 := by rw [rangeSize_one]; split <;> omega
    show IsRangeIter _ _ (lo + ((0 : Nat) : Int) * 1) ((((hi - lo).toNat : Nat) : Int) - ((0 : Nat) : Int)) 1
    rw [e1, e2]
    exact Heap.get?_push_size _ rfl
  · have e : b = (s.heap.push { cls := .type "range", data := .fields #[.int lo t, .int hi u, .int 1 v] }).objs.size := by simpa using hb
    subst e
    exact I1.fpOk (Nat.le_refl _) (I1.hok.fresh (Nat.le_refl _))
noncomputable def iRng1 (ta : TA) : TI := fun σ H R => ta σ H fun vs H1 => ∃ j : Int, vs = [.int j] ∧ -(2 ^ 62) ≤ j ∧ j < 2 ^ 62 ∧ R (Itr 0 j.toNat) H1
noncomputable def iRng2 (ta : TA) : TI := fun σ H R => ta σ H fun vs H1 => ∃ i j : Int, vs = [.int i, .int j] ∧ (-(2 ^ 62) ≤ i ∧ i < 2 ^ 62 ∧ -(2 ^ 62) ≤ j ∧ j < 2 ^ 62) ∧ R (Itr i (j - i).toNat) H1
theorem pi_range1 {a : Expr} {ta : TA} {p pos : Pos} (hg : Gl X "range") (hm : X.mg "range" = none) (ha : PA X [a] ta) (hs : starEach [a] X.env = [(false, eval a X.env)] := by rfl) : PI X tg (.Call (.Name "range" p) [a] [] pos) (iRng1 ta) := by
  intro pins s σ H R I h
  refine Call_ (ld_blt I hg hm boot_range (PyProof.Rows.callWith_type1 (thn (ha pos pins s σ H _ I h) fun us s1 ⟨vs, H1, I1, r1, q1⟩ => ?_) hs rfl))
  obtain ⟨j, e, q1, q2, q⟩ := q1
  subst e
  cases r1 with
  | cons r rr =>
    cases rr
    obtain ⟨t, rfl⟩ := r
    exact call_range_1 (range_it I1 (by omega) (by omega) q1 q2 (by simpa using q))
theorem pi_range2 {a b : Expr} {ta : TA} {p pos : Pos} (hg : Gl X "range") (hm : X.mg "range" = none) (ha : PA X [a, b] ta) (hs : starEach [a, b] X.env = [(false, eval a X.env), (false, eval b X.env)] := by rfl) (hs2 : starEach [b] X.env = [(false, eval b X.env)] := by rfl) :
    PI X tg (.Call (.Name "range" p) [a, b] [] pos) (iRng2 ta) := by
  intro pins s σ H R I h
  refine Call_ (ld_blt I hg hm boot_range (PyProof.Rows.callWith_type1 (thn (ha pos pins s σ H _ I h) fun us s1 ⟨vs, H1, I1, r1, q1⟩ => ?_) (by rw [hs, hs2]) (by rw [hs2]; rfl)))
  obtain ⟨i, j, e, ⟨q1, q2, q3, q4⟩, q⟩ := q1
  subst e
  cases r1 with
  | cons r rr =>
    cases rr with
    | cons r' rr =>
      cases rr
      obtain ⟨t, rfl⟩ := r
      obtain ⟨t', rfl⟩ := r'
      exact call_range_2 (range_it I1 q1 q2 q3 q4 q)
noncomputable def tFor (wi : TI) (g : TG) (tb : TS) : TS := fun D σ H => wi σ H fun J H1 => ∃ W : Nat → Nat → St → Hp → Prop, (∃ m, W 0 m σ H1) ∧ ∀ i m σ H, W i m σ H →
  (J.stop i H ∧ D.nx σ H) ∨ (J.go i H ∧ ∃ N : St → Hp → Prop, (∀ σ' H', N σ' H' → ∃ m', m' < m ∧ W (i + 1) m' σ' H') ∧ ∀ x H', J.yld i H x H' → g x σ H' fun σ2 H2 => tb { D with nx := N, ct := N, bk := D.nx } σ2 H2)
noncomputable def pinsAt (fp : List Addr) (h : Heap) : List (Addr × Obj) := fp.filterMap fun b => (h.get? b).map fun o => (b, o)
theorem mem_pinsAt {fp : List Addr} {h : Heap} {b : Addr} {o : Obj} (hb : b ∈ fp) (e : h.get? b = some o) : (b, o) ∈ pinsAt fp h := List.mem_filterMap.mpr ⟨b, hb, by rw [e]; rfl⟩
theorem of_pinsAt {fp : List Addr} {h : Heap} {p : Addr × Obj} (hp : p ∈ pinsAt fp h) : p.1 ∈ fp ∧ h.get? p.1 = some p.2 := by
  obtain ⟨b, hb, e⟩ := List.mem_filterMap.mp hp
  cases q : h.get? b with
  | none => rw [q] at e; cases e
  | some o =>
    rw [q] at e
    have e' : (b, o) = p := Option.some.inj e
    subst e'
    exact ⟨hb, q⟩
theorem Inv.pinned {pins : List (Addr × Obj)} {σ : St} {H : Hp} {s : Shared} {fp : List Addr} (I : Inv X pins σ H s) (hf : ∀ b ∈ fp, FpOk X pins H b) (ho : ∀ b ∈ fp, ∃ o, s.heap.get? b = some o ∧ ∀ v, o.data ≠ .cell v) : Inv X (pins ++ pinsAt fp s.heap) σ H s :=
  I.pins_of fun p hp => (List.mem_append.mp hp).elim (fun z => I.pin p (List.mem_append_right _ z)) fun z => by
    obtain ⟨hb, e⟩ := of_pinsAt z
    obtain ⟨f0, f1, f2, _⟩ := hf p.1 hb
    obtain ⟨o, e', d⟩ := ho p.1 hb
    rw [e] at e'; cases e'
    exact ⟨e, f0, f1, f2, d⟩
theorem Inv.unpinned {pins pl : List (Addr × Obj)} {σ : St} {H : Hp} {s : Shared} (I : Inv X (pins ++ pl) σ H s) : Inv X pins σ H s := I.pins_of fun p hp => I.pin p (List.mem_append_right _ (List.mem_append_left _ hp))
theorem ps_for {iter : Expr} {body : List Stmt} {wi : TI} {g : TG} {tb : TS} {pos : Pos} (hp : PassesOwn (model X.prog X.w) X.A X.env X.xe) (hc : X.calm = true) (hi : PI X tg iter wi) (hg : PG X tg g) (hb : PSs X body tb)
    (hs : ∀ x, foldedSetIterable iter X.env x = pure x := by intro _; rfl) : PS X (.For tg iter body [] pos) (tFor wi g tb) := by
  intro pins s σ H D I h
  refine wpAny_For (thn (hi pins s σ H _ I h) fun v s1 h1 => thn h1 fun itv s2 h2 => ?_) hs
  obtain ⟨it, fp, tn, J, H2, e, I2, T, st2, f2, W, ⟨m0, w0⟩, turn⟩ := h2
  subst e
  have stat : ∀ {H' : Hp}, (∀ b ∈ fp, H' b = none) → ∀ b ∈ fp, FpOk X pins H' b := fun hn b hb => ⟨hn b hb, (f2 b hb).2⟩
  refine codeAny_forLoop_any (fun n s' => ∃ i σ' H', Inv X pins σ' H' s' ∧ tn i s'.heap ∧ (∀ b ∈ fp, H' b = none) ∧ W i n σ' H') ?_ m0 ⟨0, σ, H2, I2, st2, fun b hb => (f2 b hb).1, w0⟩
  rintro n s3 ⟨i, σ3, H3, I3, st3, fr3, w3⟩
  rcases turn i n σ3 H3 w3 with ⟨stop, qn⟩ | ⟨go, N, hN, step⟩
  · refine wpAny_passesOwn hp (thn (T.done X rfl rfl rfl hc i pins s3 σ3 H3 X.xe I3 (stat fr3) st3 stop) fun r s4 ⟨hr, I4⟩ => ?_)
    subst hr
    exact wpAny_execs_nil ⟨σ3, H3, I4, qn⟩
  · refine wpAny_passesOwn hp (thn (T.item X rfl rfl rfl hc i pins s3 σ3 H3 X.xe I3 (stat fr3) st3 go) fun r s4 ⟨u, hr, h4⟩ => ?_)
    subst hr
    refine wpAny_passesOwn hp (thn h4 fun _ s5 ⟨x, H5, I5, r5, y5, st5, fr5⟩ => ?_)
    have I5' := I5.pinned (stat fr5) (T.obj _ _ st5)
    refine wpAny_passesOwn hp (thn (hg _ s5 σ3 H5 x u _ I5' r5 (step x H5 y5)) fun _ s6 ⟨σ6, H6, I6, q6⟩ => ?_)
    refine wpAny_passesOwn hp (thn (hb _ s6 σ6 H6 _ I6 q6) fun f s7 q7 => ?_)
    have again : ∀ {σ7 : St} {H7 : Hp}, Inv X (pins ++ pinsAt fp s5.heap) σ7 H7 s7 → N σ7 H7 → ∃ m, m < n ∧ ∃ i σ' H', Inv X pins σ' H' s7 ∧ tn i s7.heap ∧ (∀ b ∈ fp, H' b = none) ∧ W i m σ' H' := fun {σ7 H7} I7 n7 => by
      obtain ⟨m', hm, w7⟩ := hN σ7 H7 n7
      refine ⟨m', hm, i + 1, σ7, H7, I7.unpinned, T.keep _ _ _ st5 fun b hb o e => (I7.pin (b, o) (List.mem_append_right _ (List.mem_append_right _ (mem_pinsAt hb e)))).1, fun b hb => ?_, w7⟩
      obtain ⟨o, e, d⟩ := T.obj _ _ st5 b hb
      exact (I7.pin (b, o) (List.mem_append_right _ (List.mem_append_right _ (mem_pinsAt hb e)))).2.1
    cases f with
    | next => obtain ⟨σ7, H7, I7, n7⟩ := q7; exact again I7 n7
    | cont => obtain ⟨σ7, H7, I7, n7⟩ := q7; exact again I7 n7
    | brk => obtain ⟨σ7, H7, I7, q7⟩ := q7; exact ⟨σ7, H7, I7.unpinned, q7⟩
    | ret v => obtain ⟨x7, σ7, H7, I7, r7, q7⟩ := q7; exact ⟨x7, σ7, H7, I7.unpinned, r7, q7⟩
end
end L2
namespace L2
open PySem PySem.Spec PyProof.Rows
noncomputable abbrev R2 := V → V → Hp → VK → Prop
noncomputable def OpR (X : Cx) (f : Value → Value → Sem Value) (r : R2) : Prop :=
  ∀ (pins : List (Addr × Obj)) (s : Shared) (σ : St) (H : Hp) (x y : V) (v u : Value) (Q : VK), Inv X pins σ H s → RelV x v → RelV y u → r x y H Q →
    wpAny (model X.prog X.w) X.A (f v u) (EP X pins σ Q) X.xe s
noncomputable def UnR (X : Cx) (f : Value → Sem Value) (r : V → Hp → VK → Prop) : Prop :=
  ∀ (pins : List (Addr × Obj)) (s : Shared) (σ : St) (H : Hp) (x : V) (v : Value) (Q : VK), Inv X pins σ H s → RelV x v → r x H Q →
    wpAny (model X.prog X.w) X.A (f v) (EP X pins σ Q) X.xe s
noncomputable def CallR (X : Cx) (f : Value) (r : List V → Hp → VK → Prop) : Prop :=
  ∀ (pins : List (Addr × Obj)) (s : Shared) (σ : St) (H : Hp) (xs : List V) (us : List Value) (Q : VK), Inv X pins σ H s → Vals xs us → r xs H Q →
    wpAny (model X.prog X.w) X.A (call f us) (EP X pins σ Q) X.xe s
noncomputable def TruR (X : Cx) (r : V → Hp → (Bool → Hp → Prop) → Prop) : Prop :=
  ∀ (pins : List (Addr × Obj)) (s : Shared) (σ : St) (H : Hp) (x : V) (v : Value) (Q : Bool → Hp → Prop), Inv X pins σ H s → RelV x v → r x H Q →
    wpAny (model X.prog X.w) X.A (truthy v) (TP X pins σ Q) X.xe s
noncomputable def tOp (r : R2) (ta tb : TE) : TE := fun σ H Q => ta σ H fun x H1 => tb σ H1 fun y H2 => r x y H2 Q
noncomputable def tUn (r : V → Hp → VK → Prop) (ta : TE) : TE := fun σ H Q => ta σ H fun x H1 => r x H1 Q
noncomputable def rI (C : Int → Int → Prop) (g : Int → Int → V) : R2 := fun x y H Q => ∃ i j, x = .int i ∧ y = .int j ∧ C i j ∧ Q (g i j) H
noncomputable def rI0 (g : Int → Int → V) : R2 := fun x y H Q => ∃ i j, x = .int i ∧ y = .int j ∧ Q (g i j) H
noncomputable def rU (g : Int → V) : V → Hp → VK → Prop := fun x H Q => ∃ i, x = .int i ∧ Q (g i) H
section
variable {X : Cx} {a b c : Expr} {ta tb tc : TE} {pos : Pos}
theorem binT (ha : PE X a ta) (hb : PE X b tb) {pins : List (Addr × Obj)} {s : Shared} {σ : St} {H : Hp} {R : V → V → Hp → Prop} (I : Inv X pins σ H s)
    (h : ta σ H fun x H1 => tb σ H1 fun y H2 => R x y H2) {Q : Value → Shared → Prop} {f : Value → Value → Sem Value}
    (hf : ∀ v u s2 x y H2, Inv X pins σ H2 s2 → RelV x v → RelV y u → R x y H2 → wpAny (model X.prog X.w) X.A (f v u) Q X.xe s2) :
    wpAny (model X.prog X.w) X.A (eval a X.env) (fun v s₁ => wpAny (model X.prog X.w) X.A (eval b X.env) (fun u s₂ => wpAny (model X.prog X.w) X.A (f v u) Q X.xe s₂) X.xe s₁) X.xe s := by
  refine thn (ha pins s σ H _ I h) fun v s1 ⟨x, H1, I1, r1, q1⟩ => ?_
  refine thn (hb pins s1 σ H1 _ I1 q1) fun u s2 ⟨y, H2, I2, r2, q2⟩ => ?_
  exact hf v u s2 x y H2 I2 r1 r2 q2
theorem pe_op {op : Operator} {r : R2} (ho : OpR X (binaryOp op) r) (ha : PE X a ta) (hb : PE X b tb) : PE X (.BinOp a op b pos) (tOp r ta tb) := by
  intro pins s σ H Q I h
  exact wpAny_BinOp (binT ha hb I h fun v u s2 x y H2 I2 rx ry q => ho pins s2 σ H2 x y v u Q I2 rx ry q)
theorem pe_un {op : UnaryOp} {r : V → Hp → VK → Prop} (ho : UnR X (unaryOp op) r) (ha : PE X a ta) : PE X (.UnaryOp op a pos) (tUn r ta) := by
  intro pins s σ H Q I h
  exact UnaryOp_ (thn (ha pins s σ H _ I h) fun v s1 ⟨x, H1, I1, r1, q1⟩ => ho pins s1 σ H1 x v Q I1 r1 q1)
theorem opI {f : Value → Value → Sem Value} {C : Int → Int → Prop} {g : Int → Int → Int}
    (rule : ∀ (i j : Int) (t u : Tok) (s : Shared) (Q : Value → Shared → Prop) (E : Value → Shared → Prop), C i j → Q (.int (g i j) s.toks) { s with toks := s.toks + 1 } → wpAny (model X.prog X.w) X.A (f (.int i t) (.int j u)) Q E s) :
    OpR X f (rI C fun i j => .int (g i j)) := by
  intro pins s σ H x y v u Q I rx ry h
  obtain ⟨i, j, rfl, rfl, hc, q⟩ := h
  obtain ⟨t, rfl⟩ := rx
  obtain ⟨t', rfl⟩ := ry
  exact rule i j t t' s _ _ hc ⟨.int (g i j), H, I.tok _, ⟨_, rfl⟩, q⟩
theorem opI0 {f : Value → Value → Sem Value} {g : Int → Int → Int}
    (rule : ∀ (i j : Int) (t u : Tok) (s : Shared) (Q : Value → Shared → Prop) (E : Value → Shared → Prop), Q (.int (g i j) s.toks) { s with toks := s.toks + 1 } → wpAny (model X.prog X.w) X.A (f (.int i t) (.int j u)) Q E s) :
    OpR X f (rI0 fun i j => .int (g i j)) := by
  intro pins s σ H x y v u Q I rx ry h
  obtain ⟨i, j, rfl, rfl, q⟩ := h
  obtain ⟨t, rfl⟩ := rx
  obtain ⟨t', rfl⟩ := ry
  exact rule i j t t' s _ _ ⟨.int (g i j), H, I.tok _, ⟨_, rfl⟩, q⟩
theorem opB0 {f : Value → Value → Sem Value} {g : Int → Int → Bool}
    (rule : ∀ (i j : Int) (t u : Tok) (s : Shared) (Q : Value → Shared → Prop) (E : Value → Shared → Prop), Q (.bool (g i j)) s → wpAny (model X.prog X.w) X.A (f (.int i t) (.int j u)) Q E s) :
    OpR X f (rI0 fun i j => .bl (g i j)) := by
  intro pins s σ H x y v u Q I rx ry h
  obtain ⟨i, j, rfl, rfl, q⟩ := h
  obtain ⟨t, rfl⟩ := rx
  obtain ⟨t', rfl⟩ := ry
  exact rule i j t t' s _ _ ⟨.bl (g i j), H, I, rfl, q⟩
noncomputable def CPow (i j : Int) : Prop := 0 ≤ j ∧ j ≤ 1000000 ∧ i.natAbs < 2 ^ 64
theorem op_add : OpR X (binaryOp .Add) (rI0 fun i j => .int (i + j)) := opI0 fun _ _ _ _ _ _ _ q => add_int q
theorem op_mod : OpR X (binaryOp .Mod) (rI (fun _ j => 0 < j) fun i j => .int (i % j)) := opI fun i j _ _ _ _ _ hc q => by
  have h1 : (0 : Int) < j := hc
  exact mod_int' (by omega) (by rw [Int.fmod_eq_emod_of_nonneg i (by omega)]; exact q)
theorem op_pow : OpR X (binaryOp .Pow) (rI CPow fun i j => .int (i ^ j.toNat)) := opI fun _ _ _ _ _ _ _ hc q => pow_int_small hc.1 hc.2.1 hc.2.2 q
theorem unI {f : Value → Sem Value} {g : Int → Int}
    (rule : ∀ (i : Int) (t : Tok) (s : Shared) (Q : Value → Shared → Prop) (E : Value → Shared → Prop), Q (.int (g i) s.toks) { s with toks := s.toks + 1 } → wpAny (model X.prog X.w) X.A (f (.int i t)) Q E s) :
    UnR X f (rU fun i => .int (g i)) := by
  intro pins s σ H x v Q I rx h
  obtain ⟨i, rfl, q⟩ := h
  obtain ⟨t, rfl⟩ := rx
  exact rule i t s _ _ ⟨.int (g i), H, I.tok _, ⟨_, rfl⟩, q⟩
theorem un_neg : UnR X (unaryOp .USub) (rU fun i => .int (-i)) := unI fun _ _ _ _ _ q => neg_int q
end
section
variable {X : Cx} {a b c : Expr} {ta tb tc : TE} {pos : Pos}
theorem fin_bl {pins : List (Addr × Obj)} {σ : St} {H : Hp} {s : Shared} {Q : VK} {k k' : Bool} (I : Inv X pins σ H s) (q : Q (.bl k) H) (e : k = k') : EP X pins σ Q (.bool k') s := by
  subst e
  exact ⟨.bl k, H, I, rfl, q⟩
theorem op_lt : OpR X (compareOp .Lt) (rI0 fun i j => .bl (decide (i < j))) := opB0 fun _ _ _ _ _ _ _ q => lt_int q
theorem op_le : OpR X (compareOp .LtE) (rI0 fun i j => .bl (decide (i ≤ j))) := opB0 fun _ _ _ _ _ _ _ q => le_int q
theorem op_gt : OpR X (compareOp .Gt) (rI0 fun i j => .bl (decide (j < i))) := opB0 fun _ _ _ _ _ _ _ q => gt_int q
theorem op_ge : OpR X (compareOp .GtE) (rI0 fun i j => .bl (decide (j ≤ i))) := opB0 fun _ _ _ _ _ _ _ q => ge_int q
theorem op_isN : OpR X (compareOp .Is) (fun x y H Q => y = .non ∧ Q (.bl (decide (x = .non))) H) := by
  intro pins s σ H x y v u Q I rx ry h
  obtain ⟨rfl, q⟩ := h
  cases ry
  refine is_none_gen (fin_bl I q ?_)
  cases x <;> first
    | (cases rx; rfl)
    | (obtain ⟨t, rfl⟩ := rx; rfl)
theorem OpR.or {f : Value → Value → Sem Value} {r r' : R2} (h : OpR X f r) (h' : OpR X f r') : OpR X f (fun x y H Q => r x y H Q ∨ r' x y H Q) := by
  intro pins s σ H x y v u Q I rx ry q
  rcases q with q | q
  · exact h pins s σ H x y v u Q I rx ry q
  · exact h' pins s σ H x y v u Q I rx ry q
theorem nomark (b : Expr) {op : CmpOp} (h : op ≠ .In := by decide) (h2 : op ≠ .NotIn := by decide) : behindInMarks op b = false := by
  have e1 : (op == CmpOp.In) = false := by cases op <;> first | rfl | exact absurd rfl h
  have e2 : (op == CmpOp.NotIn) = false := by cases op <;> first | rfl | exact absurd rfl h2
  cases b <;> simp [behindInMarks, e1, e2]
theorem pe_cmpR {op : CmpOp} {r : R2} (ho : OpR X (compareOp op) r) (ha : PE X a ta) (hb : PE X b tb) (hm : behindInMarks op b = false) : PE X (.Compare a [op] [b] pos) (tOp r ta tb) := by
  intro pins s σ H Q I h
  exact wpAny_Compare1 (binT ha hb I h fun v u s2 x y H2 I2 rx ry q => ho pins s2 σ H2 x y v u Q I2 rx ry q) hm
noncomputable def tTest (t : TE) : TT := fun σ H Q => t σ H fun x H' => ∃ k, x = .bl k ∧ Q k H'
theorem pt_cmpR {op : CmpOp} {r : R2} (ho : OpR X (compareOp op) r) (ha : PE X a ta) (hb : PE X b tb) (hm : behindInMarks op b = false) : PT X (.Compare a [op] [b] pos) (tTest (tOp r ta tb)) := by
  intro pins s σ H Q I h
  refine wpAny_isTrue_Compare1 (thn (ha pins s σ H _ I h) fun v s1 ⟨x, H1, I1, r1, q1⟩ => thn (hb pins s1 σ H1 _ I1 q1) fun u s2 ⟨y, H2, I2, r2, q2⟩ =>
    thn (ho pins s2 σ H2 x y v u _ I2 r1 r2 q2) fun c s3 ⟨z, H3, I3, r3, k, e, q3⟩ => ?_) hm
  subst e
  cases r3
  exact wpAny_truthy_bool ⟨H3, I3, q3⟩
noncomputable def tChain (r r' : R2) (ta tb tc : TE) : TE := fun σ H Q => ta σ H fun x H1 => tb σ H1 fun y H2 => r x y H2 fun z H3 => ∃ k, z = .bl k ∧
  (if k = true then tc σ H3 fun w' H4 => r' y w' H4 Q else Q (.bl false) H3)
theorem pe_chain {op op' : CmpOp} {r r' : R2} (ho : OpR X (compareOp op) r) (ho' : OpR X (compareOp op') r') (ha : PE X a ta) (hb : PE X b tb) (hc : PE X c tc)
    (hm : lastMarks [op, op'] [b, c] = false := by with_unfolding_all rfl) : PE X (.Compare a [op, op'] [b, c] pos) (tChain r r' ta tb tc) := by
  intro pins s σ H Q I h
  refine Compare_chain (thn (ha pins s σ H _ I h) fun v s1 ⟨x, H1, I1, r1, q1⟩ => chain_link (thn (hb pins s1 σ H1 _ I1 q1) fun u s2 ⟨y, H2, I2, r2, q2⟩ =>
    thn (ho pins s2 σ H2 x y v u _ I2 r1 r2 q2) fun d s3 ⟨z, H3, I3, r3, k, e, q3⟩ => ?_)) hm
  subst e
  cases r3
  refine wpAny_truthy_bool ?_
  cases k with
  | false => exact ite_ff ⟨.bl false, H3, I3, rfl, q3⟩
  | true => exact ite_tt (chain_last (thn (hc pins s3 σ H3 _ I3 q3) fun w' s4 ⟨z', H4, I4, r4, q4⟩ => ho' pins s4 σ H4 y z' u w' Q I4 r2 r4 q4))
theorem pt_chain {op op' : CmpOp} {r r' : R2} (ho : OpR X (compareOp op) r) (ho' : OpR X (compareOp op') r') (ha : PE X a ta) (hb : PE X b tb) (hc : PE X c tc)
    (hm : lastMarks [op, op'] [b, c] = false := by with_unfolding_all rfl) : PT X (.Compare a [op, op'] [b, c] pos) (tTest (tChain r r' ta tb tc)) := by
  intro pins s σ H Q I h
  refine isTrue_chain (thn (ha pins s σ H _ I h) fun v s1 ⟨x, H1, I1, r1, q1⟩ => test_link (thn (hb pins s1 σ H1 _ I1 q1) fun u s2 ⟨y, H2, I2, r2, q2⟩ =>
    thn (ho pins s2 σ H2 x y v u _ I2 r1 r2 q2) fun d s3 ⟨z, H3, I3, r3, k, e, q3⟩ => ?_)) hm
  subst e
  cases r3
  refine wpAny_truthy_bool ?_
  cases k with
  | false =>
    obtain ⟨k', e', q'⟩ := q3
    cases e'
    exact ite_ff ⟨H3, I3, q'⟩
  | true =>
    refine ite_tt (test_last (thn (hc pins s3 σ H3 _ I3 q3) fun w' s4 ⟨z', H4, I4, r4, q4⟩ => thn (ho' pins s4 σ H4 y z' u w' _ I4 r2 r4 q4) fun d' s5 ⟨z2, H5, I5, r5, k2, e2, q5⟩ => ?_))
    subst e2
    cases r5
    exact wpAny_truthy_bool ⟨H5, I5, q5⟩
noncomputable def TruV (K : PySem.W.Frag) (x : V) (H : Hp) (k : Bool) : Prop :=
  match x with
  | .non => k = false
  | .bl b => k = b
  | .int i => k = (i != 0)
  | .str y => y.length ≤ sizeLine ∧ k = ((y.length : Int) != 0)
  | .byt y => y.size ≤ sizeLine ∧ k = ((y.size : Int) != 0)
  | .ref p => (∃ xs, SqL K H p xs ∧ k = !xs.isEmpty) ∨ (∃ xs, SqT K H p xs ∧ k = !xs.isEmpty) ∨ ∃ kvs, H p = some (.dK kvs) ∧ k = !kvs.isEmpty
  | _ => False
theorem isEmpty_kv {κ : Type} {kvs : List (κ × V)} {vs : List (κ × Value)} (r : KV kvs vs) : (!vs.isEmpty) = !kvs.isEmpty := by
  cases r <;> rfl
theorem isEmpty_of {xs : List V} {its : List Value} (r : Vals xs its) : (!its.toArray.isEmpty) = !xs.isEmpty := by
  cases r <;> simp
theorem line63 : (sizeLine : Nat) < 2 ^ 63 := by rw [sizeLine_eq]; decide
theorem tru_ok : TruR X (fun x H Q => ∃ k, TruV X.K x H k ∧ Q k H) := by
  intro pins s σ H x v Q I rx h
  obtain ⟨k, e, q⟩ := h
  have hl := line63
  have hs : sizeLine = 16777216 := sizeLine_eq
  cases x with
  | non =>
    cases rx
    have e' : k = false := e
    subst e'
    exact truthy_none ⟨H, I, q⟩
  | bl b =>
    cases rx
    have e' : k = b := e
    subst e'
    exact wpAny_truthy_bool ⟨H, I, q⟩
  | int i =>
    obtain ⟨t, rfl⟩ := rx
    have e' : k = (i != 0) := e
    subst e'
    exact PySem.P.truthy_int ⟨H, I, q⟩
  | str y =>
    obtain ⟨t, rfl⟩ := rx
    obtain ⟨hy, e'⟩ : y.length ≤ sizeLine ∧ k = ((y.length : Int) != 0) := e
    subst e'
    exact PySem.P.truthy_str (by omega) ⟨H, I.tok _, q⟩
  | byt y =>
    obtain ⟨t, rfl⟩ := rx
    obtain ⟨hy, e'⟩ : y.size ≤ sizeLine ∧ k = ((y.size : Int) != 0) := e
    subst e'
    exact PySem.W.truthy_bytes (by omega) ⟨H, I.tok _, q⟩
  | ref p =>
    cases rx
    have e' : (∃ xs, SqL X.K H p xs ∧ k = !xs.isEmpty) ∨ (∃ xs, SqT X.K H p xs ∧ k = !xs.isEmpty) ∨ ∃ kvs, H p = some (.dK kvs) ∧ k = !kvs.isEmpty := e
    rcases e' with ⟨xs, hx, e'⟩ | ⟨xs, hx, e'⟩ | ⟨kvs, hx, e'⟩
    · subst e'
      obtain ⟨its, r, pl, hz⟩ := I.list hx
      have hlen := r.length
      exact wpAny_truthy_list pl.isList (by simp only [List.size_toArray]; omega) ⟨H, I.tok _, by rw [isEmpty_of r]; exact q⟩
    · subst e'
      obtain ⟨its, r, pl, hz⟩ := I.tuple hx
      have hlen := r.length
      exact truthy_tuple pl (by simp only [List.size_toArray]; omega) ⟨H, I.tok _, by rw [isEmpty_of r]; exact q⟩
    · subst e'
      obtain ⟨hz, hS, vs, r, m⟩ : kvs.length ≤ sizeLine ∧ (p == sysModules) = false ∧ ∃ vs, KV kvs vs ∧ s.heap.DictOf (mixKind X.prog X.w) p vs := I.hok p _ hx
      have hlen : kvs.length = vs.length := Paired.length r
      exact wpAny_truthy_dict hS m (by omega) ⟨H, I.tok _, by rw [isEmpty_kv r]; exact q⟩
  | _ => exact (show False from e).elim
theorem pt_truth (ha : PE X a ta) (he : ∀ whole, isTrue a X.env whole = (do let v ← whole; standAt a.pos; holding [v] (truthy v))) :
    PT X a (fun σ H Q => ta σ H fun x H' => ∃ k, TruV X.K x H' k ∧ Q k H') := by
  intro pins s σ H Q I h
  exact isTrue_plain (thn (ha pins s σ H _ I h) fun v s1 ⟨x, H1, I1, r1, q1⟩ => tru_ok pins s1 σ H1 x v Q I1 r1 q1) (he _)
theorem op_add_str : OpR X (binaryOp .Add) (fun x y H Q => ∃ i j, x = .str i ∧ y = .str j ∧ i.length + j.length ≤ sizeLine ∧ Q (.str (i ++ j)) H) := by
  intro pins s σ H x y v u Q I rx ry h
  obtain ⟨i, j, rfl, rfl, hz, q⟩ := h
  obtain ⟨t, rfl⟩ := rx
  obtain ⟨t', rfl⟩ := ry
  exact add_str (fun t' tk => ⟨.str (i ++ j), H, I.tok _, ⟨_, rfl⟩, q⟩) hz
theorem vals1 {x : V} {us : List Value} (r : Vals [x] us) : ∃ u, us = [u] ∧ RelV x u := by
  cases r with
  | cons r1 r2 => cases r2; exact ⟨_, rfl, r1⟩
theorem vals2 {x y : V} {us : List Value} (r : Vals [x, y] us) : ∃ u w', us = [u, w'] ∧ RelV x u ∧ RelV y w' := by
  cases r with
  | cons r1 r2 =>
    cases r2 with
    | cons r3 r4 => cases r4; exact ⟨_, _, rfl, r1, r3⟩
theorem call_min2 (hc : X.calm = true) : CallR X (.builtin "min") (fun xs H Q => ∃ i j, xs = [.int i, .int j] ∧ Q (.int (if j < i then j else i)) H) := by
  intro pins s σ H xs us Q I r h
  obtain ⟨i, j, rfl, q⟩ := h
  obtain ⟨u, w', rfl, ⟨t, rfl⟩, ⟨t', rfl⟩⟩ := vals2 r
  refine min_two_ints (I.ok.hd hc) fun h' tk k => ⟨_, H, I.kept k, ?_, q⟩
  by_cases hj : j < i
  · rw [if_pos hj, if_pos hj]; exact ⟨_, rfl⟩
  · rw [if_neg hj, if_neg hj]; exact ⟨_, rfl⟩
noncomputable def LenV (K : PySem.W.Frag) (x : V) (H : Hp) (n : Nat) : Prop :=
  match x with
  | .str y => y.length ≤ sizeLine ∧ n = y.length
  | .byt y => y.size ≤ sizeLine ∧ n = y.size
  | .ref p => (∃ xs, SqL K H p xs ∧ n = xs.length) ∨ ∃ xs, SqT K H p xs ∧ n = xs.length
  | _ => False
theorem call_len : CallR X (.builtin "len") (fun xs H Q => ∃ x n, xs = [x] ∧ LenV X.K x H n ∧ Q (.int n) H) := by
  intro pins s σ H xs us Q I r h
  obtain ⟨x, n, rfl, e, q⟩ := h
  obtain ⟨u, rfl, rx⟩ := vals1 r
  have hl := line63
  have hs : sizeLine = 16777216 := sizeLine_eq
  cases x with
  | str y =>
    obtain ⟨t, rfl⟩ := rx
    obtain ⟨hy, e'⟩ : y.length ≤ sizeLine ∧ n = y.length := e
    subst e'
    exact len_str (by omega) ⟨.int _, H, I.tok _, ⟨_, rfl⟩, q⟩
  | byt y =>
    obtain ⟨t, rfl⟩ := rx
    obtain ⟨hy, e'⟩ : y.size ≤ sizeLine ∧ n = y.size := e
    subst e'
    exact PySem.W.len_bytes (by omega) ⟨.int _, H, I.tok _, ⟨_, rfl⟩, q⟩
  | ref p =>
    cases rx
    have e' : (∃ xs, SqL X.K H p xs ∧ n = xs.length) ∨ ∃ xs, SqT X.K H p xs ∧ n = xs.length := e
    rcases e' with ⟨xs, hx, e'⟩ | ⟨xs, hx, e'⟩
    · subst e'
      obtain ⟨its, r', pl, hz⟩ := I.list hx
      have hlen := r'.length
      exact Calls.call_len_list pl.isList (by simp only [List.size_toArray]; omega) ⟨.int xs.length, H, I.tok _, ⟨_, by simp only [List.size_toArray]; rw [hlen]⟩, q⟩
    · subst e'
      obtain ⟨its, r', pl, hz⟩ := I.tuple hx
      have hlen := r'.length
      exact len_tuple pl (by simp only [List.size_toArray]; omega) ⟨.int xs.length, H, I.tok _, ⟨_, by simp only [List.size_toArray]; rw [hlen]⟩, q⟩
  | _ => exact (show False from e).elim
end
end L2
namespace L2
open PySem PySem.Spec PyProof.Rows
structure ObjM (h : Heap) (x dx C : Addr) (mA : Str → Option Value) : Prop where
  obj : h.get? x = some (PySem.W.instObj C dx)
  ns : h.Ns1 dx mA
  ne : dx ≠ x
theorem lookIn_ns {h : Heap} {dx : Addr} {mA : Str → Option Value} (n : h.Ns1 dx mA) : ∃ od, h.get? dx = some od ∧ ∀ name, PySem.W.lookIn name od = some (mA name) := by
  obtain ⟨o, es, ep, ho, hd, hk, _, hm⟩ := n
  refine ⟨o, ho, fun name => ?_⟩
  have e := hm name
  unfold nsFind findBy at e
  rw [← Array.find?_toList] at e
  unfold PySem.W.lookIn
  rw [hd]
  dsimp only
  split
  · rename_i y q
    rw [q] at e
    exact congrArg some e
  · rename_i q
    rw [q] at e
    have a : es.toList.any (·.refKey) = false := by
      rw [List.any_eq_false]
      intro y hy
      obtain ⟨z, t, hkey⟩ := hk y (Array.mem_toList_iff.mp hy)
      simp [DictEntry.refKey, hkey]
    have a' : ¬ es.toList.any (·.refKey) = true := by rw [a]; exact Bool.false_ne_true
    rw [if_neg a']
    exact congrArg some e
theorem ObjM.look {h : Heap} {x dx C : Addr} {mA : Str → Option Value} (I : ObjM h x dx C mA) : ∃ od, PySem.W.InstAt h x (PySem.W.instObj C dx) C (some od) ∧ ∀ name, PySem.W.lookIn name od = some (mA name) :=
  let ⟨od, ho, hl⟩ := lookIn_ns I.ns
  ⟨od, ⟨I.obj, rfl, rfl, ho⟩, hl⟩
section
variable {prog : Program} {w : World} {A : Around} {E : Value → Shared → Prop} {s : Shared} {K : PySem.W.Frag} {x dx C f : Addr} {mA : Str → Option Value} {name : Str} {v : Value}
end
section
variable {P : Program} {w : World} {H H' : Hp} {h h' : Heap} {a C dx : Addr} {fs fs' : List (Str × V)}
theorem ins_get (hok : HOk P w H h) (e : H a = some (.ins C dx fs)) : ∃ mA, ObjM h a dx C mA ∧ (∀ f, RelO (fs.lookup f) (mA f)) ∧ PySem.Within mA (fs.map (·.1)) ∧ fs.length ≤ 1000 ∧ H dx = some (.own a) := by
  obtain ⟨d, z, ne, ob, mA, n, r, q⟩ := (show ObjOk P w H h a (.ins C dx fs) from hok a _ e)
  exact ⟨mA, ⟨ob, n, ne⟩, r, q, z, d⟩
end
structure Cls (K : PySem.W.Frag) (C : Addr) : Prop where
  pg : PySem.W.plainGet K C Str.empty = true
  hd : PySem.W.hasDictIn K C = true
  po : PySem.W.plainOver K C = true
  sa : PySem.W.findIn K (.ref C) "__setattr__" = some (some (.builtin "object.__setattr__"))
theorem Cls.get {K : PySem.W.Frag} {C : Addr} (c : Cls K C) (f : Str) : PySem.W.plainGet K C f = true := c.pg
section
variable {X : Cx} {pins : List (Addr × Obj)} {σ : St} {H : Hp} {s : Shared} {a C dx : Addr} {fs : List (Str × V)} {f : Str} {v : V} {A : Around} {E : Value → Shared → Prop}
end
section
variable {X : Cx} {o e value : Expr} {f : Str} {pos pos' tpos : Pos} {ta tv : TE}
end
section
variable {X : Cx} {pins : List (Addr × Obj)} {σ : St} {H : Hp} {s : Shared} {A : Around} {E : Value → Shared → Prop} {Q : Value → Shared → Prop} {c : Value} {b : Bool}
inductive TyOf (K : PySem.W.Frag) (H : Hp) : V → Value → Prop where
  | non : TyOf K H .non (.type "NoneType")
  | bl (x : Bool) : TyOf K H (.bl x) (.type "bool")
  | int (i : Int) : TyOf K H (.int i) (.type "int")
  | str (x : Str) : TyOf K H (.str x) (.type "str")
  | flt (x : UInt64) : TyOf K H (.flt x) (.type "float")
  | lst {a : Addr} {xs : List V} (e : H a = some (.lst xs)) : TyOf K H (.ref a) (.type "list")
  | frz {a : Addr} {o : Obj} {xs : List V} (e : H a = some (.frz o (.lst xs))) : TyOf K H (.ref a) (.type "list")
  | tup {a : Addr} {xs : List V} (e : H a = some (.tup xs)) : TyOf K H (.ref a) (.type "tuple")
  | dK {a : Addr} {kvs : List (Key × V)} (e : H a = some (.dK kvs)) : TyOf K H (.ref a) (.type "dict")
  | dT {a : Addr} {kvs : List (List Key × V)} (e : H a = some (.dT kvs)) : TyOf K H (.ref a) (.type "dict")
  | ins {a C dx : Addr} {fs : List (Str × V)} (e : H a = some (.ins C dx fs)) (cl : Cls K C) (ha : PySem.W.findIn K (.ref C) "__class__" = some (some (.builtin "object.__class__")))
      (hn : PySem.W.specialIn K (.builtin "object.__class__") "__get__" = some (some (.builtin "getset_descriptor.__get__"))) (htk : PySem.W.takesIn K (.builtin "object.__class__") = some true)
      (hm : PySem.W.mroIn K C (.type "object") = some true) : TyOf K H (.ref a) (.ref C)
theorem isinst_ok {x : V} {u t : Value} (I : Inv X pins σ H s) (rx : RelV x u) (ty : TyOf X.K H x t) (e : PySem.W.kitOne X.K t c = some b) (h : ∀ tk, Q (.bool b) { s with toks := tk }) :
    wpAny (model X.prog X.w) A (call (.builtin "isinstance") [u, c]) Q E s := by
  cases ty with
  | non => cases (show u = Value.none from rx); exact PySem.W.kia_one PySem.W.kitx_none I.kIn True.intro e (fun z => nomatch z) h
  | bl y => cases (show u = Value.bool y from rx); exact PySem.W.kia_one PySem.W.kitx_bool I.kIn True.intro e (fun z => nomatch z) h
  | int i => obtain ⟨t, q⟩ := (show ∃ t, u = Value.int i t from rx); cases q; exact PySem.W.kia_one PySem.W.kitx_int I.kIn True.intro e (fun z => nomatch z) h
  | str y => obtain ⟨t, q⟩ := (show ∃ t, u = Value.str y t from rx); cases q; exact PySem.W.kia_one PySem.W.kitx_str I.kIn True.intro e (fun z => nomatch z) h
  | flt y => obtain ⟨t, q⟩ := (show ∃ t, u = Value.float y t from rx); cases q; exact PySem.W.kia_one PySem.W.kitx_float I.kIn True.intro e (fun z => nomatch z) h
  | @lst a xs ea =>
    cases (show u = Value.ref a from rx)
    obtain ⟨_, _, n, _, h1⟩ := (show ObjOk X.prog X.w H s.heap a (.lst xs) from I.hok a _ ea)
    exact PySem.W.kia_one PySem.W.kitx_list I.kIn ⟨_, h1, rfl⟩ e (fun z => nomatch z) h
  | @frz a ob xs ea =>
    cases (show u = Value.ref a from rx)
    obtain ⟨_, _, _, n, _, h1⟩ := (show ObjOk X.prog X.w H s.heap a (.frz ob (.lst xs)) from I.hok a _ ea)
    exact PySem.W.kia_one PySem.W.kitx_list I.kIn ⟨_, h1, rfl⟩ e (fun z => nomatch z) h
  | @tup a xs ea =>
    cases (show u = Value.ref a from rx)
    obtain ⟨_, _, _, p⟩ := (show ObjOk X.prog X.w H s.heap a (.tup xs) from I.hok a _ ea)
    obtain ⟨o, h1, h2, _⟩ := p
    exact PySem.W.kia_one PySem.W.kitx_tuple I.kIn ⟨o, h1, h2⟩ e (fun z => nomatch z) h
  | @dK a kvs ea =>
    cases (show u = Value.ref a from rx)
    obtain ⟨_, _, vs, _, p⟩ := (show ObjOk X.prog X.w H s.heap a (.dK kvs) from I.hok a _ ea)
    obtain ⟨o, es, ep, h1, h2, _⟩ := p
    exact PySem.W.kia_one PySem.W.kitx_dict I.kIn ⟨o, h1, h2.1⟩ e (fun z => nomatch z) h
  | @dT a kvs ea =>
    cases (show u = Value.ref a from rx)
    obtain ⟨_, _, xs, _, o, es, ep, h1, h2, _⟩ := (show ObjOk X.prog X.w H s.heap a (.dT kvs) from I.hok a _ ea)
    exact PySem.W.kia_one PySem.W.kitx_dict I.kIn ⟨o, h1, h2.1⟩ e (fun z => nomatch z) h
  | @ins a C dx fs ea cl ha hn htk hm =>
    cases (show u = Value.ref a from rx)
    obtain ⟨mA, O, _⟩ := ins_get I.hok ea
    obtain ⟨od, J, _⟩ := O.look
    exact PySem.W.kia_one (PySem.W.kitx_own (cl.get _) cl.hd ha hn htk hm) I.kIn J e (fun z => nomatch z) h
end
end L2
namespace L2
open PySem PySem.Spec PyProof.Rows
structure Room (k : Nat) (A : Around) : Prop where
  hd : A.handled = none
  dp : A.depth + 3 * k + 5 < recursionLimit
  un : A.units + 16 * k + 200 < cLine
theorem Room.mono {j k : Nat} {A : Around} (r : Room k A) (h : j ≤ k) : Room j A := ⟨r.hd, by have := r.dp; omega, by have := r.un; omega⟩
theorem Room.deeper {k : Nat} {A : Around} (r : Room (k + 1) A) (env : Env) : Room k (A.deeper env) :=
  ⟨r.hd, by have := r.dp; show A.depth + 1 + 3 * k + 5 < _; omega, by have := r.un; show A.units + 3 + 16 * k + 200 < _; omega⟩
theorem Room.depth {k : Nat} {A : Around} (r : Room k A) : A.depth < recursionLimit := by have := r.dp; omega
theorem Room.units {k : Nat} {A : Around} (r : Room k A) : A.units + 64 < cLine := by have := r.un; omega
noncomputable def tNil : TA := fun _ H Q => Q [] H
noncomputable def tCons (ta : TE) (tr : TA) : TA := fun σ H Q => ta σ H fun x H1 => tr σ H1 fun xs H2 => Q (x :: xs) H2
section
variable {X : Cx} {e : Expr} {es : List Expr} {te : TE} {t : TA} {pos : Pos}
theorem pa_nil : PA X [] tNil := fun _ _ _ _ H Q I h => Calls.spliced_nil ⟨[], H, I, .nil, h⟩
theorem pa_cons (ha : PE X e te) (hr : PA X es t) (hs : starEach (e :: es) X.env = (false, eval e X.env) :: starEach es X.env := by rfl) : PA X (e :: es) (tCons te t) := by
  intro pos pins s σ H Q I h
  rw [hs]
  show wpAny _ _ (spliced ((false, eval e X.env) :: backTo pos (starEach es X.env))) _ _ s
  refine Calls.spliced_cons (thn (ha pins s σ H _ I h) fun u s1 ⟨x, H1, I1, r1, q1⟩ => ?_)
  exact thn (hr pos pins s1 σ H1 _ I1 q1) fun us s2 ⟨xs, H2, I2, r2, q2⟩ => ⟨x :: xs, H2, I2, .cons r1 r2, q2⟩
noncomputable def tLst (t : TA) : TE := fun σ H Q => t σ H fun xs H1 => xs.length ≤ sizeLine ∧ ∀ p, H1 p = none → Q (.ref p) (upd H1 p (.lst xs))
theorem pe_lst (h : PA X es t) : PE X (.List es pos) (tLst t) := by
  intro pins s σ H Q I hq
  refine wpAny_List_spliced (thn (h pos pins s σ H _ I hq) fun us s1 ⟨xs, H1, I1, r, z, q⟩ => ⟨by rw [← r.length]; exact z, ?_⟩)
  have hf : H1 s1.heap.objs.size = none := I1.hok.fresh (Nat.le_refl _)
  refine ⟨.ref s1.heap.objs.size, upd H1 s1.heap.objs.size (.lst xs), I1.laid (t' := s1.toks) (fun b u e => Heap.get?_push_of_some _ e) (Nat.le_refl _) ?_, rfl, q _ hf⟩
  exact ⟨z, us, 0, r, Heap.get?_push_size _ rfl⟩
end
noncomputable abbrev Sp := List V → Hp → VK → XK → Prop
noncomputable abbrev CXT := List Env → Hp → Shared → XK → Value → Shared → Prop
structure Env0 (P : Program) (w : World) (K : PySem.W.Frag) (mg : Str → Option Value) (base : Heap) (A : Around) (outer : List Env) (s : Shared) (H : Hp) : Prop where
  frames : A.frames = some outer
  mod : Mod K mg base
  bs : ∀ b o, base.get? b = some o → s.heap.get? b = some o ∧ H b = none
  bsz : base.objs.size ≤ s.heap.objs.size
  funs : s.heap.FunFrames base outer
  frf : ∀ b ∈ frs outer, H b = none
  hok : HOk P w H s.heap
  bare : AllBare s.gens
noncomputable def CE (outer : List Env) (P : Program) (w : World) (H : Hp) (s : Shared) (Q : VK) (u : Value) (s' : Shared) : Prop :=
  ∃ v H', s'.os = s.os ∧ AllBare s'.gens ∧ Un (frs outer) [] H H' s.heap s'.heap ∧ HOk P w H' s'.heap ∧ RelV v u ∧ Q v H'
noncomputable def CR (CX : CXT) (outer : List Env) (P : Program) (w : World) (H : Hp) (s : Shared) (Q : VK) (E : XK) (r : Result) (s' : Shared) : Prop :=
  match r with
  | .ok (.ret u) => CE outer P w H s Q u s'
  | .ok _ => False
  | .error e => CX outer H s E e s'
structure FnOk (P : Program) (w : World) (K : PySem.W.Frag) (mg : Str → Option Value) (base : Heap) (CX : CXT) (k : Nat) (f : Addr) (fd : FuncData) (ps : List Str) (sp : Sp) : Prop where
  len : ∀ vs H Q E, sp vs H Q E → vs.length = ps.length
  run : ∀ (A : Around) (outer : List Env) (s : Shared) (H : Hp) (args : Args) (us : List Value) (vs : List V) (Q : VK) (E : XK), Room k A → Env0 P w K mg base A outer s H → BindsTo s fd args (ps.zip us) → Vals vs us → sp vs H Q E →
    codeAny (model P w) A (.call (.ref f) args) (CR CX outer P w H s Q E) s
theorem FnOk.mono {P : Program} {w : World} {K : PySem.W.Frag} {mg : Str → Option Value} {base : Heap} {CX : CXT} {j k : Nat} {f : Addr} {fd : FuncData} {ps : List Str} {sp : Sp} (F : FnOk P w K mg base CX j f fd ps sp) (h : j ≤ k) :
    FnOk P w K mg base CX k f fd ps sp := ⟨F.len, fun A outer s H args us vs Q E hr => F.run A outer s H args us vs Q E (hr.mono h)⟩
section
variable {X : Cx} {pins : List (Addr × Obj)} {σ : St} {H : Hp} {s s' : Shared}
theorem Inv.env0 (I : Inv X pins σ H s) : Env0 X.prog X.w X.K X.mg X.base X.A X.stack s H :=
  ⟨I.ok.frames, I.ok.mod, I.bs, Nat.le_trans I.ok.bsz I.sz, I.stack, I.stkFree, I.hok, I.bare⟩
theorem Inv.after {Q : VK} {u : Value} (I : Inv X pins σ H s) (h : CE X.stack X.prog X.w H s Q u s') : EP X pins σ Q u s' := by
  obtain ⟨v, H', os, bare, un, hok, r, q⟩ := h
  obtain ⟨hh, g, d, t, os'⟩ := s'
  obtain rfl : os' = s.os := os
  exact ⟨v, H', I.call (h' := hh) (g' := g) (d' := d) (t' := t) (ch := []) un hok bare (fun b z => absurd z (by simp)), r, q⟩
end
noncomputable def tCall (sp : Sp) (dvs : List V) (E : XK) (t : TA) : TE := fun σ H Q => t σ H fun vs H1 => sp (vs ++ dvs) H1 Q E
noncomputable def Binds (K : PySem.W.Frag) (fd : FuncData) (ps : List Str) (ds : List Value) : Prop :=
  ∀ (s : Shared) (us : List Value), K.In s.heap → (us ++ ds).length = ps.length → BindsTo s fd ⟨us, []⟩ (ps.zip (us ++ ds))
theorem Binds.all {K : PySem.W.Frag} {fd : FuncData} {ps : List Str} (h : ∀ us : List Value, us.length = ps.length → bindArgs fd ⟨us, []⟩ = pure (ps.zip us)) : Binds K fd ps [] := fun s us _ hl => by
  rw [List.append_nil] at hl ⊢
  exact .of_eq (h us hl)
noncomputable def Passes (CX : CXT) (X : Cx) (E : XK) : Prop := ∀ (pins : List (Addr × Obj)) (σ : St) (H : Hp) (s : Shared) (e : Value) (s' : Shared), Inv X pins σ H s → CX X.stack H s E e s' → X.xe e s'
section
variable {X : Cx} {CX : CXT} {k : Nat} {f C : Addr} {fd : FuncData} {ps : List Str} {sp : Sp} {dvs : List V} {ds : List Value} {E : XK} {x m : Str} {p pos apos : Pos} {e o : Expr} {es : List Expr} {ta : TE} {t : TA}
theorem run_fn {pins : List (Addr × Obj)} {σ : St} {H : Hp} {s : Shared} {Q : VK} {us : List Value} {vs : List V} (F : FnOk X.prog X.w X.K X.mg X.base CX k f fd ps sp) (hr : Room k X.A) (hb : Binds X.K fd ps ds) (hd : Vals dvs ds) (hx : Passes CX X E)
    (I : Inv X pins σ H s) (r : Vals vs us) (h : sp (vs ++ dvs) H Q E) : wpAny (model X.prog X.w) X.A (call (.ref f) us) (EP X pins σ Q) X.xe s := by
  have r2 : Vals (vs ++ dvs) (us ++ ds) := r.append hd
  have hl : (us ++ ds).length = ps.length := by rw [← r2.length]; exact F.len _ _ _ _ h
  refine wpAny_call (codeAny_mono (F.run X.A X.stack s H ⟨us, []⟩ (us ++ ds) (vs ++ dvs) Q E hr I.env0 (hb s us I.kIn hl) r2 h) fun r s' hq => ?_)
  cases r with
  | error e => exact hx pins σ H s e s' I hq
  | ok fl =>
    cases fl with
    | ret u => exact I.after hq
    | next => exact False.elim hq
    | brk => exact False.elim hq
    | cont => exact False.elim hq
theorem pe_call (F : FnOk X.prog X.w X.K X.mg X.base CX k f fd ps sp) (hr : Room k X.A) (hg : Gl X x) (hm : X.mg x = some (.ref f)) (hk : PySem.W.keepIn X.K (.ref f) = true) (hb : Binds X.K fd ps ds) (hd : Vals dvs ds) (hx : Passes CX X E)
    (ha : PA X (e :: es) t) (hdb : (x == ("__debug__" : Str)) = false := by decide) (he : starEach (e :: es) X.env = (false, eval e X.env) :: starEach es X.env := by rfl) (hpl : (backTo pos (starEach es X.env)).any (·.1) = false := by rfl) :
    PE X (.Call (.Name x p) (e :: es) [] pos) (tCall sp dvs E t) := by
  intro pins s σ H Q I h
  refine wpAny_Call_Name_kw (ld_glob I hg hm ?_ hdb)
  refine PySem.W.callWith_K (h₀ := X.base) I.ok.mod.kin hk (thn (ha pos pins s σ H _ I h) fun us s1 ⟨vs, H1, I1, r, q⟩ => ⟨I1.kIn, ?_⟩) he hpl
  exact run_fn F hr hb hd hx I1 r q
end
section
variable {X : Cx} {CX : CXT} {k : Nat} {f C : Addr} {fd : FuncData} {ps ks : List Str} {sp : Sp} {E : XK} {x m : Str} {p pos apos kpos : Pos} {e o : Expr} {es : List Expr} {kws : List Keyword} {te ta : TE} {t tk : TA} {nm : Option Str}
variable {g : List Value → List Value → List Value} {gV : List V → List V → List V}
end
structure FnScope (N P : List Str) (sc : Scope) : Prop where
  kind : sc.kind = .function
  co : sc.isCoroutine = false
  gen : sc.isGenerator = false
  nd : N.Nodup
  pre : N.take P.length = P
  par : ∀ x ∈ P, sc.names.lookup x = some .local ∨ sc.names.lookup x = some .cell
  nofree : ∀ y ∈ sc.names, y.2 ≠ .free
theorem bindL_out {kindOf : Str → Option NameKind} {x : Str} : ∀ {binds : List (Str × Value)} {m : Str → Option Value}, (∀ v, (x, v) ∉ binds) → bindL kindOf binds m x = m x
  | [], _, _ => rfl
  | (n, v) :: r, m, h => by
    unfold bindL
    rw [bindL_out fun w hw => h w (List.mem_cons_of_mem _ hw)]
    split
    · have : x ≠ n := by rintro rfl; exact h v List.mem_cons_self
      simp [this]
    · rfl
theorem bindC_out {kindOf : Str → Option NameKind} {x : Str} : ∀ {binds : List (Str × Value)} {m : Str → Option Value}, (∀ v, (x, v) ∉ binds) → bindC kindOf binds m x = m x
  | [], _, _ => rfl
  | (n, v) :: r, m, h => by
    unfold bindC
    rw [bindC_out fun w hw => h w (List.mem_cons_of_mem _ hw)]
    split
    · rfl
    · have : x ≠ n := by rintro rfl; exact h v List.mem_cons_self
      simp [this]
theorem bindL_get {kindOf : Str → Option NameKind} {x : Str} {v : Value} : ∀ {P : List Str} {vs : List Value} {i : Nat} {m : Str → Option Value}, P.Nodup → P[i]? = some x → vs[i]? = some v → kindOf x = some .local →
    bindL kindOf (P.zip vs) m x = some v
  | [], _, _, _, _, h, _, _ => by simp at h
  | _ :: _, [], _, _, _, _, h, _ => by simp at h
  | p :: P, w :: vs, 0, m, nd, h1, h2, hk => by
    simp at h1 h2; subst h1; subst h2
    show bindL kindOf ((p, w) :: P.zip vs) m p = _
    unfold bindL
    rw [bindL_out fun v hv => (List.nodup_cons.mp nd).1 (List.of_mem_zip hv).1, if_pos hk]
    simp
  | p :: P, w :: vs, i + 1, m, nd, h1, h2, hk => by
    show bindL kindOf ((p, w) :: P.zip vs) m x = _
    unfold bindL
    exact bindL_get (i := i) (List.nodup_cons.mp nd).2 (by simpa using h1) (by simpa using h2) hk
theorem bindC_get {kindOf : Str → Option NameKind} {x : Str} {v : Value} : ∀ {P : List Str} {vs : List Value} {i : Nat} {m : Str → Option Value}, P.Nodup → P[i]? = some x → vs[i]? = some v → kindOf x ≠ some .local →
    bindC kindOf (P.zip vs) m x = some v
  | [], _, _, _, _, h, _, _ => by simp at h
  | _ :: _, [], _, _, _, _, h, _ => by simp at h
  | p :: P, w :: vs, 0, m, nd, h1, h2, hk => by
    simp at h1 h2; subst h1; subst h2
    show bindC kindOf ((p, w) :: P.zip vs) m p = _
    unfold bindC
    rw [bindC_out fun v hv => (List.nodup_cons.mp nd).1 (List.of_mem_zip hv).1, if_neg hk]
    simp
  | p :: P, w :: vs, i + 1, m, nd, h1, h2, hk => by
    show bindC kindOf ((p, w) :: P.zip vs) m x = _
    unfold bindC
    exact bindC_get (i := i) (List.nodup_cons.mp nd).2 (by simpa using h1) (by simpa using h2) hk
noncomputable def start (N : List Str) (vs : List V) : St := vs.map some ++ List.replicate (N.length - vs.length) none
noncomputable def cxOf (CX : CXT) (P : Program) (w : World) (K : PySem.W.Frag) (mg : Str → Option Value) (base : Heap) (N : List Str) (qual : Str) (scope : Scope) (f : Addr) (cd : Value) (A : Around) (outer : List Env) (s : Shared) (H : Hp) (E : XK) : Cx where
  prog := P
  w := w
  K := K
  mg := mg
  base := base
  A := A.deeper (envOfC qual scope s.heap.objs.size f cd)
  N := N
  s₀ := s
  H₀ := H
  env := envOfC qual scope s.heap.objs.size f cd
  outer := outer
  stack := envOfC qual scope s.heap.objs.size f cd :: outer
  ex := []
  calm := true
  fn := fun _ => true
  pn := []
  xe := fun e s' => wpAny (model P w) (A.deeper (envOfC qual scope s.heap.objs.size f cd)) (leaving (envOfC qual scope s.heap.objs.size f cd) e) (fun _ s'' => CX outer H s E e s'') (fun e' s'' => CX outer H s E e' s'') s'
theorem cell_has {sc : Scope} {n : Nat} {x : Str} (h : sc.names.lookup x = some .cell) : ∃ c, (cellsFrom n sc.names []).lookup x = some c := by
  have q := PySem.W.cellsFrom_some sc.names n [] (.inl h)
  exact Option.isSome_iff_exists.mp q
theorem inv_start {CX : CXT} {P : Program} {w : World} {K : PySem.W.Frag} {mg : Str → Option Value} {base : Heap} {N ps : List Str} {qual : Str} {scope : Scope} {f : Addr} {cd : Value} {A : Around} {outer : List Env} {s s1 : Shared} {H : Hp} {E : XK} {us : List Value} {vs : List V}
    (S : FnScope N ps scope) (hd : A.handled = none) (e0 : Env0 P w K mg base A outer s H) (hl : vs.length = ps.length) (r : Vals vs us)
    (x : InCallC s s.heap.objs.size (bindL (envOfC qual scope s.heap.objs.size f cd).kindOf (ps.zip us) fun _ => none) (cellsFrom (s.heap.objs.size + 1) scope.names []) (bindC (envOfC qual scope s.heap.objs.size f cd).kindOf (ps.zip us) fun _ => none) s1) :
    Inv (cxOf CX P w K mg base N qual scope f cd A outer s H E) [] (start N vs) H s1 := by
  have hpl : ps.length ≤ N.length := by have := congrArg List.length S.pre; rw [List.length_take] at this; omega
  obtain ⟨h1, tk, rfl, hk⟩ := x.done
  have noA : ∀ b : Addr, b ∉ (cxOf CX P w K mg base N qual scope f cd A outer s H E).ex := fun b z => absurd (show b ∈ ([] : List Addr) from z) (by simp)
  refine ⟨⟨e0.mod, S.kind, rfl, rfl, Nat.le_refl _, fun y z c h1 h2 => ?_, fun y hy => ?_, fun y c _ h => ?_, fun _ => hd, Around.frames_deeper e0.frames, .inr ⟨rfl, rfl⟩, fun b z => absurd z (noA b), e0.bs, e0.bsz, fun b _ _ => noA b, fun b z => absurd z (noA b), e0.funs, e0.frf⟩,
    rfl, e0.bare, Un.kept hk, ⟨_, x.toInCall.ns, fun i y v h1 h2 h3 => ?_⟩, fun y c h => ⟨_, x.cell y c h⟩, e0.hok.fresh (Nat.le_refl _), fun y c h => ?_, fun p hp => absurd (show p ∈ ([] : List (Addr × Obj)) from hp) (by simp), e0.hok.kept hk, ?_⟩
  · exact name_of_addr x.apart (PySem.mem_of_lookup h1) (PySem.mem_of_lookup h2)
  · have hy : scope.names.lookup y = some .cell ∨ scope.names.lookup y = some .free := hy
    rcases hy with hy | hy
    · exact cell_has hy
    · exact absurd rfl (S.nofree _ (PySem.mem_of_lookup hy))
  · exact Nat.le_of_lt (x.above y c (PySem.mem_of_lookup h))
  · have hi : i < vs.length := by
      unfold start at h2
      by_cases hi : i < vs.length
      · exact hi
      · rw [List.getElem?_append_right (by simpa using hi)] at h2
        rw [List.getElem?_replicate] at h2
        split at h2 <;> cases h2
    have ha : vs[i]? = some v := by
      unfold start at h2
      rw [List.getElem?_append_left (by simpa using hi), List.getElem?_map] at h2
      cases e : vs[i]? with
      | none => rw [e] at h2; cases h2
      | some a => rw [e] at h2; cases h2; rfl
    obtain ⟨u, hu, rv⟩ := r.get ha
    have hp : ps[i]? = some y := by
      rw [← S.pre, List.getElem?_take_of_lt (by omega)]; exact h1
    have ndP : ps.Nodup := by rw [← S.pre]; exact S.nd.sublist (List.take_sublist _ _)
    refine ⟨u, rv, ?_⟩
    rcases S.par y (List.mem_of_getElem? hp) with k | k
    · exact .inl ⟨k, bindL_get ndP hp hu k⟩
    · obtain ⟨c, e⟩ := cell_has (n := s.heap.objs.size + 1) k
      refine .inr ⟨.inl k, c, e, ?_⟩
      have q := x.cell y c e
      rw [bindC_get ndP hp hu (by show scope.names.lookup y ≠ _; rw [k]; decide)] at q
      exact q
  · exact e0.hok.fresh (Nat.le_of_lt (x.above y c (PySem.mem_of_lookup h)))
  · unfold start
    show _ = N.length
    rw [List.length_append, List.length_map, List.length_replicate]
    omega
theorem fn_of {CX : CXT} {P : Program} {w : World} {K : PySem.W.Frag} {mg : Str → Option Value} {base : Heap} {k : Nat} {f : Addr} {name qual : Str} {params : Arguments} {body : List Stmt} {scope : Scope} {dV kV doc pm cdv ct oc : Value} {an od : Option Addr}
    {osl : Array (Option Value)} {N ps : List Str} {sp : Sp} (lk : K.lookup f = some ⟨oc, od, .func (PySem.W.fnOf name qual params body scope dV kV doc pm an cdv ct), osl⟩) (hcd : PySem.W.codeIn K cdv qual = true) (S : FnScope N ps scope)
    (len : ∀ vs H Q E, sp vs H Q E → vs.length = ps.length)
    (hbody : ∀ (A : Around) (outer : List Env) (s : Shared) (H : Hp) (vs : List V) (Q : VK) (E : XK), Room k (A.deeper (envOfC qual scope s.heap.objs.size f cdv)) → sp vs H Q E →
      ∃ t, PSs (cxOf CX P w K mg base N qual scope f cdv A outer s H E) body t ∧ t { nx := fun _ H' => Q .non H', rt := Q } (start N vs) H) :
    FnOk P w K mg base CX (k + 1) f (PySem.W.fnOf name qual params body scope dV kV doc pm an cdv ct) ps sp := by
  refine ⟨len, fun A outer s H args us vs Q E hr e0 hb r hsp => ?_⟩
  have hl := len _ _ _ _ hsp
  have KX : K.In s.heap := e0.mod.kin.keeps fun b o e => (e0.bs b o e).1
  have lim : s.heap.NoLimit := e0.mod.nolimit.keeps fun b o e => (e0.bs b o e).1
  have hkind : ∀ y ∈ ps.zip us, scope.names.lookup y.1 = some .local ∨ (scope.names.lookup y.1 = some .cell ∧ ((cellsFrom (s.heap.objs.size + 1) scope.names []).lookup y.1).isSome = true) := fun ⟨n, v⟩ hy => by
    rcases S.par n (List.of_mem_zip hy).1 with q | q
    · exact .inl q
    · exact .inr ⟨q, PySem.W.cellsFrom_some _ _ _ (.inl q)⟩
  refine codeAny_call_function hr.depth (KX _ _ lk) rfl S.co S.gen rfl (PySem.W.codeRec_of KX hcd) (hb _ _ _ _ ?_)
  refine wpAny_newFunctionEnv_cells S.kind hkind fun env he s1 x => ?_
  subst he
  refine ⟨lim.keeps x.toInCall.keep, codeAny_func ?_⟩
  obtain ⟨t, ht, hq⟩ := hbody A outer s H vs Q E (hr.deeper _) hsp
  have I : Inv (cxOf CX P w K mg base N qual scope f cdv A outer s H E) [] (start N vs) H s1 := inv_start S hr.hd e0 hl r x
  refine wpAny_mono (ht [] s1 (start N vs) H _ I hq) (fun fl s' hs => ?_) fun e s' hs => hs
  have fin : ∀ {σ' : St} {H' : Hp} {v : V} {u : Value}, Inv (cxOf CX P w K mg base N qual scope f cdv A outer s H E) [] σ' H' s' → RelV v u → Q v H' → CE outer P w H s Q u s' :=
    fun {σ' H' v u} J rv q => ⟨v, H', J.os, J.bare, J.base, J.hok, rv, q⟩
  cases fl with
  | ret u =>
    obtain ⟨v, σ', H', J, rv, q⟩ := hs
    exact fin J rv q
  | next =>
    obtain ⟨σ', H', J, q⟩ := hs
    exact fin (v := V.non) (u := Value.none) J rfl q
  | brk =>
    obtain ⟨_, _, _, q⟩ := hs
    exact False.elim q
  | cont =>
    obtain ⟨_, _, _, q⟩ := hs
    exact False.elim q
end L2
namespace L2
open PySem PySem.Spec PyProof.Rows
section
variable {X : Cx} {x : Str} {p pos : Pos} {e : Expr} {es : List Expr} {t : TA} {id T : String} {r : List V → Hp → VK → Prop}
noncomputable def tCB (r : List V → Hp → VK → Prop) (t : TA) : TE := fun σ H Q => t σ H fun vs H1 => r vs H1 Q
theorem pe_callB (hc : CallR X (.builtin id) r) (hg : Gl X x) (hm : X.mg x = none) (hv : bootBuiltins x = some (.builtin id)) (ha : PA X (e :: es) t) (hn : x ≠ "__name__" := by decide) (hdb : (x == ("__debug__" : Str)) = false := by decide)
    (he : starEach (e :: es) X.env = (false, eval e X.env) :: starEach es X.env := by rfl) (hpl : (backTo pos (starEach es X.env)).any (·.1) = false := by rfl) : PE X (.Call (.Name x p) (e :: es) [] pos) (tCB r t) := by
  intro pins s σ H Q I h
  refine wpAny_Call_Name_kw (ld_blt I hg hm hv ?_ hn hdb)
  exact PyProof.Rows.callWith_builtin1 (thn (ha pos pins s σ H _ I h) fun us s1 ⟨vs, H1, I1, r1, q1⟩ => hc pins s1 σ H1 vs us Q I1 r1 q1) he hpl
theorem pe_callTy (hc : CallR X (.type T) r) (hg : Gl X x) (hm : X.mg x = none) (hv : bootBuiltins x = some (.type T)) (ha : PA X (e :: es) t) (hn : x ≠ "__name__" := by decide) (hdb : (x == ("__debug__" : Str)) = false := by decide)
    (he : starEach (e :: es) X.env = (false, eval e X.env) :: starEach es X.env := by rfl) (hpl : (backTo pos (starEach es X.env)).any (·.1) = false := by rfl) : PE X (.Call (.Name x p) (e :: es) [] pos) (tCB r t) := by
  intro pins s σ H Q I h
  refine wpAny_Call_Name_kw (ld_blt I hg hm hv ?_ hn hdb)
  exact PyProof.Rows.callWith_type1 (thn (ha pos pins s σ H _ I h) fun us s1 ⟨vs, H1, I1, r1, q1⟩ => hc pins s1 σ H1 vs us Q I1 r1 q1) he hpl
end
end L2
namespace L2
open PySem PySem.Spec PyProof.Rows
section
variable {κ : Type} [DecidableEq κ]
theorem KV.length {kvs : List (κ × V)} {vs : List (κ × Value)} (r : KV kvs vs) : kvs.length = vs.length := Paired.length r
end
section
variable {P : Program} {w : World} {H : Hp} {h : Heap} {a : Addr}
end
section
variable {X : Cx} {pins : List (Addr × Obj)} {σ : St} {H : Hp} {s : Shared} {a : Addr} {y v : V} {u r : Value} {o : Option V} {A : Around} {E : Value → Shared → Prop}
end
section
variable {X : Cx} {pins : List (Addr × Obj)} {σ : St} {H : Hp} {s : Shared} {a : Addr} {kvs : List (Key × V)} {k : Key} {u : Value} {A : Around} {E : Value → Shared → Prop}
end
section
variable {X : Cx} {o i e value : Expr} {pos pos' tpos : Pos} {td ty tv : TE}
end
section
variable {X : Cx} {pos : Pos}
end
section
variable {X : Cx} {pins : List (Addr × Obj)} {σ : St} {H : Hp} {s : Shared} {a : Addr} {y d : V} {u r : Value} {o : Option V} {A : Around} {E : Value → Shared → Prop}
end
section
variable {X : Cx} {o e f : Expr} {apos cpos : Pos} {td ty tx : TE}
end
section
variable {X : Cx} {pins : List (Addr × Obj)} {σ : St} {H : Hp} {s : Shared} {a : Addr} {kvs : List (Key × V)} {A : Around} {E : Value → Shared → Prop}
end
section
variable {X : Cx} {pins : List (Addr × Obj)} {σ : St} {H : Hp} {s : Shared} {a : Addr} {y : V} {u : Value} {A : Around} {E : Value → Shared → Prop}
end
end L2
namespace HT
open PySem PyProof.Rows
noncomputable def lexLt : List Int → List Int → Bool
  | [], [] => false
  | [], _ :: _ => true
  | _ :: _, [] => false
  | x :: xs, y :: ys => if x = y then lexLt xs ys else decide (x < y)
section
open PySem.SeqAt
open PySem.AutoSeq1 (wpAny_loadPart')
open PySem.MeetsSeq PySem.MeetsSeq2 PySem.MeetsSeq3
end
section
variable {prog : Program} {w : World} {A : Around} {E : Value → Shared → Prop} {s : Shared}
theorem cat_tup {t b : Addr} {vs ws : List Value} {Q : Value → Shared → Prop} (ht : IsTup s.heap t vs.toArray) (hb : IsTup s.heap b ws.toArray) (hv : vs ≠ [])
    (h1 : ws = [] → Q (.ref t) s) (h2 : ws ≠ [] → Q (.ref s.heap.objs.size) { s with heap := s.heap.push { cls := .type "tuple", data := .seq (vs ++ ws).toArray } })
    (hsz : vs.length + ws.length ≤ sizeLine) : wpAny (model prog w) A (binaryOp .Add (.ref t) (.ref b)) Q E s := by
  obtain ⟨⟨cls, dd, data, sl⟩, ho, hc, n, hd⟩ := id ht
  obtain ⟨⟨cls2, dd2, data2, sl2⟩, ho2, hc2, n2, hd2⟩ := id hb
  simp only at hc hd hc2 hd2
  subst hc hd hc2 hd2
  have e : vs.toArray ++ ws.toArray = (vs ++ ws).toArray := by simp
  by_cases hw : ws = []
  · exact concat_meets ⟨_, ho, rfl⟩ ⟨_, ho2, rfl⟩ noFill_tuple_add seq_tuple_add PySem.F.slot_tuple_add PySem.F.entry_tuple_add (PySem.F.args_tuple_add_2 _ _)
      (tuple_addW1 t b vs.toArray ws.toArray n n2 dd dd2 sl sl2 (by simpa using hv) (by simp [hw])) ⟨ho, ho2, h1 hw⟩
  · refine concat_meets ⟨_, ho, rfl⟩ ⟨_, ho2, rfl⟩ noFill_tuple_add seq_tuple_add PySem.F.slot_tuple_add PySem.F.entry_tuple_add (PySem.F.args_tuple_add_2 _ _)
      (tuple_addW2 t b vs.toArray ws.toArray n n2 dd dd2 sl sl2 (by simpa using hv) (by simpa using hw) (by rw [List.size_toArray, List.size_toArray]; exact hsz)) ⟨ho, ho2, ?_⟩
    rw [e]
    exact h2 hw
noncomputable def sIx (n d : Nat) : Option Int → Nat
  | none => d
  | some v => if v < 0 then (v + (n : Int)).toNat else min v.toNat n
end
end HT
namespace L2
open PySem PySem.Spec PyProof.Rows
noncomputable abbrev TO := St → Hp → (Option Int → Hp → Prop) → Prop
noncomputable def PO (X : Cx) (e : Option Expr) (t : TO) : Prop :=
  ∀ (pins : List (Addr × Obj)) (s : Shared) (σ : St) (H : Hp) (Q : Option Int → Hp → Prop), Inv X pins σ H s → t σ H Q →
    wpAny (model X.prog X.w) X.A (evalPart e X.env) (fun u s' => ∃ o H', Inv X pins σ H' s' ∧ IsPart u o ∧ Q o H') X.xe s
noncomputable def tNoPart : TO := fun _ H Q => Q none H
noncomputable def tPart (t : TE) : TO := fun σ H Q => t σ H fun x H1 => ∃ i, x = .int i ∧ Q (some i) H1
section
variable {X : Cx} {e : Expr} {te : TE} {lo hi : Option Expr} {tl th : TO} {pos p2 : Pos}
theorem po_none : PO X none tNoPart := by
  intro pins s σ H Q I h
  rw [evalPart_none]
  exact wpAny_pure ⟨none, H, I, .none, h⟩
theorem po_some (h : PE X e te) : PO X (some e) (tPart te) := by
  intro pins s σ H Q I hw
  rw [evalPart_some]
  refine thn (h pins s σ H _ I hw) fun u s1 ⟨x, H1, I1, r1, q1⟩ => ?_
  obtain ⟨i, rfl, q⟩ := q1
  obtain ⟨t, rfl⟩ := r1
  exact ⟨some i, H1, I1, .int i t, q⟩
noncomputable def SlR (X : Cx) (r : V → Option Int → Option Int → Hp → VK → Prop) : Prop :=
  ∀ (pins : List (Addr × Obj)) (s : Shared) (σ : St) (H : Hp) (x : V) (v vl vu : Value) (lo hi : Option Int) (sl : Addr) (Q : VK), Inv X pins σ H s → RelV x v → s.heap.IsSliceOf sl vl vu .none → IsPart vl lo → IsPart vu hi → r x lo hi H Q →
    ∃ T id, typeLookup (.type T) "__getitem__" = pure (some (.builtin id)) ∧ s.TypeIs v T ∧ wpAny (model X.prog X.w) X.A (getItem v (.ref sl)) (EP X pins σ Q) X.xe s
noncomputable def tSl (r : V → Option Int → Option Int → Hp → VK → Prop) (te : TE) (tl th : TO) : TE := fun σ H Q => te σ H fun x H1 => tl σ H1 fun l H2 => th σ H2 fun u H3 => r x l u H3 Q
theorem pe_slice {r : V → Option Int → Option Int → Hp → VK → Prop} (hr : SlR X r) (he : PE X e te) (hl : PO X lo tl) (hu : PO X hi th) : PE X (.Subscript e (.Slice lo hi none p2) pos) (tSl r te tl th) := by
  intro pins s σ H Q I h
  refine Subscript_ (thn (he pins s σ H _ I h) fun v s1 ⟨x, H1, I1, r1, q1⟩ => ?_)
  refine wpAny_Slice (thn (hl pins s1 σ H1 _ I1 q1) fun vl s2 ⟨l, H2, I2, pl, q2⟩ => thn (hu pins s2 σ H2 _ I2 q2) fun vu s3 ⟨u, H3, I3, pu, q3⟩ => ?_)
  rw [evalPart_none]
  refine wpAny_pure ?_
  have I4 : Inv X pins σ H3 { s3 with heap := s3.heap.push { cls := .type "slice", data := .fields #[vl, vu, .none] } } := I3.kept (t' := s3.toks) fun b ob q => Heap.get?_push_of_some _ q
  obtain ⟨T, id, hT, ht, hg⟩ := hr pins { s3 with heap := s3.heap.push { cls := .type "slice", data := .fields #[vl, vu, .none] } } σ H3 x v vl vu l u s3.heap.objs.size Q I4 r1 (Heap.IsSliceOf.new ..) pl pu q3
  show wpAny (model X.prog X.w) X.A (subscriptTail e (.Slice lo hi none p2) v (.ref s3.heap.objs.size)) (EP X pins σ Q) X.xe { s3 with heap := s3.heap.push { cls := .type "slice", data := .fields #[vl, vu, .none] } }
  exact tail_any (ops := [.ref s3.heap.objs.size, v]) ht hT hg (by with_unfolding_all rfl)
noncomputable def rCatT (K : PySem.W.Frag) : R2 := fun x y H Q => ∃ a b xs ys, x = .ref a ∧ y = .ref b ∧ SqT K H a xs ∧ SqT K H b ys ∧ xs ≠ [] ∧ xs.length + ys.length ≤ sizeLine ∧
  (ys = [] → Q (.ref a) H) ∧ (ys ≠ [] → ∀ p, H p = none → Q (.ref p) (upd H p (.tup (xs ++ ys))))
theorem Vals.nil_iff {xs : List V} {us : List Value} (r : Vals xs us) : us = [] ↔ xs = [] := by
  cases r with
  | nil => simp
  | cons _ _ => simp
theorem op_catT : OpR X (binaryOp .Add) (rCatT X.K) := by
  intro pins s σ H x y v u Q I rx ry h
  obtain ⟨a, b, xs, ys, rfl, rfl, ha, hb, hx, hz, q1, q2⟩ := h
  cases rx
  cases ry
  obtain ⟨its, r1, p1, _⟩ := I.tuple ha
  obtain ⟨its2, r2, p2, _⟩ := I.tuple hb
  refine HT.cat_tup p1 p2 (fun z => hx (r1.nil_iff.mp z)) (fun z => ⟨.ref a, H, I, rfl, q1 (r2.nil_iff.mp z)⟩) (fun z => ?_) (by rw [← r1.length, ← r2.length]; exact hz)
  refine ⟨.ref s.heap.objs.size, _, I.laid (t' := s.toks) (o := .tup (xs ++ ys)) (fun b ob q => Heap.get?_push_of_some _ q) (Nat.le_refl _) ?_, rfl, q2 (fun w => z (r2.nil_iff.mpr w)) _ (I.hok.fresh (Nat.le_refl _))⟩
  exact ⟨by rw [List.length_append]; exact hz, _, r1.append r2, IsTup.new _ _⟩
end
end L2
namespace L2
open PySem PySem.Spec PyProof.Rows
noncomputable def ixN (n : Nat) (i : Int) : Option Nat := if 0 ≤ i then (if i < n then some i.toNat else none) else if -(n : Int) ≤ i then some (i + n).toNat else none
noncomputable def atI {α : Type} (xs : List α) (i : Int) : Option α := (ixN xs.length i).bind fun j => xs[j]?
theorem ixN_seq {n : Nat} {i : Int} {j : Nat} (h : ixN n i = some j) : seqIndex? i n = some j ∧ j < n ∧ -(n : Int) ≤ i ∧ i < n := by
  unfold ixN at h
  by_cases h0 : 0 ≤ i
  · rw [if_pos h0] at h
    by_cases h1 : i < n
    · rw [if_pos h1] at h
      have e : i.toNat = j := Option.some.inj h
      exact ⟨by rw [seqIndex_of h0 h1, e], by omega, by omega, h1⟩
    · rw [if_neg h1] at h; cases h
  · rw [if_neg h0] at h
    by_cases h1 : -(n : Int) ≤ i
    · rw [if_pos h1] at h
      have e : (i + n).toNat = j := Option.some.inj h
      exact ⟨by rw [seqIndex_neg (by omega) h1, e], by omega, h1, by omega⟩
    · rw [if_neg h1] at h; cases h
theorem atI_get {α : Type} {xs : List α} {i : Int} {v : α} (h : atI xs i = some v) : ∃ j, seqIndex? i xs.length = some j ∧ xs[j]? = some v ∧ j < xs.length ∧ -(xs.length : Int) ≤ i ∧ i < xs.length := by
  unfold atI at h
  cases e : ixN xs.length i with
  | none => rw [e] at h; cases h
  | some j =>
    rw [e] at h
    obtain ⟨h1, h2, h3, h4⟩ := ixN_seq e
    exact ⟨j, h1, h, h2, h3, h4⟩
noncomputable def PlainIx (b : Expr) : Prop := ∀ o i, subscripted b false o i = operate [o, i] (getItem o i)
noncomputable def IxR (X : Cx) (r : R2) : Prop :=
  ∀ (value slice : Expr) (pins : List (Addr × Obj)) (s : Shared) (σ : St) (H : Hp) (x y : V) (v u : Value) (Q : VK), Inv X pins σ H s → RelV x v → RelV y u → r x y H Q →
    subscripted slice false v u = operate [v, u] (getItem v u) → wpAny (model X.prog X.w) X.A (subscriptTail value slice v u) (EP X pins σ Q) X.xe s
noncomputable def MtR (X : Cx) (id : String) (r : V → List V → Hp → VK → Prop) : Prop :=
  ∀ (pins : List (Addr × Obj)) (s : Shared) (σ : St) (H : Hp) (x : V) (xs : List V) (v : Value) (us : List Value) (Q : VK), Inv X pins σ H s → RelV x v → Vals xs us → r x xs H Q →
    wpAny (model X.prog X.w) X.A (call (.builtin id) (v :: us)) (EP X pins σ Q) X.xe s
section
variable {X : Cx} {a b : Expr} {ta tb : TE} {pos : Pos}
theorem IxR.or {r r' : R2} (h : IxR X r) (h' : IxR X r') : IxR X (fun x y H Q => r x y H Q ∨ r' x y H Q) := by
  intro value slice pins s σ H x y v u Q I rx ry q hs
  rcases q with q | q
  · exact h value slice pins s σ H x y v u Q I rx ry q hs
  · exact h' value slice pins s σ H x y v u Q I rx ry q hs
theorem pe_ix {r : R2} (hr : IxR X r) (ha : PE X a ta) (hb : PE X b tb) (hs : PlainIx b) : PE X (.Subscript a b pos) (tOp r ta tb) := by
  intro pins s σ H Q I h
  exact Subscript_ (binT ha hb I h fun v u s2 x y H2 I2 rx ry q => hr a b pins s2 σ H2 x y v u Q I2 rx ry q (hs _ _))
noncomputable def rIxL (K : PySem.W.Frag) : R2 := fun x y H Q => ∃ p xs i v, x = .ref p ∧ y = .int i ∧ SqL K H p xs ∧ atI xs i = some v ∧ Q v H
noncomputable def rIxT (K : PySem.W.Frag) : R2 := fun x y H Q => ∃ p xs i v, x = .ref p ∧ y = .int i ∧ SqT K H p xs ∧ atI xs i = some v ∧ Q v H
noncomputable def rIxS : R2 := fun x y H Q => ∃ z i c, x = .str z ∧ y = .int i ∧ z.length ≤ sizeLine ∧ atI z.cps.toList i = some c ∧ Q (.str ⟨#[c]⟩) H
theorem ix_list : IxR X (rIxL X.K) := by
  intro value slice pins s σ H x y v u Q I rx ry h hs
  obtain ⟨p, xs, i, z, rfl, rfl, hq, he, q⟩ := h
  cases rx
  obtain ⟨t, rfl⟩ := ry
  obtain ⟨its, r, pl, hz⟩ := I.list hq
  obtain ⟨j, h1, h2, h3, h4, h5⟩ := atI_get he
  obtain ⟨w, ew, rw'⟩ := r.get h2
  have hl := r.length
  have hn := line63
  have fin : EP X pins σ Q w s := ⟨z, H, I, rw', q⟩
  by_cases h0 : 0 ≤ i
  · have hj : i.toNat = j := by
      rw [seqIndex_of h0 h5] at h1
      exact Option.some.inj h1
    exact item_listR pl.isList h0 (by omega) (by rw [hj]; simpa using ew) fin hs
  · have hj : (i + (its.toArray.size : Int)).toNat = j := by
      rw [seqIndex_neg (by omega) h4] at h1
      rw [List.size_toArray, ← hl]
      exact Option.some.inj h1
    exact subscriptTail_builtinR (x := w) pl.isList.typeIs slot_list_getitem.lookup
      (wpAny_getItem_list_neg (Q := fun r s' => r = w ∧ EP X pins σ Q r s') pl.isList (by omega) (by rw [List.size_toArray] <;> omega) (by omega) (by rw [hj]; simpa using ew) ⟨rfl, fin⟩) hs
theorem ix_tup : IxR X (rIxT X.K) := by
  intro value slice pins s σ H x y v u Q I rx ry h hs
  obtain ⟨p, xs, i, z, rfl, rfl, hq, he, q⟩ := h
  cases rx
  obtain ⟨t, rfl⟩ := ry
  obtain ⟨its, r, pl, hz⟩ := I.tuple hq
  obtain ⟨j, h1, h2, h3, h4, h5⟩ := atI_get he
  obtain ⟨w, ew, rw'⟩ := r.get h2
  have hl := r.length
  have hn := line63
  have fin : EP X pins σ Q w s := ⟨z, H, I, rw', q⟩
  exact subscriptTail_builtinR (x := w) pl.typeIs slot_tuple_getitem.lookup
    (getItem_tuple (j := j) (Q := fun r s' => r = w ∧ EP X pins σ Q r s') pl (by omega) (by omega) (by rw [List.size_toArray, ← hl]; exact h1) (by simpa using ew) ⟨rfl, fin⟩) hs
theorem ix_str : IxR X rIxS := by
  intro value slice pins s σ H x y v u Q I rx ry h hs
  obtain ⟨z, i, c, rfl, rfl, hz, he, q⟩ := h
  obtain ⟨t, rfl⟩ := rx
  obtain ⟨t', rfl⟩ := ry
  obtain ⟨j, h1, h2, h3, h4, h5⟩ := atI_get he
  have hl : z.cps.toList.length = z.length := by simp [Str.length]
  rw [hl] at h1 h4 h5
  have hn := line63
  exact tail_any (typeIs_str s z t) slot_str_getitem.lookup (getItem_str (c := c) (by
    have e1 : decide (i < -(2 ^ 63 : Int)) = false := decide_eq_false (by omega)
    have e2 : decide (i ≥ 2 ^ 63) = false := decide_eq_false (by omega)
    rw [e1, e2, Bool.or_false]) (by rw [h1]; simpa using h2) ⟨.str ⟨#[c]⟩, H, I.tok _, ⟨_, rfl⟩, q⟩) hs
noncomputable def rIx (K : PySem.W.Frag) : R2 := fun x y H Q => rIxL K x y H Q ∨ rIxT K x y H Q ∨ rIxS x y H Q
theorem ix_seq : IxR X (rIx X.K) := ix_list.or (ix_tup.or ix_str)
noncomputable def flatV : V → Bool
  | .non => true
  | .bl _ => true
  | .int _ => true
  | .str _ => true
  | _ => false
noncomputable def eqV : V → V → Bool
  | .non, .non => true
  | .bl a, .bl b => a == b
  | .bl a, .int b => (if a then 1 else 0) == b
  | .int a, .bl b => a == (if b then 1 else 0)
  | .int a, .int b => a == b
  | .str a, .str b => a == b
  | _, _ => false
theorem eqAt_V {A : Around} {s : Shared} {y x : V} {u v : Value} (ry : RelV y u) (rx : RelV x v) (fy : flatV y = true) (fx : flatV x = true) : SeqAt.EqAt A s u v (eqV y x) := by
  cases y with
  | non =>
    cases ry
    cases x with
    | non => cases rx; exact SeqAt.EqAt.same _
    | bl b => cases rx; exact SeqAt.EqAt.none_bool b
    | int b => obtain ⟨t, rfl⟩ := rx; exact SeqAt.EqAt.none_int b t
    | str b => obtain ⟨t, rfl⟩ := rx; exact SeqAt.EqAt.none_str b t
    | _ => exact absurd (show false = true from fx) Bool.false_ne_true
  | bl a =>
    cases ry
    cases x with
    | non => cases rx; exact SeqAt.EqAt.bool_none a
    | bl b => cases rx; exact SeqAt.EqAt.bool_bool a b
    | int b => obtain ⟨t, rfl⟩ := rx; exact SeqAt.EqAt.bool_int a b t
    | str b => obtain ⟨t, rfl⟩ := rx; exact SeqAt.EqAt.bool_str a b t
    | _ => exact absurd (show false = true from fx) Bool.false_ne_true
  | int a =>
    obtain ⟨t', rfl⟩ := ry
    cases x with
    | non => cases rx; exact SeqAt.EqAt.int_none a t'
    | bl b => cases rx; exact SeqAt.EqAt.int_bool a t' b
    | int b => obtain ⟨t, rfl⟩ := rx; exact SeqAt.EqAt.int_int a t' b t
    | str b => obtain ⟨t, rfl⟩ := rx; exact SeqAt.EqAt.int_str a t' b t
    | _ => exact absurd (show false = true from fx) Bool.false_ne_true
  | str a =>
    obtain ⟨t', rfl⟩ := ry
    cases x with
    | non => cases rx; exact SeqAt.EqAt.str_none a t'
    | bl b => cases rx; exact SeqAt.EqAt.str_bool a t' b
    | int b => obtain ⟨t, rfl⟩ := rx; exact SeqAt.EqAt.str_int a t' b t
    | str b => obtain ⟨t, rfl⟩ := rx; exact SeqAt.EqAt.str_str a t' b t
    | _ => exact absurd (show false = true from fx) Bool.false_ne_true
  | _ => exact absurd (show false = true from fy) Bool.false_ne_true
noncomputable def eqU (x : V) (u : Value) : Bool := match u with
  | .none => eqV .non x
  | .bool b => eqV (.bl b) x
  | .int i _ => eqV (.int i) x
  | .str z _ => eqV (.str z) x
  | _ => false
theorem eqU_of {x y : V} {u : Value} (r : RelV y u) (f : flatV y = true) : eqU x u = eqV y x := by
  cases y with
  | non => cases r; rfl
  | bl b => cases r; rfl
  | int i => obtain ⟨t, rfl⟩ := r; rfl
  | str z => obtain ⟨t, rfl⟩ := r; rfl
  | _ => exact absurd (show false = true from f) Bool.false_ne_true
theorem any_eqU {x : V} : ∀ {xs : List V} {us : List Value}, Vals xs us → xs.all flatV = true → us.any (eqU x) = xs.any fun y => eqV y x
  | _, _, .nil, _ => rfl
  | y :: xs, u :: us, .cons r t, f => by
    rw [List.all_cons, Bool.and_eq_true] at f
    rw [List.any_cons, List.any_cons, eqU_of r f.1, any_eqU t f.2]
theorem mem_eqAt {A : Around} {s : Shared} {x : V} {v : Value} (rx : RelV x v) (fx : flatV x = true) : ∀ {xs : List V} {us : List Value}, Vals xs us → xs.all flatV = true → ∀ u ∈ us, SeqAt.EqAt A s u v (eqU x u)
  | _, _, .nil, _ => fun u hu => by cases hu
  | y :: xs, u :: us, .cons r t, f => fun u' hu => by
    rw [List.all_cons, Bool.and_eq_true] at f
    rcases List.mem_cons.mp hu with rfl | hu
    · rw [eqU_of r f.1]; exact eqAt_V r rx f.1 fx
    · exact mem_eqAt rx fx t f.2 u' hu
noncomputable def inV (x : V) (xs : List V) : Bool := xs.any fun y => eqV y x
noncomputable def rIn (K : PySem.W.Frag) (neg : Bool) : R2 := fun x y H Q => ∃ p xs, y = .ref p ∧ (SqL K H p xs ∨ SqT K H p xs) ∧ flatV x = true ∧ xs.all flatV = true ∧ Q (.bl (if neg then !inV x xs else inV x xs)) H
theorem op_in_seq : OpR X (compareOp .In) (rIn X.K false) := by
  intro pins s σ H x y v u Q I rx ry h
  obtain ⟨p, xs, rfl, hq, fx, fs, q⟩ := h
  cases ry
  rcases hq with hq | hq
  · obtain ⟨its, r, pl, hz⟩ := I.list hq
    refine SeqAt.in_listAt (eqU x) pl.isList (fun w hw => mem_eqAt rx fx r fs w (by simpa using hw)) ⟨.bl _, H, I, rfl, ?_⟩
    rw [show its.toArray.any (eqU x) = its.any (eqU x) by simp, any_eqU r fs]
    exact q
  · obtain ⟨its, r, pl, hz⟩ := I.tuple hq
    refine SeqAt.in_tupleAt (eqU x) pl (fun w hw => mem_eqAt rx fx r fs w (by simpa using hw)) ⟨.bl _, H, I, rfl, ?_⟩
    rw [show its.toArray.any (eqU x) = its.any (eqU x) by simp, any_eqU r fs]
    exact q
theorem op_notIn_seq : OpR X (compareOp .NotIn) (rIn X.K true) := by
  intro pins s σ H x y v u Q I rx ry h
  obtain ⟨p, xs, rfl, hq, fx, fs, q⟩ := h
  cases ry
  rcases hq with hq | hq
  · obtain ⟨its, r, pl, hz⟩ := I.list hq
    refine SeqAt.notIn_listAt (eqU x) pl.isList (fun w hw => mem_eqAt rx fx r fs w (by simpa using hw)) ⟨.bl _, H, I, rfl, ?_⟩
    rw [show its.toArray.any (eqU x) = its.any (eqU x) by simp, any_eqU r fs]
    exact q
  · obtain ⟨its, r, pl, hz⟩ := I.tuple hq
    refine SeqAt.notIn_tupleAt (eqU x) pl (fun w hw => mem_eqAt rx fx r fs w (by simpa using hw)) ⟨.bl _, H, I, rfl, ?_⟩
    rw [show its.toArray.any (eqU x) = its.any (eqU x) by simp, any_eqU r fs]
    exact q
noncomputable def tyV (K : PySem.W.Frag) (T : String) (x : V) (H : Hp) : Prop := match x with
  | .str _ => T = "str"
  | .int _ => T = "int"
  | .ref p => (T = "list" ∧ ∃ xs, SqL K H p xs) ∨ (T = "tuple" ∧ ∃ o, K.lookup p = some o ∧ o.cls = .type "tuple" ∧ o.dict = none) ∨
      (T = "dict" ∧ ((∃ kvs, H p = some (.dK kvs)) ∨ ∃ kvs, H p = some (.dT kvs))) ∨ (T = "set" ∧ ∃ S n, H p = some (.set S n))
  | _ => False
theorem tyV_is {pins : List (Addr × Obj)} {σ : St} {H : Hp} {s : Shared} {T : String} {x : V} {v : Value} (I : Inv X pins σ H s) (r : RelV x v) (ty : tyV X.K T x H) :
    s.TypeIs v T ∧ ∀ a, v = .ref a → ∃ ob, s.heap.get? a = some ob ∧ ob.dict = none := by
  cases x with
  | str z =>
    obtain ⟨t, rfl⟩ := r
    cases (show T = "str" from ty)
    exact ⟨typeIs_str s z t, fun _ e => nomatch e⟩
  | int i =>
    obtain ⟨t, rfl⟩ := r
    cases (show T = "int" from ty)
    exact ⟨typeIs_int s i t, fun _ e => nomatch e⟩
  | ref p =>
    cases r
    rcases ty with ⟨rfl, xs, hq⟩ | ⟨rfl, o, hk, hc, hd⟩ | ⟨rfl, hk⟩ | ⟨rfl, S, n, hk⟩
    · obtain ⟨its, _, pl, _⟩ := I.list hq
      refine ⟨pl.isList.typeIs, fun a e => ?_⟩
      cases e
      obtain ⟨o, n, e, c, hd, _⟩ := pl
      exact ⟨o, e, hd⟩
    · refine ⟨⟨o, I.kIn p o hk, hc⟩, fun a e => ?_⟩
      cases e
      exact ⟨o, I.kIn _ o hk, hd⟩
    · have z : ∃ o, s.heap.get? p = some o ∧ o.ExactDict := by
        rcases hk with ⟨kvs, hk⟩ | ⟨kvs, hk⟩
        · obtain ⟨_, _, _, _, o, _, _, e, ex, _⟩ := I.hok p _ hk
          exact ⟨o, e, ex⟩
        · obtain ⟨_, _, _, _, o, _, _, e, ex, _⟩ := I.hok p _ hk
          exact ⟨o, e, ex⟩
      obtain ⟨o, e, ex⟩ := z
      refine ⟨⟨o, e, ex.1⟩, fun a e2 => ?_⟩
      cases e2
      exact ⟨o, e, ex.2.1⟩
    · obtain ⟨o, _, _, _, e, ex, _⟩ := I.hok p _ hk
      refine ⟨⟨o, e, ex.1⟩, fun a e2 => ?_⟩
      cases e2
      exact ⟨o, e, ex.2.1⟩
  | _ => exact False.elim ty
noncomputable def tBM (K : PySem.W.Frag) (T : String) (r : V → List V → Hp → VK → Prop) (to : TE) (t : TA) : TE := fun σ H Q => to σ H fun x H1 => tyV K T x H1 ∧ t σ H1 fun xs H2 => r x xs H2 Q
variable {o e : Expr} {es : List Expr} {to : TE} {t : TA} {name : Str} {apos cpos : Pos} {T id : String} {r : V → List V → Hp → VK → Prop}
theorem pe_bm (pa : PlainAttrs T) (slot : Slot T name id) (hty : typeOf (.builtin id) = pure (.type "method_descriptor")) (hm : MtR X id r) (ho : PE X o to) (ha : PA X (e :: es) t)
    (hbase : attributeBase o name X.env (eval o X.env) = eval o X.env := by rfl)
    (hfew : ((backTo cpos (starEach (e :: es) X.env)).all (fun x => !x.1) && (backToKw cpos (keywordEach [] X.env)).all (fun x => x.1.isSome)
      && decide ((e :: es).length + ([] : List Keyword).length + (if ([] : List Keyword).isEmpty then 0 else 1) < 30)) = true := by rfl)
    (hline : (apos.endLine == cpos.line) = true := by rfl) (hs : starEach (e :: es) X.env = (false, eval e X.env) :: starEach es X.env := by rfl) (hplain : (backTo cpos (starEach es X.env)).any (·.1) = false := by rfl) :
    PE X (.Call (.Attribute o name apos) (e :: es) [] cpos) (tBM X.K T r to t) := by
  intro pins s σ H Q I h
  refine wpAny_Call_method_late hbase hfew hline rfl (thn (ho pins s σ H _ I h) fun v s1 ⟨x, H1, I1, r1, ty, q1⟩ => ?_)
  obtain ⟨h1, h2⟩ := tyV_is I1 r1 ty
  refine ⟨T, id, pa, slot, hty, h1, h2, ?_⟩
  have hA := ha cpos pins s1 σ H1 _ I1 q1
  rw [hs] at hA ⊢
  refine Calls.callWith_builtin (by show (false || (backTo cpos (starEach es X.env)).any (·.1)) = false; rw [hplain] <;> rfl) (Calls.evalArgs_plain ?_)
  exact thn hA fun us s2 ⟨vs, H2, I2, r2, q2⟩ => hm pins s2 σ H2 x vs v us Q I2 r1 r2 q2
end
end L2
namespace L2
open PySem PySem.Spec PyProof.Rows
noncomputable def MtM (X : Cx) (id : String) (r : V → List V → Hp → VK → Prop) : Prop :=
  ∀ (pins : List (Addr × Obj)) (s : Shared) (σ : St) (H : Hp) (x : V) (xs : List V) (v : Value) (us : List Value) (Q : VK), Inv X pins σ H s → RelV x v → Vals xs us → r x xs H Q →
    wpAny (model X.prog X.w) X.A (call (.builtin id) (v :: us)) (EP X pins σ Q) X.xe s
theorem Vals.one : ∀ {x : V} {us : List Value}, Vals [x] us → ∃ u, us = [u] ∧ RelV x u
  | _, _, .cons r .nil => ⟨_, rfl, r⟩
section
variable {X : Cx} {pins : List (Addr × Obj)} {σ : St} {H : Hp} {s : Shared} {l b : Addr} {xs ys zs : List V}
theorem Inv.lset {its its' : List Value} {n : Nat} {f : Array Value → Array Value} {t' : Nat} (I : Inv X pins σ H s) (hH : H l = some (.lst xs))
    (e : s.heap.get? l = some { cls := .type "list", data := .seq its.toArray n }) (hf : f its.toArray = its'.toArray) (hv : Vals ys its') (hz : ys.length ≤ sizeLine) :
    Inv X pins σ (upd H l (.lst ys)) { s with heap := s.heap.update l (Obj.mapSeq f), toks := t' } := by
  have q := PySem.IsL.update e f
  rw [hf] at q
  refine I.write (x := l) (e := l) (by rw [hH]; exact trivial) (.inl rfl) (fun b' u hb hu => (Heap.get?_update_other s.heap (Obj.mapSeq f) (Ne.symm hb)).trans hu) ⟨_, q⟩ ?_
  exact ⟨hz, its', _, hv, q⟩
theorem Inv.lnew {its : List Value} {t' : Nat} (I : Inv X pins σ H s) (hv : Vals ys its) (hz : ys.length ≤ sizeLine) :
    Inv X pins σ (upd H s.heap.objs.size (.lst ys)) { s with heap := s.heap.push { cls := .type "list", data := .seq its.toArray }, toks := t' } :=
  I.laid (fun _ _ q => Heap.get?_push_of_some _ q) (Nat.le_refl _) ⟨hz, its, 0, hv, Heap.get?_push_size _ rfl⟩
theorem Inv.fresh (I : Inv X pins σ H s) : H s.heap.objs.size = none := I.hok.fresh (Nat.le_refl _)
theorem Inv.lstM (I : Inv X pins σ H s) (hH : H l = some (.lst xs)) : xs.length ≤ sizeLine ∧ ∃ (its : List Value) (n : Nat), Vals xs its ∧ xs.length = its.length ∧ s.heap.get? l = some { cls := .type "list", data := .seq its.toArray n } := by
  obtain ⟨z, its, n, r, e⟩ := I.hok l _ hH
  exact ⟨z, its, n, r, r.length, e⟩
theorem notLongL {n : Nat} (h : n ≤ sizeLine) : Builtin.List.listTooLong n = false := by
  unfold Builtin.List.listTooLong
  exact decide_eq_false (by omega)
end
section
variable {X : Cx}
noncomputable def rAppend : V → List V → Hp → VK → Prop := fun x vs H Q => ∃ l xs y, x = .ref l ∧ vs = [y] ∧ H l = some (.lst xs) ∧ xs.length < sizeLine ∧ Q .non (upd H l (.lst (xs ++ [y])))
theorem mt_append : MtM X "list.append" rAppend := by
  intro pins s σ H x vs v us Q I rx rv h
  obtain ⟨l, xs, y, rfl, rfl, hH, hz, q⟩ := h
  cases rx
  obtain ⟨u, rfl, ru⟩ := rv.one
  obtain ⟨z, its, n, r, hl, e⟩ := I.lstM hH
  refine call_meets F.slot_list_append ⟨_, e, rfl⟩ F.entry_list_append (F.args_list_append_2 _ _) (PySem.list_append l its.toArray n u (by rw [List.size_toArray]; omega)) ⟨e, ?_⟩
  refine ⟨.non, _, I.lset (its' := its ++ [u]) hH e (by simp) (r.append (.cons ru .nil)) ?_, rfl, q⟩
  rw [List.length_append, List.length_singleton]
  omega
noncomputable def rExtend : V → List V → Hp → VK → Prop := fun x vs H Q => ∃ l b xs zs, x = .ref l ∧ vs = [.ref b] ∧ H l = some (.lst xs) ∧ H b = some (.lst zs) ∧ xs.length + zs.length ≤ sizeLine ∧ Q .non (upd H l (.lst (xs ++ zs)))
theorem mt_extend : MtM X "list.extend" rExtend := by
  intro pins s σ H x vs v us Q I rx rv h
  obtain ⟨l, b, xs, zs, rfl, rfl, hH, hB, hz, q⟩ := h
  cases rx
  obtain ⟨u, rfl, ru⟩ := rv.one
  cases ru
  obtain ⟨z, its, n, r, hl, e⟩ := I.lstM hH
  obtain ⟨z2, its2, n2, r2, hl2, e2⟩ := I.lstM hB
  have hsz : its.toArray.size + its2.toArray.size ≤ sizeLine := by rw [List.size_toArray, List.size_toArray]; omega
  have hlong : ¬ (!its.toArray.isEmpty && Builtin.List.listTooLong (its.toArray.size + its2.toArray.size)) = true := by
    rw [notLongL hsz, Bool.and_false]
    exact Bool.false_ne_true
  refine call_meets F.slot_list_extend ⟨_, e, rfl⟩ F.entry_list_extend (F.args_list_extend_2 _ _)
    (AutoSeq1.list_extend_list_list_0 l its.toArray n b its2.toArray n2 hlong (by rw [List.size_toArray]; omega) (by omega)) ⟨e, e2, ?_⟩
  refine ⟨.non, _, I.lset (its' := its ++ its2) hH e (by simp) (r.append r2) ?_, rfl, q⟩
  rw [List.length_append]
  omega
noncomputable def rCat : R2 := fun x y H Q => ∃ l b xs zs, x = .ref l ∧ y = .ref b ∧ H l = some (.lst xs) ∧ H b = some (.lst zs) ∧ xs.length + zs.length ≤ sizeLine ∧ ∀ p, H p = none → Q (.ref p) (upd H p (.lst (xs ++ zs)))
theorem op_cat : OpR X (binaryOp .Add) rCat := by
  intro pins s σ H x y v u Q I rx ry h
  obtain ⟨l, b, xs, zs, rfl, rfl, hH, hB, hz, q⟩ := h
  cases rx
  cases ry
  obtain ⟨z, its, n, r, hl, e⟩ := I.lstM hH
  obtain ⟨z2, its2, n2, r2, hl2, e2⟩ := I.lstM hB
  refine PySem.P.add_list e e2 ?_ (by rw [List.size_toArray, List.size_toArray]; omega)
  have ea : its.toArray ++ its2.toArray = (its ++ its2).toArray := by simp
  rw [ea]
  exact ⟨.ref _, _, I.lnew (t' := s.toks) (r.append r2) (by rw [List.length_append]; omega), rfl, q _ I.fresh⟩
end
section
variable {prog : Program} {w : World} {A : Around} {E : Value → Shared → Prop} {s : Shared}
end
section
variable {X : Cx}
end
end L2
namespace Att
open PySem PySem.W PySem.Calls PyProof.Rows
theorem ints_of_wellAll {P : Params} {h : Heap} : ∀ (ns : List Int) (vs : List Value), WellAll P h vs (ns.map WData.int) → IntsAre vs ns := by
  intro ns
  induction ns with
  | nil =>
    intro vs w
    rw [List.map_nil] at w
    cases w
    exact .nil
  | cons n ns ih =>
    intro vs w
    rw [List.map_cons] at w
    cases w with
    | cons a b =>
      cases a
      exact .cons _ _ (ih _ b)
theorem script_of {l : OpenLaw} {n : Nat} (hn : l.most = some n) {P : Params} {h : Heap} {args : List WData} {vals : List Value}
    (hpre : l.row.toRowW.claim.pre args = true) (hwl : WellAll P h vals args) :
    ∃ a vs ns, vals = [Value.ref a] ∧ args = [WData.list (ns.map WData.int)] ∧ h.get? a = some { cls := .type "list", data := .seq vs.toArray } ∧ IntsAre vs ns ∧ ns.length ≤ n := by
  have hsh : WShape.hasAll [] args [.list .int] = true := (pre_splitW hpre).1
  have hc : l.pre.holds [] { args := args } = true := (pre_splitW hpre).2
  obtain ⟨d, r, rfl, h1, h2⟩ := hasAllW_cons hsh
  obtain rfl := hasAllW_nil h2
  obtain ⟨xs, rfl, h3⟩ := hasW_list h1
  obtain ⟨ns, rfl⟩ := items_int h3
  have hlen : ns.length ≤ n := by
    unfold OpenLaw.pre at hc
    have h4 : (WTm.not (.lt (.lit (.int (n : Int))) (.len (.arg 0)))).holds [] { args := [.list (ns.map .int)] } = true := by
      have h4 := (holds_andW hc).1
      rw [hn] at h4
      exact h4
    have h5 := condW_of h4 (w_not (w_lt w_lit (w_len_list (w_arg rfl))))
    rw [List.length_map] at h5
    refine Nat.le_of_not_lt fun q => ?_
    have q' : (n : Int) < ((ns.length : Nat) : Int) := by omega
    first
      | (rw [decide_eq_true q'] at h5; exact absurd h5 (by decide))
      | (simp at h5; omega)
  cases hwl with
  | cons w1 w2 =>
    cases w2
    cases w1 with
    | list ho hall => exact ⟨_, _, ns, rfl, rfl, ho, ints_of_wellAll ns _ hall, hlen⟩
theorem post_true (l : OpenLaw) (args : List WData) : l.row.toRowW.claim.post args (.bool true) args = true :=
  postW_of (r := l.row.toRowW) (X := (true == true))
    (show WShape.has [] (.bool true) .bool = true by first | rfl | decide | simp [WShape.has, WShape.arms, WShape.armsAll])
    (show (WTm.eq .res (.lit (.bool true))).value [] { args := args, res := some (.bool true), after := args } = some (.bool (true == true)) from w_eq_bool (w_res rfl) w_lit) rfl
section
variable {prog : Program} {w : World} {A : Around} {E : Value → Shared → Prop} {s : Shared} {K : Frag}
end
end Att
namespace L2
open PySem PySem.Spec PyProof.Rows
theorem vals_ints : ∀ {vs : List Value} {ns : List Int}, IntsAre vs ns → Vals (ns.map V.int) vs
  | _, _, .nil => .nil
  | _, _, .cons n t h => .cons ⟨t, rfl⟩ (vals_ints h)
noncomputable def Only (H : Hp) : Prop := ∀ b, H b = none ∨ ∃ o xs, H b = some (.frz o (.lst xs))
theorem law_call {P : Program} {w : World} {K : PySem.W.Frag} {mg mb : Str → Option Value} {CX : CXT} {k : Nat} {fa a : Addr} {fd : FuncData} {x : Str} {sp : Sp} {s₁ : Shared} {vs : List Value} {ns : List Int}
    (KX : K.In s₁.heap) (hns : s₁.heap.Ns mainGlobals mg) (hb : s₁.heap.Ns builtinsNs mb) (hbb : ∀ x : Str, x ≠ "__name__" → mb x = bootBuiltins x) (hlim : s₁.heap.NoLimit) (hg : s₁.gens = #[])
    (ha : s₁.heap.get? a = some { cls := .type "list", data := .seq vs.toArray }) (hi : IntsAre vs ns) (hl : ns.length ≤ sizeLine) (hr : Room k callerA)
    (F : ∀ base : Heap, K.In base → base.Ns mainGlobals mg → FnOk P w K mg base CX k fa fd [x] sp) (hbind : ∀ (s : Shared) (u : Value), BindsTo s fd ⟨[u], []⟩ [(x, u)])
    (hsp : ∀ H : Hp, Only H → SqL K H a (ns.map V.int) → sp [.ref a] H (fun v _ => v = .bl true) fun _ _ _ => False)
    (hCX : ∀ H e s', CX [] H s₁ (fun _ _ _ => False) e s' → False) :
    codeAny (model P w) callerA (.call (.ref fa) ⟨[.ref a], []⟩) (fun r s' => r = .ok (.ret (.bool true)) ∧ OldK s₁.heap s'.heap ∧ s'.os = s₁.os ∧ AllBare s'.gens) s₁ := by
  have rv := vals_ints hi
  have lenV := hi.length
  have core : ∀ H : Hp, Only H → SqL K H a (ns.map V.int) → HOk P w H s₁.heap → (∀ b, H b ≠ none → b = a) → (H a ≠ none → K.lookup a = none) →
      codeAny (model P w) callerA (.call (.ref fa) ⟨[.ref a], []⟩) (fun r s' => r = .ok (.ret (.bool true)) ∧ OldK s₁.heap s'.heap ∧ s'.os = s₁.os ∧ AllBare s'.gens) s₁ := by
    intro H hO hS hok hA hK
    have base_of : ∀ {b : Addr} {o : Obj}, s₁.heap.get? b = some o → H b = none → (hidT s₁.heap H).get? b = some o := fun e n => hidT_get e n
    have noA : ∀ {b : Addr} {o : Obj} {es : Array DictEntry} {ep : Nat}, s₁.heap.get? b = some o → o.data = .dict es ep → H b = none := fun {b o es ep} e d => by
      cases q : H b with
      | none => rfl
      | some u =>
        have e' : b = a := hA b (by rw [q]; simp)
        subst e'
        rw [ha] at e; cases e
        have d' : Data.seq vs.toArray _ = Data.dict es ep := d
        cases d'
    have nsK : ∀ {b : Addr} {m : Str → Option Value}, s₁.heap.Ns b m → (hidT s₁.heap H).Ns b m := fun {b m} ⟨o, es, ep, e, d, r⟩ => ⟨o, es, ep, base_of e (noA e d), d, r⟩
    have hKb : K.In (hidT s₁.heap H) := fun b o e => base_of (KX b o e) (by
      cases q : H b with
      | none => rfl
      | some u =>
        have e' : b = a := hA b (by rw [q]; simp)
        subst e'
        rw [hK (by rw [q]; simp)] at e; cases e)
    have hM : Mod K mg (hidT s₁.heap H) := ⟨hKb, nsK hns, ⟨mb, nsK hb, hbb⟩, let ⟨mc, h1, h2⟩ := hlim; ⟨mc, nsK h1, h2⟩⟩
    have e0 : Env0 P w K mg (hidT s₁.heap H) callerA [] s₁ H := ⟨rfl, hM, fun b o e => of_hidT e, Nat.le_of_eq (hidT_size _ _), trivial, fun b hb => absurd (show b ∈ ([] : List Addr) from hb) (by simp), hok, .of_eq hg⟩
    refine codeAny_mono ((F _ hKb (nsK hns)).run callerA [] s₁ H ⟨[.ref a], []⟩ [.ref a] [.ref a] _ _ hr e0 (hbind s₁ (.ref a)) (.cons rfl .nil) (hsp H hO hS)) fun r s' h => ?_
    cases r with
    | error e => exact (hCX H e s' h).elim
    | ok fl =>
      cases fl with
      | next => exact False.elim h
      | brk => exact False.elim h
      | cont => exact False.elim h
      | ret u =>
        obtain ⟨v, H', os, bare, un, hok', r', q⟩ := h
        have q' : v = .bl true := q
        subst q'
        obtain rfl : u = Value.bool true := r'
        refine ⟨rfl, OldK.of_keep fun b o e => ?_, os, bare⟩
        cases q : H b with
        | none => exact un.keep b o e q (by intro z; exact absurd (show b ∈ ([] : List Addr) from z) (by simp)) (by simp)
        | some u =>
          rcases hO b with z | ⟨ob, xs, z⟩
          · rw [q] at z; cases z
          · have z2 := un.frzs b ob _ z
            obtain ⟨e1, _⟩ := hok b _ z
            obtain ⟨e2, _⟩ := hok' b _ z2
            rw [e] at e1; cases e1
            exact e2
  cases hk : K.lookup a with
  | some o =>
    have e := KX a o hk
    rw [ha] at e
    cases e
    refine core (fun _ => none) (fun _ => .inl rfl) (.inr ⟨_, vs.toArray, _, hk, rfl, rfl, rfl, by rw [List.size_toArray, lenV]; exact hl, by simpa using rv⟩) (fun b u z => by have z' : (none : Option HO) = some u := z; cases z') (fun b z => absurd rfl z) fun z => absurd rfl z
  | none =>
    refine core (fun b => if b = a then some (.frz { cls := .type "list", data := .seq vs.toArray } (.lst (ns.map V.int))) else none) (fun b => ?_) (.inl (.inr ⟨{ cls := .type "list", data := .seq vs.toArray }, if_pos rfl⟩)) (fun b u z => ?_) (fun b z => ?_) fun _ => hk
    · by_cases hb : b = a
      · exact .inr ⟨_, _, if_pos hb⟩
      · exact .inl (if_neg hb)
    · by_cases hb : b = a
      · have z' := (if_pos hb).symm.trans z
        cases z'
        subst hb
        exact ⟨ha, by rw [List.length_map]; exact hl, vs, _, rv, ha⟩
      · have z' := (if_neg hb).symm.trans z
        cases z'
    · by_cases hb : b = a
      · exact hb
      · exact absurd (if_neg hb) z
end L2
namespace L2
open PySem PySem.Spec PyProof.Rows
end L2
namespace L2
open PySem PySem.Spec PyProof.Rows
noncomputable def defArgs (s : Stmt) : Arguments := match s with
  | .FunctionDef _ a _ _ _ _ _ _ _ _ => a
  | _ => { posonlyargs := [], args := [], vararg := none, kwonlyargs := [], kw_defaults := [], kwarg := none, defaults := [] }
noncomputable def defBody (s : Stmt) : List Stmt := match s with
  | .FunctionDef _ _ b _ _ _ _ _ _ _ => b
  | _ => []
noncomputable def defScope (s : Stmt) : Scope := match s with
  | .FunctionDef _ _ _ _ _ _ sc _ _ _ => sc
  | _ => { kind := .function, names := [], isGenerator := false, isCoroutine := false }
noncomputable abbrev CX0 : CXT := fun _ _ _ _ _ _ => False
noncomputable abbrev E0 : XK := fun _ _ _ => False
theorem pass0 {X : Cx} : Passes CX0 X E0 := fun _ _ _ _ _ _ _ h => h.elim
structure Fun (K : PySem.W.Frag) (x qual : Str) (st : Stmt) (f : Addr) (fd : FuncData) : Prop where
  ex : ∃ (oc : Value) (od : Option Addr) (dV kV doc pm : Value) (an : Option Addr) (cdv ct : Value) (osl : Array (Option Value)),
    fd = PySem.W.fnOf x qual (defArgs st) (defBody st) (defScope st) dV kV doc pm an cdv ct ∧ K.lookup f = some ⟨oc, od, .func fd, osl⟩ ∧ PySem.W.codeIn K cdv qual = true
  kp : PySem.W.keepIn K (.ref f) = true
section
variable {P : Program} {w : World} {K : PySem.W.Frag} {mg : Str → Option Value} {base : Heap}
theorem Fun.ok {x qual : Str} {st : Stmt} {f : Addr} {fd : FuncData} {N ps : List Str} {k : Nat} {sp : Sp} (F : Fun K x qual st f fd) (S : FnScope N ps (defScope st)) (len : ∀ vs H Q E, sp vs H Q E → vs.length = ps.length)
    (hbody : ∀ (cdv : Value) (A : Around) (outer : List Env) (s : Shared) (H : Hp) (vs : List V) (Q : VK) (E : XK), Room k (A.deeper (envOfC qual (defScope st) s.heap.objs.size f cdv)) → sp vs H Q E →
      ∃ t, PSs (cxOf CX0 P w K mg base N qual (defScope st) f cdv A outer s H E).nox (defBody st) t ∧ t { nx := fun _ H' => Q .non H', rt := Q } (start N vs) H) : FnOk P w K mg base CX0 (k + 1) f fd ps sp := by
  obtain ⟨oc, od, dV, kV, doc, pm, an, cdv, ct, osl, rfl, lk, hcd⟩ := F.ex
  refine fn_of lk hcd S len fun A outer s H vs Q E hr hsp => ?_
  obtain ⟨t, h, q⟩ := hbody cdv A outer s H vs Q E hr hsp
  exact ⟨t, h.nox, q⟩
theorem fun_mk {x qual : Str} {st : Stmt} {f : Addr} {oc : Value} {od an : Option Addr} {osl : Array (Option Value)} {dV kV doc pm cdv ct : Value} (l : K.lookup f = some ⟨oc, od, .func (PySem.W.fnOf x qual (defArgs st) (defBody st) (defScope st) dV kV doc pm an cdv ct), osl⟩)
    (c : PySem.W.codeIn K cdv qual = true) (k : PySem.W.keepIn K (.ref f) = true) : Fun K x qual st f (PySem.W.fnOf x qual (defArgs st) (defBody st) (defScope st) dV kV doc pm an cdv ct) := ⟨⟨oc, od, dV, kV, doc, pm, an, cdv, ct, osl, rfl, l, c⟩, k⟩
end
section
variable {X : Cx}
end
theorem iteF {A B : Prop} (h : B) : if false = true then A else B := by
  rw [if_neg Bool.false_ne_true]
  exact h
theorem iteT {A B : Prop} (h : A) : if true = true then A else B := by
  rw [if_pos rfl]
  exact h
noncomputable def Same (H H' : Hp) : Prop := ∀ b o, H b = some o → H' b = some o
theorem Same.trans {H H1 H2 : Hp} (a : Same H H1) (b : Same H1 H2) : Same H H2 := fun c o h => b c o (a c o h)
theorem Same.seq {K : PySem.W.Frag} {H H' : Hp} {a : Addr} {xs : List V} (e : Same H H') (h : SqL K H a xs) : SqL K H' a xs := by
  rcases h with (h | ⟨o, h⟩) | h
  · exact .inl (.inl (e _ _ h))
  · exact .inl (.inr ⟨o, e _ _ h⟩)
  · exact .inr h
end L2
namespace L2
open PySem PySem.Spec PyProof.Rows
theorem relabel_lookup {env : Env} : ∀ {names : List (Str × NameKind)} {x : Str},
    (names.map fun (n, k) => if (k == NameKind.free && env.scope.kind == .function && env.kindOf n == some .cell) then (n, NameKind.cell) else (n, k)).lookup x
      = (names.lookup x).map fun k => if (k == NameKind.free && env.scope.kind == .function && env.kindOf x == some .cell) then NameKind.cell else k
  | [], _ => rfl
  | (n, k) :: r, x => by
    have ih := @relabel_lookup env r x
    show List.lookup x ((if (k == NameKind.free && env.scope.kind == .function && env.kindOf n == some .cell) = true then (n, NameKind.cell) else (n, k)) :: _) = _
    cases hx : x == n with
    | true =>
      have e : x = n := beq_iff_eq.mp hx
      subst e
      by_cases hc : (k == NameKind.free && env.scope.kind == .function && env.kindOf x == some .cell) = true
      · rw [if_pos hc]; simp only [List.lookup_cons, hx, Option.map_some]; rw [if_pos hc]
      · rw [if_neg hc]; simp only [List.lookup_cons, hx, Option.map_some]; rw [if_neg hc]
    | false =>
      by_cases hc : (k == NameKind.free && env.scope.kind == .function && env.kindOf n == some .cell) = true
      · rw [if_pos hc]; simp only [List.lookup_cons, hx]; exact ih
      · rw [if_neg hc]; simp only [List.lookup_cons, hx]; exact ih
theorem relabel_free {scope : Scope} {env : Env} {x : Str} (h : scope.names.lookup x = some .free) : (relabel scope env).names.lookup x = some .cell ∨ (relabel scope env).names.lookup x = some .free := by
  have e : (relabel scope env).names.lookup x = _ := relabel_lookup (env := env) (names := scope.names) (x := x)
  rw [e, h, Option.map_some]
  split
  · exact .inl rfl
  · exact .inr rfl
theorem relabel_back {scope : Scope} {env : Env} {x : Str} (h : (relabel scope env).names.lookup x = some .cell ∨ (relabel scope env).names.lookup x = some .free) : scope.names.lookup x = some .cell ∨ scope.names.lookup x = some .free := by
  have e : (relabel scope env).names.lookup x = _ := relabel_lookup (env := env) (names := scope.names) (x := x)
  rw [e] at h
  cases q : scope.names.lookup x with
  | none => rw [q] at h; simp at h
  | some k =>
    rw [q, Option.map_some] at h
    by_cases hc : (k == NameKind.free && env.scope.kind == .function && env.kindOf x == some .cell) = true
    · have : (k == NameKind.free) = true := by
        rw [Bool.and_eq_true, Bool.and_eq_true] at hc; exact hc.1.1
      have : k = .free := by simpa using this
      subst this; exact .inr rfl
    · rw [if_neg hc] at h
      rcases h with h | h
      · exact .inl h
      · exact .inr h
noncomputable def closL (cells : List (Str × Addr)) : List (Str × NameKind) → List (Str × Addr) → List (Str × Addr)
  | [], acc => acc
  | (n, k) :: r, acc => if k == .free then closL cells r ((n, (cells.lookup n).getD 0) :: acc) else closL cells r acc
theorem closureFor_eq {scope : Scope} {env : Env} (h : ∀ n, (n, NameKind.free) ∈ scope.names → (env.cells.lookup n).isSome = true) : closureFor scope env = pure (closL env.cells scope.names []) := by
  have all : ∀ (names : List (Str × NameKind)) (acc : List (Str × Addr)), (∀ n, (n, NameKind.free) ∈ names → (env.cells.lookup n).isSome = true) →
      (forIn names acc fun x cs => (if x.2 == NameKind.free then do let c ← cellOf env x.1; pure (ForInStep.yield ((x.1, c) :: cs)) else pure (ForInStep.yield cs) : Sem (ForInStep (List (Str × Addr))))) = pure (closL env.cells names acc) := by
    intro names
    induction names with
    | nil => intro acc _; rfl
    | cons p r ih =>
      intro acc hp
      obtain ⟨n, k⟩ := p
      rw [List.forIn_cons]
      by_cases hk : (k == NameKind.free) = true
      · have ek : k = .free := by simpa using hk
        obtain ⟨c, hc⟩ := Option.isSome_iff_exists.mp (hp n (by rw [ek]; exact List.mem_cons_self))
        have e1 : cellOf env n = pure c := by unfold cellOf; rw [hc]
        dsimp only
        rw [if_pos hk, e1]
        have e2 : closL env.cells ((n, k) :: r) acc = closL env.cells r ((n, c) :: acc) := by
          show (if k == .free then _ else _) = _
          rw [if_pos hk, hc]; rfl
        rw [e2, ← ih ((n, c) :: acc) fun m hm => hp m (List.mem_cons_of_mem _ hm)]
        rfl
      · dsimp only
        rw [if_neg hk]
        have e2 : closL env.cells ((n, k) :: r) acc = closL env.cells r acc := by
          show (if k == .free then _ else _) = _
          rw [if_neg hk]
        rw [e2, ← ih acc fun m hm => hp m (List.mem_cons_of_mem _ hm)]
        rfl
  have q := all scope.names [] h
  unfold closureFor
  show ((forIn scope.names [] fun x cs => (if x.2 == NameKind.free then do let c ← cellOf env x.1; pure (ForInStep.yield ((x.1, c) :: cs)) else pure (ForInStep.yield cs) : Sem (ForInStep (List (Str × Addr))))) >>= fun cs => pure cs) = _
  rw [q]
  rfl
theorem closL_mem {cells : List (Str × Addr)} : ∀ {names : List (Str × NameKind)} {acc : List (Str × Addr)} {n : Str} {c : Addr}, (n, c) ∈ closL cells names acc → (n, c) ∈ acc ∨ ((n, NameKind.free) ∈ names ∧ (cells.lookup n).getD 0 = c)
  | [], _, _, _, h => .inl h
  | (m, k) :: r, acc, n, c, h => by
    have h : (n, c) ∈ (if k == .free then closL cells r ((m, (cells.lookup m).getD 0) :: acc) else closL cells r acc) := h
    by_cases hk : (k == NameKind.free) = true
    · rw [if_pos hk] at h
      have ek : k = .free := by simpa using hk
      rcases closL_mem h with q | ⟨q1, q2⟩
      · rcases List.mem_cons.mp q with q | q
        · cases q
          exact .inr ⟨by rw [ek]; exact List.mem_cons_self, rfl⟩
        · exact .inl q
      · exact .inr ⟨List.mem_cons_of_mem _ q1, q2⟩
    · rw [if_neg hk] at h
      rcases closL_mem h with q | ⟨q1, q2⟩
      · exact .inl q
      · exact .inr ⟨List.mem_cons_of_mem _ q1, q2⟩
theorem closL_has {cells : List (Str × Addr)} : ∀ {names : List (Str × NameKind)} {acc : List (Str × Addr)} {n : Str}, ((n, NameKind.free) ∈ names ∨ ∃ c, (n, c) ∈ acc) → ∃ c, (n, c) ∈ closL cells names acc
  | [], _, _, h => h.elim (fun z => nomatch z) id
  | (m, k) :: r, acc, n, h => by
    show ∃ c, (n, c) ∈ (if k == .free then closL cells r ((m, (cells.lookup m).getD 0) :: acc) else closL cells r acc)
    by_cases hk : (k == NameKind.free) = true
    · rw [if_pos hk]
      refine closL_has ?_
      rcases h with h | ⟨c, h⟩
      · rcases List.mem_cons.mp h with h | h
        · cases h; exact .inr ⟨_, List.mem_cons_self⟩
        · exact .inl h
      · exact .inr ⟨c, List.mem_cons_of_mem _ h⟩
    · rw [if_neg hk]
      refine closL_has ?_
      rcases h with h | ⟨c, h⟩
      · rcases List.mem_cons.mp h with h | h
        · cases h; exact absurd rfl hk
        · exact .inl h
      · exact .inr ⟨c, h⟩
theorem lookup_of_mem_all {α : Type} {n : Str} {c : α} : ∀ {l : List (Str × α)}, (n, c) ∈ l → (∀ d, (n, d) ∈ l → d = c) → l.lookup n = some c
  | [], h, _ => nomatch h
  | (m, d) :: r, h, all => by
    rw [List.lookup_cons]
    cases hb : n == m with
    | true =>
      have e : n = m := beq_iff_eq.mp hb
      subst e
      rw [all d List.mem_cons_self]
    | false =>
      rcases List.mem_cons.mp h with q | q
      · cases q; simp at hb
      · exact lookup_of_mem_all q fun d' hd => all d' (List.mem_cons_of_mem _ hd)
theorem cellsFrom_app : ∀ (names : List (Str × NameKind)) (n : Nat) (acc : List (Str × Addr)), cellsFrom n names acc = cellsFrom n names [] ++ acc
  | [], _, _ => rfl
  | (x, k) :: r, n, acc => by
    unfold cellsFrom
    split
    · rw [cellsFrom_app r (n + 1) ((x, n) :: acc), cellsFrom_app r (n + 1) [(x, n)], List.append_assoc]; rfl
    · exact cellsFrom_app r n acc
theorem cellsFrom_kind : ∀ {names : List (Str × NameKind)} {n : Nat} {x : Str} {c : Addr}, (x, c) ∈ cellsFrom n names [] → (x, NameKind.cell) ∈ names
  | [], _, _, _, h => nomatch h
  | (y, k) :: r, n, x, c, h => by
    unfold cellsFrom at h
    split at h
    · rename_i hk
      have ek : k = .cell := by simpa using hk
      rw [cellsFrom_app] at h
      rcases List.mem_append.mp h with q | q
      · exact List.mem_cons_of_mem _ (cellsFrom_kind q)
      · cases List.mem_singleton.mp q
        rw [ek]; exact List.mem_cons_self
    · exact List.mem_cons_of_mem _ (cellsFrom_kind h)
theorem lookup_nodup {α : Type} {n : Str} {c d : α} : ∀ {l : List (Str × α)}, (l.map (·.1)).Nodup → l.lookup n = some c → (n, d) ∈ l → d = c
  | [], _, _, h => nomatch h
  | (m, e) :: r, hn, hl, hm => by
    have hn : (m :: r.map (·.1)).Nodup := hn
    obtain ⟨h1, h2⟩ := List.nodup_cons.mp hn
    rw [List.lookup_cons] at hl
    cases hb : n == m with
    | true =>
      rw [hb] at hl
      have e1 : n = m := beq_iff_eq.mp hb
      subst e1
      rcases List.mem_cons.mp hm with q | q
      · cases q; cases hl; rfl
      · exact absurd (List.mem_map.mpr ⟨(n, d), q, rfl⟩) h1
    | false =>
      rw [hb] at hl
      rcases List.mem_cons.mp hm with q | q
      · cases q; simp at hb
      · exact lookup_nodup h2 hl q
noncomputable def cxComp (X : Cx) (N' : List Str) (scope : Scope) (s : Shared) (H : Hp) (fp : List Addr) : Cx :=
  { X with N := N', s₀ := s, H₀ := H, env := compEnvC scope (cellsFrom (s.heap.objs.size + 1) scope.names (closL X.env.cells scope.names [])) s.heap.objs.size X.env, outer := X.stack, ex := fp, fn := fun x => scope.names.lookup x == some .cell, pn := [], xe := fun _ _ => False }
noncomputable def compSt (js : List (Option Nat)) (σ : St) : St := js.map fun j => match j with
  | some j => (σ[j]?).getD none
  | none => none
noncomputable def frB (X : Cx) (scope : Scope) : Bool := scope.names.all fun p => p.2 != .free || X.env.kindOf p.1 == some .cell || X.env.kindOf p.1 == some .free
noncomputable def atB (X : Cx) (N' : List Str) (js : List (Option Nat)) (scope : Scope) : Bool := (js.zip N').all fun p => match p.1 with
  | none => true
  | some j => X.N[j]? == some p.2 && scope.names.lookup p.2 == some .free
structure CompOk (X : Cx) (N' : List Str) (js : List (Option Nat)) (scope : Scope) : Prop where
  kind : scope.kind = .function
  nd : (scope.names.map (·.1)).Nodup
  frb : frB X scope = true
  len : js.length = N'.length
  atb : atB X N' js scope = true
theorem CompOk.fr {X : Cx} {N' : List Str} {js : List (Option Nat)} {scope : Scope} (C : CompOk X N' js scope) : ∀ n, (n, NameKind.free) ∈ scope.names → X.env.kindOf n = some .cell ∨ X.env.kindOf n = some .free := fun n hn => by
  have h := List.all_eq_true.mp C.frb (n, .free) hn
  simp only [Bool.or_eq_true, bne_iff_ne, ne_eq, not_true_eq_false, false_or, beq_iff_eq] at h
  exact h
theorem CompOk.at_ {X : Cx} {N' : List Str} {js : List (Option Nat)} {scope : Scope} (C : CompOk X N' js scope) : ∀ (i j : Nat), js[i]? = some (some j) → ∃ x, N'[i]? = some x ∧ X.N[j]? = some x ∧ scope.names.lookup x = some .free := fun i j hj => by
  have hi : i < js.length := (List.getElem?_eq_some_iff.mp hj).1
  have hi' : i < N'.length := by rw [← C.len]; exact hi
  have hz : (js.zip N')[i]? = some (some j, N'[i]) := by
    rw [List.getElem?_zip_eq_some]
    exact ⟨hj, by simp [hi']⟩
  have h := List.all_eq_true.mp C.atb _ (List.mem_of_getElem? hz)
  simp only [Bool.and_eq_true, beq_iff_eq] at h
  exact ⟨N'[i], by simp [hi'], h.1, h.2⟩
section
variable {X : Cx} {pins : List (Addr × Obj)} {σ : St} {H : Hp} {s : Shared} {N' : List Str} {js : List (Option Nat)} {scope : Scope} {fp : List Addr}
theorem comp_start (I : Inv X pins σ H s) (C : CompOk X N' js scope) (hf : ∀ b ∈ fp, FpOk X pins H b) (ho : ∀ b ∈ fp, ∃ o, s.heap.get? b = some o) :
    Inv (cxComp X N' scope s H fp) [] (compSt js σ) H { s with heap := pushCells (s.heap.push { cls := .type "dict", data := .dict #[] }) scope.names } := by
  have keep : ∀ b o, s.heap.get? b = some o → (pushCells (s.heap.push { cls := .type "dict", data := .dict #[] }) scope.names).get? b = some o := fun b o e => pushCells_keeps _ _ b o (Heap.get?_push_of_some _ e)
  have new := cellsFrom_ok scope.names (s.heap.push { cls := .type "dict", data := .dict #[] }) (s.heap.objs.size + 1) [] ⟨fun _ _ hm => (nomatch hm), List.Pairwise.nil⟩ (by rw [Heap.size_push]; exact Nat.le_refl _)
  rw [Heap.size_push] at new
  have old : ∀ n c, (n, c) ∈ closL X.env.cells scope.names [] → X.env.cells.lookup n = some c := fun n c h => by
    rcases closL_mem h with q | ⟨q1, q2⟩
    · exact nomatch q
    · obtain ⟨d, hd⟩ := I.ok.has n (C.fr n q1)
      rw [hd] at q2
      rw [hd]; exact congrArg some q2
  have oldlt : ∀ n c, X.env.cells.lookup n = some c → c < s.heap.objs.size := fun n c h => by
    obtain ⟨v, q⟩ := I.cell n c h
    exact q.lt
  have mem : ∀ n c, (cxComp X N' scope s H fp).env.cells.lookup n = some c → (n, c) ∈ cellsFrom (s.heap.objs.size + 1) scope.names [] ∨ X.env.cells.lookup n = some c := fun n c h => by
    have h : (cellsFrom (s.heap.objs.size + 1) scope.names (closL X.env.cells scope.names [])).lookup n = some c := h
    rw [cellsFrom_app] at h
    rcases List.mem_append.mp (PySem.mem_of_lookup h) with q | q
    · exact .inl q
    · exact .inr (old n c q)
  have lt : ∀ b ∈ fp, b < s.heap.objs.size := fun b hb => let ⟨_, e⟩ := ho b hb; Heap.lt_size e
  have fre : ∀ x c, scope.names.lookup x = some .free → X.env.cells.lookup x = some c → (cxComp X N' scope s H fp).env.cells.lookup x = some c := fun x c hx hc => by
    show (cellsFrom (s.heap.objs.size + 1) scope.names (closL X.env.cells scope.names [])).lookup x = some c
    have hm := PySem.mem_of_lookup hx
    obtain ⟨d, hd⟩ := closL_has (cells := X.env.cells) (acc := []) (.inl hm)
    have ed : ∀ d', (x, d') ∈ closL X.env.cells scope.names [] → d' = c := fun d' h' => Option.some.inj ((old x d' h').symm.trans hc)
    refine lookup_of_mem_all ?_ fun d' h' => ?_
    · rw [cellsFrom_app, ← ed d hd]; exact List.mem_append_right _ hd
    · rw [cellsFrom_app] at h'
      rcases List.mem_append.mp h' with q | q
      · exact absurd (lookup_nodup C.nd hx (cellsFrom_kind q)) (by decide)
      · exact ed d' q
  refine ⟨⟨I.ok.mod, C.kind, I.ok.glob, I.ok.blt, Nat.le_refl _, fun x y c h1 h2 => ?_, fun x hx => ?_, fun x c hx h => ?_, I.ok.hd, I.ok.frames, .inl rfl, fun b hb => ⟨Nat.ne_of_lt (lt b hb), fun x c h z => ?_⟩, fun b o e => I.bs b o e, Nat.le_trans I.ok.bsz I.sz, fun b o e hb => ?_, fun b hb z => ?_, I.stack, I.stkFree⟩,
    rfl, I.bare, Un.kept keep, ⟨_, (Heap.Ns.new s.heap (.type "dict")).keeps (pushCells_keeps _ _), fun i x v h1 h2 h3 => ?_⟩, fun x c h => ?_, I.hok.fresh (Nat.le_refl _), fun x c h => ?_, fun p hp => absurd (show p ∈ ([] : List (Addr × Obj)) from hp) (by simp), I.hok.kept keep, ?_⟩
  · rcases mem x c h1 with p1 | p1 <;> rcases mem y c h2 with p2 | p2
    · exact name_of_addr new.apart p1 p2
    · exact absurd (Nat.lt_of_lt_of_le (oldlt y c p2) (Nat.le_trans (Nat.le_succ _) (new.empty x c p1).2)) (Nat.lt_irrefl _)
    · exact absurd (Nat.lt_of_lt_of_le (oldlt x c p1) (Nat.le_trans (Nat.le_succ _) (new.empty y c p2).2)) (Nat.lt_irrefl _)
    · exact I.ok.inj x y c p1 p2
  · rcases relabel_back (scope := scope) (env := X.env) hx with q | q
    · exact Option.isSome_iff_exists.mp (PySem.W.cellsFrom_some scope.names _ _ (.inl q))
    · obtain ⟨c, hc⟩ := I.ok.has x (C.fr x (PySem.mem_of_lookup q))
      exact ⟨c, fre x c q hc⟩
  · have hx : scope.names.lookup x = some .cell := by simpa [cxComp] using hx
    rcases mem x c h with q | q
    · exact Nat.le_trans (Nat.le_succ _) (new.empty x c q).2
    ·
      have e : (cellsFrom (s.heap.objs.size + 1) scope.names (closL X.env.cells scope.names [])).lookup x = some c := h
      rw [cellsFrom_app, List.lookup_append] at e
      obtain ⟨d, hd⟩ := Option.isSome_iff_exists.mp (PySem.W.cellsFrom_some scope.names (s.heap.objs.size + 1) [] (.inl hx))
      rw [hd] at e
      cases e
      exact Nat.le_trans (Nat.le_succ _) (new.empty x _ (PySem.mem_of_lookup hd)).2
  · rcases mem x c h with q | q
    · have := (new.empty x c q).2
      rw [z] at this
      exact absurd (Nat.lt_of_lt_of_le (lt b hb) (Nat.le_trans (Nat.le_succ _) this)) (Nat.lt_irrefl _)
    · exact (hf b hb).2.2.2.2.1 x c q z
  · obtain ⟨_, _, _, h1, _⟩ := hf b hb
    rcases h1 with h1 | h1
    · exact I.ok.noex b o e h1
    · exact absurd (Nat.lt_of_lt_of_le (Heap.lt_size (I.ok.bs b o e).1) h1) (Nat.lt_irrefl _)
  · obtain ⟨_, h1, h2, _⟩ := hf b hb
    exact (List.mem_cons.mp (I.stkSub b z)).elim h1 h2
  ·
    obtain ⟨j, hj, hv⟩ : ∃ j, js[i]? = some (some j) ∧ (σ[j]?).getD none = some v := by
      have h2 : (js.map fun j => match j with | some j => (σ[j]?).getD none | none => none)[i]? = some (some v) := h2
      rw [List.getElem?_map] at h2
      cases e : js[i]? with
      | none => rw [e] at h2; cases h2
      | some o =>
        rw [e] at h2
        cases o with
        | none => cases h2
        | some j => exact ⟨j, rfl, Option.some.inj h2⟩
    obtain ⟨y, e1, e2, e3⟩ := C.at_ i j hj
    have exy : y = x := Option.some.inj (e1.symm.trans (show N'[i]? = some x from h1))
    rw [exy] at e2 e3
    have hs : σ[j]? = some (some v) := by
      cases e : σ[j]? with
      | none => rw [e] at hv; cases hv
      | some o => rw [e] at hv; exact congrArg some hv
    have kx := C.fr x (PySem.mem_of_lookup e3)
    obtain ⟨m, hn, hl⟩ := I.loc
    obtain ⟨u, r, l⟩ := hl j x v e2 hs (kx.elim (fun z => .inr (.inl z)) fun z => .inr (.inr z))
    refine ⟨u, r, .inr ⟨relabel_free e3, ?_⟩⟩
    rcases l with ⟨k, _⟩ | ⟨_, c, hc, hcell⟩
    · rcases kx with z | z
      · rw [z] at k; cases k
      · rw [z] at k; cases k
    · exact ⟨c, fre x c e3 hc, hcell.keeps keep⟩
  · rcases mem x c h with q | q
    · exact ⟨none, (new.empty x c q).1⟩
    · obtain ⟨v, z⟩ := I.cell x c q
      exact ⟨v, z.keeps keep⟩
  · rcases mem x c h with q | q
    · exact I.hok.fresh (Nat.le_trans (Nat.le_succ _) (new.empty x c q).2)
    · exact I.freeC x c q
  · show (compSt js σ).length = N'.length
    unfold compSt
    rw [List.length_map, C.len]
theorem comp_env {M : Model} {A : Around} {E : Value → Shared → Prop} {env : Env} {cl : List (Str × Addr)} {Q : Env → Shared → Prop}
    (h : Q (newEnv scope s.heap.objs.size env.globals (cellsFrom (s.heap.objs.size + 1) scope.names cl) env.qual none .none (some env) builtinsNs) { s with heap := pushCells (s.heap.push { cls := .type "dict", data := .dict #[] }) scope.names }) :
    wpAny M A (newFunctionEnv scope env.globals cl [] env.qual none .none (some env)) Q E s := by
  simp only [newFunctionEnv, Option.isSome_some, if_true]
  refine wpAny_bind (wpAny_alloc ?_)
  refine wpAny_bind (wpAny_layCells _ (fun name kind cells => by cases hkc : kind == NameKind.cell <;> simp [hkc]) _ _ _ _ ?_)
  rw [show ({ s with heap := s.heap.push { cls := .type "dict", data := .dict #[] } } : Shared).heap.objs.size = s.heap.objs.size + 1 from Heap.size_push ..]
  simp only [List.forIn_nil]
  exact wpAny_bind (wpAny_pure (wpAny_pure h))
noncomputable def PF (X : Cx) (ifs : List Expr) (t : TT) : Prop :=
  ∀ (pins : List (Addr × Obj)) (s : Shared) (σ : St) (H : Hp) (Q : Bool → Hp → Prop), Inv X pins σ H s → t σ H Q →
    wpAny (model X.prog X.w) X.A (forIn ifs true fun c r => if r = true then do let ok ← isTrue c X.env (eval c X.env); pure (ForInStep.yield ok) else pure (ForInStep.yield r)) (TP X pins σ Q) X.xe s
noncomputable def tNoIf : TT := fun _ H Q => Q true H
theorem pf_nil : PF X [] tNoIf := fun _ _ _ H _ I h => wpAny_tests_nil ⟨H, I, h⟩
theorem compLoop_any {prog : Program} {w : World} {A : Around} {R : Result → Shared → Prop} {s : Shared} {elt target iter : Expr} {ifs : List Expr} {scope : Scope} {pos : Pos} {it acc : Value} {env : Env} (I : Nat → Shared → Prop)
    (turn : ∀ n s, I n s → wpAny (model prog w) A (pyNext it) (fun r s₁ => match r with
      | none => R (.ok .next) s₁
      | some v => wpAny (model prog w) A (letOwnedTupleGo target it v) (fun _ s₀ => wpAny (model prog w) A (assign target env v) (fun _ s₂ =>
          wpAny (model prog w) A (forIn ifs true fun c r => if r = true then do let ok ← isTrue c env (eval c env); pure (ForInStep.yield ok) else pure (ForInStep.yield r)) (fun ok s₃ =>
            if ok = true then wpAny (model prog w) A (eval elt env) (fun x s₄ =>
              wpAny (model prog w) A (call (.builtin "list.append") [acc, x]) (fun _ s₅ => ∃ m, m < n ∧ I m s₅) (notedBy (model prog w) A env fun e s' => R (.error e) s') s₄) (notedBy (model prog w) A env fun e s' => R (.error e) s') s₃
            else ∃ m, m < n ∧ I m s₃) (notedBy (model prog w) A env fun e s' => R (.error e) s') s₂) (notedBy (model prog w) A env fun e s' => R (.error e) s') s₀) (notedBy (model prog w) A env fun e s' => R (.error e) s') s₁) (notedBy (model prog w) A env fun e s' => R (.error e) s') s)
    (n : Nat) (h : I n s) : codeAny (model prog w) A (.compLoop (.ListComp elt [⟨target, iter, ifs, 0⟩] scope pos) 0 it acc env) R s := by
  refine codeAny_loop rfl I (fun n s hI => ?_) n h
  show wpAny _ A ((compTurn (.ListComp elt [⟨target, iter, ifs, 0⟩] scope pos) 0 it acc env).onRaise (fun x => do noteFrame x env; theTreesLotGoes x)) _ _ s
  refine wpAny_noted ?_
  rw [compTurn_list]
  refine wpAny_bind (wpAny_standAt (wpAny_bind (wpAny_mono (turn n s hI) (fun r s₁ h₁ => ?_) fun _ _ h' => h')))
  cases r with
  | none => exact wpAny_pure h₁
  | some v =>
    refine wpAny_bind (wpAny_mono h₁ (fun _ s₀ h₀ => ?_) fun _ _ h' => h')
    refine wpAny_bind (wpAny_mono h₀ (fun _ s₂ h₂ => wpAny_bind (wpAny_mono h₂ (fun ok s₃ h₃ => ?_) fun _ _ h' => h')) fun _ _ h' => h')
    cases ok with
    | false => exact wpAny_pure ⟨rfl, h₃⟩
    | true =>
      exact wpAny_bind (wpAny_bind (wpAny_mono h₃ (fun x s₄ h₄ => wpAny_bind (wpAny_mono h₄ (fun _ s₅ h₅ => wpAny_pure (wpAny_pure ⟨rfl, h₅⟩)) fun _ _ h' => h')) fun _ _ h' => h'))
noncomputable def tCompW (J : It) (g : TG) (tf : TT) (te : TE) (D : Addr) (σ0 : St) (H1 : Hp) (Q : Hp → Prop) : Prop :=
  ∃ W : Nat → Nat → St → Hp → Prop, (∃ m, W 0 m σ0 (upd H1 D (.lst []))) ∧ ∀ i m σ H, W i m σ H →
    (J.stop i H ∧ Q H) ∨ (J.go i H ∧ ∀ x H2, J.yld i H x H2 → g x σ H2 fun σ2 H3 => tf σ2 H3 fun b H4 =>
      if b = true then te σ2 H4 fun y H5 => ∃ zs, H5 D = some (.lst zs) ∧ zs.length < sizeLine ∧ ∃ m', m' < m ∧ W (i + 1) m' σ2 (upd H5 D (.lst (zs ++ [y])))
      else ∃ m', m' < m ∧ W (i + 1) m' σ2 H4)
noncomputable def tComp (js : List (Option Nat)) (wi : TI) (g : Shared → Hp → List Addr → TG) (tf : Shared → Hp → List Addr → TT) (te : Shared → Hp → List Addr → TE) : TE := fun σ H Q => wi σ H fun J H1 => ∀ (D : Addr), H1 D = none → ∀ (s0 : Shared) (H0 : Hp) (fp : List Addr), tCompW J (g s0 H0 fp) (tf s0 H0 fp) (te s0 H0 fp) D (compSt js σ) H1 fun H' => Q (.ref D) H'
theorem comp_run {tg iter elt : Expr} {ifs : List Expr} {pos : Pos} {J : It} {it : Addr} {tn : Nat → Heap → Prop} {g : Shared → Hp → TG} {tf : Shared → Hp → TT} {te : Shared → Hp → TE} {E : Value → Shared → Prop} {RR : Value → Addr → Result → Shared → Prop} {Q : Addr → Hp → Prop}
    (hc : X.calm = true) (C : CompOk X N' js scope) (I : Inv X pins σ H s) (T : Turn X.prog X.w X.K tg J fp it tn) (st : tn 0 s.heap) (hf : ∀ b ∈ fp, FpOk X pins H b)
    (body : ∀ (s0 : Shared) (H0 : Hp), PG (cxComp X N' scope s0 H0 fp) tg (g s0 H0) ∧ PF (cxComp X N' scope s0 H0 fp) ifs (tf s0 H0) ∧ PE (cxComp X N' scope s0 H0 fp) elt (te s0 H0))
    (h : ∀ D, H D = none → ∀ (s0 : Shared) (H0 : Hp), tCompW J (g s0 H0) (tf s0 H0) (te s0 H0) D (compSt js σ) H (Q D))
    (hRR : ∀ (D C : Addr) (H' : Hp) (s' : Shared) (m : Str → Option Value), s'.heap.Ns C m → s.heap.objs.size ≤ C → (∀ p ∈ X.pn ++ pins, p.1 ≠ C) → H' C = none → C ≠ X.env.locals → (∀ x c, X.env.cells.lookup x = some c → c ≠ C) → (X.s₀.heap.objs.size ≤ C) → Inv X pins σ H' s' → Q D H' → RR (.ref D) C (.ok .next) s') :
    wpAny (model X.prog X.w) X.A (newList []) (fun acc s₃ => wpAny (model X.prog X.w) X.A (newFunctionEnv scope X.env.globals (closL X.env.cells scope.names []) [] X.env.qual none .none (some X.env)) (fun cenv s₄ =>
      codeAny (model X.prog X.w) X.A (.compStart (.ListComp elt [⟨tg, iter, ifs, 0⟩] scope pos) 0 (.ref it) acc { cenv with scope := relabel scope X.env }) (RR acc cenv.locals) s₄) E s₃) E s := by
  have hfr : H s.heap.objs.size = none := I.hok.fresh (Nat.le_refl _)
  have I1 : Inv X pins σ (upd H s.heap.objs.size (.lst [])) { s with heap := s.heap.push { cls := .type "list", dict := none, data := .seq ([] : List Value).toArray } } :=
    I.laid (t' := s.toks) (fun b u e => Heap.get?_push_of_some _ e) (Nat.le_refl _) ⟨Nat.zero_le _, [], _, .nil, Heap.get?_push_size _ rfl⟩
  refine wpAny_newObj_type (comp_env ?_)
  have st1 : tn 0 (s.heap.push { cls := .type "list", dict := none, data := .seq ([] : List Value).toArray }) := T.keep _ _ _ st fun b hb o e => Heap.get?_push_of_some _ e
  have lt : ∀ b ∈ fp, b < s.heap.objs.size := fun b hb => let ⟨_, e, _⟩ := T.obj _ _ st b hb; Heap.lt_size e
  have hf1 : ∀ b ∈ fp, FpOk X pins (upd H s.heap.objs.size (.lst [])) b := fun b hb => ⟨by rw [upd_ne (Nat.ne_of_lt (lt b hb))]; exact (hf b hb).1, (hf b hb).2⟩
  have I2 := comp_start (fp := fp) I1 C hf1 (fun b hb => let ⟨o, e, _⟩ := T.obj _ _ st1 b hb; ⟨o, e⟩)
  have st2 : tn 0 (pushCells ((s.heap.push { cls := .type "list", dict := none, data := .seq ([] : List Value).toArray }).push { cls := .type "dict", data := .dict #[] }) scope.names) := T.keep _ _ _ st1 fun b hb o e => pushCells_keeps _ _ b o (Heap.get?_push_of_some _ e)
  obtain ⟨W, ⟨m0, w0⟩, turn⟩ := h _ hfr { s with heap := s.heap.push { cls := .type "list", dict := none, data := .seq ([] : List Value).toArray } } (upd H s.heap.objs.size (.lst []))
  obtain ⟨bg, bf, be⟩ := body { s with heap := s.heap.push { cls := .type "list", dict := none, data := .seq ([] : List Value).toArray } } (upd H s.heap.objs.size (.lst []))
  generalize hs1 : ({ s with heap := s.heap.push { cls := .type "list", dict := none, data := .seq ([] : List Value).toArray } } : Shared) = s1 at I1 I2 st2 bg bf be turn ⊢
  have es1 : s1.heap = s.heap.push { cls := .type "list", dict := none, data := .seq ([] : List Value).toArray } := by rw [← hs1]
  have sz1 : s1.heap.objs.size = s.heap.objs.size + 1 := by rw [es1, Heap.size_push]
  rw [← es1] at st2
  have stat : ∀ {H' : Hp}, (∀ b ∈ fp, H' b = none) → ∀ b ∈ fp, FpOk (cxComp X N' scope s1 (upd H s.heap.objs.size (.lst [])) fp) [] H' b := fun hn b hb => by
    refine ⟨hn b hb, (I2.ok.exf b hb).1, ?_, .inl hb, (I2.ok.exf b hb).2, fun p hp => absurd (show p ∈ ([] : List (Addr × Obj)) from hp) (by simp)⟩
    exact I2.ok.exfs b hb
  have outE : ∀ {α : Type} {t : Sem α} {QQ : α → Shared → Prop} {E' : Value → Shared → Prop} {s' : Shared}, wpAny (model X.prog X.w) X.A t QQ (fun _ _ => False) s' → wpAny (model X.prog X.w) X.A t QQ E' s' := fun q => wpAny_mono q (fun _ _ z => z) fun _ _ z => z.elim
  have loop : ∀ s2 : Shared, s2 = { s1 with heap := pushCells (s1.heap.push { cls := .type "dict", data := .dict #[] }) scope.names } →
      codeAny (model X.prog X.w) X.A (.compLoop (.ListComp elt [⟨tg, iter, ifs, 0⟩] scope pos) 0 (.ref it) (.ref s.heap.objs.size) (cxComp X N' scope s1 (upd H s.heap.objs.size (.lst [])) fp).env) (RR (.ref s.heap.objs.size) s1.heap.objs.size) s2 := by
    rintro s2 rfl
    refine compLoop_any (fun n s' => ∃ i σ' H', Inv (cxComp X N' scope s1 (upd H s.heap.objs.size (.lst [])) fp) [] σ' H' s' ∧ tn i s'.heap ∧ (∀ b ∈ fp, H' b = none) ∧ W i n σ' H') ?_ m0 ⟨0, _, _, I2, st2, fun b hb => (hf1 b hb).1, w0⟩
    rintro n s3 ⟨i, σ3, H3, I3, st3, fr3, w3⟩
    rcases turn i n σ3 H3 w3 with ⟨stop, q⟩ | ⟨go, step⟩
    · refine outE (thn (T.done (cxComp X N' scope s1 (upd H s.heap.objs.size (.lst [])) fp) rfl rfl rfl hc i [] s3 σ3 H3 (fun _ _ => False) I3 (stat fr3) st3 stop) fun r s4 ⟨hr, I4⟩ => ?_)
      subst hr
      have u4 : Un (frs X.stack) fp (upd H s.heap.objs.size (.lst [])) H3 s1.heap s4.heap := I4.base
      have IX : Inv X pins σ H3 s4 := I1.call' I4.os u4 I4.hok I4.bare fun b hb => by
        obtain ⟨_, f1, _, f3, f4, f5⟩ := hf1 b hb
        exact ⟨f3, f1, f4, f5⟩
      obtain ⟨m, hn, _⟩ := I4.loc
      have cle : s.heap.objs.size ≤ s1.heap.objs.size := by rw [sz1]; exact Nat.le_succ _
      have clt : ∀ b, b < s1.heap.objs.size → b ≠ s1.heap.objs.size := fun b hb => Nat.ne_of_lt hb
      refine hRR _ s1.heap.objs.size H3 s4 m hn cle (fun p hp => clt _ (Heap.lt_size (I1.pin p hp).1)) I4.free (Ne.symm (clt _ I1.lt)) (fun x c e => ?_) (Nat.le_trans I.sz cle) IX q
      obtain ⟨v, z⟩ := I1.cell x c e
      exact clt _ z.lt
    · refine outE (thn (T.item (cxComp X N' scope s1 (upd H s.heap.objs.size (.lst [])) fp) rfl rfl rfl hc i [] s3 σ3 H3 (fun _ _ => False) I3 (stat fr3) st3 go) fun r s4 ⟨u, hr, h4⟩ => ?_)
      subst hr
      refine outE (thn h4 fun _ s5 ⟨x, H5, I5, r5, y5, st5, fr5⟩ => ?_)
      have I5' := I5.pinned (stat fr5) (T.obj _ _ st5)
      refine outE (thn (bg _ s5 σ3 H5 x u _ I5' r5 (step x H5 y5)) fun _ s6 ⟨σ6, H6, I6, q6⟩ => ?_)
      refine outE (thn (bf _ s6 σ6 H6 _ I6 q6) fun ok s7 ⟨H7, I7, q7⟩ => ?_)
      have again : ∀ {s8 : Shared} {σ8 : St} {H8 : Hp} {m' : Nat}, Inv (cxComp X N' scope s1 (upd H s.heap.objs.size (.lst [])) fp) ([] ++ pinsAt fp s5.heap) σ8 H8 s8 → m' < n → W (i + 1) m' σ8 H8 →
          ∃ m, m < n ∧ ∃ i σ' H', Inv (cxComp X N' scope s1 (upd H s.heap.objs.size (.lst [])) fp) [] σ' H' s8 ∧ tn i s8.heap ∧ (∀ b ∈ fp, H' b = none) ∧ W i m σ' H' := fun {s8 σ8 H8 m'} I8 hm w8 => by
        refine ⟨m', hm, i + 1, σ8, H8, I8.unpinned, T.keep _ _ _ st5 fun b hb o e => (I8.pin (b, o) (List.mem_append_right _ (List.mem_append_right _ (mem_pinsAt hb e)))).1, fun b hb => ?_, w8⟩
        obtain ⟨o, e, d⟩ := T.obj _ _ st5 b hb
        exact (I8.pin (b, o) (List.mem_append_right _ (List.mem_append_right _ (mem_pinsAt hb e)))).2.1
      cases ok with
      | false =>
        rw [if_neg Bool.false_ne_true] at q7 ⊢
        obtain ⟨m', hm, w8⟩ := q7
        exact again I7 hm w8
      | true =>
        rw [if_pos rfl] at q7 ⊢
        refine outE (thn (be _ s7 σ6 H7 _ I7 q7) fun y s8 ⟨v, H8, I8, r8, zs, hz, hlen, m', hm, w8⟩ => ?_)
        obtain ⟨hzl, its, k, rv, e8⟩ := I8.hok _ _ hz
        refine outE (PyProof.Rows.append_at (hsz := by rw [List.size_toArray, ← rv.length]; exact hzl) e8 fun h9 sb e9 => ?_)
        rw [List.push_toArray] at e9
        have I9 : Inv (cxComp X N' scope s1 (upd H s.heap.objs.size (.lst [])) fp) ([] ++ pinsAt fp s5.heap) σ6 (upd H8 s.heap.objs.size (.lst (zs ++ [v]))) { s8 with heap := h9 } :=
          I8.write (t' := s8.toks) (by rw [hz]; trivial) (.inl rfl) (fun b o hb e => (sb.2 b hb).trans e) ⟨_, e9⟩ ⟨by rw [List.length_append, List.length_singleton]; exact hlen, its ++ [y], k + 1, rv.append (.cons r8 .nil), e9⟩
        exact again I9 hm w8
  show codeAny (model X.prog X.w) X.A (.compStart (.ListComp elt [⟨tg, iter, ifs, 0⟩] scope pos) 0 (.ref it) (.ref s.heap.objs.size) (cxComp X N' scope s1 (upd H s.heap.objs.size (.lst [])) fp).env) (RR (.ref s.heap.objs.size) s1.heap.objs.size) { s1 with heap := pushCells (s1.heap.push { cls := .type "dict", data := .dict #[] }) scope.names }
  exact codeAny_compStart_list (loop _ rfl) (T.self X.A 0 _ _ _ st2 (loop _ rfl))
theorem lookup_of_nodup {α : Type} {n : Str} {c : α} : ∀ {l : List (Str × α)}, (l.map (·.1)).Nodup → (n, c) ∈ l → l.lookup n = some c
  | [], _, h => nomatch h
  | (m, e) :: r, hn, hm => by
    have hn : (m :: r.map (·.1)).Nodup := hn
    obtain ⟨h1, h2⟩ := List.nodup_cons.mp hn
    rw [List.lookup_cons]
    rcases List.mem_cons.mp hm with q | q
    · cases q; simp
    · have hne : (n == m) = false := by
        cases hb : n == m with
        | false => rfl
        | true => exact absurd (List.mem_map.mpr ⟨(n, c), q, beq_iff_eq.mp hb⟩) h1
      rw [hne]
      exact lookup_of_nodup h2 q
variable {tg iter elt : Expr} {ifs : List Expr} {pos : Pos} {wi : TI} {g : Shared → Hp → List Addr → TG} {tf : Shared → Hp → List Addr → TT} {te : Shared → Hp → List Addr → TE}
theorem pe_comp (hc : X.calm = true) (C : CompOk X N' js scope) (hi : PI X tg iter wi)
    (body : ∀ (s0 : Shared) (H0 : Hp) (fp : List Addr), PG (cxComp X N' scope s0 H0 fp) tg (g s0 H0 fp) ∧ PF (cxComp X N' scope s0 H0 fp) ifs (tf s0 H0 fp) ∧ PE (cxComp X N' scope s0 H0 fp) elt (te s0 H0 fp))
    (hs : ∀ x, foldedSetIterable iter X.env x = pure x := by intro _; rfl) : PE X (.ListComp elt [⟨tg, iter, ifs, 0⟩] scope pos) (tComp js wi g tf te) := by
  intro pins s σ H Q I h
  rw [eval_ListComp]
  have hcl : closureFor scope X.env = pure (closL X.env.cells scope.names []) := closureFor_eq fun n hn => Option.isSome_iff_exists.mpr (I.ok.has n (C.fr n hn))
  refine wpAny_comprehension_free (use := none) rfl hs hcl C.kind (fun x hx hl => lookup_of_nodup C.nd (by rw [← hl]; exact hx)) (thn (hi pins s σ H _ I h) fun v s1 h1 => thn h1 fun itv s2 h2 => ?_)
  obtain ⟨it, fp, tn, J, H2, e, I2, T, st2, f2, q⟩ := h2
  subst e
  refine comp_run (RR := fun acc C => compPost (model X.prog X.w) X.A X.xe none (EP X pins σ Q) acc C) hc C I2 T st2 f2 (g := fun s0 H0 => g s0 H0 fp) (tf := fun s0 H0 => tf s0 H0 fp) (te := fun s0 H0 => te s0 H0 fp) (fun s0 H0 => body s0 H0 fp) (Q := fun D H' => Q (.ref D) H') (fun D hD s0 H0 => q D hD s0 H0 fp) ?_
  intro D Ca H' s' m hn hle hp hC hL hcel hs0 I' q'
  exact ⟨m, hn, fun h' hs' => ⟨.ref D, H', I'.turned (t' := s'.toks) (it := Ca) (fun b o hb e => (hs'.2 b hb).trans e) hC hL (.inr hs0) hcel hp, rfl, q'⟩⟩
end
end L2
namespace L2
open PySem PySem.Spec PyProof.Rows
section
variable {prog : Program} {w : World} {A : Around} {E : Value → Shared → Prop} {s : Shared}
end
section
variable {X : Cx} {pins : List (Addr × Obj)} {σ : St} {H : Hp} {s : Shared} {h' : Heap}
end
section
variable {X : Cx}
end
end L2
namespace HT
open PySem PySem.Spec PyProof.Rows
section
variable {prog : Program} {w : World} {A : Around} {E : Value → Shared → Prop} {s : Shared}
end
end HT
namespace L2
open PySem PySem.Spec PyProof.Rows
section
variable {X : Cx}
end
end L2
namespace L2
open PySem PySem.Spec PyProof.Rows
mutual
inductive Is (H : Hp) : V → PyData → Prop
  | non : Is H .non .none
  | bl (b : Bool) : Is H (.bl b) (.bool b)
  | int (i : Int) : Is H (.int i) (.int i)
  | str (x : Str) : Is H (.str x) (.str x)
  | lst {a : Addr} {xs : List V} {ds : List PyData} : H a = some (.lst xs) → Iss H xs ds → Is H (.ref a) (.list ds)
  | tup {a : Addr} {xs : List V} {ds : List PyData} : H a = some (.tup xs) → Iss H xs ds → Is H (.ref a) (.tuple ds)
inductive Iss (H : Hp) : List V → List PyData → Prop
  | nil : Iss H [] []
  | cons {x : V} {d : PyData} {xs : List V} {ds : List PyData} : Is H x d → Iss H xs ds → Iss H (x :: xs) (d :: ds)
end
mutual
theorem Is.mono {H H' : Hp} (s : Same H H') : ∀ {v : V} {d : PyData}, Is H v d → Is H' v d
  | _, _, .non => .non
  | _, _, .bl b => .bl b
  | _, _, .int i => .int i
  | _, _, .str x => .str x
  | _, _, .lst e h => .lst (s _ _ e) (Iss.mono s h)
  | _, _, .tup e h => .tup (s _ _ e) (Iss.mono s h)
theorem Iss.mono {H H' : Hp} (s : Same H H') : ∀ {xs : List V} {ds : List PyData}, Iss H xs ds → Iss H' xs ds
  | _, _, .nil => .nil
  | _, _, .cons h t => .cons (Is.mono s h) (Iss.mono s t)
end
theorem Iss.length {H : Hp} : ∀ {xs : List V} {ds : List PyData}, Iss H xs ds → xs.length = ds.length
  | _, _, .nil => rfl
  | _, _, .cons _ t => by rw [List.length_cons, List.length_cons, Iss.length t]
section
variable {X : Cx} {pins : List (Addr × Obj)} {σ : St} {H : Hp} {s : Shared}
end
end L2
namespace L2
open PySem PySem.Spec PyProof.Rows
structure Cal (P : Program) (w : World) (K : PySem.W.Frag) (mg : Str → Option Value) (base : Heap) (k : Nat) (x : Str) (ps : List Str) (sp : Sp) : Prop where
  ex : ∃ (f : Addr) (fd : FuncData), FnOk P w K mg base CX0 k f fd ps sp ∧ mg x = some (.ref f) ∧ PySem.W.keepIn K (.ref f) = true ∧ Binds K fd ps []
section
variable {X : Cx} {k : Nat} {ps : List Str} {sp : Sp} {x : Str} {p pos : Pos} {e : Expr} {es : List Expr} {t : TA}
theorem pe_cal (c : Cal X.prog X.w X.K X.mg X.base k x ps sp) (hr : Room k X.A) (hg : Gl X x) (ha : PA X (e :: es) t) (hdb : (x == ("__debug__" : Str)) = false := by decide)
    (he : starEach (e :: es) X.env = (false, eval e X.env) :: starEach es X.env := by rfl) (hpl : (backTo pos (starEach es X.env)).any (·.1) = false := by rfl) : PE X (.Call (.Name x p) (e :: es) [] pos) (tCall sp [] E0 t) := by
  obtain ⟨f, fd, F, hm, hk, hb⟩ := c.ex
  exact pe_call F hr hg hm hk hb .nil pass0 ha hdb he hpl
end
end L2
namespace L2
open PySem PySem.Spec PyProof.Rows
noncomputable def Itv (K : PySem.W.Frag) (a : Addr) (n : Nat) : It :=
  ⟨fun i H => i < n ∧ ∃ xs x, SqL K H a xs ∧ xs[n - 1 - i]? = some x, fun i H x H' => H' = H ∧ ∀ xs, SqL K H a xs → xs[n - 1 - i]? = some x, fun i _ => i = n⟩
theorem turn_rev {P : Program} {w : World} {K : PySem.W.Frag} {tg : Expr} (a it : Addr) (n : Nat) : Turn P w K tg (Itv K a n) [it] it (fun i h => h.IsRevIter it a ((n : Int) - 1 - ((i : Nat) : Int))) where
  mem := by simp
  obj := fun i h st b hb => by
    have e : b = it := by simpa using hb
    subst e
    obtain ⟨o, e, c, d⟩ := st
    exact ⟨o, e, fun v z => by rw [d] at z; cases z⟩
  keep := fun i h h' st k => st.at fun o e => k it (by simp) o e
  item := by
    intro X hP hw hK hc i pins s σ H E I hf st hg
    subst hP hw hK
    obtain ⟨hi, xs, x, hq, hx⟩ := hg
    obtain ⟨its, rv, p, hz⟩ := I.list hq
    obtain ⟨u, hu, ru⟩ := rv.get hx
    obtain ⟨f0, f1, f2, f3, f4, f5⟩ := hf it (by simp)
    have e1 : (n : Int) - 1 - ((i : Nat) : Int) = ((n - 1 - i : Nat) : Int) := by omega
    have st' := st
    rw [e1] at st'
    refine wpAny_pyNext_rev_item st' p.isList (x := u) (by simpa using hu) fun h' st2 sb => ?_
    have I1 : Inv X pins σ H { s with heap := h' } := I.turned (t' := s.toks) (fun b o hb e => (sb.2 b hb).trans e) f0 f1 f3 f4 f5
    obtain ⟨o, e, c, d⟩ := id st2
    refine ⟨u, rfl, go_of (s := { s with heap := h' }) e c d (by decide) ⟨x, H, I1, ru, ⟨rfl, fun ys hy => by rw [I.list_inj hy hq]; exact hx⟩, ?_, fun b hb => (hf b hb).1⟩⟩
    have e2 : (n : Int) - 1 - ((i + 1 : Nat) : Int) = ((n - 1 - i : Nat) : Int) - 1 := by omega
    show h'.IsRevIter it a ((n : Int) - 1 - ((i + 1 : Nat) : Int))
    rw [e2]; exact st2
  done := by
    intro X hP hw hK hc i pins s σ H E I hf st hg
    subst hP hw hK
    have hg : i = n := hg
    obtain ⟨f0, f1, f2, f3, f4, f5⟩ := hf it (by simp)
    have e1 : (n : Int) - 1 - ((i : Nat) : Int) = -1 := by omega
    rw [e1] at st
    exact wpAny_pyNext_rev_end (I.ok.hd hc) st fun h' eb => ⟨rfl, I.turned (t' := s.toks) (fun b o hb e => eb b o hb e) f0 f1 f3 f4 f5⟩
  self := fun _ _ _ _ _ st h => wpAny_pyIter_revIter st h
section
variable {X : Cx}
noncomputable def iRev (K : PySem.W.Frag) (ta : TA) : TI := fun σ H R => ta σ H fun vs H1 => ∃ a xs, vs = [.ref a] ∧ SqL K H1 a xs ∧ R (Itv K a xs.length) H1
theorem boot_rev : bootBuiltins "reversed" = some (.type "reversed") := by decide +kernel
theorem pi_rev {a : Expr} {ta : TA} {p pos : Pos} {tg : Expr} (hg : Gl X "reversed") (hm : X.mg "reversed" = none) (ha : PA X [a] ta) (hs : starEach [a] X.env = [(false, eval a X.env)] := by rfl) : PI X tg (.Call (.Name "reversed" p) [a] [] pos) (iRev X.K ta) := by
  intro pins s σ H R I h
  refine Call_ (ld_blt I hg hm boot_rev (PyProof.Rows.callWith_type1 (thn (ha pos pins s σ H _ I h) fun us s1 ⟨vs, H1, I1, r1, q1⟩ => ?_) hs rfl))
  obtain ⟨a, xs, e, hq, q⟩ := q1
  subst e
  obtain ⟨u, rfl, ru⟩ := vals1 r1
  cases ru
  obtain ⟨its, rv, p, hz⟩ := I1.list hq
  have hl : its.toArray.size = xs.length := by rw [List.size_toArray]; exact rv.length.symm
  refine call_reversed_list p.isList ?_
  have I2 : Inv X pins σ H1 { s1 with heap := s1.heap.push (revObj a ((its.toArray.size : Int) - 1)) } := I1.kept (t' := s1.toks) fun b o e => Heap.get?_push_of_some _ e
  have hit : (s1.heap.push (revObj a ((its.toArray.size : Int) - 1))).IsRevIter s1.heap.objs.size a ((its.toArray.size : Int) - 1) := ⟨_, Heap.get?_push_size _ rfl, rfl, rfl⟩
  refine wpAny_pyIter_revIter (s := { s1 with heap := s1.heap.push (revObj a ((its.toArray.size : Int) - 1)) }) hit ?_
  refine ⟨s1.heap.objs.size, [s1.heap.objs.size], _, _, H1, rfl, I2, turn_rev a _ xs.length, ?_, fun b hb => ?_, q⟩
  · have e0 : ((xs.length : Nat) : Int) - 1 - ((0 : Nat) : Int) = (its.toArray.size : Int) - 1 := by rw [hl]; simp
    show Heap.IsRevIter _ _ _ (((xs.length : Nat) : Int) - 1 - ((0 : Nat) : Int))
    rw [e0]; exact hit
  · have e : b = s1.heap.objs.size := by simpa using hb
    subst e
    exact I1.fpOk (Nat.le_refl _) (I1.hok.fresh (Nat.le_refl _))
end
end L2
namespace L2
open PySem PySem.Spec PyProof.Rows
section
variable {X : Cx} {e st : Expr} {te : TE} {lo hi : Option Expr} {tl th ts : TO} {pos p2 : Pos}
end
end L2
namespace L2
open PySem PySem.Spec PyProof.Rows
section
variable {X : Cx}
end
end L2
namespace L2
open PySem PySem.Spec PyProof.Rows
section
variable {prog : Program} {w : World} {A : Around} {E : Value → Shared → Prop} {s : Shared}
end
section
variable {X : Cx} {pos : Pos}
end
end L2
namespace L2
open PySem PySem.Spec PyProof.Rows
section
variable {prog : Program} {w : World} {A : Around} {E : Value → Shared → Prop} {s : Shared}
end
end L2
namespace L2
open PySem PySem.Spec PyProof.Rows
section
variable {X : Cx}
theorem vals_bools : ∀ {bs : List Bool} {its : List Value}, Vals (bs.map V.bl) its → its = bs.map Value.bool
  | [], _, r => by rw [List.map_nil] at r; cases r; rfl
  | b :: bs, _, r => by
    rw [List.map_cons] at r
    cases r with
    | cons h t => rw [vals_bools t, (show _ = Value.bool b from h)]; rfl
theorem all_range (bs : List Bool) : ((List.range bs.length).all fun i => (bs[i]?).getD true) = bs.all id := by
  rw [Bool.eq_iff_iff, List.all_eq_true, List.all_eq_true]
  constructor
  · intro h x hx
    obtain ⟨i, hi, rfl⟩ := List.getElem_of_mem hx
    have := h i (List.mem_range.mpr hi)
    rw [List.getElem?_eq_getElem hi] at this
    exact this
  · intro h i hi
    have hi := List.mem_range.mp hi
    rw [List.getElem?_eq_getElem hi]
    exact h _ (List.getElem_mem hi)
theorem call_all_bools (hc : X.calm = true) : CallR X (.builtin "all") (fun xs H Q => ∃ (l : Addr) (bs : List Bool), xs = [.ref l] ∧ SqL X.K H l (bs.map V.bl) ∧ Q (.bl (bs.all id)) H) := by
  intro pins s σ H xs us Q I r h
  obtain ⟨l, bs, rfl, hq, q⟩ := h
  obtain ⟨u, rfl, ru⟩ := vals1 r
  cases ru
  obtain ⟨its, rv, p, hz⟩ := I.list hq
  have e := vals_bools rv
  subst e
  have hlt : l < s.heap.objs.size := let ⟨_, e, _⟩ := p.isList; Heap.lt_size e
  refine call_all_walk (wpAny_pyIter_list p.isList ⟨s.heap.objs.size, [s.heap.objs.size, l], [s.heap.objs.size], (bs.map Value.bool).toArray.size, _, _, fun i => (bs[i]?).getD true, rfl, Walks.list (A := X.A.in1) (I.ok.hd hc) _ l (Nat.ne_of_lt hlt) _, ⟨⟨_, Heap.get?_push_size _ rfl, rfl, rfl⟩, p.isList.push _⟩, fun i v s' Q' E' hP hQ => ?_, fun h' tk hk => ?_⟩)
  · have hP : (bs.map Value.bool)[i]? = some v := by simpa using hP
    rw [List.getElem?_map] at hP
    cases e : bs[i]? with
    | none => rw [e] at hP; cases hP
    | some b =>
      rw [e] at hP
      cases hP
      have hQ : Q' ((bs[i]?).getD true) s' := hQ
      rw [e] at hQ
      exact wpAny_truthy_bool hQ
  · have e : ((List.range (bs.map Value.bool).toArray.size).all fun i => (bs[i]?).getD true) = bs.all id := by
      rw [List.size_toArray, List.length_map]; exact all_range bs
    rw [e]
    refine ⟨.bl (bs.all id), H, I.kept (t' := tk) (fun b o q => hk b o (fun z => ?_) (Heap.get?_push_of_some _ q)), rfl, q⟩
    rw [List.mem_singleton.mp z] at q
    exact Nat.lt_irrefl _ (Heap.lt_size q)
end
end L2
namespace L2
open PySem PySem.Spec PyProof.Rows
section
variable {X : Cx} {tg : Expr}
end
section
variable {X : Cx}
end
end L2
namespace L2
open PySem
end L2
namespace L2
open PySem PySem.Spec PyProof.Rows
section
variable {prog : Program} {w : World} {A : Around} {E : Value → Shared → Prop} {s : Shared}
end
end L2
namespace L2
open PySem PySem.Spec PyProof.Rows
section
variable {prog : Program} {w : World} {A : Around} {E : Value → Shared → Prop} {s : Shared}
end
end L2
namespace L2
open PySem PySem.Spec PyProof.Rows
section
variable {X : Cx}
end
end L2
namespace L2
open PySem
end L2
namespace L2
open PySem PySem.Spec PyProof.Rows
section
variable {X : Cx}
end
end L2
namespace DL
open PySem PySem.Spec L2
inductive D where
  | non | bl (b : Bool) | int (i : Int) | str (x : Str) | tup (xs : List D) | lst (xs : List D) | scr (xs : List D) | ref (i : Nat)
  | exc (cn : Str) (fs : List (Str × Int))
inductive O where
  | lst (xs : List D) | dT (kvs : List (List Key × D)) | dK (kvs : List (Key × D)) | ins (cn : Str) (fs : List (Str × D))
structure KP where
  K : PySem.W.Frag
  π : List Addr
noncomputable def VT (K : KP) (α : List Addr) (H : Hp) (a : Addr) (us : List V) : Prop := a ∉ α ∧ a ∉ K.π ∧ H a = some (.tup us)
noncomputable def VS (K : KP) (α : List Addr) (H : Hp) (a : Addr) (us : List V) : Prop :=
  (a ∉ α ∧ a ∉ K.π ∧ Rd H a (.lst us)) ∨ ∃ (o : Obj) (its : Array Value) (n : Nat), K.K.lookup a = some o ∧ o.cls = .type "list" ∧ o.dict = none ∧ o.data = .seq its n ∧ its.size ≤ sizeLine ∧ Vals us its.toList
noncomputable def VL (K : KP) (α : List Addr) (H : Hp) (a : Addr) (us : List V) : Prop := a ∉ α ∧ a ∉ K.π ∧ H a = some (.lst us)
noncomputable def VE (K : KP) (α : List Addr) (H : Hp) (a : Addr) (o : HO) : Prop := a ∉ α ∧ a ∉ K.π ∧ H a = some o
noncomputable def xDict (fs : List (Str × Int)) (dx : Addr) (h : Heap) : Prop := ∃ mA, h.Ns1 dx mA ∧ PySem.Within mA (fs.map (·.1)) ∧ ∀ f, RelO ((fs.lookup f).map V.int) (mA f)
noncomputable def xAny (C dx a : Addr) (h : Heap) : Prop := ∃ o vs, h.get? a = some o ∧ o.cls = .ref C ∧ o.dict = some dx ∧ o.data = .fields vs
theorem VT.sq {K : KP} {α : List Addr} {H : Hp} {a : Addr} {us : List V} (h : VT K α H a us) : SqT K.K H a us := .inl (.inl h.2.2)
theorem VS.sq {K : KP} {α : List Addr} {H : Hp} {a : Addr} {us : List V} (h : VS K α H a us) : SqL K.K H a us := by
  rcases h with ⟨_, _, h⟩ | h
  · exact .inl h
  · exact .inr h
theorem VL.sq {K : KP} {α : List Addr} {H : Hp} {a : Addr} {us : List V} (h : VL K α H a us) : SqL K.K H a us := SqL.of h.2.2
mutual
inductive RelD (K : KP) (α : List Addr) (H : Hp) : D → V → Prop
  | non : RelD K α H .non .non
  | bl (b : Bool) : RelD K α H (.bl b) (.bl b)
  | int (i : Int) : RelD K α H (.int i) (.int i)
  | str (x : Str) : RelD K α H (.str x) (.str x)
  | tup {a : Addr} {us : List V} {ds : List D} : VT K α H a us → RelDs K α H ds us → RelD K α H (.tup ds) (.ref a)
  | lst {a : Addr} {us : List V} {ds : List D} : VL K α H a us → RelDs K α H ds us → RelD K α H (.lst ds) (.ref a)
  | scr {a : Addr} {us : List V} {ds : List D} : VS K α H a us → RelDs K α H ds us → RelD K α H (.scr ds) (.ref a)
  | ref {i : Nat} {a : Addr} : α[i]? = some a → RelD K α H (.ref i) (.ref a)
  | exc {a dx C : Addr} {cn : Str} {fs : List (Str × Int)} : PySem.W.nsIn K.K mainGlobals cn = some (some (.ref C)) → VE K α H a (.ext (xAny C dx a)) → VE K α H dx (.ext (xDict fs dx)) → RelD K α H (.exc cn fs) (.ref a)
inductive RelDs (K : KP) (α : List Addr) (H : Hp) : List D → List V → Prop
  | nil : RelDs K α H [] []
  | cons {d : D} {u : V} {ds : List D} {us : List V} : RelD K α H d u → RelDs K α H ds us → RelDs K α H (d :: ds) (u :: us)
end
theorem RelD.map {K K' : KP} {α α' : List Addr} {H H' : Hp} (hK : K'.K = K.K) (hT : ∀ a us, VT K α H a us → VT K' α' H' a us) (hL : ∀ a us, VL K α H a us → VL K' α' H' a us) (hS : ∀ a us, VS K α H a us → VS K' α' H' a us) (hE : ∀ a o, VE K α H a o → VE K' α' H' a o)
    (hR : ∀ (i : Nat) (a : Addr), α[i]? = some a → α'[i]? = some a) {d : D} {v : V} (r : RelD K α H d v) : RelD K' α' H' d v :=
  RelD.rec (motive_1 := fun d v _ => RelD K' α' H' d v) (motive_2 := fun ds us _ => RelDs K' α' H' ds us) .non .bl .int .str (fun t _ r => .tup (hT _ _ t) r) (fun t _ r => .lst (hL _ _ t) r) (fun t _ r => .scr (hS _ _ t) r) (fun h => .ref (hR _ _ h)) (fun n t r => .exc (by rw [hK]; exact n) (hE _ _ t) (hE _ _ r)) .nil (fun _ _ r t => .cons r t) r
theorem RelDs.map {K K' : KP} {α α' : List Addr} {H H' : Hp} (hK : K'.K = K.K) (hT : ∀ a us, VT K α H a us → VT K' α' H' a us) (hL : ∀ a us, VL K α H a us → VL K' α' H' a us) (hS : ∀ a us, VS K α H a us → VS K' α' H' a us) (hE : ∀ a o, VE K α H a o → VE K' α' H' a o)
    (hR : ∀ (i : Nat) (a : Addr), α[i]? = some a → α'[i]? = some a) {ds : List D} {us : List V} (r : RelDs K α H ds us) : RelDs K' α' H' ds us := by
  induction ds generalizing us with
  | nil => cases r; exact .nil
  | cons d ds ih => cases r with | cons h t => exact .cons (h.map hK hT hL hS hE hR) (ih t)
structure Ext (α : List Addr) (H : Hp) (α' : List Addr) (H' : Hp) : Prop where
  pre : ∃ β, α' = α ++ β ∧ ∀ p ∈ β, H p = none
  keep : ∀ b o, H b = some o → b ∉ α → H' b = some o
  dom : ∀ b, H' b = none → H b = none
theorem Ext.refl (α : List Addr) (H : Hp) : Ext α H α H := ⟨⟨[], by simp, fun p h => nomatch h⟩, fun _ _ h _ => h, fun _ h => h⟩
theorem Ext.out {α α' : List Addr} {H H' : Hp} (e : Ext α H α' H') {a : Addr} {o : HO} (h : a ∉ α) (ho : H a = some o) : a ∉ α' := by
  obtain ⟨⟨β, rfl, hb⟩, _⟩ := e
  intro z
  rcases List.mem_append.mp z with z | z
  · exact h z
  · rw [hb a z] at ho; cases ho
theorem Ext.trans {α α' α'' : List Addr} {H H' H'' : Hp} (e : Ext α H α' H') (f : Ext α' H' α'' H'') : Ext α H α'' H'' := by
  refine ⟨?_, fun b o h n => f.keep b o (e.keep b o h n) (e.out n h), fun b h => e.dom b (f.dom b h)⟩
  obtain ⟨⟨β, rfl, hb⟩, k, d⟩ := e
  obtain ⟨⟨γ, rfl, hc⟩, _⟩ := f
  refine ⟨β ++ γ, by simp, fun p hp => ?_⟩
  rcases List.mem_append.mp hp with z | z
  · exact hb p z
  · exact d p (hc p z)
theorem Ext.get {α α' : List Addr} {H H' : Hp} (e : Ext α H α' H') {i : Nat} {a : Addr} (h : α[i]? = some a) : α'[i]? = some a := by
  obtain ⟨⟨β, rfl, _⟩, _⟩ := e
  have hi : i < α.length := (List.getElem?_eq_some_iff.mp h).1
  rw [List.getElem?_append_left hi]; exact h
theorem Ext.new {α : List Addr} {H : Hp} {p : Addr} {o : HO} (h : H p = none) : Ext α H α (upd H p o) :=
  ⟨⟨[], by simp, fun p h => nomatch h⟩, fun b u e _ => by rw [upd_ne (ne_of_none e h)]; exact e, fun b e => by
    by_cases z : b = p
    · subst z; rw [upd_same] at e; cases e
    · rw [upd_ne z] at e; exact e⟩
theorem Ext.write {α : List Addr} {H : Hp} {p : Addr} {o : HO} (h : p ∈ α) : Ext α H α (upd H p o) :=
  ⟨⟨[], by simp, fun p h => nomatch h⟩, fun b u e n => by rw [upd_ne (fun (z : b = p) => n (by rw [z]; exact h))]; exact e, fun b e => by
    by_cases z : b = p
    · subst z; rw [upd_same] at e; cases e
    · rw [upd_ne z] at e; exact e⟩
theorem VT.mono {K : KP} {α α' : List Addr} {H H' : Hp} (e : Ext α H α' H') {a : Addr} {us : List V} (h : VT K α H a us) : VT K α' H' a us := ⟨e.out h.1 h.2.2, h.2.1, e.keep _ _ h.2.2 h.1⟩
theorem VS.mono {K : KP} {α α' : List Addr} {H H' : Hp} (e : Ext α H α' H') {a : Addr} {us : List V} (h : VS K α H a us) : VS K α' H' a us := by
  rcases h with ⟨n, m, h | ⟨o, h⟩⟩ | h
  · exact .inl ⟨e.out n h, m, .inl (e.keep _ _ h n)⟩
  · exact .inl ⟨e.out n h, m, .inr ⟨o, e.keep _ _ h n⟩⟩
  · exact .inr h
theorem VL.mono {K : KP} {α α' : List Addr} {H H' : Hp} (e : Ext α H α' H') {a : Addr} {us : List V} (h : VL K α H a us) : VL K α' H' a us := ⟨e.out h.1 h.2.2, h.2.1, e.keep _ _ h.2.2 h.1⟩
theorem VE.mono {K : KP} {α α' : List Addr} {H H' : Hp} (e : Ext α H α' H') {a : Addr} {u : HO} (h : VE K α H a u) : VE K α' H' a u := ⟨e.out h.1 h.2.2, h.2.1, e.keep _ _ h.2.2 h.1⟩
theorem RelD.mono {K : KP} {α α' : List Addr} {H H' : Hp} (e : Ext α H α' H') {d : D} {v : V} (r : RelD K α H d v) : RelD K α' H' d v := r.map rfl (fun _ _ t => t.mono e) (fun _ _ t => t.mono e) (fun _ _ t => t.mono e) (fun _ _ t => t.mono e) (fun _ _ h => e.get h)
theorem RelDs.mono {K : KP} {α α' : List Addr} {H H' : Hp} (e : Ext α H α' H') {ds : List D} {us : List V} (r : RelDs K α H ds us) : RelDs K α' H' ds us := r.map rfl (fun _ _ t => t.mono e) (fun _ _ t => t.mono e) (fun _ _ t => t.mono e) (fun _ _ t => t.mono e) (fun _ _ h => e.get h)
section
variable {K : KP} {α α' : List Addr} {H H' : Hp}
theorem RelDs.length : ∀ {ds : List D} {us : List V}, RelDs K α H ds us → ds.length = us.length
  | _, _, .nil => rfl
  | _, _, .cons _ t => by rw [List.length_cons, List.length_cons, RelDs.length t]
theorem RelDs.get : ∀ {ds : List D} {us : List V} {i : Nat} {d : D}, RelDs K α H ds us → ds[i]? = some d → ∃ u, us[i]? = some u ∧ RelD K α H d u
  | _, _, _, _, .nil, e => by simp at e
  | _, _, 0, _, .cons r _, e => by simp at e; subst e; exact ⟨_, rfl, r⟩
  | _, _, i + 1, d, .cons _ t, e => by
    obtain ⟨u, h1, h2⟩ := RelDs.get (i := i) (d := d) t (by simpa using e)
    exact ⟨u, by simpa using h1, h2⟩
theorem RelDs.append : ∀ {ds es : List D} {us ws : List V}, RelDs K α H ds us → RelDs K α H es ws → RelDs K α H (ds ++ es) (us ++ ws)
  | _, _, _, _, .nil, s => s
  | _, _, _, _, .cons r t, s => .cons r (RelDs.append t s)
theorem RelDs.snoc {ds : List D} {us : List V} {d : D} {u : V} (r : RelDs K α H ds us) (h : RelD K α H d u) : RelDs K α H (ds ++ [d]) (us ++ [u]) := r.append (.cons h .nil)
theorem RelDs.ints : ∀ ns : List Int, RelDs K α H (ns.map D.int) (ns.map V.int)
  | [] => .nil
  | n :: r => .cons (.int n) (RelDs.ints r)
theorem RelDs.bls_inv {bs : List Bool} {us : List V} (r : RelDs K α H (bs.map D.bl) us) : us = bs.map V.bl := by
  induction bs generalizing us with
  | nil => cases r; rfl
  | cons n ns ih => cases r with | cons h t => cases h; rw [ih t]; rfl
theorem RelDs.inv1 {d : D} {us : List V} (h : RelDs K α H [d] us) : ∃ u, us = [u] ∧ RelD K α H d u := by
  cases h with
  | cons r t => cases t; exact ⟨_, rfl, r⟩
theorem RelDs.inv2 {d e : D} {us : List V} (h : RelDs K α H [d, e] us) : ∃ u v, us = [u, v] ∧ RelD K α H d u ∧ RelD K α H e v := by
  cases h with
  | cons r t =>
    obtain ⟨v, rfl, q⟩ := t.inv1
    exact ⟨_, _, rfl, r, q⟩
end
inductive RelKV (K : KP) (α : List Addr) (H : Hp) {κ : Type} : List (κ × D) → List (κ × V) → Prop
  | nil : RelKV K α H [] []
  | cons {k : κ} {d : D} {u : V} {ds : List (κ × D)} {us : List (κ × V)} : RelD K α H d u → RelKV K α H ds us → RelKV K α H ((k, d) :: ds) ((k, u) :: us)
theorem RelKV.mono {K : KP} {α α' : List Addr} {H H' : Hp} {κ : Type} (e : Ext α H α' H') {ds : List (κ × D)} {us : List (κ × V)} (r : RelKV K α H ds us) : RelKV K α' H' ds us := by
  induction r with
  | nil => exact .nil
  | cons h t ih => exact .cons (h.mono e) ih
inductive RelO' (K : KP) (α : List Addr) (H : Hp) (p : Addr) : O → Prop
  | lst {xs : List D} {us : List V} : H p = some (.lst us) → RelDs K α H xs us → RelO' K α H p (.lst xs)
  | dT {kvs : List (List Key × D)} {us : List (List Key × V)} : H p = some (.dT us) → RelKV K α H kvs us → RelO' K α H p (.dT kvs)
  | dK {kvs : List (Key × D)} {us : List (Key × V)} : H p = some (.dK us) → RelKV K α H kvs us → RelO' K α H p (.dK kvs)
  | ins {C dx : Addr} {cn : Str} {fs : List (Str × D)} {us : List (Str × V)} : PySem.W.nsIn K.K mainGlobals cn = some (some (.ref C)) → H p = some (.ins C dx us) → RelKV K α H fs us → RelO' K α H p (.ins cn fs)
structure HRel (K : KP) (α : List Addr) (H : Hp) (h : List O) : Prop where
  len : α.length = h.length
  nd : α.Nodup
  dis : ∀ p ∈ K.π, p ∉ α ∧ H p ≠ none
  obj : ∀ (i : Nat) (o : O), h[i]? = some o → ∃ p, α[i]? = some p ∧ RelO' K α H p o
theorem RelO'.mono {K : KP} {α α' : List Addr} {H H' : Hp} (e : Ext α H α' H') {p : Addr} {o : O} (r : RelO' K α H p o) (k : H' p = H p) : RelO' K α' H' p o := by
  cases r with
  | lst h t => exact .lst (k.trans h) (t.mono e)
  | dT h t => exact .dT (k.trans h) (t.mono e)
  | dK h t => exact .dK (k.trans h) (t.mono e)
  | ins n h t => exact .ins n (k.trans h) (t.mono e)
section
variable {K : KP} {α α' : List Addr} {H H' : Hp} {h : List O}
theorem HRel.some_ (R : HRel K α H h) {p : Addr} (hp : p ∈ α) : ∃ o, H p = some o := by
  obtain ⟨i, hi, rfl⟩ := List.getElem_of_mem hp
  have hh : i < h.length := by rw [← R.len]; exact hi
  obtain ⟨q, e, r⟩ := R.obj i h[i] (List.getElem?_eq_getElem hh)
  rw [List.getElem?_eq_getElem hi] at e
  cases e
  generalize h[i] = o at r
  cases r with
  | lst h t => exact ⟨_, h⟩
  | dT h t => exact ⟨_, h⟩
  | dK h t => exact ⟨_, h⟩
  | ins n h t => exact ⟨_, h⟩
theorem HRel.out (R : HRel K α H h) {p : Addr} (hp : H p = none) : p ∉ α := fun z => by
  obtain ⟨o, e⟩ := R.some_ z
  rw [hp] at e; cases e
theorem HRel.same (R : HRel K α H h) (e : Ext α H α H') (k : ∀ p ∈ α, H' p = H p) : HRel K α H' h :=
  ⟨R.len, R.nd, fun p hp => ⟨(R.dis p hp).1, fun z => (R.dis p hp).2 (e.dom p z)⟩, fun i o q => by
    obtain ⟨p, ep, r⟩ := R.obj i o q
    exact ⟨p, ep, r.mono e (k p (List.mem_of_getElem? ep))⟩⟩
theorem HRel.new (R : HRel K α H h) {p : Addr} {o : HO} (hp : H p = none) : HRel K α (upd H p o) h :=
  R.same (Ext.new hp) fun q hq => upd_ne fun z => R.out hp (z ▸ hq)
theorem HRel.write (R : HRel K α H h) {p : Addr} {i : Nat} {o : HO} {u : O} (hp : α[i]? = some p) (r : RelO' K α (upd H p o) p u) : HRel K α (upd H p o) (h.set i u) := by
  have hm := List.mem_of_getElem? hp
  refine ⟨by simp [R.len], R.nd, fun q hq => ⟨(R.dis q hq).1, fun z => (R.dis q hq).2 ((Ext.write (H := H) (o := o) hm).dom q z)⟩, fun j v q => ?_⟩
  by_cases e : i = j
  · subst e
    have hi : i < h.length := by
      have := (List.getElem?_eq_some_iff.mp q).1
      simpa using this
    rw [List.getElem?_set_self hi] at q
    cases q
    exact ⟨p, hp, r⟩
  · rw [List.getElem?_set_ne e] at q
    obtain ⟨a, ea, ra⟩ := R.obj j v q
    refine ⟨a, ea, ra.mono (Ext.write hm) (upd_ne fun z => e ?_)⟩
    subst z
    exact (List.getElem?_inj (List.getElem?_eq_some_iff.mp hp).1 R.nd).mp (hp.trans ea.symm)
theorem HRel.lst (R : HRel K α H h) {i : Nat} {xs : List D} (e : h[i]? = some (.lst xs)) : ∃ p us, α[i]? = some p ∧ H p = some (.lst us) ∧ RelDs K α H xs us := by
  obtain ⟨p, ep, r⟩ := R.obj i _ e
  cases r with
  | lst h t => exact ⟨p, _, ep, h, t⟩
theorem HRel.dT (R : HRel K α H h) {i : Nat} {xs : List (List Key × D)} (e : h[i]? = some (.dT xs)) : ∃ p us, α[i]? = some p ∧ H p = some (.dT us) ∧ RelKV K α H xs us := by
  obtain ⟨p, ep, r⟩ := R.obj i _ e
  cases r with
  | dT h t => exact ⟨p, _, ep, h, t⟩
theorem HRel.dK (R : HRel K α H h) {i : Nat} {xs : List (Key × D)} (e : h[i]? = some (.dK xs)) : ∃ p us, α[i]? = some p ∧ H p = some (.dK us) ∧ RelKV K α H xs us := by
  obtain ⟨p, ep, r⟩ := R.obj i _ e
  cases r with
  | dK h t => exact ⟨p, _, ep, h, t⟩
end
theorem HRel.outP {K : KP} {α : List Addr} {H : Hp} {h : List O} (R : HRel K α H h) {p : Addr} (hp : H p = none) : p ∉ K.π := fun z => (R.dis p z).2 hp
structure Priv (D : Addr) (H H' : Hp) : Prop where
  same : ∀ b, b ≠ D → H' b = H b
theorem VT.priv {K : KP} {α : List Addr} {H H' : Hp} {D a : Addr} {us : List V} (e : Priv D H H') (hD : D ∈ K.π) (h : VT K α H a us) : VT K α H' a us :=
  ⟨h.1, h.2.1, (e.same a fun z => h.2.1 (z ▸ hD)).trans h.2.2⟩
theorem VS.priv {K : KP} {α : List Addr} {H H' : Hp} {D a : Addr} {us : List V} (e : Priv D H H') (hD : D ∈ K.π) (h : VS K α H a us) : VS K α H' a us := by
  rcases h with ⟨n, m, h⟩ | h
  · have z : a ≠ D := fun z => m (z ▸ hD)
    refine .inl ⟨n, m, ?_⟩
    unfold Rd at h ⊢
    rw [e.same a z]; exact h
  · exact .inr h
theorem VL.priv {K : KP} {α : List Addr} {H H' : Hp} {D a : Addr} {us : List V} (e : Priv D H H') (hD : D ∈ K.π) (h : VL K α H a us) : VL K α H' a us :=
  ⟨h.1, h.2.1, (e.same a fun z => h.2.1 (z ▸ hD)).trans h.2.2⟩
theorem VE.priv {K : KP} {α : List Addr} {H H' : Hp} {D a : Addr} {u : HO} (e : Priv D H H') (hD : D ∈ K.π) (h : VE K α H a u) : VE K α H' a u :=
  ⟨h.1, h.2.1, (e.same a fun z => h.2.1 (z ▸ hD)).trans h.2.2⟩
theorem RelD.priv {K : KP} {α : List Addr} {H H' : Hp} {D' : Addr} (e : Priv D' H H') (hD : D' ∈ K.π) {d : D} {v : V} (r : RelD K α H d v) : RelD K α H' d v := r.map rfl (fun _ _ t => t.priv e hD) (fun _ _ t => t.priv e hD) (fun _ _ t => t.priv e hD) (fun _ _ t => t.priv e hD) (fun _ _ h => h)
theorem RelDs.priv {K : KP} {α : List Addr} {H H' : Hp} {D' : Addr} (e : Priv D' H H') (hD : D' ∈ K.π) {ds : List D} {us : List V} (r : RelDs K α H ds us) : RelDs K α H' ds us := r.map rfl (fun _ _ t => t.priv e hD) (fun _ _ t => t.priv e hD) (fun _ _ t => t.priv e hD) (fun _ _ t => t.priv e hD) (fun _ _ h => h)
theorem RelKV.priv {K : KP} {α : List Addr} {H H' : Hp} {D' : Addr} {κ : Type} (e : Priv D' H H') (hD : D' ∈ K.π) {ds : List (κ × D)} {us : List (κ × V)} (r : RelKV K α H ds us) : RelKV K α H' ds us := by
  induction r with
  | nil => exact .nil
  | cons h t ih => exact .cons (h.priv e hD) ih
theorem HRel.priv {K : KP} {α : List Addr} {H H' : Hp} {h : List O} {D' : Addr} (e : Priv D' H H') (hD : D' ∈ K.π) (hs : H' D' ≠ none) (R : HRel K α H h) : HRel K α H' h :=
  ⟨R.len, R.nd, fun p hp => ⟨(R.dis p hp).1, by
    by_cases z : p = D'
    · rw [z]; exact hs
    · rw [e.same p z]; exact (R.dis p hp).2⟩, fun i o q => by
    obtain ⟨p, ep, r⟩ := R.obj i o q
    have z : p ≠ D' := fun z => (R.dis D' hD).1 (z ▸ List.mem_of_getElem? ep)
    refine ⟨p, ep, ?_⟩
    cases r with
    | lst h t => exact .lst ((e.same p z).trans h) (t.priv e hD)
    | dT h t => exact .dT ((e.same p z).trans h) (t.priv e hD)
    | dK h t => exact .dK ((e.same p z).trans h) (t.priv e hD)
    | ins n h t => exact .ins n ((e.same p z).trans h) (t.priv e hD)⟩
theorem VT.more {K : PySem.W.Frag} {π π' : List Addr} {α : List Addr} {H : Hp} {a : Addr} {us : List V} (s : ∀ p ∈ π', p ∈ π ∨ H p = none) (h : VT ⟨K, π⟩ α H a us) : VT ⟨K, π'⟩ α H a us :=
  ⟨h.1, fun z => (s a z).elim h.2.1 (fun w => by rw [h.2.2] at w; exact nomatch w), h.2.2⟩
theorem VS.more {K : PySem.W.Frag} {π π' : List Addr} {α : List Addr} {H : Hp} {a : Addr} {us : List V} (s : ∀ p ∈ π', p ∈ π ∨ H p = none) (h : VS ⟨K, π⟩ α H a us) : VS ⟨K, π'⟩ α H a us := by
  rcases h with ⟨n, m, h⟩ | h
  · refine .inl ⟨n, fun z => ?_, h⟩
    rcases s a z with z | z
    · exact m z
    · rcases h with h | ⟨o, h⟩ <;> rw [z] at h <;> cases h
  · exact .inr h
theorem VL.more {K : PySem.W.Frag} {π π' : List Addr} {α : List Addr} {H : Hp} {a : Addr} {us : List V} (s : ∀ p ∈ π', p ∈ π ∨ H p = none) (h : VL ⟨K, π⟩ α H a us) : VL ⟨K, π'⟩ α H a us :=
  ⟨h.1, fun z => (s a z).elim h.2.1 (fun w => by rw [h.2.2] at w; exact nomatch w), h.2.2⟩
theorem VE.more {K : PySem.W.Frag} {π π' : List Addr} {α : List Addr} {H : Hp} {a : Addr} {u : HO} (s : ∀ p ∈ π', p ∈ π ∨ H p = none) (h : VE ⟨K, π⟩ α H a u) : VE ⟨K, π'⟩ α H a u :=
  ⟨h.1, fun z => (s a z).elim h.2.1 (fun w => by rw [h.2.2] at w; exact nomatch w), h.2.2⟩
theorem RelD.more {K : PySem.W.Frag} {π π' : List Addr} {α : List Addr} {H : Hp} (s : ∀ p ∈ π', p ∈ π ∨ H p = none) {d : D} {v : V} (r : RelD ⟨K, π⟩ α H d v) : RelD ⟨K, π'⟩ α H d v := r.map (K := ⟨K, π⟩) (K' := ⟨K, π'⟩) rfl (fun _ _ t => t.more s) (fun _ _ t => t.more s) (fun _ _ t => t.more s) (fun _ _ t => t.more s) (fun _ _ h => h)
theorem RelDs.more {K : PySem.W.Frag} {π π' : List Addr} {α : List Addr} {H : Hp} (s : ∀ p ∈ π', p ∈ π ∨ H p = none) {ds : List D} {us : List V} (r : RelDs ⟨K, π⟩ α H ds us) : RelDs ⟨K, π'⟩ α H ds us := r.map (K := ⟨K, π⟩) (K' := ⟨K, π'⟩) rfl (fun _ _ t => t.more s) (fun _ _ t => t.more s) (fun _ _ t => t.more s) (fun _ _ t => t.more s) (fun _ _ h => h)
theorem RelKV.more {K : PySem.W.Frag} {π π' : List Addr} {α : List Addr} {H : Hp} {κ : Type} (s : ∀ p ∈ π', p ∈ π ∨ H p = none) {ds : List (κ × D)} {us : List (κ × V)} (r : RelKV ⟨K, π⟩ α H ds us) : RelKV ⟨K, π'⟩ α H ds us := by
  induction r with
  | nil => exact .nil
  | cons h t ih => exact .cons (h.more s) ih
theorem HRel.more {K : PySem.W.Frag} {π π' : List Addr} {α : List Addr} {H : Hp} {h : List O} (s : ∀ p ∈ π', p ∈ π ∨ H p = none) (d : ∀ p ∈ π', p ∉ α ∧ H p ≠ none) (R : HRel ⟨K, π⟩ α H h) : HRel ⟨K, π'⟩ α H h :=
  ⟨R.len, R.nd, d, fun i o q => by
    obtain ⟨p, ep, r⟩ := R.obj i o q
    refine ⟨p, ep, ?_⟩
    cases r with
    | lst h t => exact .lst h (t.more s)
    | dT h t => exact .dT h (t.more s)
    | dK h t => exact .dK h (t.more s)
    | ins n h t => exact .ins n h (t.more s)⟩
noncomputable abbrev Sl := List (Option D)
noncomputable abbrev Hh := List O
noncomputable abbrev DK := D → Hh → Prop
noncomputable abbrev DE := Sl → Hh → DK → Prop
noncomputable abbrev DT := Sl → Hh → (Bool → Hh → Prop) → Prop
noncomputable abbrev DA := Sl → Hh → (List D → Hh → Prop) → Prop
noncomputable abbrev DX := Str → List (Str × Int) → Hh → Prop
structure DEnds where
  nx : Sl → Hh → Prop
  rt : DK
  bk : Sl → Hh → Prop := fun _ _ => False
  ct : Sl → Hh → Prop := fun _ _ => False
  ex : DX := fun _ _ _ => False
noncomputable abbrev DS := DEnds → Sl → Hh → Prop
noncomputable abbrev DG := D → Sl → Hh → (Sl → Hh → Prop) → Prop
noncomputable abbrev DGs := List D → Sl → Hh → (Sl → Hh → Prop) → Prop
structure RelS (K : KP) (α : List Addr) (H : Hp) (δ : Sl) (σ : St) : Prop where
  len : δ.length = σ.length
  get : ∀ (i : Nat) (d : D), δ[i]? = some (some d) → ∃ v, σ[i]? = some (some v) ∧ RelD K α H d v
theorem RelS.mono {K : KP} {α α' : List Addr} {H H' : Hp} {δ : Sl} {σ : St} (e : Ext α H α' H') (r : RelS K α H δ σ) : RelS K α' H' δ σ :=
  ⟨r.len, fun i d q => let ⟨v, h1, h2⟩ := r.get i d q; ⟨v, h1, h2.mono e⟩⟩
theorem RelS.set {K : KP} {α : List Addr} {H : Hp} {δ : Sl} {σ : St} {d : D} {v : V} (r : RelS K α H δ σ) (i : Nat) (h : RelD K α H d v) : RelS K α H (δ.set i (some d)) (σ.set i (some v)) := by
  refine ⟨by simp [r.len], fun j e q => ?_⟩
  by_cases z : i = j
  · subst z
    have hi : i < δ.length := by
      have := (List.getElem?_eq_some_iff.mp q).1
      simpa using this
    rw [List.getElem?_set_self hi] at q
    cases q
    exact ⟨v, List.getElem?_set_self (by rw [← r.len]; exact hi), h⟩
  · rw [List.getElem?_set_ne z] at q
    obtain ⟨w, h1, h2⟩ := r.get j e q
    exact ⟨w, by rw [List.getElem?_set_ne z]; exact h1, h2⟩
inductive LE (K : PySem.W.Frag) (f : DE) (σ : St) (H : Hp) (Q : VK) : Prop
  | mk (π : List Addr) (α : List Addr) (δ : Sl) (h : Hh) (Q' : DK) : HRel ⟨K, π⟩ α H h → RelS ⟨K, π⟩ α H δ σ → f δ h Q' → (∀ d h' α' H' v, Q' d h' → Ext α H α' H' → HRel ⟨K, π⟩ α' H' h' → RelD ⟨K, π⟩ α' H' d v → Q v H') → LE K f σ H Q
inductive LT (K : PySem.W.Frag) (f : DT) (σ : St) (H : Hp) (Q : Bool → Hp → Prop) : Prop
  | mk (π : List Addr) (α : List Addr) (δ : Sl) (h : Hh) (Q' : Bool → Hh → Prop) : HRel ⟨K, π⟩ α H h → RelS ⟨K, π⟩ α H δ σ → f δ h Q' → (∀ b h' α' H', Q' b h' → Ext α H α' H' → HRel ⟨K, π⟩ α' H' h' → Q b H') → LT K f σ H Q
inductive LA (K : PySem.W.Frag) (n : Nat) (f : DA) (σ : St) (H : Hp) (Q : List V → Hp → Prop) : Prop
  | mk (π : List Addr) (α : List Addr) (δ : Sl) (h : Hh) (Q' : List D → Hh → Prop) : HRel ⟨K, π⟩ α H h → RelS ⟨K, π⟩ α H δ σ → f δ h Q' → (∀ ds h' α' H' vs, Q' ds h' → Ext α H α' H' → HRel ⟨K, π⟩ α' H' h' → RelDs ⟨K, π⟩ α' H' ds vs → ds.length = n → Q vs H') → LA K n f σ H Q
structure EndsOk (K : KP) (Ex : XK) (α : List Addr) (H : Hp) (E : DEnds) (F : Ends) : Prop where
  nx : ∀ δ' h' α' H' σ', E.nx δ' h' → Ext α H α' H' → HRel K α' H' h' → RelS K α' H' δ' σ' → F.nx σ' H'
  rt : ∀ d h' α' H' v, E.rt d h' → Ext α H α' H' → HRel K α' H' h' → RelD K α' H' d v → F.rt v H'
  bk : ∀ δ' h' α' H' σ', E.bk δ' h' → Ext α H α' H' → HRel K α' H' h' → RelS K α' H' δ' σ' → F.bk σ' H'
  ct : ∀ δ' h' α' H' σ', E.ct δ' h' → Ext α H α' H' → HRel K α' H' h' → RelS K α' H' δ' σ' → F.ct σ' H'
  ex : ∀ cn fs h' α' H' C dx, E.ex cn fs h' → Ext α H α' H' → HRel K α' H' h' → PySem.W.nsIn K.K mainGlobals cn = some (some (.ref C)) → VE K α' H' dx (.ext (xDict fs dx)) → Ex (.ref C) (some dx) H'
theorem EndsOk.mono {K : KP} {Ex : XK} {α α' : List Addr} {H H' : Hp} {E : DEnds} {F : Ends} (x : EndsOk K Ex α H E F) (e : Ext α H α' H') : EndsOk K Ex α' H' E F :=
  ⟨fun _ _ _ _ _ a b c d => x.nx _ _ _ _ _ a (e.trans b) c d, fun _ _ _ _ _ a b c d => x.rt _ _ _ _ _ a (e.trans b) c d, fun _ _ _ _ _ a b c d => x.bk _ _ _ _ _ a (e.trans b) c d, fun _ _ _ _ _ a b c d => x.ct _ _ _ _ _ a (e.trans b) c d, fun _ _ _ _ _ _ _ a b c d => x.ex _ _ _ _ _ _ _ a (e.trans b) c d⟩
inductive LS (K : PySem.W.Frag) (Ex : XK) (f : DS) (F : Ends) (σ : St) (H : Hp) : Prop
  | mk (π : List Addr) (α : List Addr) (δ : Sl) (h : Hh) (E : DEnds) : HRel ⟨K, π⟩ α H h → RelS ⟨K, π⟩ α H δ σ → f E δ h → EndsOk ⟨K, π⟩ Ex α H E F → LS K Ex f F σ H
inductive LG (K : PySem.W.Frag) (f : DG) (v : V) (σ : St) (H : Hp) (Q : St → Hp → Prop) : Prop
  | mk (π : List Addr) (α : List Addr) (δ : Sl) (h : Hh) (d : D) (Q' : Sl → Hh → Prop) : HRel ⟨K, π⟩ α H h → RelS ⟨K, π⟩ α H δ σ → RelD ⟨K, π⟩ α H d v → f d δ h Q' → (∀ δ' h' α' H' σ', Q' δ' h' → Ext α H α' H' → HRel ⟨K, π⟩ α' H' h' → RelS ⟨K, π⟩ α' H' δ' σ' → Q σ' H') → LG K f v σ H Q
theorem HRel.under {K : PySem.W.Frag} {π α : List Addr} {H : Hp} {h : Hh} {p : Addr} {o : HO} (R : HRel ⟨K, π⟩ α H h) (hp : H p = none) : HRel ⟨K, p :: π⟩ α (upd H p o) h := by
  have s : ∀ q ∈ p :: π, q ∈ π ∨ H q = none := fun q hq => by
    rcases List.mem_cons.mp hq with rfl | z
    · exact .inr hp
    · exact .inl z
  refine ⟨R.len, R.nd, fun q hq => ?_, fun i ob e => ?_⟩
  · rcases List.mem_cons.mp hq with rfl | z
    · exact ⟨R.out hp, by rw [upd_same]; exact fun z => nomatch z⟩
    · exact ⟨(R.dis q z).1, fun w => (R.dis q z).2 ((Ext.new (α := α) hp).dom q w)⟩
  · obtain ⟨a, ea, r⟩ := R.obj i ob e
    refine ⟨a, ea, ?_⟩
    have k : upd H p o a = H a := upd_ne fun z => R.out hp (z ▸ List.mem_of_getElem? ea)
    have e2 : Ext α H α (upd H p o) := Ext.new hp
    cases r with
    | lst h t => exact .lst (k.trans h) ((t.more s).mono e2)
    | dT h t => exact .dT (k.trans h) ((t.more s).mono e2)
    | dK h t => exact .dK (k.trans h) ((t.more s).mono e2)
    | ins n h t => exact .ins n (k.trans h) ((t.more s).mono e2)
theorem HRel.less {K : PySem.W.Frag} {π α : List Addr} {H : Hp} {h : Hh} {p : Addr} (R : HRel ⟨K, p :: π⟩ α H h) : HRel ⟨K, π⟩ α H h :=
  R.more (fun q hq => .inl (List.mem_cons_of_mem _ hq)) fun q hq => R.dis q (List.mem_cons_of_mem _ hq)
theorem RelS.more {K : PySem.W.Frag} {π π' α : List Addr} {H : Hp} {δ : Sl} {σ : L2.St} (s : ∀ p ∈ π', p ∈ π ∨ H p = none) (S : RelS ⟨K, π⟩ α H δ σ) : RelS ⟨K, π'⟩ α H δ σ :=
  ⟨S.len, fun i d q => let ⟨v, a, b⟩ := S.get i d q; ⟨v, a, b.more s⟩⟩
theorem RelS.priv {K : KP} {α : List Addr} {H H' : Hp} {δ : Sl} {σ : L2.St} {D' : Addr} (e : Priv D' H H') (hD : D' ∈ K.π) (S : RelS K α H δ σ) : RelS K α H' δ σ :=
  ⟨S.len, fun i d q => let ⟨v, a, b⟩ := S.get i d q; ⟨v, a, b.priv e hD⟩⟩
theorem Ext.grow {α α' : List Addr} {H H' : Hp} {p : Addr} {o : HO} (e : Ext α H α' H') (hp : H p = none) : Ext α H α' (upd H' p o) :=
  ⟨e.pre, fun b u q n => by rw [upd_ne (ne_of_none q hp)]; exact e.keep b u q n, fun b q => by
    by_cases z : b = p
    · subst z; exact hp
    · rw [upd_ne z] at q; exact e.dom b q⟩
theorem VT.adopt {K : PySem.W.Frag} {π α : List Addr} {H : Hp} {p a : Addr} {us : List V} (h : VT ⟨K, p :: π⟩ α H a us) : VT ⟨K, π⟩ (α ++ [p]) H a us :=
  ⟨fun z => (List.mem_append.mp z).elim h.1 fun z => h.2.1 (by rw [List.mem_singleton.mp z]; exact List.mem_cons_self), fun z => h.2.1 (List.mem_cons_of_mem _ z), h.2.2⟩
theorem VS.adopt {K : PySem.W.Frag} {π α : List Addr} {H : Hp} {p a : Addr} {us : List V} (h : VS ⟨K, p :: π⟩ α H a us) : VS ⟨K, π⟩ (α ++ [p]) H a us := by
  rcases h with ⟨n, m, h⟩ | h
  · refine .inl ⟨fun z => ?_, fun z => m (List.mem_cons_of_mem _ z), h⟩
    rcases List.mem_append.mp z with z | z
    · exact n z
    · exact m (by rw [List.mem_singleton.mp z]; exact List.mem_cons_self)
  · exact .inr h
theorem VL.adopt {K : PySem.W.Frag} {π α : List Addr} {H : Hp} {p a : Addr} {us : List V} (h : VL ⟨K, p :: π⟩ α H a us) : VL ⟨K, π⟩ (α ++ [p]) H a us :=
  ⟨fun z => (List.mem_append.mp z).elim h.1 fun z => h.2.1 (by rw [List.mem_singleton.mp z]; exact List.mem_cons_self), fun z => h.2.1 (List.mem_cons_of_mem _ z), h.2.2⟩
theorem VE.adopt {K : PySem.W.Frag} {π α : List Addr} {H : Hp} {p a : Addr} {u : HO} (h : VE ⟨K, p :: π⟩ α H a u) : VE ⟨K, π⟩ (α ++ [p]) H a u :=
  ⟨fun z => (List.mem_append.mp z).elim h.1 fun z => h.2.1 (by rw [List.mem_singleton.mp z]; exact List.mem_cons_self), fun z => h.2.1 (List.mem_cons_of_mem _ z), h.2.2⟩
theorem get_app {α : List Addr} {p a : Addr} {i : Nat} (h : α[i]? = some a) : (α ++ [p])[i]? = some a := by
  rw [List.getElem?_append_left (List.getElem?_eq_some_iff.mp h).1]; exact h
theorem RelD.adopt {K : PySem.W.Frag} {π α : List Addr} {H : Hp} {p : Addr} {d : D} {v : V} (r : RelD ⟨K, p :: π⟩ α H d v) : RelD ⟨K, π⟩ (α ++ [p]) H d v := r.map (K := ⟨K, p :: π⟩) (K' := ⟨K, π⟩) (α' := α ++ [p]) (H' := H) rfl (fun _ _ t => t.adopt) (fun _ _ t => t.adopt) (fun _ _ t => t.adopt) (fun _ _ t => t.adopt) (fun _ _ h => get_app h)
theorem RelDs.adopt {K : PySem.W.Frag} {π α : List Addr} {H : Hp} {p : Addr} {ds : List D} {us : List V} (r : RelDs ⟨K, p :: π⟩ α H ds us) : RelDs ⟨K, π⟩ (α ++ [p]) H ds us := r.map (K := ⟨K, p :: π⟩) (K' := ⟨K, π⟩) (α' := α ++ [p]) (H' := H) rfl (fun _ _ t => t.adopt) (fun _ _ t => t.adopt) (fun _ _ t => t.adopt) (fun _ _ t => t.adopt) (fun _ _ h => get_app h)
theorem RelKV.adopt {K : PySem.W.Frag} {π α : List Addr} {H : Hp} {p : Addr} {κ : Type} {ds : List (κ × D)} {us : List (κ × V)} (r : RelKV ⟨K, p :: π⟩ α H ds us) : RelKV ⟨K, π⟩ (α ++ [p]) H ds us := by
  induction r with
  | nil => exact .nil
  | cons h t ih => exact .cons h.adopt ih
theorem HRel.adopt {K : PySem.W.Frag} {π α : List Addr} {H : Hp} {h : Hh} {p : Addr} {u : O} (R : HRel ⟨K, p :: π⟩ α H h) (np : p ∉ π) (r : RelO' ⟨K, π⟩ (α ++ [p]) H p u) : HRel ⟨K, π⟩ (α ++ [p]) H (h ++ [u]) := by
  have hp := R.dis p List.mem_cons_self
  refine ⟨by simp [R.len], ?_, fun q hq => ⟨fun z => ?_, (R.dis q (List.mem_cons_of_mem _ hq)).2⟩, fun i v q => ?_⟩
  · rw [List.nodup_append]
    exact ⟨R.nd, by simp, fun a ha b hb => by rw [List.mem_singleton.mp hb]; exact fun z => hp.1 (z ▸ ha)⟩
  · rcases List.mem_append.mp z with z | z
    · exact (R.dis q (List.mem_cons_of_mem _ hq)).1 z
    · rw [List.mem_singleton.mp z] at hq; exact np hq
  · by_cases hi : i < h.length
    · rw [List.getElem?_append_left hi] at q
      obtain ⟨a, ea, ra⟩ := R.obj i v q
      refine ⟨a, get_app ea, ?_⟩
      cases ra with
      | lst h t => exact .lst h t.adopt
      | dT h t => exact .dT h t.adopt
      | dK h t => exact .dK h t.adopt
      | ins n h t => exact .ins n h t.adopt
    · have hi' : i = h.length := by
        have := (List.getElem?_eq_some_iff.mp q).1
        rw [List.length_append, List.length_singleton] at this; omega
      subst hi'
      rw [List.getElem?_append_right (Nat.le_refl _)] at q
      simp at q; subst q
      exact ⟨p, by rw [List.getElem?_append_right (by rw [R.len]; exact Nat.le_refl _), R.len]; simp, r⟩
theorem Ext.adopt {α α' : List Addr} {H H' : Hp} {p : Addr} (e : Ext α H α' H') (hp : H p = none) : Ext α H (α' ++ [p]) H' := by
  refine ⟨?_, e.keep, e.dom⟩
  obtain ⟨⟨β, rfl, hb⟩, _⟩ := e
  exact ⟨β ++ [p], by simp, fun q hq => by
    rcases List.mem_append.mp hq with z | z
    · exact hb q z
    · rw [List.mem_singleton.mp z]; exact hp⟩
section
variable (X : Cx)
noncomputable def SE (e : Expr) (f : DE) : Prop := PE X e (LE X.K f)
noncomputable def ST (e : Expr) (f : DT) : Prop := PT X e (LT X.K f)
noncomputable def SW (e : Expr) (f : DT) : Prop := PW X e (LT X.K f)
noncomputable def SA (es : List Expr) (n : Nat) (f : DA) : Prop := PA X es (LA X.K n f)
noncomputable def SS (s : Stmt) (f : DS) : Prop := PS X s (LS X.K X.ex9 f)
noncomputable def SSs (ss : List Stmt) (f : DS) : Prop := PSs X ss (LS X.K X.ex9 f)
noncomputable def SG (t : Expr) (f : DG) : Prop := PG X t (LG X.K f)
end
section
variable {X : Cx}
theorem PE.imp {e : Expr} {t t' : TE} (h : PE X e t) (k : ∀ σ H Q, t' σ H Q → t σ H Q) : PE X e t' := fun pins s σ H Q I q => h pins s σ H Q I (k σ H Q q)
theorem PT.imp {e : Expr} {t t' : TT} (h : PT X e t) (k : ∀ σ H Q, t' σ H Q → t σ H Q) : PT X e t' := fun pins s σ H Q I q => h pins s σ H Q I (k σ H Q q)
theorem PW.imp {e : Expr} {t t' : TT} (h : PW X e t) (k : ∀ σ H Q, t' σ H Q → t σ H Q) : PW X e t' := fun wh pins s σ H Q I q => h wh pins s σ H Q I (k σ H Q q)
theorem PA.imp {es : List Expr} {t t' : TA} (h : PA X es t) (k : ∀ σ H Q, t' σ H Q → t σ H Q) : PA X es t' := fun pos pins s σ H Q I q => h pos pins s σ H Q I (k σ H Q q)
theorem PS.imp {e : Stmt} {t t' : TS} (h : PS X e t) (k : ∀ F σ H, t' F σ H → t F σ H) : PS X e t' := fun pins s σ H F I q => h pins s σ H F I (k F σ H q)
theorem PSs.imp {e : List Stmt} {t t' : TS} (h : PSs X e t) (k : ∀ F σ H, t' F σ H → t F σ H) : PSs X e t' := fun pins s σ H F I q => h pins s σ H F I (k F σ H q)
theorem PG.imp {e : Expr} {t t' : TG} (h : PG X e t) (k : ∀ v σ H Q, t' v σ H Q → t v σ H Q) : PG X e t' := fun pins s σ H v u Q I r q => h pins s σ H v u Q I r (k v σ H Q q)
end
end DL
namespace DL
open PySem PySem.Spec L2
noncomputable def dVar (i : Nat) : DE := fun δ h Q => match δ[i]? with | some (some d) => Q d h | _ => False
noncomputable def dC (d : D) : DE := fun _ h Q => Q d h
noncomputable abbrev P1 := D → Hh → DK → Prop
noncomputable abbrev P2 := D → D → Hh → DK → Prop
noncomputable abbrev PN := List D → Hh → DK → Prop
noncomputable def dUn (p : P1) (a : DE) : DE := fun δ h Q => a δ h fun x h1 => p x h1 Q
noncomputable def dOp (p : P2) (a b : DE) : DE := fun δ h Q => a δ h fun x h1 => b δ h1 fun y h2 => p x y h2 Q
inductive r1 (K : PySem.W.Frag) (p : P1) (x : V) (H : Hp) (Q : VK) : Prop
  | mk (π : List Addr) (α : List Addr) (h : Hh) (d : D) (Q' : DK) : HRel ⟨K, π⟩ α H h → RelD ⟨K, π⟩ α H d x → p d h Q' → (∀ d h' α' H' v, Q' d h' → Ext α H α' H' → HRel ⟨K, π⟩ α' H' h' → RelD ⟨K, π⟩ α' H' d v → Q v H') → r1 K p x H Q
inductive r2 (K : PySem.W.Frag) (p : P2) (x y : V) (H : Hp) (Q : VK) : Prop
  | mk (π : List Addr) (α : List Addr) (h : Hh) (d e : D) (Q' : DK) : HRel ⟨K, π⟩ α H h → RelD ⟨K, π⟩ α H d x → RelD ⟨K, π⟩ α H e y → p d e h Q' → (∀ d h' α' H' v, Q' d h' → Ext α H α' H' → HRel ⟨K, π⟩ α' H' h' → RelD ⟨K, π⟩ α' H' d v → Q v H') → r2 K p x y H Q
inductive rN (K : PySem.W.Frag) (p : PN) (xs : List V) (H : Hp) (Q : VK) : Prop
  | mk (π : List Addr) (α : List Addr) (h : Hh) (ds : List D) (Q' : DK) : HRel ⟨K, π⟩ α H h → RelDs ⟨K, π⟩ α H ds xs → p ds h Q' → (∀ d h' α' H' v, Q' d h' → Ext α H α' H' → HRel ⟨K, π⟩ α' H' h' → RelD ⟨K, π⟩ α' H' d v → Q v H') → rN K p xs H Q
section
variable {K : PySem.W.Frag} {σ : L2.St} {H : Hp} {Q : VK}
theorem un_lift {p : P1} {fa : DE} (g : LE K (dUn p fa) σ H Q) : LE K fa σ H fun x H1 => r1 K p x H1 Q := by
  obtain ⟨π, α, δ, h, Q', R, S, f, k⟩ := g
  exact ⟨π, α, δ, h, _, R, S, f, fun x h1 α1 H1 v1 f1 e1 R1 q1 => ⟨π, α1, h1, x, Q', R1, q1, f1, fun d h' α' H' v a b c d' => k d h' α' H' v a (e1.trans b) c d'⟩⟩
theorem op_lift {p : P2} {fa fb : DE} (g : LE K (dOp p fa fb) σ H Q) : LE K fa σ H fun x H1 => LE K fb σ H1 fun y H2 => r2 K p x y H2 Q := by
  obtain ⟨π, α, δ, h, Q', R, S, f, k⟩ := g
  refine ⟨π, α, δ, h, _, R, S, f, fun x h1 α1 H1 v1 f1 e1 R1 q1 => ?_⟩
  refine ⟨π, α1, δ, h1, _, R1, S.mono e1, f1, fun y h2 α2 H2 v2 f2 e2 R2 q2 => ?_⟩
  exact ⟨π, α2, h2, x, y, Q', R2, q1.mono e2, q2, f2, fun d h' α' H' v a b c d' => k d h' α' H' v a (e1.trans (e2.trans b)) c d'⟩
end
theorem OpR.imp {X : Cx} {f : Value → Value → Sem Value} {r r' : R2} (h : OpR X f r) (k : ∀ x y H Q, r' x y H Q → r x y H Q) : OpR X f r' := fun pins s σ H x y v u Q I rx ry q => h pins s σ H x y v u Q I rx ry (k x y H Q q)
theorem UnR.imp {X : Cx} {f : Value → Sem Value} {r r' : V → Hp → VK → Prop} (h : UnR X f r) (k : ∀ x H Q, r' x H Q → r x H Q) : UnR X f r' := fun pins s σ H x v Q I rx q => h pins s σ H x v Q I rx (k x H Q q)
theorem IxR.imp {X : Cx} {r r' : R2} (h : IxR X r) (k : ∀ x y H Q, r' x y H Q → r x y H Q) : IxR X r' := fun va sl pins s σ H x y v u Q I rx ry q => h va sl pins s σ H x y v u Q I rx ry (k x y H Q q)
theorem CallR.imp {X : Cx} {f : Value} {r r' : List V → Hp → VK → Prop} (h : CallR X f r) (k : ∀ x H Q, r' x H Q → r x H Q) : CallR X f r' := fun pins s σ H xs us Q I rx q => h pins s σ H xs us Q I rx (k xs H Q q)
noncomputable def lsOf (h : Hh) : D → Option (List D)
  | .lst xs => some xs
  | .scr xs => some xs
  | .ref i => match h[i]? with | some (.lst xs) => some xs | _ => none
  | _ => none
section
variable {K : KP} {α : List Addr} {H : Hp} {h : Hh}
theorem lsOf_sq (R : HRel K α H h) : ∀ {d : D} {v : V} {xs : List D}, RelD K α H d v → lsOf h d = some xs → ∃ p us, v = .ref p ∧ SqL K.K H p us ∧ RelDs K α H xs us
  | _, _, _, .lst t r, e => by cases e; exact ⟨_, _, rfl, t.sq, r⟩
  | _, _, _, .scr t r, e => by cases e; exact ⟨_, _, rfl, t.sq, r⟩
  | _, _, xs, .ref (i := i) hp, e => by
    have e : (match h[i]? with | some (.lst xs) => some xs | _ => none) = some xs := e
    cases q : h[i]? with
    | none => rw [q] at e; cases e
    | some o =>
      rw [q] at e
      cases o with
      | lst ys =>
        cases e
        obtain ⟨p, us, e1, e2, e3⟩ := R.lst q
        rw [hp] at e1; cases e1
        exact ⟨_, us, rfl, SqL.of e2, e3⟩
      | _ => cases e
  | _, _, _, .non, e => nomatch e
  | _, _, _, .bl _, e => nomatch e
  | _, _, _, .int _, e => nomatch e
  | _, _, _, .str _, e => nomatch e
  | _, _, _, .tup _ _, e => nomatch e
theorem tup_sq {d : List D} {v : V} (r : RelD K α H (.tup d) v) : ∃ p us, v = .ref p ∧ SqT K.K H p us ∧ RelDs K α H d us := by
  cases r with
  | tup t r => exact ⟨_, _, rfl, t.sq, r⟩
end
section
variable {X : Cx} {a b c e : Expr} {fa fb fc : DE} {pos : Pos}
theorem sv (i : Nat) {x : Str} {pos : Pos} (hN : X.N[i]? = some x := by rfl) (hv : Vis X.env.scope x := by trivial) (hd : (x == ("__debug__" : Str)) = false := by decide)
    (hcd : (x == ("__classdict__" : Str)) = false := by decide) : SE X (.Name x pos) (dVar i) := PE.imp (pe_var hN hv hd hcd) fun σ H Q ⟨π, α, δ, h, Q', R, S, f, k⟩ => by
  unfold dVar at f
  split at f
  · rename_i d e
    obtain ⟨v, h1, h2⟩ := S.get i d e
    exact ⟨v, h1, k d h α H v f (Ext.refl ..) R h2⟩
  · exact f.elim
theorem sc_lift {v : V} {d : D} (r : ∀ π α H, RelD ⟨X.K, π⟩ α H d v) (h : PE X e (tC v)) : SE X e (dC d) := PE.imp h fun σ H Q ⟨π, α, δ, h, Q', R, S, f, k⟩ => k d h α H v f (Ext.refl ..) R (r π α H)
theorem se_int {i j pos} : SE X (.Constant (.int i) j pos) (dC (.int i)) := sc_lift (fun _ _ _ => .int i) pe_int
theorem se_bl {i j pos} : SE X (.Constant (.bool i) j pos) (dC (.bl i)) := sc_lift (fun _ _ _ => .bl i) pe_bl
theorem se_non {j pos} : SE X (.Constant .none j pos) (dC .non) := sc_lift (fun _ _ _ => .non) pe_non
theorem se_str {i j pos} : SE X (.Constant (.str i) j pos) (dC (.str i)) := sc_lift (fun _ _ _ => .str i) pe_str
theorem se_globI {x : Str} {i : Int} (hg : Gl X x) (hm : ∃ t, X.mg x = some (.int i t)) (hd : (x == ("__debug__" : Str)) = false := by decide) : SE X (.Name x pos) (dC (.int i)) := by
  obtain ⟨t, hm⟩ := hm
  exact sc_lift (fun _ _ _ => .int i) (pe_glob hg hm ⟨t, rfl⟩ hd)
theorem se_op {op : Operator} {p : P2} (ho : OpR X (binaryOp op) (r2 X.K p)) (ha : SE X a fa) (hb : SE X b fb) : SE X (.BinOp a op b pos) (dOp p fa fb) := PE.imp (pe_op ho ha hb) fun _ _ _ g => op_lift g
theorem se_un {op : UnaryOp} {p : P1} (ho : UnR X (unaryOp op) (r1 X.K p)) (ha : SE X a fa) : SE X (.UnaryOp op a pos) (dUn p fa) := PE.imp (pe_un ho ha) fun _ _ _ g => un_lift g
theorem se_ix {p : P2} (ho : IxR X (r2 X.K p)) (ha : SE X a fa) (hb : SE X b fb) (hs : PlainIx b) : SE X (.Subscript a b pos) (dOp p fa fb) := PE.imp (pe_ix ho ha hb hs) fun _ _ _ g => op_lift g
theorem se_cmp {op : CmpOp} {p : P2} (ho : OpR X (compareOp op) (r2 X.K p)) (ha : SE X a fa) (hb : SE X b fb) (hm : behindInMarks op b = false) : SE X (.Compare a [op] [b] pos) (dOp p fa fb) := PE.imp (pe_cmpR ho ha hb hm) fun _ _ _ g => op_lift g
noncomputable def dTst (f : DE) : DT := fun δ h Q => f δ h fun d h' => match d with | .bl b => Q b h' | _ => False
theorem tst_lift {K : PySem.W.Frag} {f : DE} {σ : L2.St} {H : Hp} {Q : Bool → Hp → Prop} (g : LT K (dTst f) σ H Q) : LE K f σ H fun x H' => ∃ k, x = .bl k ∧ Q k H' := by
  obtain ⟨π, α, δ, h, Q', R, S, f, k⟩ := g
  refine ⟨π, α, δ, h, _, R, S, f, fun d h1 α1 H1 v1 f1 e1 R1 q1 => ?_⟩
  cases q1 with
  | bl b => exact ⟨b, rfl, k b h1 α1 H1 f1 e1 R1⟩
  | _ => exact f1.elim
theorem st_cmp {op : CmpOp} {p : P2} (ho : OpR X (compareOp op) (r2 X.K p)) (ha : SE X a fa) (hb : SE X b fb) (hm : behindInMarks op b = false) : ST X (.Compare a [op] [b] pos) (dTst (dOp p fa fb)) := PT.imp (pt_cmpR ho ha hb hm) fun _ _ _ g => by
  obtain ⟨π, α, δ, h, Q', R, S, f, k⟩ := tst_lift g
  exact op_lift (Q := fun x H' => ∃ k, x = .bl k ∧ _) ⟨π, α, δ, h, Q', R, S, f, k⟩
noncomputable def dChain (p q : P2) (a b c : DE) : DE := fun δ h Q => a δ h fun x h1 => b δ h1 fun y h2 => p x y h2 fun z h3 => match z with
  | .bl k => if k = true then c δ h3 fun w h4 => q y w h4 Q else Q (.bl false) h3
  | _ => False
theorem chain_lift {K : PySem.W.Frag} {p q : P2} {σ : L2.St} {H : Hp} {Q : VK} (g : LE K (dChain p q fa fb fc) σ H Q) : tChain (r2 K p) (r2 K q) (LE K fa) (LE K fb) (LE K fc) σ H Q := by
  obtain ⟨π, α, δ, h, Q', R, S, f, k⟩ := g
  refine ⟨π, α, δ, h, _, R, S, f, fun x h1 α1 H1 v1 f1 e1 R1 q1 => ?_⟩
  refine ⟨π, α1, δ, h1, _, R1, S.mono e1, f1, fun y h2 α2 H2 v2 f2 e2 R2 q2 => ?_⟩
  refine ⟨π, α2, h2, x, y, _, R2, q1.mono e2, q2, f2, fun z h3 α3 H3 v3 f3 e3 R3 q3 => ?_⟩
  cases q3 with
  | bl b =>
    refine ⟨b, rfl, ?_⟩
    cases b with
    | false => exact iteF (k _ _ _ _ _ (by simpa using f3) (e1.trans (e2.trans e3)) R3 (.bl false))
    | true =>
      have f3 : fc δ h3 fun w h4 => q y w h4 Q' := by simpa using f3
      refine iteT ⟨π, α3, δ, h3, _, R3, S.mono (e1.trans (e2.trans e3)), f3, fun w h4 α4 H4 v4 f4 e4 R4 q4 => ?_⟩
      exact ⟨π, α4, h4, y, w, Q', R4, q2.mono (e3.trans e4), q4, f4, fun d h' α' H' v a b c d' => k d h' α' H' v a (e1.trans (e2.trans (e3.trans (e4.trans b)))) c d'⟩
  | _ => exact f3.elim
theorem se_chain {op op' : CmpOp} {p q : P2} (ho : OpR X (compareOp op) (r2 X.K p)) (ho' : OpR X (compareOp op') (r2 X.K q)) (ha : SE X a fa) (hb : SE X b fb) (hc : SE X c fc)
    (hm : lastMarks [op, op'] [b, c] = false := by with_unfolding_all rfl) : SE X (.Compare a [op, op'] [b, c] pos) (dChain p q fa fb fc) := PE.imp (pe_chain ho ho' ha hb hc hm) fun _ _ _ g => chain_lift g
theorem st_chain {op op' : CmpOp} {p q : P2} (ho : OpR X (compareOp op) (r2 X.K p)) (ho' : OpR X (compareOp op') (r2 X.K q)) (ha : SE X a fa) (hb : SE X b fb) (hc : SE X c fc)
    (hm : lastMarks [op, op'] [b, c] = false := by with_unfolding_all rfl) : ST X (.Compare a [op, op'] [b, c] pos) (dTst (dChain p q fa fb fc)) := PT.imp (pt_chain ho ho' ha hb hc hm) fun _ _ _ g => by
  obtain ⟨π, α, δ, h, Q', R, S, f, k⟩ := tst_lift g
  exact chain_lift (Q := fun x H' => ∃ k, x = .bl k ∧ _) ⟨π, α, δ, h, Q', R, S, f, k⟩
noncomputable def trD (h : Hh) : D → Option Bool
  | .non => some false
  | .bl b => some b
  | .int i => some (i != 0)
  | .str x => if x.length ≤ 16777216 then some ((x.length : Int) != 0) else none
  | .tup xs => some (!xs.isEmpty)
  | .lst xs => some (!xs.isEmpty)
  | .scr xs => some (!xs.isEmpty)
  | .ref i => match h[i]? with | some (.lst xs) => some (!xs.isEmpty) | _ => none
  | .exc _ _ => none
noncomputable def dTr (f : DE) : DT := fun δ h Q => f δ h fun d h' => match trD h' d with | some b => Q b h' | none => False
theorem isEmpty_rel {K : KP} {α : List Addr} {H : Hp} {ds : List D} {us : List V} (r : RelDs K α H ds us) : ds.isEmpty = us.isEmpty := by cases r <;> rfl
theorem tr_ok {K : KP} {α : List Addr} {H : Hp} {h : Hh} (R : HRel K α H h) {d : D} {v : V} {k : Bool} (r : RelD K α H d v) (e : trD h d = some k) : TruV K.K v H k := by
  cases r with
  | non => cases e; exact rfl
  | bl b => cases e; exact rfl
  | int i => cases e; exact rfl
  | str x =>
    have e : (if x.length ≤ 16777216 then some ((x.length : Int) != 0) else none) = some k := e
    split at e
    · rename_i hl
      cases e
      exact ⟨by rw [sizeLine_eq]; exact hl, rfl⟩
    · cases e
  | tup t r => cases e; exact .inr (.inl ⟨_, t.sq, by rw [isEmpty_rel r]⟩)
  | lst t r => cases e; exact .inl ⟨_, t.sq, by rw [isEmpty_rel r]⟩
  | scr t r => cases e; exact .inl ⟨_, t.sq, by rw [isEmpty_rel r]⟩
  | exc _ _ _ => cases e
  | @ref i a hp =>
    have e : (match h[i]? with | some (.lst xs) => some (!xs.isEmpty) | _ => none) = some k := e
    cases q : h[i]? with
    | none => rw [q] at e; cases e
    | some o =>
      rw [q] at e
      cases o with
      | lst ys =>
        cases e
        obtain ⟨p, us, e1, e2, e3⟩ := R.lst q
        rw [hp] at e1; cases e1
        exact .inl ⟨us, SqL.of e2, by rw [isEmpty_rel e3]⟩
      | _ => cases e
theorem st_truth (ha : SE X a fa) (he : ∀ whole, isTrue a X.env whole = (do let v ← whole; standAt a.pos; holding [v] (truthy v)) := by intro _; rfl) : ST X a (dTr fa) := PT.imp (pt_truth ha he) fun σ H Q ⟨π, α, δ, h, Q', R, S, f, k⟩ => by
  refine ⟨π, α, δ, h, _, R, S, f, fun d h1 α1 H1 v1 f1 e1 R1 q1 => ?_⟩
  cases q : trD h1 d with
  | none => rw [q] at f1; exact f1.elim
  | some b => rw [q] at f1; exact ⟨b, tr_ok R1 q1 q, k b h1 α1 H1 f1 e1 R1⟩
noncomputable def dAnd (t u : DT) : DT := fun δ h Q => t δ h fun c h1 => if c = true then u δ h1 Q else Q false h1
noncomputable def dOr (t u : DT) : DT := fun δ h Q => t δ h fun c h1 => if c = true then Q true h1 else u δ h1 Q
noncomputable def dNot (t : DT) : DT := fun δ h Q => t δ h fun c h1 => Q (!c) h1
variable {ga gb : DT} {rest : List Expr}
theorem sw_and1 (ha : ST X a ga) : SW X (.BoolOp .And [a] pos) ga := pw_and1 ha
theorem sw_or1 (ha : ST X a ga) : SW X (.BoolOp .Or [a] pos) ga := pw_or1 ha
theorem sw_and (ha : ST X a ga) (hb : SW X (.BoolOp .And (b :: rest) pos) gb) : SW X (.BoolOp .And (a :: b :: rest) pos) (dAnd ga gb) := PW.imp (pw_and ha hb) fun σ H Q ⟨π, α, δ, h, Q', R, S, f, k⟩ => by
  refine ⟨π, α, δ, h, _, R, S, f, fun c h1 α1 H1 f1 e1 R1 => ?_⟩
  cases c with
  | true => exact iteT ⟨π, α1, δ, h1, Q', R1, S.mono e1, by simpa using f1, fun b h' α' H' a e c => k b h' α' H' a (e1.trans e) c⟩
  | false => exact iteF (k false h1 α1 H1 (by simpa using f1) e1 R1)
theorem sw_or (ha : ST X a ga) (hb : SW X (.BoolOp .Or (b :: rest) pos) gb) : SW X (.BoolOp .Or (a :: b :: rest) pos) (dOr ga gb) := PW.imp (pw_or ha hb) fun σ H Q ⟨π, α, δ, h, Q', R, S, f, k⟩ => by
  refine ⟨π, α, δ, h, _, R, S, f, fun c h1 α1 H1 f1 e1 R1 => ?_⟩
  cases c with
  | true => exact iteT (k true h1 α1 H1 (by simpa using f1) e1 R1)
  | false => exact iteF ⟨π, α1, δ, h1, Q', R1, S.mono e1, by simpa using f1, fun b h' α' H' a e c => k b h' α' H' a (e1.trans e) c⟩
theorem st_w (h : SW X e ga) : ST X e ga := PW.pt h
theorem st_not (ha : ST X a ga) : ST X (.UnaryOp .Not a pos) (dNot ga) := PT.imp (pt_not ha) fun σ H Q ⟨π, α, δ, h, Q', R, S, f, k⟩ => ⟨π, α, δ, h, _, R, S, f, fun c h1 α1 H1 f1 e1 R1 => k (!c) h1 α1 H1 f1 e1 R1⟩
noncomputable def dAndV (a b : DE) : DE := fun δ h Q => a δ h fun x h1 => match x with | .bl k => if k = true then b δ h1 Q else Q (.bl false) h1 | _ => False
noncomputable def dOrV (a b : DE) : DE := fun δ h Q => a δ h fun x h1 => match x with | .bl k => if k = true then Q (.bl true) h1 else b δ h1 Q | _ => False
noncomputable def dNotV (a : DE) : DE := fun δ h Q => a δ h fun x h1 => match x with | .bl b => Q (.bl (!b)) h1 | _ => False
theorem se_one {op} (h : SE X a fa) : SE X (.BoolOp op [a] pos) fa := pe_one h
theorem se_and (ha : SE X a fa) (hb : SE X (.BoolOp .And (b :: rest) pos) fb) : SE X (.BoolOp .And (a :: b :: rest) pos) (dAndV fa fb) := PE.imp (pe_and ha hb) fun σ H Q ⟨π, α, δ, h, Q', R, S, f, k⟩ => by
  refine ⟨π, α, δ, h, _, R, S, f, fun x h1 α1 H1 v1 f1 e1 R1 q1 => ?_⟩
  cases q1 with
  | bl c =>
    refine ⟨c, rfl, ?_⟩
    cases c with
    | true => exact iteT ⟨π, α1, δ, h1, Q', R1, S.mono e1, by simpa using f1, fun d h' α' H' v a e c d' => k d h' α' H' v a (e1.trans e) c d'⟩
    | false => exact iteF (k _ h1 α1 H1 _ (by simpa using f1) e1 R1 (.bl false))
  | _ => exact f1.elim
theorem se_not (ha : SE X a fa) : SE X (.UnaryOp .Not a pos) (dNotV fa) := PE.imp (pe_not ha) fun σ H Q ⟨π, α, δ, h, Q', R, S, f, k⟩ => by
  refine ⟨π, α, δ, h, _, R, S, f, fun x h1 α1 H1 v1 f1 e1 R1 q1 => ?_⟩
  cases q1 with
  | bl c => exact ⟨c, rfl, k _ h1 α1 H1 _ f1 e1 R1 (.bl (!c))⟩
  | _ => exact f1.elim
noncomputable def dIf (t : DT) (a b : DE) : DE := fun δ h Q => t δ h fun c h1 => if c = true then a δ h1 Q else b δ h1 Q
noncomputable def dNil : DA := fun _ h Q => Q [] h
noncomputable def dCons (a : DE) (r : DA) : DA := fun δ h Q => a δ h fun x h1 => r δ h1 fun xs h2 => Q (x :: xs) h2
variable {es : List Expr} {n : Nat} {fs : DA}
theorem sa_nil : SA X [] 0 dNil := PA.imp pa_nil fun σ H Q ⟨π, α, δ, h, Q', R, S, f, k⟩ => k [] h α H [] f (Ext.refl ..) R .nil rfl
theorem sa_cons (ha : SE X e fa) (hr : SA X es n fs) (hs : starEach (e :: es) X.env = (false, eval e X.env) :: starEach es X.env := by rfl) : SA X (e :: es) (n + 1) (dCons fa fs) := PA.imp (pa_cons ha hr hs) fun σ H Q ⟨π, α, δ, h, Q', R, S, f, k⟩ => by
  refine ⟨π, α, δ, h, _, R, S, f, fun x h1 α1 H1 v1 f1 e1 R1 q1 => ?_⟩
  refine ⟨π, α1, δ, h1, _, R1, S.mono e1, f1, fun ds h2 α2 H2 vs f2 e2 R2 q2 l2 => ?_⟩
  exact k (x :: ds) h2 α2 H2 (v1 :: vs) f2 (e1.trans e2) R2 (.cons (q1.mono e2) q2) (by rw [List.length_cons, l2])
noncomputable def dTup (f : DA) : DE := fun δ h Q => f δ h fun ds h1 => Q (.tup ds) h1
noncomputable abbrev DN := Sl → Hh → (List D → Hh → Prop) → Prop
inductive LN (K : PySem.W.Frag) (f : DN) (σ : St) (H : Hp) (Q : VK) : Prop
  | mk (π : List Addr) (α : List Addr) (δ : Sl) (h : Hh) (Q' : List D → Hh → Prop) : HRel ⟨K, π⟩ α H h → RelS ⟨K, π⟩ α H δ σ → f δ h Q' → (∀ ds h' α' H' us p, Q' ds h' → Ext α H α' H' → HRel ⟨K, p :: π⟩ α' H' h' → RelDs ⟨K, p :: π⟩ α' H' ds us → H' p = some (.lst us) → H p = none → p ∉ π → Q (.ref p) H') → LN K f σ H Q
theorem LN.last {K : PySem.W.Frag} {π α α' : List Addr} {H H' : Hp} {h h' : Hh} {Q : VK} {Q' : List D → Hh → Prop} (k : ∀ ds h' α' H' us p, Q' ds h' → Ext α H α' H' → HRel ⟨K, p :: π⟩ α' H' h' → RelDs ⟨K, p :: π⟩ α' H' ds us → H' p = some (.lst us) → H p = none → p ∉ π → Q (.ref p) H')
    {ds : List D} {us : List V} {p : Addr} (f : Q' ds h') (e : Ext α H α' H') (R : HRel ⟨K, π⟩ α' H' h') (r : RelDs ⟨K, π⟩ α' H' ds us) (hp : H' p = none) : Q (.ref p) (upd H' p (.lst us)) := by
  have e2 : Ext α' H' α' (upd H' p (.lst us)) := Ext.new hp
  refine k ds h' α' _ us p f (e.trans e2) (R.under hp) ((r.more fun q hq => ?_).mono e2) upd_same (e.dom p hp) (R.outP hp)
  rcases List.mem_cons.mp hq with rfl | z
  · exact .inr hp
  · exact .inl z
noncomputable def SN (X : Cx) (e : Expr) (f : DN) : Prop := PE X e (LN X.K f)
noncomputable def dV (f : DN) : DE := fun δ h Q => f δ h fun ds h' => Q (.lst ds) h'
noncomputable def dTk (f : DN) : DE := fun δ h Q => f δ h fun ds h' => Q (.ref h'.length) (h' ++ [.lst ds])
variable {fn : DN}
theorem se_v (hf : SN X e fn) : SE X e (dV fn) := PE.imp hf fun σ H Q ⟨π, α, δ, h, Q', R, S, f, k⟩ => by
  refine ⟨π, α, δ, h, _, R, S, f, fun ds h1 α1 H1 us p f1 e1 R1 q1 hus hp np => ?_⟩
  exact k (.lst ds) h1 α1 _ _ f1 e1 R1.less (.lst ⟨(R1.dis p List.mem_cons_self).1, np, hus⟩ (q1.more fun q hq => .inl (List.mem_cons_of_mem _ hq)))
theorem se_t (hf : SN X e fn) : SE X e (dTk fn) := PE.imp hf fun σ H Q ⟨π, α, δ, h, Q', R, S, f, k⟩ => by
  refine ⟨π, α, δ, h, _, R, S, f, fun ds h1 α1 H1 us p f1 e1 R1 q1 hus hp np => ?_⟩
  refine k (.ref h1.length) (h1 ++ [.lst ds]) (α1 ++ [p]) _ _ f1 (e1.adopt hp) (R1.adopt np (.lst hus q1.adopt)) (.ref ?_)
  rw [← R1.len]; simp
theorem sn_lst (hf : SA X es n fs) (hn : n ≤ sizeLine := by decide) : SN X (.List es pos) fs := PE.imp (pe_lst hf) fun σ H Q ⟨π, α, δ, h, Q', R, S, f, k⟩ => by
  refine ⟨π, α, δ, h, _, R, S, f, fun ds h1 α1 H1 vs f1 e1 R1 q1 l1 => ⟨by rw [← q1.length, l1]; exact hn, fun p hp => ?_⟩⟩
  exact LN.last (h := h) k f1 e1 R1 q1 hp
end
end DL
namespace DL
open PySem PySem.Spec L2
section
variable {X : Cx}
noncomputable def pI (C : Int → Int → Prop) (g : Int → Int → Int) : P2 := fun x y h Q => match x, y with | .int i, .int j => C i j ∧ Q (.int (g i j)) h | _, _ => False
noncomputable def pI0 (g : Int → Int → Int) : P2 := fun x y h Q => match x, y with | .int i, .int j => Q (.int (g i j)) h | _, _ => False
noncomputable def pB0 (g : Int → Int → Bool) : P2 := fun x y h Q => match x, y with | .int i, .int j => Q (.bl (g i j)) h | _, _ => False
theorem pI_ok {f : Value → Value → Sem Value} {C : Int → Int → Prop} {g : Int → Int → Int} (h : OpR X f (rI C fun i j => .int (g i j))) : OpR X f (r2 X.K (pI C g)) := OpR.imp h fun x y H Q ⟨π, α, h, d, e, Q', R, r1, r2, f, k⟩ => by
  cases r1 with
  | int i =>
    cases r2 with
    | int j => exact ⟨i, j, rfl, rfl, f.1, k _ h α H _ f.2 (Ext.refl ..) R (.int _)⟩
    | _ => exact f.elim
  | _ => exact f.elim
theorem pB0_ok {f : Value → Value → Sem Value} {g : Int → Int → Bool} (h : OpR X f (rI0 fun i j => .bl (g i j))) : OpR X f (r2 X.K (pB0 g)) := OpR.imp h fun x y H Q ⟨π, α, h, d, e, Q', R, r1, r2, f, k⟩ => by
  cases r1 with
  | int i =>
    cases r2 with
    | int j => exact ⟨i, j, rfl, rfl, k _ h α H _ f (Ext.refl ..) R (.bl _)⟩
    | _ => exact f.elim
  | _ => exact f.elim
noncomputable abbrev pDiv : P2 := pI (fun _ j => 0 < j ∧ j < 2 ^ 100) fun i j => i / j
noncomputable abbrev pMod : P2 := pI (fun _ j => 0 < j) fun i j => i % j
noncomputable abbrev pPow : P2 := pI CPow fun i j => i ^ j.toNat
noncomputable abbrev pLtI : P2 := pB0 fun i j => decide (i < j)
noncomputable abbrev pLe : P2 := pB0 fun i j => decide (i ≤ j)
noncomputable abbrev pGt : P2 := pB0 fun i j => decide (j < i)
noncomputable abbrev pGe : P2 := pB0 fun i j => decide (j ≤ i)
theorem op_fdivB : OpR X (binaryOp .FloorDiv) (rI (fun _ j => 0 < j ∧ j < 2 ^ 100) fun i j => .int (i / j)) := opI fun i j _ _ _ _ _ hc q => by
  have e : i.fdiv j = i / j := Int.fdiv_eq_ediv_of_nonneg i (by omega)
  refine PyProof.Rows.floordiv_int (by omega) (by rw [e]; exact q) (.inl (PyProof.noPylong_of_log2 ?_))
  have h1 : j.natAbs ≠ 0 := by omega
  rw [Nat.log2_lt h1]
  have h2 : j.natAbs < 2 ^ 100 := by
    have := hc.2
    omega
  exact Nat.lt_of_lt_of_le h2 (Nat.pow_le_pow_right (by decide) (by decide))
theorem ok_div : OpR X (binaryOp .FloorDiv) (r2 X.K pDiv) := pI_ok op_fdivB
theorem ok_mod : OpR X (binaryOp .Mod) (r2 X.K pMod) := pI_ok op_mod
theorem ok_pow : OpR X (binaryOp .Pow) (r2 X.K pPow) := pI_ok op_pow
theorem ok_le : OpR X (compareOp .LtE) (r2 X.K pLe) := pB0_ok op_le
theorem ok_gt : OpR X (compareOp .Gt) (r2 X.K pGt) := pB0_ok op_gt
theorem ok_ge : OpR X (compareOp .GtE) (r2 X.K pGe) := pB0_ok op_ge
theorem ok_ltI : OpR X (compareOp .Lt) (r2 X.K pLtI) := pB0_ok op_lt
noncomputable def pAdd : P2 := fun x y h Q => match x, y with
  | .int i, .int j => Q (.int (i + j)) h
  | .str a, .str b => a.length + b.length ≤ 16777216 ∧ Q (.str (a ++ b)) h
  | .tup a, .tup b => a ≠ [] ∧ a.length + b.length ≤ 16777216 ∧ Q (.tup (a ++ b)) h
  | _, _ => False
theorem ok_add : OpR X (binaryOp .Add) (r2 X.K pAdd) := OpR.imp (op_add.or (op_add_str.or op_catT)) fun x y H Q ⟨π, α, h, d, e, Q', R, r1, r2, f, k⟩ => by
  cases r1 with
  | int i =>
    cases r2 with
    | int j => exact .inl ⟨i, j, rfl, rfl, k _ h α H _ f (Ext.refl ..) R (.int _)⟩
    | _ => exact f.elim
  | str i =>
    cases r2 with
    | str j => exact .inr (.inl ⟨i, j, rfl, rfl, by rw [sizeLine_eq]; exact f.1, k _ h α H _ f.2 (Ext.refl ..) R (.str _)⟩)
    | _ => exact f.elim
  | @tup a us ds t r =>
    cases r2 with
    | @tup a' us' ds' t' r' =>
      obtain ⟨f1, f2, f3⟩ := f
      have l1 := r.length
      have l2 := r'.length
      refine .inr (.inr ⟨a, a', us, us', rfl, rfl, t.sq, t'.sq, ?_, by rw [sizeLine_eq, ← l1, ← l2]; exact f2, fun z => ?_, fun z p hp => ?_⟩)
      · intro z
        subst z
        cases r; exact f1 rfl
      · subst z
        cases r'
        rw [List.append_nil] at f3
        exact k _ h α H _ f3 (Ext.refl ..) R (.tup t r)
      · have e2 : Ext α H α (upd H p (.tup (us ++ us'))) := Ext.new hp
        exact k _ h α _ _ f3 e2 (R.new hp) (.tup ⟨R.out hp, R.outP hp, upd_same⟩ ((r.append r').mono e2))
    | _ => exact f.elim
  | _ => exact f.elim
noncomputable def pNeg : P1 := fun x h Q => match x with | .int i => Q (.int (-i)) h | _ => False
theorem ok_neg : UnR X (unaryOp .USub) (r1 X.K pNeg) := UnR.imp un_neg fun x H Q ⟨π, α, h, d, Q', R, r1, f, k⟩ => by
  cases r1 with
  | int i => exact ⟨i, rfl, k _ h α H _ f (Ext.refl ..) R (.int _)⟩
  | _ => exact f.elim
noncomputable def isNon : D → Bool | .non => true | _ => false
noncomputable def pIs (neg : Bool) : P2 := fun x y h Q => match y with | .non => Q (.bl (if neg then !isNon x else isNon x)) h | _ => False
theorem isNon_rel {K : KP} {α : List Addr} {H : Hp} {d : D} {v : V} (r : RelD K α H d v) : decide (v = .non) = isNon d := by cases r <;> rfl
theorem ok_is : OpR X (compareOp .Is) (r2 X.K (pIs false)) := OpR.imp op_isN fun x y H Q ⟨π, α, h, d, e, Q', R, r1, r2, f, k⟩ => by
  cases r2 with
  | non =>
    refine ⟨rfl, k _ h α H _ f (Ext.refl ..) R ?_⟩
    rw [isNon_rel r1]; exact .bl _
  | _ => exact f.elim
theorem atI_rel {K : KP} {α : List Addr} {H : Hp} {ds : List D} {us : List V} {i : Int} {d : D} (r : RelDs K α H ds us) (e : atI ds i = some d) : ∃ u, atI us i = some u ∧ RelD K α H d u := by
  unfold atI at e ⊢
  rw [← r.length]
  cases q : ixN ds.length i with
  | none => rw [q] at e; cases e
  | some j =>
    rw [q] at e
    exact r.get e
noncomputable def seqOf (h : Hh) : D → Option (List D)
  | .lst xs => some xs
  | .scr xs => some xs
  | .tup xs => some xs
  | .ref i => match h[i]? with | some (.lst xs) => some xs | _ => none
  | _ => none
theorem seqOf_sq {K : KP} {α : List Addr} {H : Hp} {h : Hh} (R : HRel K α H h) {d : D} {v : V} {xs : List D} (r : RelD K α H d v) (e : seqOf h d = some xs) : ∃ p us, v = .ref p ∧ (SqL K.K H p us ∨ SqT K.K H p us) ∧ RelDs K α H xs us := by
  by_cases z : ∃ ys, d = .tup ys
  · obtain ⟨ys, rfl⟩ := z
    cases e
    obtain ⟨p, us, a, b, c⟩ := tup_sq r
    exact ⟨p, us, a, .inr b, c⟩
  · have e' : lsOf h d = some xs := by
      cases d with
      | tup ys => exact absurd ⟨ys, rfl⟩ z
      | lst ys => exact e
      | scr ys => exact e
      | ref i => exact e
      | _ => cases e
    obtain ⟨p, us, a, b, c⟩ := lsOf_sq R r e'
    exact ⟨p, us, a, .inl b, c⟩
noncomputable def strAt (x : Str) (i : Int) : Option D := if x.length ≤ 16777216 then (atI x.cps.toList i).map fun c => .str ⟨#[c]⟩ else none
noncomputable def ixD (h : Hh) (x y : D) : Option D := match y with
  | .int i => match x with
    | .tup xs => atI xs i
    | .lst xs => atI xs i
    | .scr xs => atI xs i
    | .ref j => match h[j]? with | some (.lst xs) => atI xs i | _ => none
    | .str s => strAt s i
    | _ => none
  | _ => none
noncomputable def pIx : P2 := fun x y h Q => match ixD h x y with | some d => Q d h | none => False
theorem ok_ix : IxR X (r2 X.K pIx) := IxR.imp ix_seq fun x y H Q ⟨π, α, h, d, e, Q', R, r1, r2, f, k⟩ => by
  unfold pIx at f
  cases q : ixD h d e with
  | none => rw [q] at f; exact f.elim
  | some z =>
    rw [q] at f
    cases r2 with
    | int i =>
      cases r1 with
      | @tup a us ds t r =>
        obtain ⟨u, e1, e2⟩ := atI_rel r q
        exact .inr (.inl ⟨_, us, i, u, rfl, rfl, t.sq, e1, k _ h α H _ f (Ext.refl ..) R e2⟩)
      | @lst a us ds t r =>
        obtain ⟨u, e1, e2⟩ := atI_rel r q
        exact .inl ⟨_, us, i, u, rfl, rfl, t.sq, e1, k _ h α H _ f (Ext.refl ..) R e2⟩
      | @scr a us ds t r =>
        obtain ⟨u, e1, e2⟩ := atI_rel r q
        exact .inl ⟨_, us, i, u, rfl, rfl, t.sq, e1, k _ h α H _ f (Ext.refl ..) R e2⟩
      | @ref j a hp =>
        have q : (match h[j]? with | some (.lst xs) => atI xs i | _ => none) = some z := q
        cases w : h[j]? with
        | none => rw [w] at q; cases q
        | some o =>
          rw [w] at q
          cases o with
          | lst ys =>
            obtain ⟨p, us, e1, e2, e3⟩ := R.lst w
            rw [hp] at e1; cases e1
            obtain ⟨u, e4, e5⟩ := atI_rel e3 q
            exact .inl ⟨_, us, i, u, rfl, rfl, SqL.of e2, e4, k _ h α H _ f (Ext.refl ..) R e5⟩
          | _ => cases q
      | str s =>
        have q : strAt s i = some z := q
        unfold strAt at q
        split at q
        · rename_i hl
          cases w : atI s.cps.toList i with
          | none => rw [w] at q; cases q
          | some c =>
            rw [w] at q
            cases q
            exact .inr (.inr ⟨s, i, c, rfl, rfl, by rw [sizeLine_eq]; exact hl, w, k _ h α H _ f (Ext.refl ..) R (.str _)⟩)
        · cases q
      | _ => cases q
    | _ => cases q
end
noncomputable def cutD (xs : List D) (lo hi : Option Int) : List D := (xs.drop (HT.sIx xs.length 0 lo)).take (HT.sIx xs.length xs.length hi - HT.sIx xs.length 0 lo)
noncomputable abbrev DO := Sl → Hh → (Option Int → Hh → Prop) → Prop
noncomputable def dNoPart : DO := fun _ h Q => Q none h
noncomputable def dPart (f : DE) : DO := fun δ h Q => f δ h fun d h1 => match d with | .int i => Q (some i) h1 | _ => False
inductive LO (K : PySem.W.Frag) (f : DO) (σ : St) (H : Hp) (Q : Option Int → Hp → Prop) : Prop
  | mk (π : List Addr) (α : List Addr) (δ : Sl) (h : Hh) (Q' : Option Int → Hh → Prop) : HRel ⟨K, π⟩ α H h → RelS ⟨K, π⟩ α H δ σ → f δ h Q' → (∀ i h' α' H', Q' i h' → Ext α H α' H' → HRel ⟨K, π⟩ α' H' h' → Q i H') → LO K f σ H Q
noncomputable def SO (X : Cx) (e : Option Expr) (f : DO) : Prop := PO X e (LO X.K f)
section
variable {X : Cx} {e : Expr} {fe : DE} {lo hi : Option Expr} {fl fh : DO} {pos p2 : Pos}
theorem PO.imp {o : Option Expr} {t t' : TO} (h : PO X o t) (k : ∀ σ H Q, t' σ H Q → t σ H Q) : PO X o t' := fun pins s σ H Q I q => h pins s σ H Q I (k σ H Q q)
theorem so_none : SO X none dNoPart := PO.imp po_none fun σ H Q ⟨π, α, δ, h, Q', R, S, f, k⟩ => k none h α H f (Ext.refl ..) R
theorem so_some (h : SE X e fe) : SO X (some e) (dPart fe) := PO.imp (po_some h) fun σ H Q ⟨π, α, δ, h, Q', R, S, f, k⟩ => by
  refine ⟨π, α, δ, h, _, R, S, f, fun d h1 α1 H1 v1 f1 e1 R1 q1 => ?_⟩
  cases q1 with
  | int i => exact ⟨i, rfl, k (some i) h1 α1 H1 f1 e1 R1⟩
  | _ => exact f1.elim
noncomputable def dSlL (fe : DE) (fl fh : DO) : DN := fun δ h Q => fe δ h fun d h1 => fl δ h1 fun l h2 => fh δ h2 fun u h3 => match lsOf h3 d with | some xs => Q (cutD xs l u) h3 | none => False
end
end DL
namespace DL
open PySem PySem.Spec L2
noncomputable def dName (i : Nat) : DG := fun d δ h Q => Q (δ.set i (some d)) h
noncomputable def dGNil : DGs := fun ds δ h Q => match ds with | [] => Q δ h | _ => False
noncomputable def dGCons (t : DG) (u : DGs) : DGs := fun ds δ h Q => match ds with | d :: r => t d δ h fun δ' h' => u r δ' h' Q | [] => False
noncomputable def dUnp (n : Nat) (t : DGs) : DG := fun d δ h Q => match d with | .tup xs => xs.length = n ∧ t xs δ h Q | _ => False
section
variable {X : Cx} {pos : Pos}
theorem sg_name {i : Nat} {x : Str} (hN : X.N.Nodup) (hi : X.N[i]? = some x) (hx : Loc X.env.scope x) (hf : X.fn x = true ∨ X.env.scope.names.lookup x = some .local := by trivial) : SG X (.Name x pos) (dName i) := PG.imp (pg_name hN hi hx hf) fun v σ H Q ⟨π, α, δ, h, d, Q', R, S, r, f, k⟩ =>
  k _ h α H _ f (Ext.refl ..) R (S.set i r)
noncomputable def setD (o i v : D) (h : Hh) (Q : Hh → Prop) : Prop := match o, i with
  | .ref j, .int k => match h[j]? with
    | some (.lst xs) => match ixN xs.length k with
      | some m => Q (h.set j (.lst (xs.set m v)))
      | none => False
    | _ => False
  | _, _ => False
noncomputable def dSubL (fo fi : DE) : DG := fun v δ h Q => fo δ h fun o h1 => fi δ h1 fun i h2 => setD o i v h2 fun h3 => Q δ h3
end
noncomputable def dNext : DS := fun E δ h => E.nx δ h
noncomputable def dSeq (f g : DS) : DS := fun E δ h => f { E with nx := g E } δ h
noncomputable def dNever : DS := fun _ _ _ => False
noncomputable def dBreak : DS := fun E δ h => E.bk δ h
noncomputable def dCont : DS := fun E δ h => E.ct δ h
noncomputable def dDrop (f : DE) : DS := fun E δ h => f δ h fun _ h1 => E.nx δ h1
noncomputable def dRet (f : DE) : DS := fun E δ h => f δ h E.rt
noncomputable def dRetN : DS := fun E _ h => E.rt .non h
noncomputable def dIfS (t : DT) (f g : DS) : DS := fun E δ h => t δ h fun c h1 => if c = true then f E δ h1 else g E δ h1
noncomputable def dAsg (f : DE) (g : DG) : DS := fun E δ h => f δ h fun x h1 => g x δ h1 E.nx
noncomputable def dAug (i : Nat) (f : DE) (p : P2) : DS := fun E δ h => match δ[i]? with | some (some x) => f δ h fun y h1 => p x y h1 fun z h2 => E.nx (δ.set i (some z)) h2 | _ => False
section
variable {X : Cx} {s : Stmt} {ss : List Stmt} {f g : DS} {e : Expr} {fe : DE} {pos : Pos}
theorem seq_lift {K : PySem.W.Frag} {Ex : XK} {F : Ends} {σ : L2.St} {H : Hp} (w : LS K Ex (dSeq f g) F σ H) : tSeq (LS K Ex f) (LS K Ex g) F σ H := by
  obtain ⟨π, α, δ, h, E, R, S, q, k⟩ := w
  exact ⟨π, α, δ, h, { E with nx := g E }, R, S, q, ⟨fun δ' h' α' H' σ' a b c d => ⟨π, α', δ', h', E, c, d, a, k.mono b⟩, k.rt, k.bk, k.ct, k.ex⟩⟩
theorem ss_nil : SSs X [] dNext := PSs.imp pss_nil fun F σ H ⟨π, α, δ, h, E, R, S, q, k⟩ => k.nx δ h α H σ q (Ext.refl ..) R S
theorem ss_one (h : SS X s f) : SSs X [s] f := pss_one h
theorem ss_cons (h1 : SS X s f) (h2 : SSs X ss g) : SSs X (s :: ss) (dSeq f g) := PSs.imp (pss_cons h1 h2) fun _ _ _ w => seq_lift w
theorem s_expr (he : SE X e fe) (hs : swapsWith e none pos.line X.env = pure false := by rfl) : SS X (.Expr e pos) (dDrop fe) := PS.imp (ps_expr he hs) fun F σ H ⟨π, α, δ, h, E, R, S, q, k⟩ =>
  ⟨π, α, δ, h, _, R, S, q, fun d h1 α1 H1 v1 f1 e1 R1 q1 => k.nx δ h1 α1 H1 σ f1 e1 R1 (S.mono e1)⟩
theorem s_ret (he : SE X e fe) : SS X (.Return (some e) pos) (dRet fe) := PS.imp (ps_ret he) fun F σ H ⟨π, α, δ, h, E, R, S, q, k⟩ => ⟨π, α, δ, h, _, R, S, q, fun d h1 α1 H1 v1 f1 e1 R1 q1 => k.rt d h1 α1 H1 v1 f1 e1 R1 q1⟩
theorem s_if {c : Expr} {a b : List Stmt} {t : DT} (hc : ST X c t) (ha : SSs X a f) (hb : SSs X b g) : SS X (.If c a b pos) (dIfS t f g) := PS.imp (ps_if hc ha hb) fun F σ H ⟨π, α, δ, h, E, R, S, q, k⟩ => by
  refine ⟨π, α, δ, h, _, R, S, q, fun c h1 α1 H1 f1 e1 R1 => ?_⟩
  cases c with
  | true => exact iteT ⟨π, α1, δ, h1, E, R1, S.mono e1, by simpa using f1, k.mono e1⟩
  | false => exact iteF ⟨π, α1, δ, h1, E, R1, S.mono e1, by simpa using f1, k.mono e1⟩
theorem asgN_lift {K : PySem.W.Frag} {Ex : XK} {i : Nat} {F : Ends} {σ : L2.St} {H : Hp} (w : LS K Ex (dAsg fe (dName i)) F σ H) : tAsg (LE K fe) (gName i) F σ H := by
  obtain ⟨π, α, δ, h, E, R, S, q, k⟩ := w
  exact ⟨π, α, δ, h, _, R, S, q, fun d h1 α1 H1 v1 f1 e1 R1 q1 => k.nx _ h1 α1 H1 _ f1 e1 R1 ((S.mono e1).set i q1)⟩
theorem s_set {i : Nat} {x : Str} {pos' : Pos} (hN : X.N.Nodup) (hi : X.N[i]? = some x) (hx : Loc X.env.scope x) (he : SE X e fe) (hs : swapsWith e (some (.Name x pos')) pos.line X.env = pure false := by rfl) (hf : X.fn x = true ∨ X.env.scope.names.lookup x = some .local := by trivial) :
    SS X (.Assign [.Name x pos'] e pos) (dAsg fe (dName i)) := PS.imp (ps_set hN hi hx he hs hf) fun _ _ _ w => asgN_lift w
noncomputable def dAugS (fo fi fe : DE) (p : P2) : DS := fun E δ h => fo δ h fun o h1 => fi δ h1 fun i h2 => match o, i with
  | .ref j, .int n => 0 ≤ n ∧ match h2[j]? with
    | some (.lst xs) => match xs[n.toNat]? with
      | some x => fe δ h2 fun y h3 => p x y h3 fun z h4 => setD o i z h4 fun h5 => E.nx δ h5
      | none => False
    | _ => False
  | _, _ => False
end
structure Src where
  items : List D
  w : List (Nat × O)
noncomputable def Src.ok (S : Src) (h : Hh) : Prop := ∀ p ∈ S.w, h[p.1]? = some p.2
theorem Src.ok_nil {xs : List D} {h : Hh} : (Src.mk xs []).ok h := fun p hp => nomatch hp
noncomputable abbrev DI := Sl → Hh → (Src → Hh → Prop) → Prop
structure ItOk (K : KP) (J : It) (S : Src) (St : List Addr → Hp → Prop) : Prop where
  keep : ∀ α H α' H', St α H → Ext α H α' H' → St α' H'
  priv : ∀ α H H' D, St α H → Priv D H H' → D ∈ K.π → St α H'
  item : ∀ α H h i d, HRel K α H h → St α H → S.ok h → S.items[i]? = some d → J.go i H ∧ ∀ x H', J.yld i H x H' → Ext α H α H' ∧ HRel K α H' h ∧ RelD K α H' d x
  stop : ∀ α H h, HRel K α H h → St α H → S.ok h → J.stop S.items.length H
noncomputable def ItA (K : PySem.W.Frag) (π : List Addr) (α : List Addr) (H : Hp) (J : It) (S : Src) : Prop := ∀ π', (∀ p ∈ π', p ∈ π ∨ H p = none) → ∃ St, ItOk ⟨K, π'⟩ J S St ∧ St α H
inductive LI (K : PySem.W.Frag) (f : DI) (σ : St) (H : Hp) (R : It → Hp → Prop) : Prop
  | mk (π : List Addr) (α : List Addr) (δ : Sl) (h : Hh) (Q' : Src → Hh → Prop) : HRel ⟨K, π⟩ α H h → RelS ⟨K, π⟩ α H δ σ → f δ h Q' → (∀ S h' α' H' J, Q' S h' → Ext α H α' H' → HRel ⟨K, π⟩ α' H' h' → ItA K π α' H' J S → S.ok h' → R J H') → LI K f σ H R
noncomputable def SI (X : Cx) (tg iter : Expr) (f : DI) : Prop := PI X tg iter (LI X.K f)
noncomputable def forL (S : Src) (t : DG) (b : DS) (E : DEnds) : List D → Sl → Hh → Prop
  | [], δ, h => S.ok h ∧ E.nx δ h
  | x :: r, δ, h => S.ok h ∧ t x δ h fun δ2 h2 => b { E with nx := forL S t b E r, ct := forL S t b E r, bk := E.nx } δ2 h2
noncomputable def dFor (s : DI) (t : DG) (b : DS) : DS := fun E δ h => s δ h fun S h1 => forL S t b E S.items δ h1
theorem s_for {X : Cx} {tg iter : Expr} {body : List Stmt} {s : DI} {t : DG} {b : DS} {pos : Pos} (hp : PassesOwn (model X.prog X.w) X.A X.env X.xe) (hc : X.calm = true) (hi : SI X tg iter s) (hg : SG X tg t) (hb : SSs X body b)
    (hs : ∀ x, foldedSetIterable iter X.env x = pure x := by intro _; rfl) : SS X (.For tg iter body [] pos) (dFor s t b) := PS.imp (ps_for hp hc hi hg hb hs) fun F σ H ⟨π, α, δ, h, E, R, S, q, k⟩ => by
  refine ⟨π, α, δ, h, _, R, S, q, fun Sr h1 α1 H1 J f1 e1 R1 ia ok1 => ?_⟩
  obtain ⟨St, io, st1⟩ := ia π (fun p z => .inl z)
  refine ⟨fun i m σ' H' => m = Sr.items.length - i ∧ i ≤ Sr.items.length ∧ ∃ α' δ' h', Ext α H α' H' ∧ HRel ⟨X.K, π⟩ α' H' h' ∧ RelS ⟨X.K, π⟩ α' H' δ' σ' ∧ St α' H' ∧ forL Sr t b E (Sr.items.drop i) δ' h', ⟨_, rfl, Nat.zero_le _, α1, δ, h1, e1, R1, S.mono e1, st1, f1⟩, ?_⟩
  rintro i m σ' H' ⟨rfl, hi, α', δ', h', e', R', S', st', q'⟩
  by_cases hlt : i < Sr.items.length
  · rw [List.drop_eq_getElem_cons hlt] at q'
    obtain ⟨okh, q'⟩ := q'
    obtain ⟨go, yl⟩ := io.item α' H' h' i Sr.items[i] R' st' okh (List.getElem?_eq_getElem hlt)
    refine .inr ⟨go, fun σ2 H2 => ∃ α2 δ2 h2, Ext α H α2 H2 ∧ HRel ⟨X.K, π⟩ α2 H2 h2 ∧ RelS ⟨X.K, π⟩ α2 H2 δ2 σ2 ∧ St α2 H2 ∧ forL Sr t b E (Sr.items.drop (i + 1)) δ2 h2, fun σ2 H2 z => ⟨_, by omega, rfl, hlt, z⟩, fun x H2 y2 => ?_⟩
    obtain ⟨e2, R2, r2⟩ := yl x H2 y2
    refine ⟨π, α', δ', h', Sr.items[i], _, R2, S'.mono e2, r2, q', fun δ3 h3 α3 H3 σ3 f3 e3 R3 S3 => ?_⟩
    have e4 := e'.trans (e2.trans e3)
    have k3 := k.mono e4
    have st3 := io.keep _ _ _ _ st' (e2.trans e3)
    exact ⟨π, α3, δ3, h3, _, R3, S3, f3, ⟨fun δ5 h5 α5 H5 σ5 a b c d => ⟨α5, δ5, h5, e4.trans b, c, d, io.keep _ _ _ _ st3 b, a⟩, k3.rt, k3.nx, fun δ5 h5 α5 H5 σ5 a b c d => ⟨α5, δ5, h5, e4.trans b, c, d, io.keep _ _ _ _ st3 b, a⟩, k3.ex⟩⟩
  · have ei : i = Sr.items.length := by omega
    subst ei
    rw [List.drop_length] at q'
    exact .inl ⟨io.stop α' H' h' R' st' q'.1, k.nx δ' h' α' H' σ' q'.2 e' R' S'⟩
noncomputable def compSl (js : List (Option Nat)) (δ : Sl) : Sl := js.map fun j => match j with
  | some j => (δ[j]?).getD none
  | none => none
noncomputable def compL (S : Src) (t : DG) (tf : DT) (te : DE) : List D → List D → Sl → Hh → (List D → Hh → Prop) → Prop
  | [], acc, _, h, Q => S.ok h ∧ Q acc h
  | x :: r, acc, δ, h, Q => S.ok h ∧ t x δ h fun δ2 h2 => tf δ2 h2 fun b h3 => if b = true then te δ2 h3 fun y h4 => compL S t tf te r (acc ++ [y]) δ2 h4 Q else compL S t tf te r acc δ2 h3 Q
noncomputable def dComp (js : List (Option Nat)) (s : DI) (t : DG) (tf : DT) (te : DE) : DN := fun δ h Q => s δ h fun S h1 => S.items.length ≤ 16777216 ∧ compL S t tf te S.items [] (compSl js δ) h1 Q
theorem compS_rel {K : KP} {α : List Addr} {H : Hp} {δ : Sl} {σ : L2.St} (S : RelS K α H δ σ) (js : List (Option Nat)) : RelS K α H (compSl js δ) (compSt js σ) := by
  refine ⟨by unfold compSl compSt; simp, fun i d e => ?_⟩
  unfold compSl at e
  rw [List.getElem?_map] at e
  unfold compSt
  rw [List.getElem?_map]
  cases q : js[i]? with
  | none => rw [q] at e; cases e
  | some j =>
    rw [q] at e
    cases j with
    | none => cases e
    | some j =>
      have e : (δ[j]?).getD none = some d := Option.some.inj e
      cases w : δ[j]? with
      | none => rw [w] at e; cases e
      | some z =>
        rw [w] at e
        have e : z = some d := e
        subst e
        obtain ⟨v, h1, h2⟩ := S.get j d w
        exact ⟨v, by show some ((σ[j]?).getD none) = _; rw [h1]; rfl, h2⟩
theorem comp_lift {K : PySem.W.Frag} {js : List (Option Nat)} {s : DI} {t : DG} {tf : DT} {te : DE} {σ : L2.St} {H : Hp} {Q : VK} (w : LN K (dComp js s t tf te) σ H Q) :
    tComp js (LI K s) (fun _ _ _ => LG K t) (fun _ _ _ => LT K tf) (fun _ _ _ => LE K te) σ H Q := by
  obtain ⟨π, α, δ, h, Q', R, S, q, k⟩ := w
  refine ⟨π, α, δ, h, _, R, S, q, fun Sr h1 α1 H1 J f1 e1 R1 ia ok1 => fun Da hD s0 H0 fp => ?_⟩
  obtain ⟨hlen, f1⟩ := f1
  have sub : ∀ p ∈ Da :: π, p ∈ π ∨ H1 p = none := fun p hp => by
    rcases List.mem_cons.mp hp with rfl | z
    · exact .inr hD
    · exact .inl z
  obtain ⟨St, io, st1⟩ := ia (Da :: π) sub
  have eN : Ext α1 H1 α1 (upd H1 Da (.lst [])) := Ext.new hD
  have hin : Da ∈ (KP.mk K (Da :: π)).π := List.mem_cons_self
  refine ⟨fun i m σ' H' => m = Sr.items.length - i ∧ i ≤ Sr.items.length ∧ ∃ α' δ' h' acc us, Ext α1 H1 α' H' ∧ HRel ⟨K, Da :: π⟩ α' H' h' ∧ RelS ⟨K, Da :: π⟩ α' H' δ' σ' ∧ St α' H' ∧ H' Da = some (.lst us) ∧ RelDs ⟨K, Da :: π⟩ α' H' acc us ∧ acc.length ≤ i ∧
      compL Sr t tf te (Sr.items.drop i) acc δ' h' Q', ⟨_, rfl, Nat.zero_le _, α1, compSl js δ, h1, [], [], eN, R1.under hD, (compS_rel ((S.mono e1).more sub) js).mono eN, io.keep _ _ _ _ st1 eN, upd_same, .nil, Nat.le_refl _, f1⟩, ?_⟩
  rintro i m σ' H' ⟨rfl, hi, α', δ', h', acc, us, e', R', S', st', hus, ra, la, q'⟩
  have nD : Da ∉ α' := (R'.dis Da hin).1
  by_cases hlt : i < Sr.items.length
  · rw [List.drop_eq_getElem_cons hlt] at q'
    obtain ⟨okh, q'⟩ := q'
    obtain ⟨go, yl⟩ := io.item α' H' h' i Sr.items[i] R' st' okh (List.getElem?_eq_getElem hlt)
    refine .inr ⟨go, fun x H2 y2 => ?_⟩
    obtain ⟨e2, R2, r2⟩ := yl x H2 y2
    refine ⟨Da :: π, α', δ', h', Sr.items[i], _, R2, S'.mono e2, r2, q', fun δ3 h3 α3 H3 σ3 f3 e3 R3 S3 => ?_⟩
    refine ⟨Da :: π, α3, δ3, h3, _, R3, S3, f3, fun b h4 α4 H4 f4 e4 R4 => ?_⟩
    have e24 := e2.trans (e3.trans e4)
    cases b with
    | false =>
      refine iteF ⟨_, by omega, rfl, hlt, α4, δ3, h4, acc, us, e'.trans e24, R4, S3.mono e4, io.keep _ _ _ _ st' e24, e24.keep _ _ hus nD, ra.mono e24, by omega, by simpa using f4⟩
    | true =>
      have f4 : te δ3 h4 fun y h5 => compL Sr t tf te (Sr.items.drop (i + 1)) (acc ++ [y]) δ3 h5 Q' := by simpa using f4
      refine iteT ⟨Da :: π, α4, δ3, h4, _, R4, S3.mono e4, f4, fun y h5 α5 H5 v5 f5 e5 R5 q5 => ?_⟩
      have e25 := e24.trans e5
      have h5D : H5 Da = some (.lst us) := e25.keep _ _ hus nD
      have pv : Priv Da H5 (upd H5 Da (.lst (us ++ [v5]))) := ⟨fun b hb => upd_ne hb⟩
      have ra5 := ra.mono e25
      refine ⟨us, h5D, by rw [← ra5.length, sizeLine_eq]; omega, _, by omega, rfl, hlt, α5, δ3, h5, acc ++ [y], us ++ [v5], (e'.trans e25).grow hD, R5.priv pv hin (by rw [upd_same]; exact fun z => nomatch z), (S3.mono (e4.trans e5)).priv pv hin, io.priv _ _ _ _ (io.keep _ _ _ _ st' e25) pv hin, upd_same, (ra5.snoc q5).priv pv hin, by rw [List.length_append, List.length_singleton]; omega, f5⟩
  · have ei : i = Sr.items.length := by omega
    subst ei
    rw [List.drop_length] at q'
    exact .inl ⟨io.stop α' H' h' R' st' q'.1, k _ h' α' H' us Da q'.2 (e1.trans e') R' ra hus (e1.dom Da hD) (R1.outP hD)⟩
noncomputable def dNoIf : DT := fun _ h Q => Q true h
section
variable {X : Cx} {pins : List (Addr × Obj)} {σ : L2.St} {H : Hp} {s : Shared} {N' : List Str} {js : List (Option Nat)} {scope : Scope}
noncomputable def SF (X : Cx) (es : List Expr) (t : DT) : Prop := PF X es (LT X.K t)
theorem PF.imp {es : List Expr} {t t' : TT} (h : PF X es t) (k : ∀ σ H Q, t' σ H Q → t σ H Q) : PF X es t' := fun pins s σ H Q I q => h pins s σ H Q I (k σ H Q q)
theorem sf_nil : SF X [] dNoIf := PF.imp pf_nil fun σ H Q ⟨π, α, δ, h, Q', R, S, f, k⟩ => k true h α H f (Ext.refl ..) R
variable {tg iter elt : Expr} {ifs : List Expr} {pos : Pos} {sr : DI} {g : DG} {tf : DT} {te : DE}
theorem sn_comp (hc : X.calm = true) (C : CompOk X N' js scope) (hi : SI X tg iter sr)
    (body : ∀ (s0 : Shared) (H0 : Hp) (fp : List Addr), SG (cxComp X N' scope s0 H0 fp) tg g ∧ SF (cxComp X N' scope s0 H0 fp) ifs tf ∧ SE (cxComp X N' scope s0 H0 fp) elt te)
    (hs : ∀ x, foldedSetIterable iter X.env x = pure x := by intro _; rfl) : SN X (.ListComp elt [⟨tg, iter, ifs, 0⟩] scope pos) (dComp js sr g tf te) :=
  PE.imp (pe_comp hc C hi (g := fun _ _ _ => LG X.K g) (tf := fun _ _ _ => LT X.K tf) (te := fun _ _ _ => LE X.K te) body hs) fun _ _ _ w => comp_lift w
end
end DL
namespace DL
open PySem PySem.Spec L2
mutual
inductive IsP (h : Hh) : D → PyData → Prop
  | non : IsP h .non .none
  | bl (b : Bool) : IsP h (.bl b) (.bool b)
  | int (i : Int) : IsP h (.int i) (.int i)
  | str (x : Str) : IsP h (.str x) (.str x)
  | tup {ds : List D} {ps : List PyData} : IsPs h ds ps → IsP h (.tup ds) (.tuple ps)
  | lst {ds : List D} {ps : List PyData} : IsPs h ds ps → IsP h (.lst ds) (.list ps)
  | ref {i : Nat} {ds : List D} {ps : List PyData} : h[i]? = some (.lst ds) → IsPs h ds ps → IsP h (.ref i) (.list ps)
inductive IsPs (h : Hh) : List D → List PyData → Prop
  | nil : IsPs h [] []
  | cons {d : D} {p : PyData} {ds : List D} {ps : List PyData} : IsP h d p → IsPs h ds ps → IsPs h (d :: ds) (p :: ps)
end
section
variable {X : Cx} {pins : List (Addr × Obj)} {σ : L2.St} {H : Hp} {s : Shared} {π α : List Addr} {h : Hh}
theorem IsP.reads (I : Inv X pins σ H s) (R : HRel ⟨X.K, π⟩ α H h) {d : D} {p : PyData} (e : IsP h d p) : ∀ {v : V} {u : Value}, RelD ⟨X.K, π⟩ α H d v → RelV v u → ∃ as, Reads s.heap u p as := by
  refine IsP.rec (motive_1 := fun d p _ => ∀ {v : V} {u : Value}, RelD ⟨X.K, π⟩ α H d v → RelV v u → ∃ as, Reads s.heap u p as) (motive_2 := fun ds ps _ => ∀ {vs : List V} {us : List Value}, RelDs ⟨X.K, π⟩ α H ds vs → Vals vs us → ∃ as, ReadsAll s.heap us ps as) ?_ ?_ ?_ ?_ ?_ ?_ ?_ ?_ ?_ e
  · intro v u q r; cases q; cases r; exact ⟨_, .none⟩
  · intro b v u q r; cases q; cases r; exact ⟨_, .bool b⟩
  · intro i v u q r; cases q; obtain ⟨t, rfl⟩ := r; exact ⟨_, .int i t⟩
  · intro x v u q r; cases q; obtain ⟨t, rfl⟩ := r; exact ⟨_, .str x t⟩
  · intro ds ps _ ih v u q0 r
    cases q0 with
    | tup t rr =>
      cases r
      obtain ⟨its, rv, ⟨o, q, c, n, d⟩, _⟩ := I.tuple t.sq
      obtain ⟨as, ra⟩ := ih rr rv
      exact ⟨_, .tuple q c d (by simpa using ra)⟩
  · intro ds ps _ ih v u q0 r
    cases q0 with
    | lst t rr =>
      cases r
      obtain ⟨its, rv, ⟨o, n, q, c, _, d⟩, _⟩ := I.list t.sq
      obtain ⟨as, ra⟩ := ih rr rv
      exact ⟨_, .list q c d (by simpa using ra)⟩
  · intro i ds ps hh _ ih v u q0 r
    cases q0 with
    | ref hp =>
      cases r
      obtain ⟨a, us, e1, e2, e3⟩ := R.lst hh
      rw [hp] at e1; cases e1
      obtain ⟨its, rv, ⟨o, n, q, c, _, d⟩, _⟩ := I.list (SqL.of (K := X.K) e2)
      obtain ⟨as, ra⟩ := ih e3 rv
      exact ⟨_, .list q c d (by simpa using ra)⟩
  · intro vs us q r; cases q; cases r; exact ⟨_, .nil⟩
  · intro d ds p ps _ _ ih iht vs us q r
    cases q with
    | cons rr rs =>
      cases r with
      | cons r1 r2 =>
        obtain ⟨as, ra⟩ := ih rr r1
        obtain ⟨bs, rb⟩ := iht rs r2
        exact ⟨_, .cons ra rb⟩
end
noncomputable def eqS : D → D → Option Bool
  | .int i, .int j => some (i == j)
  | .str a, .str b => if PyData.strOk a && PyData.strOk b then some (a == b) else none
  | .bl a, .bl b => some (a == b)
  | .non, .non => some true
  | .int _, .str b => if PyData.strOk b then some false else none
  | .str a, .int _ => if PyData.strOk a then some false else none
  | .non, .int _ => some false
  | .int _, .non => some false
  | .non, .tup _ => none
  | _, _ => none
noncomputable def pEq (neg : Bool) : P2 := fun x y h Q => match eqS x y with
  | some b => Q (.bl (if neg then !b else b)) h
  | none => ∃ a b, IsP h x a ∧ IsP h y b ∧ SeqAt.shaped a = true ∧ SeqAt.shaped b = true ∧ Q (.bl (if neg then !PyData.eqv a b else PyData.eqv a b)) h
theorem eqS_ok {h : Hh} {x y : D} {b : Bool} (e : eqS x y = some b) : ∃ p q, IsP h x p ∧ IsP h y q ∧ SeqAt.shaped p = true ∧ SeqAt.shaped q = true ∧ PyData.eqv p q = b := by
  have si : ∀ i : Int, SeqAt.shaped (.int i) = true := fun i => by simp [SeqAt.shaped, PyData.canLay0, PyData.depth]
  have sn : SeqAt.shaped .none = true := by simp [SeqAt.shaped, PyData.canLay0, PyData.depth]
  have sb : ∀ b : Bool, SeqAt.shaped (.bool b) = true := fun i => by simp [SeqAt.shaped, PyData.canLay0, PyData.depth]
  have ss : ∀ x : Str, PyData.strOk x = true → SeqAt.shaped (.str x) = true := fun x hx => by simp [SeqAt.shaped, PyData.canLay0, PyData.depth, hx]
  unfold eqS at e
  split at e
  · cases e; exact ⟨_, _, .int _, .int _, si _, si _, by simp [PyData.eqv]⟩
  · split at e
    · rename_i hh
      rw [Bool.and_eq_true] at hh
      cases e; exact ⟨_, _, .str _, .str _, ss _ hh.1, ss _ hh.2, by simp [PyData.eqv]⟩
    · cases e
  · cases e; exact ⟨_, _, .bl _, .bl _, sb _, sb _, by simp [PyData.eqv]⟩
  · cases e; exact ⟨_, _, .non, .non, sn, sn, by simp [PyData.eqv]⟩
  · split at e
    · rename_i hh
      cases e; exact ⟨_, _, .int _, .str _, si _, ss _ hh, by simp [PyData.eqv]⟩
    · cases e
  · split at e
    · rename_i hh
      cases e; exact ⟨_, _, .str _, .int _, ss _ hh, si _, by simp [PyData.eqv]⟩
    · cases e
  · cases e; exact ⟨_, _, .non, .int _, sn, si _, by simp [PyData.eqv]⟩
  · cases e; exact ⟨_, _, .int _, .non, si _, sn, by simp [PyData.eqv]⟩
  · cases e
  · cases e
section
variable {X : Cx}
theorem pEq_all {neg : Bool} {x y : D} {h : Hh} {Q : DK} (f : pEq neg x y h Q) : ∃ a b, IsP h x a ∧ IsP h y b ∧ SeqAt.shaped a = true ∧ SeqAt.shaped b = true ∧ Q (.bl (if neg then !PyData.eqv a b else PyData.eqv a b)) h := by
  unfold pEq at f
  cases q : eqS x y with
  | none => rw [q] at f; exact f
  | some b =>
    rw [q] at f
    obtain ⟨p, q, a, b', c, d, e⟩ := eqS_ok (h := h) q
    exact ⟨p, q, a, b', c, d, by rw [e]; exact f⟩
theorem ok_eq (hu : X.A.units + 64 < cLine) : OpR X (compareOp .Eq) (r2 X.K (pEq false)) := by
  intro pins s σ H x y v u Q I rx ry ⟨π, α, h, d, e, Q', R, r1, r2, f, k⟩
  obtain ⟨a, b, ia, ib, sa, sb, q⟩ := pEq_all f
  obtain ⟨as, ra⟩ := ia.reads I R r1 rx
  obtain ⟨bs, rb⟩ := ib.reads I R r2 ry
  exact SeqAt.compareEq_shaped ra rb sa sb hu ⟨.bl (PyData.eqv a b), H, I, rfl, k _ h α H _ q (Ext.refl ..) R (.bl _)⟩
theorem ok_ne (hu : X.A.units + 64 < cLine) : OpR X (compareOp .NotEq) (r2 X.K (pEq true)) := by
  intro pins s σ H x y v u Q I rx ry ⟨π, α, h, d, e, Q', R, r1, r2, f, k⟩
  obtain ⟨a, b, ia, ib, sa, sb, q⟩ := pEq_all f
  obtain ⟨as, ra⟩ := ia.reads I R r1 rx
  obtain ⟨bs, rb⟩ := ib.reads I R r2 ry
  exact SeqAt.compareNe_shaped ra rb sa sb hu ⟨.bl (!PyData.eqv a b), H, I, rfl, k _ h α H _ q (Ext.refl ..) R (.bl _)⟩
end
structure SeqIt (K : KP) (Sq : Hp → List V → Prop) (xs : List D) (w : List (Nat × O)) (St : List Addr → Hp → Prop) : Prop where
  keep : ∀ α H α' H', St α H → Ext α H α' H' → St α' H'
  priv : ∀ α H H' D, St α H → Priv D H H' → D ∈ K.π → St α H'
  get : ∀ α H h, HRel K α H h → St α H → (∀ p ∈ w, h[p.1]? = some p.2) → ∃ us, Sq H us ∧ RelDs K α H xs us
noncomputable def SeqA (K : PySem.W.Frag) (π α : List Addr) (H : Hp) (Sq : Hp → List V → Prop) (xs : List D) (w : List (Nat × O)) : Prop := ∀ π', (∀ p ∈ π', p ∈ π ∨ H p = none) → ∃ St, SeqIt ⟨K, π'⟩ Sq xs w St ∧ St α H
noncomputable def seqSrc (h : Hh) : D → Option Src
  | .tup xs => some ⟨xs, []⟩
  | .lst xs => some ⟨xs, []⟩
  | .scr xs => some ⟨xs, []⟩
  | .ref i => match h[i]? with | some (.lst xs) => some ⟨xs, [(i, .lst xs)]⟩ | _ => none
  | _ => none
theorem seqSrc_ok {K : PySem.W.Frag} {π α : List Addr} {H : Hp} {h : Hh} (R : HRel ⟨K, π⟩ α H h) {d : D} {v : V} {S : Src} (r : RelD ⟨K, π⟩ α H d v) (e : seqSrc h d = some S) :
    ∃ a, v = .ref a ∧ S.ok h ∧ (((∃ us, SqL K H a us) ∧ SeqA K π α H (fun H us => SqL K H a us) S.items S.w) ∨ ((∃ us, SqT K H a us) ∧ SeqA K π α H (fun H us => SqT K H a us) S.items S.w)) := by
  cases r with
  | @tup a us ds t rs =>
    cases e
    exact ⟨a, rfl, Src.ok_nil, .inr ⟨⟨us, t.sq⟩, fun π' s => ⟨fun α H => VT ⟨K, π'⟩ α H a us ∧ RelDs ⟨K, π'⟩ α H ds us, ⟨fun α H α' H' st e => ⟨st.1.mono e, st.2.mono e⟩, fun α H H' D st e hD => ⟨st.1.priv e hD, st.2.priv e hD⟩, fun α H h R st _ => ⟨us, st.1.sq, st.2⟩⟩, t.more s, rs.more s⟩⟩⟩
  | @lst a us ds t rs =>
    cases e
    exact ⟨a, rfl, Src.ok_nil, .inl ⟨⟨us, t.sq⟩, fun π' s => ⟨fun α H => VL ⟨K, π'⟩ α H a us ∧ RelDs ⟨K, π'⟩ α H ds us, ⟨fun α H α' H' st e => ⟨st.1.mono e, st.2.mono e⟩, fun α H H' D st e hD => ⟨st.1.priv e hD, st.2.priv e hD⟩, fun α H h R st _ => ⟨us, st.1.sq, st.2⟩⟩, t.more s, rs.more s⟩⟩⟩
  | @scr a us ds t rs =>
    cases e
    exact ⟨a, rfl, Src.ok_nil, .inl ⟨⟨us, t.sq⟩, fun π' s => ⟨fun α H => VS ⟨K, π'⟩ α H a us ∧ RelDs ⟨K, π'⟩ α H ds us, ⟨fun α H α' H' st e => ⟨st.1.mono e, st.2.mono e⟩, fun α H H' D st e hD => ⟨st.1.priv e hD, st.2.priv e hD⟩, fun α H h R st _ => ⟨us, st.1.sq, st.2⟩⟩, t.more s, rs.more s⟩⟩⟩
  | @ref i a hp =>
    have e : (match h[i]? with | some (.lst xs) => some (Src.mk xs [(i, .lst xs)]) | _ => none) = some S := e
    cases q : h[i]? with
    | none => rw [q] at e; cases e
    | some o =>
      rw [q] at e
      cases o with
      | lst xs =>
        cases e
        obtain ⟨p, us, e1, e2, e3⟩ := R.lst q
        rw [hp] at e1; cases e1
        refine ⟨a, rfl, fun z hz => by rw [List.mem_singleton.mp hz]; exact q, .inl ⟨⟨us, SqL.of e2⟩, fun π' s => ⟨fun α H => α[i]? = some a, ⟨fun α H α' H' st e => e.get st, fun α H H' D st e hD => st, fun α H h R st w => ?_⟩, hp⟩⟩⟩
        obtain ⟨p, us, e1, e2, e3⟩ := R.lst (w (i, .lst xs) (List.mem_singleton.mpr rfl))
        rw [st] at e1; cases e1
        exact ⟨us, SqL.of e2, e3⟩
      | _ => cases e
  | _ => cases e
theorem seqSrc_okL {K : PySem.W.Frag} {π α : List Addr} {H : Hp} {h : Hh} (R : HRel ⟨K, π⟩ α H h) {d : D} {v : V} {S : Src} (r : RelD ⟨K, π⟩ α H d v) (e : seqSrc h d = some S) (nt : ∀ ys, d ≠ .tup ys) :
    ∃ a, v = .ref a ∧ S.ok h ∧ (∃ us, SqL K H a us) ∧ SeqA K π α H (fun H us => SqL K H a us) S.items S.w := by
  cases r with
  | @tup a us ds t rs => exact absurd rfl (nt ds)
  | @lst a us ds t rs =>
    cases e
    exact ⟨a, rfl, Src.ok_nil, ⟨us, t.sq⟩, fun π' s => ⟨fun α H => VL ⟨K, π'⟩ α H a us ∧ RelDs ⟨K, π'⟩ α H ds us, ⟨fun α H α' H' st e => ⟨st.1.mono e, st.2.mono e⟩, fun α H H' D st e hD => ⟨st.1.priv e hD, st.2.priv e hD⟩, fun α H h R st _ => ⟨us, st.1.sq, st.2⟩⟩, t.more s, rs.more s⟩⟩
  | @scr a us ds t rs =>
    cases e
    exact ⟨a, rfl, Src.ok_nil, ⟨us, t.sq⟩, fun π' s => ⟨fun α H => VS ⟨K, π'⟩ α H a us ∧ RelDs ⟨K, π'⟩ α H ds us, ⟨fun α H α' H' st e => ⟨st.1.mono e, st.2.mono e⟩, fun α H H' D st e hD => ⟨st.1.priv e hD, st.2.priv e hD⟩, fun α H h R st _ => ⟨us, st.1.sq, st.2⟩⟩, t.more s, rs.more s⟩⟩
  | @ref i a hp =>
    have e : (match h[i]? with | some (.lst xs) => some (Src.mk xs [(i, .lst xs)]) | _ => none) = some S := e
    cases q : h[i]? with
    | none => rw [q] at e; cases e
    | some o =>
      rw [q] at e
      cases o with
      | lst xs =>
        cases e
        obtain ⟨p, us, e1, e2, e3⟩ := R.lst q
        rw [hp] at e1; cases e1
        refine ⟨a, rfl, fun z hz => by rw [List.mem_singleton.mp hz]; exact q, ⟨us, SqL.of e2⟩, fun π' s => ⟨fun α H => α[i]? = some a, ⟨fun α H α' H' st e => e.get st, fun α H H' D st e hD => st, fun α H h R st w => ?_⟩, hp⟩⟩
        obtain ⟨p, us, e1, e2, e3⟩ := R.lst (w (i, .lst xs) (List.mem_singleton.mpr rfl))
        rw [st] at e1; cases e1
        exact ⟨us, SqL.of e2, e3⟩
      | _ => cases e
  | _ => cases e
theorem it_list {K : PySem.W.Frag} {π α : List Addr} {H : Hp} {a : Addr} {S : Src} (s : SeqA K π α H (fun H us => SqL K H a us) S.items S.w) : ItA K π α H (Itl K a) S := fun π' sub => by
  obtain ⟨St, si, st⟩ := s π' sub
  refine ⟨St, ⟨si.keep, si.priv, fun α H h i d R st ok hi => ?_, fun α H h R st ok => ?_⟩, st⟩
  · obtain ⟨us, hq, rs⟩ := si.get α H h R st ok
    obtain ⟨u, hu, ru⟩ := rs.get hi
    refine ⟨⟨us, u, hq, hu⟩, fun x H' ⟨e1, e2⟩ => ?_⟩
    subst e1
    have := (e2 us hq).symm.trans hu
    cases this
    exact ⟨Ext.refl .., R, ru⟩
  · obtain ⟨us, hq, rs⟩ := si.get α H h R st ok
    exact ⟨us, hq, by rw [← rs.length]; exact Nat.le_refl _⟩
theorem it_tup {K : PySem.W.Frag} {π α : List Addr} {H : Hp} {a : Addr} {S : Src} (s : SeqA K π α H (fun H us => SqT K H a us) S.items S.w) : ItA K π α H (Itt K a) S := fun π' sub => by
  obtain ⟨St, si, st⟩ := s π' sub
  refine ⟨St, ⟨si.keep, si.priv, fun α H h i d R st ok hi => ?_, fun α H h R st ok => ?_⟩, st⟩
  · obtain ⟨us, hq, rs⟩ := si.get α H h R st ok
    obtain ⟨u, hu, ru⟩ := rs.get hi
    refine ⟨⟨us, u, hq, hu⟩, fun x H' ⟨e1, e2⟩ => ?_⟩
    subst e1
    have := (e2 us hq).symm.trans hu
    cases this
    exact ⟨Ext.refl .., R, ru⟩
  · obtain ⟨us, hq, rs⟩ := si.get α H h R st ok
    exact ⟨us, hq, by rw [← rs.length]; exact Nat.le_refl _⟩
noncomputable def enumD : Int → List D → List D
  | _, [] => []
  | n, x :: r => .tup [.int n, x] :: enumD (n + 1) r
theorem enumD_get : ∀ (n : Int) (xs : List D) (i : Nat), (enumD n xs)[i]? = (xs[i]?).map fun x => .tup [.int (n + i), x]
  | n, [], i => by simp [enumD]
  | n, x :: r, 0 => by simp [enumD]
  | n, x :: r, i + 1 => by
    have := enumD_get (n + 1) r i
    simp only [enumD, List.getElem?_cons_succ, this]
    congr 1; funext y; congr 3; push_cast; omega
noncomputable def rangeD (lo : Int) : Nat → List D
  | 0 => []
  | n + 1 => .int lo :: rangeD (lo + 1) n
theorem rangeD_get : ∀ (lo : Int) (n i : Nat), (rangeD lo n)[i]? = if i < n then some (.int (lo + i)) else none
  | lo, 0, i => by simp [rangeD]
  | lo, n + 1, 0 => by simp [rangeD]
  | lo, n + 1, i + 1 => by
    have := rangeD_get (lo + 1) n i
    simp only [rangeD, List.getElem?_cons_succ, this, Nat.add_lt_add_iff_right]
    have e : lo + 1 + (i : Int) = lo + ((i + 1 : Nat) : Int) := by push_cast; omega
    rw [e]
theorem rangeD_length : ∀ (lo : Int) (n : Nat), (rangeD lo n).length = n
  | _, 0 => rfl
  | lo, n + 1 => by simp [rangeD, rangeD_length (lo + 1) n]
theorem it_range {K : PySem.W.Frag} {π α : List Addr} {H : Hp} {lo : Int} {n : Nat} : ItA K π α H (Itr lo n) ⟨rangeD lo n, []⟩ := fun π' sub => by
  refine ⟨fun _ _ => True, ⟨fun _ _ _ _ _ _ => trivial, fun _ _ _ _ _ _ _ => trivial, fun α H h i d R st ok hi => ?_, fun α H h R st ok => ?_⟩, trivial⟩
  · have hi : (rangeD lo n)[i]? = some d := hi
    rw [rangeD_get] at hi
    split at hi
    · rename_i hlt
      cases hi
      exact ⟨hlt, fun x H' ⟨e1, e2⟩ => by subst e1 e2; exact ⟨Ext.refl .., R, .int _⟩⟩
    · cases hi
  · show n ≤ (rangeD lo n).length
    rw [rangeD_length]; exact Nat.le_refl _
noncomputable def dISeq (f : DE) : DI := fun δ h Q => f δ h fun d h1 => match seqSrc h1 d with | some S => Q S h1 | none => False
noncomputable def dIEnum (f : DA) : DI := fun δ h Q => f δ h fun ds h1 => match ds with | [d] => (match seqSrc h1 d with | some S => Q ⟨enumD 0 S.items, S.w⟩ h1 | none => False) | _ => False
noncomputable def dIRange (f : DA) : DI := fun δ h Q => f δ h fun ds h1 => match ds with
  | [.int j] => (-(2 ^ 62) ≤ j ∧ j < 2 ^ 62) ∧ Q ⟨rangeD 0 j.toNat, []⟩ h1
  | [.int i, .int j] => (-(2 ^ 62) ≤ i ∧ i < 2 ^ 62 ∧ -(2 ^ 62) ≤ j ∧ j < 2 ^ 62) ∧ Q ⟨rangeD i (j - i).toNat, []⟩ h1
  | _ => False
section
variable {X : Cx} {tg : Expr}
theorem PI.imp {e : Expr} {t t' : TI} (h : PI X tg e t) (k : ∀ σ H Q, t' σ H Q → t σ H Q) : PI X tg e t' := fun pins s σ H Q I q => h pins s σ H Q I (k σ H Q q)
noncomputable def iSeq (K : PySem.W.Frag) (tl : TE) : TI := fun σ H R => tl σ H fun x H1 => ∃ a, x = .ref a ∧ (((∃ xs, SqL K H1 a xs) ∧ R (Itl K a) H1) ∨ ((∃ xs, SqT K H1 a xs) ∧ R (Itt K a) H1))
theorem pi_seq {l : Expr} {tl : TE} (hl : PE X l tl) : PI X tg l (iSeq X.K tl) := by
  intro pins s σ H R I h
  refine thn (hl pins s σ H _ I h) fun v s1 ⟨x, H1, I1, r1, q1⟩ => ?_
  obtain ⟨a, e, ⟨⟨xs, hq⟩, q⟩ | ⟨⟨xs, hq⟩, q⟩⟩ := q1
  · subst e
    cases r1
    obtain ⟨its, rv, p, hz⟩ := I1.list hq
    refine wpAny_pyIter_list p.isList ?_
    refine ⟨s1.heap.objs.size, [s1.heap.objs.size], _, _, H1, rfl, I1.kept (t' := s1.toks) fun b o e => Heap.get?_push_of_some _ e, turn_list a _, ⟨_, Heap.get?_push_size _ rfl, rfl, rfl⟩, fun b hb => ?_, q⟩
    have e : b = s1.heap.objs.size := by simpa using hb
    subst e
    exact I1.fpOk (Nat.le_refl _) (I1.hok.fresh (Nat.le_refl _))
  · subst e
    cases r1
    obtain ⟨its, rv, p, hz⟩ := I1.tuple hq
    refine wpAny_pyIter_tuple (show s1.heap.IsTuple a its.toArray from p) ?_
    refine ⟨s1.heap.objs.size, [s1.heap.objs.size], _, _, H1, rfl, I1.kept (t' := s1.toks) fun b o e => Heap.get?_push_of_some _ e, turn_tuple a _, ⟨_, Heap.get?_push_size _ rfl, rfl, rfl⟩, fun b hb => ?_, q⟩
    have e : b = s1.heap.objs.size := by simpa using hb
    subst e
    exact I1.fpOk (Nat.le_refl _) (I1.hok.fresh (Nat.le_refl _))
theorem si_seq {l : Expr} {f : DE} (hl : SE X l f) : SI X tg l (dISeq f) := PI.imp (pi_seq hl) fun σ H Q ⟨π, α, δ, h, Q', R, S, f, k⟩ => by
  refine ⟨π, α, δ, h, _, R, S, f, fun d h1 α1 H1 v1 f1 e1 R1 q1 => ?_⟩
  cases q : seqSrc h1 d with
  | none => rw [q] at f1; exact f1.elim
  | some Sr =>
    rw [q] at f1
    obtain ⟨a, rfl, ok, ⟨hu, sa⟩ | ⟨hu, sa⟩⟩ := seqSrc_ok R1 q1 q
    · exact ⟨a, rfl, .inl ⟨hu, k Sr h1 α1 H1 _ f1 e1 R1 (it_list sa) ok⟩⟩
    · exact ⟨a, rfl, .inr ⟨hu, k Sr h1 α1 H1 _ f1 e1 R1 (it_tup sa) ok⟩⟩
theorem si_range1 {a : Expr} {n : Nat} {fs : DA} {p pos : Pos} (hg : Gl X "range") (hm : X.mg "range" = none) (ha : SA X [a] n fs) (hs : starEach [a] X.env = [(false, eval a X.env)] := by rfl) (hn : n = 1 := by rfl) : SI X tg (.Call (.Name "range" p) [a] [] pos) (dIRange fs) := PI.imp (pi_range1 hg hm ha hs) fun σ H Q ⟨π, α, δ, h, Q', R, S, f, k⟩ => by
  refine ⟨π, α, δ, h, _, R, S, f, fun ds h1 α1 H1 vs f1 e1 R1 q1 l1 => ?_⟩
  split at f1
  · obtain ⟨v, rfl, q3⟩ := q1.inv1
    cases q3 with
    | int => exact ⟨_, rfl, f1.1.1, f1.1.2, k _ h1 α1 H1 _ f1.2 e1 R1 it_range Src.ok_nil⟩
  · subst hn; cases l1
  · exact f1.elim
theorem si_range2 {a b : Expr} {n : Nat} {fs : DA} {p pos : Pos} (hg : Gl X "range") (hm : X.mg "range" = none) (ha : SA X [a, b] n fs) (hs : starEach [a, b] X.env = [(false, eval a X.env), (false, eval b X.env)] := by rfl) (hs2 : starEach [b] X.env = [(false, eval b X.env)] := by rfl) (hn : n = 2 := by rfl) : SI X tg (.Call (.Name "range" p) [a, b] [] pos) (dIRange fs) := PI.imp (pi_range2 hg hm ha hs hs2) fun σ H Q ⟨π, α, δ, h, Q', R, S, f, k⟩ => by
  refine ⟨π, α, δ, h, _, R, S, f, fun ds h1 α1 H1 vs f1 e1 R1 q1 l1 => ?_⟩
  split at f1
  · subst hn; cases l1
  · obtain ⟨v, v', rfl, q3, q4⟩ := q1.inv2
    cases q3 with
    | int i =>
      cases q4 with
      | int => exact ⟨_, _, rfl, f1.1, k _ h1 α1 H1 _ f1.2 e1 R1 it_range Src.ok_nil⟩
  · exact f1.elim
end
end DL
namespace DL
open PySem PySem.Spec L2
noncomputable def dCB (p : PN) (f : DA) : DE := fun δ h Q => f δ h fun ds h1 => p ds h1 Q
theorem cb_lift {K : PySem.W.Frag} {p : PN} {n : Nat} {f : DA} {σ : L2.St} {H : Hp} {Q : VK} (g : LE K (dCB p f) σ H Q) : LA K n f σ H fun vs H1 => rN K p vs H1 Q := by
  obtain ⟨π, α, δ, h, Q', R, S, f, k⟩ := g
  exact ⟨π, α, δ, h, _, R, S, f, fun ds h1 α1 H1 vs f1 e1 R1 q1 l1 => ⟨π, α1, h1, ds, Q', R1, q1, f1, fun d h' α' H' v a b c d' => k d h' α' H' v a (e1.trans b) c d'⟩⟩
section
variable {X : Cx} {x : Str} {p pos : Pos} {e : Expr} {es : List Expr} {n : Nat} {f : DA} {id T : String} {r : PN}
theorem se_callB (hc : CallR X (.builtin id) (rN X.K r)) (hg : Gl X x) (hm : X.mg x = none) (hv : bootBuiltins x = some (.builtin id)) (ha : SA X (e :: es) n f) (hn : x ≠ "__name__" := by decide) (hdb : (x == ("__debug__" : Str)) = false := by decide)
    (he : starEach (e :: es) X.env = (false, eval e X.env) :: starEach es X.env := by rfl) (hpl : (backTo pos (starEach es X.env)).any (·.1) = false := by rfl) : SE X (.Call (.Name x p) (e :: es) [] pos) (dCB r f) :=
  PE.imp (pe_callB hc hg hm hv ha hn hdb he hpl) fun _ _ _ g => cb_lift g
theorem se_callTy (hc : CallR X (.type T) (rN X.K r)) (hg : Gl X x) (hm : X.mg x = none) (hv : bootBuiltins x = some (.type T)) (ha : SA X (e :: es) n f) (hn : x ≠ "__name__" := by decide) (hdb : (x == ("__debug__" : Str)) = false := by decide)
    (he : starEach (e :: es) X.env = (false, eval e X.env) :: starEach es X.env := by rfl) (hpl : (backTo pos (starEach es X.env)).any (·.1) = false := by rfl) : SE X (.Call (.Name x p) (e :: es) [] pos) (dCB r f) :=
  PE.imp (pe_callTy hc hg hm hv ha hn hdb he hpl) fun _ _ _ g => cb_lift g
noncomputable def lenD (h : Hh) : D → Option Nat
  | .str x => if x.length ≤ 16777216 then some x.length else none
  | d => (seqOf h d).map List.length
noncomputable def pLen : PN := fun ds h Q => match ds with | [d] => (match lenD h d with | some n => Q (.int n) h | none => False) | _ => False
theorem ok_len : CallR X (.builtin "len") (rN X.K pLen) := CallR.imp call_len fun xs H Q ⟨π, α, h, ds, Q', R, rs, f, k⟩ => by
  unfold pLen at f
  split at f
  · rename_i d
    obtain ⟨v, rfl, rd⟩ := rs.inv1
    cases q : lenD h d with
    | none => rw [q] at f; exact f.elim
    | some n =>
      rw [q] at f
      refine ⟨v, n, rfl, ?_, k _ h α H _ f (Ext.refl ..) R (.int _)⟩
      by_cases z : ∃ x, d = .str x
      · obtain ⟨x, rfl⟩ := z
        cases rd
        have q : (if x.length ≤ 16777216 then some x.length else none) = some n := q
        split at q
        · rename_i hl
          cases q
          exact ⟨by rw [sizeLine_eq]; exact hl, rfl⟩
        · cases q
      · have q' : (seqOf h d).map List.length = some n := by
          cases d with
          | str x => exact absurd ⟨x, rfl⟩ z
          | _ => exact q
        cases w : seqOf h d with
        | none => rw [w] at q'; cases q'
        | some ys =>
          rw [w] at q'
          cases q'
          obtain ⟨p, us, rfl, b, c⟩ := seqOf_sq R rd w
          rcases b with b | b
          · exact .inl ⟨us, b, c.length⟩
          · exact .inr ⟨us, b, c.length⟩
  · exact f.elim
noncomputable def pTuple : PN := fun ds h Q => match ds with | [d] => (match seqOf h d with | some xs => Q (.tup xs) h | none => False) | _ => False
noncomputable def dListOf (f : DA) : DN := fun δ h Q => f δ h fun ds h1 => match ds with | [d] => (match seqOf h1 d with | some xs => Q xs h1 | none => False) | _ => False
noncomputable def pInt : PN := fun ds h Q => match ds with | [.int i] => Q (.int i) h | [.bl b] => Q (.int (if b then 1 else 0)) h | _ => False
noncomputable def pMin : PN := fun ds h Q => match ds with | [.int i, .int j] => Q (.int (if j < i then j else i)) h | _ => False
noncomputable def pMax : PN := fun ds h Q => match ds with | [.int i, .int j] => Q (.int (if j > i then j else i)) h | _ => False
noncomputable def pAbs : PN := fun ds h Q => match ds with | [.int i] => Q (.int (if i < 0 then -i else i)) h | _ => False
theorem ok_min (hc : X.calm = true) : CallR X (.builtin "min") (rN X.K pMin) := CallR.imp (call_min2 hc) fun xs H Q ⟨π, α, h, ds, Q', R, rs, f, k⟩ => by
  unfold pMin at f
  split at f
  · obtain ⟨v, w, rfl, rd, re⟩ := rs.inv2
    cases rd; cases re
    exact ⟨_, _, rfl, k _ h α H _ f (Ext.refl ..) R (.int _)⟩
  · exact f.elim
noncomputable def pAll : PN := fun ds h Q => ∃ (d : D) (bs : List Bool), ds = [d] ∧ lsOf h d = some (bs.map D.bl) ∧ Q (.bl (bs.all fun b => b)) h
theorem ok_all (hc : X.calm = true) : CallR X (.builtin "all") (rN X.K pAll) := CallR.imp (call_all_bools hc) fun xs H Q ⟨π, α, h, ds, Q', R, rs, f, k⟩ => by
  obtain ⟨d, ns, rfl, w, f⟩ := f
  obtain ⟨v, rfl, rd⟩ := rs.inv1
  obtain ⟨p, us, rfl, b, c⟩ := lsOf_sq R rd w
  cases c.bls_inv
  exact ⟨p, ns, rfl, b, k _ h α H _ f (Ext.refl ..) R (.bl _)⟩
end
section
variable {X : Cx} {o e : Expr} {fo fe : DE} {fs : DA} {n : Nat} {apos cpos : Pos}
noncomputable def dBits (fo : DE) : DE := fun δ h Q => fo δ h fun d h1 => match d with | .int i => Q (.int (Builtin.Int.intBits i : Nat)) h1 | _ => False
noncomputable def dAppend (fo : DE) (fs : DA) : DE := fun δ h Q => fo δ h fun d h1 => match d with
  | .ref i => (match h1[i]? with
    | some (.lst _) => fs δ h1 fun ds h2 => (match ds, h2[i]? with
      | [v], some (.lst ys) => ys.length < 16777216 ∧ Q .non (h2.set i (.lst (ys ++ [v])))
      | _, _ => False)
    | _ => False)
  | _ => False
theorem refL {K : PySem.W.Frag} {π α : List Addr} {H : Hp} {h : Hh} (R : HRel ⟨K, π⟩ α H h) {i : Nat} {a : Addr} {xs : List D} (hp : α[i]? = some a) (w : h[i]? = some (.lst xs)) : ∃ us, H a = some (.lst us) ∧ RelDs ⟨K, π⟩ α H xs us := by
  obtain ⟨p, us, e1, e2, e3⟩ := R.lst w
  rw [hp] at e1; cases e1
  exact ⟨us, e2, e3⟩
theorem se_append (ho : SE X o fo) (ha : SA X [e] n fs) (hbase : attributeBase o "append" X.env (eval o X.env) = eval o X.env := by rfl)
    (hfew : ((backTo cpos (starEach [e] X.env)).all (fun x => !x.1) && (backToKw cpos (keywordEach [] X.env)).all (fun x => x.1.isSome)
      && decide ([e].length + ([] : List Keyword).length + (if ([] : List Keyword).isEmpty then 0 else 1) < 30)) = true := by rfl)
    (hline : (apos.endLine == cpos.line) = true := by rfl) (hs : starEach [e] X.env = (false, eval e X.env) :: starEach [] X.env := by rfl) (hplain : (backTo cpos (starEach [] X.env)).any (·.1) = false := by rfl) :
    SE X (.Call (.Attribute o "append" apos) [e] [] cpos) (dAppend fo fs) :=
  PE.imp (pe_bm PySem.F.plainAttrs_list PySem.F.slot_list_append PySem.F.type_list_append mt_append ho ha hbase hfew hline hs hplain) fun σ H Q ⟨π, α, δ, h, Q', R, S, f, k⟩ => by
    refine ⟨π, α, δ, h, _, R, S, f, fun d h1 α1 H1 v1 f1 e1 R1 q1 => ?_⟩
    cases q1 with
    | @ref i a hp =>
      dsimp only at f1
      cases w : h1[i]? with
      | none => rw [w] at f1; exact f1.elim
      | some ob =>
        rw [w] at f1
        cases ob with
        | lst xs =>
          obtain ⟨us, e2, e3⟩ := refL R1 hp w
          refine ⟨.inl ⟨rfl, us, SqL.of e2⟩, π, α1, δ, h1, _, R1, S.mono e1, f1, fun ds h2 α2 H2 vs f2 e2 R2 q2 l2 => ?_⟩
          split at f2
          · rename_i v ys w2
            obtain ⟨u, rfl, q9⟩ := q2.inv1
            have hp2 := e2.get hp
            obtain ⟨us2, g2, g3⟩ := refL R2 hp2 w2
            have e4 : Ext α2 H2 α2 (upd H2 a (.lst (us2 ++ [u]))) := Ext.write (List.mem_of_getElem? hp2)
            exact ⟨a, us2, u, rfl, rfl, g2, by rw [← g3.length, sizeLine_eq]; exact f2.1, k _ _ α2 _ _ f2.2 (e1.trans (e2.trans e4)) (R2.write hp2 (.lst upd_same ((g3.snoc q9).mono e4))) .non⟩
          · exact f2.elim
        | _ => exact f1.elim
    | _ => exact f1.elim
noncomputable def dPop (fo : DE) : DE := fun δ h Q => fo δ h fun d h1 => match d with
  | .ref i => (match h1[i]? with
    | some (.lst xs) => (match xs[xs.length - 1]? with | some y => Q y (h1.set i (.lst xs.dropLast)) | none => False)
    | _ => False)
  | _ => False
noncomputable def dClear (fo : DE) : DE := fun δ h Q => fo δ h fun d h1 => match d with
  | .ref i => (match h1[i]? with | some (.lst _) => Q .non (h1.set i (.lst [])) | _ => False)
  | _ => False
end
noncomputable abbrev DSp := List D → Hh → DK → Prop
inductive spD (K : PySem.W.Frag) (n : Nat) (g : DSp) (vs : List V) (H : Hp) (Q : VK) (X9 : XK) : Prop
  | mk (π : List Addr) (α : List Addr) (h : Hh) (ds : List D) (Q' : DK) : HRel ⟨K, π⟩ α H h → RelDs ⟨K, π⟩ α H ds vs → ds.length = n → g ds h Q' → (∀ d h' α' H' v, Q' d h' → Ext α H α' H' → HRel ⟨K, π⟩ α' H' h' → RelD ⟨K, π⟩ α' H' d v → Q v H') → spD K n g vs H Q X9
noncomputable def dCal (g : DSp) (f : DA) : DE := fun δ h Q => f δ h fun ds h1 => g ds h1 Q
section
variable {X : Cx} {k m : Nat} {ps : List Str} {g : DSp} {x : Str} {p pos : Pos} {e : Expr} {es : List Expr} {n : Nat} {f : DA}
theorem se_cal (c : Cal X.prog X.w X.K X.mg X.base k x ps (spD X.K m g)) (hr : Room k X.A) (hg : Gl X x) (ha : SA X (e :: es) n f) (hn : n = m := by rfl) (hdb : (x == ("__debug__" : Str)) = false := by decide)
    (he : starEach (e :: es) X.env = (false, eval e X.env) :: starEach es X.env := by rfl) (hpl : (backTo pos (starEach es X.env)).any (·.1) = false := by rfl) : SE X (.Call (.Name x p) (e :: es) [] pos) (dCal g f) :=
  PE.imp (pe_cal c hr hg ha hdb he hpl) fun σ H Q ⟨π, α, δ, h, Q', R, S, f, k⟩ => by
    refine ⟨π, α, δ, h, _, R, S, f, fun ds h1 α1 H1 vs f1 e1 R1 q1 l1 => ?_⟩
    show spD X.K m g (vs ++ []) H1 Q E0
    rw [List.append_nil]
    exact ⟨π, α1, h1, ds, Q', R1, q1, l1.trans hn, f1, fun d h' α' H' v a b c d' => k d h' α' H' v a (e1.trans b) c d'⟩
end
noncomputable def runD (n : Nat) (b : DS) : DSp := fun ds h Q => b { nx := fun _ h' => Q .non h', rt := Q } (ds.map some ++ List.replicate (n - ds.length) none) h
theorem relS_start {K : KP} {α : List Addr} {H : Hp} {ds : List D} {vs : List V} {N : List Str} (r : RelDs K α H ds vs) : RelS K α H (ds.map some ++ List.replicate (N.length - ds.length) none) (L2.start N vs) := by
  refine ⟨by unfold L2.start; simp [r.length], fun i d e => ?_⟩
  by_cases hi : i < ds.length
  · rw [List.getElem?_append_left (by simpa using hi), List.getElem?_map] at e
    cases q : ds[i]? with
    | none => rw [q] at e; cases e
    | some z =>
      rw [q] at e
      cases e
      obtain ⟨u, h1, h2⟩ := r.get q
      refine ⟨u, ?_, h2⟩
      unfold L2.start
      rw [List.getElem?_append_left (by rw [List.length_map, ← r.length]; exact hi), List.getElem?_map, h1]; rfl
  · rw [List.getElem?_append_right (by simpa using hi), List.getElem?_replicate] at e
    split at e <;> cases e
section
variable {P : Program} {w : World} {K : PySem.W.Frag} {mg : Str → Option Value} {base : Heap}
theorem fn_ok {x qual : Str} {st : Stmt} {f : Addr} {fd : FuncData} {N ps : List Str} {k : Nat} {b : DS} {g : DSp} (F : Fun K x qual st f fd) (S : FnScope N ps (defScope st))
    (hb : ∀ (cdv : Value) (A : Around) (outer : List Env) (s : Shared) (H : Hp) (E : XK), Room k (A.deeper (PyProof.Rows.envOfC qual (defScope st) s.heap.objs.size f cdv)) → SSs (cxOf CX0 P w K mg base N qual (defScope st) f cdv A outer s H E).nox (defBody st) b)
    (hg : ∀ ds h Q, g ds h Q → runD N.length b ds h Q) : FnOk P w K mg base CX0 (k + 1) f fd ps (spD K ps.length g) := by
  refine F.ok S (fun vs H Q E h => ?_) fun cdv A outer s H vs Q E hr h => ?_
  · obtain ⟨π, α, h, ds, Q', R, r, l, _⟩ := h
    rw [← r.length, l]
  · obtain ⟨π, α, h, ds, Q', R, r, l, q, kk⟩ := h
    refine ⟨_, hb cdv A outer s H E hr, π, α, _, h, { nx := fun _ h' => Q' .non h', rt := Q' }, R, relS_start r, hg ds h Q' q, ⟨fun _ h' α' H' σ' a b c _ => kk .non h' α' H' .non a b c .non, fun d h' α' H' v a b c d' => kk d h' α' H' v a b c d', fun _ _ _ _ _ a _ _ _ => a.elim, fun _ _ _ _ _ a _ _ _ => a.elim, fun _ _ _ _ _ _ _ a _ _ _ => a.elim⟩⟩
end
end DL
namespace DL
open PySem PySem.Spec L2
noncomputable def lsP (h : Hh) : D → Option (List D)
  | .lst xs => some xs
  | .ref i => match h[i]? with | some (.lst xs) => some xs | _ => none
  | _ => none
theorem lsP_sq {K : KP} {α : List Addr} {H : Hp} {h : Hh} (R : HRel K α H h) {d : D} {v : V} {xs : List D} (r : RelD K α H d v) (e : lsP h d = some xs) : ∃ p us, v = .ref p ∧ H p = some (.lst us) ∧ RelDs K α H xs us := by
  cases r with
  | lst t r => cases e; exact ⟨_, _, rfl, t.2.2, r⟩
  | @ref i a hp =>
    have e : (match h[i]? with | some (.lst xs) => some xs | _ => none) = some xs := e
    cases q : h[i]? with
    | none => rw [q] at e; cases e
    | some o =>
      rw [q] at e
      cases o with
      | lst ys =>
        cases e
        obtain ⟨p, us, e1, e2, e3⟩ := R.lst q
        rw [hp] at e1; cases e1
        exact ⟨_, us, rfl, e2, e3⟩
      | _ => cases e
  | _ => cases e
noncomputable def pPlus : P2 := fun x y h Q => match lsP h x, lsP h y with
  | some xs, some ys => xs.length + ys.length ≤ 16777216 ∧ Q (.lst (xs ++ ys)) h
  | _, _ => pAdd x y h Q
section
variable {X : Cx}
theorem ok_plus : OpR X (binaryOp .Add) (r2 X.K pPlus) := OpR.imp (op_cat.or ok_add) fun x y H Q ⟨π, α, h, d, e, Q', R, r1, r2, f, k⟩ => by
  unfold pPlus at f
  cases w : lsP h d with
  | none => rw [w] at f; exact .inr ⟨π, α, h, d, e, Q', R, r1, r2, f, k⟩
  | some xs =>
    cases w' : lsP h e with
    | none => rw [w, w'] at f; exact .inr ⟨π, α, h, d, e, Q', R, r1, r2, f, k⟩
    | some ys =>
      rw [w, w'] at f
      obtain ⟨p, us, rfl, b, c⟩ := lsP_sq R r1 w
      obtain ⟨p', us', rfl, b', c'⟩ := lsP_sq R r2 w'
      refine .inl ⟨p, p', us, us', rfl, rfl, b, b', by rw [← c.length, ← c'.length, sizeLine_eq]; exact f.1, fun l hl => ?_⟩
      have e2 : Ext α H α (upd H l (.lst (us ++ us'))) := Ext.new hl
      exact k _ h α _ _ f.2 e2 (R.new hl) (.lst ⟨R.out hl, R.outP hl, upd_same⟩ ((c.append c').mono e2))
noncomputable def dCatN (fa fb : DE) : DN := fun δ h Q => fa δ h fun x h1 => fb δ h1 fun y h2 => match lsP h2 x, lsP h2 y with
  | some xs, some ys => xs.length + ys.length ≤ 16777216 ∧ Q (xs ++ ys) h2
  | _, _ => False
noncomputable def dRepN (fa fb : DE) : DN := fun δ h Q => fa δ h fun x h1 => fb δ h1 fun y h2 => match lsP h2 x, y with
  | some xs, .int n => (-(2 ^ 63) ≤ n ∧ n < 2 ^ 63 ∧ xs.length * n.toNat ≤ 16777216) ∧ Q (List.replicate n.toNat xs).flatten h2
  | _, _ => False
theorem op_mulB : OpR X (binaryOp .Mult) (rI IntMulOk fun i j => .int (i * j)) := opI fun _ _ _ _ _ _ _ hc q => PyProof.Rows.mul_int q hc
noncomputable def pMulI : P2 := pI IntMulOk fun i j => i * j
theorem ok_timesI : OpR X (binaryOp .Mult) (r2 X.K pMulI) := pI_ok op_mulB
noncomputable def pMul : P2 := fun x y h Q => match x, y with
  | .int i, .int j => IntMulOk i j ∧ Q (.int (i * j)) h
  | .tup xs, .int n => (xs ≠ [] ∧ xs.length ≤ 10 ∧ 1 ≤ n ∧ n < 100) ∧ Q (.tup (List.replicate n.toNat xs).flatten) h
  | x, .int n => (match lsP h x with | some xs => (-(2 ^ 63) ≤ n ∧ n < 2 ^ 63 ∧ xs.length * n.toNat ≤ 16777216) ∧ Q (.lst (List.replicate n.toNat xs).flatten) h | none => False)
  | _, _ => False
noncomputable def dSl (fe : DE) (fl fh : DO) : DE := fun δ h Q => fe δ h fun d h1 => fl δ h1 fun l h2 => fh δ h2 fun u h3 => match d with
  | .tup xs => Q (.tup (cutD xs l u)) h3
  | d => match lsOf h3 d with | some xs => Q (.lst (cutD xs l u)) h3 | none => False
noncomputable def dExtend (fo : DE) (fs : DA) : DE := fun δ h Q => fo δ h fun d h1 => match d with
  | .ref i => (match h1[i]? with
    | some (.lst _) => fs δ h1 fun ds h2 => (match ds, h2[i]? with
      | [v], some (.lst ys) => (match lsP h2 v with | some zs => ys.length + zs.length ≤ 16777216 ∧ Q .non (h2.set i (.lst (ys ++ zs))) | none => False)
      | _, _ => False)
    | _ => False)
  | _ => False
noncomputable def kindD (h : Hh) : D → Option String
  | .non => some "NoneType"
  | .bl _ => some "bool"
  | .int _ => some "int"
  | .str _ => some "str"
  | .tup _ => some "tuple"
  | .lst _ => some "list"
  | .ref i => match h[i]? with | some (.lst _) => some "list" | some (.dT _) => some "dict" | some (.dK _) => some "dict" | _ => none
  | _ => none
noncomputable def isKind (t T : String) : Bool := t == T || (t == "bool" && T == "int")
theorem kit_of {K : PySem.W.Frag} {t T : String} (ht : t ∈ ["NoneType", "bool", "int", "str", "tuple", "list", "dict"]) (hT : T ∈ ["bool", "int", "str", "tuple", "list", "dict"]) : PySem.W.kitOne K (.type t) (.type T) = some (isKind t T) := by
  simp only [List.mem_cons, List.not_mem_nil, or_false] at ht hT
  rcases ht with rfl | rfl | rfl | rfl | rfl | rfl | rfl <;> rcases hT with rfl | rfl | rfl | rfl | rfl | rfl <;> rfl
noncomputable def dIsinst (T : String) (fa : DE) : DE := fun δ h Q => fa δ h fun d h1 => match kindD h1 d with | some t => Q (.bl (isKind t T)) h1 | none => False
theorem kind_in {h : Hh} {d : D} {t : String} (e : kindD h d = some t) : t ∈ ["NoneType", "bool", "int", "str", "tuple", "list", "dict"] := by
  unfold kindD at e
  split at e
  all_goals first | (cases e; done) | (cases e; decide) | skip
  split at e
  all_goals first | (cases e; done) | (cases e; decide)
theorem call_isinstD {T : String} : CallR X (.builtin "isinstance") (fun xs H Q => ∃ x t b, xs = [x, .ty T] ∧ (TyOf X.K H x t ∨ (t = .type "tuple" ∧ ∃ a us, x = .ref a ∧ SqT X.K H a us)) ∧ PySem.W.kitOne X.K t (.type T) = some b ∧ Q (.bl b) H) := by
  intro pins s σ H xs us Q I r h
  obtain ⟨x, t, b, rfl, ty, e, q⟩ := h
  obtain ⟨u, w', rfl, ru, rw'⟩ := vals2 r
  cases rw'
  rcases ty with ty | ⟨rfl, a, us, rfl, hq⟩
  · exact isinst_ok I ru ty e fun tk => ⟨.bl b, H, I.tok _, rfl, q⟩
  · cases ru
    obtain ⟨its, rv, ⟨o, h1, h2, _⟩, _⟩ := I.tuple hq
    exact PySem.W.kia_one PySem.W.kitx_tuple I.kIn ⟨o, h1, h2⟩ e (fun z => nomatch z) fun tk => ⟨.bl b, H, I.tok _, rfl, q⟩
theorem kind_ty {K : PySem.W.Frag} {π α : List Addr} {H : Hp} {h : Hh} {d : D} {v : V} {t : String} (R : HRel ⟨K, π⟩ α H h) (r : RelD ⟨K, π⟩ α H d v) (e : kindD h d = some t) : TyOf K H v (.type t) ∨ (Value.type t = .type "tuple" ∧ ∃ a us, v = .ref a ∧ SqT K H a us) := by
  cases r with
  | non => cases e; exact .inl .non
  | bl b => cases e; exact .inl (.bl b)
  | int i => cases e; exact .inl (.int i)
  | str x => cases e; exact .inl (.str x)
  | tup t r => cases e; exact .inr ⟨rfl, _, _, rfl, t.sq⟩
  | lst t r => cases e; exact .inl (.lst t.2.2)
  | scr t r => cases e
  | exc _ _ _ => cases e
  | @ref i a hp =>
    have e : (match h[i]? with | some (.lst _) => some "list" | some (.dT _) => some "dict" | some (.dK _) => some "dict" | _ => none) = some t := e
    cases q : h[i]? with
    | none => rw [q] at e; cases e
    | some o =>
      rw [q] at e
      cases o with
      | lst ys =>
        cases e
        obtain ⟨us, e2, e3⟩ := refL R hp q
        exact .inl (.lst e2)
      | dT ys =>
        cases e
        obtain ⟨p, us, e1, e2, e3⟩ := R.dT q
        rw [hp] at e1; cases e1
        exact .inl (.dT e2)
      | dK ys =>
        cases e
        obtain ⟨p, us, e1, e2, e3⟩ := R.dK q
        rw [hp] at e1; cases e1
        exact .inl (.dK e2)
      | ins C fs => cases e
theorem se_isinst {T : String} {a : Expr} {fa : DE} {x : Str} {p p2 pos : Pos} (hT : T ∈ ["bool", "int", "str", "tuple", "list", "dict"]) (hg : Gl X "isinstance") (hm : X.mg "isinstance" = none) (ha : SE X a fa) (ht : PE X (.Name x p2) (tC (.ty T)))
    (he : starEach [a, .Name x p2] X.env = (false, eval a X.env) :: starEach [.Name x p2] X.env := by rfl) (he2 : starEach [.Name x p2] X.env = (false, eval (.Name x p2) X.env) :: starEach [] X.env := by rfl) (hpl : (backTo pos (starEach [.Name x p2] X.env)).any (·.1) = false := by rfl) :
    SE X (.Call (.Name "isinstance" p) [a, .Name x p2] [] pos) (dIsinst T fa) := PE.imp (pe_callB call_isinstD hg hm PyProof.Rows.boot_isinstance (pa_cons ha (pa_cons ht pa_nil he2) he) (by decide) (by decide) he hpl) fun σ H Q ⟨π, α, δ, h, Q', R, S, f, k⟩ => by
  refine ⟨π, α, δ, h, _, R, S, f, fun d h1 α1 H1 v1 f1 e1 R1 q1 => ?_⟩
  split at f1
  · rename_i t w
    exact ⟨v1, .type t, _, rfl, kind_ty R1 q1 w, kit_of (kind_in w) hT, k _ h1 α1 H1 _ f1 e1 R1 (.bl _)⟩
  · exact f1.elim
noncomputable def flatD : D → Bool
  | .non => true
  | .bl _ => true
  | .int _ => true
  | .str _ => true
  | _ => false
noncomputable def eqF : D → D → Bool
  | .non, .non => true
  | .bl a, .bl b => a == b
  | .bl a, .int b => (if a then 1 else 0) == b
  | .int a, .bl b => a == (if b then 1 else 0)
  | .int a, .int b => a == b
  | .str a, .str b => a == b
  | _, _ => false
noncomputable def inF (x : D) (xs : List D) : Bool := xs.any fun y => eqF y x
theorem flat_rel {K : KP} {α : List Addr} {H : Hp} {d : D} {v : V} (r : RelD K α H d v) : flatV v = flatD d := by cases r <;> rfl
theorem flats_rel {K : KP} {α : List Addr} {H : Hp} : ∀ {ds : List D} {vs : List V}, RelDs K α H ds vs → vs.all flatV = ds.all flatD
  | _, _, .nil => rfl
  | _, _, .cons r t => by rw [List.all_cons, List.all_cons, flat_rel r, flats_rel t]
theorem eqF_rel {K : KP} {α : List Addr} {H : Hp} {d e : D} {v u : V} (r : RelD K α H d v) (s : RelD K α H e u) : eqV v u = eqF d e := by
  cases r <;> cases s <;> rfl
theorem inF_rel {K : KP} {α : List Addr} {H : Hp} {d : D} {v : V} (r : RelD K α H d v) : ∀ {ds : List D} {vs : List V}, RelDs K α H ds vs → inV v vs = inF d ds
  | _, _, .nil => rfl
  | _, _, .cons s t => by
    have := inF_rel r t
    unfold inV inF at this ⊢
    rw [List.any_cons, List.any_cons, this, eqF_rel s r]
noncomputable def pIn (neg : Bool) : P2 := fun x y h Q => match seqOf h y with
  | some xs => (flatD x && xs.all flatD) = true ∧ Q (.bl (if neg then !inF x xs else inF x xs)) h
  | none => False
theorem pIn_r {neg : Bool} {x y : V} {H : Hp} {Q : VK} (g : r2 X.K (pIn neg) x y H Q) : rIn X.K neg x y H Q := by
  obtain ⟨π, α, h, d, e, Q', R, r1, r2, f, k⟩ := g
  unfold pIn at f
  split at f
  · rename_i xs w
    obtain ⟨p, us, rfl, b, c⟩ := seqOf_sq R r2 w
    obtain ⟨f1, f2⟩ := f
    rw [Bool.and_eq_true] at f1
    refine ⟨p, us, rfl, b, by rw [flat_rel r1]; exact f1.1, by rw [flats_rel c]; exact f1.2, k _ h α H _ f2 (Ext.refl ..) R ?_⟩
    rw [inF_rel r1 c]; exact .bl _
  · exact f.elim
theorem ok_in : OpR X (compareOp .In) (r2 X.K (pIn false)) := OpR.imp op_in_seq fun _ _ _ _ g => pIn_r g
end
end DL
namespace DL
open PySem PySem.Spec L2
section
variable {X : Cx}
noncomputable def intsOf : List D → Option (List Int)
  | [] => some []
  | .int i :: r => (intsOf r).map (i :: ·)
  | _ :: _ => none
noncomputable def pLt : P2 := fun x y h Q => match x, y with
  | .int i, .int j => Q (.bl (decide (i < j))) h
  | .tup a, .tup b => (match intsOf a, intsOf b with | some ns, some ms => Q (.bl (HT.lexLt ns ms)) h | _, _ => False)
  | .str a, .str b => Q (.bl (decide (a.cps.toList < b.cps.toList))) h
  | _, _ => False
noncomputable def keyS : D → Option Key
  | .int i => some (.inl i)
  | .str x => some (.inr x)
  | _ => none
noncomputable def lkG (kvs : List (Key × Int)) (k : Key) : Option Int := (kvs.find? fun kv => decide (kv.1 = k)).map (·.2)
noncomputable def dGet (kvs : List (Key × Int)) (fi : DE) : DE := fun δ h Q => fi δ h fun d h1 => match (keyS d).bind fun k => lkG kvs k with | some v => Q (.int v) h1 | none => False
noncomputable def dIEnum1 (f : DA) : DI := fun δ h Q => f δ h fun ds h1 => match ds with | [d] => (match d with | .tup _ => False | d => match seqSrc h1 d with | some S => Q ⟨enumD 1 S.items, S.w⟩ h1 | none => False) | _ => False
end
end DL
namespace Att
open PySem PySem.W PySem.Calls PyProof.Rows
theorem bits_weight : ∀ (ns : List Int) (x : Int), x ∈ ns → Builtin.Int.intBits x ≤ WData.weightAll (ns.map WData.int)
  | n :: r, x, h => by
    rw [List.map_cons]
    show _ ≤ WData.weight (.int n) + 1 + WData.weightAll (r.map WData.int)
    rcases List.mem_cons.mp h with rfl | h
    · have e : WData.weight (.int x) = Builtin.Int.intBits x := rfl
      rw [e]; omega
    · have := bits_weight r x h
      omega
theorem bits_args {ns : List Int} (h : WData.layableAll [WData.list (ns.map WData.int)] = true) : ∀ x ∈ ns, Builtin.Int.intBits x ≤ 1048576 := fun x hx => by
  have h : (WData.layable (.list (ns.map WData.int)) && true) = true := h
  rw [Bool.and_true] at h
  unfold WData.layable at h
  rw [Bool.and_eq_true] at h
  have h2 : WData.weight (.list (ns.map WData.int)) ≤ 2 ^ 20 := of_decide_eq_true h.2
  exact Nat.le_trans (bits_weight ns x hx) h2
theorem attach_call2 {l : OpenLaw} {n : Nat} {q : Program} {loose : List Str} {XP : (Str → Option Value) → Heap → Prop} {YP : World → Heap → Prop} {d : DefRec}
    (hn : l.most = some n) (hdf : d.params.defaults = [])
    (call : ∀ (w : World) (s₀ s₁ : Shared) (mg mb : Str → Option Value) (fa : Addr) (o : Obj) (pm cd doc : Value) (a : Addr) (vs : List Value) (ns : List Int),
      Ground q loose [] XP w s₀ mg mb s₁.heap → YP w s₁.heap →
      s₁.heap.get? fa = some o → o.data = .func (docDef d.name d.params d.body d.scope pm cd doc) → s₁.heap.CodeRec cd d.name → mg d.name = some (.ref fa) →
      s₁.heap.get? a = some { cls := .type "list", data := .seq vs.toArray } → IntsAre vs ns → ns.length ≤ n → (∀ x ∈ ns, Builtin.Int.intBits x ≤ 1048576) → s₁.gens = #[] →
      codeAny (model l.prog w) callerA (.call (.ref fa) ⟨[.ref a], []⟩) (fun r s' => r = .ok (.ret (.bool true)) ∧ OldK s₁.heap s'.heap ∧ s'.os = s₁.os ∧ AllBare s'.gens) s₁) :
    WalkO q loose XP YP l.row.toRowW d [] (fun f vs => PySem.call f vs) := by
  intro w s₀ s₁ mg mb G Y fa o pm cd doc dV kV ho hd hcd hD hmg hg args vals as hpre hlay hrd hwl hlo
  obtain rfl : dV = .none := Dflts.none hD hdf
  obtain rfl : kV = .none := Dflts.noKw hD
  obtain ⟨a, vs, ns, rfl, rfl, hobj, hints, hlen⟩ := script_of hn hpre hwl
  refine enter_call (codeAny_mono (call w s₀ s₁ mg mb fa o pm cd doc a vs ns G Y ho (fd_plain hd) hcd hmg hobj hints hlen (bits_args hlay) hg) fun r s' hq => ?_)
  obtain ⟨rfl, h2, h3, h4⟩ := hq
  exact ⟨.inl ⟨.bool true, .bool true, [], rfl, fun _ => rfl, .bool true, post_true l _, fun _ => ⟨List.Pairwise.nil, fun _ hm => (nomatch hm)⟩⟩, h2, h3, h4⟩
end Att
namespace DL
open PySem PySem.Spec L2 PySem.W PyProof.Rows
theorem walkD {l : OpenLaw} {n k : Nat} {q : Program} {loose : List Str} {XP : (Str → Option Value) → Heap → Prop} {YP : World → Heap → Prop} {d : DefRec} {K : Params → PySem.W.Frag} {S : DSp} {x : Str}
    (hn : l.most = some n) (hn2 : n ≤ sizeLine) (hdf : d.params.defaults = []) (hr : Room k callerA)
    (hY : ∀ (w : World) (h : Heap), YP w h → (K w.params).In h)
    (F : ∀ (w : World) (mg : Str → Option Value) (fa : Addr) (h : Heap), (K w.params).In h → h.Ns mainGlobals mg → mg d.name = some (.ref fa) →
      ∃ fd : FuncData, (∀ (s : Shared) (u : Value), BindsTo s fd ⟨[u], []⟩ [(x, u)]) ∧
        ∀ base : Heap, (K w.params).In base → base.Ns mainGlobals mg → FnOk l.prog w (K w.params) mg base CX0 k fa fd [x] (spD (K w.params) 1 S))
    (hS : ∀ ns : List Int, ns.length ≤ n → (∀ x ∈ ns, Builtin.Int.intBits x ≤ 1048576) → S [.scr (ns.map D.int)] [] (fun v _ => v = .bl true)) :
    WalkO q loose XP YP l.row.toRowW d [] (fun f vs => PySem.call f vs) := by
  refine Att.attach_call2 hn hdf fun w s₀ s₁ mg mb fa o pm cd doc a vs ns G Y ho hd hcd hmg hobj hints hlen hbits hg => ?_
  have KX := hY w _ Y
  obtain ⟨fd, hb, hF⟩ := F w mg fa _ KX G.T.g hmg
  refine L2.law_call KX G.T.g G.T.b G.T.builtins G.T.nolimit hg hobj hints (Nat.le_trans hlen hn2) hr hF hb (fun H hO hS' => ?_) fun H e s' z => z
  refine ⟨[], [], [], [.scr (ns.map D.int)], _, ⟨rfl, List.nodup_nil, fun p hp => (nomatch hp), fun i o e => ?_⟩, .cons (.scr (a := a) (us := ns.map V.int) ?_ (RelDs.ints ns)) .nil, rfl, hS ns hlen hbits, fun d h' α' H' v a b c r => ?_⟩
  · simp at e
  · rcases hS' with h | h
    · exact .inl ⟨fun z => (nomatch z), fun z => (nomatch z), h⟩
    · exact .inr h
  · have a : d = .bl true := a
    subst a
    cases r; rfl
end DL
namespace DL
open PySem PySem.Spec L2
mutual
noncomputable def nrD : D → Bool
  | .tup xs => nrDs xs
  | .lst xs => nrDs xs
  | .scr xs => nrDs xs
  | .ref _ => false
  | _ => true
noncomputable def nrDs : List D → Bool
  | [] => true
  | d :: ds => nrD d && nrDs ds
end
noncomputable def nrO : O → Bool
  | .lst xs => nrDs xs
  | .dT kvs => nrDs (kvs.map (·.2))
  | .dK kvs => nrDs (kvs.map (·.2))
  | .ins _ fs => nrDs (fs.map (·.2))
mutual
inductive Vw (n : Nat) (h : Hh) : D → D → Prop
  | nr {d : D} : nrD d = true → Vw n h d d
  | old {i : Nat} : i < n → Vw n h (.ref i) (.ref i)
  | opn {i : Nat} {xs ys : List D} : n ≤ i → h[i]? = some (.lst xs) → Vws n h xs ys → Vw n h (.ref i) (.lst ys)
  | tup {xs ys : List D} : Vws n h xs ys → Vw n h (.tup xs) (.tup ys)
  | lst {xs ys : List D} : Vws n h xs ys → Vw n h (.lst xs) (.lst ys)
inductive Vws (n : Nat) (h : Hh) : List D → List D → Prop
  | nil : Vws n h [] []
  | cons {d e : D} {ds es : List D} : Vw n h d e → Vws n h ds es → Vws n h (d :: ds) (e :: es)
end
section
variable {K : PySem.W.Frag} {π α β : List Addr} {H H' : Hp} {h : Hh}
theorem VT.less {a : Addr} {us : List V} (t : VT ⟨K, π⟩ (α ++ β) H a us) : VT ⟨K, π⟩ α H a us := ⟨fun z => t.1 (List.mem_append_left _ z), t.2⟩
theorem VS.less {a : Addr} {us : List V} (t : VS ⟨K, π⟩ (α ++ β) H a us) : VS ⟨K, π⟩ α H a us := by
  rcases t with ⟨n, m, t⟩ | t
  · exact .inl ⟨fun z => n (List.mem_append_left _ z), m, t⟩
  · exact .inr t
theorem VL.less {a : Addr} {us : List V} (t : VL ⟨K, π⟩ (α ++ β) H a us) : VL ⟨K, π⟩ α H a us := ⟨fun z => t.1 (List.mem_append_left _ z), t.2⟩
theorem VE.less {a : Addr} {u : HO} (t : VE ⟨K, π⟩ (α ++ β) H a u) : VE ⟨K, π⟩ α H a u := ⟨fun z => t.1 (List.mem_append_left _ z), t.2⟩
theorem nrDs_and {x : D} {r : List D} (e : nrDs (x :: r) = true) : nrD x = true ∧ nrDs r = true := by
  have e : (nrD _ && nrDs _) = true := e
  rw [Bool.and_eq_true] at e
  exact e
theorem RelD.nr {d : D} {v : V} (e : nrD d = true) (r : RelD ⟨K, π⟩ (α ++ β) H d v) : RelD ⟨K, π⟩ α H d v :=
  RelD.rec (motive_1 := fun d v _ => nrD d = true → RelD ⟨K, π⟩ α H d v) (motive_2 := fun ds us _ => nrDs ds = true → RelDs ⟨K, π⟩ α H ds us) (fun _ => .non) (fun b _ => .bl b) (fun i _ => .int i) (fun x _ => .str x) (fun t _ h e => .tup t.less (h e)) (fun t _ h e => .lst t.less (h e)) (fun t _ h e => .scr t.less (h e)) (fun _ e => nomatch e) (fun n t r _ => .exc n t.less r.less) (fun _ => .nil) (fun _ _ h t e => .cons (h (nrDs_and e).1) (t (nrDs_and e).2)) r e
theorem RelDs.nr {ds : List D} {vs : List V} (e : nrDs ds = true) (r : RelDs ⟨K, π⟩ (α ++ β) H ds vs) : RelDs ⟨K, π⟩ α H ds vs := by
  induction ds generalizing vs with
  | nil => cases r; exact .nil
  | cons d ds ih => cases r with | cons h t => exact .cons (h.nr (nrDs_and e).1) (ih (nrDs_and e).2 t)
mutual
noncomputable def rfD (n : Nat) : D → Bool
  | .tup xs => rfDs n xs
  | .lst xs => rfDs n xs
  | .scr xs => rfDs n xs
  | .ref i => decide (i < n)
  | _ => true
noncomputable def rfDs (n : Nat) : List D → Bool
  | [] => true
  | x :: r => rfD n x && rfDs n r
end
theorem RelD.rf {d : D} {v : V} (r : RelD ⟨K, π⟩ α H d v) : rfD α.length d = true :=
  RelD.rec (motive_1 := fun d _ _ => rfD α.length d = true) (motive_2 := fun ds _ _ => rfDs α.length ds = true) rfl (fun _ => rfl) (fun _ => rfl) (fun _ => rfl) (fun _ _ h => h) (fun _ _ h => h) (fun _ _ h => h) (fun h => decide_eq_true (List.getElem?_eq_some_iff.mp h).1) (fun _ _ _ => rfl) rfl (fun _ _ h t => Bool.and_eq_true_iff.mpr ⟨h, t⟩) r
theorem RelDs.rf {ds : List D} {vs : List V} (r : RelDs ⟨K, π⟩ α H ds vs) : rfDs α.length ds = true := by
  induction ds generalizing vs with
  | nil => rfl
  | cons d ds ih => cases r with | cons h t => exact Bool.and_eq_true_iff.mpr ⟨h.rf, ih t⟩
theorem RelD.old2 {d : D} {v : V} (e : rfD α.length d = true) (r : RelD ⟨K, π⟩ (α ++ β) H d v) : RelD ⟨K, π⟩ α H d v :=
  RelD.rec (motive_1 := fun d v _ => rfD α.length d = true → RelD ⟨K, π⟩ α H d v) (motive_2 := fun ds us _ => rfDs α.length ds = true → RelDs ⟨K, π⟩ α H ds us) (fun _ => .non) (fun b _ => .bl b) (fun i _ => .int i) (fun x _ => .str x) (fun t _ h e => .tup t.less (h e)) (fun t _ h e => .lst t.less (h e)) (fun t _ h e => .scr t.less (h e)) (fun h1 e => .ref (by rw [List.getElem?_append_left (of_decide_eq_true e)] at h1; exact h1)) (fun n t r _ => .exc n t.less r.less) (fun _ => .nil) (fun _ _ h t e => .cons (h (Bool.and_eq_true_iff.mp e).1) (t (Bool.and_eq_true_iff.mp e).2)) r e
theorem RelDs.old2 {ds : List D} {vs : List V} (e : rfDs α.length ds = true) (r : RelDs ⟨K, π⟩ (α ++ β) H ds vs) : RelDs ⟨K, π⟩ α H ds vs := by
  induction ds generalizing vs with
  | nil => cases r; exact .nil
  | cons d ds ih => cases r with | cons h t => exact .cons (h.old2 (Bool.and_eq_true_iff.mp e).1) (ih (Bool.and_eq_true_iff.mp e).2 t)
theorem RelD.old {d : D} {v v0 : V} (r0 : RelD ⟨K, π⟩ α H d v0) (r : RelD ⟨K, π⟩ (α ++ β) H' d v) : RelD ⟨K, π⟩ α H' d v := r.old2 r0.rf
theorem RelDs.old {ds : List D} {vs vs0 : List V} (r0 : RelDs ⟨K, π⟩ α H ds vs0) (r : RelDs ⟨K, π⟩ (α ++ β) H' ds vs) : RelDs ⟨K, π⟩ α H' ds vs := r.old2 r0.rf
theorem RelKV.old {κ : Type} : ∀ {ds : List (κ × D)} {vs vs0 : List (κ × V)}, RelKV ⟨K, π⟩ α H ds vs0 → RelKV ⟨K, π⟩ (α ++ β) H' ds vs → RelKV ⟨K, π⟩ α H' ds vs
  | _, _, _, .nil, r => by cases r; exact .nil
  | _, _, _, .cons r0 t0, r => by cases r with | cons r t => exact .cons (RelD.old r0 r) (RelKV.old t0 t)
theorem RelKV.nr {κ : Type} : ∀ {ds : List (κ × D)} {vs : List (κ × V)}, nrDs (ds.map (·.2)) = true → RelKV ⟨K, π⟩ (α ++ β) H ds vs → RelKV ⟨K, π⟩ α H ds vs
  | _, _, _, .nil => .nil
  | _, _, e, .cons r t => by
    have e : (nrD _ && nrDs _) = true := e
    rw [Bool.and_eq_true] at e
    exact .cons (RelD.nr e.1 r) (RelKV.nr e.2 t)
theorem RelO'.nr {p : Addr} {o : O} (e : nrO o = true) (r : RelO' ⟨K, π⟩ (α ++ β) H p o) : RelO' ⟨K, π⟩ α H p o := by
  cases r with
  | lst h t => exact .lst h (t.nr e)
  | dT h t => exact .dT h (t.nr e)
  | dK h t => exact .dK h (t.nr e)
  | ins n h t => exact .ins n h (t.nr e)
theorem RelO'.old {p p0 : Addr} {o : O} (r0 : RelO' ⟨K, π⟩ α H p0 o) (r : RelO' ⟨K, π⟩ (α ++ β) H' p o) : RelO' ⟨K, π⟩ α H' p o := by
  cases r0 with
  | lst h0 t0 => cases r with | lst h t => exact .lst h (t0.old t)
  | dT h0 t0 => cases r with | dT h t => exact .dT h (t0.old t)
  | dK h0 t0 => cases r with | dK h t => exact .dK h (t0.old t)
  | ins n0 h0 t0 => cases r with | ins n h t => exact .ins n h (t0.old t)
mutual
theorem Vw.rel (R : HRel ⟨K, π⟩ (α ++ β) H h) {n : Nat} (hn : α.length = n) : ∀ {d e : D} {v : V}, Vw n h d e → RelD ⟨K, π⟩ (α ++ β) H d v → RelD ⟨K, π⟩ α H e v
  | _, _, _, .nr e, r => r.nr e
  | _, _, _, .old hi, r => by
    cases r with
    | ref hp => exact .ref (by rw [List.getElem?_append_left (by omega)] at hp; exact hp)
  | _, _, _, .opn hi e t, r => by
    cases r with
    | ref hp =>
    obtain ⟨us, e2, e3⟩ := refL R hp e
    have hm := List.mem_of_getElem? hp
    refine .lst ⟨fun z => ?_, fun z => (R.dis _ z).1 hm, e2⟩ (Vws.rel R hn t e3)
    obtain ⟨j, hj, ej⟩ := List.getElem_of_mem z
    subst ej
    have q : (α ++ β)[j]? = some α[j] := by rw [List.getElem?_append_left hj, List.getElem?_eq_getElem hj]
    have := (List.getElem?_inj (List.getElem?_eq_some_iff.mp hp).1 R.nd).mp (hp.trans q.symm)
    omega
  | _, _, _, .tup t, r => by
    cases r with
    | tup q r => exact .tup q.less (Vws.rel R hn t r)
  | _, _, _, .lst t, r => by
    cases r with
    | lst q r => exact .lst q.less (Vws.rel R hn t r)
theorem Vws.rel (R : HRel ⟨K, π⟩ (α ++ β) H h) {n : Nat} (hn : α.length = n) : ∀ {ds es : List D} {vs : List V}, Vws n h ds es → RelDs ⟨K, π⟩ (α ++ β) H ds vs → RelDs ⟨K, π⟩ α H es vs
  | _, _, _, .nil, .nil => .nil
  | _, _, _, .cons e t, .cons r s => .cons (Vw.rel R hn e r) (Vws.rel R hn t s)
end
end
noncomputable def Dr (h : Hh) (Q : DK) : DK := fun d h' => ∃ h2 g d', h' = h2 ++ g ∧ h2.length = h.length ∧ (∀ (i : Nat) (o : O), h2[i]? = some o → h[i]? = some o ∨ nrO o = true) ∧ Vw h.length h' d d' ∧ Q d' h2
theorem Dr.rel {K : PySem.W.Frag} {π α α' : List Addr} {H H' : Hp} {h h' : Hh} {Q : DK} {d : D} {v : V} (R : HRel ⟨K, π⟩ α H h) (e : Ext α H α' H') (R' : HRel ⟨K, π⟩ α' H' h') (r : RelD ⟨K, π⟩ α' H' d v) (q : Dr h Q d h') :
    ∃ d' h2, Q d' h2 ∧ Ext α H α H' ∧ HRel ⟨K, π⟩ α H' h2 ∧ RelD ⟨K, π⟩ α H' d' v := by
  obtain ⟨h2, g, d', rfl, hl, ho, vw, q⟩ := q
  obtain ⟨⟨β, rfl, hb⟩, ek, ed⟩ := e
  have hn := R.len
  refine ⟨d', h2, q, ⟨⟨[], by simp, fun p hp => nomatch hp⟩, ek, ed⟩, ⟨by omega, ?_, fun p hp => ?_, fun i o eo => ?_⟩, vw.rel R' hn r⟩
  · exact R.nd
  · exact ⟨fun z => (R'.dis p hp).1 (List.mem_append_left _ z), (R'.dis p hp).2⟩
  · have hi : i < h2.length := (List.getElem?_eq_some_iff.mp eo).1
    obtain ⟨p, ep, ro⟩ := R'.obj i o (by rw [List.getElem?_append_left hi]; exact eo)
    refine ⟨p, by rw [List.getElem?_append_left (by omega)] at ep; exact ep, ?_⟩
    rcases ho i o eo with z | z
    · obtain ⟨p0, _, r0⟩ := R.obj i o z
      exact r0.old ro
    · exact ro.nr z
theorem fn_okD {P : Program} {w : World} {K : PySem.W.Frag} {mg : Str → Option Value} {base : Heap} {x qual : Str} {st : Stmt} {f : Addr} {fd : FuncData} {N ps : List Str} {k : Nat} {b : DS} {g : DSp} (F : Fun K x qual st f fd) (S : FnScope N ps (defScope st))
    (hb : ∀ (cdv : Value) (A : Around) (outer : List Env) (s : Shared) (H : Hp) (E : XK), Room k (A.deeper (PyProof.Rows.envOfC qual (defScope st) s.heap.objs.size f cdv)) → SSs (cxOf CX0 P w K mg base N qual (defScope st) f cdv A outer s H E).nox (defBody st) b)
    (hg : ∀ ds h Q, g ds h Q → runD N.length b ds h (Dr h Q)) : FnOk P w K mg base CX0 (k + 1) f fd ps (spD K ps.length g) := by
  refine F.ok S (fun vs H Q E h => ?_) fun cdv A outer s H vs Q E hr h => ?_
  · obtain ⟨π, α, h, ds, Q', R, r, l, _⟩ := h
    rw [← r.length, l]
  · obtain ⟨π, α, h, ds, Q', R, r, l, q, kk⟩ := h
    refine ⟨_, hb cdv A outer s H E hr, π, α, _, h, { nx := fun _ h' => Dr h Q' .non h', rt := Dr h Q' }, R, relS_start r, hg ds h Q' q, ⟨fun _ h' α' H' σ' a b c _ => ?_, fun d h' α' H' v a b c d' => ?_, fun _ _ _ _ _ a _ _ _ => a.elim, fun _ _ _ _ _ a _ _ _ => a.elim, fun _ _ _ _ _ _ _ a _ _ _ => a.elim⟩⟩
    · obtain ⟨d', h2, q, e, R2, r2⟩ := a.rel R b c .non
      exact kk d' h2 α H' .non q e R2 r2
    · obtain ⟨d', h2, q, e, R2, r2⟩ := a.rel R b c d'
      exact kk d' h2 α H' v q e R2 r2
theorem nrDs_map {τ : Type} {g : τ → D} (hg : ∀ x, nrD (g x) = true) : ∀ xs : List τ, nrDs (xs.map g) = true
  | [] => rfl
  | x :: r => by
    show (nrD (g x) && nrDs (r.map g)) = true
    rw [hg x, nrDs_map hg r]; rfl
theorem Vws.of {n : Nat} {h : Hh} : ∀ {xs : List D}, nrDs xs = true → Vws n h xs xs
  | [], _ => .nil
  | x :: r, e => by
    have e : (nrD x && nrDs r) = true := e
    rw [Bool.and_eq_true] at e
    exact .cons (.nr e.1) (Vws.of e.2)
theorem Dr.dropL {h : Hh} {Q : DK} {xs : List D} {g1 g2 : Hh} {k : Nat} (e : nrDs xs = true) (hk : k = h.length + g1.length) (q : Q (.lst xs) h) : Dr h Q (.ref k) (h ++ (g1 ++ .lst xs :: g2)) := by
  refine ⟨h, g1 ++ .lst xs :: g2, .lst xs, rfl, rfl, fun _ _ e => .inl e, .opn (by omega) ?_ (.of e), q⟩
  subst hk
  rw [List.getElem?_append_right (by omega), show h.length + g1.length - h.length = g1.length by omega, List.getElem?_append_right (Nat.le_refl _)]
  simp
end DL
namespace DL
open PySem L2
theorem atN {α : Type} (xs : List α) (i : Nat) : atI xs (i : Int) = xs[i]? := by
  unfold atI ixN
  by_cases h : i < xs.length
  · rw [if_pos (by omega), if_pos (by omega)]; simp
  · rw [if_pos (by omega), if_neg (by omega)]
    simp; omega
theorem atI_of {α : Type} {xs : List α} {i : Int} (h0 : 0 ≤ i) : atI xs i = xs[i.toNat]? := by
  have := atN xs i.toNat
  rwa [Int.toNat_of_nonneg h0] at this
theorem atI_0 {α : Type} (a : α) (l : List α) : atI (a :: l) 0 = some a := atN _ 0
theorem at1_0 {α : Type} (a : α) : atI [a] 0 = some a := rfl
theorem at2_0 {α : Type} (a b : α) : atI [a, b] 0 = some a := rfl
theorem at2_1 {α : Type} (a b : α) : atI [a, b] 1 = some b := rfl
theorem at3_0 {α : Type} (a b c : α) : atI [a, b, c] 0 = some a := rfl
theorem at3_1 {α : Type} (a b c : α) : atI [a, b, c] 1 = some b := rfl
theorem at3_2 {α : Type} (a b c : α) : atI [a, b, c] 2 = some c := rfl
theorem at4_0 {α : Type} (a b c d : α) : atI [a, b, c, d] 0 = some a := rfl
theorem at4_1 {α : Type} (a b c d : α) : atI [a, b, c, d] 1 = some b := rfl
theorem at4_2 {α : Type} (a b c d : α) : atI [a, b, c, d] 2 = some c := rfl
theorem at4_3 {α : Type} (a b c d : α) : atI [a, b, c, d] 3 = some d := rfl
theorem at5_0 {α : Type} (a b c d e : α) : atI [a, b, c, d, e] 0 = some a := rfl
theorem at5_1 {α : Type} (a b c d e : α) : atI [a, b, c, d, e] 1 = some b := rfl
theorem at5_2 {α : Type} (a b c d e : α) : atI [a, b, c, d, e] 2 = some c := rfl
theorem at5_3 {α : Type} (a b c d e : α) : atI [a, b, c, d, e] 3 = some d := rfl
theorem at5_4 {α : Type} (a b c d e : α) : atI [a, b, c, d, e] 4 = some e := rfl
theorem at6_0 {α : Type} (a b c d e f : α) : atI [a, b, c, d, e, f] 0 = some a := rfl
theorem at6_1 {α : Type} (a b c d e f : α) : atI [a, b, c, d, e, f] 1 = some b := rfl
theorem at6_2 {α : Type} (a b c d e f : α) : atI [a, b, c, d, e, f] 2 = some c := rfl
theorem at6_3 {α : Type} (a b c d e f : α) : atI [a, b, c, d, e, f] 3 = some d := rfl
theorem at6_4 {α : Type} (a b c d e f : α) : atI [a, b, c, d, e, f] 4 = some e := rfl
theorem at6_5 {α : Type} (a b c d e f : α) : atI [a, b, c, d, e, f] 5 = some f := rfl
theorem at7_0 {α : Type} (a b c d e f g : α) : atI [a, b, c, d, e, f, g] 0 = some a := rfl
theorem at7_1 {α : Type} (a b c d e f g : α) : atI [a, b, c, d, e, f, g] 1 = some b := rfl
theorem at7_2 {α : Type} (a b c d e f g : α) : atI [a, b, c, d, e, f, g] 2 = some c := rfl
theorem at7_3 {α : Type} (a b c d e f g : α) : atI [a, b, c, d, e, f, g] 3 = some d := rfl
theorem at7_4 {α : Type} (a b c d e f g : α) : atI [a, b, c, d, e, f, g] 4 = some e := rfl
theorem at7_5 {α : Type} (a b c d e f g : α) : atI [a, b, c, d, e, f, g] 5 = some f := rfl
theorem at7_6 {α : Type} (a b c d e f g : α) : atI [a, b, c, d, e, f, g] 6 = some g := rfl
theorem at8_0 {α : Type} (a b c d e f g i : α) : atI [a, b, c, d, e, f, g, i] 0 = some a := rfl
theorem at8_1 {α : Type} (a b c d e f g i : α) : atI [a, b, c, d, e, f, g, i] 1 = some b := rfl
theorem at8_2 {α : Type} (a b c d e f g i : α) : atI [a, b, c, d, e, f, g, i] 2 = some c := rfl
theorem at8_3 {α : Type} (a b c d e f g i : α) : atI [a, b, c, d, e, f, g, i] 3 = some d := rfl
theorem at8_4 {α : Type} (a b c d e f g i : α) : atI [a, b, c, d, e, f, g, i] 4 = some e := rfl
theorem at8_5 {α : Type} (a b c d e f g i : α) : atI [a, b, c, d, e, f, g, i] 5 = some f := rfl
theorem at8_6 {α : Type} (a b c d e f g i : α) : atI [a, b, c, d, e, f, g, i] 6 = some g := rfl
theorem at8_7 {α : Type} (a b c d e f g i : α) : atI [a, b, c, d, e, f, g, i] 7 = some i := rfl
theorem ix_ls {h : Hh} {d : D} {xs : List D} (e : lsOf h d = some xs) (k : Int) : ixD h d (.int k) = atI xs k := by
  cases d with
  | lst ys => cases e; rfl
  | scr ys => cases e; rfl
  | ref i =>
    have e : (match h[i]? with | some (.lst xs) => some xs | _ => none) = some xs := e
    show (match h[i]? with | some (.lst xs) => atI xs k | _ => none) = atI xs k
    cases q : h[i]? with
    | none => rw [q] at e; cases e
    | some o =>
      rw [q] at e
      cases o with
      | lst ys => cases e; rfl
      | _ => cases e
  | _ => cases e
theorem seq_ls {h : Hh} {d : D} {xs : List D} (e : lsOf h d = some xs) : seqOf h d = some xs := by
  cases d with
  | lst ys => exact e
  | scr ys => exact e
  | ref i => exact e
  | _ => cases e
theorem len_ls {h : Hh} {d : D} {xs : List D} (e : lsOf h d = some xs) : lenD h d = some xs.length := by
  have s := seq_ls e
  cases d with
  | lst ys => cases e; rfl
  | scr ys => cases e; rfl
  | ref i => show (seqOf h (.ref i)).map List.length = _; rw [s]; rfl
  | _ => cases e
noncomputable def Pre (h h' : Hh) : Prop := ∀ (i : Nat) (o : O), h[i]? = some o → h'[i]? = some o
theorem Pre.trans {a b c : Hh} (x : Pre a b) (y : Pre b c) : Pre a c := fun i o e => y i o (x i o e)
theorem Pre.ls {h h' : Hh} (p : Pre h h') {d : D} {xs : List D} (e : lsOf h d = some xs) : lsOf h' d = some xs := by
  cases d with
  | ref i =>
    have e : (match h[i]? with | some (.lst xs) => some xs | _ => none) = some xs := e
    show (match h'[i]? with | some (.lst xs) => some xs | _ => none) = some xs
    cases q : h[i]? with
    | none => rw [q] at e; cases e
    | some o => rw [q] at e; rw [p i o q]; exact e
  | _ => exact e
theorem get_new (h : Hh) (o : O) : (h ++ [o])[h.length]? = some o := by
  rw [List.getElem?_append_right (Nat.le_refl _)]; simp
theorem set_new (h : Hh) (o u : O) : (h ++ [o]).set h.length u = h ++ [u] := by
  rw [List.set_append_right _ _ (Nat.le_refl _)]; simp
theorem forL_map {τ : Type} {S : Src} {t : DG} {b : DS} {E : DEnds} (P : List τ → Sl → Hh → Prop) {g : τ → D} {ys : List τ} {δ : Sl} {h : Hh} (h0 : P [] δ h) (ok : ∀ p δ h, P p δ h → S.ok h)
    (hs : ∀ (p : List τ) (y : τ) (r : List τ) (δ : Sl) (h : Hh) (N : Sl → Hh → Prop), ys = p ++ y :: r → P p δ h → (∀ δ h, P (p ++ [y]) δ h → N δ h) → t (g y) δ h fun δ2 h2 => b { E with nx := N, ct := N, bk := E.nx } δ2 h2)
    (hd : ∀ δ h, P ys δ h → E.nx δ h) : forL S t b E (ys.map g) δ h := by
  have go : ∀ (r p : List τ) δ h, ys = p ++ r → P p δ h → forL S t b E (r.map g) δ h := by
    intro r
    induction r with
    | nil => intro p δ h e q; rw [List.append_nil] at e; subst e; exact ⟨ok _ _ _ q, hd _ _ q⟩
    | cons y r ih =>
      intro p δ h e q
      exact ⟨ok _ _ _ q, hs p y r δ h _ e q fun δ3 h3 p3 => ih (p ++ [y]) δ3 h3 (by rw [e]; simp) p3⟩
  exact go ys [] δ h rfl h0
theorem compL_map {τ : Type} {S : Src} {t : DG} {tf : DT} {te : DE} (P : List τ → List D → Sl → Hh → Prop) {g : τ → D} {ys : List τ} {δ : Sl} {h : Hh} {Q : List D → Hh → Prop} (h0 : P [] [] δ h) (ok : ∀ p a δ h, P p a δ h → S.ok h)
    (hs : ∀ (p : List τ) (y : τ) (r : List τ) (acc : List D) (δ : Sl) (h : Hh) (N : List D → Sl → Hh → Prop), ys = p ++ y :: r → P p acc δ h → (∀ a δ h, P (p ++ [y]) a δ h → N a δ h) →
      t (g y) δ h fun δ2 h2 => tf δ2 h2 fun b h3 => if b = true then te δ2 h3 fun z h4 => N (acc ++ [z]) δ2 h4 else N acc δ2 h3)
    (hd : ∀ a δ h, P ys a δ h → Q a h) : compL S t tf te (ys.map g) [] δ h Q := by
  have go : ∀ (r p : List τ) a δ h, ys = p ++ r → P p a δ h → compL S t tf te (r.map g) a δ h Q := by
    intro r
    induction r with
    | nil => intro p a δ h e q; rw [List.append_nil] at e; subst e; exact ⟨ok _ _ _ _ q, hd _ _ _ q⟩
    | cons y r ih =>
      intro p a δ h e q
      exact ⟨ok _ _ _ _ q, hs p y r a δ h (fun a δ h => compL S t tf te (r.map g) a δ h Q) e q fun a3 δ3 h3 p3 => ih (p ++ [y]) a3 δ3 h3 (by rw [e]; simp) p3⟩
  exact go ys [] [] δ h rfl h0
theorem comp1 {τ : Type} {S : Src} {tf : DT} {te : DE} {g : τ → D} {ys : List τ} {h : Hh} {fr : Sl} {Q : List D → Hh → Prop} (c : τ → Bool) (v : τ → D) (ok : S.ok h) (o : Option D)
    (htf : ∀ y ∈ ys, ∀ K : Bool → Hh → Prop, K (c y) h → tf (some (g y) :: fr) h K) (hte : ∀ y ∈ ys, c y = true → ∀ K : DK, K (v y) h → te (some (g y) :: fr) h K)
    (hd : Q ((ys.filter c).map v) h) : compL S (dName 0) tf te (ys.map g) [] (o :: fr) h Q := by
  refine compL_map (fun p a δ h' => h' = h ∧ (∃ o, δ = o :: fr) ∧ a = (p.filter c).map v) ⟨rfl, ⟨o, rfl⟩, rfl⟩ (fun p a δ h' q => by rw [q.1]; exact ok) ?_ ?_
  · rintro p y r acc δ h' N e ⟨rfl, ⟨o, rfl⟩, rfl⟩ hN
    have hy : y ∈ ys := by rw [e]; simp
    refine htf y hy _ ?_
    cases hc : c y with
    | true =>
      refine iteT (hte y hy hc _ (hN _ _ _ ⟨rfl, ⟨_, rfl⟩, ?_⟩))
      simp [List.filter_append, hc]
    | false =>
      refine iteF (hN _ _ _ ⟨rfl, ⟨_, rfl⟩, ?_⟩)
      simp [List.filter_append, hc]
  · rintro a δ h' ⟨rfl, _, rfl⟩
    exact hd
theorem comp1n {τ : Type} {S : Src} {te : DE} {g : τ → D} {ys : List τ} {h : Hh} {fr : Sl} {Q : List D → Hh → Prop} (v : τ → D) (ok : S.ok h) (o : Option D)
    (hte : ∀ y ∈ ys, ∀ K : DK, K (v y) h → te (some (g y) :: fr) h K) (hd : Q (ys.map v) h) : compL S (dName 0) dNoIf te (ys.map g) [] (o :: fr) h Q :=
  comp1 (fun _ => true) v ok o (fun _ _ K k => k) (fun y hy _ => hte y hy) ((show ys.filter (fun _ => true) = ys by simp).symm ▸ hd)
theorem rangeD_map (lo : Int) : ∀ n : Nat, rangeD lo n = (List.range n).map fun i => D.int (lo + (i : Nat)) := by
  intro n
  apply List.ext_getElem?
  intro i
  rw [rangeD_get]
  by_cases h : i < n <;> simp [h]
theorem isN_non : isNon .non = true := rfl
theorem isN_bl (b : Bool) : isNon (.bl b) = false := rfl
theorem isN_int (b : Int) : isNon (.int b) = false := rfl
theorem isN_str (b : Str) : isNon (.str b) = false := rfl
theorem isN_tup (b : List D) : isNon (.tup b) = false := rfl
theorem isN_lst (b : List D) : isNon (.lst b) = false := rfl
theorem isN_ref (b : Nat) : isNon (.ref b) = false := rfl
theorem lsOf_lst (h : Hh) (xs : List D) : lsOf h (.lst xs) = some xs := rfl
theorem seqOf_lst (h : Hh) (xs : List D) : seqOf h (.lst xs) = some xs := rfl
theorem seqSrc_lst (h : Hh) (xs : List D) : seqSrc h (.lst xs) = some ⟨xs, []⟩ := rfl
theorem lenD_lst (h : Hh) (xs : List D) : lenD h (.lst xs) = some xs.length := rfl
theorem ixD_lst (h : Hh) (xs : List D) (i : Int) : ixD h (.lst xs) (.int i) = atI xs i := rfl
theorem trD_lst (h : Hh) (xs : List D) : trD h (.lst xs) = some (!xs.isEmpty) := rfl
theorem lsOf_scr (h : Hh) (xs : List D) : lsOf h (.scr xs) = some xs := rfl
theorem seqOf_scr (h : Hh) (xs : List D) : seqOf h (.scr xs) = some xs := rfl
theorem seqSrc_scr (h : Hh) (xs : List D) : seqSrc h (.scr xs) = some ⟨xs, []⟩ := rfl
theorem lenD_scr (h : Hh) (xs : List D) : lenD h (.scr xs) = some xs.length := rfl
theorem ixD_scr (h : Hh) (xs : List D) (i : Int) : ixD h (.scr xs) (.int i) = atI xs i := rfl
theorem trD_scr (h : Hh) (xs : List D) : trD h (.scr xs) = some (!xs.isEmpty) := rfl
theorem lsP_lst (h : Hh) (xs : List D) : lsP h (.lst xs) = some xs := rfl
theorem lsP_tup (h : Hh) (xs : List D) : lsP h (.tup xs) = none := rfl
theorem lsP_int (h : Hh) (x : Int) : lsP h (.int x) = none := rfl
theorem lsP_str (h : Hh) (x : Str) : lsP h (.str x) = none := rfl
theorem seqOf_tup (h : Hh) (xs : List D) : seqOf h (.tup xs) = some xs := rfl
theorem seqSrc_tup (h : Hh) (xs : List D) : seqSrc h (.tup xs) = some ⟨xs, []⟩ := rfl
theorem lenD_tup (h : Hh) (xs : List D) : lenD h (.tup xs) = some xs.length := rfl
theorem ixD_tup (h : Hh) (xs : List D) (i : Int) : ixD h (.tup xs) (.int i) = atI xs i := rfl
theorem trD_tup (h : Hh) (xs : List D) : trD h (.tup xs) = some (!xs.isEmpty) := rfl
theorem trD_non (h : Hh) : trD h .non = some false := rfl
theorem trD_bl (h : Hh) (b : Bool) : trD h (.bl b) = some b := rfl
theorem trD_int (h : Hh) (i : Int) : trD h (.int i) = some (i != 0) := rfl
theorem kindD_non (h : Hh)  : kindD h (.non) = some "NoneType" := rfl
theorem kindD_bl (h : Hh) (x : Bool) : kindD h (.bl x) = some "bool" := rfl
theorem kindD_int (h : Hh) (x : Int) : kindD h (.int x) = some "int" := rfl
theorem kindD_str (h : Hh) (x : Str) : kindD h (.str x) = some "str" := rfl
theorem kindD_tup (h : Hh) (x : List D) : kindD h (.tup x) = some "tuple" := rfl
theorem kindD_lst (h : Hh) (x : List D) : kindD h (.lst x) = some "list" := rfl
theorem isK_NoneType_bool : isKind "NoneType" "bool" = false := rfl
theorem isK_NoneType_int : isKind "NoneType" "int" = false := rfl
theorem isK_NoneType_str : isKind "NoneType" "str" = false := rfl
theorem isK_NoneType_tuple : isKind "NoneType" "tuple" = false := rfl
theorem isK_NoneType_list : isKind "NoneType" "list" = false := rfl
theorem isK_NoneType_dict : isKind "NoneType" "dict" = false := rfl
theorem isK_bool_bool : isKind "bool" "bool" = true := rfl
theorem isK_bool_int : isKind "bool" "int" = true := rfl
theorem isK_bool_str : isKind "bool" "str" = false := rfl
theorem isK_bool_tuple : isKind "bool" "tuple" = false := rfl
theorem isK_bool_list : isKind "bool" "list" = false := rfl
theorem isK_bool_dict : isKind "bool" "dict" = false := rfl
theorem isK_int_bool : isKind "int" "bool" = false := rfl
theorem isK_int_int : isKind "int" "int" = true := rfl
theorem isK_int_str : isKind "int" "str" = false := rfl
theorem isK_int_tuple : isKind "int" "tuple" = false := rfl
theorem isK_int_list : isKind "int" "list" = false := rfl
theorem isK_int_dict : isKind "int" "dict" = false := rfl
theorem isK_str_bool : isKind "str" "bool" = false := rfl
theorem isK_str_int : isKind "str" "int" = false := rfl
theorem isK_str_str : isKind "str" "str" = true := rfl
theorem isK_str_tuple : isKind "str" "tuple" = false := rfl
theorem isK_str_list : isKind "str" "list" = false := rfl
theorem isK_str_dict : isKind "str" "dict" = false := rfl
theorem isK_tuple_bool : isKind "tuple" "bool" = false := rfl
theorem isK_tuple_int : isKind "tuple" "int" = false := rfl
theorem isK_tuple_str : isKind "tuple" "str" = false := rfl
theorem isK_tuple_tuple : isKind "tuple" "tuple" = true := rfl
theorem isK_tuple_list : isKind "tuple" "list" = false := rfl
theorem isK_tuple_dict : isKind "tuple" "dict" = false := rfl
theorem isK_list_bool : isKind "list" "bool" = false := rfl
theorem isK_list_int : isKind "list" "int" = false := rfl
theorem isK_list_str : isKind "list" "str" = false := rfl
theorem isK_list_tuple : isKind "list" "tuple" = false := rfl
theorem isK_list_list : isKind "list" "list" = true := rfl
theorem isK_list_dict : isKind "list" "dict" = false := rfl
theorem isK_dict_bool : isKind "dict" "bool" = false := rfl
theorem isK_dict_int : isKind "dict" "int" = false := rfl
theorem isK_dict_str : isKind "dict" "str" = false := rfl
theorem isK_dict_tuple : isKind "dict" "tuple" = false := rfl
theorem isK_dict_list : isKind "dict" "list" = false := rfl
theorem isK_dict_dict : isKind "dict" "dict" = true := rfl
theorem ixN_0 (n : Nat) : ixN (n + 1) 0 = some 0 := by unfold ixN; rw [if_pos (by decide), if_pos (by omega)]; rfl
theorem ixN_10 : ixN 1 0 = some 0 := rfl
theorem range_split {n d : Nat} {p r : List Nat} (e : List.range n = p ++ d :: r) : d = p.length ∧ d < n := by
  have h9 : p.length < n := by
    have : p.length < (List.range n).length := by rw [e]; simp
    simpa using this
  have h8 : (List.range n)[p.length]? = some d := by rw [e]; simp
  rw [List.getElem?_range h9] at h8
  cases h8; exact ⟨rfl, h9⟩
theorem seq_intro {f g : DS} {E : DEnds} {δ : Sl} {h : Hh} (k : ∀ N : Sl → Hh → Prop, N = g E → f { E with nx := N } δ h) : dSeq f g E δ h := k _ rfl
theorem iteB {c : Bool} {A B : Prop} (h1 : c = true → A) (h2 : c = false → B) : if c = true then A else B := by
  cases c with
  | true => exact iteT (h1 rfl)
  | false => exact iteF (h2 rfl)
theorem mulS {i j : Int} (h : -(2 ^ 64) < i ∧ i < 2 ^ 64) : IntMulOk i j := .of_left (intBits_le_64 h.1 h.2)
theorem mulS' {i j : Int} (h : -(2 ^ 64) < j ∧ j < 2 ^ 64) : IntMulOk i j := .of_right (intBits_le_64 h.1 h.2)
end DL
namespace CM
open PySem L2 DL
theorem sk_step : PyData.strOk (Str.ofString "step") = true := by decide +kernel
theorem sq_step_step : ((Str.ofString "step") == (Str.ofString "step")) = true := by decide +kernel
theorem sq_step_call : ((Str.ofString "step") == (Str.ofString "call")) = false := by decide +kernel
theorem sq_step_in : ((Str.ofString "step") == (Str.ofString "in")) = false := by decide +kernel
theorem sq_step_over : ((Str.ofString "step") == (Str.ofString "over")) = false := by decide +kernel
theorem sq_step_begin : ((Str.ofString "step") == (Str.ofString "begin")) = false := by decide +kernel
theorem sq_step_start : ((Str.ofString "step") == (Str.ofString "start")) = false := by decide +kernel
theorem sq_step_short : ((Str.ofString "step") == (Str.ofString "short")) = false := by decide +kernel
theorem sq_step_along : ((Str.ofString "step") == (Str.ofString "along")) = false := by decide +kernel
theorem sq_step_within : ((Str.ofString "step") == (Str.ofString "within")) = false := by decide +kernel
theorem sq_step_at : ((Str.ofString "step") == (Str.ofString "at")) = false := by decide +kernel
theorem sq_step_out : ((Str.ofString "step") == (Str.ofString "out")) = false := by decide +kernel
theorem sk_call : PyData.strOk (Str.ofString "call") = true := by decide +kernel
theorem sq_call_step : ((Str.ofString "call") == (Str.ofString "step")) = false := by decide +kernel
theorem sq_call_call : ((Str.ofString "call") == (Str.ofString "call")) = true := by decide +kernel
theorem sq_call_in : ((Str.ofString "call") == (Str.ofString "in")) = false := by decide +kernel
theorem sq_call_over : ((Str.ofString "call") == (Str.ofString "over")) = false := by decide +kernel
theorem sq_call_begin : ((Str.ofString "call") == (Str.ofString "begin")) = false := by decide +kernel
theorem sq_call_start : ((Str.ofString "call") == (Str.ofString "start")) = false := by decide +kernel
theorem sq_call_short : ((Str.ofString "call") == (Str.ofString "short")) = false := by decide +kernel
theorem sq_call_along : ((Str.ofString "call") == (Str.ofString "along")) = false := by decide +kernel
theorem sq_call_within : ((Str.ofString "call") == (Str.ofString "within")) = false := by decide +kernel
theorem sq_call_at : ((Str.ofString "call") == (Str.ofString "at")) = false := by decide +kernel
theorem sq_call_out : ((Str.ofString "call") == (Str.ofString "out")) = false := by decide +kernel
theorem sk_in : PyData.strOk (Str.ofString "in") = true := by decide +kernel
theorem sq_in_step : ((Str.ofString "in") == (Str.ofString "step")) = false := by decide +kernel
theorem sq_in_call : ((Str.ofString "in") == (Str.ofString "call")) = false := by decide +kernel
theorem sq_in_in : ((Str.ofString "in") == (Str.ofString "in")) = true := by decide +kernel
theorem sq_in_over : ((Str.ofString "in") == (Str.ofString "over")) = false := by decide +kernel
theorem sq_in_begin : ((Str.ofString "in") == (Str.ofString "begin")) = false := by decide +kernel
theorem sq_in_start : ((Str.ofString "in") == (Str.ofString "start")) = false := by decide +kernel
theorem sq_in_short : ((Str.ofString "in") == (Str.ofString "short")) = false := by decide +kernel
theorem sq_in_along : ((Str.ofString "in") == (Str.ofString "along")) = false := by decide +kernel
theorem sq_in_within : ((Str.ofString "in") == (Str.ofString "within")) = false := by decide +kernel
theorem sq_in_at : ((Str.ofString "in") == (Str.ofString "at")) = false := by decide +kernel
theorem sq_in_out : ((Str.ofString "in") == (Str.ofString "out")) = false := by decide +kernel
theorem sk_over : PyData.strOk (Str.ofString "over") = true := by decide +kernel
theorem sq_over_step : ((Str.ofString "over") == (Str.ofString "step")) = false := by decide +kernel
theorem sq_over_call : ((Str.ofString "over") == (Str.ofString "call")) = false := by decide +kernel
theorem sq_over_in : ((Str.ofString "over") == (Str.ofString "in")) = false := by decide +kernel
theorem sq_over_over : ((Str.ofString "over") == (Str.ofString "over")) = true := by decide +kernel
theorem sq_over_begin : ((Str.ofString "over") == (Str.ofString "begin")) = false := by decide +kernel
theorem sq_over_start : ((Str.ofString "over") == (Str.ofString "start")) = false := by decide +kernel
theorem sq_over_short : ((Str.ofString "over") == (Str.ofString "short")) = false := by decide +kernel
theorem sq_over_along : ((Str.ofString "over") == (Str.ofString "along")) = false := by decide +kernel
theorem sq_over_within : ((Str.ofString "over") == (Str.ofString "within")) = false := by decide +kernel
theorem sq_over_at : ((Str.ofString "over") == (Str.ofString "at")) = false := by decide +kernel
theorem sq_over_out : ((Str.ofString "over") == (Str.ofString "out")) = false := by decide +kernel
theorem sk_begin : PyData.strOk (Str.ofString "begin") = true := by decide +kernel
theorem sq_begin_step : ((Str.ofString "begin") == (Str.ofString "step")) = false := by decide +kernel
theorem sq_begin_call : ((Str.ofString "begin") == (Str.ofString "call")) = false := by decide +kernel
theorem sq_begin_in : ((Str.ofString "begin") == (Str.ofString "in")) = false := by decide +kernel
theorem sq_begin_over : ((Str.ofString "begin") == (Str.ofString "over")) = false := by decide +kernel
theorem sq_begin_begin : ((Str.ofString "begin") == (Str.ofString "begin")) = true := by decide +kernel
theorem sq_begin_start : ((Str.ofString "begin") == (Str.ofString "start")) = false := by decide +kernel
theorem sq_begin_short : ((Str.ofString "begin") == (Str.ofString "short")) = false := by decide +kernel
theorem sq_begin_along : ((Str.ofString "begin") == (Str.ofString "along")) = false := by decide +kernel
theorem sq_begin_within : ((Str.ofString "begin") == (Str.ofString "within")) = false := by decide +kernel
theorem sq_begin_at : ((Str.ofString "begin") == (Str.ofString "at")) = false := by decide +kernel
theorem sq_begin_out : ((Str.ofString "begin") == (Str.ofString "out")) = false := by decide +kernel
theorem sk_start : PyData.strOk (Str.ofString "start") = true := by decide +kernel
theorem sq_start_step : ((Str.ofString "start") == (Str.ofString "step")) = false := by decide +kernel
theorem sq_start_call : ((Str.ofString "start") == (Str.ofString "call")) = false := by decide +kernel
theorem sq_start_in : ((Str.ofString "start") == (Str.ofString "in")) = false := by decide +kernel
theorem sq_start_over : ((Str.ofString "start") == (Str.ofString "over")) = false := by decide +kernel
theorem sq_start_begin : ((Str.ofString "start") == (Str.ofString "begin")) = false := by decide +kernel
theorem sq_start_start : ((Str.ofString "start") == (Str.ofString "start")) = true := by decide +kernel
theorem sq_start_short : ((Str.ofString "start") == (Str.ofString "short")) = false := by decide +kernel
theorem sq_start_along : ((Str.ofString "start") == (Str.ofString "along")) = false := by decide +kernel
theorem sq_start_within : ((Str.ofString "start") == (Str.ofString "within")) = false := by decide +kernel
theorem sq_start_at : ((Str.ofString "start") == (Str.ofString "at")) = false := by decide +kernel
theorem sq_start_out : ((Str.ofString "start") == (Str.ofString "out")) = false := by decide +kernel
theorem sk_short : PyData.strOk (Str.ofString "short") = true := by decide +kernel
theorem sq_short_step : ((Str.ofString "short") == (Str.ofString "step")) = false := by decide +kernel
theorem sq_short_call : ((Str.ofString "short") == (Str.ofString "call")) = false := by decide +kernel
theorem sq_short_in : ((Str.ofString "short") == (Str.ofString "in")) = false := by decide +kernel
theorem sq_short_over : ((Str.ofString "short") == (Str.ofString "over")) = false := by decide +kernel
theorem sq_short_begin : ((Str.ofString "short") == (Str.ofString "begin")) = false := by decide +kernel
theorem sq_short_start : ((Str.ofString "short") == (Str.ofString "start")) = false := by decide +kernel
theorem sq_short_short : ((Str.ofString "short") == (Str.ofString "short")) = true := by decide +kernel
theorem sq_short_along : ((Str.ofString "short") == (Str.ofString "along")) = false := by decide +kernel
theorem sq_short_within : ((Str.ofString "short") == (Str.ofString "within")) = false := by decide +kernel
theorem sq_short_at : ((Str.ofString "short") == (Str.ofString "at")) = false := by decide +kernel
theorem sq_short_out : ((Str.ofString "short") == (Str.ofString "out")) = false := by decide +kernel
theorem sk_along : PyData.strOk (Str.ofString "along") = true := by decide +kernel
theorem sq_along_step : ((Str.ofString "along") == (Str.ofString "step")) = false := by decide +kernel
theorem sq_along_call : ((Str.ofString "along") == (Str.ofString "call")) = false := by decide +kernel
theorem sq_along_in : ((Str.ofString "along") == (Str.ofString "in")) = false := by decide +kernel
theorem sq_along_over : ((Str.ofString "along") == (Str.ofString "over")) = false := by decide +kernel
theorem sq_along_begin : ((Str.ofString "along") == (Str.ofString "begin")) = false := by decide +kernel
theorem sq_along_start : ((Str.ofString "along") == (Str.ofString "start")) = false := by decide +kernel
theorem sq_along_short : ((Str.ofString "along") == (Str.ofString "short")) = false := by decide +kernel
theorem sq_along_along : ((Str.ofString "along") == (Str.ofString "along")) = true := by decide +kernel
theorem sq_along_within : ((Str.ofString "along") == (Str.ofString "within")) = false := by decide +kernel
theorem sq_along_at : ((Str.ofString "along") == (Str.ofString "at")) = false := by decide +kernel
theorem sq_along_out : ((Str.ofString "along") == (Str.ofString "out")) = false := by decide +kernel
theorem sk_within : PyData.strOk (Str.ofString "within") = true := by decide +kernel
theorem sq_within_step : ((Str.ofString "within") == (Str.ofString "step")) = false := by decide +kernel
theorem sq_within_call : ((Str.ofString "within") == (Str.ofString "call")) = false := by decide +kernel
theorem sq_within_in : ((Str.ofString "within") == (Str.ofString "in")) = false := by decide +kernel
theorem sq_within_over : ((Str.ofString "within") == (Str.ofString "over")) = false := by decide +kernel
theorem sq_within_begin : ((Str.ofString "within") == (Str.ofString "begin")) = false := by decide +kernel
theorem sq_within_start : ((Str.ofString "within") == (Str.ofString "start")) = false := by decide +kernel
theorem sq_within_short : ((Str.ofString "within") == (Str.ofString "short")) = false := by decide +kernel
theorem sq_within_along : ((Str.ofString "within") == (Str.ofString "along")) = false := by decide +kernel
theorem sq_within_within : ((Str.ofString "within") == (Str.ofString "within")) = true := by decide +kernel
theorem sq_within_at : ((Str.ofString "within") == (Str.ofString "at")) = false := by decide +kernel
theorem sq_within_out : ((Str.ofString "within") == (Str.ofString "out")) = false := by decide +kernel
theorem sk_at : PyData.strOk (Str.ofString "at") = true := by decide +kernel
theorem sq_at_step : ((Str.ofString "at") == (Str.ofString "step")) = false := by decide +kernel
theorem sq_at_call : ((Str.ofString "at") == (Str.ofString "call")) = false := by decide +kernel
theorem sq_at_in : ((Str.ofString "at") == (Str.ofString "in")) = false := by decide +kernel
theorem sq_at_over : ((Str.ofString "at") == (Str.ofString "over")) = false := by decide +kernel
theorem sq_at_begin : ((Str.ofString "at") == (Str.ofString "begin")) = false := by decide +kernel
theorem sq_at_start : ((Str.ofString "at") == (Str.ofString "start")) = false := by decide +kernel
theorem sq_at_short : ((Str.ofString "at") == (Str.ofString "short")) = false := by decide +kernel
theorem sq_at_along : ((Str.ofString "at") == (Str.ofString "along")) = false := by decide +kernel
theorem sq_at_within : ((Str.ofString "at") == (Str.ofString "within")) = false := by decide +kernel
theorem sq_at_at : ((Str.ofString "at") == (Str.ofString "at")) = true := by decide +kernel
theorem sq_at_out : ((Str.ofString "at") == (Str.ofString "out")) = false := by decide +kernel
theorem sk_out : PyData.strOk (Str.ofString "out") = true := by decide +kernel
theorem sq_out_step : ((Str.ofString "out") == (Str.ofString "step")) = false := by decide +kernel
theorem sq_out_call : ((Str.ofString "out") == (Str.ofString "call")) = false := by decide +kernel
theorem sq_out_in : ((Str.ofString "out") == (Str.ofString "in")) = false := by decide +kernel
theorem sq_out_over : ((Str.ofString "out") == (Str.ofString "over")) = false := by decide +kernel
theorem sq_out_begin : ((Str.ofString "out") == (Str.ofString "begin")) = false := by decide +kernel
theorem sq_out_start : ((Str.ofString "out") == (Str.ofString "start")) = false := by decide +kernel
theorem sq_out_short : ((Str.ofString "out") == (Str.ofString "short")) = false := by decide +kernel
theorem sq_out_along : ((Str.ofString "out") == (Str.ofString "along")) = false := by decide +kernel
theorem sq_out_within : ((Str.ofString "out") == (Str.ofString "within")) = false := by decide +kernel
theorem sq_out_at : ((Str.ofString "out") == (Str.ofString "at")) = false := by decide +kernel
theorem sq_out_out : ((Str.ofString "out") == (Str.ofString "out")) = true := by decide +kernel
end CM
namespace CM
open PySem L2 DL
inductive Kind where
  | step (t : List Nat) | call (g : Nat) (into back over : List Nat)
structure Edge where
  p : Nat
  q : Nat
  cost : Nat
  k : Kind
structure Fn where
  places : Nat
  facts : Nat
  edges : List Edge
noncomputable abbrev Chart := List Fn
inductive Mv where | step | over | inn
  deriving DecidableEq
noncomputable abbrev nD (n : Nat) : D := .int (n : Int)
noncomputable def tD (t : List Nat) : D := .tup (t.map nD)
noncomputable def eD (e : Edge) : D := match e.k with
  | .step t => .tup [.str "step", nD e.p, nD e.q, nD e.cost, tD t]
  | .call g i b o => .tup [.str "call", nD e.p, nD e.q, nD e.cost, nD g, tD i, tD b, tD o]
noncomputable def Edge.isStep (e : Edge) : Bool := match e.k with | .step _ => true | .call _ _ _ _ => false
noncomputable def tOk (t : List Nat) (n m : Nat) : Prop := t.length = n ∧ ∀ x ∈ t, x < 2 ^ m
noncomputable def eOk (C : Chart) (F : Fn) (e : Edge) : Prop := e.p < F.places ∧ e.q < F.places ∧ 1 ≤ e.cost ∧ e.cost ≤ 10 ^ 18 ∧ match e.k with
  | .step t => tOk t F.facts F.facts
  | .call g i b o => ∃ G, C[g]? = some G ∧ tOk i F.facts G.facts ∧ tOk b G.facts F.facts ∧ tOk o F.facts F.facts
structure WF (C : Chart) : Prop where
  one : 1 ≤ C.length
  six : C.length ≤ 6
  fn : ∀ (f : Nat) (F : Fn), C[f]? = some F → 1 ≤ F.places ∧ F.places ≤ 10 ∧ 1 ≤ F.facts ∧ F.facts ≤ 6 ∧ F.edges.length ≤ 100 ∧ ∀ e ∈ F.edges, eOk C F e
noncomputable def ChD (h : Hh) (d : D) (C : Chart) : Prop := ∃ fs, lsOf h d = some fs ∧ fs.length = C.length ∧ ∀ (i : Nat) (F : Fn), C[i]? = some F → ∃ e, fs[i]? = some (.tup [nD F.places, nD F.facts, e]) ∧ lsOf h e = some (F.edges.map eD)
theorem ChD.mono {h h' : Hh} {d : D} {C : Chart} (p : Pre h h') (c : ChD h d C) : ChD h' d C := by
  obtain ⟨fs, h1, h2, h3⟩ := c
  exact ⟨fs, p.ls h1, h2, fun i F e => let ⟨x, a, b⟩ := h3 i F e; ⟨x, a, p.ls b⟩⟩
theorem ChD.len {h : Hh} {d : D} {C : Chart} (c : ChD h d C) : lenD h d = some C.length := by
  obtain ⟨fs, h1, h2, h3⟩ := c
  rw [len_ls h1, h2]
noncomputable def br (t : List Nat) (d : Nat) (e : Int) : Bool := decide (0 ≤ e) && (t.getD d 0).testBit e.toNat
noncomputable def edgeAt (C : Chart) (f : Nat) (n : Int) : Option Edge := if 0 ≤ n then (C[f]?).bind fun F => F.edges[n.toNat]? else none
noncomputable def Edge.tab (e : Edge) (w : Mv) : List Nat := match w, e.k with
  | .step, .step t => t
  | .inn, .call _ i _ _ => i
  | .over, .call _ _ _ o => o
  | _, _ => []
noncomputable def takes (C : Chart) (f p d : Nat) (w : Mv) (n e : Int) : Option Edge := (edgeAt C f n).bind fun E => if (E.isStep == (w == .step)) = true ∧ E.p = p ∧ br (E.tab w) d e = true then some E else none
end CM
namespace CM
open PySem L2 DL
noncomputable def Pd (h : Hh) (d : D) (p : PyData) (n : Nat) : Prop := IsP h d p ∧ p.canLay0 = true ∧ p.depth ≤ n
noncomputable def Pds (h : Hh) (ds : List D) (ps : List PyData) (n : Nat) : Prop := IsPs h ds ps ∧ PyData.canLayAll0 ps = true ∧ PyData.depthAll ps ≤ n
theorem Pd.int {h : Hh} {n : Nat} (i : Int) : Pd h (.int i) (.int i) n := ⟨.int i, rfl, Nat.zero_le _⟩
theorem Pd.str {h : Hh} {n : Nat} {x : Str} (e : PyData.strOk x = true) : Pd h (.str x) (.str x) n := ⟨.str x, e, Nat.zero_le _⟩
theorem Pds.nil {h : Hh} {n : Nat} : Pds h [] [] n := ⟨.nil, rfl, Nat.zero_le _⟩
theorem Pds.cons {h : Hh} {n : Nat} {d : D} {p : PyData} {ds : List D} {ps : List PyData} (a : Pd h d p n) (b : Pds h ds ps n) : Pds h (d :: ds) (p :: ps) n :=
  ⟨.cons a.1 b.1, by show (p.canLay0 && PyData.canLayAll0 ps) = true; rw [a.2.1, b.2.1]; rfl, by show max p.depth (PyData.depthAll ps) ≤ n; exact Nat.max_le.mpr ⟨a.2.2, b.2.2⟩⟩
theorem Pd.ref {h : Hh} {n i : Nat} {ds : List D} {ps : List PyData} (e : h[i]? = some (.lst ds)) (a : Pds h ds ps n) : Pd h (.ref i) (.list ps) (n + 1) := ⟨.ref e a.1, a.2.1, Nat.succ_le_succ a.2.2⟩
theorem Pds.map {τ : Type} {h : Hh} {n : Nat} {f : τ → D} {g : τ → PyData} : ∀ {xs : List τ}, (∀ x, Pd h (f x) (g x) n) → Pds h (xs.map f) (xs.map g) n
  | [], _ => .nil
  | x :: xs, k => .cons (k x) (Pds.map k)
end CM
namespace CM
open PySem L2 DL
inductive Mo where
  | go (w : Mv) (k e : Nat) | out (e : Nat)
structure Spot where
  f : Nat
  p : Nat
  d : Nat
  cost : Nat
  op : List (Nat × Nat)
noncomputable def stOk (C : Chart) : Nat → List (Nat × Nat) → Prop
  | _, [] => True
  | f, x :: r => ∃ G E i b o, C[x.1]? = some G ∧ G.edges[x.2]? = some E ∧ E.k = .call f i b o ∧ stOk C x.1 r
noncomputable def sOk (C : Chart) (s : Spot) : Prop := ∃ F, C[s.f]? = some F ∧ s.p < F.places ∧ s.d < F.facts ∧ stOk C s.f s.op
inductive Nx (C : Chart) : Spot → Mo → Spot → Prop
  | go {s : Spot} {w : Mv} {k e : Nat} {E : Edge} : w ≠ .inn → takes C s.f s.p s.d w (k : Int) (e : Int) = some E → Nx C s (.go w k e) ⟨s.f, E.q, e, s.cost + E.cost, s.op⟩
  | inn {s : Spot} {k e : Nat} {E : Edge} {g : Nat} {i b o : List Nat} : takes C s.f s.p s.d .inn (k : Int) (e : Int) = some E → E.k = .call g i b o → Nx C s (.go .inn k e) ⟨g, 0, e, s.cost + E.cost, (s.f, k) :: s.op⟩
  | out {s : Spot} {x : Nat × Nat} {r : List (Nat × Nat)} {e : Nat} {F G : Fn} {E : Edge} {g : Nat} {i b o : List Nat} : s.op = x :: r → C[s.f]? = some F → s.p + 1 = F.places → C[x.1]? = some G → G.edges[x.2]? = some E → E.k = .call g i b o → br b s.d (e : Int) = true → Nx C s (.out e) ⟨x.1, E.q, e, s.cost, r⟩
structure Way (C : Chart) (fact : Nat) (ms : List Mo) (ss : List Spot) : Prop where
  len : ss.length = ms.length + 1
  one : ss[0]? = some ⟨0, 0, fact, 0, []⟩
  ok : ∀ s ∈ ss, sOk C s
  nx : ∀ (i : Nat) (m : Mo) (s s' : Spot), ms[i]? = some m → ss[i]? = some s → ss[i + 1]? = some s' → Nx C s m s'
theorem Way.nil {C : Chart} {fact : Nat} {F : Fn} (wf : WF C) (hF : C[0]? = some F) (hd : fact < F.facts) : Way C fact [] [⟨0, 0, fact, 0, []⟩] :=
  ⟨rfl, rfl, fun s hs => by rw [List.mem_singleton.mp hs]; exact ⟨F, hF, (wf.fn 0 F hF).1, hd, trivial⟩, fun i m s s' h => by simp at h⟩
theorem Nx.len {C : Chart} {s s' : Spot} {m : Mo} (n : Nx C s m s') : s'.op.length ≤ s.op.length + 1 := by
  cases n with
  | go => exact Nat.le_succ _
  | inn => exact Nat.le_refl _
  | out h => rw [h]; show _ ≤ (_ :: _).length + 1; simp; omega
end CM
namespace CM
open PySem L2 DL
end CM
namespace DL
open PySem PySem.Spec L2
section
variable {K : KP} {α : List Addr} {H : Hp}
noncomputable def putA (f : Str) (v : D) : List (Str × D) → List (Str × D)
  | [] => [(f, v)]
  | (g, x) :: r => if g = f then (g, v) :: r else (g, x) :: putA f v r
theorem RelKV.len {κ : Type} : ∀ {ds : List (κ × D)} {us : List (κ × V)}, RelKV K α H ds us → ds.length = us.length
  | _, _, .nil => rfl
  | _, _, .cons r t => by rw [List.length_cons, List.length_cons, RelKV.len t]
end
noncomputable def insO (cn : Str) (h : Hh) : D → Option (List (Str × D))
  | .ref i => match h[i]? with | some (.ins c fs) => if c = cn then some fs else none | _ => none
  | _ => none
noncomputable def pFld (cn f : Str) : P1 := fun d h Q => match insO cn h d with | some fs => (match fs.lookup f with | some v => Q v h | none => False) | none => False
noncomputable def setF (cn f : Str) (o v : D) (h : Hh) (Q : Hh → Prop) : Prop := match o with
  | .ref i => match h[i]? with | some (.ins c fs) => (c = cn ∧ fs.length < 1000) ∧ Q (h.set i (.ins cn (putA f v fs))) | _ => False
  | _ => False
noncomputable def dSetF (cn f : Str) (fo fv : DE) : DS := fun E δ h => fv δ h fun y h1 => fo δ h1 fun x h2 => setF cn f x y h2 fun h3 => E.nx δ h3
noncomputable def dAugF (cn f : Str) (fo fv : DE) (p : P2) : DS := fun E δ h => fo δ h fun x h1 => match insO cn h1 x with
  | some fs => match fs.lookup f with
    | some v => fv δ h1 fun y h2 => p v y h2 fun z h3 => setF cn f x z h3 fun h4 => E.nx δ h4
    | none => False
  | none => False
section
variable {X : Cx} {cn f : Str} {a value : Expr} {fa fv : DE} {pos pos' tpos : Pos}
end
noncomputable def hasM (cn m : Str) (h : Hh) (d : D) : Prop := match insO cn h d with | some fs => fs.lookup m = none | none => False
noncomputable def dMeth (cn m : Str) (g : DSp) (fo : DE) (f : DA) : DE := fun δ h Q => fo δ h fun x h1 => hasM cn m h1 x ∧ f δ h1 fun ds h2 => g (x :: ds) h2 Q
section
variable {X : Cx} {k l : Nat} {ps : List Str} {g : DSp} {cn m : Str} {o e : Expr} {es : List Expr} {fo : DE} {f : DA} {n : Nat} {pos apos : Pos}
end
noncomputable def dMake (cn : Str) (g : DSp) (f : DA) : DE := fun δ h Q => f δ h fun ds h1 => g (.ref h1.length :: ds) (h1 ++ [.ins cn []]) fun v h2 => v = .non ∧ Q (.ref h1.length) h2
section
variable {X : Cx} {k l : Nat} {ps : List Str} {g : DSp} {cn : Str} {e : Expr} {es : List Expr} {f : DA} {n : Nat} {p pos : Pos}
end
end DL
namespace DL
open PySem PySem.Spec L2
noncomputable def intsO : List D → Option (List Int)
  | [] => some []
  | .int i :: r => match intsO r with | some ns => some (i :: ns) | none => none
  | _ => none
noncomputable def pLtT : P2 := fun x y h Q => match x, y with
  | .tup xs, .tup ys => (match intsO xs, intsO ys with | some ns, some ms => Q (.bl (HT.lexLt ns ms)) h | _, _ => False)
  | _, _ => False
noncomputable def pCatS : P2 := fun x y h Q => match x, y with
  | .str i, .str j => i.length + j.length ≤ 16777216 ∧ Q (.str (i ++ j)) h
  | _, _ => False
noncomputable def pStr : PN := fun ds h Q => match ds with | [.int i] => i.natAbs.log2 < 1920 ∧ Q (.str (toString i)) h | _ => False
section
variable {X : Cx} {o e : Expr} {fo fe : DE} {cpos apos : Pos}
theorem ok_catS : OpR X (binaryOp .Add) (r2 X.K pCatS) := OpR.imp op_add_str fun x y H Q ⟨π, α, h, d, e, Q', R, r1, r2, f, k⟩ => by
  unfold pCatS at f
  cases r1 with
  | str i =>
    cases r2 with
    | str j => exact ⟨i, j, rfl, rfl, by rw [sizeLine_eq]; exact f.1, k _ h α H _ f.2 (Ext.refl ..) R (.str _)⟩
    | _ => exact f.elim
  | _ => exact f.elim
noncomputable def dPopAt (fo : DE) (fs : DA) : DE := fun δ h Q => fo δ h fun d h1 => match d with
  | .ref i => (match h1[i]? with
    | some (.lst _) => fs δ h1 fun ds h2 => (match ds, h2[i]? with
      | [.int n], some (.lst xs) => (0 ≤ n ∧ n < 2 ^ 62) ∧ (match xs[n.toNat]? with | some y => Q y (h2.set i (.lst (xs.eraseIdx n.toNat))) | none => False)
      | _, _ => False)
    | _ => False)
  | _ => False
end
end DL
namespace DL
open PySem PySem.Spec L2
noncomputable def repS (x : Str) (n : Nat) : Str := if n = 0 then Str.empty else if n = 1 ∨ x.length = 0 then x else { cps := List.foldl (fun x1 x2 => x1 ++ x2) #[] (List.replicate n x.cps) }
noncomputable def pMulS : P2 := fun x y h Q => match x, y with
  | .str i, .int n => (0 ≤ n ∧ n ≤ 1000 ∧ i.length ≤ 1000 ∧ (repS i n.toNat).length ≤ 16777216) ∧ Q (.str (repS i n.toNat)) h
  | _, _ => False
theorem ok_mulS {X : Cx} : OpR X (binaryOp .Mult) (r2 X.K pMulS) := by
  intro pins s σ H x y v u Q I rx ry ⟨π, α, h, d, e, Q', R, r1, r2, f, k⟩
  unfold pMulS at f
  cases r1 with
  | str i =>
    cases r2 with
    | int n =>
      obtain ⟨⟨h0, h1, h2, h3⟩, f⟩ := f
      obtain ⟨t, rfl⟩ := rx
      obtain ⟨t', rfl⟩ := ry
      have q := k _ h α H _ f (Ext.refl ..) R (.str _)
      have hm : i.length * n.toNat ≤ 1000 * 1000 := Nat.mul_le_mul h2 (by omega)
      refine PySem.P.mul_str ?_ ?_ ?_ ?_
      · rw [decide_eq_false (by omega), decide_eq_false (by omega)]; rfl
      · intro a b c
        have n1 : 1 ≤ n := by omega
        have : (2 ^ 63 - 1 : Int) / n ≥ (2 ^ 63 - 1) / 1000 := by
          rw [ge_iff_le, Int.le_ediv_iff_mul_le (by omega)]
          have : (2 ^ 63 - 1 : Int) / 1000 * n ≤ (2 ^ 63 - 1) / 1000 * 1000 := Int.mul_le_mul_of_nonneg_left h1 (by decide)
          exact Int.le_trans this (by decide)
        have e2 : (1000 : Int) ≤ (2 ^ 63 - 1) / 1000 := by decide
        omega
      · intro a b
        unfold Builtin.Str.tooLong
        exact decide_eq_false (by rw [sizeLine_eq]; omega)
      · by_cases c1 : n < 1
        · rw [if_pos c1]
          have : n.toNat = 0 := by omega
          have e : repS i n.toNat = Str.empty := by unfold repS; rw [if_pos this]
          rw [e] at q
          exact ⟨by decide, .str Str.empty, H, I.tok _, ⟨_, rfl⟩, q⟩
        · rw [if_neg c1]
          by_cases c2 : (n == 1 || i.length == 0) = true
          · rw [if_pos c2]
            have e : repS i n.toNat = i := by
              unfold repS
              rw [if_neg (by omega), if_pos]
              rcases Bool.or_eq_true_iff.mp c2 with z | z
              · exact .inl (by have := beq_iff_eq.mp z; omega)
              · exact .inr (beq_iff_eq.mp z)
            rw [e] at q
            exact ⟨.str i, H, I, ⟨_, rfl⟩, q⟩
          · rw [if_neg c2]
            have e : repS i n.toNat = { cps := List.foldl (fun x1 x2 => x1 ++ x2) #[] (List.replicate n.toNat i.cps) } := by
              unfold repS
              rw [if_neg (by omega), if_neg]
              rintro (z | z)
              · exact c2 (by rw [show n = 1 by omega]; rfl)
              · exact c2 (by rw [z]; simp)
            rw [e] at q h3
            exact ⟨by rw [sizeLine_eq]; exact h3, .str _, H, I.tok _, ⟨_, rfl⟩, q⟩
    | _ => exact f.elim
  | _ => exact f.elim
end DL
namespace L2
open PySem PySem.Spec PyProof.Rows
noncomputable def Its (x : Str) : It := ⟨fun i _ => i < x.cps.size, fun i H y H' => H' = H ∧ ∃ c, x.cps[i]? = some c ∧ y = .str ⟨#[c]⟩, fun i _ => x.cps.size ≤ i⟩
theorem turn_str {P : Program} {w : World} {K : PySem.W.Frag} {tg : Expr} (it : Addr) (x : Str) (t : Tok) (ty : String) (hty : ty = "str_ascii_iterator" ∨ ty = "str_iterator") : Turn P w K tg (Its x) [it] it (fun i h => h.IsStrIter it ty x t i) where
  mem := by simp
  obj := fun i h st b hb => by
    have e : b = it := by simpa using hb
    subst e
    obtain ⟨o, e, c, d⟩ := st
    exact ⟨o, e, fun v z => by rw [d] at z; cases z⟩
  keep := fun i h h' st k => by
    obtain ⟨o, e, r⟩ := st
    exact ⟨o, k it (by simp) o e, r⟩
  item := by
    intro X hP hw hK hc i pins s σ H E I hf st hg
    subst hP hw hK
    obtain ⟨f0, f1, f2, f3, f4, f5⟩ := hf it (by simp)
    have W : Walks X.prog X.w X.A it [it] [it] x.cps.size (SignAt x) (fun i h => h.IsStrIter it ty x t i) := by
      rcases hty with rfl | rfl
      · exact Walks.strAscii (I.ok.hd hc) it x t
      · exact Walks.strWide (I.ok.hd hc) it x t
    refine W.item i s _ _ hg st fun v h' tk hv st' kk => ?_
    obtain ⟨c, u, hc', rfl⟩ := hv
    have I1 : Inv X pins σ H { s with heap := h', toks := tk } := I.turned (fun b o hb e => kk b o (by simpa using hb) e) f0 f1 f3 f4 f5
    obtain ⟨o, e, oc, od⟩ := id st'
    exact ⟨_, rfl, go_of (s := { s with heap := h', toks := tk }) (n := ty) e oc od (by rcases hty with rfl | rfl <;> decide) ⟨.str ⟨#[c]⟩, H, I1, ⟨u, rfl⟩, ⟨rfl, c, hc', rfl⟩, st', fun b hb => (hf b hb).1⟩⟩
  done := by
    intro X hP hw hK hc i pins s σ H E I hf st hg
    subst hP hw hK
    have hg : x.cps.size ≤ i := hg
    obtain ⟨f0, f1, f2, f3, f4, f5⟩ := hf it (by simp)
    rcases hty with rfl | rfl
    · exact wpAny_pyNext_ascii_end (I.ok.hd hc) st (by simp; omega) fun h' eb => ⟨rfl, I.turned (t' := s.toks) (fun b o hb e => eb b o hb e) f0 f1 f3 f4 f5⟩
    · exact wpAny_pyNext_wide_end (I.ok.hd hc) st (by simp; omega) fun h' eb => ⟨rfl, I.turned (t' := s.toks) (fun b o hb e => eb b o hb e) f0 f1 f3 f4 f5⟩
  self := fun _ _ _ _ _ st h => by
    rcases hty with rfl | rfl
    · exact wpAny_pyIter_striter_ascii st h
    · exact wpAny_pyIter_striter_wide st h
noncomputable def slS (x : Str) (lo hi : Option Int) : Str := if (Builtin.Str.strSliceIndices lo hi 1 x.length).length == x.length then x else ⟨((Builtin.Str.strSliceIndices lo hi 1 x.length).filterMap (x.cps[·]?)).toArray⟩
section
variable {X : Cx} {tg : Expr}
noncomputable def iStr (tl : TE) : TI := fun σ H R => tl σ H fun v H1 => ∃ x, v = .str x ∧ R (Its x) H1
theorem pi_str {l : Expr} {tl : TE} (hl : PE X l tl) : PI X tg l (iStr tl) := by
  intro pins s σ H R I h
  refine thn (hl pins s σ H _ I h) fun v s1 ⟨y, H1, I1, r1, q1⟩ => ?_
  obtain ⟨x, e, q⟩ := q1
  subst e
  obtain ⟨t, rfl⟩ := r1
  have fin : ∀ (ty : String) (hty : ty = "str_ascii_iterator" ∨ ty = "str_iterator"), PIE X pins σ tg R (.ref s1.heap.objs.size) { s1 with heap := s1.heap.push { cls := .type ty, data := .fields #[.str x t, .int 0 0] } } := fun ty hty => by
    refine ⟨s1.heap.objs.size, [s1.heap.objs.size], _, _, H1, rfl, I1.kept (t' := s1.toks) fun b o e => Heap.get?_push_of_some _ e, turn_str _ x t ty hty, ⟨_, Heap.get?_push_size _ rfl, rfl, rfl⟩, fun b hb => ?_, q⟩
    have e : b = s1.heap.objs.size := by simpa using hb
    subst e
    exact I1.fpOk (Nat.le_refl _) (I1.hok.fresh (Nat.le_refl _))
  cases ha : x.cps.all (· < 128)
  · exact wpAny_pyIter_wide ha (fin _ (.inr rfl))
  · exact wpAny_pyIter_ascii ha (fin _ (.inl rfl))
theorem op_leS : OpR X (compareOp .LtE) (fun x y H Q => ∃ i j, x = .str i ∧ y = .str j ∧ Q (.bl (!decide (j.cps.toList < i.cps.toList))) H) := by
  intro pins s σ H x y v u Q I rx ry h
  obtain ⟨i, j, rfl, rfl, q⟩ := h
  obtain ⟨t, rfl⟩ := rx
  obtain ⟨t', rfl⟩ := ry
  exact P.le_str ⟨.bl _, H, I, rfl, q⟩
noncomputable def occ (x y : Str) : Bool := !(Builtin.Str.occurrences x y 0 x.length 1).isEmpty
theorem op_ninS : OpR X (compareOp .NotIn) (fun x y H Q => ∃ i j, x = .str i ∧ y = .str j ∧ Q (.bl (!occ j i)) H) := by
  intro pins s σ H x y v u Q I rx ry h
  obtain ⟨i, j, rfl, rfl, q⟩ := h
  obtain ⟨t, rfl⟩ := rx
  obtain ⟨t', rfl⟩ := ry
  exact P.notIn_str ⟨.bl _, H, I, rfl, q⟩
theorem call_intS : CallR X (.type "int") (fun xs H Q => ∃ x n, xs = [.str x] ∧ x.length ≤ 640 ∧ PySem.intText? x = some n ∧ Q (.int n) H) := by
  intro pins s σ H xs us Q I r h
  obtain ⟨x, n, rfl, hl, hn, q⟩ := h
  obtain ⟨u, rfl, rx⟩ := vals1 r
  obtain ⟨t, rfl⟩ := rx
  exact PySem.W.KIN.call_text hn hl ⟨.int n, H, I.tok _, ⟨_, rfl⟩, q⟩
theorem mt_sindex : MtR X "str.index" (fun x xs H Q => ∃ s y i rest, x = .str s ∧ xs = [.str y] ∧ Builtin.Str.occurrences s y 0 s.length 1 = i :: rest ∧ Q (.int (i : Nat)) H) := by
  intro pins s σ H x vs v us Q I rx rv h
  obtain ⟨a, y, i, rest, rfl, rfl, ho, q⟩ := h
  obtain ⟨t, rfl⟩ := rx
  obtain ⟨u, rfl, ru⟩ := vals1 rv
  obtain ⟨t', rfl⟩ := ru
  exact SC.index ho ⟨.int i, H, I.tok _, ⟨_, rfl⟩, q⟩
theorem sl_str : SlR X (fun x lo hi H Q => ∃ s, x = .str s ∧ (slS s lo hi).length ≤ sizeLine ∧ Q (.str (slS s lo hi)) H) := by
  intro pins s σ H x v vl vu lo hi sl Q I rx hs pl pu h
  obtain ⟨a, rfl, hz, q⟩ := h
  obtain ⟨t, rfl⟩ := rx
  refine ⟨"str", _, F.slot_str_getitem.lookup, typeIs_str _ _ _, ?_⟩
  have key : ∀ (l u : Option (Int × Tok)), l.map (·.1) = lo → u.map (·.1) = hi → (sliceMade a t l u none).post (EP X pins σ Q) s := fun l u e1 e2 => by
    unfold sliceMade slicePicked
    rw [e1, e2]
    unfold slS at hz q
    refine post_val_or_str ⟨?_, fun t' k => ?_⟩
    · simpa using hz
    · refine ⟨.str _, H, I.tok _, ⟨t', rfl⟩, ?_⟩
      simpa using q
  cases pl with
  | none =>
    cases pu with
    | none => exact wpAny_getItem_str_slice (l := none) (u := none) (st := none) hs rfl (key none none rfl rfl)
    | int j tj => exact wpAny_getItem_str_slice (l := none) (u := some (j, tj)) (st := none) hs rfl (key none (some (j, tj)) rfl rfl)
  | int i ti =>
    cases pu with
    | none => exact wpAny_getItem_str_slice (l := some (i, ti)) (u := none) (st := none) hs rfl (key (some (i, ti)) none rfl rfl)
    | int j tj => exact wpAny_getItem_str_slice (l := some (i, ti)) (u := some (j, tj)) (st := none) hs rfl (key (some (i, ti)) (some (j, tj)) rfl rfl)
end
end L2
namespace DL
open PySem PySem.Spec L2
noncomputable def strItems (x : Str) : List D := x.cps.toList.map fun c => .str ⟨#[c]⟩
noncomputable def dIStr (f : DE) : DI := fun δ h Q => f δ h fun d h1 => match d with | .str x => Q ⟨strItems x, []⟩ h1 | _ => False
theorem it_str {K : PySem.W.Frag} {π α : List Addr} {H : Hp} {x : Str} : ItA K π α H (Its x) ⟨strItems x, []⟩ := fun π' sub => by
  refine ⟨fun _ _ => True, ⟨fun _ _ _ _ _ _ => trivial, fun _ _ _ _ _ _ _ => trivial, fun α H h i d R st ok hi => ?_, fun α H h R st ok => ?_⟩, trivial⟩
  · have hi : (x.cps.toList.map fun c => D.str ⟨#[c]⟩)[i]? = some d := hi
    rw [List.getElem?_map] at hi
    cases q : x.cps.toList[i]? with
    | none => rw [q] at hi; cases hi
    | some c =>
      rw [q] at hi
      cases hi
      refine ⟨by have := (List.getElem?_eq_some_iff.mp q).1; show i < x.cps.size; simpa using this, fun y H' ⟨e1, c', e2, e3⟩ => ?_⟩
      subst e1 e3
      rw [← Array.getElem?_toList, q] at e2
      cases e2
      exact ⟨Ext.refl .., R, .str _⟩
  · show x.cps.size ≤ (x.cps.toList.map fun c => D.str ⟨#[c]⟩).length
    rw [List.length_map, Array.length_toList]; exact Nat.le_refl _
noncomputable def pLeS : P2 := fun x y h Q => match x, y with
  | .str i, .str j => Q (.bl (!decide (j.cps.toList < i.cps.toList))) h
  | _, _ => False
noncomputable def pInS (neg : Bool) : P2 := fun x y h Q => match x, y with
  | .str i, .str j => Q (.bl (if neg then !occ j i else occ j i)) h
  | _, _ => False
noncomputable def pIntS : PN := fun ds h Q => match ds with | [.str x] => x.length ≤ 640 ∧ ∃ n, PySem.intText? x = some n ∧ Q (.int n) h | _ => False
noncomputable def dSlS (fe : DE) (fl fh : DO) : DE := fun δ h Q => fe δ h fun d h1 => fl δ h1 fun l h2 => fh δ h2 fun u h3 => match d with
  | .str x => (slS x l u).length ≤ 16777216 ∧ Q (.str (slS x l u)) h3
  | _ => False
noncomputable def dIndexS (fo : DE) (fs : DA) : DE := fun δ h Q => fo δ h fun d h1 => match d with
  | .str x => fs δ h1 fun ds h2 => match ds with
    | [.str y] => ∃ i rest, Builtin.Str.occurrences x y 0 x.length 1 = i :: rest ∧ Q (.int ((i : Nat) : Int)) h2
    | _ => False
  | _ => False
structure KTup (K : PySem.W.Frag) (a : Addr) (ws : List Str) : Prop where
  ex : ∃ (o : Obj) (its : Array Value) (n : Nat), K.lookup a = some o ∧ o.cls = .type "tuple" ∧ o.data = .seq its n ∧ its.size ≤ sizeLine ∧ Vals (ws.map V.str) its.toList
noncomputable def dNinK (ws : List Str) (fe : DE) : DE := fun δ h Q => fe δ h fun d h1 => match d with
  | .str x => Q (.bl (!(ws.any fun y => y == x))) h1
  | _ => False
noncomputable def dIRev (f : DA) : DI := fun δ h Q => f δ h fun ds h1 => match ds with
  | [.lst xs] => Q ⟨xs.reverse, []⟩ h1
  | _ => False
section
variable {X : Cx} {tg e : Expr} {fe : DE} {pos p2 cpos apos : Pos}
theorem si_str (he : SE X e fe) : SI X tg e (dIStr fe) := PI.imp (pi_str he) fun σ H Q ⟨π, α, δ, h, Q', R, S, f, k⟩ => by
  refine ⟨π, α, δ, h, _, R, S, f, fun d h1 α1 H1 v1 f1 e1 R1 q1 => ?_⟩
  cases q1 with
  | str x => exact ⟨x, rfl, k _ h1 α1 H1 _ f1 e1 R1 it_str Src.ok_nil⟩
  | _ => exact f1.elim
theorem ok_leS : OpR X (compareOp .LtE) (r2 X.K pLeS) := OpR.imp op_leS fun x y H Q ⟨π, α, h, d, e, Q', R, r1, r2, f, k⟩ => by
  unfold pLeS at f
  cases r1 with
  | str i =>
    cases r2 with
    | str j => exact ⟨i, j, rfl, rfl, k _ h α H _ f (Ext.refl ..) R (.bl _)⟩
    | _ => exact f.elim
  | _ => exact f.elim
theorem ok_ninS : OpR X (compareOp .NotIn) (r2 X.K (pInS true)) := OpR.imp op_ninS fun x y H Q ⟨π, α, h, d, e, Q', R, r1, r2, f, k⟩ => by
  unfold pInS at f
  cases r1 with
  | str i =>
    cases r2 with
    | str j => exact ⟨i, j, rfl, rfl, k _ h α H _ f (Ext.refl ..) R (.bl _)⟩
    | _ => exact f.elim
  | _ => exact f.elim
theorem ok_intS : CallR X (.type "int") (rN X.K pIntS) := CallR.imp call_intS fun xs H Q ⟨π, α, h, ds, Q', R, rs, f, k⟩ => by
  unfold pIntS at f
  split at f
  · obtain ⟨v, rfl, rd⟩ := rs.inv1
    obtain ⟨hl, n, hn, q⟩ := f
    cases rd
    exact ⟨_, n, rfl, hl, hn, k _ h α H _ q (Ext.refl ..) R (.int _)⟩
  · exact f.elim
theorem se_slS {lo hi : Option Expr} {fl fh : DO} (he : SE X e fe) (hl : SO X lo fl) (hu : SO X hi fh) : SE X (.Subscript e (.Slice lo hi none p2) pos) (dSlS fe fl fh) := PE.imp (pe_slice sl_str he hl hu) fun σ H Q ⟨π, α, δ, h, Q', R, S, f, k⟩ => by
  refine ⟨π, α, δ, h, _, R, S, f, fun d h1 α1 H1 v1 f1 e1 R1 q1 => ?_⟩
  refine ⟨π, α1, δ, h1, _, R1, S.mono e1, f1, fun l h2 α2 H2 f2 e2 R2 => ?_⟩
  refine ⟨π, α2, δ, h2, _, R2, S.mono (e1.trans e2), f2, fun u h3 α3 H3 f3 e3 R3 => ?_⟩
  cases q1 with
  | str x => exact ⟨x, rfl, by rw [sizeLine_eq]; exact f3.1, k _ h3 α3 H3 _ f3.2 (e1.trans (e2.trans e3)) R3 (.str _)⟩
  | _ => exact f3.elim
theorem se_indexS {a : Expr} {fa : DA} {n : Nat} (ho : SE X e fe) (ha : SA X [a] n fa) (hbase : attributeBase e "index" X.env (eval e X.env) = eval e X.env := by rfl)
    (hfew : ((backTo cpos (starEach [a] X.env)).all (fun x => !x.1) && (backToKw cpos (keywordEach [] X.env)).all (fun x => x.1.isSome)
      && decide ([a].length + ([] : List Keyword).length + (if ([] : List Keyword).isEmpty then 0 else 1) < 30)) = true := by rfl)
    (hline : (apos.endLine == cpos.line) = true := by rfl) (hs : starEach [a] X.env = (false, eval a X.env) :: starEach [] X.env := by rfl) (hplain : (backTo cpos (starEach [] X.env)).any (·.1) = false := by rfl) :
    SE X (.Call (.Attribute e "index" apos) [a] [] cpos) (dIndexS fe fa) :=
  PE.imp (pe_bm PySem.F.plainAttrs_str PySem.F.slot_str_index PySem.F.type_str_index mt_sindex ho ha hbase hfew hline hs hplain) fun σ H Q ⟨π, α, δ, h, Q', R, S, f, k⟩ => by
    refine ⟨π, α, δ, h, _, R, S, f, fun d h1 α1 H1 v1 f1 e1 R1 q1 => ?_⟩
    cases q1 with
    | str x =>
      refine ⟨rfl, π, α1, δ, h1, _, R1, S.mono e1, f1, fun ds h2 α2 H2 vs f2 e2 R2 q2 l2 => ?_⟩
      split at f2
      · rename_i y
        obtain ⟨i, rest, ho', q⟩ := f2
        obtain ⟨v, rfl, q3⟩ := q2.inv1
        cases q3
        exact ⟨x, y, i, rest, rfl, rfl, ho', k _ h2 α2 H2 _ q (e1.trans e2) R2 (.int _)⟩
      · exact f2.elim
    | _ => exact f1.elim
theorem se_ninK {x : Str} {ws : List Str} {p : Pos} (hg : Gl X x) (hk : ∃ a, X.mg x = some (.ref a) ∧ KTup X.K a ws) (he : SE X e fe) (hm : behindInMarks .NotIn (.Name x p) = false := by rfl) (hd : (x == ("__debug__" : Str)) = false := by decide) : SE X (.Compare e [.NotIn] [.Name x p] pos) (dNinK ws fe) := by
  obtain ⟨a, hmg, ⟨o, its, n, lk, oc, od, hz, vl⟩⟩ := hk
  refine PE.imp (pe_cmpR op_notIn_seq he (pe_glob hg hmg (v := .ref a) rfl hd) hm) fun σ H Q ⟨π, α, δ, h, Q', R, S, f, k⟩ => ?_
  refine ⟨π, α, δ, h, _, R, S, f, fun d h1 α1 H1 v1 f1 e1 R1 q1 => ?_⟩
  cases q1 with
  | str x =>
    refine ⟨a, ws.map V.str, rfl, .inr (.inr ⟨o, its, n, lk, oc, od, hz, vl⟩), rfl, ?_, ?_⟩
    · rw [List.all_map]; exact List.all_eq_true.mpr fun _ _ => rfl
    · have e : inV (.str x) (ws.map V.str) = ws.any fun y => y == x := by
        unfold inV
        rw [List.any_map]; rfl
      show Q (.bl (!inV (.str x) (ws.map V.str))) H1
      rw [e]
      exact k _ h1 α1 H1 _ f1 e1 R1 (.bl _)
  | _ => exact f1.elim
theorem it_rev {K : PySem.W.Frag} {π α : List Addr} {H : Hp} {a : Addr} {xs : List D} {m : Nat} (hm : xs.length = m) (s : SeqA K π α H (fun H us => SqL K H a us) xs []) : ItA K π α H (Itv K a m) ⟨xs.reverse, []⟩ := fun π' sub => by
  obtain ⟨St, si, st⟩ := s π' sub
  refine ⟨St, ⟨si.keep, si.priv, fun α H h i d R st ok hi => ?_, fun α H h R st ok => ?_⟩, st⟩
  · obtain ⟨us, hq, rs⟩ := si.get α H h R st (fun p hp => nomatch hp)
    have hi : xs.reverse[i]? = some d := hi
    have hl : i < xs.length := by have := (List.getElem?_eq_some_iff.mp hi).1; simpa using this
    rw [List.getElem?_reverse hl] at hi
    obtain ⟨u, hu, ru⟩ := rs.get hi
    rw [hm] at hu hl
    refine ⟨⟨hl, us, u, hq, hu⟩, fun x H' ⟨e1, e2⟩ => ?_⟩
    subst e1
    have := (e2 us hq).symm.trans hu
    cases this
    exact ⟨Ext.refl .., R, ru⟩
  · show xs.reverse.length = m
    rw [List.length_reverse]; exact hm
theorem si_rev {a : Expr} {n : Nat} {fs : DA} {p : Pos} (hg : Gl X "reversed") (hm : X.mg "reversed" = none) (ha : SA X [a] n fs) (hs : starEach [a] X.env = [(false, eval a X.env)] := by rfl) : SI X tg (.Call (.Name "reversed" p) [a] [] pos) (dIRev fs) := PI.imp (pi_rev hg hm ha hs) fun σ H Q ⟨π, α, δ, h, Q', R, S, f, k⟩ => by
  refine ⟨π, α, δ, h, _, R, S, f, fun ds h1 α1 H1 vs f1 e1 R1 q1 l1 => ?_⟩
  split at f1
  · rename_i xs
    obtain ⟨v, rfl, q3⟩ := q1.inv1
    obtain ⟨a, rfl, ok, ⟨us, hu⟩, sa⟩ := seqSrc_okL (S := ⟨xs, []⟩) R1 q3 rfl (fun _ z => nomatch z)
    cases q3 with
    | @lst a' us' ds t rs =>
      exact ⟨a, us', rfl, t.sq, k ⟨xs.reverse, []⟩ h1 α1 H1 _ f1 e1 R1 (it_rev rs.length sa) Src.ok_nil⟩
  · exact f1.elim
end
noncomputable def strsOf : List Expr → Option (List Str)
  | [] => some []
  | .Constant (.str x) _ _ :: r => match strsOf r with | some ws => some (x :: ws) | none => none
  | _ => none
noncomputable def dStrs : List Str → DA
  | [] => dNil
  | w :: ws => dCons (dC (.str w)) (dStrs ws)
theorem sa_strs {X : Cx} : ∀ {es : List Expr} {ws : List Str}, strsOf es = some ws → SA X es es.length (dStrs ws)
  | [], ws, h => by cases h; exact sa_nil
  | e :: es, ws, h => by
    cases e with
    | Constant c j pos =>
      cases c with
      | str x =>
        have h : (match strsOf es with | some ws => some (x :: ws) | none => none) = some ws := h
        cases q : strsOf es with
        | none => rw [q] at h; cases h
        | some vs =>
          rw [q] at h
          cases h
          exact sa_cons se_str (sa_strs q) rfl
      | _ => cases h
    | _ => cases h
theorem strs_len : ∀ {es : List Expr} {ws : List Str}, strsOf es = some ws → es.length = ws.length
  | [], ws, h => by cases h; rfl
  | e :: es, ws, h => by
    cases e with
    | Constant c j pos =>
      cases c with
      | str x =>
        have h : (match strsOf es with | some ws => some (x :: ws) | none => none) = some ws := h
        cases q : strsOf es with
        | none => rw [q] at h; cases h
        | some vs =>
          rw [q] at h
          cases h
          show es.length + 1 = vs.length + 1
          rw [strs_len q]
      | _ => cases h
    | _ => cases h
theorem sn_strs {X : Cx} {es : List Expr} {pos : Pos} (ws : List Str) (h : strsOf es = some ws := by rfl) (hw : ws.length ≤ 1000 := by decide) : SN X (.List es pos) (dStrs ws) :=
  sn_lst (sa_strs h) (by rw [strs_len h, sizeLine_eq]; omega)
end DL
namespace CM
open PySem L2 DL
noncomputable def TOk (x : Str) (n : Nat) : Prop := PyData.strOk x = true ∧ x.length ≤ n
instance (x : Str) (n : Nat) : Decidable (TOk x n) := by unfold TOk; infer_instance
theorem TOk.up {x : Str} {n m : Nat} (h : TOk x n) (e : n ≤ m) : TOk x m := ⟨h.1, Nat.le_trans h.2 e⟩
theorem sok_iff (x : Str) : PyData.strOk x = true ↔ ∀ c ∈ x.cps.toList, c < 1114112 := by
  unfold PyData.strOk
  rw [← Array.all_toList, List.all_eq_true]
  exact ⟨fun h c hc => of_decide_eq_true (h c hc), fun h c hc => decide_eq_true (h c hc)⟩
theorem cat_cps (x y : Str) : (x ++ y).cps.toList = x.cps.toList ++ y.cps.toList := by
  show (x.cps ++ y.cps).toList = _
  rw [Array.toList_append]
theorem len_cps (x : Str) : x.length = x.cps.toList.length := by rw [Array.length_toList]; rfl
theorem TOk.cat {x y : Str} {n m : Nat} (hx : TOk x n) (hy : TOk y m) : TOk (x ++ y) (n + m) := by
  refine ⟨(sok_iff _).mpr fun c hc => ?_, ?_⟩
  · rw [cat_cps] at hc
    rcases List.mem_append.mp hc with z | z
    · exact (sok_iff x).mp hx.1 c z
    · exact (sok_iff y).mp hy.1 c z
  · rw [len_cps, cat_cps, List.length_append, ← len_cps, ← len_cps]
    have := hx.2
    have := hy.2
    omega
theorem TOk.one {x : Str} {n c : Nat} (hx : TOk x n) (h : c ∈ x.cps.toList) : TOk ⟨#[c]⟩ 1 := by
  refine ⟨(sok_iff _).mpr fun d hd => ?_, Nat.le_refl _⟩
  have : d = c := by simpa using hd
  rw [this]; exact (sok_iff x).mp hx.1 c h
theorem TOk.sl {x : Str} {n : Nat} (hx : TOk x n) (lo hi : Option Int) (hl : (Builtin.Str.strSliceIndices lo hi 1 x.length).length ≤ x.length) : TOk (slS x lo hi) n := by
  unfold slS
  split
  · exact hx
  · refine ⟨(sok_iff _).mpr fun c hc => ?_, ?_⟩
    · have hc : c ∈ (Builtin.Str.strSliceIndices lo hi 1 x.length).filterMap (x.cps[·]?) := by simpa using hc
      obtain ⟨i, _, hi⟩ := List.mem_filterMap.mp hc
      exact (sok_iff x).mp hx.1 c (by have := Array.mem_of_getElem? hi; simpa using this)
    · rw [len_cps]
      have : ((Builtin.Str.strSliceIndices lo hi 1 x.length).filterMap (x.cps[·]?)).length ≤ (Builtin.Str.strSliceIndices lo hi 1 x.length).length := List.length_filterMap_le _ _
      have := hx.2
      simp
      omega
theorem lt_one (a b : Nat) : decide ([a] < [b]) = decide (a < b) := by
  apply decide_eq_decide.mpr
  constructor
  · intro h
    cases h with
    | rel h => exact h
    | cons h => cases h
  · intro h; exact .rel h
theorem lenD_str {h : Hh} {x : Str} {n : Nat} (hx : TOk x n) (hn : n ≤ 16777216) : lenD h (.str x) = some x.length := if_pos (Nat.le_trans hx.2 hn)
theorem occ_one (x : Str) (c : Nat) : occ x ⟨#[c]⟩ = decide (c ∈ x.cps.toList) := PySem.StrLaws.found_one x c
noncomputable def isL (c : Nat) : Bool := decide (97 ≤ c) && decide (c ≤ 122)
noncomputable def isF (c : Nat) : Bool := decide (48 ≤ c) && decide (c ≤ 57)
theorem abc_mem (c : Nat) : decide (c ∈ (Str.ofString "abcdefghijklmnopqrstuvwxyz").cps.toList) = isL c := by
  have e : (Str.ofString "abcdefghijklmnopqrstuvwxyz").cps.toList = (List.range 26).map (· + 97) := by decide +kernel
  rw [e, Bool.eq_iff_iff]
  unfold isL
  simp
  constructor
  · rintro ⟨a, h, rfl⟩; omega
  · intro ⟨h1, h2⟩; exact ⟨c - 97, by omega, by omega⟩
theorem fig_mem (c : Nat) : decide (c ∈ (Str.ofString "0123456789").cps.toList) = isF c := by
  have e : (Str.ofString "0123456789").cps.toList = (List.range 10).map (· + 48) := by decide +kernel
  rw [e, Bool.eq_iff_iff]
  unfold isF
  simp
  constructor
  · rintro ⟨a, h, rfl⟩; omega
  · intro ⟨h1, h2⟩; exact ⟨c - 48, by omega, by omega⟩
theorem fig_at : ∀ d < 10, Builtin.Str.occurrences (Str.ofString "0123456789") ⟨#[d + 48]⟩ 0 (Str.ofString "0123456789").length 1 = [d] := by decide +kernel
noncomputable def kept : List Str := ["function", "call", "dye", "wash", "if", "to", "return", "back", "here"]
noncomputable def isN (x : Str) : Bool := (decide (1 ≤ x.length) && decide (x.length ≤ 8)) && ((!(kept.any fun y => y == x)) && x.cps.toList.all isL)
noncomputable def numO (x : Str) : Option Nat := if (1 ≤ x.length ∧ x.length ≤ 18) ∧ x.cps.toList.all isF = true then (if x.cps.toList.head? = some 48 ∧ 1 < x.length then none else some (PySem.NumText.digitsVal x.cps.toList)) else none
theorem str_ext {x y : Str} (h : x.cps.toList = y.cps.toList) : x = y := by
  cases x; cases y
  exact congrArg Str.mk (Array.toList_inj.mp h)
theorem str_beq (x y : Str) : (x == y) = decide (x.cps.toList = y.cps.toList) := by
  by_cases h : x.cps.toList = y.cps.toList
  · rw [str_ext h, beq_self_eq_true]; simp
  · rw [decide_eq_false h]
    exact beq_eq_false_iff_ne.mpr fun e => h (by rw [e])
theorem str_at0 {h : Hh} {x : Str} {n c : Nat} {r : List Nat} (hx : TOk x n) (hn : n ≤ 10000) (e : x.cps.toList = c :: r) : ixD h (.str x) (.int 0) = some (.str ⟨#[c]⟩) := by
  show strAt x 0 = _
  unfold strAt
  rw [if_pos (Nat.le_trans hx.2 (by omega)), e, atI_0]; rfl
theorem TOk.cut {x : Str} {n : Nat} (hx : TOk x n) (lo hi : Option Int) : TOk (slS x lo hi) n := hx.sl lo hi (PyProof.Rows.indices_len_le lo hi x.length)
theorem sl_first {x : Str} {c : Nat} {r : List Nat} (e : x.cps.toList = c :: r) : (slS x none (some 1)).cps.toList = [c] := by
  have hl : 1 ≤ x.length := by rw [len_cps, e]; simp
  have h0 : Builtin.Str.strSliceIndices none (some 1) 1 x.length = Builtin.Str.strSliceIndices (some ((0 : Nat) : Int)) (some ((1 : Nat) : Int)) 1 x.length := by
    unfold Builtin.Str.strSliceIndices
    simp
    rw [show max (0 : Int) (min 0 (x.length : Int)) = 0 by omega]
  have h1 := PySem.StrLaws.strSliceIndices_plain (a := 0) (b := 1) (len := x.length) (by decide) hl
  have h2 := PySem.StrLaws.sliced_plain x (a := 0) (b := 1) (by decide) hl
  rw [e] at h2
  unfold slS
  rw [h0, h2, h1]
  split
  · rename_i hh
    have hh : (1 == x.length) = true := by simpa using hh
    have hh : 1 = x.length := by simpa using hh
    rw [len_cps, e, List.length_cons] at hh
    have : r = [] := List.length_eq_zero_iff.mp (by omega)
    rw [e, this]
  · rfl
theorem str_ix {x : Str} {n : Nat} {i : Int} (hx : TOk x n) (hn : n ≤ 10000) (h0 : 0 ≤ i) (h1 : i < x.length) : ∃ c, TOk ⟨#[c]⟩ 1 ∧ ∀ h : Hh, ixD h (.str x) (.int i) = some (.str ⟨#[c]⟩) := by
  have hl : i.toNat < x.cps.toList.length := by rw [← len_cps]; omega
  refine ⟨x.cps.toList[i.toNat], hx.one (List.getElem_mem hl), fun h => ?_⟩
  show strAt x i = _
  unfold strAt
  rw [if_pos (Nat.le_trans hx.2 (by omega)), atI_of h0, List.getElem?_eq_getElem hl]; rfl
theorem tk_abc : TOk (Str.ofString "abcdefghijklmnopqrstuvwxyz") 26 := by decide +kernel
theorem tk_fig : TOk (Str.ofString "0123456789") 10 := by decide +kernel
theorem tk_sgn : TOk (Str.ofString "ABCXYZ0123456789 _-+=.,;:!\n") 27 := by decide +kernel
theorem ln_abc : (Str.ofString "abcdefghijklmnopqrstuvwxyz").length = 26 := by decide +kernel
theorem ln_fig : (Str.ofString "0123456789").length = 10 := by decide +kernel
theorem ln_sgn : (Str.ofString "ABCXYZ0123456789 _-+=.,;:!\n").length = 27 := by decide +kernel
theorem tk_emp : TOk (Str.ofString "") 0 := by decide +kernel
theorem tk_s : TOk (Str.ofString "s") 1 := by decide +kernel
theorem tk_kept : ∀ w ∈ kept, TOk w 8 := by decide +kernel
theorem tk_z : ∀ k < 3, TOk (repS (Str.ofString "0") k) 2 ∧ (repS (Str.ofString "0") k).length ≤ 16777216 := by decide +kernel
theorem dv_snoc (p : List Nat) (c : Nat) : PySem.NumText.digitsVal (p ++ [c]) = PySem.NumText.digitsVal p * 10 + (c - 48) := by
  unfold PySem.NumText.digitsVal
  rw [List.foldl_append]; rfl
end CM
namespace K61
open PySem L2 DL CM
def vvA : String := "dAsg dName dVar dC dOp dUn dTst dTr dAnd dOr dNot dAndV dOrV dNotV dIf dIfS dRet dRetN dDrop dNext dNever dCB dCal dCons dNil dTup dV dTk dListOf dBits dIsinst dChain dPart dNoPart dSl dGNil dGCons dUnp dAug dAugS dSubL dAppend dExtend dPop dClear dFor dISeq dIRange dIEnum dIEnum1 dComp dNoIf dCatN dRepN dSlL dBreak dCont pI pI0 pB0 pNeg pIs pIx pEq pLtI pLen pTuple pInt pMin pMax pAbs pPlus pAdd pMulI pIn dGet dSetF dAugF dMeth dMake pFld pLtT pCatS pStr pMulS dPopAt dStrs dIStr pLeS pInS pIntS dSlS dIndexS dNinK dIRev reduceIte"
def vvB : String := "setD compSl isN_non isN_bl isN_int isN_str isN_tup isN_lst isN_ref eqS List.map_cons List.map_nil List.cons_append List.nil_append List.length_cons List.length_nil List.replicate List.getElem?_cons_zero List.getElem?_cons_succ List.set_cons_zero List.set_cons_succ Option.getD_some Option.getD_none List.getElem?_nil Bool.false_eq_true Bool.not_true Bool.not_false if_true if_false ite_true ite_false eq_self_iff_true decide_true decide_false Nat.reduceSub Nat.reduceAdd Nat.sub_zero Nat.sub_self Nat.zero_add Option.map_some Option.map_none Option.bind_some Option.bind_none lsOf_lst seqOf_lst seqSrc_lst lenD_lst ixD_lst trD_lst lsOf_scr seqOf_scr seqSrc_scr lenD_scr ixD_scr trD_scr lsP_lst lsP_tup lsP_int lsP_str seqOf_tup seqSrc_tup lenD_tup ixD_tup trD_tup trD_non trD_bl trD_int kindD_non kindD_bl kindD_int kindD_str kindD_tup kindD_lst isK_NoneType_bool isK_NoneType_int isK_NoneType_str isK_NoneType_tuple isK_NoneType_list isK_NoneType_dict isK_bool_bool isK_bool_int isK_bool_str isK_bool_tuple isK_bool_list isK_bool_dict isK_int_bool isK_int_int isK_int_str isK_int_tuple isK_int_list isK_int_dict isK_str_bool isK_str_int isK_str_str isK_str_tuple isK_str_list isK_str_dict isK_tuple_bool isK_tuple_int isK_tuple_str isK_tuple_tuple isK_tuple_list isK_tuple_dict isK_list_bool isK_list_int isK_list_str isK_list_tuple isK_list_list isK_list_dict isK_dict_bool isK_dict_int isK_dict_str isK_dict_tuple isK_dict_list isK_dict_dict ixN_10 ixN_0 at1_0 at2_0 at2_1 at3_0 at3_1 at3_2 at4_0 at4_1 at4_2 at4_3 at5_0 at5_1 at5_2 at5_3 at5_4 at6_0 at6_1 at6_2 at6_3 at6_4 at6_5 at7_0 at7_1 at7_2 at7_3 at7_4 at7_5 at7_6 at8_0 at8_1 at8_2 at8_3 at8_4 at8_5 at8_6 at8_7 sk_step sq_step_step sq_step_call sq_step_in sq_step_over sq_step_begin sq_step_start sq_step_short sq_step_along sq_step_within sq_step_at sq_step_out sk_call sq_call_step sq_call_call sq_call_in sq_call_over sq_call_begin sq_call_start sq_call_short sq_call_along sq_call_within sq_call_at sq_call_out sk_in sq_in_step sq_in_call sq_in_in sq_in_over sq_in_begin sq_in_start sq_in_short sq_in_along sq_in_within sq_in_at sq_in_out sk_over sq_over_step sq_over_call sq_over_in sq_over_over sq_over_begin sq_over_start sq_over_short sq_over_along sq_over_within sq_over_at sq_over_out sk_begin sq_begin_step sq_begin_call sq_begin_in sq_begin_over sq_begin_begin sq_begin_start sq_begin_short sq_begin_along sq_begin_within sq_begin_at sq_begin_out sk_start sq_start_step sq_start_call sq_start_in sq_start_over sq_start_begin sq_start_start sq_start_short sq_start_along sq_start_within sq_start_at sq_start_out sk_short sq_short_step sq_short_call sq_short_in sq_short_over sq_short_begin sq_short_start sq_short_short sq_short_along sq_short_within sq_short_at sq_short_out sk_along sq_along_step sq_along_call sq_along_in sq_along_over sq_along_begin sq_along_start sq_along_short sq_along_along sq_along_within sq_along_at sq_along_out sk_within sq_within_step sq_within_call sq_within_in sq_within_over sq_within_begin sq_within_start sq_within_short sq_within_along sq_within_within sq_within_at sq_within_out sk_at sq_at_step sq_at_call sq_at_in sq_at_over sq_at_begin sq_at_start sq_at_short sq_at_along sq_at_within sq_at_at sq_at_out sk_out sq_out_step sq_out_call sq_out_in sq_out_over sq_out_begin sq_out_start sq_out_short sq_out_along sq_out_within sq_out_at sq_out_out Bool.and_self Bool.and_true setF hasM"
local macro_rules | `(tactic| simp only [VV]) => do
  let as := ((vvA.splitOn " ")).toArray.map fun s => Lean.mkIdent s.toName
  let bs := ((vvB.splitOn " ")).toArray.map fun s => Lean.mkIdent s.toName
  `(tactic| simp only [$[↓$as:ident],*, $[$bs:ident],*])
local macro_rules | `(tactic| simp only [$xs,*, VV]) => do
  let as := ((vvA.splitOn " ")).toArray.map fun s => Lean.mkIdent s.toName
  let bs := ((vvB.splitOn " ")).toArray.map fun s => Lean.mkIdent s.toName
  `(tactic| simp only [$xs,*, $[↓$as:ident],*, $[$bs:ident],*])
noncomputable def top (i : Nat) : Stmt := PySem.Challenge.pw_callmatch_k61_names_and_numbers.main.body.getD i (.Pass ⟨0, 0, 0, 0⟩)
noncomputable abbrev s_all_between : Stmt := top 6
noncomputable abbrev s__law_cell_at : Stmt := top 8
noncomputable abbrev s__law_stream : Stmt := top 10
noncomputable abbrev s__law_is_name : Stmt := top 14
noncomputable abbrev s__law_number : Stmt := top 15
noncomputable abbrev s_is_name : Stmt := top 4
noncomputable abbrev s_number_of : Stmt := top 5
noncomputable abbrev s__law_cells : Stmt := top 9
noncomputable abbrev s__law_letters : Stmt := top 11
noncomputable abbrev s__law_figures : Stmt := top 12
noncomputable abbrev s__law_text : Stmt := top 13
noncomputable abbrev s__law_same : Stmt := top 16
noncomputable abbrev s_law : Stmt := top 17
theorem sc_all_between : FnScope ["text", "first", "last"] ["text", "first", "last"] (defScope s_all_between) := ⟨rfl, rfl, rfl, by decide +kernel, rfl, by decide +kernel, by decide +kernel⟩
theorem sc__law_cell_at : FnScope ["_law_script", "_law_k"] ["_law_script", "_law_k"] (defScope s__law_cell_at) := ⟨rfl, rfl, rfl, by decide +kernel, rfl, by decide +kernel, by decide +kernel⟩
theorem sc__law_stream : FnScope ["_law_cell", "_law_many", "_law_found", "_law_number_here", "_law_k"] ["_law_cell", "_law_many"] (defScope s__law_stream) := ⟨rfl, rfl, rfl, by decide +kernel, rfl, by decide +kernel, by decide +kernel⟩
theorem sc__law_is_name : FnScope ["_law_text_here", "_law_sign"] ["_law_text_here"] (defScope s__law_is_name) := ⟨rfl, rfl, rfl, by decide +kernel, rfl, by decide +kernel, by decide +kernel⟩
theorem sc__law_number : FnScope ["_law_text_here", "_law_number_here", "_law_sign"] ["_law_text_here"] (defScope s__law_number) := ⟨rfl, rfl, rfl, by decide +kernel, rfl, by decide +kernel, by decide +kernel⟩
theorem sc_is_name : FnScope ["text"] ["text"] (defScope s_is_name) := ⟨rfl, rfl, rfl, by decide +kernel, rfl, by decide +kernel, by decide +kernel⟩
theorem sc_number_of : FnScope ["text"] ["text"] (defScope s_number_of) := ⟨rfl, rfl, rfl, by decide +kernel, rfl, by decide +kernel, by decide +kernel⟩
theorem sc__law_cells : FnScope ["_law_script", "_law_first", "_law_most"] ["_law_script", "_law_first", "_law_most"] (defScope s__law_cells) := ⟨rfl, rfl, rfl, by decide +kernel, rfl, by decide +kernel, by decide +kernel⟩
theorem sc__law_letters : FnScope ["_law_cell", "_law_text_here", "_law_number_here"] ["_law_cell"] (defScope s__law_letters) := ⟨rfl, rfl, rfl, by decide +kernel, rfl, by decide +kernel, by decide +kernel⟩
theorem sc__law_figures : FnScope ["_law_cell", "_law_text_here", "_law_number_here"] ["_law_cell"] (defScope s__law_figures) := ⟨rfl, rfl, rfl, by decide +kernel, rfl, by decide +kernel, by decide +kernel⟩
theorem sc__law_text : FnScope ["_law_cell", "_law_taken", "_law_word", "_law_text_here", "_law_other", "_law_at", "_law_signs"] ["_law_cell"] (defScope s__law_text) := ⟨rfl, rfl, rfl, by decide +kernel, rfl, by decide +kernel, by decide +kernel⟩
theorem sc__law_same : FnScope ["_law_text_here", "_law_named", "_law_found"] ["_law_text_here"] (defScope s__law_same) := ⟨rfl, rfl, rfl, by decide +kernel, rfl, by decide +kernel, by decide +kernel⟩
theorem sc_law : FnScope ["_law_script", "_law_texts", "_law_text_here"] ["_law_script"] (defScope s_law) := ⟨rfl, rfl, rfl, by decide +kernel, rfl, by decide +kernel, by decide +kernel⟩
noncomputable def w_KEPT_WORDS : List Str := ["function", "call", "dye", "wash", "if", "to", "return", "back", "here"]
structure Txt (P : Program) (w : World) (K : PySem.W.Frag) (mg : Str → Option Value) : Prop where
  b_all : mg "all" = none
  b_bool : mg "bool" = none
  b_int : mg "int" = none
  b_isinstance : mg "isinstance" = none
  b_len : mg "len" = none
  b_min : mg "min" = none
  b_range : mg "range" = none
  b_reversed : mg "reversed" = none
  t_KEPT_WORDS : ∃ a, mg "KEPT_WORDS" = some (.ref a) ∧ KTup K a w_KEPT_WORDS
  c_MOST_FIGURES : ∃ t, mg "MOST_FIGURES" = some (.int 18 t)
  c_MOST_SIGNS : ∃ t, mg "MOST_SIGNS" = some (.int 8 t)
section
variable {P : Program} {w : World} {K : PySem.W.Frag} {mg : Str → Option Value} {base : Heap}
noncomputable def b_all_between : DS := (dRet (dCB pAll (dCons (dV (dComp [none, some 1, some 2] (dIStr (dVar 0)) (dName 0) dNoIf (dChain pLeS pLeS (dVar 1) (dVar 0) (dVar 2)))) dNil)))
theorem c_a : (Str.ofString "a").cps.toList = [97] := by decide +kernel
theorem c_z : (Str.ofString "z").cps.toList = [122] := by decide +kernel
theorem c_0 : (Str.ofString "0").cps.toList = [48] := by decide +kernel
theorem c_9 : (Str.ofString "9").cps.toList = [57] := by decide +kernel
noncomputable def nuD : Option Nat → D
  | some n => nD n
  | none => .non
noncomputable def S_all_between : DSp := fun ds h Q => ∃ (x y z : Str) (a b n : Nat), ds = [.str x, .str y, .str z] ∧ TOk x n ∧ n ≤ 10000 ∧ y.cps.toList = [a] ∧ z.cps.toList = [b] ∧ Q (.bl (x.cps.toList.all fun c => decide (a ≤ c) && decide (c ≤ b))) h
theorem imp_all_between : ∀ ds h Q, S_all_between ds h Q → runD 3 b_all_between ds h Q := by
  rintro ds h Q ⟨x, y, z, a, b, n, rfl, hx, hn, ey, ez, q⟩
  have hxl := hx.2
  rw [len_cps] at hxl
  simp only [runD, b_all_between, List.map_cons, List.map_nil, List.cons_append, List.nil_append, List.length_cons, List.length_nil, List.replicate, Nat.reduceSub, Nat.reduceAdd, Nat.zero_add, Nat.sub_self]
  simp only [strItems, List.length_map, VV]
  refine ⟨by first | decide | omega, ?_⟩
  refine comp1n (fun c : Nat => .bl (decide (a ≤ c) && decide (c ≤ b))) Src.ok_nil none (fun c hc K kk => ?_) ?_
  · simp only [ey, ez, lt_one, VV]
    by_cases z1 : a ≤ c
    · have e1 : decide (c < a) = false := decide_eq_false (by first | decide | omega)
      simp only [e1, VV]
      rw [decide_eq_true z1] at kk
      by_cases z2 : c ≤ b
      · have e2 : decide (b < c) = false := decide_eq_false (by first | decide | omega)
        rw [decide_eq_true z2] at kk
        simp only [e2, VV]
        exact kk
      · have e2 : decide (b < c) = true := decide_eq_true (by first | decide | omega)
        rw [decide_eq_false z2] at kk
        simp only [e2, VV]
        exact kk
    · have e1 : decide (c < a) = true := decide_eq_true (by first | decide | omega)
      simp only [e1, VV]
      rw [decide_eq_false z1] at kk
      exact kk
  · refine ⟨_, x.cps.toList.map fun c => decide (a ≤ c) && decide (c ≤ b), rfl, ?_, ?_⟩
    · show some _ = some _
      rw [List.map_map]; rfl
    · rw [List.all_map]; exact q
theorem ok_all_between {f : Addr} {fd : FuncData} (F : Fun K "all_between" "all_between" s_all_between f fd) (T : Txt P w K mg) : FnOk P w K mg base CX0 1 f fd ["text", "first", "last"] (spD K 3 S_all_between) :=
  fn_ok (k := 0) (b := b_all_between) F sc_all_between (fun cdv A outer s H E hr => by
    refine ss_one ?_
    refine s_ret ?_
    exact se_callB (ok_all rfl) rfl T.b_all PyProof.Rows.boot_all (sa_cons (se_v (sn_comp rfl (N' := ["sign", "first", "last"]) (js := [none, some 1, some 2]) ⟨rfl, by decide +kernel, rfl, rfl, rfl⟩ (si_str (sv 0)) (fun s0 H0 fp => ⟨(sg_name (i := 0) (show (["sign", "first", "last"] : List Str).Nodup by decide +kernel) rfl (Or.inl rfl)), sf_nil, (se_chain ok_leS ok_leS (sv 1) (sv 0) (sv 2))⟩))) sa_nil)) imp_all_between
noncomputable def b__law_cell_at : DS := (dSeq (dIfS (dTst (dOp pGe (dVar 1) (dCB pLen (dCons (dVar 0) dNil)))) (dRet (dC (.int 0))) dNext)
    (dSeq (dIfS (dTst (dChain pLtI pLtI (dUn pNeg (dC (.int 1000))) (dOp pIx (dVar 0) (dVar 1)) (dC (.int 1000)))) (dRet (dOp pMod (dOp pMulI (dOp pPow (dOp pPlus (dOp pPlus (dOp pIx (dVar 0) (dVar 1)) (dC (.int 1000))) (dOp pMulI (dC (.int 2003)) (dVar 1))) (dC (.int 2))) (dC (.int 48271))) (dC (.int 2147483647)))) dNext)
    (dRet (dOp pIx (dVar 0) (dVar 1)))))
noncomputable def S__law_cell_at : DSp := fun ds h Q => ∃ (ns : List Int) (k : Nat), ds = [.scr (ns.map .int), .int k] ∧ ns.length ≤ 63 ∧ (∀ x ∈ ns, Builtin.Int.intBits x ≤ 1048576) ∧ k ≤ 1000 ∧ ∀ r : Int, Q (.int r) h
theorem imp__law_cell_at : ∀ ds h Q, S__law_cell_at ds h Q → runD 2 b__law_cell_at ds h Q := by
  rintro ds h Q ⟨ns, k, rfl, hl, hb, hk, q⟩
  simp only [runD, b__law_cell_at, List.map_cons, List.map_nil, List.cons_append, List.nil_append, List.length_cons, List.length_nil, List.replicate, Nat.reduceSub, Nat.reduceAdd, Nat.zero_add, Nat.sub_self]
  (try dsimp only); refine seq_intro fun N hN => ?_
  simp only [List.length_map, VV]
  refine iteB (fun c1 => q _) (fun c1 => ?_)
  have kl : k < ns.length := by have := of_decide_eq_false c1; omega
  have ix : atI (ns.map D.int) (k : Int) = some (.int ns[k]) := by rw [atN, List.getElem?_map, List.getElem?_eq_getElem kl]; rfl
  subst hN
  (try dsimp only); refine seq_intro fun N hN => ?_
  simp only [ix, VV]
  generalize ns[k] = x
  have rest : N [some (.scr (ns.map D.int)), some (.int k)] h := by
    subst hN
    simp only [ix, VV]
    exact q _
  refine iteB (fun c2 => ?_) (fun c2 => rest)
  have l1 := of_decide_eq_true c2
  refine iteB (fun c3 => ?_) (fun c3 => rest)
  have l2 := of_decide_eq_true c3
  refine ⟨mulS (by decide), ⟨by decide, by decide, by first | decide | omega⟩, mulS' (by decide), by decide, ?_⟩
  exact q _
theorem ok__law_cell_at {f : Addr} {fd : FuncData} (F : Fun K "_law_cell_at" "_law_cell_at" s__law_cell_at f fd) (T : Txt P w K mg) : FnOk P w K mg base CX0 1 f fd ["_law_script", "_law_k"] (spD K 2 S__law_cell_at) :=
  fn_ok (k := 0) (b := b__law_cell_at) F sc__law_cell_at (fun cdv A outer s H E hr => by
    refine ss_cons ?_ ?_
    · refine s_if ?_ ?_ ?_
      · exact st_cmp ok_ge (sv 1) (se_callB ok_len rfl T.b_len PySem.boot_len (sa_cons (sv 0) sa_nil)) (nomark _)
      · refine ss_one ?_
        refine s_ret ?_
        exact se_int
      exact ss_nil
    refine ss_cons ?_ ?_
    · refine s_if ?_ ?_ ?_
      · exact st_chain ok_ltI ok_ltI (se_un ok_neg se_int) (se_ix ok_ix (sv 0) (sv 1) (fun _ _ => rfl)) se_int
      · refine ss_one ?_
        refine s_ret ?_
        exact se_op ok_mod (se_op ok_timesI (se_op ok_pow (se_op ok_plus (se_op ok_plus (se_ix ok_ix (sv 0) (sv 1) (fun _ _ => rfl)) se_int) (se_op ok_timesI se_int (sv 1))) se_int) se_int) se_int
      exact ss_nil
    refine ss_one ?_
    refine s_ret ?_
    exact se_ix ok_ix (sv 0) (sv 1) (fun _ _ => rfl)) imp__law_cell_at
noncomputable def b__law_stream : DS := (dSeq (dAsg (dTk dNil) (dName 2))
    (dSeq (dAsg (dOp pMod (dVar 0) (dC (.int 2147483647))) (dName 3))
    (dSeq (dFor (dIRange (dCons (dVar 1) dNil)) (dName 4) (dSeq (dAsg (dOp pMod (dOp pPlus (dOp pPlus (dOp pMulI (dVar 3) (dC (.int 48271))) (dC (.int 12820163))) (dVar 4)) (dC (.int 2147483647))) (dName 3))
    (dDrop (dAppend (dVar 2) (dCons (dVar 3) dNil)))))
    (dRet (dVar 2)))))
noncomputable def S__law_stream : DSp := fun ds h Q => ∃ (c : Int) (m : Nat), ds = [.int c, .int m] ∧ m ≤ 100 ∧ ∀ rs : List Int, rs.length = m → Q (.lst (rs.map D.int)) h
theorem imp__law_stream : ∀ ds h Q, S__law_stream ds h Q → runD 5 b__law_stream ds h (Dr h Q) := by
  rintro ds h Q ⟨c, m, rfl, hm, q⟩
  simp only [runD, b__law_stream, List.map_cons, List.map_nil, List.cons_append, List.nil_append, List.length_cons, List.length_nil, List.replicate, Nat.reduceSub, Nat.reduceAdd, Nat.zero_add, Nat.sub_self]
  (try dsimp only); refine seq_intro fun N hN => ?_
  simp only [VV]
  subst hN
  (try dsimp only); refine seq_intro fun N hN => ?_
  simp only [VV]
  refine ⟨by decide, ?_⟩
  have cb : 0 ≤ c % 2147483647 ∧ c % 2147483647 < 2147483647 := by first | decide | omega
  generalize c % 2147483647 = s0 at cb
  subst hN
  (try dsimp only); refine seq_intro fun N hN => ?_
  simp only [VV]
  refine ⟨⟨by first | decide | omega, by first | decide | omega⟩, ?_⟩
  rw [rangeD_map, Int.toNat_natCast]
  refine forL_map (fun p δ h' => ∃ (rs : List Int) (s : Int), h' = h ++ [.lst (rs.map D.int)] ∧ rs.length = p.length ∧ (0 ≤ s ∧ s < 2147483647) ∧ ∃ x4, δ = [some (.int c), some (.int m), some (.ref h.length), some (.int s), x4]) ⟨[], s0, rfl, rfl, cb, _, rfl⟩ (fun _ _ _ _ => Src.ok_nil) ?_ ?_
  · rintro p y r δ h' N1 e ⟨rs, s, rfl, rl, sb, x4, rfl⟩ hN1
    obtain ⟨rfl, hy⟩ := range_split e
    clear hN
    simp only [VV]
    (try dsimp only); refine seq_intro fun N2 hN2 => ?_
    simp only [VV]
    refine ⟨mulS (by first | decide | omega), by decide, ?_⟩
    have s2 : 0 ≤ (s * 48271 + 12820163 + (0 + (p.length : Int))) % 2147483647 ∧ (s * 48271 + 12820163 + (0 + (p.length : Int))) % 2147483647 < 2147483647 := by first | decide | omega
    generalize (s * 48271 + 12820163 + (0 + (p.length : Int))) % 2147483647 = s' at s2
    subst hN2
    have gn : (h ++ [O.lst (rs.map D.int)])[h.length]? = some (.lst (rs.map D.int)) := get_new _ _
    simp only [gn, VV]
    refine ⟨by rw [List.length_map]; omega, ?_⟩
    rw [set_new]
    exact hN1 _ _ ⟨rs ++ [s'], s', by rw [List.map_append]; rfl, by simp [rl], s2, _, rfl⟩
  · rintro δ h' ⟨rs, s, rfl, rl, sb, x4, rfl⟩
    rw [List.length_range] at rl
    subst hN
    simp only [VV]
    exact Dr.dropL (g1 := []) (g2 := []) (nrDs_map (fun _ => rfl) rs) rfl (q rs rl)
theorem ok__law_stream {f : Addr} {fd : FuncData} (F : Fun K "_law_stream" "_law_stream" s__law_stream f fd) (T : Txt P w K mg) : FnOk P w K mg base CX0 1 f fd ["_law_cell", "_law_many"] (spD K 2 S__law_stream) :=
  fn_okD (k := 0) (b := b__law_stream) F sc__law_stream (fun cdv A outer s H E hr => by
    refine ss_cons ?_ ?_
    · refine s_set (i := 2) ?_ ?_ ?_ ?_
      · exact sc__law_stream.nd
      · exact rfl
      · exact Or.inl rfl
      exact se_t (sn_lst sa_nil)
    refine ss_cons ?_ ?_
    · refine s_set (i := 3) ?_ ?_ ?_ ?_
      · exact sc__law_stream.nd
      · exact rfl
      · exact Or.inl rfl
      exact se_op ok_mod (sv 0) se_int
    refine ss_cons ?_ ?_
    · refine s_for ?_ ?_ ?_ ?_ ?_
      · exact PassesOwn.never
      · exact rfl
      · exact si_range1 rfl T.b_range (sa_cons (sv 1) sa_nil)
      · exact sg_name (i := 4) sc__law_stream.nd rfl (Or.inl rfl)
      refine ss_cons ?_ ?_
      · refine s_set (i := 3) ?_ ?_ ?_ ?_
        · exact sc__law_stream.nd
        · exact rfl
        · exact Or.inl rfl
        exact se_op ok_mod (se_op ok_plus (se_op ok_plus (se_op ok_timesI (sv 3) se_int) se_int) (sv 4)) se_int
      refine ss_one ?_
      exact s_expr (se_append (sv 2) (sa_cons (sv 3) sa_nil))
    refine ss_one ?_
    refine s_ret ?_
    exact sv 2) imp__law_stream
noncomputable def b__law_is_name : DS := (dSeq (dIfS (dTst (dOp (pIn false) (dVar 0) (dV (dStrs ["function", "call", "dye", "wash", "if", "to", "return", "back", "here"])))) (dRet (dC (.bl false))) dNext)
    (dSeq (dFor (dIStr (dVar 0)) (dName 1) (dIfS (dTst (dOp (pInS true) (dVar 1) (dC (.str "abcdefghijklmnopqrstuvwxyz")))) (dRet (dC (.bl false))) dNext))
    (dRet (dChain pLe pLe (dC (.int 1)) (dCB pLen (dCons (dVar 0) dNil)) (dC (.int 8))))))
noncomputable def S__law_is_name : DSp := fun ds h Q => ∃ (x : Str) (n : Nat), ds = [.str x] ∧ TOk x n ∧ n ≤ 10000 ∧ Q (.bl (isN x)) h
theorem imp__law_is_name : ∀ ds h Q, S__law_is_name ds h Q → runD 2 b__law_is_name ds h Q := by
  rintro ds h Q ⟨x, n, rfl, hx, hn, q⟩
  have ln : ∀ h : Hh, lenD h (.str x) = some x.length := fun h => lenD_str hx (by first | decide | omega)
  have ew : inF (.str x) [D.str (Str.ofString "function"), D.str (Str.ofString "call"), D.str (Str.ofString "dye"), D.str (Str.ofString "wash"), D.str (Str.ofString "if"), D.str (Str.ofString "to"), D.str (Str.ofString "return"), D.str (Str.ofString "back"), D.str (Str.ofString "here")] = kept.any fun y => y == x := rfl
  simp only [runD, b__law_is_name, List.map_cons, List.map_nil, List.cons_append, List.nil_append, List.length_cons, List.length_nil, List.replicate, Nat.reduceSub, Nat.reduceAdd, Nat.zero_add, Nat.sub_self]
  (try dsimp only); refine seq_intro fun N hN => ?_
  simp only [ew, VV]
  refine ⟨rfl, ?_⟩
  refine iteB (fun c1 => ?_) (fun c1 => ?_)
  · have : isN x = false := by unfold isN; rw [c1]; simp
    rw [this] at q; exact q
  subst hN
  (try dsimp only); refine seq_intro fun N hN => ?_
  simp only [strItems, VV]
  refine forL_map (fun p δ h' => h' = h ∧ p.all isL = true ∧ ∃ x1, δ = [some (.str x), x1]) ⟨rfl, rfl, _, rfl⟩ (fun _ _ _ _ => Src.ok_nil) ?_ ?_
  · rintro p c r δ h' N1 e ⟨rfl, pa, x1, rfl⟩ hN1
    clear hN
    simp only [occ_one, abc_mem, VV]
    refine iteB (fun c2 => ?_) (fun c2 => ?_)
    · have : isN x = false := by
        have cl : isL c = false := by cases w : isL c with
          | true => rw [w] at c2; cases c2
          | false => rfl
        have : x.cps.toList.all isL = false := by
          rw [e, List.all_append, List.all_cons, cl]; simp
        unfold isN; rw [this]; simp
      rw [this] at q; exact q
    · have cl : isL c = true := by cases w : isL c with
        | true => rfl
        | false => rw [w] at c2; cases c2
      exact hN1 _ _ ⟨rfl, by rw [List.all_append, pa, List.all_cons, cl]; rfl, _, rfl⟩
  · rintro δ h' ⟨rfl, pa, x1, rfl⟩
    have e : isN x = (decide (1 ≤ x.length) && decide (x.length ≤ 8)) := by unfold isN; rw [c1, pa]; simp
    rw [e] at q
    subst hN
    simp only [ln, pLe, VV]
    by_cases z1 : 1 ≤ x.length
    · have e1 : (1 : Int) ≤ (x.length : Int) := by first | decide | omega
      rw [decide_eq_true z1] at q
      simp only [e1, VV]
      rw [show decide ((x.length : Int) ≤ 8) = decide (x.length ≤ 8) from decide_eq_decide.mpr (by first | decide | omega)]
      exact q
    · have e1 : ¬ (1 : Int) ≤ (x.length : Int) := by first | decide | omega
      rw [decide_eq_false z1] at q
      simp only [e1, VV]
      exact q
theorem ok__law_is_name {f : Addr} {fd : FuncData} (F : Fun K "_law_is_name" "_law_is_name" s__law_is_name f fd) (T : Txt P w K mg) : FnOk P w K mg base CX0 1 f fd ["_law_text_here"] (spD K 1 S__law_is_name) :=
  fn_ok (k := 0) (b := b__law_is_name) F sc__law_is_name (fun cdv A outer s H E hr => by
    refine ss_cons ?_ ?_
    · refine s_if ?_ ?_ ?_
      · exact st_cmp ok_in (sv 0) (se_v (sn_strs ["function", "call", "dye", "wash", "if", "to", "return", "back", "here"])) rfl
      · refine ss_one ?_
        refine s_ret ?_
        exact se_bl
      exact ss_nil
    refine ss_cons ?_ ?_
    · refine s_for ?_ ?_ ?_ ?_ ?_
      · exact PassesOwn.never
      · exact rfl
      · exact si_str (sv 0)
      · exact sg_name (i := 1) sc__law_is_name.nd rfl (Or.inl rfl)
      refine ss_one ?_
      refine s_if ?_ ?_ ?_
      · exact st_cmp ok_ninS (sv 1) se_str rfl
      · refine ss_one ?_
        refine s_ret ?_
        exact se_bl
      exact ss_nil
    refine ss_one ?_
    refine s_ret ?_
    exact se_chain ok_le ok_le se_int (se_callB ok_len rfl T.b_len PySem.boot_len (sa_cons (sv 0) sa_nil)) se_int) imp__law_is_name
noncomputable def b__law_number : DS := (dSeq (dAsg (dC (.int 0)) (dName 1))
    (dSeq (dFor (dIStr (dVar 0)) (dName 2) (dSeq (dIfS (dTst (dOp (pInS true) (dVar 2) (dC (.str "0123456789")))) (dRet (dC .non)) dNext)
    (dAsg (dOp pPlus (dOp pMulI (dC (.int 10)) (dVar 1)) (dIndexS (dC (.str "0123456789")) (dCons (dVar 2) dNil))) (dName 1))))
    (dSeq (dIfS (dOr (dTst (dOp (pEq false) (dCB pLen (dCons (dVar 0) dNil)) (dC (.int 0)))) (dOr (dTst (dOp pGt (dCB pLen (dCons (dVar 0) dNil)) (dC (.int 18)))) (dAnd (dTst (dOp pGt (dCB pLen (dCons (dVar 0) dNil)) (dC (.int 1)))) (dTst (dOp (pEq false) (dSlS (dVar 0) dNoPart (dPart (dC (.int 1)))) (dC (.str "0"))))))) (dRet (dC .non)) dNext)
    (dRet (dVar 1)))))
noncomputable def S__law_number : DSp := fun ds h Q => ∃ (x : Str) (n : Nat), ds = [.str x] ∧ TOk x n ∧ n ≤ 10000 ∧ Q (nuD (numO x)) h
theorem imp__law_number : ∀ ds h Q, S__law_number ds h Q → runD 3 b__law_number ds h Q := by
  rintro ds h Q ⟨x, n, rfl, hx, hn, q⟩
  have ln : ∀ h : Hh, lenD h (.str x) = some x.length := fun h => lenD_str hx (by first | decide | omega)
  simp only [runD, b__law_number, List.map_cons, List.map_nil, List.cons_append, List.nil_append, List.length_cons, List.length_nil, List.replicate, Nat.reduceSub, Nat.reduceAdd, Nat.zero_add, Nat.sub_self]
  (try dsimp only); refine seq_intro fun N hN => ?_
  simp only [VV]
  subst hN
  (try dsimp only); refine seq_intro fun N hN => ?_
  simp only [strItems, VV]
  refine forL_map (fun p δ h' => h' = h ∧ p.all isF = true ∧ ∃ x2, δ = [some (.str x), some (nD (PySem.NumText.digitsVal p)), x2]) ⟨rfl, rfl, _, rfl⟩ (fun _ _ _ _ => Src.ok_nil) ?_ ?_
  · rintro p c r δ h' N1 e ⟨rfl, pa, x1, rfl⟩ hN1
    clear hN
    simp only [VV]
    (try dsimp only); refine seq_intro fun N2 hN2 => ?_
    simp only [occ_one, fig_mem, VV]
    refine iteB (fun c2 => ?_) (fun c2 => ?_)
    · have cl : isF c = false := by cases w : isF c with
        | true => rw [w] at c2; cases c2
        | false => rfl
      have : numO x = none := if_neg fun z => by
        have := z.2
        rw [e, List.all_append, List.all_cons, cl] at this
        simp at this
      rw [this] at q; exact q
    · have cl : isF c = true := by cases w : isF c with
        | true => rfl
        | false => rw [w] at c2; cases c2
      have cb : 48 ≤ c ∧ c ≤ 57 := by
        unfold isF at cl
        rw [Bool.and_eq_true] at cl
        exact ⟨of_decide_eq_true cl.1, of_decide_eq_true cl.2⟩
      subst hN2
      simp only [VV]
      refine ⟨mulS (by decide), c - 48, [], ?_, ?_⟩
      · have := fig_at (c - 48) (by first | decide | omega)
        rw [show c - 48 + 48 = c by first | decide | omega] at this
        exact this
      · rw [show (10 : Int) * ((PySem.NumText.digitsVal p : Nat) : Int) + ((c - 48 : Nat) : Int) = ((PySem.NumText.digitsVal (p ++ [c]) : Nat) : Int) by rw [dv_snoc]; omega]
        exact hN1 _ _ ⟨rfl, by rw [List.all_append, pa, List.all_cons, cl]; rfl, _, rfl⟩
  · rintro δ h' ⟨rfl, pa, x1, rfl⟩
    have z0 : PyData.strOk (Str.ofString "0") = true := by decide +kernel
    subst hN
    (try dsimp only); refine seq_intro fun N hN => ?_
    have non : numO x = none → Q .non h' := fun z => by rw [z] at q; exact q
    have fin : numO x = some (PySem.NumText.digitsVal x.cps.toList) → N [some (.str x), some (nD (PySem.NumText.digitsVal x.cps.toList)), x1] h' := fun z => by
      subst hN
      rw [z] at q
      simp only [VV]
      exact q
    simp only [ln, VV]
    refine iteB (fun c1 => non (if_neg fun z => ?_)) (fun c1 => ?_)
    · have : (x.length : Int) = 0 := by simpa using c1
      omega
    have n1 : 1 ≤ x.length := by
      have : ¬ (x.length : Int) = 0 := by simpa using c1
      omega
    refine iteB (fun c2 => non (if_neg fun z => ?_)) (fun c2 => ?_)
    · have := of_decide_eq_true c2; omega
    have n2 : x.length ≤ 18 := by have := of_decide_eq_false c2; omega
    have e0 : numO x = if x.cps.toList.head? = some 48 ∧ 1 < x.length then none else some (PySem.NumText.digitsVal x.cps.toList) := if_pos ⟨⟨n1, n2⟩, pa⟩
    refine iteB (fun c3 => ?_) (fun c3 => fin ?_)
    · have n3 : 1 < x.length := by have := of_decide_eq_true c3; omega
      obtain ⟨d0, r, er⟩ : ∃ d0 r, x.cps.toList = d0 :: r := by
        cases w : x.cps.toList with
        | nil => rw [len_cps, w] at n1; cases n1
        | cons d r => exact ⟨d, r, rfl⟩
      have tc := hx.cut none (some 1)
      have b1 : (slS x none (some 1) == Str.ofString "0") = decide (d0 = 48) := by
        rw [str_beq, c_0, sl_first er]; apply decide_eq_decide.mpr; simp
      have tl := tc.2
      simp only [tc.1, z0, b1, Bool.and_self, VV]
      refine ⟨by first | decide | omega, ?_⟩
      refine iteB (fun c4 => non ?_) (fun c4 => fin ?_)
      · have c4 := of_decide_eq_true c4
        rw [e0, if_pos ⟨by rw [er, c4]; rfl, n3⟩]
      · have c4 := of_decide_eq_false c4
        rw [e0, if_neg]
        intro z
        have := z.1
        rw [er] at this
        exact c4 (Option.some.inj this)
    · have := of_decide_eq_false c3
      rw [e0, if_neg (fun z => by first | decide | omega)]
theorem ok__law_number {f : Addr} {fd : FuncData} (F : Fun K "_law_number" "_law_number" s__law_number f fd) (T : Txt P w K mg) : FnOk P w K mg base CX0 1 f fd ["_law_text_here"] (spD K 1 S__law_number) :=
  fn_ok (k := 0) (b := b__law_number) F sc__law_number (fun cdv A outer s H E hr => by
    refine ss_cons ?_ ?_
    · refine s_set (i := 1) ?_ ?_ ?_ ?_
      · exact sc__law_number.nd
      · exact rfl
      · exact Or.inl rfl
      exact se_int
    refine ss_cons ?_ ?_
    · refine s_for ?_ ?_ ?_ ?_ ?_
      · exact PassesOwn.never
      · exact rfl
      · exact si_str (sv 0)
      · exact sg_name (i := 2) sc__law_number.nd rfl (Or.inl rfl)
      refine ss_cons ?_ ?_
      · refine s_if ?_ ?_ ?_
        · exact st_cmp ok_ninS (sv 2) se_str rfl
        · refine ss_one ?_
          refine s_ret ?_
          exact se_non
        exact ss_nil
      refine ss_one ?_
      refine s_set (i := 1) ?_ ?_ ?_ ?_
      · exact sc__law_number.nd
      · exact rfl
      · exact Or.inl rfl
      exact se_op ok_plus (se_op ok_timesI se_int (sv 1)) (se_indexS se_str (sa_cons (sv 2) sa_nil))
    refine ss_cons ?_ ?_
    · refine s_if ?_ ?_ ?_
      · exact st_w (sw_or (st_cmp (ok_eq hr.units) (se_callB ok_len rfl T.b_len PySem.boot_len (sa_cons (sv 0) sa_nil)) se_int (nomark _)) (sw_or (st_cmp ok_gt (se_callB ok_len rfl T.b_len PySem.boot_len (sa_cons (sv 0) sa_nil)) se_int (nomark _)) (sw_or1 (st_w (sw_and (st_cmp ok_gt (se_callB ok_len rfl T.b_len PySem.boot_len (sa_cons (sv 0) sa_nil)) se_int (nomark _)) (sw_and1 (st_cmp (ok_eq hr.units) (se_slS (sv 0) so_none (so_some se_int)) se_str (nomark _))))))))
      · refine ss_one ?_
        refine s_ret ?_
        exact se_non
      exact ss_nil
    refine ss_one ?_
    refine s_ret ?_
    exact sv 1) imp__law_number
noncomputable def b_is_name : DS := (dRet (dAndV (dChain pLe pLe (dC (.int 1)) (dCB pLen (dCons (dVar 0) dNil)) (dC (.int 8))) (dAndV (dNinK w_KEPT_WORDS (dVar 0)) (dCal S_all_between (dCons (dVar 0) (dCons (dC (.str "a")) (dCons (dC (.str "z")) dNil)))))))
noncomputable def S_is_name : DSp := fun ds h Q => ∃ (x : Str) (n : Nat), ds = [.str x] ∧ TOk x n ∧ n ≤ 10000 ∧ Q (.bl (isN x)) h
theorem imp_is_name : ∀ ds h Q, S_is_name ds h Q → runD 1 b_is_name ds h Q := by
  rintro ds h Q ⟨x, n, rfl, hx, hn, q⟩
  have ln : ∀ h : Hh, lenD h (.str x) = some x.length := fun h => lenD_str hx (by first | decide | omega)
  simp only [runD, b_is_name, List.map_cons, List.map_nil, List.cons_append, List.nil_append, List.length_cons, List.length_nil, List.replicate, Nat.reduceSub, Nat.reduceAdd, Nat.zero_add, Nat.sub_self]
  simp only [ln, pLe, VV]
  have fls : (decide (1 ≤ x.length) && decide (x.length ≤ 8)) = false → Q (.bl false) h := fun z => by
    have : isN x = false := by unfold isN; rw [z]; rfl
    rw [this] at q; exact q
  refine iteB (fun c1 => ?_) (fun c1 => fls ?_)
  · have n1 : decide (1 ≤ x.length) = true := decide_eq_true (by have := of_decide_eq_true c1; omega)
    refine iteB (fun c2 => ?_) (fun c2 => fls ?_)
    · have n2 : decide (x.length ≤ 8) = true := decide_eq_true (by have := of_decide_eq_true c2; omega)
      refine iteB (fun c3 => ?_) (fun c3 => ?_)
      · refine ⟨x, _, _, 97, 122, n, rfl, hx, hn, c_a, c_z, ?_⟩
        have : isN x = x.cps.toList.all (fun c => decide (97 ≤ c) && decide (c ≤ 122)) := by
          unfold isN
          rw [n1, n2, show (!(kept.any fun y => y == x)) = true from c3]; rfl
        rw [this] at q; exact q
      · have : isN x = false := by
          unfold isN
          rw [n1, n2, show (!(kept.any fun y => y == x)) = false from c3]; rfl
        rw [this] at q; exact q
    · rw [show decide (x.length ≤ 8) = false from decide_eq_false (by have := of_decide_eq_false c2; omega), Bool.and_false]
  · rw [show decide (1 ≤ x.length) = false from decide_eq_false (by have := of_decide_eq_false c1; omega)]; rfl
theorem ok_is_name {f : Addr} {fd : FuncData} (F : Fun K "is_name" "is_name" s_is_name f fd) (T : Txt P w K mg) (C_all_between : Cal P w K mg base 1 "all_between" ["text", "first", "last"] (spD K 3 S_all_between)) : FnOk P w K mg base CX0 2 f fd ["text"] (spD K 1 S_is_name) :=
  fn_ok (k := 1) (b := b_is_name) F sc_is_name (fun cdv A outer s H E hr => by
    refine ss_one ?_
    refine s_ret ?_
    exact se_and (se_chain ok_le ok_le se_int (se_callB ok_len rfl T.b_len PySem.boot_len (sa_cons (sv 0) sa_nil)) (se_globI rfl T.c_MOST_SIGNS)) (se_and (se_ninK rfl T.t_KEPT_WORDS (sv 0)) (se_one (se_cal C_all_between (hr.mono (by decide)) rfl (sa_cons (sv 0) (sa_cons se_str (sa_cons se_str sa_nil))))))) imp_is_name
noncomputable def b_number_of : DS := (dSeq (dIfS (dNot (dAnd (dTst (dChain pLe pLe (dC (.int 1)) (dCB pLen (dCons (dVar 0) dNil)) (dC (.int 18)))) (dTr (dCal S_all_between (dCons (dVar 0) (dCons (dC (.str "0")) (dCons (dC (.str "9")) dNil))))))) (dRet (dC .non)) dNext)
    (dSeq (dIfS (dAnd (dTst (dOp (pEq false) (dOp pIx (dVar 0) (dC (.int 0))) (dC (.str "0")))) (dTst (dOp (pEq true) (dVar 0) (dC (.str "0"))))) (dRet (dC .non)) dNext)
    (dRet (dCB pIntS (dCons (dVar 0) dNil)))))
noncomputable def S_number_of : DSp := fun ds h Q => ∃ (x : Str) (n : Nat), ds = [.str x] ∧ TOk x n ∧ n ≤ 10000 ∧ Q (nuD (numO x)) h
theorem imp_number_of : ∀ ds h Q, S_number_of ds h Q → runD 1 b_number_of ds h Q := by
  rintro ds h Q ⟨x, n, rfl, hx, hn, q⟩
  have ln : ∀ h : Hh, lenD h (.str x) = some x.length := fun h => lenD_str hx (by first | decide | omega)
  simp only [runD, b_number_of, List.map_cons, List.map_nil, List.cons_append, List.nil_append, List.length_cons, List.length_nil, List.replicate, Nat.reduceSub, Nat.reduceAdd, Nat.zero_add, Nat.sub_self]
  (try dsimp only); refine seq_intro fun N hN => ?_
  simp only [ln, pLe, VV]
  have non : ¬ ((1 ≤ x.length ∧ x.length ≤ 18) ∧ x.cps.toList.all isF = true) → Q .non h := fun z => by
    rw [show numO x = none from if_neg z] at q; exact q
  refine iteB (fun c1 => ?_) (fun c1 => non fun z => ?_)
  · have n1 : 1 ≤ x.length := by have := of_decide_eq_true c1; omega
    refine iteB (fun c2 => ?_) (fun c2 => non fun z => ?_)
    · have n2 : x.length ≤ 18 := by have := of_decide_eq_true c2; omega
      refine ⟨x, _, _, 48, 57, n, rfl, hx, hn, c_0, c_9, ?_⟩
      simp only [VV]
      refine iteB (fun c3 => non fun z => ?_) (fun c3 => ?_)
      · have c3 : (!(x.cps.toList.all isF)) = true := c3
        rw [z.2] at c3; cases c3
      have c3 : x.cps.toList.all isF = true := by
        have c3 : (!(x.cps.toList.all isF)) = false := c3
        cases w : x.cps.toList.all isF with
        | true => rfl
        | false => rw [w] at c3; cases c3
      have e0 : numO x = if x.cps.toList.head? = some 48 ∧ 1 < x.length then none else some (PySem.NumText.digitsVal x.cps.toList) := if_pos ⟨⟨n1, n2⟩, c3⟩
      obtain ⟨d0, r, er⟩ : ∃ d0 r, x.cps.toList = d0 :: r := by
        cases w : x.cps.toList with
        | nil => rw [len_cps, w] at n1; cases n1
        | cons d r => exact ⟨d, r, rfl⟩
      have t0 := hx.one (c := d0) (by rw [er]; exact List.mem_cons_self)
      have z0 : PyData.strOk (Str.ofString "0") = true := by decide +kernel
      have b1 : ((⟨#[d0]⟩ : Str) == Str.ofString "0") = decide (d0 = 48) := by
        rw [str_beq, c_0]; apply decide_eq_decide.mpr; simp
      have b2 : (x == Str.ofString "0") = decide (d0 = 48 ∧ r = []) := by
        rw [str_beq, c_0, er]; apply decide_eq_decide.mpr; simp
      have ad : PySem.NumText.AllDigits x.cps.toList := fun c hc => by
        have := List.all_eq_true.mp c3 c hc
        unfold isF at this
        rw [Bool.and_eq_true] at this
        exact ⟨of_decide_eq_true this.1, of_decide_eq_true this.2⟩
      have rl : x.length = r.length + 1 := by rw [len_cps, er]; rfl
      subst hN
      (try dsimp only); refine seq_intro fun N hN => ?_
      have fin : ¬ (x.cps.toList.head? = some 48 ∧ 1 < x.length) → N [some (.str x)] h := fun z => by
        rw [e0, if_neg z] at q
        subst hN
        simp only [VV]
        exact ⟨by first | decide | omega, _, PySem.intText_digits ad (by rw [er]; exact List.cons_ne_nil _ _) (by first | decide | omega), q⟩
      simp only [str_at0 hx hn er, t0.1, z0, b1, Bool.and_self, hx.1, b2, VV]
      refine iteB (fun c4 => ?_) (fun c4 => fin fun z => ?_)
      · have c4 := of_decide_eq_true c4
        refine iteB (fun c5 => ?_) (fun c5 => fin fun z => ?_)
        · have c5 : ¬ (d0 = 48 ∧ r = []) := by
            intro z
            rw [decide_eq_true z] at c5; cases c5
          have rn : r ≠ [] := fun z => c5 ⟨c4, z⟩
          rw [e0, if_pos ⟨by rw [er, c4]; rfl, by have := List.length_pos_iff.mpr rn; omega⟩] at q
          exact q
        · have c5 : d0 = 48 ∧ r = [] := by
            by_cases w : d0 = 48 ∧ r = []
            · exact w
            · rw [decide_eq_false w] at c5; cases c5
          rw [c5.2] at rl
          have := z.2
          simp at rl
          omega
      · have c4 := of_decide_eq_false c4
        have := z.1
        rw [er] at this
        exact c4 (Option.some.inj this)
    · have := of_decide_eq_false c2; omega
  · have := of_decide_eq_false c1; omega
theorem ok_number_of {f : Addr} {fd : FuncData} (F : Fun K "number_of" "number_of" s_number_of f fd) (T : Txt P w K mg) (C_all_between : Cal P w K mg base 1 "all_between" ["text", "first", "last"] (spD K 3 S_all_between)) : FnOk P w K mg base CX0 2 f fd ["text"] (spD K 1 S_number_of) :=
  fn_ok (k := 1) (b := b_number_of) F sc_number_of (fun cdv A outer s H E hr => by
    refine ss_cons ?_ ?_
    · refine s_if ?_ ?_ ?_
      · exact st_not (st_w (sw_and (st_chain ok_le ok_le se_int (se_callB ok_len rfl T.b_len PySem.boot_len (sa_cons (sv 0) sa_nil)) (se_globI rfl T.c_MOST_FIGURES)) (sw_and1 (st_truth (se_cal C_all_between (hr.mono (by decide)) rfl (sa_cons (sv 0) (sa_cons se_str (sa_cons se_str sa_nil))))))))
      · refine ss_one ?_
        refine s_ret ?_
        exact se_non
      exact ss_nil
    refine ss_cons ?_ ?_
    · refine s_if ?_ ?_ ?_
      · exact st_w (sw_and (st_cmp (ok_eq hr.units) (se_ix ok_ix (sv 0) se_int (fun _ _ => rfl)) se_str (nomark _)) (sw_and1 (st_cmp (ok_ne hr.units) (sv 0) se_str (nomark _))))
      · refine ss_one ?_
        refine s_ret ?_
        exact se_non
      exact ss_nil
    refine ss_one ?_
    refine s_ret ?_
    exact se_callTy ok_intS rfl T.b_int PyProof.Rows.boot_int (sa_cons (sv 0) sa_nil)) imp_number_of
noncomputable def b__law_cells : DS := (dRet (dV (dComp [none, some 0] (dIRange (dCons (dVar 1) (dCons (dCB pMin (dCons (dCB pLen (dCons (dVar 0) dNil)) (dCons (dOp pPlus (dVar 1) (dVar 2)) dNil))) dNil))) (dName 0) dNoIf (dCal S__law_cell_at (dCons (dVar 1) (dCons (dVar 0) dNil))))))
noncomputable def S__law_cells : DSp := fun ds h Q => ∃ (ns : List Int), ds = [.scr (ns.map .int), .int 0, .int 64] ∧ ns.length ≤ 63 ∧ (∀ x ∈ ns, Builtin.Int.intBits x ≤ 1048576) ∧ ∀ cs : List Int, cs.length ≤ 64 → Q (.lst (cs.map D.int)) h
theorem imp__law_cells : ∀ ds h Q, S__law_cells ds h Q → runD 3 b__law_cells ds h Q := by
  rintro ds h Q ⟨ns, rfl, hl, hb, q⟩
  simp only [runD, b__law_cells, List.map_cons, List.map_nil, List.cons_append, List.nil_append, List.length_cons, List.length_nil, List.replicate, Nat.reduceSub, Nat.reduceAdd, Nat.zero_add, Nat.sub_self]
  simp only [List.length_map, VV]
  have mn : (if (0 + 64 : Int) < (ns.length : Int) then (0 + 64 : Int) else (ns.length : Int)) = ns.length := if_neg (by first | decide | omega)
  rw [mn]
  refine ⟨⟨by decide, by decide, by first | decide | omega, by first | decide | omega⟩, by rw [rangeD_length]; omega, ?_⟩
  rw [rangeD_map, show ((ns.length : Int) - 0).toNat = ns.length by first | decide | omega]
  refine compL_map (fun p a δ h' => h' = h ∧ (∃ o, δ = [o, some (.scr (ns.map D.int))]) ∧ ∃ vs : List Int, a = vs.map D.int ∧ vs.length = p.length) ⟨rfl, ⟨_, rfl⟩, [], rfl, rfl⟩ (fun _ _ _ _ _ => Src.ok_nil) ?_ ?_
  · rintro p y r acc δ h' N e ⟨rfl, ⟨o, rfl⟩, vs, rfl, lv⟩ hN
    obtain ⟨rfl, hy⟩ := range_split e
    simp only [VV]
    refine ⟨ns, p.length, by rw [Int.zero_add], hl, hb, by first | decide | omega, fun r => ?_⟩
    exact hN _ _ _ ⟨rfl, ⟨_, rfl⟩, vs ++ [r], by rw [List.map_append]; rfl, by simp [lv]⟩
  · rintro a δ h' ⟨rfl, _, vs, rfl, lv⟩
    rw [List.length_range] at lv
    exact q vs (by first | decide | omega)
theorem ok__law_cells {f : Addr} {fd : FuncData} (F : Fun K "_law_cells" "_law_cells" s__law_cells f fd) (T : Txt P w K mg) (C__law_cell_at : Cal P w K mg base 1 "_law_cell_at" ["_law_script", "_law_k"] (spD K 2 S__law_cell_at)) : FnOk P w K mg base CX0 2 f fd ["_law_script", "_law_first", "_law_most"] (spD K 3 S__law_cells) :=
  fn_ok (k := 1) (b := b__law_cells) F sc__law_cells (fun cdv A outer s H E hr => by
    refine ss_one ?_
    refine s_ret ?_
    refine se_v ?_
    exact sn_comp rfl (N' := ["_law_k", "_law_script"]) (js := [none, some 0]) ⟨rfl, by decide +kernel, rfl, rfl, rfl⟩ (si_range2 rfl T.b_range (sa_cons (sv 1) (sa_cons (se_callB (ok_min rfl) rfl T.b_min PyProof.Rows.boot_min (sa_cons (se_callB ok_len rfl T.b_len PySem.boot_len (sa_cons (sv 0) sa_nil)) (sa_cons (se_op ok_plus (sv 1) (sv 2)) sa_nil))) sa_nil))) (fun s0 H0 fp => ⟨(sg_name (i := 0) (show (["_law_k", "_law_script"] : List Str).Nodup by decide +kernel) rfl (Or.inl rfl)), sf_nil, (se_cal C__law_cell_at (hr.mono (by decide)) rfl (sa_cons (sv 1) (sa_cons (sv 0) sa_nil)))⟩)) imp__law_cells
noncomputable def b__law_letters : DS := (dSeq (dAsg (dC (.str "")) (dName 1))
    (dSeq (dFor (dISeq (dCal S__law_stream (dCons (dVar 0) (dCons (dOp pMod (dOp pDiv (dVar 0) (dC (.int 7))) (dC (.int 11))) dNil)))) (dName 2) (dAsg (dOp pCatS (dVar 1) (dOp pIx (dC (.str "abcdefghijklmnopqrstuvwxyz")) (dOp pMod (dOp pDiv (dVar 2) (dC (.int 7))) (dC (.int 26))))) (dName 1)))
    (dRet (dVar 1))))
noncomputable def S__law_letters : DSp := fun ds h Q => ∃ (c : Int), ds = [.int c] ∧ ∀ x : Str, TOk x 10 → Q (.str x) h
theorem imp__law_letters : ∀ ds h Q, S__law_letters ds h Q → runD 3 b__law_letters ds h Q := by
  rintro ds h Q ⟨c, rfl, q⟩
  simp only [runD, b__law_letters, List.map_cons, List.map_nil, List.cons_append, List.nil_append, List.length_cons, List.length_nil, List.replicate, Nat.reduceSub, Nat.reduceAdd, Nat.zero_add, Nat.sub_self]
  (try dsimp only); refine seq_intro fun N hN => ?_
  simp only [VV]
  subst hN
  (try dsimp only); refine seq_intro fun N hN => ?_
  simp only [VV]
  refine ⟨by decide, by decide, ?_⟩
  refine ⟨c, (c / 7 % 11).toNat, by rw [show (((c / 7 % 11).toNat : Nat) : Int) = c / 7 % 11 by first | decide | omega], by first | decide | omega, fun rs rl => ?_⟩
  simp only [VV]
  refine forL_map (fun p δ h' => h' = h ∧ ∃ (x : Str) (x2 : Option D), TOk x p.length ∧ δ = [some (.int c), some (.str x), x2]) ⟨rfl, _, _, tk_emp, rfl⟩ (fun _ _ _ _ => Src.ok_nil) ?_ ?_
  · rintro p y r δ h' N1 e ⟨rfl, x, x2, tx, rfl⟩ hN1
    have pl : p.length ≤ 10 := by have := congrArg List.length e; simp at this; omega
    clear hN
    obtain ⟨k, tk, ek⟩ := str_ix (i := y / 7 % 26) tk_abc (by decide) (by first | decide | omega) (by rw [ln_abc]; omega)
    simp only [ek, VV]
    have tl := tx.2
    have tl2 := tk.2
    refine ⟨by decide, by decide, by first | decide | omega, ?_⟩
    exact hN1 _ _ ⟨rfl, _, _, by rw [List.length_append]; exact tx.cat tk, rfl⟩
  · rintro δ h' ⟨rfl, x, x2, tx, rfl⟩
    subst hN
    simp only [VV]
    exact q x (tx.up (by first | decide | omega))
theorem ok__law_letters {f : Addr} {fd : FuncData} (F : Fun K "_law_letters" "_law_letters" s__law_letters f fd) (T : Txt P w K mg) (C__law_stream : Cal P w K mg base 1 "_law_stream" ["_law_cell", "_law_many"] (spD K 2 S__law_stream)) : FnOk P w K mg base CX0 2 f fd ["_law_cell"] (spD K 1 S__law_letters) :=
  fn_ok (k := 1) (b := b__law_letters) F sc__law_letters (fun cdv A outer s H E hr => by
    refine ss_cons ?_ ?_
    · refine s_set (i := 1) ?_ ?_ ?_ ?_
      · exact sc__law_letters.nd
      · exact rfl
      · exact Or.inl rfl
      exact se_str
    refine ss_cons ?_ ?_
    · refine s_for ?_ ?_ ?_ ?_ ?_
      · exact PassesOwn.never
      · exact rfl
      · exact si_seq (se_cal C__law_stream (hr.mono (by decide)) rfl (sa_cons (sv 0) (sa_cons (se_op ok_mod (se_op ok_div (sv 0) se_int) se_int) sa_nil)))
      · exact sg_name (i := 2) sc__law_letters.nd rfl (Or.inl rfl)
      refine ss_one ?_
      refine s_set (i := 1) ?_ ?_ ?_ ?_
      · exact sc__law_letters.nd
      · exact rfl
      · exact Or.inl rfl
      exact se_op ok_catS (sv 1) (se_ix ok_ix se_str (se_op ok_mod (se_op ok_div (sv 2) se_int) se_int) (fun _ _ => rfl))
    refine ss_one ?_
    refine s_ret ?_
    exact sv 1) imp__law_letters
noncomputable def b__law_figures : DS := (dSeq (dAsg (dC (.str "")) (dName 1))
    (dSeq (dFor (dISeq (dCal S__law_stream (dCons (dVar 0) (dCons (dOp pPlus (dC (.int 1)) (dOp pMod (dOp pDiv (dVar 0) (dC (.int 7))) (dOp pIx (dV (dCons (dC (.int 18)) (dCons (dC (.int 22)) dNil))) (dOp pMod (dOp pDiv (dVar 0) (dC (.int 200))) (dC (.int 2)))))) dNil)))) (dName 2) (dAsg (dOp pCatS (dVar 1) (dOp pIx (dC (.str "0123456789")) (dOp pMod (dOp pDiv (dVar 2) (dC (.int 7))) (dC (.int 10))))) (dName 1)))
    (dSeq (dIfS (dTst (dOp (pEq false) (dOp pMod (dOp pDiv (dVar 0) (dC (.int 500))) (dC (.int 3))) (dC (.int 0)))) (dRet (dOp pCatS (dOp pMulS (dC (.str "0")) (dOp pPlus (dC (.int 1)) (dOp pMod (dOp pDiv (dVar 0) (dC (.int 1500))) (dC (.int 2))))) (dSlS (dVar 1) dNoPart (dPart (dOp pMod (dOp pDiv (dVar 0) (dC (.int 3000))) (dC (.int 18))))))) dNext)
    (dRet (dVar 1)))))
noncomputable def S__law_figures : DSp := fun ds h Q => ∃ (c : Int), ds = [.int c] ∧ ∀ x : Str, TOk x 30 → Q (.str x) h
theorem imp__law_figures : ∀ ds h Q, S__law_figures ds h Q → runD 3 b__law_figures ds h Q := by
  rintro ds h Q ⟨c, rfl, q⟩
  simp only [runD, b__law_figures, List.map_cons, List.map_nil, List.cons_append, List.nil_append, List.length_cons, List.length_nil, List.replicate, Nat.reduceSub, Nat.reduceAdd, Nat.zero_add, Nat.sub_self]
  (try dsimp only); refine seq_intro fun N hN => ?_
  simp only [VV]
  subst hN
  (try dsimp only); refine seq_intro fun N hN => ?_
  simp only [VV]
  have pick : ∃ m : Int, atI [D.int 18, D.int 22] (c / 200 % 2) = some (.int m) ∧ 0 < m ∧ m ≤ 22 := by
    obtain e | e : c / 200 % 2 = 0 ∨ c / 200 % 2 = 1 := by first | decide | omega
    · rw [e]; exact ⟨18, rfl, by decide, by decide⟩
    · rw [e]; exact ⟨22, rfl, by decide, by decide⟩
  obtain ⟨m, em, m0, m1⟩ := pick
  refine ⟨by decide, by decide, by decide, ?_⟩
  simp only [em, VV]
  have hb := Int.emod_lt_of_pos (c / 7) m0
  have ha := Int.emod_nonneg (c / 7) (show m ≠ 0 by first | decide | omega)
  refine ⟨m0, ?_⟩
  refine ⟨c, (1 + c / 7 % m).toNat, by rw [show (((1 + c / 7 % m).toNat : Nat) : Int) = 1 + c / 7 % m by first | decide | omega], by first | decide | omega, fun rs rl => ?_⟩
  simp only [VV]
  refine forL_map (fun p δ h' => h' = h ∧ ∃ (x : Str) (x2 : Option D), TOk x p.length ∧ δ = [some (.int c), some (.str x), x2]) ⟨rfl, _, _, tk_emp, rfl⟩ (fun _ _ _ _ => Src.ok_nil) ?_ ?_
  · rintro p y r δ h' N1 e ⟨rfl, x, x2, tx, rfl⟩ hN1
    have pl : p.length ≤ 23 := by have := congrArg List.length e; simp at this; omega
    clear hN
    obtain ⟨k, tk, ek⟩ := str_ix (i := y / 7 % 10) tk_fig (by decide) (by first | decide | omega) (by rw [ln_fig]; omega)
    simp only [ek, VV]
    have tl := tx.2
    have tl2 := tk.2
    refine ⟨by decide, by decide, by first | decide | omega, ?_⟩
    exact hN1 _ _ ⟨rfl, _, _, by rw [List.length_append]; exact tx.cat tk, rfl⟩
  · rintro δ h' ⟨rfl, x, x2, tx, rfl⟩
    have tx : TOk x 23 := tx.up (by first | decide | omega)
    have tc := tx.cut none (some (c / 3000 % 18))
    subst hN
    (try dsimp only); refine seq_intro fun N hN => ?_
    simp only [VV]
    refine ⟨by decide, by decide, ?_⟩
    refine iteB (fun c1 => ?_) (fun c1 => ?_)
    · obtain ⟨z1, z2⟩ := tk_z (1 + c / 1500 % 2).toNat (by first | decide | omega)
      have tl := tc.2
      have zl := z1.2
      refine ⟨by decide, by decide, ⟨by first | decide | omega, by first | decide | omega, by decide, z2⟩, by decide, by decide, by first | decide | omega, by first | decide | omega, ?_⟩
      exact q _ ((z1.cat tc).up (by first | decide | omega))
    · subst hN
      simp only [VV]
      exact q x (tx.up (by first | decide | omega))
theorem ok__law_figures {f : Addr} {fd : FuncData} (F : Fun K "_law_figures" "_law_figures" s__law_figures f fd) (T : Txt P w K mg) (C__law_stream : Cal P w K mg base 1 "_law_stream" ["_law_cell", "_law_many"] (spD K 2 S__law_stream)) : FnOk P w K mg base CX0 2 f fd ["_law_cell"] (spD K 1 S__law_figures) :=
  fn_ok (k := 1) (b := b__law_figures) F sc__law_figures (fun cdv A outer s H E hr => by
    refine ss_cons ?_ ?_
    · refine s_set (i := 1) ?_ ?_ ?_ ?_
      · exact sc__law_figures.nd
      · exact rfl
      · exact Or.inl rfl
      exact se_str
    refine ss_cons ?_ ?_
    · refine s_for ?_ ?_ ?_ ?_ ?_
      · exact PassesOwn.never
      · exact rfl
      · exact si_seq (se_cal C__law_stream (hr.mono (by decide)) rfl (sa_cons (sv 0) (sa_cons (se_op ok_plus se_int (se_op ok_mod (se_op ok_div (sv 0) se_int) (se_ix ok_ix (se_v (sn_lst (sa_cons se_int (sa_cons se_int sa_nil)))) (se_op ok_mod (se_op ok_div (sv 0) se_int) se_int) (fun _ _ => rfl)))) sa_nil)))
      · exact sg_name (i := 2) sc__law_figures.nd rfl (Or.inl rfl)
      refine ss_one ?_
      refine s_set (i := 1) ?_ ?_ ?_ ?_
      · exact sc__law_figures.nd
      · exact rfl
      · exact Or.inl rfl
      exact se_op ok_catS (sv 1) (se_ix ok_ix se_str (se_op ok_mod (se_op ok_div (sv 2) se_int) se_int) (fun _ _ => rfl))
    refine ss_cons ?_ ?_
    · refine s_if ?_ ?_ ?_
      · exact st_cmp (ok_eq hr.units) (se_op ok_mod (se_op ok_div (sv 0) se_int) se_int) se_int (nomark _)
      · refine ss_one ?_
        refine s_ret ?_
        exact se_op ok_catS (se_op ok_mulS se_str (se_op ok_plus se_int (se_op ok_mod (se_op ok_div (sv 0) se_int) se_int))) (se_slS (sv 1) so_none (so_some (se_op ok_mod (se_op ok_div (sv 0) se_int) se_int)))
      exact ss_nil
    refine ss_one ?_
    refine s_ret ?_
    exact sv 1) imp__law_figures
noncomputable def b__law_text : DS := (dSeq (dIfS (dTst (dOp (pEq false) (dOp pMod (dVar 0) (dC (.int 7))) (dC (.int 0)))) (dSeq (dAsg (dV (dStrs ["function", "call", "dye", "wash", "if", "to", "return", "back", "here"])) (dName 1))
    (dSeq (dAsg (dOp pIx (dVar 1) (dOp pMod (dOp pDiv (dVar 0) (dC (.int 7))) (dC (.int 9)))) (dName 2))
    (dRet (dOp pIx (dV (dCons (dVar 2) (dCons (dOp pCatS (dVar 2) (dC (.str "s"))) (dCons (dSlS (dVar 2) (dPart (dC (.int 1))) dNoPart) (dCons (dSlS (dVar 2) dNoPart (dPart (dC (.int 1)))) (dCons (dVar 2) dNil)))))) (dOp pMod (dOp pDiv (dVar 0) (dC (.int 63))) (dC (.int 5))))))) dNext)
    (dSeq (dAsg (dCal S__law_letters (dCons (dVar 0) dNil)) (dName 3))
    (dSeq (dAsg (dOp (pEq false) (dOp pMod (dOp pDiv (dVar 0) (dC (.int 77))) (dC (.int 3))) (dC (.int 0))) (dName 4))
    (dSeq (dIfS (dTst (dOp pGt (dOp pMod (dVar 0) (dC (.int 7))) (dC (.int 3)))) (dSeq (dAsg (dCal S__law_figures (dCons (dVar 0) dNil)) (dName 3))
    (dAsg (dOp (pEq false) (dOp pMod (dOp pDiv (dVar 0) (dC (.int 13))) (dC (.int 6))) (dC (.int 0))) (dName 4))) dNext)
    (dSeq (dIfS (dTr (dVar 4)) (dSeq (dAsg (dOp pMod (dOp pDiv (dVar 0) (dC (.int 231))) (dOp pPlus (dCB pLen (dCons (dVar 3) dNil)) (dC (.int 1)))) (dName 5))
    (dSeq (dAsg (dC (.str "ABCXYZ0123456789 _-+=.,;:!\n")) (dName 6))
    (dRet (dOp pCatS (dOp pCatS (dSlS (dVar 3) dNoPart (dPart (dVar 5))) (dOp pIx (dVar 6) (dOp pMod (dOp pDiv (dVar 0) (dC (.int 3000))) (dCB pLen (dCons (dVar 6) dNil))))) (dSlS (dVar 3) (dPart (dVar 5)) dNoPart))))) dNext)
    (dRet (dVar 3)))))))
noncomputable def S__law_text : DSp := fun ds h Q => ∃ (c : Int), ds = [.int c] ∧ ∀ x : Str, TOk x 100 → Q (.str x) h
theorem imp__law_text : ∀ ds h Q, S__law_text ds h Q → runD 7 b__law_text ds h Q := by
  rintro ds h Q ⟨c, rfl, q⟩
  simp only [runD, b__law_text, List.map_cons, List.map_nil, List.cons_append, List.nil_append, List.length_cons, List.length_nil, List.replicate, Nat.reduceSub, Nat.reduceAdd, Nat.zero_add, Nat.sub_self]
  (try dsimp only); refine seq_intro fun N hN => ?_
  simp only [VV]
  refine ⟨by decide, ?_⟩
  refine iteB (fun c1 => ?_) (fun c1 => ?_)
  · (try dsimp only); refine seq_intro fun N2 hN2 => ?_
    simp only [VV]
    subst hN2
    (try dsimp only); refine seq_intro fun N2 hN2 => ?_
    have pick : ∃ w : Str, atI [D.str (Str.ofString "function"), D.str (Str.ofString "call"), D.str (Str.ofString "dye"), D.str (Str.ofString "wash"), D.str (Str.ofString "if"), D.str (Str.ofString "to"), D.str (Str.ofString "return"), D.str (Str.ofString "back"), D.str (Str.ofString "here")] (c / 7 % 9) = some (.str w) ∧ TOk w 8 := by
      have hl : (c / 7 % 9).toNat < kept.length := by show _ < 9; omega
      refine ⟨kept[(c / 7 % 9).toNat], ?_, tk_kept _ (List.getElem_mem hl)⟩
      show atI (kept.map D.str) (c / 7 % 9) = _
      rw [atI_of (by first | decide | omega), List.getElem?_map, List.getElem?_eq_getElem hl]; rfl
    obtain ⟨w, ew, tw⟩ := pick
    simp only [ew, VV]
    refine ⟨by decide, by decide, ?_⟩
    have t1 := tw.cat tk_s
    have t2 := tw.cut (some 1) none
    have t3 := tw.cut none (some 1)
    have l0 := tw.2
    have l2 := t2.2
    have l3 := t3.2
    have l4 := tk_s.2
    subst hN2
    simp only [VV]
    refine ⟨by first | decide | omega, by first | decide | omega, by first | decide | omega, by decide, by decide, ?_⟩
    have pick : ∃ y : Str, atI [D.str w, D.str (w ++ Str.ofString "s"), D.str (slS w (some 1) none), D.str (slS w none (some 1)), D.str w] (c / 63 % 5) = some (.str y) ∧ TOk y 100 := by
      obtain e | e | e | e | e : c / 63 % 5 = 0 ∨ c / 63 % 5 = 1 ∨ c / 63 % 5 = 2 ∨ c / 63 % 5 = 3 ∨ c / 63 % 5 = 4 := by first | decide | omega
      · rw [e]; exact ⟨w, rfl, tw.up (by decide)⟩
      · rw [e]; exact ⟨_, rfl, t1.up (by decide)⟩
      · rw [e]; exact ⟨_, rfl, t2.up (by decide)⟩
      · rw [e]; exact ⟨_, rfl, t3.up (by decide)⟩
      · rw [e]; exact ⟨w, rfl, tw.up (by decide)⟩
    obtain ⟨y, ey, ty⟩ := pick
    simp only [ey, VV]
    exact q y ty
  subst hN
  (try dsimp only); refine seq_intro fun N hN => ?_
  simp only [VV]
  refine ⟨c, rfl, fun x0 t0 => ?_⟩
  subst hN
  (try dsimp only); refine seq_intro fun N hN => ?_
  simp only [VV]
  refine ⟨by decide, by decide, ?_⟩
  generalize (c / 77 % 3 == 0) = b0
  subst hN
  (try dsimp only); refine seq_intro fun N hN => ?_
  simp only [VV]
  refine ⟨by decide, ?_⟩
  have key : ∀ (x : Str) (b : Bool), TOk x 30 → N [some (.int c), none, none, some (.str x), some (.bl b), none, none] h := fun x b tx => by
    have ln : ∀ h : Hh, lenD h (.str x) = some x.length := fun h => lenD_str tx (by decide)
    have ls : ∀ h : Hh, lenD h (.str (Str.ofString "ABCXYZ0123456789 _-+=.,;:!\n")) = some 27 := fun h => by rw [lenD_str tk_sgn (by decide), ln_sgn]
    subst hN
    (try dsimp only); refine seq_intro fun N hN => ?_
    simp only [VV]
    refine iteB (fun c2 => ?_) (fun c2 => ?_)
    · (try dsimp only); refine seq_intro fun N2 hN2 => ?_
      simp only [ln, VV]
      refine ⟨by decide, by first | decide | omega, ?_⟩
      generalize c / 231 % ((x.length : Int) + 1) = at0
      subst hN2
      (try dsimp only); refine seq_intro fun N2 hN2 => ?_
      simp only [VV]
      subst hN2
      obtain ⟨k, tk, ek⟩ := str_ix (i := c / 3000 % 27) tk_sgn (by decide) (by first | decide | omega) (by rw [ln_sgn]; omega)
      have t2 := tx.cut none (some at0)
      have t3 := tx.cut (some at0) none
      have l2 := t2.2
      have l3 := t3.2
      have l4 := tk.2
      have t5 := t2.cat tk
      have l5 := t5.2
      have ek' : ixD h (.str (Str.ofString "ABCXYZ0123456789 _-+=.,;:!\n")) (.int (c / 3000 % ((27 : Nat) : Int))) = some (.str ⟨#[k]⟩) := ek h
      simp only [ls, ek', VV]
      refine ⟨by first | decide | omega, by decide, by decide, by first | decide | omega, by first | decide | omega, by first | decide | omega, ?_⟩
      exact q _ ((t5.cat t3).up (by decide))
    · subst hN
      simp only [VV]
      exact q x (tx.up (by decide))
  refine iteB (fun c2 => ?_) (fun c2 => key x0 b0 (t0.up (by decide)))
  (try dsimp only); refine seq_intro fun N2 hN2 => ?_
  simp only [VV]
  refine ⟨c, rfl, fun x1 t1 => ?_⟩
  subst hN2
  simp only [VV]
  refine ⟨by decide, by decide, ?_⟩
  exact key x1 _ t1
theorem ok__law_text {f : Addr} {fd : FuncData} (F : Fun K "_law_text" "_law_text" s__law_text f fd) (T : Txt P w K mg) (C__law_letters : Cal P w K mg base 2 "_law_letters" ["_law_cell"] (spD K 1 S__law_letters)) (C__law_figures : Cal P w K mg base 2 "_law_figures" ["_law_cell"] (spD K 1 S__law_figures)) : FnOk P w K mg base CX0 3 f fd ["_law_cell"] (spD K 1 S__law_text) :=
  fn_ok (k := 2) (b := b__law_text) F sc__law_text (fun cdv A outer s H E hr => by
    refine ss_cons ?_ ?_
    · refine s_if ?_ ?_ ?_
      · exact st_cmp (ok_eq hr.units) (se_op ok_mod (sv 0) se_int) se_int (nomark _)
      · refine ss_cons ?_ ?_
        · refine s_set (i := 1) ?_ ?_ ?_ ?_
          · exact sc__law_text.nd
          · exact rfl
          · exact Or.inl rfl
          refine se_v ?_
          exact sn_strs ["function", "call", "dye", "wash", "if", "to", "return", "back", "here"]
        refine ss_cons ?_ ?_
        · refine s_set (i := 2) ?_ ?_ ?_ ?_
          · exact sc__law_text.nd
          · exact rfl
          · exact Or.inl rfl
          exact se_ix ok_ix (sv 1) (se_op ok_mod (se_op ok_div (sv 0) se_int) se_int) (fun _ _ => rfl)
        refine ss_one ?_
        refine s_ret ?_
        exact se_ix ok_ix (se_v (sn_lst (sa_cons (sv 2) (sa_cons (se_op ok_catS (sv 2) se_str) (sa_cons (se_slS (sv 2) (so_some se_int) so_none) (sa_cons (se_slS (sv 2) so_none (so_some se_int)) (sa_cons (sv 2) sa_nil))))))) (se_op ok_mod (se_op ok_div (sv 0) se_int) se_int) (fun _ _ => rfl)
      exact ss_nil
    refine ss_cons ?_ ?_
    · refine s_set (i := 3) ?_ ?_ ?_ ?_
      · exact sc__law_text.nd
      · exact rfl
      · exact Or.inl rfl
      exact se_cal C__law_letters (hr.mono (by decide)) rfl (sa_cons (sv 0) sa_nil)
    refine ss_cons ?_ ?_
    · refine s_set (i := 4) ?_ ?_ ?_ ?_
      · exact sc__law_text.nd
      · exact rfl
      · exact Or.inl rfl
      exact se_cmp (ok_eq hr.units) (se_op ok_mod (se_op ok_div (sv 0) se_int) se_int) se_int (nomark _)
    refine ss_cons ?_ ?_
    · refine s_if ?_ ?_ ?_
      · exact st_cmp ok_gt (se_op ok_mod (sv 0) se_int) se_int (nomark _)
      · refine ss_cons ?_ ?_
        · refine s_set (i := 3) ?_ ?_ ?_ ?_
          · exact sc__law_text.nd
          · exact rfl
          · exact Or.inl rfl
          exact se_cal C__law_figures (hr.mono (by decide)) rfl (sa_cons (sv 0) sa_nil)
        refine ss_one ?_
        refine s_set (i := 4) ?_ ?_ ?_ ?_
        · exact sc__law_text.nd
        · exact rfl
        · exact Or.inl rfl
        exact se_cmp (ok_eq hr.units) (se_op ok_mod (se_op ok_div (sv 0) se_int) se_int) se_int (nomark _)
      exact ss_nil
    refine ss_cons ?_ ?_
    · refine s_if ?_ ?_ ?_
      · exact st_truth (sv 4)
      · refine ss_cons ?_ ?_
        · refine s_set (i := 5) ?_ ?_ ?_ ?_
          · exact sc__law_text.nd
          · exact rfl
          · exact Or.inl rfl
          exact se_op ok_mod (se_op ok_div (sv 0) se_int) (se_op ok_plus (se_callB ok_len rfl T.b_len PySem.boot_len (sa_cons (sv 3) sa_nil)) se_int)
        refine ss_cons ?_ ?_
        · refine s_set (i := 6) ?_ ?_ ?_ ?_
          · exact sc__law_text.nd
          · exact rfl
          · exact Or.inl rfl
          exact se_str
        refine ss_one ?_
        refine s_ret ?_
        exact se_op ok_catS (se_op ok_catS (se_slS (sv 3) so_none (so_some (sv 5))) (se_ix ok_ix (sv 6) (se_op ok_mod (se_op ok_div (sv 0) se_int) (se_callB ok_len rfl T.b_len PySem.boot_len (sa_cons (sv 6) sa_nil))) (fun _ _ => rfl))) (se_slS (sv 3) (so_some (sv 5)) so_none)
      exact ss_nil
    refine ss_one ?_
    refine s_ret ?_
    exact sv 3) imp__law_text
noncomputable def b__law_same : DS := (dSeq (dAsg (dCal S_is_name (dCons (dVar 0) dNil)) (dName 1))
    (dSeq (dAsg (dCal S_number_of (dCons (dVar 0) dNil)) (dName 2))
    (dSeq (dIfS (dOr (dNot (dTr (dIsinst "bool" (dVar 1)))) (dTst (dOp (pEq true) (dVar 1) (dCal S__law_is_name (dCons (dVar 0) dNil))))) (dRet (dC (.bl false))) dNext)
    (dSeq (dIfS (dTst (dOp (pIs false) (dCal S__law_number (dCons (dVar 0) dNil)) (dC .non))) (dRet (dOp (pIs false) (dVar 2) (dC .non))) dNext)
    (dRet (dAndV (dIsinst "int" (dVar 2)) (dAndV (dNotV (dIsinst "bool" (dVar 2))) (dOp (pEq false) (dVar 2) (dCal S__law_number (dCons (dVar 0) dNil))))))))))
noncomputable def S__law_same : DSp := fun ds h Q => ∃ (x : Str) (n : Nat), ds = [.str x] ∧ TOk x n ∧ n ≤ 10000 ∧ Q (.bl true) h
theorem imp__law_same : ∀ ds h Q, S__law_same ds h Q → runD 3 b__law_same ds h Q := by
  rintro ds h Q ⟨x, n, rfl, hx, hn, q⟩
  simp only [runD, b__law_same, List.map_cons, List.map_nil, List.cons_append, List.nil_append, List.length_cons, List.length_nil, List.replicate, Nat.reduceSub, Nat.reduceAdd, Nat.zero_add, Nat.sub_self]
  (try dsimp only); refine seq_intro fun N hN => ?_
  simp only [VV]
  refine ⟨x, n, rfl, hx, hn, ?_⟩
  subst hN
  (try dsimp only); refine seq_intro fun N hN => ?_
  simp only [VV]
  refine ⟨x, n, rfl, hx, hn, ?_⟩
  subst hN
  (try dsimp only); refine seq_intro fun N hN => ?_
  simp only [VV]
  refine ⟨x, n, rfl, hx, hn, ?_⟩
  simp only [beq_self_eq_true, VV]
  subst hN
  (try dsimp only); refine seq_intro fun N hN => ?_
  simp only [VV]
  refine ⟨x, n, rfl, hx, hn, ?_⟩
  cases w : numO x with
  | none =>
    simp only [nuD, VV]
    exact q
  | some m =>
    simp only [nuD, VV]
    subst hN
    simp only [VV]
    refine ⟨x, n, rfl, hx, hn, ?_⟩
    rw [w]
    simp only [nuD, beq_self_eq_true, VV]
    exact q
theorem ok__law_same {f : Addr} {fd : FuncData} (F : Fun K "_law_same" "_law_same" s__law_same f fd) (T : Txt P w K mg) (C_is_name : Cal P w K mg base 2 "is_name" ["text"] (spD K 1 S_is_name)) (C_number_of : Cal P w K mg base 2 "number_of" ["text"] (spD K 1 S_number_of)) (C__law_is_name : Cal P w K mg base 1 "_law_is_name" ["_law_text_here"] (spD K 1 S__law_is_name)) (C__law_number : Cal P w K mg base 1 "_law_number" ["_law_text_here"] (spD K 1 S__law_number)) : FnOk P w K mg base CX0 3 f fd ["_law_text_here"] (spD K 1 S__law_same) :=
  fn_ok (k := 2) (b := b__law_same) F sc__law_same (fun cdv A outer s H E hr => by
    refine ss_cons ?_ ?_
    · refine s_set (i := 1) ?_ ?_ ?_ ?_
      · exact sc__law_same.nd
      · exact rfl
      · exact Or.inl rfl
      exact se_cal C_is_name (hr.mono (by decide)) rfl (sa_cons (sv 0) sa_nil)
    refine ss_cons ?_ ?_
    · refine s_set (i := 2) ?_ ?_ ?_ ?_
      · exact sc__law_same.nd
      · exact rfl
      · exact Or.inl rfl
      exact se_cal C_number_of (hr.mono (by decide)) rfl (sa_cons (sv 0) sa_nil)
    refine ss_cons ?_ ?_
    · refine s_if ?_ ?_ ?_
      · exact st_w (sw_or (st_not (st_truth (se_isinst (by decide) rfl T.b_isinstance (sv 1) (pe_bltn (v := .ty "bool") rfl T.b_bool PyProof.Rows.boot_bool rfl)))) (sw_or1 (st_cmp (ok_ne hr.units) (sv 1) (se_cal C__law_is_name (hr.mono (by decide)) rfl (sa_cons (sv 0) sa_nil)) (nomark _))))
      · refine ss_one ?_
        refine s_ret ?_
        exact se_bl
      exact ss_nil
    refine ss_cons ?_ ?_
    · refine s_if ?_ ?_ ?_
      · exact st_cmp ok_is (se_cal C__law_number (hr.mono (by decide)) rfl (sa_cons (sv 0) sa_nil)) se_non (nomark _)
      · refine ss_one ?_
        refine s_ret ?_
        exact se_cmp ok_is (sv 2) se_non (nomark _)
      exact ss_nil
    refine ss_one ?_
    refine s_ret ?_
    exact se_and (se_isinst (by decide) rfl T.b_isinstance (sv 2) (pe_bltn (v := .ty "int") rfl T.b_int PyProof.Rows.boot_int rfl)) (se_and (se_not (se_isinst (by decide) rfl T.b_isinstance (sv 2) (pe_bltn (v := .ty "bool") rfl T.b_bool PyProof.Rows.boot_bool rfl))) (se_one (se_cmp (ok_eq hr.units) (sv 2) (se_cal C__law_number (hr.mono (by decide)) rfl (sa_cons (sv 0) sa_nil)) (nomark _))))) imp__law_same
noncomputable def b_law : DS := (dSeq (dAsg (dV (dStrs ["", "0", "+1", "1_0", " 1", "1 ", "01", "00", "-0", "-1", "1\n", "a\n", " a"])) (dName 1))
    (dSeq (dAsg (dOp pPlus (dVar 1) (dV (dComp [none] (dISeq (dCal S__law_cells (dCons (dVar 0) (dCons (dC (.int 0)) (dCons (dC (.int 64)) dNil))))) (dName 0) dNoIf (dCal S__law_text (dCons (dVar 0) dNil))))) (dName 1))
    (dSeq (dFor (dISeq (dVar 1)) (dName 2) (dIfS (dNot (dTr (dCal S__law_same (dCons (dVar 2) dNil)))) (dRet (dC (.bl false))) dNext))
    (dSeq (dFor (dIRev (dCons (dVar 1) dNil)) (dName 2) (dIfS (dNot (dTr (dCal S__law_same (dCons (dVar 2) dNil)))) (dRet (dC (.bl false))) dNext))
    (dRet (dC (.bl true)))))))
noncomputable def S_law : DSp := runD 3 b_law
theorem imp_law : ∀ ds h Q, S_law ds h Q → runD 3 b_law ds h Q := fun _ _ _ h => h
noncomputable def told13 : List Str := ["", "0", "+1", "1_0", " 1", "1 ", "01", "00", "-0", "-1", "1\n", "a\n", " a"]
theorem tk_13 : ∀ w ∈ told13, TOk w 100 := by decide +kernel
theorem law_true (ns : List Int) (hl : ns.length ≤ 63) (hb : ∀ x ∈ ns, Builtin.Int.intBits x ≤ 1048576) : S_law [.scr (ns.map D.int)] [] (fun v _ => v = .bl true) := by
  unfold S_law
  simp only [runD, b_law, List.map_cons, List.map_nil, List.cons_append, List.nil_append, List.length_cons, List.length_nil, List.replicate, Nat.reduceSub, Nat.reduceAdd, Nat.zero_add, Nat.sub_self]
  (try dsimp only); refine seq_intro fun N hN => ?_
  simp only [VV]
  subst hN
  (try dsimp only); refine seq_intro fun N hN => ?_
  simp only [VV]
  refine ⟨ns, rfl, hl, hb, fun cs cl => ?_⟩
  simp only [List.length_map, VV]
  refine ⟨by first | decide | omega, ?_⟩
  refine compL_map (fun p a δ h' => h' = [] ∧ (∃ o, δ = [o]) ∧ ∃ ts : List Str, a = ts.map D.str ∧ ts.length = p.length ∧ ∀ t ∈ ts, TOk t 100) ⟨rfl, ⟨_, rfl⟩, [], rfl, rfl, (fun _ z => nomatch z)⟩ (fun _ _ _ _ _ => Src.ok_nil) ?_ ?_
  · rintro p y r acc δ h' N e ⟨rfl, ⟨o, rfl⟩, ts, rfl, lt, ht⟩ hN
    simp only [VV]
    refine ⟨y, rfl, fun x tx => ?_⟩
    refine hN _ _ _ ⟨rfl, ⟨_, rfl⟩, ts ++ [x], by rw [List.map_append]; rfl, by simp [lt], fun t h1 => ?_⟩
    rcases List.mem_append.mp h1 with z | z
    · exact ht t z
    · rw [List.mem_singleton.mp z]; exact tx
  rintro a δ h' ⟨rfl, _, ts, rfl, lt, ht⟩
  simp only [List.length_map, VV]
  refine ⟨by first | decide | omega, ?_⟩
  show N [some (.scr (ns.map D.int)), some (.lst (told13.map D.str ++ ts.map D.str)), none] []
  rw [← List.map_append]
  have tu : ∀ t ∈ told13 ++ ts, TOk t 100 := fun t h1 => by
    rcases List.mem_append.mp h1 with z | z
    · exact tk_13 t z
    · exact ht t z
  generalize told13 ++ ts = us at tu
  subst hN
  (try dsimp only); refine seq_intro fun N hN => ?_
  simp only [VV]
  refine forL_map (fun p δ h' => h' = [] ∧ ∃ x2, δ = [some (.scr (ns.map D.int)), some (.lst (us.map D.str)), x2]) ⟨rfl, _, rfl⟩ (fun _ _ _ _ => Src.ok_nil) ?_ ?_
  · rintro p y r δ h' N1 e ⟨rfl, x2, rfl⟩ hN1
    clear hN
    simp only [VV]
    refine ⟨y, 100, rfl, tu y (by rw [e]; simp), by decide, ?_⟩
    simp only [VV]
    exact hN1 _ _ ⟨rfl, _, rfl⟩
  rintro δ h' ⟨rfl, x2, rfl⟩
  subst hN
  (try dsimp only); refine seq_intro fun N hN => ?_
  simp only [VV]
  rw [← List.map_reverse]
  refine forL_map (fun p δ h' => h' = [] ∧ ∃ x2, δ = [some (.scr (ns.map D.int)), some (.lst (us.map D.str)), x2]) ⟨rfl, _, rfl⟩ (fun _ _ _ _ => Src.ok_nil) ?_ ?_
  · rintro p y r δ h' N1 e ⟨rfl, x2, rfl⟩ hN1
    clear hN
    simp only [VV]
    refine ⟨y, 100, rfl, tu y (List.mem_reverse.mp (by rw [e]; simp)), by decide, ?_⟩
    simp only [VV]
    exact hN1 _ _ ⟨rfl, _, rfl⟩
  rintro δ h' ⟨rfl, x2, rfl⟩
  subst hN
  simp only [VV]
theorem ok_law {f : Addr} {fd : FuncData} (F : Fun K "law" "law" s_law f fd) (T : Txt P w K mg) (C__law_cells : Cal P w K mg base 2 "_law_cells" ["_law_script", "_law_first", "_law_most"] (spD K 3 S__law_cells)) (C__law_text : Cal P w K mg base 3 "_law_text" ["_law_cell"] (spD K 1 S__law_text)) (C__law_same : Cal P w K mg base 3 "_law_same" ["_law_text_here"] (spD K 1 S__law_same)) : FnOk P w K mg base CX0 4 f fd ["_law_script"] (spD K 1 S_law) :=
  fn_ok (k := 3) (b := b_law) F sc_law (fun cdv A outer s H E hr => by
    refine ss_cons ?_ ?_
    · refine s_set (i := 1) ?_ ?_ ?_ ?_
      · exact sc_law.nd
      · exact rfl
      · exact Or.inl rfl
      refine se_v ?_
      exact sn_strs ["", "0", "+1", "1_0", " 1", "1 ", "01", "00", "-0", "-1", "1\n", "a\n", " a"]
    refine ss_cons ?_ ?_
    · refine s_set (i := 1) ?_ ?_ ?_ ?_
      · exact sc_law.nd
      · exact rfl
      · exact Or.inl rfl
      exact se_op ok_plus (sv 1) (se_v (sn_comp rfl (N' := ["_law_cell"]) (js := [none]) ⟨rfl, by decide +kernel, rfl, rfl, rfl⟩ (si_seq (se_cal C__law_cells (hr.mono (by decide)) rfl (sa_cons (sv 0) (sa_cons se_int (sa_cons se_int sa_nil))))) (fun s0 H0 fp => ⟨(sg_name (i := 0) (show (["_law_cell"] : List Str).Nodup by decide +kernel) rfl (Or.inl rfl)), sf_nil, (se_cal C__law_text (hr.mono (by decide)) rfl (sa_cons (sv 0) sa_nil))⟩)))
    refine ss_cons ?_ ?_
    · refine s_for ?_ ?_ ?_ ?_ ?_
      · exact PassesOwn.never
      · exact rfl
      · exact si_seq (sv 1)
      · exact sg_name (i := 2) sc_law.nd rfl (Or.inl rfl)
      refine ss_one ?_
      refine s_if ?_ ?_ ?_
      · exact st_not (st_truth (se_cal C__law_same (hr.mono (by decide)) rfl (sa_cons (sv 2) sa_nil)))
      · refine ss_one ?_
        refine s_ret ?_
        exact se_bl
      exact ss_nil
    refine ss_cons ?_ ?_
    · refine s_for ?_ ?_ ?_ ?_ ?_
      · exact PassesOwn.never
      · exact rfl
      · exact si_rev rfl T.b_reversed (sa_cons (sv 1) sa_nil)
      · exact sg_name (i := 2) sc_law.nd rfl (Or.inl rfl)
      refine ss_one ?_
      refine s_if ?_ ?_ ?_
      · exact st_not (st_truth (se_cal C__law_same (hr.mono (by decide)) rfl (sa_cons (sv 2) sa_nil)))
      · refine ss_one ?_
        refine s_ret ?_
        exact se_bl
      exact ss_nil
    refine ss_one ?_
    refine s_ret ?_
    exact se_bl) imp_law
end
theorem len_s {α : Type} {n : Nat} {us : List α} (h : us.length = n + 1) : ∃ a t, us = a :: t ∧ t.length = n := by
  cases us with
  | nil => cases h
  | cons a t => exact ⟨a, t, rfl, Nat.succ.inj h⟩
theorem len_z {α : Type} {us : List α} (h : us.length = 0) : us = [] := List.length_eq_zero_iff.mp h
theorem ln1 {F : FuncData} {ps : List Str} {us : List Value} (h : us.length = 1) (k : ∀ a, bindArgs F ⟨[a], []⟩ = pure (ps.zip [a])) : bindArgs F ⟨us, []⟩ = pure (ps.zip us) := by
  obtain ⟨a, us1, rfl, h1⟩ := len_s h
  cases len_z h1
  exact k a
theorem ln2 {F : FuncData} {ps : List Str} {us : List Value} (h : us.length = 2) (k : ∀ a b, bindArgs F ⟨[a, b], []⟩ = pure (ps.zip [a, b])) : bindArgs F ⟨us, []⟩ = pure (ps.zip us) := by
  obtain ⟨a, us1, rfl, h1⟩ := len_s h
  obtain ⟨b, us2, rfl, h2⟩ := len_s h1
  cases len_z h2
  exact k a b
theorem ln3 {F : FuncData} {ps : List Str} {us : List Value} (h : us.length = 3) (k : ∀ a b c, bindArgs F ⟨[a, b, c], []⟩ = pure (ps.zip [a, b, c])) : bindArgs F ⟨us, []⟩ = pure (ps.zip us) := by
  obtain ⟨a, us1, rfl, h1⟩ := len_s h
  obtain ⟨b, us2, rfl, h2⟩ := len_s h1
  obtain ⟨c, us3, rfl, h3⟩ := len_s h2
  cases len_z h3
  exact k a b c
theorem all_mk {l : PySem.W.OpenLaw} {w : World} {K : PySem.W.Frag} {h : Heap} {mg : Str → Option Value} {fa a_is_name a_number_of a_all_between a__law_cell_at a__law_cells a__law_stream a__law_letters a__law_figures a__law_text a__law_is_name a__law_number a__law_same a_law : Addr} (X : K.In h) (G : h.Ns mainGlobals mg) (hfa : mg "law" = some (.ref fa))
    {od_is_name an_is_name : Option Addr} {sl_is_name : Array (Option Value)} {oc_is_name kV_is_name dc_is_name pm_is_name cd_is_name ct_is_name : Value}
    {od_number_of an_number_of : Option Addr} {sl_number_of : Array (Option Value)} {oc_number_of kV_number_of dc_number_of pm_number_of cd_number_of ct_number_of : Value}
    {od_all_between an_all_between : Option Addr} {sl_all_between : Array (Option Value)} {oc_all_between kV_all_between dc_all_between pm_all_between cd_all_between ct_all_between : Value}
    {od__law_cell_at an__law_cell_at : Option Addr} {sl__law_cell_at : Array (Option Value)} {oc__law_cell_at kV__law_cell_at dc__law_cell_at pm__law_cell_at cd__law_cell_at ct__law_cell_at : Value}
    {od__law_cells an__law_cells : Option Addr} {sl__law_cells : Array (Option Value)} {oc__law_cells kV__law_cells dc__law_cells pm__law_cells cd__law_cells ct__law_cells : Value}
    {od__law_stream an__law_stream : Option Addr} {sl__law_stream : Array (Option Value)} {oc__law_stream kV__law_stream dc__law_stream pm__law_stream cd__law_stream ct__law_stream : Value}
    {od__law_letters an__law_letters : Option Addr} {sl__law_letters : Array (Option Value)} {oc__law_letters kV__law_letters dc__law_letters pm__law_letters cd__law_letters ct__law_letters : Value}
    {od__law_figures an__law_figures : Option Addr} {sl__law_figures : Array (Option Value)} {oc__law_figures kV__law_figures dc__law_figures pm__law_figures cd__law_figures ct__law_figures : Value}
    {od__law_text an__law_text : Option Addr} {sl__law_text : Array (Option Value)} {oc__law_text kV__law_text dc__law_text pm__law_text cd__law_text ct__law_text : Value}
    {od__law_is_name an__law_is_name : Option Addr} {sl__law_is_name : Array (Option Value)} {oc__law_is_name kV__law_is_name dc__law_is_name pm__law_is_name cd__law_is_name ct__law_is_name : Value}
    {od__law_number an__law_number : Option Addr} {sl__law_number : Array (Option Value)} {oc__law_number kV__law_number dc__law_number pm__law_number cd__law_number ct__law_number : Value}
    {od__law_same an__law_same : Option Addr} {sl__law_same : Array (Option Value)} {oc__law_same kV__law_same dc__law_same pm__law_same cd__law_same ct__law_same : Value}
    {od_law an_law : Option Addr} {sl_law : Array (Option Value)} {oc_law kV_law dc_law pm_law cd_law ct_law : Value}
    (e_is_name : PySem.W.nsIn K mainGlobals "is_name" = some (some (.ref a_is_name))) (l_is_name : K.lookup a_is_name = some ⟨oc_is_name, od_is_name, .func (PySem.W.fnOf "is_name" "is_name" (defArgs s_is_name) (defBody s_is_name) (defScope s_is_name) .none kV_is_name dc_is_name pm_is_name an_is_name cd_is_name ct_is_name), sl_is_name⟩) (c_is_name : PySem.W.codeIn K cd_is_name "is_name" = true) (k_is_name : PySem.W.keepIn K (.ref a_is_name) = true)
    (e_number_of : PySem.W.nsIn K mainGlobals "number_of" = some (some (.ref a_number_of))) (l_number_of : K.lookup a_number_of = some ⟨oc_number_of, od_number_of, .func (PySem.W.fnOf "number_of" "number_of" (defArgs s_number_of) (defBody s_number_of) (defScope s_number_of) .none kV_number_of dc_number_of pm_number_of an_number_of cd_number_of ct_number_of), sl_number_of⟩) (c_number_of : PySem.W.codeIn K cd_number_of "number_of" = true) (k_number_of : PySem.W.keepIn K (.ref a_number_of) = true)
    (e_all_between : PySem.W.nsIn K mainGlobals "all_between" = some (some (.ref a_all_between))) (l_all_between : K.lookup a_all_between = some ⟨oc_all_between, od_all_between, .func (PySem.W.fnOf "all_between" "all_between" (defArgs s_all_between) (defBody s_all_between) (defScope s_all_between) .none kV_all_between dc_all_between pm_all_between an_all_between cd_all_between ct_all_between), sl_all_between⟩) (c_all_between : PySem.W.codeIn K cd_all_between "all_between" = true) (k_all_between : PySem.W.keepIn K (.ref a_all_between) = true)
    (e__law_cell_at : PySem.W.nsIn K mainGlobals "_law_cell_at" = some (some (.ref a__law_cell_at))) (l__law_cell_at : K.lookup a__law_cell_at = some ⟨oc__law_cell_at, od__law_cell_at, .func (PySem.W.fnOf "_law_cell_at" "_law_cell_at" (defArgs s__law_cell_at) (defBody s__law_cell_at) (defScope s__law_cell_at) .none kV__law_cell_at dc__law_cell_at pm__law_cell_at an__law_cell_at cd__law_cell_at ct__law_cell_at), sl__law_cell_at⟩) (c__law_cell_at : PySem.W.codeIn K cd__law_cell_at "_law_cell_at" = true) (k__law_cell_at : PySem.W.keepIn K (.ref a__law_cell_at) = true)
    (e__law_cells : PySem.W.nsIn K mainGlobals "_law_cells" = some (some (.ref a__law_cells))) (l__law_cells : K.lookup a__law_cells = some ⟨oc__law_cells, od__law_cells, .func (PySem.W.fnOf "_law_cells" "_law_cells" (defArgs s__law_cells) (defBody s__law_cells) (defScope s__law_cells) .none kV__law_cells dc__law_cells pm__law_cells an__law_cells cd__law_cells ct__law_cells), sl__law_cells⟩) (c__law_cells : PySem.W.codeIn K cd__law_cells "_law_cells" = true) (k__law_cells : PySem.W.keepIn K (.ref a__law_cells) = true)
    (e__law_stream : PySem.W.nsIn K mainGlobals "_law_stream" = some (some (.ref a__law_stream))) (l__law_stream : K.lookup a__law_stream = some ⟨oc__law_stream, od__law_stream, .func (PySem.W.fnOf "_law_stream" "_law_stream" (defArgs s__law_stream) (defBody s__law_stream) (defScope s__law_stream) .none kV__law_stream dc__law_stream pm__law_stream an__law_stream cd__law_stream ct__law_stream), sl__law_stream⟩) (c__law_stream : PySem.W.codeIn K cd__law_stream "_law_stream" = true) (k__law_stream : PySem.W.keepIn K (.ref a__law_stream) = true)
    (e__law_letters : PySem.W.nsIn K mainGlobals "_law_letters" = some (some (.ref a__law_letters))) (l__law_letters : K.lookup a__law_letters = some ⟨oc__law_letters, od__law_letters, .func (PySem.W.fnOf "_law_letters" "_law_letters" (defArgs s__law_letters) (defBody s__law_letters) (defScope s__law_letters) .none kV__law_letters dc__law_letters pm__law_letters an__law_letters cd__law_letters ct__law_letters), sl__law_letters⟩) (c__law_letters : PySem.W.codeIn K cd__law_letters "_law_letters" = true) (k__law_letters : PySem.W.keepIn K (.ref a__law_letters) = true)
    (e__law_figures : PySem.W.nsIn K mainGlobals "_law_figures" = some (some (.ref a__law_figures))) (l__law_figures : K.lookup a__law_figures = some ⟨oc__law_figures, od__law_figures, .func (PySem.W.fnOf "_law_figures" "_law_figures" (defArgs s__law_figures) (defBody s__law_figures) (defScope s__law_figures) .none kV__law_figures dc__law_figures pm__law_figures an__law_figures cd__law_figures ct__law_figures), sl__law_figures⟩) (c__law_figures : PySem.W.codeIn K cd__law_figures "_law_figures" = true) (k__law_figures : PySem.W.keepIn K (.ref a__law_figures) = true)
    (e__law_text : PySem.W.nsIn K mainGlobals "_law_text" = some (some (.ref a__law_text))) (l__law_text : K.lookup a__law_text = some ⟨oc__law_text, od__law_text, .func (PySem.W.fnOf "_law_text" "_law_text" (defArgs s__law_text) (defBody s__law_text) (defScope s__law_text) .none kV__law_text dc__law_text pm__law_text an__law_text cd__law_text ct__law_text), sl__law_text⟩) (c__law_text : PySem.W.codeIn K cd__law_text "_law_text" = true) (k__law_text : PySem.W.keepIn K (.ref a__law_text) = true)
    (e__law_is_name : PySem.W.nsIn K mainGlobals "_law_is_name" = some (some (.ref a__law_is_name))) (l__law_is_name : K.lookup a__law_is_name = some ⟨oc__law_is_name, od__law_is_name, .func (PySem.W.fnOf "_law_is_name" "_law_is_name" (defArgs s__law_is_name) (defBody s__law_is_name) (defScope s__law_is_name) .none kV__law_is_name dc__law_is_name pm__law_is_name an__law_is_name cd__law_is_name ct__law_is_name), sl__law_is_name⟩) (c__law_is_name : PySem.W.codeIn K cd__law_is_name "_law_is_name" = true) (k__law_is_name : PySem.W.keepIn K (.ref a__law_is_name) = true)
    (e__law_number : PySem.W.nsIn K mainGlobals "_law_number" = some (some (.ref a__law_number))) (l__law_number : K.lookup a__law_number = some ⟨oc__law_number, od__law_number, .func (PySem.W.fnOf "_law_number" "_law_number" (defArgs s__law_number) (defBody s__law_number) (defScope s__law_number) .none kV__law_number dc__law_number pm__law_number an__law_number cd__law_number ct__law_number), sl__law_number⟩) (c__law_number : PySem.W.codeIn K cd__law_number "_law_number" = true) (k__law_number : PySem.W.keepIn K (.ref a__law_number) = true)
    (e__law_same : PySem.W.nsIn K mainGlobals "_law_same" = some (some (.ref a__law_same))) (l__law_same : K.lookup a__law_same = some ⟨oc__law_same, od__law_same, .func (PySem.W.fnOf "_law_same" "_law_same" (defArgs s__law_same) (defBody s__law_same) (defScope s__law_same) .none kV__law_same dc__law_same pm__law_same an__law_same cd__law_same ct__law_same), sl__law_same⟩) (c__law_same : PySem.W.codeIn K cd__law_same "_law_same" = true) (k__law_same : PySem.W.keepIn K (.ref a__law_same) = true)
    (e_law : PySem.W.nsIn K mainGlobals "law" = some (some (.ref a_law))) (l_law : K.lookup a_law = some ⟨oc_law, od_law, .func (PySem.W.fnOf "law" "law" (defArgs s_law) (defBody s_law) (defScope s_law) .none kV_law dc_law pm_law an_law cd_law ct_law), sl_law⟩) (c_law : PySem.W.codeIn K cd_law "law" = true) (k_law : PySem.W.keepIn K (.ref a_law) = true)
    (z_all : PySem.W.nsIn K mainGlobals "all" = some none)
    (z_bool : PySem.W.nsIn K mainGlobals "bool" = some none)
    (z_int : PySem.W.nsIn K mainGlobals "int" = some none)
    (z_isinstance : PySem.W.nsIn K mainGlobals "isinstance" = some none)
    (z_len : PySem.W.nsIn K mainGlobals "len" = some none)
    (z_min : PySem.W.nsIn K mainGlobals "min" = some none)
    (z_range : PySem.W.nsIn K mainGlobals "range" = some none)
    (z_reversed : PySem.W.nsIn K mainGlobals "reversed" = some none)
    {da_KEPT_WORDS : Addr} {do_KEPT_WORDS : Obj} {dn_KEPT_WORDS : Nat} {dk_KEPT_WORDS_0 dk_KEPT_WORDS_1 dk_KEPT_WORDS_2 dk_KEPT_WORDS_3 dk_KEPT_WORDS_4 dk_KEPT_WORDS_5 dk_KEPT_WORDS_6 dk_KEPT_WORDS_7 dk_KEPT_WORDS_8 : Tok}
    (y_KEPT_WORDS : PySem.W.nsIn K mainGlobals "KEPT_WORDS" = some (some (.ref da_KEPT_WORDS))) (d_KEPT_WORDS : K.lookup da_KEPT_WORDS = some do_KEPT_WORDS) (ds_KEPT_WORDS : do_KEPT_WORDS.data = .seq #[.str "function" dk_KEPT_WORDS_0, .str "call" dk_KEPT_WORDS_1, .str "dye" dk_KEPT_WORDS_2, .str "wash" dk_KEPT_WORDS_3, .str "if" dk_KEPT_WORDS_4, .str "to" dk_KEPT_WORDS_5, .str "return" dk_KEPT_WORDS_6, .str "back" dk_KEPT_WORDS_7, .str "here" dk_KEPT_WORDS_8] dn_KEPT_WORDS) (dz_KEPT_WORDS : do_KEPT_WORDS.cls = .type "tuple")
    {tk_MOST_FIGURES : Tok} (y_MOST_FIGURES : PySem.W.nsIn K mainGlobals "MOST_FIGURES" = some (some (.int 18 tk_MOST_FIGURES)))
    {tk_MOST_SIGNS : Tok} (y_MOST_SIGNS : PySem.W.nsIn K mainGlobals "MOST_SIGNS" = some (some (.int 8 tk_MOST_SIGNS)))
    : ∃ fd : FuncData, (∀ (s : Shared) (v : Value), BindsTo s fd ⟨[v], []⟩ [("_law_script", v)]) ∧ ∀ base : Heap, K.In base → base.Ns mainGlobals mg → FnOk l.prog w K mg base CX0 4 fa fd ["_law_script"] (spD K 1 S_law) := by
  have e := hfa.symm.trans (PySem.W.mg_of X G e_law)
  cases e
  have T : Txt l.prog w K mg := ⟨PySem.W.mg_none_of X G z_all, PySem.W.mg_none_of X G z_bool, PySem.W.mg_none_of X G z_int, PySem.W.mg_none_of X G z_isinstance, PySem.W.mg_none_of X G z_len, PySem.W.mg_none_of X G z_min, PySem.W.mg_none_of X G z_range, PySem.W.mg_none_of X G z_reversed, ⟨_, PySem.W.mg_of X G y_KEPT_WORDS, ⟨_, _, _, d_KEPT_WORDS, dz_KEPT_WORDS, ds_KEPT_WORDS, (show (LE.le (α := Nat) _ _) by simp [PySem.sizeLine]), (.cons ⟨_, rfl⟩ (.cons ⟨_, rfl⟩ (.cons ⟨_, rfl⟩ (.cons ⟨_, rfl⟩ (.cons ⟨_, rfl⟩ (.cons ⟨_, rfl⟩ (.cons ⟨_, rfl⟩ (.cons ⟨_, rfl⟩ (.cons ⟨_, rfl⟩ .nil)))))))))⟩⟩, ⟨_, PySem.W.mg_of X G y_MOST_FIGURES⟩, ⟨_, PySem.W.mg_of X G y_MOST_SIGNS⟩⟩
  have F_is_name := fun_mk (st := s_is_name) l_is_name c_is_name k_is_name
  have F_number_of := fun_mk (st := s_number_of) l_number_of c_number_of k_number_of
  have F_all_between := fun_mk (st := s_all_between) l_all_between c_all_between k_all_between
  have F__law_cell_at := fun_mk (st := s__law_cell_at) l__law_cell_at c__law_cell_at k__law_cell_at
  have F__law_cells := fun_mk (st := s__law_cells) l__law_cells c__law_cells k__law_cells
  have F__law_stream := fun_mk (st := s__law_stream) l__law_stream c__law_stream k__law_stream
  have F__law_letters := fun_mk (st := s__law_letters) l__law_letters c__law_letters k__law_letters
  have F__law_figures := fun_mk (st := s__law_figures) l__law_figures c__law_figures k__law_figures
  have F__law_text := fun_mk (st := s__law_text) l__law_text c__law_text k__law_text
  have F__law_is_name := fun_mk (st := s__law_is_name) l__law_is_name c__law_is_name k__law_is_name
  have F__law_number := fun_mk (st := s__law_number) l__law_number c__law_number k__law_number
  have F__law_same := fun_mk (st := s__law_same) l__law_same c__law_same k__law_same
  have F_law := fun_mk (st := s_law) l_law c_law k_law
  have b_is_name : Binds K (PySem.W.fnOf "is_name" "is_name" (defArgs s_is_name) (defBody s_is_name) (defScope s_is_name) .none kV_is_name dc_is_name pm_is_name an_is_name cd_is_name ct_is_name) ["text"] [] := .all fun us hl => ln1 hl fun _ => rfl
  have b_number_of : Binds K (PySem.W.fnOf "number_of" "number_of" (defArgs s_number_of) (defBody s_number_of) (defScope s_number_of) .none kV_number_of dc_number_of pm_number_of an_number_of cd_number_of ct_number_of) ["text"] [] := .all fun us hl => ln1 hl fun _ => rfl
  have b_all_between : Binds K (PySem.W.fnOf "all_between" "all_between" (defArgs s_all_between) (defBody s_all_between) (defScope s_all_between) .none kV_all_between dc_all_between pm_all_between an_all_between cd_all_between ct_all_between) ["text", "first", "last"] [] := .all fun us hl => ln3 hl fun _ _ _ => rfl
  have b__law_cell_at : Binds K (PySem.W.fnOf "_law_cell_at" "_law_cell_at" (defArgs s__law_cell_at) (defBody s__law_cell_at) (defScope s__law_cell_at) .none kV__law_cell_at dc__law_cell_at pm__law_cell_at an__law_cell_at cd__law_cell_at ct__law_cell_at) ["_law_script", "_law_k"] [] := .all fun us hl => ln2 hl fun _ _ => rfl
  have b__law_cells : Binds K (PySem.W.fnOf "_law_cells" "_law_cells" (defArgs s__law_cells) (defBody s__law_cells) (defScope s__law_cells) .none kV__law_cells dc__law_cells pm__law_cells an__law_cells cd__law_cells ct__law_cells) ["_law_script", "_law_first", "_law_most"] [] := .all fun us hl => ln3 hl fun _ _ _ => rfl
  have b__law_stream : Binds K (PySem.W.fnOf "_law_stream" "_law_stream" (defArgs s__law_stream) (defBody s__law_stream) (defScope s__law_stream) .none kV__law_stream dc__law_stream pm__law_stream an__law_stream cd__law_stream ct__law_stream) ["_law_cell", "_law_many"] [] := .all fun us hl => ln2 hl fun _ _ => rfl
  have b__law_letters : Binds K (PySem.W.fnOf "_law_letters" "_law_letters" (defArgs s__law_letters) (defBody s__law_letters) (defScope s__law_letters) .none kV__law_letters dc__law_letters pm__law_letters an__law_letters cd__law_letters ct__law_letters) ["_law_cell"] [] := .all fun us hl => ln1 hl fun _ => rfl
  have b__law_figures : Binds K (PySem.W.fnOf "_law_figures" "_law_figures" (defArgs s__law_figures) (defBody s__law_figures) (defScope s__law_figures) .none kV__law_figures dc__law_figures pm__law_figures an__law_figures cd__law_figures ct__law_figures) ["_law_cell"] [] := .all fun us hl => ln1 hl fun _ => rfl
  have b__law_text : Binds K (PySem.W.fnOf "_law_text" "_law_text" (defArgs s__law_text) (defBody s__law_text) (defScope s__law_text) .none kV__law_text dc__law_text pm__law_text an__law_text cd__law_text ct__law_text) ["_law_cell"] [] := .all fun us hl => ln1 hl fun _ => rfl
  have b__law_is_name : Binds K (PySem.W.fnOf "_law_is_name" "_law_is_name" (defArgs s__law_is_name) (defBody s__law_is_name) (defScope s__law_is_name) .none kV__law_is_name dc__law_is_name pm__law_is_name an__law_is_name cd__law_is_name ct__law_is_name) ["_law_text_here"] [] := .all fun us hl => ln1 hl fun _ => rfl
  have b__law_number : Binds K (PySem.W.fnOf "_law_number" "_law_number" (defArgs s__law_number) (defBody s__law_number) (defScope s__law_number) .none kV__law_number dc__law_number pm__law_number an__law_number cd__law_number ct__law_number) ["_law_text_here"] [] := .all fun us hl => ln1 hl fun _ => rfl
  have b__law_same : Binds K (PySem.W.fnOf "_law_same" "_law_same" (defArgs s__law_same) (defBody s__law_same) (defScope s__law_same) .none kV__law_same dc__law_same pm__law_same an__law_same cd__law_same ct__law_same) ["_law_text_here"] [] := .all fun us hl => ln1 hl fun _ => rfl
  refine ⟨PySem.W.fnOf "law" "law" (defArgs s_law) (defBody s_law) (defScope s_law) .none kV_law dc_law pm_law an_law cd_law ct_law, fun s v => .of_eq rfl, fun base _ _ => ?_⟩
  have C_all_between : Cal l.prog w K mg base 1 "all_between" ["text", "first", "last"] (spD K 3 S_all_between) := ⟨a_all_between, _, ok_all_between F_all_between T , PySem.W.mg_of X G e_all_between, k_all_between, b_all_between⟩
  have C__law_cell_at : Cal l.prog w K mg base 1 "_law_cell_at" ["_law_script", "_law_k"] (spD K 2 S__law_cell_at) := ⟨a__law_cell_at, _, ok__law_cell_at F__law_cell_at T , PySem.W.mg_of X G e__law_cell_at, k__law_cell_at, b__law_cell_at⟩
  have C__law_stream : Cal l.prog w K mg base 1 "_law_stream" ["_law_cell", "_law_many"] (spD K 2 S__law_stream) := ⟨a__law_stream, _, ok__law_stream F__law_stream T , PySem.W.mg_of X G e__law_stream, k__law_stream, b__law_stream⟩
  have C__law_is_name : Cal l.prog w K mg base 1 "_law_is_name" ["_law_text_here"] (spD K 1 S__law_is_name) := ⟨a__law_is_name, _, ok__law_is_name F__law_is_name T , PySem.W.mg_of X G e__law_is_name, k__law_is_name, b__law_is_name⟩
  have C__law_number : Cal l.prog w K mg base 1 "_law_number" ["_law_text_here"] (spD K 1 S__law_number) := ⟨a__law_number, _, ok__law_number F__law_number T , PySem.W.mg_of X G e__law_number, k__law_number, b__law_number⟩
  have C_is_name : Cal l.prog w K mg base 2 "is_name" ["text"] (spD K 1 S_is_name) := ⟨a_is_name, _, ok_is_name F_is_name T C_all_between, PySem.W.mg_of X G e_is_name, k_is_name, b_is_name⟩
  have C_number_of : Cal l.prog w K mg base 2 "number_of" ["text"] (spD K 1 S_number_of) := ⟨a_number_of, _, ok_number_of F_number_of T C_all_between, PySem.W.mg_of X G e_number_of, k_number_of, b_number_of⟩
  have C__law_cells : Cal l.prog w K mg base 2 "_law_cells" ["_law_script", "_law_first", "_law_most"] (spD K 3 S__law_cells) := ⟨a__law_cells, _, ok__law_cells F__law_cells T C__law_cell_at, PySem.W.mg_of X G e__law_cells, k__law_cells, b__law_cells⟩
  have C__law_letters : Cal l.prog w K mg base 2 "_law_letters" ["_law_cell"] (spD K 1 S__law_letters) := ⟨a__law_letters, _, ok__law_letters F__law_letters T C__law_stream, PySem.W.mg_of X G e__law_letters, k__law_letters, b__law_letters⟩
  have C__law_figures : Cal l.prog w K mg base 2 "_law_figures" ["_law_cell"] (spD K 1 S__law_figures) := ⟨a__law_figures, _, ok__law_figures F__law_figures T C__law_stream, PySem.W.mg_of X G e__law_figures, k__law_figures, b__law_figures⟩
  have C__law_text : Cal l.prog w K mg base 3 "_law_text" ["_law_cell"] (spD K 1 S__law_text) := ⟨a__law_text, _, ok__law_text F__law_text T C__law_letters C__law_figures, PySem.W.mg_of X G e__law_text, k__law_text, b__law_text⟩
  have C__law_same : Cal l.prog w K mg base 3 "_law_same" ["_law_text_here"] (spD K 1 S__law_same) := ⟨a__law_same, _, ok__law_same F__law_same T C_is_name C_number_of C__law_is_name C__law_number, PySem.W.mg_of X G e__law_same, k__law_same, b__law_same⟩
  exact ok_law F_law T C__law_cells C__law_text C__law_same
end K61
open PySem PySem.W PyProof.Rows
set_option maxRecDepth 100000 in
set_option maxHeartbeats 0 in
theorem PySem.Challenge.cw_callmatch_k61_names_and_numbers_holds : PySem.Challenge.rw_callmatch_k61_names_and_numbers.Holds := by
  w_on; o_law; k_head; (case hw => w_witness2)
  k_fill
  refine DL.walkD (l := PySem.Challenge.rw_callmatch_k61_names_and_numbers) (n := 63) (k := 4) (S := K61.S_law) (x := "_law_script") rfl (by decide) rfl ⟨rfl, by decide, by decide⟩ (fun w h Y => PySem.W.kIn_of Y) ?F K61.law_true
  case F =>
    intro w mg fa h KX G hmg
    refine' K61.all_mk KX G hmg ?e_is_name ?l_is_name ?c_is_name ?k_is_name ?e_number_of ?l_number_of ?c_number_of ?k_number_of ?e_all_between ?l_all_between ?c_all_between ?k_all_between ?e__law_cell_at ?l__law_cell_at ?c__law_cell_at ?k__law_cell_at ?e__law_cells ?l__law_cells ?c__law_cells ?k__law_cells ?e__law_stream ?l__law_stream ?c__law_stream ?k__law_stream ?e__law_letters ?l__law_letters ?c__law_letters ?k__law_letters ?e__law_figures ?l__law_figures ?c__law_figures ?k__law_figures ?e__law_text ?l__law_text ?c__law_text ?k__law_text ?e__law_is_name ?l__law_is_name ?c__law_is_name ?k__law_is_name ?e__law_number ?l__law_number ?c__law_number ?k__law_number ?e__law_same ?l__law_same ?c__law_same ?k__law_same ?e_law ?l_law ?c_law ?k_law ?z_all ?z_bool ?z_int ?z_isinstance ?z_len ?z_min ?z_range ?z_reversed ?y_KEPT_WORDS ?d_KEPT_WORDS ?ds_KEPT_WORDS ?dz_KEPT_WORDS ?y_MOST_FIGURES ?y_MOST_SIGNS
    (case e_is_name => k_is)
    (case l_is_name => k_is)
    (case c_is_name => k_is)
    (case k_is_name => k_is)
    (case e_number_of => k_is)
    (case l_number_of => k_is)
    (case c_number_of => k_is)
    (case k_number_of => k_is)
    (case e_all_between => k_is)
    (case l_all_between => k_is)
    (case c_all_between => k_is)
    (case k_all_between => k_is)
    (case e__law_cell_at => k_is)
    (case l__law_cell_at => k_is)
    (case c__law_cell_at => k_is)
    (case k__law_cell_at => k_is)
    (case e__law_cells => k_is)
    (case l__law_cells => k_is)
    (case c__law_cells => k_is)
    (case k__law_cells => k_is)
    (case e__law_stream => k_is)
    (case l__law_stream => k_is)
    (case c__law_stream => k_is)
    (case k__law_stream => k_is)
    (case e__law_letters => k_is)
    (case l__law_letters => k_is)
    (case c__law_letters => k_is)
    (case k__law_letters => k_is)
    (case e__law_figures => k_is)
    (case l__law_figures => k_is)
    (case c__law_figures => k_is)
    (case k__law_figures => k_is)
    (case e__law_text => k_is)
    (case l__law_text => k_is)
    (case c__law_text => k_is)
    (case k__law_text => k_is)
    (case e__law_is_name => k_is)
    (case l__law_is_name => k_is)
    (case c__law_is_name => k_is)
    (case k__law_is_name => k_is)
    (case e__law_number => k_is)
    (case l__law_number => k_is)
    (case c__law_number => k_is)
    (case k__law_number => k_is)
    (case e__law_same => k_is)
    (case l__law_same => k_is)
    (case c__law_same => k_is)
    (case k__law_same => k_is)
    (case e_law => k_is)
    (case l_law => k_is)
    (case c_law => k_is)
    (case k_law => k_is)
    (case z_all => k_is)
    (case z_bool => k_is)
    (case z_int => k_is)
    (case z_isinstance => k_is)
    (case z_len => k_is)
    (case z_min => k_is)
    (case z_range => k_is)
    (case z_reversed => k_is)
    (case y_KEPT_WORDS => k_is)
    (case d_KEPT_WORDS => k_is)
    (case ds_KEPT_WORDS => exact rfl)
    (case dz_KEPT_WORDS => exact rfl)
    (case y_MOST_FIGURES => k_is)
    (case y_MOST_SIGNS => k_is)
#print axioms PySem.Challenge.cw_callmatch_k61_names_and_numbers_holds
