import PyProof.Rows.All
import Wide.All
import OpenK.AllK
import Wide.FinOn
import Lean
import PyProof.EqAt
import PyProof.EqKinds
import PyProof.TupleCall
import PySem.Challenge.RW_doneroom_k15_whole_flat_does_the_same
set_option Elab.async false
set_option bootstrap.genMatcherCode false
set_option linter.all false
set_option maxRecDepth 100000
noncomputable section
/-! THE HAND LAYER, for ints, bools, texts, own classes, LISTS and tuples (index, slices, in, append, pop ..), calls, loops. Paste it whole ahead of your own text; what your proof does not reach may be deleted. -/
namespace L2
open PySem PySem.Spec PyProof.Rows

noncomputable abbrev Key := Sum Int Str
noncomputable def keyIs : Key → Value → Bool
  | .inl k, v => Value.isInt k v
  | .inr x, v => Value.isStrOf x v
noncomputable def keyH (w : World) : Key → Int
  | .inl k => hashInt k
  | .inr x => hashStr w x
theorem keyIs_shape : ∀ {k : Key} {v : Value}, keyIs k v = true → (∃ i t, k = Sum.inl i ∧ v = Value.int i t) ∨ (∃ x t, k = Sum.inr x ∧ v = Value.str x t)
  | .inl i, v, h => by
    obtain ⟨t, e⟩ := Value.isInt_shape (k := i) (v := v) h
    exact .inl ⟨i, t, rfl, e⟩
  | .inr x, v, h => by
    obtain ⟨t, e⟩ := Value.isStrOf_shape (x := x) (v := v) h
    exact .inr ⟨x, t, rfl, e⟩
theorem key_ll (a b : Int) : decide ((Sum.inl a : Key) = Sum.inl b) = (a == b) := by
  by_cases e : a = b
  · subst e; simp
  · have h : ¬ (Sum.inl a : Key) = Sum.inl b := fun q => e (Sum.inl.inj q)
    rw [decide_eq_false h]
    exact (beq_eq_false_iff_ne.mpr e).symm
theorem key_rr (a b : Str) : decide ((Sum.inr a : Key) = Sum.inr b) = decide (a = b) := by
  by_cases e : a = b
  · subst e; simp
  · have h : ¬ (Sum.inr a : Key) = Sum.inr b := fun q => e (Sum.inr.inj q)
    rw [decide_eq_false h, decide_eq_false e]
theorem key_lr (a : Int) (b : Str) : decide ((Sum.inl a : Key) = Sum.inr b) = false := decide_eq_false (fun q => nomatch q)
theorem key_rl (a : Str) (b : Int) : decide ((Sum.inr a : Key) = Sum.inl b) = false := decide_eq_false (fun q => nomatch q)

noncomputable def mixKind (prog : Program) (w : World) : PySem.KeyKind prog w Key where
  is := keyIs
  hash := keyH w
  inj := fun v a b ha hb => by
    rcases keyIs_shape ha with ⟨i, t, rfl, rfl⟩ | ⟨x, t, rfl, rfl⟩
    · rcases keyIs_shape hb with ⟨j, u, rfl, e⟩ | ⟨y, u, rfl, e⟩
      · injection e with e1 _; rw [e1]
      · exact nomatch e
    · rcases keyIs_shape hb with ⟨j, u, rfl, e⟩ | ⟨y, u, rfl, e⟩
      · exact nomatch e
      · injection e with e1 _; rw [e1]
  byValue := fun k v h => by
    rcases keyIs_shape h with ⟨i, t, rfl, rfl⟩ | ⟨x, t, rfl, rfl⟩ <;> rfl
  pyHash := fun hv h => by
    rcases keyIs_shape hv with ⟨i, t, rfl, rfl⟩ | ⟨x, t, rfl, rfl⟩
    · exact wpAny_pyHash_int h
    · exact wpAny_pyHash_str h
  eqBool := fun hu hv h => by
    rcases keyIs_shape hu with ⟨i, t, rfl, rfl⟩ | ⟨x, t, rfl, rfl⟩
    · rcases keyIs_shape hv with ⟨j, u, rfl, rfl⟩ | ⟨y, u, rfl, rfl⟩
      · rw [key_ll] at h; exact wpAny_eqBool_int h
      · rw [key_lr] at h; exact SeqAt.EqAt.int_str i t y u _ _ _ _ h
    · rcases keyIs_shape hv with ⟨j, u, rfl, rfl⟩ | ⟨y, u, rfl, rfl⟩
      · rw [key_rl] at h; exact SeqAt.EqAt.str_int x t j u _ _ _ _ h
      · rw [key_rr] at h; exact wpAny_eqBool_str h
  «strs» := fun k x t v h => by
    rcases keyIs_shape h with ⟨i, u, rfl, e⟩ | ⟨y, u, rfl, e⟩
    · exact nomatch e
    · injection e with e1 _
      subst e1
      cases v <;> rfl

end L2

namespace L2
open PySem PySem.Spec PyProof.Rows

inductive V where
  | non | bl (b : Bool) | int (i : Int) | str (x : Str) | byt (b : Array UInt8) | flt (b : UInt64) | ref (a : Addr) | ty (n : String)
  deriving DecidableEq

noncomputable def RelV : V → Value → Prop
  | .non, u => u = Value.none
  | .bl b, u => u = Value.bool b
  | .int i, u => ∃ t, u = Value.int i t
  | .str x, u => ∃ t, u = Value.str x t
  | .byt b, u => ∃ t, u = Value.bytes b t
  | .flt b, u => ∃ t, u = Value.float b t
  | .ref a, u => u = Value.ref a
  | .ty n, u => u = Value.type n

noncomputable abbrev Vals : List V → List Value → Prop := Paired RelV
theorem Vals.length {xs : List V} {us : List Value} (r : Vals xs us) : xs.length = us.length := Paired.length r
theorem Vals.get : ∀ {xs : List V} {us : List Value} {i : Nat} {x : V}, Vals xs us → xs[i]? = some x → ∃ u, us[i]? = some u ∧ RelV x u
  | _, _, _, _, .nil, e => by simp at e
  | _, _, 0, _, .cons r _, e => by simp at e; subst e; exact ⟨_, rfl, r⟩
  | _, _, i + 1, x, .cons _ t, e => by
    obtain ⟨u, h1, h2⟩ := Vals.get (i := i) (x := x) t (by simpa using e)
    exact ⟨u, by simpa using h1, h2⟩
theorem Vals.set {x : V} {u : Value} (r : RelV x u) : ∀ {xs : List V} {us : List Value} (i : Nat), Vals xs us → Vals (xs.set i x) (us.set i u)
  | _, _, _, .nil => .nil
  | _, _, 0, .cons _ t => .cons r t
  | _, _, i + 1, .cons q t => .cons q (Vals.set r i t)
theorem Vals.append : ∀ {xs ys : List V} {us ws : List Value}, Vals xs us → Vals ys ws → Vals (xs ++ ys) (us ++ ws)
  | _, _, _, _, .nil, s => s
  | _, _, _, _, .cons r t, s => .cons r (Vals.append t s)
theorem Vals.take : ∀ {xs : List V} {us : List Value} (n : Nat), Vals xs us → Vals (xs.take n) (us.take n)
  | _, _, 0, _ => .nil
  | _, _, _ + 1, .nil => .nil
  | _, _, n + 1, .cons r t => .cons r (Vals.take n t)
theorem Vals.drop : ∀ {xs : List V} {us : List Value} (n : Nat), Vals xs us → Vals (xs.drop n) (us.drop n)
  | _, _, 0, r => r
  | _, _, _ + 1, .nil => .nil
  | _, _, n + 1, .cons _ t => Vals.drop n t
noncomputable def RelO : Option V → Option Value → Prop
  | some v, some u => RelV v u
  | none, none => True
  | _, _ => False
noncomputable def KV {κ : Type} : List (κ × V) → List (κ × Value) → Prop := Paired fun (p : κ × V) (q : κ × Value) => p.1 = q.1 ∧ RelV p.2 q.2

noncomputable def kV : Key → V
  | .inl i => .int i
  | .inr x => .str x

inductive HO where
  /-- a list -/
  | lst (xs : List V)
  /-- a tuple (never changes) -/
  | tup (xs : List V)
  /-- a dict whose keys are ints and texts; one whose keys are tuples of ints and texts (the empty one is both) -/
  | dK (kvs : List (Key × V)) | dT (kvs : List (List Key × V))
  /-- a set of ints: its members, its size -/
  | set (S : Int → Bool) (n : Nat)
  /-- an instance of the class at C, its dict at dx, its attributes -/
  | ins (C dx : Addr) (fs : List (Str × V))
  /-- the dict of the instance at x -/
  | own (x : Addr)
  /-- the dict of an exception -/
  | xd (fs : List (Str × V))
  /-- a bound method, f of x -/
  | met (f x : Addr)
  /-- a range object lo, lo + 1, .. below hi -/
  | rng (lo hi : Int)
  /-- a thing that is known to the object (the script; a dict while a loop walks it): read, never written while it is so -/
  | frz (o : Obj) (u : HO)
  /-- a code object's table -/
  | tbl (ps : Array Value)
  /-- any other thing, by what is true of its one object (a def of one's own: SetO a S n := HO.ext fun h => ..) -/
  | ext (φ : Heap → Prop)

noncomputable abbrev Hp := Addr → Option HO
noncomputable def upd (H : Hp) (a : Addr) (o : HO) : Hp := fun b => if b = a then some o else H b
theorem upd_same {H : Hp} {a : Addr} {o : HO} : upd H a o a = some o := by unfold upd; rw [if_pos rfl]
theorem upd_ne {H : Hp} {a b : Addr} {o : HO} (h : b ≠ a) : upd H a o b = H b := by unfold upd; rw [if_neg h]
theorem ne_of_none {H : Hp} {a b : Addr} {o : HO} (h : H a = some o) (h' : H b = none) : a ≠ b := by
  intro e; subst e; rw [h] at h'; cases h'

section
variable (P : Program) (w : World)
noncomputable def ObjOk (H : Hp) (h : Heap) (a : Addr) : HO → Prop
  | .lst xs => xs.length ≤ sizeLine ∧ ∃ (its : List Value) (n : Nat), Vals xs its ∧ h.get? a = some { cls := .type "list", data := .seq its.toArray n }
  | .tup xs => xs.length ≤ sizeLine ∧ ∃ its : List Value, Vals xs its ∧ IsTup h a its.toArray
  | .dK kvs => kvs.length ≤ sizeLine ∧ (a == sysModules) = false ∧ ∃ vs, KV kvs vs ∧ h.DictOf (mixKind P w) a vs
  | .dT kvs => kvs.length ≤ sizeLine ∧ (a == sysModules) = false ∧ ∃ xs : List (List Key × Addr × Value),
      Paired (fun (p : List Key × V) (q : List Key × Addr × Value) => p.1 = q.1 ∧ H q.2.1 = some (.tup (p.1.map kV)) ∧ RelV p.2 q.2.2) kvs xs ∧
      ∃ o es ep, h.get? a = some o ∧ o.ExactDict ∧ o.data = .dict es ep ∧ es.toList = xs.map (entryOfKey (tupleKind (mixKind P w))) ∧ (xs.map (·.1)).Nodup
  | .set S n => h.SetOf (intKind P w) a S n
  | .ins C dx fs => H dx = some (.own a) ∧ fs.length ≤ 1000 ∧ dx ≠ a ∧ h.get? a = some (PySem.W.instObj C dx) ∧
      ∃ mA, h.Ns1 dx mA ∧ (∀ f, RelO (fs.lookup f) (mA f)) ∧ PySem.Within mA (fs.map (·.1))
  | .own _ => ∃ o, h.get? a = some o
  | .xd fs => ∃ mA, h.Ns1 a mA ∧ ∀ f, RelO (fs.lookup f) (mA f)
  | .rng lo hi => ∃ t u v, h.get? a = some { cls := .type "range", data := .fields #[.int lo t, .int hi u, .int 1 v] }
  | .frz o u => h.get? a = some o ∧ ObjOk H h a u
  | .tbl ps => h.get? a = some { cls := .none, data := .fields ps }
  | .met f x => h.get? a = some (PySem.W.methodObj (.ref f) (.ref x))
  | .ext φ => φ h ∧ (∃ o, h.get? a = some o) ∧ ∀ h1 h2 : Heap, φ h1 → (∀ o, h1.get? a = some o → h2.get? a = some o) → φ h2
noncomputable def HOk (H : Hp) (h : Heap) : Prop := ∀ a o, H a = some o → ObjOk P w H h a o
end

section
variable {P : Program} {w : World} {H H' : Hp} {h h' : Heap} {a : Addr} {o : HO}
theorem ObjOk.lt (x : ObjOk P w H h a o) : a < h.objs.size := by
  cases o with
  | lst xs => obtain ⟨_, _, _, _, e⟩ := x; exact Heap.lt_size e
  | tup xs => obtain ⟨_, _, _, p⟩ := x; exact p.lt
  | dK kvs => obtain ⟨_, _, _, _, o, _, _, e, _⟩ := x; exact Heap.lt_size e
  | dT kvs => obtain ⟨_, _, _, _, o, _, _, e, _⟩ := x; exact Heap.lt_size e
  | set S n => obtain ⟨o, _, _, _, e, _⟩ := x; exact Heap.lt_size e
  | ins C dx fs => obtain ⟨_, _, _, e, _⟩ := x; exact Heap.lt_size e
  | own y => obtain ⟨_, e⟩ := x; exact Heap.lt_size e
  | xd fs => obtain ⟨_, ⟨_, _, _, e, _⟩, _⟩ := x; exact Heap.lt_size e
  | rng lo hi => obtain ⟨_, _, _, e⟩ := x; exact Heap.lt_size e
  | frz ob u => obtain ⟨e, _⟩ := x; exact Heap.lt_size e
  | tbl ps => exact Heap.lt_size (show h.get? a = some _ from x)
  | met f y => exact Heap.lt_size (show h.get? a = some _ from x)
  | ext φ => obtain ⟨_, ⟨_, e⟩, _⟩ := x; exact Heap.lt_size e
theorem Paired.mapP {α β : Type} {F G : α → β → Prop} : ∀ {l₁ : List α} {l₂ : List β}, Paired F l₁ l₂ → (∀ a b, F a b → G a b) → Paired G l₁ l₂
  | _, _, .nil, _ => .nil
  | _, _, .cons r t, f => .cons (f _ _ r) (Paired.mapP t f)
theorem ObjOk.stay (x : ObjOk P w H h a o) (k : ∀ b u, (b = a ∨ H b = some (.own a)) → h.get? b = some u → h'.get? b = some u)
    (ho : ∀ b, H b = some (.own a) → H' b = some (.own a)) (ht : ∀ b xs, H b = some (.tup xs) → H' b = some (.tup xs)) : ObjOk P w H' h' a o := by
  induction o with
  | lst xs => obtain ⟨z, its, n, r, e⟩ := x; exact ⟨z, its, n, r, k _ _ (.inl rfl) e⟩
  | tup xs => obtain ⟨z, its, r, ob, e, c⟩ := x; exact ⟨z, its, r, ob, k _ _ (.inl rfl) e, c⟩
  | dK kvs => obtain ⟨z, y, vs, r, ob, es, ep, e, c⟩ := x; exact ⟨z, y, vs, r, ob, es, ep, k _ _ (.inl rfl) e, c⟩
  | dT kvs =>
    obtain ⟨z, y, xs, r, ob, es, ep, e, c⟩ := x
    exact ⟨z, y, xs, Paired.mapP r fun p q z => ⟨z.1, ht _ _ z.2.1, z.2.2⟩, ob, es, ep, k _ _ (.inl rfl) e, c⟩
  | set S n => obtain ⟨ob, es, ep, t, e, c⟩ := x; exact ⟨ob, es, ep, t, k _ _ (.inl rfl) e, c⟩
  | ins C dx fs =>
    obtain ⟨d, z, ne, e, mA, ⟨od, es, ep, e2, c⟩, r⟩ := x
    exact ⟨ho _ d, z, ne, k _ _ (.inl rfl) e, mA, ⟨od, es, ep, k _ _ (.inr d) e2, c⟩, r⟩
  | own y => obtain ⟨ob, e⟩ := x; exact ⟨ob, k _ _ (.inl rfl) e⟩
  | xd fs => obtain ⟨mA, ⟨od, es, ep, e, c⟩, r⟩ := x; exact ⟨mA, ⟨od, es, ep, k _ _ (.inl rfl) e, c⟩, r⟩
  | rng lo hi => obtain ⟨t, u, v, e⟩ := x; exact ⟨t, u, v, k _ _ (.inl rfl) e⟩
  | frz ob u ih => obtain ⟨e, q⟩ := x; exact ⟨k _ _ (.inl rfl) e, ih q⟩
  | tbl ps =>
    have e : h.get? a = some { cls := .none, data := .fields ps } := x
    show h'.get? a = some { cls := .none, data := .fields ps }
    exact k a _ (.inl rfl) e
  | met f y =>
    have e : h.get? a = some (PySem.W.methodObj (.ref f) (.ref y)) := x
    show h'.get? a = some (PySem.W.methodObj (.ref f) (.ref y))
    exact k a _ (.inl rfl) e
  | ext φ => obtain ⟨p, ⟨o, e⟩, st⟩ := x; exact ⟨st _ _ p fun o q => k _ _ (.inl rfl) q, ⟨o, k _ _ (.inl rfl) e⟩, st⟩
theorem HOk.lt (x : HOk P w H h) (e : H a = some o) : a < h.objs.size := (x a o e).lt
theorem HOk.fresh (x : HOk P w H h) (e : h.objs.size ≤ a) : H a = none := by
  cases q : H a with
  | none => rfl
  | some u => exact absurd (Nat.lt_of_lt_of_le (x.lt q) e) (Nat.lt_irrefl _)
theorem HOk.kept (x : HOk P w H h) (k : ∀ b u, h.get? b = some u → h'.get? b = some u) : HOk P w H h' := fun a o e =>
  (x a o e).stay (fun b u _ q => k b u q) (fun _ q => q) fun _ _ q => q
theorem HOk.laid (x : HOk P w H h) (k : ∀ b u, h.get? b = some u → h'.get? b = some u) (hp : h.objs.size ≤ a) (new : ObjOk P w (upd H a o) h' a o) : HOk P w (upd H a o) h' := fun b u e => by
  have hn := x.fresh hp
  by_cases hb : b = a
  · subst hb; rw [upd_same] at e; cases e; exact new
  · rw [upd_ne hb] at e
    exact (x b u e).stay (fun c v _ q => k c v q) (fun c q => by rw [upd_ne (ne_of_none q hn)]; exact q) fun c xs q => by rw [upd_ne (ne_of_none q hn)]; exact q
end

noncomputable def Rd (H : Hp) (a : Addr) (u : HO) : Prop := H a = some u ∨ ∃ o, H a = some (.frz o u)
theorem Rd.ok {P : Program} {w : World} {H : Hp} {h : Heap} {a : Addr} {u : HO} (r : Rd H a u) (x : HOk P w H h) : ObjOk P w H h a u := by
  rcases r with r | ⟨o, r⟩
  · exact x a u r
  · obtain ⟨_, q⟩ := x a _ r
    exact q
noncomputable def Mut : Option HO → Prop
  | some (.lst _) => True
  | some (.dK _) => True
  | some (.dT _) => True
  | some (.set _ _) => True
  | some (.ins _ _ _) => True
  | some (.ext _) => True
  | _ => False
section
variable {P : Program} {w : World} {H : Hp} {h h' : Heap} {x e : Addr} {o' : HO}
theorem HOk.write (ok : HOk P w H h) (mu : Mut (H x)) (he : e = x ∨ H e = some (.own x)) (k : ∀ b u, b ≠ e → h.get? b = some u → h'.get? b = some u) (heo : ∃ u, h'.get? e = some u)
    (new : ObjOk P w (upd H x o') h' x o') : HOk P w (upd H x o') h' := fun b u q => by
  have nown : ∀ c y, H c = some (.own y) → c ≠ x := fun c y r z => by subst z; rw [r] at mu; exact mu
  have ntup : ∀ c xs, H c = some (.tup xs) → c ≠ x := fun c xs r z => by subst z; rw [r] at mu; exact mu
  by_cases hb : b = x
  · subst hb; rw [upd_same] at q; cases q; exact new
  · rw [upd_ne hb] at q
    by_cases hbe : b = e
    · have q' : H b = some (.own x) := by
        rcases he with z | z
        · exact absurd (hbe.trans z) hb
        · rw [hbe]; exact z
      rw [q] at q'; cases q'
      obtain ⟨v, hv⟩ := heo
      exact ⟨v, by rw [hbe]; exact hv⟩
    · refine (ok b u q).stay (fun c v hc r => k c v ?_ r) (fun c r => by rw [upd_ne (nown c b r)]; exact r) fun c xs r => by rw [upd_ne (ntup c xs r)]; exact r
      rcases hc with rfl | hc
      · exact hbe
      · rintro rfl
        rcases he with z | z
        · exact nown c b hc z
        · rw [hc] at z; cases z; exact hb rfl
end

structure Un (fs ex : List Addr) (H H' : Hp) (h h' : Heap) : Prop where
  keep : ∀ b o, h.get? b = some o → H b = none → b ∉ fs → b ∉ ex → h'.get? b = some o
  slot : ∀ b o, h.get? b = some o → H b = none → b ∈ fs → b ∉ ex → ∃ sl, h'.get? b = some { o with slots := sl }
  free : ∀ b o, h.get? b = some o → H b = none → b ∉ ex → H' b = none
  there : ∀ b o, h.get? b = some o → b ∉ ex → ∃ o', h'.get? b = some o'
  tups : ∀ b xs, H b = some (.tup xs) → H' b = some (.tup xs)
  frzs : ∀ b o u, H b = some (.frz o u) → H' b = some (.frz o u)
  tbls : ∀ b ps, H b = some (.tbl ps) → ∃ more, H' b = some (.tbl (ps ++ more))
section
variable {fs fs' ex ex' : List Addr} {H H1 H2 : Hp} {h h1 h2 h' : Heap} {a x e : Addr} {o : HO}
theorem Un.any (u : Un fs ex H H1 h h1) {b : Addr} {ob : Obj} (q : h.get? b = some ob) (n : H b = none) (hx : b ∉ ex) : ∃ sl, h1.get? b = some { ob with slots := sl } := by
  by_cases hb : b ∈ fs
  · exact u.slot b ob q n hb hx
  · exact ⟨ob.slots, u.keep b ob q n hb hx⟩
theorem Un.kept (k : ∀ b u, h.get? b = some u → h'.get? b = some u) : Un fs ex H H h h' :=
  ⟨fun b ob q _ _ _ => k b ob q, fun b ob q _ _ _ => ⟨ob.slots, k b ob q⟩, fun _ _ _ n _ => n, fun b ob q _ => ⟨ob, k b ob q⟩, fun _ _ q => q, fun _ _ _ q => q, fun _ ps q => ⟨#[], by rw [q]; simp⟩⟩
theorem Un.refl : Un fs ex H H h h := Un.kept fun _ _ q => q
theorem Un.laid (k : ∀ b u, h.get? b = some u → h'.get? b = some u) (hp : h.objs.size ≤ a) (hn : H a = none) : Un fs ex H (upd H a o) h h' where
  keep := fun b u q _ _ _ => k b u q
  slot := fun b u q _ _ _ => ⟨u.slots, k b u q⟩
  free := fun b u q n _ => by rw [upd_ne (Nat.ne_of_lt (Nat.lt_of_lt_of_le (Heap.lt_size q) hp))]; exact n
  there := fun b u q _ => ⟨u, k b u q⟩
  tups := fun b xs q => by rw [upd_ne (ne_of_none q hn)]; exact q
  frzs := fun b u xs q => by rw [upd_ne (ne_of_none q hn)]; exact q
  tbls := fun b ps q => ⟨#[], by rw [upd_ne (ne_of_none q hn), q]; simp⟩
theorem Un.write (mu : Mut (H x)) (he : e = x ∨ H e = some (.own x)) (k : ∀ b u, b ≠ e → h.get? b = some u → h'.get? b = some u) (heo : ∃ u, h'.get? e = some u) : Un fs ex H (upd H x o) h h' := by
  have hx : ∀ b, H b = none → b ≠ x := fun b n z => by subst z; rw [n] at mu; exact mu
  have hb : ∀ b, H b = none → b ≠ e := fun b n z => by
    subst z
    rcases he with r | r
    · exact hx b n r
    · rw [n] at r; cases r
  have hm : ∀ b u, H b = some u → ¬ Mut (some u) → b ≠ x := fun b u q nm z => by subst z; rw [q] at mu; exact nm mu
  refine ⟨fun b u q n _ _ => k b u (hb b n) q, fun b u q n _ _ => ⟨u.slots, k b u (hb b n) q⟩, fun b u q n _ => by rw [upd_ne (hx b n)]; exact n, fun b u q _ => ?_,
    fun b xs q => by rw [upd_ne (hm b _ q fun z => z)]; exact q, fun b u xs q => by rw [upd_ne (hm b _ q fun z => z)]; exact q, fun b ps q => ⟨#[], by rw [upd_ne (hm b _ q fun z => z), q]; simp⟩⟩
  by_cases hbe : b = e
  · subst hbe; exact heo
  · exact ⟨u, k b u hbe q⟩
end

noncomputable def trk (h : Heap) (H : Hp) : List Addr := (List.range h.objs.size).filter fun a => (H a).isSome
noncomputable def hidT (h : Heap) (H : Hp) : Heap := PySem.W.hideAll h (trk h H)
theorem hidT_size (h : Heap) (H : Hp) : (hidT h H).objs.size = h.objs.size := PySem.W.hideAll_size _ _
theorem hidT_get {h : Heap} {H : Hp} {b : Addr} {o : Obj} (e : h.get? b = some o) (n : H b = none) : (hidT h H).get? b = some o :=
  PySem.W.hideAll_get _ e fun hm => by
    have q : (H b).isSome = true := (List.mem_filter.mp hm).2
    rw [n] at q; simp at q
theorem of_hidT {h : Heap} {H : Hp} {b : Addr} {o : Obj} (e : (hidT h H).get? b = some o) : h.get? b = some o ∧ H b = none := by
  have e' : h.get? b = some o := PySem.W.of_hideAll (trk h H) e
  refine ⟨e', ?_⟩
  cases q : H b with
  | none => rfl
  | some x =>
    have hm : b ∈ trk h H := List.mem_filter.mpr ⟨List.mem_range.mpr (Heap.lt_size e'), by simp [q]⟩
    have z : (hidT h H).get? b = none := PySem.W.hideAll_none (trk h H) hm
    rw [z] at e; cases e

end L2

namespace L2
open PySem PySem.Spec PyProof.Rows

structure Mod (K : PySem.W.Frag) (mg : Str → Option Value) (base : Heap) : Prop where
  kin : K.In base
  glob : base.Ns mainGlobals mg
  blt : ∃ mb, base.Ns builtinsNs mb ∧ ∀ x : Str, x ≠ "__name__" → mb x = bootBuiltins x
  nolimit : base.NoLimit

structure Cx where
  prog : Program
  w : World
  K : PySem.W.Frag
  mg : Str → Option Value
  base : Heap
  A : Around
  N : List Str
  s₀ : Shared
  H₀ : Hp
  env : Env
  outer : List Env
  stack : List Env
  ex : List Addr
  fn : Str → Bool
  calm : Bool
  pn : List (Addr × Obj)
  xe : Value → Shared → Prop
noncomputable def frs (l : List Env) : List Addr := l.filterMap (·.frame)
noncomputable abbrev Cx.fs (X : Cx) : List Addr := frs X.outer

noncomputable def Vis (sc : Scope) (x : Str) : Prop := sc.names.lookup x = some .local ∨ sc.names.lookup x = some .cell ∨ sc.names.lookup x = some .free
noncomputable def Loc (sc : Scope) (x : Str) : Prop := sc.names.lookup x = some .local ∨ sc.names.lookup x = some .cell
noncomputable def Look (env : Env) (h : Heap) (m : Str → Option Value) (x : Str) (u : Value) : Prop :=
  (env.kindOf x = some .local ∧ m x = some u) ∨ ((env.kindOf x = some .cell ∨ env.kindOf x = some .free) ∧ ∃ c, env.cells.lookup x = some c ∧ h.IsCell c (some u))

structure Cx.Ok (X : Cx) : Prop where
  mod : Mod X.K X.mg X.base
  kind : X.env.scope.kind = .function
  glob : X.env.globals = mainGlobals
  blt : X.env.builtins = builtinsNs
  above : X.s₀.heap.objs.size ≤ X.env.locals
  inj : ∀ x y c, X.env.cells.lookup x = some c → X.env.cells.lookup y = some c → x = y
  has : ∀ x, (X.env.kindOf x = some .cell ∨ X.env.kindOf x = some .free) → ∃ c, X.env.cells.lookup x = some c
  cab : ∀ x c, X.fn x = true → X.env.cells.lookup x = some c → X.s₀.heap.objs.size ≤ c
  hd : X.calm = true → X.A.handled = none
  frames : X.A.frames = some X.stack
  stk : X.stack = X.outer ∨ (X.stack = X.env :: X.outer ∧ X.env.frame = some X.env.locals)
  exf : ∀ b ∈ X.ex, b ≠ X.env.locals ∧ ∀ x c, X.env.cells.lookup x = some c → c ≠ b
  bs : ∀ b o, X.base.get? b = some o → X.s₀.heap.get? b = some o ∧ X.H₀ b = none
  bsz : X.base.objs.size ≤ X.s₀.heap.objs.size
  noex : ∀ b o, X.base.get? b = some o → b ∉ X.ex
  exfs : ∀ b ∈ X.ex, b ∉ X.fs
  funs : X.s₀.heap.FunFrames X.base X.outer
  frf : ∀ b ∈ X.fs, X.H₀ b = none

structure Inv (X : Cx) (pins : List (Addr × Obj)) (σ : List (Option V)) (H : Hp) (s : Shared) : Prop where
  ok : X.Ok
  os : s.os = X.s₀.os
  bare : AllBare s.gens
  base : Un X.fs X.ex X.H₀ H X.s₀.heap s.heap
  loc : ∃ m, s.heap.Ns X.env.locals m ∧ ∀ (i : Nat) (x : Str) (v : V), X.N[i]? = some x → σ[i]? = some (some v) → Vis X.env.scope x → ∃ u, RelV v u ∧ Look X.env s.heap m x u
  cell : ∀ x c, X.env.cells.lookup x = some c → ∃ v, s.heap.IsCell c v
  free : H X.env.locals = none
  freeC : ∀ x c, X.env.cells.lookup x = some c → H c = none
  pin : ∀ p ∈ X.pn ++ pins, s.heap.get? p.1 = some p.2 ∧ H p.1 = none ∧ p.1 ≠ X.env.locals ∧ p.1 ∉ X.fs ∧ ∀ v, p.2.data ≠ .cell v
  hok : HOk X.prog X.w H s.heap
  len : σ.length = X.N.length

section
variable {X : Cx} {pins : List (Addr × Obj)} {σ : List (Option V)} {H H' : Hp} {s : Shared} {h' : Heap}

theorem Cx.Ok.nofr (ok : X.Ok) {b : Addr} {o : Obj} (e : X.base.get? b = some o) : b ∉ X.fs := fun hb => by
  have := (ok.funs.mem hb).1
  rw [e] at this; cases this
theorem Inv.bs (I : Inv X pins σ H s) : ∀ b o, X.base.get? b = some o → s.heap.get? b = some o ∧ H b = none := fun b o e =>
  ⟨I.base.keep b o (I.ok.bs b o e).1 (I.ok.bs b o e).2 (I.ok.nofr e) (I.ok.noex b o e), I.base.free b o (I.ok.bs b o e).1 (I.ok.bs b o e).2 (I.ok.noex b o e)⟩
theorem Inv.bk (I : Inv X pins σ H s) : ∀ b o, X.base.get? b = some o → s.heap.get? b = some o := fun b o e => (I.bs b o e).1
theorem Inv.mod (I : Inv X pins σ H s) : Mod X.K X.mg X.base := I.ok.mod
theorem Inv.kIn (I : Inv X pins σ H s) : X.K.In s.heap := I.ok.mod.kin.keeps I.bk
theorem Inv.lt (I : Inv X pins σ H s) : X.env.locals < s.heap.objs.size := let ⟨_, hn, _⟩ := I.loc; hn.lt
theorem Inv.sz (I : Inv X pins σ H s) : X.s₀.heap.objs.size ≤ s.heap.objs.size := Nat.le_trans I.ok.above (Nat.le_of_lt I.lt)
theorem Inv.nofs (I : Inv X pins σ H s) {a : Addr} (h : s.heap.objs.size ≤ a) : a ∉ X.fs := fun hb => by
  obtain ⟨_, o, ho, _⟩ := I.ok.funs.mem hb
  exact absurd (Nat.lt_of_lt_of_le (Heap.lt_size ho) (Nat.le_trans I.sz h)) (Nat.lt_irrefl _)
theorem Inv.cne (I : Inv X pins σ H s) : ∀ x c, X.env.cells.lookup x = some c → c ≠ X.env.locals := fun x c e z => by
  obtain ⟨v, o, ho, hd⟩ := I.cell x c e
  obtain ⟨m, ⟨o', es, ep, ho', hd', _⟩, _⟩ := I.loc
  rw [z, ho'] at ho; cases ho; rw [hd'] at hd; cases hd
theorem Inv.funs (I : Inv X pins σ H s) : s.heap.FunFrames X.base X.outer := by
  have all : ∀ (l : List Env), (∀ b ∈ frs l, b ∈ X.fs) → X.s₀.heap.FunFrames X.base l → s.heap.FunFrames X.base l := by
    intro l
    induction l with
    | nil => intro _ _; trivial
    | cons env r ih =>
      intro hs hl
      obtain ⟨hk, ⟨L, o, hf, hn, ho, hd⟩, hr⟩ := hl
      have hL : L ∈ X.fs := hs L (by unfold frs; rw [List.filterMap_cons, hf]; exact List.mem_cons_self)
      obtain ⟨sl, e⟩ := I.base.slot L o ho (I.ok.frf L hL) hL fun z => I.ok.exfs L z hL
      exact ⟨hk, ⟨L, _, hf, hn, e, hd⟩, ih (fun b hb => hs b (by unfold frs; rw [List.filterMap_cons, hf]; exact List.mem_cons_of_mem _ hb)) hr⟩
  exact all X.outer (fun _ hb => hb) I.ok.funs

theorem Inv.stack (I : Inv X pins σ H s) : s.heap.FunFrames X.base X.stack := by
  rcases I.ok.stk with e | ⟨e, hf⟩
  · rw [e]; exact I.funs
  · rw [e]
    obtain ⟨m, hn, _⟩ := I.loc
    refine .cons (by rw [I.ok.kind]; decide) hf hn ?_ I.funs
    exact Heap.get?_none_of_le (Nat.le_trans I.ok.bsz I.ok.above)
theorem Inv.stkSub (I : Inv X pins σ H s) : ∀ b ∈ frs X.stack, b ∈ X.env.locals :: X.fs := fun b hb => by
  rcases I.ok.stk with e | ⟨e, hf⟩
  · rw [e] at hb; exact List.mem_cons_of_mem _ hb
  · rw [e] at hb
    unfold frs at hb
    rw [List.filterMap_cons, hf] at hb
    exact hb
theorem Inv.stkFree (I : Inv X pins σ H s) : ∀ b ∈ frs X.stack, H b = none := fun b hb => by
  rcases List.mem_cons.mp (I.stkSub b hb) with e | hb
  · rw [e]; exact I.free
  · obtain ⟨_, o, ho, _⟩ := I.ok.funs.mem hb
    exact I.base.free b o ho (I.ok.frf b hb) fun z => I.ok.exfs b z hb

theorem Inv.step {g' : Array GenState} {t' : Nat} {d' : Drawn} {ch : List Addr} (I : Inv X pins σ H s)
    (hch : ∀ b ∈ ch, (b ∈ X.ex ∨ X.s₀.heap.objs.size ≤ b) ∧ b ≠ X.env.locals ∧ (∀ x c, X.env.cells.lookup x = some c → c ≠ b) ∧ ∀ p ∈ X.pn ++ pins, p.1 ≠ b)
    (keep : ∀ b o, b ≠ X.env.locals → b ∉ X.fs → b ∉ ch → s.heap.get? b = some o → H b = none → h'.get? b = some o)
    (slot : ∀ b o, b ≠ X.env.locals → b ∈ X.fs → b ∉ ch → s.heap.get? b = some o → H b = none → ∃ sl, h'.get? b = some { o with slots := sl }) (free : ∀ b o, b ∉ ch → s.heap.get? b = some o → H b = none → H' b = none)
    (there : ∀ b o, b ∉ ch → s.heap.get? b = some o → ∃ o', h'.get? b = some o')
    (tups : ∀ b xs, H b = some (.tup xs) → H' b = some (.tup xs)) (frzs : ∀ b o u, H b = some (.frz o u) → H' b = some (.frz o u)) (tbls : ∀ b ps, H b = some (.tbl ps) → ∃ more, H' b = some (.tbl (ps ++ more)))
    (ns : ∀ m, s.heap.Ns X.env.locals m → h'.Ns X.env.locals m) (hok : HOk X.prog X.w H' h') (hg : AllBare g') :
    Inv X pins σ H' { s with heap := h', gens := g', drawn := d', toks := t' } := by
  have neL : ∀ b o, X.s₀.heap.get? b = some o → b ≠ X.env.locals := fun b o e => Nat.ne_of_lt (Nat.lt_of_lt_of_le (Heap.lt_size e) I.ok.above)
  have neC : ∀ b o, X.s₀.heap.get? b = some o → b ∉ X.ex → b ∉ ch := fun b o e hx hb => by
    rcases (hch b hb).1 with z | z
    · exact hx z
    · exact absurd (Nat.lt_of_lt_of_le (Heap.lt_size e) z) (Nat.lt_irrefl _)
  have cellK : ∀ x c, X.env.cells.lookup x = some c → ∀ v, s.heap.IsCell c v → h'.IsCell c v := fun x c e v ⟨o, ho, hd⟩ => by
    have nch : c ∉ ch := fun z => (hch c z).2.2.1 x c e rfl
    by_cases hc : c ∈ X.fs
    · obtain ⟨sl, q⟩ := slot c o (I.cne x c e) hc nch ho (I.freeC x c e)
      exact ⟨_, q, hd⟩
    · exact ⟨o, keep c o (I.cne x c e) hc nch ho (I.freeC x c e), hd⟩
  refine ⟨I.ok, I.os, hg, ⟨fun b o e n hb hx => ?_, fun b o e n hb hx => ?_, fun b o e n hx => ?_, fun b o e hx => ?_, fun b xs e => tups b xs (I.base.tups b xs e), fun b o xs e => frzs b o xs (I.base.frzs b o xs e), fun b ps e => ?_⟩, ?_, fun x c e => ?_, ?_, fun x c e => ?_, fun p hp => ?_, hok, I.len⟩
  · exact keep b o (neL b o e) hb (neC b o e hx) (I.base.keep b o e n hb hx) (I.base.free b o e n hx)
  · obtain ⟨sl, e1⟩ := I.base.slot b o e n hb hx
    obtain ⟨sl', e2⟩ := slot b _ (neL b o e) hb (neC b o e hx) e1 (I.base.free b o e n hx)
    exact ⟨sl', e2⟩
  · obtain ⟨o', e1⟩ := I.base.there b o e hx
    exact free b o' (neC b o e hx) e1 (I.base.free b o e n hx)
  · obtain ⟨o', e1⟩ := I.base.there b o e hx
    exact there b o' (neC b o e hx) e1
  · obtain ⟨m1, e1⟩ := I.base.tbls b ps e
    obtain ⟨m2, e2⟩ := tbls b _ e1
    exact ⟨m1 ++ m2, by rw [e2, Array.append_assoc]⟩
  · obtain ⟨m, hn, hl⟩ := I.loc
    refine ⟨m, ns m hn, fun i x v e1 e2 e3 => ?_⟩
    obtain ⟨u, r, l⟩ := hl i x v e1 e2 e3
    refine ⟨u, r, ?_⟩
    rcases l with l | ⟨k, c, e, z⟩
    · exact .inl l
    · exact .inr ⟨k, c, e, cellK x c e _ z⟩
  · obtain ⟨v, z⟩ := I.cell x c e
    exact ⟨v, cellK x c e v z⟩
  · obtain ⟨m, ⟨o, _, _, ho, _⟩, _⟩ := I.loc
    exact free _ o (fun z => (hch _ z).2.1 rfl) ho I.free
  · obtain ⟨v, o, ho, hd⟩ := I.cell x c e
    exact free c o (fun z => (hch c z).2.2.1 x c e rfl) ho (I.freeC x c e)
  · obtain ⟨e, n, ne, nf, d⟩ := I.pin p hp
    have nch : p.1 ∉ ch := fun z => (hch p.1 z).2.2.2 p hp rfl
    exact ⟨keep p.1 p.2 ne nf nch e n, free p.1 p.2 nch e n, ne, nf, d⟩
theorem Inv.un {t' : Nat} (I : Inv X pins σ H s) (u : Un X.fs [] H H' s.heap h') (hok : HOk X.prog X.w H' h') : Inv X pins σ H' { s with heap := h', toks := t' } := by
  obtain ⟨m, ⟨o, es, ep, ho, r⟩, _⟩ := id I.loc
  obtain ⟨sl, hL⟩ := u.any ho I.free (by simp)
  exact I.step (g' := s.gens) (d' := s.drawn) (ch := []) (fun _ z => nomatch z) (fun b o _ hb _ e n => u.keep b o e n hb (by simp)) (fun b o _ hb _ e n => u.slot b o e n hb (by simp)) (fun b o _ e n => u.free b o e n (by simp)) (fun b o _ e => u.there b o e (by simp)) u.tups u.frzs u.tbls (fun m' hm => by
    obtain ⟨o', es', ep', ho', r'⟩ := hm
    rw [ho] at ho'; cases ho'
    exact ⟨_, es', ep', hL, r'⟩) hok I.bare
theorem Inv.call {g' : Array GenState} {t' : Nat} {d' : Drawn} {ch : List Addr} (I : Inv X pins σ H s) (u : Un (frs X.stack) ch H H' s.heap h') (hok : HOk X.prog X.w H' h') (hg : AllBare g')
    (hch : ∀ b ∈ ch, (b ∈ X.ex ∨ X.s₀.heap.objs.size ≤ b) ∧ b ≠ X.env.locals ∧ (∀ x c, X.env.cells.lookup x = some c → c ≠ b) ∧ ∀ p ∈ X.pn ++ pins, p.1 ≠ b) :
    Inv X pins σ H' { s with heap := h', gens := g', drawn := d', toks := t' } := by
  obtain ⟨m, ⟨o, es, ep, ho, r⟩, _⟩ := id I.loc
  obtain ⟨sl, hL⟩ := u.any ho I.free fun z => (hch _ z).2.1 rfl
  exact I.step (ch := ch) hch (fun b o hL hb hc e n => u.keep b o e n (fun z => (List.mem_cons.mp (I.stkSub b z)).elim hL hb) hc) (fun b o _ _ hc e n => u.any e n hc) (fun b o hc e n => u.free b o e n hc) (fun b o hc e => u.there b o e hc) u.tups u.frzs u.tbls (fun m' hm => by
    obtain ⟨o', es', ep', ho', r'⟩ := hm
    rw [ho] at ho'; cases ho'
    exact ⟨_, es', ep', hL, r'⟩) hok hg
theorem Inv.turned {t' : Nat} {it : Addr} (I : Inv X pins σ H s) (k : ∀ b o, b ≠ it → s.heap.get? b = some o → h'.get? b = some o) (hn : H it = none) (hL : it ≠ X.env.locals)
    (h1 : it ∈ X.ex ∨ X.s₀.heap.objs.size ≤ it) (h2 : ∀ x c, X.env.cells.lookup x = some c → c ≠ it) (h3 : ∀ p ∈ X.pn ++ pins, p.1 ≠ it) : Inv X pins σ H { s with heap := h', toks := t' } := by
  have nit : ∀ b u, H b = some u → b ≠ it := fun b u e z => by rw [z, hn] at e; cases e
  refine I.step (g' := s.gens) (d' := s.drawn) (ch := [it]) (fun b hb => ?_) (fun b o _ _ hc e _ => k b o (fun z => hc (by simp [z])) e) (fun b o _ _ hc e _ => ⟨o.slots, k b o (fun z => hc (by simp [z])) e⟩) (fun _ _ _ _ n => n)
    (fun b o hc e => ⟨o, k b o (fun z => hc (by simp [z])) e⟩) (fun _ _ e => e) (fun _ _ _ e => e) (fun b ps e => ⟨#[], by rw [e]; simp⟩) (fun m hm => ?_) (fun b u e => ?_) I.bare
  · have e : b = it := by simpa using hb
    subst e
    exact ⟨h1, hL, h2, h3⟩
  · obtain ⟨o, es, ep, ho, r⟩ := hm
    exact ⟨o, es, ep, k _ o (Ne.symm hL) ho, r⟩
  · refine (I.hok b u e).stay (fun c v hc q => k c v ?_ q) (fun _ q => q) fun _ _ q => q
    rcases hc with z | z
    · rw [z]; exact nit b u e
    · exact nit c _ z
theorem Inv.tok (I : Inv X pins σ H s) (t : Nat) : Inv X pins σ H { s with toks := t } := I.un (h' := s.heap) (t' := t) Un.refl I.hok
theorem Inv.kept {t' : Nat} (I : Inv X pins σ H s) (k : ∀ b u, s.heap.get? b = some u → h'.get? b = some u) : Inv X pins σ H { s with heap := h', toks := t' } := I.un (Un.kept k) (I.hok.kept k)
theorem Inv.laid {a : Addr} {o : HO} {t' : Nat} (I : Inv X pins σ H s) (k : ∀ b u, s.heap.get? b = some u → h'.get? b = some u) (hp : s.heap.objs.size ≤ a) (new : ObjOk X.prog X.w (upd H a o) h' a o) :
    Inv X pins σ (upd H a o) { s with heap := h', toks := t' } := I.un (Un.laid k hp (I.hok.fresh hp)) (I.hok.laid k hp new)
theorem Inv.write {x e : Addr} {o : HO} {t' : Nat} (I : Inv X pins σ H s) (mu : Mut (H x)) (he : e = x ∨ H e = some (.own x)) (k : ∀ b u, b ≠ e → s.heap.get? b = some u → h'.get? b = some u) (heo : ∃ u, h'.get? e = some u)
    (new : ObjOk X.prog X.w (upd H x o) h' x o) : Inv X pins σ (upd H x o) { s with heap := h', toks := t' } := I.un (Un.write mu he k heo) (I.hok.write mu he k heo new)
theorem Inv.pins_of {pins' : List (Addr × Obj)} (I : Inv X pins σ H s) (h : ∀ p ∈ pins', s.heap.get? p.1 = some p.2 ∧ H p.1 = none ∧ p.1 ≠ X.env.locals ∧ p.1 ∉ X.fs ∧ ∀ v, p.2.data ≠ .cell v) : Inv X pins' σ H s :=
  ⟨I.ok, I.os, I.bare, I.base, I.loc, I.cell, I.free, I.freeC, fun p hp => (List.mem_append.mp hp).elim (fun z => I.pin p (List.mem_append_left _ z)) (h p), I.hok, I.len⟩

theorem nodup_ix {N : List Str} (hN : N.Nodup) {i j : Nat} {x : Str} (a : N[i]? = some x) (b : N[j]? = some x) : i = j := by
  obtain ⟨h1, e1⟩ := List.getElem?_eq_some_iff.mp a
  obtain ⟨h2, e2⟩ := List.getElem?_eq_some_iff.mp b
  exact (List.getElem_inj hN).mp (e1.trans e2.symm)

theorem store_ok2 {M : Model} {A : Around} {E : Value → Shared → Prop} {i : Nat} {x : Str} {v : V} {u : Value} {Q : Unit → Shared → Prop} (I : Inv X pins σ H s) (hN : X.N.Nodup) (hi : X.N[i]? = some x) (hx : Loc X.env.scope x) (r : RelV v u)
    (h : ∀ s', Inv X pins (σ.set i (some v)) H s' → (∃ a, Heap.SameBut a s.heap s'.heap ∧ (a = X.env.locals ∨ X.env.cells.lookup x = some a)) → Q () s') (hf : X.fn x = true ∨ X.env.scope.names.lookup x = some .local := by first | exact .inl rfl | exact .inr rfl | assumption) : wpAny M A (storeName X.env x u) Q E s := by
  obtain ⟨m, hn, hl⟩ := id I.loc
  have hcls : (X.env.scope.kind == .class || (X.env.scope.kind == .module && X.env.locals != X.env.globals)) = false := by rw [I.ok.kind]; rfl
  have hiσ : i < σ.length := by rw [I.len]; exact (List.getElem?_eq_some_iff.mp hi).1
  have cne := I.cne
  have tracked : ∀ {a : Addr} {h' : Heap}, (∃ o, s.heap.get? a = some o ∧ H a = none) → Heap.SameBut a s.heap h' → HOk X.prog X.w H h' := fun {a h'} ha hs b ob e => by
    obtain ⟨_, _, hfree⟩ := ha
    refine (I.hok b ob e).stay (fun c w' hc q => (hs.2 c ?_).trans q) (fun _ q => q) fun _ _ q => q
    rintro rfl
    rcases hc with rfl | hc
    · rw [hfree] at e; cases e
    · rw [hfree] at hc; cases hc
  rcases hx with hk | hk
  · refine wpAny_storeName_local hk hn (fun h' hn' hs => ?_) hcls
    obtain ⟨oL, _, _, hoL, _⟩ := id hn
    refine h _ ⟨I.ok, I.os, I.bare, ⟨fun b o e n hb hx => ?_, fun b o e n hb hx => ?_, I.base.free, fun b o e hx => ?_, I.base.tups, I.base.frzs, I.base.tbls⟩, ⟨_, hn', fun j y v' e1 e2 e3 => ?_⟩, fun y c e => ?_, I.free, I.freeC, fun p hp => ?_, tracked ⟨oL, hoL, I.free⟩ hs, by simpa using I.len⟩ ⟨_, hs, .inl rfl⟩
    · exact (hs.2 b (Nat.ne_of_lt (Nat.lt_of_lt_of_le (Heap.lt_size e) I.ok.above))).trans (I.base.keep b o e n hb hx)
    · obtain ⟨sl, e1⟩ := I.base.slot b o e n hb hx
      exact ⟨sl, (hs.2 b (Nat.ne_of_lt (Nat.lt_of_lt_of_le (Heap.lt_size e) I.ok.above))).trans e1⟩
    · obtain ⟨o', e1⟩ := I.base.there b o e hx
      exact ⟨o', (hs.2 b (Nat.ne_of_lt (Nat.lt_of_lt_of_le (Heap.lt_size e) I.ok.above))).trans e1⟩
    · by_cases hj : j = i
      · subst hj
        rw [hi] at e1; cases e1
        rw [List.getElem?_set_self hiσ] at e2
        cases e2
        exact ⟨u, r, .inl ⟨hk, by simp⟩⟩
      · rw [List.getElem?_set_ne (Ne.symm hj)] at e2
        obtain ⟨u', r', q⟩ := hl j y v' e1 e2 e3
        refine ⟨u', r', ?_⟩
        rcases q with ⟨k, e⟩ | ⟨k, c, e, z⟩
        · refine .inl ⟨k, ?_⟩
          have : y ≠ x := fun e => hj (nodup_ix hN e1 (e ▸ hi))
          simp [this, e]
        · exact .inr ⟨k, c, e, z.sameBut hs (cne y c e)⟩
    · obtain ⟨w', z⟩ := I.cell y c e
      exact ⟨w', z.sameBut hs (cne y c e)⟩
    · obtain ⟨e, n, ne, nf, d⟩ := I.pin p hp
      exact ⟨(hs.2 p.1 ne).trans e, n, ne, nf, d⟩
  · have hfn : X.fn x = true := by
      rcases hf with z | z
      · exact z
      · rw [z] at hk; cases hk
    obtain ⟨c, hc⟩ := I.ok.has x (.inl hk)
    obtain ⟨w', z⟩ := I.cell x c hc
    refine wpAny_storeName_cell I.ok.kind hk hc z (fun h' hc' hs => ?_)
    obtain ⟨oc, hoc, hocd⟩ := id z
    refine h { s with heap := h' } ⟨I.ok, I.os, I.bare, ⟨fun b o e n hb hx => ?_, fun b o e n hb hx => ?_, I.base.free, fun b o e hx => ?_, I.base.tups, I.base.frzs, I.base.tbls⟩, ⟨m, hn.sameBut hs (Ne.symm (cne x c hc)), fun j y v' e1 e2 e3 => ?_⟩, fun y c' e => ?_, I.free, I.freeC, fun p hp => ?_, tracked ⟨oc, hoc, I.freeC x c hc⟩ hs, by simpa using I.len⟩ ⟨c, hs, .inr hc⟩
    · exact (hs.2 b (Nat.ne_of_lt (Nat.lt_of_lt_of_le (Heap.lt_size e) (I.ok.cab x c hfn hc)))).trans (I.base.keep b o e n hb hx)
    · obtain ⟨sl, e1⟩ := I.base.slot b o e n hb hx
      exact ⟨sl, (hs.2 b (Nat.ne_of_lt (Nat.lt_of_lt_of_le (Heap.lt_size e) (I.ok.cab x c hfn hc)))).trans e1⟩
    · obtain ⟨o', e1⟩ := I.base.there b o e hx
      exact ⟨o', (hs.2 b (Nat.ne_of_lt (Nat.lt_of_lt_of_le (Heap.lt_size e) (I.ok.cab x c hfn hc)))).trans e1⟩
    · by_cases hj : j = i
      · subst hj
        rw [hi] at e1; cases e1
        rw [List.getElem?_set_self hiσ] at e2
        cases e2
        exact ⟨u, r, .inr ⟨.inl hk, c, hc, hc'⟩⟩
      · rw [List.getElem?_set_ne (Ne.symm hj)] at e2
        obtain ⟨u', r', q⟩ := hl j y v' e1 e2 e3
        refine ⟨u', r', ?_⟩
        rcases q with q | ⟨k, c', e, z'⟩
        · exact .inl q
        · refine .inr ⟨k, c', e, z'.sameBut hs ?_⟩
          rintro rfl
          exact hj (nodup_ix hN e1 (I.ok.inj _ _ _ e hc ▸ hi))
    · by_cases hcc : c' = c
      · subst hcc; exact ⟨_, hc'⟩
      · obtain ⟨w2, z2⟩ := I.cell y c' e
        exact ⟨w2, z2.sameBut hs hcc⟩
    · obtain ⟨e, n, ne, nf, d⟩ := I.pin p hp
      refine ⟨(hs.2 p.1 ?_).trans e, n, ne, nf, d⟩
      intro q
      rw [q, hoc] at e
      have q' : oc = p.2 := Option.some.inj e
      exact d w' (by rw [← q']; exact hocd)
theorem store_ok {M : Model} {A : Around} {E : Value → Shared → Prop} {i : Nat} {x : Str} {v : V} {u : Value} {Q : Unit → Shared → Prop} (I : Inv X pins σ H s) (hN : X.N.Nodup) (hi : X.N[i]? = some x) (hx : Loc X.env.scope x) (r : RelV v u)
    (h : ∀ s', Inv X pins (σ.set i (some v)) H s' → Q () s') (hf : X.fn x = true ∨ X.env.scope.names.lookup x = some .local := by first | exact .inl rfl | exact .inr rfl | assumption) : wpAny M A (storeName X.env x u) Q E s :=
  store_ok2 I hN hi hx r (fun s' I' _ => h s' I') hf
theorem Inv.call' {s' : Shared} {ch : List Addr} (I : Inv X pins σ H s) (ho : s'.os = s.os) (u : Un (frs X.stack) ch H H' s.heap s'.heap) (hok : HOk X.prog X.w H' s'.heap) (hg : AllBare s'.gens)
    (hch : ∀ b ∈ ch, (b ∈ X.ex ∨ X.s₀.heap.objs.size ≤ b) ∧ b ≠ X.env.locals ∧ (∀ x c, X.env.cells.lookup x = some c → c ≠ b) ∧ ∀ p ∈ X.pn ++ pins, p.1 ≠ b) : Inv X pins σ H' s' := by
  obtain ⟨h', g', d', t', o'⟩ := s'
  have e : o' = s.os := ho
  subst e
  exact I.call (g' := g') (t' := t') (d' := d') u hok hg hch
end

noncomputable abbrev XK := Value → Option Addr → Hp → Prop
noncomputable abbrev St := List (Option V)
noncomputable abbrev VK := V → Hp → Prop
noncomputable abbrev TE := St → Hp → VK → Prop
noncomputable abbrev TT := St → Hp → (Bool → Hp → Prop) → Prop
noncomputable abbrev TA := St → Hp → (List V → Hp → Prop) → Prop
structure Ends where
  nx : St → Hp → Prop
  rt : VK
  bk : St → Hp → Prop := fun _ _ => False
  ct : St → Hp → Prop := fun _ _ => False
noncomputable abbrev TS := Ends → St → Hp → Prop

noncomputable def EP (X : Cx) (pins : List (Addr × Obj)) (σ : St) (Q : VK) (u : Value) (s' : Shared) : Prop := ∃ v H', Inv X pins σ H' s' ∧ RelV v u ∧ Q v H'
noncomputable def TP (X : Cx) (pins : List (Addr × Obj)) (σ : St) (Q : Bool → Hp → Prop) (b : Bool) (s' : Shared) : Prop := ∃ H', Inv X pins σ H' s' ∧ Q b H'
noncomputable def AP (X : Cx) (pins : List (Addr × Obj)) (σ : St) (Q : List V → Hp → Prop) (us : List Value) (s' : Shared) : Prop := ∃ vs H', Inv X pins σ H' s' ∧ Vals vs us ∧ Q vs H'
noncomputable def SP (X : Cx) (pins : List (Addr × Obj)) (D : Ends) (f : Flow) (s' : Shared) : Prop :=
  match f with
  | .next => ∃ σ' H', Inv X pins σ' H' s' ∧ D.nx σ' H'
  | .brk => ∃ σ' H', Inv X pins σ' H' s' ∧ D.bk σ' H'
  | .cont => ∃ σ' H', Inv X pins σ' H' s' ∧ D.ct σ' H'
  | .ret u => ∃ v σ' H', Inv X pins σ' H' s' ∧ RelV v u ∧ D.rt v H'

noncomputable def PE (X : Cx) (e : Expr) (t : TE) : Prop :=
  ∀ (pins : List (Addr × Obj)) (s : Shared) (σ : St) (H : Hp) (Q : VK), Inv X pins σ H s → t σ H Q → wpAny (model X.prog X.w) X.A (eval e X.env) (EP X pins σ Q) X.xe s
noncomputable def PT (X : Cx) (e : Expr) (t : TT) : Prop :=
  ∀ (pins : List (Addr × Obj)) (s : Shared) (σ : St) (H : Hp) (Q : Bool → Hp → Prop), Inv X pins σ H s → t σ H Q → wpAny (model X.prog X.w) X.A (isTrue e X.env (eval e X.env)) (TP X pins σ Q) X.xe s
noncomputable def PW (X : Cx) (e : Expr) (t : TT) : Prop :=
  ∀ (whole : Sem Value) (pins : List (Addr × Obj)) (s : Shared) (σ : St) (H : Hp) (Q : Bool → Hp → Prop), Inv X pins σ H s → t σ H Q → wpAny (model X.prog X.w) X.A (isTrue e X.env whole) (TP X pins σ Q) X.xe s
theorem PW.pt {X : Cx} {e : Expr} {t : TT} (h : PW X e t) : PT X e t := h _
noncomputable def PA (X : Cx) (es : List Expr) (t : TA) : Prop :=
  ∀ (pos : Pos) (pins : List (Addr × Obj)) (s : Shared) (σ : St) (H : Hp) (Q : List V → Hp → Prop), Inv X pins σ H s → t σ H Q → wpAny (model X.prog X.w) X.A (spliced (backTo pos (starEach es X.env))) (AP X pins σ Q) X.xe s
noncomputable def PS (X : Cx) (st : Stmt) (t : TS) : Prop :=
  ∀ (pins : List (Addr × Obj)) (s : Shared) (σ : St) (H : Hp) (D : Ends), Inv X pins σ H s → t D σ H → wpAny (model X.prog X.w) X.A (exec st X.env) (SP X pins D) X.xe s
noncomputable def PSs (X : Cx) (st : List Stmt) (t : TS) : Prop :=
  ∀ (pins : List (Addr × Obj)) (s : Shared) (σ : St) (H : Hp) (D : Ends), Inv X pins σ H s → t D σ H → wpAny (model X.prog X.w) X.A (execs st X.env) (SP X pins D) X.xe s
theorem thn {α : Type} {t : Sem α} {Q Q' : α → Shared → Prop} {M : Model} {A : Around} {E : Value → Shared → Prop} {s : Shared} (h : wpAny M A t Q E s) (hQ : ∀ a s, Q a s → Q' a s) : wpAny M A t Q' E s := wpAny_mono h hQ fun _ _ x => x
end L2

namespace L2
open PySem PySem.Spec PyProof.Rows
section
variable {X : Cx}

theorem bin {a b : Expr} {ta tb : TE} (ha : PE X a ta) (hb : PE X b tb) {pins : List (Addr × Obj)} {s : Shared} {σ : St} {H : Hp} {R : V → V → Hp → Prop} (I : Inv X pins σ H s) (h : ta σ H fun x H1 => tb σ H1 fun y H2 => R x y H2)
    {α : Type} {Q : α → Shared → Prop} {f : Value → Value → Sem α}
    (hf : ∀ v u s2 x y H2, Inv X pins σ H2 s2 → RelV x v → RelV y u → R x y H2 → wpAny (model X.prog X.w) X.A (f v u) Q X.xe s2) :
    wpAny (model X.prog X.w) X.A (eval a X.env) (fun v s₁ => wpAny (model X.prog X.w) X.A (eval b X.env) (fun u s₂ => wpAny (model X.prog X.w) X.A (f v u) Q X.xe s₂) X.xe s₁) X.xe s := by
  refine thn (ha pins s σ H _ I h) fun v s1 ⟨x, H1, I1, r1, q1⟩ => ?_
  refine thn (hb pins s1 σ H1 _ I1 q1) fun u s2 ⟨y, H2, I2, r2, q2⟩ => ?_
  exact hf v u s2 x y H2 I2 r1 r2 q2

noncomputable def tVar (i : Nat) : TE := fun σ H Q => ∃ v, σ[i]? = some (some v) ∧ Q v H
noncomputable def tC (v : V) : TE := fun _ H Q => Q v H
theorem pe_var {i : Nat} {x : Str} {pos : Pos} (hN : X.N[i]? = some x) (hv : Vis X.env.scope x) (hd : (x == ("__debug__" : Str)) = false := by decide) (hcd : (x == ("__classdict__" : Str)) = false := by decide) : PE X (.Name x pos) (tVar i) := by
  intro pins s σ H Q I h
  obtain ⟨v, e, h⟩ := h
  obtain ⟨m, hn, hl⟩ := I.loc
  obtain ⟨u, r, l⟩ := hl i x v hN e hv
  have fin : EP X pins σ Q u s := ⟨v, H, I, r, h⟩
  rcases l with ⟨hk, hm⟩ | ⟨hk, c, hc, hcell⟩
  · exact wpAny_Name (wpAny_loadName_local I.ok.kind hk hn hm fin) hd
  · rcases hk with hk | hk
    · exact wpAny_Name (wpAny_loadName_cell I.ok.kind hk hc hcell fin) hd
    · exact wpAny_Name (wpAny_loadName_free I.ok.kind hk hc hcell fin hcd) hd
theorem pe_int {i j pos} : PE X (.Constant (.int i) j pos) (tC (.int i)) := fun _ _ _ H _ I h => wpAny_Constant_int ⟨.int i, H, I.tok _, ⟨_, rfl⟩, h⟩
theorem pe_bl {b j pos} : PE X (.Constant (.bool b) j pos) (tC (.bl b)) := fun _ _ _ H _ I h => Constant_bool ⟨.bl b, H, I, rfl, h⟩
theorem pe_non {j pos} : PE X (.Constant .none j pos) (tC .non) := fun _ _ _ H _ I h => Constant_none ⟨.non, H, I, rfl, h⟩
theorem pe_str {x j pos} : PE X (.Constant (.str x) j pos) (tC (.str x)) := fun _ _ _ H _ I h => Calls.Constant_str ⟨.str x, H, I.tok _, ⟨_, rfl⟩, h⟩

noncomputable def Gl (X : Cx) (x : Str) : Prop := X.env.kindOf x = some .globalImplicit
theorem ld_glob {E : Value → Shared → Prop} {pins : List (Addr × Obj)} {s : Shared} {σ : St} {H : Hp} {x : Str} {u : Value} {pos : Pos} {Q : Value → Shared → Prop} (I : Inv X pins σ H s) (hg : Gl X x) (hm : X.mg x = some u) (h : Q u s)
    (hd : (x == ("__debug__" : Str)) = false := by decide) : wpAny (model X.prog X.w) X.A (eval (.Name x pos) X.env) Q E s :=
  Calls.Name_function_global I.ok.kind hg (Calls.loadGlobal_global (by rw [I.ok.glob]; exact I.mod.glob.keeps I.bk) hm h) hd
theorem ld_blt {E : Value → Shared → Prop} {pins : List (Addr × Obj)} {s : Shared} {σ : St} {H : Hp} {x : Str} {u : Value} {pos : Pos} {Q : Value → Shared → Prop} (I : Inv X pins σ H s) (hg : Gl X x) (hm : X.mg x = none) (hv : bootBuiltins x = some u) (h : Q u s)
    (hn : x ≠ "__name__" := by decide) (hd : (x == ("__debug__" : Str)) = false := by decide) : wpAny (model X.prog X.w) X.A (eval (.Name x pos) X.env) Q E s := by
  obtain ⟨mb, h1, h2⟩ := I.mod.blt
  exact Calls.Name_function_global I.ok.kind hg (Calls.loadGlobal_builtin (by rw [I.ok.glob]; exact I.mod.glob.keeps I.bk) hm (by rw [I.ok.blt]; exact h1.keeps I.bk) ((h2 x hn).trans hv) h) hd
variable {a b : Expr} {ta tb : TE} {pos : Pos}
variable {tA tB' : TT} {rest : List Expr}
noncomputable def tAnd (t u : TT) : TT := fun σ H Q => t σ H fun c H1 => if c = true then u σ H1 Q else Q false H1
noncomputable def tOr (t u : TT) : TT := fun σ H Q => t σ H fun c H1 => if c = true then Q true H1 else u σ H1 Q
noncomputable def tNot (t : TT) : TT := fun σ H Q => t σ H fun c H1 => Q (!c) H1
theorem pw_and1 (ha : PT X a tA) : PW X (.BoolOp .And [a] pos) tA := by
  intro wh pins s σ H Q I h
  refine isTrue_and (thn (ha pins s σ H Q I h) fun c s1 e => ?_)
  cases c with
  | true => exact isTrue_and_nil e
  | false => exact e
theorem pw_or1 (ha : PT X a tA) : PW X (.BoolOp .Or [a] pos) tA := by
  intro wh pins s σ H Q I h
  refine isTrue_or (thn (ha pins s σ H Q I h) fun c s1 e => ?_)
  cases c with
  | false => exact isTrue_or_nil e
  | true => exact e
theorem pw_and (ha : PT X a tA) (hb : PW X (.BoolOp .And (b :: rest) pos) tB') : PW X (.BoolOp .And (a :: b :: rest) pos) (tAnd tA tB') := by
  intro wh pins s σ H Q I h
  refine isTrue_and (thn (ha pins s σ H _ I h) fun c s1 ⟨H1, I1, q1⟩ => ?_)
  cases c with
  | true => exact hb wh pins s1 σ H1 Q I1 q1
  | false => exact ⟨H1, I1, q1⟩
theorem pw_or (ha : PT X a tA) (hb : PW X (.BoolOp .Or (b :: rest) pos) tB') : PW X (.BoolOp .Or (a :: b :: rest) pos) (tOr tA tB') := by
  intro wh pins s σ H Q I h
  refine isTrue_or (thn (ha pins s σ H _ I h) fun c s1 ⟨H1, I1, q1⟩ => ?_)
  cases c with
  | true => exact ⟨H1, I1, q1⟩
  | false => exact hb wh pins s1 σ H1 Q I1 q1
theorem pt_not (ha : PT X a tA) : PT X (.UnaryOp .Not a pos) (tNot tA) := by
  intro pins s σ H Q I h
  exact isTrue_not (ha pins s σ H (fun c H1 => Q (!c) H1) I h)
noncomputable def tAndV (ta tb : TE) : TE := fun σ H Q => ta σ H fun x H1 => ∃ c, x = .bl c ∧ if c = true then tb σ H1 Q else Q (.bl false) H1
theorem pe_one {op} {t : TE} (h : PE X a t) : PE X (.BoolOp op [a] pos) t := fun pins s σ H Q I hw => BoolOp_one (h pins s σ H Q I hw)
theorem pe_and (ha : PE X a ta) (hb : PE X (.BoolOp .And (b :: rest) pos) tb) : PE X (.BoolOp .And (a :: b :: rest) pos) (tAndV ta tb) := by
  intro pins s σ H Q I h
  refine BoolOp_and (thn (ha pins s σ H _ I h) fun v s1 ⟨x, H1, I1, r1, q1⟩ => ?_)
  obtain ⟨c, rfl, q1⟩ := q1
  cases r1
  refine wpAny_truthy_bool ?_
  cases c with
  | true => exact hb pins s1 σ H1 Q I1 q1
  | false => exact ⟨.bl false, H1, I1, rfl, q1⟩
noncomputable def tIf (t : TT) (ta tb : TE) : TE := fun σ H Q => t σ H fun c H1 => if c = true then ta σ H1 Q else tb σ H1 Q
theorem pe_ifExp {c : Expr} (hc : PT X c tA) (ha : PE X a ta) (hb : PE X b tb) : PE X (.IfExp c a b pos) (tIf tA ta tb) := by
  intro pins s σ H Q I h
  refine wpAny_IfExp (thn (hc pins s σ H _ I h) fun d s1 ⟨H1, I1, q1⟩ => ?_)
  cases d with
  | true => exact ha pins s1 σ H1 Q I1 q1
  | false => exact hb pins s1 σ H1 Q I1 q1
end
end L2

namespace L2
open PySem PySem.Spec PyProof.Rows

noncomputable def SqL (K : PySem.W.Frag) (H : Hp) (a : Addr) (xs : List V) : Prop :=
  Rd H a (.lst xs) ∨
    ∃ (o : Obj) (its : Array Value) (n : Nat), K.lookup a = some o ∧ o.cls = .type "list" ∧ o.dict = none ∧ o.data = .seq its n ∧ its.size ≤ sizeLine ∧ Vals xs its.toList
noncomputable def SqT (K : PySem.W.Frag) (H : Hp) (a : Addr) (xs : List V) : Prop :=
  Rd H a (.tup xs) ∨
    ∃ (o : Obj) (its : Array Value) (n : Nat), K.lookup a = some o ∧ o.cls = .type "tuple" ∧ o.data = .seq its n ∧ its.size ≤ sizeLine ∧ Vals xs its.toList
noncomputable def absV : Value → Option V
  | .none => some .non
  | .bool b => some (.bl b)
  | .int i _ => some (.int i)
  | .str x _ => some (.str x)
  | .bytes b _ => some (.byt b)
  | .float b _ => some (.flt b)
  | .ref a => some (.ref a)
  | .type n => some (.ty n)
  | _ => none
theorem RelV.abs {x : V} {u : Value} (r : RelV x u) : absV u = some x := by
  cases x with
  | non => cases r; rfl
  | bl _ => cases r; rfl
  | int _ => obtain ⟨t, rfl⟩ := r; rfl
  | str _ => obtain ⟨t, rfl⟩ := r; rfl
  | byt _ => obtain ⟨t, rfl⟩ := r; rfl
  | flt _ => obtain ⟨t, rfl⟩ := r; rfl
  | ref _ => cases r; rfl
  | ty _ => cases r; rfl
theorem RelV.inj {x y : V} {u : Value} (r : RelV x u) (q : RelV y u) : x = y := Option.some.inj (r.abs.symm.trans q.abs)
theorem Vals.inj : ∀ {xs ys : List V} {us : List Value}, Vals xs us → Vals ys us → xs = ys
  | _, _, _, .nil, .nil => rfl
  | _, _, _, .cons r t, .cons r' t' => by rw [r.inj r', Vals.inj t t']
section
variable {X : Cx} {pins : List (Addr × Obj)} {σ : St} {H : Hp} {s : Shared} {a : Addr} {xs ys : List V}
theorem SqL.of {K : PySem.W.Frag} (h : H a = some (.lst xs)) : SqL K H a xs := .inl (.inl h)
theorem SqT.of {K : PySem.W.Frag} (h : H a = some (.tup xs)) : SqT K H a xs := .inl (.inl h)
theorem Inv.list (I : Inv X pins σ H s) (h : SqL X.K H a xs) : ∃ its : List Value, Vals xs its ∧ PlainL s.heap a its.toArray ∧ xs.length ≤ sizeLine := by
  rcases h with h | ⟨o, its, n, hk, hc, hd, hs, hz, r⟩
  · obtain ⟨z, its, n, r, e⟩ := h.ok I.hok
    exact ⟨its, r, ⟨_, n, e, rfl, rfl, rfl⟩, z⟩
  · refine ⟨its.toList, r, ⟨o, n, I.kIn a o hk, hc, hd, by simpa using hs⟩, ?_⟩
    have e := r.length
    simp only [Array.length_toList] at e
    omega
theorem Inv.tuple (I : Inv X pins σ H s) (h : SqT X.K H a xs) : ∃ its : List Value, Vals xs its ∧ IsTup s.heap a its.toArray ∧ xs.length ≤ sizeLine := by
  rcases h with h | ⟨o, its, n, hk, hc, hs, hz, r⟩
  · obtain ⟨z, its, r, p⟩ := h.ok I.hok
    exact ⟨its, r, p, z⟩
  · refine ⟨its.toList, r, ⟨o, I.kIn a o hk, hc, n, by simpa using hs⟩, ?_⟩
    have e := r.length
    simp only [Array.length_toList] at e
    omega
theorem Inv.list_inj (I : Inv X pins σ H s) (h : SqL X.K H a xs) (h' : SqL X.K H a ys) : xs = ys := by
  obtain ⟨its, r, ⟨o, n, e, _, _, d⟩, _⟩ := I.list h
  obtain ⟨its', r', ⟨o', n', e', _, _, d'⟩, _⟩ := I.list h'
  rw [e] at e'; cases e'
  rw [d] at d'
  injection d' with d1 _
  have : its = its' := by simpa using congrArg Array.toList d1
  subst this
  exact r.inj r'
theorem Inv.tuple_inj (I : Inv X pins σ H s) (h : SqT X.K H a xs) (h' : SqT X.K H a ys) : xs = ys := by
  obtain ⟨its, r, ⟨o, e, _, n, d⟩, _⟩ := I.tuple h
  obtain ⟨its', r', ⟨o', e', _, n', d'⟩, _⟩ := I.tuple h'
  rw [e] at e'; cases e'
  rw [d] at d'
  injection d' with d1 _
  have : its = its' := by simpa using congrArg Array.toList d1
  subst this
  exact r.inj r'
end

noncomputable abbrev Cx.wish (X : Cx) (E : Value → Shared → Prop) : Cx := { X with xe := E }
noncomputable abbrev Cx.nox (X : Cx) : Cx := X.wish fun _ _ => False
theorem Cx.Ok.wish {X : Cx} (ok : X.Ok) (E : Value → Shared → Prop) : (X.wish E).Ok :=
  ⟨ok.mod, ok.kind, ok.glob, ok.blt, ok.above, ok.inj, ok.has, ok.cab, ok.hd, ok.frames, ok.stk, ok.exf, ok.bs, ok.bsz, ok.noex, ok.exfs, ok.funs, ok.frf⟩
theorem Cx.Ok.unwish {X : Cx} {E : Value → Shared → Prop} (ok : (X.wish E).Ok) : X.Ok :=
  ⟨ok.mod, ok.kind, ok.glob, ok.blt, ok.above, ok.inj, ok.has, ok.cab, ok.hd, ok.frames, ok.stk, ok.exf, ok.bs, ok.bsz, ok.noex, ok.exfs, ok.funs, ok.frf⟩
section
variable {X : Cx} {pins : List (Addr × Obj)} {σ : St} {H : Hp} {s : Shared} {E : Value → Shared → Prop}
theorem Inv.wish (I : Inv X pins σ H s) (E : Value → Shared → Prop) : Inv (X.wish E) pins σ H s := ⟨I.ok.wish E, I.os, I.bare, I.base, I.loc, I.cell, I.free, I.freeC, I.pin, I.hok, I.len⟩
theorem Inv.unwish (I : Inv (X.wish E) pins σ H s) : Inv X pins σ H s := ⟨I.ok.unwish, I.os, I.bare, I.base, I.loc, I.cell, I.free, I.freeC, I.pin, I.hok, I.len⟩
theorem SP.unwish {D : Ends} {f : Flow} {s' : Shared} (h : SP (X.wish E) pins D f s') : SP X pins D f s' := by
  cases f with
  | next => obtain ⟨σ', H', I, q⟩ := h; exact ⟨σ', H', I.unwish, q⟩
  | brk => obtain ⟨σ', H', I, q⟩ := h; exact ⟨σ', H', I.unwish, q⟩
  | cont => obtain ⟨σ', H', I, q⟩ := h; exact ⟨σ', H', I.unwish, q⟩
  | ret u => obtain ⟨v, σ', H', I, r, q⟩ := h; exact ⟨v, σ', H', I.unwish, r, q⟩
theorem PSs.nox {st : List Stmt} {t : TS} (h : PSs X.nox st t) : PSs X st t := fun pins s σ H D I hw =>
  wpAny_mono (h pins s σ H D (I.wish _) hw) (fun _ _ q => q.unwish) fun _ _ z => False.elim z
end

section
variable {X : Cx} {st : Stmt} {rest : List Stmt} {t u : TS} {e : Expr} {te : TE} {pos : Pos}
noncomputable def tNext : TS := fun D σ H => D.nx σ H
noncomputable def tSeq (t u : TS) : TS := fun D σ H => t { D with nx := u D } σ H
theorem pss_nil : PSs X [] tNext := fun _ _ σ H _ I h => wpAny_execs_nil ⟨σ, H, I, h⟩
theorem pss_cons (h1 : PS X st t) (h2 : PSs X rest u) : PSs X (st :: rest) (tSeq t u) := by
  intro pins s σ H D I h
  refine wpAny_execs_cons (thn (h1 pins s σ H { D with nx := u D } I h) fun f s1 q => ?_)
  cases f with
  | next =>
    obtain ⟨σ', H', I', q⟩ := q
    exact h2 pins s1 σ' H' D I' q
  | ret v => exact q
  | brk => exact q
  | cont => exact q
theorem pss_one (h1 : PS X st t) : PSs X [st] t := by
  intro pins s σ H D I h
  refine wpAny_execs_cons (thn (h1 pins s σ H D I h) fun f s1 q => ?_)
  cases f with
  | next => exact wpAny_execs_nil q
  | ret v => exact q
  | brk => exact q
  | cont => exact q
theorem Inv.quiet {pins : List (Addr × Obj)} {σ : St} {H : Hp} {s : Shared} (I : Inv X pins σ H s) : interactive X.env = false := by simp [interactive, I.ok.kind]
noncomputable def tDrop (te : TE) : TS := fun D σ H => te σ H fun _ H1 => D.nx σ H1
theorem ps_expr (he : PE X e te) (hs : swapsWith e none pos.line X.env = pure false := by rfl) : PS X (.Expr e pos) (tDrop te) := by
  intro pins s σ H D I h
  exact wpAny_Expr_any (thn (he pins s σ H _ I h) fun v s1 ⟨x, H1, I1, r1, q1⟩ => ⟨σ, H1, I1, q1⟩) I.quiet hs
noncomputable def tRet (te : TE) : TS := fun D σ H => te σ H D.rt
theorem ps_ret (he : PE X e te) : PS X (.Return (some e) pos) (tRet te) := by
  intro pins s σ H D I h
  exact wpAny_Return_some (thn (he pins s σ H _ I h) fun v s1 ⟨x, H1, I1, r1, q1⟩ => ⟨x, σ, H1, I1, r1, q1⟩)
noncomputable def tIfS (c : TT) (t u : TS) : TS := fun D σ H => c σ H fun b H1 => if b = true then t D σ H1 else u D σ H1
theorem ps_if {c : Expr} {a b : List Stmt} {tc : TT} (hc : PT X c tc) (ha : PSs X a t) (hb : PSs X b u) : PS X (.If c a b pos) (tIfS tc t u) := by
  intro pins s σ H D I h
  refine wpAny_If (thn (hc pins s σ H _ I h) fun d s1 ⟨H1, I1, q1⟩ => ?_)
  cases d with
  | true => exact ha pins s1 σ H1 D I1 q1
  | false => exact hb pins s1 σ H1 D I1 q1
end

noncomputable abbrev TG := V → St → Hp → (St → Hp → Prop) → Prop
noncomputable abbrev TGs := List V → St → Hp → (St → Hp → Prop) → Prop
noncomputable def PG (X : Cx) (target : Expr) (t : TG) : Prop :=
  ∀ (pins : List (Addr × Obj)) (s : Shared) (σ : St) (H : Hp) (v : V) (u : Value) (Q : St → Hp → Prop), Inv X pins σ H s → RelV v u → t v σ H Q →
    wpAny (model X.prog X.w) X.A (assign target X.env u) (fun _ s' => ∃ σ' H', Inv X pins σ' H' s' ∧ Q σ' H') X.xe s
noncomputable def PGs (X : Cx) (ts : List Expr) (t : TGs) : Prop :=
  ∀ (pins : List (Addr × Obj)) (s : Shared) (σ : St) (H : Hp) (vs : List V) (us : List Value) (Q : St → Hp → Prop), Inv X pins σ H s → Vals vs us → t vs σ H Q →
    wpAny (model X.prog X.w) X.A (assignInOrder ((assignEach ts X.env).map (·.2)) us) (fun _ s' => ∃ σ' H', Inv X pins σ' H' s' ∧ Q σ' H') X.xe s
noncomputable abbrev TSet := V → V → V → Hp → (Hp → Prop) → Prop
noncomputable def PSet (X : Cx) (t : TSet) : Prop :=
  ∀ (pins : List (Addr × Obj)) (s : Shared) (σ : St) (H : Hp) (o i v : V) (ov iv u : Value) (Q : Hp → Prop), Inv X pins σ H s → RelV o ov → RelV i iv → RelV v u → t o i v H Q →
    wpAny (model X.prog X.w) X.A (setItem ov iv u) (fun _ s' => ∃ H', Inv X pins σ H' s' ∧ Q H') X.xe s
noncomputable abbrev TIp := V → V → Hp → VK → Prop
noncomputable def PIp (X : Cx) (op : Operator) (t : TIp) : Prop :=
  ∀ (pins : List (Addr × Obj)) (s : Shared) (σ : St) (H : Hp) (x y : V) (v u : Value) (Q : VK), Inv X pins σ H s → RelV x v → RelV y u → t x y H Q →
    wpAny (model X.prog X.w) X.A (inplaceOp op v u) (EP X pins σ Q) X.xe s
section
variable {X : Cx} {pos : Pos}
noncomputable def gName (i : Nat) : TG := fun v σ H Q => Q (σ.set i (some v)) H
theorem pg_name {i : Nat} {x : Str} (hN : X.N.Nodup) (hi : X.N[i]? = some x) (hx : Loc X.env.scope x) (hf : X.fn x = true ∨ X.env.scope.names.lookup x = some .local := by first | exact .inl rfl | exact .inr rfl | assumption) : PG X (.Name x pos) (gName i) := by
  intro pins s σ H v u Q I r h
  exact wpAny_assign_Name (store_ok I hN hi hx r (fun s' I' => ⟨_, H, I', h⟩) hf)
noncomputable def gNil : TGs := fun vs σ H Q => vs = [] ∧ Q σ H
noncomputable def gCons (t : TG) (u : TGs) : TGs := fun vs σ H Q => ∃ v r, vs = v :: r ∧ t v σ H fun σ' H' => u r σ' H' Q
theorem pgs_nil : PGs X [] gNil := by
  intro pins s σ H vs us Q I r h
  obtain ⟨e, h⟩ := h
  subst e
  cases r
  exact assignInOrder_nil ⟨σ, H, I, h⟩
theorem pgs_cons {e : Expr} {es : List Expr} {t : TG} {u : TGs} (h1 : PG X e t) (h2 : PGs X es u)
    (hs : (assignEach (e :: es) X.env).map (·.2) = assign e X.env :: (assignEach es X.env).map (·.2) := by rfl) : PGs X (e :: es) (gCons t u) := by
  intro pins s σ H vs us Q I r h
  obtain ⟨v, vr, e1, h⟩ := h
  subst e1
  cases r with
  | cons r rr =>
    rw [hs]
    refine assignInOrder_cons (thn (h1 pins s σ H _ _ _ I r h) fun _ s1 ⟨σ1, H1, I1, q1⟩ => ?_)
    exact h2 pins s1 σ1 H1 _ _ Q I1 rr q1
noncomputable def gTup (K : PySem.W.Frag) (n : Nat) (t : TGs) : TG := fun v σ H Q => ∃ a xs, v = .ref a ∧ SqT K H a xs ∧ xs.length = n ∧ t xs σ H Q
theorem pg_tup {es : List Expr} {k : Nat} {t : TGs} {n : Nat} (hc : X.calm = true) (h : PGs X es t)
    (hn : (assignEach es X.env).length = n := by rfl) (hst : (assignEach es X.env).findIdx? (·.1) = none := by rfl) : PG X (.Tuple es k pos) (gTup X.K n t) := by
  intro pins s σ H v u Q I r hw
  obtain ⟨a, xs, e1, hq, hl, hw⟩ := hw
  subst e1
  cases r
  obtain ⟨its, rv, ht, hz⟩ := I.tuple hq
  refine assign_Tuple_tuple (I.ok.hd hc) ht (by simp [hn, ← hl, rv.length]) hst fun h' hx => ?_
  have I1 : Inv X pins σ H { s with heap := h' } := I.kept (t' := s.toks) fun b o e => hx b o (Nat.ne_of_lt (Heap.lt_size e)) e
  exact h pins _ σ H xs _ Q I1 (by simpa using rv) hw
noncomputable def gSub (to ti : TE) (t : TSet) : TG := fun v σ H Q => to σ H fun o H1 => ti σ H1 fun i H2 => t o i v H2 fun H3 => Q σ H3
theorem pg_sub {o i : Expr} {to ti : TE} {t : TSet} (ho : PE X o to) (hi : PE X i ti) (hs : PSet X t)
    (ha : ∀ v, assign (.Subscript o i pos) X.env v = (do
      let ov ← holding [v] (eval o X.env)
      let iv ← holding [v, ov] (eval i X.env)
      standAt pos
      holding [v, ov, iv] (setItem ov iv v)
      release [v, ov, iv] []) := by intro _; rfl) : PG X (.Subscript o i pos) (gSub to ti t) := by
  intro pins s σ H v u Q I r h
  rw [ha]
  refine wpAny_bind (wpAny_holding (thn (ho pins s σ H _ I h) fun ov s1 ⟨x, H1, I1, r1, q1⟩ => ?_))
  refine wpAny_bind (wpAny_holding (thn (hi pins s1 σ H1 _ I1 q1) fun iv s2 ⟨y, H2, I2, r2, q2⟩ => ?_))
  refine wpAny_bind (wpAny_standAt (wpAny_bind (wpAny_holding (thn (hs pins s2 σ H2 x y v ov iv u _ I2 r1 r2 r q2) fun _ s3 ⟨H3, I3, q3⟩ => ?_))))
  exact wpAny_release ⟨σ, H3, I3, q3⟩
noncomputable def tAsg (te : TE) (g : TG) : TS := fun D σ H => te σ H fun x H1 => g x σ H1 D.nx
theorem ps_asg {tg e : Expr} {te : TE} {g : TG} (he : PE X e te) (hg : PG X tg g) (hs : swapsWithSole [tg] e pos.line X.env = pure false := by rfl) (hw : swappedStores [tg] e X.env = pure none := by rfl)
    (h1 : (assignEach [tg] X.env).map (·.2) = [assign tg X.env] := by rfl) : PS X (.Assign [tg] e pos) (tAsg te g) := by
  intro pins s σ H D I h
  refine wpAny_Assign_stores (thn (he pins s σ H _ I h) fun v s1 ⟨x, H1, I1, r1, q1⟩ => ?_) hs hw
  rw [h1]
  exact thn (hg pins s1 σ H1 x v _ I1 r1 q1) fun _ s2 q => q
theorem ps_set {i : Nat} {x : Str} {e : Expr} {te : TE} {pos' : Pos} (hN : X.N.Nodup) (hi : X.N[i]? = some x) (hx : Loc X.env.scope x) (he : PE X e te) (hs : swapsWith e (some (.Name x pos')) pos.line X.env = pure false := by rfl) (hf : X.fn x = true ∨ X.env.scope.names.lookup x = some .local := by first | exact .inl rfl | exact .inr rfl | assumption) :
    PS X (.Assign [.Name x pos'] e pos) (tAsg te (gName i)) := by
  intro pins s σ H D I h
  refine wpAny_Assign_Name (thn (he pins s σ H _ I h) fun v s1 ⟨y, H1, I1, r1, q1⟩ => ?_) hs
  exact store_ok I1 hN hi hx r1 (fun s2 I2 => ⟨_, H1, I2, q1⟩) hf
noncomputable def tAug (i : Nat) (te : TE) (ti : TIp) : TS := fun D σ H => ∃ x, σ[i]? = some (some x) ∧ te σ H fun y H1 => ti x y H1 fun z H2 => D.nx (σ.set i (some z)) H2
theorem ps_aug {i : Nat} {x : Str} {e : Expr} {te : TE} {op : Operator} {ti : TIp} {pos' : Pos} (hN : X.N.Nodup) (hi : X.N[i]? = some x) (hx : Loc X.env.scope x) (he : PE X e te) (ho : PIp X op ti) (hf : X.fn x = true ∨ X.env.scope.names.lookup x = some .local := by first | exact .inl rfl | exact .inr rfl | assumption) :
    PS X (.AugAssign (.Name x pos') op e pos) (tAug i te ti) := by
  intro pins s σ H D I h
  obtain ⟨v, e1, h⟩ := h
  obtain ⟨m, hn, hl⟩ := I.loc
  have vis : Vis X.env.scope x := by rcases hx with k | k; exact .inl k; exact .inr (.inl k)
  obtain ⟨u, r, l⟩ := hl i x v hi e1 vis
  refine wpAny_AugAssign_Name ?_
  have go : wpAny (model X.prog X.w) X.A (eval e X.env) (fun w s₂ => wpAny (model X.prog X.w) X.A (inplaceOp op u w) (fun r s₃ => wpAny (model X.prog X.w) X.A (storeName X.env x r) (fun _ => SP X pins D .next) X.xe s₃) X.xe s₂) X.xe s := by
    refine thn (he pins s σ H _ I h) fun w s1 ⟨y, H1, I1, r1, q1⟩ => ?_
    refine thn (ho pins s1 σ H1 v y u w _ I1 r r1 q1) fun z s2 ⟨zv, H2, I2, r2, q2⟩ => ?_
    exact store_ok I2 hN hi hx r2 (fun s3 I3 => ⟨_, H2, I3, q2⟩) hf
  rcases l with ⟨hk, hm⟩ | ⟨hk, c, hc, hcell⟩
  · exact wpAny_loadName_local I.ok.kind hk hn hm go
  · rcases hk with hk | hk
    · exact wpAny_loadName_cell I.ok.kind hk hc hcell go
    · rcases hx with k | k
      · have : X.env.scope.names.lookup x = some .free := hk
        rw [k] at this; cases this
      · have : X.env.scope.names.lookup x = some .free := hk
        rw [k] at this; cases this
end

section
variable {X : Cx} {pos : Pos}
noncomputable def tWhile (c : TT) (tb : TS) : TS := fun D σ H => ∃ W : Nat → St → Hp → Prop, (∃ m, W m σ H) ∧ ∀ m σ H, W m σ H →
  c σ H fun b H1 => if b = true then ∃ N : St → Hp → Prop, (∀ σ' H', N σ' H' → ∃ m', m' < m ∧ W m' σ' H') ∧ tb { D with nx := N, ct := N, bk := D.nx } σ H1 else D.nx σ H1
theorem ps_while {c : Expr} {body : List Stmt} {tc : TT} {tb : TS} (hp : PassesOwn (model X.prog X.w) X.A X.env X.xe) (hc : PT X c tc) (hb : PSs X body tb) : PS X (.While c body [] pos) (tWhile tc tb) := by
  intro pins s σ H D I h
  obtain ⟨W, ⟨m0, w0⟩, turn⟩ := h
  refine wpAny_While (codeAny_whileLoop (fun n s' => ∃ σ' H', Inv X pins σ' H' s' ∧ W n σ' H') ?_ m0 ⟨σ, H, I, w0⟩)
  rintro n s1 ⟨σ1, H1, I1, w1⟩
  refine wpAny_passesOwn hp (thn (hc pins s1 σ1 H1 _ I1 (turn n σ1 H1 w1)) fun b s2 ⟨H2, I2, q2⟩ => ?_)
  cases b with
  | true =>
    obtain ⟨N, hN, q2⟩ := q2
    rw [if_pos rfl]
    refine wpAny_passesOwn hp (thn (hb pins s2 σ1 H2 _ I2 q2) fun f s3 q3 => ?_)
    cases f with
    | next =>
      obtain ⟨σ3, H3, I3, n3⟩ := q3
      obtain ⟨m', hm, w3⟩ := hN σ3 H3 n3
      exact ⟨m', hm, σ3, H3, I3, w3⟩
    | cont =>
      obtain ⟨σ3, H3, I3, n3⟩ := q3
      obtain ⟨m', hm, w3⟩ := hN σ3 H3 n3
      exact ⟨m', hm, σ3, H3, I3, w3⟩
    | brk => exact q3
    | ret v => exact q3
  | false =>
    rw [if_neg Bool.false_ne_true]
    exact wpAny_execs_nil ⟨σ1, H2, I2, q2⟩
end

structure It where
  go : Nat → Hp → Prop
  yld : Nat → Hp → V → Hp → Prop
  stop : Nat → Hp → Prop
noncomputable def FpOk (X : Cx) (pins : List (Addr × Obj)) (H : Hp) (b : Addr) : Prop :=
  H b = none ∧ b ≠ X.env.locals ∧ b ∉ X.fs ∧ (b ∈ X.ex ∨ X.s₀.heap.objs.size ≤ b) ∧ (∀ x c, X.env.cells.lookup x = some c → c ≠ b) ∧ ∀ p ∈ X.pn ++ pins, p.1 ≠ b
theorem Inv.fpOk {X : Cx} {pins : List (Addr × Obj)} {σ : St} {H H' : Hp} {s : Shared} {b : Addr} (I : Inv X pins σ H s) (hb : s.heap.objs.size ≤ b) (hn : H' b = none) : FpOk X pins H' b := by
  refine ⟨hn, Nat.ne_of_gt (Nat.lt_of_lt_of_le I.lt hb), I.nofs hb, .inr (Nat.le_trans I.sz hb), fun x c e z => ?_, fun p hp z => ?_⟩
  · obtain ⟨v, q⟩ := I.cell x c e
    exact absurd (Nat.lt_of_lt_of_le q.lt (by rw [z]; exact hb)) (Nat.lt_irrefl _)
  · exact absurd (Nat.lt_of_lt_of_le (Heap.lt_size (I.pin p hp).1) (by rw [z]; exact hb)) (Nat.lt_irrefl _)
structure Turn (P : Program) (w : World) (K : PySem.W.Frag) (tg : Expr) (J : It) (fp : List Addr) (it : Addr) (tn : Nat → Heap → Prop) : Prop where
  mem : it ∈ fp
  obj : ∀ i h, tn i h → ∀ b ∈ fp, ∃ o, h.get? b = some o ∧ ∀ v, o.data ≠ .cell v
  keep : ∀ i h h', tn i h → (∀ b ∈ fp, ∀ o, h.get? b = some o → h'.get? b = some o) → tn i h'
  item : ∀ (X : Cx), X.prog = P → X.w = w → X.K = K → X.calm = true → ∀ (i : Nat) (pins : List (Addr × Obj)) (s : Shared) (σ : St) (H : Hp) (E : Value → Shared → Prop), Inv X pins σ H s → (∀ b ∈ fp, FpOk X pins H b) → tn i s.heap → J.go i H →
    wpAny (model P w) X.A (pyNext (.ref it)) (fun r s1 => ∃ u, r = some u ∧
      wpAny (model P w) X.A (letOwnedTupleGo tg (.ref it) u) (fun _ s2 => ∃ x H', Inv X pins σ H' s2 ∧ RelV x u ∧ J.yld i H x H' ∧ tn (i + 1) s2.heap ∧ ∀ b ∈ fp, H' b = none) E s1) E s
  done : ∀ (X : Cx), X.prog = P → X.w = w → X.K = K → X.calm = true → ∀ (i : Nat) (pins : List (Addr × Obj)) (s : Shared) (σ : St) (H : Hp) (E : Value → Shared → Prop), Inv X pins σ H s → (∀ b ∈ fp, FpOk X pins H b) → tn i s.heap → J.stop i H →
    wpAny (model P w) X.A (pyNext (.ref it)) (fun r s1 => r = none ∧ Inv X pins σ H s1) E s
  self : ∀ (A : Around) (i : Nat) (s : Shared) (Q : Value → Shared → Prop) (E : Value → Shared → Prop), tn i s.heap → Q (.ref it) s → wpAny (model P w) A (pyIter (.ref it)) Q E s
noncomputable abbrev TI := St → Hp → (It → Hp → Prop) → Prop
noncomputable def PIE (X : Cx) (pins : List (Addr × Obj)) (σ : St) (tg : Expr) (R : It → Hp → Prop) (itv : Value) (s2 : Shared) : Prop :=
  ∃ (it : Addr) (fp : List Addr) (tn : Nat → Heap → Prop) (J : It) (H' : Hp), itv = .ref it ∧ Inv X pins σ H' s2 ∧ Turn X.prog X.w X.K tg J fp it tn ∧ tn 0 s2.heap ∧ (∀ b ∈ fp, FpOk X pins H' b) ∧ R J H'
noncomputable def PI (X : Cx) (tg iter : Expr) (wi : TI) : Prop :=
  ∀ (pins : List (Addr × Obj)) (s : Shared) (σ : St) (H : Hp) (R : It → Hp → Prop), Inv X pins σ H s → wi σ H R →
    wpAny (model X.prog X.w) X.A (eval iter X.env) (fun v s1 => wpAny (model X.prog X.w) X.A (pyIter v) (PIE X pins σ tg R) X.xe s1) X.xe s

theorem go_of {M : Model} {A : Around} {E : Value → Shared → Prop} {s : Shared} {tg : Expr} {it : Addr} {u : Value} {o : Obj} {n : String} {vs : Array Value} {Q : Unit → Shared → Prop} (ho : s.heap.get? it = some o) (hc : o.cls = .type n) (hd : o.data = .fields vs)
    (hn : ["enumerate", "zip", "dict_itemiterator", "dict_reverseitemiterator", "odict_iterator", "itertools.zip_longest", "itertools.pairwise"].contains n = false) (hQ : Q () s) : wpAny M A (letOwnedTupleGo tg (.ref it) u) Q E s := by
  unfold letOwnedTupleGo
  cases tg <;> first
    | exact wpAny_pure hQ
    | (cases u <;> first
        | exact wpAny_pure hQ
        | (refine wpAny_bind (wpAny_load ho ?_)
           rw [hc, hd]
           show wpAny M A (if (["enumerate", "zip", "dict_itemiterator", "dict_reverseitemiterator", "odict_iterator", "itertools.zip_longest", "itertools.pairwise"].contains n && vs[0]? == some (rawInt _)) = true then _ else _) Q E s
           rw [if_neg (by intro h; rw [hn, Bool.false_and] at h; cases h)]
           exact wpAny_pure hQ))

noncomputable def Itl (K : PySem.W.Frag) (a : Addr) : It :=
  ⟨fun i H => ∃ xs x, SqL K H a xs ∧ xs[i]? = some x, fun i H x H' => H' = H ∧ ∀ xs, SqL K H a xs → xs[i]? = some x, fun i H => ∃ xs, SqL K H a xs ∧ xs.length ≤ i⟩
noncomputable def Itt (K : PySem.W.Frag) (a : Addr) : It :=
  ⟨fun i H => ∃ xs x, SqT K H a xs ∧ xs[i]? = some x, fun i H x H' => H' = H ∧ ∀ xs, SqT K H a xs → xs[i]? = some x, fun i H => ∃ xs, SqT K H a xs ∧ xs.length ≤ i⟩
noncomputable def Itr (lo : Int) (n : Nat) : It := ⟨fun i _ => i < n, fun i H x H' => H' = H ∧ x = .int (lo + i), fun i _ => n ≤ i⟩
theorem turn_list {P : Program} {w : World} {K : PySem.W.Frag} {tg : Expr} (a it : Addr) : Turn P w K tg (Itl K a) [it] it (fun i h => h.IsListIter it a i) where
  mem := by simp
  obj := fun i h st b hb => by
    have e : b = it := by simpa using hb
    subst e
    obtain ⟨o, e, c, d⟩ := st
    exact ⟨o, e, fun v z => by rw [d] at z; cases z⟩
  keep := fun i h h' st k => st.at fun o e => k it (by simp) o e
  item := by
    intro X hP hw hK hc i pins s σ H E I hf st hg
    subst hP hw hK
    obtain ⟨xs, x, hq, hx⟩ := hg
    obtain ⟨its, rv, p, hz⟩ := I.list hq
    obtain ⟨u, hu, ru⟩ := rv.get hx
    obtain ⟨f0, f1, f2, f3, f4, f5⟩ := hf it (by simp)
    refine wpAny_pyNext_list_item st p.isList (x := u) (by simpa using hu) fun h' st' sb => ?_
    have I1 : Inv X pins σ H { s with heap := h' } := I.turned (t' := s.toks) (fun b o hb e => (sb.2 b hb).trans e) f0 f1 f3 f4 f5
    obtain ⟨o, e, c, d⟩ := id st'
    exact ⟨u, rfl, go_of (s := { s with heap := h' }) e c d (by decide) ⟨x, H, I1, ru, ⟨rfl, fun ys hy => by rw [I.list_inj hy hq]; exact hx⟩, st', fun b hb => (hf b hb).1⟩⟩
  done := by
    intro X hP hw hK hc i pins s σ H E I hf st hg
    subst hP hw hK
    obtain ⟨xs, hq, hx⟩ := hg
    obtain ⟨its, rv, p, hz⟩ := I.list hq
    obtain ⟨f0, f1, f2, f3, f4, f5⟩ := hf it (by simp)
    have hl := rv.length
    exact wpAny_pyNext_list_end (I.ok.hd hc) st p.isList (by simp; omega) fun h' eb => ⟨rfl, I.turned (t' := s.toks) (fun b o hb e => eb b o hb e) f0 f1 f3 f4 f5⟩
  self := fun _ _ _ _ _ st h => wpAny_pyIter_listiter st h
theorem turn_tuple {P : Program} {w : World} {K : PySem.W.Frag} {tg : Expr} (a it : Addr) : Turn P w K tg (Itt K a) [it] it (fun i h => h.IsTupleIter it a i) where
  mem := by simp
  obj := fun i h st b hb => by
    have e : b = it := by simpa using hb
    subst e
    obtain ⟨o, e, c, d⟩ := st
    exact ⟨o, e, fun v z => by rw [d] at z; cases z⟩
  keep := fun i h h' st k => st.at fun o e => k it (by simp) o e
  item := by
    intro X hP hw hK hc i pins s σ H E I hf st hg
    subst hP hw hK
    obtain ⟨xs, x, hq, hx⟩ := hg
    obtain ⟨its, rv, p, hz⟩ := I.tuple hq
    obtain ⟨u, hu, ru⟩ := rv.get hx
    obtain ⟨f0, f1, f2, f3, f4, f5⟩ := hf it (by simp)
    refine wpAny_pyNext_tuple_item st (show s.heap.IsTuple a its.toArray from p) (x := u) (by simpa using hu) fun h' st' sb => ?_
    have I1 : Inv X pins σ H { s with heap := h' } := I.turned (t' := s.toks) (fun b o hb e => (sb.2 b hb).trans e) f0 f1 f3 f4 f5
    obtain ⟨o, e, c, d⟩ := id st'
    exact ⟨u, rfl, go_of (s := { s with heap := h' }) e c d (by decide) ⟨x, H, I1, ru, ⟨rfl, fun ys hy => by rw [I.tuple_inj hy hq]; exact hx⟩, st', fun b hb => (hf b hb).1⟩⟩
  done := by
    intro X hP hw hK hc i pins s σ H E I hf st hg
    subst hP hw hK
    obtain ⟨xs, hq, hx⟩ := hg
    obtain ⟨its, rv, p, hz⟩ := I.tuple hq
    obtain ⟨f0, f1, f2, f3, f4, f5⟩ := hf it (by simp)
    have hl := rv.length
    exact wpAny_pyNext_tuple_end (I.ok.hd hc) st (show s.heap.IsTuple a its.toArray from p) (by simp; omega) fun h' eb => ⟨rfl, I.turned (t' := s.toks) (fun b o hb e => eb b o hb e) f0 f1 f3 f4 f5⟩
  self := fun _ _ _ _ _ st h => wpAny_pyIter_tupleiter st h
theorem turn_range {P : Program} {w : World} {K : PySem.W.Frag} {tg : Expr} (it : Addr) (lo : Int) (n : Nat) : Turn P w K tg (Itr lo n) [it] it (fun i h => IsRangeIter h it (lo + (i : Nat) * 1) ((n : Int) - (i : Nat)) 1) where
  mem := by simp
  obj := fun i h st b hb => by
    have e : b = it := by simpa using hb
    subst e
    exact ⟨_, st, fun v z => by
      have z' : Data.fields _ = Data.cell v := z
      cases z'⟩
  keep := fun i h h' st k => k it (by simp) _ st
  item := by
    intro X hP hw hK hc i pins s σ H E I hf st hg
    subst hP hw hK
    obtain ⟨f0, f1, f2, f3, f4, f5⟩ := hf it (by simp)
    have W := Walks.range (prog := X.prog) (w := X.w) (I.ok.hd hc) it lo 1 n
    refine W.item i s _ _ hg st fun v h' tk hv st' kk => ?_
    obtain ⟨t, rfl⟩ := hv
    have I1 : Inv X pins σ H { s with heap := h', toks := tk } := I.turned (fun b o hb e => kk b o (by simpa using hb) e) f0 f1 f3 f4 f5
    refine ⟨_, rfl, go_of (s := { s with heap := h', toks := tk }) (n := "range_iterator") st' rfl rfl (by decide) ⟨.int (lo + i), H, I1, ⟨t, ?_⟩, ⟨rfl, rfl⟩, st', fun b hb => (hf b hb).1⟩⟩
    rw [Int.mul_one]
  done := by
    intro X hP hw hK hc i pins s σ H E I hf st hg
    subst hP hw hK
    obtain ⟨f0, f1, f2, f3, f4, f5⟩ := hf it (by simp)
    exact wpAny_pyNext_range_end (I.ok.hd hc) st (by have : n ≤ i := hg; omega) fun h' eb => ⟨rfl, I.turned (t' := s.toks) (fun b o hb e => eb b o hb e) f0 f1 f3 f4 f5⟩
  self := fun _ _ _ _ _ st h => wpAny_pyIter_rangeiter st h
end L2

namespace L2
open PySem PySem.Spec PyProof.Rows
section
variable {X : Cx} {tg : Expr}
theorem range_it {pins : List (Addr × Obj)} {σ : St} {H : Hp} {s : Shared} {R : It → Hp → Prop} {E : Value → Shared → Prop} {lo hi : Int} {t u v : Tok} {tk : Nat} (I : Inv X pins σ H s) (h1 : -(2 ^ 62) ≤ lo) (h2 : lo < 2 ^ 62) (h3 : -(2 ^ 62) ≤ hi) (h4 : hi < 2 ^ 62)
    (q : R (Itr lo (hi - lo).toNat) H) : wpAny (model X.prog X.w) X.A (pyIter (.ref s.heap.objs.size)) (PIE X pins σ tg R) E { s with heap := s.heap.push { cls := .type "range", data := .fields #[.int lo t, .int hi u, .int 1 v] }, toks := tk } := by
  refine wpAny_pyIter_range (IsRange.new ..) (small_one h1 h2 h3 h4) ?_
  have I1 : Inv X pins σ H { s with heap := s.heap.push { cls := .type "range", data := .fields #[.int lo t, .int hi u, .int 1 v] }, toks := tk } := I.kept fun b o e => Heap.get?_push_of_some _ e
  refine ⟨(s.heap.push { cls := .type "range", data := .fields #[.int lo t, .int hi u, .int 1 v] }).objs.size, [(s.heap.push { cls := .type "range", data := .fields #[.int lo t, .int hi u, .int 1 v] }).objs.size], _, _, H, rfl,
    I1.kept (t' := tk) fun b o e => Heap.get?_push_of_some _ e, turn_range _ lo (hi - lo).toNat, ?_, fun b hb => ?_, q⟩
  · have e1 : lo + ((0 : Nat) : Int) * 1 = lo := by simp
    have e2 : (((hi - lo).toNat : Nat) : Int) - ((0 : Nat) : Int) = Builtin.Range.rangeSize lo hi 1 := by rw [rangeSize_one]; split <;> omega
    show IsRangeIter _ _ (lo + ((0 : Nat) : Int) * 1) ((((hi - lo).toNat : Nat) : Int) - ((0 : Nat) : Int)) 1
    rw [e1, e2]
    exact Heap.get?_push_size _ rfl
  · have e : b = (s.heap.push { cls := .type "range", data := .fields #[.int lo t, .int hi u, .int 1 v] }).objs.size := by simpa using hb
    subst e
    exact I1.fpOk (Nat.le_refl _) (I1.hok.fresh (Nat.le_refl _))
noncomputable def iRng1 (ta : TA) : TI := fun σ H R => ta σ H fun vs H1 => ∃ j : Int, vs = [.int j] ∧ -(2 ^ 62) ≤ j ∧ j < 2 ^ 62 ∧ R (Itr 0 j.toNat) H1
noncomputable def iRng2 (ta : TA) : TI := fun σ H R => ta σ H fun vs H1 => ∃ i j : Int, vs = [.int i, .int j] ∧ (-(2 ^ 62) ≤ i ∧ i < 2 ^ 62 ∧ -(2 ^ 62) ≤ j ∧ j < 2 ^ 62) ∧ R (Itr i (j - i).toNat) H1
theorem pi_range1 {a : Expr} {ta : TA} {p pos : Pos} (hg : Gl X "range") (hm : X.mg "range" = none) (ha : PA X [a] ta) (hs : starEach [a] X.env = [(false, eval a X.env)] := by rfl) : PI X tg (.Call (.Name "range" p) [a] [] pos) (iRng1 ta) := by
  intro pins s σ H R I h
  refine Call_ (ld_blt I hg hm boot_range (PyProof.Rows.callWith_type1 (thn (ha pos pins s σ H _ I h) fun us s1 ⟨vs, H1, I1, r1, q1⟩ => ?_) hs rfl))
  obtain ⟨j, e, q1, q2, q⟩ := q1
  subst e
  cases r1 with
  | cons r rr =>
    cases rr
    obtain ⟨t, rfl⟩ := r
    exact call_range_1 (range_it I1 (by omega) (by omega) q1 q2 (by simpa using q))
theorem pi_range2 {a b : Expr} {ta : TA} {p pos : Pos} (hg : Gl X "range") (hm : X.mg "range" = none) (ha : PA X [a, b] ta) (hs : starEach [a, b] X.env = [(false, eval a X.env), (false, eval b X.env)] := by rfl) (hs2 : starEach [b] X.env = [(false, eval b X.env)] := by rfl) :
    PI X tg (.Call (.Name "range" p) [a, b] [] pos) (iRng2 ta) := by
  intro pins s σ H R I h
  refine Call_ (ld_blt I hg hm boot_range (PyProof.Rows.callWith_type1 (thn (ha pos pins s σ H _ I h) fun us s1 ⟨vs, H1, I1, r1, q1⟩ => ?_) (by rw [hs, hs2]) (by rw [hs2]; rfl)))
  obtain ⟨i, j, e, ⟨q1, q2, q3, q4⟩, q⟩ := q1
  subst e
  cases r1 with
  | cons r rr =>
    cases rr with
    | cons r' rr =>
      cases rr
      obtain ⟨t, rfl⟩ := r
      obtain ⟨t', rfl⟩ := r'
      exact call_range_2 (range_it I1 q1 q2 q3 q4 q)

noncomputable def tFor (wi : TI) (g : TG) (tb : TS) : TS := fun D σ H => wi σ H fun J H1 => ∃ W : Nat → Nat → St → Hp → Prop, (∃ m, W 0 m σ H1) ∧ ∀ i m σ H, W i m σ H →
  (J.stop i H ∧ D.nx σ H) ∨ (J.go i H ∧ ∃ N : St → Hp → Prop, (∀ σ' H', N σ' H' → ∃ m', m' < m ∧ W (i + 1) m' σ' H') ∧ ∀ x H', J.yld i H x H' → g x σ H' fun σ2 H2 => tb { D with nx := N, ct := N, bk := D.nx } σ2 H2)
noncomputable def pinsAt (fp : List Addr) (h : Heap) : List (Addr × Obj) := fp.filterMap fun b => (h.get? b).map fun o => (b, o)
theorem mem_pinsAt {fp : List Addr} {h : Heap} {b : Addr} {o : Obj} (hb : b ∈ fp) (e : h.get? b = some o) : (b, o) ∈ pinsAt fp h := List.mem_filterMap.mpr ⟨b, hb, by rw [e]; rfl⟩
theorem of_pinsAt {fp : List Addr} {h : Heap} {p : Addr × Obj} (hp : p ∈ pinsAt fp h) : p.1 ∈ fp ∧ h.get? p.1 = some p.2 := by
  obtain ⟨b, hb, e⟩ := List.mem_filterMap.mp hp
  cases q : h.get? b with
  | none => rw [q] at e; cases e
  | some o =>
    rw [q] at e
    have e' : (b, o) = p := Option.some.inj e
    subst e'
    exact ⟨hb, q⟩
theorem Inv.pinned {pins : List (Addr × Obj)} {σ : St} {H : Hp} {s : Shared} {fp : List Addr} (I : Inv X pins σ H s) (hf : ∀ b ∈ fp, FpOk X pins H b) (ho : ∀ b ∈ fp, ∃ o, s.heap.get? b = some o ∧ ∀ v, o.data ≠ .cell v) : Inv X (pins ++ pinsAt fp s.heap) σ H s :=
  I.pins_of fun p hp => (List.mem_append.mp hp).elim (fun z => I.pin p (List.mem_append_right _ z)) fun z => by
    obtain ⟨hb, e⟩ := of_pinsAt z
    obtain ⟨f0, f1, f2, _⟩ := hf p.1 hb
    obtain ⟨o, e', d⟩ := ho p.1 hb
    rw [e] at e'; cases e'
    exact ⟨e, f0, f1, f2, d⟩
theorem Inv.unpinned {pins pl : List (Addr × Obj)} {σ : St} {H : Hp} {s : Shared} (I : Inv X (pins ++ pl) σ H s) : Inv X pins σ H s := I.pins_of fun p hp => I.pin p (List.mem_append_right _ (List.mem_append_left _ hp))
theorem ps_for {iter : Expr} {body : List Stmt} {wi : TI} {g : TG} {tb : TS} {pos : Pos} (hp : PassesOwn (model X.prog X.w) X.A X.env X.xe) (hc : X.calm = true) (hi : PI X tg iter wi) (hg : PG X tg g) (hb : PSs X body tb)
    (hs : ∀ x, foldedSetIterable iter X.env x = pure x := by intro _; rfl) : PS X (.For tg iter body [] pos) (tFor wi g tb) := by
  intro pins s σ H D I h
  refine wpAny_For (thn (hi pins s σ H _ I h) fun v s1 h1 => thn h1 fun itv s2 h2 => ?_) hs
  obtain ⟨it, fp, tn, J, H2, e, I2, T, st2, f2, W, ⟨m0, w0⟩, turn⟩ := h2
  subst e
  -- what stays true of the iterator's objects through the loop
  have stat : ∀ {H' : Hp}, (∀ b ∈ fp, H' b = none) → ∀ b ∈ fp, FpOk X pins H' b := fun hn b hb => ⟨hn b hb, (f2 b hb).2⟩
  refine codeAny_forLoop_any (fun n s' => ∃ i σ' H', Inv X pins σ' H' s' ∧ tn i s'.heap ∧ (∀ b ∈ fp, H' b = none) ∧ W i n σ' H') ?_ m0 ⟨0, σ, H2, I2, st2, fun b hb => (f2 b hb).1, w0⟩
  rintro n s3 ⟨i, σ3, H3, I3, st3, fr3, w3⟩
  rcases turn i n σ3 H3 w3 with ⟨stop, qn⟩ | ⟨go, N, hN, step⟩
  · refine wpAny_passesOwn hp (thn (T.done X rfl rfl rfl hc i pins s3 σ3 H3 X.xe I3 (stat fr3) st3 stop) fun r s4 ⟨hr, I4⟩ => ?_)
    subst hr
    exact wpAny_execs_nil ⟨σ3, H3, I4, qn⟩
  · refine wpAny_passesOwn hp (thn (T.item X rfl rfl rfl hc i pins s3 σ3 H3 X.xe I3 (stat fr3) st3 go) fun r s4 ⟨u, hr, h4⟩ => ?_)
    subst hr
    refine wpAny_passesOwn hp (thn h4 fun _ s5 ⟨x, H5, I5, r5, y5, st5, fr5⟩ => ?_)
    have I5' := I5.pinned (stat fr5) (T.obj _ _ st5)
    refine wpAny_passesOwn hp (thn (hg _ s5 σ3 H5 x u _ I5' r5 (step x H5 y5)) fun _ s6 ⟨σ6, H6, I6, q6⟩ => ?_)
    refine wpAny_passesOwn hp (thn (hb _ s6 σ6 H6 _ I6 q6) fun f s7 q7 => ?_)
    have again : ∀ {σ7 : St} {H7 : Hp}, Inv X (pins ++ pinsAt fp s5.heap) σ7 H7 s7 → N σ7 H7 → ∃ m, m < n ∧ ∃ i σ' H', Inv X pins σ' H' s7 ∧ tn i s7.heap ∧ (∀ b ∈ fp, H' b = none) ∧ W i m σ' H' := fun {σ7 H7} I7 n7 => by
      obtain ⟨m', hm, w7⟩ := hN σ7 H7 n7
      refine ⟨m', hm, i + 1, σ7, H7, I7.unpinned, T.keep _ _ _ st5 fun b hb o e => (I7.pin (b, o) (List.mem_append_right _ (List.mem_append_right _ (mem_pinsAt hb e)))).1, fun b hb => ?_, w7⟩
      obtain ⟨o, e, d⟩ := T.obj _ _ st5 b hb
      exact (I7.pin (b, o) (List.mem_append_right _ (List.mem_append_right _ (mem_pinsAt hb e)))).2.1
    cases f with
    | next => obtain ⟨σ7, H7, I7, n7⟩ := q7; exact again I7 n7
    | cont => obtain ⟨σ7, H7, I7, n7⟩ := q7; exact again I7 n7
    | brk => obtain ⟨σ7, H7, I7, q7⟩ := q7; exact ⟨σ7, H7, I7.unpinned, q7⟩
    | ret v => obtain ⟨x7, σ7, H7, I7, r7, q7⟩ := q7; exact ⟨x7, σ7, H7, I7.unpinned, r7, q7⟩
end

end L2

namespace L2
open PySem PySem.Spec PyProof.Rows

noncomputable abbrev R2 := V → V → Hp → VK → Prop
noncomputable def OpR (X : Cx) (f : Value → Value → Sem Value) (r : R2) : Prop :=
  ∀ (pins : List (Addr × Obj)) (s : Shared) (σ : St) (H : Hp) (x y : V) (v u : Value) (Q : VK), Inv X pins σ H s → RelV x v → RelV y u → r x y H Q →
    wpAny (model X.prog X.w) X.A (f v u) (EP X pins σ Q) X.xe s
noncomputable def UnR (X : Cx) (f : Value → Sem Value) (r : V → Hp → VK → Prop) : Prop :=
  ∀ (pins : List (Addr × Obj)) (s : Shared) (σ : St) (H : Hp) (x : V) (v : Value) (Q : VK), Inv X pins σ H s → RelV x v → r x H Q →
    wpAny (model X.prog X.w) X.A (f v) (EP X pins σ Q) X.xe s
noncomputable def CallR (X : Cx) (f : Value) (r : List V → Hp → VK → Prop) : Prop :=
  ∀ (pins : List (Addr × Obj)) (s : Shared) (σ : St) (H : Hp) (xs : List V) (us : List Value) (Q : VK), Inv X pins σ H s → Vals xs us → r xs H Q →
    wpAny (model X.prog X.w) X.A (call f us) (EP X pins σ Q) X.xe s
noncomputable def TruR (X : Cx) (r : V → Hp → (Bool → Hp → Prop) → Prop) : Prop :=
  ∀ (pins : List (Addr × Obj)) (s : Shared) (σ : St) (H : Hp) (x : V) (v : Value) (Q : Bool → Hp → Prop), Inv X pins σ H s → RelV x v → r x H Q →
    wpAny (model X.prog X.w) X.A (truthy v) (TP X pins σ Q) X.xe s

noncomputable def tOp (r : R2) (ta tb : TE) : TE := fun σ H Q => ta σ H fun x H1 => tb σ H1 fun y H2 => r x y H2 Q
noncomputable def tUn (r : V → Hp → VK → Prop) (ta : TE) : TE := fun σ H Q => ta σ H fun x H1 => r x H1 Q
noncomputable def rI (C : Int → Int → Prop) (g : Int → Int → V) : R2 := fun x y H Q => ∃ i j, x = .int i ∧ y = .int j ∧ C i j ∧ Q (g i j) H
noncomputable def rI0 (g : Int → Int → V) : R2 := fun x y H Q => ∃ i j, x = .int i ∧ y = .int j ∧ Q (g i j) H
noncomputable def rU (g : Int → V) : V → Hp → VK → Prop := fun x H Q => ∃ i, x = .int i ∧ Q (g i) H

section
variable {X : Cx} {a b c : Expr} {ta tb tc : TE} {pos : Pos}

theorem binT (ha : PE X a ta) (hb : PE X b tb) {pins : List (Addr × Obj)} {s : Shared} {σ : St} {H : Hp} {R : V → V → Hp → Prop} (I : Inv X pins σ H s)
    (h : ta σ H fun x H1 => tb σ H1 fun y H2 => R x y H2) {Q : Value → Shared → Prop} {f : Value → Value → Sem Value}
    (hf : ∀ v u s2 x y H2, Inv X pins σ H2 s2 → RelV x v → RelV y u → R x y H2 → wpAny (model X.prog X.w) X.A (f v u) Q X.xe s2) :
    wpAny (model X.prog X.w) X.A (eval a X.env) (fun v s₁ => wpAny (model X.prog X.w) X.A (eval b X.env) (fun u s₂ => wpAny (model X.prog X.w) X.A (f v u) Q X.xe s₂) X.xe s₁) X.xe s := by
  refine thn (ha pins s σ H _ I h) fun v s1 ⟨x, H1, I1, r1, q1⟩ => ?_
  refine thn (hb pins s1 σ H1 _ I1 q1) fun u s2 ⟨y, H2, I2, r2, q2⟩ => ?_
  exact hf v u s2 x y H2 I2 r1 r2 q2

theorem pe_op {op : Operator} {r : R2} (ho : OpR X (binaryOp op) r) (ha : PE X a ta) (hb : PE X b tb) : PE X (.BinOp a op b pos) (tOp r ta tb) := by
  intro pins s σ H Q I h
  exact wpAny_BinOp (binT ha hb I h fun v u s2 x y H2 I2 rx ry q => ho pins s2 σ H2 x y v u Q I2 rx ry q)
theorem pe_un {op : UnaryOp} {r : V → Hp → VK → Prop} (ho : UnR X (unaryOp op) r) (ha : PE X a ta) : PE X (.UnaryOp op a pos) (tUn r ta) := by
  intro pins s σ H Q I h
  exact UnaryOp_ (thn (ha pins s σ H _ I h) fun v s1 ⟨x, H1, I1, r1, q1⟩ => ho pins s1 σ H1 x v Q I1 r1 q1)
theorem opI {f : Value → Value → Sem Value} {C : Int → Int → Prop} {g : Int → Int → Int}
    (rule : ∀ (i j : Int) (t u : Tok) (s : Shared) (Q : Value → Shared → Prop) (E : Value → Shared → Prop), C i j → Q (.int (g i j) s.toks) { s with toks := s.toks + 1 } → wpAny (model X.prog X.w) X.A (f (.int i t) (.int j u)) Q E s) :
    OpR X f (rI C fun i j => .int (g i j)) := by
  intro pins s σ H x y v u Q I rx ry h
  obtain ⟨i, j, rfl, rfl, hc, q⟩ := h
  obtain ⟨t, rfl⟩ := rx
  obtain ⟨t', rfl⟩ := ry
  exact rule i j t t' s _ _ hc ⟨.int (g i j), H, I.tok _, ⟨_, rfl⟩, q⟩
theorem opI0 {f : Value → Value → Sem Value} {g : Int → Int → Int}
    (rule : ∀ (i j : Int) (t u : Tok) (s : Shared) (Q : Value → Shared → Prop) (E : Value → Shared → Prop), Q (.int (g i j) s.toks) { s with toks := s.toks + 1 } → wpAny (model X.prog X.w) X.A (f (.int i t) (.int j u)) Q E s) :
    OpR X f (rI0 fun i j => .int (g i j)) := by
  intro pins s σ H x y v u Q I rx ry h
  obtain ⟨i, j, rfl, rfl, q⟩ := h
  obtain ⟨t, rfl⟩ := rx
  obtain ⟨t', rfl⟩ := ry
  exact rule i j t t' s _ _ ⟨.int (g i j), H, I.tok _, ⟨_, rfl⟩, q⟩
theorem opB0 {f : Value → Value → Sem Value} {g : Int → Int → Bool}
    (rule : ∀ (i j : Int) (t u : Tok) (s : Shared) (Q : Value → Shared → Prop) (E : Value → Shared → Prop), Q (.bool (g i j)) s → wpAny (model X.prog X.w) X.A (f (.int i t) (.int j u)) Q E s) :
    OpR X f (rI0 fun i j => .bl (g i j)) := by
  intro pins s σ H x y v u Q I rx ry h
  obtain ⟨i, j, rfl, rfl, q⟩ := h
  obtain ⟨t, rfl⟩ := rx
  obtain ⟨t', rfl⟩ := ry
  exact rule i j t t' s _ _ ⟨.bl (g i j), H, I, rfl, q⟩

noncomputable def CDiv (i j : Int) : Prop := 0 < j ∧ j < 1073741824
noncomputable def CPow (i j : Int) : Prop := 0 ≤ j ∧ j ≤ 1000000 ∧ i.natAbs < 2 ^ 64
noncomputable def CMul (i j : Int) : Prop := (-(2 ^ 64) < i ∧ i < 2 ^ 64) ∨ (-(2 ^ 64) < j ∧ j < 2 ^ 64)
theorem CMul.ok {i j : Int} (h : CMul i j) : IntMulOk i j := by
  rcases h with ⟨h1, h2⟩ | ⟨h1, h2⟩
  · exact .of_left (intBits_le_64 h1 h2)
  · exact .of_right (intBits_le_64 h1 h2)
theorem op_add : OpR X (binaryOp .Add) (rI0 fun i j => .int (i + j)) := opI0 fun _ _ _ _ _ _ _ q => add_int q
theorem op_sub : OpR X (binaryOp .Sub) (rI0 fun i j => .int (i - j)) := opI0 fun _ _ _ _ _ _ _ q => sub_int q
theorem op_mul : OpR X (binaryOp .Mult) (rI CMul fun i j => .int (i * j)) := opI fun _ _ _ _ _ _ _ hc q => mul_int q hc.ok
theorem op_fdiv : OpR X (binaryOp .FloorDiv) (rI CDiv fun i j => .int (i / j)) := opI fun i j _ _ _ _ _ hc q => by
  have h1 : (0 : Int) < j := hc.1
  have h2 : j < 1073741824 := hc.2
  exact floordiv_int (by omega) (by rw [Int.fdiv_eq_ediv_of_nonneg i (by omega)]; exact q) (.inl (PyProof.noPylong_small (by omega)))
theorem op_mod : OpR X (binaryOp .Mod) (rI (fun _ j => 0 < j) fun i j => .int (i % j)) := opI fun i j _ _ _ _ _ hc q => by
  have h1 : (0 : Int) < j := hc
  exact mod_int' (by omega) (by rw [Int.fmod_eq_emod_of_nonneg i (by omega)]; exact q)
theorem op_pow : OpR X (binaryOp .Pow) (rI CPow fun i j => .int (i ^ j.toNat)) := opI fun _ _ _ _ _ _ _ hc q => pow_int_small hc.1 hc.2.1 hc.2.2 q
theorem iop_add : OpR X (inplaceOp .Add) (rI0 fun i j => .int (i + j)) := opI0 fun _ _ _ _ _ _ _ q => iadd_int q
theorem unI {f : Value → Sem Value} {g : Int → Int}
    (rule : ∀ (i : Int) (t : Tok) (s : Shared) (Q : Value → Shared → Prop) (E : Value → Shared → Prop), Q (.int (g i) s.toks) { s with toks := s.toks + 1 } → wpAny (model X.prog X.w) X.A (f (.int i t)) Q E s) :
    UnR X f (rU fun i => .int (g i)) := by
  intro pins s σ H x v Q I rx h
  obtain ⟨i, rfl, q⟩ := h
  obtain ⟨t, rfl⟩ := rx
  exact rule i t s _ _ ⟨.int (g i), H, I.tok _, ⟨_, rfl⟩, q⟩
theorem un_neg : UnR X (unaryOp .USub) (rU fun i => .int (-i)) := unI fun _ _ _ _ _ q => neg_int q
end

section
variable {X : Cx} {a b c : Expr} {ta tb tc : TE} {pos : Pos}
theorem fin_bl {pins : List (Addr × Obj)} {σ : St} {H : Hp} {s : Shared} {Q : VK} {k k' : Bool} (I : Inv X pins σ H s) (q : Q (.bl k) H) (e : k = k') : EP X pins σ Q (.bool k') s := by
  subst e
  exact ⟨.bl k, H, I, rfl, q⟩
theorem op_lt : OpR X (compareOp .Lt) (rI0 fun i j => .bl (decide (i < j))) := opB0 fun _ _ _ _ _ _ _ q => lt_int q
theorem op_gt : OpR X (compareOp .Gt) (rI0 fun i j => .bl (decide (j < i))) := opB0 fun _ _ _ _ _ _ _ q => gt_int q
theorem op_ge : OpR X (compareOp .GtE) (rI0 fun i j => .bl (decide (j ≤ i))) := opB0 fun _ _ _ _ _ _ _ q => ge_int q
theorem op_lt_str : OpR X (compareOp .Lt) (fun x y H Q => ∃ i j, x = .str i ∧ y = .str j ∧ Q (.bl (decide (i.cps.toList < j.cps.toList))) H) := by
  intro pins s σ H x y v u Q I rx ry h
  obtain ⟨i, j, rfl, rfl, q⟩ := h
  obtain ⟨t, rfl⟩ := rx
  obtain ⟨t', rfl⟩ := ry
  exact lt_str (fin_bl I q rfl)
theorem op_isN : OpR X (compareOp .Is) (fun x y H Q => y = .non ∧ Q (.bl (decide (x = .non))) H) := by
  intro pins s σ H x y v u Q I rx ry h
  obtain ⟨rfl, q⟩ := h
  cases ry
  refine is_none_gen (fin_bl I q ?_)
  cases x <;> first
    | (cases rx; rfl)
    | (obtain ⟨t, rfl⟩ := rx; rfl)
theorem OpR.or {f : Value → Value → Sem Value} {r r' : R2} (h : OpR X f r) (h' : OpR X f r') : OpR X f (fun x y H Q => r x y H Q ∨ r' x y H Q) := by
  intro pins s σ H x y v u Q I rx ry q
  rcases q with q | q
  · exact h pins s σ H x y v u Q I rx ry q
  · exact h' pins s σ H x y v u Q I rx ry q

theorem pe_cmpR {op : CmpOp} {r : R2} (ho : OpR X (compareOp op) r) (ha : PE X a ta) (hb : PE X b tb) (hm : behindInMarks op b = false) : PE X (.Compare a [op] [b] pos) (tOp r ta tb) := by
  intro pins s σ H Q I h
  exact wpAny_Compare1 (binT ha hb I h fun v u s2 x y H2 I2 rx ry q => ho pins s2 σ H2 x y v u Q I2 rx ry q) hm
noncomputable def tTest (t : TE) : TT := fun σ H Q => t σ H fun x H' => ∃ k, x = .bl k ∧ Q k H'
theorem pt_cmpR {op : CmpOp} {r : R2} (ho : OpR X (compareOp op) r) (ha : PE X a ta) (hb : PE X b tb) (hm : behindInMarks op b = false) : PT X (.Compare a [op] [b] pos) (tTest (tOp r ta tb)) := by
  intro pins s σ H Q I h
  refine wpAny_isTrue_Compare1 (thn (ha pins s σ H _ I h) fun v s1 ⟨x, H1, I1, r1, q1⟩ => thn (hb pins s1 σ H1 _ I1 q1) fun u s2 ⟨y, H2, I2, r2, q2⟩ =>
    thn (ho pins s2 σ H2 x y v u _ I2 r1 r2 q2) fun c s3 ⟨z, H3, I3, r3, k, e, q3⟩ => ?_) hm
  subst e
  cases r3
  exact wpAny_truthy_bool ⟨H3, I3, q3⟩
noncomputable def TruV (K : PySem.W.Frag) (x : V) (H : Hp) (k : Bool) : Prop :=
  match x with
  | .non => k = false
  | .bl b => k = b
  | .int i => k = (i != 0)
  | .str y => y.length ≤ sizeLine ∧ k = ((y.length : Int) != 0)
  | .byt y => y.size ≤ sizeLine ∧ k = ((y.size : Int) != 0)
  | .ref p => (∃ xs, SqL K H p xs ∧ k = !xs.isEmpty) ∨ (∃ xs, SqT K H p xs ∧ k = !xs.isEmpty) ∨ ∃ kvs, H p = some (.dK kvs) ∧ k = !kvs.isEmpty
  | _ => False
theorem isEmpty_kv {κ : Type} {kvs : List (κ × V)} {vs : List (κ × Value)} (r : KV kvs vs) : (!vs.isEmpty) = !kvs.isEmpty := by
  cases r <;> rfl
theorem isEmpty_of {xs : List V} {its : List Value} (r : Vals xs its) : (!its.toArray.isEmpty) = !xs.isEmpty := by
  cases r <;> simp
theorem line63 : (sizeLine : Nat) < 2 ^ 63 := by rw [sizeLine_eq]; decide
theorem tru_ok : TruR X (fun x H Q => ∃ k, TruV X.K x H k ∧ Q k H) := by
  intro pins s σ H x v Q I rx h
  obtain ⟨k, e, q⟩ := h
  have hl := line63
  have hs : sizeLine = 16777216 := sizeLine_eq
  cases x with
  | non =>
    cases rx
    have e' : k = false := e
    subst e'
    exact truthy_none ⟨H, I, q⟩
  | bl b =>
    cases rx
    have e' : k = b := e
    subst e'
    exact wpAny_truthy_bool ⟨H, I, q⟩
  | int i =>
    obtain ⟨t, rfl⟩ := rx
    have e' : k = (i != 0) := e
    subst e'
    exact PySem.P.truthy_int ⟨H, I, q⟩
  | str y =>
    obtain ⟨t, rfl⟩ := rx
    obtain ⟨hy, e'⟩ : y.length ≤ sizeLine ∧ k = ((y.length : Int) != 0) := e
    subst e'
    exact PySem.P.truthy_str (by omega) ⟨H, I.tok _, q⟩
  | byt y =>
    obtain ⟨t, rfl⟩ := rx
    obtain ⟨hy, e'⟩ : y.size ≤ sizeLine ∧ k = ((y.size : Int) != 0) := e
    subst e'
    exact PySem.W.truthy_bytes (by omega) ⟨H, I.tok _, q⟩
  | ref p =>
    cases rx
    have e' : (∃ xs, SqL X.K H p xs ∧ k = !xs.isEmpty) ∨ (∃ xs, SqT X.K H p xs ∧ k = !xs.isEmpty) ∨ ∃ kvs, H p = some (.dK kvs) ∧ k = !kvs.isEmpty := e
    rcases e' with ⟨xs, hx, e'⟩ | ⟨xs, hx, e'⟩ | ⟨kvs, hx, e'⟩
    · subst e'
      obtain ⟨its, r, pl, hz⟩ := I.list hx
      have hlen := r.length
      exact wpAny_truthy_list pl.isList (by simp only [List.size_toArray]; omega) ⟨H, I.tok _, by rw [isEmpty_of r]; exact q⟩
    · subst e'
      obtain ⟨its, r, pl, hz⟩ := I.tuple hx
      have hlen := r.length
      exact truthy_tuple pl (by simp only [List.size_toArray]; omega) ⟨H, I.tok _, by rw [isEmpty_of r]; exact q⟩
    · subst e'
      obtain ⟨hz, hS, vs, r, m⟩ : kvs.length ≤ sizeLine ∧ (p == sysModules) = false ∧ ∃ vs, KV kvs vs ∧ s.heap.DictOf (mixKind X.prog X.w) p vs := I.hok p _ hx
      have hlen : kvs.length = vs.length := Paired.length r
      exact wpAny_truthy_dict hS m (by omega) ⟨H, I.tok _, by rw [isEmpty_kv r]; exact q⟩
  | _ => exact (show False from e).elim
theorem pt_truth (ha : PE X a ta) (he : ∀ whole, isTrue a X.env whole = (do let v ← whole; standAt a.pos; holding [v] (truthy v))) :
    PT X a (fun σ H Q => ta σ H fun x H' => ∃ k, TruV X.K x H' k ∧ Q k H') := by
  intro pins s σ H Q I h
  exact isTrue_plain (thn (ha pins s σ H _ I h) fun v s1 ⟨x, H1, I1, r1, q1⟩ => tru_ok pins s1 σ H1 x v Q I1 r1 q1) (he _)

theorem op_add_str : OpR X (binaryOp .Add) (fun x y H Q => ∃ i j, x = .str i ∧ y = .str j ∧ i.length + j.length ≤ sizeLine ∧ Q (.str (i ++ j)) H) := by
  intro pins s σ H x y v u Q I rx ry h
  obtain ⟨i, j, rfl, rfl, hz, q⟩ := h
  obtain ⟨t, rfl⟩ := rx
  obtain ⟨t', rfl⟩ := ry
  exact add_str (fun t' tk => ⟨.str (i ++ j), H, I.tok _, ⟨_, rfl⟩, q⟩) hz
theorem vals1 {x : V} {us : List Value} (r : Vals [x] us) : ∃ u, us = [u] ∧ RelV x u := by
  cases r with
  | cons r1 r2 => cases r2; exact ⟨_, rfl, r1⟩
theorem vals2 {x y : V} {us : List Value} (r : Vals [x, y] us) : ∃ u w', us = [u, w'] ∧ RelV x u ∧ RelV y w' := by
  cases r with
  | cons r1 r2 =>
    cases r2 with
    | cons r3 r4 => cases r4; exact ⟨_, _, rfl, r1, r3⟩
theorem call_max2 (hc : X.calm = true) : CallR X (.builtin "max") (fun xs H Q => ∃ i j, xs = [.int i, .int j] ∧ Q (.int (if j > i then j else i)) H) := by
  intro pins s σ H xs us Q I r h
  obtain ⟨i, j, rfl, q⟩ := h
  obtain ⟨u, w', rfl, ⟨t, rfl⟩, ⟨t', rfl⟩⟩ := vals2 r
  refine max_two_ints (I.ok.hd hc) fun h' tk k => ⟨_, H, I.kept k, ?_, q⟩
  by_cases hj : j > i
  · rw [if_pos hj, if_pos hj]; exact ⟨_, rfl⟩
  · rw [if_neg hj, if_neg hj]; exact ⟨_, rfl⟩
theorem call_min2 (hc : X.calm = true) : CallR X (.builtin "min") (fun xs H Q => ∃ i j, xs = [.int i, .int j] ∧ Q (.int (if j < i then j else i)) H) := by
  intro pins s σ H xs us Q I r h
  obtain ⟨i, j, rfl, q⟩ := h
  obtain ⟨u, w', rfl, ⟨t, rfl⟩, ⟨t', rfl⟩⟩ := vals2 r
  refine min_two_ints (I.ok.hd hc) fun h' tk k => ⟨_, H, I.kept k, ?_, q⟩
  by_cases hj : j < i
  · rw [if_pos hj, if_pos hj]; exact ⟨_, rfl⟩
  · rw [if_neg hj, if_neg hj]; exact ⟨_, rfl⟩
end
end L2

namespace L2
open PySem PySem.Spec PyProof.Rows

section
variable {prog : Program} {w : World} {A : Around} {E : Value → Shared → Prop} {s : Shared} {K : PySem.W.Frag} {x dx C f : Addr} {mA : Str → Option Value} {name : Str} {v : Value}

end

section
variable {P : Program} {w : World} {H H' : Hp} {h h' : Heap} {a C dx : Addr} {fs fs' : List (Str × V)}
end

structure Cls (K : PySem.W.Frag) (C : Addr) : Prop where
  pg : PySem.W.plainGet K C Str.empty = true
  hd : PySem.W.hasDictIn K C = true
  po : PySem.W.plainOver K C = true
  sa : PySem.W.findIn K (.ref C) "__setattr__" = some (some (.builtin "object.__setattr__"))
section
variable {X : Cx} {pins : List (Addr × Obj)} {σ : St} {H : Hp} {s : Shared} {a C dx : Addr} {fs : List (Str × V)} {f : Str} {v : V} {A : Around} {E : Value → Shared → Prop}

end

section
variable {X : Cx} {o e value : Expr} {f : Str} {pos pos' tpos : Pos} {ta tv : TE}
end

section
variable {X : Cx} {pins : List (Addr × Obj)} {σ : St} {H : Hp} {s : Shared} {A : Around} {E : Value → Shared → Prop} {Q : Value → Shared → Prop} {c : Value} {b : Bool}
inductive TyOf (K : PySem.W.Frag) (H : Hp) : V → Value → Prop where
  | non : TyOf K H .non (.type "NoneType")
  | bl (x : Bool) : TyOf K H (.bl x) (.type "bool")
  | int (i : Int) : TyOf K H (.int i) (.type "int")
  | str (x : Str) : TyOf K H (.str x) (.type "str")
  | flt (x : UInt64) : TyOf K H (.flt x) (.type "float")
  | lst {a : Addr} {xs : List V} (e : H a = some (.lst xs)) : TyOf K H (.ref a) (.type "list")
  | frz {a : Addr} {o : Obj} {xs : List V} (e : H a = some (.frz o (.lst xs))) : TyOf K H (.ref a) (.type "list")
  | tup {a : Addr} {xs : List V} (e : H a = some (.tup xs)) : TyOf K H (.ref a) (.type "tuple")
  | dK {a : Addr} {kvs : List (Key × V)} (e : H a = some (.dK kvs)) : TyOf K H (.ref a) (.type "dict")
  | dT {a : Addr} {kvs : List (List Key × V)} (e : H a = some (.dT kvs)) : TyOf K H (.ref a) (.type "dict")
  | ins {a C dx : Addr} {fs : List (Str × V)} (e : H a = some (.ins C dx fs)) (cl : Cls K C) (ha : PySem.W.findIn K (.ref C) "__class__" = some (some (.builtin "object.__class__")))
      (hn : PySem.W.specialIn K (.builtin "object.__class__") "__get__" = some (some (.builtin "getset_descriptor.__get__"))) (htk : PySem.W.takesIn K (.builtin "object.__class__") = some true)
      (hm : PySem.W.mroIn K C (.type "object") = some true) : TyOf K H (.ref a) (.ref C)
end
end L2

namespace L2
open PySem PySem.Spec PyProof.Rows

structure Room (k : Nat) (A : Around) : Prop where
  hd : A.handled = none
  dp : A.depth + 3 * k + 5 < recursionLimit
  un : A.units + 16 * k + 200 < cLine
theorem Room.mono {j k : Nat} {A : Around} (r : Room k A) (h : j ≤ k) : Room j A := ⟨r.hd, by have := r.dp; omega, by have := r.un; omega⟩
theorem Room.deeper {k : Nat} {A : Around} (r : Room (k + 1) A) (env : Env) : Room k (A.deeper env) :=
  ⟨r.hd, by have := r.dp; show A.depth + 1 + 3 * k + 5 < _; omega, by have := r.un; show A.units + 3 + 16 * k + 200 < _; omega⟩
theorem Room.depth {k : Nat} {A : Around} (r : Room k A) : A.depth < recursionLimit := by have := r.dp; omega
theorem Room.units {k : Nat} {A : Around} (r : Room k A) : A.units + 64 < cLine := by have := r.un; omega
noncomputable def tNil : TA := fun _ H Q => Q [] H
noncomputable def tCons (ta : TE) (tr : TA) : TA := fun σ H Q => ta σ H fun x H1 => tr σ H1 fun xs H2 => Q (x :: xs) H2
section
variable {X : Cx} {e : Expr} {es : List Expr} {te : TE} {t : TA} {pos : Pos}
theorem pa_nil : PA X [] tNil := fun _ _ _ _ H Q I h => Calls.spliced_nil ⟨[], H, I, .nil, h⟩
theorem pa_cons (ha : PE X e te) (hr : PA X es t) (hs : starEach (e :: es) X.env = (false, eval e X.env) :: starEach es X.env := by rfl) : PA X (e :: es) (tCons te t) := by
  intro pos pins s σ H Q I h
  rw [hs]
  show wpAny _ _ (spliced ((false, eval e X.env) :: backTo pos (starEach es X.env))) _ _ s
  refine Calls.spliced_cons (thn (ha pins s σ H _ I h) fun u s1 ⟨x, H1, I1, r1, q1⟩ => ?_)
  exact thn (hr pos pins s1 σ H1 _ I1 q1) fun us s2 ⟨xs, H2, I2, r2, q2⟩ => ⟨x :: xs, H2, I2, .cons r1 r2, q2⟩

noncomputable def tTup (t : TA) : TE := fun σ H Q => t σ H fun xs H1 => xs.length ≤ sizeLine ∧ ∀ p, H1 p = none → Q (.ref p) (upd H1 p (.tup xs))
noncomputable def tLst (t : TA) : TE := fun σ H Q => t σ H fun xs H1 => xs.length ≤ sizeLine ∧ ∀ p, H1 p = none → Q (.ref p) (upd H1 p (.lst xs))
theorem pe_tup {x1} (h : PA X es t) : PE X (.Tuple es x1 pos) (tTup t) := by
  intro pins s σ H Q I hq
  refine wpAny_Tuple_spliced (thn (h pos pins s σ H _ I hq) fun us s1 ⟨xs, H1, I1, r, z, q⟩ => ⟨by rw [← r.length]; exact z, ?_⟩)
  have hf : H1 s1.heap.objs.size = none := I1.hok.fresh (Nat.le_refl _)
  refine ⟨.ref s1.heap.objs.size, upd H1 s1.heap.objs.size (.tup xs), I1.laid (t' := s1.toks) (fun b u e => Heap.get?_push_of_some _ e) (Nat.le_refl _) ?_, rfl, q _ hf⟩
  exact ⟨z, us, r, ⟨_, Heap.get?_push_size _ rfl, rfl, _, rfl⟩⟩
theorem pe_lst (h : PA X es t) : PE X (.List es pos) (tLst t) := by
  intro pins s σ H Q I hq
  refine wpAny_List_spliced (thn (h pos pins s σ H _ I hq) fun us s1 ⟨xs, H1, I1, r, z, q⟩ => ⟨by rw [← r.length]; exact z, ?_⟩)
  have hf : H1 s1.heap.objs.size = none := I1.hok.fresh (Nat.le_refl _)
  refine ⟨.ref s1.heap.objs.size, upd H1 s1.heap.objs.size (.lst xs), I1.laid (t' := s1.toks) (fun b u e => Heap.get?_push_of_some _ e) (Nat.le_refl _) ?_, rfl, q _ hf⟩
  exact ⟨z, us, 0, r, Heap.get?_push_size _ rfl⟩
end

noncomputable abbrev Sp := List V → Hp → VK → XK → Prop
noncomputable abbrev CXT := List Env → Hp → Shared → XK → Value → Shared → Prop

structure Env0 (P : Program) (w : World) (K : PySem.W.Frag) (mg : Str → Option Value) (base : Heap) (A : Around) (outer : List Env) (s : Shared) (H : Hp) : Prop where
  frames : A.frames = some outer
  mod : Mod K mg base
  bs : ∀ b o, base.get? b = some o → s.heap.get? b = some o ∧ H b = none
  bsz : base.objs.size ≤ s.heap.objs.size
  funs : s.heap.FunFrames base outer
  frf : ∀ b ∈ frs outer, H b = none
  hok : HOk P w H s.heap
  bare : AllBare s.gens
noncomputable def CE (outer : List Env) (P : Program) (w : World) (H : Hp) (s : Shared) (Q : VK) (u : Value) (s' : Shared) : Prop :=
  ∃ v H', s'.os = s.os ∧ AllBare s'.gens ∧ Un (frs outer) [] H H' s.heap s'.heap ∧ HOk P w H' s'.heap ∧ RelV v u ∧ Q v H'
noncomputable def CR (CX : CXT) (outer : List Env) (P : Program) (w : World) (H : Hp) (s : Shared) (Q : VK) (E : XK) (r : Result) (s' : Shared) : Prop :=
  match r with
  | .ok (.ret u) => CE outer P w H s Q u s'
  | .ok _ => False
  | .error e => CX outer H s E e s'
structure FnOk (P : Program) (w : World) (K : PySem.W.Frag) (mg : Str → Option Value) (base : Heap) (CX : CXT) (k : Nat) (f : Addr) (fd : FuncData) (ps : List Str) (sp : Sp) : Prop where
  len : ∀ vs H Q E, sp vs H Q E → vs.length = ps.length
  run : ∀ (A : Around) (outer : List Env) (s : Shared) (H : Hp) (args : Args) (us : List Value) (vs : List V) (Q : VK) (E : XK), Room k A → Env0 P w K mg base A outer s H → BindsTo s fd args (ps.zip us) → Vals vs us → sp vs H Q E →
    codeAny (model P w) A (.call (.ref f) args) (CR CX outer P w H s Q E) s
theorem FnOk.imp {P : Program} {w : World} {K : PySem.W.Frag} {mg : Str → Option Value} {base : Heap} {CX : CXT} {k : Nat} {f : Addr} {fd : FuncData} {ps : List Str} {sp sp' : Sp} (F : FnOk P w K mg base CX k f fd ps sp)
    (h : ∀ vs H Q E, sp' vs H Q E → sp vs H Q E) : FnOk P w K mg base CX k f fd ps sp' :=
  ⟨fun vs H Q E q => F.len vs H Q E (h _ _ _ _ q), fun A outer s H args us vs Q E hr he hb hv hs => F.run A outer s H args us vs Q E hr he hb hv (h _ _ _ _ hs)⟩

section
variable {X : Cx} {pins : List (Addr × Obj)} {σ : St} {H : Hp} {s s' : Shared}
theorem Inv.env0 (I : Inv X pins σ H s) : Env0 X.prog X.w X.K X.mg X.base X.A X.stack s H :=
  ⟨I.ok.frames, I.ok.mod, I.bs, Nat.le_trans I.ok.bsz I.sz, I.stack, I.stkFree, I.hok, I.bare⟩
theorem Inv.after {Q : VK} {u : Value} (I : Inv X pins σ H s) (h : CE X.stack X.prog X.w H s Q u s') : EP X pins σ Q u s' := by
  obtain ⟨v, H', os, bare, un, hok, r, q⟩ := h
  obtain ⟨hh, g, d, t, os'⟩ := s'
  obtain rfl : os' = s.os := os
  exact ⟨v, H', I.call (h' := hh) (g' := g) (d' := d) (t' := t) (ch := []) un hok bare (fun b z => absurd z (by simp)), r, q⟩
end

noncomputable def tCall (sp : Sp) (dvs : List V) (E : XK) (t : TA) : TE := fun σ H Q => t σ H fun vs H1 => sp (vs ++ dvs) H1 Q E
noncomputable def Binds (K : PySem.W.Frag) (fd : FuncData) (ps : List Str) (ds : List Value) : Prop :=
  ∀ (s : Shared) (us : List Value), K.In s.heap → (us ++ ds).length = ps.length → BindsTo s fd ⟨us, []⟩ (ps.zip (us ++ ds))
theorem Binds.all {K : PySem.W.Frag} {fd : FuncData} {ps : List Str} (h : ∀ us : List Value, us.length = ps.length → bindArgs fd ⟨us, []⟩ = pure (ps.zip us)) : Binds K fd ps [] := fun s us _ hl => by
  rw [List.append_nil] at hl ⊢
  exact .of_eq (h us hl)

noncomputable def Passes (CX : CXT) (X : Cx) (E : XK) : Prop := ∀ (pins : List (Addr × Obj)) (σ : St) (H : Hp) (s : Shared) (e : Value) (s' : Shared), Inv X pins σ H s → CX X.stack H s E e s' → X.xe e s'

section
variable {X : Cx} {CX : CXT} {k : Nat} {f C : Addr} {fd : FuncData} {ps : List Str} {sp : Sp} {dvs : List V} {ds : List Value} {E : XK} {x m : Str} {p pos apos : Pos} {e o : Expr} {es : List Expr} {ta : TE} {t : TA}

theorem run_fn {pins : List (Addr × Obj)} {σ : St} {H : Hp} {s : Shared} {Q : VK} {us : List Value} {vs : List V} (F : FnOk X.prog X.w X.K X.mg X.base CX k f fd ps sp) (hr : Room k X.A) (hb : Binds X.K fd ps ds) (hd : Vals dvs ds) (hx : Passes CX X E)
    (I : Inv X pins σ H s) (r : Vals vs us) (h : sp (vs ++ dvs) H Q E) : wpAny (model X.prog X.w) X.A (call (.ref f) us) (EP X pins σ Q) X.xe s := by
  have r2 : Vals (vs ++ dvs) (us ++ ds) := r.append hd
  have hl : (us ++ ds).length = ps.length := by rw [← r2.length]; exact F.len _ _ _ _ h
  refine wpAny_call (codeAny_mono (F.run X.A X.stack s H ⟨us, []⟩ (us ++ ds) (vs ++ dvs) Q E hr I.env0 (hb s us I.kIn hl) r2 h) fun r s' hq => ?_)
  cases r with
  | error e => exact hx pins σ H s e s' I hq
  | ok fl =>
    cases fl with
    | ret u => exact I.after hq
    | next => exact False.elim hq
    | brk => exact False.elim hq
    | cont => exact False.elim hq

theorem pe_call (F : FnOk X.prog X.w X.K X.mg X.base CX k f fd ps sp) (hr : Room k X.A) (hg : Gl X x) (hm : X.mg x = some (.ref f)) (hk : PySem.W.keepIn X.K (.ref f) = true) (hb : Binds X.K fd ps ds) (hd : Vals dvs ds) (hx : Passes CX X E)
    (ha : PA X (e :: es) t) (hdb : (x == ("__debug__" : Str)) = false := by decide) (he : starEach (e :: es) X.env = (false, eval e X.env) :: starEach es X.env := by rfl) (hpl : (backTo pos (starEach es X.env)).any (·.1) = false := by rfl) :
    PE X (.Call (.Name x p) (e :: es) [] pos) (tCall sp dvs E t) := by
  intro pins s σ H Q I h
  refine wpAny_Call_Name_kw (ld_glob I hg hm ?_ hdb)
  refine PySem.W.callWith_K (h₀ := X.base) I.ok.mod.kin hk (thn (ha pos pins s σ H _ I h) fun us s1 ⟨vs, H1, I1, r, q⟩ => ⟨I1.kIn, ?_⟩) he hpl
  exact run_fn F hr hb hd hx I1 r q
theorem pe_call0 (F : FnOk X.prog X.w X.K X.mg X.base CX k f fd ps sp) (hr : Room k X.A) (hg : Gl X x) (hm : X.mg x = some (.ref f)) (hk : PySem.W.keepIn X.K (.ref f) = true) (hb : Binds X.K fd ps ds) (hd : Vals dvs ds) (hx : Passes CX X E)
    (hdb : (x == ("__debug__" : Str)) = false := by decide) : PE X (.Call (.Name x p) [] [] pos) (tCall sp dvs E tNil) := by
  intro pins s σ H Q I h
  refine wpAny_Call_Name_kw (ld_glob I hg hm ?_ hdb)
  exact PySem.W.callWith_K0 I.kIn hk (run_fn (us := []) F hr hb hd hx I .nil h)

end

section
variable {X : Cx} {CX : CXT} {k : Nat} {f C : Addr} {fd : FuncData} {ps ks : List Str} {sp : Sp} {E : XK} {x m : Str} {p pos apos kpos : Pos} {e o : Expr} {es : List Expr} {kws : List Keyword} {te ta : TE} {t tk : TA} {nm : Option Str}
variable {g : List Value → List Value → List Value} {gV : List V → List V → List V}
end

structure FnScope (N P : List Str) (sc : Scope) : Prop where
  kind : sc.kind = .function
  co : sc.isCoroutine = false
  gen : sc.isGenerator = false
  nd : N.Nodup
  pre : N.take P.length = P
  par : ∀ x ∈ P, sc.names.lookup x = some .local ∨ sc.names.lookup x = some .cell
  nofree : ∀ y ∈ sc.names, y.2 ≠ .free

theorem bindL_out {kindOf : Str → Option NameKind} {x : Str} : ∀ {binds : List (Str × Value)} {m : Str → Option Value}, (∀ v, (x, v) ∉ binds) → bindL kindOf binds m x = m x
  | [], _, _ => rfl
  | (n, v) :: r, m, h => by
    unfold bindL
    rw [bindL_out fun w hw => h w (List.mem_cons_of_mem _ hw)]
    split
    · have : x ≠ n := by rintro rfl; exact h v List.mem_cons_self
      simp [this]
    · rfl
theorem bindC_out {kindOf : Str → Option NameKind} {x : Str} : ∀ {binds : List (Str × Value)} {m : Str → Option Value}, (∀ v, (x, v) ∉ binds) → bindC kindOf binds m x = m x
  | [], _, _ => rfl
  | (n, v) :: r, m, h => by
    unfold bindC
    rw [bindC_out fun w hw => h w (List.mem_cons_of_mem _ hw)]
    split
    · rfl
    · have : x ≠ n := by rintro rfl; exact h v List.mem_cons_self
      simp [this]
theorem bindL_get {kindOf : Str → Option NameKind} {x : Str} {v : Value} : ∀ {P : List Str} {vs : List Value} {i : Nat} {m : Str → Option Value}, P.Nodup → P[i]? = some x → vs[i]? = some v → kindOf x = some .local →
    bindL kindOf (P.zip vs) m x = some v
  | [], _, _, _, _, h, _, _ => by simp at h
  | _ :: _, [], _, _, _, _, h, _ => by simp at h
  | p :: P, w :: vs, 0, m, nd, h1, h2, hk => by
    simp at h1 h2; subst h1; subst h2
    show bindL kindOf ((p, w) :: P.zip vs) m p = _
    unfold bindL
    rw [bindL_out fun v hv => (List.nodup_cons.mp nd).1 (List.of_mem_zip hv).1, if_pos hk]
    simp
  | p :: P, w :: vs, i + 1, m, nd, h1, h2, hk => by
    show bindL kindOf ((p, w) :: P.zip vs) m x = _
    unfold bindL
    exact bindL_get (i := i) (List.nodup_cons.mp nd).2 (by simpa using h1) (by simpa using h2) hk
theorem bindC_get {kindOf : Str → Option NameKind} {x : Str} {v : Value} : ∀ {P : List Str} {vs : List Value} {i : Nat} {m : Str → Option Value}, P.Nodup → P[i]? = some x → vs[i]? = some v → kindOf x ≠ some .local →
    bindC kindOf (P.zip vs) m x = some v
  | [], _, _, _, _, h, _, _ => by simp at h
  | _ :: _, [], _, _, _, _, h, _ => by simp at h
  | p :: P, w :: vs, 0, m, nd, h1, h2, hk => by
    simp at h1 h2; subst h1; subst h2
    show bindC kindOf ((p, w) :: P.zip vs) m p = _
    unfold bindC
    rw [bindC_out fun v hv => (List.nodup_cons.mp nd).1 (List.of_mem_zip hv).1, if_neg hk]
    simp
  | p :: P, w :: vs, i + 1, m, nd, h1, h2, hk => by
    show bindC kindOf ((p, w) :: P.zip vs) m x = _
    unfold bindC
    exact bindC_get (i := i) (List.nodup_cons.mp nd).2 (by simpa using h1) (by simpa using h2) hk

noncomputable def start (N : List Str) (vs : List V) : St := vs.map some ++ List.replicate (N.length - vs.length) none

noncomputable def cxOf (CX : CXT) (P : Program) (w : World) (K : PySem.W.Frag) (mg : Str → Option Value) (base : Heap) (N : List Str) (qual : Str) (scope : Scope) (f : Addr) (cd : Value) (A : Around) (outer : List Env) (s : Shared) (H : Hp) (E : XK) : Cx where
  prog := P
  w := w
  K := K
  mg := mg
  base := base
  A := A.deeper (envOfC qual scope s.heap.objs.size f cd)
  N := N
  s₀ := s
  H₀ := H
  env := envOfC qual scope s.heap.objs.size f cd
  outer := outer
  stack := envOfC qual scope s.heap.objs.size f cd :: outer
  ex := []
  calm := true
  fn := fun _ => true
  pn := []
  xe := fun e s' => wpAny (model P w) (A.deeper (envOfC qual scope s.heap.objs.size f cd)) (leaving (envOfC qual scope s.heap.objs.size f cd) e) (fun _ s'' => CX outer H s E e s'') (fun e' s'' => CX outer H s E e' s'') s'

theorem cell_has {sc : Scope} {n : Nat} {x : Str} (h : sc.names.lookup x = some .cell) : ∃ c, (cellsFrom n sc.names []).lookup x = some c := by
  have q := PySem.W.cellsFrom_some sc.names n [] (.inl h)
  exact Option.isSome_iff_exists.mp q

theorem inv_start {CX : CXT} {P : Program} {w : World} {K : PySem.W.Frag} {mg : Str → Option Value} {base : Heap} {N ps : List Str} {qual : Str} {scope : Scope} {f : Addr} {cd : Value} {A : Around} {outer : List Env} {s s1 : Shared} {H : Hp} {E : XK} {us : List Value} {vs : List V}
    (S : FnScope N ps scope) (hd : A.handled = none) (e0 : Env0 P w K mg base A outer s H) (hl : vs.length = ps.length) (r : Vals vs us)
    (x : InCallC s s.heap.objs.size (bindL (envOfC qual scope s.heap.objs.size f cd).kindOf (ps.zip us) fun _ => none) (cellsFrom (s.heap.objs.size + 1) scope.names []) (bindC (envOfC qual scope s.heap.objs.size f cd).kindOf (ps.zip us) fun _ => none) s1) :
    Inv (cxOf CX P w K mg base N qual scope f cd A outer s H E) [] (start N vs) H s1 := by
  have hpl : ps.length ≤ N.length := by have := congrArg List.length S.pre; rw [List.length_take] at this; omega
  obtain ⟨h1, tk, rfl, hk⟩ := x.done
  have noA : ∀ b : Addr, b ∉ (cxOf CX P w K mg base N qual scope f cd A outer s H E).ex := fun b z => absurd (show b ∈ ([] : List Addr) from z) (by simp)
  refine ⟨⟨e0.mod, S.kind, rfl, rfl, Nat.le_refl _, fun y z c h1 h2 => ?_, fun y hy => ?_, fun y c _ h => ?_, fun _ => hd, Around.frames_deeper e0.frames, .inr ⟨rfl, rfl⟩, fun b z => absurd z (noA b), e0.bs, e0.bsz, fun b _ _ => noA b, fun b z => absurd z (noA b), e0.funs, e0.frf⟩,
    rfl, e0.bare, Un.kept hk, ⟨_, x.toInCall.ns, fun i y v h1 h2 h3 => ?_⟩, fun y c h => ⟨_, x.cell y c h⟩, e0.hok.fresh (Nat.le_refl _), fun y c h => ?_, fun p hp => absurd (show p ∈ ([] : List (Addr × Obj)) from hp) (by simp), e0.hok.kept hk, ?_⟩
  · exact name_of_addr x.apart (PySem.mem_of_lookup h1) (PySem.mem_of_lookup h2)
  · have hy : scope.names.lookup y = some .cell ∨ scope.names.lookup y = some .free := hy
    rcases hy with hy | hy
    · exact cell_has hy
    · exact absurd rfl (S.nofree _ (PySem.mem_of_lookup hy))
  · exact Nat.le_of_lt (x.above y c (PySem.mem_of_lookup h))
  · have hi : i < vs.length := by
      unfold start at h2
      by_cases hi : i < vs.length
      · exact hi
      · rw [List.getElem?_append_right (by simpa using hi)] at h2
        rw [List.getElem?_replicate] at h2
        split at h2 <;> cases h2
    have ha : vs[i]? = some v := by
      unfold start at h2
      rw [List.getElem?_append_left (by simpa using hi), List.getElem?_map] at h2
      cases e : vs[i]? with
      | none => rw [e] at h2; cases h2
      | some a => rw [e] at h2; cases h2; rfl
    obtain ⟨u, hu, rv⟩ := r.get ha
    have hp : ps[i]? = some y := by
      rw [← S.pre, List.getElem?_take_of_lt (by omega)]; exact h1
    have ndP : ps.Nodup := by rw [← S.pre]; exact S.nd.sublist (List.take_sublist _ _)
    refine ⟨u, rv, ?_⟩
    rcases S.par y (List.mem_of_getElem? hp) with k | k
    · exact .inl ⟨k, bindL_get ndP hp hu k⟩
    · obtain ⟨c, e⟩ := cell_has (n := s.heap.objs.size + 1) k
      refine .inr ⟨.inl k, c, e, ?_⟩
      have q := x.cell y c e
      rw [bindC_get ndP hp hu (by show scope.names.lookup y ≠ _; rw [k]; decide)] at q
      exact q
  · exact e0.hok.fresh (Nat.le_of_lt (x.above y c (PySem.mem_of_lookup h)))
  · unfold start
    show _ = N.length
    rw [List.length_append, List.length_map, List.length_replicate]
    omega

theorem fn_of {CX : CXT} {P : Program} {w : World} {K : PySem.W.Frag} {mg : Str → Option Value} {base : Heap} {k : Nat} {f : Addr} {name qual : Str} {params : Arguments} {body : List Stmt} {scope : Scope} {dV kV doc pm cdv ct oc : Value} {an od : Option Addr}
    {osl : Array (Option Value)} {N ps : List Str} {sp : Sp} (lk : K.lookup f = some ⟨oc, od, .func (PySem.W.fnOf name qual params body scope dV kV doc pm an cdv ct), osl⟩) (hcd : PySem.W.codeIn K cdv qual = true) (S : FnScope N ps scope)
    (len : ∀ vs H Q E, sp vs H Q E → vs.length = ps.length)
    (hbody : ∀ (A : Around) (outer : List Env) (s : Shared) (H : Hp) (vs : List V) (Q : VK) (E : XK), Room k (A.deeper (envOfC qual scope s.heap.objs.size f cdv)) → sp vs H Q E →
      ∃ t, PSs (cxOf CX P w K mg base N qual scope f cdv A outer s H E) body t ∧ t { nx := fun _ H' => Q .non H', rt := Q } (start N vs) H) :
    FnOk P w K mg base CX (k + 1) f (PySem.W.fnOf name qual params body scope dV kV doc pm an cdv ct) ps sp := by
  refine ⟨len, fun A outer s H args us vs Q E hr e0 hb r hsp => ?_⟩
  have hl := len _ _ _ _ hsp
  have KX : K.In s.heap := e0.mod.kin.keeps fun b o e => (e0.bs b o e).1
  have lim : s.heap.NoLimit := e0.mod.nolimit.keeps fun b o e => (e0.bs b o e).1
  have hkind : ∀ y ∈ ps.zip us, scope.names.lookup y.1 = some .local ∨ (scope.names.lookup y.1 = some .cell ∧ ((cellsFrom (s.heap.objs.size + 1) scope.names []).lookup y.1).isSome = true) := fun ⟨n, v⟩ hy => by
    rcases S.par n (List.of_mem_zip hy).1 with q | q
    · exact .inl q
    · exact .inr ⟨q, PySem.W.cellsFrom_some _ _ _ (.inl q)⟩
  refine codeAny_call_function hr.depth (KX _ _ lk) rfl S.co S.gen rfl (PySem.W.codeRec_of KX hcd) (hb _ _ _ _ ?_)
  refine wpAny_newFunctionEnv_cells S.kind hkind fun env he s1 x => ?_
  subst he
  refine ⟨lim.keeps x.toInCall.keep, codeAny_func ?_⟩
  obtain ⟨t, ht, hq⟩ := hbody A outer s H vs Q E (hr.deeper _) hsp
  have I : Inv (cxOf CX P w K mg base N qual scope f cdv A outer s H E) [] (start N vs) H s1 := inv_start S hr.hd e0 hl r x
  refine wpAny_mono (ht [] s1 (start N vs) H _ I hq) (fun fl s' hs => ?_) fun e s' hs => hs
  have fin : ∀ {σ' : St} {H' : Hp} {v : V} {u : Value}, Inv (cxOf CX P w K mg base N qual scope f cdv A outer s H E) [] σ' H' s' → RelV v u → Q v H' → CE outer P w H s Q u s' :=
    fun {σ' H' v u} J rv q => ⟨v, H', J.os, J.bare, J.base, J.hok, rv, q⟩
  cases fl with
  | ret u =>
    obtain ⟨v, σ', H', J, rv, q⟩ := hs
    exact fin J rv q
  | next =>
    obtain ⟨σ', H', J, q⟩ := hs
    exact fin (v := V.non) (u := Value.none) J rfl q
  | brk =>
    obtain ⟨_, _, _, q⟩ := hs
    exact False.elim q
  | cont =>
    obtain ⟨_, _, _, q⟩ := hs
    exact False.elim q
end L2

namespace L2
open PySem PySem.Spec PyProof.Rows
section
variable {X : Cx} {x : Str} {p pos : Pos} {e : Expr} {es : List Expr} {t : TA} {id T : String} {r : List V → Hp → VK → Prop}

noncomputable def tCB (r : List V → Hp → VK → Prop) (t : TA) : TE := fun σ H Q => t σ H fun vs H1 => r vs H1 Q
theorem pe_callB (hc : CallR X (.builtin id) r) (hg : Gl X x) (hm : X.mg x = none) (hv : bootBuiltins x = some (.builtin id)) (ha : PA X (e :: es) t) (hn : x ≠ "__name__" := by decide) (hdb : (x == ("__debug__" : Str)) = false := by decide)
    (he : starEach (e :: es) X.env = (false, eval e X.env) :: starEach es X.env := by rfl) (hpl : (backTo pos (starEach es X.env)).any (·.1) = false := by rfl) : PE X (.Call (.Name x p) (e :: es) [] pos) (tCB r t) := by
  intro pins s σ H Q I h
  refine wpAny_Call_Name_kw (ld_blt I hg hm hv ?_ hn hdb)
  exact PyProof.Rows.callWith_builtin1 (thn (ha pos pins s σ H _ I h) fun us s1 ⟨vs, H1, I1, r1, q1⟩ => hc pins s1 σ H1 vs us Q I1 r1 q1) he hpl
theorem pe_callTy (hc : CallR X (.type T) r) (hg : Gl X x) (hm : X.mg x = none) (hv : bootBuiltins x = some (.type T)) (ha : PA X (e :: es) t) (hn : x ≠ "__name__" := by decide) (hdb : (x == ("__debug__" : Str)) = false := by decide)
    (he : starEach (e :: es) X.env = (false, eval e X.env) :: starEach es X.env := by rfl) (hpl : (backTo pos (starEach es X.env)).any (·.1) = false := by rfl) : PE X (.Call (.Name x p) (e :: es) [] pos) (tCB r t) := by
  intro pins s σ H Q I h
  refine wpAny_Call_Name_kw (ld_blt I hg hm hv ?_ hn hdb)
  exact PyProof.Rows.callWith_type1 (thn (ha pos pins s σ H _ I h) fun us s1 ⟨vs, H1, I1, r1, q1⟩ => hc pins s1 σ H1 vs us Q I1 r1 q1) he hpl
end
end L2

namespace HT
open PySem PyProof.Rows

section
open PySem.SeqAt
open PySem.AutoSeq1 (wpAny_loadPart')
open PySem.MeetsSeq PySem.MeetsSeq2 PySem.MeetsSeq3

end

section
variable {prog : Program} {w : World} {A : Around} {E : Value → Shared → Prop} {s : Shared}

theorem cat_tup {t b : Addr} {vs ws : List Value} {Q : Value → Shared → Prop} (ht : IsTup s.heap t vs.toArray) (hb : IsTup s.heap b ws.toArray) (hv : vs ≠ [])
    (h1 : ws = [] → Q (.ref t) s) (h2 : ws ≠ [] → Q (.ref s.heap.objs.size) { s with heap := s.heap.push { cls := .type "tuple", data := .seq (vs ++ ws).toArray } })
    (hsz : vs.length + ws.length ≤ sizeLine) : wpAny (model prog w) A (binaryOp .Add (.ref t) (.ref b)) Q E s := by
  obtain ⟨⟨cls, dd, data, sl⟩, ho, hc, n, hd⟩ := id ht
  obtain ⟨⟨cls2, dd2, data2, sl2⟩, ho2, hc2, n2, hd2⟩ := id hb
  simp only at hc hd hc2 hd2
  subst hc hd hc2 hd2
  have e : vs.toArray ++ ws.toArray = (vs ++ ws).toArray := by simp
  by_cases hw : ws = []
  · exact concat_meets ⟨_, ho, rfl⟩ ⟨_, ho2, rfl⟩ noFill_tuple_add seq_tuple_add PySem.F.slot_tuple_add PySem.F.entry_tuple_add (PySem.F.args_tuple_add_2 _ _)
      (tuple_addW1 t b vs.toArray ws.toArray n n2 dd dd2 sl sl2 (by simpa using hv) (by simp [hw])) ⟨ho, ho2, h1 hw⟩
  · refine concat_meets ⟨_, ho, rfl⟩ ⟨_, ho2, rfl⟩ noFill_tuple_add seq_tuple_add PySem.F.slot_tuple_add PySem.F.entry_tuple_add (PySem.F.args_tuple_add_2 _ _)
      (tuple_addW2 t b vs.toArray ws.toArray n n2 dd dd2 sl sl2 (by simpa using hv) (by simpa using hw) (by rw [List.size_toArray, List.size_toArray]; exact hsz)) ⟨ho, ho2, ?_⟩
    rw [e]
    exact h2 hw

noncomputable def sIx (n d : Nat) : Option Int → Nat
  | none => d
  | some v => if v < 0 then (v + (n : Int)).toNat else min v.toNat n
theorem sIx_none (n d : Nat) : sIx n d none = d := rfl
theorem sIx_nat (n d k : Nat) : sIx n d (some (k : Int)) = min k n := by
  show (if (k : Int) < 0 then ((k : Int) + (n : Int)).toNat else min (k : Int).toNat n) = min k n
  rw [if_neg (by omega), Int.toNat_natCast]
theorem sIx_le (n d : Nat) (hd : d ≤ n) (o : Option Int) : sIx n d o ≤ n := by
  cases o with
  | none => exact hd
  | some v =>
    show (if v < 0 then (v + (n : Int)).toNat else min v.toNat n) ≤ n
    by_cases hv : v < 0
    · rw [if_pos hv]; omega
    · rw [if_neg hv]; exact Nat.min_le_right _ _
theorem clip_eq (v : Int) (n d : Nat) : (if v < 0 then max (v + (n : Int)) 0 else min v (n : Int)) = ((sIx n d (some v) : Nat) : Int) := by
  show (if v < 0 then max (v + (n : Int)) 0 else min v (n : Int)) = (((if v < 0 then (v + (n : Int)).toNat else min v.toNat n) : Nat) : Int)
  by_cases hv : v < 0
  · simp only [if_pos hv]; omega
  · simp only [if_neg hv]; omega
theorem adjust_gen (lo hi : Option Int) (n : Nat) : Builtin.Slice.sliceAdjust lo hi 1 (n : Int) = (((sIx n 0 lo : Nat) : Int), ((sIx n n hi : Nat) : Int)) := by
  have h1 : ¬ ((1 : Int) < 0) := by omega
  unfold Builtin.Slice.sliceAdjust
  simp only [h1, if_false]
  refine Prod.ext ?_ ?_
  · cases lo with
    | none => rfl
    | some v => exact clip_eq v n 0
  · cases hi with
    | none => rfl
    | some v => exact clip_eq v n n
theorem places_gen (i j : Nat) : Builtin.Slice.slicePlaces (i : Int) (j : Int) 1 = j - i := by
  unfold Builtin.Slice.slicePlaces
  have h1 : (1 : Int) > 0 := by omega
  simp only [h1, if_true, Int.ediv_one]
  split <;> omega
theorem slicePart_ {v : Value} {o : Option Int} {Q : Option Int → Shared → Prop} (p : IsPart v o) (h : Q o s) : wpAny (model prog w) A (Builtin.Slice.slicePartIndex v) Q E s := by
  cases p with
  | none => exact slicePart_none h
  | int i t => exact slicePart_int h
theorem sliceApplied_gen {sl : Addr} {vl vu : Value} {lo hi : Option Int} {n : Nat} {Q : Int × Int × Nat → Shared → Prop} (hs : s.heap.IsSliceOf sl vl vu .none) (pl : IsPart vl lo) (pu : IsPart vu hi)
    (h : Q (((sIx n 0 lo : Nat) : Int), 1, sIx n n hi - sIx n 0 lo) s) : wpAny (model prog w) A (Builtin.Slice.sliceApplied (.ref sl) (pure (n : Int))) Q E s := by
  obtain ⟨os, hos, hcs, hds⟩ := id hs
  unfold Builtin.Slice.sliceApplied Builtin.Slice.sliceFields
  refine wpAny_bind (wpAny_bind (wpAny_field hos hds (x := vl) rfl (wpAny_bind (wpAny_field hos hds (x := vu) rfl (wpAny_bind (wpAny_field hos hds (x := .none) rfl (wpAny_pure ?_)))))))
  refine wpAny_bind (slicePart_none ?_)
  show wpAny _ _ (if ((1 : Int) == 0) = true then _ else _) _ _ s
  rw [if_neg (by decide)]
  refine wpAny_bind (slicePart_ pl (wpAny_bind (slicePart_ pu (wpAny_bind (wpAny_pure ?_)))))
  show wpAny _ _ (match Builtin.Slice.sliceAdjust lo hi 1 (n : Int) with | (lo, hi) => pure (lo, (1 : Int), Builtin.Slice.slicePlaces lo hi 1)) _ _ s
  rw [adjust_gen lo hi n]
  show wpAny _ _ (pure (((sIx n 0 lo : Nat) : Int), (1 : Int), Builtin.Slice.slicePlaces ((sIx n 0 lo : Nat) : Int) ((sIx n n hi : Nat) : Int) 1)) _ _ s
  rw [places_gen]
  exact wpAny_pure h
theorem pick_gen (xs : Array Value) (i k : Nat) : ((List.range k).filterMap fun (m : Nat) => xs[((i : Int) + (m : Int) * 1).toNat]?).toArray = ((xs.toList.drop i).take k).toArray := by
  have e : (fun (m : Nat) => xs[((i : Int) + (m : Int) * 1).toNat]?) = fun m => xs[i + m]? := by
    funext m
    have : ((i : Int) + (m : Int) * 1).toNat = i + m := by omega
    rw [this]
  rw [e]
  have := pick_run xs i k
  rw [List.filterMap_map] at this
  have e2 : ((fun x => xs[x]?) ∘ fun x => i + x) = fun m => xs[i + m]? := rfl
  rw [e2] at this
  rw [this]

theorem getItem_tuple_cut {t sl : Addr} {items : Array Value} {vl vu : Value} {lo hi : Option Int} {Q : Value → Shared → Prop} (ht : IsTup s.heap t items) (hs : s.heap.IsSliceOf sl vl vu .none) (pl : IsPart vl lo) (pu : IsPart vu hi)
    (hw : ¬ (sIx items.size 0 lo = 0 ∧ sIx items.size items.size hi = items.size))
    (h : Q (.ref s.heap.objs.size) { s with heap := s.heap.push { cls := .type "tuple", data := .seq ((items.toList.drop (sIx items.size 0 lo)).take (sIx items.size items.size hi - sIx items.size 0 lo)).toArray } })
    (hsz : items.size ≤ sizeLine) : wpAny (model prog w) A (getItem (.ref t) (.ref sl)) Q E s := by
  have htake : sizeOk (.seq ((items.toList.drop (sIx items.size 0 lo)).take (sIx items.size items.size hi - sIx items.size 0 lo)).toArray) := by
    show ((items.toList.drop (sIx items.size 0 lo)).take (sIx items.size items.size hi - sIx items.size 0 lo)).toArray.size ≤ sizeLine
    rw [List.size_toArray, List.length_take, List.length_drop, Array.length_toList]
    omega
  have hj : sIx items.size items.size hi ≤ items.size := sIx_le _ _ (Nat.le_refl _) hi
  obtain ⟨os, hos, hcs, hds⟩ := id hs
  have hTs : s.TypeIs (.ref sl) "slice" := ⟨os, hos, hcs⟩
  unfold getItem
  try with_reducible refine wpAny_holding ?_
  first | refine wpAny_bind (wpAny_pure ?_) | skip
  refine wpAny_bind (wpAny_sequenceKey ht.typeIs (by decide) ?_)
  refine wpAny_bind (wpAny_callSpecial?_slot (name := Str.ofString "__getitem__") ht.typeIs PyProof.Rows.slot_tuple_getitem
    (wpAny_call_entry PyProof.Rows.slot_tuple_getitem ht.typeIs entry_tuple_getitem ?_ (args_tuple_getitem _ _)))
  show wpAny _ _ (Builtin.Tuple.tupleItemsOf (.ref t) >>= _) _ _ s
  refine wpAny_bind (tupleItemsOf_ ht ?_)
  refine wpAny_bind (wpAny_typeOf hTs ?_)
  rw [if_pos (by decide)]
  refine wpAny_bind (sliceApplied_gen hs pl pu ?_)
  have hno : ¬ ((((sIx items.size 0 lo : Nat) : Int) == 0 && (1 : Int) == 1 && (sIx items.size items.size hi - sIx items.size 0 lo) == items.size) = true) := by
    intro q
    rw [Bool.and_eq_true, Bool.and_eq_true] at q
    have q1 : ((sIx items.size 0 lo : Nat) : Int) = 0 := eq_of_beq q.1.1
    have q2 : sIx items.size items.size hi - sIx items.size 0 lo = items.size := eq_of_beq q.2
    exact hw ⟨by omega, by omega⟩
  show wpAny _ _ (if (((sIx items.size 0 lo : Nat) : Int) == 0 && (1 : Int) == 1 && (sIx items.size items.size hi - sIx items.size 0 lo) == items.size) = true then _ else _) _ _ s
  rw [if_neg hno, pick_gen]
  first
    | exact wpAny_bind (m := Builtin.Tuple.tupleExact _) (wpAny_newObj_type (wpAny_pure ⟨_, rfl, wpAny_pure h⟩) htake)
    | exact wpAny_bind (m := Builtin.Tuple.tupleExact _) (wpAny_newObj_type (wpAny_bind (wpAny_pure (wpAny_pure ⟨_, rfl, wpAny_pure h⟩))) htake)
    | exact wpAny_bind (wpAny_bind (m := Builtin.Tuple.tupleExact _) (wpAny_newObj_type (wpAny_pure (wpAny_pure ⟨_, rfl, wpAny_pure h⟩)) htake))
    | exact wpAny_bind (wpAny_bind (m := Builtin.Tuple.tupleExact _) (wpAny_newObj_type (wpAny_pure ⟨_, rfl, wpAny_pure h⟩) htake))
end
end HT

namespace L2
open PySem PySem.Spec PyProof.Rows

noncomputable abbrev TO := St → Hp → (Option Int → Hp → Prop) → Prop
noncomputable def PO (X : Cx) (e : Option Expr) (t : TO) : Prop :=
  ∀ (pins : List (Addr × Obj)) (s : Shared) (σ : St) (H : Hp) (Q : Option Int → Hp → Prop), Inv X pins σ H s → t σ H Q →
    wpAny (model X.prog X.w) X.A (evalPart e X.env) (fun u s' => ∃ o H', Inv X pins σ H' s' ∧ IsPart u o ∧ Q o H') X.xe s
noncomputable def tNoPart : TO := fun _ H Q => Q none H
noncomputable def tPart (t : TE) : TO := fun σ H Q => t σ H fun x H1 => ∃ i, x = .int i ∧ Q (some i) H1

section
variable {X : Cx} {e : Expr} {te : TE} {lo hi : Option Expr} {tl th : TO} {pos p2 : Pos}

theorem po_none : PO X none tNoPart := by
  intro pins s σ H Q I h
  rw [evalPart_none]
  exact wpAny_pure ⟨none, H, I, .none, h⟩
theorem po_some (h : PE X e te) : PO X (some e) (tPart te) := by
  intro pins s σ H Q I hw
  rw [evalPart_some]
  refine thn (h pins s σ H _ I hw) fun u s1 ⟨x, H1, I1, r1, q1⟩ => ?_
  obtain ⟨i, rfl, q⟩ := q1
  obtain ⟨t, rfl⟩ := r1
  exact ⟨some i, H1, I1, .int i t, q⟩

noncomputable def SlR (X : Cx) (r : V → Option Int → Option Int → Hp → VK → Prop) : Prop :=
  ∀ (pins : List (Addr × Obj)) (s : Shared) (σ : St) (H : Hp) (x : V) (v vl vu : Value) (lo hi : Option Int) (sl : Addr) (Q : VK), Inv X pins σ H s → RelV x v → s.heap.IsSliceOf sl vl vu .none → IsPart vl lo → IsPart vu hi → r x lo hi H Q →
    ∃ T id, typeLookup (.type T) "__getitem__" = pure (some (.builtin id)) ∧ s.TypeIs v T ∧ wpAny (model X.prog X.w) X.A (getItem v (.ref sl)) (EP X pins σ Q) X.xe s
theorem SlR.or {r r' : V → Option Int → Option Int → Hp → VK → Prop} (h : SlR X r) (h' : SlR X r') : SlR X (fun x lo hi H Q => r x lo hi H Q ∨ r' x lo hi H Q) := by
  intro pins s σ H x v vl vu lo hi sl Q I rx hs pl pu q
  rcases q with q | q
  · exact h pins s σ H x v vl vu lo hi sl Q I rx hs pl pu q
  · exact h' pins s σ H x v vl vu lo hi sl Q I rx hs pl pu q
noncomputable def tSl (r : V → Option Int → Option Int → Hp → VK → Prop) (te : TE) (tl th : TO) : TE := fun σ H Q => te σ H fun x H1 => tl σ H1 fun l H2 => th σ H2 fun u H3 => r x l u H3 Q
theorem pe_slice {r : V → Option Int → Option Int → Hp → VK → Prop} (hr : SlR X r) (he : PE X e te) (hl : PO X lo tl) (hu : PO X hi th) : PE X (.Subscript e (.Slice lo hi none p2) pos) (tSl r te tl th) := by
  intro pins s σ H Q I h
  refine Subscript_ (thn (he pins s σ H _ I h) fun v s1 ⟨x, H1, I1, r1, q1⟩ => ?_)
  refine wpAny_Slice (thn (hl pins s1 σ H1 _ I1 q1) fun vl s2 ⟨l, H2, I2, pl, q2⟩ => thn (hu pins s2 σ H2 _ I2 q2) fun vu s3 ⟨u, H3, I3, pu, q3⟩ => ?_)
  rw [evalPart_none]
  refine wpAny_pure ?_
  have I4 : Inv X pins σ H3 { s3 with heap := s3.heap.push { cls := .type "slice", data := .fields #[vl, vu, .none] } } := I3.kept (t' := s3.toks) fun b ob q => Heap.get?_push_of_some _ q
  obtain ⟨T, id, hT, ht, hg⟩ := hr pins { s3 with heap := s3.heap.push { cls := .type "slice", data := .fields #[vl, vu, .none] } } σ H3 x v vl vu l u s3.heap.objs.size Q I4 r1 (Heap.IsSliceOf.new ..) pl pu q3
  show wpAny (model X.prog X.w) X.A (subscriptTail e (.Slice lo hi none p2) v (.ref s3.heap.objs.size)) (EP X pins σ Q) X.xe { s3 with heap := s3.heap.push { cls := .type "slice", data := .fields #[vl, vu, .none] } }
  exact tail_any (ops := [.ref s3.heap.objs.size, v]) ht hT hg (by with_unfolding_all rfl)

noncomputable def cutV (xs : List V) (lo hi : Option Int) : List V := (xs.drop (HT.sIx xs.length 0 lo)).take (HT.sIx xs.length xs.length hi - HT.sIx xs.length 0 lo)
theorem cutV_length (xs : List V) (lo hi : Option Int) : (cutV xs lo hi).length ≤ xs.length := by
  unfold cutV
  rw [List.length_take, List.length_drop]
  omega
noncomputable def rSlT (K : PySem.W.Frag) : V → Option Int → Option Int → Hp → VK → Prop := fun x lo hi H Q => ∃ a xs, x = .ref a ∧ SqT K H a xs ∧
  ¬ (HT.sIx xs.length 0 lo = 0 ∧ HT.sIx xs.length xs.length hi = xs.length) ∧ ∀ p, H p = none → Q (.ref p) (upd H p (.tup (cutV xs lo hi)))
theorem sl_tup : SlR X (rSlT X.K) := by
  intro pins s σ H x v vl vu lo hi sl Q I rx hs pl pu h
  obtain ⟨a, xs, rfl, hx, hw, q⟩ := h
  cases rx
  obtain ⟨its, r, ht, hz⟩ := I.tuple hx
  have hlen : its.toArray.size = xs.length := by rw [List.size_toArray]; exact r.length.symm
  refine ⟨"tuple", _, PyProof.Rows.slot_tuple_getitem.lookup, ht.typeIs, ?_⟩
  refine HT.getItem_tuple_cut ht hs pl pu (by rw [hlen]; exact hw) ?_ (by rw [hlen]; exact hz)
  rw [hlen]
  refine ⟨.ref s.heap.objs.size, _, I.laid (t' := s.toks) (o := .tup (cutV xs lo hi)) (fun b ob q => Heap.get?_push_of_some _ q) (Nat.le_refl _) ?_, rfl, q _ (I.hok.fresh (Nat.le_refl _))⟩
  exact ⟨Nat.le_trans (cutV_length xs lo hi) hz, _, (r.drop (HT.sIx xs.length 0 lo)).take (HT.sIx xs.length xs.length hi - HT.sIx xs.length 0 lo), IsTup.new _ _⟩

noncomputable def rCatT (K : PySem.W.Frag) : R2 := fun x y H Q => ∃ a b xs ys, x = .ref a ∧ y = .ref b ∧ SqT K H a xs ∧ SqT K H b ys ∧ xs ≠ [] ∧ xs.length + ys.length ≤ sizeLine ∧
  (ys = [] → Q (.ref a) H) ∧ (ys ≠ [] → ∀ p, H p = none → Q (.ref p) (upd H p (.tup (xs ++ ys))))
theorem Vals.nil_iff {xs : List V} {us : List Value} (r : Vals xs us) : us = [] ↔ xs = [] := by
  cases r with
  | nil => simp
  | cons _ _ => simp
theorem op_catT : OpR X (binaryOp .Add) (rCatT X.K) := by
  intro pins s σ H x y v u Q I rx ry h
  obtain ⟨a, b, xs, ys, rfl, rfl, ha, hb, hx, hz, q1, q2⟩ := h
  cases rx
  cases ry
  obtain ⟨its, r1, p1, _⟩ := I.tuple ha
  obtain ⟨its2, r2, p2, _⟩ := I.tuple hb
  refine HT.cat_tup p1 p2 (fun z => hx (r1.nil_iff.mp z)) (fun z => ⟨.ref a, H, I, rfl, q1 (r2.nil_iff.mp z)⟩) (fun z => ?_) (by rw [← r1.length, ← r2.length]; exact hz)
  refine ⟨.ref s.heap.objs.size, _, I.laid (t' := s.toks) (o := .tup (xs ++ ys)) (fun b ob q => Heap.get?_push_of_some _ q) (Nat.le_refl _) ?_, rfl, q2 (fun w => z (r2.nil_iff.mpr w)) _ (I.hok.fresh (Nat.le_refl _))⟩
  exact ⟨by rw [List.length_append]; exact hz, _, r1.append r2, IsTup.new _ _⟩
end
end L2

namespace L2
open PySem PySem.Spec PyProof.Rows

noncomputable def ixN (n : Nat) (i : Int) : Option Nat := if 0 ≤ i then (if i < n then some i.toNat else none) else if -(n : Int) ≤ i then some (i + n).toNat else none
noncomputable def atI {α : Type} (xs : List α) (i : Int) : Option α := (ixN xs.length i).bind fun j => xs[j]?
theorem ixN_seq {n : Nat} {i : Int} {j : Nat} (h : ixN n i = some j) : seqIndex? i n = some j ∧ j < n ∧ -(n : Int) ≤ i ∧ i < n := by
  unfold ixN at h
  by_cases h0 : 0 ≤ i
  · rw [if_pos h0] at h
    by_cases h1 : i < n
    · rw [if_pos h1] at h
      have e : i.toNat = j := Option.some.inj h
      exact ⟨by rw [seqIndex_of h0 h1, e], by omega, by omega, h1⟩
    · rw [if_neg h1] at h; cases h
  · rw [if_neg h0] at h
    by_cases h1 : -(n : Int) ≤ i
    · rw [if_pos h1] at h
      have e : (i + n).toNat = j := Option.some.inj h
      exact ⟨by rw [seqIndex_neg (by omega) h1, e], by omega, h1, by omega⟩
    · rw [if_neg h1] at h; cases h
theorem atI_get {α : Type} {xs : List α} {i : Int} {v : α} (h : atI xs i = some v) : ∃ j, seqIndex? i xs.length = some j ∧ xs[j]? = some v ∧ j < xs.length ∧ -(xs.length : Int) ≤ i ∧ i < xs.length := by
  unfold atI at h
  cases e : ixN xs.length i with
  | none => rw [e] at h; cases h
  | some j =>
    rw [e] at h
    obtain ⟨h1, h2, h3, h4⟩ := ixN_seq e
    exact ⟨j, h1, h, h2, h3, h4⟩
theorem atI_nat {α : Type} {xs : List α} {j : Nat} {v : α} (h : xs[j]? = some v) : atI xs (j : Int) = some v := by
  have hj : j < xs.length := (List.getElem?_eq_some_iff.mp h).1
  have e : ixN xs.length (j : Int) = some j := by
    unfold ixN
    rw [if_pos (by omega), if_pos (by omega)]; simp
  unfold atI; rw [e]; exact h
noncomputable def PlainIx (b : Expr) : Prop := ∀ o i, subscripted b false o i = operate [o, i] (getItem o i)
noncomputable def IxR (X : Cx) (r : R2) : Prop :=
  ∀ (value slice : Expr) (pins : List (Addr × Obj)) (s : Shared) (σ : St) (H : Hp) (x y : V) (v u : Value) (Q : VK), Inv X pins σ H s → RelV x v → RelV y u → r x y H Q →
    subscripted slice false v u = operate [v, u] (getItem v u) → wpAny (model X.prog X.w) X.A (subscriptTail value slice v u) (EP X pins σ Q) X.xe s
noncomputable def MtR (X : Cx) (id : String) (r : V → List V → Hp → VK → Prop) : Prop :=
  ∀ (pins : List (Addr × Obj)) (s : Shared) (σ : St) (H : Hp) (x : V) (xs : List V) (v : Value) (us : List Value) (Q : VK), Inv X pins σ H s → RelV x v → Vals xs us → r x xs H Q →
    wpAny (model X.prog X.w) X.A (call (.builtin id) (v :: us)) (EP X pins σ Q) X.xe s
section
variable {X : Cx} {a b : Expr} {ta tb : TE} {pos : Pos}
theorem IxR.or {r r' : R2} (h : IxR X r) (h' : IxR X r') : IxR X (fun x y H Q => r x y H Q ∨ r' x y H Q) := by
  intro value slice pins s σ H x y v u Q I rx ry q hs
  rcases q with q | q
  · exact h value slice pins s σ H x y v u Q I rx ry q hs
  · exact h' value slice pins s σ H x y v u Q I rx ry q hs
theorem pe_ix {r : R2} (hr : IxR X r) (ha : PE X a ta) (hb : PE X b tb) (hs : PlainIx b) : PE X (.Subscript a b pos) (tOp r ta tb) := by
  intro pins s σ H Q I h
  exact Subscript_ (binT ha hb I h fun v u s2 x y H2 I2 rx ry q => hr a b pins s2 σ H2 x y v u Q I2 rx ry q (hs _ _))

noncomputable def rIxL (K : PySem.W.Frag) : R2 := fun x y H Q => ∃ p xs i v, x = .ref p ∧ y = .int i ∧ SqL K H p xs ∧ atI xs i = some v ∧ Q v H
noncomputable def rIxT (K : PySem.W.Frag) : R2 := fun x y H Q => ∃ p xs i v, x = .ref p ∧ y = .int i ∧ SqT K H p xs ∧ atI xs i = some v ∧ Q v H
noncomputable def rIxS : R2 := fun x y H Q => ∃ z i c, x = .str z ∧ y = .int i ∧ z.length ≤ sizeLine ∧ atI z.cps.toList i = some c ∧ Q (.str ⟨#[c]⟩) H
theorem ix_list : IxR X (rIxL X.K) := by
  intro value slice pins s σ H x y v u Q I rx ry h hs
  obtain ⟨p, xs, i, z, rfl, rfl, hq, he, q⟩ := h
  cases rx
  obtain ⟨t, rfl⟩ := ry
  obtain ⟨its, r, pl, hz⟩ := I.list hq
  obtain ⟨j, h1, h2, h3, h4, h5⟩ := atI_get he
  obtain ⟨w, ew, rw'⟩ := r.get h2
  have hl := r.length
  have hn := line63
  have fin : EP X pins σ Q w s := ⟨z, H, I, rw', q⟩
  by_cases h0 : 0 ≤ i
  · have hj : i.toNat = j := by
      rw [seqIndex_of h0 h5] at h1
      exact Option.some.inj h1
    exact item_listR pl.isList h0 (by omega) (by rw [hj]; simpa using ew) fin hs
  · have hj : (i + (its.toArray.size : Int)).toNat = j := by
      rw [seqIndex_neg (by omega) h4] at h1
      rw [List.size_toArray, ← hl]
      exact Option.some.inj h1
    exact subscriptTail_builtinR (x := w) pl.isList.typeIs slot_list_getitem.lookup
      (wpAny_getItem_list_neg (Q := fun r s' => r = w ∧ EP X pins σ Q r s') pl.isList (by omega) (by rw [List.size_toArray] <;> omega) (by omega) (by rw [hj]; simpa using ew) ⟨rfl, fin⟩) hs
theorem ix_tup : IxR X (rIxT X.K) := by
  intro value slice pins s σ H x y v u Q I rx ry h hs
  obtain ⟨p, xs, i, z, rfl, rfl, hq, he, q⟩ := h
  cases rx
  obtain ⟨t, rfl⟩ := ry
  obtain ⟨its, r, pl, hz⟩ := I.tuple hq
  obtain ⟨j, h1, h2, h3, h4, h5⟩ := atI_get he
  obtain ⟨w, ew, rw'⟩ := r.get h2
  have hl := r.length
  have hn := line63
  have fin : EP X pins σ Q w s := ⟨z, H, I, rw', q⟩
  exact subscriptTail_builtinR (x := w) pl.typeIs slot_tuple_getitem.lookup
    (getItem_tuple (j := j) (Q := fun r s' => r = w ∧ EP X pins σ Q r s') pl (by omega) (by omega) (by rw [List.size_toArray, ← hl]; exact h1) (by simpa using ew) ⟨rfl, fin⟩) hs
theorem ix_str : IxR X rIxS := by
  intro value slice pins s σ H x y v u Q I rx ry h hs
  obtain ⟨z, i, c, rfl, rfl, hz, he, q⟩ := h
  obtain ⟨t, rfl⟩ := rx
  obtain ⟨t', rfl⟩ := ry
  obtain ⟨j, h1, h2, h3, h4, h5⟩ := atI_get he
  have hl : z.cps.toList.length = z.length := by simp [Str.length]
  rw [hl] at h1 h4 h5
  have hn := line63
  exact tail_any (typeIs_str s z t) slot_str_getitem.lookup (getItem_str (c := c) (by
    have e1 : decide (i < -(2 ^ 63 : Int)) = false := decide_eq_false (by omega)
    have e2 : decide (i ≥ 2 ^ 63) = false := decide_eq_false (by omega)
    rw [e1, e2, Bool.or_false]) (by rw [h1]; simpa using h2) ⟨.str ⟨#[c]⟩, H, I.tok _, ⟨_, rfl⟩, q⟩) hs
noncomputable def rIx (K : PySem.W.Frag) : R2 := fun x y H Q => rIxL K x y H Q ∨ rIxT K x y H Q ∨ rIxS x y H Q
theorem ix_seq : IxR X (rIx X.K) := ix_list.or (ix_tup.or ix_str)

theorem mapSeq_set (its : List Value) (n j : Nat) (u : Value) : Obj.mapSeq (·.setIfInBounds j u) { cls := .type "list", data := .seq its.toArray n } = { cls := .type "list", data := .seq (its.set j u).toArray n } := by
  simp [Obj.mapSeq]
theorem Inv.lst {pins : List (Addr × Obj)} {σ : St} {H : Hp} {s : Shared} {p : Addr} {xs : List V} (I : Inv X pins σ H s) (h : H p = some (.lst xs)) :
    ∃ (its : List Value) (n : Nat), Vals xs its ∧ s.heap.get? p = some { cls := .type "list", data := .seq its.toArray n } ∧ xs.length ≤ sizeLine := by
  obtain ⟨z, its, n, r, e⟩ := I.hok p _ h
  exact ⟨its, n, r, e, z⟩
theorem Inv.lstUpd {pins : List (Addr × Obj)} {σ : St} {H : Hp} {s : Shared} {p : Addr} {xs ys : List V} {its its' : List Value} {n n' : Nat} {f : Obj → Obj} (I : Inv X pins σ H s) (h : H p = some (.lst xs))
    (ho : s.heap.get? p = some { cls := .type "list", data := .seq its.toArray n }) (hf : f { cls := .type "list", data := .seq its.toArray n } = { cls := .type "list", data := .seq its'.toArray n' }) (r : Vals ys its') (hz : ys.length ≤ sizeLine) (t : Nat) :
    Inv X pins σ (upd H p (.lst ys)) { s with heap := s.heap.update p f, toks := t } := by
  have e : (s.heap.update p f).get? p = some { cls := .type "list", data := .seq its'.toArray n' } := by
    rw [Heap.get?_update_self f ho (by rw [hf] <;> rfl), hf]
  refine I.write (x := p) (e := p) (by rw [h]; trivial) (.inl rfl) (fun b u hb q => (Heap.get?_update_other _ _ (Ne.symm hb)).trans q) ⟨_, e⟩ ?_
  exact ⟨hz, its', n', r, e⟩
noncomputable def rSetL : V → V → V → Hp → (Hp → Prop) → Prop := fun o i v H Q => ∃ p xs k j, o = .ref p ∧ i = .int k ∧ H p = some (.lst xs) ∧ ixN xs.length k = some j ∧ Q (upd H p (.lst (xs.set j v)))
theorem set_list : PSet X rSetL := by
  intro pins s σ H o i v ov iv u Q I ro ri rv h
  obtain ⟨p, xs, k, j, rfl, rfl, hp, hj, q⟩ := h
  cases ro
  obtain ⟨t, rfl⟩ := ri
  obtain ⟨its, n, r, ho, hz⟩ := I.lst hp
  obtain ⟨h1, h2, h3, h4⟩ := ixN_seq hj
  have hl := r.length
  have hn := line63
  have I' : Inv X pins σ (upd H p (.lst (xs.set j v))) { s with heap := s.heap.update p (Obj.mapSeq (·.setIfInBounds j u)) } :=
    I.lstUpd hp ho (mapSeq_set its n j u) (r.set rv j) (by rw [List.length_set]; exact hz) s.toks
  by_cases h0 : 0 ≤ k
  · have hk : k.toNat = j := by
      rw [seqIndex_of h0 h4] at h1
      exact Option.some.inj h1
    exact PySem.W.ki_setAt ho h0 (by omega) (by rw [List.size_toArray, ← hl]; exact h4) (by rw [hk]; exact ⟨_, I', q⟩)
  · have hk : (k + (its.toArray.size : Int)).toNat = j := by
      rw [seqIndex_neg (by omega) h3] at h1
      rw [List.size_toArray, ← hl]
      exact Option.some.inj h1
    exact PySem.W.ki_setBack ho (by omega) (by rw [List.size_toArray, ← hl]; exact h3) (by omega) (by rw [hk]; exact ⟨_, I', q⟩)

theorem slice_bounds (lo hi : Option Int) (n : Nat) : (sliceBounds lo hi none n).1 = ((HT.sIx n 0 lo : Nat) : Int) ∧ (sliceBounds lo hi none n).2.1 = ((HT.sIx n n hi : Nat) : Int) ∧ (sliceBounds lo hi none n).2.2 = 1 := by
  refine ⟨?_, ?_, rfl⟩
  · cases lo with
    | none => simp [sliceBounds, HT.sIx]
    | some i =>
      simp only [sliceBounds, HT.sIx, Option.getD_none, show (1 : Int) > 0 by decide, if_true]
      by_cases h : i < 0
      · simp only [h, if_true] <;> omega
      · simp only [h, if_false] <;> omega
  · cases hi with
    | none => simp [sliceBounds, HT.sIx]
    | some i =>
      simp only [sliceBounds, HT.sIx, Option.getD_none, show (1 : Int) > 0 by decide, if_true]
      by_cases h : i < 0
      · simp only [h, if_true] <;> omega
      · simp only [h, if_false] <;> omega
theorem slicePick_cut (its : List Value) (lo hi : Option Int) : slicePick its.toArray lo hi none = ((its.drop (HT.sIx its.length 0 lo)).take (HT.sIx its.length its.length hi - HT.sIx its.length 0 lo)).toArray := by
  obtain ⟨h1, h2, h3⟩ := slice_bounds lo hi its.toArray.size
  unfold slicePick
  rw [h1, h2, h3]
  simp only [sliceRange_one, pick_run, List.size_toArray] <;> rfl
noncomputable def rSlL (K : PySem.W.Frag) : V → Option Int → Option Int → Hp → VK → Prop := fun x lo hi H Q => ∃ a xs, x = .ref a ∧ SqL K H a xs ∧ ∀ p, H p = none → Q (.ref p) (upd H p (.lst (cutV xs lo hi)))
theorem sl_list : SlR X (rSlL X.K) := by
  intro pins s σ H x v vl vu lo hi sl Q I rx hs pl pu h
  obtain ⟨a, xs, rfl, hx, q⟩ := h
  cases rx
  obtain ⟨its, r, ht, hz⟩ := I.list hx
  have hlen := r.length
  refine ⟨"list", _, slot_list_getitem.lookup, ht.isList.typeIs, ?_⟩
  refine wpAny_getItem_list_slice ht.isList hs pl pu .none (by simp) ?_ (by rw [List.size_toArray] <;> omega)
  rw [slicePick_cut, ← hlen]
  refine ⟨.ref s.heap.objs.size, _, I.laid (t' := s.toks) (o := .lst (cutV xs lo hi)) (fun b ob q => Heap.get?_push_of_some _ q) (Nat.le_refl _) ?_, rfl, q _ (I.hok.fresh (Nat.le_refl _))⟩
  exact ⟨Nat.le_trans (cutV_length xs lo hi) hz, _, 0, (r.drop (HT.sIx xs.length 0 lo)).take (HT.sIx xs.length xs.length hi - HT.sIx xs.length 0 lo), Heap.get?_push_size _ rfl⟩

noncomputable def flatV : V → Bool
  | .non => true
  | .bl _ => true
  | .int _ => true
  | .str _ => true
  | _ => false
noncomputable def eqV : V → V → Bool
  | .non, .non => true
  | .bl a, .bl b => a == b
  | .bl a, .int b => (if a then 1 else 0) == b
  | .int a, .bl b => a == (if b then 1 else 0)
  | .int a, .int b => a == b
  | .str a, .str b => a == b
  | _, _ => false
theorem eqAt_V {A : Around} {s : Shared} {y x : V} {u v : Value} (ry : RelV y u) (rx : RelV x v) (fy : flatV y = true) (fx : flatV x = true) : SeqAt.EqAt A s u v (eqV y x) := by
  cases y with
  | non =>
    cases ry
    cases x with
    | non => cases rx; exact SeqAt.EqAt.same _
    | bl b => cases rx; exact SeqAt.EqAt.none_bool b
    | int b => obtain ⟨t, rfl⟩ := rx; exact SeqAt.EqAt.none_int b t
    | str b => obtain ⟨t, rfl⟩ := rx; exact SeqAt.EqAt.none_str b t
    | _ => exact absurd (show false = true from fx) Bool.false_ne_true
  | bl a =>
    cases ry
    cases x with
    | non => cases rx; exact SeqAt.EqAt.bool_none a
    | bl b => cases rx; exact SeqAt.EqAt.bool_bool a b
    | int b => obtain ⟨t, rfl⟩ := rx; exact SeqAt.EqAt.bool_int a b t
    | str b => obtain ⟨t, rfl⟩ := rx; exact SeqAt.EqAt.bool_str a b t
    | _ => exact absurd (show false = true from fx) Bool.false_ne_true
  | int a =>
    obtain ⟨t', rfl⟩ := ry
    cases x with
    | non => cases rx; exact SeqAt.EqAt.int_none a t'
    | bl b => cases rx; exact SeqAt.EqAt.int_bool a t' b
    | int b => obtain ⟨t, rfl⟩ := rx; exact SeqAt.EqAt.int_int a t' b t
    | str b => obtain ⟨t, rfl⟩ := rx; exact SeqAt.EqAt.int_str a t' b t
    | _ => exact absurd (show false = true from fx) Bool.false_ne_true
  | str a =>
    obtain ⟨t', rfl⟩ := ry
    cases x with
    | non => cases rx; exact SeqAt.EqAt.str_none a t'
    | bl b => cases rx; exact SeqAt.EqAt.str_bool a t' b
    | int b => obtain ⟨t, rfl⟩ := rx; exact SeqAt.EqAt.str_int a t' b t
    | str b => obtain ⟨t, rfl⟩ := rx; exact SeqAt.EqAt.str_str a t' b t
    | _ => exact absurd (show false = true from fx) Bool.false_ne_true
  | _ => exact absurd (show false = true from fy) Bool.false_ne_true
theorem call_len_seq : CallR X (.builtin "len") (fun xs H Q => ∃ p ys, xs = [.ref p] ∧ (SqL X.K H p ys ∨ SqT X.K H p ys) ∧ Q (.int ys.length) H) := by
  intro pins s σ H xs us Q I r h
  obtain ⟨p, ys, rfl, hq, q⟩ := h
  obtain ⟨u, rfl, rx⟩ := vals1 r
  cases rx
  have hn := line63
  rcases hq with hq | hq
  · obtain ⟨its, r', pl, hz⟩ := I.list hq
    have hlen := r'.length
    exact Calls.call_len_list pl.isList (by simp only [List.size_toArray] <;> omega) ⟨.int ys.length, H, I.tok _, ⟨s.toks + 1, by rw [List.size_toArray, hlen]⟩, q⟩
  · obtain ⟨its, r', pl, hz⟩ := I.tuple hq
    have hlen := r'.length
    exact len_tuple pl (by simp only [List.size_toArray] <;> omega) ⟨.int ys.length, H, I.tok _, ⟨s.toks + 1, by rw [List.size_toArray, hlen]⟩, q⟩
theorem call_len_str : CallR X (.builtin "len") (fun xs H Q => ∃ z, xs = [.str z] ∧ z.length ≤ sizeLine ∧ Q (.int z.length) H) := by
  intro pins s σ H xs us Q I r h
  obtain ⟨z, rfl, hz, q⟩ := h
  obtain ⟨u, rfl, t, rfl⟩ := vals1 r
  have hn := line63
  exact len_str (by omega) ⟨.int z.length, H, I.tok _, ⟨_, rfl⟩, q⟩
theorem CallR.or {f : Value} {r r' : List V → Hp → VK → Prop} (h : CallR X f r) (h' : CallR X f r') : CallR X f (fun xs H Q => r xs H Q ∨ r' xs H Q) := by
  intro pins s σ H xs us Q I rs q
  rcases q with q | q
  · exact h pins s σ H xs us Q I rs q
  · exact h' pins s σ H xs us Q I rs q
theorem call_tuple_of : CallR X (.type "tuple") (fun xs H Q => ∃ p ys, xs = [.ref p] ∧ ((SqL X.K H p ys ∧ ∀ l, H l = none → Q (.ref l) (upd H l (.tup ys))) ∨ (SqT X.K H p ys ∧ Q (.ref p) H))) := by
  intro pins s σ H xs us Q I r h
  obtain ⟨p, ys, rfl, h⟩ := h
  obtain ⟨u, rfl, rx⟩ := vals1 r
  cases rx
  rcases h with ⟨hq, q⟩ | ⟨hq, q⟩
  · obtain ⟨its, r', pl, hz⟩ := I.list hq
    have hlen := r'.length
    refine call_tuple_list pl.isList (fun h' kp => ?_) (by simp only [List.size_toArray] <;> omega)
    have I1 : Inv X pins σ H { s with heap := h' } := I.kept (t' := s.toks) kp
    have I2 : Inv X pins σ (upd H h'.objs.size (.tup ys)) { s with heap := h'.push { cls := .type "tuple", data := .seq its.toArray } } :=
      I1.laid (t' := s.toks) (fun b o e => Heap.get?_push_of_some _ e) (Nat.le_refl _) (show ObjOk X.prog X.w _ _ _ (.tup ys) from ⟨hz, its, r', IsTup.new _ _⟩)
    exact ⟨.ref h'.objs.size, _, I2, rfl, q _ (I1.hok.fresh (Nat.le_refl _))⟩
  · obtain ⟨its, r', pl, hz⟩ := I.tuple hq
    exact call_tuple_same pl ⟨.ref p, H, I, rfl, q⟩

noncomputable def tyV (K : PySem.W.Frag) (T : String) (x : V) (H : Hp) : Prop := match x with
  | .str _ => T = "str"
  | .int _ => T = "int"
  | .ref p => (T = "list" ∧ ∃ xs, SqL K H p xs) ∨ (T = "tuple" ∧ ∃ o, K.lookup p = some o ∧ o.cls = .type "tuple" ∧ o.dict = none) ∨
      (T = "dict" ∧ ((∃ kvs, H p = some (.dK kvs)) ∨ ∃ kvs, H p = some (.dT kvs))) ∨ (T = "set" ∧ ∃ S n, H p = some (.set S n))
  | _ => False
theorem tyV_is {pins : List (Addr × Obj)} {σ : St} {H : Hp} {s : Shared} {T : String} {x : V} {v : Value} (I : Inv X pins σ H s) (r : RelV x v) (ty : tyV X.K T x H) :
    s.TypeIs v T ∧ ∀ a, v = .ref a → ∃ ob, s.heap.get? a = some ob ∧ ob.dict = none := by
  cases x with
  | str z =>
    obtain ⟨t, rfl⟩ := r
    cases (show T = "str" from ty)
    exact ⟨typeIs_str s z t, fun _ e => nomatch e⟩
  | int i =>
    obtain ⟨t, rfl⟩ := r
    cases (show T = "int" from ty)
    exact ⟨typeIs_int s i t, fun _ e => nomatch e⟩
  | ref p =>
    cases r
    rcases ty with ⟨rfl, xs, hq⟩ | ⟨rfl, o, hk, hc, hd⟩ | ⟨rfl, hk⟩ | ⟨rfl, S, n, hk⟩
    · obtain ⟨its, _, pl, _⟩ := I.list hq
      refine ⟨pl.isList.typeIs, fun a e => ?_⟩
      cases e
      obtain ⟨o, n, e, c, hd, _⟩ := pl
      exact ⟨o, e, hd⟩
    · refine ⟨⟨o, I.kIn p o hk, hc⟩, fun a e => ?_⟩
      cases e
      exact ⟨o, I.kIn _ o hk, hd⟩
    · have z : ∃ o, s.heap.get? p = some o ∧ o.ExactDict := by
        rcases hk with ⟨kvs, hk⟩ | ⟨kvs, hk⟩
        · obtain ⟨_, _, _, _, o, _, _, e, ex, _⟩ := I.hok p _ hk
          exact ⟨o, e, ex⟩
        · obtain ⟨_, _, _, _, o, _, _, e, ex, _⟩ := I.hok p _ hk
          exact ⟨o, e, ex⟩
      obtain ⟨o, e, ex⟩ := z
      refine ⟨⟨o, e, ex.1⟩, fun a e2 => ?_⟩
      cases e2
      exact ⟨o, e, ex.2.1⟩
    · obtain ⟨o, _, _, _, e, ex, _⟩ := I.hok p _ hk
      refine ⟨⟨o, e, ex.1⟩, fun a e2 => ?_⟩
      cases e2
      exact ⟨o, e, ex.2.1⟩
  | _ => exact False.elim ty
noncomputable def tBM0 (K : PySem.W.Frag) (T : String) (r : V → List V → Hp → VK → Prop) (to : TE) : TE := fun σ H Q => to σ H fun x H1 => tyV K T x H1 ∧ r x [] H1 Q
noncomputable def tBM (K : PySem.W.Frag) (T : String) (r : V → List V → Hp → VK → Prop) (to : TE) (t : TA) : TE := fun σ H Q => to σ H fun x H1 => tyV K T x H1 ∧ t σ H1 fun xs H2 => r x xs H2 Q
variable {o e : Expr} {es : List Expr} {to : TE} {t : TA} {name : Str} {apos cpos : Pos} {T id : String} {r : V → List V → Hp → VK → Prop}
theorem pe_bm0 (pa : PlainAttrs T) (slot : Slot T name id) (hty : typeOf (.builtin id) = pure (.type "method_descriptor")) (hm : MtR X id r) (ho : PE X o to)
    (hbase : attributeBase o name X.env (eval o X.env) = eval o X.env := by rfl) (hline : (apos.endLine == cpos.line) = true := by rfl) : PE X (.Call (.Attribute o name apos) [] [] cpos) (tBM0 X.K T r to) := by
  intro pins s σ H Q I h
  refine wpAny_Call_method0_late hbase hline (thn (ho pins s σ H _ I h) fun v s1 ⟨x, H1, I1, r1, ty, q1⟩ => ?_)
  obtain ⟨h1, h2⟩ := tyV_is I1 r1 ty
  exact ⟨T, id, pa, slot, hty, h1, h2, Calls.callWith_builtin rfl (PySem.evalArgs_none (hm pins s1 σ H1 x [] v [] Q I1 r1 .nil q1))⟩
theorem pe_bm (pa : PlainAttrs T) (slot : Slot T name id) (hty : typeOf (.builtin id) = pure (.type "method_descriptor")) (hm : MtR X id r) (ho : PE X o to) (ha : PA X (e :: es) t)
    (hbase : attributeBase o name X.env (eval o X.env) = eval o X.env := by rfl)
    (hfew : ((backTo cpos (starEach (e :: es) X.env)).all (fun x => !x.1) && (backToKw cpos (keywordEach [] X.env)).all (fun x => x.1.isSome)
      && decide ((e :: es).length + ([] : List Keyword).length + (if ([] : List Keyword).isEmpty then 0 else 1) < 30)) = true := by rfl)
    (hline : (apos.endLine == cpos.line) = true := by rfl) (hs : starEach (e :: es) X.env = (false, eval e X.env) :: starEach es X.env := by rfl) (hplain : (backTo cpos (starEach es X.env)).any (·.1) = false := by rfl) :
    PE X (.Call (.Attribute o name apos) (e :: es) [] cpos) (tBM X.K T r to t) := by
  intro pins s σ H Q I h
  refine wpAny_Call_method_late hbase hfew hline rfl (thn (ho pins s σ H _ I h) fun v s1 ⟨x, H1, I1, r1, ty, q1⟩ => ?_)
  obtain ⟨h1, h2⟩ := tyV_is I1 r1 ty
  refine ⟨T, id, pa, slot, hty, h1, h2, ?_⟩
  have hA := ha cpos pins s1 σ H1 _ I1 q1
  rw [hs] at hA ⊢
  refine Calls.callWith_builtin (by show (false || (backTo cpos (starEach es X.env)).any (·.1)) = false; rw [hplain] <;> rfl) (Calls.evalArgs_plain ?_)
  exact thn hA fun us s2 ⟨vs, H2, I2, r2, q2⟩ => hm pins s2 σ H2 x vs v us Q I2 r1 r2 q2
end
end L2

namespace L2
open PySem PySem.Spec PyProof.Rows

noncomputable def MtM (X : Cx) (id : String) (r : V → List V → Hp → VK → Prop) : Prop :=
  ∀ (pins : List (Addr × Obj)) (s : Shared) (σ : St) (H : Hp) (x : V) (xs : List V) (v : Value) (us : List Value) (Q : VK), Inv X pins σ H s → RelV x v → Vals xs us → r x xs H Q →
    wpAny (model X.prog X.w) X.A (call (.builtin id) (v :: us)) (EP X pins σ Q) X.xe s

theorem Vals.one : ∀ {x : V} {us : List Value}, Vals [x] us → ∃ u, us = [u] ∧ RelV x u
  | _, _, .cons r .nil => ⟨_, rfl, r⟩
theorem Vals.zero : ∀ {us : List Value}, Vals [] us → us = []
  | _, .nil => rfl
theorem Vals.dropLast {xs : List V} {us : List Value} (h : Vals xs us) : Vals xs.dropLast us.dropLast := by
  induction h with
  | nil => exact .nil
  | cons r t ih =>
    cases t with
    | nil => exact .nil
    | cons q t' => exact .cons r ih
theorem Vals.eraseIdx : ∀ {xs : List V} {us : List Value} (i : Nat), Vals xs us → Vals (xs.eraseIdx i) (us.eraseIdx i)
  | _, _, _, .nil => .nil
  | _, _, 0, .cons _ t => t
  | _, _, i + 1, .cons r t => .cons r (Vals.eraseIdx i t)
theorem erase_last {α : Type} (l : List α) : l.eraseIdx (l.length - 1) = l.dropLast := by
  induction l with
  | nil => rfl
  | cons a r ih =>
    cases r with
    | nil => rfl
    | cons b r =>
      have e : (a :: b :: r).length - 1 = ((b :: r).length - 1) + 1 := by
        have h1 : (a :: b :: r).length = r.length + 2 := rfl
        have h2 : (b :: r).length = r.length + 1 := rfl
        omega
      rw [e, List.eraseIdx_cons_succ, ih]
      all_goals rfl
section
variable {X : Cx} {pins : List (Addr × Obj)} {σ : St} {H : Hp} {s : Shared} {l b : Addr} {xs ys zs : List V}

theorem Inv.lset {its its' : List Value} {n : Nat} {f : Array Value → Array Value} {t' : Nat} (I : Inv X pins σ H s) (hH : H l = some (.lst xs))
    (e : s.heap.get? l = some { cls := .type "list", data := .seq its.toArray n }) (hf : f its.toArray = its'.toArray) (hv : Vals ys its') (hz : ys.length ≤ sizeLine) :
    Inv X pins σ (upd H l (.lst ys)) { s with heap := s.heap.update l (Obj.mapSeq f), toks := t' } := by
  have q := PySem.IsL.update e f
  rw [hf] at q
  refine I.write (x := l) (e := l) (by rw [hH]; exact trivial) (.inl rfl) (fun b' u hb hu => (Heap.get?_update_other s.heap (Obj.mapSeq f) (Ne.symm hb)).trans hu) ⟨_, q⟩ ?_
  exact ⟨hz, its', _, hv, q⟩
theorem Inv.lnew {its : List Value} {t' : Nat} (I : Inv X pins σ H s) (hv : Vals ys its) (hz : ys.length ≤ sizeLine) :
    Inv X pins σ (upd H s.heap.objs.size (.lst ys)) { s with heap := s.heap.push { cls := .type "list", data := .seq its.toArray }, toks := t' } :=
  I.laid (fun _ _ q => Heap.get?_push_of_some _ q) (Nat.le_refl _) ⟨hz, its, 0, hv, Heap.get?_push_size _ rfl⟩
theorem Inv.fresh (I : Inv X pins σ H s) : H s.heap.objs.size = none := I.hok.fresh (Nat.le_refl _)
theorem Inv.lstM (I : Inv X pins σ H s) (hH : H l = some (.lst xs)) : xs.length ≤ sizeLine ∧ ∃ (its : List Value) (n : Nat), Vals xs its ∧ xs.length = its.length ∧ s.heap.get? l = some { cls := .type "list", data := .seq its.toArray n } := by
  obtain ⟨z, its, n, r, e⟩ := I.hok l _ hH
  exact ⟨z, its, n, r, r.length, e⟩

theorem notLongL {n : Nat} (h : n ≤ sizeLine) : Builtin.List.listTooLong n = false := by
  unfold Builtin.List.listTooLong
  exact decide_eq_false (by omega)
end

section
variable {X : Cx}

noncomputable def rAppend : V → List V → Hp → VK → Prop := fun x vs H Q => ∃ l xs y, x = .ref l ∧ vs = [y] ∧ H l = some (.lst xs) ∧ xs.length < sizeLine ∧ Q .non (upd H l (.lst (xs ++ [y])))
theorem mt_append : MtM X "list.append" rAppend := by
  intro pins s σ H x vs v us Q I rx rv h
  obtain ⟨l, xs, y, rfl, rfl, hH, hz, q⟩ := h
  cases rx
  obtain ⟨u, rfl, ru⟩ := rv.one
  obtain ⟨z, its, n, r, hl, e⟩ := I.lstM hH
  refine call_meets F.slot_list_append ⟨_, e, rfl⟩ F.entry_list_append (F.args_list_append_2 _ _) (PySem.list_append l its.toArray n u (by rw [List.size_toArray]; omega)) ⟨e, ?_⟩
  refine ⟨.non, _, I.lset (its' := its ++ [u]) hH e (by simp) (r.append (.cons ru .nil)) ?_, rfl, q⟩
  rw [List.length_append, List.length_singleton]
  omega

noncomputable def rExtend : V → List V → Hp → VK → Prop := fun x vs H Q => ∃ l b xs zs, x = .ref l ∧ vs = [.ref b] ∧ H l = some (.lst xs) ∧ H b = some (.lst zs) ∧ xs.length + zs.length ≤ sizeLine ∧ Q .non (upd H l (.lst (xs ++ zs)))
theorem mt_extend : MtM X "list.extend" rExtend := by
  intro pins s σ H x vs v us Q I rx rv h
  obtain ⟨l, b, xs, zs, rfl, rfl, hH, hB, hz, q⟩ := h
  cases rx
  obtain ⟨u, rfl, ru⟩ := rv.one
  cases ru
  obtain ⟨z, its, n, r, hl, e⟩ := I.lstM hH
  obtain ⟨z2, its2, n2, r2, hl2, e2⟩ := I.lstM hB
  have hsz : its.toArray.size + its2.toArray.size ≤ sizeLine := by rw [List.size_toArray, List.size_toArray]; omega
  have hlong : ¬ (!its.toArray.isEmpty && Builtin.List.listTooLong (its.toArray.size + its2.toArray.size)) = true := by
    rw [notLongL hsz, Bool.and_false]
    exact Bool.false_ne_true
  refine call_meets F.slot_list_extend ⟨_, e, rfl⟩ F.entry_list_extend (F.args_list_extend_2 _ _)
    (AutoSeq1.list_extend_list_list_0 l its.toArray n b its2.toArray n2 hlong (by rw [List.size_toArray]; omega) (by omega)) ⟨e, e2, ?_⟩
  refine ⟨.non, _, I.lset (its' := its ++ its2) hH e (by simp) (r.append r2) ?_, rfl, q⟩
  rw [List.length_append]
  omega

noncomputable def rPop : V → List V → Hp → VK → Prop := fun x vs H Q => ∃ l xs y, x = .ref l ∧ vs = [] ∧ H l = some (.lst xs) ∧ xs[xs.length - 1]? = some y ∧ Q y (upd H l (.lst xs.dropLast))
theorem mt_pop : MtM X "list.pop" rPop := by
  intro pins s σ H x vs v us Q I rx rv h
  obtain ⟨l, xs, y, rfl, rfl, hH, hy, q⟩ := h
  cases rx
  have hus := rv.zero
  subst hus
  obtain ⟨z, its, n, r, hl, e⟩ := I.lstM hH
  obtain ⟨u, hu, ru⟩ := r.get hy
  have hy' : its.toArray[its.toArray.size - 1]? = some u := by
    show its.toArray[its.length - 1]? = some u
    rw [← Array.getElem?_toList, ← hl]
    exact hu
  refine call_meets F.slot_list_pop ⟨_, e, rfl⟩ F.entry_list_pop (F.args_list_pop_1 _) (MeetsSeq.list_pop_last l its.toArray n u hy' (by rw [List.size_toArray]; omega)) ⟨e, ?_⟩
  refine ⟨y, _, I.lset (its' := its.dropLast) hH e ?_ r.dropLast ?_, ru, q⟩
  · show its.toArray.eraseIdxIfInBounds (its.toArray.size - 1) = its.dropLast.toArray
    rw [List.size_toArray, List.eraseIdxIfInBounds_toArray, erase_last]
  · rw [List.length_dropLast]
    omega

noncomputable def rCat : R2 := fun x y H Q => ∃ l b xs zs, x = .ref l ∧ y = .ref b ∧ H l = some (.lst xs) ∧ H b = some (.lst zs) ∧ xs.length + zs.length ≤ sizeLine ∧ ∀ p, H p = none → Q (.ref p) (upd H p (.lst (xs ++ zs)))
theorem op_cat : OpR X (binaryOp .Add) rCat := by
  intro pins s σ H x y v u Q I rx ry h
  obtain ⟨l, b, xs, zs, rfl, rfl, hH, hB, hz, q⟩ := h
  cases rx
  cases ry
  obtain ⟨z, its, n, r, hl, e⟩ := I.lstM hH
  obtain ⟨z2, its2, n2, r2, hl2, e2⟩ := I.lstM hB
  refine PySem.P.add_list e e2 ?_ (by rw [List.size_toArray, List.size_toArray]; omega)
  have ea : its.toArray ++ its2.toArray = (its ++ its2).toArray := by simp
  rw [ea]
  exact ⟨.ref _, _, I.lnew (t' := s.toks) (r.append r2) (by rw [List.length_append]; omega), rfl, q _ I.fresh⟩
end

section
variable {prog : Program} {w : World} {A : Around} {E : Value → Shared → Prop} {s : Shared}
end

section
variable {X : Cx}
end
end L2

namespace Att
open PySem PySem.W PySem.Calls PyProof.Rows

theorem ints_of_wellAll {P : Params} {h : Heap} : ∀ (ns : List Int) (vs : List Value), WellAll P h vs (ns.map WData.int) → IntsAre vs ns := by
  intro ns
  induction ns with
  | nil =>
    intro vs w
    rw [List.map_nil] at w
    cases w
    exact .nil
  | cons n ns ih =>
    intro vs w
    rw [List.map_cons] at w
    cases w with
    | cons a b =>
      cases a
      exact .cons _ _ (ih _ b)

theorem script_of {l : OpenLaw} {n : Nat} (hn : l.most = some n) {P : Params} {h : Heap} {args : List WData} {vals : List Value}
    (hpre : l.row.toRowW.claim.pre args = true) (hwl : WellAll P h vals args) :
    ∃ a vs ns, vals = [Value.ref a] ∧ args = [WData.list (ns.map WData.int)] ∧ h.get? a = some { cls := .type "list", data := .seq vs.toArray } ∧ IntsAre vs ns ∧ ns.length ≤ n := by
  have hsh : WShape.hasAll [] args [.list .int] = true := (pre_splitW hpre).1
  have hc : l.pre.holds [] { args := args } = true := (pre_splitW hpre).2
  obtain ⟨d, r, rfl, h1, h2⟩ := hasAllW_cons hsh
  obtain rfl := hasAllW_nil h2
  obtain ⟨xs, rfl, h3⟩ := hasW_list h1
  obtain ⟨ns, rfl⟩ := items_int h3
  have hlen : ns.length ≤ n := by
    unfold OpenLaw.pre at hc
    have h4 : (WTm.not (.lt (.lit (.int (n : Int))) (.len (.arg 0)))).holds [] { args := [.list (ns.map .int)] } = true := by
      have h4 := (holds_andW hc).1
      rw [hn] at h4
      exact h4
    have h5 := condW_of h4 (w_not (w_lt w_lit (w_len_list (w_arg rfl))))
    rw [List.length_map] at h5
    refine Nat.le_of_not_lt fun q => ?_
    have q' : (n : Int) < ((ns.length : Nat) : Int) := by omega
    first
      | (rw [decide_eq_true q'] at h5; exact absurd h5 (by decide))
      | (simp at h5; omega)
  cases hwl with
  | cons w1 w2 =>
    cases w2
    cases w1 with
    | list ho hall => exact ⟨_, _, ns, rfl, rfl, ho, ints_of_wellAll ns _ hall, hlen⟩

theorem post_true (l : OpenLaw) (args : List WData) : l.row.toRowW.claim.post args (.bool true) args = true :=
  postW_of (r := l.row.toRowW) (X := (true == true))
    (show WShape.has [] (.bool true) .bool = true by first | rfl | decide | simp [WShape.has, WShape.arms, WShape.armsAll])
    (show (WTm.eq .res (.lit (.bool true))).value [] { args := args, res := some (.bool true), after := args } = some (.bool (true == true)) from w_eq_bool (w_res rfl) w_lit) rfl

theorem attach_call {l : OpenLaw} {n : Nat} {q : Program} {loose : List Str} {XP : (Str → Option Value) → Heap → Prop} {YP : World → Heap → Prop} {d : DefRec}
    (hn : l.most = some n) (hdf : d.params.defaults = [])
    (call : ∀ (w : World) (s₀ s₁ : Shared) (mg mb : Str → Option Value) (fa : Addr) (o : Obj) (pm cd doc : Value) (a : Addr) (vs : List Value) (ns : List Int),
      Ground q loose [] XP w s₀ mg mb s₁.heap → YP w s₁.heap →
      s₁.heap.get? fa = some o → o.data = .func (docDef d.name d.params d.body d.scope pm cd doc) → s₁.heap.CodeRec cd d.name → mg d.name = some (.ref fa) →
      s₁.heap.get? a = some { cls := .type "list", data := .seq vs.toArray } → IntsAre vs ns → ns.length ≤ n → s₁.gens = #[] →
      codeAny (model l.prog w) callerA (.call (.ref fa) ⟨[.ref a], []⟩) (fun r s' => r = .ok (.ret (.bool true)) ∧ OldK s₁.heap s'.heap ∧ s'.os = s₁.os ∧ AllBare s'.gens) s₁) :
    WalkO q loose XP YP l.row.toRowW d [] (fun f vs => PySem.call f vs) := by
  intro w s₀ s₁ mg mb G Y fa o pm cd doc dV kV ho hd hcd hD hmg hg args vals as hpre hlay hrd hwl hlo
  obtain rfl : dV = .none := Dflts.none hD hdf
  obtain rfl : kV = .none := Dflts.noKw hD
  obtain ⟨a, vs, ns, rfl, rfl, hobj, hints, hlen⟩ := script_of hn hpre hwl
  refine enter_call (codeAny_mono (call w s₀ s₁ mg mb fa o pm cd doc a vs ns G Y ho (fd_plain hd) hcd hmg hobj hints hlen hg) fun r s' hq => ?_)
  obtain ⟨rfl, h2, h3, h4⟩ := hq
  exact ⟨.inl ⟨.bool true, .bool true, [], rfl, fun _ => rfl, .bool true, post_true l _, fun _ => ⟨List.Pairwise.nil, fun _ hm => (nomatch hm)⟩⟩, h2, h3, h4⟩

section
variable {prog : Program} {w : World} {A : Around} {E : Value → Shared → Prop} {s : Shared} {K : Frag}

end
end Att

namespace L2
open PySem PySem.Spec PyProof.Rows

theorem vals_ints : ∀ {vs : List Value} {ns : List Int}, IntsAre vs ns → Vals (ns.map V.int) vs
  | _, _, .nil => .nil
  | _, _, .cons n t h => .cons ⟨t, rfl⟩ (vals_ints h)

noncomputable def Only (H : Hp) : Prop := ∀ b, H b = none ∨ ∃ o xs, H b = some (.frz o (.lst xs))

theorem law_call {P : Program} {w : World} {K : PySem.W.Frag} {mg mb : Str → Option Value} {CX : CXT} {k : Nat} {fa a : Addr} {fd : FuncData} {x : Str} {sp : Sp} {s₁ : Shared} {vs : List Value} {ns : List Int}
    (KX : K.In s₁.heap) (hns : s₁.heap.Ns mainGlobals mg) (hb : s₁.heap.Ns builtinsNs mb) (hbb : ∀ x : Str, x ≠ "__name__" → mb x = bootBuiltins x) (hlim : s₁.heap.NoLimit) (hg : s₁.gens = #[])
    (ha : s₁.heap.get? a = some { cls := .type "list", data := .seq vs.toArray }) (hi : IntsAre vs ns) (hl : ns.length ≤ sizeLine) (hr : Room k callerA)
    (F : ∀ base : Heap, K.In base → base.Ns mainGlobals mg → FnOk P w K mg base CX k fa fd [x] sp) (hbind : ∀ (s : Shared) (u : Value), BindsTo s fd ⟨[u], []⟩ [(x, u)])
    (hsp : ∀ H : Hp, Only H → SqL K H a (ns.map V.int) → sp [.ref a] H (fun v _ => v = .bl true) fun _ _ _ => False)
    (hCX : ∀ H e s', CX [] H s₁ (fun _ _ _ => False) e s' → False) :
    codeAny (model P w) callerA (.call (.ref fa) ⟨[.ref a], []⟩) (fun r s' => r = .ok (.ret (.bool true)) ∧ OldK s₁.heap s'.heap ∧ s'.os = s₁.os ∧ AllBare s'.gens) s₁ := by
  have rv := vals_ints hi
  have lenV := hi.length
  -- from an abstract heap in which nothing but the script may be tracked
  have core : ∀ H : Hp, Only H → SqL K H a (ns.map V.int) → HOk P w H s₁.heap → (∀ b, H b ≠ none → b = a) → (H a ≠ none → K.lookup a = none) →
      codeAny (model P w) callerA (.call (.ref fa) ⟨[.ref a], []⟩) (fun r s' => r = .ok (.ret (.bool true)) ∧ OldK s₁.heap s'.heap ∧ s'.os = s₁.os ∧ AllBare s'.gens) s₁ := by
    intro H hO hS hok hA hK
    have base_of : ∀ {b : Addr} {o : Obj}, s₁.heap.get? b = some o → H b = none → (hidT s₁.heap H).get? b = some o := fun e n => hidT_get e n
    have noA : ∀ {b : Addr} {o : Obj} {es : Array DictEntry} {ep : Nat}, s₁.heap.get? b = some o → o.data = .dict es ep → H b = none := fun {b o es ep} e d => by
      cases q : H b with
      | none => rfl
      | some u =>
        have e' : b = a := hA b (by rw [q]; simp)
        subst e'
        rw [ha] at e; cases e
        have d' : Data.seq vs.toArray _ = Data.dict es ep := d
        cases d'
    have nsK : ∀ {b : Addr} {m : Str → Option Value}, s₁.heap.Ns b m → (hidT s₁.heap H).Ns b m := fun {b m} ⟨o, es, ep, e, d, r⟩ => ⟨o, es, ep, base_of e (noA e d), d, r⟩
    have hKb : K.In (hidT s₁.heap H) := fun b o e => base_of (KX b o e) (by
      cases q : H b with
      | none => rfl
      | some u =>
        have e' : b = a := hA b (by rw [q]; simp)
        subst e'
        rw [hK (by rw [q]; simp)] at e; cases e)
    have hM : Mod K mg (hidT s₁.heap H) := ⟨hKb, nsK hns, ⟨mb, nsK hb, hbb⟩, let ⟨mc, h1, h2⟩ := hlim; ⟨mc, nsK h1, h2⟩⟩
    have e0 : Env0 P w K mg (hidT s₁.heap H) callerA [] s₁ H := ⟨rfl, hM, fun b o e => of_hidT e, Nat.le_of_eq (hidT_size _ _), trivial, fun b hb => absurd (show b ∈ ([] : List Addr) from hb) (by simp), hok, .of_eq hg⟩
    refine codeAny_mono ((F _ hKb (nsK hns)).run callerA [] s₁ H ⟨[.ref a], []⟩ [.ref a] [.ref a] _ _ hr e0 (hbind s₁ (.ref a)) (.cons rfl .nil) (hsp H hO hS)) fun r s' h => ?_
    cases r with
    | error e => exact (hCX H e s' h).elim
    | ok fl =>
      cases fl with
      | next => exact False.elim h
      | brk => exact False.elim h
      | cont => exact False.elim h
      | ret u =>
        obtain ⟨v, H', os, bare, un, hok', r', q⟩ := h
        have q' : v = .bl true := q
        subst q'
        obtain rfl : u = Value.bool true := r'
        refine ⟨rfl, OldK.of_keep fun b o e => ?_, os, bare⟩
        cases q : H b with
        | none => exact un.keep b o e q (by intro z; exact absurd (show b ∈ ([] : List Addr) from z) (by simp)) (by simp)
        | some u =>
          rcases hO b with z | ⟨ob, xs, z⟩
          · rw [q] at z; cases z
          · have z2 := un.frzs b ob _ z
            obtain ⟨e1, _⟩ := hok b _ z
            obtain ⟨e2, _⟩ := hok' b _ z2
            rw [e] at e1; cases e1
            exact e2
  cases hk : K.lookup a with
  | some o =>
    -- the script is one of the module's own objects
    have e := KX a o hk
    rw [ha] at e
    cases e
    refine core (fun _ => none) (fun _ => .inl rfl) (.inr ⟨_, vs.toArray, _, hk, rfl, rfl, rfl, by rw [List.size_toArray, lenV]; exact hl, by simpa using rv⟩) (fun b u z => by have z' : (none : Option HO) = some u := z; cases z') (fun b z => absurd rfl z) fun z => absurd rfl z
  | none =>
    refine core (fun b => if b = a then some (.frz { cls := .type "list", data := .seq vs.toArray } (.lst (ns.map V.int))) else none) (fun b => ?_) (.inl (.inr ⟨{ cls := .type "list", data := .seq vs.toArray }, if_pos rfl⟩)) (fun b u z => ?_) (fun b z => ?_) fun _ => hk
    · by_cases hb : b = a
      · exact .inr ⟨_, _, if_pos hb⟩
      · exact .inl (if_neg hb)
    · by_cases hb : b = a
      · have z' := (if_pos hb).symm.trans z
        cases z'
        subst hb
        exact ⟨ha, by rw [List.length_map]; exact hl, vs, _, rv, ha⟩
      · have z' := (if_neg hb).symm.trans z
        cases z'
    · by_cases hb : b = a
      · exact hb
      · exact absurd (if_neg hb) z
end L2

namespace L2
open PySem PySem.Spec PyProof.Rows

noncomputable abbrev KOf {K : PySem.W.Frag} {h : Heap} (_ : K.In h) : PySem.W.Frag := K

theorem walk_of {l : PySem.W.OpenLaw} {n k : Nat} {q : Program} {loose : List Str} {XP : (Str → Option Value) → Heap → Prop} {YP : World → Heap → Prop} {d : DefRec} {K : Params → PySem.W.Frag} {CX : World → CXT} {sp : World → Sp} {x : Str}
    (hn : l.most = some n) (hn2 : n ≤ sizeLine) (hdf : d.params.defaults = []) (hr : Room k callerA)
    (hY : ∀ (w : World) (h : Heap), YP w h → (K w.params).In h)
    (F : ∀ (w : World) (mg : Str → Option Value) (fa : Addr) (h : Heap), (K w.params).In h → h.Ns mainGlobals mg → mg d.name = some (.ref fa) →
      ∃ fd : FuncData, (∀ (s : Shared) (u : Value), BindsTo s fd ⟨[u], []⟩ [(x, u)]) ∧
        ∀ base : Heap, (K w.params).In base → base.Ns mainGlobals mg → FnOk l.prog w (K w.params) mg base (CX w) k fa fd [x] (sp w))
    (hsp : ∀ (w : World) (H : Hp) (a : Addr) (ns : List Int), ns.length ≤ n → Only H → SqL (K w.params) H a (ns.map V.int) → sp w [.ref a] H (fun v _ => v = .bl true) fun _ _ _ => False)
    (hCX : ∀ (w : World) (H : Hp) (s : Shared) (e : Value) (s' : Shared), CX w [] H s (fun _ _ _ => False) e s' → False) :
    PySem.W.WalkO q loose XP YP l.row.toRowW d [] (fun f vs => PySem.call f vs) := by
  refine Att.attach_call hn hdf fun w s₀ s₁ mg mb fa o pm cd doc a vs ns G Y ho hd hcd hmg hobj hints hlen hg => ?_
  have KX := hY w _ Y
  obtain ⟨fd, hb, hF⟩ := F w mg fa _ KX G.T.g hmg
  exact law_call KX G.T.g G.T.b G.T.builtins G.T.nolimit hg hobj hints (Nat.le_trans hlen hn2) hr hF hb (fun H hO hS => hsp w H a ns hlen hO hS) fun H e s' => hCX w H s₁ e s'
end L2


namespace L2
open PySem PySem.Spec PyProof.Rows

noncomputable def defArgs (s : Stmt) : Arguments := match s with
  | .FunctionDef _ a _ _ _ _ _ _ _ _ => a
  | _ => { posonlyargs := [], args := [], vararg := none, kwonlyargs := [], kw_defaults := [], kwarg := none, defaults := [] }
noncomputable def defBody (s : Stmt) : List Stmt := match s with
  | .FunctionDef _ _ b _ _ _ _ _ _ _ => b
  | _ => []
noncomputable def defScope (s : Stmt) : Scope := match s with
  | .FunctionDef _ _ _ _ _ _ sc _ _ _ => sc
  | _ => { kind := .function, names := [], isGenerator := false, isCoroutine := false }

noncomputable abbrev CX0 : CXT := fun _ _ _ _ _ _ => False
noncomputable abbrev E0 : XK := fun _ _ _ => False
theorem pass0 {X : Cx} : Passes CX0 X E0 := fun _ _ _ _ _ _ _ h => h.elim

structure Fun (K : PySem.W.Frag) (x qual : Str) (st : Stmt) (f : Addr) (fd : FuncData) : Prop where
  ex : ∃ (oc : Value) (od : Option Addr) (kV doc pm : Value) (an : Option Addr) (cdv ct : Value) (osl : Array (Option Value)),
    fd = PySem.W.fnOf x qual (defArgs st) (defBody st) (defScope st) .none kV doc pm an cdv ct ∧ K.lookup f = some ⟨oc, od, .func fd, osl⟩ ∧ PySem.W.codeIn K cdv qual = true
  kp : PySem.W.keepIn K (.ref f) = true
section
variable {P : Program} {w : World} {K : PySem.W.Frag} {mg : Str → Option Value} {base : Heap}
theorem Fun.ok {x qual : Str} {st : Stmt} {f : Addr} {fd : FuncData} {N ps : List Str} {k : Nat} {sp : Sp} (F : Fun K x qual st f fd) (S : FnScope N ps (defScope st)) (len : ∀ vs H Q E, sp vs H Q E → vs.length = ps.length)
    (hbody : ∀ (cdv : Value) (A : Around) (outer : List Env) (s : Shared) (H : Hp) (vs : List V) (Q : VK) (E : XK), Room k (A.deeper (envOfC qual (defScope st) s.heap.objs.size f cdv)) → sp vs H Q E →
      ∃ t, PSs (cxOf CX0 P w K mg base N qual (defScope st) f cdv A outer s H E).nox (defBody st) t ∧ t { nx := fun _ H' => Q .non H', rt := Q } (start N vs) H) : FnOk P w K mg base CX0 (k + 1) f fd ps sp := by
  obtain ⟨oc, od, kV, doc, pm, an, cdv, ct, osl, rfl, lk, hcd⟩ := F.ex
  refine fn_of lk hcd S len fun A outer s H vs Q E hr hsp => ?_
  obtain ⟨t, h, q⟩ := hbody cdv A outer s H vs Q E hr hsp
  exact ⟨t, h.nox, q⟩
theorem Fun.binds {x qual : Str} {st : Stmt} {f : Addr} {fd : FuncData} {ps : List Str} (F : Fun K x qual st f fd)
    (h : ∀ (kV doc pm : Value) (an : Option Addr) (cdv ct : Value) (us : List Value), us.length = ps.length → bindArgs (PySem.W.fnOf x qual (defArgs st) (defBody st) (defScope st) .none kV doc pm an cdv ct) ⟨us, []⟩ = pure (ps.zip us)) : Binds K fd ps [] := by
  obtain ⟨oc, od, kV, doc, pm, an, cdv, ct, osl, rfl, lk, hcd⟩ := F.ex
  exact .all (h kV doc pm an cdv ct)
theorem fun_mk {x qual : Str} {st : Stmt} {f : Addr} {oc : Value} {od an : Option Addr} {osl : Array (Option Value)} {kV doc pm cdv ct : Value} (l : K.lookup f = some ⟨oc, od, .func (PySem.W.fnOf x qual (defArgs st) (defBody st) (defScope st) .none kV doc pm an cdv ct), osl⟩)
    (c : PySem.W.codeIn K cdv qual = true) (k : PySem.W.keepIn K (.ref f) = true) : Fun K x qual st f (PySem.W.fnOf x qual (defArgs st) (defBody st) (defScope st) .none kV doc pm an cdv ct) := ⟨⟨oc, od, kV, doc, pm, an, cdv, ct, osl, rfl, l, c⟩, k⟩
end
section
variable {X : Cx}
end

theorem iteF {A B : Prop} (h : B) : if false = true then A else B := by
  rw [if_neg Bool.false_ne_true]
  exact h
theorem iteT {A B : Prop} (h : A) : if true = true then A else B := by
  rw [if_pos rfl]
  exact h
end L2

namespace L2
open PySem PySem.Spec PyProof.Rows

section
variable {κ : Type} [DecidableEq κ]
end


section
variable {P : Program} {w : World} {H : Hp} {h : Heap} {a : Addr}
end

section
variable {X : Cx} {pins : List (Addr × Obj)} {σ : St} {H : Hp} {s : Shared} {a : Addr} {y v : V} {u r : Value} {o : Option V} {A : Around} {E : Value → Shared → Prop}

end

section
variable {X : Cx} {pins : List (Addr × Obj)} {σ : St} {H : Hp} {s : Shared} {a : Addr} {kvs : List (Key × V)} {k : Key} {u : Value} {A : Around} {E : Value → Shared → Prop}
end


section
variable {X : Cx} {o i e value : Expr} {pos pos' tpos : Pos} {td ty tv : TE}
end


section
variable {X : Cx} {pos : Pos}
end

section
variable {X : Cx} {pins : List (Addr × Obj)} {σ : St} {H : Hp} {s : Shared} {a : Addr} {y d : V} {u r : Value} {o : Option V} {A : Around} {E : Value → Shared → Prop}
end

section
variable {X : Cx} {o e f : Expr} {apos cpos : Pos} {td ty tx : TE}
end

section
variable {X : Cx} {pins : List (Addr × Obj)} {σ : St} {H : Hp} {s : Shared} {a : Addr} {kvs : List (Key × V)} {A : Around} {E : Value → Shared → Prop}
end


section
variable {X : Cx} {pins : List (Addr × Obj)} {σ : St} {H : Hp} {s : Shared} {a : Addr} {y : V} {u : Value} {A : Around} {E : Value → Shared → Prop}
end
end L2

namespace L2
open PySem PySem.Spec PyProof.Rows
section
variable {X : Cx}
end
section
variable {κ : Type} [DecidableEq κ]
end
end L2

namespace Mi
open PySem PySem.Spec PyProof.Rows L2

inductive W where
  | non | bl (b : Bool) | int (i : Int) | str (x : Str) | tup (ws : List W) | lst (ws : List W) | frz (ws : List W) | ref (n : Nat) | ty (n : String)
inductive MO where
  | lst (ws : List W)
  | dic (kvs : List (Key × W))
noncomputable abbrev MH := List MO
noncomputable abbrev MSt := List (Option W)

structure Rn where
  ρ : Nat → Addr
  N : Nat
  F : Hp
  G : Hp
structure Ext (R R' : Rn) : Prop where
  n : R.N ≤ R'.N
  ρ : ∀ n, n < R.N → R'.ρ n = R.ρ n
  f : ∀ a o, R.F a = some o → R'.F a = some o
  g : R'.G = R.G
theorem Ext.refl (R : Rn) : Ext R R := ⟨Nat.le_refl _, fun _ _ => rfl, fun _ _ h => h, rfl⟩
theorem Ext.trans {R R1 R2 : Rn} (a : Ext R R1) (b : Ext R1 R2) : Ext R R2 :=
  ⟨Nat.le_trans a.n b.n, fun n h => (b.ρ n (Nat.lt_of_lt_of_le h a.n)).trans (a.ρ n h), fun x o h => b.f x o (a.f x o h), b.g.trans a.g⟩

theorem sqT_mono {K : PySem.W.Frag} {F F' : Hp} (e : ∀ a o, F a = some o → F' a = some o) {a : Addr} {xs : List V} (h : SqT K F a xs) : SqT K F' a xs := by
  rcases h with (h | ⟨o, h⟩) | h
  · exact .inl (.inl (e _ _ h))
  · exact .inl (.inr ⟨o, e _ _ h⟩)
  · exact .inr h
theorem sqL_mono {K : PySem.W.Frag} {F F' : Hp} (e : ∀ a o, F a = some o → F' a = some o) {a : Addr} {xs : List V} (h : SqL K F a xs) : SqL K F' a xs := by
  rcases h with (h | ⟨o, h⟩) | h
  · exact .inl (.inl (e _ _ h))
  · exact .inl (.inr ⟨o, e _ _ h⟩)
  · exact .inr h

section
variable (K : PySem.W.Frag)
mutual
noncomputable def Rw (R : Rn) : W → V → Prop
  | .non, v => v = .non
  | .bl b, v => v = .bl b
  | .int i, v => v = .int i
  | .str x, v => v = .str x
  | .tup ws, v => ∃ a xs, v = .ref a ∧ SqT K R.F a xs ∧ Rws R ws xs
  | .lst ws, v => ∃ a xs, v = .ref a ∧ R.F a = some (.lst xs) ∧ Rws R ws xs
  | .frz ws, v => ∃ a xs, v = .ref a ∧ SqL K R.F a xs ∧ Rws R ws xs
  | .ref n, v => n < R.N ∧ v = .ref (R.ρ n)
  | .ty n, v => v = .ty n
noncomputable def Rws (R : Rn) : List W → List V → Prop
  | [], vs => vs = []
  | w :: ws, vs => ∃ v vs', vs = v :: vs' ∧ Rw R w v ∧ Rws R ws vs'
end
end
section
variable {K : PySem.W.Frag} {R R' : Rn}
mutual
theorem Rw.mono (e : Ext R R') : ∀ (w : W) (v : V), Rw K R w v → Rw K R' w v
  | .non, _, h => by unfold Rw at h ⊢; exact h
  | .bl _, _, h => by unfold Rw at h ⊢; exact h
  | .int _, _, h => by unfold Rw at h ⊢; exact h
  | .str _, _, h => by unfold Rw at h ⊢; exact h
  | .ty _, _, h => by unfold Rw at h ⊢; exact h
  | .tup ws, _, h => by
    unfold Rw at h ⊢
    obtain ⟨a, xs, e1, e2, e3⟩ := h
    exact ⟨a, xs, e1, sqT_mono e.f e2, Rws.mono e ws xs e3⟩
  | .lst ws, _, h => by
    unfold Rw at h ⊢
    obtain ⟨a, xs, e1, e2, e3⟩ := h
    exact ⟨a, xs, e1, e.f a _ e2, Rws.mono e ws xs e3⟩
  | .frz ws, _, h => by
    unfold Rw at h ⊢
    obtain ⟨a, xs, e1, e2, e3⟩ := h
    exact ⟨a, xs, e1, sqL_mono e.f e2, Rws.mono e ws xs e3⟩
  | .ref n, _, h => by
    unfold Rw at h ⊢
    obtain ⟨e1, e2⟩ := h
    exact ⟨Nat.lt_of_lt_of_le e1 e.n, by rw [e.ρ n e1]; exact e2⟩
theorem Rws.mono (e : Ext R R') : ∀ (ws : List W) (vs : List V), Rws K R ws vs → Rws K R' ws vs
  | [], _, h => by unfold Rws at h ⊢; exact h
  | w :: ws, _, h => by
    unfold Rws at h ⊢
    obtain ⟨v, vs', e1, e2, e3⟩ := h
    exact ⟨v, vs', e1, Rw.mono e w v e2, Rws.mono e ws vs' e3⟩
end
theorem Rws.nil_iff {vs : List V} : Rws K R [] vs ↔ vs = [] := by unfold Rws; exact Iff.rfl
theorem Rws.cons_iff {w : W} {ws : List W} {vs : List V} : Rws K R (w :: ws) vs ↔ ∃ v vs', vs = v :: vs' ∧ Rw K R w v ∧ Rws K R ws vs' := by
  constructor
  · intro h; unfold Rws at h; exact h
  · intro h; unfold Rws; exact h
theorem Rws.nil : Rws K R [] [] := Rws.nil_iff.mpr rfl
theorem Rws.cons {w : W} {ws : List W} {v : V} {vs : List V} (a : Rw K R w v) (b : Rws K R ws vs) : Rws K R (w :: ws) (v :: vs) := Rws.cons_iff.mpr ⟨v, vs, rfl, a, b⟩
theorem Rws.paired : ∀ {ws : List W} {vs : List V}, Rws K R ws vs → Paired (Rw K R) ws vs
  | [], vs, h => by rw [Rws.nil_iff] at h; subst h; exact .nil
  | w :: ws, vs, h => by
    rw [Rws.cons_iff] at h
    obtain ⟨v, vs', rfl, a, b⟩ := h
    exact .cons a (Rws.paired b)
theorem Rws.of : ∀ {ws : List W} {vs : List V}, Paired (Rw K R) ws vs → Rws K R ws vs
  | _, _, .nil => Rws.nil
  | _, _, .cons a b => Rws.cons a (Rws.of b)
theorem Rws.length {ws : List W} {vs : List V} (h : Rws K R ws vs) : ws.length = vs.length := Paired.length h.paired
theorem Rws.get : ∀ {ws : List W} {vs : List V} {i : Nat} {w : W}, Rws K R ws vs → ws[i]? = some w → ∃ v, vs[i]? = some v ∧ Rw K R w v
  | [], _, _, _, _, e => by simp at e
  | w :: ws, vs, 0, x, h, e => by
    rw [Rws.cons_iff] at h
    obtain ⟨v, vs', rfl, a, b⟩ := h
    simp at e; subst e
    exact ⟨v, by simp, a⟩
  | w :: ws, vs, i + 1, x, h, e => by
    rw [Rws.cons_iff] at h
    obtain ⟨v, vs', rfl, a, b⟩ := h
    obtain ⟨y, h1, h2⟩ := Rws.get (i := i) b (by simpa using e)
    exact ⟨y, by simpa using h1, h2⟩
theorem Rws.append : ∀ {ws us : List W} {vs xs : List V}, Rws K R ws vs → Rws K R us xs → Rws K R (ws ++ us) (vs ++ xs)
  | [], us, vs, xs, h, q => by rw [Rws.nil_iff] at h; subst h; exact q
  | w :: ws, us, vs, xs, h, q => by
    rw [Rws.cons_iff] at h
    obtain ⟨v, vs', rfl, a, b⟩ := h
    exact Rws.cons a (Rws.append b q)
theorem Rws.take : ∀ {ws : List W} {vs : List V} (n : Nat), Rws K R ws vs → Rws K R (ws.take n) (vs.take n)
  | _, _, 0, _ => by simp; exact Rws.nil
  | [], vs, n + 1, h => by rw [Rws.nil_iff] at h; subst h; simp; exact Rws.nil
  | w :: ws, vs, n + 1, h => by
    rw [Rws.cons_iff] at h
    obtain ⟨v, vs', rfl, a, b⟩ := h
    exact Rws.cons a (Rws.take n b)
theorem Rws.drop : ∀ {ws : List W} {vs : List V} (n : Nat), Rws K R ws vs → Rws K R (ws.drop n) (vs.drop n)
  | _, _, 0, h => by simpa using h
  | [], vs, n + 1, h => by rw [Rws.nil_iff] at h; subst h; simp; exact Rws.nil
  | w :: ws, vs, n + 1, h => by
    rw [Rws.cons_iff] at h
    obtain ⟨v, vs', rfl, a, b⟩ := h
    exact Rws.drop n b
theorem Rws.set : ∀ {ws : List W} {vs : List V} {w : W} {v : V} (n : Nat), Rws K R ws vs → Rw K R w v → Rws K R (ws.set n w) (vs.set n v)
  | [], vs, _, _, n, h, _ => by rw [Rws.nil_iff] at h; subst h; simp; exact Rws.nil
  | x :: ws, vs, w, v, 0, h, q => by
    rw [Rws.cons_iff] at h
    obtain ⟨y, vs', rfl, a, b⟩ := h
    exact Rws.cons q b
  | x :: ws, vs, w, v, n + 1, h, q => by
    rw [Rws.cons_iff] at h
    obtain ⟨y, vs', rfl, a, b⟩ := h
    exact Rws.cons a (Rws.set n b q)
end

section
variable (K : PySem.W.Frag)
noncomputable def Ro (R : Rn) : MO → Option HO → Prop
  | .lst ws, o => ∃ xs, o = some (.lst xs) ∧ Rws K R ws xs
  | .dic kvs, o => ∃ kx : List (Key × V), o = some (.dK kx) ∧ Paired (fun p q => p.1 = q.1 ∧ Rw K R p.2 q.2) kvs kx
structure Rh (R : Rn) (h : MH) (H : Hp) : Prop where
  len : R.N = h.length
  sub : ∀ a o, R.F a = some o → H a = some o
  sep : ∀ n, n < R.N → R.F (R.ρ n) = none
  inj : ∀ m n, m < R.N → n < R.N → R.ρ m = R.ρ n → m = n
  obj : ∀ n o, h[n]? = some o → Ro K R o (H (R.ρ n))
  gsub : ∀ a o, R.G a = some o → H a = some o
  gsep : ∀ n, n < R.N → R.G (R.ρ n) = none
  gf : ∀ a o, R.G a = some o → R.F a = none
noncomputable def Rst (R : Rn) (σi : MSt) (σ : L2.St) : Prop := σi.length = σ.length ∧ ∀ (i : Nat) (w : W), σi[i]? = some (some w) → ∃ v, σ[i]? = some (some v) ∧ Rw K R w v
end
section
variable {K : PySem.W.Frag} {R R' : Rn} {h : MH} {H : Hp} {σi : MSt} {σ : L2.St}
theorem Ro.mono (e : Ext R R') {o : MO} {u : Option HO} (q : Ro K R o u) : Ro K R' o u := by
  cases o with
  | lst ws => obtain ⟨xs, e1, e2⟩ := q; exact ⟨xs, e1, Rws.mono e ws xs e2⟩
  | dic kvs => obtain ⟨kx, e1, e2⟩ := q; exact ⟨kx, e1, Paired.mapP e2 fun a b z => ⟨z.1, Rw.mono e _ _ z.2⟩⟩
theorem Ro.some {o : MO} {u : Option HO} (q : Ro K R o u) : ∃ x, u = some x := by
  cases o with
  | lst ws => obtain ⟨xs, e1, e2⟩ := q; exact ⟨_, e1⟩
  | dic kvs => obtain ⟨kx, e1, e2⟩ := q; exact ⟨_, e1⟩
theorem Rst.mono (e : Ext R R') (q : Rst K R σi σ) : Rst K R' σi σ := ⟨q.1, fun i w h => by
  obtain ⟨v, h1, h2⟩ := q.2 i w h
  exact ⟨v, h1, Rw.mono e _ _ h2⟩⟩
theorem Rst.set {i : Nat} {w : W} {v : V} (q : Rst K R σi σ) (r : Rw K R w v) : Rst K R (σi.set i (some w)) (σ.set i (some v)) := by
  refine ⟨by rw [List.length_set, List.length_set]; exact q.1, fun j u e => ?_⟩
  rw [List.getElem?_set] at e ⊢
  by_cases hij : i = j
  · subst hij
    rw [if_pos rfl] at e ⊢
    by_cases hl : i < σi.length
    · rw [if_pos hl] at e
      rw [if_pos (q.1 ▸ hl)]
      cases e
      exact ⟨v, rfl, r⟩
    · rw [if_neg hl] at e; cases e
  · rw [if_neg hij] at e ⊢
    exact q.2 j u e
theorem Rh.there (q : Rh K R h H) {n : Nat} (hn : n < R.N) : ∃ o u, h[n]? = some o ∧ H (R.ρ n) = some u := by
  have hl : n < h.length := q.len ▸ hn
  obtain ⟨u, hu⟩ := (q.obj n h[n] (List.getElem?_eq_getElem hl)).some
  exact ⟨h[n], u, List.getElem?_eq_getElem hl, hu⟩
theorem Rh.ne (q : Rh K R h H) {p : Addr} (hp : H p = none) {n : Nat} (hn : n < R.N) : R.ρ n ≠ p := fun e => by
  obtain ⟨o, u, _, hu⟩ := q.there hn
  rw [e, hp] at hu; cases hu
theorem Rh.fix (q : Rh K R h H) {p : Addr} {o : HO} (hp : H p = none) :
    Ext R { R with F := upd R.F p o } ∧ Rh K { R with F := upd R.F p o } h (upd H p o) := by
  have hF : R.F p = none := by
    cases e : R.F p with
    | none => rfl
    | some u => have := q.sub p u e; rw [hp] at this; cases this
  have x : Ext R { R with F := upd R.F p o } := ⟨Nat.le_refl _, fun _ _ => rfl, fun a u e => by
    show upd R.F p o a = some u
    rw [upd_ne (fun z => by rw [z, hF] at e; cases e)]; exact e, rfl⟩
  have hG : ∀ a u, R.G a = some u → a ≠ p := fun a u e z => by have := q.gsub a u e; rw [z, hp] at this; cases this
  refine ⟨x, q.len, fun a u e => ?_, fun n hn => ?_, q.inj, fun n u e => ?_, fun a u e => ?_, q.gsep, fun a u e => ?_⟩
  rotate_right 2
  · rw [upd_ne (hG a u e)]; exact q.gsub a u e
  · show upd R.F p o a = none
    rw [upd_ne (hG a u e)]; exact q.gf a u e
  · by_cases z : a = p
    · subst z
      have e' : upd R.F a o a = some u := e
      rw [upd_same] at e' ⊢; exact e'
    · have e' : upd R.F p o a = some u := e
      rw [upd_ne z] at e' ⊢; exact q.sub a u e'
  · show upd R.F p o (R.ρ n) = none
    rw [upd_ne (q.ne hp hn)]; exact q.sep n hn
  · have hn : n < R.N := by rw [q.len]; exact (List.getElem?_eq_some_iff.mp e).1
    show Ro K _ u (upd H p o (R.ρ n))
    rw [upd_ne (q.ne hp hn)]
    exact (q.obj n u e).mono x
theorem Rh.tup (q : Rh K R h H) {p : Addr} {ws : List W} {xs : List V} (hp : H p = none) (r : Rws K R ws xs) :
    ∃ R', Ext R R' ∧ Rh K R' h (upd H p (.tup xs)) ∧ Rw K R' (.tup ws) (.ref p) := by
  obtain ⟨x, y⟩ := q.fix (o := .tup xs) hp
  refine ⟨_, x, y, ?_⟩
  unfold Rw
  exact ⟨p, xs, rfl, SqT.of upd_same, Rws.mono x _ _ r⟩
theorem Rh.lstI (q : Rh K R h H) {p : Addr} {ws : List W} {xs : List V} (hp : H p = none) (r : Rws K R ws xs) :
    ∃ R', Ext R R' ∧ Rh K R' h (upd H p (.lst xs)) ∧ Rw K R' (.lst ws) (.ref p) := by
  obtain ⟨x, y⟩ := q.fix (o := .lst xs) hp
  refine ⟨_, x, y, ?_⟩
  unfold Rw
  exact ⟨p, xs, rfl, upd_same, Rws.mono x _ _ r⟩
theorem Rh.new (q : Rh K R h H) {p : Addr} {o : HO} {mo : MO} (hp : H p = none) (r : ∀ R', Ext R R' → Ro K R' mo (some o)) :
    ∃ R', Ext R R' ∧ Rh K R' (h ++ [mo]) (upd H p o) ∧ Rw K R' (.ref h.length) (.ref p) := by
  let R' : Rn := { ρ := fun n => if n = R.N then p else R.ρ n, N := R.N + 1, F := R.F, G := R.G }
  have hr : ∀ n, n < R.N → R'.ρ n = R.ρ n := fun n hn => if_neg (Nat.ne_of_lt hn)
  have hq : R'.ρ R.N = p := if_pos rfl
  have x : Ext R R' := ⟨Nat.le_succ _, hr, fun _ _ e => e, rfl⟩
  have hG : ∀ a u, R.G a = some u → a ≠ p := fun a u e z => by have := q.gsub a u e; rw [z, hp] at this; cases this
  have hF : R.F p = none := by
    cases e : R.F p with
    | none => rfl
    | some u => have := q.sub p u e; rw [hp] at this; cases this
  have below : ∀ n, n < R.N + 1 → n < R.N ∨ n = R.N := fun n hn => Nat.lt_or_eq_of_le (Nat.le_of_lt_succ hn)
  have hgs : ∀ n, n < R.N + 1 → R.G (R'.ρ n) = none := fun n hn => by
    rcases below n hn with hn | hn
    · rw [hr n hn]; exact q.gsep n hn
    · subst hn
      rw [hq]
      cases e : R.G p with
      | none => rfl
      | some u => exact absurd rfl (hG p u e)
  refine ⟨R', x, ⟨?_, fun a u e => ?_, fun n hn => ?_, fun m n hm hn e => ?_, fun n u e => ?_, fun a u e => by rw [upd_ne (hG a u e)]; exact q.gsub a u e, hgs, q.gf⟩, ?_⟩
  · show R.N + 1 = _
    rw [List.length_append, q.len]; rfl
  · have z : a ≠ p := fun z => by have e' : R.F a = some u := e; rw [z, hF] at e'; cases e'
    rw [upd_ne z]; exact q.sub a u e
  · rcases below n hn with hn | hn
    · rw [hr n hn]; exact q.sep n hn
    · subst hn; rw [hq]; exact hF
  · rcases below m hm with hm | hm <;> rcases below n hn with hn | hn
    · rw [hr m hm, hr n hn] at e; exact q.inj m n hm hn e
    · subst hn; rw [hr m hm, hq] at e; exact absurd e (q.ne hp hm)
    · subst hm; rw [hr n hn, hq] at e; exact absurd e.symm (q.ne hp hn)
    · rw [hm, hn]
  · have hn : n < R.N + 1 := by
      have := (List.getElem?_eq_some_iff.mp e).1
      rw [List.length_append, ← q.len] at this; exact this
    rcases below n hn with hn | hn
    · rw [hr n hn, upd_ne (q.ne hp hn)]
      rw [List.getElem?_append_left (by rw [← q.len]; exact hn)] at e
      exact (q.obj n u e).mono x
    · subst hn
      rw [hq, upd_same]
      rw [List.getElem?_append_right (by rw [q.len]; exact Nat.le_refl _), q.len, Nat.sub_self] at e
      cases e
      exact r R' x
  · unfold Rw
    refine ⟨by rw [← q.len]; exact Nat.lt_succ_self _, ?_⟩
    rw [← q.len, hq]
theorem Rh.put (q : Rh K R h H) {n : Nat} {o : HO} {mo : MO} (hn : n < R.N) (r : Ro K R mo (some o)) : Rh K R (h.set n mo) (upd H (R.ρ n) o) := by
  refine ⟨by rw [List.length_set]; exact q.len, fun a u e => ?_, q.sep, q.inj, fun m u e => ?_, fun a u e => ?_, q.gsep, q.gf⟩
  rotate_right
  · have z : a ≠ R.ρ n := fun z => by rw [z, q.gsep n hn] at e; cases e
    rw [upd_ne z]; exact q.gsub a u e
  · have z : a ≠ R.ρ n := fun z => by rw [z, q.sep n hn] at e; cases e
    rw [upd_ne z]; exact q.sub a u e
  · by_cases z : n = m
    · subst z
      rw [upd_same]
      rw [List.getElem?_set_self (by rw [← q.len]; exact hn)] at e
      cases e
      exact r
    · have hm : m < R.N := by
        have := (List.getElem?_eq_some_iff.mp e).1
        rw [List.length_set, ← q.len] at this; exact this
      rw [List.getElem?_set_ne z] at e
      rw [upd_ne (fun w => z (q.inj m n hm hn w).symm)]
      exact q.obj m u e
theorem Rh.tupAt (q : Rh K R h H) {ws : List W} {v : V} (r : Rw K R (.tup ws) v) : ∃ a xs, v = .ref a ∧ SqT K H a xs ∧ Rws K R ws xs := by
  unfold Rw at r
  obtain ⟨a, xs, e1, e2, e3⟩ := r
  exact ⟨a, xs, e1, sqT_mono q.sub e2, e3⟩
theorem Rh.lstAt (q : Rh K R h H) {ws : List W} {v : V} (r : Rw K R (.lst ws) v) : ∃ a xs, v = .ref a ∧ H a = some (.lst xs) ∧ Rws K R ws xs := by
  unfold Rw at r
  obtain ⟨a, xs, e1, e2, e3⟩ := r
  exact ⟨a, xs, e1, q.sub a _ e2, e3⟩
theorem Rh.frzAt (q : Rh K R h H) {ws : List W} {v : V} (r : Rw K R (.frz ws) v) : ∃ a xs, v = .ref a ∧ SqL K H a xs ∧ Rws K R ws xs := by
  unfold Rw at r
  obtain ⟨a, xs, e1, e2, e3⟩ := r
  exact ⟨a, xs, e1, sqL_mono q.sub e2, e3⟩
noncomputable def lsW (h : MH) : W → Option (List W)
  | .lst ws => some ws
  | .frz ws => some ws
  | .ref n => match h[n]? with | some (.lst ws) => some ws | _ => none
  | _ => none
noncomputable def loW (h : MH) : W → Option (List W)
  | .lst ws => some ws
  | .ref n => match h[n]? with | some (.lst ws) => some ws | _ => none
  | _ => none
theorem Rh.loAt (q : Rh K R h H) {w : W} {v : V} {ws : List W} (r : Rw K R w v) (e : loW h w = some ws) : ∃ a xs, v = .ref a ∧ H a = some (.lst xs) ∧ Rws K R ws xs := by
  cases w with
  | lst us => cases e; exact q.lstAt r
  | ref n =>
    simp only [loW] at e
    split at e
    · rename_i us hn
      cases e
      unfold Rw at r
      obtain ⟨xs, h1, h2⟩ := q.obj n _ hn
      exact ⟨_, xs, r.2, h1, h2⟩
    · cases e
  | _ => cases e
theorem Rh.lsAt (q : Rh K R h H) {w : W} {v : V} {ws : List W} (r : Rw K R w v) (e : lsW h w = some ws) : ∃ a xs, v = .ref a ∧ SqL K H a xs ∧ Rws K R ws xs := by
  cases w with
  | lst us => cases e; obtain ⟨a, xs, e1, e2, e3⟩ := q.lstAt r; exact ⟨a, xs, e1, SqL.of e2, e3⟩
  | frz us => cases e; exact q.frzAt r
  | ref n =>
    simp only [lsW] at e
    split at e
    · rename_i us hn
      cases e
      unfold Rw at r
      obtain ⟨xs, h1, h2⟩ := q.obj n _ hn
      exact ⟨_, xs, r.2, SqL.of h1, h2⟩
    · cases e
  | _ => cases e
theorem Rh.refAt (q : Rh K R h H) {n : Nat} {v : V} {ws : List W} (r : Rw K R (.ref n) v) (e : h[n]? = some (.lst ws)) :
    n < R.N ∧ v = .ref (R.ρ n) ∧ ∃ xs, H (R.ρ n) = some (.lst xs) ∧ Rws K R ws xs := by
  unfold Rw at r
  exact ⟨r.1, r.2, q.obj n _ e⟩
end
theorem Rw.non_eq {K : PySem.W.Frag} {R : Rn} {v : V} (r : Rw K R .non v) : v = .non := by unfold Rw at r; exact r
theorem Rw.bl_eq {K : PySem.W.Frag} {R : Rn} {v : V} {b : Bool} (r : Rw K R (.bl b) v) : v = .bl b := by unfold Rw at r; exact r
theorem Rw.int_eq {K : PySem.W.Frag} {R : Rn} {v : V} {i : Int} (r : Rw K R (.int i) v) : v = .int i := by unfold Rw at r; exact r
theorem Rw.str_eq {K : PySem.W.Frag} {R : Rn} {v : V} {x : Str} (r : Rw K R (.str x) v) : v = .str x := by unfold Rw at r; exact r
theorem Rw.ty_eq {K : PySem.W.Frag} {R : Rn} {v : V} {n : String} (r : Rw K R (.ty n) v) : v = .ty n := by unfold Rw at r; exact r
theorem Rw.non {K : PySem.W.Frag} {R : Rn} : Rw K R .non .non := by unfold Rw; rfl
theorem Rw.bl {K : PySem.W.Frag} {R : Rn} (b : Bool) : Rw K R (.bl b) (.bl b) := by unfold Rw; rfl
theorem Rw.int {K : PySem.W.Frag} {R : Rn} (i : Int) : Rw K R (.int i) (.int i) := by unfold Rw; rfl
theorem Rw.str {K : PySem.W.Frag} {R : Rn} (x : Str) : Rw K R (.str x) (.str x) := by unfold Rw; rfl
end Mi

namespace Mi
open PySem PySem.Spec PyProof.Rows L2

noncomputable abbrev ME := MSt → MH → Option (W × MH)
noncomputable abbrev MT := MSt → MH → Option (Bool × MH)
noncomputable abbrev MA := MSt → MH → Option (List W × MH)
inductive MF where
  | nx (σ : MSt) (h : MH) | rt (w : W) (h : MH) | bk (σ : MSt) (h : MH) | ct (σ : MSt) (h : MH)
noncomputable abbrev SM := MSt → MH → Option MF
noncomputable abbrev FM := List W → MH → Option (W × MH)

section
variable (K : PySem.W.Frag)
noncomputable def After (R : Rn) (w : W) (h' : MH) (Q : VK) : Prop := ∀ R' H' v, Ext R R' → Rh K R' h' H' → Rw K R' w v → Q v H'
noncomputable def tI (m : ME) : TE := fun σ H Q => ∃ R σi h w h', Rh K R h H ∧ Rst K R σi σ ∧ m σi h = some (w, h') ∧ After K R w h' Q
noncomputable def tIT (m : MT) : TT := fun σ H Q => ∃ R σi h b h', Rh K R h H ∧ Rst K R σi σ ∧ m σi h = some (b, h') ∧ ∀ R' H', Ext R R' → Rh K R' h' H' → Q b H'
noncomputable def tIA (m : MA) : TA := fun σ H Q => ∃ R σi h ws h', Rh K R h H ∧ Rst K R σi σ ∧ m σi h = some (ws, h') ∧ ∀ R' H' vs, Ext R R' → Rh K R' h' H' → Rws K R' ws vs → Q vs H'
noncomputable def Ends (R : Rn) (D : L2.Ends) : MF → Prop
  | .nx σi h => ∀ R' H' σ, Ext R R' → Rh K R' h H' → Rst K R' σi σ → D.nx σ H'
  | .bk σi h => ∀ R' H' σ, Ext R R' → Rh K R' h H' → Rst K R' σi σ → D.bk σ H'
  | .ct σi h => ∀ R' H' σ, Ext R R' → Rh K R' h H' → Rst K R' σi σ → D.ct σ H'
  | .rt w h => After K R w h D.rt
noncomputable def tS (m : SM) : TS := fun D σ H => ∃ R σi h r, Rh K R h H ∧ Rst K R σi σ ∧ m σi h = some r ∧ Ends K R D r
noncomputable def spM (n : Nat) (m : FM) : Sp := fun vs H Q _ => ∃ R ws h w h', ws.length = n ∧ Rh K R h H ∧ Rws K R ws vs ∧ m ws h = some (w, h') ∧ After K R w h' Q
end
noncomputable def PM (X : Cx) (e : Expr) (m : ME) : Prop := PE X e (tI X.K m)
noncomputable def PMT (X : Cx) (e : Expr) (m : MT) : Prop := PT X e (tIT X.K m)
noncomputable def PMA (X : Cx) (es : List Expr) (m : MA) : Prop := PA X es (tIA X.K m)
noncomputable def PMS (X : Cx) (st : Stmt) (m : SM) : Prop := PS X st (tS X.K m)
noncomputable def PMSs (X : Cx) (st : List Stmt) (m : SM) : Prop := PSs X st (tS X.K m)

section
variable {K : PySem.W.Frag} {R R1 R2 : Rn}
theorem After.ext {w : W} {h' : MH} {Q : VK} (a : After K R w h' Q) (x : Ext R R1) : After K R1 w h' Q := fun R' H' v e => a R' H' v (x.trans e)
theorem Ends.ext {D : L2.Ends} {r : MF} (a : Ends K R D r) (x : Ext R R1) : Ends K R1 D r := by
  cases r with
  | nx σ h => exact fun R' H' v e => a R' H' v (x.trans e)
  | bk σ h => exact fun R' H' v e => a R' H' v (x.trans e)
  | ct σ h => exact fun R' H' v e => a R' H' v (x.trans e)
  | rt w h => exact After.ext a x
end
theorem pe_imp {X : Cx} {e : Expr} {t t' : TE} (h : PE X e t) (i : ∀ σ H Q, t' σ H Q → t σ H Q) : PE X e t' := fun pins s σ H Q I q => h pins s σ H Q I (i _ _ _ q)
theorem pt_imp {X : Cx} {e : Expr} {t t' : TT} (h : PT X e t) (i : ∀ σ H Q, t' σ H Q → t σ H Q) : PT X e t' := fun pins s σ H Q I q => h pins s σ H Q I (i _ _ _ q)
theorem pw_imp {X : Cx} {e : Expr} {t t' : TT} (h : PW X e t) (i : ∀ σ H Q, t' σ H Q → t σ H Q) : PW X e t' := fun wh pins s σ H Q I q => h wh pins s σ H Q I (i _ _ _ q)
theorem pa_imp {X : Cx} {es : List Expr} {t t' : TA} (h : PA X es t) (i : ∀ σ H Q, t' σ H Q → t σ H Q) : PA X es t' := fun pos pins s σ H Q I q => h pos pins s σ H Q I (i _ _ _ q)
theorem ps_imp {X : Cx} {st : Stmt} {t t' : TS} (h : PS X st t) (i : ∀ D σ H, t' D σ H → t D σ H) : PS X st t' := fun pins s σ H D I q => h pins s σ H D I (i _ _ _ q)
theorem pss_imp {X : Cx} {st : List Stmt} {t t' : TS} (h : PSs X st t) (i : ∀ D σ H, t' D σ H → t D σ H) : PSs X st t' := fun pins s σ H D I q => h pins s σ H D I (i _ _ _ q)

noncomputable def mVar (i : Nat) : ME := fun σ h => match σ[i]? with | some (some w) => some (w, h) | _ => none
noncomputable def mC (w : W) : ME := fun _ h => some (w, h)
section
variable {X : Cx}
theorem pm_var (i : Nat) {x : Str} {pos : Pos} (hN : X.N[i]? = some x := by rfl) (hv : Vis X.env.scope x := by first | exact Or.inl rfl | exact Or.inr (Or.inl rfl) | exact Or.inr (Or.inr rfl)) (hd : (x == ("__debug__" : Str)) = false := by decide)
    (hcd : (x == ("__classdict__" : Str)) = false := by decide) : PM X (.Name x pos) (mVar i) := pe_imp (pe_var hN hv hd hcd) <| by
  rintro σ H Q ⟨R, σi, h, w, h', rh, st, e, k⟩
  unfold mVar at e
  split at e
  · rename_i w' e'
    cases e
    obtain ⟨v, h1, h2⟩ := st.2 i _ e'
    exact ⟨v, h1, k R H v (Ext.refl _) rh h2⟩
  · cases e
theorem tC_of {w : W} {v : V} (r : ∀ R, Rw X.K R w v) {σ : L2.St} {H : Hp} {Q : VK} (q : tI X.K (mC w) σ H Q) : tC v σ H Q := by
  obtain ⟨R, σi, h, w', h', rh, st, e, k⟩ := q
  cases e
  exact k R H v (Ext.refl _) rh (r R)
theorem pm_int {i j pos} : PM X (.Constant (.int i) j pos) (mC (.int i)) := pe_imp pe_int fun _ _ _ => tC_of fun _ => Rw.int _
theorem pm_bl {b j pos} : PM X (.Constant (.bool b) j pos) (mC (.bl b)) := pe_imp pe_bl fun _ _ _ => tC_of fun _ => Rw.bl _
theorem pm_non {j pos} : PM X (.Constant .none j pos) (mC .non) := pe_imp pe_non fun _ _ _ => tC_of fun _ => Rw.non
theorem pm_str {x j pos} : PM X (.Constant (.str x) j pos) (mC (.str x)) := pe_imp pe_str fun _ _ _ => tC_of fun _ => Rw.str _
end

noncomputable def mBin (f : W → W → MH → Option (W × MH)) (ma mb : ME) : ME := fun σ h => (ma σ h).bind fun p => (mb σ p.2).bind fun q => f p.1 q.1 q.2
noncomputable def F1 (K : PySem.W.Frag) (f : W → MH → Option (W × MH)) (x : V) (H : Hp) (Q : VK) : Prop := ∃ R h a w h', Rh K R h H ∧ Rw K R a x ∧ f a h = some (w, h') ∧ After K R w h' Q
noncomputable def F2 (K : PySem.W.Frag) (f : W → W → MH → Option (W × MH)) (x y : V) (H : Hp) (Q : VK) : Prop := ∃ R h a b w h', Rh K R h H ∧ Rw K R a x ∧ Rw K R b y ∧ f a b h = some (w, h') ∧ After K R w h' Q
noncomputable def Fs (K : PySem.W.Frag) (f : List W → MH → Option (W × MH)) (xs : List V) (H : Hp) (Q : VK) : Prop := ∃ R h ws w h', Rh K R h H ∧ Rws K R ws xs ∧ f ws h = some (w, h') ∧ After K R w h' Q
noncomputable def mUn (f : W → MH → Option (W × MH)) (ma : ME) : ME := fun σ h => (ma σ h).bind fun p => f p.1 p.2
noncomputable def mFn (f : List W → MH → Option (W × MH)) (ma : MA) : ME := fun σ h => (ma σ h).bind fun p => f p.1 p.2
section
variable {K : PySem.W.Frag} {σ : L2.St} {H : Hp} {Q : VK}
theorem un1 {f : W → MH → Option (W × MH)} {ma : ME} (q : tI K (mUn f ma) σ H Q) : tI K ma σ H fun x H1 => F1 K f x H1 Q := by
  obtain ⟨R, σi, h, w, h', rh, st, e, k⟩ := q
  obtain ⟨⟨a, h1⟩, ea, e2⟩ := Option.bind_eq_some_iff.mp e
  exact ⟨R, σi, h, a, h1, rh, st, ea, fun R1 H1 x x1 rh1 rx => ⟨R1, h1, a, w, h', rh1, rx, e2, k.ext x1⟩⟩
theorem bin2 {f : W → W → MH → Option (W × MH)} {ma mb : ME} (q : tI K (mBin f ma mb) σ H Q) : tI K ma σ H fun x H1 => tI K mb σ H1 fun y H2 => F2 K f x y H2 Q := by
  obtain ⟨R, σi, h, w, h', rh, st, e, k⟩ := q
  obtain ⟨⟨a, h1⟩, ea, e2⟩ := Option.bind_eq_some_iff.mp e
  obtain ⟨⟨b, h2⟩, eb, e3⟩ := Option.bind_eq_some_iff.mp e2
  exact ⟨R, σi, h, a, h1, rh, st, ea, fun R1 H1 x x1 rh1 rx => ⟨R1, σi, h1, b, h2, rh1, st.mono x1, eb, fun R2 H2 y x2 rh2 ry =>
    ⟨R2, h2, a, b, w, h', rh2, Rw.mono x2 _ _ rx, ry, e3, k.ext (x1.trans x2)⟩⟩⟩
theorem args1 {f : List W → MH → Option (W × MH)} {ma : MA} (q : tI K (mFn f ma) σ H Q) : tIA K ma σ H fun xs H1 => Fs K f xs H1 Q := by
  obtain ⟨R, σi, h, w, h', rh, st, e, k⟩ := q
  obtain ⟨⟨a, h1⟩, ea, e2⟩ := Option.bind_eq_some_iff.mp e
  exact ⟨R, σi, h, a, h1, rh, st, ea, fun R1 H1 x x1 rh1 rx => ⟨R1, h1, a, w, h', rh1, rx, e2, k.ext x1⟩⟩
end
noncomputable def isStar : Expr → Bool
  | .Starred .. => true
  | _ => false
noncomputable def noStar (es : List Expr) : Bool := es.all fun e => !isStar e
theorem star_cons {e : Expr} {es : List Expr} {env : Env} (h : isStar e = false) : starEach (e :: es) env = (false, eval e env) :: starEach es env := by
  cases e <;> first | rfl | cases h
theorem any_star {es : List Expr} {env : Env} {pos : Pos} (h : noStar es = true) : (backTo pos (starEach es env)).any (·.1) = false := by
  induction es with
  | nil => rfl
  | cons e es ih =>
    unfold noStar at h ih
    rw [List.all_cons, Bool.and_eq_true] at h
    have he : isStar e = false := by simpa using h.1
    rw [star_cons he]
    have := ih h.2
    unfold backTo at this ⊢
    rw [List.map_cons, List.any_cons, this]; rfl
theorem all_star {es : List Expr} {env : Env} {pos : Pos} (h : noStar es = true) : (backTo pos (starEach es env)).all (fun x => !x.1) = true := by
  have := any_star (env := env) (pos := pos) h
  rw [List.all_eq_not_any_not]
  simp only [Bool.not_not]
  rw [this]; rfl
noncomputable def mNil : MA := fun _ h => some ([], h)
noncomputable def mCons (ma : ME) (mr : MA) : MA := fun σ h => (ma σ h).bind fun p => (mr σ p.2).bind fun q => some (p.1 :: q.1, q.2)
section
variable {X : Cx} {e : Expr} {es : List Expr} {m : ME} {ms : MA} {pos : Pos}
theorem pma_nil : PMA X [] mNil := pa_imp pa_nil <| by
  rintro σ H Q ⟨R, σi, h, ws, h', rh, st, e, k⟩
  cases e
  exact k R H [] (Ext.refl _) rh Rws.nil
theorem pma_cons (ha : PM X e m) (hr : PMA X es ms) (hs : isStar e = false := by rfl) : PMA X (e :: es) (mCons m ms) :=
  pa_imp (pa_cons ha hr (star_cons hs)) fun σ H Q ⟨R, σi, h, ws, h', rh, st, e, k⟩ => by
    obtain ⟨⟨a, h1⟩, ea, e2⟩ := Option.bind_eq_some_iff.mp e
    obtain ⟨⟨b, h2⟩, eb, e3⟩ := Option.bind_eq_some_iff.mp e2
    cases e3
    exact ⟨R, σi, h, a, h1, rh, st, ea, fun R1 H1 x x1 rh1 rx => ⟨R1, σi, h1, b, h2, rh1, st.mono x1, eb, fun R2 H2 ys x2 rh2 ry =>
      k R2 H2 (x :: ys) (x1.trans x2) rh2 (Rws.cons (Rw.mono x2 _ _ rx) ry)⟩⟩
noncomputable def wTup (ws : List W) (h : MH) : Option (W × MH) := if ws.length ≤ sizeLine then some (.tup ws, h) else none
noncomputable def wLst (ws : List W) (h : MH) : Option (W × MH) := if ws.length ≤ sizeLine then some (.lst ws, h) else none
noncomputable def wNew (ws : List W) (h : MH) : Option (W × MH) := if ws.length ≤ sizeLine then some (.ref h.length, h ++ [.lst ws]) else none
theorem pm_tup {x1} (h : PMA X es ms) : PM X (.Tuple es x1 pos) (mFn wTup ms) := pe_imp (pe_tup h) fun σ H Q q => by
  obtain ⟨R, σi, h0, ws, h1, rh, st, e, k⟩ := args1 q
  refine ⟨R, σi, h0, ws, h1, rh, st, e, fun R1 H1 vs x1 rh1 rx => ?_⟩
  obtain ⟨R2, h2, ws2, w, h3, rh2, rx2, e2, k2⟩ := k R1 H1 vs x1 rh1 rx
  unfold wTup at e2
  split at e2
  · rename_i hl
    cases e2
    refine ⟨by rw [← rx2.length]; exact hl, fun p hp => ?_⟩
    obtain ⟨R3, x3, rh3, rw3⟩ := rh2.tup hp rx2
    exact k2 R3 _ _ x3 rh3 rw3
  · cases e2
theorem pm_lst (h : PMA X es ms) : PM X (.List es pos) (mFn wLst ms) := pe_imp (pe_lst h) fun σ H Q q => by
  obtain ⟨R, σi, h0, ws, h1, rh, st, e, k⟩ := args1 q
  refine ⟨R, σi, h0, ws, h1, rh, st, e, fun R1 H1 vs x1 rh1 rx => ?_⟩
  obtain ⟨R2, h2, ws2, w, h3, rh2, rx2, e2, k2⟩ := k R1 H1 vs x1 rh1 rx
  unfold wLst at e2
  split at e2
  · rename_i hl
    cases e2
    refine ⟨by rw [← rx2.length]; exact hl, fun p hp => ?_⟩
    obtain ⟨R3, x3, rh3, rw3⟩ := rh2.lstI hp rx2
    exact k2 R3 _ _ x3 rh3 rw3
  · cases e2
theorem pm_new (h : PMA X es ms) : PM X (.List es pos) (mFn wNew ms) := pe_imp (pe_lst h) fun σ H Q q => by
  obtain ⟨R, σi, h0, ws, h1, rh, st, e, k⟩ := args1 q
  refine ⟨R, σi, h0, ws, h1, rh, st, e, fun R1 H1 vs x1 rh1 rx => ?_⟩
  obtain ⟨R2, h2, ws2, w, h3, rh2, rx2, e2, k2⟩ := k R1 H1 vs x1 rh1 rx
  unfold wNew at e2
  split at e2
  · rename_i hl
    cases e2
    refine ⟨by rw [← rx2.length]; exact hl, fun p hp => ?_⟩
    obtain ⟨R3, x3, rh3, rw3⟩ := rh2.new (mo := .lst ws2) (o := .lst vs) hp fun R' x' => ⟨vs, rfl, Rws.mono x' _ _ rx2⟩
    exact k2 R3 _ _ x3 rh3 rw3
  · cases e2
end
noncomputable def OpM (K : PySem.W.Frag) (r : R2) (f : W → W → MH → Option (W × MH)) : Prop := ∀ x y H Q, F2 K f x y H Q → r x y H Q
noncomputable def CallM (K : PySem.W.Frag) (r : List V → Hp → VK → Prop) (f : List W → MH → Option (W × MH)) : Prop := ∀ xs H Q, Fs K f xs H Q → r xs H Q
section
variable {X : Cx} {a b c : Expr} {ma mb mc : ME} {pos : Pos}
theorem tI_mono {K : PySem.W.Frag} {m : ME} {σ : L2.St} {H : Hp} {Q Q' : VK} (h : tI K m σ H Q) (i : ∀ v H, Q v H → Q' v H) : tI K m σ H Q' := by
  obtain ⟨R, σi, h, w, h', rh, st, e, k⟩ := h
  exact ⟨R, σi, h, w, h', rh, st, e, fun R' H' v a b c => i _ _ (k R' H' v a b c)⟩
theorem tIA_mono {K : PySem.W.Frag} {m : MA} {σ : L2.St} {H : Hp} {Q Q' : List V → Hp → Prop} (h : tIA K m σ H Q) (i : ∀ v H, Q v H → Q' v H) : tIA K m σ H Q' := by
  obtain ⟨R, σi, h, w, h', rh, st, e, k⟩ := h
  exact ⟨R, σi, h, w, h', rh, st, e, fun R' H' v a b c => i _ _ (k R' H' v a b c)⟩
theorem pm_op {op : Operator} {r : R2} {f : W → W → MH → Option (W × MH)} (ho : OpR X (binaryOp op) r) (hf : OpM X.K r f) (ha : PM X a ma) (hb : PM X b mb) : PM X (.BinOp a op b pos) (mBin f ma mb) :=
  pe_imp (pe_op ho ha hb) fun _ _ _ q => tI_mono (bin2 q) fun _ _ q1 => tI_mono q1 fun _ _ q2 => hf _ _ _ _ q2
theorem pm_cmp {op : CmpOp} {r : R2} {f : W → W → MH → Option (W × MH)} (ho : OpR X (compareOp op) r) (hf : OpM X.K r f) (ha : PM X a ma) (hb : PM X b mb) (hm : behindInMarks op b = false := by rfl) : PM X (.Compare a [op] [b] pos) (mBin f ma mb) :=
  pe_imp (pe_cmpR ho ha hb hm) fun _ _ _ q => tI_mono (bin2 q) fun _ _ q1 => tI_mono q1 fun _ _ q2 => hf _ _ _ _ q2
noncomputable def mTest (m : ME) : MT := fun σ h => (m σ h).bind fun p => match p.1 with | .bl b => some (b, p.2) | _ => none
theorem tTest_of {K : PySem.W.Frag} {m : ME} {σ : L2.St} {H : Hp} {Q : Bool → Hp → Prop} (q : tIT K (mTest m) σ H Q) : tI K m σ H fun x H' => ∃ k, x = .bl k ∧ Q k H' := by
  obtain ⟨R, σi, h, b, h', rh, st, e, k⟩ := q
  obtain ⟨⟨w, h1⟩, ew, e2⟩ := Option.bind_eq_some_iff.mp e
  cases w <;> simp only at e2 <;> first | (cases e2; exact ⟨R, σi, h, _, _, rh, st, ew, fun R' H' v x rh' rv => ⟨_, rv.bl_eq, k R' H' x rh'⟩⟩) | (cases e2)
theorem pmt_cmp {op : CmpOp} {r : R2} {f : W → W → MH → Option (W × MH)} (ho : OpR X (compareOp op) r) (hf : OpM X.K r f) (ha : PM X a ma) (hb : PM X b mb) (hm : behindInMarks op b = false := by rfl) : PMT X (.Compare a [op] [b] pos) (mTest (mBin f ma mb)) :=
  pt_imp (pt_cmpR ho ha hb hm) fun _ _ _ q => tI_mono (bin2 (tTest_of q)) fun _ _ q1 => tI_mono q1 fun _ _ q2 => hf _ _ _ _ q2
noncomputable def mChain (f f' : W → W → MH → Option (W × MH)) (ma mb mc : ME) : ME := fun σ h => (ma σ h).bind fun p => (mb σ p.2).bind fun q => (f p.1 q.1 q.2).bind fun z => match z.1 with
  | .bl true => (mc σ z.2).bind fun y => f' q.1 y.1 y.2
  | .bl false => some (.bl false, z.2)
  | _ => none
noncomputable def mAnd (ma mb : ME) : ME := fun σ h => (ma σ h).bind fun p => match p.1 with | .bl true => mb σ p.2 | .bl false => some (.bl false, p.2) | _ => none
noncomputable def mtAnd (ma mb : MT) : MT := fun σ h => (ma σ h).bind fun p => match p.1 with | true => mb σ p.2 | false => some (false, p.2)
noncomputable def mtOr (ma mb : MT) : MT := fun σ h => (ma σ h).bind fun p => match p.1 with | true => some (true, p.2) | false => mb σ p.2
noncomputable def mtNot (ma : MT) : MT := fun σ h => (ma σ h).bind fun p => some (!p.1, p.2)
noncomputable def mIf (t : MT) (ma mb : ME) : ME := fun σ h => (t σ h).bind fun p => match p.1 with | true => ma σ p.2 | false => mb σ p.2
variable {rest : List Expr} {ta tb : MT}
theorem pm_one {op} (h : PM X a ma) : PM X (.BoolOp op [a] pos) ma := pe_one h
theorem pm_and (ha : PM X a ma) (hb : PM X (.BoolOp .And (b :: rest) pos) mb) : PM X (.BoolOp .And (a :: b :: rest) pos) (mAnd ma mb) := pe_imp (pe_and ha hb) <| by
  rintro σ H Q ⟨R, σi, h, w, h', rh, st, e, k⟩
  obtain ⟨⟨a, h1⟩, ea, e2⟩ := Option.bind_eq_some_iff.mp e
  refine ⟨R, σi, h, a, h1, rh, st, ea, fun R1 H1 x x1 rh1 rx => ?_⟩
  cases a with
  | bl t =>
    refine ⟨t, rx.bl_eq, ?_⟩
    cases t with
    | true => exact iteT ⟨R1, σi, h1, w, h', rh1, st.mono x1, e2, k.ext x1⟩
    | false => cases e2; exact iteF (k R1 H1 _ x1 rh1 (Rw.bl _))
  | non => cases e2
  | int _ => cases e2
  | str _ => cases e2
  | tup _ => cases e2
  | lst _ => cases e2
  | frz _ => cases e2
  | ref _ => cases e2
  | ty _ => cases e2
noncomputable def PMW (X : Cx) (e : Expr) (m : MT) : Prop := PW X e (tIT X.K m)
theorem PMW.pt {e : Expr} {m : MT} (h : PMW X e m) : PMT X e m := PW.pt h
theorem tAnd_of {K : PySem.W.Frag} {σ : L2.St} {H : Hp} {Q : Bool → Hp → Prop} (q : tIT K (mtAnd ta tb) σ H Q) : tAnd (tIT K ta) (tIT K tb) σ H Q := by
  obtain ⟨R, σi, h, w, h', rh, st, e, k⟩ := q
  obtain ⟨⟨a, h1⟩, ea, e2⟩ := Option.bind_eq_some_iff.mp e
  refine ⟨R, σi, h, a, h1, rh, st, ea, fun R1 H1 x1 rh1 => ?_⟩
  cases a with
  | true => exact iteT ⟨R1, σi, h1, w, h', rh1, st.mono x1, e2, fun R2 H2 x2 => k R2 H2 (x1.trans x2)⟩
  | false => cases e2; exact iteF (k R1 H1 x1 rh1)
theorem tOr_of {K : PySem.W.Frag} {σ : L2.St} {H : Hp} {Q : Bool → Hp → Prop} (q : tIT K (mtOr ta tb) σ H Q) : tOr (tIT K ta) (tIT K tb) σ H Q := by
  obtain ⟨R, σi, h, w, h', rh, st, e, k⟩ := q
  obtain ⟨⟨a, h1⟩, ea, e2⟩ := Option.bind_eq_some_iff.mp e
  refine ⟨R, σi, h, a, h1, rh, st, ea, fun R1 H1 x1 rh1 => ?_⟩
  cases a with
  | true => cases e2; exact iteT (k R1 H1 x1 rh1)
  | false => exact iteF ⟨R1, σi, h1, w, h', rh1, st.mono x1, e2, fun R2 H2 x2 => k R2 H2 (x1.trans x2)⟩
theorem pmw_and1 (ha : PMT X a ta) : PMW X (.BoolOp .And [a] pos) ta := pw_and1 ha
theorem pmw_or1 (ha : PMT X a ta) : PMW X (.BoolOp .Or [a] pos) ta := pw_or1 ha
theorem pmw_and (ha : PMT X a ta) (hb : PMW X (.BoolOp .And (b :: rest) pos) tb) : PMW X (.BoolOp .And (a :: b :: rest) pos) (mtAnd ta tb) := pw_imp (pw_and ha hb) fun _ _ _ => tAnd_of
theorem pmw_or (ha : PMT X a ta) (hb : PMW X (.BoolOp .Or (b :: rest) pos) tb) : PMW X (.BoolOp .Or (a :: b :: rest) pos) (mtOr ta tb) := pw_imp (pw_or ha hb) fun _ _ _ => tOr_of
theorem pmt_not (ha : PMT X a ta) : PMT X (.UnaryOp .Not a pos) (mtNot ta) := pt_imp (pt_not ha) <| by
  rintro σ H Q ⟨R, σi, h, w, h', rh, st, e, k⟩
  obtain ⟨⟨a, h1⟩, ea, e2⟩ := Option.bind_eq_some_iff.mp e
  cases e2
  exact ⟨R, σi, h, a, h1, rh, st, ea, fun R1 H1 x1 rh1 => k R1 H1 x1 rh1⟩
theorem pm_if (ht : PMT X c ta) (ha : PM X a ma) (hb : PM X b mb) : PM X (.IfExp c a b pos) (mIf ta ma mb) := pe_imp (pe_ifExp ht ha hb) <| by
  rintro σ H Q ⟨R, σi, h, w, h', rh, st, e, k⟩
  obtain ⟨⟨t, h1⟩, ea, e2⟩ := Option.bind_eq_some_iff.mp e
  refine ⟨R, σi, h, t, h1, rh, st, ea, fun R1 H1 x1 rh1 => ?_⟩
  cases t with
  | true => exact iteT ⟨R1, σi, h1, w, h', rh1, st.mono x1, e2, k.ext x1⟩
  | false => exact iteF ⟨R1, σi, h1, w, h', rh1, st.mono x1, e2, k.ext x1⟩
noncomputable def truW (h : MH) : W → Option Bool
  | .non => some false
  | .bl b => some b
  | .int i => some (i != 0)
  | .str x => if x.length ≤ sizeLine then some ((x.length : Int) != 0) else none
  | .tup ws => some (!ws.isEmpty)
  | .lst ws => some (!ws.isEmpty)
  | .frz ws => some (!ws.isEmpty)
  | .ref n => match h[n]? with | some (.lst ws) => some (!ws.isEmpty) | some (.dic kvs) => some (!kvs.isEmpty) | none => none
  | .ty _ => none
noncomputable def mTru (m : ME) : MT := fun σ h => (m σ h).bind fun p => (truW p.2 p.1).map fun b => (b, p.2)
theorem Rws.isEmpty {K : PySem.W.Frag} {R : Rn} {ws : List W} {vs : List V} (r : Rws K R ws vs) : ws.isEmpty = vs.isEmpty := by
  have := r.length
  cases ws <;> cases vs <;> simp at this ⊢
theorem tru_of {K : PySem.W.Frag} {R : Rn} {h : MH} {H : Hp} {w : W} {v : V} {b : Bool} (rh : Rh K R h H) (r : Rw K R w v) (e : truW h w = some b) : TruV K v H b := by
  cases w with
  | non => rw [r.non_eq]; cases e; rfl
  | bl b => rw [r.bl_eq]; cases e; rfl
  | int i => rw [r.int_eq]; cases e; rfl
  | str x =>
    rw [r.str_eq]
    simp only [truW] at e
    split at e
    · rename_i hl; cases e; exact ⟨hl, rfl⟩
    · cases e
  | tup ws =>
    obtain ⟨a, xs, rfl, h1, h2⟩ := rh.tupAt r
    cases e
    exact .inr (.inl ⟨xs, h1, by rw [h2.isEmpty]⟩)
  | lst ws =>
    obtain ⟨a, xs, rfl, h1, h2⟩ := rh.lstAt r
    cases e
    exact .inl ⟨xs, SqL.of h1, by rw [h2.isEmpty]⟩
  | frz ws =>
    obtain ⟨a, xs, rfl, h1, h2⟩ := rh.frzAt r
    cases e
    exact .inl ⟨xs, h1, by rw [h2.isEmpty]⟩
  | ref n =>
    simp only [truW] at e
    split at e
    · rename_i ws hn
      cases e
      obtain ⟨_, rfl, xs, h1, h2⟩ := rh.refAt r hn
      exact .inl ⟨xs, SqL.of h1, by rw [h2.isEmpty]⟩
    · rename_i kvs hn
      cases e
      unfold Rw at r
      obtain ⟨kx, h1, h2⟩ := rh.obj n _ hn
      rw [r.2]
      refine .inr (.inr ⟨kx, h1, ?_⟩)
      have := Paired.length h2
      cases kvs <;> cases kx <;> simp at this ⊢
    · cases e
  | ty _ => cases e
theorem pmt_tru (ha : PM X a ma) (he : ∀ whole, isTrue a X.env whole = (do let v ← whole; standAt a.pos; holding [v] (truthy v)) := by intro _; rfl) : PMT X a (mTru ma) :=
  pt_imp (pt_truth ha he) fun σ H Q ⟨R, σi, h, w, h', rh, st, e, k⟩ => by
    obtain ⟨⟨a, h1⟩, ea, e2⟩ := Option.bind_eq_some_iff.mp e
    obtain ⟨b, eb, e3⟩ := Option.map_eq_some_iff.mp e2
    cases e3
    exact ⟨R, σi, h, a, _, rh, st, ea, fun R1 H1 x x1 rh1 rx => ⟨_, tru_of rh1 rx eb, k R1 H1 x1 rh1⟩⟩
end
end Mi

namespace Mi
open PySem PySem.Spec PyProof.Rows L2

noncomputable def isComp : Expr → Bool
  | .ListComp .. => true
  | .SetComp .. => true
  | .DictComp .. => true
  | _ => false
theorem swaps_of {e : Expr} {t : Option Expr} {l : Nat} {env : Env} (h : isComp e = false) : swapsWith e t l env = pure false := by
  cases e <;> first | rfl | cases h
noncomputable def mSkip : SM := fun σ h => some (.nx σ h)
noncomputable def mSeq (a b : SM) : SM := fun σ h => (a σ h).bind fun r => match r with | .nx σ' h' => b σ' h' | r => some r
noncomputable def mRet (m : ME) : SM := fun σ h => (m σ h).map fun p => .rt p.1 p.2
noncomputable def mIte (t : MT) (a b : SM) : SM := fun σ h => (t σ h).bind fun p => match p.1 with | true => a σ p.2 | false => b σ p.2
noncomputable def mDrop (m : ME) : SM := fun σ h => (m σ h).map fun p => .nx σ p.2
noncomputable def mSet (i : Nat) (m : ME) : SM := fun σ h => (m σ h).map fun p => .nx (σ.set i (some p.1)) p.2
noncomputable def mAug (i : Nat) (f : W → W → MH → Option (W × MH)) (m : ME) : SM := fun σ h => match σ[i]? with
  | some (some x) => (m σ h).bind fun p => (f x p.1 p.2).map fun q => .nx (σ.set i (some q.1)) q.2
  | _ => none
section
variable {X : Cx} {st : Stmt} {rest : List Stmt} {a b : SM} {e : Expr} {m : ME} {pos : Pos}
theorem pms_nil : PMSs X [] mSkip := pss_imp pss_nil <| by
  rintro D σ H ⟨R, σi, h, r, rh, s, e, k⟩
  cases e
  exact k R H σ (Ext.refl _) rh s
theorem seq_of {K : PySem.W.Frag} {D : L2.Ends} {σ : L2.St} {H : Hp} (q : tS K (mSeq a b) D σ H) : tSeq (tS K a) (tS K b) D σ H := by
  obtain ⟨R, σi, h, r, rh, s, e, k⟩ := q
  obtain ⟨r1, e1, e2⟩ := Option.bind_eq_some_iff.mp e
  refine ⟨R, σi, h, r1, rh, s, e1, ?_⟩
  cases r1 with
  | nx σ1 h1 => exact fun R1 H1 σ' x1 rh1 s1 => ⟨R1, σ1, h1, r, rh1, s1, e2, Ends.ext k x1⟩
  | rt w h1 => cases e2; exact k
  | bk σ1 h1 => cases e2; exact k
  | ct σ1 h1 => cases e2; exact k
theorem pms_cons (h1 : PMS X st a) (h2 : PMSs X rest b) : PMSs X (st :: rest) (mSeq a b) := pss_imp (pss_cons h1 h2) fun _ _ _ => seq_of
theorem pms_one (h1 : PMS X st a) : PMSs X [st] a := pss_one h1
theorem pms_expr (he : PM X e m) (hs : isComp e = false := by rfl) : PMS X (.Expr e pos) (mDrop m) := ps_imp (ps_expr he (swaps_of hs)) <| by
  rintro D σ H ⟨R, σi, h, r, rh, s, e, k⟩
  obtain ⟨⟨w, h1⟩, e1, e2⟩ := Option.map_eq_some_iff.mp e
  cases e2
  exact ⟨R, σi, h, w, h1, rh, s, e1, fun R1 H1 v x1 rh1 _ => k R1 H1 σ x1 rh1 (s.mono x1)⟩
theorem pms_ret (he : PM X e m) : PMS X (.Return (some e) pos) (mRet m) := ps_imp (ps_ret he) <| by
  rintro D σ H ⟨R, σi, h, r, rh, s, e, k⟩
  obtain ⟨⟨w, h1⟩, e1, e2⟩ := Option.map_eq_some_iff.mp e
  cases e2
  exact ⟨R, σi, h, w, h1, rh, s, e1, k⟩
theorem pms_if {c : Expr} {sa sb : List Stmt} {t : MT} (hc : PMT X c t) (ha : PMSs X sa a) (hb : PMSs X sb b) : PMS X (.If c sa sb pos) (mIte t a b) := ps_imp (ps_if hc ha hb) <| by
  rintro D σ H ⟨R, σi, h, r, rh, s, e, k⟩
  obtain ⟨⟨z, h1⟩, e1, e2⟩ := Option.bind_eq_some_iff.mp e
  refine ⟨R, σi, h, z, h1, rh, s, e1, fun R1 H1 x1 rh1 => ?_⟩
  cases z with
  | true => exact iteT ⟨R1, σi, h1, r, rh1, s.mono x1, e2, Ends.ext k x1⟩
  | false => exact iteF ⟨R1, σi, h1, r, rh1, s.mono x1, e2, Ends.ext k x1⟩
theorem pms_set {i : Nat} {x : Str} {pos' : Pos} (hN : X.N.Nodup) (hi : X.N[i]? = some x) (hx : Loc X.env.scope x) (he : PM X e m) (hs : isComp e = false := by rfl) (hf : X.fn x = true ∨ X.env.scope.names.lookup x = some .local := by first | exact .inl rfl | exact .inr rfl | assumption) :
    PMS X (.Assign [.Name x pos'] e pos) (mSet i m) := ps_imp (ps_set hN hi hx he (swaps_of hs) hf) <| by
  rintro D σ H ⟨R, σi, h, r, rh, s, e, k⟩
  obtain ⟨⟨w, h1⟩, e1, e2⟩ := Option.map_eq_some_iff.mp e
  cases e2
  exact ⟨R, σi, h, w, h1, rh, s, e1, fun R1 H1 v x1 rh1 rv => k R1 H1 _ x1 rh1 ((s.mono x1).set rv)⟩
theorem pip_of {op : Operator} {r : R2} (ho : OpR X (inplaceOp op) r) : PIp X op r := ho
theorem pms_aug {i : Nat} {x : Str} {op : Operator} {r : R2} {f : W → W → MH → Option (W × MH)} {pos' : Pos} (hN : X.N.Nodup) (hi : X.N[i]? = some x) (hx : Loc X.env.scope x) (ho : OpR X (inplaceOp op) r) (hf : OpM X.K r f) (he : PM X e m)
    (hfn : X.fn x = true ∨ X.env.scope.names.lookup x = some .local := by first | exact .inl rfl | exact .inr rfl | assumption) : PMS X (.AugAssign (.Name x pos') op e pos) (mAug i f m) :=
  ps_imp (ps_aug hN hi hx he (pip_of ho) hfn) fun D σ H ⟨R, σi, h, r, rh, s, e, k⟩ => by
    unfold mAug at e
    split at e
    · rename_i w0 hw0
      obtain ⟨⟨w, h1⟩, e1, e2⟩ := Option.bind_eq_some_iff.mp e
      obtain ⟨⟨z, h2⟩, e3, e4⟩ := Option.map_eq_some_iff.mp e2
      cases e4
      obtain ⟨v0, hv0, rv0⟩ := s.2 i _ hw0
      refine ⟨v0, hv0, R, σi, h, w, h1, rh, s, e1, fun R1 H1 v x1 rh1 rv => ?_⟩
      exact hf _ _ _ _ ⟨R1, h1, w0, w, z, h2, rh1, Rw.mono x1 _ _ rv0, rv, e3, fun R2 H2 y x2 rh2 ry => k R2 H2 _ (x1.trans x2) rh2 ((s.mono (x1.trans x2)).set ry)⟩
    · cases e
end

noncomputable def mFin (r : Option MF) : Option (W × MH) := match r with | some (.rt w h) => some (w, h) | some (.nx _ h) => some (.non, h) | _ => none
noncomputable def mDef (more : Nat) (m : SM) : FM := fun ws h => mFin (m (ws.map some ++ List.replicate more none) h)
theorem Rst.start {K : PySem.W.Frag} {R : Rn} {ws : List W} {vs : List V} {N : List Str} (r : Rws K R ws vs) (k : Nat) (hk : N.length = ws.length + k) : Rst K R (ws.map some ++ List.replicate k none) (start N vs) := by
  have hl := r.length
  unfold L2.start
  refine ⟨by simp [hk, hl], fun i w e => ?_⟩
  by_cases hi : i < ws.length
  · rw [List.getElem?_append_left (by simpa using hi)] at e
    rw [List.getElem?_append_left (by simpa [← hl] using hi)]
    rw [List.getElem?_map] at e ⊢
    obtain ⟨w', hw', e'⟩ := Option.map_eq_some_iff.mp e
    cases e'
    obtain ⟨v, h1, h2⟩ := r.get hw'
    exact ⟨v, by rw [h1]; rfl, h2⟩
  · rw [List.getElem?_append_right (by simpa using hi)] at e
    rw [List.getElem?_replicate] at e
    split at e <;> cases e
section
variable {P : Program} {w : World} {K : PySem.W.Frag} {mg : Str → Option Value} {base : Heap}
theorem fn_ok {x qual : Str} {st : Stmt} {f : Addr} {fd : FuncData} {N ps : List Str} {k more : Nat} {m : SM} (F : Fun K x qual st f fd) (S : FnScope N ps (defScope st)) (hN : N.length = ps.length + more)
    (hbody : ∀ (cdv : Value) (A : Around) (outer : List Env) (s : Shared) (H : Hp) (E : XK), Room k (A.deeper (envOfC qual (defScope st) s.heap.objs.size f cdv)) → PMSs (cxOf CX0 P w K mg base N qual (defScope st) f cdv A outer s H E).nox (defBody st) m) :
    FnOk P w K mg base CX0 (k + 1) f fd ps (spM K ps.length (mDef more m)) := by
  refine F.ok S (fun vs H Q E q => ?_) (fun cdv A outer s H vs Q E hr q => ?_)
  · obtain ⟨R, ws, h, w, h', hl, rh, rws, _⟩ := q
    rw [← rws.length]; exact hl
  · refine ⟨_, hbody cdv A outer s H E hr, ?_⟩
    obtain ⟨R, ws, h, w, h', hl, rh, rws, e, kk⟩ := q
    have st := Rst.start (N := N) rws more (by rw [hN, hl])
    unfold mDef mFin at e
    split at e
    · rename_i w' h1 e1
      cases e
      exact ⟨R, _, h, _, rh, st, e1, kk⟩
    · rename_i σ1 h1 e1
      cases e
      exact ⟨R, _, h, _, rh, st, e1, fun R1 H1 σ' x1 rh1 _ => kk R1 H1 .non x1 rh1 Rw.non⟩
    · cases e
end
section
variable {X : Cx} {CX : CXT} {k : Nat} {f : Addr} {fd : FuncData} {ps : List Str} {g : FM} {E : XK} {x : Str} {p pos : Pos} {e : Expr} {es : List Expr} {ms : MA}
noncomputable def mCall (n : Nat) (g : FM) (ms : MA) : ME := mFn (fun ws h => if ws.length = n then g ws h else none) ms
theorem call_of {K : PySem.W.Frag} {n : Nat} {σ : L2.St} {H : Hp} {Q : VK} (q : tI K (mCall n g ms) σ H Q) : tCall (spM K n g) [] E (tIA K ms) σ H Q := by
  refine tIA_mono (args1 q) fun vs H1 ⟨R, h, ws, w, h', rh, rws, e, k⟩ => ?_
  dsimp only at e
  split at e
  · rename_i hl
    exact ⟨R, ws, h, w, h', hl, rh, by rw [List.append_nil]; exact rws, e, k⟩
  · cases e
theorem pm_call (F : FnOk X.prog X.w X.K X.mg X.base CX k f fd ps (spM X.K ps.length g)) (hr : Room k X.A) (hg : Gl X x) (hm : X.mg x = some (.ref f)) (hk : PySem.W.keepIn X.K (.ref f) = true) (hb : Binds X.K fd ps []) (hx : Passes CX X E)
    (ha : PMA X (e :: es) ms) (hdb : (x == ("__debug__" : Str)) = false := by decide) (he : isStar e = false := by rfl) (hpl : noStar es = true := by rfl) :
    PM X (.Call (.Name x p) (e :: es) [] pos) (mCall ps.length g ms) := pe_imp (pe_call F hr hg hm hk hb .nil hx ha hdb (star_cons he) (any_star hpl)) fun _ _ _ => call_of
theorem pm_call0 (F : FnOk X.prog X.w X.K X.mg X.base CX k f fd ps (spM X.K ps.length g)) (hr : Room k X.A) (hg : Gl X x) (hm : X.mg x = some (.ref f)) (hk : PySem.W.keepIn X.K (.ref f) = true) (hb : Binds X.K fd ps []) (hx : Passes CX X E)
    (hdb : (x == ("__debug__" : Str)) = false := by decide) : PM X (.Call (.Name x p) [] [] pos) (mCall ps.length g mNil) := pe_imp (pe_call0 F hr hg hm hk hb .nil hx hdb) fun σ H Q q => by
  obtain ⟨R, σi, h, ws, h', rh, st, e, k⟩ := call_of (E := E) q
  cases e
  exact k R H [] (Ext.refl _) rh Rws.nil
end
section
variable {X : Cx} {x : Str} {p pos : Pos} {e : Expr} {es : List Expr} {ms : MA} {id T : String} {r : List V → Hp → VK → Prop} {f : List W → MH → Option (W × MH)}
theorem pm_callB (hc : CallR X (.builtin id) r) (hf : CallM X.K r f) (hg : Gl X x) (hm : X.mg x = none) (hv : bootBuiltins x = some (.builtin id)) (ha : PMA X (e :: es) ms) (hn : x ≠ "__name__" := by decide) (hdb : (x == ("__debug__" : Str)) = false := by decide)
    (he : isStar e = false := by rfl) (hpl : noStar es = true := by rfl) : PM X (.Call (.Name x p) (e :: es) [] pos) (mFn f ms) :=
  pe_imp (pe_callB hc hg hm hv ha hn hdb (star_cons he) (any_star hpl)) fun _ _ _ q => tIA_mono (args1 q) fun _ _ q1 => hf _ _ _ q1
theorem pm_callTy (hc : CallR X (.type T) r) (hf : CallM X.K r f) (hg : Gl X x) (hm : X.mg x = none) (hv : bootBuiltins x = some (.type T)) (ha : PMA X (e :: es) ms) (hn : x ≠ "__name__" := by decide) (hdb : (x == ("__debug__" : Str)) = false := by decide)
    (he : isStar e = false := by rfl) (hpl : noStar es = true := by rfl) : PM X (.Call (.Name x p) (e :: es) [] pos) (mFn f ms) :=
  pe_imp (pe_callTy hc hg hm hv ha hn hdb (star_cons he) (any_star hpl)) fun _ _ _ q => tIA_mono (args1 q) fun _ _ q1 => hf _ _ _ q1
end
noncomputable def live (src : Option Nat) (items : List W) (h : MH) : Prop := ∀ n, src = some n → h[n]? = some (.lst items)
noncomputable abbrev MI := MSt → MH → Option (List W × Option Nat × MH)
structure ItOk (K : PySem.W.Frag) (R : Rn) (J : It) (items : List W) (src : Option Nat) : Prop where
  go : ∀ i w R' h H, Ext R R' → Rh K R' h H → live src items h → items[i]? = some w → J.go i H
  yld : ∀ i w R' h H x H', Ext R R' → Rh K R' h H → live src items h → items[i]? = some w → J.yld i H x H' → ∃ R'', Ext R' R'' ∧ Rh K R'' h H' ∧ Rw K R'' w x
  stop : ∀ i R' h H, Ext R R' → Rh K R' h H → live src items h → items.length ≤ i → J.stop i H
noncomputable def tII (K : PySem.W.Frag) (m : MI) : TI := fun σ H C => ∃ R σi h items src h', Rh K R h H ∧ Rst K R σi σ ∧ m σi h = some (items, src, h') ∧ ∀ R' H' J, Ext R R' → Rh K R' h' H' → ItOk K R' J items src → C J H'
noncomputable def PMI (X : Cx) (tg iter : Expr) (m : MI) : Prop := PI X tg iter (tII X.K m)
theorem pi_imp {X : Cx} {tg iter : Expr} {t t' : TI} (h : PI X tg iter t) (i : ∀ σ H C, t' σ H C → t σ H C) : PI X tg iter t' := fun pins s σ H C I q => h pins s σ H C I (i _ _ _ q)
noncomputable abbrev MG := W → MSt → MH → Option MSt
noncomputable def tIG (K : PySem.W.Frag) (b : MG) : TG := fun v σ H C => ∃ R σi h w σ1, Rh K R h H ∧ Rst K R σi σ ∧ Rw K R w v ∧ b w σi h = some σ1 ∧ ∀ R' H' σ', Ext R R' → Rh K R' h H' → Rst K R' σ1 σ' → C σ' H'
noncomputable def PMG (X : Cx) (tg : Expr) (b : MG) : Prop := PG X tg (tIG X.K b)
theorem pg_imp {X : Cx} {tg : Expr} {t t' : TG} (h : PG X tg t) (i : ∀ v σ H C, t' v σ H C → t v σ H C) : PG X tg t' := fun pins s σ H v u C I r q => h pins s σ H v u C I r (i _ _ _ _ q)
noncomputable def gSet (i : Nat) : MG := fun w σ _ => some (σ.set i (some w))
theorem pmg_name {X : Cx} {i : Nat} {x : Str} {pos : Pos} (hN : X.N.Nodup) (hi : X.N[i]? = some x) (hx : Loc X.env.scope x) (hf : X.fn x = true ∨ X.env.scope.names.lookup x = some .local := by first | exact .inl rfl | exact .inr rfl | assumption) :
    PMG X (.Name x pos) (gSet i) := pg_imp (pg_name hN hi hx hf) <| by
  rintro v σ H C ⟨R, σi, h, w, σ1, rh, st, rw, e, k⟩
  cases e
  exact k R H _ (Ext.refl _) rh (st.set rw)
open Classical in
noncomputable def mLoop (items : List W) (src : Option Nat) (b : MG) (body : SM) : List W → SM
  | [], σ, h => if live src items h then some (.nx σ h) else none
  | w :: r, σ, h => if live src items h then (b w σ h).bind fun σ1 => (body σ1 h).bind fun z => match z with
      | .nx σ2 h2 => mLoop items src b body r σ2 h2
      | .ct σ2 h2 => mLoop items src b body r σ2 h2
      | .bk σ2 h2 => some (.nx σ2 h2)
      | .rt v h2 => some (.rt v h2)
    else none
noncomputable def mFor (mi : MI) (b : MG) (body : SM) : SM := fun σ h => (mi σ h).bind fun p => mLoop p.1 p.2.1 b body p.1 σ p.2.2
section
variable {X : Cx} {tg iter : Expr} {body : List Stmt} {mi : MI} {b : MG} {m : SM} {pos : Pos}
theorem for_of {K : PySem.W.Frag} {D : L2.Ends} {σ : L2.St} {H : Hp} (q : tS K (mFor mi b m) D σ H) : tFor (tII K mi) (tIG K b) (tS K m) D σ H := by
  obtain ⟨R, σi, h, r, rh, s, e, k⟩ := q
  obtain ⟨⟨items, src, h1⟩, e1, e2⟩ := Option.bind_eq_some_iff.mp e
  refine ⟨R, σi, h, items, src, h1, rh, s, e1, fun R1 H1 J x1 rh1 it => ?_⟩
  refine ⟨fun i n σ H => i + n = items.length ∧ ∃ R2 σ2 h2, Ext R1 R2 ∧ Rh K R2 h2 H ∧ Rst K R2 σ2 σ ∧ ∃ r, mLoop items src b m (items.drop i) σ2 h2 = some r ∧ Ends K R2 D r, ⟨items.length, by simp, R1, σi, h1, Ext.refl _, rh1, s.mono x1, r, by simpa using e2, Ends.ext k x1⟩, ?_⟩
  rintro i n σ2' H2 ⟨hin, R2, σ2, h2, x2, rh2, s2, r2, e3, k2⟩
  by_cases hi : i < items.length
  · obtain ⟨w, hw⟩ : ∃ w, items[i]? = some w := ⟨items[i], List.getElem?_eq_getElem hi⟩
    have hd : items.drop i = w :: items.drop (i + 1) := by
      rw [List.drop_eq_getElem_cons hi]
      rw [List.getElem?_eq_getElem hi] at hw
      cases hw; rfl
    rw [hd] at e3
    unfold mLoop at e3
    split at e3
    · rename_i hl
      obtain ⟨σ3, e4, e5⟩ := Option.bind_eq_some_iff.mp e3
      obtain ⟨z, e6, e7⟩ := Option.bind_eq_some_iff.mp e5
      refine .inr ⟨it.go i w R2 h2 H2 x2 rh2 hl hw, fun σ' H' => ∃ R3 σ4 h4, Ext R1 R3 ∧ Rh K R3 h4 H' ∧ Rst K R3 σ4 σ' ∧ ∃ r, mLoop items src b m (items.drop (i + 1)) σ4 h4 = some r ∧ Ends K R3 D r, fun σ' H' hn => ⟨n - 1, by omega, by omega, hn⟩, fun x H' hy => ?_⟩
      obtain ⟨R3, x3, rh3, rw3⟩ := it.yld i w R2 h2 H2 x H' x2 rh2 hl hw hy
      refine ⟨R3, σ2, h2, w, σ3, rh3, s2.mono x3, rw3, e4, fun R4 H4 σ4' x4 rh4 s4 => ?_⟩
      refine ⟨R4, σ3, h2, z, rh4, s4, e6, ?_⟩
      cases z with
      | nx σ5 h5 => exact fun R5 H5 σ5' x5 rh5 s5 => ⟨R5, σ5, h5, x2.trans (x3.trans (x4.trans x5)), rh5, s5, r2, e7, Ends.ext k2 (x3.trans (x4.trans x5))⟩
      | ct σ5 h5 => exact fun R5 H5 σ5' x5 rh5 s5 => ⟨R5, σ5, h5, x2.trans (x3.trans (x4.trans x5)), rh5, s5, r2, e7, Ends.ext k2 (x3.trans (x4.trans x5))⟩
      | bk σ5 h5 => cases e7; exact fun R5 H5 σ5' x5 rh5 s5 => k2 R5 H5 σ5' (x3.trans (x4.trans x5)) rh5 s5
      | rt v h5 => cases e7; exact After.ext k2 (x3.trans x4)
    · cases e3
  · have hd : items.drop i = [] := List.drop_eq_nil_of_le (by omega)
    rw [hd] at e3
    unfold mLoop at e3
    split at e3
    · rename_i hl
      cases e3
      exact .inl ⟨it.stop i R2 h2 H2 x2 rh2 hl (by omega), k2 R2 H2 σ2' (Ext.refl _) rh2 s2⟩
    · cases e3
theorem pms_for (hp : PassesOwn (model X.prog X.w) X.A X.env X.xe) (hc : X.calm = true) (hi : PMI X tg iter mi) (hg : PMG X tg b) (hb : PMSs X body m)
    (hs : ∀ x, foldedSetIterable iter X.env x = pure x := by intro _; rfl) : PMS X (.For tg iter body [] pos) (mFor mi b m) := ps_imp (ps_for hp hc hi hg hb hs) fun _ _ _ => for_of
end
noncomputable def mWhileN (t : MT) (body : SM) : Nat → SM
  | 0, _, _ => none
  | n + 1, σ, h => (t σ h).bind fun p => match p.1 with
    | false => some (.nx σ p.2)
    | true => (body σ p.2).bind fun z => match z with
      | .nx σ2 h2 => mWhileN t body n σ2 h2
      | .ct σ2 h2 => mWhileN t body n σ2 h2
      | .bk σ2 h2 => some (.nx σ2 h2)
      | .rt v h2 => some (.rt v h2)
section
variable {X : Cx} {c : Expr} {body : List Stmt} {t : MT} {m : SM} {pos : Pos}
theorem while_of {K : PySem.W.Frag} {n : Nat} {D : L2.Ends} {σ : L2.St} {H : Hp} (q : tS K (mWhileN t m n) D σ H) : tWhile (tIT K t) (tS K m) D σ H := by
  obtain ⟨R, σi, h, r, rh, s, e, k⟩ := q
  refine ⟨fun n σ H => ∃ R2 σ2 h2, Rh K R2 h2 H ∧ Rst K R2 σ2 σ ∧ ∃ r, mWhileN t m n σ2 h2 = some r ∧ Ends K R2 D r, ⟨n, R, σi, h, rh, s, r, e, k⟩, ?_⟩
  rintro n σ2' H2 ⟨R2, σ2, h2, rh2, s2, r2, e2, k2⟩
  cases n with
  | zero => cases e2
  | succ n =>
    unfold mWhileN at e2
    obtain ⟨⟨z, h3⟩, e3, e4⟩ := Option.bind_eq_some_iff.mp e2
    refine ⟨R2, σ2, h2, z, h3, rh2, s2, e3, fun R3 H3 x3 rh3 => ?_⟩
    cases z with
    | false =>
      cases e4
      exact iteF (k2 R3 H3 σ2' x3 rh3 (s2.mono x3))
    | true =>
      obtain ⟨y, e5, e6⟩ := Option.bind_eq_some_iff.mp e4
      refine iteT ⟨fun σ' H' => ∃ R4 σ4 h4, Rh K R4 h4 H' ∧ Rst K R4 σ4 σ' ∧ ∃ r, mWhileN t m n σ4 h4 = some r ∧ Ends K R4 D r, fun σ' H' hn => ⟨n, Nat.lt_succ_self _, hn⟩, ?_⟩
      refine ⟨R3, σ2, h3, y, rh3, s2.mono x3, e5, ?_⟩
      cases y with
      | nx σ5 h5 => exact fun R5 H5 σ5' x5 rh5 s5 => ⟨R5, σ5, h5, rh5, s5, r2, e6, Ends.ext k2 (x3.trans x5)⟩
      | ct σ5 h5 => exact fun R5 H5 σ5' x5 rh5 s5 => ⟨R5, σ5, h5, rh5, s5, r2, e6, Ends.ext k2 (x3.trans x5)⟩
      | bk σ5 h5 => cases e6; exact fun R5 H5 σ5' x5 rh5 s5 => k2 R5 H5 σ5' (x3.trans x5) rh5 s5
      | rt v h5 => cases e6; exact After.ext k2 x3
theorem pms_while (n : Nat) (hp : PassesOwn (model X.prog X.w) X.A X.env X.xe) (hc : PMT X c t) (hb : PMSs X body m) : PMS X (.While c body [] pos) (mWhileN t m n) := ps_imp (ps_while hp hc hb) fun _ _ _ => while_of
end
end Mi

namespace Mi
open PySem PySem.Spec PyProof.Rows L2

section
variable {prog : Program} {w : World} {A : Around} {E : Value → Shared → Prop} {R : Result → Shared → Prop} {s : Shared}
theorem compLoop_go {elt target iter : Expr} {ifs : List Expr} {scope : Scope} {pos : Pos} {it acc : Value} {env : Env} (I : Nat → Shared → Prop)
    (turn : ∀ n s, I n s → wpAny (model prog w) A (pyNext it) (fun r s₁ => match r with
      | none => R (.ok .next) s₁
      | some v => wpAny (model prog w) A (letOwnedTupleGo target it v) (fun _ s₁' => wpAny (model prog w) A (assign target env v) (fun _ s₂ =>
          wpAny (model prog w) A (forIn ifs true fun c r => if r = true then do let ok ← isTrue c env (eval c env); pure (ForInStep.yield ok) else pure (ForInStep.yield r)) (fun ok s₃ =>
            if ok = true then wpAny (model prog w) A (eval elt env) (fun x s₄ =>
              wpAny (model prog w) A (call (.builtin "list.append") [acc, x]) (fun _ s₅ => ∃ m, m < n ∧ I m s₅) (fun _ _ => False) s₄) (fun _ _ => False) s₃
            else ∃ m, m < n ∧ I m s₃) (fun _ _ => False) s₂) (fun _ _ => False) s₁') (fun _ _ => False) s₁) (fun _ _ => False) s)
    (n : Nat) (h : I n s) :
    codeAny (model prog w) A (.compLoop (.ListComp elt [⟨target, iter, ifs, 0⟩] scope pos) 0 it acc env) R s := by
  refine codeAny_loop rfl I (fun n s hI => ?_) n h
  show wpAny _ A ((compTurn (.ListComp elt [⟨target, iter, ifs, 0⟩] scope pos) 0 it acc env).onRaise (fun x => do noteFrame x env; theTreesLotGoes x)) _ _ s
  refine wpAny_noted ?_
  rw [compTurn_list]
  refine wpAny_bind (wpAny_standAt (wpAny_bind (wpAny_mono (turn n s hI) (fun r s₁ h₁ => ?_) fun _ _ h' => h'.elim)))
  cases r with
  | none => exact wpAny_pure h₁
  | some v =>
    refine wpAny_bind (wpAny_mono h₁ (fun _ s₁' h₁' => ?_) fun _ _ h' => h'.elim)
    refine wpAny_bind (wpAny_mono h₁' (fun _ s₂ h₂ => wpAny_bind (wpAny_mono h₂ (fun ok s₃ h₃ => ?_) fun _ _ h' => h'.elim)) fun _ _ h' => h'.elim)
    cases ok with
    | false => exact wpAny_pure ⟨rfl, h₃⟩
    | true =>
      exact wpAny_bind (wpAny_bind (wpAny_mono h₃ (fun x s₄ h₄ => wpAny_bind (wpAny_mono h₄ (fun _ s₅ h₅ => wpAny_pure (wpAny_pure ⟨rfl, h₅⟩)) fun _ _ h' => h'.elim)) fun _ _ h' => h'.elim))
end

theorem sz {h : Heap} {b : Addr} {o : Obj} {n : Nat} (e : h.get? b = some o) (hn : h.objs.size ≤ n) : ¬ b = n := fun z => by
  have h1 : @LT.lt Nat instLTNat b h.objs.size := Heap.lt_size e
  subst z
  exact Nat.lt_irrefl _ (Nat.lt_of_lt_of_le h1 hn)
noncomputable abbrev blk (X : Cx) (scope : Scope) (cl : List (Str × Addr)) (Nb : List Str) (s₀ : Shared) (H₀ : Hp) (C : Addr) (ex : List Addr) (pn : List (Addr × Obj)) : Cx :=
  { X with N := Nb, s₀ := s₀, H₀ := H₀, env := compEnvC scope cl C X.env, outer := X.stack, stack := X.stack, ex := ex, fn := fun _ => false, pn := pn, xe := fun _ _ => False }

structure BlkOk (X : Cx) (scope : Scope) (cl : List (Str × Addr)) (Nb : List Str) (cp : List (Option Nat)) : Prop where
  clos : closureFor scope X.env = pure cl
  cell : ∀ y ∈ scope.names, y.2 ≠ .cell
  kind : scope.kind = .function
  names : ∀ y ∈ scope.names, y.2 = .local → scope.names.lookup y.1 = some .local
  sub : ∀ x c, cl.lookup x = some c → X.env.cells.lookup x = some c
  has : ∀ x, ((relabel scope X.env).names.lookup x = some .cell ∨ (relabel scope X.env).names.lookup x = some .free) → ∃ c, cl.lookup x = some c
  len : cp.length = Nb.length
  cap : ∀ (i j : Nat) (x : Str), cp[i]? = some (some j) → Nb[i]? = some x → X.N[j]? = some x ∧ Vis X.env.scope x ∧ (X.env.kindOf x = some .cell ∨ X.env.kindOf x = some .free) ∧ ((relabel scope X.env).names.lookup x = some .cell ∨ (relabel scope X.env).names.lookup x = some .free)

noncomputable def capSt (cp : List (Option Nat)) (σ : L2.St) : L2.St := cp.map fun o => match o with | none => none | some j => match σ[j]? with | some v => v | none => none

noncomputable def tComp (wi : TI) (cp : List (Option Nat)) (g : TG) (tt : TT) (te : TE) : TE := fun σ H Q => wi σ H fun J H1 => ∃ W : Nat → Nat → List V → L2.St → Hp → Prop, (∃ m, W 0 m [] (capSt cp σ) H1) ∧ ∀ i m acc τ H, W i m acc τ H →
  (J.stop i H ∧ ∀ D, H D = none → Q (.ref D) (upd H D (.lst acc))) ∨
  (J.go i H ∧ ∀ x H', J.yld i H x H' → g x τ H' fun τ2 H2 => tt τ2 H2 fun b H3 => if b = true then te τ2 H3 fun v H4 => acc.length < sizeLine ∧ ∃ m', m' < m ∧ W (i + 1) m' (acc ++ [v]) τ2 H4 else ∃ m', m' < m ∧ W (i + 1) m' acc τ2 H3)

theorem Inv.track {X : Cx} {pins : List (Addr × Obj)} {σ : L2.St} {H : Hp} {s : Shared} {D : Addr} {o : HO} (I : Inv X pins σ H s) (hn : H D = none) (h0 : X.s₀.heap.objs.size ≤ D) (hL : X.env.locals ≠ D) (hc : ∀ x c, X.env.cells.lookup x = some c → c ≠ D)
    (hp : ∀ p ∈ X.pn ++ pins, p.1 ≠ D) (ob : ObjOk X.prog X.w (upd H D o) s.heap D o) : Inv X pins σ (upd H D o) s where
  ok := I.ok
  os := I.os
  bare := I.bare
  base := {
    keep := I.base.keep
    slot := I.base.slot
    free := fun b q e n nx => by
      have : b ≠ D := sz e h0
      rw [upd_ne this]; exact I.base.free b q e n nx
    there := I.base.there
    tups := fun b xs e => by
      have q := I.base.tups b xs e
      rw [upd_ne (fun z => by rw [z, hn] at q; cases q)]; exact q
    frzs := fun b q u e => by
      have z := I.base.frzs b q u e
      rw [upd_ne (fun y => by rw [y, hn] at z; cases z)]; exact z
    tbls := fun b ps e => by
      obtain ⟨more, q⟩ := I.base.tbls b ps e
      exact ⟨more, by rw [upd_ne (fun z => by rw [z, hn] at q; cases q)]; exact q⟩ }
  loc := I.loc
  cell := I.cell
  free := by rw [upd_ne hL]; exact I.free
  freeC := fun x c e => by rw [upd_ne (hc x c e)]; exact I.freeC x c e
  pin := fun p hp' => by
    obtain ⟨a, b, c⟩ := I.pin p hp'
    exact ⟨a, by rw [upd_ne (hp p hp')]; exact b, c⟩
  hok := fun a u e => by
    by_cases z : a = D
    · subst z
      rw [upd_same] at e; cases e
      exact ob
    · rw [upd_ne z] at e
      refine (I.hok a u e).stay (fun _ _ _ q => q) (fun b q => ?_) (fun b xs q => ?_)
      · rw [upd_ne (fun y => by rw [y, hn] at q; cases q)]; exact q
      · rw [upd_ne (fun y => by rw [y, hn] at q; cases q)]; exact q
  len := I.len

section
variable {X : Cx} {elt tg iter : Expr} {ifs : List Expr} {scope : Scope} {pos : Pos} {cl : List (Str × Addr)} {Nb : List Str} {cp : List (Option Nat)} {wi : TI} {g : TG} {tt : TT} {te : TE}

theorem Cx.Ok.blk {pins : List (Addr × Obj)} {σ : L2.St} {H : Hp} {s : Shared} {C : Addr} {fp : List Addr} {pn : List (Addr × Obj)} (B : BlkOk X scope cl Nb cp) (I : Inv X pins σ H s) (hf : ∀ b ∈ fp, FpOk X pins H b) (hfs : ∀ b ∈ fp, b < s.heap.objs.size) (hC : s.heap.objs.size ≤ C) :
    (blk X scope cl Nb s H C fp pn).Ok where
  mod := I.ok.mod
  kind := B.kind
  glob := I.ok.glob
  blt := I.ok.blt
  above := hC
  inj := fun x y c h1 h2 => I.ok.inj x y c (B.sub x c h1) (B.sub y c h2)
  has := fun x h => B.has x h
  cab := fun x c h => absurd h (by simp)
  hd := I.ok.hd
  frames := I.ok.frames
  stk := .inl rfl
  exf := fun b hb => ⟨fun z => by have := hfs b hb; rw [z] at this; exact absurd hC (Nat.not_le.mpr this), fun x c e => (hf b hb).2.2.2.2.1 x c (B.sub x c e)⟩
  bs := I.bs
  bsz := Nat.le_trans I.ok.bsz I.sz
  noex := fun b o e hb => by
    rcases (hf b hb).2.2.2.1 with z | z
    · exact I.ok.noex b o e z
    · exact sz e (Nat.le_trans I.ok.bsz z) rfl
  exfs := fun b hb z => by
    have := I.stkSub b z
    rcases List.mem_cons.mp this with q | q
    · exact (hf b hb).2.1 q
    · exact (hf b hb).2.2.1 q
  funs := I.stack
  frf := fun b hb => I.stkFree b hb

theorem capSt_get {cp : List (Option Nat)} {σ : L2.St} {i : Nat} {v : V} (e : (capSt cp σ)[i]? = some (some v)) : ∃ j, cp[i]? = some (some j) ∧ σ[j]? = some (some v) := by
  unfold capSt at e
  rw [List.getElem?_map] at e
  obtain ⟨o, h1, h2⟩ := Option.map_eq_some_iff.mp e
  cases o with
  | none => cases h2
  | some j =>
    refine ⟨j, h1, ?_⟩
    simp only at h2
    split at h2
    · rename_i u hu; rw [hu, h2]
    · cases h2

theorem Inv.blk {pins : List (Addr × Obj)} {σ : L2.St} {H : Hp} {s : Shared} {C : Addr} {fp : List Addr} {h' : Heap} {m : Str → Option Value} {tk : Nat} (B : BlkOk X scope cl Nb cp) (I : Inv X pins σ H s) (hf : ∀ b ∈ fp, FpOk X pins H b) (hfs : ∀ b ∈ fp, b < s.heap.objs.size)
    (hC : s.heap.objs.size ≤ C) (hns : h'.Ns C m) (hk : ∀ b o, s.heap.get? b = some o → h'.get? b = some o) : Inv (Mi.blk X scope cl Nb s H C fp (X.pn ++ pins)) [] (capSt cp σ) H { s with heap := h', toks := tk } where
  ok := Cx.Ok.blk B I hf hfs hC
  os := rfl
  bare := I.bare
  base := Un.kept hk
  loc := by
    refine ⟨m, hns, fun i x v hN e hv => ?_⟩
    obtain ⟨j, h1, h2⟩ := capSt_get e
    obtain ⟨hX, hvis, hkd, hkb⟩ := B.cap i j x h1 hN
    obtain ⟨m0, n0, lk⟩ := I.loc
    obtain ⟨u, r, l⟩ := lk j x v hX h2 hvis
    refine ⟨u, r, ?_⟩
    rcases l with ⟨h, _⟩ | ⟨_, c, hc, hcell⟩
    · rcases hkd with z | z <;> rw [z] at h <;> cases h
    · refine .inr ⟨hkb, ?_⟩
      obtain ⟨c', hc'⟩ := B.has x hkb
      have := B.sub x c' hc'
      rw [hc] at this; cases this
      exact ⟨c, hc', by
        obtain ⟨o, h3, h4⟩ := hcell
        exact ⟨o, hk _ _ h3, h4⟩⟩
  cell := fun x c e => by
    obtain ⟨v, o, h3, h4⟩ := I.cell x c (B.sub x c e)
    exact ⟨v, o, hk _ _ h3, h4⟩
  free := I.hok.fresh hC
  freeC := fun x c e => I.freeC x c (B.sub x c e)
  pin := fun p hp => by
    rw [List.append_nil] at hp
    obtain ⟨a, b, c, d, e⟩ := I.pin p hp
    refine ⟨hk _ _ a, b, fun z => ?_, fun z => ?_, e⟩
    · have := Heap.lt_size a; rw [z] at this; exact absurd hC (Nat.not_le.mpr this)
    · rcases List.mem_cons.mp (I.stkSub _ z) with q | q
      · exact c q
      · exact d q
  hok := I.hok.kept hk
  len := by unfold capSt; rw [List.length_map]; exact B.len

noncomputable def AtEnd (X : Cx) (pins : List (Addr × Obj)) (σ : L2.St) (use : Option (Value → Sem Unit)) (Q : VK) (Q' : Value → Shared → Prop) : Prop :=
  ∀ (D C : Addr) (H' : Hp) (s' : Shared) (m : Str → Option Value), Inv X pins σ H' s' → s'.heap.Ns C m → H' C = none → ¬ C = X.env.locals → X.s₀.heap.objs.size ≤ C → (∀ x c, X.env.cells.lookup x = some c → c ≠ C) → (∀ p ∈ X.pn ++ pins, p.1 ≠ C) → Q (.ref D) H' →
    compPost (model X.prog X.w) X.A X.xe use Q' (.ref D) C (.ok .next) s'
theorem comp_gen {use : Option (Value → Sem Unit)} {Q' : Value → Shared → Prop} {pins : List (Addr × Obj)} {s : Shared} {σ : L2.St} {H : Hp} {Q : VK} {newp : Pos} (hc : X.calm = true) (B : BlkOk X scope cl Nb cp) (hi : PI X tg iter wi) (hg : ∀ s₀ H₀ C ex pn, PG (Mi.blk X scope cl Nb s₀ H₀ C ex pn) tg g)
    (ht : ∀ s₀ H₀ C ex pn, ∀ (pins : List (Addr × Obj)) (s : Shared) (τ : L2.St) (H : Hp) (Q : Bool → Hp → Prop), Inv (Mi.blk X scope cl Nb s₀ H₀ C ex pn) pins τ H s → tt τ H Q →
      wpAny (model X.prog X.w) X.A (forIn ifs true fun c r => if r = true then do let ok ← isTrue c (compEnvC scope cl C X.env) (eval c (compEnvC scope cl C X.env)); pure (ForInStep.yield ok) else pure (ForInStep.yield r)) (TP (Mi.blk X scope cl Nb s₀ H₀ C ex pn) pins τ Q) (fun _ _ => False) s)
    (he : ∀ s₀ H₀ C ex pn, PE (Mi.blk X scope cl Nb s₀ H₀ C ex pn) elt te) (hs : ∀ x, foldedSetIterable iter X.env x = pure x)
    (I : Inv X pins σ H s) (h : tComp wi cp g tt te σ H Q) (hfin : AtEnd X pins σ use Q Q') :
    wpAny (model X.prog X.w) X.A (comprehension (.ListComp elt [⟨tg, iter, ifs, 0⟩] scope pos) scope X.env newp (newList []) false (eval iter X.env) use) Q' X.xe s := by
  refine wpAny_comprehension_free (use := use) rfl hs B.clos B.kind B.names (wpAny_mono (hi pins s σ H _ I h) (fun xv s₁ h₁ => wpAny_mono h₁ (fun itv s₂ h₂ => ?_) fun _ _ e => e) fun _ _ e => e)
  obtain ⟨it, fp, tn, J, H2, rfl, I2, T, st2, f2, W, ⟨m0, w0⟩, turn⟩ := h₂
  have hfs : ∀ b ∈ fp, b < s₂.heap.objs.size := fun b hb => by
    obtain ⟨o, e, _⟩ := T.obj _ _ st2 b hb
    exact Heap.lt_size e
  refine wpAny_newObj_type (wpAny_newFunctionEnv B.cell (by intro y hy; simp at hy) (fun h₁ hns₁ hsb₁ => ?_) B.kind)
  dsimp only at hns₁ hsb₁ ⊢
  generalize hH2 : s₂.heap.push { cls := .type "list", dict := none, data := .seq ([] : List Value).toArray } = G2 at hns₁ hsb₁ ⊢
  have hCz : G2.objs.size = s₂.heap.objs.size + 1 := by rw [← hH2, Heap.size_push]
  generalize hCC : G2.objs.size = C at hns₁ hsb₁ ⊢
  rw [hCC] at hCz
  have hCle : s₂.heap.objs.size ≤ C := by omega
  have hDC : s₂.heap.objs.size ≠ C := by omega
  have old : ∀ b o, s₂.heap.get? b = some o → h₁.get? b = some o := fun b o e => hsb₁.extBut b o (sz e hCle) (Heap.get?_push_of_some _ (hH2 ▸ Heap.get?_push_of_some _ e))
  have hacc : h₁.get? s₂.heap.objs.size = some { cls := .type "list", data := .seq ([] : List Value).toArray } := hsb₁.extBut _ _ hDC (Heap.get?_push_of_some _ (hH2 ▸ Heap.get?_push_size _ rfl))
  generalize hD : s₂.heap.objs.size = D at hacc hDC hCle hCz ⊢
  have hDle : s₂.heap.objs.size ≤ D := Nat.le_of_eq hD
  have hCle2 : s₂.heap.objs.size ≤ C := Nat.le_trans hDle hCle
  -- the block's context
  have I3 := Inv.blk (tk := s₂.toks + ([] : List (Str × Value)).length) B I2 f2 hfs (C := C) (Nat.le_trans (Nat.le_of_eq hD) hCle) hns₁ old
  have hDfp : D ∉ fp := fun z => Nat.lt_irrefl _ (Nat.lt_of_lt_of_le (hfs D z) hDle)
  have hCfp : C ∉ fp := fun z => Nat.lt_irrefl _ (Nat.lt_of_lt_of_le (hfs C z) hCle2)
  -- D in the block: not a frame's, not a cell's, not pinned
  have dcell : ∀ x c, cl.lookup x = some c → c ≠ D := fun x c e z => by
    obtain ⟨v, o, h3, _⟩ := I2.cell x c (B.sub x c e)
    exact sz h3 hDle z
  have dpin : ∀ p ∈ X.pn ++ pins, p.1 ≠ D := fun p hp z => sz (I2.pin p hp).1 hDle z
  have cpin : ∀ p ∈ X.pn ++ pins, p.1 ≠ C := fun p hp z => sz (I2.pin p hp).1 hCle2 z
  have dfs : D ∉ frs X.stack := fun z => by
    rcases List.mem_cons.mp (I2.stkSub _ z) with q | q
    · exact Nat.lt_irrefl _ (Nat.lt_of_lt_of_le (q ▸ I2.lt : D < s₂.heap.objs.size) hDle)
    · exact I2.nofs hDle q
  have fpst : ∀ {H' : Hp} {pl : List (Addr × Obj)}, (∀ b ∈ fp, H' b = none) → (∀ p ∈ pl, p.1 = D) → ∀ b ∈ fp, FpOk (Mi.blk X scope cl Nb s₂ H2 C fp (X.pn ++ pins)) pl H' b := fun {H' pl} hn hpl b hb =>
    ⟨hn b hb, fun (z : b = C) => hCfp (z ▸ hb), fun z => by
      rcases List.mem_cons.mp (I2.stkSub _ z) with q | q
      · exact (f2 b hb).2.1 q
      · exact (f2 b hb).2.2.1 q, .inl hb, fun x c e => (f2 b hb).2.2.2.2.1 x c (B.sub x c e), fun p hp z => by
      rcases List.mem_append.mp hp with q | q
      · exact (f2 b hb).2.2.2.2.2 p q z
      · rw [hpl p q] at z; exact hDfp (z ▸ hb)⟩
  have fp0 : ∀ {H' : Hp}, (∀ b ∈ fp, H' b = none) → ∀ b ∈ fp, FpOk X pins H' b := fun hn b hb => ⟨hn b hb, (f2 b hb).2⟩
  -- the end
  have fin : ∀ {τ : L2.St} {H' : Hp} {s' : Shared} {acc : List V} {its : List Value} {n : Nat} {mC : Str → Option Value}, Inv (Mi.blk X scope cl Nb s₂ H2 C fp (X.pn ++ pins)) [] τ H' s' → H' D = none → s'.heap.get? D = some { cls := .type "list", data := .seq its.toArray n } → Vals acc its → acc.length ≤ sizeLine → s'.heap.Ns C mC →
      (∀ D, H' D = none → Q (.ref D) (upd H' D (.lst acc))) → compPost (model X.prog X.w) X.A X.xe use Q' (.ref D) C (.ok .next) s' := by
    intro τ H' s' acc its n mC Ib hDH hDo r hz hns q
    have Ie : Inv X pins σ H' s' := I2.call' (ch := fp) (Ib.os) Ib.base Ib.hok Ib.bare fun b hb => ⟨(f2 b hb).2.2.2.1, (f2 b hb).2.1, (f2 b hb).2.2.2.2.1, (f2 b hb).2.2.2.2.2⟩
    have hsz : X.s₀.heap.objs.size ≤ s₂.heap.objs.size := I2.sz
    have It : Inv X pins σ (upd H' D (.lst acc)) s' := Inv.track Ie hDH (Nat.le_trans hsz hDle) (fun z => Nat.lt_irrefl _ (Nat.lt_of_lt_of_le (z ▸ I2.lt : D < s₂.heap.objs.size) hDle)) (fun x c e z => by
      obtain ⟨v, o, h3, _⟩ := I2.cell x c e
      exact sz h3 hDle z) dpin ⟨hz, its, n, r, hDo⟩
    exact hfin D C _ s' mC It hns (by rw [upd_ne (Ne.symm hDC)]; exact Ib.free) (fun z => Nat.lt_irrefl _ (Nat.lt_of_lt_of_le (z ▸ I2.lt : C < s₂.heap.objs.size) hCle2)) (Nat.le_trans hsz hCle2) (fun x c e z => by
      obtain ⟨v, o, h3, _⟩ := I2.cell x c e
      exact sz h3 hCle2 z) cpin (q D hDH)
  have loop : ∀ s₃ : Shared, s₃ = { s₂ with heap := h₁, toks := s₂.toks + ([] : List (Str × Value)).length } →
      codeAny (model X.prog X.w) X.A (.compLoop (.ListComp elt [⟨tg, iter, ifs, 0⟩] scope pos) 0 (.ref it) (.ref D) (compEnvC scope cl C X.env))
        (compPost (model X.prog X.w) X.A X.xe use Q' (.ref D) C) s₃ := by
    rintro s₃ rfl
    refine compLoop_go (fun n s' => ∃ i τ H' acc its k, Inv (Mi.blk X scope cl Nb s₂ H2 C fp (X.pn ++ pins)) [] τ H' s' ∧ tn i s'.heap ∧ (∀ b ∈ fp, H' b = none) ∧ H' D = none ∧ s'.heap.get? D = some { cls := .type "list", data := .seq (its : List Value).toArray k } ∧ Vals acc its ∧ acc.length ≤ sizeLine ∧ W i n acc τ H') ?_ m0
      ⟨0, capSt cp σ, H2, [], [], _, I3, T.keep _ _ _ st2 (fun b hb o e => old b o e), fun b hb => (f2 b hb).1, I2.hok.fresh hDle, hacc, .nil, Nat.zero_le _, w0⟩
    rintro n s3 ⟨i, τ, H3, acc, its, k, Ib, st3, fr3, hDH, hDo, r3, hz3, w3⟩
    have pinD : ∀ {τ' : L2.St} {H' : Hp} {s' : Shared}, Inv (Mi.blk X scope cl Nb s₂ H2 C fp (X.pn ++ pins)) [] τ' H' s' → H' D = none → s'.heap.get? D = some { cls := .type "list", data := .seq its.toArray k } →
        Inv (Mi.blk X scope cl Nb s₂ H2 C fp (X.pn ++ pins)) [(D, { cls := .type "list", data := .seq its.toArray k })] τ' H' s' := fun {τ' H' s'} I' hn ho => I'.pins_of fun p hp => by
      rw [List.mem_singleton] at hp; subst hp
      exact ⟨ho, hn, hDC, dfs, by intro v; simp⟩
    have IbD := pinD Ib hDH hDo
    have onlyD : ∀ p ∈ [(D, ({ cls := .type "list", data := .seq its.toArray k } : Obj))], p.1 = D := fun p hp => by rw [List.mem_singleton] at hp; subst hp; rfl
    have ofD : ∀ {τ' : L2.St} {H' : Hp} {s' : Shared}, Inv (Mi.blk X scope cl Nb s₂ H2 C fp (X.pn ++ pins)) [(D, { cls := .type "list", data := .seq its.toArray k })] τ' H' s' → s'.heap.get? D = some { cls := .type "list", data := .seq its.toArray k } ∧ H' D = none := fun I' => by
      obtain ⟨a, b, _⟩ := I'.pin (D, _) (List.mem_append_right _ (List.mem_singleton.mpr rfl))
      exact ⟨a, b⟩
    rcases turn i n acc τ H3 w3 with ⟨stop, qn⟩ | ⟨go, step⟩
    · refine wpAny_mono (T.done (Mi.blk X scope cl Nb s₂ H2 C fp (X.pn ++ pins)) rfl rfl rfl hc i _ s3 τ H3 (fun _ _ => False) IbD (fpst fr3 onlyD) st3 stop) (fun r s4 ⟨hr, I4⟩ => ?_) fun _ _ z => z.elim
      subst hr
      obtain ⟨o4, n4⟩ := ofD I4
      obtain ⟨m4, ns4, _⟩ := I4.loc
      have I4' : Inv (Mi.blk X scope cl Nb s₂ H2 C fp (X.pn ++ pins)) [] τ H3 s4 := I4.pins_of fun p hp => by cases hp
      exact fin I4' n4 o4 r3 hz3 ns4 qn
    · refine wpAny_mono (T.item (Mi.blk X scope cl Nb s₂ H2 C fp (X.pn ++ pins)) rfl rfl rfl hc i _ s3 τ H3 (fun _ _ => False) IbD (fpst fr3 onlyD) st3 go) (fun r s4 ⟨u, hr, h4⟩ => ?_) fun _ _ z => z.elim
      subst hr
      refine wpAny_mono h4 (fun _ s5 ⟨x, H5, I5, r5, y5, st5, fr5⟩ => ?_) fun _ _ z => z.elim
      have I5' := I5.pinned (fpst fr5 onlyD) (T.obj _ _ st5)
      refine wpAny_mono (hg s₂ H2 C fp (X.pn ++ pins) _ s5 τ H5 x u _ I5' r5 (step x H5 y5)) (fun _ s6 ⟨τ6, H6, I6, q6⟩ => ?_) fun _ _ z => z.elim
      refine wpAny_mono (ht s₂ H2 C fp (X.pn ++ pins) _ s6 τ6 H6 _ I6 q6) (fun ok s7 ⟨H7, I7, q7⟩ => ?_) fun _ _ z => z.elim
      have keepT : ∀ {τ' : L2.St} {H' : Hp} {s' : Shared}, Inv (Mi.blk X scope cl Nb s₂ H2 C fp (X.pn ++ pins)) ([(D, { cls := .type "list", data := .seq its.toArray k })] ++ pinsAt fp s5.heap) τ' H' s' → tn (i + 1) s'.heap ∧ (∀ b ∈ fp, H' b = none) ∧ s'.heap.get? D = some { cls := .type "list", data := .seq its.toArray k } ∧ H' D = none := fun {τ' H' s'} I' => by
        refine ⟨T.keep _ _ _ st5 fun b hb o e => (I'.pin (b, o) (List.mem_append_right _ (List.mem_append_right _ (mem_pinsAt hb e)))).1, fun b hb => ?_, ?_⟩
        · obtain ⟨o, e, d⟩ := T.obj _ _ st5 b hb
          exact (I'.pin (b, o) (List.mem_append_right _ (List.mem_append_right _ (mem_pinsAt hb e)))).2.1
        · obtain ⟨a, b, _⟩ := I'.pin (D, { cls := .type "list", data := .seq its.toArray k }) (List.mem_append_right _ (List.mem_append_left _ (List.mem_singleton.mpr rfl)))
          exact ⟨a, b⟩
      cases ok with
      | false =>
        rw [if_neg Bool.false_ne_true] at q7 ⊢
        obtain ⟨m', hm, w7⟩ := q7
        obtain ⟨t7, f7, o7, n7⟩ := keepT I7
        exact ⟨m', hm, i + 1, τ6, H7, acc, its, k, I7.pins_of (fun p hp => by cases hp), t7, f7, n7, o7, r3, hz3, w7⟩
      | true =>
        rw [if_pos rfl] at q7 ⊢
        refine wpAny_mono (he s₂ H2 C fp (X.pn ++ pins) _ s7 τ6 H7 _ I7 q7) (fun y s8 ⟨v8, H8, I8, r8, hlt, m', hm, w8⟩ => ?_) fun _ _ z => z.elim
        obtain ⟨t8, f8, o8, n8⟩ := keepT I8
        have hlen := r3.length
        refine call_meets F.slot_list_append ⟨_, o8, rfl⟩ F.entry_list_append (F.args_list_append_2 _ _) (PySem.list_append D its.toArray k y (by rw [List.size_toArray]; omega)) ⟨o8, ?_⟩
        have q := PySem.IsL.update o8 (·.push y)
        have hf : its.toArray.push y = (its ++ [y]).toArray := by simp
        rw [hf] at q
        have I8' : Inv (Mi.blk X scope cl Nb s₂ H2 C fp (X.pn ++ pins)) [] τ6 H8 s8 := I8.pins_of fun p hp => by cases hp
        have I9 : Inv (Mi.blk X scope cl Nb s₂ H2 C fp (X.pn ++ pins)) [] τ6 H8 { s8 with heap := s8.heap.update D (Obj.mapSeq (·.push y)), toks := s8.toks } :=
          I8'.turned (it := D) (fun b o hb e => (Heap.get?_update_other s8.heap (Obj.mapSeq (·.push y)) (Ne.symm hb)).trans e) n8 hDC (.inr hDle) (fun x c e => dcell x c e) fun p hp => by
            rw [List.append_nil] at hp; exact dpin p hp
        refine ⟨m', hm, i + 1, τ6, H8, acc ++ [v8], its ++ [y], _, I9, T.keep _ _ _ t8 (fun b hb o e => (Heap.get?_update_other s8.heap (Obj.mapSeq (·.push y)) (fun (z : D = b) => hDfp (z ▸ hb))).trans e), f8, n8, q, r3.append (.cons r8 .nil), by rw [List.length_append, List.length_singleton]; omega, w8⟩
  exact codeAny_compStart_list (loop _ rfl) (T.self _ 0 _ _ _ (T.keep _ _ _ st2 (fun b hb o e => old b o e)) (loop _ rfl))
theorem pe_comp (hc : X.calm = true) (B : BlkOk X scope cl Nb cp) (hi : PI X tg iter wi) (hg : ∀ s₀ H₀ C ex pn, PG (Mi.blk X scope cl Nb s₀ H₀ C ex pn) tg g)
    (ht : ∀ s₀ H₀ C ex pn, ∀ (pins : List (Addr × Obj)) (s : Shared) (τ : L2.St) (H : Hp) (Q : Bool → Hp → Prop), Inv (Mi.blk X scope cl Nb s₀ H₀ C ex pn) pins τ H s → tt τ H Q →
      wpAny (model X.prog X.w) X.A (forIn ifs true fun c r => if r = true then do let ok ← isTrue c (compEnvC scope cl C X.env) (eval c (compEnvC scope cl C X.env)); pure (ForInStep.yield ok) else pure (ForInStep.yield r)) (TP (Mi.blk X scope cl Nb s₀ H₀ C ex pn) pins τ Q) (fun _ _ => False) s)
    (he : ∀ s₀ H₀ C ex pn, PE (Mi.blk X scope cl Nb s₀ H₀ C ex pn) elt te) (hs : ∀ x, foldedSetIterable iter X.env x = pure x := by intro _; rfl) :
    PE X (.ListComp elt [⟨tg, iter, ifs, 0⟩] scope pos) (tComp wi cp g tt te) := by
  intro pins s σ H Q I h
  rw [eval_ListComp]
  refine comp_gen hc B hi hg ht he hs I h fun D C H' s' m I' hns hn hL h0 hcell hp q => ⟨m, hns, fun h'' sb => ?_⟩
  exact ⟨.ref D, H', I'.turned (t' := s'.toks) (it := C) (fun b o hb e => sb.extBut b o hb e) hn hL (.inr h0) hcell hp, rfl, q⟩
theorem ps_setC {i : Nat} {x : Str} {pos' spos : Pos} (hN : X.N.Nodup) (hix : X.N[i]? = some x) (hx : Loc X.env.scope x) (hf : X.fn x = true ∨ X.env.scope.names.lookup x = some .local) (hsw : swapsWith (.ListComp elt [⟨tg, iter, ifs, 0⟩] scope pos) (some (.Name x pos')) spos.line X.env = pure true)
    (hc : X.calm = true) (B : BlkOk X scope cl Nb cp) (hi : PI X tg iter wi) (hg : ∀ s₀ H₀ C ex pn, PG (Mi.blk X scope cl Nb s₀ H₀ C ex pn) tg g)
    (ht : ∀ s₀ H₀ C ex pn, ∀ (pins : List (Addr × Obj)) (s : Shared) (τ : L2.St) (H : Hp) (Q : Bool → Hp → Prop), Inv (Mi.blk X scope cl Nb s₀ H₀ C ex pn) pins τ H s → tt τ H Q →
      wpAny (model X.prog X.w) X.A (forIn ifs true fun c r => if r = true then do let ok ← isTrue c (compEnvC scope cl C X.env) (eval c (compEnvC scope cl C X.env)); pure (ForInStep.yield ok) else pure (ForInStep.yield r)) (TP (Mi.blk X scope cl Nb s₀ H₀ C ex pn) pins τ Q) (fun _ _ => False) s)
    (he : ∀ s₀ H₀ C ex pn, PE (Mi.blk X scope cl Nb s₀ H₀ C ex pn) elt te) (hs : ∀ x, foldedSetIterable iter X.env x = pure x := by intro _; rfl) :
    PS X (.Assign [.Name x pos'] (.ListComp elt [⟨tg, iter, ifs, 0⟩] scope pos) spos) (tAsg (tComp wi cp g tt te) (gName i)) := by
  intro pins s σ H D I h
  rw [exec_Assign_Name_used _ _ _ _ hsw]
  refine wpAny_bind (wpAny_standAt (wpAny_bind ?_))
  show wpAny _ X.A (do let _ ← comprehension (.ListComp elt [⟨tg, iter, ifs, 0⟩] scope pos) scope X.env _ (newList []) false (eval iter X.env) (some (assign (.Name x pos') X.env))) _ _ s
  refine wpAny_bind (wpAny_mono (comp_gen (use := some (assign (.Name x pos') X.env)) (Q' := fun _ s' => SP X pins D .next s') hc B hi hg ht he hs I h fun D' C H' s' m I' hns hn hL h0 hcell hp q => ?_) (fun _ s' hq => wpAny_pure (wpAny_pure hq)) fun _ _ e => e)
  show wpAny _ X.A (assign (.Name x pos') X.env (.ref D')) _ _ s'
  refine wpAny_assign_Name (store_ok2 (v := .ref D') I' hN hix hx rfl (fun s5 I5 ⟨a, sb, ha⟩ => ?_) hf)
  have hne : C ≠ a := fun z => by
    rcases ha with ha | ha
    · exact hL (z.trans ha)
    · exact hcell x a ha z.symm
  exact ⟨m, hns.sameBut sb hne, fun h'' sb2 => ⟨_, H', I5.turned (t' := s5.toks) (it := C) (fun b o hb e => sb2.extBut b o hb e) hn hL (.inr h0) hcell hp, q⟩⟩
end
end Mi

namespace Mi
open PySem PySem.Spec PyProof.Rows L2

noncomputable def IterR (X : Cx) (tg : Expr) (r : V → Hp → (It → Hp → Prop) → Prop) : Prop :=
  ∀ (pins : List (Addr × Obj)) (s : Shared) (σ : L2.St) (H : Hp) (x : V) (v : Value) (C : It → Hp → Prop), Inv X pins σ H s → RelV x v → r x H C → wpAny (model X.prog X.w) X.A (pyIter v) (PIE X pins σ tg C) X.xe s
section
variable {X : Cx} {tg : Expr}
theorem IterR.or {r r' : V → Hp → (It → Hp → Prop) → Prop} (h : IterR X tg r) (h' : IterR X tg r') : IterR X tg (fun x H C => r x H C ∨ r' x H C) := fun pins s σ H x v C I rx q => by
  rcases q with q | q
  · exact h pins s σ H x v C I rx q
  · exact h' pins s σ H x v C I rx q
theorem it_list : IterR X tg (fun x H C => ∃ a, x = .ref a ∧ (∃ xs, SqL X.K H a xs) ∧ C (Itl X.K a) H) := by
  intro pins s1 σ H1 x v C I1 r1 q1
  obtain ⟨a, e, ⟨xs, hq⟩, q⟩ := q1
  subst e
  cases r1
  obtain ⟨its, rv, p, hz⟩ := I1.list hq
  refine wpAny_pyIter_list p.isList ?_
  refine ⟨s1.heap.objs.size, [s1.heap.objs.size], _, _, H1, rfl, I1.kept (t' := s1.toks) fun b o e => Heap.get?_push_of_some _ e, turn_list a _, ⟨_, Heap.get?_push_size _ rfl, rfl, rfl⟩, fun b hb => ?_, q⟩
  have e : b = s1.heap.objs.size := by simpa using hb
  subst e
  exact I1.fpOk (Nat.le_refl _) (I1.hok.fresh (Nat.le_refl _))
theorem it_tup : IterR X tg (fun x H C => ∃ a, x = .ref a ∧ (∃ xs, SqT X.K H a xs) ∧ C (Itt X.K a) H) := by
  intro pins s1 σ H1 x v C I1 r1 q1
  obtain ⟨a, e, ⟨xs, hq⟩, q⟩ := q1
  subst e
  cases r1
  obtain ⟨its, rv, p, hz⟩ := I1.tuple hq
  refine wpAny_pyIter_tuple (show s1.heap.IsTuple a its.toArray from p) ?_
  refine ⟨s1.heap.objs.size, [s1.heap.objs.size], _, _, H1, rfl, I1.kept (t' := s1.toks) fun b o e => Heap.get?_push_of_some _ e, turn_tuple a _, ⟨_, Heap.get?_push_size _ rfl, rfl, rfl⟩, fun b hb => ?_, q⟩
  have e : b = s1.heap.objs.size := by simpa using hb
  subst e
  exact I1.fpOk (Nat.le_refl _) (I1.hok.fresh (Nat.le_refl _))
noncomputable def Its (x : Str) : It := ⟨fun i _ => i < x.cps.size, fun i H v H' => H' = H ∧ ∃ c, x.cps[i]? = some c ∧ v = .str ⟨#[c]⟩, fun i _ => x.cps.size ≤ i⟩
noncomputable def signsW (x : Str) : List W := x.cps.toList.map fun c => .str ⟨#[c]⟩
theorem turn_str {P : Program} {w : World} {K : PySem.W.Frag} {tg : Expr} (it : Addr) (x : Str) (ty : String) (t : Tok) (hty : ty = "str_ascii_iterator" ∨ ty = "str_iterator") :
    Turn P w K tg (Its x) [it] it (fun i h => i ≤ x.cps.size ∧ h.IsStrIter it ty x t i) where
  mem := by simp
  obj := fun i h st b hb => by
    have e : b = it := by simpa using hb
    subst e
    obtain ⟨_, o, e, c, d⟩ := st
    exact ⟨o, e, fun v z => by rw [d] at z; cases z⟩
  keep := fun i h h' st k => ⟨st.1, let ⟨o, ho, r⟩ := st.2; ⟨o, k it (by simp) o ho, r⟩⟩
  item := by
    intro X hP hw hK hc i pins s σ H E I hf st hg
    subst hP hw hK
    obtain ⟨hi, st⟩ := st
    obtain ⟨f0, f1, f2, f3, f4, f5⟩ := hf it (by simp)
    have hg' : i < x.cps.size := hg
    have hx : x.cps[i]? = some (x.cps[i]'hg') := Array.getElem?_eq_getElem hg'
    have fin : ∀ h' : Heap, h'.IsStrIter it ty x t (i + 1) → Heap.SameBut it s.heap h' → ∃ u, some (Value.str ⟨#[x.cps[i]'hg']⟩ s.toks) = some u ∧ wpAny (model X.prog X.w) X.A (letOwnedTupleGo tg (.ref it) u) (fun _ s2 => ∃ y H', Inv X pins σ H' s2 ∧ RelV y u ∧ (Its x).yld i H y H' ∧ (i + 1 ≤ x.cps.size ∧ s2.heap.IsStrIter it ty x t (i + 1)) ∧ ∀ b ∈ [it], H' b = none) E { s with heap := h', toks := s.toks + 1 } := fun h' st' sb => by
      have I1 : Inv X pins σ H { s with heap := h', toks := s.toks + 1 } := I.turned (fun b o hb e => (sb.2 b hb).trans e) f0 f1 f3 f4 f5
      obtain ⟨o, e, c, d⟩ := id st'
      refine ⟨_, rfl, go_of (s := { s with heap := h', toks := s.toks + 1 }) e c d (by rcases hty with z | z <;> rw [z] <;> decide) ⟨.str ⟨#[x.cps[i]'hg']⟩, H, I1, ⟨_, rfl⟩, ⟨rfl, _, hx, rfl⟩, ⟨hg, st'⟩, fun b hb => (hf b hb).1⟩⟩
    rcases hty with z | z
    · subst z
      exact wpAny_pyNext_ascii_item st hx fin
    · subst z
      exact wpAny_pyNext_wide_item st hx fin
  done := by
    intro X hP hw hK hc i pins s σ H E I hf st hg
    subst hP hw hK
    obtain ⟨hi, st⟩ := st
    obtain ⟨f0, f1, f2, f3, f4, f5⟩ := hf it (by simp)
    have hx : x.cps[i]? = none := by have : x.cps.size ≤ i := hg; simp; omega
    rcases hty with z | z
    · subst z
      exact wpAny_pyNext_ascii_end (I.ok.hd hc) st hx fun h' eb => ⟨rfl, I.turned (t' := s.toks) (fun b o hb e => eb b o hb e) f0 f1 f3 f4 f5⟩
    · subst z
      exact wpAny_pyNext_wide_end (I.ok.hd hc) st hx fun h' eb => ⟨rfl, I.turned (t' := s.toks) (fun b o hb e => eb b o hb e) f0 f1 f3 f4 f5⟩
  self := fun _ _ _ _ _ st h => by
    rcases hty with z | z
    · subst z; exact wpAny_pyIter_striter_ascii st.2 h
    · subst z; exact wpAny_pyIter_striter_wide st.2 h
theorem it_str : IterR X tg (fun x H C => ∃ y, x = .str y ∧ C (Its y) H) := by
  intro pins s1 σ H1 x v C I1 r1 q1
  obtain ⟨y, rfl, q⟩ := q1
  obtain ⟨t, rfl⟩ := r1
  have fin : ∀ ty, (ty = "str_ascii_iterator" ∨ ty = "str_iterator") → PIE X pins σ tg C (.ref s1.heap.objs.size) { s1 with heap := s1.heap.push { cls := .type ty, data := .fields #[.str y t, .int 0 0] } } := fun ty hty => by
    refine ⟨s1.heap.objs.size, [s1.heap.objs.size], _, _, H1, rfl, I1.kept (t' := s1.toks) fun b o e => Heap.get?_push_of_some _ e, turn_str _ y ty t hty, ⟨Nat.zero_le _, _, Heap.get?_push_size _ rfl, rfl, rfl⟩, fun b hb => ?_, q⟩
    have e : b = s1.heap.objs.size := by simpa using hb
    subst e
    exact I1.fpOk (Nat.le_refl _) (I1.hok.fresh (Nat.le_refl _))
  cases ha : y.cps.all (· < 128)
  · exact wpAny_pyIter_wide ha (fin _ (.inr rfl))
  · exact wpAny_pyIter_ascii ha (fin _ (.inl rfl))
end
noncomputable def itemsW (h : MH) : W → Option (List W × Option Nat)
  | .tup ws => some (ws, none)
  | .lst ws => some (ws, none)
  | .frz ws => some (ws, none)
  | .str x => some (signsW x, none)
  | .ref n => match h[n]? with | some (.lst ws) => some (ws, some n) | _ => none
  | _ => none
noncomputable def miVal (m : ME) : MI := fun σ h => (m σ h).bind fun p => (itemsW p.2 p.1).map fun q => (q.1, q.2, p.2)
section
variable {K : PySem.W.Frag} {R : Rn}
theorem itok_list {a : Addr} {xs : List V} {ws : List W} (hq : SqL K R.F a xs) (r : Rws K R ws xs) : ItOk K R (Itl K a) ws none where
  go := fun i w R' h H x rh _ e => by
    obtain ⟨v, h1, _⟩ := r.get e
    exact ⟨xs, v, sqL_mono (fun b o z => rh.sub b o (x.f b o z)) hq, h1⟩
  yld := fun i w R' h H x H' e rh _ ew hy => by
    obtain ⟨rfl, hx⟩ := hy
    obtain ⟨v, h1, h2⟩ := r.get ew
    have := hx xs (sqL_mono (fun b o z => rh.sub b o (e.f b o z)) hq)
    rw [h1] at this; cases this
    exact ⟨R', Ext.refl _, rh, Rw.mono e _ _ h2⟩
  stop := fun i R' h H x rh _ hl => ⟨xs, sqL_mono (fun b o z => rh.sub b o (x.f b o z)) hq, by rw [← r.length]; exact hl⟩
theorem itok_tup {a : Addr} {xs : List V} {ws : List W} (hq : SqT K R.F a xs) (r : Rws K R ws xs) : ItOk K R (Itt K a) ws none where
  go := fun i w R' h H x rh _ e => by
    obtain ⟨v, h1, _⟩ := r.get e
    exact ⟨xs, v, sqT_mono (fun b o z => rh.sub b o (x.f b o z)) hq, h1⟩
  yld := fun i w R' h H x H' e rh _ ew hy => by
    obtain ⟨rfl, hx⟩ := hy
    obtain ⟨v, h1, h2⟩ := r.get ew
    have := hx xs (sqT_mono (fun b o z => rh.sub b o (e.f b o z)) hq)
    rw [h1] at this; cases this
    exact ⟨R', Ext.refl _, rh, Rw.mono e _ _ h2⟩
  stop := fun i R' h H x rh _ hl => ⟨xs, sqT_mono (fun b o z => rh.sub b o (x.f b o z)) hq, by rw [← r.length]; exact hl⟩
theorem itok_ref {n : Nat} {ws : List W} (hn : n < R.N) : ItOk K R (Itl K (R.ρ n)) ws (some n) where
  go := fun i w R' h H x rh hl e => by
    obtain ⟨xs, h1, h2⟩ := rh.obj n _ (hl n rfl)
    obtain ⟨v, h3, _⟩ := h2.get e
    rw [x.ρ n hn] at h1
    exact ⟨xs, v, SqL.of h1, h3⟩
  yld := fun i w R' h H x H' e rh hl ew hy => by
    obtain ⟨rfl, hx⟩ := hy
    obtain ⟨xs, h1, h2⟩ := rh.obj n _ (hl n rfl)
    obtain ⟨v, h3, h4⟩ := h2.get ew
    rw [e.ρ n hn] at h1
    have := hx xs (SqL.of h1)
    rw [h3] at this; cases this
    exact ⟨R', Ext.refl _, rh, h4⟩
  stop := fun i R' h H x rh hl hle => by
    obtain ⟨xs, h1, h2⟩ := rh.obj n _ (hl n rfl)
    rw [x.ρ n hn] at h1
    exact ⟨xs, SqL.of h1, by rw [← h2.length]; exact hle⟩
theorem itok_str {x : Str} : ItOk K R (Its x) (signsW x) none where
  go := fun i w R' h H _ _ _ e => by
    have := (List.getElem?_eq_some_iff.mp e).1
    show i < x.cps.size
    simpa [signsW] using this
  yld := fun i w R' h H v H' e rh _ ew hy => by
    obtain ⟨rfl, c, hc, rfl⟩ := hy
    unfold signsW at ew
    rw [List.getElem?_map, Array.getElem?_toList, hc] at ew
    cases ew
    exact ⟨R', Ext.refl _, rh, Rw.str _⟩
  stop := fun i R' h H _ _ _ hl => by
    show x.cps.size ≤ i
    simpa [signsW] using hl
theorem itok_range {lo : Int} {n : Nat} : ItOk K R (Itr lo n) ((List.range n).map fun (i : Nat) => W.int (lo + (i : Int))) none where
  go := fun i w R' h H _ _ _ e => by
    have := (List.getElem?_eq_some_iff.mp e).1
    show i < n
    simpa using this
  yld := fun i w R' h H v H' e rh _ ew hy => by
    obtain ⟨rfl, rfl⟩ := hy
    rw [List.getElem?_map] at ew
    obtain ⟨j, hj, e2⟩ := Option.map_eq_some_iff.mp ew
    rw [List.getElem?_range (by have := (List.getElem?_eq_some_iff.mp hj).1; simpa using this)] at hj
    cases hj
    cases e2
    exact ⟨R', Ext.refl _, rh, Rw.int _⟩
  stop := fun i R' h H _ _ _ hl => by
    show n ≤ i
    simpa using hl
end
section
variable {X : Cx} {tg a b c : Expr} {ma : ME} {ms : MA} {pos p : Pos}
theorem pmi_val (ha : PM X a ma) : PMI X tg a (miVal ma) := by
  intro pins s σ H C I q
  obtain ⟨R, σi, h, items, src, h', rh, st, e, k⟩ := q
  obtain ⟨⟨w, h1⟩, e1, e2⟩ := Option.bind_eq_some_iff.mp e
  obtain ⟨⟨its, sr⟩, e3, e4⟩ := Option.map_eq_some_iff.mp e2
  cases e4
  refine thn (ha pins s σ H _ I ⟨R, σi, h, w, h1, rh, st, e1, fun R1 H1 v x1 rh1 rv => ?_⟩) fun v s1 ⟨x, H1, I1, r1, q1⟩ => ((it_list.or it_tup).or it_str) pins s1 σ H1 x v C I1 r1 q1
  cases w with
  | tup ws =>
    cases e3
    obtain ⟨ad, xs, rfl, h2, h3⟩ := rh1.tupAt rv
    unfold Rw at rv
    obtain ⟨ad', xs', e5, e6, e7⟩ := rv
    cases e5
    exact .inl (.inr ⟨_, rfl, ⟨xs, h2⟩, k R1 H1 _ x1 rh1 (itok_tup e6 e7)⟩)
  | lst ws =>
    cases e3
    unfold Rw at rv
    obtain ⟨ad', xs', rfl, e6, e7⟩ := rv
    exact .inl (.inl ⟨_, rfl, ⟨xs', SqL.of (rh1.sub _ _ e6)⟩, k R1 H1 _ x1 rh1 (itok_list (SqL.of e6) e7)⟩)
  | frz ws =>
    cases e3
    unfold Rw at rv
    obtain ⟨ad', xs', rfl, e6, e7⟩ := rv
    exact .inl (.inl ⟨_, rfl, ⟨xs', sqL_mono rh1.sub e6⟩, k R1 H1 _ x1 rh1 (itok_list e6 e7)⟩)
  | str y =>
    cases e3
    rw [rv.str_eq]
    exact .inr ⟨y, rfl, k R1 H1 _ x1 rh1 itok_str⟩
  | ref n =>
    simp only [itemsW] at e3
    split at e3
    · rename_i ws hn
      cases e3
      obtain ⟨hlt, rfl, xs, h2, h3⟩ := rh1.refAt rv hn
      exact .inl (.inl ⟨_, rfl, ⟨xs, SqL.of h2⟩, k R1 H1 _ x1 rh1 (itok_ref hlt)⟩)
    · cases e3
  | _ => cases e3
noncomputable def rangeW (lo : Int) (n : Nat) : List W := (List.range n).map fun (i : Nat) => W.int (lo + (i : Int))
noncomputable def miR1 (ms : MA) : MI := fun σ h => (ms σ h).bind fun p => match p.1 with
  | [.int j] => if -(2 ^ 62) ≤ j ∧ j < 2 ^ 62 then some (rangeW 0 j.toNat, none, p.2) else none
  | _ => none
noncomputable def miR2 (ms : MA) : MI := fun σ h => (ms σ h).bind fun p => match p.1 with
  | [.int i, .int j] => if -(2 ^ 62) ≤ i ∧ i < 2 ^ 62 ∧ -(2 ^ 62) ≤ j ∧ j < 2 ^ 62 then some (rangeW i (j - i).toNat, none, p.2) else none
  | _ => none
theorem pmi_r1 (hg : Gl X "range") (hm : X.mg "range" = none) (ha : PMA X [a] ms) (hs : starEach [a] X.env = [(false, eval a X.env)] := by rfl) : PMI X tg (.Call (.Name "range" p) [a] [] pos) (miR1 ms) :=
  pi_imp (pi_range1 hg hm ha hs) fun σ H C ⟨R, σi, h, items, src, h', rh, st, e, k⟩ => by
    obtain ⟨⟨ws, h1⟩, e1, e2⟩ := Option.bind_eq_some_iff.mp e
    refine ⟨R, σi, h, ws, h1, rh, st, e1, fun R1 H1 vs x1 rh1 rv => ?_⟩
    split at e2
    · rename_i j hj
      simp only at hj
      subst hj
      split at e2
      · rename_i hb
        cases e2
        rw [Rws.cons_iff] at rv
        obtain ⟨v, vs', rfl, r1, r2⟩ := rv
        rw [Rws.nil_iff] at r2
        subst r2
        rw [r1.int_eq]
        exact ⟨j, rfl, hb.1, hb.2, k R1 H1 _ x1 rh1 itok_range⟩
      · cases e2
    · cases e2
theorem pmi_r2 (hg : Gl X "range") (hm : X.mg "range" = none) (ha : PMA X [a, b] ms) (hs : starEach [a, b] X.env = [(false, eval a X.env), (false, eval b X.env)] := by rfl) (hs2 : starEach [b] X.env = [(false, eval b X.env)] := by rfl) : PMI X tg (.Call (.Name "range" p) [a, b] [] pos) (miR2 ms) :=
  pi_imp (pi_range2 hg hm ha hs hs2) fun σ H C ⟨R, σi, h, items, src, h', rh, st, e, k⟩ => by
    obtain ⟨⟨ws, h1⟩, e1, e2⟩ := Option.bind_eq_some_iff.mp e
    refine ⟨R, σi, h, ws, h1, rh, st, e1, fun R1 H1 vs x1 rh1 rv => ?_⟩
    split at e2
    · rename_i i j hj
      simp only at hj
      subst hj
      split at e2
      · rename_i hb
        cases e2
        rw [Rws.cons_iff] at rv
        obtain ⟨v, vs', rfl, r1, r2⟩ := rv
        rw [Rws.cons_iff] at r2
        obtain ⟨v2, vs2, rfl, r3, r4⟩ := r2
        rw [Rws.nil_iff] at r4
        subst r4
        rw [r1.int_eq, r3.int_eq]
        exact ⟨i, j, rfl, hb, k R1 H1 _ x1 rh1 itok_range⟩
      · cases e2
    · cases e2
end
noncomputable def capM (cp : List (Option Nat)) (σ : MSt) : MSt := cp.map fun o => match o with | none => none | some j => match σ[j]? with | some v => v | none => none
theorem Rst.cap {K : PySem.W.Frag} {R : Rn} {σi : MSt} {σ : L2.St} (s : Rst K R σi σ) (cp : List (Option Nat)) : Rst K R (capM cp σi) (capSt cp σ) := by
  unfold capM capSt
  refine ⟨by simp, fun i w e => ?_⟩
  rw [List.getElem?_map] at e ⊢
  obtain ⟨o, h1, h2⟩ := Option.map_eq_some_iff.mp e
  rw [h1]
  cases o with
  | none => cases h2
  | some j =>
    simp only at h2
    split at h2
    · rename_i u hu
      subst h2
      obtain ⟨v, h3, h4⟩ := s.2 j w hu
      exact ⟨v, by simp [h3], h4⟩
    · cases h2
open Classical in
noncomputable def mCompL (fin : List W → MH → Option (W × MH)) (items : List W) (src : Option Nat) (b : MG) (mt : MT) (me : ME) : List W → List W → MSt → MH → Option (W × MH)
  | [], acc, _, h => if live src items h then fin acc h else none
  | w :: r, acc, τ, h => if live src items h then (b w τ h).bind fun τ1 => (mt τ1 h).bind fun q => match q.1 with
      | true => (me τ1 q.2).bind fun v => if acc.length < sizeLine then mCompL fin items src b mt me r (acc ++ [v.1]) τ1 v.2 else none
      | false => mCompL fin items src b mt me r acc τ1 q.2
    else none
noncomputable def mComp (fin : List W → MH → Option (W × MH)) (mi : MI) (cp : List (Option Nat)) (b : MG) (mt : MT) (me : ME) : ME := fun σ h => (mi σ h).bind fun p => mCompL fin p.1 p.2.1 b mt me p.1 [] (capM cp σ) p.2.2
noncomputable def mYes : MT := fun _ h => some (true, h)
noncomputable def fLst (acc : List W) (h : MH) : Option (W × MH) := some (.lst acc, h)
noncomputable def fNew (acc : List W) (h : MH) : Option (W × MH) := some (.ref h.length, h ++ [.lst acc])
noncomputable def FinOk (K : PySem.W.Frag) (fin : List W → MH → Option (W × MH)) : Prop := ∀ R h H acc accV w h' D, Rh K R h H → Rws K R acc accV → fin acc h = some (w, h') → H D = none → ∃ R', Ext R R' ∧ Rh K R' h' (upd H D (.lst accV)) ∧ Rw K R' w (.ref D)
theorem fin_lst {K : PySem.W.Frag} : FinOk K fLst := fun R h H acc accV w h' D rh r e hD => by
  cases e
  exact rh.lstI hD r
theorem fin_new {K : PySem.W.Frag} : FinOk K fNew := fun R h H acc accV w h' D rh r e hD => by
  cases e
  exact rh.new hD fun R' x' => ⟨accV, rfl, Rws.mono x' _ _ r⟩
section
variable {X : Cx} {elt tg iter c : Expr} {scope : Scope} {pos : Pos} {cl : List (Str × Addr)} {Nb : List Str} {cp : List (Option Nat)} {mi : MI} {b : MG} {mt : MT} {me : ME} {fin : List W → MH → Option (W × MH)}
theorem comp_of {K : PySem.W.Frag} (hf : FinOk K fin) {σ : L2.St} {H : Hp} {Q : VK} (q : tI K (mComp fin mi cp b mt me) σ H Q) : tComp (tII K mi) cp (tIG K b) (tIT K mt) (tI K me) σ H Q := by
  obtain ⟨R, σi, h, w, h', rh, s, e, k⟩ := q
  obtain ⟨⟨items, src, h1⟩, e1, e2⟩ := Option.bind_eq_some_iff.mp e
  refine ⟨R, σi, h, items, src, h1, rh, s, e1, fun R1 H1 J x1 rh1 it => ?_⟩
  refine ⟨fun i n acc τ H => i + n = items.length ∧ ∃ R2 σ2 h2 accW, Ext R1 R2 ∧ Rh K R2 h2 H ∧ Rst K R2 σ2 τ ∧ Rws K R2 accW acc ∧ mCompL fin items src b mt me (items.drop i) accW σ2 h2 = some (w, h') ∧ After K R2 w h' Q, ⟨items.length, by simp, R1, capM cp σi, h1, [], Ext.refl _, rh1, (s.mono x1).cap cp, Rws.nil, by simpa using e2, k.ext x1⟩, ?_⟩
  rintro i n acc τ H2 ⟨hin, R2, σ2, h2, accW, x2, rh2, s2, ra, e3, k2⟩
  by_cases hi : i < items.length
  · obtain ⟨y, hy⟩ : ∃ y, items[i]? = some y := ⟨items[i], List.getElem?_eq_getElem hi⟩
    have hd : items.drop i = y :: items.drop (i + 1) := by
      rw [List.drop_eq_getElem_cons hi]
      rw [List.getElem?_eq_getElem hi] at hy
      cases hy; rfl
    rw [hd] at e3
    unfold mCompL at e3
    split at e3
    · rename_i hl
      obtain ⟨σ3, e4, e5⟩ := Option.bind_eq_some_iff.mp e3
      obtain ⟨⟨t, h3⟩, e6, e7⟩ := Option.bind_eq_some_iff.mp e5
      refine .inr ⟨it.go i y R2 h2 H2 x2 rh2 hl hy, fun x H' hyl => ?_⟩
      obtain ⟨R3, x3, rh3, rw3⟩ := it.yld i y R2 h2 H2 x H' x2 rh2 hl hy hyl
      refine ⟨R3, σ2, h2, y, σ3, rh3, s2.mono x3, rw3, e4, fun R4 H4 τ4 x4 rh4 s4 => ?_⟩
      refine ⟨R4, σ3, h2, t, h3, rh4, s4, e6, fun R5 H5 x5 rh5 => ?_⟩
      cases t with
      | true =>
        obtain ⟨⟨v, h4⟩, e8, e9⟩ := Option.bind_eq_some_iff.mp e7
        dsimp only at e9
        split at e9
        · rename_i hz
          refine iteT ⟨R5, σ3, h3, v, h4, rh5, s4.mono x5, e8, fun R6 H6 u x6 rh6 rv => ⟨by rw [← ra.length]; exact hz, n - 1, by omega, by omega, R6, σ3, h4, accW ++ [v], x2.trans (x3.trans (x4.trans (x5.trans x6))), rh6, s4.mono (x5.trans x6), ?_, e9, k2.ext (x3.trans (x4.trans (x5.trans x6)))⟩⟩
          exact Rws.append (Rws.mono (x3.trans (x4.trans (x5.trans x6))) _ _ ra) (Rws.cons rv Rws.nil)
        · cases e9
      | false =>
        exact iteF ⟨n - 1, by omega, by omega, R5, σ3, h3, accW, x2.trans (x3.trans (x4.trans x5)), rh5, s4.mono x5, Rws.mono (x3.trans (x4.trans x5)) _ _ ra, e7, k2.ext (x3.trans (x4.trans x5))⟩
    · cases e3
  · have hd : items.drop i = [] := List.drop_eq_nil_of_le (by omega)
    rw [hd] at e3
    unfold mCompL at e3
    split at e3
    · rename_i hl
      refine .inl ⟨it.stop i R2 h2 H2 x2 rh2 hl (by omega), fun D hD => ?_⟩
      obtain ⟨R3, x3, rh3, rw3⟩ := hf R2 h2 H2 accW acc w h' D rh2 ra e3 hD
      exact k2 R3 _ _ x3 rh3 rw3
    · cases e3
theorem pm_comp0 (hf : FinOk X.K fin) (hc : X.calm = true) (B : BlkOk X scope cl Nb cp) (hi : PMI X tg iter mi) (hg : ∀ s₀ H₀ C ex pn, PMG (Mi.blk X scope cl Nb s₀ H₀ C ex pn) tg b)
    (he : ∀ s₀ H₀ C ex pn, PM (Mi.blk X scope cl Nb s₀ H₀ C ex pn) elt me) (hs : ∀ x, foldedSetIterable iter X.env x = pure x := by intro _; rfl) :
    PM X (.ListComp elt [⟨tg, iter, [], 0⟩] scope pos) (mComp fin mi cp b mYes me) :=
  pe_imp (pe_comp (g := tIG X.K b) (te := tI X.K me) (tt := tIT X.K mYes) hc B hi hg (fun s₀ H₀ C ex pn pins s τ H Q I q => wpAny_tests_nil (by
    obtain ⟨R, σi, h, t, h', rh, st, e, k⟩ := q
    cases e
    exact ⟨H, I, k R H (Ext.refl _) rh⟩)) he hs) fun _ _ _ q => comp_of hf q
theorem pm_comp1 (hf : FinOk X.K fin) (hc : X.calm = true) (B : BlkOk X scope cl Nb cp) (hi : PMI X tg iter mi) (hg : ∀ s₀ H₀ C ex pn, PMG (Mi.blk X scope cl Nb s₀ H₀ C ex pn) tg b)
    (ht : ∀ s₀ H₀ C ex pn, PMT (Mi.blk X scope cl Nb s₀ H₀ C ex pn) c mt)
    (he : ∀ s₀ H₀ C ex pn, PM (Mi.blk X scope cl Nb s₀ H₀ C ex pn) elt me) (hs : ∀ x, foldedSetIterable iter X.env x = pure x := by intro _; rfl) :
    PM X (.ListComp elt [⟨tg, iter, [c], 0⟩] scope pos) (mComp fin mi cp b mt me) :=
  pe_imp (pe_comp (g := tIG X.K b) (te := tI X.K me) (tt := tIT X.K mt) hc B hi hg (fun s₀ H₀ C ex pn pins s τ H Q I q => wpAny_tests_one (ht s₀ H₀ C ex pn pins s τ H Q I q)) he hs) fun _ _ _ q => comp_of hf q
end
end Mi

namespace Mi
open PySem PySem.Spec PyProof.Rows L2 PySem.SeqAt

mutual
noncomputable def eqW : W → W → Bool
  | .non, .non => true
  | .bl a, .bl b => a == b
  | .bl a, .int b => (if a then 1 else 0) == b
  | .int a, .bl b => a == (if b then 1 else 0)
  | .int a, .int b => a == b
  | .str a, .str b => a == b
  | .tup a, .tup b => eqWs a b
  | .lst a, .lst b => eqWs a b
  | _, _ => false
noncomputable def eqWs : List W → List W → Bool
  | [], [] => true
  | x :: xs, y :: ys => eqW x y && eqWs xs ys
  | _, _ => false
end
noncomputable def mapO {α β : Type} (f : α → Option β) : List α → Option (List β)
  | [] => some []
  | x :: xs => (f x).bind fun y => (mapO f xs).map (y :: ·)
noncomputable def drf (h : MH) : Nat → W → Option W
  | 0, _ => none
  | n + 1, w => match w with
    | .tup ws => (mapO (drf h n) ws).map .tup
    | .lst ws => (mapO (drf h n) ws).map .lst
    | .frz ws => (mapO (drf h n) ws).map .lst
    | .ref k => match h[k]? with | some (.lst ws) => (mapO (drf h n) ws).map .lst | _ => none
    | .ty _ => none
    | .non => some .non
    | .bl b => some (.bl b)
    | .int i => some (.int i)
    | .str x => some (.str x)
theorem mapO_get {α β : Type} {f : α → Option β} : ∀ {xs : List α} {ys : List β}, mapO f xs = some ys → xs.length = ys.length ∧ ∀ (i : Nat) x, xs[i]? = some x → ∃ y, ys[i]? = some y ∧ f x = some y
  | [], ys, e => by cases e; exact ⟨rfl, fun i x h => by simp at h⟩
  | x :: xs, ys, e => by
    obtain ⟨y, h1, h2⟩ := Option.bind_eq_some_iff.mp e
    obtain ⟨zs, h3, h4⟩ := Option.map_eq_some_iff.mp h2
    subst h4
    obtain ⟨l, q⟩ := mapO_get h3
    refine ⟨by simp [l], fun i z hz => ?_⟩
    cases i with
    | zero => simp at hz; subst hz; exact ⟨y, by simp, h1⟩
    | succ i => simp at hz; obtain ⟨u, h5, h6⟩ := q i z hz; exact ⟨u, by simp [h5], h6⟩
theorem eqWs_len : ∀ {a b : List W}, a.length ≠ b.length → eqWs a b = false
  | [], [], h => absurd rfl h
  | [], _ :: _, _ => by unfold eqWs; rfl
  | _ :: _, [], _ => by unfold eqWs; rfl
  | x :: xs, y :: ys, h => by
    unfold eqWs
    rw [eqWs_len (a := xs) (b := ys) (fun z => h (by simp [z])), Bool.and_false]
theorem eqWs_all : ∀ {a b : List W}, a.length = b.length → eqWs a b = (List.range a.length).all fun j => match a[j]?, b[j]? with | some x, some y => eqW x y | _, _ => false
  | [], [], _ => by unfold eqWs; rfl
  | x :: xs, y :: ys, h => by
    have ih := eqWs_all (a := xs) (b := ys) (by simpa using h)
    unfold eqWs
    rw [ih, List.length_cons, List.range_succ_eq_map, List.all_cons, List.all_map]
    simp [Function.comp_def]
inductive Kd (K : PySem.W.Frag) (R : Rn) (h : MH) (H : Hp) (n : Nat) (v : V) : W → Prop where
  | flat {a : W} (f : flatV v = true) (e : (v = .non ∧ a = .non) ∨ (∃ b, v = .bl b ∧ a = .bl b) ∨ (∃ i, v = .int i ∧ a = .int i) ∨ ∃ x, v = .str x ∧ a = .str x) : Kd K R h H n v a
  | lst {ad : Addr} {xs : List V} {ws as : List W} (e : v = .ref ad) (q : SqL K H ad xs) (r : Rws K R ws xs) (m : mapO (drf h n) ws = some as) : Kd K R h H n v (.lst as)
  | tup {ad : Addr} {xs : List V} {ws as : List W} (e : v = .ref ad) (q : SqT K H ad xs) (r : Rws K R ws xs) (m : mapO (drf h n) ws = some as) : Kd K R h H n v (.tup as)
theorem kd_of {K : PySem.W.Frag} {R : Rn} {h : MH} {H : Hp} {n : Nat} {w a : W} {v : V} (rh : Rh K R h H) (r : Rw K R w v) (e : drf h (n + 1) w = some a) : Kd K R h H n v a := by
  cases w with
  | non => rw [r.non_eq]; cases e; exact .flat rfl (.inl ⟨rfl, rfl⟩)
  | bl b => rw [r.bl_eq]; cases e; exact .flat rfl (.inr (.inl ⟨b, rfl, rfl⟩))
  | int i => rw [r.int_eq]; cases e; exact .flat rfl (.inr (.inr (.inl ⟨i, rfl, rfl⟩)))
  | str x => rw [r.str_eq]; cases e; exact .flat rfl (.inr (.inr (.inr ⟨x, rfl, rfl⟩)))
  | tup ws =>
    obtain ⟨ad, xs, e1, q, r1⟩ := rh.tupAt r
    obtain ⟨as, m, e2⟩ := Option.map_eq_some_iff.mp e
    subst e2
    exact .tup e1 q r1 m
  | lst ws =>
    obtain ⟨ad, xs, e1, q, r1⟩ := rh.lstAt r
    obtain ⟨as, m, e2⟩ := Option.map_eq_some_iff.mp e
    subst e2
    exact .lst e1 (SqL.of q) r1 m
  | frz ws =>
    obtain ⟨ad, xs, e1, q, r1⟩ := rh.frzAt r
    obtain ⟨as, m, e2⟩ := Option.map_eq_some_iff.mp e
    subst e2
    exact .lst e1 q r1 m
  | ref k =>
    simp only [drf] at e
    split at e
    · rename_i ws hk
      obtain ⟨as, m, e2⟩ := Option.map_eq_some_iff.mp e
      subst e2
      obtain ⟨_, e1, xs, q, r1⟩ := rh.refAt r hk
      exact .lst e1 (SqL.of q) r1 m
    · cases e
  | ty _ => cases e
section
variable {X : Cx} {pins : List (Addr × Obj)} {σ : L2.St} {H : Hp} {s : Shared} {R : Rn} {h : MH}
theorem mapO_same {K : PySem.W.Frag} {n : Nat} (ih : ∀ w1 w2 v a b, Rw K R w1 v → Rw K R w2 v → drf h n w1 = some a → drf h n w2 = some b → a = b) :
    ∀ {ws1 ws2 : List W} {xs : List V} {a b : List W}, Rws K R ws1 xs → Rws K R ws2 xs → mapO (drf h n) ws1 = some a → mapO (drf h n) ws2 = some b → a = b
  | [], ws2, xs, a, b, r1, r2, m1, m2 => by
    rw [Rws.nil_iff] at r1; subst r1
    cases ws2 with
    | nil => cases m1; cases m2; rfl
    | cons w ws => rw [Rws.cons_iff] at r2; obtain ⟨_, _, z, _⟩ := r2; cases z
  | w :: ws1, ws2, xs, a, b, r1, r2, m1, m2 => by
    rw [Rws.cons_iff] at r1
    obtain ⟨v, xs', rfl, p1, p2⟩ := r1
    cases ws2 with
    | nil => rw [Rws.nil_iff] at r2; cases r2
    | cons w' ws2 =>
      rw [Rws.cons_iff] at r2
      obtain ⟨_, _, z, q1, q2⟩ := r2
      cases z
      obtain ⟨y, h1, h2⟩ := Option.bind_eq_some_iff.mp m1
      obtain ⟨zs, h3, h4⟩ := Option.map_eq_some_iff.mp h2
      obtain ⟨y', h1', h2'⟩ := Option.bind_eq_some_iff.mp m2
      obtain ⟨zs', h3', h4'⟩ := Option.map_eq_some_iff.mp h2'
      subst h4 h4'
      rw [ih w w' v y y' p1 q1 h1 h1', mapO_same ih p2 q2 h3 h3']
theorem list_not_tup (I : Inv X pins σ H s) {a : Addr} {xs ys : List V} (q : SqL X.K H a xs) (q' : SqT X.K H a ys) : False := by
  obtain ⟨its, _, p, _⟩ := I.list q
  obtain ⟨its', _, p', _⟩ := I.tuple q'
  obtain ⟨o, n, h1, h2, _⟩ := p
  obtain ⟨o', h1', h2', _⟩ := p'
  rw [h1] at h1'; cases h1'
  rw [h2] at h2'
  exact absurd h2' (by simp)
theorem drf_same (I : Inv X pins σ H s) (rh : Rh X.K R h H) : ∀ (n : Nat) (w1 w2 : W) (v : V) (a b : W), Rw X.K R w1 v → Rw X.K R w2 v → drf h n w1 = some a → drf h n w2 = some b → a = b
  | 0, _, _, _, _, _, _, _, e, _ => by cases e
  | n + 1, w1, w2, v, a, b, r1, r2, e1, e2 => by
    have ih := drf_same I rh n
    cases kd_of rh r1 e1 with
    | flat f z =>
      cases kd_of rh r2 e2 with
      | flat f' z' =>
        rcases z with ⟨rfl, rfl⟩ | ⟨_, rfl, rfl⟩ | ⟨_, rfl, rfl⟩ | ⟨_, rfl, rfl⟩ <;> rcases z' with ⟨z1, rfl⟩ | ⟨_, z1, rfl⟩ | ⟨_, z1, rfl⟩ | ⟨_, z1, rfl⟩ <;> cases z1 <;> rfl
      | lst e => subst e; cases f
      | tup e => subst e; cases f
    | lst e q r m =>
      subst e
      cases kd_of rh r2 e2 with
      | flat f => cases f
      | lst e' q' r' m' => cases e'; have := I.list_inj q q'; subst this; rw [mapO_same ih r r' m m']
      | tup e' q' => cases e'; exact (list_not_tup I q q').elim
    | tup e q r m =>
      subst e
      cases kd_of rh r2 e2 with
      | flat f => cases f
      | lst e' q' => cases e'; exact (list_not_tup I q' q).elim
      | tup e' q' r' m' => cases e'; have := I.tuple_inj q q'; subst this; rw [mapO_same ih r r' m m']
mutual
theorem eqW_refl : ∀ (n : Nat) (w a : W), drf h n w = some a → eqW a a = true
  | 0, _, _, e => by cases e
  | n + 1, w, a, e => by
    cases w with
    | non => cases e; unfold eqW; rfl
    | bl b => cases e; unfold eqW; simp
    | int i => cases e; unfold eqW; simp
    | str x => cases e; unfold eqW; simp
    | tup ws => obtain ⟨as, m, e2⟩ := Option.map_eq_some_iff.mp e; subst e2; unfold eqW; exact eqWs_refl n ws as m
    | lst ws => obtain ⟨as, m, e2⟩ := Option.map_eq_some_iff.mp e; subst e2; unfold eqW; exact eqWs_refl n ws as m
    | frz ws => obtain ⟨as, m, e2⟩ := Option.map_eq_some_iff.mp e; subst e2; unfold eqW; exact eqWs_refl n ws as m
    | ref k =>
      simp only [drf] at e
      split at e
      · rename_i ws hk
        obtain ⟨as, m, e2⟩ := Option.map_eq_some_iff.mp e; subst e2; unfold eqW; exact eqWs_refl n ws as m
      · cases e
    | ty _ => cases e
theorem eqWs_refl : ∀ (n : Nat) (ws as : List W), mapO (drf h n) ws = some as → eqWs as as = true
  | n, [], _, m => by cases m; unfold eqWs; rfl
  | n, w :: ws, _, m => by
    obtain ⟨y, h1, h2⟩ := Option.bind_eq_some_iff.mp m
    obtain ⟨zs, h3, h4⟩ := Option.map_eq_some_iff.mp h2
    subst h4
    unfold eqWs
    rw [eqW_refl n w y h1, eqWs_refl n ws zs h3]; rfl
end
theorem items_eqAt {n : Nat} {A : Around} (ih : ∀ w1 w2 v1 v2 u1 u2 a b, Rw X.K R w1 v1 → Rw X.K R w2 v2 → RelV v1 u1 → RelV v2 u2 → drf h n w1 = some a → drf h n w2 = some b → EqAt A s u1 u2 (eqW a b))
    {ws1 ws2 as bs : List W} {xs ys : List V} {its its2 : List Value} (r1 : Rws X.K R ws1 xs) (r2 : Rws X.K R ws2 ys) (v1 : Vals xs its) (v2 : Vals ys its2) (m1 : mapO (drf h n) ws1 = some as) (m2 : mapO (drf h n) ws2 = some bs)
    (j : Nat) (h1 : j < its.toArray.size) (h2 : j < its2.toArray.size) : EqAt A s its.toArray[j] its2.toArray[j] (match as[j]?, bs[j]? with | some x, some y => eqW x y | _, _ => false) := by
  have l1 := r1.length; have l2 := v1.length; have l3 := r2.length; have l4 := v2.length
  rw [List.size_toArray] at h1 h2
  obtain ⟨w1, hw1⟩ : ∃ w, ws1[j]? = some w := ⟨ws1[j]'(by omega), List.getElem?_eq_getElem _⟩
  obtain ⟨w2, hw2⟩ : ∃ w, ws2[j]? = some w := ⟨ws2[j]'(by omega), List.getElem?_eq_getElem _⟩
  obtain ⟨x, hx, rx⟩ := r1.get hw1
  obtain ⟨y, hy, ry⟩ := r2.get hw2
  obtain ⟨u, hu, ru⟩ := v1.get hx
  obtain ⟨t, ht, rt⟩ := v2.get hy
  obtain ⟨a, ha, ea⟩ := (mapO_get m1).2 j w1 hw1
  obtain ⟨b, hb, eb⟩ := (mapO_get m2).2 j w2 hw2
  rw [ha, hb]
  have e1 : its.toArray[j] = u := by
    have := hu; rw [List.getElem?_eq_getElem h1] at this; simpa using this
  have e2 : its2.toArray[j] = t := by
    have := ht; rw [List.getElem?_eq_getElem h2] at this; simpa using this
  rw [e1, e2]
  exact ih w1 w2 x y u t a b rx ry ru rt ea eb
theorem rc_lists (I : Inv X pins σ H s) {n : Nat} {A : Around} (hu : A.units < cLine) (ih : ∀ w1 w2 v1 v2 u1 u2 a b, Rw X.K R w1 v1 → Rw X.K R w2 v2 → RelV v1 u1 → RelV v2 u2 → drf h n w1 = some a → drf h n w2 = some b → EqAt A.in1 s u1 u2 (eqW a b))
    {ad bd : Addr} {ws1 ws2 as bs : List W} {xs ys : List V} (q1 : SqL X.K H ad xs) (q2 : SqL X.K H bd ys) (r1 : Rws X.K R ws1 xs) (r2 : Rws X.K R ws2 ys) (m1 : mapO (drf h n) ws1 = some as) (m2 : mapO (drf h n) ws2 = some bs) : RcAt A s (.ref ad) (.ref bd) (eqWs as bs) := by
  obtain ⟨its, v1, p1, _⟩ := I.list q1
  obtain ⟨its2, v2, p2, _⟩ := I.list q2
  have l1 := r1.length; have l2 := v1.length; have l3 := r2.length; have l4 := v2.length
  have l5 := (mapO_get m1).1; have l6 := (mapO_get m2).1
  by_cases hl : as.length = bs.length
  · rw [eqWs_all hl]
    have := RcAt.lists (A := A) p1.isList p2.isList (by rw [List.size_toArray, List.size_toArray]; omega) hu (fun j h1 h2 => items_eqAt ih r1 r2 v1 v2 m1 m2 j h1 h2)
    rw [List.size_toArray] at this
    rw [show as.length = its.length by omega]
    exact this
  · rw [eqWs_len hl]
    exact RcAt.lists_lengths p1.isList p2.isList (by rw [List.size_toArray, List.size_toArray]; simp; omega) hu
theorem rc_tups (I : Inv X pins σ H s) {n : Nat} {A : Around} (hu : A.units < cLine) (ih : ∀ w1 w2 v1 v2 u1 u2 a b, Rw X.K R w1 v1 → Rw X.K R w2 v2 → RelV v1 u1 → RelV v2 u2 → drf h n w1 = some a → drf h n w2 = some b → EqAt A.in1 s u1 u2 (eqW a b))
    {ad bd : Addr} {ws1 ws2 as bs : List W} {xs ys : List V} (q1 : SqT X.K H ad xs) (q2 : SqT X.K H bd ys) (r1 : Rws X.K R ws1 xs) (r2 : Rws X.K R ws2 ys) (m1 : mapO (drf h n) ws1 = some as) (m2 : mapO (drf h n) ws2 = some bs) : RcAt A s (.ref ad) (.ref bd) (eqWs as bs) := by
  obtain ⟨its, v1, p1, _⟩ := I.tuple q1
  obtain ⟨its2, v2, p2, _⟩ := I.tuple q2
  have l1 := r1.length; have l2 := v1.length; have l3 := r2.length; have l4 := v2.length
  have l5 := (mapO_get m1).1; have l6 := (mapO_get m2).1
  have := RcAt.tuples (A := A) (show s.heap.IsTuple ad its.toArray from p1) (show s.heap.IsTuple bd its2.toArray from p2) hu (fun j h1 h2 => items_eqAt ih r1 r2 v1 v2 m1 m2 j h1 h2)
  rw [List.size_toArray, List.size_toArray] at this
  by_cases hl : as.length = bs.length
  · rw [eqWs_all hl]
    rw [show min its.length its2.length = as.length by omega, show (its.length == its2.length) = true by simp; omega, Bool.and_true] at this
    exact this
  · rw [eqWs_len hl]
    rw [show (its.length == its2.length) = false by simp; omega, Bool.and_false] at this
    exact this
theorem eqAt_W (I : Inv X pins σ H s) (rh : Rh X.K R h H) : ∀ (n : Nat) (A : Around), A.units + n < cLine → ∀ (w1 w2 : W) (v1 v2 : V) (u1 u2 : Value) (a b : W), Rw X.K R w1 v1 → Rw X.K R w2 v2 → RelV v1 u1 → RelV v2 u2 → drf h n w1 = some a → drf h n w2 = some b → EqAt A s u1 u2 (eqW a b)
  | 0, _, _, _, _, _, _, _, _, _, _, _, _, _, _, e, _ => by cases e
  | n + 1, A, hu, w1, w2, v1, v2, u1, u2, a, b, r1, r2, t1, t2, e1, e2 => by
    have hu0 : A.units < cLine := by omega
    have ih := eqAt_W I rh n A.in1 (by show A.units + 1 + n < cLine; omega)
    have isl : ∀ {ad : Addr} {xs : List V}, SqL X.K H ad xs → ∃ its : Array Value, s.heap.IsList ad its := fun q => by
      obtain ⟨its, _, p, _⟩ := I.list q; exact ⟨_, p.isList⟩
    have ist : ∀ {ad : Addr} {xs : List V}, SqT X.K H ad xs → ∃ its : Array Value, s.heap.IsTuple ad its := fun q => by
      obtain ⟨its, _, p, _⟩ := I.tuple q; exact ⟨_, p⟩
    cases kd_of rh r1 e1 with
    | flat f z =>
      cases kd_of rh r2 e2 with
      | flat f' z' =>
        have := eqAt_V (A := A) (s := s) t1 t2 f f'
        rcases z with ⟨rfl, rfl⟩ | ⟨_, rfl, rfl⟩ | ⟨_, rfl, rfl⟩ | ⟨_, rfl, rfl⟩ <;> rcases z' with ⟨rfl, rfl⟩ | ⟨_, rfl, rfl⟩ | ⟨_, rfl, rfl⟩ | ⟨_, rfl, rfl⟩ <;> (unfold eqW; exact this)
      | lst e q =>
        subst e
        cases t2
        obtain ⟨its, p⟩ := isl q
        rcases z with ⟨rfl, rfl⟩ | ⟨_, rfl, rfl⟩ | ⟨_, rfl, rfl⟩ | ⟨_, rfl, rfl⟩
        · cases t1; unfold eqW; exact EqAt.none_list p hu0
        · cases t1; unfold eqW; exact EqAt.bool_list _ p hu0
        · obtain ⟨t, rfl⟩ := t1; unfold eqW; exact EqAt.int_list _ t p hu0
        · obtain ⟨t, rfl⟩ := t1; unfold eqW; exact EqAt.str_list _ t p hu0
      | tup e q =>
        subst e
        cases t2
        obtain ⟨its, p⟩ := ist q
        rcases z with ⟨rfl, rfl⟩ | ⟨_, rfl, rfl⟩ | ⟨_, rfl, rfl⟩ | ⟨_, rfl, rfl⟩
        · cases t1; unfold eqW; exact EqAt.none_tuple p hu0
        · cases t1; unfold eqW; exact EqAt.bool_tuple _ p hu0
        · obtain ⟨t, rfl⟩ := t1; unfold eqW; exact EqAt.int_tuple _ t p hu0
        · obtain ⟨t, rfl⟩ := t1; unfold eqW; exact EqAt.str_tuple _ t p hu0
    | @lst ad1 _ _ _ e q r m =>
      subst e
      cases t1
      obtain ⟨its, p⟩ := isl q
      have k2 := kd_of rh r2 e2
      cases k2 with
      | flat f' z' =>
        rcases z' with ⟨rfl, rfl⟩ | ⟨_, rfl, rfl⟩ | ⟨_, rfl, rfl⟩ | ⟨_, rfl, rfl⟩
        · cases t2; unfold eqW; exact EqAt.list_none p hu0
        · cases t2; unfold eqW; exact EqAt.list_bool _ p hu0
        · obtain ⟨t, rfl⟩ := t2; unfold eqW; exact EqAt.list_int _ t p hu0
        · obtain ⟨t, rfl⟩ := t2; unfold eqW; exact EqAt.list_str _ t p hu0
      | @lst ad2 _ _ _ e' q' r' m' =>
        subst e'
        cases t2
        by_cases hab : ad1 = ad2
        · subst hab
          have := drf_same I rh (n + 1) w1 w2 _ _ _ r1 r2 e1 e2
          rw [this, eqW_refl (n + 1) w2 _ e2]
          exact EqAt.same _
        · unfold eqW
          exact EqAt.of_refs hab (rc_lists I hu0 ih q q' r r' m m')
      | tup e' q' =>
        subst e'
        cases t2
        obtain ⟨its', p'⟩ := ist q'
        unfold eqW; exact EqAt.list_tuple p p' hu0
    | @tup ad1 _ _ _ e q r m =>
      subst e
      cases t1
      obtain ⟨its, p⟩ := ist q
      have k2 := kd_of rh r2 e2
      cases k2 with
      | flat f' z' =>
        rcases z' with ⟨rfl, rfl⟩ | ⟨_, rfl, rfl⟩ | ⟨_, rfl, rfl⟩ | ⟨_, rfl, rfl⟩
        · cases t2; unfold eqW; exact EqAt.tuple_none p hu0
        · cases t2; unfold eqW; exact EqAt.tuple_bool _ p hu0
        · obtain ⟨t, rfl⟩ := t2; unfold eqW; exact EqAt.tuple_int _ t p hu0
        · obtain ⟨t, rfl⟩ := t2; unfold eqW; exact EqAt.tuple_str _ t p hu0
      | lst e' q' =>
        subst e'
        cases t2
        obtain ⟨its', p'⟩ := isl q'
        unfold eqW; exact EqAt.tuple_list p p' hu0
      | @tup ad2 _ _ _ e' q' r' m' =>
        subst e'
        cases t2
        by_cases hab : ad1 = ad2
        · subst hab
          have := drf_same I rh (n + 1) w1 w2 _ _ _ r1 r2 e1 e2
          rw [this, eqW_refl (n + 1) w2 _ e2]
          exact EqAt.same _
        · unfold eqW
          exact EqAt.of_refs hab (rc_tups I hu0 ih q q' r r' m m')
end
end Mi

namespace Mi
open PySem PySem.Spec PyProof.Rows L2 PySem.SeqAt
section
variable {X : Cx} {pins : List (Addr × Obj)} {σ : L2.St} {H : Hp} {s : Shared} {R : Rn} {h : MH}
theorem rcne_lists (I : Inv X pins σ H s) {n : Nat} {A : Around} (hu : A.units < cLine) (ih : ∀ w1 w2 v1 v2 u1 u2 a b, Rw X.K R w1 v1 → Rw X.K R w2 v2 → RelV v1 u1 → RelV v2 u2 → drf h n w1 = some a → drf h n w2 = some b → EqAt A.in1 s u1 u2 (eqW a b))
    {ad bd : Addr} {ws1 ws2 as bs : List W} {xs ys : List V} (q1 : SqL X.K H ad xs) (q2 : SqL X.K H bd ys) (r1 : Rws X.K R ws1 xs) (r2 : Rws X.K R ws2 ys) (m1 : mapO (drf h n) ws1 = some as) (m2 : mapO (drf h n) ws2 = some bs) : RcNeAt A s (.ref ad) (.ref bd) (!eqWs as bs) := by
  obtain ⟨its, v1, p1, _⟩ := I.list q1
  obtain ⟨its2, v2, p2, _⟩ := I.list q2
  have l1 := r1.length; have l2 := v1.length; have l3 := r2.length; have l4 := v2.length
  have l5 := (mapO_get m1).1; have l6 := (mapO_get m2).1
  by_cases hl : as.length = bs.length
  · rw [eqWs_all hl]
    have := RcNeAt.lists (A := A) p1.isList p2.isList (by rw [List.size_toArray, List.size_toArray]; omega) hu (fun j h1 h2 => items_eqAt ih r1 r2 v1 v2 m1 m2 j h1 h2)
    rw [List.size_toArray] at this
    rw [show as.length = its.length by omega]
    exact this
  · rw [eqWs_len hl]
    exact RcNeAt.lists_lengths p1.isList p2.isList (by rw [List.size_toArray, List.size_toArray]; simp; omega) hu
theorem rcne_tups (I : Inv X pins σ H s) {n : Nat} {A : Around} (hu : A.units < cLine) (ih : ∀ w1 w2 v1 v2 u1 u2 a b, Rw X.K R w1 v1 → Rw X.K R w2 v2 → RelV v1 u1 → RelV v2 u2 → drf h n w1 = some a → drf h n w2 = some b → EqAt A.in1 s u1 u2 (eqW a b))
    {ad bd : Addr} {ws1 ws2 as bs : List W} {xs ys : List V} (q1 : SqT X.K H ad xs) (q2 : SqT X.K H bd ys) (r1 : Rws X.K R ws1 xs) (r2 : Rws X.K R ws2 ys) (m1 : mapO (drf h n) ws1 = some as) (m2 : mapO (drf h n) ws2 = some bs) : RcNeAt A s (.ref ad) (.ref bd) (!eqWs as bs) := by
  obtain ⟨its, v1, p1, _⟩ := I.tuple q1
  obtain ⟨its2, v2, p2, _⟩ := I.tuple q2
  have l1 := r1.length; have l2 := v1.length; have l3 := r2.length; have l4 := v2.length
  have l5 := (mapO_get m1).1; have l6 := (mapO_get m2).1
  have := RcNeAt.tuples (A := A) (show s.heap.IsTuple ad its.toArray from p1) (show s.heap.IsTuple bd its2.toArray from p2) hu (fun j h1 h2 => items_eqAt ih r1 r2 v1 v2 m1 m2 j h1 h2)
  rw [List.size_toArray, List.size_toArray] at this
  by_cases hl : as.length = bs.length
  · rw [eqWs_all hl]
    rw [show min its.length its2.length = as.length by omega, show (its.length == its2.length) = true by simp; omega, Bool.and_true] at this
    exact this
  · rw [eqWs_len hl]
    rw [show (its.length == its2.length) = false by simp; omega, Bool.and_false] at this
    exact this
theorem rcAt_W (I : Inv X pins σ H s) (rh : Rh X.K R h H) (n : Nat) (A : Around) (hu : A.units + n < cLine) (w1 w2 : W) (v1 v2 : V) (u1 u2 : Value) (a b : W) (r1 : Rw X.K R w1 v1) (r2 : Rw X.K R w2 v2) (t1 : RelV v1 u1) (t2 : RelV v2 u2) (e1 : drf h n w1 = some a) (e2 : drf h n w2 = some b) : RcAt A s u1 u2 (eqW a b) := by
  cases n with
  | zero => cases e1
  | succ n =>
    have hu0 : A.units < cLine := by omega
    have ih := eqAt_W I rh n A.in1 (by show A.units + 1 + n < cLine; omega)
    have isl : ∀ {ad : Addr} {xs : List V}, SqL X.K H ad xs → ∃ its : Array Value, s.heap.IsList ad its := fun q => by
      obtain ⟨its, _, p, _⟩ := I.list q; exact ⟨_, p.isList⟩
    have ist : ∀ {ad : Addr} {xs : List V}, SqT X.K H ad xs → ∃ its : Array Value, s.heap.IsTuple ad its := fun q => by
      obtain ⟨its, _, p, _⟩ := I.tuple q; exact ⟨_, p⟩
    cases kd_of rh r1 e1 with
    | flat f z =>
      cases kd_of rh r2 e2 with
      | flat f' z' =>
        rcases z with ⟨rfl, rfl⟩ | ⟨_, rfl, rfl⟩ | ⟨_, rfl, rfl⟩ | ⟨_, rfl, rfl⟩ <;> rcases z' with ⟨rfl, rfl⟩ | ⟨_, rfl, rfl⟩ | ⟨_, rfl, rfl⟩ | ⟨_, rfl, rfl⟩ <;> first | (obtain ⟨t1', rfl⟩ := t1) | cases t1
        · first | (obtain ⟨t2', rfl⟩ := t2) | cases t2
          unfold eqW; exact RcAt.none_none
        · first | (obtain ⟨t2', rfl⟩ := t2) | cases t2
          unfold eqW; exact RcAt.none_bool _
        · first | (obtain ⟨t2', rfl⟩ := t2) | cases t2
          unfold eqW; exact RcAt.none_int _ _
        · first | (obtain ⟨t2', rfl⟩ := t2) | cases t2
          unfold eqW; exact RcAt.none_str _ _
        · first | (obtain ⟨t2', rfl⟩ := t2) | cases t2
          unfold eqW; exact RcAt.bool_none _
        · first | (obtain ⟨t2', rfl⟩ := t2) | cases t2
          unfold eqW; exact RcAt.bool_bool _ _
        · first | (obtain ⟨t2', rfl⟩ := t2) | cases t2
          unfold eqW; exact RcAt.bool_int _ _ _
        · first | (obtain ⟨t2', rfl⟩ := t2) | cases t2
          unfold eqW; exact RcAt.bool_str _ _ _
        · first | (obtain ⟨t2', rfl⟩ := t2) | cases t2
          unfold eqW; exact RcAt.int_none _ _
        · first | (obtain ⟨t2', rfl⟩ := t2) | cases t2
          unfold eqW; exact RcAt.int_bool _ _ _
        · first | (obtain ⟨t2', rfl⟩ := t2) | cases t2
          unfold eqW; exact RcAt.int_int _ _ _ _
        · first | (obtain ⟨t2', rfl⟩ := t2) | cases t2
          unfold eqW; exact RcAt.int_str _ _ _ _
        · first | (obtain ⟨t2', rfl⟩ := t2) | cases t2
          unfold eqW; exact RcAt.str_none _ _
        · first | (obtain ⟨t2', rfl⟩ := t2) | cases t2
          unfold eqW; exact RcAt.str_bool _ _ _
        · first | (obtain ⟨t2', rfl⟩ := t2) | cases t2
          unfold eqW; exact RcAt.str_int _ _ _ _
        · first | (obtain ⟨t2', rfl⟩ := t2) | cases t2
          unfold eqW; exact RcAt.str_str _ _ _ _
      | lst e q =>
        subst e
        cases t2
        obtain ⟨its, p⟩ := isl q
        rcases z with ⟨rfl, rfl⟩ | ⟨_, rfl, rfl⟩ | ⟨_, rfl, rfl⟩ | ⟨_, rfl, rfl⟩
        · cases t1; unfold eqW; exact RcAt.none_list p hu0
        · cases t1; unfold eqW; exact RcAt.bool_list _ p hu0
        · obtain ⟨t, rfl⟩ := t1; unfold eqW; exact RcAt.int_list _ t p hu0
        · obtain ⟨t, rfl⟩ := t1; unfold eqW; exact RcAt.str_list _ t p hu0
      | tup e q =>
        subst e
        cases t2
        obtain ⟨its, p⟩ := ist q
        rcases z with ⟨rfl, rfl⟩ | ⟨_, rfl, rfl⟩ | ⟨_, rfl, rfl⟩ | ⟨_, rfl, rfl⟩
        · cases t1; unfold eqW; exact RcAt.none_tuple p hu0
        · cases t1; unfold eqW; exact RcAt.bool_tuple _ p hu0
        · obtain ⟨t, rfl⟩ := t1; unfold eqW; exact RcAt.int_tuple _ t p hu0
        · obtain ⟨t, rfl⟩ := t1; unfold eqW; exact RcAt.str_tuple _ t p hu0
    | @lst ad1 _ _ _ e q r m =>
      subst e
      cases t1
      obtain ⟨its, p⟩ := isl q
      have k2 := kd_of rh r2 e2
      cases k2 with
      | flat f' z' =>
        rcases z' with ⟨rfl, rfl⟩ | ⟨_, rfl, rfl⟩ | ⟨_, rfl, rfl⟩ | ⟨_, rfl, rfl⟩
        · cases t2; unfold eqW; exact RcAt.list_none p hu0
        · cases t2; unfold eqW; exact RcAt.list_bool _ p hu0
        · obtain ⟨t, rfl⟩ := t2; unfold eqW; exact RcAt.list_int _ t p hu0
        · obtain ⟨t, rfl⟩ := t2; unfold eqW; exact RcAt.list_str _ t p hu0
      | tup e' q' =>
        subst e'
        cases t2
        obtain ⟨its', p'⟩ := ist q'
        unfold eqW; exact RcAt.list_tuple p p' hu0
      | lst e' q' r' m' =>
        subst e'
        cases t2
        unfold eqW
        exact rc_lists I hu0 ih q q' r r' m m'
    | @tup ad1 _ _ _ e q r m =>
      subst e
      cases t1
      obtain ⟨its, p⟩ := ist q
      have k2 := kd_of rh r2 e2
      cases k2 with
      | flat f' z' =>
        rcases z' with ⟨rfl, rfl⟩ | ⟨_, rfl, rfl⟩ | ⟨_, rfl, rfl⟩ | ⟨_, rfl, rfl⟩
        · cases t2; unfold eqW; exact RcAt.tuple_none p hu0
        · cases t2; unfold eqW; exact RcAt.tuple_bool _ p hu0
        · obtain ⟨t, rfl⟩ := t2; unfold eqW; exact RcAt.tuple_int _ t p hu0
        · obtain ⟨t, rfl⟩ := t2; unfold eqW; exact RcAt.tuple_str _ t p hu0
      | lst e' q' =>
        subst e'
        cases t2
        obtain ⟨its', p'⟩ := isl q'
        unfold eqW; exact RcAt.tuple_list p p' hu0
      | tup e' q' r' m' =>
        subst e'
        cases t2
        unfold eqW
        exact rc_tups I hu0 ih q q' r r' m m'
theorem rcneAt_W (I : Inv X pins σ H s) (rh : Rh X.K R h H) (n : Nat) (A : Around) (hu : A.units + n < cLine) (w1 w2 : W) (v1 v2 : V) (u1 u2 : Value) (a b : W) (r1 : Rw X.K R w1 v1) (r2 : Rw X.K R w2 v2) (t1 : RelV v1 u1) (t2 : RelV v2 u2) (e1 : drf h n w1 = some a) (e2 : drf h n w2 = some b) : RcNeAt A s u1 u2 (!eqW a b) := by
  cases n with
  | zero => cases e1
  | succ n =>
    have hu0 : A.units < cLine := by omega
    have ih := eqAt_W I rh n A.in1 (by show A.units + 1 + n < cLine; omega)
    have isl : ∀ {ad : Addr} {xs : List V}, SqL X.K H ad xs → ∃ its : Array Value, s.heap.IsList ad its := fun q => by
      obtain ⟨its, _, p, _⟩ := I.list q; exact ⟨_, p.isList⟩
    have ist : ∀ {ad : Addr} {xs : List V}, SqT X.K H ad xs → ∃ its : Array Value, s.heap.IsTuple ad its := fun q => by
      obtain ⟨its, _, p, _⟩ := I.tuple q; exact ⟨_, p⟩
    cases kd_of rh r1 e1 with
    | flat f z =>
      cases kd_of rh r2 e2 with
      | flat f' z' =>
        rcases z with ⟨rfl, rfl⟩ | ⟨_, rfl, rfl⟩ | ⟨_, rfl, rfl⟩ | ⟨_, rfl, rfl⟩ <;> rcases z' with ⟨rfl, rfl⟩ | ⟨_, rfl, rfl⟩ | ⟨_, rfl, rfl⟩ | ⟨_, rfl, rfl⟩ <;> first | (obtain ⟨t1', rfl⟩ := t1) | cases t1
        · first | (obtain ⟨t2', rfl⟩ := t2) | cases t2
          unfold eqW; exact RcNeAt.none_none
        · first | (obtain ⟨t2', rfl⟩ := t2) | cases t2
          unfold eqW; exact RcNeAt.none_bool _
        · first | (obtain ⟨t2', rfl⟩ := t2) | cases t2
          unfold eqW; exact RcNeAt.none_int _ _
        · first | (obtain ⟨t2', rfl⟩ := t2) | cases t2
          unfold eqW; exact RcNeAt.none_str _ _
        · first | (obtain ⟨t2', rfl⟩ := t2) | cases t2
          unfold eqW; exact RcNeAt.bool_none _
        · first | (obtain ⟨t2', rfl⟩ := t2) | cases t2
          unfold eqW; exact RcNeAt.bool_bool _ _
        · first | (obtain ⟨t2', rfl⟩ := t2) | cases t2
          unfold eqW; exact RcNeAt.bool_int _ _ _
        · first | (obtain ⟨t2', rfl⟩ := t2) | cases t2
          unfold eqW; exact RcNeAt.bool_str _ _ _
        · first | (obtain ⟨t2', rfl⟩ := t2) | cases t2
          unfold eqW; exact RcNeAt.int_none _ _
        · first | (obtain ⟨t2', rfl⟩ := t2) | cases t2
          unfold eqW; exact RcNeAt.int_bool _ _ _
        · first | (obtain ⟨t2', rfl⟩ := t2) | cases t2
          unfold eqW; exact RcNeAt.int_int _ _ _ _
        · first | (obtain ⟨t2', rfl⟩ := t2) | cases t2
          unfold eqW; exact RcNeAt.int_str _ _ _ _
        · first | (obtain ⟨t2', rfl⟩ := t2) | cases t2
          unfold eqW; exact RcNeAt.str_none _ _
        · first | (obtain ⟨t2', rfl⟩ := t2) | cases t2
          unfold eqW; exact RcNeAt.str_bool _ _ _
        · first | (obtain ⟨t2', rfl⟩ := t2) | cases t2
          unfold eqW; exact RcNeAt.str_int _ _ _ _
        · first | (obtain ⟨t2', rfl⟩ := t2) | cases t2
          unfold eqW; exact RcNeAt.str_str _ _ _ _
      | lst e q =>
        subst e
        cases t2
        obtain ⟨its, p⟩ := isl q
        rcases z with ⟨rfl, rfl⟩ | ⟨_, rfl, rfl⟩ | ⟨_, rfl, rfl⟩ | ⟨_, rfl, rfl⟩
        · cases t1; unfold eqW; exact RcNeAt.none_list p hu0
        · cases t1; unfold eqW; exact RcNeAt.bool_list _ p hu0
        · obtain ⟨t, rfl⟩ := t1; unfold eqW; exact RcNeAt.int_list _ t p hu0
        · obtain ⟨t, rfl⟩ := t1; unfold eqW; exact RcNeAt.str_list _ t p hu0
      | tup e q =>
        subst e
        cases t2
        obtain ⟨its, p⟩ := ist q
        rcases z with ⟨rfl, rfl⟩ | ⟨_, rfl, rfl⟩ | ⟨_, rfl, rfl⟩ | ⟨_, rfl, rfl⟩
        · cases t1; unfold eqW; exact RcNeAt.none_tuple p hu0
        · cases t1; unfold eqW; exact RcNeAt.bool_tuple _ p hu0
        · obtain ⟨t, rfl⟩ := t1; unfold eqW; exact RcNeAt.int_tuple _ t p hu0
        · obtain ⟨t, rfl⟩ := t1; unfold eqW; exact RcNeAt.str_tuple _ t p hu0
    | @lst ad1 _ _ _ e q r m =>
      subst e
      cases t1
      obtain ⟨its, p⟩ := isl q
      have k2 := kd_of rh r2 e2
      cases k2 with
      | flat f' z' =>
        rcases z' with ⟨rfl, rfl⟩ | ⟨_, rfl, rfl⟩ | ⟨_, rfl, rfl⟩ | ⟨_, rfl, rfl⟩
        · cases t2; unfold eqW; exact RcNeAt.list_none p hu0
        · cases t2; unfold eqW; exact RcNeAt.list_bool _ p hu0
        · obtain ⟨t, rfl⟩ := t2; unfold eqW; exact RcNeAt.list_int _ t p hu0
        · obtain ⟨t, rfl⟩ := t2; unfold eqW; exact RcNeAt.list_str _ t p hu0
      | tup e' q' =>
        subst e'
        cases t2
        obtain ⟨its', p'⟩ := ist q'
        unfold eqW; exact RcNeAt.list_tuple p p' hu0
      | lst e' q' r' m' =>
        subst e'
        cases t2
        unfold eqW
        exact rcne_lists I hu0 ih q q' r r' m m'
    | @tup ad1 _ _ _ e q r m =>
      subst e
      cases t1
      obtain ⟨its, p⟩ := ist q
      have k2 := kd_of rh r2 e2
      cases k2 with
      | flat f' z' =>
        rcases z' with ⟨rfl, rfl⟩ | ⟨_, rfl, rfl⟩ | ⟨_, rfl, rfl⟩ | ⟨_, rfl, rfl⟩
        · cases t2; unfold eqW; exact RcNeAt.tuple_none p hu0
        · cases t2; unfold eqW; exact RcNeAt.tuple_bool _ p hu0
        · obtain ⟨t, rfl⟩ := t2; unfold eqW; exact RcNeAt.tuple_int _ t p hu0
        · obtain ⟨t, rfl⟩ := t2; unfold eqW; exact RcNeAt.tuple_str _ t p hu0
      | lst e' q' =>
        subst e'
        cases t2
        obtain ⟨its', p'⟩ := isl q'
        unfold eqW; exact RcNeAt.tuple_list p p' hu0
      | tup e' q' r' m' =>
        subst e'
        cases t2
        unfold eqW
        exact rcne_tups I hu0 ih q q' r r' m m'
end
noncomputable def wEq (a b : W) (h : MH) : Option (W × MH) := (drf h 40 a).bind fun x => (drf h 40 b).map fun y => (.bl (eqW x y), h)
noncomputable def wNe (a b : W) (h : MH) : Option (W × MH) := (drf h 40 a).bind fun x => (drf h 40 b).map fun y => (.bl (!eqW x y), h)
theorem opM_id {K : PySem.W.Frag} {f : W → W → MH → Option (W × MH)} : OpM K (F2 K f) f := fun _ _ _ _ q => q
section
variable {X : Cx}
theorem opr_eq (hu : X.A.units + 64 < cLine) : OpR X (compareOp .Eq) (F2 X.K wEq) := by
  intro pins s σ H x y v u Q I rx ry q
  obtain ⟨R, h, a, b, w, h', rh, ra, rb, e, k⟩ := q
  obtain ⟨a', e1, e2⟩ := Option.bind_eq_some_iff.mp e
  obtain ⟨b', e3, e4⟩ := Option.map_eq_some_iff.mp e2
  cases e4
  exact rcAt_W I rh 40 X.A (by omega) a b x y v u a' b' ra rb rx ry e1 e3 _ _ _ _ ⟨.bl _, H, I, rfl, k R H _ (Ext.refl _) rh (Rw.bl _)⟩
theorem opr_ne (hu : X.A.units + 64 < cLine) : OpR X (compareOp .NotEq) (F2 X.K wNe) := by
  intro pins s σ H x y v u Q I rx ry q
  obtain ⟨R, h, a, b, w, h', rh, ra, rb, e, k⟩ := q
  obtain ⟨a', e1, e2⟩ := Option.bind_eq_some_iff.mp e
  obtain ⟨b', e3, e4⟩ := Option.map_eq_some_iff.mp e2
  cases e4
  exact rcneAt_W I rh 40 X.A (by omega) a b x y v u a' b' ra rb rx ry e1 e3 _ _ _ _ ⟨.bl _, H, I, rfl, k R H _ (Ext.refl _) rh (Rw.bl _)⟩
noncomputable def inW (x : W) (xs : List W) : Bool := xs.any fun y => eqW y x
noncomputable def wIn (neg : Bool) (a b : W) (h : MH) : Option (W × MH) := match b with
  | .tup ys => (drf h 40 a).bind fun x => (mapO (drf h 40) ys).map fun zs => (.bl (if neg then !inW x zs else inW x zs), h)
  | b => (lsW h b).bind fun ys => (drf h 40 a).bind fun x => (mapO (drf h 40) ys).map fun zs => (.bl (if neg then !inW x zs else inW x zs), h)
open Classical in
noncomputable def hitU (K : PySem.W.Frag) (R : Rn) (h : MH) (x : W) (u : Value) : Bool := decide (∃ w v a, Rw K R w v ∧ RelV v u ∧ drf h 40 w = some a ∧ eqW a x = true)
open Classical in
theorem hitU_of {pins : List (Addr × Obj)} {σ : L2.St} {H : Hp} {s : Shared} {R : Rn} {h : MH} (I : Inv X pins σ H s) (rh : Rh X.K R h H) {x w a : W} {v : V} {u : Value} (r : Rw X.K R w v) (t : RelV v u) (e : drf h 40 w = some a) : hitU X.K R h x u = eqW a x := by
  unfold hitU
  by_cases q : eqW a x = true
  · rw [q]; exact decide_eq_true ⟨w, v, a, r, t, e, q⟩
  · have q' : eqW a x = false := by simpa using q
    rw [q']
    refine decide_eq_false fun ⟨w', v', a', r', t', e', z⟩ => ?_
    have := t.inj t'
    subst this
    rw [drf_same I rh 40 w w' v a a' r r' e e', z] at q'
    cases q'
theorem hit_any {pins : List (Addr × Obj)} {σ : L2.St} {H : Hp} {s : Shared} {R : Rn} {h : MH} (I : Inv X pins σ H s) (rh : Rh X.K R h H) {x : W} : ∀ {ws as : List W} {xs : List V} {us : List Value}, Rws X.K R ws xs → Vals xs us → mapO (drf h 40) ws = some as → us.any (hitU X.K R h x) = inW x as
  | [], _, _, _, r, t, m => by
    rw [Rws.nil_iff] at r; subst r; cases t; cases m; rfl
  | w :: ws, _, _, _, r, t, m => by
    rw [Rws.cons_iff] at r
    obtain ⟨v, xs', rfl, r1, r2⟩ := r
    cases t with
    | cons t1 t2 =>
      obtain ⟨y, h1, h2⟩ := Option.bind_eq_some_iff.mp m
      obtain ⟨zs, h3, h4⟩ := Option.map_eq_some_iff.mp h2
      subst h4
      have ih := hit_any I rh (x := x) r2 t2 h3
      unfold inW at ih ⊢
      rw [List.any_cons, List.any_cons, hitU_of I rh r1 t1 h1, ih]
theorem hit_eqAt {pins : List (Addr × Obj)} {σ : L2.St} {H : Hp} {s : Shared} {R : Rn} {h : MH} (I : Inv X pins σ H s) (rh : Rh X.K R h H) {A : Around} (hu : A.units + 40 < cLine) {a x : W} {v : V} {u : Value} (ra : Rw X.K R a v) (ta : RelV v u) (ea : drf h 40 a = some x) {ws as : List W} {xs : List V} {us : List Value}
    (r : Rws X.K R ws xs) (t : Vals xs us) (m : mapO (drf h 40) ws = some as) : ∀ y ∈ us, EqAt A s y u (hitU X.K R h x y) := by
  intro y hy
  obtain ⟨i, hi, e⟩ := List.mem_iff_getElem.mp hy
  have l1 := r.length; have l2 := t.length
  obtain ⟨w, hw⟩ : ∃ w, ws[i]? = some w := ⟨ws[i]'(by omega), List.getElem?_eq_getElem _⟩
  obtain ⟨v', hv, rv⟩ := r.get hw
  obtain ⟨u', hu', ru⟩ := t.get hv
  rw [List.getElem?_eq_getElem hi, e] at hu'
  cases hu'
  obtain ⟨b, hb, eb⟩ := (mapO_get m).2 i w hw
  rw [hitU_of I rh rv ru eb]
  exact eqAt_W I rh 40 A hu w a v' v y u b x rv ra ru ta eb ea
theorem opr_in (hu : X.A.units + 64 < cLine) : OpR X (compareOp .In) (F2 X.K (wIn false)) := by
  intro pins s σ H x y v u Q I rx ry q
  obtain ⟨R, h, a, b, w, h', rh, ra, rb, e, k⟩ := q
  have hu' : X.A.in1.units + 40 < cLine := by show X.A.units + 1 + 40 < cLine; omega
  have main : ∀ ys, ((drf h 40 a).bind fun x => (mapO (drf h 40) ys).map fun zs => ((W.bl (if false then !inW x zs else inW x zs), h) : W × MH)) = some (w, h') → ∃ x' zs, drf h 40 a = some x' ∧ mapO (drf h 40) ys = some zs ∧ w = .bl (inW x' zs) ∧ h' = h := fun ys e => by
    obtain ⟨x', e1, e2⟩ := Option.bind_eq_some_iff.mp e
    obtain ⟨zs, e3, e4⟩ := Option.map_eq_some_iff.mp e2
    cases e4
    exact ⟨x', zs, e1, e3, rfl, rfl⟩
  have fin : ∀ {x' : W} {zs ws : List W} {xs : List V} {its : List Value}, Rws X.K R ws xs → Vals xs its → drf h 40 a = some x' → mapO (drf h 40) ws = some zs → w = .bl (inW x' zs) → h' = h → EP X pins σ Q (.bool (its.toArray.any (hitU X.K R h x'))) s := fun {x' zs ws xs its} r t ea em ew eh => by
    subst ew eh
    rw [List.any_toArray, hit_any I rh r t em]
    exact ⟨.bl _, H, I, rfl, k R H _ (Ext.refl _) rh (Rw.bl _)⟩
  unfold wIn at e
  split at e
  · rename_i ys
    obtain ⟨x', zs, e1, e3, ew, eh⟩ := main ys e
    obtain ⟨ad, xs, rfl, q1, r1⟩ := rh.tupAt rb
    cases ry
    obtain ⟨its, t1, p1, _⟩ := I.tuple q1
    exact in_tupleAt (hitU X.K R h x') (show s.heap.IsTuple ad its.toArray from p1) (fun z hz => hit_eqAt I rh hu' ra rx e1 r1 t1 e3 z (by simpa using hz)) (fin r1 t1 e1 e3 ew eh)
  · obtain ⟨ys, e0, e⟩ := Option.bind_eq_some_iff.mp e
    obtain ⟨x', zs, e1, e3, ew, eh⟩ := main ys e
    obtain ⟨ad, xs, rfl, q1, r1⟩ := rh.lsAt rb e0
    cases ry
    obtain ⟨its, t1, p1, _⟩ := I.list q1
    exact in_listAt (hitU X.K R h x') p1.isList (fun z hz => hit_eqAt I rh hu' ra rx e1 r1 t1 e3 z (by simpa using hz)) (fin r1 t1 e1 e3 ew eh)
end
end Mi

namespace Mi
open PySem PySem.Spec PyProof.Rows L2

noncomputable def wAdd (a b : W) (h : MH) : Option (W × MH) := match a, b with
  | .int i, .int j => some (.int (i + j), h)
  | .str x, .str y => if x.length + y.length ≤ sizeLine then some (.str (x ++ y), h) else none
  | .tup xs, .tup ys => if xs.length + ys.length ≤ sizeLine then some (.tup (xs ++ ys), h) else none
  | a, b => (loW h a).bind fun xs => (loW h b).bind fun ys => if xs.length + ys.length ≤ sizeLine then some (.lst (xs ++ ys), h) else none
noncomputable def wSub (a b : W) (h : MH) : Option (W × MH) := match a, b with | .int i, .int j => some (.int (i - j), h) | _, _ => none
noncomputable def wMul (a b : W) (h : MH) : Option (W × MH) := match a, b with | .int i, .int j => if (-(2 ^ 64) < i ∧ i < 2 ^ 64) ∨ (-(2 ^ 64) < j ∧ j < 2 ^ 64) then some (.int (i * j), h) else none | _, _ => none
noncomputable def wDiv (a b : W) (h : MH) : Option (W × MH) := match a, b with | .int i, .int j => if 0 < j ∧ j < 1073741824 then some (.int (i / j), h) else none | _, _ => none
noncomputable def wMod (a b : W) (h : MH) : Option (W × MH) := match a, b with | .int i, .int j => if 0 < j then some (.int (i % j), h) else none | _, _ => none
noncomputable def wPow (a b : W) (h : MH) : Option (W × MH) := match a, b with | .int i, .int j => if 0 ≤ j ∧ j ≤ 1000000 ∧ i.natAbs < 2 ^ 64 then some (.int (i ^ j.toNat), h) else none | _, _ => none
noncomputable def wLt (a b : W) (h : MH) : Option (W × MH) := match a, b with | .int i, .int j => some (.bl (decide (i < j)), h) | .str x, .str y => some (.bl (decide (x.cps.toList < y.cps.toList)), h) | _, _ => none
noncomputable def wGt (a b : W) (h : MH) : Option (W × MH) := match a, b with | .int i, .int j => some (.bl (decide (j < i)), h) | _, _ => none
noncomputable def wGe (a b : W) (h : MH) : Option (W × MH) := match a, b with | .int i, .int j => some (.bl (decide (j ≤ i)), h) | _, _ => none
noncomputable def isNonW : W → Bool
  | .non => true
  | _ => false
noncomputable def wIs (a b : W) (h : MH) : Option (W × MH) := match b with
  | .non => some (.bl (isNonW a), h)
  | .bl y => match a with | .bl x => some (.bl (x == y), h) | _ => none
  | _ => none
theorem rw_non {K : PySem.W.Frag} {R : Rn} {a : W} {v : V} (r : Rw K R a v) : decide (v = .non) = isNonW a := by
  cases a with
  | non => rw [r.non_eq]; rfl
  | bl _ => rw [r.bl_eq]; rfl
  | int _ => rw [r.int_eq]; rfl
  | str _ => rw [r.str_eq]; rfl
  | ty _ => rw [r.ty_eq]; rfl
  | tup _ => unfold Rw at r; obtain ⟨_, _, rfl, _⟩ := r; rfl
  | lst _ => unfold Rw at r; obtain ⟨_, _, rfl, _⟩ := r; rfl
  | frz _ => unfold Rw at r; obtain ⟨_, _, rfl, _⟩ := r; rfl
  | ref _ => unfold Rw at r; obtain ⟨_, rfl⟩ := r; rfl
section
variable {X : Cx}
noncomputable def rCatA (K : PySem.W.Frag) : R2 := fun x y H Q => ∃ a b xs ys, x = .ref a ∧ y = .ref b ∧ SqT K H a xs ∧ SqT K H b ys ∧ xs.length + ys.length ≤ sizeLine ∧
  (xs = [] → Q (.ref b) H) ∧ (xs ≠ [] → ys = [] → Q (.ref a) H) ∧ (xs ≠ [] → ys ≠ [] → ∀ p, H p = none → Q (.ref p) (upd H p (.tup (xs ++ ys))))
theorem op_catA : OpR X (binaryOp .Add) (rCatA X.K) := by
  intro pins s σ H x y v u Q I rx ry h
  obtain ⟨a, b, xs, ys, rfl, rfl, ha, hb, hz, q0, q1, q2⟩ := h
  by_cases hx : xs = []
  · subst hx
    cases rx
    cases ry
    obtain ⟨its, r1, p1, _⟩ := I.tuple ha
    obtain ⟨its2, r2, p2, _⟩ := I.tuple hb
    cases r1
    obtain ⟨⟨cls, dd, data, sl⟩, ho, hc, n, hd⟩ := id p1
    obtain ⟨⟨cls2, dd2, data2, sl2⟩, ho2, hc2, n2, hd2⟩ := id p2
    simp only at hc hd hc2 hd2
    subst hc hd hc2 hd2
    exact concat_meets ⟨_, ho, rfl⟩ ⟨_, ho2, rfl⟩ noFill_tuple_add seq_tuple_add PySem.F.slot_tuple_add PySem.F.entry_tuple_add (PySem.F.args_tuple_add_2 _ _)
      (tuple_addW0 a b #[] its2.toArray n n2 dd dd2 sl sl2 (by simp)) ⟨ho, ho2, ⟨.ref b, H, I, rfl, q0 rfl⟩⟩
  · exact op_catT pins s σ H _ _ v u Q I rx ry ⟨a, b, xs, ys, rfl, rfl, ha, hb, hx, hz, q1 hx, q2 hx⟩
theorem op_isB : OpR X (compareOp .Is) (fun x y H Q => ∃ i j, x = .bl i ∧ y = .bl j ∧ Q (.bl (i == j)) H) := by
  intro pins s σ H x y v u Q I rx ry h
  obtain ⟨i, j, rfl, rfl, q⟩ := h
  cases rx
  cases ry
  exact is_bool ⟨.bl _, H, I, rfl, q⟩
theorem opr_add : OpR X (binaryOp .Add) (F2 X.K wAdd) := by
  intro pins s σ H x y v u Q I rx ry q
  refine (op_add.or (op_add_str.or (op_catA.or op_cat))) pins s σ H x y v u Q I rx ry ?_
  obtain ⟨R, h, a, b, w, h', rh, ra, rb, e, k⟩ := q
  unfold wAdd at e
  split at e
  · cases e
    exact .inl ⟨_, _, ra.int_eq, rb.int_eq, k R H _ (Ext.refl _) rh (Rw.int _)⟩
  · split at e
    · rename_i hl
      cases e
      exact .inr (.inl ⟨_, _, ra.str_eq, rb.str_eq, hl, k R H _ (Ext.refl _) rh (Rw.str _)⟩)
    · cases e
  · split at e
    · rename_i xs ys hl
      cases e
      obtain ⟨ad, xv, e1, q1, r1⟩ := rh.tupAt ra
      obtain ⟨bd, yv, e2, q2, r2⟩ := rh.tupAt rb
      have l1 := r1.length; have l2 := r2.length
      refine .inr (.inr (.inl ⟨ad, bd, xv, yv, e1, e2, q1, q2, by omega, fun z => ?_, fun _ z => ?_, fun _ _ p hp => ?_⟩))
      · subst z
        have : xs = [] := List.length_eq_zero_iff.mp l1
        subst this
        exact k R H _ (Ext.refl _) rh (e2 ▸ rb)
      · subst z
        have : ys = [] := List.length_eq_zero_iff.mp l2
        subst this
        rw [List.append_nil] at k
        exact k R H _ (Ext.refl _) rh (e1 ▸ ra)
      · obtain ⟨R3, x3, rh3, rw3⟩ := rh.tup hp (Rws.append r1 r2)
        exact k R3 _ _ x3 rh3 rw3
    · cases e
  · obtain ⟨xs, e1, e⟩ := Option.bind_eq_some_iff.mp e
    obtain ⟨ys, e2, e⟩ := Option.bind_eq_some_iff.mp e
    split at e
    · rename_i hl
      cases e
      obtain ⟨ad, xv, f1, q1, r1⟩ := rh.loAt ra e1
      obtain ⟨bd, yv, f2, q2, r2⟩ := rh.loAt rb e2
      have l1 := r1.length; have l2 := r2.length
      refine .inr (.inr (.inr ⟨ad, bd, xv, yv, f1, f2, q1, q2, by omega, fun p hp => ?_⟩))
      obtain ⟨R3, x3, rh3, rw3⟩ := rh.lstI hp (Rws.append r1 r2)
      exact k R3 _ _ x3 rh3 rw3
    · cases e
theorem opr_sub : OpR X (binaryOp .Sub) (F2 X.K wSub) := by
  intro pins s σ H x y v u Q I rx ry q
  refine op_sub pins s σ H x y v u Q I rx ry ?_
  obtain ⟨R, h, a, b, w, h', rh, ra, rb, e, k⟩ := q
  unfold wSub at e
  split at e
  · cases e
    exact ⟨_, _, ra.int_eq, rb.int_eq, k R H _ (Ext.refl _) rh (Rw.int _)⟩
  · cases e
theorem opr_mul : OpR X (binaryOp .Mult) (F2 X.K wMul) := by
  intro pins s σ H x y v u Q I rx ry q
  refine op_mul pins s σ H x y v u Q I rx ry ?_
  obtain ⟨R, h, a, b, w, h', rh, ra, rb, e, k⟩ := q
  unfold wMul at e
  split at e
  · split at e
    · rename_i hl
      cases e
      exact ⟨_, _, ra.int_eq, rb.int_eq, hl, k R H _ (Ext.refl _) rh (Rw.int _)⟩
    · cases e
  · cases e
theorem opr_div : OpR X (binaryOp .FloorDiv) (F2 X.K wDiv) := by
  intro pins s σ H x y v u Q I rx ry q
  refine op_fdiv pins s σ H x y v u Q I rx ry ?_
  obtain ⟨R, h, a, b, w, h', rh, ra, rb, e, k⟩ := q
  unfold wDiv at e
  split at e
  · split at e
    · rename_i hl
      cases e
      exact ⟨_, _, ra.int_eq, rb.int_eq, hl, k R H _ (Ext.refl _) rh (Rw.int _)⟩
    · cases e
  · cases e
theorem opr_mod : OpR X (binaryOp .Mod) (F2 X.K wMod) := by
  intro pins s σ H x y v u Q I rx ry q
  refine op_mod pins s σ H x y v u Q I rx ry ?_
  obtain ⟨R, h, a, b, w, h', rh, ra, rb, e, k⟩ := q
  unfold wMod at e
  split at e
  · split at e
    · rename_i hl
      cases e
      exact ⟨_, _, ra.int_eq, rb.int_eq, hl, k R H _ (Ext.refl _) rh (Rw.int _)⟩
    · cases e
  · cases e
theorem opr_pow : OpR X (binaryOp .Pow) (F2 X.K wPow) := by
  intro pins s σ H x y v u Q I rx ry q
  refine op_pow pins s σ H x y v u Q I rx ry ?_
  obtain ⟨R, h, a, b, w, h', rh, ra, rb, e, k⟩ := q
  unfold wPow at e
  split at e
  · split at e
    · rename_i hl
      cases e
      exact ⟨_, _, ra.int_eq, rb.int_eq, hl, k R H _ (Ext.refl _) rh (Rw.int _)⟩
    · cases e
  · cases e
theorem opr_lt : OpR X (compareOp .Lt) (F2 X.K wLt) := by
  intro pins s σ H x y v u Q I rx ry q
  refine (op_lt.or op_lt_str) pins s σ H x y v u Q I rx ry ?_
  obtain ⟨R, h, a, b, w, h', rh, ra, rb, e, k⟩ := q
  unfold wLt at e
  split at e
  · cases e
    exact .inl ⟨_, _, ra.int_eq, rb.int_eq, k R H _ (Ext.refl _) rh (Rw.bl _)⟩
  · cases e
    exact .inr ⟨_, _, ra.str_eq, rb.str_eq, k R H _ (Ext.refl _) rh (Rw.bl _)⟩
  · cases e
theorem opr_gt : OpR X (compareOp .Gt) (F2 X.K wGt) := by
  intro pins s σ H x y v u Q I rx ry q
  refine op_gt pins s σ H x y v u Q I rx ry ?_
  obtain ⟨R, h, a, b, w, h', rh, ra, rb, e, k⟩ := q
  unfold wGt at e
  split at e
  · cases e
    exact ⟨_, _, ra.int_eq, rb.int_eq, k R H _ (Ext.refl _) rh (Rw.bl _)⟩
  · cases e
theorem opr_ge : OpR X (compareOp .GtE) (F2 X.K wGe) := by
  intro pins s σ H x y v u Q I rx ry q
  refine op_ge pins s σ H x y v u Q I rx ry ?_
  obtain ⟨R, h, a, b, w, h', rh, ra, rb, e, k⟩ := q
  unfold wGe at e
  split at e
  · cases e
    exact ⟨_, _, ra.int_eq, rb.int_eq, k R H _ (Ext.refl _) rh (Rw.bl _)⟩
  · cases e
theorem opr_is : OpR X (compareOp .Is) (F2 X.K wIs) := by
  intro pins s σ H x y v u Q I rx ry q
  refine (op_isN.or op_isB) pins s σ H x y v u Q I rx ry ?_
  obtain ⟨R, h, a, b, w, h', rh, ra, rb, e, k⟩ := q
  unfold wIs at e
  split at e
  · cases e
    exact .inl ⟨rb.non_eq, by rw [rw_non ra]; exact k R H _ (Ext.refl _) rh (Rw.bl _)⟩
  · split at e
    · cases e
      exact .inr ⟨_, _, ra.bl_eq, rb.bl_eq, k R H _ (Ext.refl _) rh (Rw.bl _)⟩
    · cases e
  · cases e
noncomputable def wNeg (a : W) (h : MH) : Option (W × MH) := match a with | .int i => some (.int (-i), h) | _ => none
theorem pm_neg {a : Expr} {ma : ME} {pos : Pos} (ha : PM X a ma) : PM X (.UnaryOp .USub a pos) (mUn wNeg ma) := pe_imp (pe_un un_neg ha) fun σ H Q q => tI_mono (un1 q) <| by
  rintro x H1 ⟨R, h, a, w, h', rh, ra, e, k⟩
  unfold wNeg at e
  split at e
  · cases e
    exact ⟨_, ra.int_eq, k R H1 _ (Ext.refl _) rh (Rw.int _)⟩
  · cases e
noncomputable def wIx (a b : W) (h : MH) : Option (W × MH) := match b with
  | .int i => match a with
    | .tup ws => (atI ws i).map fun w => (w, h)
    | .str x => if x.length ≤ sizeLine then (atI x.cps.toList i).map fun c => (.str ⟨#[c]⟩, h) else none
    | a => (lsW h a).bind fun ws => (atI ws i).map fun w => (w, h)
  | _ => none
theorem atI_rel {K : PySem.W.Frag} {R : Rn} {ws : List W} {xs : List V} (r : Rws K R ws xs) {i : Int} {w : W} (e : atI ws i = some w) : ∃ v, atI xs i = some v ∧ Rw K R w v := by
  unfold atI at e ⊢
  rw [← r.length]
  obtain ⟨j, e1, e2⟩ := Option.bind_eq_some_iff.mp e
  obtain ⟨v, e3, e4⟩ := r.get e2
  exact ⟨v, by rw [e1]; exact e3, e4⟩
theorem ixr_all : IxR X (F2 X.K wIx) := by
  intro value slice pins s σ H x y v u Q I rx ry q hs
  refine ix_seq value slice pins s σ H x y v u Q I rx ry ?_ hs
  obtain ⟨R, h, a, b, w, h', rh, ra, rb, e, k⟩ := q
  unfold wIx at e
  split at e
  · rename_i i
    split at e
    · rename_i ws
      obtain ⟨w1, e1, e2⟩ := Option.map_eq_some_iff.mp e
      cases e2
      obtain ⟨ad, xs, rfl, q1, r1⟩ := rh.tupAt ra
      obtain ⟨v1, e3, r3⟩ := atI_rel r1 e1
      exact .inr (.inl ⟨ad, xs, i, v1, rfl, rb.int_eq, q1, e3, k R H _ (Ext.refl _) rh r3⟩)
    · split at e
      · rename_i hl
        obtain ⟨c, e1, e2⟩ := Option.map_eq_some_iff.mp e
        cases e2
        exact .inr (.inr ⟨_, i, c, ra.str_eq, rb.int_eq, hl, e1, k R H _ (Ext.refl _) rh (Rw.str _)⟩)
      · cases e
    · obtain ⟨ws, e0, e⟩ := Option.bind_eq_some_iff.mp e
      obtain ⟨w1, e1, e2⟩ := Option.map_eq_some_iff.mp e
      cases e2
      obtain ⟨ad, xs, rfl, q1, r1⟩ := rh.lsAt ra e0
      obtain ⟨v1, e3, r3⟩ := atI_rel r1 e1
      exact .inl ⟨ad, xs, i, v1, rfl, rb.int_eq, q1, e3, k R H _ (Ext.refl _) rh r3⟩
  · cases e
theorem pm_ix {a b : Expr} {ma mb : ME} {pos : Pos} (ha : PM X a ma) (hb : PM X b mb) (hs : PlainIx b := by intro _ _; rfl) : PM X (.Subscript a b pos) (mBin wIx ma mb) :=
  pe_imp (pe_ix ixr_all ha hb hs) fun _ _ _ q => tI_mono (bin2 q) fun _ _ q1 => tI_mono q1 fun _ _ q2 => q2
noncomputable def wLen (ws : List W) (h : MH) : Option (W × MH) := match ws with
  | [.str x] => if x.length ≤ sizeLine then some (.int x.length, h) else none
  | [.tup ws] => some (.int ws.length, h)
  | [a] => (lsW h a).map fun ws => (.int ws.length, h)
  | _ => none
theorem callM_id {K : PySem.W.Frag} {f : List W → MH → Option (W × MH)} : CallM K (Fs K f) f := fun _ _ _ q => q
theorem rws1 {K : PySem.W.Frag} {R : Rn} {a : W} {xs : List V} (r : Rws K R [a] xs) : ∃ v, xs = [v] ∧ Rw K R a v := by
  rw [Rws.cons_iff] at r
  obtain ⟨v, vs, rfl, r1, r2⟩ := r
  rw [Rws.nil_iff] at r2
  subst r2
  exact ⟨v, rfl, r1⟩
theorem rws2 {K : PySem.W.Frag} {R : Rn} {a b : W} {xs : List V} (r : Rws K R [a, b] xs) : ∃ v u, xs = [v, u] ∧ Rw K R a v ∧ Rw K R b u := by
  rw [Rws.cons_iff] at r
  obtain ⟨v, vs, rfl, r1, r2⟩ := r
  obtain ⟨u, rfl, r3⟩ := rws1 r2
  exact ⟨v, u, rfl, r1, r3⟩
theorem callr_len : CallR X (.builtin "len") (Fs X.K wLen) := by
  intro pins s σ H xs us Q I r q
  refine (call_len_seq.or call_len_str) pins s σ H xs us Q I r ?_
  obtain ⟨R, h, ws, w, h', rh, rw, e, k⟩ := q
  unfold wLen at e
  split at e
  · split at e
    · rename_i hl
      cases e
      obtain ⟨v, rfl, r1⟩ := rws1 rw
      exact .inr ⟨_, by rw [r1.str_eq], hl, k R H _ (Ext.refl _) rh (Rw.int _)⟩
    · cases e
  · cases e
    obtain ⟨v, rfl, r1⟩ := rws1 rw
    obtain ⟨ad, xs, rfl, q1, r2⟩ := rh.tupAt r1
    exact .inl ⟨ad, xs, rfl, .inr q1, by rw [← r2.length]; exact k R H _ (Ext.refl _) rh (Rw.int _)⟩
  · obtain ⟨ys, e1, e2⟩ := Option.map_eq_some_iff.mp e
    cases e2
    obtain ⟨v, rfl, r1⟩ := rws1 rw
    obtain ⟨ad, xs, rfl, q1, r2⟩ := rh.lsAt r1 e1
    exact .inl ⟨ad, xs, rfl, .inl q1, by rw [← r2.length]; exact k R H _ (Ext.refl _) rh (Rw.int _)⟩
  · cases e
noncomputable def wTuple (ws : List W) (h : MH) : Option (W × MH) := match ws with
  | [.tup ws] => some (.tup ws, h)
  | [a] => (lsW h a).map fun ws => (.tup ws, h)
  | _ => none
theorem callr_tuple : CallR X (.type "tuple") (Fs X.K wTuple) := by
  intro pins s σ H xs us Q I r q
  refine call_tuple_of pins s σ H xs us Q I r ?_
  obtain ⟨R, h, ws, w, h', rh, rw, e, k⟩ := q
  unfold wTuple at e
  split at e
  · cases e
    obtain ⟨v, rfl, r1⟩ := rws1 rw
    obtain ⟨ad, xs, rfl, q1, r2⟩ := rh.tupAt r1
    exact ⟨ad, xs, rfl, .inr ⟨q1, k R H _ (Ext.refl _) rh r1⟩⟩
  · obtain ⟨ys, e1, e2⟩ := Option.map_eq_some_iff.mp e
    cases e2
    obtain ⟨v, rfl, r1⟩ := rws1 rw
    obtain ⟨ad, xs, rfl, q1, r2⟩ := rh.lsAt r1 e1
    refine ⟨ad, xs, rfl, .inl ⟨q1, fun p hp => ?_⟩⟩
    obtain ⟨R3, x3, rh3, rw3⟩ := rh.tup hp r2
    exact k R3 _ _ x3 rh3 rw3
  · cases e
end
end Mi

namespace Mi
open PySem PySem.Spec PyProof.Rows L2

section
variable {prog : Program} {w : World} {A : Around} {E : Value → Shared → Prop} {s : Shared}
theorem getItem_tuple_whole {t sl : Addr} {items : Array Value} {vl vu : Value} {lo hi : Option Int} {Q : Value → Shared → Prop} (ht : IsTup s.heap t items) (hs : s.heap.IsSliceOf sl vl vu .none) (pl : IsPart vl lo) (pu : IsPart vu hi)
    (hw : HT.sIx items.size 0 lo = 0 ∧ HT.sIx items.size items.size hi = items.size) (h : Q (.ref t) s) : wpAny (model prog w) A (getItem (.ref t) (.ref sl)) Q E s := by
  obtain ⟨os, hos, hcs, hds⟩ := id hs
  have hTs : s.TypeIs (.ref sl) "slice" := ⟨os, hos, hcs⟩
  unfold getItem
  try with_reducible refine wpAny_holding ?_
  first | refine wpAny_bind (wpAny_pure ?_) | skip
  refine wpAny_bind (wpAny_sequenceKey ht.typeIs (by decide) ?_)
  refine wpAny_bind (wpAny_callSpecial?_slot (name := Str.ofString "__getitem__") ht.typeIs PyProof.Rows.slot_tuple_getitem
    (wpAny_call_entry PyProof.Rows.slot_tuple_getitem ht.typeIs entry_tuple_getitem ?_ (args_tuple_getitem _ _)))
  show wpAny _ _ (Builtin.Tuple.tupleItemsOf (.ref t) >>= _) _ _ s
  refine wpAny_bind (tupleItemsOf_ ht ?_)
  refine wpAny_bind (wpAny_typeOf hTs ?_)
  rw [if_pos (by decide)]
  refine wpAny_bind (HT.sliceApplied_gen hs pl pu ?_)
  have hno : ((((HT.sIx items.size 0 lo : Nat) : Int) == 0 && (1 : Int) == 1 && (HT.sIx items.size items.size hi - HT.sIx items.size 0 lo) == items.size) = true) := by
    rw [hw.1, hw.2]; simp
  show wpAny _ _ (if (((HT.sIx items.size 0 lo : Nat) : Int) == 0 && (1 : Int) == 1 && (HT.sIx items.size items.size hi - HT.sIx items.size 0 lo) == items.size) = true then _ else _) _ _ s
  rw [if_pos hno]
  refine wpAny_bind (m := Builtin.Tuple.tupleIsExact _) ?_
  unfold Builtin.Tuple.tupleIsExact
  refine wpAny_bind (wpAny_typeOf ht.typeIs (wpAny_pure ?_))
  rw [if_pos (by decide)]
  exact wpAny_bind (wpAny_rule (wpAny_pure ⟨_, rfl, wpAny_pure h⟩))
end
noncomputable def cutW {α : Type} (xs : List α) (lo hi : Option Int) : List α := (xs.drop (HT.sIx xs.length 0 lo)).take (HT.sIx xs.length xs.length hi - HT.sIx xs.length 0 lo)
noncomputable def wSl (a : W) (lo hi : Option Int) (h : MH) : Option (W × MH) := match a with
  | .tup ws => some (.tup (cutW ws lo hi), h)
  | .str x => if x.length ≤ sizeLine then some (.str (Txt.slice x lo hi), h) else none
  | a => (lsW h a).map fun ws => (.lst (cutW ws lo hi), h)
theorem cut_rel {K : PySem.W.Frag} {R : Rn} {ws : List W} {xs : List V} (r : Rws K R ws xs) (lo hi : Option Int) : Rws K R (cutW ws lo hi) (cutV xs lo hi) := by
  unfold cutW cutV
  rw [r.length]
  exact (r.drop _).take _
theorem cutW_whole {α : Type} {xs : List α} {lo hi : Option Int} (h : HT.sIx xs.length 0 lo = 0 ∧ HT.sIx xs.length xs.length hi = xs.length) : cutW xs lo hi = xs := by
  unfold cutW
  rw [h.1, h.2]; simp
noncomputable abbrev MOp := MSt → MH → Option (Option Int × MH)
noncomputable def tIO (K : PySem.W.Frag) (m : MOp) : TO := fun σ H Q => ∃ R σi h o h', Rh K R h H ∧ Rst K R σi σ ∧ m σi h = some (o, h') ∧ ∀ R' H', Ext R R' → Rh K R' h' H' → Q o H'
noncomputable def PMO (X : Cx) (e : Option Expr) (m : MOp) : Prop := PO X e (tIO X.K m)
noncomputable def oNone : MOp := fun _ h => some (none, h)
noncomputable def oSome (m : ME) : MOp := fun σ h => (m σ h).bind fun p => match p.1 with | .int i => some (some i, p.2) | _ => none
noncomputable def mSl (ma : ME) (ml mh : MOp) : ME := fun σ h => (ma σ h).bind fun p => (ml σ p.2).bind fun q => (mh σ q.2).bind fun r => wSl p.1 q.1 r.1 r.2
section
variable {X : Cx}
theorem sl_tupA : SlR X (fun x lo hi H Q => ∃ a xs, x = .ref a ∧ SqT X.K H a xs ∧ ((HT.sIx xs.length 0 lo = 0 ∧ HT.sIx xs.length xs.length hi = xs.length) → Q (.ref a) H) ∧
    (¬ (HT.sIx xs.length 0 lo = 0 ∧ HT.sIx xs.length xs.length hi = xs.length) → ∀ p, H p = none → Q (.ref p) (upd H p (.tup (cutV xs lo hi))))) := by
  intro pins s σ H x v vl vu lo hi sl Q I rx hs pl pu h
  obtain ⟨a, xs, rfl, hx, q1, q2⟩ := h
  by_cases hw : HT.sIx xs.length 0 lo = 0 ∧ HT.sIx xs.length xs.length hi = xs.length
  · cases rx
    obtain ⟨its, r, ht, hz⟩ := I.tuple hx
    have hlen : its.toArray.size = xs.length := by rw [List.size_toArray]; exact r.length.symm
    refine ⟨"tuple", _, PyProof.Rows.slot_tuple_getitem.lookup, ht.typeIs, ?_⟩
    exact getItem_tuple_whole ht hs pl pu (by rw [hlen]; exact hw) ⟨.ref a, H, I, rfl, q1 hw⟩
  · exact sl_tup pins s σ H (.ref a) v vl vu lo hi sl Q I rx hs pl pu ⟨a, xs, rfl, hx, hw, q2 hw⟩
theorem sl_str : SlR X (fun x lo hi H Q => ∃ z, x = .str z ∧ z.length ≤ sizeLine ∧ Q (.str (Txt.slice z lo hi)) H) := by
  intro pins s σ H x v vl vu lo hi sl Q I rx hs pl pu h
  obtain ⟨z, rfl, hz, q⟩ := h
  obtain ⟨t, rfl⟩ := rx
  refine ⟨"str", _, PySem.F.slot_str_getitem.lookup, typeIs_str _ _ _, ?_⟩
  have fin : ∀ (t' : Tok) (k : Nat), EP X pins σ Q (.str (Txt.slice z lo hi) t') { s with toks := k } := fun t' k => ⟨.str _, H, I.tok _, ⟨t', rfl⟩, q⟩
  cases pl with
  | none =>
    cases pu with
    | none => exact wpAny_getItem_str_slice (l := none) (u := none) (st := none) hs rfl (post_val_or_str ⟨Nat.le_trans (Txt.slice_le z _ _) hz, fin⟩)
    | int j tj => exact wpAny_getItem_str_slice (l := none) (u := some (j, tj)) (st := none) hs rfl (post_val_or_str ⟨Nat.le_trans (Txt.slice_le z _ _) hz, fin⟩)
  | int i ti =>
    cases pu with
    | none => exact wpAny_getItem_str_slice (l := some (i, ti)) (u := none) (st := none) hs rfl (post_val_or_str ⟨Nat.le_trans (Txt.slice_le z _ _) hz, fin⟩)
    | int j tj => exact wpAny_getItem_str_slice (l := some (i, ti)) (u := some (j, tj)) (st := none) hs rfl (post_val_or_str ⟨Nat.le_trans (Txt.slice_le z _ _) hz, fin⟩)
theorem pmo_none : PMO X none oNone := fun pins s σ H Q I ⟨R, σi, h, o, h', rh, st, e, k⟩ => by
  cases e
  exact po_none pins s σ H Q I (k R H (Ext.refl _) rh)
theorem pmo_some {e : Expr} {m : ME} (he : PM X e m) : PMO X (some e) (oSome m) := fun pins s σ H Q I ⟨R, σi, h, o, h', rh, st, e1, k⟩ => by
  refine po_some he pins s σ H Q I ?_
  obtain ⟨⟨w, h1⟩, e2, e3⟩ := Option.bind_eq_some_iff.mp e1
  refine ⟨R, σi, h, w, h1, rh, st, e2, fun R1 H1 v x1 rh1 rv => ?_⟩
  cases w <;> simp only at e3 <;> first | (cases e3; exact ⟨_, rv.int_eq, k R1 H1 x1 rh1⟩) | cases e3
theorem pm_slice {a : Expr} {lo hi : Option Expr} {ma : ME} {ml mh : MOp} {pos p2 : Pos} (ha : PM X a ma) (hl : PMO X lo ml) (hh : PMO X hi mh) : PM X (.Subscript a (.Slice lo hi none p2) pos) (mSl ma ml mh) :=
  pe_imp (pe_slice (sl_list.or (sl_tupA.or sl_str)) ha hl hh) fun σ H Q ⟨R, σi, h, w, h', rh, st, e, k⟩ => by
    obtain ⟨⟨a, h1⟩, ea, e2⟩ := Option.bind_eq_some_iff.mp e
    obtain ⟨⟨l, h2⟩, el, e3⟩ := Option.bind_eq_some_iff.mp e2
    obtain ⟨⟨u, h3⟩, eu, e4⟩ := Option.bind_eq_some_iff.mp e3
    refine ⟨R, σi, h, a, h1, rh, st, ea, fun R1 H1 x x1 rh1 rx => ⟨R1, σi, h1, l, h2, rh1, st.mono x1, el, fun R2 H2 x2 rh2 => ⟨R2, σi, h2, u, h3, rh2, st.mono (x1.trans x2), eu, fun R3 H3 x3 rh3 => ?_⟩⟩⟩
    have rx3 := Rw.mono (x2.trans x3) _ _ rx
    have k3 := k.ext (x1.trans (x2.trans x3))
    dsimp only at e4
    unfold wSl at e4
    split at e4
    · cases e4
      obtain ⟨ad, xs, rfl, q1, r1⟩ := rh3.tupAt rx3
      refine .inr (.inl ⟨ad, xs, rfl, q1, fun hw => ?_, fun _ p hp => ?_⟩)
      · rw [cutW_whole (by rw [r1.length]; exact hw)] at k3
        exact k3 R3 H3 _ (Ext.refl _) rh3 rx3
      · obtain ⟨R4, x4, rh4, rw4⟩ := rh3.tup hp (cut_rel r1 l u)
        exact k3 R4 _ _ x4 rh4 rw4
    · split at e4
      · rename_i hz
        cases e4
        exact .inr (.inr ⟨_, rx3.str_eq, hz, k3 R3 H3 _ (Ext.refl _) rh3 (Rw.str _)⟩)
      · cases e4
    · obtain ⟨ys, e5, e6⟩ := Option.map_eq_some_iff.mp e4
      cases e6
      obtain ⟨ad, xs, rfl, q1, r1⟩ := rh3.lsAt rx3 e5
      refine .inl ⟨ad, xs, rfl, q1, fun p hp => ?_⟩
      obtain ⟨R4, x4, rh4, rw4⟩ := rh3.lstI hp (cut_rel r1 l u)
      exact k3 R4 _ _ x4 rh4 rw4
end
noncomputable def MtMM (X : Cx) (id : String) (f : W → List W → MH → Option (W × MH)) : Prop :=
  MtR X id (fun x xs H Q => ∃ R h a ws w h', Rh X.K R h H ∧ Rw X.K R a x ∧ Rws X.K R ws xs ∧ f a ws h = some (w, h') ∧ After X.K R w h' Q)
noncomputable def tyW (h : MH) (T : String) : W → Bool
  | .str _ => T == "str"
  | .int _ => T == "int"
  | .lst _ => T == "list"
  | .frz _ => T == "list"
  | .ref n => match h[n]? with | some (.lst _) => T == "list" | some (.dic _) => T == "dict" | none => false
  | _ => false
noncomputable def mMt (T : String) (f : W → List W → MH → Option (W × MH)) (mo : ME) (ms : MA) : ME := fun σ h => (mo σ h).bind fun p => if tyW p.2 T p.1 = true then (ms σ p.2).bind fun q => f p.1 q.1 q.2 else none
theorem tyV_of {K : PySem.W.Frag} {R : Rn} {h : MH} {H : Hp} {T : String} {a : W} {x : V} (rh : Rh K R h H) (r : Rw K R a x) (e : tyW h T a = true) : tyV K T x H := by
  cases a with
  | str _ => rw [r.str_eq]; exact eq_of_beq e
  | int _ => rw [r.int_eq]; exact eq_of_beq e
  | lst _ =>
    obtain ⟨ad, xs, rfl, q, _⟩ := rh.lstAt r
    exact .inl ⟨eq_of_beq e, xs, SqL.of q⟩
  | frz _ =>
    obtain ⟨ad, xs, rfl, q, _⟩ := rh.frzAt r
    exact .inl ⟨eq_of_beq e, xs, q⟩
  | ref n =>
    simp only [tyW] at e
    split at e
    · rename_i ws hn
      obtain ⟨_, rfl, xs, h1, _⟩ := rh.refAt r hn
      exact .inl ⟨eq_of_beq e, xs, SqL.of h1⟩
    · rename_i kvs hn
      unfold Rw at r
      obtain ⟨kx, h1, _⟩ := rh.obj n _ hn
      rw [r.2]
      exact .inr (.inr (.inl ⟨eq_of_beq e, .inl ⟨kx, h1⟩⟩))
    · cases e
  | _ => cases e
section
variable {X : Cx} {o e : Expr} {es : List Expr} {mo : ME} {ms : MA} {name : Str} {apos cpos : Pos} {T id : String} {f : W → List W → MH → Option (W × MH)}
theorem few_of {X : Cx} {e : Expr} {es : List Expr} {cpos : Pos} (hfew : decide ((e :: es).length < 30) = true) (hs : isStar e = false) (hp : noStar es = true) :
    ((backTo cpos (starEach (e :: es) X.env)).all (fun x => !x.1) && (backToKw cpos (keywordEach [] X.env)).all (fun x => x.1.isSome)
      && decide ((e :: es).length + ([] : List Keyword).length + (if ([] : List Keyword).isEmpty then 0 else 1) < 30)) = true := by
  rw [all_star (by unfold noStar at hp ⊢; rw [List.all_cons, hs, hp]; rfl)]
  exact hfew
theorem pm_mt (pa : PlainAttrs T) (slot : Slot T name id) (hty : typeOf (.builtin id) = pure (.type "method_descriptor")) (hm : MtMM X id f) (ho : PM X o mo) (ha : PMA X (e :: es) ms)
    (hbase : attributeBase o name X.env (eval o X.env) = eval o X.env := by rfl) (hfew : decide ((e :: es).length < 30) = true := by rfl)
    (hline : (apos.endLine == cpos.line) = true := by rfl) (hs : isStar e = false := by rfl) (hplain : noStar es = true := by rfl) :
    PM X (.Call (.Attribute o name apos) (e :: es) [] cpos) (mMt T f mo ms) :=
  pe_imp (pe_bm pa slot hty hm ho ha hbase (few_of hfew hs hplain) hline (star_cons hs) (any_star hplain)) fun σ H Q ⟨R, σi, h, w, h', rh, st, e, k⟩ => by
    obtain ⟨⟨a, h1⟩, ea, e2⟩ := Option.bind_eq_some_iff.mp e
    dsimp only at e2
    split at e2
    · rename_i ht
      obtain ⟨⟨ws, h2⟩, es, e3⟩ := Option.bind_eq_some_iff.mp e2
      exact ⟨R, σi, h, a, h1, rh, st, ea, fun R1 H1 x x1 rh1 rx => ⟨tyV_of rh1 rx ht, R1, σi, h1, ws, h2, rh1, st.mono x1, es, fun R2 H2 xs x2 rh2 rxs => ⟨R2, h2, a, ws, w, h', rh2, Rw.mono x2 _ _ rx, rxs, e3, k.ext (x1.trans x2)⟩⟩⟩
    · cases e2
theorem pm_mt0 (pa : PlainAttrs T) (slot : Slot T name id) (hty : typeOf (.builtin id) = pure (.type "method_descriptor")) (hm : MtMM X id f) (ho : PM X o mo)
    (hbase : attributeBase o name X.env (eval o X.env) = eval o X.env := by rfl) (hline : (apos.endLine == cpos.line) = true := by rfl) : PM X (.Call (.Attribute o name apos) [] [] cpos) (mMt T f mo mNil) :=
  pe_imp (pe_bm0 pa slot hty hm ho hbase hline) fun σ H Q ⟨R, σi, h, w, h', rh, st, e, k⟩ => by
    obtain ⟨⟨a, h1⟩, ea, e2⟩ := Option.bind_eq_some_iff.mp e
    dsimp only at e2
    split at e2
    · rename_i ht
      obtain ⟨⟨ws, h2⟩, es, e3⟩ := Option.bind_eq_some_iff.mp e2
      cases es
      exact ⟨R, σi, h, a, h1, rh, st, ea, fun R1 H1 x x1 rh1 rx => ⟨tyV_of rh1 rx ht, R1, h1, a, [], w, h', rh1, rx, Rws.nil, e3, k.ext x1⟩⟩
    · cases e2
end
noncomputable def wAppend (a : W) (ws : List W) (h : MH) : Option (W × MH) := match a, ws with
  | .ref n, [w] => match h[n]? with | some (.lst xs) => if xs.length < sizeLine then some (.non, h.set n (.lst (xs ++ [w]))) else none | _ => none
  | _, _ => none
noncomputable def wExtend (a : W) (ws : List W) (h : MH) : Option (W × MH) := match a, ws with
  | .ref n, [w] => match h[n]? with | some (.lst xs) => (loW h w).bind fun ys => if xs.length + ys.length ≤ sizeLine then some (.non, h.set n (.lst (xs ++ ys))) else none | _ => none
  | _, _ => none
noncomputable def wPop (a : W) (ws : List W) (h : MH) : Option (W × MH) := match a, ws with
  | .ref n, [] => match h[n]? with | some (.lst xs) => (xs[xs.length - 1]?).map fun w => (w, h.set n (.lst xs.dropLast)) | _ => none
  | _, _ => none
section
variable {X : Cx}
theorem Rws.dropLast {K : PySem.W.Frag} {R : Rn} {ws : List W} {vs : List V} (r : Rws K R ws vs) : Rws K R ws.dropLast vs.dropLast := by
  rw [List.dropLast_eq_take, List.dropLast_eq_take, r.length]
  exact r.take _
theorem mtm_append : MtMM X "list.append" wAppend := by
  intro pins s σ H x xs v us Q I rx rv q
  refine mt_append pins s σ H x xs v us Q I rx rv ?_
  obtain ⟨R, h, a, ws, w, h', rh, ra, rws, e, k⟩ := q
  unfold wAppend at e
  split at e
  · rename_i n w1
    split at e
    · rename_i ys hn
      split at e
      · rename_i hl
        cases e
        obtain ⟨hlt, rfl, xv, h1, r1⟩ := rh.refAt ra hn
        obtain ⟨y, rfl, ry⟩ := rws1 rws
        refine ⟨_, xv, y, rfl, rfl, h1, by rw [← r1.length]; exact hl, ?_⟩
        exact k R _ _ (Ext.refl _) (rh.put hlt ⟨_, rfl, Rws.append r1 (Rws.cons ry Rws.nil)⟩) Rw.non
      · cases e
    · cases e
  · cases e
theorem mtm_extend : MtMM X "list.extend" wExtend := by
  intro pins s σ H x xs v us Q I rx rv q
  refine mt_extend pins s σ H x xs v us Q I rx rv ?_
  obtain ⟨R, h, a, ws, w, h', rh, ra, rws, e, k⟩ := q
  unfold wExtend at e
  split at e
  · rename_i n w1
    split at e
    · rename_i ys hn
      obtain ⟨zs, e1, e⟩ := Option.bind_eq_some_iff.mp e
      split at e
      · rename_i hl
        cases e
        obtain ⟨hlt, rfl, xv, h1, r1⟩ := rh.refAt ra hn
        obtain ⟨y, rfl, ry⟩ := rws1 rws
        obtain ⟨bd, yv, rfl, h2, r2⟩ := rh.loAt ry e1
        refine ⟨_, bd, xv, yv, rfl, rfl, h1, h2, by rw [← r1.length, ← r2.length]; exact hl, ?_⟩
        exact k R _ _ (Ext.refl _) (rh.put hlt ⟨_, rfl, Rws.append r1 r2⟩) Rw.non
      · cases e
    · cases e
  · cases e
theorem mtm_pop : MtMM X "list.pop" wPop := by
  intro pins s σ H x xs v us Q I rx rv q
  refine mt_pop pins s σ H x xs v us Q I rx rv ?_
  obtain ⟨R, h, a, ws, w, h', rh, ra, rws, e, k⟩ := q
  unfold wPop at e
  split at e
  · rename_i n
    split at e
    · rename_i ys hn
      obtain ⟨w1, e1, e2⟩ := Option.map_eq_some_iff.mp e
      cases e2
      obtain ⟨hlt, rfl, xv, h1, r1⟩ := rh.refAt ra hn
      rw [Rws.nil_iff] at rws
      subst rws
      obtain ⟨y, e3, ry⟩ := r1.get e1
      refine ⟨_, xv, y, rfl, rfl, h1, by rw [← r1.length]; exact e3, ?_⟩
      exact k R _ _ (Ext.refl _) (rh.put hlt ⟨_, rfl, r1.dropLast⟩) ry
    · cases e
  · cases e
end
section
variable {X : Cx}
end
end Mi

namespace Mi
open PySem PySem.Spec PyProof.Rows L2

structure Cal (P : Program) (w : World) (K : PySem.W.Frag) (mg : Str → Option Value) (base : Heap) (k : Nat) (x : Str) (ps : List Str) (g : FM) : Prop where
  ex : ∃ (f : Addr) (fd : FuncData), FnOk P w K mg base CX0 k f fd ps (spM K ps.length g) ∧ mg x = some (.ref f) ∧ PySem.W.keepIn K (.ref f) = true ∧ Binds K fd ps [] ∧ ∃ (oc : Value) (od : Option Addr) (osl : Array (Option Value)), K.lookup f = some ⟨oc, od, .func fd, osl⟩
structure DefAt (K : PySem.W.Frag) (mg : Str → Option Value) (x : Str) (st : Stmt) (ps : List Str) : Prop where
  ex : ∃ (f : Addr) (fd : FuncData), Fun K x x st f fd ∧ mg x = some (.ref f) ∧ Binds K fd ps []
theorem defAt_mk {K : PySem.W.Frag} {h : Heap} {mg : Str → Option Value} {x : Str} {st : Stmt} {ps : List Str} {f : Addr} {oc : Value} {od an : Option Addr} {sl : Array (Option Value)} {kV doc pm cd ct : Value} (X : K.In h) (G : h.Ns mainGlobals mg)
    (a : PySem.W.nsIn K mainGlobals x = some (some (.ref f))) (l : K.lookup f = some ⟨oc, od, .func (PySem.W.fnOf x x (defArgs st) (defBody st) (defScope st) .none kV doc pm an cd ct), sl⟩) (c : PySem.W.codeIn K cd x = true) (k : PySem.W.keepIn K (.ref f) = true)
    (b : ∀ (kV doc pm : Value) (an : Option Addr) (cdv ct : Value) (us : List Value), us.length = ps.length → bindArgs (PySem.W.fnOf x x (defArgs st) (defBody st) (defScope st) .none kV doc pm an cdv ct) ⟨us, []⟩ = pure (ps.zip us)) : DefAt K mg x st ps :=
  ⟨f, _, fun_mk l c k, PySem.W.mg_of X G a, (fun_mk l c k).binds b⟩
structure Glob (K : PySem.W.Frag) (mg : Str → Option Value) (x : Str) (w : W) : Prop where
  ex : ∃ (v : V) (u : Value), mg x = some u ∧ RelV v u ∧ ∀ R, Rw K R w v
theorem glob_int {K : PySem.W.Frag} {h : Heap} {mg : Str → Option Value} {x : Str} {i : Int} {t : Tok} (X : K.In h) (G : h.Ns mainGlobals mg) (a : PySem.W.nsIn K mainGlobals x = some (some (.int i t))) : Glob K mg x (.int i) :=
  ⟨.int i, _, PySem.W.mg_of X G a, ⟨t, rfl⟩, fun _ => Rw.int i⟩
noncomputable def strWs : List Str → List W := List.map W.str
theorem rws_strs {K : PySem.W.Frag} {R : Rn} : ∀ (ys : List Str), Rws K R (strWs ys) (ys.map V.str)
  | [] => Rws.nil
  | y :: ys => Rws.cons (Rw.str y) (rws_strs ys)
theorem vals_strs : ∀ {its : List Value} {ys : List Str}, StrsAre its ys → Vals (ys.map V.str) its
  | _, _, .nil => .nil
  | _, _, .cons y t r => .cons ⟨t, rfl⟩ (vals_strs r)
theorem glob_strs {K : PySem.W.Frag} {h : Heap} {mg : Str → Option Value} {x : Str} {c : Addr} {dd : Option Addr} {its : Array Value} {n : Nat} {sl : Array (Option Value)} {ys : List Str} (X : K.In h) (G : h.Ns mainGlobals mg) (a : PySem.W.nsIn K mainGlobals x = some (some (.ref c)))
    (l : K.lookup c = some ⟨.type "tuple", dd, .seq its n, sl⟩) (hz : its.size ≤ sizeLine) (hs : StrsAre its.toList ys) : Glob K mg x (.tup (strWs ys)) :=
  ⟨.ref c, _, PySem.W.mg_of X G a, rfl, fun R => by
    unfold Rw
    exact ⟨c, _, rfl, .inr ⟨_, its, n, l, rfl, rfl, hz, vals_strs hs⟩, rws_strs ys⟩⟩
section
variable {X : Cx} {k n : Nat} {g : FM} {x : Str} {ps : List Str} {p pos : Pos} {e : Expr} {es : List Expr} {ms : MA}
theorem pm_callC (C : Cal X.prog X.w X.K X.mg X.base k x ps g) (hr : Room k X.A) (hg : Gl X x) (ha : PMA X (e :: es) ms) (hn : ps.length = n := by rfl)
    (hdb : (x == ("__debug__" : Str)) = false := by decide) (he : isStar e = false := by rfl) (hpl : noStar es = true := by rfl) :
    PM X (.Call (.Name x p) (e :: es) [] pos) (mCall n g ms) := by
  obtain ⟨f, fd, F, hm, hk, hb, _⟩ := C.ex
  subst hn
  exact pm_call F hr hg hm hk hb pass0 ha hdb he hpl
theorem pm_callC0 (C : Cal X.prog X.w X.K X.mg X.base k x ps g) (hr : Room k X.A) (hg : Gl X x) (hn : ps.length = n := by rfl) (hdb : (x == ("__debug__" : Str)) = false := by decide) : PM X (.Call (.Name x p) [] [] pos) (mCall n g mNil) := by
  obtain ⟨f, fd, F, hm, hk, hb, _⟩ := C.ex
  subst hn
  exact pm_call0 F hr hg hm hk hb pass0 hdb
end
section
variable {P : Program} {w : World} {K : PySem.W.Frag} {mg : Str → Option Value} {base : Heap}
theorem cal_mk {x : Str} {st : Stmt} {N ps : List Str} {k more : Nat} {m : SM} (d : DefAt K mg x st ps) (S : FnScope N ps (defScope st)) (hN : N.length = ps.length + more)
    (hbody : ∀ (f : Addr) (cdv : Value) (A : Around) (outer : List Env) (s : Shared) (H : Hp) (E : XK), Room k (A.deeper (envOfC x (defScope st) s.heap.objs.size f cdv)) → PMSs (cxOf CX0 P w K mg base N x (defScope st) f cdv A outer s H E).nox (defBody st) m) :
    Cal P w K mg base (k + 1) x ps (mDef more m) := by
  obtain ⟨f, fd, F, hm, hb⟩ := d.ex
  obtain ⟨oc, od, kV, doc, pm, an, cdv, ct, osl, e, lk, hcd⟩ := F.ex
  exact ⟨f, fd, fn_ok F S hN (fun cdv A outer s H E hr => hbody f cdv A outer s H E hr), hm, F.kp, hb, oc, od, osl, lk⟩
theorem Cal.imp {x : Str} {ps : List Str} {k : Nat} {g g' : FM} (C : Cal P w K mg base k x ps g) (h : ∀ vs H Q E, spM K ps.length g' vs H Q E → spM K ps.length g vs H Q E) : Cal P w K mg base k x ps g' := by
  obtain ⟨f, fd, F, r⟩ := C.ex
  exact ⟨f, fd, F.imp h, r⟩
end
theorem rws_ints {K : PySem.W.Frag} {R : Rn} : ∀ (ns : List Int), Rws K R (ns.map W.int) (ns.map V.int)
  | [] => Rws.nil
  | n :: ns => Rws.cons (Rw.int n) (rws_ints ns)
theorem walkM {l : PySem.W.OpenLaw} {q : Program} {loose : List Str} {XP : (Str → Option Value) → Heap → Prop} {YP : World → Heap → Prop} {d : DefRec} {K : Params → PySem.W.Frag} {st : Stmt} {sem : FM} {k : Nat} (hn : l.most = some 63) (hdf : d.params.defaults = []) (hr : Room k callerA) (hdn : d.name = "law")
    (hY : ∀ (w : World) (h : Heap), YP w h → (K w.params).In h)
    (hb : ∀ (kV doc pm : Value) (an : Option Addr) (cdv ct : Value) (s : Shared) (u : Value), BindsTo s (PySem.W.fnOf "law" "law" (defArgs st) (defBody st) (defScope st) .none kV doc pm an cdv ct) ⟨[u], []⟩ [("script", u)])
    (F : ∀ (w : World) (mg : Str → Option Value) (h : Heap), (K w.params).In h → h.Ns mainGlobals mg →
      DefAt (K w.params) mg "law" st ["script"] ∧ ∀ base : Heap, (K w.params).In base → base.Ns mainGlobals mg → Cal l.prog w (K w.params) mg base k "law" ["script"] sem)
    (main : ∀ ns : List Int, ns.length ≤ 63 → ∃ h', sem [.frz (ns.map W.int)] [] = some (.bl true, h')) :
    PySem.W.WalkO q loose XP YP l.row.toRowW d [] (fun f vs => PySem.call f vs) := by
  refine L2.walk_of (n := 63) (k := k) (x := "script") (CX := fun _ => CX0) (sp := fun w => spM (K w.params) 1 sem) hn (by decide) hdf hr hY ?_ ?_ fun _ _ _ _ _ z => z
  · intro w mg fa h KX G hmg
    obtain ⟨D, Fn⟩ := F w mg h KX G
    obtain ⟨f, fd, Fu, hm, _⟩ := D.ex
    rw [hdn] at hmg
    rw [hm] at hmg
    cases hmg
    obtain ⟨oc, od, kV, doc, pm, an, cdv, ct, osl, e, lk, hcd⟩ := Fu.ex
    refine ⟨fd, fun s u => ?_, fun base kb nb => ?_⟩
    rotate_left
    · obtain ⟨f', fd', F', hm', _, _, oc', od', osl', lk'⟩ := (Fn base kb nb).ex
      rw [hm] at hm'
      cases hm'
      rw [lk] at lk'
      cases lk'
      exact F'
    rw [e]
    exact hb kV doc pm an cdv ct s u
  · intro w H a ns hl hO hS
    obtain ⟨h', e⟩ := main ns hl
    refine ⟨⟨fun _ => 0, 0, H, fun _ => none⟩, [.frz (ns.map W.int)], [], .bl true, h', rfl, ⟨rfl, fun _ _ z => z, fun n hn => absurd hn (Nat.not_lt_zero _), fun m n hm => absurd hm (Nat.not_lt_zero _), (fun n o z => by simp at z), (fun _ _ z => by cases z), (fun _ _ => rfl), (fun _ _ z => by cases z)⟩, ?_, e, fun R' H' v _ _ rv => rv.bl_eq⟩
    refine Rws.cons ?_ Rws.nil
    unfold Rw
    exact ⟨a, _, rfl, hS, rws_ints ns⟩
end Mi

namespace Mi
open PySem PySem.Spec PyProof.Rows L2

noncomputable def scopeOk (scope : Scope) : Bool := scope.names.all fun y => y.2 != .cell && (y.2 != .local || scope.names.lookup y.1 == some .local)
noncomputable def capOk (N : List Str) (xs scope : Scope) (cp : List (Option Nat)) (Nb : List Str) : Bool := (cp.zip Nb).all fun p => match p.1 with
  | none => true
  | some j => N[j]? == some p.2 && (xs.names.lookup p.2 == some .cell || xs.names.lookup p.2 == some .free) && scope.names.lookup p.2 == some .free
noncomputable def keysOk (scope : Scope) (ks : List Str) : Bool := scope.names.all fun y => y.2 != .free || ks.contains y.1
theorem lookup_relabel_free {env : Env} : ∀ {names : List (Str × NameKind)} {x : Str}, names.lookup x = some .free →
    (names.map fun (n, k) => if (k == NameKind.free && env.scope.kind == .function && env.kindOf n == some .cell) then (n, NameKind.cell) else (n, k)).lookup x = some .cell ∨
    (names.map fun (n, k) => if (k == NameKind.free && env.scope.kind == .function && env.kindOf n == some .cell) then (n, NameKind.cell) else (n, k)).lookup x = some .free
  | [], _, h => by simp at h
  | (n, k) :: r, x, h => by
    have ih := @lookup_relabel_free env r x
    rw [List.map_cons]
    dsimp only
    cases hx : x == n with
    | true =>
      simp only [List.lookup_cons, hx] at h
      cases h
      by_cases hc : (NameKind.free == NameKind.free && env.scope.kind == .function && env.kindOf n == some .cell) = true
      · rw [if_pos hc]; exact .inl (by simp [List.lookup_cons, hx])
      · rw [if_neg hc]; exact .inr (by simp [List.lookup_cons, hx])
    | false =>
      simp only [List.lookup_cons, hx] at h
      by_cases hc : (k == NameKind.free && env.scope.kind == .function && env.kindOf n == some .cell) = true
      · rw [if_pos hc]; simp only [List.lookup_cons, hx]; exact ih h
      · rw [if_neg hc]; simp only [List.lookup_cons, hx]; exact ih h
theorem relabel_lookup {env : Env} : ∀ {names : List (Str × NameKind)} {x : Str} {k' : NameKind}, (∀ y ∈ names, y.2 ≠ .cell) → (k' = .cell ∨ k' = .free) →
    (names.map fun (n, k) => if (k == NameKind.free && env.scope.kind == .function && env.kindOf n == some .cell) then (n, NameKind.cell) else (n, k)).lookup x = some k' → (x, NameKind.free) ∈ names
  | [], _, _, _, _, h => by simp at h
  | (n, k) :: r, x, k', hn, hk, h => by
    rw [List.map_cons] at h
    dsimp only at h
    have ih := @relabel_lookup env r x k' (fun y hy => hn y (List.mem_cons_of_mem _ hy)) hk
    cases hx : x == n with
    | true =>
      have : x = n := eq_of_beq hx
      subst this
      by_cases hc : (k == NameKind.free && env.scope.kind == .function && env.kindOf x == some .cell) = true
      · have : k = .free := by
          simp only [Bool.and_eq_true, beq_iff_eq] at hc; exact hc.1.1
        subst this
        exact List.mem_cons_self
      · rw [if_neg hc] at h
        simp [List.lookup_cons] at h
        subst h
        rcases hk with z | z
        · exact absurd z (hn (x, k) List.mem_cons_self)
        · subst z; exact List.mem_cons_self
    | false =>
      refine List.mem_cons_of_mem _ (ih ?_)
      by_cases hc : (k == NameKind.free && env.scope.kind == .function && env.kindOf n == some .cell) = true
      · rw [if_pos hc] at h; simpa only [List.lookup_cons, hx] using h
      · rw [if_neg hc] at h; simpa only [List.lookup_cons, hx] using h
theorem lookup_mem {cl : List (Str × Addr)} {x : Str} {c : Addr} (h : cl.lookup x = some c) : (x, c) ∈ cl := by
  induction cl with
  | nil => simp at h
  | cons p r ih =>
    obtain ⟨n, a⟩ := p
    cases hx : x == n with
    | true =>
      simp only [List.lookup_cons, hx] at h
      cases h
      rw [eq_of_beq hx]; exact List.mem_cons_self
    | false =>
      simp only [List.lookup_cons, hx] at h
      exact List.mem_cons_of_mem _ (ih h)
theorem lookup_of_key {cl : List (Str × Addr)} {x : Str} (h : x ∈ cl.map (·.1)) : ∃ c, cl.lookup x = some c := by
  induction cl with
  | nil => simp at h
  | cons p r ih =>
    obtain ⟨n, a⟩ := p
    cases hx : x == n with
    | true => exact ⟨a, by simp only [List.lookup_cons, hx]⟩
    | false =>
      rcases List.mem_cons.mp h with z | z
      · dsimp only at z; rw [z, beq_self_eq_true] at hx; cases hx
      · obtain ⟨c, hc⟩ := ih z
        exact ⟨c, by simp only [List.lookup_cons, hx]; exact hc⟩
theorem blk_mk {X : Cx} {scope xs : Scope} {cl : List (Str × Addr)} {N Nb ks : List Str} {cp : List (Option Nat)} (clos : closureFor scope X.env = pure cl) (kind : scope.kind = .function) (hs : scopeOk scope = true) (hk : cl.map (·.1) = ks) (hks : keysOk scope ks = true)
    (hsub : ∀ p ∈ cl, X.env.cells.lookup p.1 = some p.2) (hN : X.N = N) (hx : X.env.scope = xs) (hl : cp.length = Nb.length) (hc : capOk N xs scope cp Nb = true) : BlkOk X scope cl Nb cp := by
  have hcell : ∀ y ∈ scope.names, y.2 ≠ .cell := fun y hy => by
    have := List.all_eq_true.mp hs y hy
    simp only [Bool.and_eq_true, bne_iff_ne] at this
    exact this.1
  refine ⟨clos, hcell, kind, fun y hy hl => ?_, fun x c h => hsub _ (lookup_mem h), fun x h => ?_, hl, fun i j x h1 h2 => ?_⟩
  · have := List.all_eq_true.mp hs y hy
    simp only [Bool.and_eq_true, Bool.or_eq_true, bne_iff_ne, beq_iff_eq] at this
    rcases this.2 with z | z
    · exact absurd hl z
    · exact z
  · have hm : (x, NameKind.free) ∈ scope.names := by
      rcases h with h | h
      · exact relabel_lookup hcell (.inl rfl) h
      · exact relabel_lookup hcell (.inr rfl) h
    have := List.all_eq_true.mp hks _ hm
    simp only [Bool.or_eq_true, bne_iff_ne, ne_eq, not_true_eq_false, false_or, List.contains_iff_mem] at this
    exact lookup_of_key (by rw [hk]; exact this)
  · have hz : (cp.zip Nb)[i]? = some (some j, x) := by rw [List.getElem?_zip_eq_some]; exact ⟨h1, h2⟩
    have := List.all_eq_true.mp hc _ (List.mem_of_getElem? hz)
    simp only [Bool.and_eq_true, Bool.or_eq_true, beq_iff_eq] at this
    obtain ⟨⟨a, b⟩, c⟩ := this
    refine ⟨by rw [hN]; exact a, ?_, ?_, lookup_relabel_free c⟩
    · rw [hx]
      rcases b with b | b
      · exact .inr (.inl b)
      · exact .inr (.inr b)
    · unfold Env.kindOf
      rw [hx]; exact b
theorem blk_plain {X : Cx} {scope : Scope} {Nb : List Str} {cp : List (Option Nat)} (kind : scope.kind = .function) (hs : scopeOk scope = true) (hks : keysOk scope [] = true) (hl : cp.length = Nb.length) (hc : cp.all (·.isNone) = true) : BlkOk X scope [] Nb cp := by
  have hfree : ∀ y ∈ scope.names, y.2 ≠ .free := fun y hy z => by
    have := List.all_eq_true.mp hks y hy
    simp [z] at this
  have hcell : ∀ y ∈ scope.names, y.2 ≠ .cell := fun y hy => by
    have := List.all_eq_true.mp hs y hy
    simp only [Bool.and_eq_true, bne_iff_ne] at this
    exact this.1
  refine ⟨closureFor_none hfree, hcell, kind, fun y hy hl => ?_, fun x c h => by simp at h, fun x h => ?_, hl, fun i j x h1 h2 => ?_⟩
  · have := List.all_eq_true.mp hs y hy
    simp only [Bool.and_eq_true, Bool.or_eq_true, bne_iff_ne, beq_iff_eq] at this
    rcases this.2 with z | z
    · exact absurd hl z
    · exact z
  · have hm : (x, NameKind.free) ∈ scope.names := by
      rcases h with h | h
      · exact relabel_lookup hcell (.inl rfl) h
      · exact relabel_lookup hcell (.inr rfl) h
    exact absurd rfl (hfree _ hm)
  · have := List.all_eq_true.mp hc _ (List.mem_of_getElem? h1)
    simp at this
end Mi

namespace Mi
open PySem PySem.Spec PyProof.Rows L2
theorem live_none (items : List W) (h : MH) : live none items h := fun _ z => by cases z
theorem compL_pure {fin : List W → MH → Option (W × MH)} {items : List W} {mt : MT} {me : ME} {caps : MSt} {h : MH} {f : W → W} {p : W → Bool} : ∀ (rest acc : List W) (o : Option W),
    (∀ w ∈ rest, mt (some w :: caps) h = some (p w, h)) → (∀ w ∈ rest, p w = true → me (some w :: caps) h = some (f w, h)) → acc.length + rest.length ≤ sizeLine →
    mCompL fin items none (gSet 0) mt me rest acc (o :: caps) h = fin (acc ++ (rest.filter p).map f) h
  | [], acc, o, _, _, _ => by
    unfold mCompL
    rw [if_pos (live_none _ _)]; simp
  | w :: rest, acc, o, ht, he, hl => by
    unfold mCompL
    rw [if_pos (live_none _ _)]
    have h1 : gSet 0 w (o :: caps) h = some (some w :: caps) := rfl
    rw [h1, Option.bind_some, ht w List.mem_cons_self, Option.bind_some]
    have hl' : acc.length + (rest.length + 1) ≤ sizeLine := by simpa using hl
    cases hp : p w with
    | true =>
      simp only [hp]
      rw [he w List.mem_cons_self hp, Option.bind_some, if_pos (by omega)]
      rw [compL_pure rest (acc ++ [f w]) (some w) (fun x hx => ht x (List.mem_cons_of_mem _ hx)) (fun x hx => he x (List.mem_cons_of_mem _ hx)) (by simp; omega)]
      simp [List.filter_cons, hp]
    | false =>
      simp only [hp]
      rw [compL_pure rest acc (some w) (fun x hx => ht x (List.mem_cons_of_mem _ hx)) (fun x hx => he x (List.mem_cons_of_mem _ hx)) (by omega)]
      simp [List.filter_cons, hp]
theorem loop_end {items : List W} {b : MG} {body : SM} {σ : MSt} {h : MH} : mLoop items none b body [] σ h = some (.nx σ h) := by
  rw [mLoop, if_pos (live_none _ _)]
end Mi

namespace Mi
open PySem PySem.Spec PyProof.Rows L2
section
variable {σ σ1 : MSt} {h h1 h2 h3 : MH} {a b c w : W} {ws : List W} {ma mb mc : ME} {ms : MA} {mt mu : MT} {s1 s2 : SM} {f f' : W → W → MH → Option (W × MH)} {g : List W → MH → Option (W × MH)} {z : MF}
theorem e_nil : mNil σ h = some ([], h) := rfl
theorem e_cons (e1 : ma σ h = some (a, h1)) (e2 : ms σ h1 = some (ws, h2)) : mCons ma ms σ h = some (a :: ws, h2) := by unfold mCons; rw [e1, Option.bind_some, e2]; rfl
end
theorem wMul_eq {i j : Int} {h : MH} (c : (-(2 ^ 64) < i ∧ i < 2 ^ 64) ∨ (-(2 ^ 64) < j ∧ j < 2 ^ 64)) : wMul (.int i) (.int j) h = some (.int (i * j), h) := by unfold wMul; exact if_pos c
theorem wDiv_eq {i j : Int} {h : MH} (c : 0 < j ∧ j < 1073741824) : wDiv (.int i) (.int j) h = some (.int (i / j), h) := by unfold wDiv; exact if_pos c
theorem wMod_eq {i j : Int} {h : MH} (c : 0 < j) : wMod (.int i) (.int j) h = some (.int (i % j), h) := by unfold wMod; exact if_pos c
theorem wPow_eq {i j : Int} {h : MH} (c : 0 ≤ j ∧ j ≤ 1000000 ∧ i.natAbs < 2 ^ 64) : wPow (.int i) (.int j) h = some (.int (i ^ j.toNat), h) := by unfold wPow; exact if_pos c
theorem wIx_str {x : Str} {i : Int} {h : MH} {d : Nat} (hl : x.length ≤ sizeLine) (e : atI x.cps.toList i = some d) : wIx (.str x) (.int i) h = some (.str ⟨#[d]⟩, h) := by
  unfold wIx; simp only; rw [if_pos hl, e]; rfl
end Mi

namespace Mi
open PySem PySem.Spec PyProof.Rows L2
noncomputable def mPut (mo mi mv : ME) : SM := fun σ h => (mv σ h).bind fun v => (mo σ v.2).bind fun o => (mi σ o.2).bind fun i => match o.1, i.1 with
  | .ref n, .int k => match i.2[n]? with
    | some (.lst xs) => (ixN xs.length k).map fun j => .nx σ (i.2.set n (.lst (xs.set j v.1)))
    | _ => none
  | _, _ => none
section
variable {X : Cx} {o i e : Expr} {mo mi mv : ME} {pos pos' : Pos}
theorem put_of {K : PySem.W.Frag} {D : L2.Ends} {σ : L2.St} {H : Hp} (q : tS K (mPut mo mi mv) D σ H) : tAsg (tI K mv) (gSub (tI K mo) (tI K mi) rSetL) D σ H := by
  obtain ⟨R, σi, h, r, rh, s, e, k⟩ := q
  obtain ⟨⟨v, h1⟩, e1, e2⟩ := Option.bind_eq_some_iff.mp e
  obtain ⟨⟨ob, h2⟩, e3, e4⟩ := Option.bind_eq_some_iff.mp e2
  obtain ⟨⟨ix, h3⟩, e5, e6⟩ := Option.bind_eq_some_iff.mp e4
  refine ⟨R, σi, h, v, h1, rh, s, e1, fun R1 H1 x x1 rh1 rx => ⟨R1, σi, h1, ob, h2, rh1, s.mono x1, e3, fun R2 H2 y x2 rh2 ry => ⟨R2, σi, h2, ix, h3, rh2, s.mono (x1.trans x2), e5, fun R3 H3 z x3 rh3 rz => ?_⟩⟩⟩
  dsimp only at e6
  split at e6
  · rename_i n kk
    split at e6
    · rename_i xs hn
      obtain ⟨j, e7, e8⟩ := Option.map_eq_some_iff.mp e6
      cases e8
      obtain ⟨hlt, ey, xv, h4, r4⟩ := rh3.refAt (Rw.mono x3 _ _ ry) hn
      refine ⟨_, xv, kk, j, ey, rz.int_eq, h4, by rw [← r4.length]; exact e7, ?_⟩
      exact k R3 _ σ (x1.trans (x2.trans x3)) (rh3.put hlt ⟨_, rfl, r4.set j (Rw.mono (x2.trans x3) _ _ rx)⟩) (s.mono (x1.trans (x2.trans x3)))
    · cases e6
  · cases e6
theorem pms_put (ho : PM X o mo) (hi : PM X i mi) (he : PM X e mv)
    (ha : ∀ v, assign (.Subscript o i pos') X.env v = (do
      let ov ← holding [v] (eval o X.env)
      let iv ← holding [v, ov] (eval i X.env)
      standAt pos'
      holding [v, ov, iv] (setItem ov iv v)
      release [v, ov, iv] []) := by intro _; rfl)
    (hs : isComp e = false := by rfl) (hw : swappedStores [.Subscript o i pos'] e X.env = pure none := by rfl) : PMS X (.Assign [.Subscript o i pos'] e pos) (mPut mo mi mv) :=
  ps_imp (ps_asg he (pg_sub ho hi set_list ha) (show swapsWith e (some (.Subscript o i pos')) pos.line X.env = pure false from swaps_of hs) hw rfl) fun _ _ _ => put_of
end
noncomputable def wAddI (a b : W) (h : MH) : Option (W × MH) := match a, b with | .int i, .int j => some (.int (i + j), h) | _, _ => none
section
variable {X : Cx} {o i e : Expr} {mo mi mv : ME} {pos pos' : Pos}
theorem iopr_add : OpR X (inplaceOp .Add) (F2 X.K wAddI) := by
  intro pins s σ H x y v u Q I rx ry q
  refine iop_add pins s σ H x y v u Q I rx ry ?_
  obtain ⟨R, h, a, b, w, h', rh, ra, rb, e, k⟩ := q
  unfold wAddI at e
  split at e
  · cases e
    exact ⟨_, _, ra.int_eq, rb.int_eq, k R H _ (Ext.refl _) rh (Rw.int _)⟩
  · cases e
end
end Mi

namespace Mi
open PySem PySem.Spec PyProof.Rows L2
end Mi

namespace Mi
open PySem PySem.Spec PyProof.Rows L2 PySem.SeqAt
noncomputable def wIndex (a : W) (ws : List W) (h : MH) : Option (W × MH) := match ws with
  | [w] => (lsW h a).bind fun ys => (drf h 40 w).bind fun x => (mapO (drf h 40) ys).bind fun zs => (zs.findIdx? fun y => eqW y x).map fun j => (.int (j : Nat), h)
  | _ => none
theorem mtm_index {X : Cx} (hu : X.A.units + 64 < cLine) : MtMM X "list.index" wIndex := by
  intro pins s σ H x xs v us Q I rx rv q
  obtain ⟨R, h, a, ws, w, h', rh, ra, rws, e, k⟩ := q
  unfold wIndex at e
  split at e
  · rename_i w1
    obtain ⟨ys, e1, e⟩ := Option.bind_eq_some_iff.mp e
    obtain ⟨x', e2, e⟩ := Option.bind_eq_some_iff.mp e
    obtain ⟨zs, e3, e⟩ := Option.bind_eq_some_iff.mp e
    obtain ⟨j, e4, e5⟩ := Option.map_eq_some_iff.mp e
    cases e5
    obtain ⟨y, rfl, ry⟩ := rws1 rws
    obtain ⟨u, rfl, ru⟩ := vals1 rv
    obtain ⟨ad, xv, rfl, q1, r1⟩ := rh.lsAt ra e1
    cases rx
    obtain ⟨its, t1, p1, hz⟩ := I.list q1
    have hu' : X.A.in1.units + 40 < cLine := by show X.A.units + 1 + 40 < cLine; omega
    have l1 := r1.length; have l2 := t1.length; have l3 := (mapO_get e3).1
    obtain ⟨hj, hhit, hbefore⟩ := List.findIdx?_eq_some_iff_getElem.mp e4
    have at_ : ∀ m (hm : m < its.toArray.size), hitU X.K R h x' its.toArray[m] = eqW (zs[m]'(by rw [List.size_toArray] at hm; omega)) x' := by
      intro m hm
      rw [List.size_toArray] at hm
      obtain ⟨w2, hw2⟩ : ∃ w2, ys[m]? = some w2 := ⟨ys[m]'(by omega), List.getElem?_eq_getElem _⟩
      obtain ⟨v2, hv2, rv2⟩ := r1.get hw2
      obtain ⟨u2, hu2, ru2⟩ := t1.get hv2
      obtain ⟨b, hb, eb⟩ := (mapO_get e3).2 m w2 hw2
      have eu : its.toArray[m] = u2 := by have := hu2; rw [List.getElem?_eq_getElem hm] at this; simpa using this
      have ez : zs[m]'(by omega) = b := by have := hb; rw [List.getElem?_eq_getElem (by omega)] at this; simpa using this
      rw [eu, ez]
      exact hitU_of I rh rv2 ru2 eb
    obtain ⟨ob, n, ho, hc, hdd, hd⟩ := p1
    obtain ⟨cls, dd, data, sl⟩ := ob
    simp only at hc hd
    subst hc hd
    have hjs : j < its.toArray.size := by rw [List.size_toArray]; omega
    refine call_meets PySem.F.slot_list_index ⟨_, ho, rfl⟩ PySem.F.entry_list_index (PySem.F.args_list_index_2 _ _)
      (list_indexAt ad its.toArray n dd sl u (hitU X.K R h x') j hjs ?_ ?_ ?_) ⟨ho, fun z hz' => hit_eqAt I rh hu' ry ru e2 r1 t1 e3 z (by simpa using hz'), ?_⟩
    · have : (sizeLine : Nat) < 2 ^ 62 := by decide
      have hj2 : j < 2 ^ 62 := by omega
      omega
    · rw [at_ j hjs]; exact hhit
    · intro m hm hmj
      rw [at_ m hm]
      simpa using hbefore m hmj
    · exact ⟨.int j, H, I.tok _, ⟨_, rfl⟩, k R H _ (Ext.refl _) rh (Rw.int _)⟩
  · cases e
end Mi

namespace Mi
open PySem PySem.Spec PyProof.Rows L2
inductive TabIs : List DictEntry → List (Str × Int) → Prop where
  | nil : TabIs [] []
  | cons {e : DictEntry} {x : Str} {i : Int} {t t' : Tok} {es : List DictEntry} {tab : List (Str × Int)} (hk : e.key = .str x t) (hv : e.val = .int i t') (r : TabIs es tab) : TabIs (e :: es) ((x, i) :: tab)
structure GTab (w : World) (K : PySem.W.Frag) (mg : Str → Option Value) (x : Str) (tab : List (Str × Int)) : Prop where
  ex : ∃ (a : Addr) (es : List DictEntry) (n : Nat), mg x = some (.ref a) ∧ K.lookup a = some ⟨.type "dict", none, .dict es.toArray n, #[]⟩ ∧ PySem.W.KeysLit w.params es ∧ (a == sysModules) = false ∧ TabIs es tab
theorem gtab_mk {w : World} {K : PySem.W.Frag} {h : Heap} {mg : Str → Option Value} {x : Str} {c : Addr} {es : List DictEntry} {n : Nat} {tab : List (Str × Int)} (X : K.In h) (G : h.Ns mainGlobals mg) (a : PySem.W.nsIn K mainGlobals x = some (some (.ref c)))
    (l : K.lookup c = some ⟨.type "dict", none, .dict es.toArray n, #[]⟩) (k : PySem.W.KeysLit w.params es) (s : (c == sysModules) = false) (t : TabIs es tab) : GTab w K mg x tab :=
  ⟨c, es, n, PySem.W.mg_of X G a, l, k, s, t⟩
section
variable {X : Cx} {c : Addr} {es : List DictEntry} {n : Nat} {tab : List (Str × Int)}
variable {a : Expr} {ma : ME} {x : Str} {pos pos' : Pos}
end
end Mi

namespace Mi
open PySem PySem.Spec PyProof.Rows L2
theorem wEq_int (a b : Int) (h : MH) : wEq (.int a) (.int b) h = some (.bl (a == b), h) := by unfold wEq; simp [drf, eqW]
theorem wNe_int (a b : Int) (h : MH) : wNe (.int a) (.int b) h = some (.bl (!(a == b)), h) := by unfold wNe; simp [drf, eqW]
theorem wEq_str (a b : Str) (h : MH) : wEq (.str a) (.str b) h = some (.bl (a == b), h) := by unfold wEq; simp [drf, eqW]
end Mi

namespace Mi
open PySem PySem.Spec PyProof.Rows L2
theorem sum_le {m : Nat} : ∀ zs : List Str, (∀ z ∈ zs, z.length ≤ m) → (zs.map (·.length)).sum ≤ zs.length * m
  | [], _ => Nat.zero_le _
  | z :: zs, h => by
    rw [List.map_cons, List.sum_cons, List.length_cons, Nat.succ_mul]
    have := sum_le zs fun x hx => h x (List.mem_cons_of_mem _ hx)
    have h1 := h z List.mem_cons_self
    omega
end Mi

namespace Mi
open PySem PySem.Spec PyProof.Rows L2
noncomputable def Itst (lo c : Int) (n : Nat) : It := ⟨fun i _ => i < n, fun i H x H' => H' = H ∧ x = .int (lo + i * c), fun i _ => n ≤ i⟩
theorem turn_step {P : Program} {w : World} {K : PySem.W.Frag} {tg : Expr} (it : Addr) (lo c : Int) (n : Nat) : Turn P w K tg (Itst lo c n) [it] it (fun i h => IsRangeIter h it (lo + (i : Nat) * c) ((n : Int) - (i : Nat)) c) where
  mem := by simp
  obj := fun i h st b hb => by
    have e : b = it := by simpa using hb
    subst e
    exact ⟨_, st, fun v z => by
      have z' : Data.fields _ = Data.cell v := z
      cases z'⟩
  keep := fun i h h' st k => k it (by simp) _ st
  item := by
    intro X hP hw hK hc i pins s σ H E I hf st hg
    subst hP hw hK
    obtain ⟨f0, f1, f2, f3, f4, f5⟩ := hf it (by simp)
    have W := Walks.range (prog := X.prog) (w := X.w) (I.ok.hd hc) it lo c n
    refine W.item i s _ _ hg st fun v h' tk hv st' kk => ?_
    obtain ⟨t, rfl⟩ := hv
    have I1 : Inv X pins σ H { s with heap := h', toks := tk } := I.turned (fun b o hb e => kk b o (by simpa using hb) e) f0 f1 f3 f4 f5
    exact ⟨_, rfl, go_of (s := { s with heap := h', toks := tk }) (n := "range_iterator") st' rfl rfl (by decide) ⟨.int (lo + i * c), H, I1, ⟨t, rfl⟩, ⟨rfl, rfl⟩, st', fun b hb => (hf b hb).1⟩⟩
  done := by
    intro X hP hw hK hc i pins s σ H E I hf st hg
    subst hP hw hK
    obtain ⟨f0, f1, f2, f3, f4, f5⟩ := hf it (by simp)
    exact wpAny_pyNext_range_end (I.ok.hd hc) st (by have : n ≤ i := hg; omega) fun h' eb => ⟨rfl, I.turned (t' := s.toks) (fun b o hb e => eb b o hb e) f0 f1 f3 f4 f5⟩
  self := fun _ _ _ _ _ st h => wpAny_pyIter_rangeiter st h
theorem rangeSize_nn {a b c : Int} (hc : c ≠ 0) : 0 ≤ Builtin.Range.rangeSize a b c := by
  unfold Builtin.Range.rangeSize
  split
  · split
    · have : 0 ≤ (b - a - 1) / c := Int.ediv_nonneg (by omega) (by omega)
      omega
    · exact Int.le_refl _
  · split
    · have : 0 ≤ (a - b - 1) / (-c) := Int.ediv_nonneg (by omega) (by omega)
      omega
    · exact Int.le_refl _
section
variable {X : Cx} {tg : Expr}
theorem step_it {pins : List (Addr × Obj)} {σ : L2.St} {H : Hp} {s : Shared} {R : It → Hp → Prop} {E : Value → Shared → Prop} {lo hi c : Int} {t u v : Tok} {tk : Nat} (I : Inv X pins σ H s) (hc : c ≠ 0) (h1 : Builtin.Range.small lo hi c = true)
    (q : R (Itst lo c (Builtin.Range.rangeSize lo hi c).toNat) H) : wpAny (model X.prog X.w) X.A (pyIter (.ref s.heap.objs.size)) (PIE X pins σ tg R) E { s with heap := s.heap.push { cls := .type "range", data := .fields #[.int lo t, .int hi u, .int c v] }, toks := tk } := by
  refine wpAny_pyIter_range (IsRange.new ..) h1 ?_
  have I1 : Inv X pins σ H { s with heap := s.heap.push { cls := .type "range", data := .fields #[.int lo t, .int hi u, .int c v] }, toks := tk } := I.kept fun b o e => Heap.get?_push_of_some _ e
  refine ⟨(s.heap.push { cls := .type "range", data := .fields #[.int lo t, .int hi u, .int c v] }).objs.size, [(s.heap.push { cls := .type "range", data := .fields #[.int lo t, .int hi u, .int c v] }).objs.size], _, _, H, rfl,
    I1.kept (t' := tk) fun b o e => Heap.get?_push_of_some _ e, turn_step _ lo c (Builtin.Range.rangeSize lo hi c).toNat, ?_, fun b hb => ?_, q⟩
  · have e1 : lo + ((0 : Nat) : Int) * c = lo := by simp
    have e2 : (((Builtin.Range.rangeSize lo hi c).toNat : Nat) : Int) - ((0 : Nat) : Int) = Builtin.Range.rangeSize lo hi c := by
      have := rangeSize_nn (a := lo) (b := hi) hc
      omega
    show IsRangeIter _ _ (lo + ((0 : Nat) : Int) * c) ((((Builtin.Range.rangeSize lo hi c).toNat : Nat) : Int) - ((0 : Nat) : Int)) c
    rw [e1, e2]
    exact Heap.get?_push_size _ rfl
  · have e : b = (s.heap.push { cls := .type "range", data := .fields #[.int lo t, .int hi u, .int c v] }).objs.size := by simpa using hb
    subst e
    exact I1.fpOk (Nat.le_refl _) (I1.hok.fresh (Nat.le_refl _))
noncomputable def iRng3 (ta : TA) : TI := fun σ H R => ta σ H fun vs H1 => ∃ i j c : Int, vs = [.int i, .int j, .int c] ∧ (c ≠ 0 ∧ c.natAbs < 1073741824 ∧ Builtin.Range.small i j c = true) ∧ R (Itst i c (Builtin.Range.rangeSize i j c).toNat) H1
theorem pi_range3 {a b d : Expr} {ta : TA} {p pos : Pos} (hg : Gl X "range") (hm : X.mg "range" = none) (ha : PA X [a, b, d] ta) (hs : starEach [a, b, d] X.env = [(false, eval a X.env), (false, eval b X.env), (false, eval d X.env)] := by rfl) (hs2 : starEach [b, d] X.env = [(false, eval b X.env), (false, eval d X.env)] := by rfl) :
    PI X tg (.Call (.Name "range" p) [a, b, d] [] pos) (iRng3 ta) := by
  intro pins s σ H R I h
  refine Call_ (ld_blt I hg hm boot_range (PyProof.Rows.callWith_type1 (thn (ha pos pins s σ H _ I h) fun us s1 ⟨vs, H1, I1, r1, q1⟩ => ?_) (by rw [hs, hs2]) (by rw [hs2]; rfl)))
  obtain ⟨i, j, c, e, ⟨q1, q2, q3⟩, q⟩ := q1
  subst e
  cases r1 with
  | cons r rr =>
    cases rr with
    | cons r' rr =>
      cases rr with
      | cons r'' rr =>
        cases rr
        obtain ⟨t, rfl⟩ := r
        obtain ⟨t', rfl⟩ := r'
        obtain ⟨t'', rfl⟩ := r''
        exact call_range_3 q1 (step_it I1 q1 q3 q) (.inl (PyProof.noPylong_small q2))
end
noncomputable def rangeS (lo c : Int) (n : Nat) : List W := (List.range n).map fun (i : Nat) => W.int (lo + (i : Int) * c)
section
variable {K : PySem.W.Frag} {R : Rn}
theorem itok_step {lo c : Int} {n : Nat} : ItOk K R (Itst lo c n) (rangeS lo c n) none where
  go := fun i w R' h H _ _ _ e => by
    have := (List.getElem?_eq_some_iff.mp e).1
    show i < n
    simpa [rangeS] using this
  yld := fun i w R' h H v H' e rh _ ew hy => by
    obtain ⟨rfl, rfl⟩ := hy
    unfold rangeS at ew
    rw [List.getElem?_map] at ew
    obtain ⟨j, hj, e2⟩ := Option.map_eq_some_iff.mp ew
    rw [List.getElem?_range (by have := (List.getElem?_eq_some_iff.mp hj).1; simpa using this)] at hj
    cases hj
    cases e2
    exact ⟨R', Ext.refl _, rh, Rw.int _⟩
  stop := fun i R' h H _ _ _ hl => by
    show n ≤ i
    simpa [rangeS] using hl
end
noncomputable def miR3 (ms : MA) : MI := fun σ h => (ms σ h).bind fun p => match p.1 with
  | [.int i, .int j, .int c] => if c ≠ 0 ∧ c.natAbs < 1073741824 ∧ Builtin.Range.small i j c = true then some (rangeS i c (Builtin.Range.rangeSize i j c).toNat, none, p.2) else none
  | _ => none
section
variable {X : Cx} {tg a b d : Expr} {ms : MA} {p pos : Pos}
theorem pmi_r3 (hg : Gl X "range") (hm : X.mg "range" = none) (ha : PMA X [a, b, d] ms) (hs : starEach [a, b, d] X.env = [(false, eval a X.env), (false, eval b X.env), (false, eval d X.env)] := by rfl) (hs2 : starEach [b, d] X.env = [(false, eval b X.env), (false, eval d X.env)] := by rfl) : PMI X tg (.Call (.Name "range" p) [a, b, d] [] pos) (miR3 ms) :=
  pi_imp (pi_range3 hg hm ha hs hs2) fun σ H C ⟨R, σi, h, items, src, h', rh, st, e, k⟩ => by
    obtain ⟨⟨ws, h1⟩, e1, e2⟩ := Option.bind_eq_some_iff.mp e
    refine ⟨R, σi, h, ws, h1, rh, st, e1, fun R1 H1 vs x1 rh1 rv => ?_⟩
    split at e2
    · rename_i i j c hj
      simp only at hj
      subst hj
      split at e2
      · rename_i hb
        cases e2
        rw [Rws.cons_iff] at rv
        obtain ⟨v, vs', rfl, r1, r2⟩ := rv
        rw [Rws.cons_iff] at r2
        obtain ⟨v2, vs2, rfl, r3, r4⟩ := r2
        rw [Rws.cons_iff] at r4
        obtain ⟨v3, vs3, rfl, r5, r6⟩ := r4
        rw [Rws.nil_iff] at r6
        subst r6
        rw [r1.int_eq, r3.int_eq, r5.int_eq]
        exact ⟨i, j, c, rfl, hb, k R1 H1 _ x1 rh1 itok_step⟩
      · cases e2
    · cases e2
end
end Mi

namespace Mi
open PySem PySem.Spec PyProof.Rows L2
section
variable {K : PySem.W.Frag} {R : Rn}
noncomputable abbrev DicR (K : PySem.W.Frag) (R : Rn) : List (Key × W) → List (Key × V) → Prop := Paired fun p q => p.1 = q.1 ∧ Rw K R p.2 q.2
end
section
variable {X : Cx} {o i e a b : Expr} {mo mi mv ma mb : ME} {pos pos' : Pos}
end
end Mi

namespace Mi
open PySem PySem.Spec PyProof.Rows L2
theorem atI_last {α : Type} (xs : List α) (x : α) : atI (xs ++ [x]) (-1) = some x := by
  unfold atI ixN
  rw [if_neg (by decide), if_pos (by simp; omega), Option.bind_some]
  have : ((-1 : Int) + ((xs ++ [x]).length : Nat)).toNat = xs.length := by simp; omega
  rw [this]; simp
theorem rangeS_get {lo c : Int} {n j : Nat} {w : W} (e : (rangeS lo c n)[j]? = some w) : j < n ∧ w = .int (lo + (j : Int) * c) := by
  unfold rangeS at e
  rw [List.getElem?_map] at e
  obtain ⟨i, h1, rfl⟩ := Option.map_eq_some_iff.mp e
  obtain ⟨hl, h2⟩ := List.getElem?_eq_some_iff.mp h1
  rw [List.length_range] at hl
  rw [List.getElem_range] at h2
  subst h2
  exact ⟨hl, rfl⟩
theorem small_m1 {k : Nat} (hk : k < 1000000) : Builtin.Range.small ((k : Int) - 1) (-1) (-1) = true ∧ (Builtin.Range.rangeSize ((k : Int) - 1) (-1) (-1)).toNat = k := by
  have e : Builtin.Range.rangeSize ((k : Int) - 1) (-1) (-1) = k := by
    unfold Builtin.Range.rangeSize
    rw [if_neg (by decide)]
    by_cases z : k = 0
    · subst z; rfl
    · rw [if_pos (by omega)]
      simp
  refine ⟨?_, by rw [e]; simp⟩
  unfold Builtin.Range.small
  rw [e]
  simp only [Builtin.Range.rangeFitsLong, Bool.and_eq_true, Bool.or_eq_true, decide_eq_true_eq, beq_iff_eq]
  exact ⟨by omega, .inr (by decide)⟩
theorem e_r3d {ma mb mc : ME} {σ : MSt} {h : MH} {k : Nat} (e : ma σ h = some (.int ((k : Int) - 1), h)) (eb : mb σ h = some (.int (-1), h)) (ec : mc σ h = some (.int (-1), h)) (hk : k < 1000000) : miR3 (mCons ma (mCons mb (mCons mc mNil))) σ h = some (rangeS ((k : Int) - 1) (-1) k, none, h) := by
  unfold miR3
  rw [e_cons e (e_cons eb (e_cons ec e_nil)), Option.bind_some]
  obtain ⟨h1, h2⟩ := small_m1 hk
  show (if _ then _ else _) = _
  rw [if_pos ⟨by decide, by decide, h1⟩, h2]
end Mi

namespace Mi
open PySem PySem.Spec PyProof.Rows L2
mutual
noncomputable def pur : W → Bool
  | .tup ws => purs ws
  | .lst ws => purs ws
  | .frz ws => purs ws
  | .ref _ => false
  | _ => true
noncomputable def purs : List W → Bool
  | [] => true
  | w :: ws => pur w && purs ws
end
noncomputable def purO : MO → Bool
  | .lst ws => purs ws
  | .dic kvs => purs (kvs.map (·.2))
mutual
noncomputable def th (f : Nat → Option W) : W → Option W
  | .tup ws => (ths f ws).map .tup
  | .lst ws => (ths f ws).map .lst
  | .frz ws => (ths f ws).map .frz
  | .ref j => f j
  | w => some w
noncomputable def ths (f : Nat → Option W) : List W → Option (List W)
  | [] => some []
  | w :: ws => (th f w).bind fun x => (ths f ws).map (x :: ·)
end
noncomputable def thO (f : Nat → Option W) : MO → Option MO
  | .lst ws => (ths f ws).map .lst
  | .dic kvs => (ths f (kvs.map (·.2))).map fun vs => .dic ((kvs.map (·.1)).zip vs)
noncomputable def res (kp : Nat → Option Nat) (g : MH) : Nat → Nat → Option W
  | 0, j => (kp j).map .ref
  | d + 1, j => match kp j with
    | some n => some (.ref n)
    | none => match g[j]? with
      | some (.lst ws) => (ths (res kp g d) ws).map .lst
      | _ => none
noncomputable def kpOf (ns js : List Nat) (N j : Nat) : Option Nat := match ns[j]? with
  | some n => some n
  | none => (js.findIdx? (· == j)).map (N + ·)
noncomputable def rebA : Nat → List W → Option (List W × List Nat)
  | _, [] => some ([], [])
  | k, .ref n :: ws => (rebA (k + 1) ws).map fun p => (.ref k :: p.1, n :: p.2)
  | k, w :: ws => if pur w then (rebA k ws).map fun p => (w :: p.1, p.2) else none
noncomputable def putBack : List Nat → List MO → MH → MH
  | n :: ns, o :: os, h => putBack ns os (h.set n o)
  | _, _, h => h
noncomputable def pick (h : MH) (n : Nat) : Option MO := match h[n]? with | some o => if purO o then some o else none | none => none
noncomputable def boxF (fr : W → List Nat) (m : FM) (as : List W) (ns : List Nat) (h : MH) : Option (W × MH) :=
  if ns.Nodup then (mapO (pick h) ns).bind fun h0 => (m as h0).bind fun p =>
    if (fr p.1).Nodup ∧ (∀ j ∈ fr p.1, ns.length ≤ j) then
      (th (res (kpOf ns (fr p.1) h.length) p.2 3) p.1).bind fun w =>
      (mapO (fun j => (p.2[j]?).bind (thO (res (kpOf ns (fr p.1) h.length) p.2 3))) (List.range ns.length)).bind fun os =>
      (mapO (fun j => (p.2[j]?).bind (thO (res (kpOf ns (fr p.1) h.length) p.2 3))) (fr p.1)).map fun us =>
      (w, putBack ns os h ++ us)
    else none
  else none
noncomputable def box (fr : W → List Nat) (m : FM) : FM := fun ws h => (rebA 0 ws).bind fun a => boxF fr m a.1 a.2 h
section
variable {K : PySem.W.Frag} {R R' : Rn}
mutual
theorem Rw.pur_mono (hf : ∀ a o, R.F a = some o → R'.F a = some o) : ∀ (w : W) (v : V), pur w = true → Rw K R w v → Rw K R' w v
  | .non, _, _, h => by unfold Rw at h ⊢; exact h
  | .bl _, _, _, h => by unfold Rw at h ⊢; exact h
  | .int _, _, _, h => by unfold Rw at h ⊢; exact h
  | .str _, _, _, h => by unfold Rw at h ⊢; exact h
  | .ty _, _, _, h => by unfold Rw at h ⊢; exact h
  | .tup ws, _, p, h => by
    unfold Rw at h ⊢
    obtain ⟨a, xs, e1, e2, e3⟩ := h
    exact ⟨a, xs, e1, sqT_mono hf e2, Rws.pur_mono hf ws xs (by unfold pur at p; exact p) e3⟩
  | .lst ws, _, p, h => by
    unfold Rw at h ⊢
    obtain ⟨a, xs, e1, e2, e3⟩ := h
    exact ⟨a, xs, e1, hf a _ e2, Rws.pur_mono hf ws xs (by unfold pur at p; exact p) e3⟩
  | .frz ws, _, p, h => by
    unfold Rw at h ⊢
    obtain ⟨a, xs, e1, e2, e3⟩ := h
    exact ⟨a, xs, e1, sqL_mono hf e2, Rws.pur_mono hf ws xs (by unfold pur at p; exact p) e3⟩
  | .ref n, _, p, h => by unfold pur at p; cases p
theorem Rws.pur_mono (hf : ∀ a o, R.F a = some o → R'.F a = some o) : ∀ (ws : List W) (vs : List V), purs ws = true → Rws K R ws vs → Rws K R' ws vs
  | [], _, _, h => by unfold Rws at h ⊢; exact h
  | w :: ws, _, p, h => by
    unfold Rws at h ⊢
    obtain ⟨v, vs', e1, e2, e3⟩ := h
    unfold purs at p
    rw [Bool.and_eq_true] at p
    exact ⟨v, vs', e1, Rw.pur_mono hf w v p.1 e2, Rws.pur_mono hf ws vs' p.2 e3⟩
end
mutual
theorem Rw.th_ok {f : Nat → Option W} (hf : ∀ a o, R.F a = some o → R'.F a = some o) (hr : ∀ j v w, Rw K R (.ref j) v → f j = some w → Rw K R' w v) : ∀ (w : W) (v : V) (w' : W), th f w = some w' → Rw K R w v → Rw K R' w' v
  | .non, _, _, e, h => by unfold th at e; cases e; unfold Rw at h ⊢; exact h
  | .bl _, _, _, e, h => by unfold th at e; cases e; unfold Rw at h ⊢; exact h
  | .int _, _, _, e, h => by unfold th at e; cases e; unfold Rw at h ⊢; exact h
  | .str _, _, _, e, h => by unfold th at e; cases e; unfold Rw at h ⊢; exact h
  | .ty _, _, _, e, h => by unfold th at e; cases e; unfold Rw at h ⊢; exact h
  | .tup ws, _, _, e, h => by
    unfold th at e
    obtain ⟨us, h1, h2⟩ := Option.map_eq_some_iff.mp e
    subst h2
    unfold Rw at h ⊢
    obtain ⟨a, xs, e1, e2, e3⟩ := h
    exact ⟨a, xs, e1, sqT_mono hf e2, Rws.th_ok hf hr ws xs us h1 e3⟩
  | .lst ws, _, _, e, h => by
    unfold th at e
    obtain ⟨us, h1, h2⟩ := Option.map_eq_some_iff.mp e
    subst h2
    unfold Rw at h ⊢
    obtain ⟨a, xs, e1, e2, e3⟩ := h
    exact ⟨a, xs, e1, hf a _ e2, Rws.th_ok hf hr ws xs us h1 e3⟩
  | .frz ws, _, _, e, h => by
    unfold th at e
    obtain ⟨us, h1, h2⟩ := Option.map_eq_some_iff.mp e
    subst h2
    unfold Rw at h ⊢
    obtain ⟨a, xs, e1, e2, e3⟩ := h
    exact ⟨a, xs, e1, sqL_mono hf e2, Rws.th_ok hf hr ws xs us h1 e3⟩
  | .ref n, v, w', e, h => by unfold th at e; exact hr n v w' h e
theorem Rws.th_ok {f : Nat → Option W} (hf : ∀ a o, R.F a = some o → R'.F a = some o) (hr : ∀ j v w, Rw K R (.ref j) v → f j = some w → Rw K R' w v) : ∀ (ws : List W) (vs : List V) (ws' : List W), ths f ws = some ws' → Rws K R ws vs → Rws K R' ws' vs
  | [], _, _, e, h => by unfold ths at e; cases e; unfold Rws at h ⊢; exact h
  | w :: ws, _, _, e, h => by
    unfold ths at e
    obtain ⟨x, h1, h2⟩ := Option.bind_eq_some_iff.mp e
    obtain ⟨us, h3, h4⟩ := Option.map_eq_some_iff.mp h2
    subst h4
    unfold Rws at h
    obtain ⟨v, vs', e1, e2, e3⟩ := h
    subst e1
    exact Rws.cons (Rw.th_ok hf hr w v x h1 e2) (Rws.th_ok hf hr ws vs' us h3 e3)
end
theorem DicR.vals : ∀ {kvs : List (Key × W)} {kx : List (Key × V)}, Paired (fun p q => p.1 = q.1 ∧ Rw K R p.2 q.2) kvs kx → Rws K R (kvs.map (·.2)) (kx.map (·.2)) ∧ kvs.map (·.1) = kx.map (·.1)
  | _, _, .nil => ⟨Rws.nil, rfl⟩
  | _, _, .cons h t => by
    obtain ⟨a, b⟩ := DicR.vals t
    exact ⟨Rws.cons h.2 a, by rw [List.map_cons, List.map_cons, b, h.1]⟩
theorem DicR.zip : ∀ {ks : List Key} {kx : List (Key × V)} {us : List W}, ks = kx.map (·.1) → Rws K R us (kx.map (·.2)) → Paired (fun p q => p.1 = q.1 ∧ Rw K R p.2 q.2) (ks.zip us) kx
  | _, [], us, e, h => by
    subst e
    exact .nil
  | _, q :: kx, us, e, h => by
    subst e
    rw [List.map_cons] at h
    cases us with
    | nil => rw [Rws.nil_iff] at h; cases h
    | cons u us =>
      rw [Rws.cons_iff] at h
      obtain ⟨v, vs, e1, e2, e3⟩ := h
      cases e1
      exact .cons ⟨rfl, e2⟩ (DicR.zip rfl e3)
theorem ro_th_ok {f : Nat → Option W} (hf : ∀ a o, R.F a = some o → R'.F a = some o) (hr : ∀ j v w, Rw K R (.ref j) v → f j = some w → Rw K R' w v) {o o' : MO} {u : Option HO} (e : thO f o = some o') (h : Ro K R o u) : Ro K R' o' u := by
  cases o with
  | lst ws =>
    unfold thO at e
    obtain ⟨us, h1, h2⟩ := Option.map_eq_some_iff.mp e
    subst h2
    obtain ⟨xs, e1, e2⟩ := h
    exact ⟨xs, e1, Rws.th_ok hf hr ws xs us h1 e2⟩
  | dic kvs =>
    unfold thO at e
    obtain ⟨us, h1, h2⟩ := Option.map_eq_some_iff.mp e
    subst h2
    obtain ⟨kx, e1, e2⟩ := h
    obtain ⟨a, b⟩ := DicR.vals e2
    exact ⟨kx, e1, DicR.zip b (Rws.th_ok hf hr _ _ us h1 a)⟩
theorem ro_pur_mono (hf : ∀ a o, R.F a = some o → R'.F a = some o) {o : MO} {u : Option HO} (p : purO o = true) (h : Ro K R o u) : Ro K R' o u := by
  cases o with
  | lst ws =>
    obtain ⟨xs, e1, e2⟩ := h
    exact ⟨xs, e1, Rws.pur_mono hf ws xs p e2⟩
  | dic kvs =>
    obtain ⟨kx, e1, e2⟩ := h
    refine ⟨kx, e1, ?_⟩
    have p' : purs (kvs.map (·.2)) = true := p
    clear p e1
    revert p'
    induction e2 with
    | nil => exact fun _ => .nil
    | cons h t ih =>
      intro p'
      rw [List.map_cons] at p'
      unfold purs at p'
      rw [Bool.and_eq_true] at p'
      exact .cons ⟨h.1, Rw.pur_mono hf _ _ p'.1 h.2⟩ (ih p'.2)
theorem rebA_ok {R0 : Rn} (hf : ∀ a o, R.F a = some o → R0.F a = some o) {all : List Nat} (hρ : ∀ (i n : Nat), all[i]? = some n → i < R0.N ∧ R0.ρ i = R.ρ n) : ∀ {ws : List W} {vs : List V} {pre : List Nat} {as : List W} {ns : List Nat}, rebA pre.length ws = some (as, ns) → all = pre ++ ns → Rws K R ws vs → Rws K R0 as vs
  | [], vs, pre, as, ns, e, ha, h => by
    unfold rebA at e; cases e
    rw [Rws.nil_iff] at h; subst h
    exact Rws.nil
  | w :: ws, vs, pre, as, ns, e, ha, h => by
    rw [Rws.cons_iff] at h
    obtain ⟨v, vs', rfl, h1, h2⟩ := h
    by_cases hw : ∃ n, w = .ref n
    · obtain ⟨n, rfl⟩ := hw
      unfold rebA at e
      obtain ⟨⟨as', ns'⟩, e1, e2⟩ := Option.map_eq_some_iff.mp e
      cases e2
      refine Rws.cons ?_ (rebA_ok hf hρ (pre := pre ++ [n]) (ns := ns') (by rw [List.length_append]; exact e1) (by rw [ha]; simp) h2)
      obtain ⟨z1, z2⟩ := hρ pre.length n (by rw [ha]; simp)
      unfold Rw at h1 ⊢
      exact ⟨z1, by rw [z2]; exact h1.2⟩
    · have e' : (if pur w then (rebA pre.length ws).map fun p => (w :: p.1, p.2) else none) = some (as, ns) := by
        rw [← e]
        cases w <;> first | (exact absurd ⟨_, rfl⟩ hw) | (conv => rhs; unfold rebA)
      split at e'
      · rename_i hp
        obtain ⟨⟨as', ns'⟩, e1, e2⟩ := Option.map_eq_some_iff.mp e'
        cases e2
        exact Rws.cons (Rw.pur_mono hf w v hp h1) (rebA_ok hf hρ e1 ha h2)
      · cases e'
theorem putBack_len : ∀ (ns : List Nat) (os : List MO) (h : MH), (putBack ns os h).length = h.length
  | [], _, h => by unfold putBack; rfl
  | _ :: _, [], h => by unfold putBack; rfl
  | n :: ns, o :: os, h => by unfold putBack; rw [putBack_len ns os, List.length_set]
theorem putBack_out : ∀ (ns : List Nat) (os : List MO) (h : MH) (n : Nat), n ∉ ns → (putBack ns os h)[n]? = h[n]?
  | [], _, h, n, _ => by unfold putBack; rfl
  | _ :: _, [], h, n, _ => by unfold putBack; rfl
  | m :: ns, o :: os, h, n, hn => by
    unfold putBack
    rw [putBack_out ns os _ n (fun z => hn (List.mem_cons_of_mem _ z)), List.getElem?_set_ne (fun z => hn (by rw [z]; exact List.mem_cons_self))]
theorem putBack_in : ∀ (ns : List Nat) (os : List MO) (h : MH) (i n : Nat), ns.Nodup → ns.length = os.length → ns[i]? = some n → n < h.length → (putBack ns os h)[n]? = os[i]?
  | [], _, h, i, n, _, _, e, _ => by simp at e
  | m :: ns, [], h, i, n, _, hl, _, _ => by simp at hl
  | m :: ns, o :: os, h, 0, n, hd, hl, e, hn => by
    simp at e; subst e
    unfold putBack
    rw [putBack_out ns os _ m (List.nodup_cons.mp hd).1, List.getElem?_set_self hn]; rfl
  | m :: ns, o :: os, h, i + 1, n, hd, hl, e, hn => by
    unfold putBack
    rw [putBack_in ns os (h.set m o) i n (List.nodup_cons.mp hd).2 (by simpa using hl) (by simpa using e) (by rw [List.length_set]; exact hn)]
    simp
end
end Mi

namespace Mi
open PySem PySem.Spec PyProof.Rows L2
theorem rebA_len : ∀ {ws : List W} {k : Nat} {as : List W} {ns : List Nat}, rebA k ws = some (as, ns) → as.length = ws.length
  | [], k, as, ns, e => by unfold rebA at e; cases e; rfl
  | w :: ws, k, as, ns, e => by
    cases w <;> unfold rebA at e <;> first
      | (obtain ⟨⟨as', ns'⟩, e1, e2⟩ := Option.map_eq_some_iff.mp e
         cases e2
         simp [rebA_len e1])
      | (split at e
         · obtain ⟨⟨as', ns'⟩, e1, e2⟩ := Option.map_eq_some_iff.mp e
           cases e2
           simp [rebA_len e1]
         · cases e)
theorem findIdx_some {js : List Nat} {j i : Nat} (e : js.findIdx? (· == j) = some i) : js[i]? = some j := by
  rw [List.findIdx?_eq_some_iff_getElem] at e
  obtain ⟨h, h1, _⟩ := e
  rw [List.getElem?_eq_getElem h]
  simp at h1
  rw [h1]
theorem findIdx_none {js : List Nat} {j : Nat} (e : js.findIdx? (· == j) = none) : j ∉ js := by
  rw [List.findIdx?_eq_none_iff] at e
  intro z
  have := e j z
  simp at this
theorem pick_some {h : MH} {n : Nat} {o : MO} (e : pick h n = some o) : h[n]? = some o ∧ purO o = true := by
  unfold pick at e
  split at e
  · rename_i o' h'
    split at e
    · rename_i hp; cases e; exact ⟨h', hp⟩
    · cases e
  · cases e
theorem nodup_get {js : List Nat} (h : js.Nodup) {i i' j : Nat} (e : js[i]? = some j) (e' : js[i']? = some j) : i = i' :=
  (List.getElem?_inj (List.getElem?_eq_some_iff.mp e).1 h).mp (e.trans e'.symm)
section
variable {K : PySem.W.Frag}
open Classical in
theorem box_ok {n : Nat} {fr : W → List Nat} {m : FM} {vs : List V} {H : Hp} {Q : VK} {E : XK} (q : spM K n (box fr m) vs H Q E) : spM K n m vs H Q E := by
  obtain ⟨R, ws, h, wx, h2, hl, rh, rws, e, k⟩ := q
  unfold box at e
  obtain ⟨⟨as, ns⟩, e1, e2⟩ := Option.bind_eq_some_iff.mp e
  unfold boxF at e2
  split at e2
  case isFalse => cases e2
  rename_i hd
  obtain ⟨h0, e3, e4⟩ := Option.bind_eq_some_iff.mp e2
  obtain ⟨⟨w, g⟩, e5, e6⟩ := Option.bind_eq_some_iff.mp e4
  dsimp only at e6
  split at e6
  case isFalse => cases e6
  rename_i hj
  obtain ⟨hjd, hjk⟩ := hj
  obtain ⟨wy, e7, e8⟩ := Option.bind_eq_some_iff.mp e6
  obtain ⟨os, e9, e10⟩ := Option.bind_eq_some_iff.mp e8
  obtain ⟨us, e11, e12⟩ := Option.map_eq_some_iff.mp e10
  cases e12
  generalize hjs : fr w = js at *
  have hns : ∀ (i x : Nat), ns[i]? = some x → x < R.N ∧ ∃ o, h[x]? = some o ∧ h0[i]? = some o ∧ purO o = true := fun i x hx => by
    obtain ⟨o, z1, z2⟩ := (mapO_get e3).2 i x hx
    obtain ⟨z3, z4⟩ := pick_some z2
    exact ⟨by rw [rh.len]; exact (List.getElem?_eq_some_iff.mp z3).1, o, z3, z1, z4⟩
  have hmem : ∀ x, x ∈ ns → ∃ i : Nat, ns[i]? = some x := fun x hx => List.mem_iff_getElem?.mp hx
  let R0 : Rn := { ρ := fun i => R.ρ (ns.getD i 0), N := ns.length, F := R.F, G := fun a => if ∃ x, x < R.N ∧ x ∉ ns ∧ R.ρ x = a then H a else R.G a }
  have hρ : ∀ (i x : Nat), ns[i]? = some x → i < R0.N ∧ R0.ρ i = R.ρ x := fun i x hx => by
    refine ⟨(List.getElem?_eq_some_iff.mp hx).1, ?_⟩
    show R.ρ (ns.getD i 0) = _
    rw [List.getD_eq_getElem?_getD, hx]; rfl
  have hat : ∀ i : Nat, i < ns.length → ∃ x, ns[i]? = some x := fun i hi => ⟨ns[i], List.getElem?_eq_getElem hi⟩
  have hGo : ∀ x, x < R.N → x ∉ ns → R0.G (R.ρ x) = H (R.ρ x) := fun x hx hn => if_pos ⟨x, hx, hn, rfl⟩
  have hGs : ∀ a o, R.G a = some o → R0.G a = some o := fun a o z => by
    show (if ∃ x, x < R.N ∧ x ∉ ns ∧ R.ρ x = a then H a else R.G a) = some o
    split
    · exact rh.gsub a o z
    · exact z
  have rh0 : Rh K R0 h0 H := by
    refine ⟨(mapO_get e3).1, rh.sub, fun i hi => ?_, fun i j hi hj ee => ?_, fun i o hi => ?_, fun a o ha => ?_, fun i hi => ?_, fun a o ha => ?_⟩
    · obtain ⟨x, hx⟩ := hat i hi
      rw [(hρ i x hx).2]
      exact rh.sep x (hns i x hx).1
    · obtain ⟨x, hx⟩ := hat i hi
      obtain ⟨y, hy⟩ := hat j hj
      rw [(hρ i x hx).2, (hρ j y hy).2] at ee
      have := rh.inj x y (hns i x hx).1 (hns j y hy).1 ee
      subst this
      exact nodup_get hd hx hy
    · have hi' : i < ns.length := by rw [(mapO_get e3).1]; exact (List.getElem?_eq_some_iff.mp hi).1
      obtain ⟨x, hx⟩ := hat i hi'
      obtain ⟨_, o', z1, z2, z3⟩ := hns i x hx
      rw [hi] at z2; cases z2
      rw [(hρ i x hx).2]
      exact ro_pur_mono (R := R) (R' := R0) (fun _ _ z => z) z3 (rh.obj x o z1)
    · have ha' : (if ∃ x, x < R.N ∧ x ∉ ns ∧ R.ρ x = a then H a else R.G a) = some o := ha
      split at ha'
      · exact ha'
      · exact rh.gsub a o ha'
    · obtain ⟨x, hx⟩ := hat i hi
      rw [(hρ i x hx).2]
      show (if ∃ y, y < R.N ∧ y ∉ ns ∧ R.ρ y = R.ρ x then H (R.ρ x) else R.G (R.ρ x)) = none
      rw [if_neg]
      · exact rh.gsep x (hns i x hx).1
      · rintro ⟨y, hy, hyn, ey⟩
        have := rh.inj y x hy (hns i x hx).1 ey
        subst this
        exact hyn (List.mem_iff_getElem?.mpr ⟨i, hx⟩)
    · have ha' : (if ∃ x, x < R.N ∧ x ∉ ns ∧ R.ρ x = a then H a else R.G a) = some o := ha
      split at ha'
      · rename_i hx
        obtain ⟨x, hx, _, rfl⟩ := hx
        exact rh.sep x hx
      · exact rh.gf a o ha'
  refine ⟨R0, as, h0, w, g, (rebA_len e1).trans hl, rh0, rebA_ok (R := R) (R0 := R0) (pre := []) (fun _ _ z => z) hρ e1 rfl rws, e5, fun R1 H1 v x1 rh1 rv => ?_⟩
  have hG1 : R1.G = R0.G := x1.g
  have hρ1 : ∀ (i x : Nat), ns[i]? = some x → i < R1.N ∧ R1.ρ i = R.ρ x := fun i x hx => by
    obtain ⟨z1, z2⟩ := hρ i x hx
    exact ⟨Nat.lt_of_lt_of_le z1 x1.n, (x1.ρ i z1).trans z2⟩
  have hj1 : ∀ (i j : Nat), js[i]? = some j → ns.length ≤ j ∧ j < R1.N ∧ ∃ o u, us[i]? = some u ∧ g[j]? = some o ∧ thO (res (kpOf ns js h.length) g 3) o = some u := fun i j hij => by
    obtain ⟨u, z1, z2⟩ := (mapO_get e11).2 i j hij
    obtain ⟨o, z3, z4⟩ := Option.bind_eq_some_iff.mp z2
    exact ⟨hjk j (List.mem_iff_getElem?.mpr ⟨i, hij⟩), by rw [rh1.len]; exact (List.getElem?_eq_some_iff.mp z3).1, o, u, z1, z3, z4⟩
  have hapart : ∀ x, x < R.N → ∀ j, ns.length ≤ j → j < R1.N → R1.ρ j ≠ R.ρ x := fun x hx j hj hjn ee => by
    by_cases hm : x ∈ ns
    · obtain ⟨i, hi⟩ := hmem x hm
      obtain ⟨z1, z2⟩ := hρ1 i x hi
      have := rh1.inj j i hjn z1 (ee.trans z2.symm)
      have := (List.getElem?_eq_some_iff.mp hi).1
      omega
    · have z := rh1.gsep j hjn
      rw [hG1, ee, hGo x hx hm] at z
      obtain ⟨_, u, _, hu⟩ := rh.there hx
      rw [hu] at z; cases z
  let R2 : Rn := { ρ := fun n => if n < R.N then R.ρ n else R1.ρ (js.getD (n - R.N) 0), N := R.N + js.length, F := fun a => match R1.F a with | some o => some o | none => if ∃ j, ns.length ≤ j ∧ j < R1.N ∧ j ∉ js ∧ R1.ρ j = a then H1 a else none, G := R.G }
  have r2lo : ∀ x, x < R.N → R2.ρ x = R.ρ x := fun x hx => if_pos hx
  have r2hi : ∀ (i j : Nat), js[i]? = some j → R2.ρ (R.N + i) = R1.ρ j := fun i j hij => by
    show (if R.N + i < R.N then R.ρ (R.N + i) else R1.ρ (js.getD (R.N + i - R.N) 0)) = _
    rw [if_neg (by omega), Nat.add_sub_cancel_left, List.getD_eq_getElem?_getD, hij]; rfl
  have f1 : ∀ a o, R1.F a = some o → R2.F a = some o := fun a o z => by
    show (match R1.F a with | some o => some o | none => if ∃ j, ns.length ≤ j ∧ j < R1.N ∧ j ∉ js ∧ R1.ρ j = a then H1 a else none) = some o
    rw [z]
  have fnone : ∀ a, R1.F a = none → (¬ ∃ j, ns.length ≤ j ∧ j < R1.N ∧ j ∉ js ∧ R1.ρ j = a) → R2.F a = none := fun a z1 z2 => by
    show (match R1.F a with | some o => some o | none => if ∃ j, ns.length ≤ j ∧ j < R1.N ∧ j ∉ js ∧ R1.ρ j = a then H1 a else none) = none
    rw [z1]; exact if_neg z2
  have fnew : ∀ j, ns.length ≤ j → j < R1.N → j ∉ js → R2.F (R1.ρ j) = H1 (R1.ρ j) := fun j a b c => by
    show (match R1.F (R1.ρ j) with | some o => some o | none => if ∃ j', ns.length ≤ j' ∧ j' < R1.N ∧ j' ∉ js ∧ R1.ρ j' = R1.ρ j then H1 (R1.ρ j) else none) = _
    rw [rh1.sep j b]; exact if_pos ⟨j, a, b, c, rfl⟩
  have hx2 : Ext R R2 := ⟨Nat.le_add_right _ _, fun x hx => r2lo x hx, fun a o z => f1 a o (x1.f a o z), rfl⟩
  have split2 : ∀ x, x < R2.N → x < R.N ∨ ∃ i j : Nat, x = R.N + i ∧ js[i]? = some j := fun x hx => by
    have hx' : x < R.N + js.length := hx
    by_cases z : x < R.N
    · exact .inl z
    · exact .inr ⟨x - R.N, js[x - R.N]'(by omega), by omega, List.getElem?_eq_getElem (by omega)⟩
  have hr : ∀ d j v w, Rw K R1 (.ref j) v → res (kpOf ns js h.length) g d j = some w → Rw K R2 w v := by
    have kp_ok : ∀ j v x, Rw K R1 (.ref j) v → kpOf ns js h.length j = some x → Rw K R2 (.ref x) v := fun j v x r z => by
      unfold Rw at r ⊢
      unfold kpOf at z
      split at z
      · rename_i y hy
        cases z
        obtain ⟨z1, z2⟩ := hρ1 j x hy
        have hxn := (hns j x hy).1
        exact ⟨Nat.lt_of_lt_of_le hxn hx2.n, by rw [r2lo x hxn, ← z2]; exact r.2⟩
      · obtain ⟨i, z1, z2⟩ := Option.map_eq_some_iff.mp z
        have hij := findIdx_some z1
        subst z2
        rw [← rh.len, r2hi i j hij]
        exact ⟨Nat.add_lt_add_left (List.getElem?_eq_some_iff.mp hij).1 _, r.2⟩
    intro d
    induction d with
    | zero =>
      intro j v w r z
      unfold res at z
      obtain ⟨x, z1, z2⟩ := Option.map_eq_some_iff.mp z
      subst z2
      exact kp_ok j v x r z1
    | succ d ih =>
      intro j v w r z
      unfold res at z
      split at z
      · rename_i x hx
        cases z
        exact kp_ok j v x r hx
      · rename_i hnone
        split at z
        · rename_i ws' hg
          obtain ⟨us', z1, z2⟩ := Option.map_eq_some_iff.mp z
          subst z2
          obtain ⟨xs, o1, o2⟩ := rh1.obj j _ hg
          have hr1 : j < R1.N ∧ v = .ref (R1.ρ j) := by unfold Rw at r; exact r
          unfold kpOf at hnone
          split at hnone
          · cases hnone
          · rename_i hnj
            have hnj' : j ∉ js := findIdx_none (by simpa using hnone)
            unfold Rw
            refine ⟨R1.ρ j, xs, hr1.2, ?_, Rws.th_ok f1 ih ws' xs us' z1 o2⟩
            rw [fnew j (List.getElem?_eq_none_iff.mp hnj) hr1.1 hnj']
            exact o1
        · cases z
  refine k R2 H1 v hx2 ⟨?_, fun a o ha => ?_, fun x hx => ?_, fun x y hx hy ee => ?_, fun x o hx => ?_, fun a o ha => ?_, fun x hx => ?_, fun a o ha => ?_⟩ (Rw.th_ok f1 (hr 3) w v _ e7 rv)
  · show R.N + js.length = _
    rw [List.length_append, putBack_len, ← (mapO_get e11).1, rh.len]
  · have ha' : (match R1.F a with | some o => some o | none => if ∃ j, ns.length ≤ j ∧ j < R1.N ∧ j ∉ js ∧ R1.ρ j = a then H1 a else none) = some o := ha
    split at ha'
    · rename_i o' ho'
      cases ha'
      exact rh1.sub a _ ho'
    · split at ha'
      · exact ha'
      · cases ha'
  · rcases split2 x hx with hx | ⟨i, j, rfl, hij⟩
    · rw [r2lo x hx]
      refine fnone _ ?_ (fun ⟨j, a, b, _, c⟩ => hapart x hx j a b c)
      by_cases hm : x ∈ ns
      · obtain ⟨i, hi⟩ := hmem x hm
        obtain ⟨z1, z2⟩ := hρ1 i x hi
        rw [← z2]; exact rh1.sep i z1
      · obtain ⟨_, u, _, hu⟩ := rh.there hx
        exact rh1.gf _ u (by rw [hG1, hGo x hx hm]; exact hu)
    · obtain ⟨z1, z2, _⟩ := hj1 i j hij
      rw [r2hi i j hij]
      refine fnone _ (rh1.sep j z2) (fun ⟨j', a, b, c, d⟩ => ?_)
      have := rh1.inj j' j b z2 d
      subst this
      exact c (List.mem_iff_getElem?.mpr ⟨i, hij⟩)
  · rcases split2 x hx with hx | ⟨i, j, rfl, hij⟩ <;> rcases split2 y hy with hy | ⟨i', j', rfl, hij'⟩
    · rw [r2lo x hx, r2lo y hy] at ee; exact rh.inj x y hx hy ee
    · rw [r2lo x hx, r2hi i' j' hij'] at ee
      obtain ⟨z1, z2, _⟩ := hj1 i' j' hij'
      exact absurd ee.symm (hapart x hx j' z1 z2)
    · rw [r2lo y hy, r2hi i j hij] at ee
      obtain ⟨z1, z2, _⟩ := hj1 i j hij
      exact absurd ee (hapart y hy j z1 z2)
    · rw [r2hi i j hij, r2hi i' j' hij'] at ee
      obtain ⟨_, z2, _⟩ := hj1 i j hij
      obtain ⟨_, z2', _⟩ := hj1 i' j' hij'
      have := rh1.inj j j' z2 z2' ee
      subst this
      rw [nodup_get hjd hij hij']
  · have hx' : x < R2.N := by
      have := (List.getElem?_eq_some_iff.mp hx).1
      rw [List.length_append, putBack_len, ← (mapO_get e11).1, ← rh.len] at this
      exact this
    rcases split2 x hx' with hn | ⟨i, j, rfl, hij⟩
    · rw [List.getElem?_append_left (by rw [putBack_len, ← rh.len]; exact hn)] at hx
      rw [r2lo x hn]
      by_cases hm : x ∈ ns
      · obtain ⟨i, hi⟩ := hmem x hm
        obtain ⟨z1, z2⟩ := hρ1 i x hi
        have hil := (List.getElem?_eq_some_iff.mp hi).1
        rw [putBack_in ns os h i x hd (by rw [← (mapO_get e9).1, List.length_range]) hi (by rw [← rh.len]; exact hn)] at hx
        obtain ⟨u, y1, y2⟩ := (mapO_get e9).2 i i (by rw [List.getElem?_range hil])
        rw [hx] at y1; cases y1
        obtain ⟨o', y3, y4⟩ := Option.bind_eq_some_iff.mp y2
        rw [← z2]
        exact ro_th_ok f1 (hr 3) y4 (rh1.obj i o' y3)
      · rw [putBack_out ns os h x hm] at hx
        obtain ⟨_, u, _, hu⟩ := rh.there hn
        have hu1 : H1 (R.ρ x) = some u := rh1.gsub _ u (by rw [hG1, hGo x hn hm]; exact hu)
        have := rh.obj x o hx
        rw [hu] at this
        rw [hu1]
        exact this.mono hx2
    · obtain ⟨z1, z2, o', u, y1, y2, y3⟩ := hj1 i j hij
      rw [List.getElem?_append_right (by rw [putBack_len, ← rh.len]; omega), putBack_len, ← rh.len, Nat.add_sub_cancel_left, y1] at hx
      cases hx
      rw [r2hi i j hij]
      exact ro_th_ok f1 (hr 3) y3 (rh1.obj j o' y2)
  · exact rh1.gsub a o (by rw [hG1]; exact hGs a o ha)
  · rcases split2 x hx with hx | ⟨i, j, rfl, hij⟩
    · rw [r2lo x hx]; exact rh.gsep x hx
    · rw [r2hi i j hij]
      obtain ⟨_, z2, _⟩ := hj1 i j hij
      cases z : R2.G (R1.ρ j) with
      | none => rfl
      | some u =>
        have z3 := rh1.gsep j z2
        rw [hG1, hGs _ u z] at z3; cases z3
  · have hg : R1.G a = some o := by rw [hG1]; exact hGs a o ha
    refine fnone a (rh1.gf a o hg) (fun ⟨j, _, b, _, d⟩ => ?_)
    have z3 := rh1.gsep j b
    rw [d, hg] at z3; cases z3
theorem Cal.box {P : Program} {w : World} {mg : Str → Option Value} {base : Heap} {x : Str} {ps : List Str} {k : Nat} {g : FM} (fr : W → List Nat) (C : Cal P w K mg base k x ps g) : Cal P w K mg base k x ps (Mi.box fr g) :=
  C.imp fun _ _ _ _ q => box_ok q
end
noncomputable def frN : W → List Nat := fun _ => []
noncomputable def frR : W → List Nat
  | .ref j => [j]
  | _ => []
end Mi

namespace Mi
open PySem PySem.Spec PyProof.Rows L2
noncomputable def gSets : List Nat → List W → MSt → Option MSt
  | [], [], σ => some σ
  | i :: is, w :: ws, σ => gSets is ws (σ.set i (some w))
  | _, _, _ => none
noncomputable def gTupN (is : List Nat) : MG := fun w σ _ => match w with | .tup ws => gSets is ws σ | _ => none
noncomputable def nestG : List Nat → TGs
  | [] => gNil
  | i :: is => gCons (gName i) (nestG is)
theorem pgsN_nil {X : Cx} : PGs X [] (nestG []) := pgs_nil
theorem pgsN_cons {X : Cx} {i : Nat} {x : Str} {pos : Pos} {es : List Expr} {is : List Nat} (hN : X.N.Nodup) (hi : X.N[i]? = some x) (hx : Loc X.env.scope x) (h : PGs X es (nestG is)) (hf : X.fn x = true ∨ X.env.scope.names.lookup x = some .local)
    : PGs X (.Name x pos :: es) (nestG (i :: is)) := pgs_cons (pg_name hN hi hx hf) h
theorem gSets_of {K : PySem.W.Frag} {R : Rn} {H : Hp} {C : L2.St → Hp → Prop} : ∀ {is : List Nat} {ws : List W} {xs : List V} {σi σ1 : MSt} {σ : L2.St}, gSets is ws σi = some σ1 → Rws K R ws xs → Rst K R σi σ → (∀ σ', Rst K R σ1 σ' → C σ' H) → nestG is xs σ H C
  | [], [], xs, σi, σ1, σ, e, r, s, k => by
    cases e
    rw [Rws.nil_iff] at r
    exact ⟨r, k σ s⟩
  | i :: is, w :: ws, xs, σi, σ1, σ, e, r, s, k => by
    rw [Rws.cons_iff] at r
    obtain ⟨v, vs, rfl, r1, r2⟩ := r
    exact ⟨v, vs, rfl, gSets_of (is := is) e r2 (s.set r1) k⟩
  | [], _ :: _, _, _, _, _, e, _, _, _ => by cases e
  | _ :: _, [], _, _, _, _, e, _, _, _ => by cases e
theorem gSets_len : ∀ {is : List Nat} {ws : List W} {σ σ1 : MSt}, gSets is ws σ = some σ1 → ws.length = is.length
  | [], [], _, _, _ => rfl
  | i :: is, w :: ws, σ, σ1, e => by
    have := gSets_len (is := is) (ws := ws) e
    simp [this]
  | [], _ :: _, _, _, e => by cases e
  | _ :: _, [], _, _, e => by cases e
theorem pmg_tupN {X : Cx} {es : List Expr} {is : List Nat} {k : Nat} {pos : Pos} (hc : X.calm = true) (h : PGs X es (nestG is)) (hn : (assignEach es X.env).length = is.length) (hs : (assignEach es X.env).findIdx? (·.1) = none) : PMG X (.Tuple es k pos) (gTupN is) :=
  pg_imp (pg_tup hc h hn hs) fun v σ H C ⟨R, σi, h, w, σ1, rh, st, rw, e, q⟩ => by
    unfold gTupN at e
    split at e
    · rename_i ws
      obtain ⟨ad, xs, rfl, q1, r1⟩ := rh.tupAt rw
      exact ⟨ad, xs, rfl, q1, by rw [← r1.length]; exact gSets_len e, gSets_of e r1 st fun σ' s' => q R H σ' (Ext.refl _) rh s'⟩
    · cases e
noncomputable def mAsg (g : MG) (m : ME) : SM := fun σ h => (m σ h).bind fun p => (g p.1 σ p.2).map fun σ1 => .nx σ1 p.2
theorem pms_asg {X : Cx} {tg e : Expr} {g : MG} {m : ME} {pos : Pos} (he : PM X e m) (hg : PMG X tg g) (hs : swapsWithSole [tg] e pos.line X.env = pure false) (hw : swappedStores [tg] e X.env = pure none) (h1 : (assignEach [tg] X.env).map (·.2) = [assign tg X.env]) :
    PMS X (.Assign [tg] e pos) (mAsg g m) := ps_imp (ps_asg he hg hs hw h1) <| by
  rintro D σ H ⟨R, σi, h, r, rh, s, e, k⟩
  obtain ⟨⟨w, h1⟩, e1, e2⟩ := Option.bind_eq_some_iff.mp e
  obtain ⟨σ1, e3, e4⟩ := Option.map_eq_some_iff.mp e2
  cases e4
  exact ⟨R, σi, h, w, h1, rh, s, e1, fun R1 H1 v x1 rh1 rv => ⟨R1, σi, h1, w, σ1, rh1, s.mono x1, rv, e3, fun R' H' σ' x' rh' s' => k R' H' σ' (x1.trans x') rh' s'⟩⟩
noncomputable def wMax (ws : List W) (h : MH) : Option (W × MH) := match ws with
  | [.int i, .int j] => some (.int (if j > i then j else i), h)
  | _ => none
noncomputable def wMin (ws : List W) (h : MH) : Option (W × MH) := match ws with
  | [.int i, .int j] => some (.int (if j < i then j else i), h)
  | _ => none
section
variable {X : Cx}
theorem callr_max (hc : X.calm = true) : CallR X (.builtin "max") (Fs X.K wMax) := by
  intro pins s σ H xs us Q I r q
  refine call_max2 hc pins s σ H xs us Q I r ?_
  obtain ⟨R, h, ws, w, h', rh, rw, e, k⟩ := q
  unfold wMax at e
  split at e
  · cases e
    obtain ⟨v, u, rfl, r1, r2⟩ := rws2 rw
    exact ⟨_, _, by rw [r1.int_eq, r2.int_eq], k R H _ (Ext.refl _) rh (Rw.int _)⟩
  · cases e
theorem callr_min (hc : X.calm = true) : CallR X (.builtin "min") (Fs X.K wMin) := by
  intro pins s σ H xs us Q I r q
  refine call_min2 hc pins s σ H xs us Q I r ?_
  obtain ⟨R, h, ws, w, h', rh, rw, e, k⟩ := q
  unfold wMin at e
  split at e
  · cases e
    obtain ⟨v, u, rfl, r1, r2⟩ := rws2 rw
    exact ⟨_, _, by rw [r1.int_eq, r2.int_eq], k R H _ (Ext.refl _) rh (Rw.int _)⟩
  · cases e
noncomputable def rep (x : Str) (n : Int) : Str := ⟨((List.replicate n.toNat x.cps.toList).flatten).toArray⟩
theorem foldl_app : ∀ (l : List (Array Nat)) (a : Array Nat), l.foldl (· ++ ·) a = (a.toList ++ (l.map Array.toList).flatten).toArray
  | [], a => by simp
  | b :: l, a => by rw [List.foldl_cons, foldl_app l]; simp
theorem rep_eq (x : Str) (n : Int) : (⟨(List.replicate n.toNat x.cps).foldl (· ++ ·) #[]⟩ : Str) = rep x n := by
  unfold rep
  rw [foldl_app]
  simp
theorem rep_none (x : Str) {n : Int} (h : n < 1) : Str.empty = rep x n := by
  unfold rep
  rw [show n.toNat = 0 by omega]; rfl
theorem rep_one (x : Str) : x = rep x 1 := by
  unfold rep
  simp
theorem rep_nil {x : Str} (n : Int) (h : (x.length == 0) = true) : x = rep x n := by
  unfold rep
  have : x.cps = #[] := by
    have : x.cps.size = 0 := by simpa [Str.length] using h
    exact Array.eq_empty_of_size_eq_zero this
  obtain ⟨c⟩ := x
  simp at this
  subst this
  simp
noncomputable def wMulA (a b : W) (h : MH) : Option (W × MH) := match a, b with
  | .str x, .int n => if n < 1000 ∧ -1000 < n ∧ x.length < 1000 then some (.str (rep x n), h) else none
  | a, b => wMul a b h
theorem op_repS : OpR X (binaryOp .Mult) (fun x y H Q => ∃ z n, x = .str z ∧ y = .int n ∧ (n < 1000 ∧ -1000 < n ∧ z.length < 1000) ∧ Q (.str (rep z n)) H) := by
  intro pins s σ H x y v u Q I rx ry ⟨z, n, e1, e2, ⟨h1, h2, h3⟩, q⟩
  subst e1 e2
  obtain ⟨t, rfl⟩ := rx
  obtain ⟨t', rfl⟩ := ry
  have hm : z.length * n.toNat < 1000000 := by
    calc z.length * n.toNat ≤ 999 * 999 := Nat.mul_le_mul (by omega) (by omega)
      _ < 1000000 := by decide
  refine PySem.P.mul_str (by rw [decide_eq_false (by omega), decide_eq_false (by omega)]; rfl) (fun a _ => ?_) (fun a _ => ?_) ?_
  · have : (2 ^ 63 - 1) / n ≥ 1000 := by
      rw [ge_iff_le, Int.le_ediv_iff_mul_le (by omega)]; omega
    omega
  · unfold Builtin.Str.tooLong
    exact decide_eq_false (by show ¬ _; have : sizeLine = 16777216 := by decide
                              omega)
  · have done : ∀ (y : Str) (tk : Tok) (s' : Shared), y = rep z n → Inv X pins σ H s' → EP X pins σ Q (.str y tk) s' := fun y tk s' ey I' => ⟨.str y, H, I', ⟨_, rfl⟩, by rw [ey]; exact q⟩
    split
    · rename_i hn
      exact ⟨by decide, done _ _ _ (rep_none z hn) (I.tok _)⟩
    · split
      · rename_i hn ho
        rw [Bool.or_eq_true] at ho
        refine done _ _ _ ?_ I
        rcases ho with ho | ho
        · have : n = 1 := by simpa using ho
          subst this; exact rep_one z
        · exact rep_nil n ho
      · refine ⟨?_, done _ _ _ (rep_eq z n) (I.tok _)⟩
        rw [rep_eq]
        have hl : (rep z n).length = n.toNat * z.length := by
          unfold rep Str.length
          simp
        rw [hl, Nat.mul_comm]
        have : sizeLine = 16777216 := by decide
        omega
theorem opr_mulA : OpR X (binaryOp .Mult) (F2 X.K wMulA) := by
  intro pins s σ H x y v u Q I rx ry q
  obtain ⟨R, h, a, b, w, h', rh, ra, rb, e, k⟩ := q
  unfold wMulA at e
  split at e
  · split at e
    · rename_i hl
      cases e
      exact op_repS pins s σ H x y v u Q I rx ry ⟨_, _, ra.str_eq, rb.int_eq, hl, k R H _ (Ext.refl _) rh (Rw.str _)⟩
    · cases e
  · exact opr_mul pins s σ H x y v u Q I rx ry ⟨R, h, a, b, w, h', rh, ra, rb, e, k⟩
end
section
variable {X : Cx} {elt tg iter c : Expr} {scope : Scope} {pos pos' spos : Pos} {cl : List (Str × Addr)} {Nb : List Str} {cp : List (Option Nat)} {mi : MI} {b : MG} {mt : MT} {me m : ME} {fin : List W → MH → Option (W × MH)} {i : Nat} {x : Str} {e : Expr}
theorem setC_of {K : PySem.W.Frag} {D : L2.Ends} {σ : L2.St} {H : Hp} (q : tS K (mSet i m) D σ H) : tI K m σ H fun v H1 => gName i v σ H1 D.nx := by
  obtain ⟨R, σi, h, r, rh, s, e, k⟩ := q
  obtain ⟨⟨w, h1⟩, e1, e2⟩ := Option.map_eq_some_iff.mp e
  cases e2
  exact ⟨R, σi, h, w, h1, rh, s, e1, fun R1 H1 v x1 rh1 rv => k R1 H1 _ x1 rh1 ((s.mono x1).set rv)⟩
theorem pms_setC0 (hN : X.N.Nodup) (hix : X.N[i]? = some x) (hx : Loc X.env.scope x) (hfn : X.fn x = true ∨ X.env.scope.names.lookup x = some .local) (hf : FinOk X.K fin) (hc : X.calm = true) (B : BlkOk X scope cl Nb cp) (hi : PMI X tg iter mi) (hg : ∀ s₀ H₀ C ex pn, PMG (Mi.blk X scope cl Nb s₀ H₀ C ex pn) tg b)
    (he : ∀ s₀ H₀ C ex pn, PM (Mi.blk X scope cl Nb s₀ H₀ C ex pn) elt me) (hs : ∀ x, foldedSetIterable iter X.env x = pure x) (hsw : swapsWith (.ListComp elt [⟨tg, iter, [], 0⟩] scope pos) (some (.Name x pos')) spos.line X.env = pure true) :
    PMS X (.Assign [.Name x pos'] (.ListComp elt [⟨tg, iter, [], 0⟩] scope pos) spos) (mSet i (mComp fin mi cp b mYes me)) :=
  ps_imp (ps_setC (g := tIG X.K b) (te := tI X.K me) (tt := tIT X.K mYes) hN hix hx hfn hsw hc B hi hg (fun s₀ H₀ C ex pn pins s τ H Q I q => wpAny_tests_nil (by
    obtain ⟨R, σi, h, t, h', rh, st, e, k⟩ := q
    cases e
    exact ⟨H, I, k R H (Ext.refl _) rh⟩)) he hs) fun _ _ _ q => comp_of hf (setC_of q)
end
end Mi

namespace Mi
open PySem PySem.Spec PyProof.Rows L2
set_option checkBinderAnnotations false in
noncomputable def ob {α β : Type} [f : α → Option β] (x : Option α) : Option β := x.bind f
set_option checkBinderAnnotations false in
noncomputable def om {α β : Type} [f : α → β] (x : Option α) : Option β := x.map f
@[simp] theorem ob_some {α β : Type} {a : α} {f : α → Option β} : @ob _ _ f (some a) = f a := id rfl
@[simp] theorem om_some {α β : Type} {a : α} {f : α → β} : @om _ _ f (some a) = some (f a) := id rfl
noncomputable def onNx (b : SM) : MF → Option MF
  | .nx σ h => b σ h
  | r => some r
section
variable {σ σ' : MSt} {h h' : MH} {a b : SM} {m ma mb mc : ME} {t u : MT} {ms : MA} {w x y : W} {ws : List W}
@[simp] theorem onNx_nx : onNx b (.nx σ h) = b σ h := id rfl
@[simp] theorem onNx_rt : onNx b (.rt w h) = some (.rt w h) := id rfl
@[simp] theorem s_seq : mSeq a b σ h = @ob _ _ (onNx b) (a σ h) := by
  unfold mSeq
  refine congrArg (fun f_ => @ob _ _ f_ (a σ h)) (funext fun r => ?_)
  cases r <;> rfl
@[simp] theorem s_skip : mSkip σ h = some (.nx σ h) := id rfl
@[simp] theorem s_ret : mRet m σ h = @om _ _ (fun p => .rt p.1 p.2) (m σ h) := id rfl
noncomputable def onB (a b : SM) (σ : MSt) (p : Bool × MH) : Option MF := if p.1 = true then a σ p.2 else b σ p.2
@[simp] theorem onB_def (c : Bool) : onB a b σ (c, h) = if c = true then a σ h else b σ h := id rfl
@[simp] theorem s_ite : mIte t a b σ h = @ob _ _ (onB a b σ) (t σ h) := by
  unfold mIte
  refine congrArg (fun f_ => @ob _ _ f_ (t σ h)) (funext fun p => ?_)
  obtain ⟨c, h⟩ := p
  cases c <;> rfl
@[simp] theorem s_drop : mDrop m σ h = @om _ _ (fun p => .nx σ p.2) (m σ h) := id rfl
@[simp 500] theorem s_set {i : Nat} : mSet i m σ h = @om _ _ (fun p => .nx (σ.set i (some p.1)) p.2) (m σ h) := id rfl
@[simp] theorem s_aug {i : Nat} {f : W → W → MH → Option (W × MH)} : mAug i f m σ h = @ob _ _ (fun x => @ob _ _ (fun p => @om _ _ (fun q => .nx (σ.set i (some q.1)) q.2) (f x.1 p.1 p.2)) (m σ h)) (mVar i σ h) := by
  unfold mAug mVar
  rcases σ[i]? with _ | _ | x <;> rfl
@[simp 1100] theorem set_0 {v0 x : Option W} {r : MSt} : List.set (v0 :: r) 0 x = x :: r := id rfl
@[simp 1100] theorem set_1 {v0 v1 x : Option W} {r : MSt} : List.set (v0 :: v1 :: r) 1 x = v0 :: x :: r := id rfl
@[simp 1100] theorem set_2 {v0 v1 v2 x : Option W} {r : MSt} : List.set (v0 :: v1 :: v2 :: r) 2 x = v0 :: v1 :: x :: r := id rfl
@[simp 1100] theorem set_3 {v0 v1 v2 v3 x : Option W} {r : MSt} : List.set (v0 :: v1 :: v2 :: v3 :: r) 3 x = v0 :: v1 :: v2 :: x :: r := id rfl
@[simp 1100] theorem set_4 {v0 v1 v2 v3 v4 x : Option W} {r : MSt} : List.set (v0 :: v1 :: v2 :: v3 :: v4 :: r) 4 x = v0 :: v1 :: v2 :: v3 :: x :: r := id rfl
@[simp 1100] theorem set_5 {v0 v1 v2 v3 v4 v5 x : Option W} {r : MSt} : List.set (v0 :: v1 :: v2 :: v3 :: v4 :: v5 :: r) 5 x = v0 :: v1 :: v2 :: v3 :: v4 :: x :: r := id rfl
@[simp 1100] theorem set_6 {v0 v1 v2 v3 v4 v5 v6 x : Option W} {r : MSt} : List.set (v0 :: v1 :: v2 :: v3 :: v4 :: v5 :: v6 :: r) 6 x = v0 :: v1 :: v2 :: v3 :: v4 :: v5 :: x :: r := id rfl
@[simp 1100] theorem set_7 {v0 v1 v2 v3 v4 v5 v6 v7 x : Option W} {r : MSt} : List.set (v0 :: v1 :: v2 :: v3 :: v4 :: v5 :: v6 :: v7 :: r) 7 x = v0 :: v1 :: v2 :: v3 :: v4 :: v5 :: v6 :: x :: r := id rfl
@[simp 1100] theorem set_8 {v0 v1 v2 v3 v4 v5 v6 v7 v8 x : Option W} {r : MSt} : List.set (v0 :: v1 :: v2 :: v3 :: v4 :: v5 :: v6 :: v7 :: v8 :: r) 8 x = v0 :: v1 :: v2 :: v3 :: v4 :: v5 :: v6 :: v7 :: x :: r := id rfl
@[simp 1100] theorem set_9 {v0 v1 v2 v3 v4 v5 v6 v7 v8 v9 x : Option W} {r : MSt} : List.set (v0 :: v1 :: v2 :: v3 :: v4 :: v5 :: v6 :: v7 :: v8 :: v9 :: r) 9 x = v0 :: v1 :: v2 :: v3 :: v4 :: v5 :: v6 :: v7 :: v8 :: x :: r := id rfl
@[simp] theorem s_asg {g : MG} : mAsg g m σ h = @ob _ _ (fun p => @om _ _ (fun σ1 => .nx σ1 p.2) (g p.1 σ p.2)) (m σ h) := id rfl
@[simp] theorem s_var0 {o : W} {r : MSt} : mVar 0 (some o :: r) h = some (o, h) := id rfl
@[simp] theorem s_var1 {v0 : Option W} {o : W} {r : MSt} : mVar 1 (v0 :: some o :: r) h = some (o, h) := id rfl
@[simp] theorem s_var2 {v0 v1 : Option W} {o : W} {r : MSt} : mVar 2 (v0 :: v1 :: some o :: r) h = some (o, h) := id rfl
@[simp] theorem s_var3 {v0 v1 v2 : Option W} {o : W} {r : MSt} : mVar 3 (v0 :: v1 :: v2 :: some o :: r) h = some (o, h) := id rfl
@[simp] theorem s_var4 {v0 v1 v2 v3 : Option W} {o : W} {r : MSt} : mVar 4 (v0 :: v1 :: v2 :: v3 :: some o :: r) h = some (o, h) := id rfl
@[simp] theorem s_var5 {v0 v1 v2 v3 v4 : Option W} {o : W} {r : MSt} : mVar 5 (v0 :: v1 :: v2 :: v3 :: v4 :: some o :: r) h = some (o, h) := id rfl
@[simp] theorem s_var6 {v0 v1 v2 v3 v4 v5 : Option W} {o : W} {r : MSt} : mVar 6 (v0 :: v1 :: v2 :: v3 :: v4 :: v5 :: some o :: r) h = some (o, h) := id rfl
@[simp] theorem s_var7 {v0 v1 v2 v3 v4 v5 v6 : Option W} {o : W} {r : MSt} : mVar 7 (v0 :: v1 :: v2 :: v3 :: v4 :: v5 :: v6 :: some o :: r) h = some (o, h) := id rfl
@[simp] theorem s_var8 {v0 v1 v2 v3 v4 v5 v6 v7 : Option W} {o : W} {r : MSt} : mVar 8 (v0 :: v1 :: v2 :: v3 :: v4 :: v5 :: v6 :: v7 :: some o :: r) h = some (o, h) := id rfl
@[simp] theorem s_var9 {v0 v1 v2 v3 v4 v5 v6 v7 v8 : Option W} {o : W} {r : MSt} : mVar 9 (v0 :: v1 :: v2 :: v3 :: v4 :: v5 :: v6 :: v7 :: v8 :: some o :: r) h = some (o, h) := id rfl
@[simp 400] theorem s_varS {i : Nat} {o : Option W} {r : MSt} : mVar (i + 1) (o :: r) h = mVar i r h := by
  unfold mVar; rw [List.getElem?_cons_succ]
@[simp] theorem s_c : mC w σ h = some (w, h) := id rfl
@[simp 500] theorem s_bin {f : W → W → MH → Option (W × MH)} : mBin f ma mb σ h = @ob _ _ (fun p => @ob _ _ (fun q => f p.1 q.1 q.2) (mb σ p.2)) (ma σ h) := id rfl
@[simp] theorem s_un {f : W → MH → Option (W × MH)} : mUn f ma σ h = @ob _ _ (fun p => f p.1 p.2) (ma σ h) := id rfl
@[simp] theorem s_fn {f : List W → MH → Option (W × MH)} : mFn f ms σ h = @ob _ _ (fun p => f p.1 p.2) (ms σ h) := id rfl
@[simp] theorem s_call {n : Nat} {g : FM} : mCall n g ms σ h = @ob _ _ (fun p => if p.1.length = n then g p.1 p.2 else none) (ms σ h) := id rfl
@[simp] theorem s_nil : mNil σ h = some ([], h) := id rfl
@[simp 600] theorem s_binC {f : W → W → MH → Option (W × MH)} : mBin f ma (mC w) σ h = @ob _ _ (fun p => f p.1 w p.2) (ma σ h) := id rfl
@[simp 600] theorem s_consC : mCons (mC w) ms σ h = @ob _ _ (fun q => some (w :: q.1, q.2)) (ms σ h) := id rfl
@[simp 610] theorem s_cons1 : mCons m mNil σ h = @ob _ _ (fun p => some ([p.1], p.2)) (m σ h) := id rfl
@[simp 620] theorem s_consC1 : mCons (mC w) mNil σ h = some ([w], h) := id rfl
@[simp 600] theorem s_setC {i : Nat} : mSet i (mC w) σ h = some (.nx (σ.set i (some w)) h) := id rfl
@[simp 500] theorem s_cons : mCons m ms σ h = @ob _ _ (fun p => @ob _ _ (fun q => some (p.1 :: q.1, q.2)) (ms σ p.2)) (m σ h) := id rfl
noncomputable def asB (p : W × MH) : Option (Bool × MH) := match p.1 with | .bl b => some (b, p.2) | _ => none
@[simp] theorem asB_bl (c : Bool) : asB (.bl c, h) = some (c, h) := id rfl
@[simp 500] theorem s_test : mTest m σ h = @ob _ _ asB (m σ h) := id rfl
@[simp] theorem s_tnot : mtNot t σ h = @om _ _ (fun p => (!p.1, p.2)) (t σ h) := by
  unfold mtNot
  first | rfl | (cases t σ h <;> rfl)
noncomputable def onAnd (u : MT) (σ : MSt) (p : Bool × MH) : Option (Bool × MH) := if p.1 = true then u σ p.2 else some (false, p.2)
noncomputable def onOr (u : MT) (σ : MSt) (p : Bool × MH) : Option (Bool × MH) := if p.1 = true then some (true, p.2) else u σ p.2
@[simp] theorem onAnd_def (c : Bool) : onAnd u σ (c, h) = if c = true then u σ h else some (false, h) := id rfl
@[simp] theorem onOr_def (c : Bool) : onOr u σ (c, h) = if c = true then some (true, h) else u σ h := id rfl
@[simp 500] theorem s_tand : mtAnd t u σ h = @ob _ _ (onAnd u σ) (t σ h) := by
  unfold mtAnd
  refine congrArg (fun f_ => @ob _ _ f_ (t σ h)) (funext fun p => ?_)
  obtain ⟨c, h⟩ := p
  cases c <;> rfl
@[simp 500] theorem s_tor : mtOr t u σ h = @ob _ _ (onOr u σ) (t σ h) := by
  unfold mtOr
  refine congrArg (fun f_ => @ob _ _ f_ (t σ h)) (funext fun p => ?_)
  obtain ⟨c, h⟩ := p
  cases c <;> rfl
noncomputable def onIf (ma mb : ME) (σ : MSt) (p : Bool × MH) : Option (W × MH) := if p.1 = true then ma σ p.2 else mb σ p.2
@[simp] theorem onIf_def (c : Bool) : onIf ma mb σ (c, h) = if c = true then ma σ h else mb σ h := id rfl
@[simp] theorem s_if : mIf t ma mb σ h = @ob _ _ (onIf ma mb σ) (t σ h) := by
  unfold mIf
  refine congrArg (fun f_ => @ob _ _ f_ (t σ h)) (funext fun p => ?_)
  obtain ⟨c, h⟩ := p
  cases c <;> rfl
@[simp] theorem s_tru : mTru m σ h = @ob _ _ (fun p => @om _ _ (fun b => (b, p.2)) (truW p.2 p.1)) (m σ h) := by
  unfold mTru
  rfl
@[simp] theorem s_mt {T : String} {f : W → List W → MH → Option (W × MH)} : mMt T f m ms σ h = @ob _ _ (fun p => if tyW p.2 T p.1 = true then @ob _ _ (fun q => f p.1 q.1 q.2) (ms σ p.2) else none) (m σ h) := id rfl
end
section
variable {h : MH} {i j : Int} {x y : Str} {ws us : List W} {w : W}
@[simp] theorem s_add : wAdd (.int i) (.int j) h = some (.int (i + j), h) := id rfl
@[simp] theorem s_sub : wSub (.int i) (.int j) h = some (.int (i - j), h) := id rfl
@[simp] theorem s_lt : wLt (.int i) (.int j) h = some (.bl (decide (i < j)), h) := id rfl
@[simp] theorem s_gt : wGt (.int i) (.int j) h = some (.bl (decide (j < i)), h) := id rfl
@[simp] theorem s_ge : wGe (.int i) (.int j) h = some (.bl (decide (j ≤ i)), h) := id rfl
@[simp] theorem s_neg : wNeg (.int i) h = some (.int (-i), h) := id rfl
@[simp] theorem s_addI : wAddI (.int i) (.int j) h = some (.int (i + j), h) := id rfl
@[simp] theorem s_mod (c : 0 < j) : wMod (.int i) (.int j) h = some (.int (i % j), h) := wMod_eq c
@[simp] theorem s_div (c : 0 < j) (c' : j < 1073741824) : wDiv (.int i) (.int j) h = some (.int (i / j), h) := wDiv_eq ⟨c, c'⟩
@[simp] theorem s_mulR (c : -18446744073709551616 < j) (c' : j < 18446744073709551616) : wMulA (.int i) (.int j) h = some (.int (i * j), h) := wMul_eq (.inr ⟨c, c'⟩)
@[simp] theorem s_mulL (c : -18446744073709551616 < i) (c' : i < 18446744073709551616) : wMulA (.int i) (.int j) h = some (.int (i * j), h) := wMul_eq (.inl ⟨c, c'⟩)
@[simp] theorem s_pow (c : 0 ≤ j) (c' : j ≤ 1000000) (c'' : i.natAbs < 18446744073709551616) : wPow (.int i) (.int j) h = some (.int (i ^ j.toNat), h) := wPow_eq ⟨c, c', c''⟩
theorem s_muls (c : j < 1000 ∧ -1000 < j ∧ x.length < 1000) : wMulA (.str x) (.int j) h = some (.str (rep x j), h) := if_pos c
@[simp] theorem s_max : wMax [.int i, .int j] h = some (.int (if j > i then j else i), h) := id rfl
@[simp] theorem s_min : wMin [.int i, .int j] h = some (.int (if j < i then j else i), h) := id rfl
@[simp] theorem s_tup : wTup ws h = if ws.length ≤ sizeLine then some (.tup ws, h) else none := id rfl
@[simp] theorem s_lst : wLst ws h = if ws.length ≤ sizeLine then some (.lst ws, h) else none := id rfl
@[simp] theorem s_new : wNew ws h = if ws.length ≤ sizeLine then some (.ref h.length, h ++ [.lst ws]) else none := id rfl
@[simp] theorem s_ixT : wIx (.tup ws) (.int i) h = @om _ _ (fun w => (w, h)) (atI ws i) := id rfl
@[simp] theorem s_ixL : wIx (.lst ws) (.int i) h = @om _ _ (fun w => (w, h)) (atI ws i) := id rfl
@[simp] theorem s_ixF : wIx (.frz ws) (.int i) h = @om _ _ (fun w => (w, h)) (atI ws i) := id rfl
@[simp] theorem s_ixR {n : Nat} : wIx (.ref n) (.int i) h = @ob _ _ (fun (ws : List W) => @om _ _ (fun w => (w, h)) (atI ws i)) (match h[n]? with | some (.lst ws) => some ws | _ => none) := id rfl
@[simp] theorem s_lenT : wLen [.tup ws] h = some (.int ws.length, h) := id rfl
@[simp] theorem s_lenL : wLen [.lst ws] h = some (.int ws.length, h) := id rfl
@[simp] theorem s_lenF : wLen [.frz ws] h = some (.int ws.length, h) := id rfl
@[simp] theorem s_lenR {n : Nat} : wLen [.ref n] h = @om _ _ (fun (ws : List W) => (.int ws.length, h)) (match h[n]? with | some (.lst ws) => some ws | _ => none) := id rfl
theorem atI_nat' {α : Type} {xs : List α} {n : Nat} : atI xs (n : Int) = xs[n]? := by
  cases e : xs[n]? with
  | some x => exact atI_nat e
  | none =>
    unfold atI ixN
    have : xs.length ≤ n := List.getElem?_eq_none_iff.mp e
    rw [if_pos (by omega)]
    rw [if_neg (by omega)]
    rfl
@[simp] theorem sI_0 {α : Type} {xs : List α} : atI xs 0 = xs[0]? := atI_nat' (n := 0)
@[simp] theorem sI_1 {α : Type} {xs : List α} : atI xs 1 = xs[1]? := atI_nat' (n := 1)
@[simp] theorem atI_m1 {α : Type} {xs : List α} {y : α} : atI (xs ++ [y]) (-1) = some y := atI_last xs y
@[simp] theorem ixN_0 {n : Nat} : ixN (n + 1) 0 = some 0 := by unfold ixN; rw [if_pos (by decide), if_pos (by omega)]; rfl
@[simp] theorem ixN_1 {n : Nat} : ixN (n + 2) 1 = some 1 := by unfold ixN; rw [if_pos (by decide), if_pos (by omega)]; rfl
@[simp] theorem ixN_m1 {n : Nat} : ixN (n + 1) (-1) = some n := by unfold ixN; rw [if_neg (by decide), if_pos (by omega)]; congr 1; omega
noncomputable def putAt (o i v : W) (σ : MSt) (h : MH) : Option MF := match o, i with
  | .ref n, .int k => match h[n]? with
    | some (.lst xs) => @om _ _ (fun j => .nx σ (h.set n (.lst (xs.set j v)))) (ixN xs.length k)
    | _ => none
  | _, _ => none
@[simp] theorem s_put {mo mi mv : ME} {σ : MSt} : mPut mo mi mv σ h = @ob _ _ (fun v => @ob _ _ (fun o => @ob _ _ (fun i => putAt o.1 i.1 v.1 σ i.2) (mi σ o.2)) (mo σ v.2)) (mv σ h) := id rfl
@[simp] theorem s_putAt {n : Nat} {v : W} {σ : MSt} : putAt (.ref n) (.int i) v σ h = match h[n]? with
    | some (.lst xs) => @om _ _ (fun j => .nx σ (h.set n (.lst (xs.set j v)))) (ixN xs.length i)
    | _ => none := id rfl
@[simp] theorem s_finR {w : W} : mFin (some (.rt w h)) = some (w, h) := id rfl
@[simp] theorem s_finN {σ : MSt} : mFin (some (.nx σ h)) = some (.non, h) := id rfl
@[simp] theorem s_append {n : Nat} {w : W} : wAppend (.ref n) [w] h = match h[n]? with | some (.lst xs) => if xs.length < sizeLine then some (.non, h.set n (.lst (xs ++ [w]))) else none | _ => none := id rfl
@[simp] theorem s_extend {n : Nat} {w : W} : wExtend (.ref n) [w] h = match h[n]? with | some (.lst xs) => @ob _ _ (fun ys => if xs.length + ys.length ≤ sizeLine then some (.non, h.set n (.lst (xs ++ ys))) else none) (loW h w) | _ => none := id rfl
@[simp] theorem s_loL : loW h (.lst ws) = some ws := id rfl
@[simp] theorem s_pop {n : Nat} : wPop (.ref n) [] h = match h[n]? with | some (.lst xs) => @om _ _ (fun w => (w, h.set n (.lst xs.dropLast))) (xs[xs.length - 1]?) | _ => none := id rfl
@[simp] theorem s_tyR {n : Nat} {T : String} : tyW h T (.ref n) = match h[n]? with | some (.lst _) => T == "list" | some (.dic _) => T == "dict" | none => false := id rfl
@[simp] theorem s_tyL {T : String} : tyW h T (.lst ws) = (T == "list") := id rfl
@[simp] theorem s_truB {b : Bool} : truW h (.bl b) = some b := id rfl
@[simp] theorem s_truT : truW h (.tup ws) = some (!ws.isEmpty) := id rfl
@[simp] theorem s_tupleL : wTuple [.lst ws] h = some (.tup ws, h) := id rfl
@[simp] theorem s_tupleR {n : Nat} : wTuple [.ref n] h = @om _ _ (fun (ws : List W) => (.tup ws, h)) (match h[n]? with | some (.lst ws) => some ws | _ => none) := id rfl
@[simp] theorem s_sl {ma : ME} {ml mh : MOp} {σ : MSt} : mSl ma ml mh σ h = @ob _ _ (fun p => @ob _ _ (fun q => @ob _ _ (fun r => wSl p.1 q.1 r.1 r.2) (mh σ q.2)) (ml σ p.2)) (ma σ h) := id rfl
@[simp] theorem s_oN {σ : MSt} : oNone σ h = some (none, h) := id rfl
noncomputable def asI (p : W × MH) : Option (Option Int × MH) := match p.1 with | .int i => some (some i, p.2) | _ => none
@[simp] theorem asI_int : asI (.int i, h) = some (some i, h) := id rfl
@[simp] theorem s_oS {m : ME} {σ : MSt} : oSome m σ h = @ob _ _ asI (m σ h) := id rfl
@[simp] theorem s_slT {lo hi : Option Int} : wSl (.tup ws) lo hi h = some (.tup (cutW ws lo hi), h) := id rfl
@[simp] theorem s_slL {lo hi : Option Int} : wSl (.lst ws) lo hi h = some (.lst (cutW ws lo hi), h) := id rfl
@[simp] theorem s_addT : wAdd (.tup ws) (.tup us) h = if ws.length + us.length ≤ sizeLine then some (.tup (ws ++ us), h) else none := id rfl
@[simp] theorem s_addS : wAdd (.str x) (.str y) h = if x.length + y.length ≤ sizeLine then some (.str (x ++ y), h) else none := id rfl
@[simp] theorem s_isN {a : W} : wIs a .non h = some (.bl (isNonW a), h) := id rfl
@[simp] theorem nonW_non : isNonW .non = true := id rfl
end
mutual
noncomputable def pln : W → Bool
  | .tup ws => plns ws
  | .lst ws => plns ws
  | .frz _ => false
  | .ref _ => false
  | .ty _ => false
  | _ => true
noncomputable def plns : List W → Bool
  | [] => true
  | w :: ws => pln w && plns ws
end
mutual
noncomputable def dep : W → Nat
  | .tup ws => deps ws + 1
  | .lst ws => deps ws + 1
  | _ => 1
noncomputable def deps : List W → Nat
  | [] => 0
  | w :: ws => max (dep w) (deps ws)
end
mutual
theorem drf_pln (h : MH) : ∀ (w : W) (n : Nat), pln w = true → dep w ≤ n → drf h n w = some w
  | .non, n + 1, _, _ => rfl
  | .bl _, n + 1, _, _ => rfl
  | .int _, n + 1, _, _ => rfl
  | .str _, n + 1, _, _ => rfl
  | .tup ws, n + 1, p, d => by
    unfold pln at p
    unfold dep at d
    show (mapO (drf h n) ws).map W.tup = _
    rw [mapO_pln h ws n p (by omega)]; rfl
  | .lst ws, n + 1, p, d => by
    unfold pln at p
    unfold dep at d
    show (mapO (drf h n) ws).map W.lst = _
    rw [mapO_pln h ws n p (by omega)]; rfl
  | .frz _, _, p, _ => by unfold pln at p; cases p
  | .ref _, _, p, _ => by unfold pln at p; cases p
  | .ty _, _, p, _ => by unfold pln at p; cases p
  | .non, 0, _, d => by unfold dep at d; omega
  | .bl _, 0, _, d => by unfold dep at d; omega
  | .int _, 0, _, d => by unfold dep at d; omega
  | .str _, 0, _, d => by unfold dep at d; omega
  | .tup _, 0, _, d => by unfold dep at d; omega
  | .lst _, 0, _, d => by unfold dep at d; omega
theorem mapO_pln (h : MH) : ∀ (ws : List W) (n : Nat), plns ws = true → deps ws ≤ n → mapO (drf h n) ws = some ws
  | [], _, _, _ => rfl
  | w :: ws, n, p, d => by
    unfold plns at p
    unfold deps at d
    rw [Bool.and_eq_true] at p
    rw [mapO, drf_pln h w n p.1 (by omega), Option.bind_some, mapO_pln h ws n p.2 (by omega)]; rfl
end
mutual
theorem eqW_self : ∀ (w : W), pln w = true → eqW w w = true
  | .non, _ => by unfold eqW; rfl
  | .bl _, _ => by unfold eqW; simp
  | .int _, _ => by unfold eqW; simp
  | .str _, _ => by unfold eqW; simp
  | .tup ws, p => by unfold pln at p; unfold eqW; exact eqWs_self ws p
  | .lst ws, p => by unfold pln at p; unfold eqW; exact eqWs_self ws p
  | .frz _, p => by unfold pln at p; cases p
  | .ref _, p => by unfold pln at p; cases p
  | .ty _, p => by unfold pln at p; cases p
theorem eqWs_self : ∀ (ws : List W), plns ws = true → eqWs ws ws = true
  | [], _ => by unfold eqWs; rfl
  | w :: ws, p => by
    unfold plns at p
    rw [Bool.and_eq_true] at p
    unfold eqWs
    rw [eqW_self w p.1, eqWs_self ws p.2]; rfl
end
theorem s_ne {a b : W} {h : MH} (pa : pln a = true) (pb : pln b = true) (da : dep a ≤ 40) (db : dep b ≤ 40) : wNe a b h = some (.bl (!eqW a b), h) := by
  unfold wNe; rw [drf_pln h a 40 pa da, drf_pln h b 40 pb db]; rfl
@[simp] theorem s_eqI {i j : Int} {h : MH} : wEq (.int i) (.int j) h = some (.bl (i == j), h) := wEq_int i j h
@[simp] theorem s_eqS {x y : Str} {h : MH} : wEq (.str x) (.str y) h = some (.bl (x == y), h) := wEq_str x y h
@[simp] theorem s_neI {i j : Int} {h : MH} : wNe (.int i) (.int j) h = some (.bl (!(i == j)), h) := wNe_int i j h
@[simp] theorem s_neS {x y : Str} {h : MH} : wNe (.str x) (.str y) h = some (.bl (!(x == y)), h) := by unfold wNe; simp [drf, eqW]
mutual
theorem pur_pln : ∀ (w : W), pln w = true → pur w = true
  | .non, _ => rfl
  | .bl _, _ => rfl
  | .int _, _ => rfl
  | .str _, _ => rfl
  | .tup ws, p => by unfold pln at p; unfold pur; exact purs_plns ws p
  | .lst ws, p => by unfold pln at p; unfold pur; exact purs_plns ws p
  | .frz _, p => by unfold pln at p; cases p
  | .ref _, p => by unfold pln at p; cases p
  | .ty _, p => by unfold pln at p; cases p
theorem purs_plns : ∀ (ws : List W), plns ws = true → purs ws = true
  | [], _ => rfl
  | w :: ws, p => by
    unfold plns at p
    rw [Bool.and_eq_true] at p
    unfold purs
    rw [pur_pln w p.1, purs_plns ws p.2]; rfl
end
mutual
theorem th_pur (f : Nat → Option W) : ∀ (w : W), pur w = true → th f w = some w
  | .non, _ => rfl
  | .bl _, _ => rfl
  | .int _, _ => rfl
  | .str _, _ => rfl
  | .ty _, _ => rfl
  | .tup ws, p => by unfold pur at p; unfold th; rw [ths_pur f ws p]; rfl
  | .lst ws, p => by unfold pur at p; unfold th; rw [ths_pur f ws p]; rfl
  | .frz ws, p => by unfold pur at p; unfold th; rw [ths_pur f ws p]; rfl
  | .ref _, p => by unfold pur at p; cases p
theorem ths_pur (f : Nat → Option W) : ∀ (ws : List W), purs ws = true → ths f ws = some ws
  | [], _ => rfl
  | w :: ws, p => by
    unfold purs at p
    rw [Bool.and_eq_true] at p
    unfold ths
    rw [th_pur f w p.1, ths_pur f ws p.2]; rfl
end
theorem box_pure {m : FM} {ws : List W} {w : W} {g h : MH} (hp : purs ws = true) (e : m ws [] = some (w, g)) (hw : pur w = true) : box frN m ws h = some (w, h) := by
  have hr : rebA 0 ws = some (ws, []) := by
    generalize 0 = k
    clear e
    induction ws with
    | nil => rfl
    | cons a r ih =>
      unfold purs at hp
      rw [Bool.and_eq_true] at hp
      have := ih hp.2
      cases a <;> first | (unfold pur at hp; cases hp.1; done) | (unfold rebA; rw [if_pos hp.1, this]; rfl)
  unfold box
  rw [hr, Option.bind_some]
  unfold boxF
  rw [if_pos List.nodup_nil]
  simp only [mapO, Option.bind_some, e, frN, List.length_nil, List.range_zero]
  rw [if_pos ⟨List.nodup_nil, by simp⟩, th_pur _ w hw]
  simp [putBack]
theorem box_list {m : FM} {ws us : List W} {j : Nat} {g h : MH} (hp : purs ws = true) (e : m ws [] = some (.ref j, g)) (hj : g[j]? = some (.lst us)) (hu : purs us = true) : box frN m ws h = some (.lst us, h) := by
  have hr : rebA 0 ws = some (ws, []) := by
    generalize 0 = k
    clear e
    induction ws with
    | nil => rfl
    | cons a r ih =>
      unfold purs at hp
      rw [Bool.and_eq_true] at hp
      have := ih hp.2
      cases a <;> first | (unfold pur at hp; cases hp.1; done) | (unfold rebA; rw [if_pos hp.1, this]; rfl)
  unfold box
  rw [hr, Option.bind_some]
  unfold boxF
  rw [if_pos List.nodup_nil]
  simp only [mapO, Option.bind_some, e, frN, List.length_nil, List.range_zero]
  rw [if_pos ⟨List.nodup_nil, by simp⟩]
  have : th (res (kpOf [] [] h.length) g 3) (.ref j) = some (.lst us) := by
    unfold th res
    simp only [kpOf, List.getElem?_nil, List.findIdx?_nil, Option.map_none, hj]
    rw [ths_pur _ us hu]; rfl
  rw [this]
  simp [putBack]
theorem box_one {m : FM} {ws : List W} {w : W} {o o' : MO} {n : Nat} {g h : MH} (hp : purs ws = true) (hn : h[n]? = some o) (ho : purO o = true) (e : m (.ref 0 :: ws) [o] = some (w, o' :: g)) (hw : pur w = true) (ho' : ∃ us, o' = .lst us ∧ purs us = true) : box frN m (.ref n :: ws) h = some (w, h.set n o') := by
  obtain ⟨us, rfl, hus⟩ := ho'
  have hr : ∀ k, rebA k ws = some (ws, []) := by
    clear e
    induction ws with
    | nil => intro k; rfl
    | cons a r ih =>
      intro k
      unfold purs at hp
      rw [Bool.and_eq_true] at hp
      have := ih hp.2 k
      cases a <;> first | (unfold pur at hp; cases hp.1; done) | (unfold rebA; rw [if_pos hp.1, this]; rfl)
  unfold box
  have hr' : rebA 0 (.ref n :: ws) = some (.ref 0 :: ws, [n]) := by
    unfold rebA
    rw [hr]; rfl
  rw [hr', Option.bind_some]
  unfold boxF
  rw [if_pos (by simp)]
  have hpk : pick h n = some o := by unfold pick; rw [hn]; simp [ho]
  simp only [mapO, hpk, Option.bind_some, Option.map_some, e, frN, List.length_singleton]
  rw [if_pos ⟨List.nodup_nil, by simp⟩, th_pur _ w hw]
  simp [putBack, List.range_succ, mapO, thO, ths_pur _ us hus]
theorem box_gen {m : FM} {args as : List W} {ns : List Nat} {os os' : List MO} {g h : MH} {w w' : W} (hr : rebA 0 args = some (as, ns)) (hd : ns.Nodup) (ho : mapO (pick h) ns = some os) (e : m as os = some (w, os' ++ g)) (hl : os'.length = ns.length)
    (hos : ∀ o ∈ os', ∃ us, o = .lst us ∧ purs us = true) (hw : th (res (kpOf ns [] h.length) (os' ++ g) 3) w = some w') : box frN m args h = some (w', putBack ns os' h) := by
  unfold box
  rw [hr, Option.bind_some]
  unfold boxF
  rw [if_pos hd, ho]
  simp only [Option.bind_some, e]
  rw [if_pos (show (frN w).Nodup ∧ ∀ j ∈ frN w, ns.length ≤ j from ⟨List.nodup_nil, fun j hj => by simp [frN] at hj⟩)]
  show (th (res (kpOf ns [] h.length) (os' ++ g) 3) w).bind _ = _
  rw [hw, Option.bind_some]
  show (mapO (fun j => ((os' ++ g)[j]?).bind (thO (res (kpOf ns [] h.length) (os' ++ g) 3))) (List.range ns.length)).bind (fun os => (mapO (fun j => ((os' ++ g)[j]?).bind (thO (res (kpOf ns [] h.length) (os' ++ g) 3))) []).map fun us => (w', putBack ns os h ++ us)) = _
  have : mapO (fun j => ((os' ++ g)[j]?).bind (thO (res (kpOf ns [] h.length) (os' ++ g) 3))) (List.range ns.length) = some os' := by
    rw [← hl]
    have key : ∀ (k : Nat) (xs : List MO), (∀ i o, xs[i]? = some o → (os' ++ g)[k + i]? = some o) → (∀ o ∈ xs, ∃ us, o = .lst us ∧ purs us = true) → mapO (fun j => ((os' ++ g)[j]?).bind (thO (res (kpOf ns [] h.length) (os' ++ g) 3))) (List.range' k xs.length) = some xs := by
      intro k xs
      induction xs generalizing k with
      | nil => intro _ _; rfl
      | cons x xs ih =>
        intro h1 h2
        obtain ⟨us, hu, hp⟩ := h2 x List.mem_cons_self
        rw [List.length_cons, List.range'_succ]
        unfold mapO
        have h0 := h1 0 x rfl
        rw [Nat.add_zero] at h0
        rw [h0, Option.bind_some, ih (k + 1) (fun i o hi => by have := h1 (i + 1) o (by simpa using hi); rw [show k + 1 + i = k + (i + 1) by omega]; exact this) fun o hx => h2 o (List.mem_cons_of_mem _ hx), hu]
        show ((ths _ us).map MO.lst).bind _ = _
        rw [ths_pur _ us hp]; rfl
    rw [List.range_eq_range']
    exact key 0 os' (fun i o hi => by rw [Nat.zero_add, List.getElem?_append_left (List.getElem?_eq_some_iff.mp hi).1]; exact hi) hos
  rw [this]
  simp [mapO]
@[simp] theorem putBack_nil {os : List MO} {h : MH} : putBack [] os h = h := by unfold putBack; rfl
@[simp] theorem putBack_cons {n : Nat} {ns : List Nat} {o : MO} {os : List MO} {h : MH} : putBack (n :: ns) (o :: os) h = putBack ns os (h.set n o) := by rw [putBack]
theorem pick_lst {h : MH} {n : Nat} {us : List W} (e : h[n]? = some (.lst us)) (hp : purs us = true) : pick h n = some (.lst us) := by unfold pick; rw [e]; simp [purO, hp]
theorem comp_map {fin : List W → MH → Option (W × MH)} {mi : MI} {cp : List (Option Nat)} {me : ME} {σ caps : MSt} {h : MH} {items : List W} (f : W → W) (hi : mi σ h = some (items, none, h)) (hc : ∃ o, capM cp σ = o :: caps) (he : ∀ w ∈ items, me (some w :: caps) h = some (f w, h)) (hl : items.length ≤ sizeLine) :
    mComp fin mi cp (gSet 0) mYes me σ h = fin (items.map f) h := by
  obtain ⟨o, hc⟩ := hc
  unfold mComp
  rw [hi, Option.bind_some]
  simp only [hc]
  rw [compL_pure (p := fun _ => true) (f := f) items [] o (fun _ _ => rfl) (fun w hw _ => he w hw) (by simpa using hl), List.filter_eq_self.mpr (fun _ _ => rfl)]
  rfl
theorem comp_filt {fin : List W → MH → Option (W × MH)} {mi : MI} {cp : List (Option Nat)} {mt : MT} {me : ME} {σ caps : MSt} {h : MH} {items : List W} (f : W → W) (p : W → Bool) (hi : mi σ h = some (items, none, h)) (hc : ∃ o, capM cp σ = o :: caps) (ht : ∀ w ∈ items, mt (some w :: caps) h = some (p w, h)) (he : ∀ w ∈ items, p w = true → me (some w :: caps) h = some (f w, h)) (hl : items.length ≤ sizeLine) :
    mComp fin mi cp (gSet 0) mt me σ h = fin ((items.filter p).map f) h := by
  obtain ⟨o, hc⟩ := hc
  unfold mComp
  rw [hi, Option.bind_some]
  simp only [hc]
  rw [compL_pure (p := p) (f := f) items [] o ht he (by simpa using hl)]
  simp
theorem comp_inv {α : Type} {items : List W} {b : MG} {me : ME} {fin : List W → MH → Option (W × MH)} (P : List α → MSt → MH → Prop) (enc : α → W) : ∀ (rest : List W) (acc : List α) (τ : MSt) (h : MH), P acc τ h → acc.length + rest.length ≤ sizeLine →
    (∀ w ∈ rest, ∀ acc τ h, P acc τ h → ∃ τ1 x h1, b w τ h = some τ1 ∧ me τ1 h = some (enc x, h1) ∧ P (acc ++ [x]) τ1 h1) →
    ∃ acc' τ' h', mCompL fin items none b mYes me rest (acc.map enc) τ h = fin (acc'.map enc) h' ∧ P acc' τ' h' ∧ acc'.length = acc.length + rest.length
  | [], acc, τ, h, hp, _, _ => ⟨acc, τ, h, by unfold mCompL; rw [if_pos (live_none _ _)], hp, by simp⟩
  | w :: rest, acc, τ, h, hp, hl, hs => by
    have hl' : acc.length + (rest.length + 1) ≤ sizeLine := by simpa using hl
    obtain ⟨τ1, x, h1, e1, e2, p1⟩ := hs w List.mem_cons_self acc τ h hp
    obtain ⟨acc', τ', h', e3, p3, l3⟩ := comp_inv (items := items) (b := b) (me := me) (fin := fin) P enc rest (acc ++ [x]) τ1 h1 p1 (by simp; omega) fun y hy => hs y (List.mem_cons_of_mem _ hy)
    refine ⟨acc', τ', h', ?_, p3, by rw [l3]; simp; omega⟩
    unfold mCompL
    rw [if_pos (live_none _ _), e1, Option.bind_some]
    show (some (true, h)).bind _ = _
    rw [Option.bind_some]
    simp only [e2, Option.bind_some]
    rw [if_pos (by rw [List.length_map]; omega)]
    rw [List.map_append, List.map_cons, List.map_nil] at e3
    exact e3
theorem for_inv {items : List W} {b : MG} {body : SM} (P : Nat → MSt → MH → Prop) : ∀ (r : List W) (n : Nat) (σ : MSt) (h : MH), P n σ h →
    (∀ (j : Nat) (w : W), r[j]? = some w → ∀ σ h, P (n + j) σ h → ∃ σ1, b w σ h = some σ1 ∧ ∃ σ2 h2, (body σ1 h = some (.nx σ2 h2) ∨ body σ1 h = some (.ct σ2 h2)) ∧ P (n + j + 1) σ2 h2) →
    ∃ σ' h', mLoop items none b body r σ h = some (.nx σ' h') ∧ P (n + r.length) σ' h'
  | [], n, σ, h, hp, _ => ⟨σ, h, loop_end, hp⟩
  | w :: r, n, σ, h, hp, hs => by
    obtain ⟨σ1, e1, σ2, h2, e2, p2⟩ := hs 0 w rfl σ h hp
    obtain ⟨σ', h', e3, p3⟩ := for_inv (items := items) (b := b) (body := body) P r (n + 1) σ2 h2 p2 fun j x hx σ h hp => by
      have := hs (j + 1) x (by simpa using hx) σ h (by rw [show n + (j + 1) = n + 1 + j by omega]; exact hp)
      rw [show n + (j + 1) + 1 = n + 1 + j + 1 by omega] at this
      exact this
    refine ⟨σ', h', ?_, by rw [List.length_cons, show n + (r.length + 1) = n + 1 + r.length by omega]; exact p3⟩
    rw [mLoop, if_pos (live_none _ _), e1, Option.bind_some]
    rcases e2 with e2 | e2 <;> rw [e2] <;> exact e3
theorem while_inv {t : MT} {body : SM} (P : Nat → MSt → MH → Prop) : ∀ (n f : Nat) (σ : MSt) (h : MH), n < f → P n σ h →
    (∀ n σ h, P n σ h → (t σ h = some (false, h) ∧ n = 0) ∨ (t σ h = some (true, h) ∧ ∃ m σ2 h2, m < n ∧ (body σ h = some (.nx σ2 h2) ∨ body σ h = some (.ct σ2 h2)) ∧ P m σ2 h2)) →
    ∃ σ' h', mWhileN t body f σ h = some (.nx σ' h') ∧ P 0 σ' h'
  | n, 0, _, _, hf, _, _ => by omega
  | n, f + 1, σ, h, hf, hp, hs => by
    rcases hs n σ h hp with ⟨e, hn⟩ | ⟨e, m, σ2, h2, hm, e2, p2⟩
    · subst hn
      exact ⟨σ, h, by rw [mWhileN, e]; rfl, hp⟩
    · obtain ⟨σ', h', e3, p3⟩ := while_inv P m f σ2 h2 (by omega) p2 hs
      refine ⟨σ', h', ?_, p3⟩
      rw [mWhileN, e]
      rcases e2 with e2 | e2 <;> simp only [Option.bind_some, e2] <;> exact e3
noncomputable def eqS (y : Str) (p : W × MH) : Option (Bool × MH) := @ob _ _ asB (wEq p.1 (.str y) p.2)
noncomputable def eqN (j : Int) (p : W × MH) : Option (Bool × MH) := @ob _ _ asB (wEq p.1 (.int j) p.2)
@[simp 650] theorem s_tEqS {ma : ME} {σ : MSt} {h : MH} {y : Str} : mTest (mBin wEq ma (mC (.str y))) σ h = @ob _ _ (eqS y) (ma σ h) := by
  unfold mTest mBin mC eqS ob
  cases ma σ h <;> rfl
@[simp 650] theorem s_tEqN {ma : ME} {σ : MSt} {h : MH} {j : Int} : mTest (mBin wEq ma (mC (.int j))) σ h = @ob _ _ (eqN j) (ma σ h) := by
  unfold mTest mBin mC eqN ob
  cases ma σ h <;> rfl
@[simp] theorem eqS_str {x y : Str} {h : MH} : eqS y (.str x, h) = some (x == y, h) := by unfold eqS; rw [s_eqS]; rfl
@[simp] theorem eqN_int {i j : Int} {h : MH} : eqN j (.int i, h) = some (i == j, h) := by unfold eqN; rw [s_eqI]; rfl
end Mi

namespace Mi
open PySem PySem.Spec PyProof.Rows L2
noncomputable def wListN (ws : List W) (h : MH) : Option (W × MH) := match ws with
  | [.tup ws] => some (.ref h.length, h ++ [.lst ws])
  | [a] => (lsW h a).map fun ws => (.ref h.length, h ++ [.lst ws])
  | _ => none
noncomputable def wPopA (a : W) (ws : List W) (h : MH) : Option (W × MH) := match a, ws with
  | .ref n, [.int 0] => match h[n]? with | some (.lst (x :: xs)) => some (x, h.set n (.lst xs)) | _ => none
  | _, _ => none
section
variable {X : Cx}
end
end Mi
namespace Mi
open PySem PySem.Spec PyProof.Rows L2
theorem pmss_none {X : Cx} {st : List Stmt} : PMSs X st fun _ _ => none := fun pins s σ H D I q => by
  obtain ⟨R, σi, h, r, rh, st, e, k⟩ := q
  cases e
end Mi
namespace Mi
open PySem PySem.Spec PyProof.Rows L2
section
open PySem.AutoSeq1
theorem extend_tup (l : Addr) (its : Array Value) (n : Nat) (b : Addr) (its2 : Array Value) (n2 : Nat) (o2 : Obj) (hc : o2.cls = .type "tuple") (hd : o2.data = .seq its2 n2) (hs0 : ¬(!its.isEmpty && Builtin.List.listTooLong (its.size + its2.size)) = true) (hs1 : its.size ≤ sizeLine) (hs2 : its.size + its2.size ≤ sizeLine + 1) :
    Meets (Builtin.«list.extend» ⟨[.ref l, .ref b], []⟩) (fun _ R s => s.heap.get? l = some { cls := .type "list", dict := none, data := .seq its n, slots := #[] } ∧ s.heap.get? b = some o2 ∧
      R (.ok (.ret Value.none)) { s with heap := s.heap.update l (Obj.mapSeq fun x => x ++ its2), toks := s.toks }) :=
  .of_wp fun prog w A R s h => by
    obtain ⟨c2, d2, dt2, sl2⟩ := o2
    subst hc hd
    obtain ⟨hp, g, d, tk, os⟩ := s
    obtain ⟨hl, hb, h⟩ := h
    have f1 := idx_int
    have f2 := AutoSeq1.sub_tuple_tuple
    have f3 := AutoSeq1.sub_list_list
    have f4 := AutoSeq1.sub_tuple_list
    have f5 := AutoSeq1.sub_list_tuple
    have hz' : (its ++ its2).size ≤ sizeLine + 1 := by rw [Array.size_append]; exact hs2
    wp_walk using (wpAny_updateSeq hl rfl (hz := hs1) (_hz' := hz')), wpAny_loadPart' hl, wpAny_loadPart' hb
    exact ⟨_, rfl, h⟩
end
section
variable {X : Cx}
theorem mt_extendT : MtM X "list.extend" (fun x vs H Q => ∃ l b xs zs, x = .ref l ∧ vs = [.ref b] ∧ H l = some (.lst xs) ∧ SqT X.K H b zs ∧ xs.length + zs.length ≤ sizeLine ∧ Q .non (upd H l (.lst (xs ++ zs)))) := by
  intro pins s σ H x vs v us Q I rx rv h
  obtain ⟨l, b, xs, zs, rfl, rfl, hH, hB, hz, q⟩ := h
  cases rx
  obtain ⟨u, rfl, ru⟩ := rv.one
  cases ru
  obtain ⟨z, its, n, r, hl, e⟩ := I.lstM hH
  obtain ⟨its2, r2, ⟨o2, e2, hc, n2, hd⟩, hl2⟩ := I.tuple hB
  have hlen := r2.length
  have hsz : its.toArray.size + its2.toArray.size ≤ sizeLine := by rw [List.size_toArray, List.size_toArray]; omega
  have hlong : ¬ (!its.toArray.isEmpty && Builtin.List.listTooLong (its.toArray.size + its2.toArray.size)) = true := by
    rw [notLongL hsz, Bool.and_false]
    exact Bool.false_ne_true
  refine call_meets F.slot_list_extend ⟨_, e, rfl⟩ F.entry_list_extend (F.args_list_extend_2 _ _)
    (extend_tup l its.toArray n b its2.toArray n2 o2 hc hd hlong (by rw [List.size_toArray]; omega) (by omega)) ⟨e, e2, ?_⟩
  refine ⟨.non, _, I.lset (its' := its ++ its2) hH e (by simp) (r.append r2) ?_, rfl, q⟩
  rw [List.length_append]
  omega
noncomputable def wExtendA (a : W) (ws : List W) (h : MH) : Option (W × MH) := match a, ws with
  | .ref n, [.tup ys] => match h[n]? with | some (.lst xs) => if xs.length + ys.length ≤ sizeLine then some (.non, h.set n (.lst (xs ++ ys))) else none | _ => none
  | _, _ => none
theorem mtm_extendA : MtMM X "list.extend" wExtendA := by
  intro pins s σ H x xs v us Q I rx rv q
  refine mt_extendT pins s σ H x xs v us Q I rx rv ?_
  obtain ⟨R, h, a, ws, w, h', rh, ra, rws, e, k⟩ := q
  unfold wExtendA at e
  split at e
  · rename_i n zs
    split at e
    · rename_i ys hn
      split at e
      · rename_i hl
        cases e
        obtain ⟨hlt, rfl, xv, h1, r1⟩ := rh.refAt ra hn
        obtain ⟨y, rfl, ry⟩ := rws1 rws
        obtain ⟨bd, yv, rfl, h2, r2⟩ := rh.tupAt ry
        refine ⟨_, bd, xv, yv, rfl, rfl, h1, h2, by rw [← r1.length, ← r2.length]; exact hl, ?_⟩
        exact k R _ _ (Ext.refl _) (rh.put hlt ⟨_, rfl, Rws.append r1 r2⟩) Rw.non
      · cases e
    · cases e
  · cases e
@[simp] theorem s_extendA {n : Nat} {ys : List W} {h : MH} : wExtendA (.ref n) [.tup ys] h = match h[n]? with | some (.lst xs) => if xs.length + ys.length ≤ sizeLine then some (.non, h.set n (.lst (xs ++ ys))) else none | _ => none := id rfl
end
end Mi

namespace My3
inductive Cd where
  | ei | ag | oo | en | ot
  deriving DecidableEq
structure En where
  kd : Cd
  fs : Nat
  md : Nat
noncomputable def ch : Cd → Int
  | .ei => 1
  | .ag => 1
  | .en => -1
  | _ => 0
noncomputable def lev (ls : List Cd) : Nat → Int
  | 0 => 0
  | k + 1 => lev ls k + (match ls[k]? with | some c => ch c | none => 0)
noncomputable def stp (k : Nat) (c : Cd) (st : List En) : Option (List En) := match c with
  | .ei => some (⟨.ei, k, 0⟩ :: st)
  | .ag => some (⟨.ag, k, 0⟩ :: st)
  | .oo => match st with
    | e :: r => if e.kd = .ei then some (⟨.oo, e.fs, k⟩ :: r) else none
    | [] => none
  | .en => match st with
    | e :: r => if e.kd = .ei then none else some r
    | [] => none
  | .ot => some st
theorem lev_succ {ls : List Cd} {k : Nat} {c : Cd} (e : ls[k]? = some c) : lev ls (k + 1) = lev ls k + ch c := by
  simp only [lev, e]
structure Fit (ls : List Cd) (k t : Nat) (e : En) : Prop where
  lt : e.fs < k
  at_ : ls[e.fs]? = some .ei ∨ ls[e.fs]? = some .ag
  lv : lev ls (e.fs + 1) + t = lev ls k
  ge : ∀ j, e.fs < j → j ≤ k → lev ls (e.fs + 1) ≤ lev ls j
  kd : e.kd = .ei ∨ e.kd = .ag ∨ e.kd = .oo
  ei : e.kd = .ei → ∀ j, e.fs < j → j < k → lev ls j = lev ls (e.fs + 1) → ls[j]? ≠ some .oo
  oo : e.kd = .oo → e.fs < e.md ∧ e.md < k ∧ ls[e.md]? = some .oo ∧ lev ls e.md = lev ls (e.fs + 1) ∧ ∀ j, e.fs < j → j < e.md → lev ls j = lev ls (e.fs + 1) → ls[j]? ≠ some .oo
noncomputable def Fits (ls : List Cd) (k : Nat) : Nat → List En → Prop
  | _, [] => True
  | t, e :: r => Fit ls k t e ∧ Fits ls k (t + 1) r
structure Mat (ls : List Cd) (k : Nat) (e : En) : Prop where
  fit : Fit ls k 0 e
  en : ls[k]? = some .en
  kd : e.kd = .ag ∨ e.kd = .oo
theorem fit_next {ls : List Cd} {k t t' : Nat} {c : Cd} {e : En} (hc : ls[k]? = some c) (h : Fit ls k t e) (ht : (t' : Int) = t + ch c) (ho : c = .oo → 0 < t) : Fit ls (k + 1) t' e := by
  have hl := lev_succ hc
  have hlv := h.lv
  have hlt := h.lt
  refine ⟨by omega, h.at_, by omega, fun j h1 h2 => ?_, h.kd, fun q j h1 h2 h3 => ?_, fun q => ?_⟩
  · by_cases z : j ≤ k
    · exact h.ge j h1 z
    · have : j = k + 1 := by omega
      subst this; omega
  · by_cases z : j < k
    · exact h.ei q j h1 z h3
    · have : j = k := by omega
      subst this
      rw [hc]
      intro w
      have w' : c = .oo := by simpa using w
      have := ho w'
      omega
  · obtain ⟨a, b, cc, d, f⟩ := h.oo q
    exact ⟨a, by omega, cc, d, f⟩
theorem fits_next {ls : List Cd} {k : Nat} {c : Cd} (hc : ls[k]? = some c) : ∀ (r : List En) (t t' : Nat), Fits ls k t r → (t' : Int) = t + ch c → (c = .oo → 0 < t) → Fits ls (k + 1) t' r
  | [], _, _, _, _, _ => True.intro
  | e :: r, t, t', h, ht, ho => ⟨fit_next hc h.1 ht ho, fits_next hc r (t + 1) (t' + 1) h.2 (by push_cast; omega) fun _ => by omega⟩
theorem stp_fits {ls : List Cd} {k : Nat} {c : Cd} {st st' : List En} (hc : ls[k]? = some c) (h : Fits ls k 0 st) (e : stp k c st = some st') : Fits ls (k + 1) 0 st' := by
  have hl := lev_succ hc
  have new : ∀ kd : Cd, (kd = .ei ∨ kd = .ag) → c = kd → Fit ls (k + 1) 0 ⟨kd, k, 0⟩ := fun kd hk e => by
    refine ⟨by simp, ?_, by simp, fun j h1 h2 => ?_, by rcases hk with z | z <;> simp [z], fun q j h1 h2 => ?_, fun q => ?_⟩
    · rw [hc, e]; rcases hk with z | z <;> simp [z]
    · have h1' : k < j := h1
      have : j = k + 1 := by omega
      subst this; exact Int.le_refl _
    · have h1' : k < j := h1
      omega
    · have q' : kd = .oo := q
      rcases hk with z | z <;> rw [z] at q' <;> cases q'
  cases c with
  | ei => cases e; exact ⟨new _ (.inl rfl) rfl, fits_next hc st 0 1 h (by simp [ch]) (by simp)⟩
  | ag => cases e; exact ⟨new _ (.inr rfl) rfl, fits_next hc st 0 1 h (by simp [ch]) (by simp)⟩
  | ot => cases e; exact fits_next hc st 0 0 h (by simp [ch]) (by simp)
  | oo =>
    cases st with
    | nil => cases e
    | cons a r =>
      simp only [stp] at e
      split at e
      · rename_i ha
        cases e
        have hf := h.1
        have hlv := hf.lv
        have hlt := hf.lt
        refine ⟨⟨by show a.fs < k + 1; omega, hf.at_, ?_, fun j h1 h2 => ?_, .inr (.inr rfl), fun q => (by cases q), fun _ => ⟨hlt, Nat.lt_succ_self _, hc, ?_, hf.ei ha⟩⟩, fits_next hc r 1 1 h.2 (by simp [ch]) (by simp)⟩
        · show lev ls (a.fs + 1) + ((0 : Nat) : Int) = lev ls (k + 1)
          rw [hl]; simp [ch]; simp at hlv; exact hlv
        · by_cases z : j ≤ k
          · exact hf.ge j h1 z
          · have : j = k + 1 := by omega
            subst this
            show lev ls (a.fs + 1) ≤ _
            rw [hl]; simp [ch]; simp at hlv; omega
        · show lev ls k = lev ls (a.fs + 1)
          simp at hlv; exact hlv.symm
      · cases e
  | en =>
    cases st with
    | nil => cases e
    | cons a r =>
      simp only [stp] at e
      split at e
      · cases e
      · cases e
        exact fits_next hc _ 1 0 h.2 (by simp [ch]) (by simp)
theorem stp_mat {ls : List Cd} {k : Nat} {a : En} {r st' : List En} (hc : ls[k]? = some .en) (h : Fits ls k 0 (a :: r)) (e : stp k .en (a :: r) = some st') : Mat ls k a := by
  simp only [stp] at e
  split at e
  · cases e
  · rename_i ha
    refine ⟨h.1, hc, ?_⟩
    rcases h.1.kd with z | z | z
    · exact absurd z ha
    · exact .inl z
    · exact .inr z
structure Beh (ls : List Cd) (k : Nat) (c : Cd) (j : Nat) : Prop where
  lt : k < j
  at_ : ls[j]? = some c
  lv : lev ls j = lev ls (k + 1)
  no : ∀ i, k < i → i < j → lev ls i = lev ls (k + 1) → ls[i]? ≠ some c
  ge : ∀ i, k < i → i ≤ j → lev ls (k + 1) ≤ lev ls i
structure Ahd (ls : List Cd) (k j : Nat) : Prop where
  lt : j < k
  lv : lev ls k = lev ls j + 1
  no : ∀ i, j < i → i < k → lev ls k ≠ lev ls i + 1
  ge : ∀ i, j < i → i ≤ k → lev ls k ≤ lev ls i
theorem mat_end {ls : List Cd} {k : Nat} {e : En} (m : Mat ls k e) : Beh ls e.fs .en k := by
  have h := m.fit
  refine ⟨h.lt, m.en, by have := h.lv; simp at this; omega, fun i h1 h2 h3 q => ?_, h.ge⟩
  have := lev_succ q
  have g := h.ge (i + 1) (by omega) (by omega)
  simp [ch] at this
  omega
theorem mat_head {ls : List Cd} {k : Nat} {e : En} (m : Mat ls k e) : Ahd ls k e.fs := by
  have h := m.fit
  have hlv := h.lv
  have e1 : lev ls (e.fs + 1) = lev ls e.fs + 1 := by
    rcases h.at_ with q | q <;> exact lev_succ q
  refine ⟨h.lt, by simp at hlv; omega, fun i h1 h2 h3 => ?_, fun i h1 h2 => by have g := h.ge i h1 h2; simp at hlv; omega⟩
  have g := h.ge i h1 (by omega)
  simp at hlv
  omega
theorem mat_or {ls : List Cd} {k : Nat} {e : En} (m : Mat ls k e) (ho : e.kd = .oo) : Beh ls e.fs .oo e.md := by
  obtain ⟨a, b, c, d, f⟩ := m.fit.oo ho
  exact ⟨a, c, d, f, fun i h1 h2 => m.fit.ge i h1 (by omega)⟩
theorem mat_orEnd {ls : List Cd} {k : Nat} {e : En} (m : Mat ls k e) (ho : e.kd = .oo) : Beh ls e.md .en k := by
  obtain ⟨a, b, c, d, f⟩ := m.fit.oo ho
  have h := m.fit
  have hlv := h.lv
  have e1 := lev_succ c
  simp [ch] at e1
  simp at hlv
  refine ⟨b, m.en, by omega, fun i h1 h2 h3 q => ?_, fun i h1 h2 => by have g := h.ge i (by omega) h2; omega⟩
  have e2 := lev_succ q
  have g := h.ge (i + 1) (by omega) (by omega)
  simp [ch] at e2
  omega
end My3

namespace My4
open My3
noncomputable def pil (ls : List Cd) : Nat → Option (List En)
  | 0 => some []
  | k + 1 => (pil ls k).bind fun st => match ls[k]? with | some c => stp k c st | none => none
structure Bk where
  trs : List (Nat × Nat × Nat)
  st : List Nat
  rws : List (Option Nat)
noncomputable def top (b : Bk) (f : Nat × Nat × Nat → Nat × Nat × Nat) : List (Nat × Nat × Nat) := match b.st with
  | t :: _ => b.trs.modify t f
  | [] => b.trs
noncomputable def bst (k : Nat) (c : Cd) (b : Bk) : Bk := match c with
  | .ei => ⟨b.trs ++ [(k, k, k)], b.trs.length :: b.st, b.rws ++ [some b.trs.length]⟩
  | .ag => ⟨b.trs ++ [(k, k, k)], b.trs.length :: b.st, b.rws ++ [some b.trs.length]⟩
  | .oo => ⟨top b fun x => (x.1, k, x.2.2), b.st, b.rws ++ [b.st.head?]⟩
  | .en => ⟨top b fun x => (x.1, x.2.1, k), b.st.tail, b.rws ++ [b.st.head?]⟩
  | .ot => ⟨b.trs, b.st, b.rws ++ [b.st.head?]⟩
noncomputable def bks (ls : List Cd) : Nat → Bk
  | 0 => ⟨[], [], []⟩
  | k + 1 => match ls[k]? with | some c => bst k c (bks ls k) | none => bks ls k
noncomputable def Kd (ls : List Cd) (e : En) : Prop := (e.kd = .ag ∧ ls[e.fs]? = some .ag) ∨ ((e.kd = .ei ∨ e.kd = .oo) ∧ ls[e.fs]? = some .ei)
inductive Op (ls : List Cd) (trs : List (Nat × Nat × Nat)) : List Nat → List En → Prop where
  | nil : Op ls trs [] []
  | cons {t : Nat} {e : En} {st : List Nat} {p : List En} (x : ∃ md en, trs[t]? = some (e.fs, md, en) ∧ (e.kd = .oo → md = e.md)) (k : Kd ls e) (n : t ∉ st) (r : Op ls trs st p) : Op ls trs (t :: st) (e :: p)
structure Cl (ls : List Cd) (fs md en : Nat) (e : En) : Prop where
  m : Mat ls en e
  f : e.fs = fs
  d : e.kd = .oo → e.md = md
  k : Kd ls e
structure BI (ls : List Cd) (k : Nat) (b : Bk) (p : List En) : Prop where
  len : b.rws.length = k
  op : Op ls b.trs b.st p
  cl : ∀ t x, b.trs[t]? = some x → t ∉ b.st → ∃ e, Cl ls x.1 x.2.1 x.2.2 e
  ei : ∀ j, j < k → (ls[j]? = some .ei ∨ ls[j]? = some .ag) → ∃ t md en, b.rws[j]? = some (some t) ∧ b.trs[t]? = some (j, md, en)
  oo : ∀ j, j < k → ls[j]? = some .oo → ∃ t fs en, b.rws[j]? = some (some t) ∧ b.trs[t]? = some (fs, j, en) ∧ ls[fs]? = some .ei ∧ ∀ i : Nat, b.st[i]? = some t → ∃ e : En, p[i]? = some e ∧ e.kd = .oo
  en : ∀ j, j < k → ls[j]? = some .en → ∃ t fs md, b.rws[j]? = some (some t) ∧ b.trs[t]? = some (fs, md, j) ∧ t ∉ b.st
theorem Op.lt {ls : List Cd} {trs : List (Nat × Nat × Nat)} {st : List Nat} {p : List En} (h : Op ls trs st p) : ∀ t ∈ st, t < trs.length := by
  induction h with
  | nil => intro t ht; simp at ht
  | cons x k n r ih =>
    intro t ht
    rcases List.mem_cons.mp ht with rfl | ht
    · obtain ⟨md, en, e, _⟩ := x
      exact (List.getElem?_eq_some_iff.mp e).1
    · exact ih t ht
theorem Op.imp {ls : List Cd} {trs trs' : List (Nat × Nat × Nat)} {st : List Nat} {p : List En} (h : Op ls trs st p) (q : ∀ t ∈ st, trs'[t]? = trs[t]?) : Op ls trs' st p := by
  induction h with
  | nil => exact .nil
  | cons x k n r ih => exact .cons (by rw [q _ List.mem_cons_self]; exact x) k n (ih fun t ht => q t (List.mem_cons_of_mem _ ht))
theorem app_lt {α : Type} {l : List α} {x : α} {t : Nat} (h : t < l.length) : (l ++ [x])[t]? = l[t]? := List.getElem?_append_left h
theorem get_lt {α : Type} {l : List α} {t : Nat} {x : α} (h : l[t]? = some x) : t < l.length := (List.getElem?_eq_some_iff.mp h).1
theorem rws_old {α : Type} {l : List α} {x y : α} {j k : Nat} (hl : l.length = k) (hj : j < k) (h : l[j]? = some y) : (l ++ [x])[j]? = some y := by rw [app_lt (by omega)]; exact h
theorem rws_new {α : Type} {l : List α} {x : α} {k : Nat} (hl : l.length = k) : (l ++ [x])[k]? = some x := by subst hl; simp
theorem mod_ne {l : List (Nat × Nat × Nat)} {t s : Nat} {f : Nat × Nat × Nat → Nat × Nat × Nat} (h : t ≠ s) : (l.modify t f)[s]? = l[s]? := by
  rw [List.getElem?_modify]; simp [h]
theorem mod_eq {l : List (Nat × Nat × Nat)} {t : Nat} {f : Nat × Nat × Nat → Nat × Nat × Nat} {x : Nat × Nat × Nat} (h : l[t]? = some x) : (l.modify t f)[t]? = some (f x) := by
  rw [List.getElem?_modify, h]; simp
theorem bi_step {ls : List Cd} {k : Nat} {b : Bk} {p p' : List En} {c : Cd} (h : BI ls k b p) (hf : Fits ls k 0 p) (hc : ls[k]? = some c) (e : stp k c p = some p') : BI ls (k + 1) (bst k c b) p' := by
  have old : ∀ j, j < k + 1 → j ≠ k → j < k := fun j a b => by omega
  have opn : (c = .ei ∨ c = .ag) → p' = ⟨c, k, 0⟩ :: p → BI ls (k + 1) ⟨b.trs ++ [(k, k, k)], b.trs.length :: b.st, b.rws ++ [some b.trs.length]⟩ p' := fun hk hp => by
    subst hp
    have hn : b.trs.length ∉ b.st := fun z => Nat.lt_irrefl _ (h.op.lt _ z)
    have keep : ∀ t x, b.trs[t]? = some x → (b.trs ++ [(k, k, k)])[t]? = some x := fun t x z => by rw [app_lt (get_lt z)]; exact z
    refine ⟨by simp [h.len], .cons ⟨k, k, by simp, fun z => ?_⟩ ?_ hn (h.op.imp fun t ht => app_lt (h.op.lt t ht)), fun t x hx hm => ?_, fun j hj hl => ?_, fun j hj hl => ?_, fun j hj hl => ?_⟩
    · rcases hk with z' | z' <;> rw [z'] at z <;> cases z
    · unfold Kd
      rcases hk with z' | z'
      · exact .inr ⟨.inl z', by rw [hc, z']⟩
      · exact .inl ⟨z', by rw [hc, z']⟩
    · have ht : t ≠ b.trs.length := fun z => hm (by rw [z]; exact List.mem_cons_self)
      have ht' : t < b.trs.length := by have := get_lt hx; simp at this; omega
      rw [app_lt ht'] at hx
      exact h.cl t x hx fun z => hm (List.mem_cons_of_mem _ z)
    · by_cases z : j = k
      · subst z
        exact ⟨b.trs.length, j, j, rws_new h.len, by simp⟩
      · obtain ⟨t, md, en, h1, h2⟩ := h.ei j (old j hj z) hl
        exact ⟨t, md, en, rws_old h.len (old j hj z) h1, keep _ _ h2⟩
    · by_cases z : j = k
      · subst z; rw [hc] at hl; rcases hk with z' | z' <;> rw [z'] at hl <;> cases hl
      · obtain ⟨t, fs, en, h1, h2, h3, h4⟩ := h.oo j (old j hj z) hl
        refine ⟨t, fs, en, rws_old h.len (old j hj z) h1, keep _ _ h2, h3, fun i hi => ?_⟩
        cases i with
        | zero => simp at hi; have := get_lt h2; omega
        | succ i => simp at hi; obtain ⟨e, h5, h6⟩ := h4 i hi; exact ⟨e, by simpa using h5, h6⟩
    · by_cases z : j = k
      · subst z; rw [hc] at hl; rcases hk with z' | z' <;> rw [z'] at hl <;> cases hl
      · obtain ⟨t, fs, md, h1, h2, h3⟩ := h.en j (old j hj z) hl
        refine ⟨t, fs, md, rws_old h.len (old j hj z) h1, keep _ _ h2, fun q => ?_⟩
        rcases List.mem_cons.mp q with q | q
        · have := get_lt h2; omega
        · exact h3 q
  cases c with
  | ei => exact opn (.inl rfl) (by cases e; rfl)
  | ag => exact opn (.inr rfl) (by cases e; rfl)
  | ot =>
    cases e
    refine ⟨by simp [bst, h.len], h.op, h.cl, fun j hj hl => ?_, fun j hj hl => ?_, fun j hj hl => ?_⟩
    · by_cases z : j = k
      · subst z; rw [hc] at hl; rcases hl with hl | hl <;> cases hl
      · obtain ⟨t, md, en, h1, h2⟩ := h.ei j (old j hj z) hl
        exact ⟨t, md, en, rws_old h.len (old j hj z) h1, h2⟩
    · by_cases z : j = k
      · subst z; rw [hc] at hl; cases hl
      · obtain ⟨t, fs, en, h1, h2, h3⟩ := h.oo j (old j hj z) hl
        exact ⟨t, fs, en, rws_old h.len (old j hj z) h1, h2, h3⟩
    · by_cases z : j = k
      · subst z; rw [hc] at hl; cases hl
      · obtain ⟨t, fs, md, h1, h2, h3⟩ := h.en j (old j hj z) hl
        exact ⟨t, fs, md, rws_old h.len (old j hj z) h1, h2, h3⟩
  | oo =>
    cases p with
    | nil => cases e
    | cons a r =>
      simp only [stp] at e
      split at e
      · rename_i ha
        cases e
        obtain ⟨trs, st, rws⟩ := b
        have hop := h.op
        cases hop with
        | @cons t _ st _ x kk n q =>
          obtain ⟨md, en, ht, hmd⟩ := x
          simp only at ht hmd
          have hls : ls[a.fs]? = some .ei := by
            rcases kk with z | z
            · rw [ha] at z; cases z.1
            · exact z.2
          have hmod : ∀ s, s ≠ t → (trs.modify t fun x => (x.1, k, x.2.2))[s]? = trs[s]? := fun s hs => mod_ne (Ne.symm hs)
          have hmt : (trs.modify t fun x => (x.1, k, x.2.2))[t]? = some (a.fs, k, en) := mod_eq ht
          refine ⟨by simp [bst, h.len], ?_, fun s x hx hm => ?_, fun j hj hl => ?_, fun j hj hl => ?_, fun j hj hl => ?_⟩
          · exact .cons ⟨k, en, hmt, fun _ => rfl⟩ (.inr ⟨.inr rfl, hls⟩) n (q.imp fun s hs => hmod s fun z => n (z ▸ hs))
          · have hst : s ≠ t := fun z => hm (by rw [z]; exact List.mem_cons_self)
            have hx' : trs[s]? = some x := by rw [← hmod s hst]; exact hx
            exact h.cl s x hx' hm
          · by_cases z : j = k
            · subst z; rw [hc] at hl; rcases hl with hl | hl <;> cases hl
            · obtain ⟨s, md', en', h1, h2⟩ := h.ei j (old j hj z) hl
              by_cases hs : s = t
              · subst hs
                rw [ht] at h2; cases h2
                exact ⟨s, k, en, rws_old h.len (old _ hj z) h1, hmt⟩
              · exact ⟨s, md', en', rws_old h.len (old j hj z) h1, (hmod s hs).trans h2⟩
          · by_cases z : j = k
            · rw [z]
              refine ⟨t, a.fs, en, rws_new h.len, hmt, hls, fun i hi => ?_⟩
              cases i with
              | zero => exact ⟨_, rfl, rfl⟩
              | succ i => simp [bst] at hi; exact absurd (List.mem_iff_getElem?.mpr ⟨i, hi⟩) n
            · obtain ⟨s, fs, en', h1, h2, h3, h4⟩ := h.oo j (old j hj z) hl
              by_cases hs : s = t
              · subst hs
                obtain ⟨e0, h5, h6⟩ := h4 0 (by simp)
                simp at h5; subst h5
                rw [ha] at h6; cases h6
              · refine ⟨s, fs, en', rws_old h.len (old j hj z) h1, (hmod s hs).trans h2, h3, fun i hi => ?_⟩
                obtain ⟨e0, h5, h6⟩ := h4 i hi
                cases i with
                | zero => simp [bst] at hi; exact absurd hi.symm hs
                | succ i => exact ⟨e0, by simpa using h5, h6⟩
          · by_cases z : j = k
            · subst z; rw [hc] at hl; cases hl
            · obtain ⟨s, fs, md', h1, h2, h3⟩ := h.en j (old j hj z) hl
              have hs : s ≠ t := fun z => h3 (by rw [z]; exact List.mem_cons_self)
              exact ⟨s, fs, md', rws_old h.len (old j hj z) h1, (hmod s hs).trans h2, h3⟩
      · cases e
  | en =>
    cases p with
    | nil => cases e
    | cons a r =>
      have hm0 := stp_mat hc hf e
      simp only [stp] at e
      split at e
      · cases e
      · rename_i ha
        cases e
        obtain ⟨trs, st, rws⟩ := b
        have hop := h.op
        cases hop with
        | @cons t _ st _ x kk n q =>
          obtain ⟨md, en, ht, hmd⟩ := x
          simp only at ht hmd
          have hmod : ∀ s, s ≠ t → (trs.modify t fun x => (x.1, x.2.1, k))[s]? = trs[s]? := fun s hs => mod_ne (Ne.symm hs)
          have hmt : (trs.modify t fun x => (x.1, x.2.1, k))[t]? = some (a.fs, md, k) := mod_eq ht
          refine ⟨by simp [bst, h.len], ?_, fun s x hx hm => ?_, fun j hj hl => ?_, fun j hj hl => ?_, fun j hj hl => ?_⟩
          · exact q.imp fun s hs => hmod s fun z => n (z ▸ hs)
          · by_cases hs : s = t
            · subst hs
              have hx' : (trs.modify s fun x => (x.1, x.2.1, k))[s]? = some x := hx
              rw [hmt] at hx'
              cases hx'
              exact ⟨a, hm0, rfl, fun z => (hmd z).symm, kk⟩
            · have hx' : trs[s]? = some x := by rw [← hmod s hs]; exact hx
              exact h.cl s x hx' fun z => by
                rcases List.mem_cons.mp z with z | z
                · exact hs z
                · exact hm z
          · by_cases z : j = k
            · subst z; rw [hc] at hl; rcases hl with hl | hl <;> cases hl
            · obtain ⟨s, md', en', h1, h2⟩ := h.ei j (old j hj z) hl
              by_cases hs : s = t
              · subst hs
                rw [ht] at h2; cases h2
                exact ⟨s, md, k, rws_old h.len (old _ hj z) h1, hmt⟩
              · exact ⟨s, md', en', rws_old h.len (old j hj z) h1, (hmod s hs).trans h2⟩
          · by_cases z : j = k
            · subst z; rw [hc] at hl; cases hl
            · obtain ⟨s, fs, en', h1, h2, h3, h4⟩ := h.oo j (old j hj z) hl
              by_cases hs : s = t
              · subst hs
                rw [ht] at h2; cases h2
                exact ⟨s, a.fs, k, rws_old h.len (old _ hj z) h1, hmt, h3, fun i hi => absurd (List.mem_iff_getElem?.mpr ⟨i, hi⟩) n⟩
              · refine ⟨s, fs, en', rws_old h.len (old j hj z) h1, (hmod s hs).trans h2, h3, fun i hi => ?_⟩
                obtain ⟨e0, h5, h6⟩ := h4 (i + 1) (by simpa [bst] using hi)
                exact ⟨e0, by simpa using h5, h6⟩
          · by_cases z : j = k
            · rw [z]
              exact ⟨t, a.fs, md, rws_new h.len, hmt, n⟩
            · obtain ⟨s, fs, md', h1, h2, h3⟩ := h.en j (old j hj z) hl
              have hs : s ≠ t := fun z => h3 (by rw [z]; exact List.mem_cons_self)
              exact ⟨s, fs, md', rws_old h.len (old j hj z) h1, (hmod s hs).trans h2, fun z => h3 (List.mem_cons_of_mem _ z)⟩
theorem pil_fits {ls : List Cd} : ∀ {k : Nat} {p : List En}, pil ls k = some p → Fits ls k 0 p ∧ BI ls k (bks ls k) p
  | 0, p, e => by
    cases e
    exact ⟨True.intro, ⟨rfl, .nil, fun t x h => by simp [bks] at h, fun j h => by omega, fun j h => by omega, fun j h => by omega⟩⟩
  | k + 1, p, e => by
    obtain ⟨q, h1, h2⟩ := Option.bind_eq_some_iff.mp e
    obtain ⟨f, b⟩ := pil_fits h1
    cases hc : ls[k]? with
    | none => rw [hc] at h2; cases h2
    | some c =>
      rw [hc] at h2
      refine ⟨stp_fits hc f h2, ?_⟩
      have : bks ls (k + 1) = bst k c (bks ls k) := by simp only [bks, hc]
      rw [this]
      exact bi_step b f hc h2
noncomputable def Bal (ls : List Cd) : Prop := pil ls ls.length = some []
structure Found (ls : List Cd) (b : Bk) : Prop where
  len : b.rws.length = ls.length
  ei : ∀ j, ls[j]? = some .ei → ∃ t md en, b.rws[j]? = some (some t) ∧ b.trs[t]? = some (j, md, en) ∧ Beh ls j .oo md
  ag : ∀ j, ls[j]? = some .ag → ∃ t md en, b.rws[j]? = some (some t) ∧ b.trs[t]? = some (j, md, en) ∧ Beh ls j .en en
  oo : ∀ j, ls[j]? = some .oo → ∃ t fs en, b.rws[j]? = some (some t) ∧ b.trs[t]? = some (fs, j, en) ∧ Beh ls j .en en
  en : ∀ j, ls[j]? = some .en → ∃ t fs md, b.rws[j]? = some (some t) ∧ b.trs[t]? = some (fs, md, j) ∧ Ahd ls j fs ∧ (ls[fs]? = some .ei ∨ ls[fs]? = some .ag)
theorem bal_found {ls : List Cd} (h : Bal ls) : Found ls (bks ls ls.length) := by
  obtain ⟨_, b⟩ := pil_fits h
  have hs : (bks ls ls.length).st = [] := by
    have := b.op
    generalize (bks ls ls.length).st = s at this
    cases this
    rfl
  have nm : ∀ t, t ∉ (bks ls ls.length).st := fun t => by rw [hs]; simp
  refine ⟨b.len, fun j hj => ?_, fun j hj => ?_, fun j hj => ?_, fun j hj => ?_⟩
  · obtain ⟨t, md, en, h1, h2⟩ := b.ei j (get_lt hj) (.inl hj)
    obtain ⟨e, m, f, d, kk⟩ := b.cl t _ h2 (nm t)
    simp only at m f d
    have ho : e.kd = .oo := by
      rcases kk with z | z
      · rw [f, hj] at z; cases z.2
      · rcases m.kd with q | q
        · rcases z.1 with z | z <;> rw [q] at z <;> cases z
        · exact q
    refine ⟨t, md, en, h1, h2, ?_⟩
    have := mat_or m ho
    rw [f, d ho] at this; exact this
  · obtain ⟨t, md, en, h1, h2⟩ := b.ei j (get_lt hj) (.inr hj)
    obtain ⟨e, m, f, d, kk⟩ := b.cl t _ h2 (nm t)
    simp only at m f d
    refine ⟨t, md, en, h1, h2, ?_⟩
    have := mat_end m
    rw [f] at this; exact this
  · obtain ⟨t, fs, en, h1, h2, h3, _⟩ := b.oo j (get_lt hj) hj
    obtain ⟨e, m, f, d, kk⟩ := b.cl t _ h2 (nm t)
    simp only at m f d
    have ho : e.kd = .oo := by
      rcases kk with z | z
      · rw [f, h3] at z; cases z.2
      · rcases m.kd with q | q
        · rcases z.1 with z | z <;> rw [q] at z <;> cases z
        · exact q
    refine ⟨t, fs, en, h1, h2, ?_⟩
    have := mat_orEnd m ho
    rw [d ho] at this; exact this
  · obtain ⟨t, fs, md, h1, h2, _⟩ := b.en j (get_lt hj) hj
    obtain ⟨e, m, f, d, kk⟩ := b.cl t _ h2 (nm t)
    simp only at m f d
    refine ⟨t, fs, md, h1, h2, ?_, ?_⟩
    · have := mat_head m
      rw [f] at this; exact this
    · have := m.fit.at_
      rw [f] at this; exact this
end My4

namespace My4
open My3
noncomputable def kst : Cd → List Cd → Option (List Cd)
  | .ei, s => some (.ei :: s)
  | .ag, s => some (.ag :: s)
  | .oo, s => match s with
    | e :: r => if e = .ei then some (.oo :: r) else none
    | [] => none
  | .en, s => match s with
    | e :: r => if e = .ei then none else some r
    | [] => none
  | .ot, s => some s
noncomputable def krun : List Cd → List Cd → Option (List Cd)
  | [], s => some s
  | c :: ls, s => (kst c s).bind (krun ls)
theorem krun_app : ∀ (ls ms : List Cd) (s : List Cd), krun (ls ++ ms) s = (krun ls s).bind (krun ms)
  | [], ms, s => rfl
  | c :: ls, ms, s => by
    show (kst c s).bind (krun (ls ++ ms)) = ((kst c s).bind (krun ls)).bind (krun ms)
    cases kst c s with
    | none => rfl
    | some t => exact krun_app ls ms t
theorem krun_one {ls : List Cd} {c : Cd} {s t u : List Cd} (h : krun ls s = some t) (k : kst c t = some u) : krun (ls ++ [c]) s = some u := by
  rw [krun_app, h]
  show (kst c t).bind _ = _
  rw [k]; rfl
theorem stp_kst {k : Nat} {c : Cd} {st : List En} : (stp k c st).map (List.map En.kd) = kst c (st.map En.kd) := by
  cases c with
  | ei => rfl
  | ag => rfl
  | ot => rfl
  | oo =>
    cases st with
    | nil => rfl
    | cons e r =>
      simp only [stp, kst, List.map_cons]
      by_cases h : e.kd = .ei <;> simp [h]
  | en =>
    cases st with
    | nil => rfl
    | cons e r =>
      simp only [stp, kst, List.map_cons]
      by_cases h : e.kd = .ei <;> simp [h]
theorem pil_krun {ls : List Cd} : ∀ {k : Nat}, k ≤ ls.length → (pil ls k).map (List.map En.kd) = krun (ls.take k) []
  | 0, _ => rfl
  | k + 1, hk => by
    have hlt : k < ls.length := by omega
    have ih := pil_krun (ls := ls) (k := k) (by omega)
    have ht : ls.take (k + 1) = ls.take k ++ [ls[k]] := by rw [List.take_succ_eq_append_getElem hlt]
    rw [ht, krun_app, ← ih]
    simp only [pil]
    rw [List.getElem?_eq_getElem hlt]
    cases pil ls k with
    | none => rfl
    | some p =>
      show (stp k ls[k] p).map _ = (kst ls[k] (p.map En.kd)).bind (krun [])
      rw [← stp_kst]
      cases stp k ls[k] p <;> rfl
theorem bal_iff {ls : List Cd} : Bal ls ↔ krun ls [] = some [] := by
  have := pil_krun (ls := ls) (k := ls.length) (Nat.le_refl _)
  rw [List.take_length] at this
  rw [← this]
  unfold Bal
  cases pil ls ls.length with
  | none => simp
  | some p => simp
end My4

namespace My
open PySem PySem.Spec PyProof.Rows L2 Mi
noncomputable def top (i : Nat) : Stmt := PySem.Challenge.pw_doneroom_k15_whole_flat_does_the_same.main.body.getD i (.Pass ⟨0, 0, 0, 0⟩)
section
variable {P : Program} {w : World} {K : PySem.W.Frag} {mg : Str → Option Value} {base : Heap}
noncomputable abbrev st__law_take : Stmt := top 23
theorem sc__law_take : FnScope ["feed", "many", "found"] ["feed", "many"] (defScope st__law_take) := ⟨rfl, rfl, rfl, by decide +kernel, rfl, by decide +kernel, by decide +kernel⟩
noncomputable def sem__law_take : FM := mDef 1
    (mSeq (mIte (mTest (mBin wGt (mBin wIx (mVar 0) (mC (.int 0))) (mC (.int 0)))) (mSeq (mSet 2 (mBin wMod (mBin wIx (mVar 0) (mC (.int 0))) (mVar 1)))
    (mSeq (mPut (mVar 0) (mC (.int 0)) (mBin wDiv (mBin wIx (mVar 0) (mC (.int 0))) (mVar 1)))
    (mRet (mVar 2)))) mSkip)
    (mSeq (mPut (mVar 0) (mC (.int 1)) (mBin wMod (mBin wAdd (mBin wMulA (mBin wIx (mVar 0) (mC (.int 1))) (mC (.int 69621))) (mC (.int 12345))) (mC (.int 2147483647))))
    (mRet (mBin wMod (mBin wDiv (mBin wIx (mVar 0) (mC (.int 1))) (mC (.int 8191))) (mVar 1)))))
set_option maxHeartbeats 4000000 in
theorem cal__law_take (d : DefAt K mg "_law_take" st__law_take ["feed", "many"]) : Cal P w K mg base 1 "_law_take" ["feed", "many"] sem__law_take := by
  refine cal_mk (k := 0) (more := 1) d sc__law_take rfl fun f cdv A outer s H E hr => ?_
  have hu := hr.units
  refine pms_cons ?_ ?_
  refine pms_if ?_ ?_ ?_
  refine pmt_cmp opr_gt opM_id ?_ ?_
  refine pm_ix ?_ ?_
  exact pm_var 0
  exact pm_int
  exact pm_int
  refine pms_cons ?_ ?_
  refine pms_set ?_ ?_ ?_ ?_ ?_ ?_
  exact sc__law_take.nd
  exact rfl
  exact (Or.inl rfl)
  refine pm_op opr_mod opM_id ?_ ?_
  refine pm_ix ?_ ?_
  exact pm_var 0
  exact pm_int
  exact pm_var 1
  exact rfl
  first | exact .inl rfl | exact .inr rfl
  refine pms_cons ?_ ?_
  refine pms_put ?_ ?_ ?_ ?_ ?_ ?_
  exact pm_var 0
  exact pm_int
  refine pm_op opr_div opM_id ?_ ?_
  refine pm_ix ?_ ?_
  exact pm_var 0
  exact pm_int
  exact pm_var 1
  exact fun _ => rfl
  exact rfl
  exact rfl
  refine pms_one ?_
  refine pms_ret ?_
  exact pm_var 2
  exact pms_nil
  refine pms_cons ?_ ?_
  refine pms_put ?_ ?_ ?_ ?_ ?_ ?_
  exact pm_var 0
  exact pm_int
  refine pm_op opr_mod opM_id ?_ ?_
  refine pm_op opr_add opM_id ?_ ?_
  refine pm_op opr_mulA opM_id ?_ ?_
  refine pm_ix ?_ ?_
  exact pm_var 0
  exact pm_int
  exact pm_int
  exact pm_int
  exact pm_int
  exact fun _ => rfl
  exact rfl
  exact rfl
  refine pms_one ?_
  refine pms_ret ?_
  refine pm_op opr_mod opM_id ?_ ?_
  refine pm_op opr_div opM_id ?_ ?_
  refine pm_ix ?_ ?_
  exact pm_var 0
  exact pm_int
  exact pm_int
  exact pm_var 1
noncomputable def bx__law_take : FM := box frN sem__law_take
theorem cbx__law_take (d : DefAt K mg "_law_take" st__law_take ["feed", "many"]) : Cal P w K mg base 1 "_law_take" ["feed", "many"] bx__law_take := (cal__law_take d).box frN
noncomputable abbrev st__law_names : Stmt := top 24
theorem sc__law_names : FnScope ["feed", "many", "letters", "filler", "first", "step", "size", "place", "back"] ["feed", "many"] (defScope st__law_names) := ⟨rfl, rfl, rfl, by decide +kernel, rfl, by decide +kernel, by decide +kernel⟩
noncomputable def sem__law_names : FM := mDef 7
    (mSeq (mSet 2 (mC (.str "abcdefghijklmnopqrstuvwxyz")))
    (mSeq (mSet 3 (mBin wIx (mVar 2) (mCall 2 bx__law_take (mCons (mVar 0) (mCons (mC (.int 26)) mNil)))))
    (mSeq (mIte (mTest (mBin wEq (mCall 2 bx__law_take (mCons (mVar 0) (mCons (mC (.int 3)) mNil))) (mC (.int 0)))) (mRet (mComp fLst (miR1 (mCons (mVar 1) mNil)) [none, some 3] (gSet 0) mYes (mBin wMulA (mVar 1) (mBin wAdd (mVar 0) (mC (.int 1)))))) mSkip)
    (mSeq (mSet 4 (mCall 2 bx__law_take (mCons (mVar 0) (mCons (mC (.int 26)) mNil))))
    (mSeq (mSet 5 (mBin wIx (mFn wLst (mCons (mC (.int 1)) (mCons (mC (.int 3)) (mCons (mC (.int 5)) (mCons (mC (.int 7)) (mCons (mC (.int 9)) (mCons (mC (.int 11)) mNil))))))) (mCall 2 bx__law_take (mCons (mVar 0) (mCons (mC (.int 6)) mNil)))))
    (mSeq (mSet 6 (mBin wIx (mFn wLst (mCons (mC (.int 1)) (mCons (mC (.int 3)) (mCons (mC (.int 4)) (mCons (mC (.int 5)) (mCons (mC (.int 6)) (mCons (mC (.int 7)) (mCons (mC (.int 8)) (mCons (mC (.int 1)) mNil))))))))) (mCall 2 bx__law_take (mCons (mVar 0) (mCons (mC (.int 8)) mNil)))))
    (mSeq (mSet 7 (mCall 2 bx__law_take (mCons (mVar 0) (mCons (mVar 6) mNil))))
    (mSeq (mSet 8 (mBin wMulA (mVar 3) (mBin wSub (mBin wSub (mVar 6) (mC (.int 1))) (mVar 7))))
    (mRet (mComp fLst (miR1 (mCons (mVar 1) mNil)) [none, some 8, some 3, some 7, some 2, some 4, some 5] (gSet 0) mYes (mBin wAdd (mBin wAdd (mBin wMulA (mVar 2) (mVar 3)) (mBin wIx (mVar 4) (mBin wMod (mBin wAdd (mVar 5) (mBin wMulA (mVar 6) (mVar 0))) (mC (.int 26))))) (mVar 1))))))))))))
set_option maxHeartbeats 4000000 in
theorem cal__law_names (d : DefAt K mg "_law_names" st__law_names ["feed", "many"]) (b_range : mg "range" = none) (c__law_take : Cal P w K mg base 1 "_law_take" ["feed", "many"] bx__law_take) : Cal P w K mg base 2 "_law_names" ["feed", "many"] sem__law_names := by
  refine cal_mk (k := 1) (more := 7) d sc__law_names rfl fun f cdv A outer s H E hr => ?_
  have hu := hr.units
  refine pms_cons ?_ ?_
  refine pms_set ?_ ?_ ?_ ?_ ?_ ?_
  exact sc__law_names.nd
  exact rfl
  exact (Or.inr rfl)
  exact pm_str
  exact rfl
  first | exact .inl rfl | exact .inr rfl
  refine pms_cons ?_ ?_
  refine pms_set ?_ ?_ ?_ ?_ ?_ ?_
  exact sc__law_names.nd
  exact rfl
  exact (Or.inr rfl)
  refine pm_ix ?_ ?_
  exact pm_var 2
  refine pm_callC (k := 1) (ps := ["feed", "many"]) ?_ ?_ ?_ ?_ ?_ ?_ ?_ ?_
  exact c__law_take
  exact hr.mono (by decide)
  exact rfl
  refine pma_cons ?_ ?_
  exact pm_var 0
  refine pma_cons ?_ ?_
  exact pm_int
  exact pma_nil
  exact rfl
  decide
  exact rfl
  exact rfl
  exact rfl
  first | exact .inl rfl | exact .inr rfl
  refine pms_cons ?_ ?_
  refine pms_if ?_ ?_ ?_
  refine pmt_cmp (opr_eq ?_) opM_id ?_ ?_
  exact hu
  refine pm_callC (k := 1) (ps := ["feed", "many"]) ?_ ?_ ?_ ?_ ?_ ?_ ?_ ?_
  exact c__law_take
  exact hr.mono (by decide)
  exact rfl
  refine pma_cons ?_ ?_
  exact pm_var 0
  refine pma_cons ?_ ?_
  exact pm_int
  exact pma_nil
  exact rfl
  decide
  exact rfl
  exact rfl
  exact pm_int
  refine pms_one ?_
  refine pms_ret ?_
  refine pm_comp0 fin_lst ?_ (blk_mk (ks := ["filler"]) (Nb := ["k", "filler"]) (cp := [none, some 3]) (N := ["feed", "many", "letters", "filler", "first", "step", "size", "place", "back"]) (xs := (defScope st__law_names)) rfl rfl (by decide +kernel) rfl (by decide +kernel) (by intro p hp; simp only [List.mem_cons, List.not_mem_nil, or_false] at hp; rcases hp with rfl <;> rfl) rfl rfl rfl (by decide +kernel)) ?_ (fun _ _ _ _ _ => ?_) (fun _ _ _ _ _ => ?_)
  exact rfl
  refine pmi_r1 ?_ ?_ ?_ ?_
  exact rfl
  exact b_range
  refine pma_cons ?_ ?_
  exact pm_var 1
  exact pma_nil
  exact rfl
  exact pmg_name (i := 0) (x := "k") (show List.Nodup (["k", "filler"] : List Str) from by decide +kernel) rfl (Or.inl rfl)
  refine pm_op opr_mulA opM_id ?_ ?_
  exact pm_var 1
  refine pm_op opr_add opM_id ?_ ?_
  exact pm_var 0
  exact pm_int
  exact pms_nil
  refine pms_cons ?_ ?_
  refine pms_set ?_ ?_ ?_ ?_ ?_ ?_
  exact sc__law_names.nd
  exact rfl
  exact (Or.inr rfl)
  refine pm_callC (k := 1) (ps := ["feed", "many"]) ?_ ?_ ?_ ?_ ?_ ?_ ?_ ?_
  exact c__law_take
  exact hr.mono (by decide)
  exact rfl
  refine pma_cons ?_ ?_
  exact pm_var 0
  refine pma_cons ?_ ?_
  exact pm_int
  exact pma_nil
  exact rfl
  decide
  exact rfl
  exact rfl
  exact rfl
  first | exact .inl rfl | exact .inr rfl
  refine pms_cons ?_ ?_
  refine pms_set ?_ ?_ ?_ ?_ ?_ ?_
  exact sc__law_names.nd
  exact rfl
  exact (Or.inr rfl)
  refine pm_ix ?_ ?_
  refine pm_lst ?_
  refine pma_cons ?_ ?_
  exact pm_int
  refine pma_cons ?_ ?_
  exact pm_int
  refine pma_cons ?_ ?_
  exact pm_int
  refine pma_cons ?_ ?_
  exact pm_int
  refine pma_cons ?_ ?_
  exact pm_int
  refine pma_cons ?_ ?_
  exact pm_int
  exact pma_nil
  refine pm_callC (k := 1) (ps := ["feed", "many"]) ?_ ?_ ?_ ?_ ?_ ?_ ?_ ?_
  exact c__law_take
  exact hr.mono (by decide)
  exact rfl
  refine pma_cons ?_ ?_
  exact pm_var 0
  refine pma_cons ?_ ?_
  exact pm_int
  exact pma_nil
  exact rfl
  decide
  exact rfl
  exact rfl
  exact rfl
  first | exact .inl rfl | exact .inr rfl
  refine pms_cons ?_ ?_
  refine pms_set ?_ ?_ ?_ ?_ ?_ ?_
  exact sc__law_names.nd
  exact rfl
  exact (Or.inl rfl)
  refine pm_ix ?_ ?_
  refine pm_lst ?_
  refine pma_cons ?_ ?_
  exact pm_int
  refine pma_cons ?_ ?_
  exact pm_int
  refine pma_cons ?_ ?_
  exact pm_int
  refine pma_cons ?_ ?_
  exact pm_int
  refine pma_cons ?_ ?_
  exact pm_int
  refine pma_cons ?_ ?_
  exact pm_int
  refine pma_cons ?_ ?_
  exact pm_int
  refine pma_cons ?_ ?_
  exact pm_int
  exact pma_nil
  refine pm_callC (k := 1) (ps := ["feed", "many"]) ?_ ?_ ?_ ?_ ?_ ?_ ?_ ?_
  exact c__law_take
  exact hr.mono (by decide)
  exact rfl
  refine pma_cons ?_ ?_
  exact pm_var 0
  refine pma_cons ?_ ?_
  exact pm_int
  exact pma_nil
  exact rfl
  decide
  exact rfl
  exact rfl
  exact rfl
  first | exact .inl rfl | exact .inr rfl
  refine pms_cons ?_ ?_
  refine pms_set ?_ ?_ ?_ ?_ ?_ ?_
  exact sc__law_names.nd
  exact rfl
  exact (Or.inr rfl)
  refine pm_callC (k := 1) (ps := ["feed", "many"]) ?_ ?_ ?_ ?_ ?_ ?_ ?_ ?_
  exact c__law_take
  exact hr.mono (by decide)
  exact rfl
  refine pma_cons ?_ ?_
  exact pm_var 0
  refine pma_cons ?_ ?_
  exact pm_var 6
  exact pma_nil
  exact rfl
  decide
  exact rfl
  exact rfl
  exact rfl
  first | exact .inl rfl | exact .inr rfl
  refine pms_cons ?_ ?_
  refine pms_set ?_ ?_ ?_ ?_ ?_ ?_
  exact sc__law_names.nd
  exact rfl
  exact (Or.inr rfl)
  refine pm_op opr_mulA opM_id ?_ ?_
  exact pm_var 3
  refine pm_op opr_sub opM_id ?_ ?_
  refine pm_op opr_sub opM_id ?_ ?_
  exact pm_var 6
  exact pm_int
  exact pm_var 7
  exact rfl
  first | exact .inl rfl | exact .inr rfl
  refine pms_one ?_
  refine pms_ret ?_
  refine pm_comp0 fin_lst ?_ (blk_mk (ks := ["step", "place", "letters", "first", "filler", "back"]) (Nb := ["k", "back", "filler", "place", "letters", "first", "step"]) (cp := [none, some 8, some 3, some 7, some 2, some 4, some 5]) (N := ["feed", "many", "letters", "filler", "first", "step", "size", "place", "back"]) (xs := (defScope st__law_names)) rfl rfl (by decide +kernel) rfl (by decide +kernel) (by intro p hp; simp only [List.mem_cons, List.not_mem_nil, or_false] at hp; rcases hp with rfl | rfl | rfl | rfl | rfl | rfl <;> rfl) rfl rfl rfl (by decide +kernel)) ?_ (fun _ _ _ _ _ => ?_) (fun _ _ _ _ _ => ?_)
  exact rfl
  refine pmi_r1 ?_ ?_ ?_ ?_
  exact rfl
  exact b_range
  refine pma_cons ?_ ?_
  exact pm_var 1
  exact pma_nil
  exact rfl
  exact pmg_name (i := 0) (x := "k") (show List.Nodup (["k", "back", "filler", "place", "letters", "first", "step"] : List Str) from by decide +kernel) rfl (Or.inl rfl)
  refine pm_op opr_add opM_id ?_ ?_
  refine pm_op opr_add opM_id ?_ ?_
  refine pm_op opr_mulA opM_id ?_ ?_
  exact pm_var 2
  exact pm_var 3
  refine pm_ix ?_ ?_
  exact pm_var 4
  refine pm_op opr_mod opM_id ?_ ?_
  refine pm_op opr_add opM_id ?_ ?_
  exact pm_var 5
  refine pm_op opr_mulA opM_id ?_ ?_
  exact pm_var 6
  exact pm_var 0
  exact pm_int
  exact pm_var 1
noncomputable def bx__law_names : FM := box frN sem__law_names
theorem cbx__law_names (d : DefAt K mg "_law_names" st__law_names ["feed", "many"]) (b_range : mg "range" = none) (c__law_take : Cal P w K mg base 1 "_law_take" ["feed", "many"] bx__law_take) : Cal P w K mg base 2 "_law_names" ["feed", "many"] bx__law_names := (cal__law_names d b_range c__law_take).box frN
noncomputable abbrev st__law_step_on : Stmt := top 26
theorem sc__law_step_on : FnScope ["lines", "opened"] ["lines", "opened"] (defScope st__law_step_on) := ⟨rfl, rfl, rfl, by decide +kernel, rfl, by decide +kernel, by decide +kernel⟩
noncomputable def sem__law_step_on : FM := mDef 0
    (mIte (mTest (mBin wEq (mBin wIx (mVar 1) (mUn wNeg (mC (.int 1)))) (mC (.str "either")))) (mSeq (mDrop (mMt "list" wAppend (mVar 0) (mCons (mFn wTup (mCons (mC (.str "or")) mNil)) mNil)))
    (mPut (mVar 1) (mUn wNeg (mC (.int 1))) (mC (.str "or")))) (mSeq (mDrop (mMt "list" wAppend (mVar 0) (mCons (mFn wTup (mCons (mC (.str "end")) mNil)) mNil)))
    (mDrop (mMt "list" wPop (mVar 1) mNil))))
set_option maxHeartbeats 4000000 in
theorem cal__law_step_on (d : DefAt K mg "_law_step_on" st__law_step_on ["lines", "opened"]) : Cal P w K mg base 1 "_law_step_on" ["lines", "opened"] sem__law_step_on := by
  refine cal_mk (k := 0) (more := 0) d sc__law_step_on rfl fun f cdv A outer s H E hr => ?_
  have hu := hr.units
  refine pms_one ?_
  refine pms_if ?_ ?_ ?_
  refine pmt_cmp (opr_eq ?_) opM_id ?_ ?_
  exact hu
  refine pm_ix ?_ ?_
  exact pm_var 1
  refine pm_neg ?_
  exact pm_int
  exact pm_str
  refine pms_cons ?_ ?_
  refine pms_expr ?_
  refine pm_mt PySem.F.plainAttrs_list PySem.F.slot_list_append PySem.F.type_list_append mtm_append ?_ ?_
  exact pm_var 0
  refine pma_cons ?_ ?_
  refine pm_tup ?_
  refine pma_cons ?_ ?_
  exact pm_str
  exact pma_nil
  exact pma_nil
  refine pms_one ?_
  refine pms_put ?_ ?_ ?_ ?_ ?_ ?_
  exact pm_var 1
  refine pm_neg ?_
  exact pm_int
  exact pm_str
  exact fun _ => rfl
  exact rfl
  exact rfl
  refine pms_cons ?_ ?_
  refine pms_expr ?_
  refine pm_mt PySem.F.plainAttrs_list PySem.F.slot_list_append PySem.F.type_list_append mtm_append ?_ ?_
  exact pm_var 0
  refine pma_cons ?_ ?_
  refine pm_tup ?_
  refine pma_cons ?_ ?_
  exact pm_str
  exact pma_nil
  exact pma_nil
  refine pms_one ?_
  refine pms_expr ?_
  refine pm_mt0 PySem.F.plainAttrs_list PySem.F.slot_list_pop PySem.F.type_list_pop mtm_pop ?_
  exact pm_var 1
noncomputable def bx__law_step_on : FM := box frN sem__law_step_on
theorem cbx__law_step_on (d : DefAt K mg "_law_step_on" st__law_step_on ["lines", "opened"]) : Cal P w K mg base 1 "_law_step_on" ["lines", "opened"] bx__law_step_on := (cal__law_step_on d).box frN
noncomputable abbrev st__law_plain : Stmt := top 25
theorem sc__law_plain : FnScope ["feed", "boxes", "words", "way", "x", "y", "z"] ["feed", "boxes", "words"] (defScope st__law_plain) := ⟨rfl, rfl, rfl, by decide +kernel, rfl, by decide +kernel, by decide +kernel⟩
noncomputable def sem__law_plain : FM := mDef 4
    (mSeq (mSet 3 (mCall 2 bx__law_take (mCons (mVar 0) (mCons (mC (.int 10)) mNil))))
    (mSeq (mSet 4 (mBin wIx (mVar 1) (mCall 2 bx__law_take (mCons (mVar 0) (mCons (mFn wLen (mCons (mVar 1) mNil)) mNil)))))
    (mSeq (mSet 5 (mBin wIx (mVar 1) (mCall 2 bx__law_take (mCons (mVar 0) (mCons (mFn wLen (mCons (mVar 1) mNil)) mNil)))))
    (mSeq (mIte (mTest (mBin wLt (mVar 3) (mC (.int 4)))) (mSeq (mSet 6 (mBin wIx (mVar 1) (mCall 2 bx__law_take (mCons (mVar 0) (mCons (mFn wLen (mCons (mVar 1) mNil)) mNil)))))
    (mRet (mFn wTup (mCons (mC (.str "pair")) (mCons (mVar 4) (mCons (mBin wIx (mVar 2) (mCall 2 bx__law_take (mCons (mVar 0) (mCons (mFn wLen (mCons (mVar 2) mNil)) mNil)))) (mCons (mVar 5) (mCons (mVar 6) mNil)))))))) mSkip)
    (mRet (mBin wIx (mFn wLst (mCons (mFn wTup (mCons (mC (.str "first")) (mCons (mVar 4) (mCons (mVar 5) mNil)))) (mCons (mFn wTup (mCons (mC (.str "second")) (mCons (mVar 4) (mCons (mVar 5) mNil)))) (mCons (mFn wTup (mCons (mC (.str "same")) (mCons (mVar 4) (mCons (mVar 5) mNil)))) (mCons (mFn wTup (mCons (mC (.str "none")) (mCons (mVar 4) mNil))) (mCons (mFn wTup (mCons (mC (.str "tell")) (mCons (mVar 5) mNil))) (mCons (mFn wTup (mCons (mC (.str "tell")) (mCons (mVar 4) mNil))) mNil))))))) (mBin wSub (mVar 3) (mC (.int 4)))))))))
set_option maxHeartbeats 4000000 in
theorem cal__law_plain (d : DefAt K mg "_law_plain" st__law_plain ["feed", "boxes", "words"]) (b_len : mg "len" = none) (c__law_take : Cal P w K mg base 1 "_law_take" ["feed", "many"] bx__law_take) : Cal P w K mg base 2 "_law_plain" ["feed", "boxes", "words"] sem__law_plain := by
  refine cal_mk (k := 1) (more := 4) d sc__law_plain rfl fun f cdv A outer s H E hr => ?_
  have hu := hr.units
  refine pms_cons ?_ ?_
  refine pms_set ?_ ?_ ?_ ?_ ?_ ?_
  exact sc__law_plain.nd
  exact rfl
  exact (Or.inl rfl)
  refine pm_callC (k := 1) (ps := ["feed", "many"]) ?_ ?_ ?_ ?_ ?_ ?_ ?_ ?_
  exact c__law_take
  exact hr.mono (by decide)
  exact rfl
  refine pma_cons ?_ ?_
  exact pm_var 0
  refine pma_cons ?_ ?_
  exact pm_int
  exact pma_nil
  exact rfl
  decide
  exact rfl
  exact rfl
  exact rfl
  first | exact .inl rfl | exact .inr rfl
  refine pms_cons ?_ ?_
  refine pms_set ?_ ?_ ?_ ?_ ?_ ?_
  exact sc__law_plain.nd
  exact rfl
  exact (Or.inl rfl)
  refine pm_ix ?_ ?_
  exact pm_var 1
  refine pm_callC (k := 1) (ps := ["feed", "many"]) ?_ ?_ ?_ ?_ ?_ ?_ ?_ ?_
  exact c__law_take
  exact hr.mono (by decide)
  exact rfl
  refine pma_cons ?_ ?_
  exact pm_var 0
  refine pma_cons ?_ ?_
  refine pm_callB callr_len callM_id ?_ ?_ PySem.boot_len ?_ ?_ ?_ ?_ ?_
  exact rfl
  exact b_len
  refine pma_cons ?_ ?_
  exact pm_var 1
  exact pma_nil
  decide
  decide
  exact rfl
  exact rfl
  exact pma_nil
  exact rfl
  decide
  exact rfl
  exact rfl
  exact rfl
  first | exact .inl rfl | exact .inr rfl
  refine pms_cons ?_ ?_
  refine pms_set ?_ ?_ ?_ ?_ ?_ ?_
  exact sc__law_plain.nd
  exact rfl
  exact (Or.inl rfl)
  refine pm_ix ?_ ?_
  exact pm_var 1
  refine pm_callC (k := 1) (ps := ["feed", "many"]) ?_ ?_ ?_ ?_ ?_ ?_ ?_ ?_
  exact c__law_take
  exact hr.mono (by decide)
  exact rfl
  refine pma_cons ?_ ?_
  exact pm_var 0
  refine pma_cons ?_ ?_
  refine pm_callB callr_len callM_id ?_ ?_ PySem.boot_len ?_ ?_ ?_ ?_ ?_
  exact rfl
  exact b_len
  refine pma_cons ?_ ?_
  exact pm_var 1
  exact pma_nil
  decide
  decide
  exact rfl
  exact rfl
  exact pma_nil
  exact rfl
  decide
  exact rfl
  exact rfl
  exact rfl
  first | exact .inl rfl | exact .inr rfl
  refine pms_cons ?_ ?_
  refine pms_if ?_ ?_ ?_
  refine pmt_cmp opr_lt opM_id ?_ ?_
  exact pm_var 3
  exact pm_int
  refine pms_cons ?_ ?_
  refine pms_set ?_ ?_ ?_ ?_ ?_ ?_
  exact sc__law_plain.nd
  exact rfl
  exact (Or.inl rfl)
  refine pm_ix ?_ ?_
  exact pm_var 1
  refine pm_callC (k := 1) (ps := ["feed", "many"]) ?_ ?_ ?_ ?_ ?_ ?_ ?_ ?_
  exact c__law_take
  exact hr.mono (by decide)
  exact rfl
  refine pma_cons ?_ ?_
  exact pm_var 0
  refine pma_cons ?_ ?_
  refine pm_callB callr_len callM_id ?_ ?_ PySem.boot_len ?_ ?_ ?_ ?_ ?_
  exact rfl
  exact b_len
  refine pma_cons ?_ ?_
  exact pm_var 1
  exact pma_nil
  decide
  decide
  exact rfl
  exact rfl
  exact pma_nil
  exact rfl
  decide
  exact rfl
  exact rfl
  exact rfl
  first | exact .inl rfl | exact .inr rfl
  refine pms_one ?_
  refine pms_ret ?_
  refine pm_tup ?_
  refine pma_cons ?_ ?_
  exact pm_str
  refine pma_cons ?_ ?_
  exact pm_var 4
  refine pma_cons ?_ ?_
  refine pm_ix ?_ ?_
  exact pm_var 2
  refine pm_callC (k := 1) (ps := ["feed", "many"]) ?_ ?_ ?_ ?_ ?_ ?_ ?_ ?_
  exact c__law_take
  exact hr.mono (by decide)
  exact rfl
  refine pma_cons ?_ ?_
  exact pm_var 0
  refine pma_cons ?_ ?_
  refine pm_callB callr_len callM_id ?_ ?_ PySem.boot_len ?_ ?_ ?_ ?_ ?_
  exact rfl
  exact b_len
  refine pma_cons ?_ ?_
  exact pm_var 2
  exact pma_nil
  decide
  decide
  exact rfl
  exact rfl
  exact pma_nil
  exact rfl
  decide
  exact rfl
  exact rfl
  refine pma_cons ?_ ?_
  exact pm_var 5
  refine pma_cons ?_ ?_
  exact pm_var 6
  exact pma_nil
  exact pms_nil
  refine pms_one ?_
  refine pms_ret ?_
  refine pm_ix ?_ ?_
  refine pm_lst ?_
  refine pma_cons ?_ ?_
  refine pm_tup ?_
  refine pma_cons ?_ ?_
  exact pm_str
  refine pma_cons ?_ ?_
  exact pm_var 4
  refine pma_cons ?_ ?_
  exact pm_var 5
  exact pma_nil
  refine pma_cons ?_ ?_
  refine pm_tup ?_
  refine pma_cons ?_ ?_
  exact pm_str
  refine pma_cons ?_ ?_
  exact pm_var 4
  refine pma_cons ?_ ?_
  exact pm_var 5
  exact pma_nil
  refine pma_cons ?_ ?_
  refine pm_tup ?_
  refine pma_cons ?_ ?_
  exact pm_str
  refine pma_cons ?_ ?_
  exact pm_var 4
  refine pma_cons ?_ ?_
  exact pm_var 5
  exact pma_nil
  refine pma_cons ?_ ?_
  refine pm_tup ?_
  refine pma_cons ?_ ?_
  exact pm_str
  refine pma_cons ?_ ?_
  exact pm_var 4
  exact pma_nil
  refine pma_cons ?_ ?_
  refine pm_tup ?_
  refine pma_cons ?_ ?_
  exact pm_str
  refine pma_cons ?_ ?_
  exact pm_var 5
  exact pma_nil
  refine pma_cons ?_ ?_
  refine pm_tup ?_
  refine pma_cons ?_ ?_
  exact pm_str
  refine pma_cons ?_ ?_
  exact pm_var 4
  exact pma_nil
  exact pma_nil
  refine pm_op opr_sub opM_id ?_ ?_
  exact pm_var 3
  exact pm_int
noncomputable def bx__law_plain : FM := box frN sem__law_plain
theorem cbx__law_plain (d : DefAt K mg "_law_plain" st__law_plain ["feed", "boxes", "words"]) (b_len : mg "len" = none) (c__law_take : Cal P w K mg base 1 "_law_take" ["feed", "many"] bx__law_take) : Cal P w K mg base 2 "_law_plain" ["feed", "boxes", "words"] bx__law_plain := (cal__law_plain d b_len c__law_take).box frN
noncomputable abbrev st__law_part : Stmt := top 27
theorem sc__law_part : FnScope ["feed", "size", "menus", "later", "opens", "dos", "lines", "opened", "k", "way"] ["feed", "size", "menus", "later", "opens", "dos"] (defScope st__law_part) := ⟨rfl, rfl, rfl, by decide +kernel, rfl, by decide +kernel, by decide +kernel⟩
noncomputable abbrev bd__law_part_1 : SM := (mSeq (mSet 9 (mCall 2 bx__law_take (mCons (mVar 0) (mCons (mC (.int 14)) mNil))))
    (mIte (mtAnd (mTest (mBin wLt (mVar 9) (mC (.int 3)))) (mTest (mBin wGt (mVar 4) (mC (.int 0))))) (mSeq (mDrop (mMt "list" wAppend (mVar 7) (mCons (mBin wIx (mFn wLst (mCons (mC (.str "either")) (mCons (mC (.str "again")) (mCons (mC (.str "either")) mNil)))) (mVar 9)) mNil)))
    (mSeq (mDrop (mMt "list" wAppend (mVar 6) (mCons (mFn wTup (mCons (mBin wIx (mVar 7) (mUn wNeg (mC (.int 1)))) mNil)) mNil)))
    (mSet 4 (mBin wSub (mVar 4) (mC (.int 1)))))) (mIte (mtAnd (mTest (mBin wLt (mVar 9) (mC (.int 6)))) (mTest (mBin wGt (mFn wLen (mCons (mVar 7) mNil)) (mC (.int 0))))) (mDrop (mCall 2 bx__law_step_on (mCons (mVar 6) (mCons (mVar 7) mNil)))) (mIte (mtAnd (mTest (mBin (wIn false) (mVar 9) (mFn wLst (mCons (mC (.int 6)) (mCons (mC (.int 7)) mNil))))) (mtAnd (mTest (mBin wGt (mVar 5) (mC (.int 0)))) (mTest (mBin wGt (mFn wLen (mCons (mVar 3) mNil)) (mC (.int 0)))))) (mSeq (mDrop (mMt "list" wAppend (mVar 6) (mCons (mFn wTup (mCons (mC (.str "do")) (mCons (mBin wIx (mVar 3) (mCall 2 bx__law_take (mCons (mVar 0) (mCons (mFn wLen (mCons (mVar 3) mNil)) mNil)))) mNil))) mNil)))
    (mSet 5 (mBin wSub (mVar 5) (mC (.int 1))))) (mDrop (mMt "list" wAppend (mVar 6) (mCons (mCall 3 bx__law_plain (mCons (mVar 0) (mCons (mBin wIx (mVar 2) (mC (.int 0))) (mCons (mBin wIx (mVar 2) (mC (.int 1))) mNil)))) mNil)))))))
noncomputable abbrev bd__law_part_2 : SM := (mDrop (mCall 2 bx__law_step_on (mCons (mVar 6) (mCons (mVar 7) mNil))))
noncomputable def sem__law_part : FM := mDef 4
    (mSeq (mSet 6 (mFn wNew mNil))
    (mSeq (mSet 7 (mFn wNew mNil))
    (mSeq (mFor (miR1 (mCons (mVar 1) mNil)) (gSet 8)
    bd__law_part_1)
    (mSeq (mWhileN (mTest (mBin wGt (mFn wLen (mCons (mVar 7) mNil)) (mC (.int 0)))) bd__law_part_2 1000000)
    (mRet (mFn wTuple (mCons (mVar 6) mNil)))))))
set_option maxHeartbeats 4000000 in
theorem cal__law_part (d : DefAt K mg "_law_part" st__law_part ["feed", "size", "menus", "later", "opens", "dos"]) (b_len : mg "len" = none) (b_range : mg "range" = none) (b_tuple : mg "tuple" = none) (c__law_plain : Cal P w K mg base 2 "_law_plain" ["feed", "boxes", "words"] bx__law_plain) (c__law_step_on : Cal P w K mg base 1 "_law_step_on" ["lines", "opened"] bx__law_step_on) (c__law_take : Cal P w K mg base 1 "_law_take" ["feed", "many"] bx__law_take) : Cal P w K mg base 3 "_law_part" ["feed", "size", "menus", "later", "opens", "dos"] sem__law_part := by
  refine cal_mk (k := 2) (more := 4) d sc__law_part rfl fun f cdv A outer s H E hr => ?_
  have hu := hr.units
  refine pms_cons ?_ ?_
  refine pms_set ?_ ?_ ?_ ?_ ?_ ?_
  exact sc__law_part.nd
  exact rfl
  exact (Or.inl rfl)
  refine pm_new ?_
  exact pma_nil
  exact rfl
  first | exact .inl rfl | exact .inr rfl
  refine pms_cons ?_ ?_
  refine pms_set ?_ ?_ ?_ ?_ ?_ ?_
  exact sc__law_part.nd
  exact rfl
  exact (Or.inl rfl)
  refine pm_new ?_
  exact pma_nil
  exact rfl
  first | exact .inl rfl | exact .inr rfl
  refine pms_cons ?_ ?_
  refine pms_for ?_ ?_ ?_ ?_ ?_ ?_
  exact PassesOwn.never
  exact rfl
  refine pmi_r1 ?_ ?_ ?_ ?_
  exact rfl
  exact b_range
  refine pma_cons ?_ ?_
  exact pm_var 1
  exact pma_nil
  exact rfl
  exact pmg_name (i := 8) (x := "k") sc__law_part.nd rfl (Or.inl rfl)
  refine pms_cons ?_ ?_
  refine pms_set ?_ ?_ ?_ ?_ ?_ ?_
  exact sc__law_part.nd
  exact rfl
  exact (Or.inl rfl)
  refine pm_callC (k := 1) (ps := ["feed", "many"]) ?_ ?_ ?_ ?_ ?_ ?_ ?_ ?_
  exact c__law_take
  exact hr.mono (by decide)
  exact rfl
  refine pma_cons ?_ ?_
  exact pm_var 0
  refine pma_cons ?_ ?_
  exact pm_int
  exact pma_nil
  exact rfl
  decide
  exact rfl
  exact rfl
  exact rfl
  first | exact .inl rfl | exact .inr rfl
  refine pms_one ?_
  refine pms_if ?_ ?_ ?_
  refine PMW.pt ?_
  refine pmw_and ?_ ?_
  refine pmt_cmp opr_lt opM_id ?_ ?_
  exact pm_var 9
  exact pm_int
  refine pmw_and1 ?_
  refine pmt_cmp opr_gt opM_id ?_ ?_
  exact pm_var 4
  exact pm_int
  refine pms_cons ?_ ?_
  refine pms_expr ?_
  refine pm_mt PySem.F.plainAttrs_list PySem.F.slot_list_append PySem.F.type_list_append mtm_append ?_ ?_
  exact pm_var 7
  refine pma_cons ?_ ?_
  refine pm_ix ?_ ?_
  refine pm_lst ?_
  refine pma_cons ?_ ?_
  exact pm_str
  refine pma_cons ?_ ?_
  exact pm_str
  refine pma_cons ?_ ?_
  exact pm_str
  exact pma_nil
  exact pm_var 9
  exact pma_nil
  refine pms_cons ?_ ?_
  refine pms_expr ?_
  refine pm_mt PySem.F.plainAttrs_list PySem.F.slot_list_append PySem.F.type_list_append mtm_append ?_ ?_
  exact pm_var 6
  refine pma_cons ?_ ?_
  refine pm_tup ?_
  refine pma_cons ?_ ?_
  refine pm_ix ?_ ?_
  exact pm_var 7
  refine pm_neg ?_
  exact pm_int
  exact pma_nil
  exact pma_nil
  refine pms_one ?_
  refine pms_set ?_ ?_ ?_ ?_ ?_ ?_
  exact sc__law_part.nd
  exact rfl
  exact (Or.inl rfl)
  refine pm_op opr_sub opM_id ?_ ?_
  exact pm_var 4
  exact pm_int
  exact rfl
  first | exact .inl rfl | exact .inr rfl
  refine pms_one ?_
  refine pms_if ?_ ?_ ?_
  refine PMW.pt ?_
  refine pmw_and ?_ ?_
  refine pmt_cmp opr_lt opM_id ?_ ?_
  exact pm_var 9
  exact pm_int
  refine pmw_and1 ?_
  refine pmt_cmp opr_gt opM_id ?_ ?_
  refine pm_callB callr_len callM_id ?_ ?_ PySem.boot_len ?_ ?_ ?_ ?_ ?_
  exact rfl
  exact b_len
  refine pma_cons ?_ ?_
  exact pm_var 7
  exact pma_nil
  decide
  decide
  exact rfl
  exact rfl
  exact pm_int
  refine pms_one ?_
  refine pms_expr ?_
  refine pm_callC (k := 1) (ps := ["lines", "opened"]) ?_ ?_ ?_ ?_ ?_ ?_ ?_ ?_
  exact c__law_step_on
  exact hr.mono (by decide)
  exact rfl
  refine pma_cons ?_ ?_
  exact pm_var 6
  refine pma_cons ?_ ?_
  exact pm_var 7
  exact pma_nil
  exact rfl
  decide
  exact rfl
  exact rfl
  refine pms_one ?_
  refine pms_if ?_ ?_ ?_
  refine PMW.pt ?_
  refine pmw_and ?_ ?_
  refine pmt_cmp (opr_in ?_) opM_id ?_ ?_
  exact hu
  exact pm_var 9
  refine pm_lst ?_
  refine pma_cons ?_ ?_
  exact pm_int
  refine pma_cons ?_ ?_
  exact pm_int
  exact pma_nil
  refine pmw_and ?_ ?_
  refine pmt_cmp opr_gt opM_id ?_ ?_
  exact pm_var 5
  exact pm_int
  refine pmw_and1 ?_
  refine pmt_cmp opr_gt opM_id ?_ ?_
  refine pm_callB callr_len callM_id ?_ ?_ PySem.boot_len ?_ ?_ ?_ ?_ ?_
  exact rfl
  exact b_len
  refine pma_cons ?_ ?_
  exact pm_var 3
  exact pma_nil
  decide
  decide
  exact rfl
  exact rfl
  exact pm_int
  refine pms_cons ?_ ?_
  refine pms_expr ?_
  refine pm_mt PySem.F.plainAttrs_list PySem.F.slot_list_append PySem.F.type_list_append mtm_append ?_ ?_
  exact pm_var 6
  refine pma_cons ?_ ?_
  refine pm_tup ?_
  refine pma_cons ?_ ?_
  exact pm_str
  refine pma_cons ?_ ?_
  refine pm_ix ?_ ?_
  exact pm_var 3
  refine pm_callC (k := 1) (ps := ["feed", "many"]) ?_ ?_ ?_ ?_ ?_ ?_ ?_ ?_
  exact c__law_take
  exact hr.mono (by decide)
  exact rfl
  refine pma_cons ?_ ?_
  exact pm_var 0
  refine pma_cons ?_ ?_
  refine pm_callB callr_len callM_id ?_ ?_ PySem.boot_len ?_ ?_ ?_ ?_ ?_
  exact rfl
  exact b_len
  refine pma_cons ?_ ?_
  exact pm_var 3
  exact pma_nil
  decide
  decide
  exact rfl
  exact rfl
  exact pma_nil
  exact rfl
  decide
  exact rfl
  exact rfl
  exact pma_nil
  exact pma_nil
  refine pms_one ?_
  refine pms_set ?_ ?_ ?_ ?_ ?_ ?_
  exact sc__law_part.nd
  exact rfl
  exact (Or.inl rfl)
  refine pm_op opr_sub opM_id ?_ ?_
  exact pm_var 5
  exact pm_int
  exact rfl
  first | exact .inl rfl | exact .inr rfl
  refine pms_one ?_
  refine pms_expr ?_
  refine pm_mt PySem.F.plainAttrs_list PySem.F.slot_list_append PySem.F.type_list_append mtm_append ?_ ?_
  exact pm_var 6
  refine pma_cons ?_ ?_
  refine pm_callC (k := 2) (ps := ["feed", "boxes", "words"]) ?_ ?_ ?_ ?_ ?_ ?_ ?_ ?_
  exact c__law_plain
  exact hr.mono (by decide)
  exact rfl
  refine pma_cons ?_ ?_
  exact pm_var 0
  refine pma_cons ?_ ?_
  refine pm_ix ?_ ?_
  exact pm_var 2
  exact pm_int
  refine pma_cons ?_ ?_
  refine pm_ix ?_ ?_
  exact pm_var 2
  exact pm_int
  exact pma_nil
  exact rfl
  decide
  exact rfl
  exact rfl
  exact pma_nil
  exact fun _ => rfl
  refine pms_cons ?_ ?_
  refine pms_while 1000000 ?_ ?_ ?_
  exact PassesOwn.never
  refine pmt_cmp opr_gt opM_id ?_ ?_
  refine pm_callB callr_len callM_id ?_ ?_ PySem.boot_len ?_ ?_ ?_ ?_ ?_
  exact rfl
  exact b_len
  refine pma_cons ?_ ?_
  exact pm_var 7
  exact pma_nil
  decide
  decide
  exact rfl
  exact rfl
  exact pm_int
  refine pms_one ?_
  refine pms_expr ?_
  refine pm_callC (k := 1) (ps := ["lines", "opened"]) ?_ ?_ ?_ ?_ ?_ ?_ ?_ ?_
  exact c__law_step_on
  exact hr.mono (by decide)
  exact rfl
  refine pma_cons ?_ ?_
  exact pm_var 6
  refine pma_cons ?_ ?_
  exact pm_var 7
  exact pma_nil
  exact rfl
  decide
  exact rfl
  exact rfl
  refine pms_one ?_
  refine pms_ret ?_
  refine pm_callTy callr_tuple callM_id ?_ ?_ PyProof.Rows.boot_tuple ?_ ?_ ?_ ?_ ?_
  exact rfl
  exact b_tuple
  refine pma_cons ?_ ?_
  exact pm_var 6
  exact pma_nil
  decide
  decide
  exact rfl
  exact rfl
noncomputable def bx__law_part : FM := box frN sem__law_part
theorem cbx__law_part (d : DefAt K mg "_law_part" st__law_part ["feed", "size", "menus", "later", "opens", "dos"]) (b_len : mg "len" = none) (b_range : mg "range" = none) (b_tuple : mg "tuple" = none) (c__law_plain : Cal P w K mg base 2 "_law_plain" ["feed", "boxes", "words"] bx__law_plain) (c__law_step_on : Cal P w K mg base 1 "_law_step_on" ["lines", "opened"] bx__law_step_on) (c__law_take : Cal P w K mg base 1 "_law_take" ["feed", "many"] bx__law_take) : Cal P w K mg base 3 "_law_part" ["feed", "size", "menus", "later", "opens", "dos"] bx__law_part := (cal__law_part d b_len b_range b_tuple c__law_plain c__law_step_on c__law_take).box frN
noncomputable abbrev st__law_program : Stmt := top 28
theorem sc__law_program : FnScope ["feed", "bounds", "menus", "names", "size", "found", "k"] ["feed", "bounds"] (defScope st__law_program) := ⟨rfl, rfl, rfl, by decide +kernel, rfl, by decide +kernel, by decide +kernel⟩
noncomputable abbrev bd__law_program_1 : SM := (mDrop (mMt "list" wAppend (mVar 5) (mCons (mFn wTup (mCons (mBin wIx (mVar 3) (mVar 6)) (mCons (mCall 6 bx__law_part (mCons (mVar 0) (mCons (mCall 2 bx__law_take (mCons (mVar 0) (mCons (mC (.int 4)) mNil))) (mCons (mVar 2) (mCons (mSl (mVar 3) (oSome (mBin wAdd (mVar 6) (mC (.int 1)))) oNone) (mCons (mC (.int 1)) (mCons (mC (.int 1)) mNil))))))) mNil))) mNil)))
noncomputable def sem__law_program : FM := mDef 5
    (mSeq (mSet 2 (mFn wTup (mCons (mCall 2 bx__law_names (mCons (mVar 0) (mCons (mBin wAdd (mC (.int 1)) (mCall 2 bx__law_take (mCons (mVar 0) (mCons (mBin wIx (mVar 1) (mC (.int 0))) mNil)))) mNil))) (mCons (mCall 2 bx__law_names (mCons (mVar 0) (mCons (mBin wAdd (mC (.int 1)) (mCall 2 bx__law_take (mCons (mVar 0) (mCons (mBin wIx (mVar 1) (mC (.int 1))) mNil)))) mNil))) mNil))))
    (mSeq (mSet 3 (mCall 2 bx__law_names (mCons (mVar 0) (mCons (mBin wAdd (mC (.int 1)) (mCall 2 bx__law_take (mCons (mVar 0) (mCons (mBin wIx (mVar 1) (mC (.int 2))) mNil)))) mNil))))
    (mSeq (mSet 4 (mBin wSub (mBin wIx (mVar 1) (mC (.int 3))) (mCall 2 bx__law_take (mCons (mVar 0) (mCons (mC (.int 3)) mNil)))))
    (mSeq (mIte (mTest (mBin wEq (mCall 2 bx__law_take (mCons (mVar 0) (mCons (mC (.int 4)) mNil))) (mC (.int 0)))) (mSet 4 (mCall 2 bx__law_take (mCons (mVar 0) (mCons (mBin wAdd (mVar 4) (mC (.int 1))) mNil)))) mSkip)
    (mSeq (mSet 5 (mFn wNew (mCons (mFn wTup (mCons (mBin wIx (mVar 3) (mC (.int 0))) (mCons (mCall 6 bx__law_part (mCons (mVar 0) (mCons (mVar 4) (mCons (mVar 2) (mCons (mSl (mVar 3) (oSome (mC (.int 1))) oNone) (mCons (mC (.int 2)) (mCons (mC (.int 2)) mNil))))))) mNil))) mNil)))
    (mSeq (mFor (miR2 (mCons (mC (.int 1)) (mCons (mFn wLen (mCons (mVar 3) mNil)) mNil))) (gSet 6)
    bd__law_program_1)
    (mRet (mFn wTuple (mCons (mVar 5) mNil)))))))))
set_option maxHeartbeats 4000000 in
theorem cal__law_program (d : DefAt K mg "_law_program" st__law_program ["feed", "bounds"]) (b_len : mg "len" = none) (b_range : mg "range" = none) (b_tuple : mg "tuple" = none) (c__law_names : Cal P w K mg base 2 "_law_names" ["feed", "many"] bx__law_names) (c__law_part : Cal P w K mg base 3 "_law_part" ["feed", "size", "menus", "later", "opens", "dos"] bx__law_part) (c__law_take : Cal P w K mg base 1 "_law_take" ["feed", "many"] bx__law_take) : Cal P w K mg base 4 "_law_program" ["feed", "bounds"] sem__law_program := by
  refine cal_mk (k := 3) (more := 5) d sc__law_program rfl fun f cdv A outer s H E hr => ?_
  have hu := hr.units
  refine pms_cons ?_ ?_
  refine pms_set ?_ ?_ ?_ ?_ ?_ ?_
  exact sc__law_program.nd
  exact rfl
  exact (Or.inl rfl)
  refine pm_tup ?_
  refine pma_cons ?_ ?_
  refine pm_callC (k := 2) (ps := ["feed", "many"]) ?_ ?_ ?_ ?_ ?_ ?_ ?_ ?_
  exact c__law_names
  exact hr.mono (by decide)
  exact rfl
  refine pma_cons ?_ ?_
  exact pm_var 0
  refine pma_cons ?_ ?_
  refine pm_op opr_add opM_id ?_ ?_
  exact pm_int
  refine pm_callC (k := 1) (ps := ["feed", "many"]) ?_ ?_ ?_ ?_ ?_ ?_ ?_ ?_
  exact c__law_take
  exact hr.mono (by decide)
  exact rfl
  refine pma_cons ?_ ?_
  exact pm_var 0
  refine pma_cons ?_ ?_
  refine pm_ix ?_ ?_
  exact pm_var 1
  exact pm_int
  exact pma_nil
  exact rfl
  decide
  exact rfl
  exact rfl
  exact pma_nil
  exact rfl
  decide
  exact rfl
  exact rfl
  refine pma_cons ?_ ?_
  refine pm_callC (k := 2) (ps := ["feed", "many"]) ?_ ?_ ?_ ?_ ?_ ?_ ?_ ?_
  exact c__law_names
  exact hr.mono (by decide)
  exact rfl
  refine pma_cons ?_ ?_
  exact pm_var 0
  refine pma_cons ?_ ?_
  refine pm_op opr_add opM_id ?_ ?_
  exact pm_int
  refine pm_callC (k := 1) (ps := ["feed", "many"]) ?_ ?_ ?_ ?_ ?_ ?_ ?_ ?_
  exact c__law_take
  exact hr.mono (by decide)
  exact rfl
  refine pma_cons ?_ ?_
  exact pm_var 0
  refine pma_cons ?_ ?_
  refine pm_ix ?_ ?_
  exact pm_var 1
  exact pm_int
  exact pma_nil
  exact rfl
  decide
  exact rfl
  exact rfl
  exact pma_nil
  exact rfl
  decide
  exact rfl
  exact rfl
  exact pma_nil
  exact rfl
  first | exact .inl rfl | exact .inr rfl
  refine pms_cons ?_ ?_
  refine pms_set ?_ ?_ ?_ ?_ ?_ ?_
  exact sc__law_program.nd
  exact rfl
  exact (Or.inl rfl)
  refine pm_callC (k := 2) (ps := ["feed", "many"]) ?_ ?_ ?_ ?_ ?_ ?_ ?_ ?_
  exact c__law_names
  exact hr.mono (by decide)
  exact rfl
  refine pma_cons ?_ ?_
  exact pm_var 0
  refine pma_cons ?_ ?_
  refine pm_op opr_add opM_id ?_ ?_
  exact pm_int
  refine pm_callC (k := 1) (ps := ["feed", "many"]) ?_ ?_ ?_ ?_ ?_ ?_ ?_ ?_
  exact c__law_take
  exact hr.mono (by decide)
  exact rfl
  refine pma_cons ?_ ?_
  exact pm_var 0
  refine pma_cons ?_ ?_
  refine pm_ix ?_ ?_
  exact pm_var 1
  exact pm_int
  exact pma_nil
  exact rfl
  decide
  exact rfl
  exact rfl
  exact pma_nil
  exact rfl
  decide
  exact rfl
  exact rfl
  exact rfl
  first | exact .inl rfl | exact .inr rfl
  refine pms_cons ?_ ?_
  refine pms_set ?_ ?_ ?_ ?_ ?_ ?_
  exact sc__law_program.nd
  exact rfl
  exact (Or.inl rfl)
  refine pm_op opr_sub opM_id ?_ ?_
  refine pm_ix ?_ ?_
  exact pm_var 1
  exact pm_int
  refine pm_callC (k := 1) (ps := ["feed", "many"]) ?_ ?_ ?_ ?_ ?_ ?_ ?_ ?_
  exact c__law_take
  exact hr.mono (by decide)
  exact rfl
  refine pma_cons ?_ ?_
  exact pm_var 0
  refine pma_cons ?_ ?_
  exact pm_int
  exact pma_nil
  exact rfl
  decide
  exact rfl
  exact rfl
  exact rfl
  first | exact .inl rfl | exact .inr rfl
  refine pms_cons ?_ ?_
  refine pms_if ?_ ?_ ?_
  refine pmt_cmp (opr_eq ?_) opM_id ?_ ?_
  exact hu
  refine pm_callC (k := 1) (ps := ["feed", "many"]) ?_ ?_ ?_ ?_ ?_ ?_ ?_ ?_
  exact c__law_take
  exact hr.mono (by decide)
  exact rfl
  refine pma_cons ?_ ?_
  exact pm_var 0
  refine pma_cons ?_ ?_
  exact pm_int
  exact pma_nil
  exact rfl
  decide
  exact rfl
  exact rfl
  exact pm_int
  refine pms_one ?_
  refine pms_set ?_ ?_ ?_ ?_ ?_ ?_
  exact sc__law_program.nd
  exact rfl
  exact (Or.inl rfl)
  refine pm_callC (k := 1) (ps := ["feed", "many"]) ?_ ?_ ?_ ?_ ?_ ?_ ?_ ?_
  exact c__law_take
  exact hr.mono (by decide)
  exact rfl
  refine pma_cons ?_ ?_
  exact pm_var 0
  refine pma_cons ?_ ?_
  refine pm_op opr_add opM_id ?_ ?_
  exact pm_var 4
  exact pm_int
  exact pma_nil
  exact rfl
  decide
  exact rfl
  exact rfl
  exact rfl
  first | exact .inl rfl | exact .inr rfl
  exact pms_nil
  refine pms_cons ?_ ?_
  refine pms_set ?_ ?_ ?_ ?_ ?_ ?_
  exact sc__law_program.nd
  exact rfl
  exact (Or.inl rfl)
  refine pm_new ?_
  refine pma_cons ?_ ?_
  refine pm_tup ?_
  refine pma_cons ?_ ?_
  refine pm_ix ?_ ?_
  exact pm_var 3
  exact pm_int
  refine pma_cons ?_ ?_
  refine pm_callC (k := 3) (ps := ["feed", "size", "menus", "later", "opens", "dos"]) ?_ ?_ ?_ ?_ ?_ ?_ ?_ ?_
  exact c__law_part
  exact hr.mono (by decide)
  exact rfl
  refine pma_cons ?_ ?_
  exact pm_var 0
  refine pma_cons ?_ ?_
  exact pm_var 4
  refine pma_cons ?_ ?_
  exact pm_var 2
  refine pma_cons ?_ ?_
  refine pm_slice ?_ ?_ ?_
  exact pm_var 3
  refine pmo_some ?_
  exact pm_int
  exact pmo_none
  refine pma_cons ?_ ?_
  exact pm_int
  refine pma_cons ?_ ?_
  exact pm_int
  exact pma_nil
  exact rfl
  decide
  exact rfl
  exact rfl
  exact pma_nil
  exact pma_nil
  exact rfl
  first | exact .inl rfl | exact .inr rfl
  refine pms_cons ?_ ?_
  refine pms_for ?_ ?_ ?_ ?_ ?_ ?_
  exact PassesOwn.never
  exact rfl
  refine pmi_r2 ?_ ?_ ?_ ?_ ?_
  exact rfl
  exact b_range
  refine pma_cons ?_ ?_
  exact pm_int
  refine pma_cons ?_ ?_
  refine pm_callB callr_len callM_id ?_ ?_ PySem.boot_len ?_ ?_ ?_ ?_ ?_
  exact rfl
  exact b_len
  refine pma_cons ?_ ?_
  exact pm_var 3
  exact pma_nil
  decide
  decide
  exact rfl
  exact rfl
  exact pma_nil
  exact rfl
  exact rfl
  exact pmg_name (i := 6) (x := "k") sc__law_program.nd rfl (Or.inl rfl)
  refine pms_one ?_
  refine pms_expr ?_
  refine pm_mt PySem.F.plainAttrs_list PySem.F.slot_list_append PySem.F.type_list_append mtm_append ?_ ?_
  exact pm_var 5
  refine pma_cons ?_ ?_
  refine pm_tup ?_
  refine pma_cons ?_ ?_
  refine pm_ix ?_ ?_
  exact pm_var 3
  exact pm_var 6
  refine pma_cons ?_ ?_
  refine pm_callC (k := 3) (ps := ["feed", "size", "menus", "later", "opens", "dos"]) ?_ ?_ ?_ ?_ ?_ ?_ ?_ ?_
  exact c__law_part
  exact hr.mono (by decide)
  exact rfl
  refine pma_cons ?_ ?_
  exact pm_var 0
  refine pma_cons ?_ ?_
  refine pm_callC (k := 1) (ps := ["feed", "many"]) ?_ ?_ ?_ ?_ ?_ ?_ ?_ ?_
  exact c__law_take
  exact hr.mono (by decide)
  exact rfl
  refine pma_cons ?_ ?_
  exact pm_var 0
  refine pma_cons ?_ ?_
  exact pm_int
  exact pma_nil
  exact rfl
  decide
  exact rfl
  exact rfl
  refine pma_cons ?_ ?_
  exact pm_var 2
  refine pma_cons ?_ ?_
  refine pm_slice ?_ ?_ ?_
  exact pm_var 3
  refine pmo_some ?_
  refine pm_op opr_add opM_id ?_ ?_
  exact pm_var 6
  exact pm_int
  exact pmo_none
  refine pma_cons ?_ ?_
  exact pm_int
  refine pma_cons ?_ ?_
  exact pm_int
  exact pma_nil
  exact rfl
  decide
  exact rfl
  exact rfl
  exact pma_nil
  exact pma_nil
  exact fun _ => rfl
  refine pms_one ?_
  refine pms_ret ?_
  refine pm_callTy callr_tuple callM_id ?_ ?_ PyProof.Rows.boot_tuple ?_ ?_ ?_ ?_ ?_
  exact rfl
  exact b_tuple
  refine pma_cons ?_ ?_
  exact pm_var 5
  exact pma_nil
  decide
  decide
  exact rfl
  exact rfl
noncomputable def bx__law_program : FM := box frN sem__law_program
theorem cbx__law_program (d : DefAt K mg "_law_program" st__law_program ["feed", "bounds"]) (b_len : mg "len" = none) (b_range : mg "range" = none) (b_tuple : mg "tuple" = none) (c__law_names : Cal P w K mg base 2 "_law_names" ["feed", "many"] bx__law_names) (c__law_part : Cal P w K mg base 3 "_law_part" ["feed", "size", "menus", "later", "opens", "dos"] bx__law_part) (c__law_take : Cal P w K mg base 1 "_law_take" ["feed", "many"] bx__law_take) : Cal P w K mg base 4 "_law_program" ["feed", "bounds"] bx__law_program := (cal__law_program d b_len b_range b_tuple c__law_names c__law_part c__law_take).box frN
noncomputable abbrev st__law_great : Stmt := top 29
theorem sc__law_great : FnScope ["feed", "menus", "names", "way", "lines", "small", "many", "opened", "k"] ["feed"] (defScope st__law_great) := ⟨rfl, rfl, rfl, by decide +kernel, rfl, by decide +kernel, by decide +kernel⟩
noncomputable abbrev bd__law_great_1 : SM := (mSeq (mDrop (mMt "list" wAppend (mVar 4) (mCons (mCall 3 bx__law_plain (mCons (mVar 0) (mCons (mBin wIx (mVar 1) (mC (.int 0))) (mCons (mBin wIx (mVar 1) (mC (.int 1))) mNil)))) mNil)))
    (mSeq (mDrop (mMt "list" wAppend (mVar 7) (mCons (mBin wIx (mFn wLst (mCons (mC (.str "either")) (mCons (mC (.str "again")) mNil))) (mCall 2 bx__law_take (mCons (mVar 0) (mCons (mC (.int 2)) mNil)))) mNil)))
    (mDrop (mMt "list" wAppend (mVar 4) (mCons (mFn wTup (mCons (mBin wIx (mVar 7) (mUn wNeg (mC (.int 1)))) mNil)) mNil)))))
noncomputable abbrev bd__law_great_2 : SM := (mSeq (mDrop (mMt "list" wAppend (mVar 4) (mCons (mCall 3 bx__law_plain (mCons (mVar 0) (mCons (mBin wIx (mVar 1) (mC (.int 0))) (mCons (mBin wIx (mVar 1) (mC (.int 1))) mNil)))) mNil)))
    (mDrop (mCall 2 bx__law_step_on (mCons (mVar 4) (mCons (mVar 7) mNil)))))
noncomputable def tl__law_great : SM := (mSeq (mIte (mTest (mBin wEq (mVar 3) (mC (.int 0)))) (mSeq (mSet 4 (mComp fNew (miR1 (mCons (mBin wAdd (mC (.int 40)) (mCall 2 bx__law_take (mCons (mVar 0) (mCons (mC (.int 9)) mNil)))) mNil)) [none, some 0, some 1] (gSet 0) mYes (mCall 3 bx__law_plain (mCons (mVar 1) (mCons (mBin wIx (mVar 2) (mC (.int 0))) (mCons (mBin wIx (mVar 2) (mC (.int 1))) mNil))))))
    (mRet (mFn wTup (mCons (mFn wTup (mCons (mBin wIx (mVar 2) (mC (.int 0))) (mCons (mFn wTuple (mCons (mVar 4) mNil)) mNil))) mNil)))) mSkip)
    (mSeq (mIte (mTest (mBin wEq (mVar 3) (mC (.int 1)))) (mSeq (mSet 5 (mCall 6 bx__law_part (mCons (mVar 0) (mCons (mCall 2 bx__law_take (mCons (mVar 0) (mCons (mC (.int 2)) mNil))) (mCons (mVar 1) (mCons (mFn wLst mNil) (mCons (mC (.int 0)) (mCons (mC (.int 0)) mNil))))))))
    (mSeq (mSet 6 (mBin wAdd (mC (.int 20)) (mCall 2 bx__law_take (mCons (mVar 0) (mCons (mC (.int 4)) mNil)))))
    (mRet (mFn wTup (mCons (mFn wTup (mCons (mBin wIx (mVar 2) (mC (.int 0))) (mCons (mFn wTuple (mCons (mComp fLst (miR1 (mCons (mVar 6) mNil)) [none, some 2] (gSet 0) mYes (mFn wTup (mCons (mC (.str "do")) (mCons (mBin wIx (mVar 1) (mC (.int 1))) mNil)))) mNil)) mNil))) (mCons (mFn wTup (mCons (mBin wIx (mVar 2) (mC (.int 1))) (mCons (mVar 5) mNil))) mNil)))))) mSkip)
    (mSeq (mSet 4 (mFn wNew mNil))
    (mSeq (mSet 7 (mFn wNew mNil))
    (mSeq (mFor (miR1 (mCons (mC (.int 6)) mNil)) (gSet 8)
    bd__law_great_1)
    (mSeq (mWhileN (mTest (mBin wGt (mFn wLen (mCons (mVar 7) mNil)) (mC (.int 0)))) bd__law_great_2 1000000)
    (mRet (mFn wTuple (mCons (mBin wAdd (mFn wLst (mCons (mFn wTup (mCons (mBin wIx (mVar 2) (mC (.int 0))) (mCons (mFn wTuple (mCons (mVar 4) mNil)) mNil))) mNil)) (mComp fLst (miVal (mSl (mVar 2) (oSome (mC (.int 1))) oNone)) [none] (gSet 0) mYes (mFn wTup (mCons (mVar 0) (mCons (mFn wTup mNil) mNil))))) mNil)))))))))
noncomputable def sem__law_great : FM := mDef 8
    (mSeq (mSet 1 (mFn wTup (mCons (mCall 2 bx__law_names (mCons (mVar 0) (mCons (mC (.int 5)) mNil))) (mCons (mCall 2 bx__law_names (mCons (mVar 0) (mCons (mC (.int 5)) mNil))) mNil))))
    (mSeq (mSet 2 (mCall 2 bx__law_names (mCons (mVar 0) (mCons (mC (.int 5)) mNil))))
    (mSeq (mSet 3 (mCall 2 bx__law_take (mCons (mVar 0) (mCons (mC (.int 3)) mNil))))
    tl__law_great)))
set_option maxHeartbeats 4000000 in
theorem cal__law_great (d : DefAt K mg "_law_great" st__law_great ["feed"]) (b_len : mg "len" = none) (b_range : mg "range" = none) (b_tuple : mg "tuple" = none) (c__law_names : Cal P w K mg base 2 "_law_names" ["feed", "many"] bx__law_names) (c__law_part : Cal P w K mg base 3 "_law_part" ["feed", "size", "menus", "later", "opens", "dos"] bx__law_part) (c__law_plain : Cal P w K mg base 2 "_law_plain" ["feed", "boxes", "words"] bx__law_plain) (c__law_step_on : Cal P w K mg base 1 "_law_step_on" ["lines", "opened"] bx__law_step_on) (c__law_take : Cal P w K mg base 1 "_law_take" ["feed", "many"] bx__law_take) : Cal P w K mg base 4 "_law_great" ["feed"] sem__law_great := by
  refine cal_mk (k := 3) (more := 8) d sc__law_great rfl fun f cdv A outer s H E hr => ?_
  have hu := hr.units
  refine pms_cons ?_ ?_
  refine pms_set ?_ ?_ ?_ ?_ ?_ ?_
  exact sc__law_great.nd
  exact rfl
  exact (Or.inr rfl)
  refine pm_tup ?_
  refine pma_cons ?_ ?_
  refine pm_callC (k := 2) (ps := ["feed", "many"]) ?_ ?_ ?_ ?_ ?_ ?_ ?_ ?_
  exact c__law_names
  exact hr.mono (by decide)
  exact rfl
  refine pma_cons ?_ ?_
  exact pm_var 0
  refine pma_cons ?_ ?_
  exact pm_int
  exact pma_nil
  exact rfl
  decide
  exact rfl
  exact rfl
  refine pma_cons ?_ ?_
  refine pm_callC (k := 2) (ps := ["feed", "many"]) ?_ ?_ ?_ ?_ ?_ ?_ ?_ ?_
  exact c__law_names
  exact hr.mono (by decide)
  exact rfl
  refine pma_cons ?_ ?_
  exact pm_var 0
  refine pma_cons ?_ ?_
  exact pm_int
  exact pma_nil
  exact rfl
  decide
  exact rfl
  exact rfl
  exact pma_nil
  exact rfl
  first | exact .inl rfl | exact .inr rfl
  refine pms_cons ?_ ?_
  refine pms_set ?_ ?_ ?_ ?_ ?_ ?_
  exact sc__law_great.nd
  exact rfl
  exact (Or.inr rfl)
  refine pm_callC (k := 2) (ps := ["feed", "many"]) ?_ ?_ ?_ ?_ ?_ ?_ ?_ ?_
  exact c__law_names
  exact hr.mono (by decide)
  exact rfl
  refine pma_cons ?_ ?_
  exact pm_var 0
  refine pma_cons ?_ ?_
  exact pm_int
  exact pma_nil
  exact rfl
  decide
  exact rfl
  exact rfl
  exact rfl
  first | exact .inl rfl | exact .inr rfl
  refine pms_cons ?_ ?_
  refine pms_set ?_ ?_ ?_ ?_ ?_ ?_
  exact sc__law_great.nd
  exact rfl
  exact (Or.inl rfl)
  refine pm_callC (k := 1) (ps := ["feed", "many"]) ?_ ?_ ?_ ?_ ?_ ?_ ?_ ?_
  exact c__law_take
  exact hr.mono (by decide)
  exact rfl
  refine pma_cons ?_ ?_
  exact pm_var 0
  refine pma_cons ?_ ?_
  exact pm_int
  exact pma_nil
  exact rfl
  decide
  exact rfl
  exact rfl
  exact rfl
  first | exact .inl rfl | exact .inr rfl
  refine pms_cons ?_ ?_
  refine pms_if ?_ ?_ ?_
  refine pmt_cmp (opr_eq ?_) opM_id ?_ ?_
  exact hu
  exact pm_var 3
  exact pm_int
  refine pms_cons ?_ ?_
  refine pms_setC0 sc__law_great.nd rfl (Or.inl rfl) ?_ fin_new ?_ (blk_mk (ks := ["menus", "feed"]) (Nb := ["k", "feed", "menus"]) (cp := [none, some 0, some 1]) (N := ["feed", "menus", "names", "way", "lines", "small", "many", "opened", "k"]) (xs := (defScope st__law_great)) rfl rfl (by decide +kernel) rfl (by decide +kernel) (by intro p hp; simp only [List.mem_cons, List.not_mem_nil, or_false] at hp; rcases hp with rfl | rfl <;> rfl) rfl rfl rfl (by decide +kernel)) ?_ (fun _ _ _ _ _ => ?_) (fun _ _ _ _ _ => ?_) ?_ ?_
  first | exact .inl rfl | exact .inr rfl
  exact rfl
  refine pmi_r1 ?_ ?_ ?_ ?_
  exact rfl
  exact b_range
  refine pma_cons ?_ ?_
  refine pm_op opr_add opM_id ?_ ?_
  exact pm_int
  refine pm_callC (k := 1) (ps := ["feed", "many"]) ?_ ?_ ?_ ?_ ?_ ?_ ?_ ?_
  exact c__law_take
  exact hr.mono (by decide)
  exact rfl
  refine pma_cons ?_ ?_
  exact pm_var 0
  refine pma_cons ?_ ?_
  exact pm_int
  exact pma_nil
  exact rfl
  decide
  exact rfl
  exact rfl
  exact pma_nil
  exact rfl
  exact pmg_name (i := 0) (x := "k") (show List.Nodup (["k", "feed", "menus"] : List Str) from by decide +kernel) rfl (Or.inl rfl)
  refine pm_callC (k := 2) (ps := ["feed", "boxes", "words"]) ?_ ?_ ?_ ?_ ?_ ?_ ?_ ?_
  exact c__law_plain
  exact hr.mono (by decide)
  exact rfl
  refine pma_cons ?_ ?_
  exact pm_var 1
  refine pma_cons ?_ ?_
  refine pm_ix ?_ ?_
  exact pm_var 2
  exact pm_int
  refine pma_cons ?_ ?_
  refine pm_ix ?_ ?_
  exact pm_var 2
  exact pm_int
  exact pma_nil
  exact rfl
  decide
  exact rfl
  exact rfl
  exact fun _ => rfl
  exact rfl
  refine pms_one ?_
  refine pms_ret ?_
  refine pm_tup ?_
  refine pma_cons ?_ ?_
  refine pm_tup ?_
  refine pma_cons ?_ ?_
  refine pm_ix ?_ ?_
  exact pm_var 2
  exact pm_int
  refine pma_cons ?_ ?_
  refine pm_callTy callr_tuple callM_id ?_ ?_ PyProof.Rows.boot_tuple ?_ ?_ ?_ ?_ ?_
  exact rfl
  exact b_tuple
  refine pma_cons ?_ ?_
  exact pm_var 4
  exact pma_nil
  decide
  decide
  exact rfl
  exact rfl
  exact pma_nil
  exact pma_nil
  exact pms_nil
  refine pms_cons ?_ ?_
  refine pms_if ?_ ?_ ?_
  refine pmt_cmp (opr_eq ?_) opM_id ?_ ?_
  exact hu
  exact pm_var 3
  exact pm_int
  refine pms_cons ?_ ?_
  refine pms_set ?_ ?_ ?_ ?_ ?_ ?_
  exact sc__law_great.nd
  exact rfl
  exact (Or.inl rfl)
  refine pm_callC (k := 3) (ps := ["feed", "size", "menus", "later", "opens", "dos"]) ?_ ?_ ?_ ?_ ?_ ?_ ?_ ?_
  exact c__law_part
  exact hr.mono (by decide)
  exact rfl
  refine pma_cons ?_ ?_
  exact pm_var 0
  refine pma_cons ?_ ?_
  refine pm_callC (k := 1) (ps := ["feed", "many"]) ?_ ?_ ?_ ?_ ?_ ?_ ?_ ?_
  exact c__law_take
  exact hr.mono (by decide)
  exact rfl
  refine pma_cons ?_ ?_
  exact pm_var 0
  refine pma_cons ?_ ?_
  exact pm_int
  exact pma_nil
  exact rfl
  decide
  exact rfl
  exact rfl
  refine pma_cons ?_ ?_
  exact pm_var 1
  refine pma_cons ?_ ?_
  refine pm_lst ?_
  exact pma_nil
  refine pma_cons ?_ ?_
  exact pm_int
  refine pma_cons ?_ ?_
  exact pm_int
  exact pma_nil
  exact rfl
  decide
  exact rfl
  exact rfl
  exact rfl
  first | exact .inl rfl | exact .inr rfl
  refine pms_cons ?_ ?_
  refine pms_set ?_ ?_ ?_ ?_ ?_ ?_
  exact sc__law_great.nd
  exact rfl
  exact (Or.inl rfl)
  refine pm_op opr_add opM_id ?_ ?_
  exact pm_int
  refine pm_callC (k := 1) (ps := ["feed", "many"]) ?_ ?_ ?_ ?_ ?_ ?_ ?_ ?_
  exact c__law_take
  exact hr.mono (by decide)
  exact rfl
  refine pma_cons ?_ ?_
  exact pm_var 0
  refine pma_cons ?_ ?_
  exact pm_int
  exact pma_nil
  exact rfl
  decide
  exact rfl
  exact rfl
  exact rfl
  first | exact .inl rfl | exact .inr rfl
  refine pms_one ?_
  refine pms_ret ?_
  refine pm_tup ?_
  refine pma_cons ?_ ?_
  refine pm_tup ?_
  refine pma_cons ?_ ?_
  refine pm_ix ?_ ?_
  exact pm_var 2
  exact pm_int
  refine pma_cons ?_ ?_
  refine pm_callTy callr_tuple callM_id ?_ ?_ PyProof.Rows.boot_tuple ?_ ?_ ?_ ?_ ?_
  exact rfl
  exact b_tuple
  refine pma_cons ?_ ?_
  refine pm_comp0 fin_lst ?_ (blk_mk (ks := ["names"]) (Nb := ["k", "names"]) (cp := [none, some 2]) (N := ["feed", "menus", "names", "way", "lines", "small", "many", "opened", "k"]) (xs := (defScope st__law_great)) rfl rfl (by decide +kernel) rfl (by decide +kernel) (by intro p hp; simp only [List.mem_cons, List.not_mem_nil, or_false] at hp; rcases hp with rfl <;> rfl) rfl rfl rfl (by decide +kernel)) ?_ (fun _ _ _ _ _ => ?_) (fun _ _ _ _ _ => ?_)
  exact rfl
  refine pmi_r1 ?_ ?_ ?_ ?_
  exact rfl
  exact b_range
  refine pma_cons ?_ ?_
  exact pm_var 6
  exact pma_nil
  exact rfl
  exact pmg_name (i := 0) (x := "k") (show List.Nodup (["k", "names"] : List Str) from by decide +kernel) rfl (Or.inl rfl)
  refine pm_tup ?_
  refine pma_cons ?_ ?_
  exact pm_str
  refine pma_cons ?_ ?_
  refine pm_ix ?_ ?_
  exact pm_var 1
  exact pm_int
  exact pma_nil
  exact pma_nil
  decide
  decide
  exact rfl
  exact rfl
  exact pma_nil
  refine pma_cons ?_ ?_
  refine pm_tup ?_
  refine pma_cons ?_ ?_
  refine pm_ix ?_ ?_
  exact pm_var 2
  exact pm_int
  refine pma_cons ?_ ?_
  exact pm_var 5
  exact pma_nil
  exact pma_nil
  exact pms_nil
  refine pms_cons ?_ ?_
  refine pms_set ?_ ?_ ?_ ?_ ?_ ?_
  exact sc__law_great.nd
  exact rfl
  exact (Or.inl rfl)
  refine pm_new ?_
  exact pma_nil
  exact rfl
  first | exact .inl rfl | exact .inr rfl
  refine pms_cons ?_ ?_
  refine pms_set ?_ ?_ ?_ ?_ ?_ ?_
  exact sc__law_great.nd
  exact rfl
  exact (Or.inl rfl)
  refine pm_new ?_
  exact pma_nil
  exact rfl
  first | exact .inl rfl | exact .inr rfl
  refine pms_cons ?_ ?_
  refine pms_for ?_ ?_ ?_ ?_ ?_ ?_
  exact PassesOwn.never
  exact rfl
  refine pmi_r1 ?_ ?_ ?_ ?_
  exact rfl
  exact b_range
  refine pma_cons ?_ ?_
  exact pm_int
  exact pma_nil
  exact rfl
  exact pmg_name (i := 8) (x := "k") sc__law_great.nd rfl (Or.inl rfl)
  refine pms_cons ?_ ?_
  refine pms_expr ?_
  refine pm_mt PySem.F.plainAttrs_list PySem.F.slot_list_append PySem.F.type_list_append mtm_append ?_ ?_
  exact pm_var 4
  refine pma_cons ?_ ?_
  refine pm_callC (k := 2) (ps := ["feed", "boxes", "words"]) ?_ ?_ ?_ ?_ ?_ ?_ ?_ ?_
  exact c__law_plain
  exact hr.mono (by decide)
  exact rfl
  refine pma_cons ?_ ?_
  exact pm_var 0
  refine pma_cons ?_ ?_
  refine pm_ix ?_ ?_
  exact pm_var 1
  exact pm_int
  refine pma_cons ?_ ?_
  refine pm_ix ?_ ?_
  exact pm_var 1
  exact pm_int
  exact pma_nil
  exact rfl
  decide
  exact rfl
  exact rfl
  exact pma_nil
  refine pms_cons ?_ ?_
  refine pms_expr ?_
  refine pm_mt PySem.F.plainAttrs_list PySem.F.slot_list_append PySem.F.type_list_append mtm_append ?_ ?_
  exact pm_var 7
  refine pma_cons ?_ ?_
  refine pm_ix ?_ ?_
  refine pm_lst ?_
  refine pma_cons ?_ ?_
  exact pm_str
  refine pma_cons ?_ ?_
  exact pm_str
  exact pma_nil
  refine pm_callC (k := 1) (ps := ["feed", "many"]) ?_ ?_ ?_ ?_ ?_ ?_ ?_ ?_
  exact c__law_take
  exact hr.mono (by decide)
  exact rfl
  refine pma_cons ?_ ?_
  exact pm_var 0
  refine pma_cons ?_ ?_
  exact pm_int
  exact pma_nil
  exact rfl
  decide
  exact rfl
  exact rfl
  exact pma_nil
  refine pms_one ?_
  refine pms_expr ?_
  refine pm_mt PySem.F.plainAttrs_list PySem.F.slot_list_append PySem.F.type_list_append mtm_append ?_ ?_
  exact pm_var 4
  refine pma_cons ?_ ?_
  refine pm_tup ?_
  refine pma_cons ?_ ?_
  refine pm_ix ?_ ?_
  exact pm_var 7
  refine pm_neg ?_
  exact pm_int
  exact pma_nil
  exact pma_nil
  exact fun _ => rfl
  refine pms_cons ?_ ?_
  refine pms_while 1000000 ?_ ?_ ?_
  exact PassesOwn.never
  refine pmt_cmp opr_gt opM_id ?_ ?_
  refine pm_callB callr_len callM_id ?_ ?_ PySem.boot_len ?_ ?_ ?_ ?_ ?_
  exact rfl
  exact b_len
  refine pma_cons ?_ ?_
  exact pm_var 7
  exact pma_nil
  decide
  decide
  exact rfl
  exact rfl
  exact pm_int
  refine pms_cons ?_ ?_
  refine pms_expr ?_
  refine pm_mt PySem.F.plainAttrs_list PySem.F.slot_list_append PySem.F.type_list_append mtm_append ?_ ?_
  exact pm_var 4
  refine pma_cons ?_ ?_
  refine pm_callC (k := 2) (ps := ["feed", "boxes", "words"]) ?_ ?_ ?_ ?_ ?_ ?_ ?_ ?_
  exact c__law_plain
  exact hr.mono (by decide)
  exact rfl
  refine pma_cons ?_ ?_
  exact pm_var 0
  refine pma_cons ?_ ?_
  refine pm_ix ?_ ?_
  exact pm_var 1
  exact pm_int
  refine pma_cons ?_ ?_
  refine pm_ix ?_ ?_
  exact pm_var 1
  exact pm_int
  exact pma_nil
  exact rfl
  decide
  exact rfl
  exact rfl
  exact pma_nil
  refine pms_one ?_
  refine pms_expr ?_
  refine pm_callC (k := 1) (ps := ["lines", "opened"]) ?_ ?_ ?_ ?_ ?_ ?_ ?_ ?_
  exact c__law_step_on
  exact hr.mono (by decide)
  exact rfl
  refine pma_cons ?_ ?_
  exact pm_var 4
  refine pma_cons ?_ ?_
  exact pm_var 7
  exact pma_nil
  exact rfl
  decide
  exact rfl
  exact rfl
  refine pms_one ?_
  refine pms_ret ?_
  refine pm_callTy callr_tuple callM_id ?_ ?_ PyProof.Rows.boot_tuple ?_ ?_ ?_ ?_ ?_
  exact rfl
  exact b_tuple
  refine pma_cons ?_ ?_
  refine pm_op opr_add opM_id ?_ ?_
  refine pm_lst ?_
  refine pma_cons ?_ ?_
  refine pm_tup ?_
  refine pma_cons ?_ ?_
  refine pm_ix ?_ ?_
  exact pm_var 2
  exact pm_int
  refine pma_cons ?_ ?_
  refine pm_callTy callr_tuple callM_id ?_ ?_ PyProof.Rows.boot_tuple ?_ ?_ ?_ ?_ ?_
  exact rfl
  exact b_tuple
  refine pma_cons ?_ ?_
  exact pm_var 4
  exact pma_nil
  decide
  decide
  exact rfl
  exact rfl
  exact pma_nil
  exact pma_nil
  refine pm_comp0 fin_lst ?_ (blk_plain (Nb := ["name"]) (cp := [none]) rfl (by decide +kernel) (by decide +kernel) rfl rfl) ?_ (fun _ _ _ _ _ => ?_) (fun _ _ _ _ _ => ?_)
  exact rfl
  refine pmi_val ?_
  refine pm_slice ?_ ?_ ?_
  exact pm_var 2
  refine pmo_some ?_
  exact pm_int
  exact pmo_none
  exact pmg_name (i := 0) (x := "name") (show List.Nodup (["name"] : List Str) from by decide +kernel) rfl (Or.inl rfl)
  refine pm_tup ?_
  refine pma_cons ?_ ?_
  exact pm_var 0
  refine pma_cons ?_ ?_
  refine pm_tup ?_
  exact pma_nil
  exact pma_nil
  exact pma_nil
  decide
  decide
  exact rfl
  exact rfl
noncomputable def bx__law_great : FM := box frN sem__law_great
theorem cbx__law_great (d : DefAt K mg "_law_great" st__law_great ["feed"]) (b_len : mg "len" = none) (b_range : mg "range" = none) (b_tuple : mg "tuple" = none) (c__law_names : Cal P w K mg base 2 "_law_names" ["feed", "many"] bx__law_names) (c__law_part : Cal P w K mg base 3 "_law_part" ["feed", "size", "menus", "later", "opens", "dos"] bx__law_part) (c__law_plain : Cal P w K mg base 2 "_law_plain" ["feed", "boxes", "words"] bx__law_plain) (c__law_step_on : Cal P w K mg base 1 "_law_step_on" ["lines", "opened"] bx__law_step_on) (c__law_take : Cal P w K mg base 1 "_law_take" ["feed", "many"] bx__law_take) : Cal P w K mg base 4 "_law_great" ["feed"] bx__law_great := (cal__law_great d b_len b_range b_tuple c__law_names c__law_part c__law_plain c__law_step_on c__law_take).box frN
noncomputable abbrev st__law_any : Stmt := top 31
theorem sc__law_any : FnScope ["feed", "bounds"] ["feed", "bounds"] (defScope st__law_any) := ⟨rfl, rfl, rfl, by decide +kernel, rfl, by decide +kernel, by decide +kernel⟩
noncomputable def sem__law_any : FM := mDef 0
    (mSeq (mIte (mTest (mBin wEq (mCall 2 bx__law_take (mCons (mVar 0) (mCons (mC (.int 8)) mNil))) (mC (.int 5)))) (mRet (mCall 1 bx__law_great (mCons (mVar 0) mNil))) mSkip)
    (mRet (mCall 2 bx__law_program (mCons (mVar 0) (mCons (mVar 1) mNil)))))
set_option maxHeartbeats 4000000 in
theorem cal__law_any (d : DefAt K mg "_law_any" st__law_any ["feed", "bounds"]) (c__law_great : Cal P w K mg base 4 "_law_great" ["feed"] bx__law_great) (c__law_program : Cal P w K mg base 4 "_law_program" ["feed", "bounds"] bx__law_program) (c__law_take : Cal P w K mg base 1 "_law_take" ["feed", "many"] bx__law_take) : Cal P w K mg base 5 "_law_any" ["feed", "bounds"] sem__law_any := by
  refine cal_mk (k := 4) (more := 0) d sc__law_any rfl fun f cdv A outer s H E hr => ?_
  have hu := hr.units
  refine pms_cons ?_ ?_
  refine pms_if ?_ ?_ ?_
  refine pmt_cmp (opr_eq ?_) opM_id ?_ ?_
  exact hu
  refine pm_callC (k := 1) (ps := ["feed", "many"]) ?_ ?_ ?_ ?_ ?_ ?_ ?_ ?_
  exact c__law_take
  exact hr.mono (by decide)
  exact rfl
  refine pma_cons ?_ ?_
  exact pm_var 0
  refine pma_cons ?_ ?_
  exact pm_int
  exact pma_nil
  exact rfl
  decide
  exact rfl
  exact rfl
  exact pm_int
  refine pms_one ?_
  refine pms_ret ?_
  refine pm_callC (k := 4) (ps := ["feed"]) ?_ ?_ ?_ ?_ ?_ ?_ ?_ ?_
  exact c__law_great
  exact hr.mono (by decide)
  exact rfl
  refine pma_cons ?_ ?_
  exact pm_var 0
  exact pma_nil
  exact rfl
  decide
  exact rfl
  exact rfl
  exact pms_nil
  refine pms_one ?_
  refine pms_ret ?_
  refine pm_callC (k := 4) (ps := ["feed", "bounds"]) ?_ ?_ ?_ ?_ ?_ ?_ ?_ ?_
  exact c__law_program
  exact hr.mono (by decide)
  exact rfl
  refine pma_cons ?_ ?_
  exact pm_var 0
  refine pma_cons ?_ ?_
  exact pm_var 1
  exact pma_nil
  exact rfl
  decide
  exact rfl
  exact rfl
noncomputable def bx__law_any : FM := box frN sem__law_any
theorem cbx__law_any (d : DefAt K mg "_law_any" st__law_any ["feed", "bounds"]) (c__law_great : Cal P w K mg base 4 "_law_great" ["feed"] bx__law_great) (c__law_program : Cal P w K mg base 4 "_law_program" ["feed", "bounds"] bx__law_program) (c__law_take : Cal P w K mg base 1 "_law_take" ["feed", "many"] bx__law_take) : Cal P w K mg base 5 "_law_any" ["feed", "bounds"] bx__law_any := (cal__law_any d c__law_great c__law_program c__law_take).box frN
noncomputable abbrev st__law_feed : Stmt := top 22
theorem sc__law_feed : FnScope ["script", "k", "cell", "digits"] ["script", "k"] (defScope st__law_feed) := ⟨rfl, rfl, rfl, by decide +kernel, rfl, by decide +kernel, by decide +kernel⟩
noncomputable def sem__law_feed : FM := mDef 2
    (mSeq (mSet 2 (mC (.int 0)))
    (mSeq (mIte (mTest (mBin wLt (mVar 1) (mFn wLen (mCons (mVar 0) mNil)))) (mSet 2 (mBin wIx (mVar 0) (mVar 1))) mSkip)
    (mSeq (mSet 3 (mC (.int 0)))
    (mSeq (mIte (mTest (mBin wGe (mVar 2) (mBin wPow (mC (.int 10)) (mC (.int 18))))) (mSet 3 (mBin wSub (mVar 2) (mBin wPow (mC (.int 10)) (mC (.int 18))))) mSkip)
    (mRet (mFn wNew (mCons (mVar 3) (mCons (mBin wAdd (mBin wMod (mBin wMulA (mBin wMod (mVar 2) (mC (.int 2147483647))) (mC (.int 48271))) (mC (.int 2147483647))) (mVar 1)) mNil))))))))
set_option maxHeartbeats 4000000 in
theorem cal__law_feed (d : DefAt K mg "_law_feed" st__law_feed ["script", "k"]) (b_len : mg "len" = none) : Cal P w K mg base 1 "_law_feed" ["script", "k"] sem__law_feed := by
  refine cal_mk (k := 0) (more := 2) d sc__law_feed rfl fun f cdv A outer s H E hr => ?_
  have hu := hr.units
  refine pms_cons ?_ ?_
  refine pms_set ?_ ?_ ?_ ?_ ?_ ?_
  exact sc__law_feed.nd
  exact rfl
  exact (Or.inl rfl)
  exact pm_int
  exact rfl
  first | exact .inl rfl | exact .inr rfl
  refine pms_cons ?_ ?_
  refine pms_if ?_ ?_ ?_
  refine pmt_cmp opr_lt opM_id ?_ ?_
  exact pm_var 1
  refine pm_callB callr_len callM_id ?_ ?_ PySem.boot_len ?_ ?_ ?_ ?_ ?_
  exact rfl
  exact b_len
  refine pma_cons ?_ ?_
  exact pm_var 0
  exact pma_nil
  decide
  decide
  exact rfl
  exact rfl
  refine pms_one ?_
  refine pms_set ?_ ?_ ?_ ?_ ?_ ?_
  exact sc__law_feed.nd
  exact rfl
  exact (Or.inl rfl)
  refine pm_ix ?_ ?_
  exact pm_var 0
  exact pm_var 1
  exact rfl
  first | exact .inl rfl | exact .inr rfl
  exact pms_nil
  refine pms_cons ?_ ?_
  refine pms_set ?_ ?_ ?_ ?_ ?_ ?_
  exact sc__law_feed.nd
  exact rfl
  exact (Or.inl rfl)
  exact pm_int
  exact rfl
  first | exact .inl rfl | exact .inr rfl
  refine pms_cons ?_ ?_
  refine pms_if ?_ ?_ ?_
  refine pmt_cmp opr_ge opM_id ?_ ?_
  exact pm_var 2
  refine pm_op opr_pow opM_id ?_ ?_
  exact pm_int
  exact pm_int
  refine pms_one ?_
  refine pms_set ?_ ?_ ?_ ?_ ?_ ?_
  exact sc__law_feed.nd
  exact rfl
  exact (Or.inl rfl)
  refine pm_op opr_sub opM_id ?_ ?_
  exact pm_var 2
  refine pm_op opr_pow opM_id ?_ ?_
  exact pm_int
  exact pm_int
  exact rfl
  first | exact .inl rfl | exact .inr rfl
  exact pms_nil
  refine pms_one ?_
  refine pms_ret ?_
  refine pm_new ?_
  refine pma_cons ?_ ?_
  exact pm_var 3
  refine pma_cons ?_ ?_
  refine pm_op opr_add opM_id ?_ ?_
  refine pm_op opr_mod opM_id ?_ ?_
  refine pm_op opr_mulA opM_id ?_ ?_
  refine pm_op opr_mod opM_id ?_ ?_
  exact pm_var 2
  exact pm_int
  exact pm_int
  exact pm_int
  exact pm_var 1
  exact pma_nil
noncomputable def bx__law_feed : FM := box frR sem__law_feed
theorem cbx__law_feed (d : DefAt K mg "_law_feed" st__law_feed ["script", "k"]) (b_len : mg "len" = none) : Cal P w K mg base 1 "_law_feed" ["script", "k"] bx__law_feed := (cal__law_feed d b_len).box frR
noncomputable abbrev st__law_dressed : Stmt := top 30
theorem sc__law_dressed : FnScope ["program", "feed", "words", "name", "lines", "parts", "fresh", "line"] ["program", "feed"] (defScope st__law_dressed) := ⟨rfl, rfl, rfl, by decide +kernel, rfl, by decide +kernel, by decide +kernel⟩
noncomputable abbrev bd__law_dressed_1 : SM := (mDrop (mMt "list" wExtend (mVar 2) (mCons (mComp fLst (miVal (mVar 4)) [none] (gSet 0) (mTest (mBin wEq (mBin wIx (mVar 0) (mC (.int 0))) (mC (.str "pair")))) (mBin wIx (mVar 0) (mC (.int 2)))) mNil)))
noncomputable abbrev bd__law_dressed_2 : SM := (mSeq (mIte (mTest (mBin wEq (mCall 2 bx__law_take (mCons (mVar 1) (mCons (mC (.int 4)) mNil))) (mC (.int 0)))) (mDrop (mMt "list" wAppend (mVar 6) (mCons (mFn wTup (mCons (mC (.str "back")) (mCons (mBin wIx (mVar 2) (mCall 2 bx__law_take (mCons (mVar 1) (mCons (mFn wLen (mCons (mVar 2) mNil)) mNil)))) mNil))) mNil))) mSkip)
    (mDrop (mMt "list" wAppend (mVar 6) (mCons (mVar 7) mNil))))
noncomputable abbrev bd__law_dressed_3 : SM := (mSeq (mSet 6 (mFn wNew mNil))
    (mSeq (mFor (miVal (mVar 4)) (gSet 7)
    bd__law_dressed_2)
    (mSeq (mIte (mTest (mBin wEq (mCall 2 bx__law_take (mCons (mVar 1) (mCons (mC (.int 4)) mNil))) (mC (.int 0)))) (mDrop (mMt "list" wAppend (mVar 6) (mCons (mFn wTup (mCons (mC (.str "back")) (mCons (mBin wIx (mVar 2) (mC (.int 0))) mNil))) mNil))) mSkip)
    (mDrop (mMt "list" wAppend (mVar 5) (mCons (mFn wTup (mCons (mVar 3) (mCons (mFn wTuple (mCons (mVar 6) mNil)) mNil))) mNil))))))
noncomputable def sem__law_dressed : FM := mDef 6
    (mSeq (mSet 2 (mFn wNew mNil))
    (mSeq (mFor (miVal (mVar 0)) (gTupN [3, 4])
    bd__law_dressed_1)
    (mSeq (mIte (mtOr (mTest (mBin wEq (mFn wLen (mCons (mVar 2) mNil)) (mC (.int 0)))) (mTest (mBin wEq (mCall 2 bx__law_take (mCons (mVar 1) (mCons (mC (.int 2)) mNil))) (mC (.int 0))))) (mRet (mVar 0)) mSkip)
    (mSeq (mSet 5 (mFn wNew mNil))
    (mSeq (mFor (miVal (mVar 0)) (gTupN [3, 4])
    bd__law_dressed_3)
    (mRet (mFn wTuple (mCons (mVar 5) mNil))))))))
set_option maxHeartbeats 4000000 in
theorem cal__law_dressed (d : DefAt K mg "_law_dressed" st__law_dressed ["program", "feed"]) (b_len : mg "len" = none) (b_tuple : mg "tuple" = none) (c__law_take : Cal P w K mg base 1 "_law_take" ["feed", "many"] bx__law_take) : Cal P w K mg base 2 "_law_dressed" ["program", "feed"] sem__law_dressed := by
  refine cal_mk (k := 1) (more := 6) d sc__law_dressed rfl fun f cdv A outer s H E hr => ?_
  have hu := hr.units
  refine pms_cons ?_ ?_
  refine pms_set ?_ ?_ ?_ ?_ ?_ ?_
  exact sc__law_dressed.nd
  exact rfl
  exact (Or.inl rfl)
  refine pm_new ?_
  exact pma_nil
  exact rfl
  first | exact .inl rfl | exact .inr rfl
  refine pms_cons ?_ ?_
  refine pms_for ?_ ?_ ?_ ?_ ?_ ?_
  exact PassesOwn.never
  exact rfl
  refine pmi_val ?_
  exact pm_var 0
  refine pmg_tupN (is := [3, 4]) ?_ ?_ ?_ ?_
  exact rfl
  refine pgsN_cons (i := 3) (x := "name") sc__law_dressed.nd rfl (Or.inl rfl) ?_ ?_
  refine pgsN_cons (i := 4) (x := "lines") sc__law_dressed.nd rfl (Or.inl rfl) ?_ ?_
  exact pgsN_nil
  first | exact .inl rfl | exact .inr rfl
  first | exact .inl rfl | exact .inr rfl
  exact rfl
  exact rfl
  refine pms_one ?_
  refine pms_expr ?_
  refine pm_mt PySem.F.plainAttrs_list PySem.F.slot_list_extend PySem.F.type_list_extend mtm_extend ?_ ?_
  exact pm_var 2
  refine pma_cons ?_ ?_
  refine pm_comp1 fin_lst ?_ (blk_plain (Nb := ["line"]) (cp := [none]) rfl (by decide +kernel) (by decide +kernel) rfl rfl) ?_ (fun _ _ _ _ _ => ?_) (fun _ _ _ _ _ => ?_) (fun _ _ _ _ _ => ?_)
  exact rfl
  refine pmi_val ?_
  exact pm_var 4
  exact pmg_name (i := 0) (x := "line") (show List.Nodup (["line"] : List Str) from by decide +kernel) rfl (Or.inl rfl)
  refine pmt_cmp (opr_eq ?_) opM_id ?_ ?_
  exact hu
  refine pm_ix ?_ ?_
  exact pm_var 0
  exact pm_int
  exact pm_str
  refine pm_ix ?_ ?_
  exact pm_var 0
  exact pm_int
  exact pma_nil
  exact fun _ => rfl
  refine pms_cons ?_ ?_
  refine pms_if ?_ ?_ ?_
  refine PMW.pt ?_
  refine pmw_or ?_ ?_
  refine pmt_cmp (opr_eq ?_) opM_id ?_ ?_
  exact hu
  refine pm_callB callr_len callM_id ?_ ?_ PySem.boot_len ?_ ?_ ?_ ?_ ?_
  exact rfl
  exact b_len
  refine pma_cons ?_ ?_
  exact pm_var 2
  exact pma_nil
  decide
  decide
  exact rfl
  exact rfl
  exact pm_int
  refine pmw_or1 ?_
  refine pmt_cmp (opr_eq ?_) opM_id ?_ ?_
  exact hu
  refine pm_callC (k := 1) (ps := ["feed", "many"]) ?_ ?_ ?_ ?_ ?_ ?_ ?_ ?_
  exact c__law_take
  exact hr.mono (by decide)
  exact rfl
  refine pma_cons ?_ ?_
  exact pm_var 1
  refine pma_cons ?_ ?_
  exact pm_int
  exact pma_nil
  exact rfl
  decide
  exact rfl
  exact rfl
  exact pm_int
  refine pms_one ?_
  refine pms_ret ?_
  exact pm_var 0
  exact pms_nil
  refine pms_cons ?_ ?_
  refine pms_set ?_ ?_ ?_ ?_ ?_ ?_
  exact sc__law_dressed.nd
  exact rfl
  exact (Or.inl rfl)
  refine pm_new ?_
  exact pma_nil
  exact rfl
  first | exact .inl rfl | exact .inr rfl
  refine pms_cons ?_ ?_
  refine pms_for ?_ ?_ ?_ ?_ ?_ ?_
  exact PassesOwn.never
  exact rfl
  refine pmi_val ?_
  exact pm_var 0
  refine pmg_tupN (is := [3, 4]) ?_ ?_ ?_ ?_
  exact rfl
  refine pgsN_cons (i := 3) (x := "name") sc__law_dressed.nd rfl (Or.inl rfl) ?_ ?_
  refine pgsN_cons (i := 4) (x := "lines") sc__law_dressed.nd rfl (Or.inl rfl) ?_ ?_
  exact pgsN_nil
  first | exact .inl rfl | exact .inr rfl
  first | exact .inl rfl | exact .inr rfl
  exact rfl
  exact rfl
  refine pms_cons ?_ ?_
  refine pms_set ?_ ?_ ?_ ?_ ?_ ?_
  exact sc__law_dressed.nd
  exact rfl
  exact (Or.inl rfl)
  refine pm_new ?_
  exact pma_nil
  exact rfl
  first | exact .inl rfl | exact .inr rfl
  refine pms_cons ?_ ?_
  refine pms_for ?_ ?_ ?_ ?_ ?_ ?_
  exact PassesOwn.never
  exact rfl
  refine pmi_val ?_
  exact pm_var 4
  exact pmg_name (i := 7) (x := "line") sc__law_dressed.nd rfl (Or.inl rfl)
  refine pms_cons ?_ ?_
  refine pms_if ?_ ?_ ?_
  refine pmt_cmp (opr_eq ?_) opM_id ?_ ?_
  exact hu
  refine pm_callC (k := 1) (ps := ["feed", "many"]) ?_ ?_ ?_ ?_ ?_ ?_ ?_ ?_
  exact c__law_take
  exact hr.mono (by decide)
  exact rfl
  refine pma_cons ?_ ?_
  exact pm_var 1
  refine pma_cons ?_ ?_
  exact pm_int
  exact pma_nil
  exact rfl
  decide
  exact rfl
  exact rfl
  exact pm_int
  refine pms_one ?_
  refine pms_expr ?_
  refine pm_mt PySem.F.plainAttrs_list PySem.F.slot_list_append PySem.F.type_list_append mtm_append ?_ ?_
  exact pm_var 6
  refine pma_cons ?_ ?_
  refine pm_tup ?_
  refine pma_cons ?_ ?_
  exact pm_str
  refine pma_cons ?_ ?_
  refine pm_ix ?_ ?_
  exact pm_var 2
  refine pm_callC (k := 1) (ps := ["feed", "many"]) ?_ ?_ ?_ ?_ ?_ ?_ ?_ ?_
  exact c__law_take
  exact hr.mono (by decide)
  exact rfl
  refine pma_cons ?_ ?_
  exact pm_var 1
  refine pma_cons ?_ ?_
  refine pm_callB callr_len callM_id ?_ ?_ PySem.boot_len ?_ ?_ ?_ ?_ ?_
  exact rfl
  exact b_len
  refine pma_cons ?_ ?_
  exact pm_var 2
  exact pma_nil
  decide
  decide
  exact rfl
  exact rfl
  exact pma_nil
  exact rfl
  decide
  exact rfl
  exact rfl
  exact pma_nil
  exact pma_nil
  exact pms_nil
  refine pms_one ?_
  refine pms_expr ?_
  refine pm_mt PySem.F.plainAttrs_list PySem.F.slot_list_append PySem.F.type_list_append mtm_append ?_ ?_
  exact pm_var 6
  refine pma_cons ?_ ?_
  exact pm_var 7
  exact pma_nil
  exact fun _ => rfl
  refine pms_cons ?_ ?_
  refine pms_if ?_ ?_ ?_
  refine pmt_cmp (opr_eq ?_) opM_id ?_ ?_
  exact hu
  refine pm_callC (k := 1) (ps := ["feed", "many"]) ?_ ?_ ?_ ?_ ?_ ?_ ?_ ?_
  exact c__law_take
  exact hr.mono (by decide)
  exact rfl
  refine pma_cons ?_ ?_
  exact pm_var 1
  refine pma_cons ?_ ?_
  exact pm_int
  exact pma_nil
  exact rfl
  decide
  exact rfl
  exact rfl
  exact pm_int
  refine pms_one ?_
  refine pms_expr ?_
  refine pm_mt PySem.F.plainAttrs_list PySem.F.slot_list_append PySem.F.type_list_append mtm_append ?_ ?_
  exact pm_var 6
  refine pma_cons ?_ ?_
  refine pm_tup ?_
  refine pma_cons ?_ ?_
  exact pm_str
  refine pma_cons ?_ ?_
  refine pm_ix ?_ ?_
  exact pm_var 2
  exact pm_int
  exact pma_nil
  exact pma_nil
  exact pms_nil
  refine pms_one ?_
  refine pms_expr ?_
  refine pm_mt PySem.F.plainAttrs_list PySem.F.slot_list_append PySem.F.type_list_append mtm_append ?_ ?_
  exact pm_var 5
  refine pma_cons ?_ ?_
  refine pm_tup ?_
  refine pma_cons ?_ ?_
  exact pm_var 3
  refine pma_cons ?_ ?_
  refine pm_callTy callr_tuple callM_id ?_ ?_ PyProof.Rows.boot_tuple ?_ ?_ ?_ ?_ ?_
  exact rfl
  exact b_tuple
  refine pma_cons ?_ ?_
  exact pm_var 6
  exact pma_nil
  decide
  decide
  exact rfl
  exact rfl
  exact pma_nil
  exact pma_nil
  exact fun _ => rfl
  refine pms_one ?_
  refine pms_ret ?_
  refine pm_callTy callr_tuple callM_id ?_ ?_ PyProof.Rows.boot_tuple ?_ ?_ ?_ ?_ ?_
  exact rfl
  exact b_tuple
  refine pma_cons ?_ ?_
  exact pm_var 5
  exact pma_nil
  decide
  decide
  exact rfl
  exact rfl
noncomputable def bx__law_dressed : FM := box frN sem__law_dressed
theorem cbx__law_dressed (d : DefAt K mg "_law_dressed" st__law_dressed ["program", "feed"]) (b_len : mg "len" = none) (b_tuple : mg "tuple" = none) (c__law_take : Cal P w K mg base 1 "_law_take" ["feed", "many"] bx__law_take) : Cal P w K mg base 2 "_law_dressed" ["program", "feed"] bx__law_dressed := (cal__law_dressed d b_len b_tuple c__law_take).box frN
noncomputable abbrev st__law_choices : Stmt := top 32
theorem sc__law_choices : FnScope ["feed", "many", "way"] ["feed"] (defScope st__law_choices) := ⟨rfl, rfl, rfl, by decide +kernel, rfl, by decide +kernel, by decide +kernel⟩
noncomputable def sem__law_choices : FM := mDef 2
    (mSeq (mSet 1 (mBin wIx (mFn wLst (mCons (mCall 2 bx__law_take (mCons (mVar 0) (mCons (mC (.int 9)) mNil))) (mCons (mCall 2 bx__law_take (mCons (mVar 0) (mCons (mC (.int 41)) mNil))) mNil))) (mBin wDiv (mCall 2 bx__law_take (mCons (mVar 0) (mCons (mC (.int 8)) mNil))) (mC (.int 7)))))
    (mSeq (mSet 2 (mCall 2 bx__law_take (mCons (mVar 0) (mCons (mC (.int 8)) mNil))))
    (mSeq (mIte (mTest (mBin wLt (mVar 2) (mC (.int 2)))) (mRet (mComp fLst (miR1 (mCons (mVar 1) mNil)) [none, some 2] (gSet 0) mYes (mVar 1))) mSkip)
    (mRet (mComp fLst (miR1 (mCons (mVar 1) mNil)) [none, some 0] (gSet 0) mYes (mCall 2 bx__law_take (mCons (mVar 1) (mCons (mC (.int 2)) mNil))))))))
set_option maxHeartbeats 4000000 in
theorem cal__law_choices (d : DefAt K mg "_law_choices" st__law_choices ["feed"]) (b_range : mg "range" = none) (c__law_take : Cal P w K mg base 1 "_law_take" ["feed", "many"] bx__law_take) : Cal P w K mg base 2 "_law_choices" ["feed"] sem__law_choices := by
  refine cal_mk (k := 1) (more := 2) d sc__law_choices rfl fun f cdv A outer s H E hr => ?_
  have hu := hr.units
  refine pms_cons ?_ ?_
  refine pms_set ?_ ?_ ?_ ?_ ?_ ?_
  exact sc__law_choices.nd
  exact rfl
  exact (Or.inl rfl)
  refine pm_ix ?_ ?_
  refine pm_lst ?_
  refine pma_cons ?_ ?_
  refine pm_callC (k := 1) (ps := ["feed", "many"]) ?_ ?_ ?_ ?_ ?_ ?_ ?_ ?_
  exact c__law_take
  exact hr.mono (by decide)
  exact rfl
  refine pma_cons ?_ ?_
  exact pm_var 0
  refine pma_cons ?_ ?_
  exact pm_int
  exact pma_nil
  exact rfl
  decide
  exact rfl
  exact rfl
  refine pma_cons ?_ ?_
  refine pm_callC (k := 1) (ps := ["feed", "many"]) ?_ ?_ ?_ ?_ ?_ ?_ ?_ ?_
  exact c__law_take
  exact hr.mono (by decide)
  exact rfl
  refine pma_cons ?_ ?_
  exact pm_var 0
  refine pma_cons ?_ ?_
  exact pm_int
  exact pma_nil
  exact rfl
  decide
  exact rfl
  exact rfl
  exact pma_nil
  refine pm_op opr_div opM_id ?_ ?_
  refine pm_callC (k := 1) (ps := ["feed", "many"]) ?_ ?_ ?_ ?_ ?_ ?_ ?_ ?_
  exact c__law_take
  exact hr.mono (by decide)
  exact rfl
  refine pma_cons ?_ ?_
  exact pm_var 0
  refine pma_cons ?_ ?_
  exact pm_int
  exact pma_nil
  exact rfl
  decide
  exact rfl
  exact rfl
  exact pm_int
  exact rfl
  first | exact .inl rfl | exact .inr rfl
  refine pms_cons ?_ ?_
  refine pms_set ?_ ?_ ?_ ?_ ?_ ?_
  exact sc__law_choices.nd
  exact rfl
  exact (Or.inr rfl)
  refine pm_callC (k := 1) (ps := ["feed", "many"]) ?_ ?_ ?_ ?_ ?_ ?_ ?_ ?_
  exact c__law_take
  exact hr.mono (by decide)
  exact rfl
  refine pma_cons ?_ ?_
  exact pm_var 0
  refine pma_cons ?_ ?_
  exact pm_int
  exact pma_nil
  exact rfl
  decide
  exact rfl
  exact rfl
  exact rfl
  first | exact .inl rfl | exact .inr rfl
  refine pms_cons ?_ ?_
  refine pms_if ?_ ?_ ?_
  refine pmt_cmp opr_lt opM_id ?_ ?_
  exact pm_var 2
  exact pm_int
  refine pms_one ?_
  refine pms_ret ?_
  refine pm_comp0 fin_lst ?_ (blk_mk (ks := ["way"]) (Nb := ["k", "way"]) (cp := [none, some 2]) (N := ["feed", "many", "way"]) (xs := (defScope st__law_choices)) rfl rfl (by decide +kernel) rfl (by decide +kernel) (by intro p hp; simp only [List.mem_cons, List.not_mem_nil, or_false] at hp; rcases hp with rfl <;> rfl) rfl rfl rfl (by decide +kernel)) ?_ (fun _ _ _ _ _ => ?_) (fun _ _ _ _ _ => ?_)
  exact rfl
  refine pmi_r1 ?_ ?_ ?_ ?_
  exact rfl
  exact b_range
  refine pma_cons ?_ ?_
  exact pm_var 1
  exact pma_nil
  exact rfl
  exact pmg_name (i := 0) (x := "k") (show List.Nodup (["k", "way"] : List Str) from by decide +kernel) rfl (Or.inl rfl)
  exact pm_var 1
  exact pms_nil
  refine pms_one ?_
  refine pms_ret ?_
  refine pm_comp0 fin_lst ?_ (blk_mk (ks := ["feed"]) (Nb := ["k", "feed"]) (cp := [none, some 0]) (N := ["feed", "many", "way"]) (xs := (defScope st__law_choices)) rfl rfl (by decide +kernel) rfl (by decide +kernel) (by intro p hp; simp only [List.mem_cons, List.not_mem_nil, or_false] at hp; rcases hp with rfl <;> rfl) rfl rfl rfl (by decide +kernel)) ?_ (fun _ _ _ _ _ => ?_) (fun _ _ _ _ _ => ?_)
  exact rfl
  refine pmi_r1 ?_ ?_ ?_ ?_
  exact rfl
  exact b_range
  refine pma_cons ?_ ?_
  exact pm_var 1
  exact pma_nil
  exact rfl
  exact pmg_name (i := 0) (x := "k") (show List.Nodup (["k", "feed"] : List Str) from by decide +kernel) rfl (Or.inl rfl)
  refine pm_callC (k := 1) (ps := ["feed", "many"]) ?_ ?_ ?_ ?_ ?_ ?_ ?_ ?_
  exact c__law_take
  exact hr.mono (by decide)
  exact rfl
  refine pma_cons ?_ ?_
  exact pm_var 1
  refine pma_cons ?_ ?_
  exact pm_int
  exact pma_nil
  exact rfl
  decide
  exact rfl
  exact rfl
noncomputable def bx__law_choices : FM := box frN sem__law_choices
theorem cbx__law_choices (d : DefAt K mg "_law_choices" st__law_choices ["feed"]) (b_range : mg "range" = none) (c__law_take : Cal P w K mg base 1 "_law_take" ["feed", "many"] bx__law_take) : Cal P w K mg base 2 "_law_choices" ["feed"] bx__law_choices := (cal__law_choices d b_range c__law_take).box frN
noncomputable abbrev st_part_number : Stmt := top 7
theorem sc_part_number : FnScope ["program", "name"] ["program", "name"] (defScope st_part_number) := ⟨rfl, rfl, rfl, by decide +kernel, rfl, by decide +kernel, by decide +kernel⟩
noncomputable def sem_part_number : FM := mDef 0
    (mRet (mMt "list" wIndex (mComp fLst (miVal (mVar 0)) [none] (gSet 0) mYes (mBin wIx (mVar 0) (mC (.int 0)))) (mCons (mVar 1) mNil)))
set_option maxHeartbeats 4000000 in
theorem cal_part_number (d : DefAt K mg "part_number" st_part_number ["program", "name"]) : Cal P w K mg base 1 "part_number" ["program", "name"] sem_part_number := by
  refine cal_mk (k := 0) (more := 0) d sc_part_number rfl fun f cdv A outer s H E hr => ?_
  have hu := hr.units
  refine pms_one ?_
  refine pms_ret ?_
  refine pm_mt PySem.F.plainAttrs_list PySem.F.slot_list_index PySem.F.type_list_index (mtm_index ?_) ?_ ?_
  exact hu
  refine pm_comp0 fin_lst ?_ (blk_plain (Nb := ["part"]) (cp := [none]) rfl (by decide +kernel) (by decide +kernel) rfl rfl) ?_ (fun _ _ _ _ _ => ?_) (fun _ _ _ _ _ => ?_)
  exact rfl
  refine pmi_val ?_
  exact pm_var 0
  exact pmg_name (i := 0) (x := "part") (show List.Nodup (["part"] : List Str) from by decide +kernel) rfl (Or.inl rfl)
  refine pm_ix ?_ ?_
  exact pm_var 0
  exact pm_int
  refine pma_cons ?_ ?_
  exact pm_var 1
  exact pma_nil
noncomputable def bx_part_number : FM := box frN sem_part_number
theorem cbx_part_number (d : DefAt K mg "part_number" st_part_number ["program", "name"]) : Cal P w K mg base 1 "part_number" ["program", "name"] bx_part_number := (cal_part_number d).box frN
noncomputable abbrev st_flat_lines : Stmt := top 10
theorem sc_flat_lines : FnScope ["program", "part", "lines", "line"] ["program", "part"] (defScope st_flat_lines) := ⟨rfl, rfl, rfl, by decide +kernel, rfl, by decide +kernel, by decide +kernel⟩
noncomputable abbrev bd_flat_lines_1 (rec_ : FM) : SM := (mIte (mTest (mBin wEq (mBin wIx (mVar 3) (mC (.int 0))) (mC (.str "do")))) (mDrop (mMt "list" wExtendA (mVar 2) (mCons (mCall 2 rec_ (mCons (mVar 0) (mCons (mCall 2 bx_part_number (mCons (mVar 0) (mCons (mBin wIx (mVar 3) (mC (.int 1))) mNil))) mNil))) mNil))) (mDrop (mMt "list" wAppend (mVar 2) (mCons (mVar 3) mNil))))
noncomputable def sem_flat_lines (rec_ : FM) : FM := mDef 2
    (mSeq (mSet 2 (mFn wNew mNil))
    (mSeq (mFor (miVal (mBin wIx (mBin wIx (mVar 0) (mVar 1)) (mC (.int 1)))) (gSet 3)
    (bd_flat_lines_1 rec_))
    (mRet (mFn wTuple (mCons (mVar 2) mNil)))))
set_option maxHeartbeats 4000000 in
theorem cal_flat_lines {k : Nat} {rec_ : FM} (hk : 1 ≤ k) (d : DefAt K mg "flat_lines" st_flat_lines ["program", "part"]) (b_tuple : mg "tuple" = none) (c_part_number : Cal P w K mg base 1 "part_number" ["program", "name"] bx_part_number) (c_rec : Cal P w K mg base k "flat_lines" ["program", "part"] rec_) : Cal P w K mg base (k + 1) "flat_lines" ["program", "part"] (sem_flat_lines rec_) := by
  refine cal_mk (k := k) (more := 2) d sc_flat_lines rfl fun f cdv A outer s H E hr => ?_
  have hu := hr.units
  refine pms_cons ?_ ?_
  refine pms_set ?_ ?_ ?_ ?_ ?_ ?_
  exact sc_flat_lines.nd
  exact rfl
  exact (Or.inl rfl)
  refine pm_new ?_
  exact pma_nil
  exact rfl
  first | exact .inl rfl | exact .inr rfl
  refine pms_cons ?_ ?_
  refine pms_for ?_ ?_ ?_ ?_ ?_ ?_
  exact PassesOwn.never
  exact rfl
  refine pmi_val ?_
  refine pm_ix ?_ ?_
  refine pm_ix ?_ ?_
  exact pm_var 0
  exact pm_var 1
  exact pm_int
  exact pmg_name (i := 3) (x := "line") sc_flat_lines.nd rfl (Or.inl rfl)
  refine pms_one ?_
  refine pms_if ?_ ?_ ?_
  refine pmt_cmp (opr_eq ?_) opM_id ?_ ?_
  exact hu
  refine pm_ix ?_ ?_
  exact pm_var 3
  exact pm_int
  exact pm_str
  refine pms_one ?_
  refine pms_expr ?_
  refine pm_mt PySem.F.plainAttrs_list PySem.F.slot_list_extend PySem.F.type_list_extend mtm_extendA ?_ ?_
  exact pm_var 2
  refine pma_cons ?_ ?_
  refine pm_callC (k := k) (ps := ["program", "part"]) ?_ ?_ ?_ ?_ ?_ ?_ ?_ ?_
  exact c_rec
  exact hr.mono (by omega)
  exact rfl
  refine pma_cons ?_ ?_
  exact pm_var 0
  refine pma_cons ?_ ?_
  refine pm_callC (k := 1) (ps := ["program", "name"]) ?_ ?_ ?_ ?_ ?_ ?_ ?_ ?_
  exact c_part_number
  exact hr.mono (by omega)
  exact rfl
  refine pma_cons ?_ ?_
  exact pm_var 0
  refine pma_cons ?_ ?_
  refine pm_ix ?_ ?_
  exact pm_var 3
  exact pm_int
  exact pma_nil
  exact rfl
  decide
  exact rfl
  exact rfl
  exact pma_nil
  exact rfl
  decide
  exact rfl
  exact rfl
  exact pma_nil
  refine pms_one ?_
  refine pms_expr ?_
  refine pm_mt PySem.F.plainAttrs_list PySem.F.slot_list_append PySem.F.type_list_append mtm_append ?_ ?_
  exact pm_var 2
  refine pma_cons ?_ ?_
  exact pm_var 3
  exact pma_nil
  exact fun _ => rfl
  refine pms_one ?_
  refine pms_ret ?_
  refine pm_callTy callr_tuple callM_id ?_ ?_ PyProof.Rows.boot_tuple ?_ ?_ ?_ ?_ ?_
  exact rfl
  exact b_tuple
  refine pma_cons ?_ ?_
  exact pm_var 2
  exact pma_nil
  decide
  decide
  exact rfl
  exact rfl
noncomputable def bxr_flat_lines : Nat → FM
  | 0 => mDef 2 fun _ _ => none
  | n + 1 => box frN (sem_flat_lines (bxr_flat_lines n))
theorem cbr_flat_lines (d : DefAt K mg "flat_lines" st_flat_lines ["program", "part"]) (b_tuple : mg "tuple" = none) (c_part_number : Cal P w K mg base 1 "part_number" ["program", "name"] bx_part_number) : ∀ n, Cal P w K mg base (2 + n) "flat_lines" ["program", "part"] (bxr_flat_lines n)
  | 0 => cal_mk (k := 1) (more := 2) d sc_flat_lines rfl fun _ _ _ _ _ _ _ _ => pmss_none
  | n + 1 => (cal_flat_lines (k := 2 + n) (by omega) d b_tuple c_part_number (cbr_flat_lines d b_tuple c_part_number n)).box frN
noncomputable def bx_flat_lines : FM := bxr_flat_lines 6
theorem cbx_flat_lines (d : DefAt K mg "flat_lines" st_flat_lines ["program", "part"]) (b_tuple : mg "tuple" = none) (c_part_number : Cal P w K mg base 1 "part_number" ["program", "name"] bx_part_number) : Cal P w K mg base 8 "flat_lines" ["program", "part"] bx_flat_lines := cbr_flat_lines d b_tuple c_part_number 6
noncomputable abbrev st_flat : Stmt := top 9
theorem sc_flat : FnScope ["program"] ["program"] (defScope st_flat) := ⟨rfl, rfl, rfl, by decide +kernel, rfl, by decide +kernel, by decide +kernel⟩
noncomputable def sem_flat : FM := mDef 0
    (mRet (mFn wTup (mCons (mFn wTup (mCons (mBin wIx (mBin wIx (mVar 0) (mC (.int 0))) (mC (.int 0))) (mCons (mCall 2 bx_flat_lines (mCons (mVar 0) (mCons (mC (.int 0)) mNil))) mNil))) mNil)))
set_option maxHeartbeats 4000000 in
theorem cal_flat (d : DefAt K mg "flat" st_flat ["program"]) (c_flat_lines : Cal P w K mg base 8 "flat_lines" ["program", "part"] bx_flat_lines) : Cal P w K mg base 9 "flat" ["program"] sem_flat := by
  refine cal_mk (k := 8) (more := 0) d sc_flat rfl fun f cdv A outer s H E hr => ?_
  have hu := hr.units
  refine pms_one ?_
  refine pms_ret ?_
  refine pm_tup ?_
  refine pma_cons ?_ ?_
  refine pm_tup ?_
  refine pma_cons ?_ ?_
  refine pm_ix ?_ ?_
  refine pm_ix ?_ ?_
  exact pm_var 0
  exact pm_int
  exact pm_int
  refine pma_cons ?_ ?_
  refine pm_callC (k := 8) (ps := ["program", "part"]) ?_ ?_ ?_ ?_ ?_ ?_ ?_ ?_
  exact c_flat_lines
  exact hr.mono (by decide)
  exact rfl
  refine pma_cons ?_ ?_
  exact pm_var 0
  refine pma_cons ?_ ?_
  exact pm_int
  exact pma_nil
  exact rfl
  decide
  exact rfl
  exact rfl
  exact pma_nil
  exact pma_nil
noncomputable def bx_flat : FM := box frN sem_flat
theorem cbx_flat (d : DefAt K mg "flat" st_flat ["program"]) (c_flat_lines : Cal P w K mg base 8 "flat_lines" ["program", "part"] bx_flat_lines) : Cal P w K mg base 9 "flat" ["program"] bx_flat := (cal_flat d c_flat_lines).box frN
noncomputable abbrev st_line_of : Stmt := top 13
theorem sc_line_of : FnScope ["program", "spot", "lines"] ["program", "spot"] (defScope st_line_of) := ⟨rfl, rfl, rfl, by decide +kernel, rfl, by decide +kernel, by decide +kernel⟩
noncomputable def sem_line_of : FM := mDef 1
    (mSeq (mSet 2 (mBin wIx (mBin wIx (mVar 0) (mBin wIx (mVar 1) (mC (.int 1)))) (mC (.int 1))))
    (mSeq (mIte (mtOr (mTru (mBin wIx (mVar 1) (mC (.int 3)))) (mTest (mBin wEq (mBin wIx (mVar 1) (mC (.int 2))) (mFn wLen (mCons (mVar 2) mNil))))) (mRet (mC .non)) mSkip)
    (mRet (mBin wIx (mVar 2) (mBin wIx (mVar 1) (mC (.int 2)))))))
set_option maxHeartbeats 4000000 in
theorem cal_line_of (d : DefAt K mg "line_of" st_line_of ["program", "spot"]) (b_len : mg "len" = none) : Cal P w K mg base 1 "line_of" ["program", "spot"] sem_line_of := by
  refine cal_mk (k := 0) (more := 1) d sc_line_of rfl fun f cdv A outer s H E hr => ?_
  have hu := hr.units
  refine pms_cons ?_ ?_
  refine pms_set ?_ ?_ ?_ ?_ ?_ ?_
  exact sc_line_of.nd
  exact rfl
  exact (Or.inl rfl)
  refine pm_ix ?_ ?_
  refine pm_ix ?_ ?_
  exact pm_var 0
  refine pm_ix ?_ ?_
  exact pm_var 1
  exact pm_int
  exact pm_int
  exact rfl
  first | exact .inl rfl | exact .inr rfl
  refine pms_cons ?_ ?_
  refine pms_if ?_ ?_ ?_
  refine PMW.pt ?_
  refine pmw_or ?_ ?_
  refine pmt_tru ?_
  refine pm_ix ?_ ?_
  exact pm_var 1
  exact pm_int
  refine pmw_or1 ?_
  refine pmt_cmp (opr_eq ?_) opM_id ?_ ?_
  exact hu
  refine pm_ix ?_ ?_
  exact pm_var 1
  exact pm_int
  refine pm_callB callr_len callM_id ?_ ?_ PySem.boot_len ?_ ?_ ?_ ?_ ?_
  exact rfl
  exact b_len
  refine pma_cons ?_ ?_
  exact pm_var 2
  exact pma_nil
  decide
  decide
  exact rfl
  exact rfl
  refine pms_one ?_
  refine pms_ret ?_
  exact pm_non
  exact pms_nil
  refine pms_one ?_
  refine pms_ret ?_
  refine pm_ix ?_ ?_
  exact pm_var 2
  refine pm_ix ?_ ?_
  exact pm_var 1
  exact pm_int
noncomputable def bx_line_of : FM := box frN sem_line_of
theorem cbx_line_of (d : DefAt K mg "line_of" st_line_of ["program", "spot"]) (b_len : mg "len" = none) : Cal P w K mg base 1 "line_of" ["program", "spot"] bx_line_of := (cal_line_of d b_len).box frN
noncomputable abbrev st_at_gap : Stmt := top 17
theorem sc_at_gap : FnScope ["spot", "k"] ["spot", "k"] (defScope st_at_gap) := ⟨rfl, rfl, rfl, by decide +kernel, rfl, by decide +kernel, by decide +kernel⟩
noncomputable def sem_at_gap : FM := mDef 0
    (mRet (mFn wTup (mCons (mBin wIx (mVar 0) (mC (.int 0))) (mCons (mBin wIx (mVar 0) (mC (.int 1))) (mCons (mVar 1) (mCons (mC (.bl false)) mNil))))))
set_option maxHeartbeats 4000000 in
theorem cal_at_gap (d : DefAt K mg "at_gap" st_at_gap ["spot", "k"]) : Cal P w K mg base 1 "at_gap" ["spot", "k"] sem_at_gap := by
  refine cal_mk (k := 0) (more := 0) d sc_at_gap rfl fun f cdv A outer s H E hr => ?_
  have hu := hr.units
  refine pms_one ?_
  refine pms_ret ?_
  refine pm_tup ?_
  refine pma_cons ?_ ?_
  refine pm_ix ?_ ?_
  exact pm_var 0
  exact pm_int
  refine pma_cons ?_ ?_
  refine pm_ix ?_ ?_
  exact pm_var 0
  exact pm_int
  refine pma_cons ?_ ?_
  exact pm_var 1
  refine pma_cons ?_ ?_
  exact pm_bl
  exact pma_nil
noncomputable def bx_at_gap : FM := box frN sem_at_gap
theorem cbx_at_gap (d : DefAt K mg "at_gap" st_at_gap ["spot", "k"]) : Cal P w K mg base 1 "at_gap" ["spot", "k"] bx_at_gap := (cal_at_gap d).box frN
noncomputable abbrev st_at_head : Stmt := top 18
theorem sc_at_head : FnScope ["spot", "k"] ["spot", "k"] (defScope st_at_head) := ⟨rfl, rfl, rfl, by decide +kernel, rfl, by decide +kernel, by decide +kernel⟩
noncomputable def sem_at_head : FM := mDef 0
    (mRet (mFn wTup (mCons (mBin wIx (mVar 0) (mC (.int 0))) (mCons (mBin wIx (mVar 0) (mC (.int 1))) (mCons (mVar 1) (mCons (mC (.bl true)) mNil))))))
set_option maxHeartbeats 4000000 in
theorem cal_at_head (d : DefAt K mg "at_head" st_at_head ["spot", "k"]) : Cal P w K mg base 1 "at_head" ["spot", "k"] sem_at_head := by
  refine cal_mk (k := 0) (more := 0) d sc_at_head rfl fun f cdv A outer s H E hr => ?_
  have hu := hr.units
  refine pms_one ?_
  refine pms_ret ?_
  refine pm_tup ?_
  refine pma_cons ?_ ?_
  refine pm_ix ?_ ?_
  exact pm_var 0
  exact pm_int
  refine pma_cons ?_ ?_
  refine pm_ix ?_ ?_
  exact pm_var 0
  exact pm_int
  refine pma_cons ?_ ?_
  exact pm_var 1
  refine pma_cons ?_ ?_
  exact pm_bl
  exact pma_nil
noncomputable def bx_at_head : FM := box frN sem_at_head
theorem cbx_at_head (d : DefAt K mg "at_head" st_at_head ["spot", "k"]) : Cal P w K mg base 1 "at_head" ["spot", "k"] bx_at_head := (cal_at_head d).box frN
noncomputable abbrev st_level_change : Stmt := top 4
theorem sc_level_change : FnScope ["line"] ["line"] (defScope st_level_change) := ⟨rfl, rfl, rfl, by decide +kernel, rfl, by decide +kernel, by decide +kernel⟩
noncomputable def sem_level_change : FM := mDef 0
    (mSeq (mIte (mtOr (mTest (mBin wEq (mBin wIx (mVar 0) (mC (.int 0))) (mC (.str "either")))) (mTest (mBin wEq (mBin wIx (mVar 0) (mC (.int 0))) (mC (.str "again"))))) (mRet (mC (.int 1))) mSkip)
    (mRet (mIf (mTest (mBin wEq (mBin wIx (mVar 0) (mC (.int 0))) (mC (.str "end")))) (mUn wNeg (mC (.int 1))) (mC (.int 0)))))
set_option maxHeartbeats 4000000 in
theorem cal_level_change (d : DefAt K mg "level_change" st_level_change ["line"]) : Cal P w K mg base 1 "level_change" ["line"] sem_level_change := by
  refine cal_mk (k := 0) (more := 0) d sc_level_change rfl fun f cdv A outer s H E hr => ?_
  have hu := hr.units
  refine pms_cons ?_ ?_
  refine pms_if ?_ ?_ ?_
  refine PMW.pt ?_
  refine pmw_or ?_ ?_
  refine pmt_cmp (opr_eq ?_) opM_id ?_ ?_
  exact hu
  refine pm_ix ?_ ?_
  exact pm_var 0
  exact pm_int
  exact pm_str
  refine pmw_or1 ?_
  refine pmt_cmp (opr_eq ?_) opM_id ?_ ?_
  exact hu
  refine pm_ix ?_ ?_
  exact pm_var 0
  exact pm_int
  exact pm_str
  refine pms_one ?_
  refine pms_ret ?_
  exact pm_int
  exact pms_nil
  refine pms_one ?_
  refine pms_ret ?_
  refine pm_if ?_ ?_ ?_
  refine pmt_cmp (opr_eq ?_) opM_id ?_ ?_
  exact hu
  refine pm_ix ?_ ?_
  exact pm_var 0
  exact pm_int
  exact pm_str
  refine pm_neg ?_
  exact pm_int
  exact pm_int
noncomputable def bx_level_change : FM := box frN sem_level_change
theorem cbx_level_change (d : DefAt K mg "level_change" st_level_change ["line"]) : Cal P w K mg base 1 "level_change" ["line"] bx_level_change := (cal_level_change d).box frN
noncomputable abbrev st_head_of : Stmt := top 3
theorem sc_head_of : FnScope ["lines", "k", "level", "j"] ["lines", "k"] (defScope st_head_of) := ⟨rfl, rfl, rfl, by decide +kernel, rfl, by decide +kernel, by decide +kernel⟩
noncomputable abbrev bd_head_of_1 : SM := (mSeq (mAug 2 wAddI (mCall 1 bx_level_change (mCons (mBin wIx (mVar 0) (mVar 3)) mNil)))
    (mIte (mTest (mBin wEq (mVar 2) (mC (.int 1)))) (mRet (mVar 3)) mSkip))
noncomputable def sem_head_of : FM := mDef 2
    (mSeq (mSet 2 (mC (.int 0)))
    (mSeq (mFor (miR3 (mCons (mBin wSub (mVar 1) (mC (.int 1))) (mCons (mUn wNeg (mC (.int 1))) (mCons (mUn wNeg (mC (.int 1))) mNil)))) (gSet 3)
    bd_head_of_1)
    (mRet (mC .non))))
set_option maxHeartbeats 4000000 in
theorem cal_head_of (d : DefAt K mg "head_of" st_head_of ["lines", "k"]) (b_range : mg "range" = none) (c_level_change : Cal P w K mg base 1 "level_change" ["line"] bx_level_change) : Cal P w K mg base 2 "head_of" ["lines", "k"] sem_head_of := by
  refine cal_mk (k := 1) (more := 2) d sc_head_of rfl fun f cdv A outer s H E hr => ?_
  have hu := hr.units
  refine pms_cons ?_ ?_
  refine pms_set ?_ ?_ ?_ ?_ ?_ ?_
  exact sc_head_of.nd
  exact rfl
  exact (Or.inl rfl)
  exact pm_int
  exact rfl
  first | exact .inl rfl | exact .inr rfl
  refine pms_cons ?_ ?_
  refine pms_for ?_ ?_ ?_ ?_ ?_ ?_
  exact PassesOwn.never
  exact rfl
  refine pmi_r3 ?_ ?_ ?_ ?_ ?_
  exact rfl
  exact b_range
  refine pma_cons ?_ ?_
  refine pm_op opr_sub opM_id ?_ ?_
  exact pm_var 1
  exact pm_int
  refine pma_cons ?_ ?_
  refine pm_neg ?_
  exact pm_int
  refine pma_cons ?_ ?_
  refine pm_neg ?_
  exact pm_int
  exact pma_nil
  exact rfl
  exact rfl
  exact pmg_name (i := 3) (x := "j") sc_head_of.nd rfl (Or.inl rfl)
  refine pms_cons ?_ ?_
  refine pms_aug ?_ ?_ ?_ iopr_add opM_id ?_ ?_
  exact sc_head_of.nd
  exact rfl
  exact (Or.inl rfl)
  refine pm_callC (k := 1) (ps := ["line"]) ?_ ?_ ?_ ?_ ?_ ?_ ?_ ?_
  exact c_level_change
  exact hr.mono (by decide)
  exact rfl
  refine pma_cons ?_ ?_
  refine pm_ix ?_ ?_
  exact pm_var 0
  exact pm_var 3
  exact pma_nil
  exact rfl
  decide
  exact rfl
  exact rfl
  first | exact .inl rfl | exact .inr rfl
  refine pms_one ?_
  refine pms_if ?_ ?_ ?_
  refine pmt_cmp (opr_eq ?_) opM_id ?_ ?_
  exact hu
  exact pm_var 2
  exact pm_int
  refine pms_one ?_
  refine pms_ret ?_
  exact pm_var 3
  exact pms_nil
  exact fun _ => rfl
  refine pms_one ?_
  refine pms_ret ?_
  exact pm_non
noncomputable def bx_head_of : FM := box frN sem_head_of
theorem cbx_head_of (d : DefAt K mg "head_of" st_head_of ["lines", "k"]) (b_range : mg "range" = none) (c_level_change : Cal P w K mg base 1 "level_change" ["line"] bx_level_change) : Cal P w K mg base 2 "head_of" ["lines", "k"] bx_head_of := (cal_head_of d b_range c_level_change).box frN
noncomputable abbrev st_found_behind : Stmt := top 5
theorem sc_found_behind : FnScope ["lines", "k", "kind", "level", "j"] ["lines", "k", "kind"] (defScope st_found_behind) := ⟨rfl, rfl, rfl, by decide +kernel, rfl, by decide +kernel, by decide +kernel⟩
noncomputable abbrev bd_found_behind_1 : SM := (mSeq (mIte (mtAnd (mTest (mBin wEq (mVar 3) (mC (.int 0)))) (mTest (mBin wEq (mBin wIx (mBin wIx (mVar 0) (mVar 4)) (mC (.int 0))) (mVar 2)))) (mRet (mVar 4)) mSkip)
    (mAug 3 wAddI (mCall 1 bx_level_change (mCons (mBin wIx (mVar 0) (mVar 4)) mNil))))
noncomputable def sem_found_behind : FM := mDef 2
    (mSeq (mSet 3 (mC (.int 0)))
    (mSeq (mFor (miR2 (mCons (mBin wAdd (mVar 1) (mC (.int 1))) (mCons (mFn wLen (mCons (mVar 0) mNil)) mNil))) (gSet 4)
    bd_found_behind_1)
    (mRet (mC .non))))
set_option maxHeartbeats 4000000 in
theorem cal_found_behind (d : DefAt K mg "found_behind" st_found_behind ["lines", "k", "kind"]) (b_len : mg "len" = none) (b_range : mg "range" = none) (c_level_change : Cal P w K mg base 1 "level_change" ["line"] bx_level_change) : Cal P w K mg base 2 "found_behind" ["lines", "k", "kind"] sem_found_behind := by
  refine cal_mk (k := 1) (more := 2) d sc_found_behind rfl fun f cdv A outer s H E hr => ?_
  have hu := hr.units
  refine pms_cons ?_ ?_
  refine pms_set ?_ ?_ ?_ ?_ ?_ ?_
  exact sc_found_behind.nd
  exact rfl
  exact (Or.inl rfl)
  exact pm_int
  exact rfl
  first | exact .inl rfl | exact .inr rfl
  refine pms_cons ?_ ?_
  refine pms_for ?_ ?_ ?_ ?_ ?_ ?_
  exact PassesOwn.never
  exact rfl
  refine pmi_r2 ?_ ?_ ?_ ?_ ?_
  exact rfl
  exact b_range
  refine pma_cons ?_ ?_
  refine pm_op opr_add opM_id ?_ ?_
  exact pm_var 1
  exact pm_int
  refine pma_cons ?_ ?_
  refine pm_callB callr_len callM_id ?_ ?_ PySem.boot_len ?_ ?_ ?_ ?_ ?_
  exact rfl
  exact b_len
  refine pma_cons ?_ ?_
  exact pm_var 0
  exact pma_nil
  decide
  decide
  exact rfl
  exact rfl
  exact pma_nil
  exact rfl
  exact rfl
  exact pmg_name (i := 4) (x := "j") sc_found_behind.nd rfl (Or.inl rfl)
  refine pms_cons ?_ ?_
  refine pms_if ?_ ?_ ?_
  refine PMW.pt ?_
  refine pmw_and ?_ ?_
  refine pmt_cmp (opr_eq ?_) opM_id ?_ ?_
  exact hu
  exact pm_var 3
  exact pm_int
  refine pmw_and1 ?_
  refine pmt_cmp (opr_eq ?_) opM_id ?_ ?_
  exact hu
  refine pm_ix ?_ ?_
  refine pm_ix ?_ ?_
  exact pm_var 0
  exact pm_var 4
  exact pm_int
  exact pm_var 2
  refine pms_one ?_
  refine pms_ret ?_
  exact pm_var 4
  exact pms_nil
  refine pms_one ?_
  refine pms_aug ?_ ?_ ?_ iopr_add opM_id ?_ ?_
  exact sc_found_behind.nd
  exact rfl
  exact (Or.inl rfl)
  refine pm_callC (k := 1) (ps := ["line"]) ?_ ?_ ?_ ?_ ?_ ?_ ?_ ?_
  exact c_level_change
  exact hr.mono (by decide)
  exact rfl
  refine pma_cons ?_ ?_
  refine pm_ix ?_ ?_
  exact pm_var 0
  exact pm_var 4
  exact pma_nil
  exact rfl
  decide
  exact rfl
  exact rfl
  first | exact .inl rfl | exact .inr rfl
  exact fun _ => rfl
  refine pms_one ?_
  refine pms_ret ?_
  exact pm_non
noncomputable def bx_found_behind : FM := box frN sem_found_behind
theorem cbx_found_behind (d : DefAt K mg "found_behind" st_found_behind ["lines", "k", "kind"]) (b_len : mg "len" = none) (b_range : mg "range" = none) (c_level_change : Cal P w K mg base 1 "level_change" ["line"] bx_level_change) : Cal P w K mg base 2 "found_behind" ["lines", "k", "kind"] bx_found_behind := (cal_found_behind d b_len b_range c_level_change).box frN
noncomputable abbrev st_or_of : Stmt := top 2
theorem sc_or_of : FnScope ["lines", "k"] ["lines", "k"] (defScope st_or_of) := ⟨rfl, rfl, rfl, by decide +kernel, rfl, by decide +kernel, by decide +kernel⟩
noncomputable def sem_or_of : FM := mDef 0
    (mRet (mCall 3 bx_found_behind (mCons (mVar 0) (mCons (mVar 1) (mCons (mC (.str "or")) mNil)))))
set_option maxHeartbeats 4000000 in
theorem cal_or_of (d : DefAt K mg "or_of" st_or_of ["lines", "k"]) (c_found_behind : Cal P w K mg base 2 "found_behind" ["lines", "k", "kind"] bx_found_behind) : Cal P w K mg base 3 "or_of" ["lines", "k"] sem_or_of := by
  refine cal_mk (k := 2) (more := 0) d sc_or_of rfl fun f cdv A outer s H E hr => ?_
  have hu := hr.units
  refine pms_one ?_
  refine pms_ret ?_
  refine pm_callC (k := 2) (ps := ["lines", "k", "kind"]) ?_ ?_ ?_ ?_ ?_ ?_ ?_ ?_
  exact c_found_behind
  exact hr.mono (by decide)
  exact rfl
  refine pma_cons ?_ ?_
  exact pm_var 0
  refine pma_cons ?_ ?_
  exact pm_var 1
  refine pma_cons ?_ ?_
  exact pm_str
  exact pma_nil
  exact rfl
  decide
  exact rfl
  exact rfl
noncomputable def bx_or_of : FM := box frN sem_or_of
theorem cbx_or_of (d : DefAt K mg "or_of" st_or_of ["lines", "k"]) (c_found_behind : Cal P w K mg base 2 "found_behind" ["lines", "k", "kind"] bx_found_behind) : Cal P w K mg base 3 "or_of" ["lines", "k"] bx_or_of := (cal_or_of d c_found_behind).box frN
noncomputable abbrev st_end_of : Stmt := top 1
theorem sc_end_of : FnScope ["lines", "k"] ["lines", "k"] (defScope st_end_of) := ⟨rfl, rfl, rfl, by decide +kernel, rfl, by decide +kernel, by decide +kernel⟩
noncomputable def sem_end_of : FM := mDef 0
    (mRet (mCall 3 bx_found_behind (mCons (mVar 0) (mCons (mVar 1) (mCons (mC (.str "end")) mNil)))))
set_option maxHeartbeats 4000000 in
theorem cal_end_of (d : DefAt K mg "end_of" st_end_of ["lines", "k"]) (c_found_behind : Cal P w K mg base 2 "found_behind" ["lines", "k", "kind"] bx_found_behind) : Cal P w K mg base 3 "end_of" ["lines", "k"] sem_end_of := by
  refine cal_mk (k := 2) (more := 0) d sc_end_of rfl fun f cdv A outer s H E hr => ?_
  have hu := hr.units
  refine pms_one ?_
  refine pms_ret ?_
  refine pm_callC (k := 2) (ps := ["lines", "k", "kind"]) ?_ ?_ ?_ ?_ ?_ ?_ ?_ ?_
  exact c_found_behind
  exact hr.mono (by decide)
  exact rfl
  refine pma_cons ?_ ?_
  exact pm_var 0
  refine pma_cons ?_ ?_
  exact pm_var 1
  refine pma_cons ?_ ?_
  exact pm_str
  exact pma_nil
  exact rfl
  decide
  exact rfl
  exact rfl
noncomputable def bx_end_of : FM := box frN sem_end_of
theorem cbx_end_of (d : DefAt K mg "end_of" st_end_of ["lines", "k"]) (c_found_behind : Cal P w K mg base 2 "found_behind" ["lines", "k", "kind"] bx_found_behind) : Cal P w K mg base 3 "end_of" ["lines", "k"] bx_end_of := (cal_end_of d c_found_behind).box frN
noncomputable abbrev st_next_in_part : Stmt := top 15
theorem sc_next_in_part : FnScope ["lines", "spot", "k", "kind"] ["lines", "spot"] (defScope st_next_in_part) := ⟨rfl, rfl, rfl, by decide +kernel, rfl, by decide +kernel, by decide +kernel⟩
noncomputable def tl_next_in_part : SM := (mSeq (mIte (mTest (mBin wEq (mVar 3) (mC (.str "either")))) (mRet (mFn wLst (mCons (mCall 2 bx_at_gap (mCons (mVar 1) (mCons (mBin wAdd (mVar 2) (mC (.int 1))) mNil))) (mCons (mCall 2 bx_at_gap (mCons (mVar 1) (mCons (mBin wAdd (mCall 2 bx_or_of (mCons (mVar 0) (mCons (mVar 2) mNil))) (mC (.int 1))) mNil))) mNil)))) mSkip)
    (mSeq (mIte (mTest (mBin wEq (mVar 3) (mC (.str "or")))) (mRet (mFn wLst (mCons (mCall 2 bx_at_gap (mCons (mVar 1) (mCons (mBin wAdd (mCall 2 bx_end_of (mCons (mVar 0) (mCons (mVar 2) mNil))) (mC (.int 1))) mNil))) mNil))) mSkip)
    (mSeq (mIte (mTest (mBin wEq (mVar 3) (mC (.str "again")))) (mRet (mFn wLst (mCons (mCall 2 bx_at_head (mCons (mVar 1) (mCons (mVar 2) mNil))) mNil))) mSkip)
    (mSeq (mIte (mtAnd (mTest (mBin wEq (mVar 3) (mC (.str "end")))) (mTest (mBin wEq (mBin wIx (mBin wIx (mVar 0) (mCall 2 bx_head_of (mCons (mVar 0) (mCons (mVar 2) mNil)))) (mC (.int 0))) (mC (.str "again"))))) (mRet (mFn wLst (mCons (mCall 2 bx_at_head (mCons (mVar 1) (mCons (mCall 2 bx_head_of (mCons (mVar 0) (mCons (mVar 2) mNil))) mNil))) mNil))) mSkip)
    (mRet (mFn wLst (mCons (mCall 2 bx_at_gap (mCons (mVar 1) (mCons (mBin wAdd (mVar 2) (mC (.int 1))) mNil))) mNil)))))))
noncomputable def sem_next_in_part : FM := mDef 2
    (mSeq (mSet 2 (mBin wIx (mVar 1) (mC (.int 2))))
    (mSeq (mSet 3 (mBin wIx (mBin wIx (mVar 0) (mVar 2)) (mC (.int 0))))
    tl_next_in_part))
set_option maxHeartbeats 4000000 in
theorem cal_next_in_part (d : DefAt K mg "next_in_part" st_next_in_part ["lines", "spot"]) (c_at_gap : Cal P w K mg base 1 "at_gap" ["spot", "k"] bx_at_gap) (c_at_head : Cal P w K mg base 1 "at_head" ["spot", "k"] bx_at_head) (c_end_of : Cal P w K mg base 3 "end_of" ["lines", "k"] bx_end_of) (c_head_of : Cal P w K mg base 2 "head_of" ["lines", "k"] bx_head_of) (c_or_of : Cal P w K mg base 3 "or_of" ["lines", "k"] bx_or_of) : Cal P w K mg base 4 "next_in_part" ["lines", "spot"] sem_next_in_part := by
  refine cal_mk (k := 3) (more := 2) d sc_next_in_part rfl fun f cdv A outer s H E hr => ?_
  have hu := hr.units
  refine pms_cons ?_ ?_
  refine pms_set ?_ ?_ ?_ ?_ ?_ ?_
  exact sc_next_in_part.nd
  exact rfl
  exact (Or.inl rfl)
  refine pm_ix ?_ ?_
  exact pm_var 1
  exact pm_int
  exact rfl
  first | exact .inl rfl | exact .inr rfl
  refine pms_cons ?_ ?_
  refine pms_set ?_ ?_ ?_ ?_ ?_ ?_
  exact sc_next_in_part.nd
  exact rfl
  exact (Or.inl rfl)
  refine pm_ix ?_ ?_
  refine pm_ix ?_ ?_
  exact pm_var 0
  exact pm_var 2
  exact pm_int
  exact rfl
  first | exact .inl rfl | exact .inr rfl
  refine pms_cons ?_ ?_
  refine pms_if ?_ ?_ ?_
  refine pmt_cmp (opr_eq ?_) opM_id ?_ ?_
  exact hu
  exact pm_var 3
  exact pm_str
  refine pms_one ?_
  refine pms_ret ?_
  refine pm_lst ?_
  refine pma_cons ?_ ?_
  refine pm_callC (k := 1) (ps := ["spot", "k"]) ?_ ?_ ?_ ?_ ?_ ?_ ?_ ?_
  exact c_at_gap
  exact hr.mono (by decide)
  exact rfl
  refine pma_cons ?_ ?_
  exact pm_var 1
  refine pma_cons ?_ ?_
  refine pm_op opr_add opM_id ?_ ?_
  exact pm_var 2
  exact pm_int
  exact pma_nil
  exact rfl
  decide
  exact rfl
  exact rfl
  refine pma_cons ?_ ?_
  refine pm_callC (k := 1) (ps := ["spot", "k"]) ?_ ?_ ?_ ?_ ?_ ?_ ?_ ?_
  exact c_at_gap
  exact hr.mono (by decide)
  exact rfl
  refine pma_cons ?_ ?_
  exact pm_var 1
  refine pma_cons ?_ ?_
  refine pm_op opr_add opM_id ?_ ?_
  refine pm_callC (k := 3) (ps := ["lines", "k"]) ?_ ?_ ?_ ?_ ?_ ?_ ?_ ?_
  exact c_or_of
  exact hr.mono (by decide)
  exact rfl
  refine pma_cons ?_ ?_
  exact pm_var 0
  refine pma_cons ?_ ?_
  exact pm_var 2
  exact pma_nil
  exact rfl
  decide
  exact rfl
  exact rfl
  exact pm_int
  exact pma_nil
  exact rfl
  decide
  exact rfl
  exact rfl
  exact pma_nil
  exact pms_nil
  refine pms_cons ?_ ?_
  refine pms_if ?_ ?_ ?_
  refine pmt_cmp (opr_eq ?_) opM_id ?_ ?_
  exact hu
  exact pm_var 3
  exact pm_str
  refine pms_one ?_
  refine pms_ret ?_
  refine pm_lst ?_
  refine pma_cons ?_ ?_
  refine pm_callC (k := 1) (ps := ["spot", "k"]) ?_ ?_ ?_ ?_ ?_ ?_ ?_ ?_
  exact c_at_gap
  exact hr.mono (by decide)
  exact rfl
  refine pma_cons ?_ ?_
  exact pm_var 1
  refine pma_cons ?_ ?_
  refine pm_op opr_add opM_id ?_ ?_
  refine pm_callC (k := 3) (ps := ["lines", "k"]) ?_ ?_ ?_ ?_ ?_ ?_ ?_ ?_
  exact c_end_of
  exact hr.mono (by decide)
  exact rfl
  refine pma_cons ?_ ?_
  exact pm_var 0
  refine pma_cons ?_ ?_
  exact pm_var 2
  exact pma_nil
  exact rfl
  decide
  exact rfl
  exact rfl
  exact pm_int
  exact pma_nil
  exact rfl
  decide
  exact rfl
  exact rfl
  exact pma_nil
  exact pms_nil
  refine pms_cons ?_ ?_
  refine pms_if ?_ ?_ ?_
  refine pmt_cmp (opr_eq ?_) opM_id ?_ ?_
  exact hu
  exact pm_var 3
  exact pm_str
  refine pms_one ?_
  refine pms_ret ?_
  refine pm_lst ?_
  refine pma_cons ?_ ?_
  refine pm_callC (k := 1) (ps := ["spot", "k"]) ?_ ?_ ?_ ?_ ?_ ?_ ?_ ?_
  exact c_at_head
  exact hr.mono (by decide)
  exact rfl
  refine pma_cons ?_ ?_
  exact pm_var 1
  refine pma_cons ?_ ?_
  exact pm_var 2
  exact pma_nil
  exact rfl
  decide
  exact rfl
  exact rfl
  exact pma_nil
  exact pms_nil
  refine pms_cons ?_ ?_
  refine pms_if ?_ ?_ ?_
  refine PMW.pt ?_
  refine pmw_and ?_ ?_
  refine pmt_cmp (opr_eq ?_) opM_id ?_ ?_
  exact hu
  exact pm_var 3
  exact pm_str
  refine pmw_and1 ?_
  refine pmt_cmp (opr_eq ?_) opM_id ?_ ?_
  exact hu
  refine pm_ix ?_ ?_
  refine pm_ix ?_ ?_
  exact pm_var 0
  refine pm_callC (k := 2) (ps := ["lines", "k"]) ?_ ?_ ?_ ?_ ?_ ?_ ?_ ?_
  exact c_head_of
  exact hr.mono (by decide)
  exact rfl
  refine pma_cons ?_ ?_
  exact pm_var 0
  refine pma_cons ?_ ?_
  exact pm_var 2
  exact pma_nil
  exact rfl
  decide
  exact rfl
  exact rfl
  exact pm_int
  exact pm_str
  refine pms_one ?_
  refine pms_ret ?_
  refine pm_lst ?_
  refine pma_cons ?_ ?_
  refine pm_callC (k := 1) (ps := ["spot", "k"]) ?_ ?_ ?_ ?_ ?_ ?_ ?_ ?_
  exact c_at_head
  exact hr.mono (by decide)
  exact rfl
  refine pma_cons ?_ ?_
  exact pm_var 1
  refine pma_cons ?_ ?_
  refine pm_callC (k := 2) (ps := ["lines", "k"]) ?_ ?_ ?_ ?_ ?_ ?_ ?_ ?_
  exact c_head_of
  exact hr.mono (by decide)
  exact rfl
  refine pma_cons ?_ ?_
  exact pm_var 0
  refine pma_cons ?_ ?_
  exact pm_var 2
  exact pma_nil
  exact rfl
  decide
  exact rfl
  exact rfl
  exact pma_nil
  exact rfl
  decide
  exact rfl
  exact rfl
  exact pma_nil
  exact pms_nil
  refine pms_one ?_
  refine pms_ret ?_
  refine pm_lst ?_
  refine pma_cons ?_ ?_
  refine pm_callC (k := 1) (ps := ["spot", "k"]) ?_ ?_ ?_ ?_ ?_ ?_ ?_ ?_
  exact c_at_gap
  exact hr.mono (by decide)
  exact rfl
  refine pma_cons ?_ ?_
  exact pm_var 1
  refine pma_cons ?_ ?_
  refine pm_op opr_add opM_id ?_ ?_
  exact pm_var 2
  exact pm_int
  exact pma_nil
  exact rfl
  decide
  exact rfl
  exact rfl
  exact pma_nil
noncomputable def bx_next_in_part : FM := box frN sem_next_in_part
theorem cbx_next_in_part (d : DefAt K mg "next_in_part" st_next_in_part ["lines", "spot"]) (c_at_gap : Cal P w K mg base 1 "at_gap" ["spot", "k"] bx_at_gap) (c_at_head : Cal P w K mg base 1 "at_head" ["spot", "k"] bx_at_head) (c_end_of : Cal P w K mg base 3 "end_of" ["lines", "k"] bx_end_of) (c_head_of : Cal P w K mg base 2 "head_of" ["lines", "k"] bx_head_of) (c_or_of : Cal P w K mg base 3 "or_of" ["lines", "k"] bx_or_of) : Cal P w K mg base 4 "next_in_part" ["lines", "spot"] bx_next_in_part := (cal_next_in_part d c_at_gap c_at_head c_end_of c_head_of c_or_of).box frN
noncomputable abbrev st_behind_do : Stmt := top 16
theorem sc_behind_do : FnScope ["spot", "way"] ["spot"] (defScope st_behind_do) := ⟨rfl, rfl, rfl, by decide +kernel, rfl, by decide +kernel, by decide +kernel⟩
noncomputable def sem_behind_do : FM := mDef 1
    (mSeq (mSet 1 (mBin wIx (mVar 0) (mC (.int 0))))
    (mSeq (mIte (mtNot (mTru (mVar 1))) (mRet (mFn wLst mNil)) mSkip)
    (mRet (mFn wLst (mCons (mFn wTup (mCons (mSl (mVar 1) oNone (oSome (mUn wNeg (mC (.int 1))))) (mCons (mBin wIx (mBin wIx (mVar 1) (mUn wNeg (mC (.int 1)))) (mC (.int 0))) (mCons (mBin wAdd (mBin wIx (mBin wIx (mVar 1) (mUn wNeg (mC (.int 1)))) (mC (.int 1))) (mC (.int 1))) (mCons (mC (.bl false)) mNil))))) mNil)))))
set_option maxHeartbeats 4000000 in
theorem cal_behind_do (d : DefAt K mg "behind_do" st_behind_do ["spot"]) : Cal P w K mg base 1 "behind_do" ["spot"] sem_behind_do := by
  refine cal_mk (k := 0) (more := 1) d sc_behind_do rfl fun f cdv A outer s H E hr => ?_
  have hu := hr.units
  refine pms_cons ?_ ?_
  refine pms_set ?_ ?_ ?_ ?_ ?_ ?_
  exact sc_behind_do.nd
  exact rfl
  exact (Or.inl rfl)
  refine pm_ix ?_ ?_
  exact pm_var 0
  exact pm_int
  exact rfl
  first | exact .inl rfl | exact .inr rfl
  refine pms_cons ?_ ?_
  refine pms_if ?_ ?_ ?_
  refine pmt_not ?_
  refine pmt_tru ?_
  exact pm_var 1
  refine pms_one ?_
  refine pms_ret ?_
  refine pm_lst ?_
  exact pma_nil
  exact pms_nil
  refine pms_one ?_
  refine pms_ret ?_
  refine pm_lst ?_
  refine pma_cons ?_ ?_
  refine pm_tup ?_
  refine pma_cons ?_ ?_
  refine pm_slice ?_ ?_ ?_
  exact pm_var 1
  exact pmo_none
  refine pmo_some ?_
  refine pm_neg ?_
  exact pm_int
  refine pma_cons ?_ ?_
  refine pm_ix ?_ ?_
  refine pm_ix ?_ ?_
  exact pm_var 1
  refine pm_neg ?_
  exact pm_int
  exact pm_int
  refine pma_cons ?_ ?_
  refine pm_op opr_add opM_id ?_ ?_
  refine pm_ix ?_ ?_
  refine pm_ix ?_ ?_
  exact pm_var 1
  refine pm_neg ?_
  exact pm_int
  exact pm_int
  exact pm_int
  refine pma_cons ?_ ?_
  exact pm_bl
  exact pma_nil
  exact pma_nil
noncomputable def bx_behind_do : FM := box frN sem_behind_do
theorem cbx_behind_do (d : DefAt K mg "behind_do" st_behind_do ["spot"]) : Cal P w K mg base 1 "behind_do" ["spot"] bx_behind_do := (cal_behind_do d).box frN
noncomputable abbrev st_next_spots : Stmt := top 14
theorem sc_next_spots : FnScope ["program", "spot", "lines", "line", "way"] ["program", "spot"] (defScope st_next_spots) := ⟨rfl, rfl, rfl, by decide +kernel, rfl, by decide +kernel, by decide +kernel⟩
noncomputable def sem_next_spots : FM := mDef 3
    (mSeq (mSet 2 (mBin wIx (mBin wIx (mVar 0) (mBin wIx (mVar 1) (mC (.int 1)))) (mC (.int 1))))
    (mSeq (mIte (mTru (mBin wIx (mVar 1) (mC (.int 3)))) (mRet (mFn wLst (mCons (mCall 2 bx_at_gap (mCons (mVar 1) (mCons (mBin wAdd (mCall 2 bx_end_of (mCons (mVar 2) (mCons (mBin wIx (mVar 1) (mC (.int 2))) mNil))) (mC (.int 1))) mNil))) (mCons (mCall 2 bx_at_gap (mCons (mVar 1) (mCons (mBin wAdd (mBin wIx (mVar 1) (mC (.int 2))) (mC (.int 1))) mNil))) mNil)))) mSkip)
    (mSeq (mSet 3 (mCall 2 bx_line_of (mCons (mVar 0) (mCons (mVar 1) mNil))))
    (mSeq (mIte (mTest (mBin wIs (mVar 3) (mC .non))) (mRet (mCall 1 bx_behind_do (mCons (mVar 1) mNil))) mSkip)
    (mSeq (mIte (mTest (mBin wEq (mBin wIx (mVar 3) (mC (.int 0))) (mC (.str "do")))) (mSeq (mSet 4 (mBin wAdd (mBin wIx (mVar 1) (mC (.int 0))) (mFn wTup (mCons (mFn wTup (mCons (mBin wIx (mVar 1) (mC (.int 1))) (mCons (mBin wIx (mVar 1) (mC (.int 2))) mNil))) mNil))))
    (mRet (mFn wLst (mCons (mFn wTup (mCons (mVar 4) (mCons (mCall 2 bx_part_number (mCons (mVar 0) (mCons (mBin wIx (mVar 3) (mC (.int 1))) mNil))) (mCons (mC (.int 0)) (mCons (mC (.bl false)) mNil))))) mNil)))) mSkip)
    (mRet (mCall 2 bx_next_in_part (mCons (mVar 2) (mCons (mVar 1) mNil)))))))))
set_option maxHeartbeats 4000000 in
theorem cal_next_spots (d : DefAt K mg "next_spots" st_next_spots ["program", "spot"]) (c_at_gap : Cal P w K mg base 1 "at_gap" ["spot", "k"] bx_at_gap) (c_behind_do : Cal P w K mg base 1 "behind_do" ["spot"] bx_behind_do) (c_end_of : Cal P w K mg base 3 "end_of" ["lines", "k"] bx_end_of) (c_line_of : Cal P w K mg base 1 "line_of" ["program", "spot"] bx_line_of) (c_next_in_part : Cal P w K mg base 4 "next_in_part" ["lines", "spot"] bx_next_in_part) (c_part_number : Cal P w K mg base 1 "part_number" ["program", "name"] bx_part_number) : Cal P w K mg base 5 "next_spots" ["program", "spot"] sem_next_spots := by
  refine cal_mk (k := 4) (more := 3) d sc_next_spots rfl fun f cdv A outer s H E hr => ?_
  have hu := hr.units
  refine pms_cons ?_ ?_
  refine pms_set ?_ ?_ ?_ ?_ ?_ ?_
  exact sc_next_spots.nd
  exact rfl
  exact (Or.inl rfl)
  refine pm_ix ?_ ?_
  refine pm_ix ?_ ?_
  exact pm_var 0
  refine pm_ix ?_ ?_
  exact pm_var 1
  exact pm_int
  exact pm_int
  exact rfl
  first | exact .inl rfl | exact .inr rfl
  refine pms_cons ?_ ?_
  refine pms_if ?_ ?_ ?_
  refine pmt_tru ?_
  refine pm_ix ?_ ?_
  exact pm_var 1
  exact pm_int
  refine pms_one ?_
  refine pms_ret ?_
  refine pm_lst ?_
  refine pma_cons ?_ ?_
  refine pm_callC (k := 1) (ps := ["spot", "k"]) ?_ ?_ ?_ ?_ ?_ ?_ ?_ ?_
  exact c_at_gap
  exact hr.mono (by decide)
  exact rfl
  refine pma_cons ?_ ?_
  exact pm_var 1
  refine pma_cons ?_ ?_
  refine pm_op opr_add opM_id ?_ ?_
  refine pm_callC (k := 3) (ps := ["lines", "k"]) ?_ ?_ ?_ ?_ ?_ ?_ ?_ ?_
  exact c_end_of
  exact hr.mono (by decide)
  exact rfl
  refine pma_cons ?_ ?_
  exact pm_var 2
  refine pma_cons ?_ ?_
  refine pm_ix ?_ ?_
  exact pm_var 1
  exact pm_int
  exact pma_nil
  exact rfl
  decide
  exact rfl
  exact rfl
  exact pm_int
  exact pma_nil
  exact rfl
  decide
  exact rfl
  exact rfl
  refine pma_cons ?_ ?_
  refine pm_callC (k := 1) (ps := ["spot", "k"]) ?_ ?_ ?_ ?_ ?_ ?_ ?_ ?_
  exact c_at_gap
  exact hr.mono (by decide)
  exact rfl
  refine pma_cons ?_ ?_
  exact pm_var 1
  refine pma_cons ?_ ?_
  refine pm_op opr_add opM_id ?_ ?_
  refine pm_ix ?_ ?_
  exact pm_var 1
  exact pm_int
  exact pm_int
  exact pma_nil
  exact rfl
  decide
  exact rfl
  exact rfl
  exact pma_nil
  exact pms_nil
  refine pms_cons ?_ ?_
  refine pms_set ?_ ?_ ?_ ?_ ?_ ?_
  exact sc_next_spots.nd
  exact rfl
  exact (Or.inl rfl)
  refine pm_callC (k := 1) (ps := ["program", "spot"]) ?_ ?_ ?_ ?_ ?_ ?_ ?_ ?_
  exact c_line_of
  exact hr.mono (by decide)
  exact rfl
  refine pma_cons ?_ ?_
  exact pm_var 0
  refine pma_cons ?_ ?_
  exact pm_var 1
  exact pma_nil
  exact rfl
  decide
  exact rfl
  exact rfl
  exact rfl
  first | exact .inl rfl | exact .inr rfl
  refine pms_cons ?_ ?_
  refine pms_if ?_ ?_ ?_
  refine pmt_cmp opr_is opM_id ?_ ?_
  exact pm_var 3
  exact pm_non
  refine pms_one ?_
  refine pms_ret ?_
  refine pm_callC (k := 1) (ps := ["spot"]) ?_ ?_ ?_ ?_ ?_ ?_ ?_ ?_
  exact c_behind_do
  exact hr.mono (by decide)
  exact rfl
  refine pma_cons ?_ ?_
  exact pm_var 1
  exact pma_nil
  exact rfl
  decide
  exact rfl
  exact rfl
  exact pms_nil
  refine pms_cons ?_ ?_
  refine pms_if ?_ ?_ ?_
  refine pmt_cmp (opr_eq ?_) opM_id ?_ ?_
  exact hu
  refine pm_ix ?_ ?_
  exact pm_var 3
  exact pm_int
  exact pm_str
  refine pms_cons ?_ ?_
  refine pms_set ?_ ?_ ?_ ?_ ?_ ?_
  exact sc_next_spots.nd
  exact rfl
  exact (Or.inl rfl)
  refine pm_op opr_add opM_id ?_ ?_
  refine pm_ix ?_ ?_
  exact pm_var 1
  exact pm_int
  refine pm_tup ?_
  refine pma_cons ?_ ?_
  refine pm_tup ?_
  refine pma_cons ?_ ?_
  refine pm_ix ?_ ?_
  exact pm_var 1
  exact pm_int
  refine pma_cons ?_ ?_
  refine pm_ix ?_ ?_
  exact pm_var 1
  exact pm_int
  exact pma_nil
  exact pma_nil
  exact rfl
  first | exact .inl rfl | exact .inr rfl
  refine pms_one ?_
  refine pms_ret ?_
  refine pm_lst ?_
  refine pma_cons ?_ ?_
  refine pm_tup ?_
  refine pma_cons ?_ ?_
  exact pm_var 4
  refine pma_cons ?_ ?_
  refine pm_callC (k := 1) (ps := ["program", "name"]) ?_ ?_ ?_ ?_ ?_ ?_ ?_ ?_
  exact c_part_number
  exact hr.mono (by decide)
  exact rfl
  refine pma_cons ?_ ?_
  exact pm_var 0
  refine pma_cons ?_ ?_
  refine pm_ix ?_ ?_
  exact pm_var 3
  exact pm_int
  exact pma_nil
  exact rfl
  decide
  exact rfl
  exact rfl
  refine pma_cons ?_ ?_
  exact pm_int
  refine pma_cons ?_ ?_
  exact pm_bl
  exact pma_nil
  exact pma_nil
  exact pms_nil
  refine pms_one ?_
  refine pms_ret ?_
  refine pm_callC (k := 4) (ps := ["lines", "spot"]) ?_ ?_ ?_ ?_ ?_ ?_ ?_ ?_
  exact c_next_in_part
  exact hr.mono (by decide)
  exact rfl
  refine pma_cons ?_ ?_
  exact pm_var 2
  refine pma_cons ?_ ?_
  exact pm_var 1
  exact pma_nil
  exact rfl
  decide
  exact rfl
  exact rfl
noncomputable def bx_next_spots : FM := box frN sem_next_spots
theorem cbx_next_spots (d : DefAt K mg "next_spots" st_next_spots ["program", "spot"]) (c_at_gap : Cal P w K mg base 1 "at_gap" ["spot", "k"] bx_at_gap) (c_behind_do : Cal P w K mg base 1 "behind_do" ["spot"] bx_behind_do) (c_end_of : Cal P w K mg base 3 "end_of" ["lines", "k"] bx_end_of) (c_line_of : Cal P w K mg base 1 "line_of" ["program", "spot"] bx_line_of) (c_next_in_part : Cal P w K mg base 4 "next_in_part" ["lines", "spot"] bx_next_in_part) (c_part_number : Cal P w K mg base 1 "part_number" ["program", "name"] bx_part_number) : Cal P w K mg base 5 "next_spots" ["program", "spot"] bx_next_spots := (cal_next_spots d c_at_gap c_behind_do c_end_of c_line_of c_next_in_part c_part_number).box frN
noncomputable abbrev st_first_spot : Stmt := top 12
theorem sc_first_spot : FnScope [] [] (defScope st_first_spot) := ⟨rfl, rfl, rfl, by decide +kernel, rfl, by decide +kernel, by decide +kernel⟩
noncomputable def sem_first_spot : FM := mDef 0
    (mRet (mFn wTup (mCons (mFn wTup mNil) (mCons (mC (.int 0)) (mCons (mC (.int 0)) (mCons (mC (.bl false)) mNil))))))
set_option maxHeartbeats 4000000 in
theorem cal_first_spot (d : DefAt K mg "first_spot" st_first_spot []) : Cal P w K mg base 1 "first_spot" [] sem_first_spot := by
  refine cal_mk (k := 0) (more := 0) d sc_first_spot rfl fun f cdv A outer s H E hr => ?_
  have hu := hr.units
  refine pms_one ?_
  refine pms_ret ?_
  refine pm_tup ?_
  refine pma_cons ?_ ?_
  refine pm_tup ?_
  exact pma_nil
  refine pma_cons ?_ ?_
  exact pm_int
  refine pma_cons ?_ ?_
  exact pm_int
  refine pma_cons ?_ ?_
  exact pm_bl
  exact pma_nil
noncomputable def bx_first_spot : FM := box frN sem_first_spot
theorem cbx_first_spot (d : DefAt K mg "first_spot" st_first_spot []) : Cal P w K mg base 1 "first_spot" [] bx_first_spot := (cal_first_spot d).box frN
noncomputable abbrev st_run_by : Stmt := top 20
theorem sc_run_by : FnScope ["program", "choices", "run", "used", "later"] ["program", "choices"] (defScope st_run_by) := ⟨rfl, rfl, rfl, by decide +kernel, rfl, by decide +kernel, by decide +kernel⟩
noncomputable abbrev bd_run_by_1 : SM := (mSeq (mIte (mTest (mBin wEq (mFn wLen (mCons (mVar 4) mNil)) (mC (.int 2)))) (mSeq (mDrop (mMt "list" wAppend (mVar 2) (mCons (mBin wIx (mVar 4) (mBin wIx (mVar 1) (mVar 3))) mNil)))
    (mAug 3 wAddI (mC (.int 1)))) (mDrop (mMt "list" wAppend (mVar 2) (mCons (mBin wIx (mVar 4) (mC (.int 0))) mNil))))
    (mSet 4 (mCall 2 bx_next_spots (mCons (mVar 0) (mCons (mBin wIx (mVar 2) (mUn wNeg (mC (.int 1)))) mNil)))))
noncomputable def sem_run_by : FM := mDef 3
    (mSeq (mSet 2 (mFn wNew (mCons (mCall 0 bx_first_spot mNil) mNil)))
    (mSeq (mSet 3 (mC (.int 0)))
    (mSeq (mSet 4 (mCall 2 bx_next_spots (mCons (mVar 0) (mCons (mBin wIx (mVar 2) (mUn wNeg (mC (.int 1)))) mNil))))
    (mSeq (mWhileN (mtOr (mTest (mBin wEq (mFn wLen (mCons (mVar 4) mNil)) (mC (.int 1)))) (mtAnd (mTest (mBin wEq (mFn wLen (mCons (mVar 4) mNil)) (mC (.int 2)))) (mTest (mBin wLt (mVar 3) (mFn wLen (mCons (mVar 1) mNil)))))) bd_run_by_1 20000000)
    (mRet (mFn wTup (mCons (mVar 2) (mCons (mVar 3) mNil))))))))
set_option maxHeartbeats 4000000 in
theorem cal_run_by (d : DefAt K mg "run_by" st_run_by ["program", "choices"]) (b_len : mg "len" = none) (c_first_spot : Cal P w K mg base 1 "first_spot" [] bx_first_spot) (c_next_spots : Cal P w K mg base 5 "next_spots" ["program", "spot"] bx_next_spots) : Cal P w K mg base 6 "run_by" ["program", "choices"] sem_run_by := by
  refine cal_mk (k := 5) (more := 3) d sc_run_by rfl fun f cdv A outer s H E hr => ?_
  have hu := hr.units
  refine pms_cons ?_ ?_
  refine pms_set ?_ ?_ ?_ ?_ ?_ ?_
  exact sc_run_by.nd
  exact rfl
  exact (Or.inl rfl)
  refine pm_new ?_
  refine pma_cons ?_ ?_
  exact pm_callC0 c_first_spot (hr.mono (by decide)) rfl
  exact pma_nil
  exact rfl
  first | exact .inl rfl | exact .inr rfl
  refine pms_cons ?_ ?_
  refine pms_set ?_ ?_ ?_ ?_ ?_ ?_
  exact sc_run_by.nd
  exact rfl
  exact (Or.inl rfl)
  exact pm_int
  exact rfl
  first | exact .inl rfl | exact .inr rfl
  refine pms_cons ?_ ?_
  refine pms_set ?_ ?_ ?_ ?_ ?_ ?_
  exact sc_run_by.nd
  exact rfl
  exact (Or.inl rfl)
  refine pm_callC (k := 5) (ps := ["program", "spot"]) ?_ ?_ ?_ ?_ ?_ ?_ ?_ ?_
  exact c_next_spots
  exact hr.mono (by decide)
  exact rfl
  refine pma_cons ?_ ?_
  exact pm_var 0
  refine pma_cons ?_ ?_
  refine pm_ix ?_ ?_
  exact pm_var 2
  refine pm_neg ?_
  exact pm_int
  exact pma_nil
  exact rfl
  decide
  exact rfl
  exact rfl
  exact rfl
  first | exact .inl rfl | exact .inr rfl
  refine pms_cons ?_ ?_
  refine pms_while 20000000 ?_ ?_ ?_
  exact PassesOwn.never
  refine PMW.pt ?_
  refine pmw_or ?_ ?_
  refine pmt_cmp (opr_eq ?_) opM_id ?_ ?_
  exact hu
  refine pm_callB callr_len callM_id ?_ ?_ PySem.boot_len ?_ ?_ ?_ ?_ ?_
  exact rfl
  exact b_len
  refine pma_cons ?_ ?_
  exact pm_var 4
  exact pma_nil
  decide
  decide
  exact rfl
  exact rfl
  exact pm_int
  refine pmw_or1 ?_
  refine PMW.pt ?_
  refine pmw_and ?_ ?_
  refine pmt_cmp (opr_eq ?_) opM_id ?_ ?_
  exact hu
  refine pm_callB callr_len callM_id ?_ ?_ PySem.boot_len ?_ ?_ ?_ ?_ ?_
  exact rfl
  exact b_len
  refine pma_cons ?_ ?_
  exact pm_var 4
  exact pma_nil
  decide
  decide
  exact rfl
  exact rfl
  exact pm_int
  refine pmw_and1 ?_
  refine pmt_cmp opr_lt opM_id ?_ ?_
  exact pm_var 3
  refine pm_callB callr_len callM_id ?_ ?_ PySem.boot_len ?_ ?_ ?_ ?_ ?_
  exact rfl
  exact b_len
  refine pma_cons ?_ ?_
  exact pm_var 1
  exact pma_nil
  decide
  decide
  exact rfl
  exact rfl
  refine pms_cons ?_ ?_
  refine pms_if ?_ ?_ ?_
  refine pmt_cmp (opr_eq ?_) opM_id ?_ ?_
  exact hu
  refine pm_callB callr_len callM_id ?_ ?_ PySem.boot_len ?_ ?_ ?_ ?_ ?_
  exact rfl
  exact b_len
  refine pma_cons ?_ ?_
  exact pm_var 4
  exact pma_nil
  decide
  decide
  exact rfl
  exact rfl
  exact pm_int
  refine pms_cons ?_ ?_
  refine pms_expr ?_
  refine pm_mt PySem.F.plainAttrs_list PySem.F.slot_list_append PySem.F.type_list_append mtm_append ?_ ?_
  exact pm_var 2
  refine pma_cons ?_ ?_
  refine pm_ix ?_ ?_
  exact pm_var 4
  refine pm_ix ?_ ?_
  exact pm_var 1
  exact pm_var 3
  exact pma_nil
  refine pms_one ?_
  refine pms_aug ?_ ?_ ?_ iopr_add opM_id ?_ ?_
  exact sc_run_by.nd
  exact rfl
  exact (Or.inl rfl)
  exact pm_int
  first | exact .inl rfl | exact .inr rfl
  refine pms_one ?_
  refine pms_expr ?_
  refine pm_mt PySem.F.plainAttrs_list PySem.F.slot_list_append PySem.F.type_list_append mtm_append ?_ ?_
  exact pm_var 2
  refine pma_cons ?_ ?_
  refine pm_ix ?_ ?_
  exact pm_var 4
  exact pm_int
  exact pma_nil
  refine pms_one ?_
  refine pms_set ?_ ?_ ?_ ?_ ?_ ?_
  exact sc_run_by.nd
  exact rfl
  exact (Or.inl rfl)
  refine pm_callC (k := 5) (ps := ["program", "spot"]) ?_ ?_ ?_ ?_ ?_ ?_ ?_ ?_
  exact c_next_spots
  exact hr.mono (by decide)
  exact rfl
  refine pma_cons ?_ ?_
  exact pm_var 0
  refine pma_cons ?_ ?_
  refine pm_ix ?_ ?_
  exact pm_var 2
  refine pm_neg ?_
  exact pm_int
  exact pma_nil
  exact rfl
  decide
  exact rfl
  exact rfl
  exact rfl
  first | exact .inl rfl | exact .inr rfl
  refine pms_one ?_
  refine pms_ret ?_
  refine pm_tup ?_
  refine pma_cons ?_ ?_
  exact pm_var 2
  refine pma_cons ?_ ?_
  exact pm_var 3
  exact pma_nil
noncomputable def bx_run_by : FM := box frN sem_run_by
theorem cbx_run_by (d : DefAt K mg "run_by" st_run_by ["program", "choices"]) (b_len : mg "len" = none) (c_first_spot : Cal P w K mg base 1 "first_spot" [] bx_first_spot) (c_next_spots : Cal P w K mg base 5 "next_spots" ["program", "spot"] bx_next_spots) : Cal P w K mg base 6 "run_by" ["program", "choices"] bx_run_by := (cal_run_by d b_len c_first_spot c_next_spots).box frN
noncomputable abbrev st__law_lines : Stmt := top 33
theorem sc__law_lines : FnScope ["program", "run", "found", "way", "part", "k", "head", "lines"] ["program", "run"] (defScope st__law_lines) := ⟨rfl, rfl, rfl, by decide +kernel, rfl, by decide +kernel, by decide +kernel⟩
noncomputable abbrev bd__law_lines_1 : SM := (mSeq (mSet 7 (mBin wIx (mBin wIx (mVar 0) (mVar 4)) (mC (.int 1))))
    (mIte (mtAnd (mtNot (mTru (mVar 6))) (mtAnd (mTest (mBin wLt (mVar 5) (mFn wLen (mCons (mVar 7) mNil)))) (mTest (mBin wNe (mBin wIx (mBin wIx (mVar 7) (mVar 5)) (mC (.int 0))) (mC (.str "do")))))) (mDrop (mMt "list" wAppend (mVar 2) (mCons (mBin wIx (mVar 7) (mVar 5)) mNil))) mSkip))
noncomputable def sem__law_lines : FM := mDef 6
    (mSeq (mSet 2 (mFn wNew mNil))
    (mSeq (mFor (miVal (mSl (mVar 1) oNone (oSome (mUn wNeg (mC (.int 1)))))) (gTupN [3, 4, 5, 6])
    bd__law_lines_1)
    (mRet (mVar 2))))
set_option maxHeartbeats 4000000 in
theorem cal__law_lines (d : DefAt K mg "_law_lines" st__law_lines ["program", "run"]) (b_len : mg "len" = none) : Cal P w K mg base 1 "_law_lines" ["program", "run"] sem__law_lines := by
  refine cal_mk (k := 0) (more := 6) d sc__law_lines rfl fun f cdv A outer s H E hr => ?_
  have hu := hr.units
  refine pms_cons ?_ ?_
  refine pms_set ?_ ?_ ?_ ?_ ?_ ?_
  exact sc__law_lines.nd
  exact rfl
  exact (Or.inl rfl)
  refine pm_new ?_
  exact pma_nil
  exact rfl
  first | exact .inl rfl | exact .inr rfl
  refine pms_cons ?_ ?_
  refine pms_for ?_ ?_ ?_ ?_ ?_ ?_
  exact PassesOwn.never
  exact rfl
  refine pmi_val ?_
  refine pm_slice ?_ ?_ ?_
  exact pm_var 1
  exact pmo_none
  refine pmo_some ?_
  refine pm_neg ?_
  exact pm_int
  refine pmg_tupN (is := [3, 4, 5, 6]) ?_ ?_ ?_ ?_
  exact rfl
  refine pgsN_cons (i := 3) (x := "way") sc__law_lines.nd rfl (Or.inl rfl) ?_ ?_
  refine pgsN_cons (i := 4) (x := "part") sc__law_lines.nd rfl (Or.inl rfl) ?_ ?_
  refine pgsN_cons (i := 5) (x := "k") sc__law_lines.nd rfl (Or.inl rfl) ?_ ?_
  refine pgsN_cons (i := 6) (x := "head") sc__law_lines.nd rfl (Or.inl rfl) ?_ ?_
  exact pgsN_nil
  first | exact .inl rfl | exact .inr rfl
  first | exact .inl rfl | exact .inr rfl
  first | exact .inl rfl | exact .inr rfl
  first | exact .inl rfl | exact .inr rfl
  exact rfl
  exact rfl
  refine pms_cons ?_ ?_
  refine pms_set ?_ ?_ ?_ ?_ ?_ ?_
  exact sc__law_lines.nd
  exact rfl
  exact (Or.inl rfl)
  refine pm_ix ?_ ?_
  refine pm_ix ?_ ?_
  exact pm_var 0
  exact pm_var 4
  exact pm_int
  exact rfl
  first | exact .inl rfl | exact .inr rfl
  refine pms_one ?_
  refine pms_if ?_ ?_ ?_
  refine PMW.pt ?_
  refine pmw_and ?_ ?_
  refine pmt_not ?_
  refine pmt_tru ?_
  exact pm_var 6
  refine pmw_and ?_ ?_
  refine pmt_cmp opr_lt opM_id ?_ ?_
  exact pm_var 5
  refine pm_callB callr_len callM_id ?_ ?_ PySem.boot_len ?_ ?_ ?_ ?_ ?_
  exact rfl
  exact b_len
  refine pma_cons ?_ ?_
  exact pm_var 7
  exact pma_nil
  decide
  decide
  exact rfl
  exact rfl
  refine pmw_and1 ?_
  refine pmt_cmp (opr_ne ?_) opM_id ?_ ?_
  exact hu
  refine pm_ix ?_ ?_
  refine pm_ix ?_ ?_
  exact pm_var 7
  exact pm_var 5
  exact pm_int
  exact pm_str
  refine pms_one ?_
  refine pms_expr ?_
  refine pm_mt PySem.F.plainAttrs_list PySem.F.slot_list_append PySem.F.type_list_append mtm_append ?_ ?_
  exact pm_var 2
  refine pma_cons ?_ ?_
  refine pm_ix ?_ ?_
  exact pm_var 7
  exact pm_var 5
  exact pma_nil
  exact pms_nil
  exact fun _ => rfl
  refine pms_one ?_
  refine pms_ret ?_
  exact pm_var 2
noncomputable def bx__law_lines : FM := box frN sem__law_lines
theorem cbx__law_lines (d : DefAt K mg "_law_lines" st__law_lines ["program", "run"]) (b_len : mg "len" = none) : Cal P w K mg base 1 "_law_lines" ["program", "run"] bx__law_lines := (cal__law_lines d b_len).box frN
noncomputable abbrev st_law : Stmt := top 34
theorem sc_law : FnScope ["script", "k", "program", "feed", "choices", "plain", "run", "used", "other", "gone"] ["script"] (defScope st_law) := ⟨rfl, rfl, rfl, by decide +kernel, rfl, by decide +kernel, by decide +kernel⟩
noncomputable abbrev bd_law_1 : SM := (mSeq (mSet 2 (mCall 2 bx__law_any (mCons (mCall 2 bx__law_feed (mCons (mVar 0) (mCons (mVar 1) mNil))) (mCons (mFn wLst (mCons (mC (.int 3)) (mCons (mC (.int 3)) (mCons (mC (.int 5)) (mCons (mC (.int 8)) mNil))))) mNil))))
    (mSeq (mSet 3 (mCall 2 bx__law_feed (mCons (mVar 0) (mCons (mBin wAdd (mVar 1) (mC (.int 1))) mNil))))
    (mSeq (mSet 2 (mCall 2 bx__law_dressed (mCons (mVar 2) (mCons (mVar 3) mNil))))
    (mSeq (mSet 4 (mCall 1 bx__law_choices (mCons (mVar 3) mNil)))
    (mSeq (mSet 5 (mCall 1 bx_flat (mCons (mVar 2) mNil)))
    (mSeq (mAsg (gTupN [6, 7]) (mCall 2 bx_run_by (mCons (mVar 2) (mCons (mVar 4) mNil))))
    (mSeq (mAsg (gTupN [8, 9]) (mCall 2 bx_run_by (mCons (mVar 5) (mCons (mVar 4) mNil))))
    (mSeq (mIte (mtOr (mTest (mBin wNe (mVar 7) (mVar 9))) (mTest (mBin wNe (mCall 2 bx__law_lines (mCons (mVar 2) (mCons (mVar 6) mNil))) (mCall 2 bx__law_lines (mCons (mVar 5) (mCons (mVar 8) mNil)))))) (mRet (mC (.bl false))) mSkip)
    (mIte (mTest (mBin (wIn false) (mC (.bl false)) (mComp fLst (miVal (mVar 8)) [none] (gSet 0) mYes (mAnd (mBin wEq (mFn wLen (mCons (mBin wIx (mVar 0) (mC (.int 0))) mNil)) (mC (.int 0))) (mBin wEq (mBin wIx (mVar 0) (mC (.int 1))) (mC (.int 0))))))) (mRet (mC (.bl false))) mSkip)))))))))
noncomputable def sem_law : FM := mDef 9
    (mSeq (mFor (miR3 (mCons (mC (.int 0)) (mCons (mFn wMax (mCons (mC (.int 2)) (mCons (mFn wMin (mCons (mC (.int 8)) (mCons (mFn wLen (mCons (mVar 0) mNil)) mNil))) mNil))) (mCons (mC (.int 2)) mNil)))) (gSet 1)
    bd_law_1)
    (mRet (mC (.bl true))))
set_option maxHeartbeats 4000000 in
theorem cal_law (d : DefAt K mg "law" st_law ["script"]) (b_len : mg "len" = none) (b_max : mg "max" = none) (b_min : mg "min" = none) (b_range : mg "range" = none) (c__law_any : Cal P w K mg base 5 "_law_any" ["feed", "bounds"] bx__law_any) (c__law_choices : Cal P w K mg base 2 "_law_choices" ["feed"] bx__law_choices) (c__law_dressed : Cal P w K mg base 2 "_law_dressed" ["program", "feed"] bx__law_dressed) (c__law_feed : Cal P w K mg base 1 "_law_feed" ["script", "k"] bx__law_feed) (c__law_lines : Cal P w K mg base 1 "_law_lines" ["program", "run"] bx__law_lines) (c_flat : Cal P w K mg base 9 "flat" ["program"] bx_flat) (c_run_by : Cal P w K mg base 6 "run_by" ["program", "choices"] bx_run_by) : Cal P w K mg base 10 "law" ["script"] sem_law := by
  refine cal_mk (k := 9) (more := 9) d sc_law rfl fun f cdv A outer s H E hr => ?_
  have hu := hr.units
  refine pms_cons ?_ ?_
  refine pms_for ?_ ?_ ?_ ?_ ?_ ?_
  exact PassesOwn.never
  exact rfl
  refine pmi_r3 ?_ ?_ ?_ ?_ ?_
  exact rfl
  exact b_range
  refine pma_cons ?_ ?_
  exact pm_int
  refine pma_cons ?_ ?_
  refine pm_callB (callr_max ?_) callM_id ?_ ?_ PyProof.Rows.boot_max ?_ ?_ ?_ ?_ ?_
  exact rfl
  exact rfl
  exact b_max
  refine pma_cons ?_ ?_
  exact pm_int
  refine pma_cons ?_ ?_
  refine pm_callB (callr_min ?_) callM_id ?_ ?_ PyProof.Rows.boot_min ?_ ?_ ?_ ?_ ?_
  exact rfl
  exact rfl
  exact b_min
  refine pma_cons ?_ ?_
  exact pm_int
  refine pma_cons ?_ ?_
  refine pm_callB callr_len callM_id ?_ ?_ PySem.boot_len ?_ ?_ ?_ ?_ ?_
  exact rfl
  exact b_len
  refine pma_cons ?_ ?_
  exact pm_var 0
  exact pma_nil
  decide
  decide
  exact rfl
  exact rfl
  exact pma_nil
  decide
  decide
  exact rfl
  exact rfl
  exact pma_nil
  decide
  decide
  exact rfl
  exact rfl
  refine pma_cons ?_ ?_
  exact pm_int
  exact pma_nil
  exact rfl
  exact rfl
  exact pmg_name (i := 1) (x := "k") sc_law.nd rfl (Or.inl rfl)
  refine pms_cons ?_ ?_
  refine pms_set ?_ ?_ ?_ ?_ ?_ ?_
  exact sc_law.nd
  exact rfl
  exact (Or.inl rfl)
  refine pm_callC (k := 5) (ps := ["feed", "bounds"]) ?_ ?_ ?_ ?_ ?_ ?_ ?_ ?_
  exact c__law_any
  exact hr.mono (by decide)
  exact rfl
  refine pma_cons ?_ ?_
  refine pm_callC (k := 1) (ps := ["script", "k"]) ?_ ?_ ?_ ?_ ?_ ?_ ?_ ?_
  exact c__law_feed
  exact hr.mono (by decide)
  exact rfl
  refine pma_cons ?_ ?_
  exact pm_var 0
  refine pma_cons ?_ ?_
  exact pm_var 1
  exact pma_nil
  exact rfl
  decide
  exact rfl
  exact rfl
  refine pma_cons ?_ ?_
  refine pm_lst ?_
  refine pma_cons ?_ ?_
  exact pm_int
  refine pma_cons ?_ ?_
  exact pm_int
  refine pma_cons ?_ ?_
  exact pm_int
  refine pma_cons ?_ ?_
  exact pm_int
  exact pma_nil
  exact pma_nil
  exact rfl
  decide
  exact rfl
  exact rfl
  exact rfl
  first | exact .inl rfl | exact .inr rfl
  refine pms_cons ?_ ?_
  refine pms_set ?_ ?_ ?_ ?_ ?_ ?_
  exact sc_law.nd
  exact rfl
  exact (Or.inl rfl)
  refine pm_callC (k := 1) (ps := ["script", "k"]) ?_ ?_ ?_ ?_ ?_ ?_ ?_ ?_
  exact c__law_feed
  exact hr.mono (by decide)
  exact rfl
  refine pma_cons ?_ ?_
  exact pm_var 0
  refine pma_cons ?_ ?_
  refine pm_op opr_add opM_id ?_ ?_
  exact pm_var 1
  exact pm_int
  exact pma_nil
  exact rfl
  decide
  exact rfl
  exact rfl
  exact rfl
  first | exact .inl rfl | exact .inr rfl
  refine pms_cons ?_ ?_
  refine pms_set ?_ ?_ ?_ ?_ ?_ ?_
  exact sc_law.nd
  exact rfl
  exact (Or.inl rfl)
  refine pm_callC (k := 2) (ps := ["program", "feed"]) ?_ ?_ ?_ ?_ ?_ ?_ ?_ ?_
  exact c__law_dressed
  exact hr.mono (by decide)
  exact rfl
  refine pma_cons ?_ ?_
  exact pm_var 2
  refine pma_cons ?_ ?_
  exact pm_var 3
  exact pma_nil
  exact rfl
  decide
  exact rfl
  exact rfl
  exact rfl
  first | exact .inl rfl | exact .inr rfl
  refine pms_cons ?_ ?_
  refine pms_set ?_ ?_ ?_ ?_ ?_ ?_
  exact sc_law.nd
  exact rfl
  exact (Or.inl rfl)
  refine pm_callC (k := 2) (ps := ["feed"]) ?_ ?_ ?_ ?_ ?_ ?_ ?_ ?_
  exact c__law_choices
  exact hr.mono (by decide)
  exact rfl
  refine pma_cons ?_ ?_
  exact pm_var 3
  exact pma_nil
  exact rfl
  decide
  exact rfl
  exact rfl
  exact rfl
  first | exact .inl rfl | exact .inr rfl
  refine pms_cons ?_ ?_
  refine pms_set ?_ ?_ ?_ ?_ ?_ ?_
  exact sc_law.nd
  exact rfl
  exact (Or.inl rfl)
  refine pm_callC (k := 9) (ps := ["program"]) ?_ ?_ ?_ ?_ ?_ ?_ ?_ ?_
  exact c_flat
  exact hr.mono (by decide)
  exact rfl
  refine pma_cons ?_ ?_
  exact pm_var 2
  exact pma_nil
  exact rfl
  decide
  exact rfl
  exact rfl
  exact rfl
  first | exact .inl rfl | exact .inr rfl
  refine pms_cons ?_ ?_
  refine pms_asg ?_ ?_ ?_ ?_ ?_
  refine pm_callC (k := 6) (ps := ["program", "choices"]) ?_ ?_ ?_ ?_ ?_ ?_ ?_ ?_
  exact c_run_by
  exact hr.mono (by decide)
  exact rfl
  refine pma_cons ?_ ?_
  exact pm_var 2
  refine pma_cons ?_ ?_
  exact pm_var 4
  exact pma_nil
  exact rfl
  decide
  exact rfl
  exact rfl
  refine pmg_tupN (is := [6, 7]) ?_ ?_ ?_ ?_
  exact rfl
  refine pgsN_cons (i := 6) (x := "run") sc_law.nd rfl (Or.inl rfl) ?_ ?_
  refine pgsN_cons (i := 7) (x := "used") sc_law.nd rfl (Or.inl rfl) ?_ ?_
  exact pgsN_nil
  first | exact .inl rfl | exact .inr rfl
  first | exact .inl rfl | exact .inr rfl
  exact rfl
  exact rfl
  exact rfl
  exact rfl
  exact rfl
  refine pms_cons ?_ ?_
  refine pms_asg ?_ ?_ ?_ ?_ ?_
  refine pm_callC (k := 6) (ps := ["program", "choices"]) ?_ ?_ ?_ ?_ ?_ ?_ ?_ ?_
  exact c_run_by
  exact hr.mono (by decide)
  exact rfl
  refine pma_cons ?_ ?_
  exact pm_var 5
  refine pma_cons ?_ ?_
  exact pm_var 4
  exact pma_nil
  exact rfl
  decide
  exact rfl
  exact rfl
  refine pmg_tupN (is := [8, 9]) ?_ ?_ ?_ ?_
  exact rfl
  refine pgsN_cons (i := 8) (x := "other") sc_law.nd rfl (Or.inl rfl) ?_ ?_
  refine pgsN_cons (i := 9) (x := "gone") sc_law.nd rfl (Or.inl rfl) ?_ ?_
  exact pgsN_nil
  first | exact .inl rfl | exact .inr rfl
  first | exact .inl rfl | exact .inr rfl
  exact rfl
  exact rfl
  exact rfl
  exact rfl
  exact rfl
  refine pms_cons ?_ ?_
  refine pms_if ?_ ?_ ?_
  refine PMW.pt ?_
  refine pmw_or ?_ ?_
  refine pmt_cmp (opr_ne ?_) opM_id ?_ ?_
  exact hu
  exact pm_var 7
  exact pm_var 9
  refine pmw_or1 ?_
  refine pmt_cmp (opr_ne ?_) opM_id ?_ ?_
  exact hu
  refine pm_callC (k := 1) (ps := ["program", "run"]) ?_ ?_ ?_ ?_ ?_ ?_ ?_ ?_
  exact c__law_lines
  exact hr.mono (by decide)
  exact rfl
  refine pma_cons ?_ ?_
  exact pm_var 2
  refine pma_cons ?_ ?_
  exact pm_var 6
  exact pma_nil
  exact rfl
  decide
  exact rfl
  exact rfl
  refine pm_callC (k := 1) (ps := ["program", "run"]) ?_ ?_ ?_ ?_ ?_ ?_ ?_ ?_
  exact c__law_lines
  exact hr.mono (by decide)
  exact rfl
  refine pma_cons ?_ ?_
  exact pm_var 5
  refine pma_cons ?_ ?_
  exact pm_var 8
  exact pma_nil
  exact rfl
  decide
  exact rfl
  exact rfl
  refine pms_one ?_
  refine pms_ret ?_
  exact pm_bl
  exact pms_nil
  refine pms_one ?_
  refine pms_if ?_ ?_ ?_
  refine pmt_cmp (opr_in ?_) opM_id ?_ ?_
  exact hu
  exact pm_bl
  refine pm_comp0 fin_lst ?_ (blk_plain (Nb := ["spot"]) (cp := [none]) rfl (by decide +kernel) (by decide +kernel) rfl rfl) ?_ (fun _ _ _ _ _ => ?_) (fun _ _ _ _ _ => ?_)
  exact rfl
  refine pmi_val ?_
  exact pm_var 8
  exact pmg_name (i := 0) (x := "spot") (show List.Nodup (["spot"] : List Str) from by decide +kernel) rfl (Or.inl rfl)
  refine pm_and ?_ ?_
  refine pm_cmp (opr_eq ?_) opM_id ?_ ?_
  exact hu
  refine pm_callB callr_len callM_id ?_ ?_ PySem.boot_len ?_ ?_ ?_ ?_ ?_
  exact rfl
  exact b_len
  refine pma_cons ?_ ?_
  refine pm_ix ?_ ?_
  exact pm_var 0
  exact pm_int
  exact pma_nil
  decide
  decide
  exact rfl
  exact rfl
  exact pm_int
  refine pm_one ?_
  refine pm_cmp (opr_eq ?_) opM_id ?_ ?_
  exact hu
  refine pm_ix ?_ ?_
  exact pm_var 0
  exact pm_int
  exact pm_int
  refine pms_one ?_
  refine pms_ret ?_
  exact pm_bl
  exact pms_nil
  exact fun _ => rfl
  refine pms_one ?_
  refine pms_ret ?_
  exact pm_bl
end

theorem all_law {P : Program} {w : World} {K : PySem.W.Frag} {mg : Str → Option Value} {base : Heap} (d__law_take : DefAt K mg "_law_take" st__law_take ["feed", "many"]) (d__law_names : DefAt K mg "_law_names" st__law_names ["feed", "many"]) (d__law_step_on : DefAt K mg "_law_step_on" st__law_step_on ["lines", "opened"]) (d__law_plain : DefAt K mg "_law_plain" st__law_plain ["feed", "boxes", "words"]) (d__law_part : DefAt K mg "_law_part" st__law_part ["feed", "size", "menus", "later", "opens", "dos"]) (d__law_program : DefAt K mg "_law_program" st__law_program ["feed", "bounds"]) (d__law_great : DefAt K mg "_law_great" st__law_great ["feed"]) (d__law_any : DefAt K mg "_law_any" st__law_any ["feed", "bounds"]) (d__law_feed : DefAt K mg "_law_feed" st__law_feed ["script", "k"]) (d__law_dressed : DefAt K mg "_law_dressed" st__law_dressed ["program", "feed"]) (d__law_choices : DefAt K mg "_law_choices" st__law_choices ["feed"]) (d_part_number : DefAt K mg "part_number" st_part_number ["program", "name"]) (d_flat_lines : DefAt K mg "flat_lines" st_flat_lines ["program", "part"]) (d_flat : DefAt K mg "flat" st_flat ["program"]) (d_line_of : DefAt K mg "line_of" st_line_of ["program", "spot"]) (d_at_gap : DefAt K mg "at_gap" st_at_gap ["spot", "k"]) (d_at_head : DefAt K mg "at_head" st_at_head ["spot", "k"]) (d_level_change : DefAt K mg "level_change" st_level_change ["line"]) (d_head_of : DefAt K mg "head_of" st_head_of ["lines", "k"]) (d_found_behind : DefAt K mg "found_behind" st_found_behind ["lines", "k", "kind"]) (d_or_of : DefAt K mg "or_of" st_or_of ["lines", "k"]) (d_end_of : DefAt K mg "end_of" st_end_of ["lines", "k"]) (d_next_in_part : DefAt K mg "next_in_part" st_next_in_part ["lines", "spot"]) (d_behind_do : DefAt K mg "behind_do" st_behind_do ["spot"]) (d_next_spots : DefAt K mg "next_spots" st_next_spots ["program", "spot"]) (d_first_spot : DefAt K mg "first_spot" st_first_spot []) (d_run_by : DefAt K mg "run_by" st_run_by ["program", "choices"]) (d__law_lines : DefAt K mg "_law_lines" st__law_lines ["program", "run"]) (d_law : DefAt K mg "law" st_law ["script"]) (b_len : mg "len" = none) (b_max : mg "max" = none) (b_min : mg "min" = none) (b_range : mg "range" = none) (b_tuple : mg "tuple" = none) : Cal P w K mg base 10 "law" ["script"] sem_law := by
  have c__law_take : Cal P w K mg base 1 "_law_take" ["feed", "many"] bx__law_take := cbx__law_take d__law_take
  have c__law_names : Cal P w K mg base 2 "_law_names" ["feed", "many"] bx__law_names := cbx__law_names d__law_names b_range c__law_take
  have c__law_step_on : Cal P w K mg base 1 "_law_step_on" ["lines", "opened"] bx__law_step_on := cbx__law_step_on d__law_step_on
  have c__law_plain : Cal P w K mg base 2 "_law_plain" ["feed", "boxes", "words"] bx__law_plain := cbx__law_plain d__law_plain b_len c__law_take
  have c__law_part : Cal P w K mg base 3 "_law_part" ["feed", "size", "menus", "later", "opens", "dos"] bx__law_part := cbx__law_part d__law_part b_len b_range b_tuple c__law_plain c__law_step_on c__law_take
  have c__law_program : Cal P w K mg base 4 "_law_program" ["feed", "bounds"] bx__law_program := cbx__law_program d__law_program b_len b_range b_tuple c__law_names c__law_part c__law_take
  have c__law_great : Cal P w K mg base 4 "_law_great" ["feed"] bx__law_great := cbx__law_great d__law_great b_len b_range b_tuple c__law_names c__law_part c__law_plain c__law_step_on c__law_take
  have c__law_any : Cal P w K mg base 5 "_law_any" ["feed", "bounds"] bx__law_any := cbx__law_any d__law_any c__law_great c__law_program c__law_take
  have c__law_feed : Cal P w K mg base 1 "_law_feed" ["script", "k"] bx__law_feed := cbx__law_feed d__law_feed b_len
  have c__law_dressed : Cal P w K mg base 2 "_law_dressed" ["program", "feed"] bx__law_dressed := cbx__law_dressed d__law_dressed b_len b_tuple c__law_take
  have c__law_choices : Cal P w K mg base 2 "_law_choices" ["feed"] bx__law_choices := cbx__law_choices d__law_choices b_range c__law_take
  have c_part_number : Cal P w K mg base 1 "part_number" ["program", "name"] bx_part_number := cbx_part_number d_part_number
  have c_flat_lines : Cal P w K mg base 8 "flat_lines" ["program", "part"] bx_flat_lines := cbx_flat_lines d_flat_lines b_tuple c_part_number
  have c_flat : Cal P w K mg base 9 "flat" ["program"] bx_flat := cbx_flat d_flat c_flat_lines
  have c_line_of : Cal P w K mg base 1 "line_of" ["program", "spot"] bx_line_of := cbx_line_of d_line_of b_len
  have c_at_gap : Cal P w K mg base 1 "at_gap" ["spot", "k"] bx_at_gap := cbx_at_gap d_at_gap
  have c_at_head : Cal P w K mg base 1 "at_head" ["spot", "k"] bx_at_head := cbx_at_head d_at_head
  have c_level_change : Cal P w K mg base 1 "level_change" ["line"] bx_level_change := cbx_level_change d_level_change
  have c_head_of : Cal P w K mg base 2 "head_of" ["lines", "k"] bx_head_of := cbx_head_of d_head_of b_range c_level_change
  have c_found_behind : Cal P w K mg base 2 "found_behind" ["lines", "k", "kind"] bx_found_behind := cbx_found_behind d_found_behind b_len b_range c_level_change
  have c_or_of : Cal P w K mg base 3 "or_of" ["lines", "k"] bx_or_of := cbx_or_of d_or_of c_found_behind
  have c_end_of : Cal P w K mg base 3 "end_of" ["lines", "k"] bx_end_of := cbx_end_of d_end_of c_found_behind
  have c_next_in_part : Cal P w K mg base 4 "next_in_part" ["lines", "spot"] bx_next_in_part := cbx_next_in_part d_next_in_part c_at_gap c_at_head c_end_of c_head_of c_or_of
  have c_behind_do : Cal P w K mg base 1 "behind_do" ["spot"] bx_behind_do := cbx_behind_do d_behind_do
  have c_next_spots : Cal P w K mg base 5 "next_spots" ["program", "spot"] bx_next_spots := cbx_next_spots d_next_spots c_at_gap c_behind_do c_end_of c_line_of c_next_in_part c_part_number
  have c_first_spot : Cal P w K mg base 1 "first_spot" [] bx_first_spot := cbx_first_spot d_first_spot
  have c_run_by : Cal P w K mg base 6 "run_by" ["program", "choices"] bx_run_by := cbx_run_by d_run_by b_len c_first_spot c_next_spots
  have c__law_lines : Cal P w K mg base 1 "_law_lines" ["program", "run"] bx__law_lines := cbx__law_lines d__law_lines b_len
  have c_law : Cal P w K mg base 10 "law" ["script"] sem_law := cal_law d_law b_len b_max b_min b_range c__law_any c__law_choices c__law_dressed c__law_feed c__law_lines c_flat c_run_by
  exact c_law

end My

namespace My
open PySem PySem.Spec PyProof.Rows L2 Mi
noncomputable abbrev Ln := List Str
noncomputable def encL (l : Ln) : W := .tup (l.map .str)
noncomputable def strL (xs : List Str) : W := .lst (xs.map .str)
noncomputable abbrev Pt := Str × List Ln
noncomputable def encT (p : Pt) : W := .tup [.str p.1, .tup (p.2.map encL)]
noncomputable def encP (p : List Pt) : W := .tup (p.map encT)
structure Spt where
  way : List (Nat × Nat)
  part : Nat
  k : Nat
  head : Bool
noncomputable def encW (q : Nat × Nat) : W := .tup [.int q.1, .int q.2]
noncomputable def encS (s : Spt) : W := .tup [.tup (s.way.map encW), .int s.part, .int s.k, .bl s.head]
theorem plns_all : ∀ {ws : List W}, (∀ w ∈ ws, pln w = true) → plns ws = true
  | [], _ => rfl
  | w :: ws, h => by unfold plns; rw [h w List.mem_cons_self, plns_all fun x hx => h x (List.mem_cons_of_mem _ hx)]; rfl
theorem deps_all {n : Nat} : ∀ {ws : List W}, (∀ w ∈ ws, dep w ≤ n) → deps ws ≤ n
  | [], _ => Nat.zero_le _
  | w :: ws, h => by unfold deps; exact Nat.max_le.mpr ⟨h w List.mem_cons_self, deps_all fun x hx => h x (List.mem_cons_of_mem _ hx)⟩
theorem plns_map {α : Type} {f : α → W} {xs : List α} (h : ∀ x, pln (f x) = true) : plns (xs.map f) = true := plns_all fun w hw => by obtain ⟨x, _, rfl⟩ := List.mem_map.mp hw; exact h x
theorem deps_map {α : Type} {f : α → W} {xs : List α} {n : Nat} (h : ∀ x, dep (f x) ≤ n) : deps (xs.map f) ≤ n := deps_all fun w hw => by obtain ⟨x, _, rfl⟩ := List.mem_map.mp hw; exact h x
@[simp] theorem plns_str {xs : List Str} : plns (xs.map .str) = true := plns_map fun _ => rfl
theorem deps_str {xs : List Str} : deps (xs.map .str) ≤ 1 := deps_map fun _ => Nat.le_refl _
@[simp] theorem pln_L {l : Ln} : pln (encL l) = true := by unfold encL pln; exact plns_str
theorem dep_L {l : Ln} : dep (encL l) ≤ 2 := by unfold encL dep; have := deps_str (xs := l); omega
@[simp] theorem pln_strL {xs : List Str} : pln (strL xs) = true := by unfold strL pln; exact plns_str
@[simp] theorem plns_Ls {ls : List Ln} : plns (ls.map encL) = true := plns_map fun _ => pln_L
theorem deps_Ls {ls : List Ln} : deps (ls.map encL) ≤ 2 := deps_map fun _ => dep_L
@[simp] theorem pln_T {p : Pt} : pln (encT p) = true := by simp [encT, pln, plns]
@[simp] theorem plns_Ts {ps : List Pt} : plns (ps.map encT) = true := plns_map fun _ => pln_T
@[simp] theorem pln_P {ps : List Pt} : pln (encP ps) = true := by unfold encP pln; exact plns_Ts
@[simp] theorem pln_W {q : Nat × Nat} : pln (encW q) = true := id rfl
@[simp] theorem plns_Ws {qs : List (Nat × Nat)} : plns (qs.map encW) = true := plns_map fun _ => pln_W
@[simp] theorem pln_S {s : Spt} : pln (encS s) = true := by simp [encS, pln, plns]
@[simp] theorem plns_Ss {ss : List Spt} : plns (ss.map encS) = true := plns_map fun _ => pln_S
@[simp] theorem pur_L {l : Ln} : pur (encL l) = true := pur_pln _ pln_L
@[simp] theorem pur_strL {xs : List Str} : pur (strL xs) = true := pur_pln _ pln_strL
@[simp] theorem pur_P {ps : List Pt} : pur (encP ps) = true := pur_pln _ pln_P
@[simp] theorem pur_S {s : Spt} : pur (encS s) = true := pur_pln _ pln_S
@[simp] theorem purs_str {xs : List Str} : purs (xs.map .str) = true := purs_plns _ plns_str
@[simp] theorem purs_Ls {ls : List Ln} : purs (ls.map encL) = true := purs_plns _ plns_Ls
@[simp] theorem purs_Ts {ls : List Pt} : purs (ls.map encT) = true := purs_plns _ plns_Ts
@[simp] theorem purs_Ss {ss : List Spt} : purs (ss.map encS) = true := purs_plns _ plns_Ss
@[simp] theorem p_int {i : Int} : pur (.int i) = true := id rfl
@[simp] theorem p_str {x : Str} : pur (.str x) = true := id rfl
@[simp] theorem p_bl {b : Bool} : pur (.bl b) = true := id rfl
@[simp] theorem p_tup {ws : List W} : pur (.tup ws) = purs ws := by unfold pur; rfl
@[simp] theorem p_lst {ws : List W} : pur (.lst ws) = purs ws := by unfold pur; rfl
@[simp] theorem p_frz {ws : List W} : pur (.frz ws) = purs ws := by unfold pur; rfl
@[simp] theorem ps_nil : purs [] = true := id rfl
@[simp] theorem ps_cons {w : W} {ws : List W} : purs (w :: ws) = (pur w && purs ws) := by rw [purs]
@[simp] theorem ps_app {ws us : List W} : purs (ws ++ us) = (purs ws && purs us) := by
  induction ws with
  | nil => simp
  | cons w ws ih => simp [ih, Bool.and_assoc]
@[simp] theorem purs_ints {ns : List Int} : purs (ns.map .int) = true := by
  induction ns with
  | nil => rfl
  | cons n ns ih => simp [ih]
@[simp] theorem po_lst {ws : List W} : purO (.lst ws) = purs ws := id rfl
theorem sizeL {n : Nat} (h : n ≤ 1000000) : n ≤ sizeLine := Nat.le_trans h (by decide)
theorem sizeT {n : Nat} (h : n ≤ 1000000) : n < sizeLine := Nat.lt_of_le_of_lt h (by decide)
@[simp] theorem size_1 : 1 ≤ sizeLine := by decide
@[simp] theorem size_2 : 2 ≤ sizeLine := by decide
@[simp] theorem size_3 : 3 ≤ sizeLine := by decide
@[simp] theorem size_4 : 4 ≤ sizeLine := by decide
@[simp] theorem size_5 : 5 ≤ sizeLine := by decide
@[simp] theorem size_6 : 6 ≤ sizeLine := by decide
@[simp] theorem size_8 : 8 ≤ sizeLine := by decide
structure Fd where
  a : Int
  b : Int
  hb : 0 ≤ b ∧ b < 1099511627776
noncomputable def encF (f : Fd) : MO := .lst [.int f.a, .int f.b]
theorem pickI {α : Type} {xs : List α} {i : Int} {P : α → Prop} {f : α → W} (h0 : 0 ≤ i) (h1 : i < xs.length) (hp : ∀ x ∈ xs, P x) : ∃ x, x ∈ xs ∧ P x ∧ atI (xs.map f) i = some (f x) := by
  obtain ⟨n, rfl⟩ : ∃ n : Nat, i = n := ⟨i.toNat, by omega⟩
  have hn : n < xs.length := by omega
  exact ⟨xs[n], List.getElem_mem hn, hp _ (List.getElem_mem hn), by rw [atI_nat', List.getElem?_map, List.getElem?_eq_getElem hn]; rfl⟩
theorem encF_inj {f g : Fd} (e : encF f = encF g) : f = g := by
  obtain ⟨a, b, hb⟩ := f
  obtain ⟨a', b', hb'⟩ := g
  simp [encF] at e
  obtain ⟨rfl, rfl⟩ := e
  rfl
noncomputable def HasF (h : MH) (n : Nat) : Prop := ∃ f, h[n]? = some (encF f)
open Classical in
noncomputable def feedD (h : MH) (n : Nat) : Fd := if p : HasF h n then p.choose else ⟨0, 0, by decide⟩
theorem feedD_of {h : MH} {n : Nat} {f : Fd} (e : h[n]? = some (encF f)) : feedD h n = f := by
  have p : HasF h n := ⟨f, e⟩
  unfold feedD
  rw [dif_pos p]
  exact (encF_inj (Option.some.inj (e.symm.trans p.choose_spec))).symm
@[simp] theorem hasF_0 {f : Fd} {h : MH} : HasF (encF f :: h) 0 := ⟨f, rfl⟩
@[simp] theorem feedD_0 {f : Fd} {h : MH} : feedD (encF f :: h) 0 = f := feedD_of rfl
theorem s_inL {neg : Bool} {a : W} {ys : List W} {h : MH} (pa : pln a = true) (py : plns ys = true) (da : dep a ≤ 40) (dy : deps ys ≤ 40) : wIn neg a (.lst ys) h = some (.bl (if neg = true then !inW a ys else inW a ys), h) := by
  show ((lsW h (.lst ys)).bind fun ys => (drf h 40 a).bind fun x => (mapO (drf h 40) ys).map fun zs => (W.bl (if neg then !inW x zs else inW x zs), h)) = _
  simp only [lsW, Option.bind_some]
  rw [drf_pln h a 40 pa da, mapO_pln h ys 40 py dy]; rfl
@[simp] theorem in_67 {i : Int} {h : MH} : wIn false (.int i) (.lst [.int 6, .int 7]) h = some (.bl (decide (i = 6 ∨ i = 7)), h) := by
  rw [s_inL (by simp [pln]) (by simp [pln, plns]) (by simp [dep]) (by simp [dep, deps])]
  have : inW (.int i) [.int 6, .int 7] = decide (i = 6 ∨ i = 7) := by
    simp only [inW, List.any_cons, List.any_nil, eqW, Bool.or_false]
    rw [Bool.eq_iff_iff]
    simp
    omega
  simp [this]
@[simp] theorem s_lenSL {xs : List Str} {h : MH} : wLen [strL xs] h = some (.int xs.length, h) := by unfold strL; simp
@[simp] theorem s_ixSL {xs : List Str} {i : Int} {h : MH} : wIx (strL xs) (.int i) h = @om _ _ (fun w => (w, h)) (atI (xs.map .str) i) := by unfold strL; simp
@[simp] theorem sI_2 {α : Type} {xs : List α} : atI xs 2 = xs[2]? := atI_nat' (n := 2)
@[simp] theorem sI_3 {α : Type} {xs : List α} : atI xs 3 = xs[3]? := atI_nat' (n := 3)
theorem range_get {a : Int} {n j : Nat} {w : W} (h : (rangeW a n)[j]? = some w) : j < n ∧ w = .int (a + j) := by
  have hl := (List.getElem?_eq_some_iff.mp h).1
  simp [rangeW] at hl
  refine ⟨hl, ?_⟩
  unfold rangeW at h
  rw [List.getElem?_map, List.getElem?_range hl] at h
  cases h; rfl
theorem set_last {α : Type} {l : List α} {x y : α} : (l ++ [x]).set l.length y = l ++ [y] := by simp
theorem chr_inj {a b : Char} (h : a.toNat = b.toNat) : a = b := by
  have : a.val = b.val := by
    apply UInt32.toNat_inj.mp
    exact h
  exact Char.ext this
theorem map_chr_inj : ∀ {a b : List Char}, a.map Char.toNat = b.map Char.toNat → a = b
  | [], [], _ => rfl
  | [], _ :: _, h => by simp at h
  | _ :: _, [], h => by simp at h
  | x :: a, y :: b, h => by
    simp only [List.map_cons, List.cons.injEq] at h
    rw [chr_inj h.1, map_chr_inj h.2]
@[simp] theorem ofS_inj {a b : String} : (Str.ofString a = Str.ofString b) ↔ a = b := by
  constructor
  · intro h
    rw [Str.ofString_eq_toList, Str.ofString_eq_toList] at h
    have h1 := map_chr_inj (List.toArray_inj (Str.mk.inj h))
    exact String.toList_inj.mp h1
  · intro h; rw [h]
end My

namespace My5
open My3 My4
theorem lev_app {A B : List Cd} : ∀ {i : Nat}, i ≤ A.length → lev (A ++ B) i = lev A i
  | 0, _ => rfl
  | i + 1, h => by
    have ih := lev_app (A := A) (B := B) (i := i) (by omega)
    simp only [lev, ih, List.getElem?_append_left (show i < A.length by omega)]
theorem lev_app2 {A B : List Cd} : ∀ {i : Nat}, lev (A ++ B) (A.length + i) = lev A A.length + lev B i
  | 0 => by rw [Nat.add_zero, lev_app (Nat.le_refl _)]; simp [lev]
  | i + 1 => by
    have ih := lev_app2 (A := A) (B := B) (i := i)
    rw [← Nat.add_assoc]
    simp only [lev, ih, List.getElem?_append_right (show A.length ≤ A.length + i by omega), Nat.add_sub_cancel_left]
    omega
theorem pil_pre {ls : List Cd} : ∀ {k j : Nat}, j ≤ k → (∃ p, pil ls k = some p) → ∃ p, pil ls j = some p
  | 0, j, h, e => by rw [show j = 0 by omega]; exact e
  | k + 1, j, h, ⟨p, e⟩ => by
    by_cases z : j = k + 1
    · rw [z]; exact ⟨p, e⟩
    · refine pil_pre (k := k) (by omega) ?_
      simp only [pil] at e
      cases q : pil ls k with
      | none => rw [q] at e; simp at e
      | some r => exact ⟨r, rfl⟩
theorem stp_len {k : Nat} {c : Cd} {p q : List En} (h : stp k c p = some q) : (q.length : Int) = p.length + ch c := by
  cases c with
  | ei => simp only [stp] at h; cases h; simp [ch]
  | ag => simp only [stp] at h; cases h; simp [ch]
  | ot => simp only [stp] at h; cases h; simp [ch]
  | oo =>
    cases p with
    | nil => simp [stp] at h
    | cons e r =>
      simp only [stp] at h
      split at h
      · cases h; simp [ch]
      · cases h
  | en =>
    cases p with
    | nil => simp [stp] at h
    | cons e r =>
      simp only [stp] at h
      split at h
      · cases h
      · cases h; simp [ch]; omega
theorem pil_lev {ls : List Cd} : ∀ {k : Nat} {p : List En}, pil ls k = some p → lev ls k = p.length
  | 0, p, h => by simp only [pil] at h; cases h; rfl
  | k + 1, p, h => by
    simp only [pil] at h
    obtain ⟨q, h1, h2⟩ := Option.bind_eq_some_iff.mp h
    have ih := pil_lev h1
    cases hc : ls[k]? with
    | none => rw [hc] at h2; cases h2
    | some c =>
      rw [hc] at h2
      rw [lev_succ hc, ih, stp_len h2]
theorem bal_0 {ls : List Cd} (h : Bal ls) : lev ls ls.length = 0 := by
  have := pil_lev h
  simpa using this
theorem bal_ge {ls : List Cd} (h : Bal ls) {i : Nat} (hi : i ≤ ls.length) : 0 ≤ lev ls i := by
  obtain ⟨p, hp⟩ := pil_pre hi ⟨_, h⟩
  rw [pil_lev hp]; omega
theorem bal_no {ls : List Cd} (h : Bal ls) {i : Nat} {c : Cd} (hc : ls[i]? = some c) (h0 : lev ls i = 0) : c ≠ .oo ∧ c ≠ .en := by
  have hl := (List.getElem?_eq_some_iff.mp hc).1
  obtain ⟨p, hp⟩ := pil_pre (show i ≤ ls.length by omega) ⟨_, h⟩
  obtain ⟨q, hq⟩ := pil_pre (show i + 1 ≤ ls.length by omega) ⟨_, h⟩
  rw [pil_lev hp] at h0
  have : p = [] := List.length_eq_zero_iff.mp (by omega)
  subst this
  simp only [pil, hp, hc] at hq
  constructor
  · rintro rfl
    simp [stp] at hq
  · rintro rfl
    simp [stp] at hq
section
variable {α : Type} (E : α → List Cd) (b : α → Cd)
noncomputable def Ex (x : α) : Prop := E x = [b x] ∨ (b x = .ot ∧ Bal (E x))
noncomputable def F (xs : List α) : List Cd := xs.flatMap E
noncomputable def off (xs : List α) (k : Nat) : Nat := (F E (xs.take k)).length
variable {E b}
theorem F_app {xs ys : List α} : F E (xs ++ ys) = F E xs ++ F E ys := by simp [F]
theorem F_cons {x : α} {xs : List α} : F E (x :: xs) = E x ++ F E xs := by simp [F]
theorem F_lev {xs : List α} (h : ∀ x ∈ xs, Ex E b x) : lev (F E xs) (F E xs).length = lev (xs.map b) xs.length := by
  induction xs with
  | nil => rfl
  | cons x xs ih =>
    have ih := ih fun y hy => h y (List.mem_cons_of_mem _ hy)
    rw [F_cons, List.length_append, lev_app2, ih, List.map_cons, show b x :: xs.map b = [b x] ++ xs.map b from rfl]
    have := lev_app2 (A := [b x]) (B := xs.map b) (i := xs.length)
    rw [List.length_cons, Nat.add_comm xs.length 1]
    rw [show ([b x] : List Cd).length = 1 from rfl] at this
    rw [this]
    rcases h x List.mem_cons_self with e | ⟨e, hb⟩
    · rw [e]; rfl
    · rw [bal_0 hb, e]; rfl
theorem split_at {xs : List α} {m : Nat} {x : α} (hx : xs[m]? = some x) : xs = xs.take m ++ x :: xs.drop (m + 1) := by
  obtain ⟨hm, rfl⟩ := List.getElem?_eq_some_iff.mp hx
  rw [← List.drop_eq_getElem_cons hm, List.take_append_drop]
theorem F_at {xs : List α} {m : Nat} {x : α} (hx : xs[m]? = some x) : F E xs = F E (xs.take m) ++ (E x ++ F E (xs.drop (m + 1))) := by
  conv => lhs; rw [split_at hx]
  rw [F_app, F_cons]
theorem lev_take {ls : List Cd} {m : Nat} (h : m ≤ ls.length) : lev ls m = lev (ls.take m) (ls.take m).length := by
  have e : (ls.take m).length = m := by rw [List.length_take]; omega
  have := lev_app (A := ls.take m) (B := ls.drop m) (i := m) (by omega)
  rw [List.take_append_drop] at this
  rw [e]; exact this
theorem lev_in {xs : List α} (h : ∀ x ∈ xs, Ex E b x) {m r : Nat} {x : α} (hx : xs[m]? = some x) (hr : r ≤ (E x).length) : lev (F E xs) (off E xs m + r) = lev (xs.map b) m + lev (E x) r := by
  have hm := (List.getElem?_eq_some_iff.mp hx).1
  unfold off
  rw [F_at hx, lev_app2, lev_app hr, F_lev fun y hy => h y (List.mem_of_mem_take hy)]
  rw [lev_take (ls := xs.map b) (m := m) (by simp; omega), ← List.map_take]
  simp
theorem at_in {xs : List α} {m r : Nat} {x : α} (hx : xs[m]? = some x) (hr : r < (E x).length) : (F E xs)[off E xs m + r]? = (E x)[r]? := by
  unfold off
  rw [F_at hx, List.getElem?_append_right (by omega), Nat.add_sub_cancel_left, List.getElem?_append_left hr]
theorem off_succ {xs : List α} {m : Nat} {x : α} (hx : xs[m]? = some x) : off E xs (m + 1) = off E xs m + (E x).length := by
  obtain ⟨hm, rfl⟩ := List.getElem?_eq_some_iff.mp hx
  unfold off
  rw [List.take_succ_eq_append_getElem hm, F_app, List.length_append]
  simp [F]
theorem off_mono {xs : List α} {j k : Nat} (h : j ≤ k) : off E xs j ≤ off E xs k := by
  unfold off
  have : xs.take j = (xs.take k).take j := by rw [List.take_take, Nat.min_eq_left h]
  rw [this]
  conv => rhs; rw [← List.take_append_drop j (xs.take k), F_app, List.length_append]
  omega
theorem find_in {xs : List α} {i : Nat} (hi : i < (F E xs).length) : ∃ m r x, xs[m]? = some x ∧ r < (E x).length ∧ i = off E xs m + r := by
  induction xs generalizing i with
  | nil => simp [F] at hi
  | cons x xs ih =>
    rw [F_cons, List.length_append] at hi
    by_cases h : i < (E x).length
    · exact ⟨0, i, x, rfl, h, by simp [off, F]⟩
    · obtain ⟨m, r, y, h1, h2, h3⟩ := ih (i := i - (E x).length) (by omega)
      refine ⟨m + 1, r, y, by simpa using h1, h2, ?_⟩
      have : off E (x :: xs) (m + 1) = (E x).length + off E xs m := by unfold off; rw [List.take_succ_cons, F_cons, List.length_append]
      omega
theorem between {xs : List α} {k j i : Nat} {a : α} (hk : xs[k]? = some a) (ha : (E a).length = 1) (h1 : off E xs k < i) (h2 : i < off E xs j) (hl : i < (F E xs).length) : ∃ m r x, xs[m]? = some x ∧ r < (E x).length ∧ i = off E xs m + r ∧ k < m ∧ m < j := by
  obtain ⟨m, r, x, e1, e2, e3⟩ := find_in hl
  refine ⟨m, r, x, e1, e2, e3, ?_, ?_⟩
  · apply Classical.byContradiction
    intro hn
    by_cases z : m = k
    · subst z
      rw [hk] at e1
      cases e1
      omega
    · have := off_mono (E := E) (xs := xs) (show m + 1 ≤ k by omega)
      rw [off_succ e1] at this
      omega
  · apply Classical.byContradiction
    intro hn
    have := off_mono (E := E) (xs := xs) (show j ≤ m by omega)
    omega
theorem one_of {xs : List α} (h : ∀ x ∈ xs, Ex E b x) {k : Nat} {a : α} (hk : xs[k]? = some a) (hb : b a ≠ .ot) : E a = [b a] := by
  rcases h a (List.mem_iff_getElem?.mpr ⟨k, hk⟩) with e | e
  · exact e
  · exact absurd e.1 hb
theorem lev_off {xs : List α} (h : ∀ x ∈ xs, Ex E b x) {k : Nat} {a : α} (hk : xs[k]? = some a) : lev (F E xs) (off E xs k) = lev (xs.map b) k := by
  have := lev_in h hk (Nat.zero_le _)
  simpa [lev] using this
theorem lev_off1 {xs : List α} (h : ∀ x ∈ xs, Ex E b x) {k : Nat} {a : α} (hk : xs[k]? = some a) (ha : E a = [b a]) : lev (F E xs) (off E xs k + 1) = lev (xs.map b) (k + 1) := by
  have := lev_in h hk (r := 1) (by rw [ha]; simp)
  have e2 : lev (E a) 1 = ch (b a) := by rw [ha]; simp [lev]
  have e3 := lev_succ (ls := xs.map b) (k := k) (c := b a) (by rw [List.getElem?_map, hk]; rfl)
  rw [this, e2, e3]
theorem at_off {xs : List α} {k : Nat} {a : α} (hk : xs[k]? = some a) (ha : E a = [b a]) : (F E xs)[off E xs k]? = some (b a) := by
  have := at_in (E := E) hk (r := 0) (by rw [ha]; simp)
  rw [Nat.add_zero] at this
  rw [this, ha]; rfl
theorem beh_F {xs : List α} (h : ∀ x ∈ xs, Ex E b x) {k j : Nat} {c : Cd} {a : α} (hk : xs[k]? = some a) (ha : E a = [b a]) (hc : c = .oo ∨ c = .en) (B : Beh (xs.map b) k c j) : Beh (F E xs) (off E xs k) c (off E xs j) := by
  have hj := B.at_
  rw [List.getElem?_map] at hj
  obtain ⟨a', hj, hbj⟩ := Option.map_eq_some_iff.mp hj
  have hb' : b a' ≠ .ot := by rw [hbj]; rcases hc with rfl | rfl <;> simp
  have ha' := one_of h hj hb'
  have o1 := off_succ (E := E) hk
  rw [ha] at o1
  have o2 := off_mono (E := E) (xs := xs) (show k + 1 ≤ j from B.lt)
  have hlj : off E xs j < (F E xs).length := (List.getElem?_eq_some_iff.mp (at_off hj ha')).1
  have hlt := B.lt
  refine ⟨by simp at o1; omega, by rw [at_off hj ha', hbj], ?_, fun i h1 h2 h3 q => ?_, fun i h1 h2 => ?_⟩
  · rw [lev_off h hj, lev_off1 h hk ha]; exact B.lv
  · obtain ⟨m, r, x, e1, e2, rfl, e4, e5⟩ := between hk (by rw [ha]; rfl) h1 h2 (by omega)
    rw [at_in e1 e2] at q
    have hx := h x (List.mem_iff_getElem?.mpr ⟨m, e1⟩)
    rw [lev_in h e1 (by omega), lev_off1 h hk ha] at h3
    rcases hx with e | ⟨e, hB⟩
    · rw [e] at e2 q h3
      simp at e2
      subst e2
      rw [show lev [b x] 0 = 0 from rfl, Int.add_zero] at h3
      have q' : b x = c := by simpa using q
      exact B.no m e4 e5 h3 (by rw [List.getElem?_map, e1, ← q']; rfl)
    · have g := B.ge m e4 (by omega)
      have g2 := bal_ge hB (i := r) (by omega)
      have := bal_no hB q (by omega)
      rcases hc with rfl | rfl
      · exact this.1 rfl
      · exact this.2 rfl
  · rw [lev_off1 h hk ha]
    by_cases z : i = off E xs j
    · subst z
      rw [lev_off h hj]
      exact B.ge j hlt (Nat.le_refl _)
    · obtain ⟨m, r, x, e1, e2, rfl, e4, e5⟩ := between hk (by rw [ha]; rfl) h1 (show i < off E xs j by omega) (by omega)
      rw [lev_in h e1 (by omega)]
      have g := B.ge m e4 (by omega)
      rcases h x (List.mem_iff_getElem?.mpr ⟨m, e1⟩) with e | ⟨e, hB⟩
      · rw [e] at e2 ⊢
        simp at e2
        subst e2
        rw [show lev [b x] 0 = 0 from rfl, Int.add_zero]
        exact g
      · have g2 := bal_ge hB (i := r) (by omega)
        omega
end
end My5

namespace My5
open My3 My4
theorem beh_uniq {ls : List Cd} {k j j' : Nat} {c : Cd} (B : Beh ls k c j) (B' : Beh ls k c j') : j = j' := by
  rcases Nat.lt_trichotomy j j' with h | h | h
  · exact absurd B.at_ (B'.no j B.lt h B.lv)
  · exact h
  · exact absurd B'.at_ (B.no j' B'.lt h B'.lv)
theorem ahd_uniq {ls : List Cd} {k j j' : Nat} (A : Ahd ls k j) (A' : Ahd ls k j') : j = j' := by
  rcases Nat.lt_trichotomy j j' with h | h | h
  · exact absurd A'.lv (A.no j' h A'.lt)
  · exact h
  · exact absurd A.lv (A'.no j h A.lt)
theorem lev_mid {A Y Z : List Cd} {i : Nat} (h : i ≤ Y.length) : lev (A ++ (Y ++ Z)) (A.length + i) = lev A A.length + lev Y i := by rw [lev_app2, lev_app h]
theorem at_mid {A Y Z : List Cd} {i : Nat} (h : i < Y.length) : (A ++ (Y ++ Z))[A.length + i]? = Y[i]? := by
  rw [List.getElem?_append_right (by omega), Nat.add_sub_cancel_left, List.getElem?_append_left h]
theorem beh_app {A Y Z : List Cd} {k j : Nat} {c : Cd} (B : Beh Y k c j) : Beh (A ++ (Y ++ Z)) (A.length + k) c (A.length + j) := by
  have hj := (List.getElem?_eq_some_iff.mp B.at_).1
  have hlt := B.lt
  refine ⟨by omega, by rw [at_mid hj]; exact B.at_, ?_, fun i h1 h2 h3 => ?_, fun i h1 h2 => ?_⟩
  · rw [Nat.add_assoc, lev_mid (by omega), lev_mid (by omega), B.lv]
  · obtain ⟨r, rfl⟩ : ∃ r, i = A.length + r := ⟨i - A.length, by omega⟩
    rw [Nat.add_assoc, lev_mid (by omega), lev_mid (by omega)] at h3
    rw [at_mid (by omega)]
    exact B.no r (by omega) (by omega) (by omega)
  · obtain ⟨r, rfl⟩ : ∃ r, i = A.length + r := ⟨i - A.length, by omega⟩
    rw [Nat.add_assoc, lev_mid (by omega), lev_mid (by omega)]
    have := B.ge r (by omega) (by omega)
    omega
theorem ahd_app {A Y Z : List Cd} {k j : Nat} (B : Ahd Y k j) (hk : k ≤ Y.length) : Ahd (A ++ (Y ++ Z)) (A.length + k) (A.length + j) := by
  have hlt := B.lt
  refine ⟨by omega, ?_, fun i h1 h2 h3 => ?_, fun i h1 h2 => ?_⟩
  · rw [lev_mid (by omega), lev_mid (by omega), B.lv]; omega
  · obtain ⟨r, rfl⟩ : ∃ r, i = A.length + r := ⟨i - A.length, by omega⟩
    rw [lev_mid (by omega), lev_mid (by omega)] at h3
    exact B.no r (by omega) (by omega) (by omega)
  · obtain ⟨r, rfl⟩ : ∃ r, i = A.length + r := ⟨i - A.length, by omega⟩
    rw [lev_mid (by omega), lev_mid (by omega)]
    have := B.ge r (by omega) (by omega)
    omega
section
variable {α : Type} {E : α → List Cd} {b : α → Cd}
theorem ex_ge {x : α} (h : Ex E b x) {r : Nat} (hr : r < (E x).length) : 0 ≤ lev (E x) r := by
  rcases h with e | ⟨_, hB⟩
  · rw [e] at hr ⊢
    simp at hr
    subst hr
    exact Int.le_refl _
  · exact bal_ge hB (by omega)
theorem ahd_F {xs : List α} (h : ∀ x ∈ xs, Ex E b x) {k j : Nat} {a a' : α} (hk : xs[k]? = some a) (hj : xs[j]? = some a') (ha' : E a' = [b a']) (ha : E a = [b a]) (A : Ahd (xs.map b) k j) : Ahd (F E xs) (off E xs k) (off E xs j) := by
  have o1 := off_succ (E := E) hj
  rw [ha'] at o1
  have o2 := off_mono (E := E) (xs := xs) (show j + 1 ≤ k from A.lt)
  have hlk : off E xs k < (F E xs).length := (List.getElem?_eq_some_iff.mp (at_off hk ha)).1
  have hlt := A.lt
  have key : ∀ i, off E xs j < i → i < off E xs k → lev (F E xs) (off E xs k) ≤ lev (F E xs) i := fun i h1 h2 => by
    obtain ⟨m, r, x, e1, e2, rfl, e4, e5⟩ := between hj (by rw [ha']; rfl) h1 h2 (by omega)
    rw [lev_in h e1 (by omega), lev_off h hk]
    have g := A.ge m e4 (by omega)
    have g2 := ex_ge (h x (List.mem_iff_getElem?.mpr ⟨m, e1⟩)) e2
    omega
  refine ⟨by simp at o1; omega, ?_, fun i h1 h2 h3 => ?_, fun i h1 h2 => ?_⟩
  · rw [lev_off h hk, lev_off h hj]; exact A.lv
  · have := key i h1 h2; omega
  · by_cases z : i = off E xs k
    · rw [z]; exact Int.le_refl _
    · exact key i h1 (by omega)
theorem kst_frame {c : Cd} {p q s : List Cd} (h : kst c p = some q) : kst c (p ++ s) = some (q ++ s) := by
  cases c <;> cases p <;> simp only [kst, List.nil_append, List.cons_append] at h ⊢ <;> first | (cases h; rfl) | (split at h <;> first | (cases h; done) | (rename_i z; cases h; simp [z])) | simp_all
theorem krun_frame : ∀ {ls p q s : List Cd}, krun ls p = some q → krun ls (p ++ s) = some (q ++ s)
  | [], p, q, s, h => by simp only [krun] at h ⊢; cases h; rfl
  | c :: ls, p, q, s, h => by
    simp only [krun] at h ⊢
    obtain ⟨r, h1, h2⟩ := Option.bind_eq_some_iff.mp h
    rw [kst_frame h1]
    exact krun_frame h2
theorem F_bal {xs : List α} (h : ∀ x ∈ xs, Ex E b x) : ∀ (s : List Cd), krun (F E xs) s = krun (xs.map b) s := by
  induction xs with
  | nil => intro s; rfl
  | cons x xs ih =>
    intro s
    have ih := ih fun y hy => h y (List.mem_cons_of_mem _ hy)
    rw [F_cons, krun_app, List.map_cons, show b x :: xs.map b = [b x] ++ xs.map b from rfl, krun_app]
    rcases h x List.mem_cons_self with e | ⟨e, hB⟩
    · rw [e]
      cases krun [b x] s with
      | none => rfl
      | some r => exact ih r
    · have h1 : krun (E x) s = some s := by
        have := krun_frame (s := s) (bal_iff.mp hB)
        simpa using this
      have h2 : krun [b x] s = some s := by rw [e]; rfl
      rw [h1, h2]
      exact ih s
theorem bal_F {xs : List α} (h : ∀ x ∈ xs, Ex E b x) (hb : Bal (xs.map b)) : Bal (F E xs) := bal_iff.mpr (by rw [F_bal h]; exact bal_iff.mp hb)
end
end My5

namespace My
open PySem PySem.Spec PyProof.Rows L2 Mi My3 My4
theorem take_ex (f : Fd) (m : Int) : ∃ p : Int × Fd, (0 < m → 0 ≤ p.1 ∧ p.1 < m) ∧ (0 < m → m < 1000000 → ∀ (h : MH) (n : Nat), h[n]? = some (encF f) → bx__law_take [.ref n, .int m] h = some (.int p.1, h.set n (encF p.2))) := by
  obtain ⟨a, b, hb⟩ := f
  by_cases h : 0 < a
  · refine ⟨(a % m, ⟨a / m, b, hb⟩), fun hm => ⟨Int.emod_nonneg _ (by omega), Int.emod_lt_of_pos _ hm⟩, fun hm hm2 g n hn => box_one (o := encF ⟨a, b, hb⟩) (g := []) (by simp) hn (by simp [encF]) ?_ rfl ⟨_, rfl, by simp⟩⟩
    have hm3 : m < 1073741824 := by omega
    simp [sem__law_take, mDef, h, hm, hm3, encF]
  · refine ⟨((b * 69621 + 12345) % 2147483647 / 8191 % m, ⟨a, (b * 69621 + 12345) % 2147483647, Int.emod_nonneg _ (by decide), Int.lt_trans (Int.emod_lt_of_pos _ (by decide)) (by decide)⟩), fun hm => ⟨Int.emod_nonneg _ (by omega), Int.emod_lt_of_pos _ hm⟩, fun hm hm2 g n hn => box_one (o := encF ⟨a, b, hb⟩) (g := []) (by simp) hn (by simp [encF]) ?_ rfl ⟨_, rfl, by simp⟩⟩
    have hm3 : m < 1073741824 := by omega
    simp [sem__law_take, mDef, h, hm, hm3, encF]
noncomputable def tk (f : Fd) (m : Int) : Int := (Classical.choose (take_ex f m)).1
noncomputable def tf (f : Fd) (m : Int) : Fd := (Classical.choose (take_ex f m)).2
theorem tk_b {f : Fd} {m : Int} (hm : 0 < m) : 0 ≤ tk f m ∧ tk f m < m := (Classical.choose_spec (take_ex f m)).1 hm
theorem bx_takeF {f : Fd} {m : Int} {h : MH} {n : Nat} (hm : 0 < m) (hm2 : m < 1000000) (hn : h[n]? = some (encF f)) : bx__law_take [.ref n, .int m] h = some (.int (tk f m), h.set n (encF (tf f m))) := (Classical.choose_spec (take_ex f m)).2 hm hm2 h n hn
@[simp] theorem bx_take {m : Int} {h : MH} {n : Nat} (hm : 0 < m) (hm2 : m < 1000000) (hn : HasF h n) : bx__law_take [.ref n, .int m] h = some (.int (tk (feedD h n) m), h.set n (encF (tf (feedD h n) m))) := by
  obtain ⟨f, hf⟩ := hn
  rw [feedD_of hf]
  exact bx_takeF hm hm2 hf
noncomputable abbrev abc : Str := "abcdefghijklmnopqrstuvwxyz"
theorem rep_len (x : Str) (n : Int) : (rep x n).length = n.toNat * x.length := by unfold rep Str.length; simp
theorem str_app_len (x y : Str) : (x ++ y).length = x.length + y.length := by show (x.cps ++ y.cps).size = _; simp [Str.length]
theorem abc_len : abc.length = 26 := by decide +kernel
noncomputable def ltr (i : Int) : Str := ⟨#[97 + i.toNat]⟩
theorem abc_cps : abc.cps.toList = (List.range 26).map (97 + ·) := by decide +kernel
@[simp] theorem ltr_len {i : Int} : (ltr i).length = 1 := rfl
@[simp] theorem letter {i : Int} {h : MH} (h0 : 0 ≤ i) (h1 : i < 26) : wIx (.str abc) (.int i) h = some (.str (ltr i), h) := by
  obtain ⟨n, rfl⟩ : ∃ n : Nat, i = n := ⟨i.toNat, by omega⟩
  refine wIx_str (by rw [abc_len]; decide) ?_
  rw [atI_nat', abc_cps, List.getElem?_map, List.getElem?_range (by omega)]; rfl
theorem e_range {ms : MA} {σ : MSt} {h h' : MH} {j : Nat} (e : ms σ h = some ([.int j], h')) (hj : j < 1000000) : miR1 ms σ h = some (rangeW 0 j, none, h') := by
  unfold miR1
  rw [e, Option.bind_some]
  exact (if_pos ⟨by omega, by omega⟩).trans (by simp)
theorem range_len {a : Int} {n : Nat} : (rangeW a n).length = n := by simp [rangeW]
theorem range_map {a : Int} {n : Nat} {f : W → W} : (rangeW a n).map f = (List.range n).map fun (i : Nat) => f (.int (a + i)) := by simp [rangeW]
theorem stepI {i : Int} (h0 : 0 ≤ i) (h1 : i < 6) : ∃ v : Int, (v = 1 ∨ v = 3 ∨ v = 5 ∨ v = 7 ∨ v = 9 ∨ v = 11) ∧ atI [W.int 1, .int 3, .int 5, .int 7, .int 9, .int 11] i = some (.int v) := by
  obtain ⟨x, _, hx, e⟩ := pickI (xs := [(1 : Int), 3, 5, 7, 9, 11]) (f := W.int) (P := fun v => v = 1 ∨ v = 3 ∨ v = 5 ∨ v = 7 ∨ v = 9 ∨ v = 11) h0 h1 (by decide)
  exact ⟨x, hx, e⟩
theorem sizeI {i : Int} (h0 : 0 ≤ i) (h1 : i < 8) : ∃ v : Int, 1 ≤ v ∧ v ≤ 8 ∧ atI [W.int 1, .int 3, .int 4, .int 5, .int 6, .int 7, .int 8, .int 1] i = some (.int v) := by
  obtain ⟨x, _, hx, e⟩ := pickI (xs := [(1 : Int), 3, 4, 5, 6, 7, 8, 1]) (f := W.int) (P := fun v => 1 ≤ v ∧ v ≤ 8) h0 h1 (by decide)
  exact ⟨x, hx.1, hx.2, e⟩
theorem nodup_map_on {α β : Type} {f : α → β} {l : List α} (h : ∀ a ∈ l, ∀ b ∈ l, f a = f b → a = b) (hl : l.Nodup) : (l.map f).Nodup := by
  unfold List.Nodup
  rw [List.pairwise_map]
  exact List.Pairwise.imp_of_mem (fun ha hb hab e => hab (h _ ha _ hb e)) hl
theorem letters_apart {t st : Int} {a b : Nat} (hs : st = 1 ∨ st = 3 ∨ st = 5 ∨ st = 7 ∨ st = 9 ∨ st = 11) (ha : a < 5) (hb : b < 5) (h : ((t + st * (0 + (a : Int))) % 26).toNat = ((t + st * (0 + (b : Int))) % 26).toNat) : a = b := by
  rw [Int.zero_add, Int.zero_add] at h
  have h1 := Int.emod_nonneg (t + st * a) (show (26 : Int) ≠ 0 by decide)
  have h2 := Int.emod_nonneg (t + st * b) (show (26 : Int) ≠ 0 by decide)
  have h3 : (t + st * a) % 26 = (t + st * b) % 26 := by rw [← Int.toNat_of_nonneg h1, ← Int.toNat_of_nonneg h2, h]
  have h4 := Int.emod_eq_emod_iff_emod_sub_eq_zero.mp h3
  have h5 : t + st * a - (t + st * b) = st * ((a : Int) - b) := by rw [Int.mul_sub]; omega
  rw [h5] at h4
  have key : ∀ a : Fin 5, ∀ b : Fin 5, ∀ st ∈ [(1 : Int), 3, 5, 7, 9, 11], st * ((a.val : Int) - b.val) % 26 = 0 → a = b := by decide
  exact Fin.mk.inj (key ⟨a, ha⟩ ⟨b, hb⟩ st (by simpa using hs) h4)
theorem mid_inj {a b : Str} {i j : Int} (h : a ++ ltr i ++ b = a ++ ltr j ++ b) : i.toNat = j.toNat := by
  have e : ∀ x y : Str, (x ++ y).cps.toList = x.cps.toList ++ y.cps.toList := fun x y => by show (x.cps ++ y.cps).toList = _; simp
  have h2 := congrArg (fun s : Str => s.cps.toList) h
  simp only [e] at h2
  simp [ltr] at h2
  omega
theorem names_ok (f : Fd) (many : Nat) (hm : many ≤ 5) : ∃ (ns : List Str) (f' : Fd), ns.length = many ∧ ns.Nodup ∧ ∀ (h : MH) (n : Nat), h[n]? = some (encF f) → bx__law_names [.ref n, .int many] h = some (strL ns, h.set n (encF f')) := by
  obtain ⟨a0, a1⟩ := tk_b (f := f) (m := 26) (by decide)
  by_cases h0 : tk (tf f 26) 3 = 0
  · refine ⟨(List.range many).map fun (k : Nat) => rep (ltr (tk f 26)) ((0 : Int) + k + 1), tf (tf f 26) 3, by simp, nodup_map_on (fun a _ b _ e => ?_) List.nodup_range, fun h n hn => ?_⟩
    · have := congrArg Str.length e
      rw [rep_len, rep_len, ltr_len] at this
      omega
    · refine box_one (o := encF f) (g := []) (by simp) hn (by simp [encF]) ?_ (by simp) ⟨_, rfl, by simp⟩
      have e := comp_map (fin := fLst) (mi := miR1 (mCons (mVar 1) mNil)) (cp := [none, some 3]) (me := mBin wMulA (mVar 1) (mBin wAdd (mVar 0) (mC (.int 1)))) (σ := [some (.ref 0), some (.int many), some (.str abc), some (.str (ltr (tk f 26))), none, none, none, none, none]) (caps := [some (.str (ltr (tk f 26)))]) (h := [encF (tf (tf f 26) 3)]) (items := rangeW 0 many)
        (fun w => match w with | .int k => .str (rep (ltr (tk f 26)) (k + 1)) | w => w) (e_range (by simp) (by omega)) ⟨_, rfl⟩ (fun w hw => by
          obtain ⟨k, hk, rfl⟩ := List.mem_map.mp hw
          simp at hk
          simp
          exact s_muls ⟨by omega, by omega, by simp⟩) (by rw [range_len]; exact sizeL (by omega))
      simp [sem__law_names, mDef, a0, a1, h0, e, fLst, strL, range_map]
  · generalize hf2 : tf (tf f 26) 3 = f2
    obtain ⟨b0, b1⟩ := tk_b (f := f2) (m := 26) (by decide)
    obtain ⟨c0, c1⟩ := tk_b (f := tf f2 26) (m := 6) (by decide)
    obtain ⟨d0, d1⟩ := tk_b (f := tf (tf f2 26) 6) (m := 8) (by decide)
    obtain ⟨st, hst, es⟩ := stepI c0 c1
    have s0 : 0 ≤ st := by omega
    have s1 : st ≤ 11 := by omega
    obtain ⟨sz, z0, z1, ez⟩ := sizeI d0 d1
    obtain ⟨p0, p1⟩ := tk_b (f := tf (tf (tf f2 26) 6) 8) (m := sz) (by omega)
    generalize hpl : tk (tf (tf (tf f2 26) 6) 8) sz = pl at p0 p1
    generalize hfl : ltr (tk f 26) = fl
    have lfl : fl.length = 1 := by rw [← hfl]; rfl
    have lr : ∀ n : Int, (rep fl n).length = n.toNat := fun n => by rw [rep_len, lfl]; omega
    refine ⟨(List.range many).map fun (k : Nat) => rep fl pl ++ ltr ((tk f2 26 + st * (0 + (k : Int))) % 26) ++ rep fl (sz - 1 - pl), tf (tf (tf (tf f2 26) 6) 8) sz, by simp, nodup_map_on (fun a ha b hb e => ?_) List.nodup_range, fun h n hn => ?_⟩
    · have := mid_inj e
      have ha' := List.mem_range.mp ha
      have hb' := List.mem_range.mp hb
      exact letters_apart hst (by omega) (by omega) this
    · refine box_one (o := encF f) (g := []) (by simp) hn (by simp [encF]) ?_ (by simp) ⟨_, rfl, by simp⟩
      have e1 : wMulA (.str fl) (.int (sz - 1 - pl)) [encF (tf (tf (tf (tf f2 26) 6) 8) sz)] = some (.str (rep fl (sz - 1 - pl)), _) := s_muls ⟨by omega, by omega, by omega⟩
      have hz : (0 : Int) < sz := by omega
      have hz' : sz < 1000000 := by omega
      simp [sem__law_names, mDef, a0, a1, h0, hf2, hfl, b0, b1, es, ez, hz, hz', hpl, e1]
      rw [comp_map (items := rangeW 0 many) (caps := [some (.str (rep fl (sz - 1 - pl))), some (.str fl), some (.int pl), some (.str abc), some (.int (tk f2 26)), some (.int st)]) (fun w => match w with | .int k => .str (rep fl pl ++ ltr ((tk f2 26 + st * k) % 26) ++ rep fl (sz - 1 - pl)) | w => w)]
      · simp [fLst, strL, range_map]
      · exact e_range (by simp) (by omega)
      · exact ⟨_, rfl⟩
      · intro w hw
        obtain ⟨k, hk, rfl⟩ := List.mem_map.mp hw
        simp at hk
        have e2 : wMulA (.str fl) (.int pl) [encF (tf (tf (tf (tf f2 26) 6) 8) sz)] = some (.str (rep fl pl), _) := s_muls ⟨by omega, by omega, by omega⟩
        have q1 : 0 ≤ (tk f2 26 + st * (k : Int)) % 26 := Int.emod_nonneg _ (by decide)
        have q2 : (tk f2 26 + st * (k : Int)) % 26 < 26 := Int.emod_lt_of_pos _ (by decide)
        have q3 : -18446744073709551616 < st := by omega
        have q4 : st < 18446744073709551616 := by omega
        have l1 : pl.toNat + 1 ≤ sizeLine := sizeL (by omega)
        have l2 : pl.toNat + 1 + (sz - 1 - pl).toNat ≤ sizeLine := sizeL (by omega)
        simp [e2, q1, q2, q3, q4, lr, l1, l2, str_app_len]
      · rw [range_len]; exact sizeL (by omega)
inductive PlainL (bs ws : List Str) : Ln → Prop where
  | pair {x w y z : Str} (hx : x ∈ bs) (hw : w ∈ ws) (hy : y ∈ bs) (hz : z ∈ bs) : PlainL bs ws ["pair", x, w, y, z]
  | first {x y : Str} (hx : x ∈ bs) (hy : y ∈ bs) : PlainL bs ws ["first", x, y]
  | second {x y : Str} (hx : x ∈ bs) (hy : y ∈ bs) : PlainL bs ws ["second", x, y]
  | same {x y : Str} (hx : x ∈ bs) (hy : y ∈ bs) : PlainL bs ws ["same", x, y]
  | none {x : Str} (hx : x ∈ bs) : PlainL bs ws ["none", x]
  | tell {x : Str} (hx : x ∈ bs) : PlainL bs ws ["tell", x]
theorem pickS {xs : List Str} {i : Int} (h0 : 0 ≤ i) (h1 : i < xs.length) : ∃ x, x ∈ xs ∧ atI (xs.map W.str) i = some (.str x) := by
  obtain ⟨x, hx, _, e⟩ := pickI (xs := xs) (f := W.str) (P := fun _ => True) h0 h1 (fun _ _ => True.intro)
  exact ⟨x, hx, e⟩
theorem plain_ok (f : Fd) (bs ws : List Str) (hb : 0 < bs.length) (hb2 : bs.length ≤ 5) (hw : 0 < ws.length) (hw2 : ws.length ≤ 5) : ∃ (l : Ln) (f' : Fd), PlainL bs ws l ∧ ∀ (h : MH) (n : Nat), h[n]? = some (encF f) → bx__law_plain [.ref n, strL bs, strL ws] h = some (encL l, h.set n (encF f')) := by
  obtain ⟨a0, a1⟩ := tk_b (f := f) (m := 10) (by decide)
  have q1 : (0 : Int) < bs.length := by omega
  have q2 : (bs.length : Int) < 1000000 := by omega
  have q3 : (0 : Int) < ws.length := by omega
  have q4 : (ws.length : Int) < 1000000 := by omega
  have n1 : bs ≠ [] := by intro z; rw [z] at hb; simp at hb
  have n2 : ws ≠ [] := by intro z; rw [z] at hw; simp at hw
  have n3 : bs.length < 1000 := by omega
  have n4 : ws.length < 1000 := by omega
  obtain ⟨b0, b1⟩ := tk_b (f := tf f 10) (m := bs.length) q1
  obtain ⟨x, hx, ex⟩ := pickS b0 b1
  obtain ⟨c0, c1⟩ := tk_b (f := tf (tf f 10) bs.length) (m := bs.length) q1
  obtain ⟨y, hy, ey⟩ := pickS c0 c1
  by_cases h4 : tk f 10 < 4
  · obtain ⟨d0, d1⟩ := tk_b (f := tf (tf (tf f 10) bs.length) bs.length) (m := bs.length) q1
    obtain ⟨z, hz, ez⟩ := pickS d0 d1
    obtain ⟨e0, e1⟩ := tk_b (f := tf (tf (tf (tf f 10) bs.length) bs.length) bs.length) (m := ws.length) q3
    obtain ⟨w, hw, ew⟩ := pickS e0 e1
    refine ⟨_, tf (tf (tf (tf (tf f 10) bs.length) bs.length) bs.length) ws.length, .pair hx hw hy hz, fun h n hn => ?_⟩
    refine box_one (o := encF f) (g := []) (by simp) hn (by simp [encF]) ?_ (by simp) ⟨_, rfl, by simp⟩
    simp [sem__law_plain, mDef, strL, bx_take q1 q2, bx_take q3 q4, ex, ey, ez, ew, h4, encL]
  · have a0' : 0 ≤ tk f 10 - 4 := by omega
    obtain ⟨l, _, hl, el⟩ := pickI (xs := ([["first", x, y], ["second", x, y], ["same", x, y], ["none", x], ["tell", y], ["tell", x]] : List Ln)) (i := tk f 10 - 4) (f := encL) (P := PlainL bs ws) a0' (by show tk f 10 - 4 < 6; omega) (by
      intro l hl
      simp at hl
      rcases hl with rfl | rfl | rfl | rfl | rfl | rfl
      · exact .first hx hy
      · exact .second hx hy
      · exact .same hx hy
      · exact .none hx
      · exact .tell hy
      · exact .tell hx)
    refine ⟨l, tf (tf (tf f 10) bs.length) bs.length, hl, fun h n hn => ?_⟩
    refine box_one (o := encF f) (g := []) (by simp) hn (by simp [encF]) ?_ (by simp) ⟨_, rfl, by simp⟩
    simp [encL] at el
    simp [sem__law_plain, mDef, strL, bx_take q1 q2, ex, ey, h4, el, encL]
end My

namespace My
open PySem PySem.Spec PyProof.Rows L2 Mi My3 My4
noncomputable def cd (x : Str) : Cd := if x = "either" then .ei else if x = "again" then .ag else if x = "or" then .oo else if x = "end" then .en else .ot
noncomputable def cdL : Ln → Cd
  | [] => .ot
  | x :: _ => cd x
inductive LineOk (bs ws later : List Str) : Ln → Prop where
  | plain {l : Ln} (h : PlainL bs ws l) : LineOk bs ws later l
  | do {x : Str} (h : x ∈ later) : LineOk bs ws later ["do", x]
  | blk {x : Str} (h : x = "either" ∨ x = "again" ∨ x = "or" ∨ x = "end") : LineOk bs ws later [x]
  | back {x : Str} (h : x ∈ ws) : LineOk bs ws later ["back", x]
noncomputable abbrev orL : Ln := ["or"]
noncomputable abbrev endL : Ln := ["end"]
noncomputable def isDo : Ln → Bool
  | x :: _ => x == "do"
  | [] => false
noncomputable def dcn (ls : List Ln) : Nat := ls.countP isDo
theorem dcn_snoc (L : List Ln) (l : Ln) : dcn (L ++ [l]) = dcn L + (if isDo l = true then 1 else 0) := by simp [dcn, List.countP_append, List.countP_cons]
theorem dcn_not {L : List Ln} {l : Ln} (h : isDo l = false) : dcn (L ++ [l]) = dcn L := by rw [dcn_snoc, h]; rfl
theorem plain_nd {bs ws : List Str} {l : Ln} (h : PlainL bs ws l) : isDo l = false := by cases h <;> (show (_ == _) = false) <;> decide
theorem cd_again : cd "again" = .ag := by decide
theorem cd_or : cd "or" = .oo := by decide
theorem cd_end : cd "end" = .en := by decide
theorem plain_ot {bs ws : List Str} {l : Ln} (h : PlainL bs ws l) : cdL l = .ot := by cases h <;> (show cd _ = .ot) <;> decide
@[simp] theorem mapO_pick2 {h : MH} {i j : Nat} {us vs : List W} (hi : h[i]? = some (.lst us)) (hj : h[j]? = some (.lst vs)) (pu : purs us = true) (pv : purs vs = true) : mapO (pick h) [i, j] = some [.lst us, .lst vs] := by
  simp [mapO, pick_lst hi pu, pick_lst hj pv]
theorem step_e {L : List Ln} {O : List Str} {h : MH} {i j : Nat} (hl : L.length ≤ 100000) (hij : i ≠ j) (hi : h[i]? = some (.lst (L.map encL))) (hj : h[j]? = some (.lst ((O ++ [("either" : Str)]).map .str))) :
    bx__law_step_on [.ref i, .ref j] h = some (.non, (h.set i (.lst ((L ++ [orL]).map encL))).set j (.lst ((O ++ [("or" : Str)]).map .str))) := by
  refine box_gen (w := .non) (as := [.ref 0, .ref 1]) (ns := [i, j]) (os := [.lst (L.map encL), .lst ((O ++ [("either" : Str)]).map .str)]) (os' := [.lst ((L ++ [orL]).map encL), .lst ((O ++ [("or" : Str)]).map .str)]) (g := []) rfl (by simp [hij]) (mapO_pick2 hi hj (by simp) (by simp)) ?_ rfl ?_ rfl
  · have h1 : L.length < sizeLine := sizeT (by omega)
    simp [sem__law_step_on, mDef, h1, encL]
  · intro o ho
    simp at ho
    rcases ho with rfl | rfl
    · exact ⟨_, rfl, by simp⟩
    · exact ⟨_, rfl, by simp⟩
theorem step_n {L : List Ln} {O : List Str} {x : Str} {h : MH} {i j : Nat} (hx : x ≠ "either") (hl : L.length ≤ 100000) (hij : i ≠ j) (hi : h[i]? = some (.lst (L.map encL))) (hj : h[j]? = some (.lst ((O ++ [x]).map .str))) :
    bx__law_step_on [.ref i, .ref j] h = some (.non, (h.set i (.lst ((L ++ [endL]).map encL))).set j (.lst (O.map .str))) := by
  refine box_gen (w := .non) (as := [.ref 0, .ref 1]) (ns := [i, j]) (os := [.lst (L.map encL), .lst ((O ++ [x]).map .str)]) (os' := [.lst ((L ++ [endL]).map encL), .lst (O.map .str)]) (g := []) rfl (by simp [hij]) (mapO_pick2 hi hj (by simp) (by simp)) ?_ rfl ?_ rfl
  · have h1 : L.length < sizeLine := sizeT (by omega)
    simp [sem__law_step_on, mDef, h1, encL, hx]
  · intro o ho
    simp at ho
    rcases ho with rfl | rfl
    · exact ⟨_, rfl, by simp⟩
    · exact ⟨_, rfl, by simp⟩
structure PI (bs ws later : List Str) (size d0 : Int) (n : Nat) (σ : MSt) (h : MH) : Prop where
  ex : ∃ (f : Fd) (L : List Ln) (O : List Str) (op ds : Int) (kk ww : Option W), σ = [some (.ref 0), some (.int size), some (.tup [strL bs, strL ws]), some (strL later), some (.int op), some (.int ds), some (.ref 1), some (.ref 2), kk, ww] ∧ h = [encF f, .lst (L.map encL), .lst (O.map .str)] ∧
    (∀ l ∈ L, LineOk bs ws later l) ∧ krun (L.map cdL) [] = some (O.reverse.map cd) ∧ (∀ x ∈ O, x = "either" ∨ x = "again" ∨ x = "or") ∧ L.length = n ∧ O.length ≤ n ∧ (dcn L : Int) + ds = d0 ∧ 0 ≤ ds
theorem snocS (O : List Str) (h : O ≠ []) : ∃ r x, O = r ++ [x] := ⟨O.dropLast, O.getLast h, (List.dropLast_concat_getLast h).symm⟩
theorem line_end {bs ws later : List Str} : LineOk bs ws later endL := .blk (.inr (.inr (.inr rfl)))
theorem line_or {bs ws later : List Str} : LineOk bs ws later orL := .blk (.inr (.inr (.inl rfl)))
theorem app_all {α : Type} {P : α → Prop} {xs : List α} {x : α} (h : ∀ y ∈ xs, P y) (hx : P x) : ∀ y ∈ xs ++ [x], P y := fun y hy => by
  rcases List.mem_append.mp hy with z | z
  · exact h y z
  · rw [List.mem_singleton.mp z]; exact hx
theorem set_all {P : Str → Prop} {xs : List Str} {x y : Str} (h : ∀ z ∈ xs ++ [x], P z) (hy : P y) : ∀ z ∈ xs ++ [y], P z := app_all (fun z hz => h z (List.mem_append_left _ hz)) hy
theorem rev_snoc (O : List Str) (x : Str) : (O ++ [x]).reverse.map cd = cd x :: O.reverse.map cd := by simp
theorem cds_snoc (L : List Ln) (l : Ln) : (L ++ [l]).map cdL = L.map cdL ++ [cdL l] := by simp
theorem opk {x : Str} (h : x = "either" ∨ x = "again" ∨ x = "or") (hn : x ≠ "either") : cd x ≠ .ei := by
  rcases h with rfl | rfl | rfl
  · exact absurd rfl hn
  · decide
  · decide
theorem kst_en {x : Str} {s : List Cd} (h : cd x ≠ .ei) : kst .en (cd x :: s) = some s := by simp [kst, h]
noncomputable abbrev pS (bs ws later : List Str) (size op ds : Int) (k : W) (way : Int) : MSt := [some (.ref 0), some (.int size), some (.tup [strL bs, strL ws]), some (strL later), some (.int op), some (.int ds), some (.ref 1), some (.ref 2), some k, some (.int way)]
theorem part_turn {bs ws later : List Str} {size d0 : Int} {n : Nat} {σ : MSt} {h : MH} {k : W} (hb : 0 < bs.length) (hb2 : bs.length ≤ 5) (hw : 0 < ws.length) (hw2 : ws.length ≤ 5) (hla : later.length ≤ 5) (hn : n ≤ 1000) (H : PI bs ws later size d0 n σ h) :
    ∃ σ1, gSet 8 k σ h = some σ1 ∧ ∃ σ2 h2, (bd__law_part_1 σ1 h = some (.nx σ2 h2) ∨ bd__law_part_1 σ1 h = some (.ct σ2 h2)) ∧ PI bs ws later size d0 (n + 1) σ2 h2 := by
  obtain ⟨f, L, O, op, ds, kk, ww, rfl, rfl, hL, hk, hO, hl, hol, hdc, hd0⟩ := H.ex
  refine ⟨_, rfl, ?_⟩
  obtain ⟨a0, a1⟩ := tk_b (f := f) (m := 14) (by decide)
  have hsz : L.length < sizeLine := sizeT (by omega)
  have hoz : O.length < sizeLine := sizeT (by omega)
  generalize hway : tk f 14 = way at a0 a1
  have t1 : ∀ h, mtAnd (mTest (mBin wLt (mVar 9) (mC (.int 3)))) (mTest (mBin wGt (mVar 4) (mC (.int 0)))) (pS bs ws later size op ds k way) h = some (decide (way < 3 ∧ 0 < op), h) := fun h => by by_cases a : way < 3 <;> simp [a]
  have t2 : ∀ f, mtAnd (mTest (mBin wLt (mVar 9) (mC (.int 6)))) (mTest (mBin wGt (mFn wLen (mCons (mVar 7) mNil)) (mC (.int 0)))) (pS bs ws later size op ds k way) [encF f, .lst (L.map encL), .lst (O.map .str)] = some (decide (way < 6 ∧ 0 < O.length), [encF f, .lst (L.map encL), .lst (O.map .str)]) := fun h => by by_cases a : way < 6 <;> simp [a]
  have t3 : ∀ h, mtAnd (mTest (mBin (wIn false) (mVar 9) (mFn wLst (mCons (mC (.int 6)) (mCons (mC (.int 7)) mNil))))) (mtAnd (mTest (mBin wGt (mVar 5) (mC (.int 0)))) (mTest (mBin wGt (mFn wLen (mCons (mVar 3) mNil)) (mC (.int 0))))) (pS bs ws later size op ds k way) h = some (decide ((way = 6 ∨ way = 7) ∧ 0 < ds ∧ 0 < later.length), h) := fun h => by
    by_cases a : way = 6 ∨ way = 7
    · by_cases b : 0 < ds <;> simp [a, b]
    · simp [a]
  by_cases h1 : way < 3 ∧ 0 < op
  · obtain ⟨x, _, hx, ex⟩ := pickI (xs := ([("either" : Str), "again", "either"])) (f := W.str) (P := fun x => x = "either" ∨ x = "again") a0 (by show way < 3; omega) (by simp)
    simp at ex
    refine ⟨pS bs ws later size (op - 1) ds k way, [encF (tf f 14), .lst ((L ++ [[x]]).map encL), .lst ((O ++ [x]).map .str)], .inl ?_, ⟨_, _, _, _, _, _, _, rfl, rfl, ?_, ?_, ?_, ?_, ?_, ?_, hd0⟩⟩
    · simp [-s_tand, hway, t1, h1, ex, hoz, hsz, encL]
    · exact app_all hL (.blk (by rcases hx with rfl | rfl <;> simp))
    · rw [cds_snoc, rev_snoc]
      refine krun_one hk ?_
      rcases hx with rfl | rfl
      · rfl
      · show kst (cd "again") _ = _
        rw [cd_again]; rfl
    · exact app_all hO (by rcases hx with z | z <;> simp [z])
    · simp [hl]
    · simp; omega
    · rw [dcn_not (by rcases hx with rfl | rfl <;> decide)]; exact hdc
  · by_cases h2 : way < 6 ∧ 0 < O.length
    · obtain ⟨r, x, rfl⟩ := snocS O (by intro z; rw [z] at h2; simp at h2)
      rw [rev_snoc] at hk
      have es : ∃ L' O', ((x = "either" ∧ L' = L ++ [orL] ∧ O' = r ++ [("or" : Str)]) ∨ (x ≠ "either" ∧ L' = L ++ [endL] ∧ O' = r)) ∧ bx__law_step_on [.ref 1, .ref 2] [encF (tf f 14), .lst (L.map encL), .lst ((r ++ [x]).map .str)] = some (.non, [encF (tf f 14), .lst (L'.map encL), .lst (O'.map .str)]) := by
        by_cases hx : x = "either"
        · subst hx
          exact ⟨_, _, .inl ⟨rfl, rfl, rfl⟩, step_e (L := L) (O := r) (i := 1) (j := 2) (by omega) (by decide) rfl rfl⟩
        · exact ⟨_, _, .inr ⟨hx, rfl, rfl⟩, step_n (L := L) (O := r) (x := x) (i := 1) (j := 2) hx (by omega) (by decide) rfl rfl⟩
      obtain ⟨L', O', hc, es⟩ := es
      refine ⟨pS bs ws later size op ds k way, [encF (tf f 14), .lst (L'.map encL), .lst (O'.map .str)], .inl ?_, ⟨_, L', O', _, _, _, _, rfl, rfl, ?_⟩⟩
      · have h2' : way < 6 ∧ 0 < r.length + 1 := ⟨h2.1, by omega⟩
        have t2' := t2 (tf f 14)
        simp only [List.map_append, List.map_cons, List.map_nil] at es t2'
        simp [-s_tand, hway, t1, h1, t2', h2.1, es]
      · rcases hc with ⟨rfl, rfl, rfl⟩ | ⟨hx, rfl, rfl⟩
        · refine ⟨app_all hL line_or, ?_, set_all hO (by simp), by simp [hl], by simp at hol ⊢; omega, by rw [dcn_not (by decide)]; exact hdc, hd0⟩
          rw [cds_snoc, rev_snoc]
          exact krun_one hk rfl
        · refine ⟨app_all hL line_end, ?_, fun y hy => hO y (List.mem_append_left _ hy), by simp [hl], by simp at hol ⊢; omega, by rw [dcn_not (by decide)]; exact hdc, hd0⟩
          rw [cds_snoc]
          refine krun_one hk ?_
          show kst (cd "end") _ = _
          rw [cd_end]
          exact kst_en (opk (hO x (by simp)) hx)
    · by_cases h3 : (way = 6 ∨ way = 7) ∧ 0 < ds ∧ 0 < later.length
      · have q1 : (0 : Int) < later.length := by omega
        have q2 : (later.length : Int) < 1000000 := by omega
        obtain ⟨b0, b1⟩ := tk_b (f := tf f 14) (m := later.length) q1
        obtain ⟨x, hx, ex⟩ := pickS b0 b1
        refine ⟨pS bs ws later size op (ds - 1) k way, [encF (tf (tf f 14) later.length), .lst ((L ++ [(["do", x] : Ln)]).map encL), .lst (O.map .str)], .inl ?_, ⟨_, _, _, _, _, _, _, rfl, rfl, ?_, ?_, hO, ?_, ?_, ?_, by omega⟩⟩
        · simp [-s_tand, hway, t1, h1, t2, h2, t3, h3, hsz, encL, bx_take q1 q2, ex]
        · exact app_all hL (.do hx)
        · rw [cds_snoc]
          exact krun_one hk (by show kst (cd "do") _ = _; rw [show cd "do" = .ot by decide]; rfl)
        · simp [hl]
        · omega
        · rw [dcn_snoc, if_pos (by show (_ == _) = true; decide)]; omega
      · obtain ⟨l, f', hp, ep⟩ := plain_ok (tf f 14) bs ws hb hb2 hw hw2
        refine ⟨pS bs ws later size op ds k way, [encF f', .lst ((L ++ [l]).map encL), .lst (O.map .str)], .inl ?_, ⟨_, _, _, _, _, _, _, rfl, rfl, ?_, ?_, hO, ?_, ?_, ?_, hd0⟩⟩
        · simp [-s_tand, hway, t1, h1, t2, h2, t3, h3, hsz, ep]
        · exact app_all hL (.plain hp)
        · rw [cds_snoc]
          exact krun_one hk (by rw [plain_ot hp]; rfl)
        · simp [hl]
        · omega
        · rw [dcn_not (plain_nd hp)]; exact hdc
end My

namespace My
open PySem PySem.Spec PyProof.Rows L2 Mi My3 My4
noncomputable def wt (O : List Str) : Nat := (O.map fun (x : Str) => if x = "either" then 2 else 1).sum
theorem wt_snoc (O : List Str) (x : Str) : wt (O ++ [x]) = wt O + (if x = "either" then 2 else 1) := by simp [wt]
theorem wt_le (O : List Str) : wt O ≤ 2 * O.length := by
  induction O with
  | nil => simp [wt]
  | cons x O ih => simp only [wt, List.map_cons, List.sum_cons, List.length_cons] at ih ⊢; split <;> omega
theorem wt_pos (O : List Str) (h : O ≠ []) : 0 < wt O := by
  obtain ⟨r, x, rfl⟩ := snocS O h
  rw [wt_snoc]; split <;> omega
theorem close_all {bs ws later : List Str} {i j : Nat} {t : MT} {body : SM} {σ : MSt} (g : List Ln → List Str → MH) (bound : Nat) (hij : i ≠ j) (hbd : bound ≤ 90000)
    (gi : ∀ L O, (g L O)[i]? = some (.lst (L.map encL))) (gj : ∀ L O, (g L O)[j]? = some (.lst (O.map .str))) (gs : ∀ L O L' O', ((g L O).set i (.lst (L'.map encL))).set j (.lst (O'.map .str)) = g L' O')
    (ht : ∀ L O, t σ (g L O) = some (decide (0 < O.length), g L O)) (hb : ∀ L O w h, bx__law_step_on [.ref i, .ref j] (g L O) = some (w, h) → body σ (g L O) = some (.nx σ h))
    (L : List Ln) (O : List Str) (hL : ∀ l ∈ L, LineOk bs ws later l) (hk : krun (L.map cdL) [] = some (O.reverse.map cd)) (hO : ∀ x ∈ O, x = "either" ∨ x = "again" ∨ x = "or") (hl : L.length + wt O ≤ bound) :
    ∃ L', (∀ l ∈ L', LineOk bs ws later l) ∧ Bal (L'.map cdL) ∧ L'.length ≤ bound ∧ dcn L' = dcn L ∧ mWhileN t body 1000000 σ (g L O) = some (.nx σ (g L' [])) := by
  have key := while_inv (t := t) (body := body) (fun n σ' h => σ' = σ ∧ ∃ L1 O, dcn L1 = dcn L ∧ h = g L1 O ∧ n = wt O ∧ (∀ l ∈ L1, LineOk bs ws later l) ∧ krun (L1.map cdL) [] = some (O.reverse.map cd) ∧ (∀ x ∈ O, x = "either" ∨ x = "again" ∨ x = "or") ∧ L1.length + wt O ≤ bound) (wt O) 1000000 σ (g L O) (by omega) ⟨rfl, L, O, rfl, rfl, rfl, hL, hk, hO, hl⟩ ?_
  · obtain ⟨σ', h', e, rfl, L', O', hdc, rfl, hw, h1, h2, h3, h4⟩ := key
    have : O' = [] := by
      cases O' with
      | nil => rfl
      | cons x r => have := wt_pos (x :: r) (by simp); omega
    subst this
    exact ⟨L', h1, bal_iff.mpr h2, by omega, hdc, e⟩
  · rintro n σ' h ⟨rfl, L1, O, hdc, rfl, rfl, h1, h2, h3, h4⟩
    by_cases hne : O = []
    · subst hne
      exact .inl ⟨by rw [ht]; rfl, rfl⟩
    · refine .inr ⟨by rw [ht, decide_eq_true (List.length_pos_iff.mpr hne)], ?_⟩
      obtain ⟨r, x, rfl⟩ := snocS O hne
      rw [rev_snoc] at h2
      rw [wt_snoc] at h4 ⊢
      by_cases hx : x = "either"
      · subst hx
        rw [if_pos rfl] at h4 ⊢
        refine ⟨wt (r ++ [("or" : Str)]), σ', g (L1 ++ [orL]) (r ++ [("or" : Str)]), ?_, .inl ?_, rfl, _, _, (dcn_not (by decide)).trans hdc, rfl, rfl, app_all h1 line_or, ?_, set_all h3 (by simp), ?_⟩
        · rw [wt_snoc, if_neg (by decide)]; omega
        · refine hb _ _ .non _ ?_
          rw [step_e (L := L1) (O := r) (by omega) hij (gi _ _) (gj _ _), gs]
        · rw [cds_snoc, rev_snoc]
          exact krun_one h2 rfl
        · rw [wt_snoc, if_neg (by decide)]; simp; omega
      · rw [if_neg hx] at h4 ⊢
        refine ⟨wt r, σ', g (L1 ++ [endL]) r, by omega, .inl ?_, rfl, _, _, (dcn_not (by decide)).trans hdc, rfl, rfl, app_all h1 line_end, ?_, fun y hy => h3 y (List.mem_append_left _ hy), ?_⟩
        · refine hb _ _ .non _ ?_
          rw [step_n (L := L1) (O := r) hx (by omega) hij (gi _ _) (gj _ _), gs]
        · rw [cds_snoc]
          refine krun_one h2 ?_
          show kst (cd "end") _ = _
          rw [cd_end]
          exact kst_en (opk (h3 x (by simp)) hx)
        · simp; omega
theorem part_ok (f : Fd) (size : Nat) (bs ws later : List Str) (op ds : Int) (hds : 0 ≤ ds) (hs : size ≤ 100) (hb : 0 < bs.length) (hb2 : bs.length ≤ 5) (hw : 0 < ws.length) (hw2 : ws.length ≤ 5) (hla : later.length ≤ 5) :
    ∃ (ls : List Ln) (f' : Fd), Bal (ls.map cdL) ∧ (∀ l ∈ ls, LineOk bs ws later l) ∧ ls.length ≤ 3 * size ∧ (dcn ls : Int) ≤ ds ∧ ∀ (h : MH) (n : Nat), h[n]? = some (encF f) → bx__law_part [.ref n, .int size, .tup [strL bs, strL ws], strL later, .int op, .int ds] h = some (.tup (ls.map encL), h.set n (encF f')) := by
  have loop := for_inv (items := rangeW 0 size) (b := gSet 8) (body := bd__law_part_1) (PI bs ws later size ds) (rangeW 0 size) 0 [some (.ref 0), some (.int size), some (.tup [strL bs, strL ws]), some (strL later), some (.int op), some (.int ds), some (.ref 1), some (.ref 2), none, none] [encF f, .lst [], .lst []]
    ⟨f, [], [], op, ds, none, none, rfl, rfl, by simp, rfl, by simp, rfl, Nat.le_refl _, by simp [dcn], hds⟩ (fun j w hj σ h H => part_turn hb hb2 hw hw2 hla (by have := (List.getElem?_eq_some_iff.mp hj).1; rw [range_len] at this; omega) H)
  obtain ⟨σ', h', e1, H⟩ := loop
  obtain ⟨f1, L, O, op1, ds1, kk, ww, rfl, rfl, hL, hk, hO, hl, hol, hdc, hd0⟩ := H.ex
  rw [range_len, Nat.zero_add] at hl hol
  have cl := close_all (bs := bs) (ws := ws) (later := later) (i := 1) (j := 2) (t := mTest (mBin wGt (mFn wLen (mCons (mVar 7) mNil)) (mC (.int 0)))) (body := bd__law_part_2) (σ := [some (.ref 0), some (.int size), some (.tup [strL bs, strL ws]), some (strL later), some (.int op1), some (.int ds1), some (.ref 1), some (.ref 2), kk, ww])
    (fun L O => [encF f1, .lst (L.map encL), .lst (O.map .str)]) (3 * size) (by decide) (by omega) (fun _ _ => rfl) (fun _ _ => rfl) (fun _ _ _ _ => rfl) (fun L O => by simp) (fun L O w h e => by simp [e]) L O hL hk hO (by have := wt_le O; omega)
  obtain ⟨L', h1, h2, h3, hd1, e2⟩ := cl
  refine ⟨L', f1, h2, h1, h3, by rw [hd1]; omega, fun h n hn => ?_⟩
  refine box_one (o := encF f) (g := [.lst (L'.map encL), .lst []]) (by simp) hn (by simp [encF]) ?_ (by simp) ⟨_, rfl, by simp⟩
  have er : miR1 (mCons (mVar 1) mNil) [some (.ref 0), some (.int size), some (.tup [strL bs, strL ws]), some (strL later), some (.int op), some (.int ds), some (.ref 1), some (.ref 2), none, none] [encF f, .lst [], .lst []] = some (rangeW 0 size, none, [encF f, .lst [], .lst []]) := e_range (by simp) (by omega)
  simp [sem__law_part, mDef, mFor, er, e1, e2]
end My

namespace My
open PySem PySem.Spec PyProof.Rows L2 Mi My3 My4
noncomputable abbrev dmax (i : Nat) : Nat := if i = 0 then 23 else 1
structure GoodP (N : Nat) (bs ws : List Str) (p : List Pt) : Prop where
  ne : p ≠ []
  len : p.length ≤ 5
  bal : ∀ x ∈ p, Bal (x.2.map cdL)
  sz : ∀ x ∈ p, x.2.length ≤ N
  ok : ∀ (i : Nat) (x : Pt), p[i]? = some x → ∀ l ∈ x.2, LineOk bs ws ((p.map (·.1)).drop (i + 1)) l
  nd : (p.map (·.1)).Nodup
  dos : ∀ (i : Nat) (x : Pt), p[i]? = some x → dcn x.2 ≤ dmax i
theorem cut_from {α : Type} (xs : List α) (k : Nat) : cutW xs (some (k : Int)) none = xs.drop k := by
  unfold cutW
  rw [HT.sIx_nat, HT.sIx_none]
  by_cases h : k ≤ xs.length
  · rw [Nat.min_eq_left h, List.take_of_length_le (by simp)]
  · rw [Nat.min_eq_right (by omega), List.drop_eq_nil_of_le (Nat.le_refl _), List.drop_eq_nil_of_le (by omega)]; simp
theorem s_slSL {ns : List Str} {k : Nat} {i : Int} {h : MH} (hk : i = k) : wSl (strL ns) (some i) none h = some (strL (ns.drop k), h) := by
  subst hk
  unfold strL
  simp [cut_from, List.map_drop]
@[simp] theorem s_slSL1 {ns : List Str} {h : MH} : wSl (strL ns) (some 1) none h = some (strL (ns.drop 1), h) := s_slSL (k := 1) rfl
theorem natI {i : Int} (h : 0 ≤ i) : ∃ n : Nat, i = n := ⟨i.toNat, by omega⟩
theorem e_range2 {ms : MA} {σ : MSt} {h h' : MH} {j : Nat} (e : ms σ h = some ([.int 1, .int j], h')) (hj : j < 100000000) : miR2 ms σ h = some (rangeW 1 (j - 1), none, h') := by
  unfold miR2
  rw [e, Option.bind_some]
  refine (if_pos ⟨by omega, by omega, by omega, by omega⟩).trans ?_
  rw [show ((j : Int) - 1).toNat = j - 1 by omega]
structure PP (N : Nat) (bs ws names : List Str) (k : Nat) (p : List Pt) : Prop where
  nm : p.map (·.1) = names.take k
  bal : ∀ x ∈ p, Bal (x.2.map cdL)
  sz : ∀ x ∈ p, x.2.length ≤ N
  ok : ∀ (i : Nat) (x : Pt), p[i]? = some x → ∀ l ∈ x.2, LineOk bs ws (names.drop (i + 1)) l
  dos : ∀ (i : Nat) (x : Pt), p[i]? = some x → dcn x.2 ≤ dmax i
theorem PP.snoc {N : Nat} {bs ws names : List Str} {k : Nat} {p : List Pt} {nm : Str} {ls : List Ln} (H : PP N bs ws names k p) (hk : names[k]? = some nm) (hb : Bal (ls.map cdL)) (hs : ls.length ≤ N) (ho : ∀ l ∈ ls, LineOk bs ws (names.drop (k + 1)) l) (hd : dcn ls ≤ dmax k) : PP N bs ws names (k + 1) (p ++ [(nm, ls)]) := by
  have hlt := (List.getElem?_eq_some_iff.mp hk).1
  have hpl : p.length = k := by have := congrArg List.length H.nm; simp at this; omega
  refine ⟨?_, app_all H.bal hb, app_all H.sz hs, fun i x hx => ?_, fun i x hx => ?_⟩
  · rw [List.map_append, H.nm, List.take_succ_eq_append_getElem hlt]
    rw [List.getElem?_eq_getElem hlt] at hk
    cases hk; rfl
  · by_cases hi : i < p.length
    · rw [List.getElem?_append_left hi] at hx
      exact H.ok i x hx
    · have : i = p.length := by have := (List.getElem?_eq_some_iff.mp hx).1; simp at this; omega
      subst this
      simp at hx
      subst hx
      rw [hpl]; exact ho
  · by_cases hi : i < p.length
    · rw [List.getElem?_append_left hi] at hx
      exact H.dos i x hx
    · have : i = p.length := by have := (List.getElem?_eq_some_iff.mp hx).1; simp at this; omega
      subst this
      simp at hx
      subst hx
      rw [hpl]; exact hd
theorem PP.good {N : Nat} {bs ws names : List Str} {p : List Pt} (H : PP N bs ws names names.length p) (hn : names ≠ []) (hl : names.length ≤ 5) (hnd : names.Nodup) : GoodP N bs ws p := by
  have hm : p.map (·.1) = names := by rw [H.nm, List.take_length]
  have hpl : p.length = names.length := by rw [← hm]; simp
  refine ⟨fun z => hn (by rw [← hm, z]; rfl), by omega, H.bal, H.sz, ?_, by rw [hm]; exact hnd, H.dos⟩
  rw [hm]; exact H.ok
theorem program_ok (f : Fd) (b0 b1 b2 b3 : Nat) (h0 : 1 ≤ b0 ∧ b0 ≤ 5) (h1 : 1 ≤ b1 ∧ b1 ≤ 5) (h2 : 1 ≤ b2 ∧ b2 ≤ 5) (h3 : 3 ≤ b3 ∧ b3 ≤ 48) :
    ∃ (bs ws : List Str) (p : List Pt) (f' : Fd), (0 < bs.length ∧ bs.length ≤ 5) ∧ (0 < ws.length ∧ ws.length ≤ 5) ∧ GoodP 300 bs ws p ∧ ∀ (h : MH) (n : Nat), h[n]? = some (encF f) → bx__law_program [.ref n, .lst [.int b0, .int b1, .int b2, .int b3]] h = some (encP p, h.set n (encF f')) := by
  have q0 : (0 : Int) < b0 := by omega
  have q0' : (b0 : Int) < 1000000 := by omega
  have q1 : (0 : Int) < b1 := by omega
  have q1' : (b1 : Int) < 1000000 := by omega
  have q2 : (0 : Int) < b2 := by omega
  have q2' : (b2 : Int) < 1000000 := by omega
  obtain ⟨a0, a1⟩ := tk_b (f := f) q0
  obtain ⟨n0, e0⟩ := natI a0
  obtain ⟨bs, f1, lb, _, eb⟩ := names_ok (tf f b0) (1 + n0) (by omega)
  obtain ⟨c0, c1⟩ := tk_b (f := f1) q1
  obtain ⟨n1, e1⟩ := natI c0
  obtain ⟨ws, f2, lw, _, ew⟩ := names_ok (tf f1 b1) (1 + n1) (by omega)
  obtain ⟨d0, d1⟩ := tk_b (f := f2) q2
  obtain ⟨n2, e2⟩ := natI d0
  obtain ⟨names, f3, ln, hnd, en⟩ := names_ok (tf f2 b2) (1 + n2) (by omega)
  obtain ⟨g0, g1⟩ := tk_b (f := f3) (m := 3) (by decide)
  have hb : 0 < bs.length ∧ bs.length ≤ 5 := by omega
  have hw : 0 < ws.length ∧ ws.length ≤ 5 := by omega
  -- the size
  obtain ⟨size, f4, hs, es⟩ : ∃ (size : Nat) (f4 : Fd), size ≤ 60 ∧ (if tk (tf f3 3) 4 = 0 then @om _ _ (fun p => MF.nx [some (.ref 0), some (.lst [.int b0, .int b1, .int b2, .int b3]), some (.tup [strL bs, strL ws]), some (strL names), some p.fst, none, none] p.snd) (bx__law_take [.ref 0, .int (b3 - tk f3 3 + 1)] [encF (tf (tf f3 3) 4)])
      else some (MF.nx [some (.ref 0), some (.lst [.int b0, .int b1, .int b2, .int b3]), some (.tup [strL bs, strL ws]), some (strL names), some (.int (b3 - tk f3 3)), none, none] [encF (tf (tf f3 3) 4)])) = some (.nx [some (.ref 0), some (.lst [.int b0, .int b1, .int b2, .int b3]), some (.tup [strL bs, strL ws]), some (strL names), some (.int size), none, none] [encF f4]) := by
    by_cases z : tk (tf f3 3) 4 = 0
    · have r1 : (0 : Int) < b3 - tk f3 3 + 1 := by omega
      have r2 : (b3 : Int) - tk f3 3 + 1 < 1000000 := by omega
      obtain ⟨k0, k1⟩ := tk_b (f := tf (tf f3 3) 4) r1
      obtain ⟨sz, ez⟩ := natI k0
      exact ⟨sz, tf (tf (tf f3 3) 4) (b3 - tk f3 3 + 1), by omega, by simp [z, bx_take r1 r2, ez]⟩
    · obtain ⟨sz, ez⟩ := natI (i := b3 - tk f3 3) (by omega)
      exact ⟨sz, tf (tf f3 3) 4, by omega, by simp [z, ez]⟩
  obtain ⟨l0, f5, p1, p2, p3, p4, ep⟩ := part_ok f4 size bs ws (names.drop 1) 2 2 (by omega) (by omega) hb.1 hb.2 hw.1 hw.2 (by simp; omega)
  obtain ⟨nm0, hn0⟩ : ∃ x, names[0]? = some x := ⟨names[0]'(by omega), List.getElem?_eq_getElem (by omega)⟩
  have loop := for_inv (items := rangeW 1 (names.length - 1)) (b := gSet 6) (body := bd__law_program_1) (fun n σ h => ∃ (f : Fd) (p : List Pt) (kk : Option W), σ = [some (.ref 0), some (.lst [.int b0, .int b1, .int b2, .int b3]), some (.tup [strL bs, strL ws]), some (strL names), some (.int size), some (.ref 1), kk] ∧ h = [encF f, .lst (p.map encT)] ∧ PP 300 bs ws names (n + 1) p)
    (rangeW 1 (names.length - 1)) 0 [some (.ref 0), some (.lst [.int b0, .int b1, .int b2, .int b3]), some (.tup [strL bs, strL ws]), some (strL names), some (.int size), some (.ref 1), none] [encF f5, .lst [encT (nm0, l0)]]
    ⟨f5, [(nm0, l0)], none, rfl, rfl, PP.snoc (p := []) ⟨rfl, by simp, by simp, by simp, by simp⟩ hn0 p1 (by omega) p2 (by show _ ≤ 23; omega)⟩ (by
      rintro j w hj σ h ⟨f, p, kk, rfl, rfl, H⟩
      have hjl := (List.getElem?_eq_some_iff.mp hj).1
      rw [range_len] at hjl
      obtain rfl : w = .int ((j : Int) + 1) := by rw [(range_get hj).2, Int.add_comm]
      refine ⟨_, rfl, ?_⟩
      obtain ⟨t0, t1⟩ := tk_b (f := f) (m := 4) (by decide)
      obtain ⟨m, em⟩ := natI t0
      obtain ⟨ls, f', r1, r2, r3, r4, er⟩ := part_ok (tf f 4) m bs ws (names.drop (j + 2)) 1 1 (by omega) (by omega) hb.1 hb.2 hw.1 hw.2 (by simp; omega)
      obtain ⟨nm, hnm⟩ : ∃ x, names[j + 1]? = some x := ⟨names[j + 1]'(by omega), List.getElem?_eq_getElem (by omega)⟩
      refine ⟨[some (.ref 0), some (.lst [.int b0, .int b1, .int b2, .int b3]), some (.tup [strL bs, strL ws]), some (strL names), some (.int size), some (.ref 1), some (.int ((j : Int) + 1))], [encF f', .lst ((p ++ [(nm, ls)]).map encT)], .inl ?_, f', _, _, rfl, rfl, ?_⟩
      · have ea : atI (names.map W.str) ((j : Int) + 1) = some (.str nm) := by rw [show (j : Int) + 1 = ((j + 1 : Nat) : Int) by omega, atI_nat', List.getElem?_map, hnm]; rfl
        have esl : ∀ h, wSl (strL names) (some ((j : Int) + 1 + 1)) none h = some (strL (names.drop (j + 2)), h) := fun h => s_slSL (by omega)
        have hpl : p.length < sizeLine := by have := congrArg List.length H.nm; simp at this; exact sizeT (by omega)
        simp [ea, esl, em, er, hpl, encT]
      · rw [Nat.zero_add] at H ⊢
        exact H.snoc hnm r1 (by omega) r2 (by rw [dmax, if_neg (by omega)]; omega))
  obtain ⟨σ', h', el, f6, p, kk, rfl, rfl, H⟩ := loop
  rw [range_len, Nat.zero_add, show names.length - 1 + 1 = names.length by omega] at H
  refine ⟨bs, ws, p, f6, hb, hw, H.good (by intro z; rw [z] at ln; simp at ln; omega) (by omega) hnd, fun h n hn => ?_⟩
  refine box_one (o := encF f) (g := [.lst (p.map encT)]) (by simp) hn (by simp [encF]) ?_ (by simp) ⟨_, rfl, by simp⟩
  have er : miR2 (mCons (mC (.int 1)) (mCons (mFn wLen (mCons (mVar 3) mNil)) mNil)) [some (.ref 0), some (.lst [.int b0, .int b1, .int b2, .int b3]), some (.tup [strL bs, strL ws]), some (strL names), some (.int size), some (.ref 1), none] [encF f5, .lst [encT (nm0, l0)]] = some (rangeW 1 (names.length - 1), none, [encF f5, .lst [encT (nm0, l0)]]) := e_range2 (by simp) (by omega)
  have ea : atI (names.map W.str) 0 = some (.str nm0) := by rw [sI_0, List.getElem?_map, hn0]; rfl
  push_cast at eb ew en
  rw [List.drop_one] at ep
  have en0 : encT (nm0, l0) = .tup [.str nm0, .tup (l0.map encL)] := rfl
  rw [en0] at er el
  simp [sem__law_program, mDef, mFor, bx_take q0 q0', bx_take q1 q1', bx_take q2 q2', e0, e1, e2, eb, ew, en, es, ea, ep, er, el, encP]
end My

namespace My
open PySem PySem.Spec PyProof.Rows L2 Mi My3 My4
@[simp] theorem s_addL {xs ys : List W} {h : MH} : wAdd (.lst xs) (.lst ys) h = if xs.length + ys.length ≤ sizeLine then some (.lst (xs ++ ys), h) else none := id rfl
theorem krun_ot : ∀ {ls : List Cd} {s : List Cd}, (∀ c ∈ ls, c = .ot) → krun ls s = some s
  | [], _, _ => rfl
  | c :: ls, s, h => by
    rw [h c List.mem_cons_self]
    show krun ls s = some s
    exact krun_ot fun c hc => h c (List.mem_cons_of_mem _ hc)
theorem bal_ot {ls : List Ln} (h : ∀ l ∈ ls, cdL l = .ot) : Bal (ls.map cdL) := bal_iff.mpr (krun_ot fun c hc => by obtain ⟨l, hl, rfl⟩ := List.mem_map.mp hc; exact h l hl)
theorem five : ∀ {ns : List Str}, ns.length = 5 → ∃ a b c d e : Str, ns = [a, b, c, d, e]
  | [a, b, c, d, e], _ => ⟨a, b, c, d, e, rfl⟩
noncomputable abbrev gS (bs ws ns : List Str) (x3 x4 x5 x6 x7 x8 : Option W) : MSt := [some (.ref 0), some (.tup [strL bs, strL ws]), some (strL ns), x3, x4, x5, x6, x7, x8]
theorem great0 (f : Fd) (bs ws : List Str) (hb : 0 < bs.length ∧ bs.length ≤ 5) (hw : 0 < ws.length ∧ ws.length ≤ 5) (σ : MSt) (hσ : ∃ o, capM [none, some 0, some 1] σ = [o, some (.ref 0), some (.tup [strL bs, strL ws])]) (mi : MI) (m : Nat) (hm : m ≤ 100) (g : Fd) (hmi : mi σ [encF f] = some (rangeW 0 m, none, [encF g])) :
    ∃ (ls : List Ln) (f' : Fd), (∀ l ∈ ls, PlainL bs ws l) ∧ ls.length = m ∧ mComp fNew mi [none, some 0, some 1] (gSet 0) mYes (mCall 3 bx__law_plain (mCons (mVar 1) (mCons (mBin wIx (mVar 2) (mC (.int 0))) (mCons (mBin wIx (mVar 2) (mC (.int 1))) mNil)))) σ [encF f] = some (.ref 1, [encF f', .lst (ls.map encL)]) := by
  obtain ⟨o, ho⟩ := hσ
  have key := comp_inv (items := rangeW 0 m) (b := gSet 0) (me := mCall 3 bx__law_plain (mCons (mVar 1) (mCons (mBin wIx (mVar 2) (mC (.int 0))) (mCons (mBin wIx (mVar 2) (mC (.int 1))) mNil)))) (fin := fNew)
    (fun (acc : List Ln) τ h => ∃ f o, τ = [o, some (.ref 0), some (.tup [strL bs, strL ws])] ∧ h = [encF f] ∧ ∀ l ∈ acc, PlainL bs ws l) encL (rangeW 0 m) [] [o, some (.ref 0), some (.tup [strL bs, strL ws])] [encF g] ⟨g, o, rfl, rfl, by simp⟩ (by simp [range_len]; exact sizeL (by omega)) (by
      rintro w hw' acc τ h ⟨f, o, rfl, rfl, ha⟩
      obtain ⟨l, f', hp, ep⟩ := plain_ok f bs ws hb.1 hb.2 hw.1 hw.2
      exact ⟨_, l, [encF f'], rfl, by simp [ep], f', _, rfl, rfl, app_all ha hp⟩)
  obtain ⟨ls, τ', h', e, ⟨f', o', rfl, rfl, hl⟩, hlen⟩ := key
  refine ⟨ls, f', hl, by simpa [range_len] using hlen, ?_⟩
  unfold mComp
  rw [hmi, Option.bind_some]
  simp only [ho]
  exact e
structure GI (bs ws ns : List Str) (n : Nat) (σ : MSt) (h : MH) : Prop where
  ex : ∃ (f : Fd) (L : List Ln) (O : List Str) (x3 x5 x6 x8 : Option W), σ = gS bs ws ns x3 (some (.ref 1)) x5 x6 (some (.ref 2)) x8 ∧ h = [encF f, .lst (L.map encL), .lst (O.map .str)] ∧
    (∀ l ∈ L, LineOk bs ws (ns.drop 1) l) ∧ krun (L.map cdL) [] = some (O.reverse.map cd) ∧ (∀ x ∈ O, x = "either" ∨ x = "again" ∨ x = "or") ∧ L.length = 2 * n ∧ O.length = n ∧ dcn L = 0
theorem great_turn {bs ws ns : List Str} {n : Nat} {σ : MSt} {h : MH} {k : W} (hb : 0 < bs.length ∧ bs.length ≤ 5) (hw : 0 < ws.length ∧ ws.length ≤ 5) (hn : n ≤ 10) (H : GI bs ws ns n σ h) :
    ∃ σ1, gSet 8 k σ h = some σ1 ∧ ∃ σ2 h2, (bd__law_great_1 σ1 h = some (.nx σ2 h2) ∨ bd__law_great_1 σ1 h = some (.ct σ2 h2)) ∧ GI bs ws ns (n + 1) σ2 h2 := by
  obtain ⟨f, L, O, x3, x5, x6, x8, rfl, rfl, hL, hk, hO, hl, hol, hdc⟩ := H.ex
  refine ⟨_, rfl, ?_⟩
  obtain ⟨l, f1, hp, ep⟩ := plain_ok f bs ws hb.1 hb.2 hw.1 hw.2
  obtain ⟨a0, a1⟩ := tk_b (f := f1) (m := 2) (by decide)
  obtain ⟨x, _, hx, ex⟩ := pickI (xs := ([("either" : Str), "again"])) (f := W.str) (P := fun x => x = "either" ∨ x = "again") a0 (by show tk f1 2 < 2; omega) (by simp)
  simp at ex
  have s1 : L.length < sizeLine := sizeT (by omega)
  have s2 : L.length + 1 < sizeLine := sizeT (by omega)
  have s3 : O.length < sizeLine := sizeT (by omega)
  refine ⟨gS bs ws ns x3 (some (.ref 1)) x5 x6 (some (.ref 2)) (some k), [encF (tf f1 2), .lst ((L ++ [l] ++ [[x]]).map encL), .lst ((O ++ [x]).map .str)], .inl ?_, ⟨_, _, _, _, _, _, _, rfl, rfl, ?_, ?_, ?_, ?_, ?_, ?_⟩⟩
  · simp [ep, ex, s1, s2, s3, encL]
  · exact app_all (app_all hL (.plain hp)) (.blk (by rcases hx with rfl | rfl <;> simp))
  · rw [cds_snoc, cds_snoc, rev_snoc]
    refine krun_one (krun_one hk (by rw [plain_ot hp]; rfl)) ?_
    rcases hx with rfl | rfl
    · rfl
    · show kst (cd "again") _ = _
      rw [cd_again]; rfl
  · exact app_all hO (by rcases hx with z | z <;> simp [z])
  · simp [hl]; omega
  · simp [hol]
  · rw [dcn_not (by rcases hx with rfl | rfl <;> decide), dcn_not (plain_nd hp)]; exact hdc
theorem great_close {bs ws ns : List Str} {σ : MSt} {h : MH} (hb : 0 < bs.length ∧ bs.length ≤ 5) (hw : 0 < ws.length ∧ ws.length ≤ 5) (H : GI bs ws ns 6 σ h) : ∃ (f : Fd) (L : List Ln) (x3 x5 x6 x8 : Option W), (∀ l ∈ L, LineOk bs ws (ns.drop 1) l) ∧ Bal (L.map cdL) ∧ L.length ≤ 100 ∧ dcn L = 0 ∧
    mWhileN (mTest (mBin wGt (mFn wLen (mCons (mVar 7) mNil)) (mC (.int 0)))) bd__law_great_2 1000000 σ h = some (.nx (gS bs ws ns x3 (some (.ref 1)) x5 x6 (some (.ref 2)) x8) [encF f, .lst (L.map encL), .lst []]) := by
  obtain ⟨f, L, O, x3, x5, x6, x8, rfl, rfl, hL, hk, hO, hl, hol, hdc⟩ := H.ex
  have key := while_inv (t := mTest (mBin wGt (mFn wLen (mCons (mVar 7) mNil)) (mC (.int 0)))) (body := bd__law_great_2) (fun n σ' h => σ' = gS bs ws ns x3 (some (.ref 1)) x5 x6 (some (.ref 2)) x8 ∧ ∃ f L O, dcn L = 0 ∧ h = [encF f, .lst (L.map encL), .lst (O.map .str)] ∧ n = wt O ∧ (∀ l ∈ L, LineOk bs ws (ns.drop 1) l) ∧ krun (L.map cdL) [] = some (O.reverse.map cd) ∧ (∀ x ∈ O, x = "either" ∨ x = "again" ∨ x = "or") ∧ L.length + 2 * wt O ≤ 40) (wt O) 1000000 _ _ (by have := wt_le O; omega) ⟨rfl, f, L, O, hdc, rfl, rfl, hL, hk, hO, by have := wt_le O; omega⟩ ?_
  · obtain ⟨σ', h', e, rfl, f', L', O', hdc', rfl, hw, h1, h2, h3, h4⟩ := key
    have : O' = [] := by
      cases O' with
      | nil => rfl
      | cons x r => have := wt_pos (x :: r) (by simp); omega
    subst this
    exact ⟨f', L', x3, x5, x6, x8, h1, bal_iff.mpr h2, by omega, hdc', e⟩
  · rintro n σ' h ⟨rfl, f, L, O, hdc', rfl, rfl, h1, h2, h3, h4⟩
    by_cases hne : O = []
    · subst hne
      exact .inl ⟨by simp, rfl⟩
    · refine .inr ⟨by simp; exact List.length_pos_iff.mpr hne, ?_⟩
      obtain ⟨l, f1, hp, ep⟩ := plain_ok f bs ws hb.1 hb.2 hw.1 hw.2
      obtain ⟨r, x, rfl⟩ := snocS O hne
      rw [rev_snoc] at h2
      rw [wt_snoc] at h4 ⊢
      have h2' : krun ((L ++ [l]).map cdL) [] = some (cd x :: r.reverse.map cd) := by
        rw [cds_snoc]
        exact krun_one h2 (by rw [plain_ot hp]; rfl)
      have s1 : L.length < sizeLine := sizeT (by omega)
      by_cases hx : x = "either"
      · subst hx
        rw [if_pos rfl] at h4 ⊢
        have es := step_e (L := L ++ [l]) (O := r) (h := [encF f1, .lst ((L ++ [l]).map encL), .lst ((r ++ [("either" : Str)]).map .str)]) (i := 1) (j := 2) (by simp; omega) (by decide) rfl rfl
        refine ⟨wt (r ++ [("or" : Str)]), _, [encF f1, .lst ((L ++ [l] ++ [orL]).map encL), .lst ((r ++ [("or" : Str)]).map .str)], ?_, .inl ?_, rfl, _, _, _, ((dcn_not (by decide)).trans (dcn_not (plain_nd hp))).trans hdc', rfl, rfl, app_all (app_all h1 (.plain hp)) line_or, ?_, set_all h3 (by simp), ?_⟩
        · rw [wt_snoc, if_neg (by decide)]; omega
        · simp at es
          simp [ep, s1, es]
        · rw [cds_snoc, rev_snoc]
          exact krun_one h2' rfl
        · rw [wt_snoc, if_neg (by decide)]; simp; omega
      · rw [if_neg hx] at h4 ⊢
        have es := step_n (L := L ++ [l]) (O := r) (x := x) (h := [encF f1, .lst ((L ++ [l]).map encL), .lst ((r ++ [x]).map .str)]) (i := 1) (j := 2) hx (by simp; omega) (by decide) rfl rfl
        refine ⟨wt r, _, [encF f1, .lst ((L ++ [l] ++ [endL]).map encL), .lst (r.map .str)], by omega, .inl ?_, rfl, _, _, _, ((dcn_not (by decide)).trans (dcn_not (plain_nd hp))).trans hdc', rfl, rfl, app_all (app_all h1 (.plain hp)) line_end, ?_, fun y hy => h3 y (List.mem_append_left _ hy), ?_⟩
        · simp at es
          simp [ep, s1, es]
        · rw [cds_snoc]
          refine krun_one h2' ?_
          show kst (cd "end") _ = _
          rw [cd_end]
          exact kst_en (opk (h3 x (by simp)) hx)
        · simp; omega
theorem good_one {bs ws : List Str} {nm : Str} {ls : List Ln} (hb : Bal (ls.map cdL)) (hs : ls.length ≤ 300) (ho : ∀ l ∈ ls, LineOk bs ws [] l) (hd : dcn ls = 0) : GoodP 300 bs ws [(nm, ls)] := by
  refine ⟨by simp, by simp, by simpa using hb, by simpa using hs, fun i x hx => ?_, by simp, fun i x hx => ?_⟩
  · cases i with
    | zero => simp at hx; subst hx; simpa using ho
    | succ i => simp at hx
  · cases i with
    | zero => simp at hx; subst hx; show dcn ls ≤ _; omega
    | succ i => simp at hx
theorem great_ok (f : Fd) : ∃ (bs ws : List Str) (p : List Pt) (f' : Fd), (0 < bs.length ∧ bs.length ≤ 5) ∧ (0 < ws.length ∧ ws.length ≤ 5) ∧ GoodP 300 bs ws p ∧ ∀ (h : MH) (n : Nat), h[n]? = some (encF f) → bx__law_great [.ref n] h = some (encP p, h.set n (encF f')) := by
  obtain ⟨bs, f1, lb, _, eb⟩ := names_ok f 5 (by omega)
  obtain ⟨ws, f2, lw, _, ew⟩ := names_ok f1 5 (by omega)
  obtain ⟨ns, f3, ln, hnd, en⟩ := names_ok f2 5 (by omega)
  obtain ⟨a, b, c, d, e, rfl⟩ := five ln
  have hb : 0 < bs.length ∧ bs.length ≤ 5 := by omega
  have hw : 0 < ws.length ∧ ws.length ≤ 5 := by omega
  simp at eb ew en
  obtain ⟨w0, w1⟩ := tk_b (f := f3) (m := 3) (by decide)
  have pg : sem__law_great [.ref 0] [encF f] = mFin (tl__law_great (gS bs ws [a, b, c, d, e] (some (.int (tk f3 3))) none none none none none) [encF (tf f3 3)]) := by simp [sem__law_great, mDef, eb, ew, en]
  by_cases hz : tk f3 3 = 0
  · obtain ⟨m0, m1⟩ := tk_b (f := tf f3 3) (m := 9) (by decide)
    obtain ⟨m, em⟩ := natI m0
    obtain ⟨ls, f', hp, hl, ec⟩ := great0 (tf f3 3) bs ws hb hw (gS bs ws [a, b, c, d, e] (some (.int 0)) none none none none none) ⟨none, rfl⟩ (miR1 (mCons (mBin wAdd (mC (.int 40)) (mCall 2 bx__law_take (mCons (mVar 0) (mCons (mC (.int 9)) mNil)))) mNil)) (40 + m) (by omega) (tf (tf f3 3) 9) (e_range (j := 40 + m) (by simp [em]) (by omega))
    refine ⟨bs, ws, [(a, ls)], f', hb, hw, good_one (bal_ot fun l hl => plain_ot (hp l hl)) (by omega) (fun l hl => .plain (hp l hl)) (by unfold dcn; rw [List.countP_eq_zero]; intro l hl; rw [plain_nd (hp l hl)]; simp), fun h n hn => ?_⟩
    refine box_one (o := encF f) (g := [.lst (ls.map encL)]) (by simp) hn (by simp [encF]) ?_ (by simp) ⟨_, rfl, by simp⟩
    rw [pg]
    simp [tl__law_great, hz, ec, encP, encT]
  · by_cases ho : tk f3 3 = 1
    · obtain ⟨m0, m1⟩ := tk_b (f := tf f3 3) (m := 2) (by decide)
      obtain ⟨m, em⟩ := natI m0
      obtain ⟨ls, f4, r1, r2, r3, r4, er⟩ := part_ok (tf (tf f3 3) 2) m bs ws [] 0 0 (by omega) (by omega) hb.1 hb.2 hw.1 hw.2 (by simp)
      obtain ⟨k0, k1⟩ := tk_b (f := f4) (m := 4) (by decide)
      obtain ⟨k, ek⟩ := natI k0
      refine ⟨bs, ws, [(a, List.replicate (20 + k) (["do", b] : Ln)), (b, ls)], tf f4 4, hb, hw, ⟨by simp, by simp, ?_, ?_, ?_, ?_, ?_⟩, fun h n hn => ?_⟩
      · intro x hx
        simp at hx
        rcases hx with rfl | rfl
        · exact bal_ot fun l hl => by rw [(List.mem_replicate.mp hl).2]; show cd "do" = .ot; decide
        · exact r1
      · intro x hx
        simp at hx
        rcases hx with rfl | rfl
        · simp; omega
        · show ls.length ≤ 300; omega
      · intro i x hx
        match i, hx with
        | 0, hx =>
          simp at hx; subst hx
          intro l hl
          rw [(List.mem_replicate.mp hl).2]
          exact .do (by simp)
        | 1, hx => simp at hx; subst hx; simpa using r2
      · simp at hnd ⊢
        exact hnd.1.1
      · intro i x hx
        match i, hx with
        | 0, hx =>
          simp at hx; subst hx
          have := List.countP_le_length (p := isDo) (l := List.replicate (20 + k) (["do", b] : Ln))
          rw [List.length_replicate] at this
          show List.countP isDo (List.replicate (20 + k) (["do", b] : Ln)) ≤ 23
          omega
        | 1, hx => simp at hx; subst hx; show dcn ls ≤ 1; omega
      · refine box_one (o := encF f) (g := []) (by simp) hn (by simp [encF]) ?_ (by simp) ⟨_, rfl, by simp⟩
        have ec := comp_map (fin := fLst) (mi := miR1 (mCons (mVar 6) mNil)) (cp := [none, some 2]) (me := mFn wTup (mCons (mC (.str "do")) (mCons (mBin wIx (mVar 1) (mC (.int 1))) mNil))) (σ := gS bs ws [a, b, c, d, e] (some (.int 1)) none (some (.tup (ls.map encL))) (some (.int (20 + k))) none none) (caps := [some (strL [a, b, c, d, e])]) (h := [encF (tf f4 4)]) (items := rangeW 0 (20 + k))
          (fun _ => encL ["do", b]) (e_range (j := 20 + k) (by simp) (by omega)) ⟨_, rfl⟩ (fun w hw => by simp [encL]) (by rw [range_len]; exact sizeL (by omega))
        have er' : bx__law_part [.ref 0, .int m, .tup [strL bs, strL ws], .lst [], .int 0, .int 0] [encF (tf (tf f3 3) 2)] = some (.tup (ls.map encL), [encF f4]) := er _ 0 rfl
        have hconst : (rangeW 0 (20 + k)).map (fun _ => encL ["do", b]) = List.replicate (20 + k) (encL ["do", b]) := by rw [List.map_const', range_len]
        rw [hconst] at ec
        simp only [fLst] at ec
        rw [pg]
        simp [tl__law_great, ho, em, er', ek, ec, encP, encT]
    · have loop := for_inv (items := rangeW 0 6) (b := gSet 8) (body := bd__law_great_1) (GI bs ws [a, b, c, d, e]) (rangeW 0 6) 0 (gS bs ws [a, b, c, d, e] (some (.int (tk f3 3))) (some (.ref 1)) none none (some (.ref 2)) none) [encF (tf f3 3), .lst [], .lst []]
        ⟨_, [], [], _, _, _, _, rfl, rfl, by simp, rfl, by simp, rfl, rfl, rfl⟩ (fun j w hj σ h H => great_turn hb hw (by have := (range_get hj).1; omega) H)
      obtain ⟨σ', h', e1, H⟩ := loop
      rw [range_len, Nat.zero_add] at H
      obtain ⟨f4, L, x3, x5, x6, x8, c1, c2, c3, c4, e2⟩ := great_close hb hw H
      have hx : GoodP 300 bs ws [(a, L), (b, []), (c, []), (d, []), (e, [])] := by
        refine ⟨by simp, by simp, ?_, ?_, ?_, by simpa using hnd, ?_⟩
        · intro x hx
          simp at hx
          rcases hx with rfl | rfl | rfl | rfl | rfl
          · exact c2
          all_goals rfl
        · intro x hx
          simp at hx
          rcases hx with rfl | rfl | rfl | rfl | rfl <;> simp
          omega
        · intro i x hx
          match i, hx with
          | 0, hx => simp at hx; subst hx; simpa using c1
          | 1, hx => simp at hx; subst hx; simp
          | 2, hx => simp at hx; subst hx; simp
          | 3, hx => simp at hx; subst hx; simp
          | 4, hx => simp at hx; subst hx; simp
        · intro i x hx
          match i, hx with
          | 0, hx => simp at hx; subst hx; show dcn L ≤ _; omega
          | 1, hx => simp at hx; subst hx; simp [dcn]
          | 2, hx => simp at hx; subst hx; simp [dcn]
          | 3, hx => simp at hx; subst hx; simp [dcn]
          | 4, hx => simp at hx; subst hx; simp [dcn]
      refine ⟨bs, ws, _, f4, hb, hw, hx, fun h n hn => ?_⟩
      refine box_one (o := encF f) (g := [.lst (L.map encL), .lst []]) (by simp) hn (by simp [encF]) ?_ (by simp) ⟨_, rfl, by simp⟩
      have ec := comp_map (fin := fLst) (mi := miVal (mSl (mVar 2) (oSome (mC (.int 1))) oNone)) (cp := [none]) (me := mFn wTup (mCons (mVar 0) (mCons (mFn wTup mNil) mNil))) (σ := gS bs ws [a, b, c, d, e] x3 (some (.ref 1)) x5 x6 (some (.ref 2)) x8) (caps := []) (h := [encF f4, .lst (L.map encL), .lst []]) (items := [.str b, .str c, .str d, .str e])
        (fun w => .tup [w, .tup []]) (by simp [miVal]; rfl) ⟨_, rfl⟩ (fun w hw => by simp) (by simp)
      have er : miR1 (mCons (mC (.int 6)) mNil) (gS bs ws [a, b, c, d, e] (some (.int (tk f3 3))) (some (.ref 1)) none none (some (.ref 2)) none) [encF (tf f3 3), .lst [], .lst []] = some (rangeW 0 6, none, [encF (tf f3 3), .lst [], .lst []]) := e_range (j := 6) rfl (by decide)
      simp only [fLst] at ec
      rw [pg]
      simp [tl__law_great, mFor, ho, hz, er, e1, e2, ec, encP, encT]
end My

namespace My
open PySem PySem.Spec PyProof.Rows L2 Mi My3 My4
noncomputable def AnyOk (sem : List W → MH → Option (W × MH)) (f : Fd) (args : W → List W) : Prop := ∃ (bs ws : List Str) (p : List Pt) (f' : Fd), (0 < bs.length ∧ bs.length ≤ 5) ∧ (0 < ws.length ∧ ws.length ≤ 5) ∧ GoodP 300 bs ws p ∧ ∀ (h : MH) (n : Nat), h[n]? = some (encF f) → sem (args (.ref n)) h = some (encP p, h.set n (encF f'))
theorem any_ok (f : Fd) (b0 b1 b2 b3 : Nat) (h0 : 1 ≤ b0 ∧ b0 ≤ 5) (h1 : 1 ≤ b1 ∧ b1 ≤ 5) (h2 : 1 ≤ b2 ∧ b2 ≤ 5) (h3 : 3 ≤ b3 ∧ b3 ≤ 48) : AnyOk bx__law_any f fun r => [r, .lst [.int b0, .int b1, .int b2, .int b3]] := by
  by_cases hz : tk f 8 = 5
  · obtain ⟨bs, ws, p, f', hb, hw, hg, e⟩ := great_ok (tf f 8)
    refine ⟨bs, ws, p, f', hb, hw, hg, fun h n hn => ?_⟩
    refine box_one (o := encF f) (g := []) (by simp) hn (by simp [encF]) ?_ (by simp) ⟨_, rfl, by simp⟩
    simp [sem__law_any, mDef, hz, e]
  · obtain ⟨bs, ws, p, f', hb, hw, hg, e⟩ := program_ok (tf f 8) b0 b1 b2 b3 h0 h1 h2 h3
    refine ⟨bs, ws, p, f', hb, hw, hg, fun h n hn => ?_⟩
    refine box_one (o := encF f) (g := []) (by simp) hn (by simp [encF]) ?_ (by simp) ⟨_, rfl, by simp⟩
    simp [sem__law_any, mDef, hz, e]
noncomputable def pW : W → Bool
  | .tup (.str x :: _) => x == "pair"
  | _ => false
noncomputable def fW : W → W
  | .tup (_ :: _ :: z :: _) => z
  | _ => .non
theorem line_cons {bs ws la : List Str} {l : Ln} (h : LineOk bs ws la l) : ∃ x r, l = x :: r := by
  cases h with
  | plain h => cases h <;> exact ⟨_, _, rfl⟩
  | «do» h => exact ⟨_, _, rfl⟩
  | blk h => exact ⟨_, _, rfl⟩
  | back h => exact ⟨_, _, rfl⟩
theorem line_pair {bs ws la : List Str} {l : Ln} (h : LineOk bs ws la l) (hp : pW (encL l) = true) : ∃ x w y z : Str, l = (["pair", x, w, y, z] : Ln) ∧ w ∈ ws := by
  cases h with
  | plain h =>
    cases h with
    | pair hx hw hy hz => exact ⟨_, _, _, _, rfl, hw⟩
    | _ => simp [encL, pW] at hp
  | «do» h => simp [encL, pW] at hp
  | blk h => rcases h with rfl | rfl | rfl | rfl <;> simp [encL, pW] at hp
  | back h => simp [encL, pW] at hp
theorem pair_words {bs ws la : List Str} : ∀ {ls : List Ln}, (∀ l ∈ ls, LineOk bs ws la l) → ∃ W' : List Str, ((ls.map encL).filter pW).map fW = W'.map .str ∧ (∀ x ∈ W', x ∈ ws) ∧ W'.length ≤ ls.length
  | [], _ => ⟨[], rfl, by simp, Nat.le_refl _⟩
  | l :: ls, h => by
    obtain ⟨W', e, hw, hl⟩ := pair_words (ls := ls) fun x hx => h x (List.mem_cons_of_mem _ hx)
    by_cases hp : pW (encL l) = true
    · obtain ⟨x, w, y, z, rfl, hm⟩ := line_pair (h l List.mem_cons_self) hp
      refine ⟨w :: W', ?_, ?_, by simp; omega⟩
      · rw [List.map_cons, List.filter_cons_of_pos hp, List.map_cons, e]; rfl
      · intro q hq
        rcases List.mem_cons.mp hq with rfl | hq
        · exact hm
        · exact hw q hq
    · refine ⟨W', ?_, hw, by simp; omega⟩
      rw [List.map_cons, List.filter_cons_of_neg hp, e]
theorem words_turn {bs ws la : List Str} {p : List Pt} {x : Pt} {f : Fd} {Wd : List Str} {x3 x4 x5 x6 x7 : Option W} (hx : ∀ l ∈ x.2, LineOk bs ws la l) (hs : x.2.length ≤ 300) (hw : Wd.length ≤ 3000) : ∃ W' : List Str, (∀ y ∈ W', y ∈ ws) ∧ W'.length ≤ 300 ∧
    bd__law_dressed_1 [some (encP p), some (.ref 0), some (.ref 1), some (.str x.1), some (.tup (x.2.map encL)), x5, x6, x7] [encF f, .lst (Wd.map .str)] = some (.nx [some (encP p), some (.ref 0), some (.ref 1), some (.str x.1), some (.tup (x.2.map encL)), x5, x6, x7] [encF f, .lst ((Wd ++ W').map .str)]) := by
  obtain ⟨W', e, h1, h2⟩ := pair_words hx
  refine ⟨W', h1, by omega, ?_⟩
  have ec := comp_filt (fin := fLst) (mi := miVal (mVar 4)) (cp := [none]) (mt := mTest (mBin wEq (mBin wIx (mVar 0) (mC (.int 0))) (mC (.str "pair")))) (me := mBin wIx (mVar 0) (mC (.int 2))) (σ := [some (encP p), some (.ref 0), some (.ref 1), some (.str x.1), some (.tup (x.2.map encL)), x5, x6, x7]) (caps := []) (h := [encF f, .lst (Wd.map .str)]) (items := x.2.map encL)
    fW pW (by simp [miVal]; rfl) ⟨_, rfl⟩ (fun w hw => by
      obtain ⟨l, hl, rfl⟩ := List.mem_map.mp hw
      obtain ⟨y, r, rfl⟩ := line_cons (hx l hl)
      simp [encL, pW]) (fun w hw hp => by
      obtain ⟨l, hl, rfl⟩ := List.mem_map.mp hw
      obtain ⟨y, w, u, z, rfl, _⟩ := line_pair (hx l hl) hp
      simp [encL, fW]) (by simp; exact sizeL (by omega))
  rw [e] at ec
  simp only [fLst] at ec
  have s1 : Wd.length + W'.length ≤ sizeLine := sizeL (by omega)
  simp [ec, s1]
noncomputable abbrev dS (p : List Pt) (x3 x4 x5 x6 x7 : Option W) : MSt := [some (encP p), some (.ref 0), some (.ref 1), x3, x4, x5, x6, x7]
noncomputable abbrev dH (f : Fd) (Wd : List Str) (ps : List Pt) (gs : MH) (F : List Ln) : MH := encF f :: .lst (Wd.map .str) :: .lst (ps.map encT) :: (gs ++ [.lst (F.map encL)])
theorem at_last {α : Type} {gs : List α} {x : α} : (gs ++ [x])[gs.length]? = some x := by simp
structure DI (bs ws la : List Str) (ls F : List Ln) (n : Nat) : Prop where
  ok : ∀ l ∈ F, LineOk bs ws la l
  k : krun (F.map cdL) [] = krun ((ls.take n).map cdL) []
  sz : F.length ≤ 2 * n
  dc : dcn F = dcn (ls.take n)
theorem krun_ot1 {ls : List Cd} {s : List Cd} : krun (ls ++ [.ot]) s = krun ls s := by
  rw [krun_app]
  cases krun ls s <;> rfl
theorem krun_cong {a b : List Cd} {c : Cd} (h : krun a [] = krun b []) : krun (a ++ [c]) [] = krun (b ++ [c]) [] := by rw [krun_app, krun_app, h]
theorem cd_back (x : Str) : cdL ["back", x] = .ot := by show cd "back" = .ot; decide
theorem dress_turn {bs ws la : List Str} {p ps : List Pt} {nm : Str} {ls F : List Ln} {f : Fd} {Wd : List Str} {gs : MH} {x7 : Option W} {n : Nat} {l : Ln} (hl : ls[n]? = some l) (hok : LineOk bs ws la l) (hW : 0 < Wd.length) (hW2 : Wd.length ≤ 3000) (hWs : ∀ x ∈ Wd, x ∈ ws) (hn : n ≤ 1000) (H : DI bs ws la ls F n) :
    ∃ (f' : Fd) (F' : List Ln), DI bs ws la ls F' (n + 1) ∧ bd__law_dressed_2 (dS p (some (.str nm)) (some (.tup (ls.map encL))) (some (.ref 2)) (some (.ref (gs.length + 3))) (some (encL l))) (dH f Wd ps gs F) = some (.nx (dS p (some (.str nm)) (some (.tup (ls.map encL))) (some (.ref 2)) (some (.ref (gs.length + 3))) (some (encL l))) (dH f' Wd ps gs F')) := by
  have hlt := (List.getElem?_eq_some_iff.mp hl).1
  have ht : (ls.take (n + 1)).map cdL = (ls.take n).map cdL ++ [cdL l] := by
    rw [List.take_succ_eq_append_getElem hlt, List.map_append]
    rw [List.getElem?_eq_getElem hlt] at hl
    cases hl; rfl
  have ht2 : ls.take (n + 1) = ls.take n ++ [l] := by
    rw [List.take_succ_eq_append_getElem hlt]
    rw [List.getElem?_eq_getElem hlt] at hl
    cases hl; rfl
  have q1 : (0 : Int) < Wd.length := by omega
  have q2 : (Wd.length : Int) < 1000000 := by omega
  have hsz := H.sz
  have s1 : F.length < sizeLine := sizeT (by omega)
  have s2 : F.length + 1 < sizeLine := sizeT (by omega)
  by_cases hz : tk f 4 = 0
  · obtain ⟨b0, b1⟩ := tk_b (f := tf f 4) q1
    obtain ⟨x, hx, ex⟩ := pickS b0 b1
    refine ⟨tf (tf f 4) Wd.length, F ++ [(["back", x] : Ln)] ++ [l], ⟨app_all (app_all H.ok (.back (hWs x hx))) hok, ?_, by simp; omega, by rw [ht2, dcn_snoc, dcn_snoc, dcn_snoc, H.dc]; rfl⟩, ?_⟩
    · rw [ht, cds_snoc, cds_snoc, cd_back]
      refine krun_cong ?_
      rw [krun_ot1]; exact H.k
    · simp [hz, bx_take q1 q2, ex, s1, s2, at_last, set_last, encL]
  · refine ⟨tf f 4, F ++ [l], ⟨app_all H.ok hok, ?_, by simp; omega, by rw [ht2, dcn_snoc, dcn_snoc, H.dc]⟩, ?_⟩
    · rw [ht, cds_snoc]
      exact krun_cong H.k
    · simp [hz, s1, at_last, set_last, encL]
structure DO (bs ws : List Str) (p : List Pt) (Wd : List Str) (n : Nat) (σ : MSt) (h : MH) : Prop where
  ex : ∃ (f : Fd) (ps : List Pt) (gs : MH) (x3 x4 x6 x7 : Option W), σ = dS p x3 x4 (some (.ref 2)) x6 x7 ∧ h = encF f :: .lst (Wd.map .str) :: .lst (ps.map encT) :: gs ∧ PP 700 bs ws (p.map (·.1)) n ps
theorem dress_outer {bs ws : List Str} {p : List Pt} {Wd : List Str} {n : Nat} {σ : MSt} {h : MH} {x : Pt} (hg : GoodP 300 bs ws p) (hx : p[n]? = some x) (hW : 0 < Wd.length) (hW2 : Wd.length ≤ 3000) (hWs : ∀ x ∈ Wd, x ∈ ws) (H : DO bs ws p Wd n σ h) :
    ∃ σ1, gTupN [3, 4] (encT x) σ h = some σ1 ∧ ∃ σ2 h2, (bd__law_dressed_3 σ1 h = some (.nx σ2 h2) ∨ bd__law_dressed_3 σ1 h = some (.ct σ2 h2)) ∧ DO bs ws p Wd (n + 1) σ2 h2 := by
  obtain ⟨f, ps, gs, x3, x4, x6, x7, rfl, rfl, hp⟩ := H.ex
  obtain ⟨nm, ls⟩ := x
  have hmem : (nm, ls) ∈ p := List.mem_iff_getElem?.mpr ⟨n, hx⟩
  have hsz : ls.length ≤ 300 := hg.sz _ hmem
  have hok := hg.ok n _ hx
  have hbal : krun (ls.map cdL) [] = some [] := bal_iff.mp (hg.bal _ hmem)
  refine ⟨dS p (some (.str nm)) (some (.tup (ls.map encL))) (some (.ref 2)) x6 x7, rfl, ?_⟩
  obtain ⟨m0, hm0⟩ : ∃ m0, m0 = n := ⟨n, rfl⟩
  rw [← hm0] at hok
  have loop := for_inv (items := ls.map encL) (b := gSet 7) (body := bd__law_dressed_2) (fun n σ h => ∃ (f : Fd) (F : List Ln) (x7 : Option W), σ = dS p (some (.str nm)) (some (.tup (ls.map encL))) (some (.ref 2)) (some (.ref (gs.length + 3))) x7 ∧ h = dH f Wd ps gs F ∧ DI bs ws ((p.map (·.1)).drop (m0 + 1)) ls F n)
    (ls.map encL) 0 (dS p (some (.str nm)) (some (.tup (ls.map encL))) (some (.ref 2)) (some (.ref (gs.length + 3))) x7) (dH f Wd ps gs []) ⟨f, [], x7, rfl, rfl, by simp, rfl, by simp, rfl⟩ (by
      rintro j w hj σ h ⟨f, F, x7, rfl, rfl, HD⟩
      rw [List.getElem?_map] at hj
      obtain ⟨l, hl, rfl⟩ := Option.map_eq_some_iff.mp hj
      rw [Nat.zero_add] at HD ⊢
      obtain ⟨f', F', h1, e1⟩ := dress_turn (p := p) (ps := ps) (nm := nm) (f := f) (gs := gs) (x7 := x7) hl (hok l (List.mem_iff_getElem?.mpr ⟨j, hl⟩)) hW hW2 hWs (by have := (List.getElem?_eq_some_iff.mp hl).1; omega) HD
      exact ⟨_, rfl, _, _, .inl e1, f', F', _, rfl, rfl, h1⟩)
  obtain ⟨σ', h', e1, f1, F, y7, rfl, rfl, HD⟩ := loop
  rw [List.length_map, Nat.zero_add] at HD
  have hk : krun (F.map cdL) [] = some [] := by rw [HD.k, List.take_length, hbal]
  have hFz := HD.sz
  have hFd : dcn F ≤ dmax n := by rw [HD.dc, List.take_length]; exact hg.dos n _ hx
  have s1 : F.length < sizeLine := sizeT (by omega)
  have s2 : ps.length < sizeLine := by
    have := congrArg List.length hp.nm
    simp at this
    have hl := hg.len
    exact sizeT (by omega)
  have hnm : (p.map (·.1))[n]? = some nm := by rw [List.getElem?_map, hx]; rfl
  have ei : ∀ x6 x7 (h : MH), miVal (mVar 4) (dS p (some (.str nm)) (some (.tup (ls.map encL))) (some (.ref 2)) x6 x7) h = some (ls.map encL, none, h) := fun _ _ _ => rfl
  by_cases hz : tk f1 4 = 0
  · obtain ⟨w0, wr, rfl⟩ : ∃ w r, Wd = w :: r := by
      cases Wd with
      | nil => simp at hW
      | cons w r => exact ⟨w, r, rfl⟩
    refine ⟨dS p (some (.str nm)) (some (.tup (ls.map encL))) (some (.ref 2)) (some (.ref (gs.length + 3))) y7, encF (tf f1 4) :: .lst ((w0 :: wr).map .str) :: .lst ((ps ++ [(nm, F ++ [(["back", w0] : Ln)])]).map encT) :: (gs ++ [.lst ((F ++ [(["back", w0] : Ln)]).map encL)]), .inl ?_, ⟨_, _, _, _, _, _, _, rfl, rfl, ?_⟩⟩
    · simp only [dH, dS, List.map_nil, List.map_cons] at e1
      simp [mFor, ei, Nat.add_assoc, e1, hz, s1, s2, at_last, set_last, encL, encT]
    · refine hp.snoc hnm ?_ (by simp; omega) ?_ ?_
      · rw [cds_snoc, cd_back]
        exact bal_iff.mpr (by rw [krun_ot1]; exact hk)
      · rw [← hm0]; exact app_all HD.ok (.back (hWs w0 (by simp)))
      · rw [dcn_not (show isDo ["back", w0] = false by show (("back" : Str) == "do") = false; decide)]; exact hFd
  · refine ⟨dS p (some (.str nm)) (some (.tup (ls.map encL))) (some (.ref 2)) (some (.ref (gs.length + 3))) y7, encF (tf f1 4) :: .lst (Wd.map .str) :: .lst ((ps ++ [(nm, F)]).map encT) :: (gs ++ [.lst (F.map encL)]), .inl ?_, ⟨_, _, _, _, _, _, _, rfl, rfl, ?_⟩⟩
    · simp only [dH, dS, List.map_nil, List.map_cons] at e1
      simp [mFor, ei, Nat.add_assoc, e1, hz, s2, at_last, set_last, encT]
    · exact hp.snoc hnm (bal_iff.mpr hk) (by omega) (by rw [← hm0]; exact HD.ok) hFd
end My

namespace My
open PySem PySem.Spec PyProof.Rows L2 Mi My3 My4
theorem good_more {N M : Nat} {bs ws : List Str} {p : List Pt} (h : GoodP N bs ws p) (hm : N ≤ M) : GoodP M bs ws p := ⟨h.ne, h.len, h.bal, fun x hx => Nat.le_trans (h.sz x hx) hm, h.ok, h.nd, h.dos⟩
theorem boxPF {m : FM} {f f' : Fd} {p p' : List Pt} {g : MH} {h : MH} {n : Nat} (hn : h[n]? = some (encF f)) (e : m [encP p, .ref 0] [encF f] = some (encP p', encF f' :: g)) : box frN m [encP p, .ref n] h = some (encP p', h.set n (encF f')) := by
  have := box_gen (m := m) (args := [encP p, .ref n]) (as := [encP p, .ref 0]) (ns := [n]) (os := [encF f]) (os' := [encF f']) (g := g) (h := h) (w := encP p') (w' := encP p') (by simp [encP, rebA]) (by simp) (by simp [mapO, pick_lst (us := [.int f.a, .int f.b]) hn (by simp), encF]) e rfl (fun o ho => by simp at ho; subst ho; exact ⟨_, rfl, by simp⟩) (th_pur _ _ (by simp))
  simpa using this
theorem dressed_ok (f : Fd) (bs ws : List Str) (p : List Pt) (hg : GoodP 300 bs ws p) : ∃ (p' : List Pt) (f' : Fd), GoodP 700 bs ws p' ∧ ∀ (h : MH) (n : Nat), h[n]? = some (encF f) → bx__law_dressed [encP p, .ref n] h = some (encP p', h.set n (encF f')) := by
  have hlen := hg.len
  have loop := for_inv (items := p.map encT) (b := gTupN [3, 4]) (body := bd__law_dressed_1) (fun n σ h => ∃ (Wd : List Str) (x3 x4 : Option W), σ = dS p x3 x4 none none none ∧ h = [encF f, .lst (Wd.map .str)] ∧ (∀ x ∈ Wd, x ∈ ws) ∧ Wd.length ≤ 300 * n)
    (p.map encT) 0 (dS p none none none none none) [encF f, .lst []] ⟨[], none, none, rfl, rfl, by simp, by simp⟩ (by
      rintro j w hj σ h ⟨Wd, x3, x4, rfl, rfl, h1, h2⟩
      rw [List.getElem?_map] at hj
      obtain ⟨x, hx, rfl⟩ := Option.map_eq_some_iff.mp hj
      have hjl := (List.getElem?_eq_some_iff.mp hx).1
      obtain ⟨W', h3, h4, e⟩ := words_turn (bs := bs) (ws := ws) (la := (p.map (·.1)).drop (j + 1)) (p := p) (x := x) (f := f) (Wd := Wd) (x3 := x3) (x4 := x4) (x5 := none) (x6 := none) (x7 := none) (hg.ok j x hx) (hg.sz x (List.mem_iff_getElem?.mpr ⟨j, hx⟩)) (by omega)
      refine ⟨dS p (some (.str x.1)) (some (.tup (x.2.map encL))) none none none, rfl, _, _, .inl e, Wd ++ W', _, _, rfl, rfl, ?_, by simp; omega⟩
      intro y hy
      rcases List.mem_append.mp hy with z | z
      · exact h1 y z
      · exact h3 y z)
  obtain ⟨σ', h', e1, Wd, x3, x4, rfl, rfl, hW, hWl⟩ := loop
  rw [List.length_map, Nat.zero_add] at hWl
  have ei : ∀ x3 x4 x5 x6 x7 (h : MH), miVal (mVar 0) (dS p x3 x4 x5 x6 x7) h = some (p.map encT, none, h) := fun _ _ _ _ _ _ => rfl
  by_cases hz : Wd.length = 0
  · have hz' : Wd = [] := List.length_eq_zero_iff.mp hz
    subst hz'
    refine ⟨p, f, good_more hg (by omega), fun h n hn => boxPF (g := [.lst []]) hn ?_⟩
    simp at e1
    simp [sem__law_dressed, mDef, mFor, ei, e1]
  · have q : Wd ≠ [] := fun z => hz (by rw [z]; rfl)
    by_cases ho : tk f 2 = 0
    · refine ⟨p, tf f 2, good_more hg (by omega), fun h n hn => boxPF (g := [.lst (Wd.map .str)]) hn ?_⟩
      simp [sem__law_dressed, mDef, mFor, ei, e1, q, ho]
    · have loop := for_inv (items := p.map encT) (b := gTupN [3, 4]) (body := bd__law_dressed_3) (DO bs ws p Wd) (p.map encT) 0 (dS p x3 x4 (some (.ref 2)) none none) [encF (tf f 2), .lst (Wd.map .str), .lst []]
        ⟨tf f 2, [], [], x3, x4, none, none, rfl, rfl, ⟨rfl, by simp, by simp, by simp, by simp⟩⟩ (by
          intro j w hj σ h H
          rw [List.getElem?_map] at hj
          obtain ⟨x, hx, rfl⟩ := Option.map_eq_some_iff.mp hj
          rw [Nat.zero_add] at H ⊢
          exact dress_outer hg hx (by omega) (by omega) hW H)
      obtain ⟨σ', h', e2, H⟩ := loop
      obtain ⟨f', ps, gs, y3, y4, y6, y7, rfl, rfl, hp⟩ := H.ex
      rw [List.length_map, Nat.zero_add] at hp
      have hp' : PP 700 bs ws (p.map (·.1)) (p.map (·.1)).length ps := by rw [List.length_map]; exact hp
      refine ⟨ps, f', hp'.good (by simp [hg.ne]) (by simp; omega) hg.nd, fun h n hn => boxPF (g := .lst (Wd.map .str) :: .lst (ps.map encT) :: gs) hn ?_⟩
      rw [show encP ps = .tup (ps.map encT) from rfl]
      simp [sem__law_dressed, mDef, mFor, ei, e1, q, ho, e2]
theorem feed_ok (ns : List Int) (k : Nat) (hk : k < 100) : ∃ f : Fd, ∀ h : MH, bx__law_feed [.frz (ns.map .int), .int k] h = some (.ref h.length, h ++ [encF f]) := by
  have fin : ∀ (a b : Int) (hb : 0 ≤ b ∧ b < 1099511627776), sem__law_feed [.frz (ns.map .int), .int k] [] = some (.ref 0, [.lst [.int a, .int b]]) → ∀ h : MH, bx__law_feed [.frz (ns.map .int), .int k] h = some (.ref h.length, h ++ [encF ⟨a, b, hb⟩]) := by
    intro a b hb e h
    unfold bx__law_feed box
    have hr : rebA 0 [.frz (ns.map .int), .int k] = some ([.frz (ns.map .int), .int k], []) := by simp [rebA]
    rw [hr, Option.bind_some]
    unfold boxF
    rw [if_pos List.nodup_nil]
    simp only [mapO, Option.bind_some, e]
    rw [if_pos ⟨by simp [frR], by simp [frR]⟩]
    simp [frR, th, res, kpOf, mapO, thO, ths, putBack, encF]
  -- the cell
  obtain ⟨c, hc⟩ : ∃ c : Int, (if (k : Int) < (ns.length : Nat) then @om _ _ (fun p => MF.nx [some (.frz (ns.map .int)), some (.int k), some p.fst, none] p.snd) (@om _ _ (fun w => (w, ([] : MH))) (atI (ns.map W.int) (k : Int))) else some (MF.nx [some (.frz (ns.map .int)), some (.int k), some (.int 0), none] [])) = some (MF.nx [some (.frz (ns.map .int)), some (.int k), some (.int c), none] []) := by
    by_cases hl : k < ns.length
    · refine ⟨ns[k], ?_⟩
      rw [if_pos (by omega), atI_nat', List.getElem?_map, List.getElem?_eq_getElem hl]; simp
    · exact ⟨0, by rw [if_neg (by omega)]⟩
  have b1 : 0 ≤ c % 2147483647 * 48271 % 2147483647 := Int.emod_nonneg _ (by decide)
  have b2 : c % 2147483647 * 48271 % 2147483647 < 2147483647 := Int.emod_lt_of_pos _ (by decide)
  by_cases hd : (1000000000000000000 : Int) ≤ c
  · refine ⟨⟨c - 1000000000000000000, c % 2147483647 * 48271 % 2147483647 + k, by omega⟩, fin _ _ _ ?_⟩
    simp at hc
    simp [sem__law_feed, mDef, hc, hd]
  · refine ⟨⟨0, c % 2147483647 * 48271 % 2147483647 + k, by omega⟩, fin _ _ _ ?_⟩
    simp at hc
    simp [sem__law_feed, mDef, hc, hd]
end My

namespace My
open PySem PySem.Spec PyProof.Rows L2 Mi My3 My4
theorem words_apart {x : Str} : (x = "either" ∧ cd x = .ei) ∨ (x = "again" ∧ cd x = .ag) ∨ (x = "or" ∧ cd x = .oo) ∨ (x = "end" ∧ cd x = .en) ∨ ((x ≠ "either" ∧ x ≠ "again" ∧ x ≠ "or" ∧ x ≠ "end") ∧ cd x = .ot) := by
  unfold cd
  by_cases h1 : x = "either"
  · exact .inl ⟨h1, if_pos h1⟩
  rw [if_neg h1]
  by_cases h2 : x = "again"
  · exact .inr (.inl ⟨h2, if_pos h2⟩)
  rw [if_neg h2]
  by_cases h3 : x = "or"
  · exact .inr (.inr (.inl ⟨h3, if_pos h3⟩))
  rw [if_neg h3]
  by_cases h4 : x = "end"
  · exact .inr (.inr (.inr (.inl ⟨h4, if_pos h4⟩)))
  rw [if_neg h4]
  exact .inr (.inr (.inr (.inr ⟨⟨h1, h2, h3, h4⟩, rfl⟩)))
theorem for_ret {items : List W} {b : MG} {body : SM} (P : Nat → MSt → MH → Prop) (v : W) (hv : MH) : ∀ (r : List W) (n m : Nat) (σ : MSt) (h : MH), P n σ h → m < r.length →
    (∀ (j : Nat) (w : W), j < m → r[j]? = some w → ∀ σ h, P (n + j) σ h → ∃ σ1, b w σ h = some σ1 ∧ ∃ σ2 h2, body σ1 h = some (.nx σ2 h2) ∧ P (n + j + 1) σ2 h2) →
    (∀ w, r[m]? = some w → ∀ σ h, P (n + m) σ h → ∃ σ1, b w σ h = some σ1 ∧ body σ1 h = some (.rt v hv)) → mLoop items none b body r σ h = some (.rt v hv)
  | [], n, m, σ, h, _, hm, _, _ => by simp at hm
  | w :: r, n, 0, σ, h, hp, _, _, he => by
    obtain ⟨σ1, e1, e2⟩ := he w rfl σ h hp
    rw [mLoop, if_pos (live_none _ _), e1, Option.bind_some, e2]; rfl
  | w :: r, n, m + 1, σ, h, hp, hm, hs, he => by
    obtain ⟨σ1, e1, σ2, h2, e2, p2⟩ := hs 0 w (by omega) rfl σ h hp
    rw [mLoop, if_pos (live_none _ _), e1, Option.bind_some, e2]
    exact for_ret (items := items) (b := b) (body := body) P v hv r (n + 1) m σ2 h2 p2 (by simpa using hm) (fun j x hj hx σ h hp => by
      have := hs (j + 1) x (by omega) (by simpa using hx) σ h (by rw [show n + (j + 1) = n + 1 + j by omega]; exact hp)
      rw [show n + (j + 1) + 1 = n + 1 + j + 1 by omega] at this
      exact this) (fun x hx σ h hp => he x (by simpa using hx) σ h (by rw [show n + (m + 1) = n + 1 + m by omega]; exact hp))
@[simp] theorem level_ok {x : Str} {r : List Str} {h : MH} : bx_level_change [encL (x :: r)] h = some (.int (ch (cd x)), h) := by
  refine box_pure (g := []) (by simp) ?_ rfl
  have e2 : encL (x :: r) = .tup (.str x :: r.map .str) := rfl
  rcases words_apart (x := x) with ⟨rfl, hc⟩ | ⟨rfl, hc⟩ | ⟨rfl, hc⟩ | ⟨rfl, hc⟩ | ⟨⟨n1, n2, n3, n4⟩, hc⟩
  · simp [sem_level_change, mDef, e2, hc, ch]
  · simp [sem_level_change, mDef, e2, hc, ch]
  · simp [sem_level_change, mDef, e2, hc, ch]
  · simp [sem_level_change, mDef, e2, hc, ch]
  · simp [sem_level_change, mDef, e2, n1, n2, n4, hc, ch]
@[simp] theorem s_ixL0 {x : Str} {r : List Str} {h : MH} : wIx (encL (x :: r)) (.int 0) h = some (.str x, h) := by unfold encL; simp
@[simp] theorem s_ixL1 {x y : Str} {r : List Str} {h : MH} : wIx (encL (x :: y :: r)) (.int 1) h = some (.str y, h) := by unfold encL; simp
theorem e_rangeAB {ms : MA} {σ : MSt} {h h' : MH} {i j : Int} (e : ms σ h = some ([.int i, .int j], h')) (hi : -1000000 ≤ i ∧ i ≤ 1000000) (hj : -1000000 ≤ j ∧ j ≤ 1000000) : miR2 ms σ h = some (rangeW i (j - i).toNat, none, h') := by
  unfold miR2
  rw [e, Option.bind_some]
  exact if_pos ⟨by omega, by omega, by omega, by omega⟩
noncomputable abbrev fS (ls : List Ln) (k : Nat) (y : Str) (lv j : Option W) : MSt := [some (.tup (ls.map encL)), some (.int k), some (.str y), lv, j]
theorem ix_ln {ls : List Ln} {j : Nat} {l : Ln} (h : ls[j]? = some l) : atI (ls.map encL) (j : Int) = some (encL l) := by rw [atI_nat', List.getElem?_map, h]; rfl
theorem behind_ok {ls : List Ln} {k j : Nat} {y : Str} {h : MH} (hne : ∀ l ∈ ls, ∃ x r, l = x :: r) (hl : ls.length ≤ 100000) (hy : ∀ x : Str, cd x = cd y ↔ x = y) (B : Beh (ls.map cdL) k (cd y) j) : bx_found_behind [.tup (ls.map encL), .int k, .str y] h = some (.int j, h) := by
  refine box_pure (g := []) (by simp) ?_ rfl
  have hjl : j < ls.length := by have := (List.getElem?_eq_some_iff.mp B.at_).1; simpa using this
  have hkj := B.lt
  have er : ∀ x4, miR2 (mCons (mBin wAdd (mVar 1) (mC (.int 1))) (mCons (mFn wLen (mCons (mVar 0) mNil)) mNil)) (fS ls k y (some (.int 0)) x4) [] = some (rangeW ((k : Int) + 1) (ls.length - (k + 1)), none, []) := by
    intro x4
    rw [e_rangeAB (h' := []) (i := (k : Int) + 1) (j := ls.length) (by simp) (by omega) (by omega), show ((ls.length : Int) - ((k : Int) + 1)).toNat = ls.length - (k + 1) by omega]
  have lines : ∀ i, k < i → i ≤ j → ∃ x r, ls[i]? = some (x :: r) ∧ (ls.map cdL)[i]? = some (cd x) := fun i _ hi => by
    have hil : i < ls.length := by omega
    obtain ⟨x, r, e⟩ := hne ls[i] (List.getElem_mem hil)
    have e' : ls[i]? = some (x :: r) := by rw [List.getElem?_eq_getElem hil, e]
    exact ⟨x, r, e', by rw [List.getElem?_map, e']; rfl⟩
  have loop := for_ret (items := rangeW ((k : Int) + 1) (ls.length - (k + 1))) (b := gSet 4) (body := bd_found_behind_1) (fun n σ h => ∃ x4, σ = fS ls k y (some (.int (lev (ls.map cdL) (k + 1 + n) - lev (ls.map cdL) (k + 1)))) x4 ∧ h = []) (.int j) [] (rangeW ((k : Int) + 1) (ls.length - (k + 1))) 0 (j - (k + 1)) (fS ls k y (some (.int 0)) none) [] ⟨none, by simp, rfl⟩ (by rw [range_len]; omega) (by
    rintro i w hi hw σ h ⟨x4, rfl, rfl⟩
    obtain ⟨_, rfl⟩ := range_get hw
    obtain ⟨x, r, hx, hc⟩ := lines (k + 1 + i) (by omega) (by omega)
    have ea := ix_ln hx
    have hv := lev_succ hc
    rw [Nat.zero_add]
    have ea' : atI (ls.map encL) ((k : Int) + 1 + (i : Int)) = some (encL (x :: r)) := by rw [show ((k : Int) + 1 + (i : Int)) = ((k + 1 + i : Nat) : Int) by omega]; exact ea
    refine ⟨fS ls k y (some (.int (lev (ls.map cdL) (k + 1 + i) - lev (ls.map cdL) (k + 1)))) (some (.int ((k : Int) + 1 + i))), rfl, fS ls k y (some (.int (lev (ls.map cdL) (k + 1 + (i + 1)) - lev (ls.map cdL) (k + 1)))) (some (.int ((k : Int) + 1 + i))), [], ?_, _, rfl, rfl⟩
    have hstep : lev (ls.map cdL) (k + 1 + (i + 1)) - lev (ls.map cdL) (k + 1) = lev (ls.map cdL) (k + 1 + i) - lev (ls.map cdL) (k + 1) + ch (cd x) := by
      rw [show k + 1 + (i + 1) = k + 1 + i + 1 by omega, hv]; omega
    rw [hstep]
    generalize hL : lev (ls.map cdL) (k + 1 + i) - lev (ls.map cdL) (k + 1) = L
    by_cases hz : L = 0
    · have hno := B.no (k + 1 + i) (by omega) (by omega) (by omega)
      have hxy : x ≠ y := fun z => hno (by rw [hc, z])
      subst hz
      simp [hxy, ea']
    · simp [hz, ea']) (by
    rintro w hw σ h ⟨x4, rfl, rfl⟩
    obtain ⟨_, rfl⟩ := range_get hw
    obtain ⟨x, r, hx, hc⟩ := lines j (by omega) (by omega)
    have hcy := B.at_
    rw [hc] at hcy
    have hxy : x = y := (hy x).mp (by simpa using hcy)
    subst hxy
    have ej : (k : Int) + 1 + ((j - (k + 1) : Nat) : Int) = (j : Int) := by omega
    have ea := ix_ln hx
    rw [ej]
    have hlv : lev (ls.map cdL) (k + 1 + (0 + (j - (k + 1)))) - lev (ls.map cdL) (k + 1) = 0 := by
      rw [show k + 1 + (0 + (j - (k + 1))) = j by omega, B.lv]; omega
    rw [hlv]
    exact ⟨_, rfl, by simp [ea]⟩)
  simp [sem_found_behind, mDef, mFor, er, loop]
theorem rangeS_get {lo c : Int} {n j : Nat} {w : W} (h : (rangeS lo c n)[j]? = some w) : j < n ∧ w = .int (lo + (j : Int) * c) := by
  have hl := (List.getElem?_eq_some_iff.mp h).1
  simp [rangeS] at hl
  refine ⟨hl, ?_⟩
  unfold rangeS at h
  rw [List.getElem?_map, List.getElem?_range hl] at h
  cases h; rfl
noncomputable abbrev hS (ls : List Ln) (k : Nat) (lv j : Option W) : MSt := [some (.tup (ls.map encL)), some (.int k), lv, j]
theorem head_ok {ls : List Ln} {k j : Nat} {h : MH} (hne : ∀ l ∈ ls, ∃ x r, l = x :: r) (hl : ls.length ≤ 100000) (hk : k ≤ ls.length) (B : Ahd (ls.map cdL) k j) : bx_head_of [.tup (ls.map encL), .int k] h = some (.int j, h) := by
  refine box_pure (g := []) (by simp) ?_ rfl
  have hjk := B.lt
  have er : ∀ x3, miR3 (mCons (mBin wSub (mVar 1) (mC (.int 1))) (mCons (mUn wNeg (mC (.int 1))) (mCons (mUn wNeg (mC (.int 1))) mNil))) (hS ls k (some (.int 0)) x3) [] = some (rangeS ((k : Int) - 1) (-1) k, none, []) := fun x3 => e_r3d rfl rfl rfl (by omega)
  have lines : ∀ i, i < k → ∃ x r, ls[i]? = some (x :: r) ∧ (ls.map cdL)[i]? = some (cd x) := fun i hi => by
    have hil : i < ls.length := by omega
    obtain ⟨x, r, e⟩ := hne ls[i] (List.getElem_mem hil)
    have e' : ls[i]? = some (x :: r) := by rw [List.getElem?_eq_getElem hil, e]
    exact ⟨x, r, e', by rw [List.getElem?_map, e']; rfl⟩
  have rl : (rangeS ((k : Int) - 1) (-1) k).length = k := by simp [rangeS]
  have loop := for_ret (items := rangeS ((k : Int) - 1) (-1) k) (b := gSet 3) (body := bd_head_of_1) (fun n σ h => ∃ x3, σ = hS ls k (some (.int (lev (ls.map cdL) k - lev (ls.map cdL) (k - n)))) x3 ∧ h = []) (.int j) [] (rangeS ((k : Int) - 1) (-1) k) 0 (k - 1 - j) (hS ls k (some (.int 0)) none) [] ⟨none, by simp, rfl⟩ (by rw [rl]; omega) (by
    rintro i w hi hw σ h ⟨x3, rfl, rfl⟩
    obtain ⟨_, rfl⟩ := rangeS_get hw
    obtain ⟨x, r, hx, hc⟩ := lines (k - 1 - i) (by omega)
    have ej : (k : Int) - 1 + (i : Int) * -1 = ((k - 1 - i : Nat) : Int) := by omega
    have ea := ix_ln hx
    have hv := lev_succ hc
    rw [Nat.zero_add, ej]
    generalize ht : ((k - 1 - i : Nat) : Int) = t at ea
    refine ⟨hS ls k (some (.int (lev (ls.map cdL) k - lev (ls.map cdL) (k - i)))) (some (.int t)), rfl, hS ls k (some (.int (lev (ls.map cdL) k - lev (ls.map cdL) (k - (i + 1))))) (some (.int t)), [], ?_, _, rfl, rfl⟩
    have hstep : lev (ls.map cdL) k - lev (ls.map cdL) (k - (i + 1)) = lev (ls.map cdL) k - lev (ls.map cdL) (k - i) + ch (cd x) := by
      rw [show k - i = k - 1 - i + 1 by omega, hv, show k - (i + 1) = k - 1 - i by omega]; omega
    have hno := B.no (k - 1 - i) (by omega) (by omega)
    have hn1 : lev (ls.map cdL) k - lev (ls.map cdL) (k - i) + ch (cd x) ≠ 1 := by rw [← hstep, show k - (i + 1) = k - 1 - i by omega]; omega
    rw [hstep]
    simp [ea, hn1]) (by
    rintro w hw σ h ⟨x3, rfl, rfl⟩
    obtain ⟨_, rfl⟩ := rangeS_get hw
    obtain ⟨x, r, hx, hc⟩ := lines j (by omega)
    have ej : (k : Int) - 1 + ((k - 1 - j : Nat) : Int) * -1 = (j : Int) := by omega
    have ea := ix_ln hx
    have hv := lev_succ hc
    rw [ej]
    have hstep : lev (ls.map cdL) k - lev (ls.map cdL) (k - (0 + (k - 1 - j))) + ch (cd x) = 1 := by
      rw [show k - (0 + (k - 1 - j)) = j + 1 by omega, hv]
      have := B.lv
      omega
    rw [Nat.zero_add] at hstep ⊢
    exact ⟨_, rfl, by simp [ea, hstep]⟩)
  simp [sem_head_of, mDef, mFor, er, loop]
theorem cd_end_iff (x : Str) : cd x = cd "end" ↔ x = "end" := by
  rcases words_apart (x := x) with ⟨rfl, hc⟩ | ⟨rfl, hc⟩ | ⟨rfl, hc⟩ | ⟨rfl, hc⟩ | ⟨⟨n1, n2, n3, n4⟩, hc⟩ <;> simp [hc, cd_end, *]
theorem cd_or_iff (x : Str) : cd x = cd "or" ↔ x = "or" := by
  rcases words_apart (x := x) with ⟨rfl, hc⟩ | ⟨rfl, hc⟩ | ⟨rfl, hc⟩ | ⟨rfl, hc⟩ | ⟨⟨n1, n2, n3, n4⟩, hc⟩ <;> simp [hc, cd_or, *]
theorem end_ok {ls : List Ln} {k j : Nat} {h : MH} (hne : ∀ l ∈ ls, ∃ x r, l = x :: r) (hl : ls.length ≤ 100000) (B : Beh (ls.map cdL) k .en j) : bx_end_of [.tup (ls.map encL), .int k] h = some (.int j, h) := by
  refine box_pure (g := []) (by simp) ?_ rfl
  have e : ∀ h, bx_found_behind [.tup (ls.map encL), .int k, .str "end"] h = some (.int j, h) := fun h => behind_ok hne (by omega) cd_end_iff (by rw [cd_end]; exact B)
  simp [sem_end_of, mDef, e]
theorem or_ok {ls : List Ln} {k j : Nat} {h : MH} (hne : ∀ l ∈ ls, ∃ x r, l = x :: r) (hl : ls.length ≤ 100000) (B : Beh (ls.map cdL) k .oo j) : bx_or_of [.tup (ls.map encL), .int k] h = some (.int j, h) := by
  refine box_pure (g := []) (by simp) ?_ rfl
  have e : ∀ h, bx_found_behind [.tup (ls.map encL), .int k, .str "or"] h = some (.int j, h) := fun h => behind_ok hne (by omega) cd_or_iff (by rw [cd_or]; exact B)
  simp [sem_or_of, mDef, e]
@[simp] theorem gap_ok {w p k0 b k : W} {h : MH} (hw : pur w = true) (hp : pur p = true) (hk0 : pur k0 = true) (hb : pur b = true) (hk : pur k = true) : bx_at_gap [.tup [w, p, k0, b], k] h = some (.tup [w, p, k, .bl false], h) := by
  refine box_pure (g := []) (by simp [hw, hp, hk0, hb, hk]) ?_ (by simp [hw, hp, hk])
  simp [sem_at_gap, mDef]
@[simp] theorem hd_ok {w p k0 b k : W} {h : MH} (hw : pur w = true) (hp : pur p = true) (hk0 : pur k0 = true) (hb : pur b = true) (hk : pur k = true) : bx_at_head [.tup [w, p, k0, b], k] h = some (.tup [w, p, k, .bl true], h) := by
  refine box_pure (g := []) (by simp [hw, hp, hk0, hb, hk]) ?_ (by simp [hw, hp, hk])
  simp [sem_at_head, mDef]
end My

namespace My
open PySem PySem.Spec PyProof.Rows L2 Mi My3 My4
@[simp] theorem s_ixP {p : List Pt} {i : Int} {h : MH} : wIx (encP p) (.int i) h = @om _ _ (fun w => (w, h)) (atI (p.map encT) i) := by unfold encP; simp
@[simp] theorem s_ixT1 {x : Pt} {h : MH} : wIx (encT x) (.int 1) h = some (.tup (x.2.map encL), h) := by unfold encT; simp
@[simp] theorem s_ixT0 {x : Pt} {h : MH} : wIx (encT x) (.int 0) h = some (.str x.1, h) := by unfold encT; simp
@[simp] theorem s_ixW0 {q : Nat × Nat} {h : MH} : wIx (encW q) (.int 0) h = some (.int q.1, h) := by unfold encW; simp
@[simp] theorem s_ixW1 {q : Nat × Nat} {h : MH} : wIx (encW q) (.int 1) h = some (.int q.2, h) := by unfold encW; simp
structure SV (p : List Pt) (s : Spt) : Prop where
  ex : ∃ x, p[s.part]? = some x ∧ s.k ≤ x.2.length ∧ (s.head = true → ∃ r, x.2[s.k]? = some (("again" : Str) :: r))
  way : ∀ q ∈ s.way, ∃ x, p[q.1]? = some x ∧ q.2 < x.2.length
theorem at_part {p : List Pt} {i : Nat} {x : Pt} (h : p[i]? = some x) : atI (p.map encT) (i : Int) = some (encT x) := by rw [atI_nat', List.getElem?_map, h]; rfl
theorem line_none {p : List Pt} {s : Spt} {x : Pt} {h : MH} (hx : p[s.part]? = some x) (hn : s.head = true ∨ s.k = x.2.length) : bx_line_of [encP p, encS s] h = some (.non, h) := by
  refine box_pure (g := []) (by simp) ?_ rfl
  obtain ⟨way, part, k, head⟩ := s
  have ep := at_part hx
  simp only at ep hn hx
  by_cases hh : head = true
  · simp [sem_line_of, mDef, encS, ep, hh]
  · have hk : k = x.2.length := by rcases hn with z | z; exact absurd z hh; exact z
    simp [sem_line_of, mDef, encS, ep, hh, hk]
theorem line_some {p : List Pt} {s : Spt} {x : Pt} {l : Ln} {h : MH} (hx : p[s.part]? = some x) (hh : s.head = false) (hl : x.2[s.k]? = some l) : bx_line_of [encP p, encS s] h = some (encL l, h) := by
  refine box_pure (g := []) (by simp) ?_ (by simp)
  obtain ⟨way, part, k, head⟩ := s
  have ep := at_part hx
  have el := ix_ln hl
  have hk := (List.getElem?_eq_some_iff.mp hl).1
  simp only at ep hh hx el hk
  have hne : ¬ (k : Int) = x.2.length := by omega
  have hne' : ¬ k = x.2.length := by omega
  simp [sem_line_of, mDef, encS, ep, hh, el, hne, hne']
@[simp] theorem first_ok {h : MH} : bx_first_spot [] h = some (encS ⟨[], 0, 0, false⟩, h) := by
  refine box_pure (g := []) (by simp) ?_ (by simp)
  simp [sem_first_spot, mDef, encS]
theorem idx_str {ns : List Str} {x : Str} : ∀ {j : Nat}, ns.findIdx? (· == x) = some j → (ns.map W.str).findIdx? (fun y => eqW y (.str x)) = some j := by
  intro j h
  rw [List.findIdx?_map]
  rw [← h]
  congr 1
theorem number_ok {p : List Pt} {nm : Str} {j : Nat} {h : MH} (hj : (p.map (·.1)).findIdx? (· == nm) = some j) (hl : p.length ≤ 100) : bx_part_number [encP p, .str nm] h = some (.int j, h) := by
  refine box_pure (g := []) (by simp) ?_ rfl
  have ec := comp_map (fin := fLst) (mi := miVal (mVar 0)) (cp := [none]) (me := mBin wIx (mVar 0) (mC (.int 0))) (σ := [some (encP p), some (.str nm)]) (caps := []) (h := []) (items := p.map encT) (fun w => match w with | .tup (a :: _) => a | w => w) rfl ⟨_, rfl⟩ (fun w hw => by
    obtain ⟨x, _, rfl⟩ := List.mem_map.mp hw
    simp [encT]) (by simp; exact sizeL (by omega))
  have hm : (p.map encT).map (fun w => match w with | .tup (a :: _) => a | w => w) = (p.map (·.1)).map W.str := by simp [encT, Function.comp_def]
  rw [hm] at ec
  simp only [fLst] at ec
  have ei : wIndex (.lst ((p.map (·.1)).map W.str)) [.str nm] [] = some (.int j, []) := by
    unfold wIndex
    simp only [lsW, Option.bind_some]
    rw [drf_pln [] (.str nm) 40 rfl (by simp [dep]), mapO_pln [] _ 40 plns_str (Nat.le_trans deps_str (by decide)), Option.bind_some, Option.bind_some, idx_str hj]
    rfl
  rw [List.map_map] at ec ei
  simp [sem_part_number, mDef, ec, ei]
end My

namespace My
open PySem PySem.Spec PyProof.Rows L2 Mi My3 My4 My5
noncomputable def Wt : Nat → Nat
  | 0 => 65330
  | i + 1 => (4 - i) * 702
theorem wt_mono {i q : Nat} (h : i + 1 ≤ q) : Wt q ≤ Wt (i + 1) := by
  obtain ⟨r, rfl⟩ : ∃ r, q = r + 1 := ⟨q - 1, by omega⟩
  show (4 - r) * 702 ≤ (4 - i) * 702
  exact Nat.mul_le_mul_right _ (by omega)
theorem wt_fit {i : Nat} (h : i ≤ 4) : 700 + dmax i * (Wt (i + 1) + 2) ≤ Wt i := by
  match i, h with
  | 0, _ => decide
  | 1, _ => decide
  | 2, _ => decide
  | 3, _ => decide
  | 4, _ => decide
theorem wt_le0 {i : Nat} : Wt i ≤ 65330 := by
  match i with
  | 0 => exact Nat.le_refl _
  | i + 1 =>
    show (4 - i) * 702 ≤ _
    have : (4 - i) * 702 ≤ 4 * 702 := Nat.mul_le_mul_right _ (by omega)
    omega
noncomputable def cst (i : Nat) (l : Ln) : Nat := if isDo l = true then Wt (i + 1) + 2 else 1
noncomputable def rem (x : Pt) (i k : Nat) : Nat := ((x.2.drop k).map (cst i)).sum
theorem rem_step {x : Pt} {i k : Nat} {l : Ln} (h : x.2[k]? = some l) : rem x i k = cst i l + rem x i (k + 1) := by
  obtain ⟨hk, rfl⟩ := List.getElem?_eq_some_iff.mp h
  unfold rem
  rw [List.drop_eq_getElem_cons hk, List.map_cons, List.sum_cons]
theorem rem_lt {x : Pt} {i : Nat} : ∀ {j k : Nat}, k < j → k < x.2.length → rem x i j < rem x i k
  | 0, _, h, _ => by omega
  | j + 1, k, h, hk => by
    have hs := rem_step (i := i) (List.getElem?_eq_getElem hk)
    have hc : 1 ≤ cst i x.2[k] := by unfold cst; split <;> omega
    by_cases e : j = k
    · subst e; omega
    · by_cases hj : j < x.2.length
      · have h1 := rem_lt (x := x) (i := i) (j := j) (k := k) (by omega) hk
        have h2 := rem_step (i := i) (List.getElem?_eq_getElem hj)
        omega
      · have : rem x i (j + 1) = 0 := by unfold rem; rw [List.drop_eq_nil_of_le (by omega)]; rfl
        omega
theorem sum_cst {i : Nat} : ∀ (ls : List Ln), (ls.map (cst i)).sum = ls.length + dcn ls * (Wt (i + 1) + 1)
  | [] => by simp [dcn]
  | l :: ls => by
    have ih := sum_cst (i := i) ls
    unfold dcn at ih ⊢
    rw [List.map_cons, List.sum_cons, ih, List.countP_cons, List.length_cons, cst]
    by_cases h : isDo l = true
    · rw [if_pos h, if_pos h, Nat.add_mul, Nat.one_mul]; omega
    · rw [if_neg h, if_neg h, show List.countP isDo ls + 0 = List.countP isDo ls from rfl]; omega
theorem rem_le {x : Pt} {i k : Nat} (hs : x.2.length ≤ 700) (hd : dcn x.2 ≤ dmax i) (hi : i ≤ 4) : rem x i k ≤ Wt i := by
  have h0 : rem x i 0 ≤ Wt i := by
    unfold rem
    rw [List.drop_zero, sum_cst]
    have := wt_fit hi
    have : dcn x.2 * (Wt (i + 1) + 1) ≤ dmax i * (Wt (i + 1) + 2) := Nat.mul_le_mul hd (by omega)
    omega
  by_cases hk : 0 < k
  · by_cases hl : 0 < x.2.length
    · have := rem_lt (x := x) (i := i) hk hl; omega
    · unfold rem; rw [List.drop_eq_nil_of_le (by omega)]; simp
  · rw [show k = 0 by omega]; exact h0
noncomputable def remP (p : List Pt) (i k : Nat) : Nat := match p[i]? with
  | some x => rem x i k
  | none => 0
theorem remP_of {p : List Pt} {i k : Nat} {x : Pt} (h : p[i]? = some x) : remP p i k = rem x i k := by unfold remP; rw [h]
noncomputable def RL (p : List Pt) : Prop := ∀ i k, remP p i k ≤ Wt i
theorem rl_700 {p : List Pt} {bs ws : List Str} (hg : GoodP 700 bs ws p) : RL p := by
  intro i k
  unfold remP
  split
  · rename_i x hx
    have h1 := (List.getElem?_eq_some_iff.mp hx).1
    have h2 := hg.len
    exact rem_le (hg.sz x (List.mem_iff_getElem?.mpr ⟨i, hx⟩)) (hg.dos i x hx) (by omega)
  · exact Nat.zero_le _
noncomputable def wsum (p : List Pt) (w : List (Nat × Nat)) : Nat := (w.map fun q => 1 + remP p q.1 (q.2 + 1)).sum
theorem wsum_snoc {p : List Pt} {w : List (Nat × Nat)} {q : Nat × Nat} : wsum p (w ++ [q]) = wsum p w + (1 + remP p q.1 (q.2 + 1)) := by simp [wsum]
noncomputable def rk (p : List Pt) (s : Spt) : Nat := if s.head = true then 0 else 1 + remP p s.part s.k + wsum p s.way
theorem rk_gap {p : List Pt} {way : List (Nat × Nat)} {part k : Nat} : rk p ⟨way, part, k, false⟩ = 1 + remP p part k + wsum p way := by unfold rk; rw [if_neg (by simp)]
theorem rk_head {p : List Pt} {way : List (Nat × Nat)} {part k : Nat} : rk p ⟨way, part, k, true⟩ = 0 := by unfold rk; rw [if_pos rfl]
structure SW (s : Spt) : Prop where
  up : ∀ (j : Nat) (q : Nat × Nat), s.way[j]? = some q → j ≤ q.1
  le : s.way.length ≤ s.part
theorem wsum_le {p : List Pt} (hg : RL p) : ∀ (w : List (Nat × Nat)), wsum p w ≤ w.length * 65331
  | [] => by simp [wsum]
  | q :: w => by
    have h1 := wsum_le hg w
    have h2 := hg (q.1) (q.2 + 1)
    have h3 := wt_le0 (i := q.1)
    unfold wsum at h1 ⊢
    rw [List.map_cons, List.sum_cons, List.length_cons, Nat.add_mul]
    omega
theorem rk_le {p : List Pt} (hg : RL p) {s : Spt} (hw : s.way.length ≤ 4) : rk p s ≤ 326655 := by
  unfold rk
  split
  · omega
  · have h1 := wsum_le hg s.way
    have h2 := hg (s.part) (s.k)
    have h3 := wt_le0 (i := s.part)
    have : s.way.length * 65331 ≤ 4 * 65331 := Nat.mul_le_mul_right _ hw
    omega
structure Mono (p : List Pt) (s : Spt) (L : List Spt) : Prop where
  one : ∀ t, L = [t] → rk p t < rk p s
  two : ∀ a b, L = [a, b] → a.k ≠ b.k
theorem mono_nil {p : List Pt} {s : Spt} : Mono p s [] := ⟨fun _ h => by simp at h, fun _ _ h => by simp at h⟩
theorem mono_one {p : List Pt} {s t : Spt} (h : rk p t < rk p s) : Mono p s [t] := ⟨fun u e => by simp at e; rw [← e]; exact h, fun _ _ e => by simp at e⟩
theorem mono_two {p : List Pt} {s a b : Spt} (h : a.k ≠ b.k) : Mono p s [a, b] := ⟨fun u e => by simp at e, fun x y e => by simp at e; rw [← e.1, ← e.2]; exact h⟩
theorem mono_gap {p : List Pt} {way : List (Nat × Nat)} {part k m : Nat} {x : Pt} (hx : p[part]? = some x) (hk : k < x.2.length) (hm : k < m) : Mono p ⟨way, part, k, false⟩ [⟨way, part, m, false⟩] := mono_one (by
  rw [rk_gap, rk_gap, remP_of hx, remP_of hx]
  have := rem_lt (x := x) (i := part) hm hk
  omega)
theorem mono_head {p : List Pt} {way : List (Nat × Nat)} {part k m : Nat} : Mono p ⟨way, part, k, false⟩ [⟨way, part, m, true⟩] := mono_one (by rw [rk_gap, rk_head]; omega)
theorem mono_do {p : List Pt} (hg : RL p) {way : List (Nat × Nat)} {part k j : Nat} {x : Pt} {l : Ln} (hx : p[part]? = some x) (hl : x.2[k]? = some l) (hd : isDo l = true) (hj : part + 1 ≤ j) : Mono p ⟨way, part, k, false⟩ [⟨way ++ [(part, k)], j, 0, false⟩] := mono_one (by
  rw [rk_gap, rk_gap, wsum_snoc, remP_of (p := p) (i := part) (k := k) hx, rem_step hl]
  have h1 := hg (j) (0)
  have h2 := wt_mono hj
  have h3 : cst part l = Wt (part + 1) + 2 := by unfold cst; rw [if_pos hd]
  rw [remP_of (k := k + 1) hx]
  show 1 + remP p j 0 + (wsum p way + (1 + rem x part (k + 1))) < _
  omega)
theorem mono_back {p : List Pt} {r : List (Nat × Nat)} {q : Nat × Nat} {part k : Nat} : Mono p ⟨r ++ [q], part, k, false⟩ [⟨r, q.1, q.2 + 1, false⟩] := mono_one (by
  rw [rk_gap, rk_gap, wsum_snoc]
  omega)
noncomputable def doIx (p : List Pt) (l : Ln) : Option Nat := if isDo l = true then (p.map (·.1)).findIdx? (· == l.getD 1 "") else none
inductive Nx (p : List Pt) : Spt → List Spt → Prop where
  | head {way : List (Nat × Nat)} {part k en : Nat} {x : Pt} {l : Ln} (hx : p[part]? = some x) (hl : x.2[k]? = some l) (hc : cdL l = .ag) (B : Beh (x.2.map cdL) k .en en) : Nx p ⟨way, part, k, true⟩ [⟨way, part, en + 1, false⟩, ⟨way, part, k + 1, false⟩]
  | fin0 {way : List (Nat × Nat)} {part k : Nat} {x : Pt} (hw : way = []) (hx : p[part]? = some x) (hl : x.2[k]? = none) : Nx p ⟨way, part, k, false⟩ []
  | fin {way r : List (Nat × Nat)} {q : Nat × Nat} {part k : Nat} {x : Pt} (hw : way = r ++ [q]) (hx : p[part]? = some x) (hl : x.2[k]? = none) : Nx p ⟨way, part, k, false⟩ [⟨r, q.1, q.2 + 1, false⟩]
  | ei {way : List (Nat × Nat)} {part k md : Nat} {x : Pt} {l : Ln} (hx : p[part]? = some x) (hl : x.2[k]? = some l) (hc : cdL l = .ei) (B : Beh (x.2.map cdL) k .oo md) : Nx p ⟨way, part, k, false⟩ [⟨way, part, k + 1, false⟩, ⟨way, part, md + 1, false⟩]
  | ag {way : List (Nat × Nat)} {part k : Nat} {x : Pt} {l : Ln} (hx : p[part]? = some x) (hl : x.2[k]? = some l) (hc : cdL l = .ag) : Nx p ⟨way, part, k, false⟩ [⟨way, part, k, true⟩]
  | oo {way : List (Nat × Nat)} {part k en : Nat} {x : Pt} {l : Ln} (hx : p[part]? = some x) (hl : x.2[k]? = some l) (hc : cdL l = .oo) (B : Beh (x.2.map cdL) k .en en) : Nx p ⟨way, part, k, false⟩ [⟨way, part, en + 1, false⟩]
  | enA {way : List (Nat × Nat)} {part k fs : Nat} {x : Pt} {l l' : Ln} (hx : p[part]? = some x) (hl : x.2[k]? = some l) (hc : cdL l = .en) (A : Ahd (x.2.map cdL) k fs) (hf : x.2[fs]? = some l') (hf' : cdL l' = .ag) : Nx p ⟨way, part, k, false⟩ [⟨way, part, fs, true⟩]
  | enE {way : List (Nat × Nat)} {part k fs : Nat} {x : Pt} {l l' : Ln} (hx : p[part]? = some x) (hl : x.2[k]? = some l) (hc : cdL l = .en) (A : Ahd (x.2.map cdL) k fs) (hf : x.2[fs]? = some l') (hf' : cdL l' = .ei) : Nx p ⟨way, part, k, false⟩ [⟨way, part, k + 1, false⟩]
  | dd {way : List (Nat × Nat)} {part k j : Nat} {x : Pt} {l : Ln} (hx : p[part]? = some x) (hl : x.2[k]? = some l) (hc : cdL l = .ot) (hd : isDo l = true) (hj : doIx p l = some j) : Nx p ⟨way, part, k, false⟩ [⟨way ++ [(part, k)], j, 0, false⟩]
  | ot {way : List (Nat × Nat)} {part k : Nat} {x : Pt} {l : Ln} (hx : p[part]? = some x) (hl : x.2[k]? = some l) (hc : cdL l = .ot) (hd : isDo l = false) : Nx p ⟨way, part, k, false⟩ [⟨way, part, k + 1, false⟩]
theorem nx_det {p : List Pt} {s : Spt} {L L' : List Spt} (h : Nx p s L) (h' : Nx p s L') : L = L' := by
  cases h with
  | head hx hl hc B =>
    cases h' with
    | head hx' hl' hc' B' => rw [hx] at hx'; cases hx'; rw [beh_uniq B B']
  | fin0 hw hx hl =>
    cases h' with
    | fin0 => rfl
    | fin hw' => rw [hw] at hw'; simp at hw'
    | _ => simp_all
  | fin hw hx hl =>
    cases h' with
    | fin0 hw' => rw [hw'] at hw; simp at hw
    | fin hw' =>
      rw [hw] at hw'
      have := List.append_inj' hw' rfl
      simp at this
      obtain ⟨rfl, rfl⟩ := this
      rfl
    | _ => simp_all
  | ei hx hl hc B =>
    cases h' with
    | ei hx' hl' hc' B' => rw [hx] at hx'; cases hx'; rw [beh_uniq B B']
    | _ => simp_all
  | ag hx hl hc =>
    cases h' with
    | ag => rfl
    | _ => simp_all
  | oo hx hl hc B =>
    cases h' with
    | oo hx' hl' hc' B' => rw [hx] at hx'; cases hx'; rw [beh_uniq B B']
    | _ => simp_all
  | enA hx hl hc A hf hf' =>
    cases h' with
    | enA hx' hl' hc' A' => rw [hx] at hx'; cases hx'; rw [ahd_uniq A A']
    | enE hx' hl' hc' A' hg hg' =>
      rw [hx] at hx'; cases hx'
      rw [← ahd_uniq A A', hf] at hg
      cases hg
      rw [hf'] at hg'; cases hg'
    | _ => simp_all
  | enE hx hl hc A hf hf' =>
    cases h' with
    | enA hx' hl' hc' A' hg hg' =>
      rw [hx] at hx'; cases hx'
      rw [← ahd_uniq A A', hf] at hg
      cases hg
      rw [hf'] at hg'; cases hg'
    | enE => rfl
    | _ => simp_all
  | dd hx hl hc hd hj =>
    cases h' with
    | dd hx' hl' hc' hd' hj' => rw [hx] at hx'; cases hx'; rw [hl] at hl'; cases hl'; rw [hj] at hj'; cases hj'; rfl
    | _ => simp_all
  | ot hx hl hc hd =>
    cases h' with
    | ot => rfl
    | _ => simp_all
end My

namespace My
open PySem PySem.Spec PyProof.Rows L2 Mi My3 My4
@[simp] theorem purs_Ws {qs : List (Nat × Nat)} : purs (qs.map encW) = true := purs_plns _ plns_Ws
@[simp] theorem cut_m1 {α : Type} {a : List α} {x : α} : cutW (a ++ [x]) none (some (-1)) = a := by
  unfold cutW
  have h1 : HT.sIx (a ++ [x]).length 0 none = 0 := HT.sIx_none _ _
  have h2 : HT.sIx (a ++ [x]).length (a ++ [x]).length (some (-1)) = a.length := by
    unfold HT.sIx
    simp
    omega
  rw [h1, h2]
  simp
theorem snocW (w : List (Nat × Nat)) (h : w ≠ []) : ∃ r q, w = r ++ [q] := ⟨w.dropLast, w.getLast h, (List.dropLast_concat_getLast h).symm⟩
noncomputable def NextOk (p : List Pt) (s : Spt) (L : List Spt) : Prop := (∀ t ∈ L, SV p t ∧ SW t) ∧ (Mono p s L ∧ Nx p s L) ∧ ∀ h : MH, bx_next_spots [encP p, encS s] h = some (.lst (L.map encS), h)
theorem gap_v {p : List Pt} {way : List (Nat × Nat)} {part k : Nat} {x : Pt} (hw : ∀ q ∈ way, ∃ x, p[q.1]? = some x ∧ q.2 < x.2.length) (hx : p[part]? = some x) (hk : k ≤ x.2.length) {k' : Nat} {b' : Bool} (hs2 : SW ⟨way, part, k', b'⟩) : SV p ⟨way, part, k, false⟩ ∧ SW ⟨way, part, k, false⟩ := ⟨⟨⟨x, hx, hk, by simp⟩, hw⟩, ⟨hs2.up, hs2.le⟩⟩
theorem bP {p : List Pt} {s : Spt} {L : List Spt} {h : MH} (e : sem_next_spots [encP p, encS s] [] = some (.lst (L.map encS), [])) : bx_next_spots [encP p, encS s] h = some (.lst (L.map encS), h) := box_pure (g := []) (by simp) e (by simp)
theorem bI {ls : List Ln} {s : Spt} {L : List Spt} {h : MH} (e : sem_next_in_part [.tup (ls.map encL), encS s] [] = some (.lst (L.map encS), [])) : bx_next_in_part [.tup (ls.map encL), encS s] h = some (.lst (L.map encS), h) := box_pure (g := []) (by simp) e (by simp)
theorem next_head {N : Nat} {p : List Pt} {bs ws : List Str} {way : List (Nat × Nat)} {part k : Nat} (hg : GoodP N bs ws p) (hN : N ≤ 100000) (hr : RL p) (hs : SV p ⟨way, part, k, true⟩) (hs2 : SW ⟨way, part, k, true⟩) : ∃ L, L.length ≤ 2 ∧ NextOk p ⟨way, part, k, true⟩ L := by
  obtain ⟨x, hx, hk, hh⟩ := hs.ex
  have hw := hs.way
  simp only at hx hk hw
  obtain ⟨r, hr'⟩ := hh rfl
  simp only at hr'
  have hm := List.mem_iff_getElem?.mpr ⟨part, hx⟩
  have hok := hg.ok part x hx
  have hne : ∀ l ∈ x.2, ∃ y r, l = y :: r := fun l hl => line_cons (hok l hl)
  have hsz := hg.sz x hm
  have F := bal_found (hg.bal x hm)
  rw [List.length_map] at F
  obtain ⟨t, md, en, h1, h2, h3⟩ := F.ag k (by rw [List.getElem?_map, hr']; show some (cd "again") = _; rw [cd_again])
  have hen : en < x.2.length := by have := (List.getElem?_eq_some_iff.mp h3.at_).1; simpa using this
  have hkl := (List.getElem?_eq_some_iff.mp hr').1
  have ee : ∀ h, bx_end_of [.tup (x.2.map encL), .int k] h = some (.int en, h) := fun h => end_ok hne (by omega) h3
  have ep := at_part hx
  have hlt : k < en := h3.lt
  refine ⟨[⟨way, part, en + 1, false⟩, ⟨way, part, k + 1, false⟩], by simp, ?_, ⟨mono_two (show en + 1 ≠ k + 1 by omega), .head hx hr' cd_again h3⟩, fun h => ?_⟩
  · intro u hu
    simp at hu
    rcases hu with rfl | rfl
    · exact gap_v hw hx (by omega) hs2
    · exact gap_v hw hx (by omega) hs2
  · refine bP ?_
    simp [sem_next_spots, mDef, encS, ep, ee]
theorem next_end {N : Nat} {p : List Pt} {bs ws : List Str} {way : List (Nat × Nat)} {part k : Nat} {x : Pt} (hg : GoodP N bs ws p) (hN : N ≤ 100000) (hr : RL p) (hs : SV p ⟨way, part, k, false⟩) (hs2 : SW ⟨way, part, k, false⟩) (hx : p[part]? = some x) (hk : k = x.2.length) : ∃ L, L.length ≤ 2 ∧ NextOk p ⟨way, part, k, false⟩ L := by
  have hw := hs.way
  simp only at hw
  have ep := at_part hx
  have en : ∀ h, bx_line_of [encP p, encS ⟨way, part, k, false⟩] h = some (.non, h) := fun h => line_none hx (.inr hk)
  simp only [encS] at en
  by_cases hz : way = []
  · subst hz
    have e1 : ∀ h, bx_behind_do [encS ⟨[], part, k, false⟩] h = some (.lst [], h) := fun h => by
      refine box_pure (g := []) (by simp) ?_ (by simp)
      simp [sem_behind_do, mDef, encS]
    simp only [encS] at e1
    refine ⟨[], by simp, by simp, ⟨mono_nil, .fin0 rfl hx (List.getElem?_eq_none (by omega))⟩, fun h => ?_⟩
    · refine bP ?_
      simp at en e1
      simp [sem_next_spots, mDef, encS, ep, en, e1]
  · obtain ⟨r, q, rfl⟩ := snocW way hz
    obtain ⟨y, hy, hyl⟩ := hw q (by simp)
    have e1 : ∀ h, bx_behind_do [encS ⟨r ++ [q], part, k, false⟩] h = some (.lst [encS ⟨r, q.1, q.2 + 1, false⟩], h) := fun h => by
      refine box_pure (g := []) (by simp) ?_ (by simp)
      simp [sem_behind_do, mDef, encS]
    simp only [encS] at e1
    refine ⟨[⟨r, q.1, q.2 + 1, false⟩], by simp, ?_, ⟨mono_back, .fin rfl hx (List.getElem?_eq_none (by omega))⟩, fun h => ?_⟩
    · intro u hu
      simp at hu
      subst hu
      exact ⟨⟨⟨y, hy, by show q.2 + 1 ≤ _; omega, by simp⟩, fun z hz => hw z (by simp; exact .inl hz)⟩, ⟨fun j z hz => hs2.up j z (by show (r ++ [q])[j]? = _; rw [List.getElem?_append_left (List.getElem?_eq_some_iff.mp hz).1]; exact hz), hs2.up r.length q (by simp)⟩⟩
    · refine bP ?_
      simp at en e1
      simp [sem_next_spots, mDef, encS, ep, en, e1]
theorem do_words {bs ws la : List Str} {x : Str} {r : List Str} (h : LineOk bs ws la (x :: r)) (hd : x = "do") : ∃ nm, r = [nm] ∧ nm ∈ la := by
  subst hd
  generalize hl : (("do" : Str) :: r) = l at h
  cases h with
  | plain h => cases h <;> simp at hl
  | «do» h => simp at hl; exact ⟨_, hl, h⟩
  | blk h => rcases h with rfl | rfl | rfl | rfl <;> simp at hl
  | back h => simp at hl
theorem cd_ag {x : Str} (h : cd x = .ag) : x = "again" := by
  rcases words_apart (x := x) with ⟨rfl, hc⟩ | ⟨rfl, hc⟩ | ⟨rfl, hc⟩ | ⟨rfl, hc⟩ | ⟨_, hc⟩
  · rw [hc] at h; cases h
  · rfl
  · rw [hc] at h; cases h
  · rw [hc] at h; cases h
  · rw [hc] at h; cases h
theorem find_nm {ns : List Str} {nm : Str} (h : nm ∈ ns) : ∃ j, ns.findIdx? (· == nm) = some j ∧ j < ns.length := by
  cases e : ns.findIdx? (· == nm) with
  | none =>
    rw [List.findIdx?_eq_none_iff] at e
    have := e nm h
    simp at this
  | some j =>
    refine ⟨j, rfl, ?_⟩
    rw [List.findIdx?_eq_some_iff_getElem] at e
    exact e.1
theorem find_behind {ns : List Str} {nm : Str} {m j : Nat} (hn : ns.Nodup) (h : nm ∈ ns.drop (m + 1)) (hj : ns.findIdx? (· == nm) = some j) : m + 1 ≤ j := by
  obtain ⟨i, hi⟩ := List.mem_iff_getElem?.mp h
  rw [List.getElem?_drop] at hi
  obtain ⟨hil, hie⟩ := List.getElem?_eq_some_iff.mp hi
  rw [List.findIdx?_eq_some_iff_getElem] at hj
  obtain ⟨hjl, hje, _⟩ := hj
  simp at hje
  have hp := List.pairwise_iff_getElem.mp hn
  by_cases hlt : j < m + 1 + i
  · exact absurd (hje.trans hie.symm) (hp j (m + 1 + i) hjl hil hlt)
  · omega
noncomputable abbrev iS (way : List (Nat × Nat)) (part k : Nat) (x : Pt) (y : Str) : MSt := [some (.tup (x.2.map encL)), some (.tup [.tup (way.map encW), .int part, .int k, .bl false]), some (.int k), some (.str y)]
theorem next_line {N : Nat} {p : List Pt} {bs ws : List Str} {way : List (Nat × Nat)} {part k : Nat} {x : Pt} {l : Ln} (hg : GoodP N bs ws p) (hN : N ≤ 100000) (hr : RL p) (hs : SV p ⟨way, part, k, false⟩) (hs2 : SW ⟨way, part, k, false⟩) (hx : p[part]? = some x) (hl : x.2[k]? = some l) : ∃ L, L.length ≤ 2 ∧ NextOk p ⟨way, part, k, false⟩ L := by
  have hw := hs.way
  simp only at hw
  have hm := List.mem_iff_getElem?.mpr ⟨part, hx⟩
  have hok := hg.ok part x hx
  have hne : ∀ l ∈ x.2, ∃ y r, l = y :: r := fun l hl => line_cons (hok l hl)
  have hsz := hg.sz x hm
  have F := bal_found (hg.bal x hm)
  rw [List.length_map] at F
  have hkl := (List.getElem?_eq_some_iff.mp hl).1
  obtain ⟨y, r, rfl⟩ := hne l (List.mem_iff_getElem?.mpr ⟨k, hl⟩)
  have hcd : (x.2.map cdL)[k]? = some (cd y) := by rw [List.getElem?_map, hl]; rfl
  have ep := at_part hx
  have el := ix_ln hl
  have eline : ∀ h, bx_line_of [encP p, encS ⟨way, part, k, false⟩] h = some (encL (y :: r), h) := fun h => line_some hx rfl hl
  simp only [encS] at eline
  have nk : ¬ (k : Int) = x.2.length := by omega
  have nk' : ¬ k = x.2.length := by omega
  have nl : isNonW (encL (y :: r)) = false := rfl
  have gv : ∀ m, m ≤ x.2.length → SV p ⟨way, part, m, false⟩ ∧ SW ⟨way, part, m, false⟩ := fun m hm => gap_v hw hx hm hs2
  have one : ∀ (u : Spt), (SV p u ∧ SW u) → ∀ t ∈ [u], SV p t ∧ SW t := fun u hu t ht => by rw [List.mem_singleton.mp ht]; exact hu
  -- what next_in_part tells
  have up : y ≠ "do" → ∀ (L : List Spt), (∀ h, bx_next_in_part [.tup (x.2.map encL), .tup [.tup (way.map encW), .int part, .int k, .bl false]] h = some (.lst (L.map encS), h)) → ∀ h, bx_next_spots [encP p, encS ⟨way, part, k, false⟩] h = some (.lst (L.map encS), h) := fun hd L e h => by
    refine bP ?_
    simp [sem_next_spots, mDef, encS, ep, eline, nl, hd, e]
  have pn : sem_next_in_part [.tup (x.2.map encL), encS ⟨way, part, k, false⟩] [] = mFin (tl_next_in_part (iS way part k x y) []) := by
    simp [sem_next_in_part, mDef, encS, el]
  rcases words_apart (x := y) with ⟨rfl, hc⟩ | ⟨rfl, hc⟩ | ⟨rfl, hc⟩ | ⟨rfl, hc⟩ | ⟨⟨n1, n2, n3, n4⟩, hc⟩
  · obtain ⟨t, md, en, h1, h2, h3⟩ := F.ei k (by rw [hcd, hc])
    have hmd : md < x.2.length := by have := (List.getElem?_eq_some_iff.mp h3.at_).1; simpa using this
    have eo : ∀ h, bx_or_of [.tup (x.2.map encL), .int k] h = some (.int md, h) := fun h => or_ok hne (by omega) h3
    have hlt : k < md := h3.lt
    refine ⟨[⟨way, part, k + 1, false⟩, ⟨way, part, md + 1, false⟩], by simp, ?_, ⟨mono_two (show k + 1 ≠ md + 1 by omega), .ei hx hl hc h3⟩, up (by simp) _ fun h => ?_⟩
    · intro u hu
      simp at hu
      rcases hu with rfl | rfl
      · exact gv _ (by omega)
      · exact gv _ (by omega)
    · refine bI (s := ⟨way, part, k, false⟩) ?_
      rw [pn]
      simp [tl_next_in_part, encS, eo]
  · refine ⟨[⟨way, part, k, true⟩], by simp, one _ ⟨⟨⟨x, hx, by show k ≤ _; omega, fun _ => ⟨r, hl⟩⟩, hw⟩, ⟨hs2.up, hs2.le⟩⟩, ⟨mono_head, .ag hx hl hc⟩, up (by simp) _ fun h => ?_⟩
    · refine bI (s := ⟨way, part, k, false⟩) ?_
      rw [pn]
      simp [tl_next_in_part, encS]
  · obtain ⟨t, fs, en, h1, h2, h3⟩ := F.oo k (by rw [hcd, hc])
    have hen : en < x.2.length := by have := (List.getElem?_eq_some_iff.mp h3.at_).1; simpa using this
    have ee : ∀ h, bx_end_of [.tup (x.2.map encL), .int k] h = some (.int en, h) := fun h => end_ok hne (by omega) h3
    have hlt : k < en := h3.lt
    refine ⟨[⟨way, part, en + 1, false⟩], by simp, one _ (gv _ (by omega)), ⟨mono_gap hx hkl (by omega), .oo hx hl hc h3⟩, up (by simp) _ fun h => ?_⟩
    · refine bI (s := ⟨way, part, k, false⟩) ?_
      rw [pn]
      simp [tl_next_in_part, encS, ee]
  · obtain ⟨t, fs, md, h1, h2, h3, h4⟩ := F.en k (by rw [hcd, hc])
    have eh : ∀ h, bx_head_of [.tup (x.2.map encL), .int k] h = some (.int fs, h) := fun h => head_ok hne (by omega) (by omega) h3
    have hfl : fs < x.2.length := by have := h3.lt; omega
    obtain ⟨z, r', hz⟩ := hne x.2[fs] (List.getElem_mem hfl)
    have hz' : x.2[fs]? = some (z :: r') := by rw [List.getElem?_eq_getElem hfl, hz]
    have ef := ix_ln hz'
    have hcz : (x.2.map cdL)[fs]? = some (cd z) := by rw [List.getElem?_map, hz']; rfl
    by_cases ha : z = "again"
    · subst ha
      refine ⟨[⟨way, part, fs, true⟩], by simp, one _ ⟨⟨⟨x, hx, by show fs ≤ _; omega, fun _ => ⟨r', hz'⟩⟩, hw⟩, ⟨hs2.up, hs2.le⟩⟩, ⟨mono_head, .enA hx hl hc h3 hz' cd_again⟩, up (by simp) _ fun h => ?_⟩
      · refine bI (s := ⟨way, part, k, false⟩) ?_
        rw [pn]
        simp [tl_next_in_part, encS, eh, ef]
    · refine ⟨[⟨way, part, k + 1, false⟩], by simp, one _ (gv _ (by omega)), ⟨mono_gap hx hkl (by omega), .enE hx hl hc h3 hz' (by rcases h4 with q | q <;> rw [hcz] at q <;> first | exact Option.some.inj q | exact absurd (cd_ag (Option.some.inj q)) ha)⟩, up (by simp) _ fun h => ?_⟩
      · refine bI (s := ⟨way, part, k, false⟩) ?_
        rw [pn]
        simp [tl_next_in_part, encS, eh, ef, ha]
  · by_cases hd : y = "do"
    · obtain ⟨nm, rfl, hnm⟩ := do_words (hok _ (List.mem_iff_getElem?.mpr ⟨k, hl⟩)) hd
      subst hd
      obtain ⟨j, hj, hjl⟩ := find_nm (List.mem_of_mem_drop hnm)
      have hpj := find_behind hg.nd hnm hj
      have hlen := hg.len
      have en : ∀ h, bx_part_number [encP p, .str nm] h = some (.int j, h) := fun h => number_ok hj (by omega)
      have hjl' : j < p.length := by simpa using hjl
      have s1 : way.length + 1 ≤ sizeLine := sizeL (by have := hs2.le; have := (List.getElem?_eq_some_iff.mp hx).1; simp only at *; omega)
      refine ⟨[⟨way ++ [(part, k)], j, 0, false⟩], by simp, one _ ⟨⟨⟨p[j], List.getElem?_eq_getElem hjl', Nat.zero_le _, by simp⟩, ?_⟩, ?_⟩, ⟨mono_do hr hx hl (by show (("do" : Str) == "do") = true; decide) hpj, .dd hx hl hc (by show (("do" : Str) == "do") = true; decide) (by show (if isDo (["do", nm] : Ln) = true then _ else none) = some j; rw [if_pos (by show (("do" : Str) == "do") = true; decide)]; exact hj)⟩, fun h => ?_⟩
      · intro q hq
        simp at hq
        rcases hq with hq | rfl
        · exact hw q hq
        · exact ⟨x, hx, hkl⟩
      · refine ⟨fun i q hq => ?_, by have := hs2.le; simp at this ⊢; omega⟩
        have hil := (List.getElem?_eq_some_iff.mp hq).1
        simp at hil
        have hle := hs2.le
        simp only at hle hq
        by_cases hi : i < way.length
        · rw [List.getElem?_append_left hi] at hq
          exact hs2.up i q hq
        · have : i = way.length := by omega
          subst this
          simp at hq
          subst hq
          exact hle
      · refine bP ?_
        simp [sem_next_spots, mDef, encS, ep, eline, nl, en, s1, encW]
    · refine ⟨[⟨way, part, k + 1, false⟩], by simp, one _ (gv _ (by omega)), ⟨mono_gap hx hkl (by omega), .ot hx hl hc (by show (y == ("do" : Str)) = false; simpa using hd)⟩, up hd _ fun h => ?_⟩
      · refine bI (s := ⟨way, part, k, false⟩) ?_
        rw [pn]
        simp [tl_next_in_part, encS, n1, n2, n3, n4]
theorem next_ok {N : Nat} {p : List Pt} {bs ws : List Str} {s : Spt} (hg : GoodP N bs ws p) (hN : N ≤ 100000) (hr : RL p) (hs : SV p s) (hs2 : SW s) : ∃ L, L.length ≤ 2 ∧ NextOk p s L := by
  obtain ⟨way, part, k, head⟩ := s
  cases head with
  | true => exact next_head hg hN hr hs hs2
  | false =>
    obtain ⟨x, hx, hk, _⟩ := hs.ex
    simp only at hx hk
    by_cases z : k = x.2.length
    · exact next_end hg hN hr hs hs2 hx z
    · exact next_line hg hN hr hs hs2 hx (List.getElem?_eq_getElem (by omega))
end My

namespace My
open PySem PySem.Spec PyProof.Rows L2 Mi My3 My4 My5
open Classical in
noncomputable def nx (p : List Pt) (s : Spt) : List Spt := if h : ∃ L, L.length ≤ 2 ∧ NextOk p s L then h.choose else []
theorem nx_ok {p : List Pt} {N : Nat} {bs ws : List Str} {s : Spt} (hg : GoodP N bs ws p) (hN : N ≤ 100000) (hr : RL p) (hs : SV p s) (hs2 : SW s) : (nx p s).length ≤ 2 ∧ NextOk p s (nx p s) := by
  have h := next_ok hg hN hr hs hs2
  unfold nx
  rw [dif_pos h]
  exact h.choose_spec
noncomputable def pk (a b : Spt) (c : Nat) : Spt := if c = 0 then a else b
inductive Go (p : List Pt) : Spt → List Nat → List Spt → List Nat → Prop where
  | stop {s : Spt} {cs : List Nat} (h : nx p s = []) : Go p s cs [] cs
  | one {s t : Spt} {cs cs' : List Nat} {tr : List Spt} (h : nx p s = [t]) (g : Go p t cs tr cs') : Go p s cs (t :: tr) cs'
  | wait {s a b : Spt} (h : nx p s = [a, b]) : Go p s [] [] []
  | two {s a b : Spt} {c : Nat} {cs cs' : List Nat} {tr : List Spt} (h : nx p s = [a, b]) (hc : c ≤ 1) (g : Go p (pk a b c) cs tr cs') : Go p s (c :: cs) (pk a b c :: tr) cs'
theorem upto2 {L : List Spt} (h : L.length ≤ 2) : L = [] ∨ (∃ t, L = [t]) ∨ ∃ a b, L = [a, b] := by
  match L, h with
  | [], _ => exact .inl rfl
  | [t], _ => exact .inr (.inl ⟨t, rfl⟩)
  | [a, b], _ => exact .inr (.inr ⟨a, b, rfl⟩)
  | _ :: _ :: _ :: _, h => simp at h
theorem sv4 {p : List Pt} {N : Nat} {bs ws : List Str} {s : Spt} (hg : GoodP N bs ws p) (hN : N ≤ 100000) (hr : RL p) (hs : SV p s) (hs2 : SW s) : s.way.length ≤ 4 := by
  obtain ⟨x, hx, _⟩ := hs.ex
  have h1 := (List.getElem?_eq_some_iff.mp hx).1
  have h2 := hg.len
  have h3 := hs2.le
  omega
theorem nx_v {p : List Pt} {N : Nat} {bs ws : List Str} {s t : Spt} (hg : GoodP N bs ws p) (hN : N ≤ 100000) (hr : RL p) (hs : SV p s) (hs2 : SW s) (h : t ∈ nx p s) : SV p t ∧ SW t := (nx_ok hg hN hr hs hs2).2.1 t h
theorem pk_mem {a b : Spt} {c : Nat} : pk a b c ∈ [a, b] := by unfold pk; split <;> simp
theorem go_ex {p : List Pt} {N : Nat} {bs ws : List Str} (hg : GoodP N bs ws p) (hN : N ≤ 100000) (hr : RL p) : ∀ (n : Nat) (s : Spt) (cs : List Nat), SV p s → SW s → (∀ c ∈ cs, c ≤ 1) → rk p s + cs.length * 326656 ≤ n → ∃ tr cs', Go p s cs tr cs' ∧ tr.length ≤ n := by
  intro n
  induction n with
  | zero =>
    intro s cs hs hs2 hc hn
    obtain ⟨hl, hk⟩ := nx_ok hg hN hr hs hs2
    rcases upto2 hl with e | ⟨t, e⟩ | ⟨a, b, e⟩
    · exact ⟨[], cs, .stop e, Nat.le_refl _⟩
    · have := hk.2.1.1.one t e; omega
    · cases cs with
      | nil => exact ⟨[], [], .wait e, Nat.le_refl _⟩
      | cons c cs => rw [List.length_cons, Nat.add_mul] at hn; omega
  | succ n ih =>
    intro s cs hs hs2 hc hn
    obtain ⟨hl, hk⟩ := nx_ok hg hN hr hs hs2
    rcases upto2 hl with e | ⟨t, e⟩ | ⟨a, b, e⟩
    · exact ⟨[], cs, .stop e, Nat.zero_le _⟩
    · have h1 := hk.2.1.1.one t e
      obtain ⟨v1, v2⟩ := nx_v hg hN hr hs hs2 (t := t) (by rw [e]; simp)
      obtain ⟨tr, cs', g, hl⟩ := ih t cs v1 v2 hc (by omega)
      exact ⟨t :: tr, cs', .one e g, by simp; omega⟩
    · cases cs with
      | nil => exact ⟨[], [], .wait e, Nat.zero_le _⟩
      | cons c cs =>
        obtain ⟨v1, v2⟩ := nx_v hg hN hr hs hs2 (t := pk a b c) (by rw [e]; exact pk_mem)
        rw [List.length_cons, Nat.add_mul] at hn
        have h1 := rk_le hr (s := pk a b c) (sv4 hg hN hr v1 v2)
        obtain ⟨tr, cs', g, hl⟩ := ih (pk a b c) cs v1 v2 (fun x hx => hc x (List.mem_cons_of_mem _ hx)) (by omega)
        exact ⟨pk a b c :: tr, cs', .two e (hc c List.mem_cons_self) g, by simp; omega⟩
noncomputable def encC (cs : List Nat) : List W := cs.map fun (c : Nat) => .int (c : Int)
@[simp] theorem encC_len {cs : List Nat} : (encC cs).length = cs.length := by simp [encC]
@[simp] theorem purs_C {cs : List Nat} : purs (encC cs) = true := by
  induction cs with
  | nil => rfl
  | cons c cs ih => unfold encC at ih ⊢; simp [ih]
@[simp] theorem encC_cons {c : Nat} {cs : List Nat} : encC (c :: cs) = .int (c : Int) :: encC cs := id rfl
@[simp] theorem encC_app {a b : List Nat} : encC (a ++ b) = encC a ++ encC b := by simp [encC]
theorem at_C {a b : List Nat} {c : Nat} : atI (encC a ++ .int (c : Int) :: encC b) (a.length : Int) = some (.int (c : Int)) := by
  rw [atI_nat', List.getElem?_append_right (by simp)]
  simp
theorem at_pk {a b : Spt} {c : Nat} (h : c ≤ 1) : atI [encS a, encS b] (c : Int) = some (encS (pk a b c)) := by
  rw [atI_nat']
  match c, h with
  | 0, _ => rfl
  | 1, _ => rfl
@[simp] theorem atI_m1' {α : Type} {xs : List α} {x y : α} : atI (xs ++ [x, y]) (-1) = some y := by rw [show xs ++ [x, y] = (xs ++ [x]) ++ [y] by simp]; exact Mi.atI_last _ _
theorem while_go {t : MT} {body : SM} {f : Nat} {σ σ2 : MSt} {h h2 : MH} (e : t σ h = some (true, h)) (e2 : body σ h = some (.nx σ2 h2)) : mWhileN t body (f + 1) σ h = mWhileN t body f σ2 h2 := by
  rw [mWhileN, e]
  simp only [Option.bind_some, e2]
theorem while_end {t : MT} {body : SM} {f : Nat} {σ : MSt} {h : MH} (e : t σ h = some (false, h)) : mWhileN t body (f + 1) σ h = some (.nx σ h) := by rw [mWhileN, e]; rfl
theorem szN {n m : Nat} (h : n + m ≤ 16000000) : n < sizeLine := Nat.lt_of_le_of_lt (show n ≤ 16000000 by omega) (by decide)
noncomputable abbrev tR : MT := mtOr (mTest (mBin wEq (mFn wLen (mCons (mVar 4) mNil)) (mC (.int 1)))) (mtAnd (mTest (mBin wEq (mFn wLen (mCons (mVar 4) mNil)) (mC (.int 2)))) (mTest (mBin wLt (mVar 3) (mFn wLen (mCons (mVar 1) mNil)))))
noncomputable abbrev rS (p : List Pt) (all : List Nat) (u : Nat) (L : List Spt) : MSt := [some (encP p), some (.lst (encC all)), some (.ref 0), some (.int u), some (.lst (L.map encS))]
noncomputable abbrev rH (R : List Spt) (s : Spt) : MH := [.lst (R.map encS ++ [encS s])]
theorem run_loop {p : List Pt} {N : Nat} {bs ws : List Str} (hg : GoodP N bs ws p) (hN : N ≤ 100000) (hr : RL p) {s : Spt} {cs cs' : List Nat} {tr : List Spt} (g : Go p s cs tr cs') : ∀ (R : List Spt) (pre : List Nat) (f : Nat), SV p s → SW s → tr.length < f → R.length + 1 + tr.length ≤ 16000000 →
    ∃ (v : Nat) (L : List Spt), v + cs'.length = pre.length + cs.length ∧ mWhileN tR bd_run_by_1 f (rS p (pre ++ cs) pre.length (nx p s)) (rH R s) = some (.nx (rS p (pre ++ cs) v L) [.lst ((R ++ s :: tr).map encS)]) := by
  induction g with
  | @stop s cs h =>
    intro R pre f _ _ hf _
    obtain ⟨f, rfl⟩ : ∃ k, f = k + 1 := ⟨f - 1, by omega⟩
    refine ⟨pre.length, nx p s, rfl, ?_⟩
    rw [while_end (by rw [h]; simp)]
    simp
  | @wait s a b h =>
    intro R pre f _ _ hf _
    obtain ⟨f, rfl⟩ : ∃ k, f = k + 1 := ⟨f - 1, by omega⟩
    refine ⟨pre.length, nx p s, rfl, ?_⟩
    rw [while_end (by rw [h]; simp)]
    simp
  | @one s t cs cs' tr h g ih =>
    intro R pre f v1 v2 hf hl
    obtain ⟨f, rfl⟩ : ∃ k, f = k + 1 := ⟨f - 1, by omega⟩
    obtain ⟨w1, w2⟩ := nx_v hg hN hr v1 v2 (t := t) (by rw [h]; simp)
    have en := (nx_ok hg hN hr w1 w2).2.2.2
    simp only [List.length_cons] at hf hl
    obtain ⟨v, L, hv, e⟩ := ih (R ++ [s]) pre f w1 w2 (by omega) (by simp; omega)
    refine ⟨v, L, hv, ?_⟩
    have s1 : R.length + 1 < sizeLine := szN (m := tr.length) (by omega)
    rw [while_go (σ2 := rS p (pre ++ cs) pre.length (nx p t)) (h2 := rH (R ++ [s]) t) (by rw [h]; simp) (by rw [h]; simp [en, s1, rS, rH]), e]
    simp
  | @two s a b c cs cs' tr h hc g ih =>
    intro R pre f v1 v2 hf hl
    obtain ⟨f, rfl⟩ : ∃ k, f = k + 1 := ⟨f - 1, by omega⟩
    obtain ⟨w1, w2⟩ := nx_v hg hN hr v1 v2 (t := pk a b c) (by rw [h]; exact pk_mem)
    have en := (nx_ok hg hN hr w1 w2).2.2.2
    simp only [List.length_cons] at hf hl
    obtain ⟨v, L, hv, e⟩ := ih (R ++ [s]) (pre ++ [c]) f w1 w2 (by omega) (by simp; omega)
    refine ⟨v, L, by simp at hv ⊢; omega, ?_⟩
    have s1 : R.length + 1 < sizeLine := szN (m := tr.length) (by omega)
    have ea := at_C (a := pre) (b := cs) (c := c)
    have ep := at_pk (a := a) (b := b) hc
    have hlt : (pre.length : Int) < pre.length + (cs.length + 1) := by omega
    rw [List.append_assoc] at e
    rw [while_go (σ2 := rS p (pre ++ c :: cs) (pre ++ [c]).length (nx p (pk a b c))) (h2 := rH (R ++ [s]) (pk a b c)) (by rw [h]; simp; omega) (by rw [h]; simp [en, s1, ea, ep, rS, rH])]
    simp only [List.cons_append, List.nil_append] at e
    rw [e]
    simp
end My

namespace My
open PySem PySem.Spec PyProof.Rows L2 Mi My3 My4 My5
noncomputable def fl (p : List Pt) : Nat → Nat → List Ln
  | 0, _ => []
  | d + 1, i => match p[i]? with
    | some x => x.2.flatMap fun l => match doIx p l with
      | some j => fl p d j
      | none => [l]
    | none => []
noncomputable def X (p : List Pt) (i : Nat) : List Ln := fl p 5 i
noncomputable def ex (p : List Pt) (l : Ln) : List Ln := match doIx p l with
  | some j => X p j
  | none => [l]
section
variable {N : Nat} {bs ws : List Str} {p : List Pt}
theorem do_gt (hg : GoodP N bs ws p) {i j : Nat} {x : Pt} {l : Ln} (hx : p[i]? = some x) (hl : l ∈ x.2) (hd : doIx p l = some j) : i + 1 ≤ j ∧ j < p.length ∧ isDo l = true ∧ cdL l = .ot := by
  unfold doIx at hd
  split at hd
  · rename_i hdo
    obtain ⟨y, r, rfl⟩ := line_cons (hg.ok i x hx l hl)
    have hy : y = "do" := by simpa [isDo] using hdo
    obtain ⟨nm, rfl, hnm⟩ := do_words (hg.ok i x hx _ hl) hy
    have hj := find_behind hg.nd hnm hd
    rw [List.findIdx?_eq_some_iff_getElem] at hd
    have := hd.1
    simp at this
    exact ⟨hj, this, hdo, by show cd y = .ot; rw [hy]; decide⟩
  · cases hd
theorem do_ex (hg : GoodP N bs ws p) {i : Nat} {x : Pt} {l : Ln} (hx : p[i]? = some x) (hl : l ∈ x.2) (hd : doIx p l = none) : isDo l = false := by
  unfold doIx at hd
  split at hd
  · rename_i hdo
    obtain ⟨y, r, rfl⟩ := line_cons (hg.ok i x hx l hl)
    have hy : y = "do" := by simpa [isDo] using hdo
    obtain ⟨nm, rfl, hnm⟩ := do_words (hg.ok i x hx _ hl) hy
    obtain ⟨j, hj, _⟩ := find_nm (List.mem_of_mem_drop hnm)
    have : (p.map (·.1)).findIdx? (· == nm) = none := hd
    rw [hj] at this; cases this
  · rename_i h; simpa using h
theorem fm_congr {α β : Type} {f g : α → List β} : ∀ {xs : List α}, (∀ x ∈ xs, f x = g x) → xs.flatMap f = xs.flatMap g
  | [], _ => rfl
  | x :: xs, h => by rw [List.flatMap_cons, List.flatMap_cons, h x List.mem_cons_self, fm_congr fun y hy => h y (List.mem_cons_of_mem _ hy)]
theorem fl_st (hg : GoodP N bs ws p) : ∀ (n i d d' : Nat), 5 - i ≤ n → n ≤ d → n ≤ d' → fl p d i = fl p d' i := by
  have hlen := hg.len
  intro n
  induction n with
  | zero =>
    intro i d d' h _ _
    have e : p[i]? = none := List.getElem?_eq_none (by omega)
    have z : ∀ d, fl p d i = [] := fun d => by cases d <;> simp [fl, e]
    rw [z, z]
  | succ n ih =>
    intro i d d' h h1 h2
    obtain ⟨d, rfl⟩ : ∃ k, d = k + 1 := ⟨d - 1, by omega⟩
    obtain ⟨d', rfl⟩ : ∃ k, d' = k + 1 := ⟨d' - 1, by omega⟩
    unfold fl
    cases hx : p[i]? with
    | none => rfl
    | some x =>
      refine fm_congr fun l hl => ?_
      cases hd : doIx p l with
      | none => rfl
      | some j =>
        have := do_gt hg hx hl hd
        exact ih j d d' (by omega) (by omega) (by omega)
theorem X_eq (hg : GoodP N bs ws p) {i : Nat} {x : Pt} (hx : p[i]? = some x) : X p i = x.2.flatMap (ex p) := by
  show fl p 5 i = _
  rw [fl, hx]
  refine fm_congr fun l hl => ?_
  unfold ex
  cases hd : doIx p l with
  | none => rfl
  | some j =>
    have := do_gt hg hx hl hd
    exact fl_st hg 4 j 4 5 (by omega) (by omega) (by omega)
noncomputable abbrev EC (p : List Pt) (l : Ln) : List Cd := (ex p l).map cdL
theorem X_cd (hg : GoodP N bs ws p) {i : Nat} {x : Pt} (hx : p[i]? = some x) : (X p i).map cdL = F (EC p) x.2 := by
  rw [X_eq hg hx, List.map_flatMap]; rfl
structure XOk (bs ws : List Str) (p : List Pt) (i : Nat) : Prop where
  bal : Bal ((X p i).map cdL)
  ok : ∀ l ∈ X p i, LineOk bs ws [] l ∧ isDo l = false
  len : (X p i).length ≤ Wt i
theorem line_nd {la : List Str} {l : Ln} (h : LineOk bs ws la l) (hd : isDo l = false) : LineOk bs ws [] l := by
  cases h with
  | plain h => exact .plain h
  | «do» h => simp [isDo] at hd
  | blk h => exact .blk h
  | back h => exact .back h
theorem ex_of (hg : GoodP N bs ws p) {i : Nat} {x : Pt} (hx : p[i]? = some x) (ih : ∀ j, i + 1 ≤ j → j < p.length → XOk bs ws p j) : ∀ l ∈ x.2, Ex (EC p) cdL l := fun l hl => by
  unfold Ex EC ex
  cases hd : doIx p l with
  | none => exact .inl rfl
  | some j =>
    obtain ⟨h1, h2, h3, h4⟩ := do_gt hg hx hl hd
    exact .inr ⟨h4, (ih j h1 h2).bal⟩
theorem sum_le {α : Type} {f : α → List Ln} {g : α → Nat} : ∀ {xs : List α}, (∀ x ∈ xs, (f x).length ≤ g x) → (xs.flatMap f).length ≤ (xs.map g).sum
  | [], _ => by simp
  | x :: xs, h => by
    have h1 := h x List.mem_cons_self
    have h2 := sum_le (xs := xs) fun y hy => h y (List.mem_cons_of_mem _ hy)
    simp only [List.flatMap_cons, List.length_append, List.map_cons, List.sum_cons]
    omega
theorem xok (hg : GoodP N bs ws p) (hr : RL p) : ∀ (n i : Nat), 5 - i ≤ n → i < p.length → XOk bs ws p i := by
  have hlen := hg.len
  intro n
  induction n with
  | zero => intro i h hi; omega
  | succ n ih =>
    intro i h hi
    have hx : p[i]? = some p[i] := List.getElem?_eq_getElem hi
    generalize p[i] = x at hx
    have hm := List.mem_iff_getElem?.mpr ⟨i, hx⟩
    have ih' : ∀ j, i + 1 ≤ j → j < p.length → XOk bs ws p j := fun j h1 h2 => ih j (by omega) h2
    refine ⟨?_, fun l hl => ?_, ?_⟩
    · rw [X_cd hg hx]
      exact bal_F (ex_of hg hx ih') (hg.bal x hm)
    · rw [X_eq hg hx] at hl
      obtain ⟨l0, h0, h1⟩ := List.mem_flatMap.mp hl
      unfold ex at h1
      cases hd : doIx p l0 with
      | none =>
        rw [hd] at h1
        rw [List.mem_singleton.mp h1]
        have := do_ex hg hx h0 hd
        exact ⟨line_nd (hg.ok i x hx l0 h0) this, this⟩
      | some j =>
        rw [hd] at h1
        obtain ⟨g1, g2, _⟩ := do_gt hg hx h0 hd
        exact (ih' j g1 g2).ok l h1
    · have h2 := hr i 0
      rw [remP_of hx] at h2
      unfold rem at h2
      rw [List.drop_zero] at h2
      rw [X_eq hg hx]
      refine Nat.le_trans (sum_le fun l hl => ?_) h2
      unfold ex cst
      cases hd : doIx p l with
      | none =>
        show 1 ≤ (if isDo l = true then Wt (i + 1) + 2 else 1)
        split <;> omega
      | some j =>
        obtain ⟨g1, g2, g3, _⟩ := do_gt hg hx hl hd
        rw [if_pos g3]
        have := (ih' j g1 g2).len
        have := wt_mono g1
        show (X p j).length ≤ _
        omega
theorem flat_good (hg : GoodP N bs ws p) (hr : RL p) {nm : Str} : GoodP 65330 bs ws [(nm, X p 0)] ∧ RL [(nm, X p 0)] := by
  have h0 := xok hg hr 5 0 (by omega) (List.length_pos_iff.mpr hg.ne)
  have hd : dcn (X p 0) = 0 := by
    unfold dcn
    rw [List.countP_eq_zero]
    intro l hl
    rw [(h0.ok l hl).2]; simp
  have hl : (X p 0).length ≤ 65330 := h0.len
  refine ⟨⟨by simp, by simp, by simpa using h0.bal, by simpa using hl, fun i x hx => ?_, by simp, fun i x hx => ?_⟩, fun i k => ?_⟩
  · cases i with
    | zero => simp at hx; subst hx; intro l hl; exact (h0.ok l hl).1
    | succ i => simp at hx
  · cases i with
    | zero => simp at hx; subst hx; show dcn (X p 0) ≤ _; omega
    | succ i => simp at hx
  · unfold remP
    cases i with
    | zero =>
      simp only [List.getElem?_cons_zero]
      show rem (nm, X p 0) 0 k ≤ 65330
      unfold rem
      rw [sum_cst]
      have h1 : dcn ((X p 0).drop k) = 0 := by
        unfold dcn at hd ⊢
        rw [List.countP_eq_zero] at hd ⊢
        exact fun l hl => hd l (List.mem_of_mem_drop hl)
      show ((X p 0).drop k).length + dcn ((X p 0).drop k) * _ ≤ _
      rw [h1, List.length_drop]
      omega
    | succ i => simp
end
end My

namespace My
open PySem PySem.Spec PyProof.Rows L2 Mi My3 My4 My5
noncomputable def ofl (p : List Pt) (x : Pt) (k : Nat) : Nat := ((x.2.take k).flatMap (ex p)).length
theorem ofl_off {p : List Pt} {x : Pt} {k : Nat} : off (EC p) x.2 k = ofl p x k := by
  unfold off F ofl EC
  rw [← List.map_flatMap, List.length_map]
inductive Ch (p : List Pt) : List (Nat × Nat) → Nat → List Ln → List Ln → Prop where
  | nil : Ch p [] 0 [] []
  | snoc {r : List (Nat × Nat)} {i k j : Nat} {x : Pt} {l : Ln} {A B : List Ln} {way : List (Nat × Nat)} (hw : way = r ++ [(i, k)]) (c : Ch p r i A B) (hx : p[i]? = some x) (hl : x.2[k]? = some l) (hj : doIx p l = some j) : Ch p way j (A ++ (x.2.take k).flatMap (ex p)) ((x.2.drop (k + 1)).flatMap (ex p) ++ B)
section
variable {N : Nat} {bs ws : List Str} {p : List Pt}
theorem X_at (hg : GoodP N bs ws p) {i k : Nat} {x : Pt} {l : Ln} (hx : p[i]? = some x) (hl : x.2[k]? = some l) : X p i = (x.2.take k).flatMap (ex p) ++ (ex p l ++ (x.2.drop (k + 1)).flatMap (ex p)) := by
  rw [X_eq hg hx]
  conv => lhs; rw [My5.split_at hl]
  rw [List.flatMap_append, List.flatMap_cons]
theorem ch_eq (hg : GoodP N bs ws p) {way : List (Nat × Nat)} {part : Nat} {A B : List Ln} (c : Ch p way part A B) : X p 0 = A ++ (X p part ++ B) := by
  induction c with
  | nil => simp
  | snoc hw c hx hl hj ih =>
    rw [ih, X_at hg hx hl]
    simp [ex, hj]
structure Sim (p : List Pt) (s t : Spt) : Prop where
  ex : ∃ A B x, Ch p s.way s.part A B ∧ p[s.part]? = some x ∧ s.k ≤ x.2.length ∧ t = ⟨[], 0, A.length + ofl p x s.k, s.head⟩
noncomputable def LnS (p : List Pt) (s : Spt) : List Ln := if s.head = true then [] else match p[s.part]? with
  | some x => match x.2[s.k]? with
    | some l => if isDo l = true then [] else [l]
    | none => []
  | none => []
theorem ofl_succ {x : Pt} {k : Nat} {l : Ln} (hl : x.2[k]? = some l) (hd : doIx p l = none) : ofl p x (k + 1) = ofl p x k + 1 := by
  have := My5.off_succ (E := EC p) hl
  rw [ofl_off, ofl_off] at this
  rw [this]
  simp [ex, hd]
theorem no_do {l : Ln} (h : isDo l = false) : doIx p l = none := by unfold doIx; rw [if_neg (by simp [h])]
theorem cd_nd {l : Ln} (h : cdL l ≠ .ot) : isDo l = false := by
  cases l with
  | nil => rfl
  | cons y r =>
    by_cases hy : y = "do"
    · subst hy
      exact absurd (show cd "do" = .ot by decide) h
    · simpa [isDo] using hy
structure Here (p : List Pt) (A : List Ln) (x : Pt) : Prop where
  at_ : ∀ (k : Nat) (l : Ln), x.2[k]? = some l → isDo l = false → (X p 0)[A.length + ofl p x k]? = some l
  beh : ∀ (k j : Nat) (c : Cd) (l : Ln), x.2[k]? = some l → isDo l = false → (c = .oo ∨ c = .en) → Beh (x.2.map cdL) k c j → Beh ((X p 0).map cdL) (A.length + ofl p x k) c (A.length + ofl p x j)
  ahd : ∀ (k j : Nat) (l l' : Ln), x.2[k]? = some l → x.2[j]? = some l' → isDo l = false → isDo l' = false → Ahd (x.2.map cdL) k j → Ahd ((X p 0).map cdL) (A.length + ofl p x k) (A.length + ofl p x j)
theorem here (hg : GoodP N bs ws p) (hr : RL p) {way : List (Nat × Nat)} {part : Nat} {A B : List Ln} {x : Pt} (c : Ch p way part A B) (hx : p[part]? = some x) : Here p A x := by
  have e0 := ch_eq hg c
  have hE : ∀ l ∈ x.2, Ex (EC p) cdL l := ex_of hg hx fun j h1 h2 => xok hg hr 5 j (by omega) h2
  have one : ∀ l : Ln, isDo l = false → EC p l = [cdL l] := fun l h => by simp [EC, ex, no_do h]
  have ec : (X p 0).map cdL = A.map cdL ++ (F (EC p) x.2 ++ B.map cdL) := by rw [e0, List.map_append, List.map_append, X_cd hg hx]
  have la : (A.map cdL).length = A.length := List.length_map _
  refine ⟨fun k l hl hd => ?_, fun k j c l hl hd hc B => ?_, fun k j l l' hl hl' hd hd' A' => ?_⟩
  · rw [e0, X_at hg hx hl, List.getElem?_append_right (by omega), Nat.add_sub_cancel_left, List.append_assoc, List.getElem?_append_right (by unfold ofl; omega)]
    unfold ofl
    rw [Nat.sub_self]
    simp [ex, no_do hd]
  · rw [ec, ← ofl_off, ← ofl_off, ← la]
    exact beh_app (beh_F hE hl (one l hd) hc B)
  · rw [ec, ← ofl_off, ← ofl_off, ← la]
    have := ahd_F hE hl hl' (one l' hd') (one l hd) A'
    exact ahd_app this (by have := (List.getElem?_eq_some_iff.mp (at_off hl (one l hd))).1; omega)
end
end My

namespace My
open PySem PySem.Spec PyProof.Rows L2 Mi My3 My4 My5
inductive Two (p : List Pt) : List Spt → List Spt → Prop where
  | nil : Two p [] []
  | one {a a' : Spt} (h : Sim p a a') : Two p [a] [a']
  | two {a b a' b' : Spt} (h : Sim p a a') (h' : Sim p b b') : Two p [a, b] [a', b']
theorem lnS_none {p : List Pt} {s : Spt} {x : Pt} (hx : p[s.part]? = some x) (hl : x.2[s.k]? = none) : LnS p s = [] := by
  unfold LnS
  rw [hx]
  simp only [hl]
  split <;> rfl
theorem lnS_some {p : List Pt} {way : List (Nat × Nat)} {part k : Nat} {x : Pt} {l : Ln} (hx : p[part]? = some x) (hl : x.2[k]? = some l) : LnS p ⟨way, part, k, false⟩ = if isDo l = true then [] else [l] := by
  unfold LnS
  simp only [hx, hl]
  rfl
theorem ln_head {p : List Pt} {way : List (Nat × Nat)} {part k : Nat} : LnS p ⟨way, part, k, true⟩ = [] := rfl
section
variable {N : Nat} {bs ws : List Str} {p : List Pt} {nm : Str}
theorem sim_step (hg : GoodP N bs ws p) (hr : RL p) {s t : Spt} {L : List Spt} (hS : Sim p s t) (hv : SV p s) (hN : Nx p s L) : (∃ s', L = [s'] ∧ LnS p s = [] ∧ Sim p s' t) ∨ ∃ L', Nx [(nm, X p 0)] t L' ∧ LnS [(nm, X p 0)] t = LnS p s ∧ Two p L L' := by
  obtain ⟨A, B, x0, c, hx0, hk0, rfl⟩ := hS.ex
  have H := here hg hr c hx0
  have hq : ([(nm, X p 0)] : List Pt)[0]? = some (nm, X p 0) := rfl
  -- a spot of the same part
  have sm : ∀ {way : List (Nat × Nat)} {part k : Nat} {b : Bool} {n : Nat}, Ch p way part A B → p[part]? = some x0 → k ≤ x0.2.length → n = A.length + ofl p x0 k → Sim p ⟨way, part, k, b⟩ ⟨[], 0, n, b⟩ := fun c hx hk hn => ⟨A, B, x0, c, hx, hk, by rw [hn]⟩
  cases hN with
  | @head way part k en x l hx hl hc Bh =>
    rw [hx0] at hx; cases hx
    have hd := cd_nd (l := l) (by rw [hc]; simp)
    have hj := Bh.at_
    rw [List.getElem?_map] at hj
    obtain ⟨l', hl', hc'⟩ := Option.map_eq_some_iff.mp hj
    have hd' := cd_nd (l := l') (by rw [hc']; simp)
    have hkl := (List.getElem?_eq_some_iff.mp hl).1
    have hjl := (List.getElem?_eq_some_iff.mp hl').1
    refine .inr ⟨_, .head hq (H.at_ k l hl hd) hc (H.beh k en .en l hl hd (.inr rfl) Bh), rfl, .two (sm c hx0 (by omega) ?_) (sm c hx0 (by omega) ?_)⟩
    · rw [ofl_succ hl' (no_do hd')]; rfl
    · rw [ofl_succ hl (no_do hd)]; rfl
  | @fin0 way part k x hw hx hl =>
    rw [hx0] at hx; cases hx
    subst hw
    have hkl : k = x0.2.length := by have := List.getElem?_eq_none_iff.mp hl; simp only at hk0; omega
    have hA : A = [] ∧ part = 0 := by
      simp only at c
      generalize hw : ([] : List (Nat × Nat)) = w at c
      cases c with
      | nil => exact ⟨rfl, rfl⟩
      | snoc hw' => rw [hw'] at hw; simp at hw
    obtain ⟨rfl, rfl⟩ := hA
    have hn : (X p 0)[0 + ofl p x0 k]? = none := by
      refine List.getElem?_eq_none ?_
      rw [X_eq hg hx0, hkl]
      unfold ofl
      rw [List.take_length]; omega
    refine .inr ⟨_, .fin0 rfl hq hn, ?_, .nil⟩
    rw [lnS_none (x := (nm, X p 0)) hq hn, lnS_none hx0 hl]
  | @fin way r q part k x hw hx hl =>
    rw [hx0] at hx; cases hx
    have hkl : k = x0.2.length := by have := List.getElem?_eq_none_iff.mp hl; simp only at hk0; omega
    refine .inl ⟨_, rfl, lnS_none hx0 hl, ?_⟩
    cases c with
    | nil => simp at hw
    | @snoc r' i k' _ x l A' B' _ hw' c' hx' hl' hj' =>
      simp only at hw'
      rw [hw] at hw'
      have := List.append_inj' hw' rfl
      simp at this
      obtain ⟨rfl, rfl⟩ := this
      refine ⟨A', B', x, c', hx', (List.getElem?_eq_some_iff.mp hl').1, ?_⟩
      have e1 := My5.off_succ (E := EC p) hl'
      rw [ofl_off, ofl_off] at e1
      have e2 : (EC p l).length = ofl p x0 k := by
        have e : ex p l = X p part := by unfold ex; rw [hj']
        show ((ex p l).map cdL).length = _
        rw [e, List.length_map, X_eq hg hx0, hkl]
        unfold ofl
        rw [List.take_length]
      have e3 : ((x.2.take k').flatMap (ex p)).length = ofl p x k' := rfl
      simp only [List.length_append, e1, e2, e3, Nat.add_assoc]
  | @ei way part k md x l hx hl hc Bh =>
    rw [hx0] at hx; cases hx
    have hd := cd_nd (l := l) (by rw [hc]; simp)
    have hj := Bh.at_
    rw [List.getElem?_map] at hj
    obtain ⟨l', hl', hc'⟩ := Option.map_eq_some_iff.mp hj
    have hd' := cd_nd (l := l') (by rw [hc']; simp)
    have hkl := (List.getElem?_eq_some_iff.mp hl).1
    have hjl := (List.getElem?_eq_some_iff.mp hl').1
    refine .inr ⟨_, .ei hq (H.at_ k l hl hd) hc (H.beh k md .oo l hl hd (.inl rfl) Bh), ?_, .two (sm c hx0 (by omega) ?_) (sm c hx0 (by omega) ?_)⟩
    · rw [lnS_some hq (H.at_ k l hl hd), lnS_some hx0 hl]
    · rw [ofl_succ hl (no_do hd)]; rfl
    · rw [ofl_succ hl' (no_do hd')]; rfl
  | @ag way part k x l hx hl hc =>
    rw [hx0] at hx; cases hx
    have hd := cd_nd (l := l) (by rw [hc]; simp)
    have hkl := (List.getElem?_eq_some_iff.mp hl).1
    refine .inr ⟨_, .ag hq (H.at_ k l hl hd) hc, ?_, .one (sm c hx0 (by omega) rfl)⟩
    rw [lnS_some hq (H.at_ k l hl hd), lnS_some hx0 hl]
  | @oo way part k en x l hx hl hc Bh =>
    rw [hx0] at hx; cases hx
    have hd := cd_nd (l := l) (by rw [hc]; simp)
    have hj := Bh.at_
    rw [List.getElem?_map] at hj
    obtain ⟨l', hl', hc'⟩ := Option.map_eq_some_iff.mp hj
    have hd' := cd_nd (l := l') (by rw [hc']; simp)
    have hjl := (List.getElem?_eq_some_iff.mp hl').1
    refine .inr ⟨_, .oo hq (H.at_ k l hl hd) hc (H.beh k en .en l hl hd (.inr rfl) Bh), ?_, .one (sm c hx0 (by omega) ?_)⟩
    · rw [lnS_some hq (H.at_ k l hl hd), lnS_some hx0 hl]
    · rw [ofl_succ hl' (no_do hd')]; rfl
  | @enA way part k fs x l l' hx hl hc Ah hf hf' =>
    rw [hx0] at hx; cases hx
    have hd := cd_nd (l := l) (by rw [hc]; simp)
    have hd' := cd_nd (l := l') (by rw [hf']; simp)
    have hjl := (List.getElem?_eq_some_iff.mp hf).1
    refine .inr ⟨_, .enA hq (H.at_ k l hl hd) hc (H.ahd k fs l l' hl hf hd hd' Ah) (H.at_ fs l' hf hd') hf', ?_, .one (sm c hx0 (by omega) rfl)⟩
    rw [lnS_some hq (H.at_ k l hl hd), lnS_some hx0 hl]
  | @enE way part k fs x l l' hx hl hc Ah hf hf' =>
    rw [hx0] at hx; cases hx
    have hd := cd_nd (l := l) (by rw [hc]; simp)
    have hd' := cd_nd (l := l') (by rw [hf']; simp)
    have hkl := (List.getElem?_eq_some_iff.mp hl).1
    refine .inr ⟨_, .enE hq (H.at_ k l hl hd) hc (H.ahd k fs l l' hl hf hd hd' Ah) (H.at_ fs l' hf hd') hf', ?_, .one (sm c hx0 (by omega) ?_)⟩
    · rw [lnS_some hq (H.at_ k l hl hd), lnS_some hx0 hl]
    · rw [ofl_succ hl (no_do hd)]; rfl
  | @dd way part k j x l hx hl hc hd hj =>
    rw [hx0] at hx; cases hx
    refine .inl ⟨_, rfl, by rw [lnS_some hx0 hl, if_pos hd], ?_⟩
    obtain ⟨_, hjl, _⟩ := do_gt hg hx0 (List.mem_iff_getElem?.mpr ⟨k, hl⟩) hj
    refine ⟨_, _, p[j], .snoc rfl c hx0 hl hj, List.getElem?_eq_getElem hjl, Nat.zero_le _, ?_⟩
    simp [ofl]
  | @ot way part k x l hx hl hc hd =>
    rw [hx0] at hx; cases hx
    have hkl := (List.getElem?_eq_some_iff.mp hl).1
    refine .inr ⟨_, .ot hq (H.at_ k l hl hd) hc hd, ?_, .one (sm c hx0 (by omega) ?_)⟩
    · rw [lnS_some hq (H.at_ k l hl hd), lnS_some hx0 hl]
    · rw [ofl_succ hl (no_do hd)]; rfl
end
end My

namespace My
open PySem PySem.Spec PyProof.Rows L2 Mi My3 My4 My5
section
variable {N : Nat} {bs ws : List Str} {p : List Pt} {nm : Str}
theorem nx_is {M : Nat} {q : List Pt} (hg : GoodP M bs ws q) (hN : M ≤ 100000) (hr : RL q) {t : Spt} {L : List Spt} (hs : SV q t) (hs2 : SW t) (h : Nx q t L) : nx q t = L := nx_det (nx_ok hg hN hr hs hs2).2.2.1.2 h
theorem lns_cons {q : List Pt} {s t : Spt} {tr : List Spt} : (s :: t :: tr).dropLast.flatMap (LnS q) = LnS q s ++ (t :: tr).dropLast.flatMap (LnS q) := by simp [List.dropLast]
theorem sim_pk {a b a' b' : Spt} {c : Nat} (h : Sim p a a') (h' : Sim p b b') : Sim p (pk a b c) (pk a' b' c) := by unfold pk; split <;> assumption
theorem sim_go (hg : GoodP N bs ws p) (hN : N ≤ 100000) (hr : RL p) {s : Spt} {cs cs' : List Nat} {tr : List Spt} (g : Go p s cs tr cs') : ∀ {t : Spt} {tr2 : List Spt} {cs2 : List Nat}, SV p s → SW s → SV [(nm, X p 0)] t → SW t → Sim p s t → Go [(nm, X p 0)] t cs tr2 cs2 →
    cs2 = cs' ∧ (t :: tr2).dropLast.flatMap (LnS [(nm, X p 0)]) = (s :: tr).dropLast.flatMap (LnS p) := by
  obtain ⟨hgq, hrq⟩ := flat_good (nm := nm) hg hr
  have hNq : 65330 ≤ 100000 := by decide
  have vq : ∀ {t u : Spt}, SV [(nm, X p 0)] t → SW t → u ∈ nx [(nm, X p 0)] t → SV [(nm, X p 0)] u ∧ SW u := fun h h2 hu => nx_v hgq hNq hrq h h2 hu
  induction g with
  | @stop s cs h =>
    intro t tr2 cs2 v1 v2 w1 w2 S g2
    have hn := (nx_ok hg hN hr v1 v2).2.2.1.2
    rw [h] at hn
    rcases sim_step (nm := nm) hg hr S v1 hn with ⟨s', e, _⟩ | ⟨L', h1, _, h3⟩
    · simp at e
    · cases h3
      have hq := nx_is hgq hNq hrq w1 w2 h1
      cases g2 with
      | stop _ => exact ⟨rfl, rfl⟩
      | one h2 _ => rw [hq] at h2; simp at h2
      | wait h2 => rw [hq] at h2; simp at h2
      | two h2 _ _ => rw [hq] at h2; simp at h2
  | @one s t' cs cs' tr h g ih =>
    intro t tr2 cs2 v1 v2 w1 w2 S g2
    have hn := (nx_ok hg hN hr v1 v2).2.2.1.2
    obtain ⟨u1, u2⟩ := nx_v hg hN hr v1 v2 (t := t') (by rw [h]; simp)
    rw [h] at hn
    rcases sim_step (nm := nm) hg hr S v1 hn with ⟨s', e, e2, S'⟩ | ⟨L', h1, h2, h3⟩
    · simp at e
      subst e
      obtain ⟨e3, e4⟩ := ih u1 u2 w1 w2 S' g2
      exact ⟨e3, by rw [lns_cons, e2]; exact e4⟩
    · cases h3 with
      | @one _ a' S' =>
        have hq := nx_is hgq hNq hrq w1 w2 h1
        obtain ⟨z1, z2⟩ := vq w1 w2 (u := a') (by rw [hq]; simp)
        cases g2 with
        | stop h2 => rw [hq] at h2; simp at h2
        | one h2' g2 =>
          rw [hq] at h2'
          simp at h2'
          subst h2'
          obtain ⟨e3, e4⟩ := ih u1 u2 z1 z2 S' g2
          exact ⟨e3, by rw [lns_cons, lns_cons, h2, e4]⟩
        | wait h2 => rw [hq] at h2; simp at h2
        | two h2 _ _ => rw [hq] at h2; simp at h2
  | @wait s a b h =>
    intro t tr2 cs2 v1 v2 w1 w2 S g2
    have hn := (nx_ok hg hN hr v1 v2).2.2.1.2
    rw [h] at hn
    rcases sim_step (nm := nm) hg hr S v1 hn with ⟨s', e, _⟩ | ⟨L', h1, _, h3⟩
    · simp at e
    · cases h3 with
      | two S1 S2 =>
        have hq := nx_is hgq hNq hrq w1 w2 h1
        cases g2 with
        | stop h2 => rw [hq] at h2; simp at h2
        | one h2 _ => rw [hq] at h2; simp at h2
        | wait h2 => exact ⟨rfl, rfl⟩
  | @two s a b c cs cs' tr h hc g ih =>
    intro t tr2 cs2 v1 v2 w1 w2 S g2
    have hn := (nx_ok hg hN hr v1 v2).2.2.1.2
    obtain ⟨u1, u2⟩ := nx_v hg hN hr v1 v2 (t := pk a b c) (by rw [h]; exact pk_mem)
    rw [h] at hn
    rcases sim_step (nm := nm) hg hr S v1 hn with ⟨s', e, _⟩ | ⟨L', h1, h2, h3⟩
    · simp at e
    · cases h3 with
      | @two _ _ a' b' S1 S2 =>
        have hq := nx_is hgq hNq hrq w1 w2 h1
        obtain ⟨z1, z2⟩ := vq w1 w2 (u := pk a' b' c) (by rw [hq]; exact pk_mem)
        cases g2 with
        | stop h2 => rw [hq] at h2; simp at h2
        | one h2 _ => rw [hq] at h2; simp at h2
        | two h2' _ g2 =>
          rw [hq] at h2'
          simp at h2'
          obtain ⟨rfl, rfl⟩ := h2'
          obtain ⟨e3, e4⟩ := ih u1 u2 z1 z2 (sim_pk S1 S2) g2
          exact ⟨e3, by rw [lns_cons, lns_cons, h2, e4]⟩
end
end My

namespace My
open PySem PySem.Spec PyProof.Rows L2 Mi My3 My4 My5
noncomputable abbrev sp0 : Spt := ⟨[], 0, 0, false⟩
theorem sv0 {N : Nat} {p : List Pt} {bs ws : List Str} (hg : GoodP N bs ws p) : SV p sp0 ∧ SW sp0 := by
  have h0 : 0 < p.length := List.length_pos_iff.mpr hg.ne
  exact ⟨⟨⟨p[0], List.getElem?_eq_getElem h0, Nat.zero_le _, by simp⟩, by simp⟩, ⟨by simp, Nat.le_refl _⟩⟩
theorem box_tupL {m : FM} {ws us : List W} {v : W} {j : Nat} {g h : MH} (hr : rebA 0 ws = some (ws, [])) (e : m ws [] = some (.tup [.ref j, v], g)) (hj : g[j]? = some (.lst us)) (hu : purs us = true) (hv : pur v = true) : box frN m ws h = some (.tup [.lst us, v], h) := by
  have := box_gen (m := m) (args := ws) (as := ws) (ns := []) (os := []) (os' := []) (g := g) (h := h) (w := .tup [.ref j, v]) (w' := .tup [.lst us, v]) hr (by simp) rfl e rfl (by simp) (by
    have h1 : th (res (kpOf [] [] h.length) ([] ++ g) 3) (.ref j) = some (.lst us) := by
      unfold th res
      simp only [kpOf, List.getElem?_nil, List.findIdx?_nil, Option.map_none, List.nil_append, hj]
      rw [ths_pur _ us hu]; rfl
    unfold th ths
    rw [h1, Option.bind_some]
    unfold ths
    rw [th_pur _ v hv, Option.bind_some]
    rfl)
  simpa using this
theorem reb_PC {p : List Pt} {all : List Nat} : rebA 0 [encP p, .lst (encC all)] = some ([encP p, .lst (encC all)], []) := by simp [encP, rebA]
noncomputable def runV (tr : List Spt) (u : Nat) : W := .tup [.lst ((sp0 :: tr).map encS), .int u]
@[simp] theorem atI_m1s {α : Type} {y : α} : atI [y] (-1) = some y := Mi.atI_last [] y
theorem run_by_ok {N : Nat} {p : List Pt} {bs ws : List Str} (hg : GoodP N bs ws p) (hN : N ≤ 100000) (hr : RL p) {all cs' : List Nat} {tr : List Spt} (g : Go p sp0 all tr cs') (hl : tr.length ≤ 14000000) (h : MH) : bx_run_by [encP p, .lst (encC all)] h = some (runV tr (all.length - cs'.length), h) := by
  obtain ⟨v1, v2⟩ := sv0 hg
  obtain ⟨v, L, hv, e⟩ := run_loop hg hN hr g [] [] 20000000 v1 v2 (by omega) (by simp; omega)
  have en := (nx_ok hg hN hr v1 v2).2.2.2
  simp only [List.length_nil, Nat.zero_add] at hv
  have hv' : all.length - cs'.length = v := by omega
  rw [hv']
  refine box_tupL (j := 0) (g := [.lst ((sp0 :: tr).map encS)]) (us := (sp0 :: tr).map encS) (v := .int v) reb_PC ?_ rfl purs_Ss rfl
  simp [rS, rH] at e
  simp [sem_run_by, mDef, en, e]
theorem lines_rec {N : Nat} {bs ws : List Str} {p : List Pt} (hg : GoodP N bs ws p) (hr : RL p) : ∀ (n i : Nat) (h : MH), i < p.length → 5 - i ≤ n → bxr_flat_lines n [encP p, .int i] h = some (.tup ((X p i).map encL), h) := by
  have hlen := hg.len
  intro n
  induction n with
  | zero => intro i h hi hn; omega
  | succ n ih =>
    intro i h hi hn
    have hx : p[i]? = some p[i] := List.getElem?_eq_getElem hi
    generalize p[i] = x at hx
    have hw : (X p i).length ≤ 65330 := Nat.le_trans (xok hg hr 5 i (by omega) hi).len wt_le0
    have ep := at_part hx
    refine box_pure (g := [.lst ((X p i).map encL)]) (by simp) ?_ (by simp)
    have loop := for_inv (items := x.2.map encL) (b := gSet 3) (body := bd_flat_lines_1 (bxr_flat_lines n)) (fun j σ h => ∃ o, σ = [some (encP p), some (.int i), some (.ref 0), o] ∧ h = [.lst (((x.2.take j).flatMap (ex p)).map encL)]) (x.2.map encL) 0 [some (encP p), some (.int i), some (.ref 0), none] [.lst []] ⟨none, rfl, by simp⟩ (by
      rintro j w hj σ h ⟨o, rfl, rfl⟩
      rw [List.getElem?_map] at hj
      obtain ⟨l, hl, rfl⟩ := Option.map_eq_some_iff.mp hj
      have hlm : l ∈ x.2 := List.mem_iff_getElem?.mpr ⟨j, hl⟩
      have hX := X_at hg hx hl
      have hsz : ((x.2.take j).flatMap (ex p)).length + (ex p l).length ≤ 65330 := by
        have := congrArg List.length hX
        simp only [List.length_append] at this
        omega
      have htk : (x.2.take (j + 1)).flatMap (ex p) = (x.2.take j).flatMap (ex p) ++ ex p l := by
        rw [List.take_add_one, hl, List.flatMap_append]; simp
      obtain ⟨y, r, rfl⟩ := line_cons (hg.ok i x hx l hlm)
      refine ⟨[some (encP p), some (.int i), some (.ref 0), some (encL (y :: r))], rfl, [some (encP p), some (.int i), some (.ref 0), some (encL (y :: r))], [.lst (((x.2.take (j + 1)).flatMap (ex p)).map encL)], .inl ?_, _, rfl, by rw [Nat.zero_add]⟩
      rw [htk, List.map_append, Nat.zero_add]
      by_cases hd : y = "do"
      · obtain ⟨nm, rfl, hnm⟩ := do_words (hg.ok i x hx _ hlm) hd
        subst hd
        obtain ⟨q, hq, hql⟩ := find_nm (List.mem_of_mem_drop hnm)
        have hpq := find_behind hg.nd hnm hq
        have en : ∀ h, bx_part_number [encP p, .str nm] h = some (.int q, h) := fun h => number_ok hq (by omega)
        have hql' : q < p.length := by simpa using hql
        have er := fun h => ih q h hql' (by omega)
        have hix : doIx p (["do", nm] : Ln) = some q := by show (if isDo (["do", nm] : Ln) = true then _ else none) = some q; rw [if_pos (by show (("do" : Str) == "do") = true; decide)]; exact hq
        have hex : ex p (["do", nm] : Ln) = X p q := by unfold ex; rw [hix]
        rw [hex] at hsz ⊢
        have s1 : ((x.2.take j).flatMap (ex p)).length + (X p q).length ≤ sizeLine := sizeL (by omega)
        simp only [← List.length_map (f := encL)] at s1
        simp only [List.length_map] at s1
        simp [-List.length_flatMap, en, er, s1]
      · have hix : doIx p (y :: r) = none := by unfold doIx; rw [if_neg (by show ¬ (y == ("do" : Str)) = true; simpa using hd)]
        have hex : ex p (y :: r) = [y :: r] := by unfold ex; rw [hix]
        rw [hex] at hsz ⊢
        simp only [List.length_cons, List.length_nil] at hsz
        have s1 : ((x.2.take j).flatMap (ex p)).length < sizeLine := sizeT (by omega)
        simp [-List.length_flatMap, hd, s1])
    obtain ⟨σ', h', el, o, rfl, rfl⟩ := loop
    rw [List.length_map, Nat.zero_add, List.take_length, ← X_eq hg hx] at el
    have ei : miVal (mBin wIx (mBin wIx (mVar 0) (mVar 1)) (mC (.int 1))) [some (encP p), some (.int i), some (.ref 0), none] [.lst []] = some (x.2.map encL, none, [.lst []]) := by
      have : (mBin wIx (mBin wIx (mVar 0) (mVar 1)) (mC (.int 1))) [some (encP p), some (.int i), some (.ref 0), none] [.lst []] = some (.tup (x.2.map encL), [.lst []]) := by simp [ep]
      unfold miVal; rw [this]; rfl
    simp [sem_flat_lines, mDef, mFor, ei, el]
theorem flat_ok {N : Nat} {bs ws : List Str} {p : List Pt} (hg : GoodP N bs ws p) (hr : RL p) : ∃ nm, ∀ h : MH, bx_flat [encP p] h = some (encP [(nm, X p 0)], h) := by
  have h0 : 0 < p.length := List.length_pos_iff.mpr hg.ne
  have hx : p[0]? = some p[0] := List.getElem?_eq_getElem h0
  generalize p[0] = x at hx
  refine ⟨x.1, fun h => ?_⟩
  have er : ∀ h, bx_flat_lines [encP p, .int 0] h = some (.tup ((X p 0).map encL), h) := fun h => lines_rec hg hr 6 0 h h0 (by omega)
  have ep : atI (p.map encT) 0 = some (encT x) := at_part hx
  refine box_pure (g := []) (by simp) ?_ (by simp)
  show _ = some (W.tup [W.tup [.str x.1, .tup ((X p 0).map encL)]], [])
  simp [sem_flat, mDef, ep, er]
end My

namespace My
open PySem PySem.Spec PyProof.Rows L2 Mi My3 My4 My5
noncomputable def onAndV (mb : ME) (σ : MSt) (p : W × MH) : Option (W × MH) := match p.1 with | .bl true => mb σ p.2 | .bl false => some (.bl false, p.2) | _ => none
@[simp] theorem onAndV_def {mb : ME} {σ : MSt} {h : MH} {c : Bool} : onAndV mb σ (.bl c, h) = if c = true then mb σ h else some (.bl false, h) := by cases c <;> rfl
@[simp] theorem s_and {ma mb : ME} {σ : MSt} {h : MH} : mAnd ma mb σ h = @ob _ _ (onAndV mb σ) (ma σ h) := id rfl
theorem s_neSelf {a : W} {h : MH} (pa : pln a = true) (da : dep a ≤ 40) : wNe a a h = some (.bl false, h) := by rw [s_ne pa pa da da, eqW_self a pa]; rfl
theorem in_falseN {n : Nat} {h : MH} : wIn false (.bl false) (.lst (List.replicate n (.bl true))) h = some (.bl false, h) := by
  have hp : plns (List.replicate n (.bl true)) = true := plns_all fun w hw => by rw [(List.mem_replicate.mp hw).2]; rfl
  have hd : deps (List.replicate n (.bl true)) ≤ 40 := deps_all fun w hw => by rw [(List.mem_replicate.mp hw).2]; simp [dep]
  rw [s_inL rfl hp (by simp [dep]) hd]
  have : inW (.bl false) (List.replicate n (.bl true)) = false := by
    unfold inW
    rw [List.any_eq_false]
    intro w hw
    rw [(List.mem_replicate.mp hw).2]
    simp [eqW]
  simp [this]
theorem app_last {H0 : MH} {o : MO} : (H0 ++ [o])[H0.length]? = some o := by simp
theorem set_lastH {H0 : MH} {o o' : MO} : (H0 ++ [o]).set H0.length o' = H0 ++ [o'] := by simp
theorem cut_last {run : List Spt} (hne : run ≠ []) : cutW (run.map encS) none (some (-1)) = run.dropLast.map encS := by
  have : run.map encS = run.dropLast.map encS ++ [encS (run.getLast hne)] := by
    rw [← List.map_singleton, ← List.map_append, List.dropLast_concat_getLast]
  rw [this, cut_m1]
noncomputable abbrev nS (p : List Pt) (run : List Spt) (a b c d e : Option W) : MSt := [some (encP p), some (.lst (run.map encS)), some (.ref 0), a, b, c, d, e]
theorem lines_ok {p : List Pt} {run : List Spt} {h : MH} (hne : run ≠ []) (hv : ∀ s ∈ run, SV p s) (hl : run.length ≤ 15000000) (ho : ∀ x ∈ p, ∀ l ∈ x.2, ∃ y r, l = y :: r) : bx__law_lines [encP p, .lst (run.map encS)] h = some (.lst ((run.dropLast.flatMap (LnS p)).map encL), h) := by
  have key := for_inv (items := run.dropLast.map encS) (b := gTupN [3, 4, 5, 6]) (body := bd__law_lines_1) (fun j σ h => ∃ a b c d e, σ = nS p run a b c d e ∧ h = [.lst (((run.dropLast.take j).flatMap (LnS p)).map encL)] ∧ ((run.dropLast.take j).flatMap (LnS p)).length ≤ j) (run.dropLast.map encS) 0 (nS p run none none none none none) [.lst []] ⟨_, _, _, _, _, rfl, by simp, by simp⟩ (by
    rintro j w hj σ h ⟨a, b, c, d, e, rfl, rfl, hle⟩
    rw [List.getElem?_map] at hj
    obtain ⟨s, hs, rfl⟩ := Option.map_eq_some_iff.mp hj
    have hjl := (List.getElem?_eq_some_iff.mp hs).1
    rw [List.length_dropLast] at hjl
    have hsm : s ∈ run := List.dropLast_subset _ (List.mem_iff_getElem?.mpr ⟨j, hs⟩)
    obtain ⟨⟨x, hx, hk, hh⟩, _⟩ := hv s hsm
    have htk : (run.dropLast.take (j + 1)).flatMap (LnS p) = (run.dropLast.take j).flatMap (LnS p) ++ LnS p s := by
      rw [List.take_add_one, hs, List.flatMap_append]; simp
    rw [Nat.zero_add] at hle ⊢
    have ep := at_part hx
    obtain ⟨way, part, k, head⟩ := s
    simp only at ep hk hx hh
    refine ⟨nS p run (some (.tup (way.map encW))) (some (.int part)) (some (.int k)) (some (.bl head)) e, by simp [encS, gTupN, gSets], nS p run (some (.tup (way.map encW))) (some (.int part)) (some (.int k)) (some (.bl head)) (some (.tup (x.2.map encL))), [.lst (((run.dropLast.take (j + 1)).flatMap (LnS p)).map encL)], .inl ?_, _, _, _, _, _, rfl, rfl, ?_⟩
    · rw [htk, List.map_append]
      cases head with
      | true => rw [ln_head]; simp [ep]
      | false =>
        by_cases hz : k = x.2.length
        · rw [lnS_none hx (by rw [hz]; simp)]
          simp [ep, hz]
        · have hkl : k < x.2.length := by omega
          have hl' : x.2[k]? = some x.2[k] := List.getElem?_eq_getElem hkl
          generalize x.2[k] = l at hl'
          obtain ⟨y, r, rfl⟩ := ho x (List.mem_iff_getElem?.mpr ⟨part, hx⟩) l (List.mem_iff_getElem?.mpr ⟨k, hl'⟩)
          have el := ix_ln hl'
          have hkl' : (k : Int) < x.2.length := by omega
          have s1 : ((run.dropLast.take j).flatMap (LnS p)).length < sizeLine := szN (m := 0) (by omega)
          rw [lnS_some hx hl']
          by_cases hd : y = "do"
          · subst hd
            rw [if_pos (by show (("do" : Str) == "do") = true; decide)]
            simp [ep, el, hkl']
          · rw [if_neg (by show ¬ (y == ("do" : Str)) = true; simpa using hd)]
            simp [-List.length_flatMap, ep, el, hkl', hd, s1]
    · rw [htk, List.length_append]
      have : (LnS p ⟨way, part, k, head⟩).length ≤ 1 := by
        unfold LnS
        split
        · simp
        · split
          · split
            · split <;> simp
            · simp
          · simp
      omega)
  obtain ⟨σ', h', el, a, b, c, d, e, rfl, rfl, _⟩ := key
  rw [List.length_map, Nat.zero_add, List.take_length] at el
  refine box_list (j := 0) (g := [.lst ((run.dropLast.flatMap (LnS p)).map encL)]) (by simp) ?_ rfl purs_Ls
  have ei : miVal (mSl (mVar 1) oNone (oSome (mUn wNeg (mC (.int 1))))) (nS p run none none none none none) [.lst []] = some (run.dropLast.map encS, none, [.lst []]) := by
    have : mSl (mVar 1) oNone (oSome (mUn wNeg (mC (.int 1)))) (nS p run none none none none none) [.lst []] = some (.lst (run.dropLast.map encS), [.lst []]) := by simp [cut_last hne]
    unfold miVal; rw [this]; rfl
  simp only [nS] at ei el
  rw [List.map_dropLast] at ei el
  simp [sem__law_lines, mDef, mFor, ei, el]
theorem go_v {N : Nat} {p : List Pt} {bs ws : List Str} (hg : GoodP N bs ws p) (hN : N ≤ 100000) (hr : RL p) {s : Spt} {cs cs' : List Nat} {tr : List Spt} (g : Go p s cs tr cs') : SV p s → SW s → ∀ t ∈ s :: tr, SV p t ∧ SW t := by
  induction g with
  | stop h => intro v1 v2 t ht; simp at ht; subst ht; exact ⟨v1, v2⟩
  | wait h => intro v1 v2 t ht; simp at ht; subst ht; exact ⟨v1, v2⟩
  | @one s t cs cs' tr h g ih =>
    intro v1 v2 u hu
    obtain ⟨w1, w2⟩ := nx_v hg hN hr v1 v2 (t := t) (by rw [h]; simp)
    rcases List.mem_cons.mp hu with rfl | hu
    · exact ⟨v1, v2⟩
    · exact ih w1 w2 u hu
  | @two s a b c cs cs' tr h hc g ih =>
    intro v1 v2 u hu
    obtain ⟨w1, w2⟩ := nx_v hg hN hr v1 v2 (t := pk a b c) (by rw [h]; exact pk_mem)
    rcases List.mem_cons.mp hu with rfl | hu
    · exact ⟨v1, v2⟩
    · exact ih w1 w2 u hu
theorem choices_ok (f : Fd) : ∃ (cs : List Nat) (f' : Fd), cs.length ≤ 40 ∧ (∀ c ∈ cs, c ≤ 1) ∧ ∀ (h : MH) (n : Nat), h[n]? = some (encF f) → bx__law_choices [.ref n] h = some (.lst (encC cs), h.set n (encF f')) := by
  obtain ⟨a0, a1⟩ := tk_b (f := f) (m := 9) (by decide)
  obtain ⟨b0, b1⟩ := tk_b (f := tf f 9) (m := 41) (by decide)
  obtain ⟨c0, c1⟩ := tk_b (f := tf (tf f 9) 41) (m := 8) (by decide)
  generalize hf3 : tf (tf (tf f 9) 41) 8 = f3
  obtain ⟨w0, w1⟩ := tk_b (f := f3) (m := 8) (by decide)
  obtain ⟨many, hm, em⟩ : ∃ m : Nat, m ≤ 40 ∧ atI [W.int (tk f 9), .int (tk (tf f 9) 41)] (tk (tf (tf f 9) 41) 8 / 7) = some (.int m) := by
    obtain ⟨x, _, hx, e⟩ := pickI (xs := [tk f 9, tk (tf f 9) 41]) (i := tk (tf (tf f 9) 41) 8 / 7) (f := W.int) (P := fun v => 0 ≤ v ∧ v ≤ 40) (by omega) (by show _ < (2 : Int); omega) (by
      intro x hx
      simp at hx
      rcases hx with rfl | rfl
      · omega
      · omega)
    exact ⟨x.toNat, by omega, by simp at e; rw [e]; congr 2; omega⟩
  by_cases hz : tk f3 8 < 2
  · obtain ⟨w, ew⟩ := natI w0
    refine ⟨List.replicate many w, tf f3 8, by simp; exact hm, fun c hc => by rw [(List.mem_replicate.mp hc).2]; omega, fun h n hn => ?_⟩
    refine box_one (o := encF f) (g := []) (by simp) hn (by simp [encF]) ?_ (by simp) ⟨_, rfl, by simp⟩
    have ec := comp_map (fin := fLst) (mi := miR1 (mCons (mVar 1) mNil)) (cp := [none, some 2]) (me := mVar 1) (σ := [some (.ref 0), some (.int many), some (.int w)]) (caps := [some (.int w)]) (h := [encF (tf f3 8)]) (items := rangeW 0 many)
      (fun _ => .int w) (e_range (by simp) (by omega)) ⟨_, rfl⟩ (fun x hx => by simp) (by rw [range_len]; exact sizeL (by omega))
    rw [List.map_const', range_len] at ec
    simp only [fLst] at ec
    have hz' : (w : Int) < 2 := by omega
    simp [sem__law_choices, mDef, em, hf3, ew, hz', ec, encC]
  · have key := comp_inv (items := rangeW 0 many) (b := gSet 0) (me := mCall 2 bx__law_take (mCons (mVar 1) (mCons (mC (.int 2)) mNil))) (fin := fLst)
      (fun (acc : List Nat) τ h => ∃ f o, τ = [o, some (.ref 0)] ∧ h = [encF f] ∧ ∀ c ∈ acc, c ≤ 1) (fun (c : Nat) => .int (c : Int)) (rangeW 0 many) [] [none, some (.ref 0)] [encF (tf f3 8)] ⟨_, none, rfl, rfl, by simp⟩ (by simp [range_len]; exact sizeL (by omega)) (by
        rintro w hw' acc τ h ⟨f, o, rfl, rfl, ha⟩
        obtain ⟨d0, d1⟩ := tk_b (f := f) (m := 2) (by decide)
        obtain ⟨c, ec⟩ := natI d0
        exact ⟨_, c, [encF (tf f 2)], rfl, by simp [ec], _, _, rfl, rfl, app_all ha (by omega)⟩)
    obtain ⟨cs, τ', h', e, ⟨f', o', rfl, rfl, hl⟩, hlen⟩ := key
    rw [range_len] at hlen
    simp at hlen
    refine ⟨cs, f', by omega, hl, fun h n hn => ?_⟩
    refine box_one (o := encF f) (g := []) (by simp) hn (by simp [encF]) ?_ (by simp) ⟨_, rfl, by simp⟩
    have er : miR1 (mCons (mVar 1) mNil) [some (.ref 0), some (.int many), some (.int (tk f3 8))] [encF (tf f3 8)] = some (rangeW 0 many, none, [encF (tf f3 8)]) := e_range (by simp) (by omega)
    have ec : mComp fLst (miR1 (mCons (mVar 1) mNil)) [none, some 0] (gSet 0) mYes (mCall 2 bx__law_take (mCons (mVar 1) (mCons (mC (.int 2)) mNil))) [some (.ref 0), some (.int many), some (.int (tk f3 8))] [encF (tf f3 8)] = some (.lst (encC cs), [encF f']) := by
      unfold mComp
      rw [er, Option.bind_some]
      exact e
    simp [sem__law_choices, mDef, em, hf3, hz, ec]
theorem lines_ne {N : Nat} {bs ws : List Str} {p : List Pt} (hg : GoodP N bs ws p) : ∀ x ∈ p, ∀ l ∈ x.2, ∃ y r, l = y :: r := by
  intro x hx
  obtain ⟨i, hi⟩ := List.mem_iff_getElem?.mp hx
  exact fun l hl => line_cons (hg.ok i x hi l hl)
structure Told (p q : List Pt) (cs : List Nat) (u : Nat) (R1 R2 : List Spt) (L : List W) : Prop where
  fl : ∀ h, bx_flat [encP p] h = some (encP q, h)
  r1 : ∀ h, bx_run_by [encP p, .lst (encC cs)] h = some (.tup [.lst (R1.map encS), .int u], h)
  r2 : ∀ h, bx_run_by [encP q, .lst (encC cs)] h = some (.tup [.lst (R2.map encS), .int u], h)
  l1 : ∀ h, bx__law_lines [encP p, .lst (R1.map encS)] h = some (.lst L, h)
  l2 : ∀ h, bx__law_lines [encP q, .lst (R2.map encS)] h = some (.lst L, h)
  n1 : ∀ h, wNe (.lst L) (.lst L) h = some (.bl false, h)
  z : ∀ s ∈ R2, s.way = [] ∧ s.part = 0
  sz : R2.length ≤ 15000000
theorem told_ok {p : List Pt} {bs ws : List Str} (hg : GoodP 700 bs ws p) {cs : List Nat} (hl : cs.length ≤ 40) (hc : ∀ c ∈ cs, c ≤ 1) : ∃ q u R1 R2 L, Told p q cs u R1 R2 L := by
  have hr := rl_700 hg
  obtain ⟨nm, ef⟩ := flat_ok hg hr
  obtain ⟨hg2, hr2⟩ := flat_good hg hr (nm := nm)
  obtain ⟨v1, v2⟩ := sv0 hg
  obtain ⟨w1, w2⟩ := sv0 hg2
  have hk := rk_le hr (s := sp0) (by simp)
  have hk2 := rk_le hr2 (s := sp0) (by simp)
  obtain ⟨tr, cs', g, ht⟩ := go_ex hg (by decide) hr 14000000 sp0 cs v1 v2 hc (by omega)
  obtain ⟨tr2, cs2, g2, ht2⟩ := go_ex hg2 (by decide) hr2 14000000 sp0 cs w1 w2 hc (by omega)
  have h0 := List.length_pos_iff.mpr hg.ne
  have hx : p[0]? = some p[0] := List.getElem?_eq_getElem h0
  have hS : Sim p sp0 sp0 := ⟨⟨[], [], p[0], .nil, hx, Nat.zero_le _, by simp [ofl]⟩⟩
  obtain ⟨e1, e2⟩ := sim_go hg (by decide) hr g v1 v2 w1 w2 hS g2
  subst e1
  have hz : ∀ s ∈ sp0 :: tr2, s.way = [] ∧ s.part = 0 := fun s hs => by
    obtain ⟨⟨⟨x, hx, _⟩, _⟩, ⟨_, hle⟩⟩ := go_v hg2 (by decide) hr2 g2 w1 w2 s hs
    have h0 : s.part = 0 := by
      have := (List.getElem?_eq_some_iff.mp hx).1
      simp at this
      exact this
    exact ⟨List.length_eq_zero_iff.mp (by omega), h0⟩
  refine ⟨[(nm, X p 0)], cs.length - cs2.length, sp0 :: tr, sp0 :: tr2, _, ef, run_by_ok hg (by decide) hr g ht, run_by_ok hg2 (by decide) hr2 g2 ht2, fun h => lines_ok (by simp) (fun s hs => (go_v hg (by decide) hr g v1 v2 s hs).1) (by simp; omega) (lines_ne hg), fun h => ?_, fun h => ?_, hz, by simp; omega⟩
  · rw [lines_ok (by simp) (fun s hs => (go_v hg2 (by decide) hr2 g2 w1 w2 s hs).1) (by simp; omega) (lines_ne hg2), e2]
  · exact s_neSelf (by unfold pln; exact plns_Ls) (by unfold dep; have := deps_Ls (ls := (sp0 :: tr).dropLast.flatMap (LnS p)); omega)
noncomputable abbrev wS (ns : List Int) (j : Nat) (x2 x3 x4 x5 x6 x7 x8 x9 : Option W) : MSt := [some (.frz (ns.map .int)), some (.int j), x2, x3, x4, x5, x6, x7, x8, x9]
theorem law_turn {ns : List Int} {j : Nat} {x2 x3 x4 x5 x6 x7 x8 x9 : Option W} {h : MH} (hj : j < 50) : ∃ y2 y3 y4 y5 y6 y7 y8 y9 h', bd_law_1 (wS ns j x2 x3 x4 x5 x6 x7 x8 x9) h = some (.nx (wS ns j y2 y3 y4 y5 y6 y7 y8 y9) h') := by
  obtain ⟨f1, ef1⟩ := feed_ok ns j (by omega)
  obtain ⟨bs, ws, p0, f1', hb, hw, hg0, ea⟩ := any_ok f1 3 3 5 8 (by decide) (by decide) (by decide) (by decide)
  obtain ⟨f2, ef2⟩ := feed_ok ns (j + 1) (by omega)
  obtain ⟨p, f2', hg, ed⟩ := dressed_ok f2 bs ws p0 hg0
  obtain ⟨cs, f3, hcl, hc1, ec⟩ := choices_ok f2'
  obtain ⟨q, u, R1, R2, L, T⟩ := told_ok hg hcl hc1
  have e1 := ef1 h
  have e2 := ea (h ++ [encF f1]) h.length app_last
  rw [set_lastH] at e2
  have e3 := ef2 (h ++ [encF f1'])
  have e4 := ed (h ++ [encF f1'] ++ [encF f2]) (h ++ [encF f1']).length app_last
  rw [set_lastH] at e4
  have e5 := ec (h ++ [encF f1'] ++ [encF f2']) (h ++ [encF f1']).length app_last
  rw [set_lastH] at e5
  push_cast at e3 e2
  generalize hH : h ++ [encF f1'] ++ [encF f3] = H
  rw [hH] at e5
  refine ⟨some (encP p), some (.ref (h ++ [encF f1']).length), some (.lst (encC cs)), some (encP q), some (.lst (R1.map encS)), some (.int u), some (.lst (R2.map encS)), some (.int u), H, ?_⟩
  have ecm : ∀ x2 x3 x4 x5 x6 x7 x9, mComp fLst (miVal (mVar 8)) [none] (gSet 0) mYes (mAnd (mBin wEq (mFn wLen (mCons (mBin wIx (mVar 0) (mC (.int 0))) mNil)) (mC (.int 0))) (mBin wEq (mBin wIx (mVar 0) (mC (.int 1))) (mC (.int 0)))) (wS ns j x2 x3 x4 x5 x6 x7 (some (.lst (R2.map encS))) x9) H = some (.lst (List.replicate R2.length (.bl true)), H) := fun x2 x3 x4 x5 x6 x7 x9 => by
    rw [comp_map (items := R2.map encS) (caps := []) (fun _ => W.bl true) rfl ⟨none, rfl⟩ (fun w hw => by
      obtain ⟨s, hs, rfl⟩ := List.mem_map.mp hw
      obtain ⟨z1, z2⟩ := T.z s hs
      simp [encS, z1, z2]) (by rw [List.length_map]; exact Nat.le_of_lt (szN (m := 0) (by have := T.sz; omega))), List.map_const', List.length_map]
    rfl
  simp only [List.length_append, List.length_cons, List.length_nil, List.append_assoc, List.cons_append, List.nil_append, Nat.zero_add] at e4 e5 ecm ⊢
  simp [gTupN, gSets, e1, e2, e3, e4, e5, T.fl, T.r1, T.r2, T.l1, T.l2, T.n1, ecm, in_falseN]
theorem step2 {m : Int} (h0 : 2 ≤ m) (h1 : m ≤ 8) : Builtin.Range.small 0 m 2 = true ∧ ∃ n : Nat, (Builtin.Range.rangeSize 0 m 2).toNat = n ∧ n ≤ 4 := by
  have key : ∀ n : Fin 9, Builtin.Range.small 0 (n.val : Int) 2 = true ∧ (Builtin.Range.rangeSize 0 (n.val : Int) 2).toNat ≤ 4 := by decide
  obtain ⟨n, rfl⟩ := Int.eq_ofNat_of_zero_le (Int.le_trans (by decide) h0)
  have h := key ⟨n, Nat.lt_succ_of_le (Int.ofNat_le.mp h1)⟩
  exact ⟨h.1, _, rfl, h.2⟩
theorem e_range3 {ms : MA} {σ : MSt} {h h' : MH} {m : Int} (e : ms σ h = some ([.int 0, .int m, .int 2], h')) (h0 : 2 ≤ m) (h1 : m ≤ 8) : ∃ n : Nat, n ≤ 4 ∧ miR3 ms σ h = some (rangeS 0 2 n, none, h') := by
  obtain ⟨hs, n, hn, hl⟩ := step2 h0 h1
  refine ⟨n, hl, ?_⟩
  unfold miR3
  rw [e, Option.bind_some]
  refine (if_pos ⟨by decide, by decide, hs⟩).trans ?_
  rw [hn]
theorem main (ns : List Int) (_ : ns.length ≤ 63) : ∃ h', sem_law [.frz (ns.map W.int)] [] = some (.bl true, h') := by
  obtain ⟨m, hm⟩ : ∃ m : Int, m = (if (if (ns.length : Int) < 8 then (ns.length : Int) else 8) > 2 then (if (ns.length : Int) < 8 then (ns.length : Int) else 8) else 2) := ⟨_, rfl⟩
  have h0 : 2 ≤ m := by rw [hm]; split <;> omega
  have h1 : m ≤ 8 := by rw [hm]; split <;> split <;> omega
  have e0 : (mCons (mC (.int 0)) (mCons (mFn wMax (mCons (mC (.int 2)) (mCons (mFn wMin (mCons (mC (.int 8)) (mCons (mFn wLen (mCons (mVar 0) mNil)) mNil))) mNil))) (mCons (mC (.int 2)) mNil))) [some (.frz (ns.map .int)), none, none, none, none, none, none, none, none, none] [] = some ([.int 0, .int m, .int 2], []) := by
    rw [hm]
    simp only [s_cons, s_c, s_fn, s_var0, s_nil, ob_some, s_lenF, s_min, s_max, List.length_map]
  obtain ⟨n, hn, er⟩ := e_range3 e0 h0 h1
  have loop := for_inv (items := rangeS 0 2 n) (b := gSet 1) (body := bd_law_1) (fun _ σ _ => ∃ y1 y2 y3 y4 y5 y6 y7 y8 y9, σ = [some (.frz (ns.map .int)), y1, y2, y3, y4, y5, y6, y7, y8, y9]) (rangeS 0 2 n) 0 [some (.frz (ns.map .int)), none, none, none, none, none, none, none, none, none] [] ⟨_, _, _, _, _, _, _, _, _, rfl⟩ (by
    rintro i w hi σ h ⟨y1, y2, y3, y4, y5, y6, y7, y8, y9, rfl⟩
    obtain ⟨hil, rfl⟩ := rangeS_get hi
    obtain ⟨z2, z3, z4, z5, z6, z7, z8, z9, h', e⟩ := law_turn (ns := ns) (j := 2 * i) (x2 := y2) (x3 := y3) (x4 := y4) (x5 := y5) (x6 := y6) (x7 := y7) (x8 := y8) (x9 := y9) (h := h) (by omega)
    have ew : (0 : Int) + (i : Int) * 2 = ((2 * i : Nat) : Int) := by omega
    rw [ew]
    exact ⟨_, rfl, _, h', .inl e, _, _, _, _, _, _, _, _, _, rfl⟩)
  obtain ⟨σ', h', el, y1, y2, y3, y4, y5, y6, y7, y8, y9, rfl⟩ := loop
  refine ⟨h', ?_⟩
  simp [sem_law, mDef, mFor, er, el]
end My

def PySem.W.Fast.tw7723034835129510416 : Unit := ()
def PySem.W.Fast.tw13270911077882916525 : Unit := ()
def PySem.W.Fast.tw2810258673968709264 : Unit := ()
def PySem.W.Fast.tw4592271827352935796 : Unit := ()
def PySem.W.Fast.tw5946031259724830814 : Unit := ()
def PySem.W.Fast.tw2586771064412171162 : Unit := ()
def PySem.W.Fast.tw17763649652335940606 : Unit := ()
def PySem.W.Fast.tw1643518918256925650 : Unit := ()
def PySem.W.Fast.tw4894084865684573833 : Unit := ()
def PySem.W.Fast.tw7320466149109045889 : Unit := ()
def PySem.W.Fast.tw9001819206373548113 : Unit := ()
def PySem.W.Fast.tw7429709729838690996 : Unit := ()
def PySem.W.Fast.tw10819639384153397125 : Unit := ()
def PySem.W.Fast.tw1458033929547058108 : Unit := ()
def PySem.W.Fast.tw12282605327441963071 : Unit := ()
def PySem.W.Fast.tw13713400178054198987 : Unit := ()
def PySem.W.Fast.tw14511864586462266468 : Unit := ()
def PySem.W.Fast.tw13948363452116837475 : Unit := ()
def PySem.W.Fast.tw4171885214370833159 : Unit := ()
def PySem.W.Fast.tw3062555360445160665 : Unit := ()
def PySem.W.Fast.tw13910138274290458255 : Unit := ()
def PySem.W.Fast.tw5527685699948975774 : Unit := ()
def PySem.W.Fast.tw4823551926686604757 : Unit := ()
def PySem.W.Fast.tw2793129699307776105 : Unit := ()
def PySem.W.Fast.tw85643299706102103 : Unit := ()
def PySem.W.Fast.tw10783484589246459828 : Unit := ()
def PySem.W.Fast.tw6813641237673573077 : Unit := ()
def PySem.W.Fast.tw5825264365441075242 : Unit := ()
def PySem.W.Fast.tw9504458896621048916 : Unit := ()
def PySem.W.Fast.tw6495256905611736970 : Unit := ()
def PySem.W.Fast.tw7438378478984276251 : Unit := ()
def PySem.W.Fast.tw9490276379845621928 : Unit := ()
def PySem.W.Fast.tw15139259847303617499 : Unit := ()
def PySem.W.Fast.tw5774704336787732323 : Unit := ()
def PySem.W.Fast.tw11230985557476116274 : Unit := ()
def PySem.W.Fast.tw168929065699467437 : Unit := ()
def PySem.W.Fast.tw2286232990355375454 : Unit := ()
open PySem PySem.W PyProof.Rows
set_option maxRecDepth 100000 in
set_option maxHeartbeats 0 in
theorem PySem.Challenge.cw_doneroom_k15_whole_flat_does_the_same_holds : PySem.Challenge.rw_doneroom_k15_whole_flat_does_the_same.Holds := by
  w_on; o_law; k_head; (case hw => w_witness2)
  k_fill
  refine Mi.walkM (l := PySem.Challenge.rw_doneroom_k15_whole_flat_does_the_same) (st := My.st_law) (sem := My.sem_law) (k := 10) rfl rfl ⟨rfl, by decide, by decide⟩ rfl (fun w h Y => PySem.W.kIn_of Y) (fun _ _ _ _ _ _ _ _ => .of_eq rfl) ?F My.main
  case F =>
    intro w mg h KX G
    have d__law_take : Mi.DefAt (L2.KOf KX) mg "_law_take" My.st__law_take ["feed", "many"] := by
      dsimp only [L2.KOf]
      refine' Mi.defAt_mk KX G ?a ?l ?c ?k ?b
      (case a => k_is); (case l => k_is); (case c => k_is); (case k => k_is)
      (case b => exact fun _ _ _ _ _ _ us hl => match us, hl with | [_, _], _ => rfl)
    have d__law_names : Mi.DefAt (L2.KOf KX) mg "_law_names" My.st__law_names ["feed", "many"] := by
      dsimp only [L2.KOf]
      refine' Mi.defAt_mk KX G ?a ?l ?c ?k ?b
      (case a => k_is); (case l => k_is); (case c => k_is); (case k => k_is)
      (case b => exact fun _ _ _ _ _ _ us hl => match us, hl with | [_, _], _ => rfl)
    have d__law_step_on : Mi.DefAt (L2.KOf KX) mg "_law_step_on" My.st__law_step_on ["lines", "opened"] := by
      dsimp only [L2.KOf]
      refine' Mi.defAt_mk KX G ?a ?l ?c ?k ?b
      (case a => k_is); (case l => k_is); (case c => k_is); (case k => k_is)
      (case b => exact fun _ _ _ _ _ _ us hl => match us, hl with | [_, _], _ => rfl)
    have d__law_plain : Mi.DefAt (L2.KOf KX) mg "_law_plain" My.st__law_plain ["feed", "boxes", "words"] := by
      dsimp only [L2.KOf]
      refine' Mi.defAt_mk KX G ?a ?l ?c ?k ?b
      (case a => k_is); (case l => k_is); (case c => k_is); (case k => k_is)
      (case b => exact fun _ _ _ _ _ _ us hl => match us, hl with | [_, _, _], _ => rfl)
    have d__law_part : Mi.DefAt (L2.KOf KX) mg "_law_part" My.st__law_part ["feed", "size", "menus", "later", "opens", "dos"] := by
      dsimp only [L2.KOf]
      refine' Mi.defAt_mk KX G ?a ?l ?c ?k ?b
      (case a => k_is); (case l => k_is); (case c => k_is); (case k => k_is)
      (case b => exact fun _ _ _ _ _ _ us hl => match us, hl with | [_, _, _, _, _, _], _ => rfl)
    have d__law_program : Mi.DefAt (L2.KOf KX) mg "_law_program" My.st__law_program ["feed", "bounds"] := by
      dsimp only [L2.KOf]
      refine' Mi.defAt_mk KX G ?a ?l ?c ?k ?b
      (case a => k_is); (case l => k_is); (case c => k_is); (case k => k_is)
      (case b => exact fun _ _ _ _ _ _ us hl => match us, hl with | [_, _], _ => rfl)
    have d__law_great : Mi.DefAt (L2.KOf KX) mg "_law_great" My.st__law_great ["feed"] := by
      dsimp only [L2.KOf]
      refine' Mi.defAt_mk KX G ?a ?l ?c ?k ?b
      (case a => k_is); (case l => k_is); (case c => k_is); (case k => k_is)
      (case b => exact fun _ _ _ _ _ _ us hl => match us, hl with | [_], _ => rfl)
    have d__law_any : Mi.DefAt (L2.KOf KX) mg "_law_any" My.st__law_any ["feed", "bounds"] := by
      dsimp only [L2.KOf]
      refine' Mi.defAt_mk KX G ?a ?l ?c ?k ?b
      (case a => k_is); (case l => k_is); (case c => k_is); (case k => k_is)
      (case b => exact fun _ _ _ _ _ _ us hl => match us, hl with | [_, _], _ => rfl)
    have d__law_feed : Mi.DefAt (L2.KOf KX) mg "_law_feed" My.st__law_feed ["script", "k"] := by
      dsimp only [L2.KOf]
      refine' Mi.defAt_mk KX G ?a ?l ?c ?k ?b
      (case a => k_is); (case l => k_is); (case c => k_is); (case k => k_is)
      (case b => exact fun _ _ _ _ _ _ us hl => match us, hl with | [_, _], _ => rfl)
    have d__law_dressed : Mi.DefAt (L2.KOf KX) mg "_law_dressed" My.st__law_dressed ["program", "feed"] := by
      dsimp only [L2.KOf]
      refine' Mi.defAt_mk KX G ?a ?l ?c ?k ?b
      (case a => k_is); (case l => k_is); (case c => k_is); (case k => k_is)
      (case b => exact fun _ _ _ _ _ _ us hl => match us, hl with | [_, _], _ => rfl)
    have d__law_choices : Mi.DefAt (L2.KOf KX) mg "_law_choices" My.st__law_choices ["feed"] := by
      dsimp only [L2.KOf]
      refine' Mi.defAt_mk KX G ?a ?l ?c ?k ?b
      (case a => k_is); (case l => k_is); (case c => k_is); (case k => k_is)
      (case b => exact fun _ _ _ _ _ _ us hl => match us, hl with | [_], _ => rfl)
    have d_part_number : Mi.DefAt (L2.KOf KX) mg "part_number" My.st_part_number ["program", "name"] := by
      dsimp only [L2.KOf]
      refine' Mi.defAt_mk KX G ?a ?l ?c ?k ?b
      (case a => k_is); (case l => k_is); (case c => k_is); (case k => k_is)
      (case b => exact fun _ _ _ _ _ _ us hl => match us, hl with | [_, _], _ => rfl)
    have d_flat_lines : Mi.DefAt (L2.KOf KX) mg "flat_lines" My.st_flat_lines ["program", "part"] := by
      dsimp only [L2.KOf]
      refine' Mi.defAt_mk KX G ?a ?l ?c ?k ?b
      (case a => k_is); (case l => k_is); (case c => k_is); (case k => k_is)
      (case b => exact fun _ _ _ _ _ _ us hl => match us, hl with | [_, _], _ => rfl)
    have d_flat : Mi.DefAt (L2.KOf KX) mg "flat" My.st_flat ["program"] := by
      dsimp only [L2.KOf]
      refine' Mi.defAt_mk KX G ?a ?l ?c ?k ?b
      (case a => k_is); (case l => k_is); (case c => k_is); (case k => k_is)
      (case b => exact fun _ _ _ _ _ _ us hl => match us, hl with | [_], _ => rfl)
    have d_line_of : Mi.DefAt (L2.KOf KX) mg "line_of" My.st_line_of ["program", "spot"] := by
      dsimp only [L2.KOf]
      refine' Mi.defAt_mk KX G ?a ?l ?c ?k ?b
      (case a => k_is); (case l => k_is); (case c => k_is); (case k => k_is)
      (case b => exact fun _ _ _ _ _ _ us hl => match us, hl with | [_, _], _ => rfl)
    have d_at_gap : Mi.DefAt (L2.KOf KX) mg "at_gap" My.st_at_gap ["spot", "k"] := by
      dsimp only [L2.KOf]
      refine' Mi.defAt_mk KX G ?a ?l ?c ?k ?b
      (case a => k_is); (case l => k_is); (case c => k_is); (case k => k_is)
      (case b => exact fun _ _ _ _ _ _ us hl => match us, hl with | [_, _], _ => rfl)
    have d_at_head : Mi.DefAt (L2.KOf KX) mg "at_head" My.st_at_head ["spot", "k"] := by
      dsimp only [L2.KOf]
      refine' Mi.defAt_mk KX G ?a ?l ?c ?k ?b
      (case a => k_is); (case l => k_is); (case c => k_is); (case k => k_is)
      (case b => exact fun _ _ _ _ _ _ us hl => match us, hl with | [_, _], _ => rfl)
    have d_level_change : Mi.DefAt (L2.KOf KX) mg "level_change" My.st_level_change ["line"] := by
      dsimp only [L2.KOf]
      refine' Mi.defAt_mk KX G ?a ?l ?c ?k ?b
      (case a => k_is); (case l => k_is); (case c => k_is); (case k => k_is)
      (case b => exact fun _ _ _ _ _ _ us hl => match us, hl with | [_], _ => rfl)
    have d_head_of : Mi.DefAt (L2.KOf KX) mg "head_of" My.st_head_of ["lines", "k"] := by
      dsimp only [L2.KOf]
      refine' Mi.defAt_mk KX G ?a ?l ?c ?k ?b
      (case a => k_is); (case l => k_is); (case c => k_is); (case k => k_is)
      (case b => exact fun _ _ _ _ _ _ us hl => match us, hl with | [_, _], _ => rfl)
    have d_found_behind : Mi.DefAt (L2.KOf KX) mg "found_behind" My.st_found_behind ["lines", "k", "kind"] := by
      dsimp only [L2.KOf]
      refine' Mi.defAt_mk KX G ?a ?l ?c ?k ?b
      (case a => k_is); (case l => k_is); (case c => k_is); (case k => k_is)
      (case b => exact fun _ _ _ _ _ _ us hl => match us, hl with | [_, _, _], _ => rfl)
    have d_or_of : Mi.DefAt (L2.KOf KX) mg "or_of" My.st_or_of ["lines", "k"] := by
      dsimp only [L2.KOf]
      refine' Mi.defAt_mk KX G ?a ?l ?c ?k ?b
      (case a => k_is); (case l => k_is); (case c => k_is); (case k => k_is)
      (case b => exact fun _ _ _ _ _ _ us hl => match us, hl with | [_, _], _ => rfl)
    have d_end_of : Mi.DefAt (L2.KOf KX) mg "end_of" My.st_end_of ["lines", "k"] := by
      dsimp only [L2.KOf]
      refine' Mi.defAt_mk KX G ?a ?l ?c ?k ?b
      (case a => k_is); (case l => k_is); (case c => k_is); (case k => k_is)
      (case b => exact fun _ _ _ _ _ _ us hl => match us, hl with | [_, _], _ => rfl)
    have d_next_in_part : Mi.DefAt (L2.KOf KX) mg "next_in_part" My.st_next_in_part ["lines", "spot"] := by
      dsimp only [L2.KOf]
      refine' Mi.defAt_mk KX G ?a ?l ?c ?k ?b
      (case a => k_is); (case l => k_is); (case c => k_is); (case k => k_is)
      (case b => exact fun _ _ _ _ _ _ us hl => match us, hl with | [_, _], _ => rfl)
    have d_behind_do : Mi.DefAt (L2.KOf KX) mg "behind_do" My.st_behind_do ["spot"] := by
      dsimp only [L2.KOf]
      refine' Mi.defAt_mk KX G ?a ?l ?c ?k ?b
      (case a => k_is); (case l => k_is); (case c => k_is); (case k => k_is)
      (case b => exact fun _ _ _ _ _ _ us hl => match us, hl with | [_], _ => rfl)
    have d_next_spots : Mi.DefAt (L2.KOf KX) mg "next_spots" My.st_next_spots ["program", "spot"] := by
      dsimp only [L2.KOf]
      refine' Mi.defAt_mk KX G ?a ?l ?c ?k ?b
      (case a => k_is); (case l => k_is); (case c => k_is); (case k => k_is)
      (case b => exact fun _ _ _ _ _ _ us hl => match us, hl with | [_, _], _ => rfl)
    have d_first_spot : Mi.DefAt (L2.KOf KX) mg "first_spot" My.st_first_spot [] := by
      dsimp only [L2.KOf]
      refine' Mi.defAt_mk KX G ?a ?l ?c ?k ?b
      (case a => k_is); (case l => k_is); (case c => k_is); (case k => k_is)
      (case b => exact fun _ _ _ _ _ _ us hl => match us, hl with | [], _ => rfl)
    have d_run_by : Mi.DefAt (L2.KOf KX) mg "run_by" My.st_run_by ["program", "choices"] := by
      dsimp only [L2.KOf]
      refine' Mi.defAt_mk KX G ?a ?l ?c ?k ?b
      (case a => k_is); (case l => k_is); (case c => k_is); (case k => k_is)
      (case b => exact fun _ _ _ _ _ _ us hl => match us, hl with | [_, _], _ => rfl)
    have d__law_lines : Mi.DefAt (L2.KOf KX) mg "_law_lines" My.st__law_lines ["program", "run"] := by
      dsimp only [L2.KOf]
      refine' Mi.defAt_mk KX G ?a ?l ?c ?k ?b
      (case a => k_is); (case l => k_is); (case c => k_is); (case k => k_is)
      (case b => exact fun _ _ _ _ _ _ us hl => match us, hl with | [_, _], _ => rfl)
    have d_law : Mi.DefAt (L2.KOf KX) mg "law" My.st_law ["script"] := by
      dsimp only [L2.KOf]
      refine' Mi.defAt_mk KX G ?a ?l ?c ?k ?b
      (case a => k_is); (case l => k_is); (case c => k_is); (case k => k_is)
      (case b => exact fun _ _ _ _ _ _ us hl => match us, hl with | [_], _ => rfl)
    have b_len : mg "len" = none := by
      refine' PySem.W.mg_none_of KX G ?a
      (case a => k_is)
    have b_max : mg "max" = none := by
      refine' PySem.W.mg_none_of KX G ?a
      (case a => k_is)
    have b_min : mg "min" = none := by
      refine' PySem.W.mg_none_of KX G ?a
      (case a => k_is)
    have b_range : mg "range" = none := by
      refine' PySem.W.mg_none_of KX G ?a
      (case a => k_is)
    have b_tuple : mg "tuple" = none := by
      refine' PySem.W.mg_none_of KX G ?a
      (case a => k_is)
    exact ⟨d_law, fun base kb nb => My.all_law d__law_take d__law_names d__law_step_on d__law_plain d__law_part d__law_program d__law_great d__law_any d__law_feed d__law_dressed d__law_choices d_part_number d_flat_lines d_flat d_line_of d_at_gap d_at_head d_level_change d_head_of d_found_behind d_or_of d_end_of d_next_in_part d_behind_do d_next_spots d_first_spot d_run_by d__law_lines d_law b_len b_max b_min b_range b_tuple⟩
