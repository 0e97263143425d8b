import PyProof.Rows.All
import Wide.All
import OpenK.AllK
import Wide.FinOn
import Lean
import PyProof.EqAt
import PyProof.EqKinds
import PyProof.TupleCall
import PySem.Challenge.RW_doneroom_k03_blocks
set_option Elab.async false
set_option linter.all false
set_option maxRecDepth 100000
/-! THE HAND LAYER, for ints, bools, texts, own classes, LISTS and tuples (index, slices, in, append, pop ..), calls, loops. Paste it whole ahead of your own text; what your proof does not reach may be deleted. -/
namespace L2
open PySem PySem.Spec PyProof.Rows

/-- a key: an int or a str -/
abbrev Key := Sum Int Str
def keyIs : Key → Value → Bool
  | .inl k, v => Value.isInt k v
  | .inr x, v => Value.isStrOf x v
def keyH (w : World) : Key → Int
  | .inl k => hashInt k
  | .inr x => hashStr w x
theorem keyIs_shape : ∀ {k : Key} {v : Value}, keyIs k v = true → (∃ i t, k = Sum.inl i ∧ v = Value.int i t) ∨ (∃ x t, k = Sum.inr x ∧ v = Value.str x t)
  | .inl i, v, h => by
    obtain ⟨t, e⟩ := Value.isInt_shape (k := i) (v := v) h
    exact .inl ⟨i, t, rfl, e⟩
  | .inr x, v, h => by
    obtain ⟨t, e⟩ := Value.isStrOf_shape (x := x) (v := v) h
    exact .inr ⟨x, t, rfl, e⟩
theorem keyIs_int (i : Int) (t : Tok) : keyIs (.inl i) (.int i t) = true := by simp [keyIs, Value.isInt]
theorem keyIs_str (x : Str) (t : Tok) : keyIs (.inr x) (.str x t) = true := by simp [keyIs, Value.isStrOf]
theorem key_ll (a b : Int) : decide ((Sum.inl a : Key) = Sum.inl b) = (a == b) := by
  by_cases e : a = b
  · subst e; simp
  · have h : ¬ (Sum.inl a : Key) = Sum.inl b := fun q => e (Sum.inl.inj q)
    rw [decide_eq_false h]
    exact (beq_eq_false_iff_ne.mpr e).symm
theorem key_rr (a b : Str) : decide ((Sum.inr a : Key) = Sum.inr b) = decide (a = b) := by
  by_cases e : a = b
  · subst e; simp
  · have h : ¬ (Sum.inr a : Key) = Sum.inr b := fun q => e (Sum.inr.inj q)
    rw [decide_eq_false h, decide_eq_false e]
theorem key_lr (a : Int) (b : Str) : decide ((Sum.inl a : Key) = Sum.inr b) = false := decide_eq_false (fun q => nomatch q)
theorem key_rl (a : Str) (b : Int) : decide ((Sum.inr a : Key) = Sum.inl b) = false := decide_eq_false (fun q => nomatch q)

def mixKind (prog : Program) (w : World) : PySem.KeyKind prog w Key where
  is := keyIs
  hash := keyH w
  inj := fun v a b ha hb => by
    rcases keyIs_shape ha with ⟨i, t, rfl, rfl⟩ | ⟨x, t, rfl, rfl⟩
    · rcases keyIs_shape hb with ⟨j, u, rfl, e⟩ | ⟨y, u, rfl, e⟩
      · injection e with e1 _; rw [e1]
      · exact nomatch e
    · rcases keyIs_shape hb with ⟨j, u, rfl, e⟩ | ⟨y, u, rfl, e⟩
      · exact nomatch e
      · injection e with e1 _; rw [e1]
  byValue := fun k v h => by
    rcases keyIs_shape h with ⟨i, t, rfl, rfl⟩ | ⟨x, t, rfl, rfl⟩ <;> rfl
  pyHash := fun hv h => by
    rcases keyIs_shape hv with ⟨i, t, rfl, rfl⟩ | ⟨x, t, rfl, rfl⟩
    · exact wpAny_pyHash_int h
    · exact wpAny_pyHash_str h
  eqBool := fun hu hv h => by
    rcases keyIs_shape hu with ⟨i, t, rfl, rfl⟩ | ⟨x, t, rfl, rfl⟩
    · rcases keyIs_shape hv with ⟨j, u, rfl, rfl⟩ | ⟨y, u, rfl, rfl⟩
      · rw [key_ll] at h; exact wpAny_eqBool_int h
      · rw [key_lr] at h; exact SeqAt.EqAt.int_str i t y u _ _ _ _ h
    · rcases keyIs_shape hv with ⟨j, u, rfl, rfl⟩ | ⟨y, u, rfl, rfl⟩
      · rw [key_rl] at h; exact SeqAt.EqAt.str_int x t j u _ _ _ _ h
      · rw [key_rr] at h; exact wpAny_eqBool_str h
  «strs» := fun k x t v h => by
    rcases keyIs_shape h with ⟨i, u, rfl, e⟩ | ⟨y, u, rfl, e⟩
    · exact nomatch e
    · injection e with e1 _
      subst e1
      cases v <;> rfl

theorem mixKind_is (prog : Program) (w : World) (k : Key) (v : Value) : (mixKind prog w).is k v = keyIs k v := rfl
theorem mixKind_int (prog : Program) (w : World) (i : Int) (t : Tok) : (mixKind prog w).is (.inl i) (.int i t) = true := keyIs_int i t
theorem mixKind_str (prog : Program) (w : World) (x : Str) (t : Tok) : (mixKind prog w).is (.inr x) (.str x t) = true := keyIs_str x t
end L2

namespace L2
open PySem PySem.Spec PyProof.Rows

/-- a value, without the heap -/
inductive V where
  | non | bl (b : Bool) | int (i : Int) | str (x : Str) | byt (b : Array UInt8) | flt (b : UInt64) | ref (a : Addr) | ty (n : String)
  deriving DecidableEq

def RelV : V → Value → Prop
  | .non, u => u = Value.none
  | .bl b, u => u = Value.bool b
  | .int i, u => ∃ t, u = Value.int i t
  | .str x, u => ∃ t, u = Value.str x t
  | .byt b, u => ∃ t, u = Value.bytes b t
  | .flt b, u => ∃ t, u = Value.float b t
  | .ref a, u => u = Value.ref a
  | .ty n, u => u = Value.type n

abbrev Vals : List V → List Value → Prop := Paired RelV
theorem Vals.length {xs : List V} {us : List Value} (r : Vals xs us) : xs.length = us.length := Paired.length r
theorem Vals.get : ∀ {xs : List V} {us : List Value} {i : Nat} {x : V}, Vals xs us → xs[i]? = some x → ∃ u, us[i]? = some u ∧ RelV x u
  | _, _, _, _, .nil, e => by simp at e
  | _, _, 0, _, .cons r _, e => by simp at e; subst e; exact ⟨_, rfl, r⟩
  | _, _, i + 1, x, .cons _ t, e => by
    obtain ⟨u, h1, h2⟩ := Vals.get (i := i) (x := x) t (by simpa using e)
    exact ⟨u, by simpa using h1, h2⟩
theorem Vals.set {x : V} {u : Value} (r : RelV x u) : ∀ {xs : List V} {us : List Value} (i : Nat), Vals xs us → Vals (xs.set i x) (us.set i u)
  | _, _, _, .nil => .nil
  | _, _, 0, .cons _ t => .cons r t
  | _, _, i + 1, .cons q t => .cons q (Vals.set r i t)
theorem Vals.append : ∀ {xs ys : List V} {us ws : List Value}, Vals xs us → Vals ys ws → Vals (xs ++ ys) (us ++ ws)
  | _, _, _, _, .nil, s => s
  | _, _, _, _, .cons r t, s => .cons r (Vals.append t s)
theorem Vals.take : ∀ {xs : List V} {us : List Value} (n : Nat), Vals xs us → Vals (xs.take n) (us.take n)
  | _, _, 0, _ => .nil
  | _, _, _ + 1, .nil => .nil
  | _, _, n + 1, .cons r t => .cons r (Vals.take n t)
theorem Vals.drop : ∀ {xs : List V} {us : List Value} (n : Nat), Vals xs us → Vals (xs.drop n) (us.drop n)
  | _, _, 0, r => r
  | _, _, _ + 1, .nil => .nil
  | _, _, n + 1, .cons _ t => Vals.drop n t
theorem Vals.none_of : ∀ {xs : List V} {us : List Value} {i : Nat}, Vals xs us → xs[i]? = none → us[i]? = none := fun {xs us i} r e => by
  have h1 := r.length
  have h2 : xs.length ≤ i := List.getElem?_eq_none_iff.mp e
  exact List.getElem?_eq_none_iff.mpr (by omega)

def RelO : Option V → Option Value → Prop
  | some v, some u => RelV v u
  | none, none => True
  | _, _ => False
def KV {κ : Type} : List (κ × V) → List (κ × Value) → Prop := Paired fun (p : κ × V) (q : κ × Value) => p.1 = q.1 ∧ RelV p.2 q.2

/-- a key of a dict (00_mix): an int or a text -/
def kV : Key → V
  | .inl i => .int i
  | .inr x => .str x

/-- what stands at a tracked address -/
inductive HO where
  /-- a list -/
  | lst (xs : List V)
  /-- a tuple (never changes) -/
  | tup (xs : List V)
  /-- a dict whose keys are ints and texts; one whose keys are tuples of ints and texts (the empty one is both) -/
  | dK (kvs : List (Key × V)) | dT (kvs : List (List Key × V))
  /-- a set of ints: its members, its size -/
  | set (S : Int → Bool) (n : Nat)
  /-- an instance of the class at C, its dict at dx, its attributes -/
  | ins (C dx : Addr) (fs : List (Str × V))
  /-- the dict of the instance at x -/
  | own (x : Addr)
  /-- the dict of an exception -/
  | xd (fs : List (Str × V))
  /-- a bound method, f of x -/
  | met (f x : Addr)
  /-- a range object lo, lo + 1, .. below hi -/
  | rng (lo hi : Int)
  /-- a thing that is known to the object (the script; a dict while a loop walks it): read, never written while it is so -/
  | frz (o : Obj) (u : HO)
  /-- a code object's table -/
  | tbl (ps : Array Value)
  /-- any other thing, by what is true of its one object (a def of one's own: SetO a S n := HO.ext fun h => ..) -/
  | ext (φ : Heap → Prop)

abbrev Hp := Addr → Option HO
def upd (H : Hp) (a : Addr) (o : HO) : Hp := fun b => if b = a then some o else H b
theorem upd_same {H : Hp} {a : Addr} {o : HO} : upd H a o a = some o := by unfold upd; rw [if_pos rfl]
theorem upd_ne {H : Hp} {a b : Addr} {o : HO} (h : b ≠ a) : upd H a o b = H b := by unfold upd; rw [if_neg h]
theorem upd_upd {H : Hp} {a : Addr} {o u : HO} : upd (upd H a o) a u = upd H a u := by
  funext b; unfold upd; split <;> rfl
/-- two objects of different content stand apart -/
theorem ne_of {H : Hp} {a b : Addr} {o u : HO} (h : H a = some o) (h' : H b = some u) (d : o ≠ u) : a ≠ b := by
  intro e; subst e; rw [h] at h'; exact d (Option.some.inj h')
theorem ne_of_none {H : Hp} {a b : Addr} {o : HO} (h : H a = some o) (h' : H b = none) : a ≠ b := by
  intro e; subst e; rw [h] at h'; cases h'

section
variable (P : Program) (w : World)
def ObjOk (H : Hp) (h : Heap) (a : Addr) : HO → Prop
  | .lst xs => xs.length ≤ sizeLine ∧ ∃ (its : List Value) (n : Nat), Vals xs its ∧ h.get? a = some { cls := .type "list", data := .seq its.toArray n }
  | .tup xs => xs.length ≤ sizeLine ∧ ∃ its : List Value, Vals xs its ∧ IsTup h a its.toArray
  | .dK kvs => kvs.length ≤ sizeLine ∧ (a == sysModules) = false ∧ ∃ vs, KV kvs vs ∧ h.DictOf (mixKind P w) a vs
  | .dT kvs => kvs.length ≤ sizeLine ∧ (a == sysModules) = false ∧ ∃ xs : List (List Key × Addr × Value),
      Paired (fun (p : List Key × V) (q : List Key × Addr × Value) => p.1 = q.1 ∧ H q.2.1 = some (.tup (p.1.map kV)) ∧ RelV p.2 q.2.2) kvs xs ∧
      ∃ o es ep, h.get? a = some o ∧ o.ExactDict ∧ o.data = .dict es ep ∧ es.toList = xs.map (entryOfKey (tupleKind (mixKind P w))) ∧ (xs.map (·.1)).Nodup
  | .set S n => h.SetOf (intKind P w) a S n
  | .ins C dx fs => H dx = some (.own a) ∧ fs.length ≤ 1000 ∧ dx ≠ a ∧ h.get? a = some (PySem.W.instObj C dx) ∧
      ∃ mA, h.Ns1 dx mA ∧ (∀ f, RelO (fs.lookup f) (mA f)) ∧ PySem.Within mA (fs.map (·.1))
  | .own _ => ∃ o, h.get? a = some o
  | .xd fs => ∃ mA, h.Ns1 a mA ∧ ∀ f, RelO (fs.lookup f) (mA f)
  | .rng lo hi => ∃ t u v, h.get? a = some { cls := .type "range", data := .fields #[.int lo t, .int hi u, .int 1 v] }
  | .frz o u => h.get? a = some o ∧ ObjOk H h a u
  | .tbl ps => h.get? a = some { cls := .none, data := .fields ps }
  | .met f x => h.get? a = some (PySem.W.methodObj (.ref f) (.ref x))
  | .ext φ => φ h ∧ (∃ o, h.get? a = some o) ∧ ∀ h1 h2 : Heap, φ h1 → (∀ o, h1.get? a = some o → h2.get? a = some o) → φ h2
/-- the abstract heap is held -/
def HOk (H : Hp) (h : Heap) : Prop := ∀ a o, H a = some o → ObjOk P w H h a o
end

section
variable {P : Program} {w : World} {H H' : Hp} {h h' : Heap} {a : Addr} {o : HO}
theorem ObjOk.lt (x : ObjOk P w H h a o) : a < h.objs.size := by
  cases o with
  | lst xs => obtain ⟨_, _, _, _, e⟩ := x; exact Heap.lt_size e
  | tup xs => obtain ⟨_, _, _, p⟩ := x; exact p.lt
  | dK kvs => obtain ⟨_, _, _, _, o, _, _, e, _⟩ := x; exact Heap.lt_size e
  | dT kvs => obtain ⟨_, _, _, _, o, _, _, e, _⟩ := x; exact Heap.lt_size e
  | set S n => obtain ⟨o, _, _, _, e, _⟩ := x; exact Heap.lt_size e
  | ins C dx fs => obtain ⟨_, _, _, e, _⟩ := x; exact Heap.lt_size e
  | own y => obtain ⟨_, e⟩ := x; exact Heap.lt_size e
  | xd fs => obtain ⟨_, ⟨_, _, _, e, _⟩, _⟩ := x; exact Heap.lt_size e
  | rng lo hi => obtain ⟨_, _, _, e⟩ := x; exact Heap.lt_size e
  | frz ob u => obtain ⟨e, _⟩ := x; exact Heap.lt_size e
  | tbl ps => exact Heap.lt_size (show h.get? a = some _ from x)
  | met f y => exact Heap.lt_size (show h.get? a = some _ from x)
  | ext φ => obtain ⟨_, ⟨_, e⟩, _⟩ := x; exact Heap.lt_size e
theorem Paired.mapP {α β : Type} {F G : α → β → Prop} : ∀ {l₁ : List α} {l₂ : List β}, Paired F l₁ l₂ → (∀ a b, F a b → G a b) → Paired G l₁ l₂
  | _, _, .nil, _ => .nil
  | _, _, .cons r t, f => .cons (f _ _ r) (Paired.mapP t f)
theorem Paired.imp' {α β : Type} {F G : α → β → Prop} (f : ∀ a b, F a b → G a b) {l₁ : List α} {l₂ : List β} (r : Paired F l₁ l₂) : Paired G l₁ l₂ := Paired.mapP r f
/-- what an object's description leans on: its own object, its own dict, the tuples -/
theorem ObjOk.stay (x : ObjOk P w H h a o) (k : ∀ b u, (b = a ∨ H b = some (.own a)) → h.get? b = some u → h'.get? b = some u)
    (ho : ∀ b, H b = some (.own a) → H' b = some (.own a)) (ht : ∀ b xs, H b = some (.tup xs) → H' b = some (.tup xs)) : ObjOk P w H' h' a o := by
  induction o with
  | lst xs => obtain ⟨z, its, n, r, e⟩ := x; exact ⟨z, its, n, r, k _ _ (.inl rfl) e⟩
  | tup xs => obtain ⟨z, its, r, ob, e, c⟩ := x; exact ⟨z, its, r, ob, k _ _ (.inl rfl) e, c⟩
  | dK kvs => obtain ⟨z, y, vs, r, ob, es, ep, e, c⟩ := x; exact ⟨z, y, vs, r, ob, es, ep, k _ _ (.inl rfl) e, c⟩
  | dT kvs =>
    obtain ⟨z, y, xs, r, ob, es, ep, e, c⟩ := x
    exact ⟨z, y, xs, Paired.mapP r fun p q z => ⟨z.1, ht _ _ z.2.1, z.2.2⟩, ob, es, ep, k _ _ (.inl rfl) e, c⟩
  | set S n => obtain ⟨ob, es, ep, t, e, c⟩ := x; exact ⟨ob, es, ep, t, k _ _ (.inl rfl) e, c⟩
  | ins C dx fs =>
    obtain ⟨d, z, ne, e, mA, ⟨od, es, ep, e2, c⟩, r⟩ := x
    exact ⟨ho _ d, z, ne, k _ _ (.inl rfl) e, mA, ⟨od, es, ep, k _ _ (.inr d) e2, c⟩, r⟩
  | own y => obtain ⟨ob, e⟩ := x; exact ⟨ob, k _ _ (.inl rfl) e⟩
  | xd fs => obtain ⟨mA, ⟨od, es, ep, e, c⟩, r⟩ := x; exact ⟨mA, ⟨od, es, ep, k _ _ (.inl rfl) e, c⟩, r⟩
  | rng lo hi => obtain ⟨t, u, v, e⟩ := x; exact ⟨t, u, v, k _ _ (.inl rfl) e⟩
  | frz ob u ih => obtain ⟨e, q⟩ := x; exact ⟨k _ _ (.inl rfl) e, ih q⟩
  | tbl ps =>
    have e : h.get? a = some { cls := .none, data := .fields ps } := x
    show h'.get? a = some { cls := .none, data := .fields ps }
    exact k a _ (.inl rfl) e
  | met f y =>
    have e : h.get? a = some (PySem.W.methodObj (.ref f) (.ref y)) := x
    show h'.get? a = some (PySem.W.methodObj (.ref f) (.ref y))
    exact k a _ (.inl rfl) e
  | ext φ => obtain ⟨p, ⟨o, e⟩, st⟩ := x; exact ⟨st _ _ p fun o q => k _ _ (.inl rfl) q, ⟨o, k _ _ (.inl rfl) e⟩, st⟩
theorem HOk.lt (x : HOk P w H h) (e : H a = some o) : a < h.objs.size := (x a o e).lt
theorem HOk.fresh (x : HOk P w H h) (e : h.objs.size ≤ a) : H a = none := by
  cases q : H a with
  | none => rfl
  | some u => exact absurd (Nat.lt_of_lt_of_le (x.lt q) e) (Nat.lt_irrefl _)
/-- every object of the heap is kept -/
theorem HOk.kept (x : HOk P w H h) (k : ∀ b u, h.get? b = some u → h'.get? b = some u) : HOk P w H h' := fun a o e =>
  (x a o e).stay (fun b u _ q => k b u q) (fun _ q => q) fun _ _ q => q
/-- a new object is laid and tracked -/
theorem HOk.laid (x : HOk P w H h) (k : ∀ b u, h.get? b = some u → h'.get? b = some u) (hp : h.objs.size ≤ a) (new : ObjOk P w (upd H a o) h' a o) : HOk P w (upd H a o) h' := fun b u e => by
  have hn := x.fresh hp
  by_cases hb : b = a
  · subst hb; rw [upd_same] at e; cases e; exact new
  · rw [upd_ne hb] at e
    exact (x b u e).stay (fun c v _ q => k c v q) (fun c q => by rw [upd_ne (ne_of_none q hn)]; exact q) fun c xs q => by rw [upd_ne (ne_of_none q hn)]; exact q
end

/-- what may be read as u: it is u, or a known u -/
def Rd (H : Hp) (a : Addr) (u : HO) : Prop := H a = some u ∨ ∃ o, H a = some (.frz o u)
theorem Rd.of {H : Hp} {a : Addr} {u : HO} (h : H a = some u) : Rd H a u := .inl h
theorem Rd.ok {P : Program} {w : World} {H : Hp} {h : Heap} {a : Addr} {u : HO} (r : Rd H a u) (x : HOk P w H h) : ObjOk P w H h a u := by
  rcases r with r | ⟨o, r⟩
  · exact x a u r
  · obtain ⟨_, q⟩ := x a _ r
    exact q
/-- what may be written -/
def Mut : Option HO → Prop
  | some (.lst _) => True
  | some (.dK _) => True
  | some (.dT _) => True
  | some (.set _ _) => True
  | some (.ins _ _ _) => True
  | some (.ext _) => True
  | _ => False
section
variable {P : Program} {w : World} {H : Hp} {h h' : Heap} {x e : Addr} {o' : HO}
/-- the object at e is changed: x itself, or the dict of the instance x -/
theorem HOk.write (ok : HOk P w H h) (mu : Mut (H x)) (he : e = x ∨ H e = some (.own x)) (k : ∀ b u, b ≠ e → h.get? b = some u → h'.get? b = some u) (heo : ∃ u, h'.get? e = some u)
    (new : ObjOk P w (upd H x o') h' x o') : HOk P w (upd H x o') h' := fun b u q => by
  have nown : ∀ c y, H c = some (.own y) → c ≠ x := fun c y r z => by subst z; rw [r] at mu; exact mu
  have ntup : ∀ c xs, H c = some (.tup xs) → c ≠ x := fun c xs r z => by subst z; rw [r] at mu; exact mu
  by_cases hb : b = x
  · subst hb; rw [upd_same] at q; cases q; exact new
  · rw [upd_ne hb] at q
    by_cases hbe : b = e
    · have q' : H b = some (.own x) := by
        rcases he with z | z
        · exact absurd (hbe.trans z) hb
        · rw [hbe]; exact z
      rw [q] at q'; cases q'
      obtain ⟨v, hv⟩ := heo
      exact ⟨v, by rw [hbe]; exact hv⟩
    · refine (ok b u q).stay (fun c v hc r => k c v ?_ r) (fun c r => by rw [upd_ne (nown c b r)]; exact r) fun c xs r => by rw [upd_ne (ntup c xs r)]; exact r
      rcases hc with rfl | hc
      · exact hbe
      · rintro rfl
        rcases he with z | z
        · exact nown c b hc z
        · rw [hc] at z; cases z; exact hb rfl
end

/-! ### kept unless tracked; of the frames at fs (the callers') the slots may change (an exception that passes writes there); of the records at ex (iterators) nothing is said -/
structure Un (fs ex : List Addr) (H H' : Hp) (h h' : Heap) : Prop where
  keep : ∀ b o, h.get? b = some o → H b = none → b ∉ fs → b ∉ ex → h'.get? b = some o
  slot : ∀ b o, h.get? b = some o → H b = none → b ∈ fs → b ∉ ex → ∃ sl, h'.get? b = some { o with slots := sl }
  free : ∀ b o, h.get? b = some o → H b = none → b ∉ ex → H' b = none
  there : ∀ b o, h.get? b = some o → b ∉ ex → ∃ o', h'.get? b = some o'
  tups : ∀ b xs, H b = some (.tup xs) → H' b = some (.tup xs)
  frzs : ∀ b o u, H b = some (.frz o u) → H' b = some (.frz o u)
  tbls : ∀ b ps, H b = some (.tbl ps) → ∃ more, H' b = some (.tbl (ps ++ more))
section
variable {fs fs' ex ex' : List Addr} {H H1 H2 : Hp} {h h1 h2 h' : Heap} {a x e : Addr} {o : HO}
theorem Un.any (u : Un fs ex H H1 h h1) {b : Addr} {ob : Obj} (q : h.get? b = some ob) (n : H b = none) (hx : b ∉ ex) : ∃ sl, h1.get? b = some { ob with slots := sl } := by
  by_cases hb : b ∈ fs
  · exact u.slot b ob q n hb hx
  · exact ⟨ob.slots, u.keep b ob q n hb hx⟩
theorem Un.trans (a : Un fs ex H H1 h h1) (b : Un fs ex H1 H2 h1 h2) : Un fs ex H H2 h h2 where
  keep := fun c ob q n hc hx => b.keep c ob (a.keep c ob q n hc hx) (a.free c ob q n hx) hc hx
  slot := fun c ob q n hc hx => by
    obtain ⟨sl, e1⟩ := a.slot c ob q n hc hx
    obtain ⟨sl', e2⟩ := b.slot c _ e1 (a.free c ob q n hx) hc hx
    exact ⟨sl', e2⟩
  free := fun c ob q n hx => by
    obtain ⟨o', e1⟩ := a.there c ob q hx
    exact b.free c o' e1 (a.free c ob q n hx) hx
  there := fun c ob q hx => by
    obtain ⟨o', e1⟩ := a.there c ob q hx
    exact b.there c o' e1 hx
  tups := fun c xs q => b.tups c xs (a.tups c xs q)
  frzs := fun c ob xs q => b.frzs c ob xs (a.frzs c ob xs q)
  tbls := fun c ps q => by
    obtain ⟨m1, e1⟩ := a.tbls c ps q
    obtain ⟨m2, e2⟩ := b.tbls c _ e1
    exact ⟨m1 ++ m2, by rw [e2, Array.append_assoc]⟩
theorem Un.kept (k : ∀ b u, h.get? b = some u → h'.get? b = some u) : Un fs ex H H h h' :=
  ⟨fun b ob q _ _ _ => k b ob q, fun b ob q _ _ _ => ⟨ob.slots, k b ob q⟩, fun _ _ _ n _ => n, fun b ob q _ => ⟨ob, k b ob q⟩, fun _ _ q => q, fun _ _ _ q => q, fun _ ps q => ⟨#[], by rw [q]; simp⟩⟩
theorem Un.refl : Un fs ex H H h h := Un.kept fun _ _ q => q
theorem Un.laid (k : ∀ b u, h.get? b = some u → h'.get? b = some u) (hp : h.objs.size ≤ a) (hn : H a = none) : Un fs ex H (upd H a o) h h' where
  keep := fun b u q _ _ _ => k b u q
  slot := fun b u q _ _ _ => ⟨u.slots, k b u q⟩
  free := fun b u q n _ => by rw [upd_ne (Nat.ne_of_lt (Nat.lt_of_lt_of_le (Heap.lt_size q) hp))]; exact n
  there := fun b u q _ => ⟨u, k b u q⟩
  tups := fun b xs q => by rw [upd_ne (ne_of_none q hn)]; exact q
  frzs := fun b u xs q => by rw [upd_ne (ne_of_none q hn)]; exact q
  tbls := fun b ps q => ⟨#[], by rw [upd_ne (ne_of_none q hn), q]; simp⟩
theorem Un.write (mu : Mut (H x)) (he : e = x ∨ H e = some (.own x)) (k : ∀ b u, b ≠ e → h.get? b = some u → h'.get? b = some u) (heo : ∃ u, h'.get? e = some u) : Un fs ex H (upd H x o) h h' := by
  have hx : ∀ b, H b = none → b ≠ x := fun b n z => by subst z; rw [n] at mu; exact mu
  have hb : ∀ b, H b = none → b ≠ e := fun b n z => by
    subst z
    rcases he with r | r
    · exact hx b n r
    · rw [n] at r; cases r
  have hm : ∀ b u, H b = some u → ¬ Mut (some u) → b ≠ x := fun b u q nm z => by subst z; rw [q] at mu; exact nm mu
  refine ⟨fun b u q n _ _ => k b u (hb b n) q, fun b u q n _ _ => ⟨u.slots, k b u (hb b n) q⟩, fun b u q n _ => by rw [upd_ne (hx b n)]; exact n, fun b u q _ => ?_,
    fun b xs q => by rw [upd_ne (hm b _ q fun z => z)]; exact q, fun b u xs q => by rw [upd_ne (hm b _ q fun z => z)]; exact q, fun b ps q => ⟨#[], by rw [upd_ne (hm b _ q fun z => z), q]; simp⟩⟩
  by_cases hbe : b = e
  · subst hbe; exact heo
  · exact ⟨u, k b u hbe q⟩
theorem Un.mono (u : Un fs ex H H1 h h1) (hs : ∀ b ∈ fs, b ∈ fs') (hx : ∀ b ∈ ex, b ∈ ex') : Un fs' ex' H H1 h h1 :=
  ⟨fun b ob q n hb he => u.keep b ob q n (fun z => hb (hs b z)) fun z => he (hx b z), fun _ _ q n _ he => u.any q n fun z => he (hx _ z), fun b ob q n he => u.free b ob q n fun z => he (hx b z), fun b ob q he => u.there b ob q fun z => he (hx b z), u.tups, u.frzs, u.tbls⟩
end

/-! ### the heap without what is tracked -/
def trk (h : Heap) (H : Hp) : List Addr := (List.range h.objs.size).filter fun a => (H a).isSome
def hidT (h : Heap) (H : Hp) : Heap := PySem.W.hideAll h (trk h H)
theorem hidT_size (h : Heap) (H : Hp) : (hidT h H).objs.size = h.objs.size := PySem.W.hideAll_size _ _
theorem hidT_get {h : Heap} {H : Hp} {b : Addr} {o : Obj} (e : h.get? b = some o) (n : H b = none) : (hidT h H).get? b = some o :=
  PySem.W.hideAll_get _ e fun hm => by
    have q : (H b).isSome = true := (List.mem_filter.mp hm).2
    rw [n] at q; simp at q
theorem of_hidT {h : Heap} {H : Hp} {b : Addr} {o : Obj} (e : (hidT h H).get? b = some o) : h.get? b = some o ∧ H b = none := by
  have e' : h.get? b = some o := PySem.W.of_hideAll (trk h H) e
  refine ⟨e', ?_⟩
  cases q : H b with
  | none => rfl
  | some x =>
    have hm : b ∈ trk h H := List.mem_filter.mpr ⟨List.mem_range.mpr (Heap.lt_size e'), by simp [q]⟩
    have z : (hidT h H).get? b = none := PySem.W.hideAll_none (trk h H) hm
    rw [z] at e; cases e

/-! ### OpenK's ledger, filled with every new object but one -/
def allNews (g h : Heap) (L : Addr) : List (Addr × Obj) := (List.range h.objs.size).filterMap fun a => if a = L ∨ (g.get? a).isSome = true then none else (h.get? a).map fun o => (a, o)
theorem mem_allNews {g h : Heap} {L a : Addr} {o : Obj} (h1 : a ≠ L) (h2 : g.get? a = none) (h3 : h.get? a = some o) : (a, o) ∈ allNews g h L :=
  List.mem_filterMap.mpr ⟨a, List.mem_range.mpr (Heap.lt_size h3), by simp [h1, h2, h3]⟩
theorem of_mem_allNews {g h : Heap} {L : Addr} {p : Addr × Obj} (hp : p ∈ allNews g h L) : p.1 ≠ L ∧ g.get? p.1 = none ∧ h.get? p.1 = some p.2 := by
  obtain ⟨b, _, e⟩ := List.mem_filterMap.mp hp
  split at e
  · cases e
  · rename_i hn
    cases q : h.get? b with
    | none => rw [q] at e; simp at e
    | some u =>
      rw [q] at e
      simp only [Option.map_some, Option.some.injEq] at e
      subst e
      refine ⟨fun z => hn (.inl z), ?_, q⟩
      show g.get? b = none
      cases r : g.get? b with
      | none => rfl
      | some v => exact (hn (.inr (by simp [r]))).elim
def rest (g h : Heap) (L d : Addr) : List (Addr × Obj) := (allNews g h L).filter fun p => decide (p.1 ≠ d)
theorem rest_ne {g h : Heap} {L d : Addr} : ∀ p ∈ rest g h L d, p.1 ≠ d := fun p hp => of_decide_eq_true (List.mem_filter.mp hp).2
theorem mem_rest {g h : Heap} {L d a : Addr} {o : Obj} (h1 : a ≠ L) (h2 : g.get? a = none) (h3 : h.get? a = some o) (h4 : a ≠ d) : (a, o) ∈ rest g h L d :=
  List.mem_filter.mpr ⟨mem_allNews h1 h2 h3, decide_eq_true h4⟩
theorem news_all {g h : Heap} {L : Addr} : News g L h (allNews g h L) := fun p hp => let ⟨a, b, c⟩ := of_mem_allNews hp; ⟨c, a, b⟩
theorem news_at {g h : Heap} {L d : Addr} {o : Obj} (h1 : d ≠ L) (h2 : g.get? d = none) (h3 : h.get? d = some o) : News g L h ((d, o) :: rest g h L d) := fun p hp => by
  rcases List.mem_cons.mp hp with rfl | hp
  · exact ⟨h3, h1, h2⟩
  · exact news_all p (List.mem_filter.mp hp).1
/-- behind a rule that changed d alone: all else but the frame is kept -/
theorem kept_of_news {g h h' : Heap} {L d : Addr} {m : Str → Option Value} (k : ∀ b o, g.get? b = some o → h.get? b = some o) (F : Fr g L h' m) (N : News g L h' (rest g h L d)) :
    ∀ b o, b ≠ L → b ≠ d → h.get? b = some o → h'.get? b = some o := fun b o h1 h2 e => by
  cases q : g.get? b with
  | some u =>
    have := k b u q
    rw [e] at this; cases this
    exact F.keep b _ q
  | none => exact (N (b, o) (mem_rest h1 q e h2)).1
end L2

namespace L2
open PySem PySem.Spec PyProof.Rows

/-- the module's facts, over the base: the heap at the law's entry without what is tracked there -/
structure Mod (K : PySem.W.Frag) (mg : Str → Option Value) (base : Heap) : Prop where
  kin : K.In base
  glob : base.Ns mainGlobals mg
  blt : ∃ mb, base.Ns builtinsNs mb ∧ ∀ x : Str, x ≠ "__name__" → mb x = bootBuiltins x
  nolimit : base.NoLimit

/-- the context: a def's body (or a comprehension's block) running. base: fixed through the whole law; s₀, H₀: the entry; outer: the frames whose slots others may change (a def's callers); stack: all frames that run;
   ex: iterators that were made ahead of the entry and are walked here (a comprehension's); fn: the names whose cells were made at the entry (a def: all; a comprehension's block: its own); calm: not within an except suite; pn: pins that every state bears; xe: what is wanted of an exception that leaves the code -/
structure Cx where
  prog : Program
  w : World
  K : PySem.W.Frag
  mg : Str → Option Value
  base : Heap
  A : Around
  N : List Str
  s₀ : Shared
  H₀ : Hp
  env : Env
  outer : List Env
  stack : List Env
  ex : List Addr
  fn : Str → Bool
  calm : Bool
  pn : List (Addr × Obj)
  xe : Value → Shared → Prop
/-- the callers' frames -/
def frs (l : List Env) : List Addr := l.filterMap (·.frame)
abbrev Cx.fs (X : Cx) : List Addr := frs X.outer

def Vis (sc : Scope) (x : Str) : Prop := sc.names.lookup x = some .local ∨ sc.names.lookup x = some .cell ∨ sc.names.lookup x = some .free
def Loc (sc : Scope) (x : Str) : Prop := sc.names.lookup x = some .local ∨ sc.names.lookup x = some .cell
def Look (env : Env) (h : Heap) (m : Str → Option Value) (x : Str) (u : Value) : Prop :=
  (env.kindOf x = some .local ∧ m x = some u) ∨ ((env.kindOf x = some .cell ∨ env.kindOf x = some .free) ∧ ∃ c, env.cells.lookup x = some c ∧ h.IsCell c (some u))

structure Cx.Ok (X : Cx) : Prop where
  mod : Mod X.K X.mg X.base
  kind : X.env.scope.kind = .function
  glob : X.env.globals = mainGlobals
  blt : X.env.builtins = builtinsNs
  above : X.s₀.heap.objs.size ≤ X.env.locals
  inj : ∀ x y c, X.env.cells.lookup x = some c → X.env.cells.lookup y = some c → x = y
  has : ∀ x, (X.env.kindOf x = some .cell ∨ X.env.kindOf x = some .free) → ∃ c, X.env.cells.lookup x = some c
  cab : ∀ x c, X.fn x = true → X.env.cells.lookup x = some c → X.s₀.heap.objs.size ≤ c
  hd : X.calm = true → X.A.handled = none
  frames : X.A.frames = some X.stack
  stk : X.stack = X.outer ∨ (X.stack = X.env :: X.outer ∧ X.env.frame = some X.env.locals)
  exf : ∀ b ∈ X.ex, b ≠ X.env.locals ∧ ∀ x c, X.env.cells.lookup x = some c → c ≠ b
  bs : ∀ b o, X.base.get? b = some o → X.s₀.heap.get? b = some o ∧ X.H₀ b = none
  bsz : X.base.objs.size ≤ X.s₀.heap.objs.size
  noex : ∀ b o, X.base.get? b = some o → b ∉ X.ex
  exfs : ∀ b ∈ X.ex, b ∉ X.fs
  funs : X.s₀.heap.FunFrames X.base X.outer
  frf : ∀ b ∈ X.fs, X.H₀ b = none

structure Inv (X : Cx) (pins : List (Addr × Obj)) (σ : List (Option V)) (H : Hp) (s : Shared) : Prop where
  ok : X.Ok
  os : s.os = X.s₀.os
  bare : AllBare s.gens
  base : Un X.fs X.ex X.H₀ H X.s₀.heap s.heap
  loc : ∃ m, s.heap.Ns X.env.locals m ∧ ∀ (i : Nat) (x : Str) (v : V), X.N[i]? = some x → σ[i]? = some (some v) → Vis X.env.scope x → ∃ u, RelV v u ∧ Look X.env s.heap m x u
  cell : ∀ x c, X.env.cells.lookup x = some c → ∃ v, s.heap.IsCell c v
  free : H X.env.locals = none
  freeC : ∀ x c, X.env.cells.lookup x = some c → H c = none
  pin : ∀ p ∈ X.pn ++ pins, s.heap.get? p.1 = some p.2 ∧ H p.1 = none ∧ p.1 ≠ X.env.locals ∧ p.1 ∉ X.fs ∧ ∀ v, p.2.data ≠ .cell v
  hok : HOk X.prog X.w H s.heap
  len : σ.length = X.N.length

section
variable {X : Cx} {pins : List (Addr × Obj)} {σ : List (Option V)} {H H' : Hp} {s : Shared} {h' : Heap}

theorem Cx.Ok.nofr (ok : X.Ok) {b : Addr} {o : Obj} (e : X.base.get? b = some o) : b ∉ X.fs := fun hb => by
  have := (ok.funs.mem hb).1
  rw [e] at this; cases this
theorem Inv.bs (I : Inv X pins σ H s) : ∀ b o, X.base.get? b = some o → s.heap.get? b = some o ∧ H b = none := fun b o e =>
  ⟨I.base.keep b o (I.ok.bs b o e).1 (I.ok.bs b o e).2 (I.ok.nofr e) (I.ok.noex b o e), I.base.free b o (I.ok.bs b o e).1 (I.ok.bs b o e).2 (I.ok.noex b o e)⟩
theorem Inv.bk (I : Inv X pins σ H s) : ∀ b o, X.base.get? b = some o → s.heap.get? b = some o := fun b o e => (I.bs b o e).1
theorem Inv.mod (I : Inv X pins σ H s) : Mod X.K X.mg X.base := I.ok.mod
theorem Inv.kIn (I : Inv X pins σ H s) : X.K.In s.heap := I.ok.mod.kin.keeps I.bk
theorem Inv.nolimit (I : Inv X pins σ H s) : s.heap.NoLimit := I.ok.mod.nolimit.keeps I.bk
/-- the frame over the base: for OpenK's rules (K.In X.base is I.mod.kin) -/
theorem Inv.fr (I : Inv X pins σ H s) : ∃ m, Fr X.base X.env.locals s.heap m :=
  let ⟨m, hn, _⟩ := I.loc
  ⟨m, hn, I.bk, Nat.le_trans I.ok.bsz I.ok.above⟩
theorem Inv.lt (I : Inv X pins σ H s) : X.env.locals < s.heap.objs.size := let ⟨_, hn, _⟩ := I.loc; hn.lt
theorem Inv.sz (I : Inv X pins σ H s) : X.s₀.heap.objs.size ≤ s.heap.objs.size := Nat.le_trans I.ok.above (Nat.le_of_lt I.lt)
theorem Inv.nofs (I : Inv X pins σ H s) {a : Addr} (h : s.heap.objs.size ≤ a) : a ∉ X.fs := fun hb => by
  obtain ⟨_, o, ho, _⟩ := I.ok.funs.mem hb
  exact absurd (Nat.lt_of_lt_of_le (Heap.lt_size ho) (Nat.le_trans I.sz h)) (Nat.lt_irrefl _)
theorem Inv.cne (I : Inv X pins σ H s) : ∀ x c, X.env.cells.lookup x = some c → c ≠ X.env.locals := fun x c e z => by
  obtain ⟨v, o, ho, hd⟩ := I.cell x c e
  obtain ⟨m, ⟨o', es, ep, ho', hd', _⟩, _⟩ := I.loc
  rw [z, ho'] at ho; cases ho; rw [hd'] at hd; cases hd
theorem Inv.funs (I : Inv X pins σ H s) : s.heap.FunFrames X.base X.outer := by
  have all : ∀ (l : List Env), (∀ b ∈ frs l, b ∈ X.fs) → X.s₀.heap.FunFrames X.base l → s.heap.FunFrames X.base l := by
    intro l
    induction l with
    | nil => intro _ _; trivial
    | cons env r ih =>
      intro hs hl
      obtain ⟨hk, ⟨L, o, hf, hn, ho, hd⟩, hr⟩ := hl
      have hL : L ∈ X.fs := hs L (by unfold frs; rw [List.filterMap_cons, hf]; exact List.mem_cons_self)
      obtain ⟨sl, e⟩ := I.base.slot L o ho (I.ok.frf L hL) hL fun z => I.ok.exfs L z hL
      exact ⟨hk, ⟨L, _, hf, hn, e, hd⟩, ih (fun b hb => hs b (by unfold frs; rw [List.filterMap_cons, hf]; exact List.mem_cons_of_mem _ hb)) hr⟩
  exact all X.outer (fun _ hb => hb) I.ok.funs

/-- the frames that run, for a call -/
theorem Inv.stack (I : Inv X pins σ H s) : s.heap.FunFrames X.base X.stack := by
  rcases I.ok.stk with e | ⟨e, hf⟩
  · rw [e]; exact I.funs
  · rw [e]
    obtain ⟨m, hn, _⟩ := I.loc
    refine .cons (by rw [I.ok.kind]; decide) hf hn ?_ I.funs
    exact Heap.get?_none_of_le (Nat.le_trans I.ok.bsz I.ok.above)
theorem Inv.stkSub (I : Inv X pins σ H s) : ∀ b ∈ frs X.stack, b ∈ X.env.locals :: X.fs := fun b hb => by
  rcases I.ok.stk with e | ⟨e, hf⟩
  · rw [e] at hb; exact List.mem_cons_of_mem _ hb
  · rw [e] at hb
    unfold frs at hb
    rw [List.filterMap_cons, hf] at hb
    exact hb
theorem Inv.stkFree (I : Inv X pins σ H s) : ∀ b ∈ frs X.stack, H b = none := fun b hb => by
  rcases List.mem_cons.mp (I.stkSub b hb) with e | hb
  · rw [e]; exact I.free
  · obtain ⟨_, o, ho, _⟩ := I.ok.funs.mem hb
    exact I.base.free b o ho (I.ok.frf b hb) fun z => I.ok.exfs b z hb

/-- THE STEP: the untracked objects but the frame and the records at ch are kept (the callers' frames up to slots), the frame's map is kept, the new abstract heap is held -/
theorem Inv.step {g' : Array GenState} {t' : Nat} {d' : Drawn} {ch : List Addr} (I : Inv X pins σ H s)
    (hch : ∀ b ∈ ch, (b ∈ X.ex ∨ X.s₀.heap.objs.size ≤ b) ∧ b ≠ X.env.locals ∧ (∀ x c, X.env.cells.lookup x = some c → c ≠ b) ∧ ∀ p ∈ X.pn ++ pins, p.1 ≠ b)
    (keep : ∀ b o, b ≠ X.env.locals → b ∉ X.fs → b ∉ ch → s.heap.get? b = some o → H b = none → h'.get? b = some o)
    (slot : ∀ b o, b ≠ X.env.locals → b ∈ X.fs → b ∉ ch → s.heap.get? b = some o → H b = none → ∃ sl, h'.get? b = some { o with slots := sl }) (free : ∀ b o, b ∉ ch → s.heap.get? b = some o → H b = none → H' b = none)
    (there : ∀ b o, b ∉ ch → s.heap.get? b = some o → ∃ o', h'.get? b = some o')
    (tups : ∀ b xs, H b = some (.tup xs) → H' b = some (.tup xs)) (frzs : ∀ b o u, H b = some (.frz o u) → H' b = some (.frz o u)) (tbls : ∀ b ps, H b = some (.tbl ps) → ∃ more, H' b = some (.tbl (ps ++ more)))
    (ns : ∀ m, s.heap.Ns X.env.locals m → h'.Ns X.env.locals m) (hok : HOk X.prog X.w H' h') (hg : AllBare g') :
    Inv X pins σ H' { s with heap := h', gens := g', drawn := d', toks := t' } := by
  have neL : ∀ b o, X.s₀.heap.get? b = some o → b ≠ X.env.locals := fun b o e => Nat.ne_of_lt (Nat.lt_of_lt_of_le (Heap.lt_size e) I.ok.above)
  have neC : ∀ b o, X.s₀.heap.get? b = some o → b ∉ X.ex → b ∉ ch := fun b o e hx hb => by
    rcases (hch b hb).1 with z | z
    · exact hx z
    · exact absurd (Nat.lt_of_lt_of_le (Heap.lt_size e) z) (Nat.lt_irrefl _)
  have cellK : ∀ x c, X.env.cells.lookup x = some c → ∀ v, s.heap.IsCell c v → h'.IsCell c v := fun x c e v ⟨o, ho, hd⟩ => by
    have nch : c ∉ ch := fun z => (hch c z).2.2.1 x c e rfl
    by_cases hc : c ∈ X.fs
    · obtain ⟨sl, q⟩ := slot c o (I.cne x c e) hc nch ho (I.freeC x c e)
      exact ⟨_, q, hd⟩
    · exact ⟨o, keep c o (I.cne x c e) hc nch ho (I.freeC x c e), hd⟩
  refine ⟨I.ok, I.os, hg, ⟨fun b o e n hb hx => ?_, fun b o e n hb hx => ?_, fun b o e n hx => ?_, fun b o e hx => ?_, fun b xs e => tups b xs (I.base.tups b xs e), fun b o xs e => frzs b o xs (I.base.frzs b o xs e), fun b ps e => ?_⟩, ?_, fun x c e => ?_, ?_, fun x c e => ?_, fun p hp => ?_, hok, I.len⟩
  · exact keep b o (neL b o e) hb (neC b o e hx) (I.base.keep b o e n hb hx) (I.base.free b o e n hx)
  · obtain ⟨sl, e1⟩ := I.base.slot b o e n hb hx
    obtain ⟨sl', e2⟩ := slot b _ (neL b o e) hb (neC b o e hx) e1 (I.base.free b o e n hx)
    exact ⟨sl', e2⟩
  · obtain ⟨o', e1⟩ := I.base.there b o e hx
    exact free b o' (neC b o e hx) e1 (I.base.free b o e n hx)
  · obtain ⟨o', e1⟩ := I.base.there b o e hx
    exact there b o' (neC b o e hx) e1
  · obtain ⟨m1, e1⟩ := I.base.tbls b ps e
    obtain ⟨m2, e2⟩ := tbls b _ e1
    exact ⟨m1 ++ m2, by rw [e2, Array.append_assoc]⟩
  · obtain ⟨m, hn, hl⟩ := I.loc
    refine ⟨m, ns m hn, fun i x v e1 e2 e3 => ?_⟩
    obtain ⟨u, r, l⟩ := hl i x v e1 e2 e3
    refine ⟨u, r, ?_⟩
    rcases l with l | ⟨k, c, e, z⟩
    · exact .inl l
    · exact .inr ⟨k, c, e, cellK x c e _ z⟩
  · obtain ⟨v, z⟩ := I.cell x c e
    exact ⟨v, cellK x c e v z⟩
  · obtain ⟨m, ⟨o, _, _, ho, _⟩, _⟩ := I.loc
    exact free _ o (fun z => (hch _ z).2.1 rfl) ho I.free
  · obtain ⟨v, o, ho, hd⟩ := I.cell x c e
    exact free c o (fun z => (hch c z).2.2.1 x c e rfl) ho (I.freeC x c e)
  · obtain ⟨e, n, ne, nf, d⟩ := I.pin p hp
    have nch : p.1 ∉ ch := fun z => (hch p.1 z).2.2.2 p hp rfl
    exact ⟨keep p.1 p.2 ne nf nch e n, free p.1 p.2 nch e n, ne, nf, d⟩
/-- .. where the frame's own object is kept too -/
theorem Inv.un {t' : Nat} (I : Inv X pins σ H s) (u : Un X.fs [] H H' s.heap h') (hok : HOk X.prog X.w H' h') : Inv X pins σ H' { s with heap := h', toks := t' } := by
  obtain ⟨m, ⟨o, es, ep, ho, r⟩, _⟩ := id I.loc
  obtain ⟨sl, hL⟩ := u.any ho I.free (by simp)
  exact I.step (g' := s.gens) (d' := s.drawn) (ch := []) (fun _ z => nomatch z) (fun b o _ hb _ e n => u.keep b o e n hb (by simp)) (fun b o _ hb _ e n => u.slot b o e n hb (by simp)) (fun b o _ e n => u.free b o e n (by simp)) (fun b o _ e => u.there b o e (by simp)) u.tups u.frzs u.tbls (fun m' hm => by
    obtain ⟨o', es', ep', ho', r'⟩ := hm
    rw [ho] at ho'; cases ho'
    exact ⟨_, es', ep', hL, r'⟩) hok I.bare
/-- behind a call (or a comprehension's block): the slots of this frame may have changed too, the records at ch may have turned -/
theorem Inv.call {g' : Array GenState} {t' : Nat} {d' : Drawn} {ch : List Addr} (I : Inv X pins σ H s) (u : Un (frs X.stack) ch H H' s.heap h') (hok : HOk X.prog X.w H' h') (hg : AllBare g')
    (hch : ∀ b ∈ ch, (b ∈ X.ex ∨ X.s₀.heap.objs.size ≤ b) ∧ b ≠ X.env.locals ∧ (∀ x c, X.env.cells.lookup x = some c → c ≠ b) ∧ ∀ p ∈ X.pn ++ pins, p.1 ≠ b) :
    Inv X pins σ H' { s with heap := h', gens := g', drawn := d', toks := t' } := by
  obtain ⟨m, ⟨o, es, ep, ho, r⟩, _⟩ := id I.loc
  obtain ⟨sl, hL⟩ := u.any ho I.free fun z => (hch _ z).2.1 rfl
  exact I.step (ch := ch) hch (fun b o hL hb hc e n => u.keep b o e n (fun z => (List.mem_cons.mp (I.stkSub b z)).elim hL hb) hc) (fun b o _ _ hc e n => u.any e n hc) (fun b o hc e n => u.free b o e n hc) (fun b o hc e => u.there b o e hc) u.tups u.frzs u.tbls (fun m' hm => by
    obtain ⟨o', es', ep', ho', r'⟩ := hm
    rw [ho] at ho'; cases ho'
    exact ⟨_, es', ep', hL, r'⟩) hok hg
/-- an untracked record of ours (an iterator) has turned -/
theorem Inv.turned {t' : Nat} {it : Addr} (I : Inv X pins σ H s) (k : ∀ b o, b ≠ it → s.heap.get? b = some o → h'.get? b = some o) (hn : H it = none) (hL : it ≠ X.env.locals)
    (h1 : it ∈ X.ex ∨ X.s₀.heap.objs.size ≤ it) (h2 : ∀ x c, X.env.cells.lookup x = some c → c ≠ it) (h3 : ∀ p ∈ X.pn ++ pins, p.1 ≠ it) : Inv X pins σ H { s with heap := h', toks := t' } := by
  have nit : ∀ b u, H b = some u → b ≠ it := fun b u e z => by rw [z, hn] at e; cases e
  refine I.step (g' := s.gens) (d' := s.drawn) (ch := [it]) (fun b hb => ?_) (fun b o _ _ hc e _ => k b o (fun z => hc (by simp [z])) e) (fun b o _ _ hc e _ => ⟨o.slots, k b o (fun z => hc (by simp [z])) e⟩) (fun _ _ _ _ n => n)
    (fun b o hc e => ⟨o, k b o (fun z => hc (by simp [z])) e⟩) (fun _ _ e => e) (fun _ _ _ e => e) (fun b ps e => ⟨#[], by rw [e]; simp⟩) (fun m hm => ?_) (fun b u e => ?_) I.bare
  · have e : b = it := by simpa using hb
    subst e
    exact ⟨h1, hL, h2, h3⟩
  · obtain ⟨o, es, ep, ho, r⟩ := hm
    exact ⟨o, es, ep, k _ o (Ne.symm hL) ho, r⟩
  · refine (I.hok b u e).stay (fun c v hc q => k c v ?_ q) (fun _ q => q) fun _ _ q => q
    rcases hc with z | z
    · rw [z]; exact nit b u e
    · exact nit c _ z
theorem Inv.tok (I : Inv X pins σ H s) (t : Nat) : Inv X pins σ H { s with toks := t } := I.un (h' := s.heap) (t' := t) Un.refl I.hok
/-- all objects kept -/
theorem Inv.kept {t' : Nat} (I : Inv X pins σ H s) (k : ∀ b u, s.heap.get? b = some u → h'.get? b = some u) : Inv X pins σ H { s with heap := h', toks := t' } := I.un (Un.kept k) (I.hok.kept k)
/-- a new object laid and tracked -/
theorem Inv.laid {a : Addr} {o : HO} {t' : Nat} (I : Inv X pins σ H s) (k : ∀ b u, s.heap.get? b = some u → h'.get? b = some u) (hp : s.heap.objs.size ≤ a) (new : ObjOk X.prog X.w (upd H a o) h' a o) :
    Inv X pins σ (upd H a o) { s with heap := h', toks := t' } := I.un (Un.laid k hp (I.hok.fresh hp)) (I.hok.laid k hp new)
/-- an object written -/
theorem Inv.write {x e : Addr} {o : HO} {t' : Nat} (I : Inv X pins σ H s) (mu : Mut (H x)) (he : e = x ∨ H e = some (.own x)) (k : ∀ b u, b ≠ e → s.heap.get? b = some u → h'.get? b = some u) (heo : ∃ u, h'.get? e = some u)
    (new : ObjOk X.prog X.w (upd H x o) h' x o) : Inv X pins σ (upd H x o) { s with heap := h', toks := t' } := I.un (Un.write mu he k heo) (I.hok.write mu he k heo new)
/-- forgetting slots, pins -/
theorem Inv.weak {σ' : List (Option V)} (I : Inv X pins σ H s) (hl : σ'.length = σ.length) (w : ∀ (i : Nat) v, σ'[i]? = some (some v) → σ[i]? = some (some v)) : Inv X pins σ' H s :=
  ⟨I.ok, I.os, I.bare, I.base, let ⟨m, hn, hl'⟩ := I.loc; ⟨m, hn, fun i x v e1 e2 e3 => hl' i x v e1 (w i v e2) e3⟩, I.cell, I.free, I.freeC, I.pin, I.hok, hl.trans I.len⟩
theorem Inv.pins_of {pins' : List (Addr × Obj)} (I : Inv X pins σ H s) (h : ∀ p ∈ pins', s.heap.get? p.1 = some p.2 ∧ H p.1 = none ∧ p.1 ≠ X.env.locals ∧ p.1 ∉ X.fs ∧ ∀ v, p.2.data ≠ .cell v) : Inv X pins' σ H s :=
  ⟨I.ok, I.os, I.bare, I.base, I.loc, I.cell, I.free, I.freeC, fun p hp => (List.mem_append.mp hp).elim (fun z => I.pin p (List.mem_append_left _ z)) (h p), I.hok, I.len⟩

theorem nodup_ix {N : List Str} (hN : N.Nodup) {i j : Nat} {x : Str} (a : N[i]? = some x) (b : N[j]? = some x) : i = j := by
  obtain ⟨h1, e1⟩ := List.getElem?_eq_some_iff.mp a
  obtain ⟨h2, e2⟩ := List.getElem?_eq_some_iff.mp b
  exact (List.getElem_inj hN).mp (e1.trans e2.symm)

/-- a name is stored; what changed -/
theorem store_ok2 {M : Model} {A : Around} {E : Value → Shared → Prop} {i : Nat} {x : Str} {v : V} {u : Value} {Q : Unit → Shared → Prop} (I : Inv X pins σ H s) (hN : X.N.Nodup) (hi : X.N[i]? = some x) (hx : Loc X.env.scope x) (r : RelV v u)
    (h : ∀ s', Inv X pins (σ.set i (some v)) H s' → (∃ a, Heap.SameBut a s.heap s'.heap ∧ (a = X.env.locals ∨ X.env.cells.lookup x = some a)) → Q () s') (hf : X.fn x = true ∨ X.env.scope.names.lookup x = some .local := by first | exact .inl rfl | exact .inr rfl | assumption) : wpAny M A (storeName X.env x u) Q E s := by
  obtain ⟨m, hn, hl⟩ := id I.loc
  have hcls : (X.env.scope.kind == .class || (X.env.scope.kind == .module && X.env.locals != X.env.globals)) = false := by rw [I.ok.kind]; rfl
  have hiσ : i < σ.length := by rw [I.len]; exact (List.getElem?_eq_some_iff.mp hi).1
  have cne := I.cne
  have tracked : ∀ {a : Addr} {h' : Heap}, (∃ o, s.heap.get? a = some o ∧ H a = none) → Heap.SameBut a s.heap h' → HOk X.prog X.w H h' := fun {a h'} ha hs b ob e => by
    obtain ⟨_, _, hfree⟩ := ha
    refine (I.hok b ob e).stay (fun c w' hc q => (hs.2 c ?_).trans q) (fun _ q => q) fun _ _ q => q
    rintro rfl
    rcases hc with rfl | hc
    · rw [hfree] at e; cases e
    · rw [hfree] at hc; cases hc
  rcases hx with hk | hk
  · refine wpAny_storeName_local hk hn (fun h' hn' hs => ?_) hcls
    obtain ⟨oL, _, _, hoL, _⟩ := id hn
    refine h _ ⟨I.ok, I.os, I.bare, ⟨fun b o e n hb hx => ?_, fun b o e n hb hx => ?_, I.base.free, fun b o e hx => ?_, I.base.tups, I.base.frzs, I.base.tbls⟩, ⟨_, hn', fun j y v' e1 e2 e3 => ?_⟩, fun y c e => ?_, I.free, I.freeC, fun p hp => ?_, tracked ⟨oL, hoL, I.free⟩ hs, by simpa using I.len⟩ ⟨_, hs, .inl rfl⟩
    · exact (hs.2 b (Nat.ne_of_lt (Nat.lt_of_lt_of_le (Heap.lt_size e) I.ok.above))).trans (I.base.keep b o e n hb hx)
    · obtain ⟨sl, e1⟩ := I.base.slot b o e n hb hx
      exact ⟨sl, (hs.2 b (Nat.ne_of_lt (Nat.lt_of_lt_of_le (Heap.lt_size e) I.ok.above))).trans e1⟩
    · obtain ⟨o', e1⟩ := I.base.there b o e hx
      exact ⟨o', (hs.2 b (Nat.ne_of_lt (Nat.lt_of_lt_of_le (Heap.lt_size e) I.ok.above))).trans e1⟩
    · by_cases hj : j = i
      · subst hj
        rw [hi] at e1; cases e1
        rw [List.getElem?_set_self hiσ] at e2
        cases e2
        exact ⟨u, r, .inl ⟨hk, by simp⟩⟩
      · rw [List.getElem?_set_ne (Ne.symm hj)] at e2
        obtain ⟨u', r', q⟩ := hl j y v' e1 e2 e3
        refine ⟨u', r', ?_⟩
        rcases q with ⟨k, e⟩ | ⟨k, c, e, z⟩
        · refine .inl ⟨k, ?_⟩
          have : y ≠ x := fun e => hj (nodup_ix hN e1 (e ▸ hi))
          simp [this, e]
        · exact .inr ⟨k, c, e, z.sameBut hs (cne y c e)⟩
    · obtain ⟨w', z⟩ := I.cell y c e
      exact ⟨w', z.sameBut hs (cne y c e)⟩
    · obtain ⟨e, n, ne, nf, d⟩ := I.pin p hp
      exact ⟨(hs.2 p.1 ne).trans e, n, ne, nf, d⟩
  · have hfn : X.fn x = true := by
      rcases hf with z | z
      · exact z
      · rw [z] at hk; cases hk
    obtain ⟨c, hc⟩ := I.ok.has x (.inl hk)
    obtain ⟨w', z⟩ := I.cell x c hc
    refine wpAny_storeName_cell I.ok.kind hk hc z (fun h' hc' hs => ?_)
    obtain ⟨oc, hoc, hocd⟩ := id z
    refine h { s with heap := h' } ⟨I.ok, I.os, I.bare, ⟨fun b o e n hb hx => ?_, fun b o e n hb hx => ?_, I.base.free, fun b o e hx => ?_, I.base.tups, I.base.frzs, I.base.tbls⟩, ⟨m, hn.sameBut hs (Ne.symm (cne x c hc)), fun j y v' e1 e2 e3 => ?_⟩, fun y c' e => ?_, I.free, I.freeC, fun p hp => ?_, tracked ⟨oc, hoc, I.freeC x c hc⟩ hs, by simpa using I.len⟩ ⟨c, hs, .inr hc⟩
    · exact (hs.2 b (Nat.ne_of_lt (Nat.lt_of_lt_of_le (Heap.lt_size e) (I.ok.cab x c hfn hc)))).trans (I.base.keep b o e n hb hx)
    · obtain ⟨sl, e1⟩ := I.base.slot b o e n hb hx
      exact ⟨sl, (hs.2 b (Nat.ne_of_lt (Nat.lt_of_lt_of_le (Heap.lt_size e) (I.ok.cab x c hfn hc)))).trans e1⟩
    · obtain ⟨o', e1⟩ := I.base.there b o e hx
      exact ⟨o', (hs.2 b (Nat.ne_of_lt (Nat.lt_of_lt_of_le (Heap.lt_size e) (I.ok.cab x c hfn hc)))).trans e1⟩
    · by_cases hj : j = i
      · subst hj
        rw [hi] at e1; cases e1
        rw [List.getElem?_set_self hiσ] at e2
        cases e2
        exact ⟨u, r, .inr ⟨.inl hk, c, hc, hc'⟩⟩
      · rw [List.getElem?_set_ne (Ne.symm hj)] at e2
        obtain ⟨u', r', q⟩ := hl j y v' e1 e2 e3
        refine ⟨u', r', ?_⟩
        rcases q with q | ⟨k, c', e, z'⟩
        · exact .inl q
        · refine .inr ⟨k, c', e, z'.sameBut hs ?_⟩
          rintro rfl
          exact hj (nodup_ix hN e1 (I.ok.inj _ _ _ e hc ▸ hi))
    · by_cases hcc : c' = c
      · subst hcc; exact ⟨_, hc'⟩
      · obtain ⟨w2, z2⟩ := I.cell y c' e
        exact ⟨w2, z2.sameBut hs hcc⟩
    · obtain ⟨e, n, ne, nf, d⟩ := I.pin p hp
      refine ⟨(hs.2 p.1 ?_).trans e, n, ne, nf, d⟩
      intro q
      rw [q, hoc] at e
      have q' : oc = p.2 := Option.some.inj e
      exact d w' (by rw [← q']; exact hocd)
theorem store_ok {M : Model} {A : Around} {E : Value → Shared → Prop} {i : Nat} {x : Str} {v : V} {u : Value} {Q : Unit → Shared → Prop} (I : Inv X pins σ H s) (hN : X.N.Nodup) (hi : X.N[i]? = some x) (hx : Loc X.env.scope x) (r : RelV v u)
    (h : ∀ s', Inv X pins (σ.set i (some v)) H s' → Q () s') (hf : X.fn x = true ∨ X.env.scope.names.lookup x = some .local := by first | exact .inl rfl | exact .inr rfl | assumption) : wpAny M A (storeName X.env x u) Q E s :=
  store_ok2 I hN hi hx r (fun s' I' _ => h s' I') hf
/-- behind a call or a block, the state as it is -/
theorem Inv.call' {s' : Shared} {ch : List Addr} (I : Inv X pins σ H s) (ho : s'.os = s.os) (u : Un (frs X.stack) ch H H' s.heap s'.heap) (hok : HOk X.prog X.w H' s'.heap) (hg : AllBare s'.gens)
    (hch : ∀ b ∈ ch, (b ∈ X.ex ∨ X.s₀.heap.objs.size ≤ b) ∧ b ≠ X.env.locals ∧ (∀ x c, X.env.cells.lookup x = some c → c ≠ b) ∧ ∀ p ∈ X.pn ++ pins, p.1 ≠ b) : Inv X pins σ H' s' := by
  obtain ⟨h', g', d', t', o'⟩ := s'
  have e : o' = s.os := ho
  subst e
  exact I.call (g' := g') (t' := t') (d' := d') u hok hg hch
end

/-! ### the judgements -/
/-- an exception: its class, its own dict's address (where it has one), the abstract heap behind it -/
abbrev XK := Value → Option Addr → Hp → Prop
abbrev St := List (Option V)
abbrev VK := V → Hp → Prop
/-- an expression's reading; a test's; an argument list's -/
abbrev TE := St → Hp → VK → Prop
abbrev TT := St → Hp → (Bool → Hp → Prop) → Prop
abbrev TA := St → Hp → (List V → Hp → Prop) → Prop
/-- what is wanted behind a statement -/
structure Ends where
  nx : St → Hp → Prop
  rt : VK
  bk : St → Hp → Prop := fun _ _ => False
  ct : St → Hp → Prop := fun _ _ => False
abbrev TS := Ends → St → Hp → Prop

def EP (X : Cx) (pins : List (Addr × Obj)) (σ : St) (Q : VK) (u : Value) (s' : Shared) : Prop := ∃ v H', Inv X pins σ H' s' ∧ RelV v u ∧ Q v H'
def TP (X : Cx) (pins : List (Addr × Obj)) (σ : St) (Q : Bool → Hp → Prop) (b : Bool) (s' : Shared) : Prop := ∃ H', Inv X pins σ H' s' ∧ Q b H'
def AP (X : Cx) (pins : List (Addr × Obj)) (σ : St) (Q : List V → Hp → Prop) (us : List Value) (s' : Shared) : Prop := ∃ vs H', Inv X pins σ H' s' ∧ Vals vs us ∧ Q vs H'
def SP (X : Cx) (pins : List (Addr × Obj)) (D : Ends) (f : Flow) (s' : Shared) : Prop :=
  match f with
  | .next => ∃ σ' H', Inv X pins σ' H' s' ∧ D.nx σ' H'
  | .brk => ∃ σ' H', Inv X pins σ' H' s' ∧ D.bk σ' H'
  | .cont => ∃ σ' H', Inv X pins σ' H' s' ∧ D.ct σ' H'
  | .ret u => ∃ v σ' H', Inv X pins σ' H' s' ∧ RelV v u ∧ D.rt v H'

def PE (X : Cx) (e : Expr) (t : TE) : Prop :=
  ∀ (pins : List (Addr × Obj)) (s : Shared) (σ : St) (H : Hp) (Q : VK), Inv X pins σ H s → t σ H Q → wpAny (model X.prog X.w) X.A (eval e X.env) (EP X pins σ Q) X.xe s
def PT (X : Cx) (e : Expr) (t : TT) : Prop :=
  ∀ (pins : List (Addr × Obj)) (s : Shared) (σ : St) (H : Hp) (Q : Bool → Hp → Prop), Inv X pins σ H s → t σ H Q → wpAny (model X.prog X.w) X.A (isTrue e X.env (eval e X.env)) (TP X pins σ Q) X.xe s
/-- a test whatever its 'whole' is (and, or) -/
def PW (X : Cx) (e : Expr) (t : TT) : Prop :=
  ∀ (whole : Sem Value) (pins : List (Addr × Obj)) (s : Shared) (σ : St) (H : Hp) (Q : Bool → Hp → Prop), Inv X pins σ H s → t σ H Q → wpAny (model X.prog X.w) X.A (isTrue e X.env whole) (TP X pins σ Q) X.xe s
theorem PW.pt {X : Cx} {e : Expr} {t : TT} (h : PW X e t) : PT X e t := h _
/-- an argument list (no star), from the left -/
def PA (X : Cx) (es : List Expr) (t : TA) : Prop :=
  ∀ (pos : Pos) (pins : List (Addr × Obj)) (s : Shared) (σ : St) (H : Hp) (Q : List V → Hp → Prop), Inv X pins σ H s → t σ H Q → wpAny (model X.prog X.w) X.A (spliced (backTo pos (starEach es X.env))) (AP X pins σ Q) X.xe s
def PS (X : Cx) (st : Stmt) (t : TS) : Prop :=
  ∀ (pins : List (Addr × Obj)) (s : Shared) (σ : St) (H : Hp) (D : Ends), Inv X pins σ H s → t D σ H → wpAny (model X.prog X.w) X.A (exec st X.env) (SP X pins D) X.xe s
def PSs (X : Cx) (st : List Stmt) (t : TS) : Prop :=
  ∀ (pins : List (Addr × Obj)) (s : Shared) (σ : St) (H : Hp) (D : Ends), Inv X pins σ H s → t D σ H → wpAny (model X.prog X.w) X.A (execs st X.env) (SP X pins D) X.xe s
/-- weaken the end -/
theorem thn {α : Type} {t : Sem α} {Q Q' : α → Shared → Prop} {M : Model} {A : Around} {E : Value → Shared → Prop} {s : Shared} (h : wpAny M A t Q E s) (hQ : ∀ a s, Q a s → Q' a s) : wpAny M A t Q' E s := wpAny_mono h hQ fun _ _ x => x
end L2

namespace L2
open PySem PySem.Spec PyProof.Rows
section
variable {X : Cx}

/-- two expressions in a row -/
theorem bin {a b : Expr} {ta tb : TE} (ha : PE X a ta) (hb : PE X b tb) {pins : List (Addr × Obj)} {s : Shared} {σ : St} {H : Hp} {R : V → V → Hp → Prop} (I : Inv X pins σ H s) (h : ta σ H fun x H1 => tb σ H1 fun y H2 => R x y H2)
    {α : Type} {Q : α → Shared → Prop} {f : Value → Value → Sem α}
    (hf : ∀ v u s2 x y H2, Inv X pins σ H2 s2 → RelV x v → RelV y u → R x y H2 → wpAny (model X.prog X.w) X.A (f v u) Q X.xe s2) :
    wpAny (model X.prog X.w) X.A (eval a X.env) (fun v s₁ => wpAny (model X.prog X.w) X.A (eval b X.env) (fun u s₂ => wpAny (model X.prog X.w) X.A (f v u) Q X.xe s₂) X.xe s₁) X.xe s := by
  refine thn (ha pins s σ H _ I h) fun v s1 ⟨x, H1, I1, r1, q1⟩ => ?_
  refine thn (hb pins s1 σ H1 _ I1 q1) fun u s2 ⟨y, H2, I2, r2, q2⟩ => ?_
  exact hf v u s2 x y H2 I2 r1 r2 q2

/-! ### names and constants -/
def tVar (i : Nat) : TE := fun σ H Q => ∃ v, σ[i]? = some (some v) ∧ Q v H
def tC (v : V) : TE := fun _ H Q => Q v H
theorem pe_var {i : Nat} {x : Str} {pos : Pos} (hN : X.N[i]? = some x) (hv : Vis X.env.scope x) (hd : (x == ("__debug__" : Str)) = false := by decide) (hcd : (x == ("__classdict__" : Str)) = false := by decide) : PE X (.Name x pos) (tVar i) := by
  intro pins s σ H Q I h
  obtain ⟨v, e, h⟩ := h
  obtain ⟨m, hn, hl⟩ := I.loc
  obtain ⟨u, r, l⟩ := hl i x v hN e hv
  have fin : EP X pins σ Q u s := ⟨v, H, I, r, h⟩
  rcases l with ⟨hk, hm⟩ | ⟨hk, c, hc, hcell⟩
  · exact wpAny_Name (wpAny_loadName_local I.ok.kind hk hn hm fin) hd
  · rcases hk with hk | hk
    · exact wpAny_Name (wpAny_loadName_cell I.ok.kind hk hc hcell fin) hd
    · exact wpAny_Name (wpAny_loadName_free I.ok.kind hk hc hcell fin hcd) hd
theorem pe_int {i j pos} : PE X (.Constant (.int i) j pos) (tC (.int i)) := fun _ _ _ H _ I h => wpAny_Constant_int ⟨.int i, H, I.tok _, ⟨_, rfl⟩, h⟩
theorem pe_bl {b j pos} : PE X (.Constant (.bool b) j pos) (tC (.bl b)) := fun _ _ _ H _ I h => Constant_bool ⟨.bl b, H, I, rfl, h⟩
theorem pe_non {j pos} : PE X (.Constant .none j pos) (tC .non) := fun _ _ _ H _ I h => Constant_none ⟨.non, H, I, rfl, h⟩
theorem pe_str {x j pos} : PE X (.Constant (.str x) j pos) (tC (.str x)) := fun _ _ _ H _ I h => Calls.Constant_str ⟨.str x, H, I.tok _, ⟨_, rfl⟩, h⟩

/-- a global name of the def -/
def Gl (X : Cx) (x : Str) : Prop := X.env.kindOf x = some .globalImplicit
theorem ld_glob {E : Value → Shared → Prop} {pins : List (Addr × Obj)} {s : Shared} {σ : St} {H : Hp} {x : Str} {u : Value} {pos : Pos} {Q : Value → Shared → Prop} (I : Inv X pins σ H s) (hg : Gl X x) (hm : X.mg x = some u) (h : Q u s)
    (hd : (x == ("__debug__" : Str)) = false := by decide) : wpAny (model X.prog X.w) X.A (eval (.Name x pos) X.env) Q E s :=
  Calls.Name_function_global I.ok.kind hg (Calls.loadGlobal_global (by rw [I.ok.glob]; exact I.mod.glob.keeps I.bk) hm h) hd
theorem ld_blt {E : Value → Shared → Prop} {pins : List (Addr × Obj)} {s : Shared} {σ : St} {H : Hp} {x : Str} {u : Value} {pos : Pos} {Q : Value → Shared → Prop} (I : Inv X pins σ H s) (hg : Gl X x) (hm : X.mg x = none) (hv : bootBuiltins x = some u) (h : Q u s)
    (hn : x ≠ "__name__" := by decide) (hd : (x == ("__debug__" : Str)) = false := by decide) : wpAny (model X.prog X.w) X.A (eval (.Name x pos) X.env) Q E s := by
  obtain ⟨mb, h1, h2⟩ := I.mod.blt
  exact Calls.Name_function_global I.ok.kind hg (Calls.loadGlobal_builtin (by rw [I.ok.glob]; exact I.mod.glob.keeps I.bk) hm (by rw [I.ok.blt]; exact h1.keeps I.bk) ((h2 x hn).trans hv) h) hd
/-- a module's constant, a class, a function, as a value -/
theorem pe_glob {x : Str} {v : V} {u : Value} {pos : Pos} (hg : Gl X x) (hm : X.mg x = some u) (r : RelV v u) (hd : (x == ("__debug__" : Str)) = false := by decide) : PE X (.Name x pos) (tC v) :=
  fun _ _ _ H _ I h => ld_glob I hg hm ⟨v, H, I, r, h⟩ hd
theorem pe_bltn {x : Str} {v : V} {u : Value} {pos : Pos} (hg : Gl X x) (hm : X.mg x = none) (hv : bootBuiltins x = some u) (r : RelV v u) (hn : x ≠ "__name__" := by decide) (hd : (x == ("__debug__" : Str)) = false := by decide) : PE X (.Name x pos) (tC v) :=
  fun _ _ _ H _ I h => ld_blt I hg hm hv ⟨v, H, I, r, h⟩ hn hd

/-! ### arithmetic -/
/-- two ints -/
def t2I (ta tb : TE) (k : Int → Int → Hp → Prop) : St → Hp → Prop := fun σ H => ta σ H fun x H1 => tb σ H1 fun y H2 => ∃ i j, x = .int i ∧ y = .int j ∧ k i j H2
def tAdd (ta tb : TE) : TE := fun σ H Q => t2I ta tb (fun i j H2 => Q (.int (i + j)) H2) σ H
def tSub (ta tb : TE) : TE := fun σ H Q => t2I ta tb (fun i j H2 => Q (.int (i - j)) H2) σ H
/-- the left factor below 2^64 -/
def tMul (ta tb : TE) : TE := fun σ H Q => t2I ta tb (fun i j H2 => (-(2 ^ 64) < i ∧ i < 2 ^ 64) ∧ Q (.int (i * j)) H2) σ H
variable {a b : Expr} {ta tb : TE} {pos : Pos}
theorem pe_add (ha : PE X a ta) (hb : PE X b tb) : PE X (.BinOp a .Add b pos) (tAdd ta tb) := by
  intro pins s σ H Q I h
  refine wpAny_BinOp (bin ha hb I h fun v u s2 x y H2 I2 rx ry q => ?_)
  obtain ⟨i, j, rfl, rfl, q⟩ := q
  obtain ⟨t, rfl⟩ := rx
  obtain ⟨t', rfl⟩ := ry
  exact add_int ⟨.int _, H2, I2.tok _, ⟨_, rfl⟩, q⟩
theorem pe_sub (ha : PE X a ta) (hb : PE X b tb) : PE X (.BinOp a .Sub b pos) (tSub ta tb) := by
  intro pins s σ H Q I h
  refine wpAny_BinOp (bin ha hb I h fun v u s2 x y H2 I2 rx ry q => ?_)
  obtain ⟨i, j, rfl, rfl, q⟩ := q
  obtain ⟨t, rfl⟩ := rx
  obtain ⟨t', rfl⟩ := ry
  exact sub_int ⟨.int _, H2, I2.tok _, ⟨_, rfl⟩, q⟩
theorem pe_mul (ha : PE X a ta) (hb : PE X b tb) : PE X (.BinOp a .Mult b pos) (tMul ta tb) := by
  intro pins s σ H Q I h
  refine wpAny_BinOp (bin ha hb I h fun v u s2 x y H2 I2 rx ry q => ?_)
  obtain ⟨i, j, rfl, rfl, ⟨q1, q2⟩, q⟩ := q
  obtain ⟨t, rfl⟩ := rx
  obtain ⟨t', rfl⟩ := ry
  exact mul_int ⟨.int _, H2, I2.tok _, ⟨_, rfl⟩, q⟩ (.of_left (intBits_le_64 q1 q2))

/-! ### comparisons -/
def PC (X : Cx) (op : CmpOp) (a b : Expr) (t : TE) : Prop :=
  ∀ (pins : List (Addr × Obj)) (s : Shared) (σ : St) (H : Hp) (Q : VK), Inv X pins σ H s → t σ H Q →
    wpAny (model X.prog X.w) X.A (eval a X.env) (fun v s₁ => wpAny (model X.prog X.w) X.A (eval b X.env) (fun u s₂ => wpAny (model X.prog X.w) X.A (compareOp op v u) (EP X pins σ Q) X.xe s₂) X.xe s₁) X.xe s
theorem nobehind (b : Expr) {op : CmpOp} (h : op ≠ .In) (h2 : op ≠ .NotIn) : behindInMarks op b = false := by
  have e1 : (op == CmpOp.In) = false := by cases op <;> first | rfl | exact absurd rfl h
  have e2 : (op == CmpOp.NotIn) = false := by cases op <;> first | rfl | exact absurd rfl h2
  cases b <;> simp [behindInMarks, e1, e2]
def tCmp (p : Int → Int → Bool) (ta tb : TE) : TE := fun σ H Q => t2I ta tb (fun i j H2 => Q (.bl (p i j)) H2) σ H
abbrev tLt : TE → TE → TE := tCmp fun i j => decide (i < j)
abbrev tLe : TE → TE → TE := tCmp fun i j => decide (i ≤ j)
abbrev tGt : TE → TE → TE := tCmp fun i j => decide (j < i)
abbrev tGe : TE → TE → TE := tCmp fun i j => decide (j ≤ i)
abbrev tEqI : TE → TE → TE := tCmp fun i j => decide (i = j)
abbrev tNeI : TE → TE → TE := tCmp fun i j => !decide (i = j)
/-- a comparison of two ints, by its rule -/
theorem pc_int {op : CmpOp} {p : Int → Int → Bool} (ha : PE X a ta) (hb : PE X b tb)
    (rule : ∀ (i j : Int) (t u : Tok) (Q : Value → Shared → Prop) (s : Shared), Q (.bool (p i j)) s → wpAny (model X.prog X.w) X.A (compareOp op (.int i t) (.int j u)) Q X.xe s) : PC X op a b (tCmp p ta tb) := by
  intro pins s σ H Q I h
  refine bin ha hb I h fun v u s2 x y H2 I2 rx ry q => ?_
  obtain ⟨i, j, rfl, rfl, q⟩ := q
  obtain ⟨t, rfl⟩ := rx
  obtain ⟨t', rfl⟩ := ry
  exact rule i j t t' _ s2 ⟨.bl _, H2, I2, rfl, q⟩
theorem pc_lt (ha : PE X a ta) (hb : PE X b tb) : PC X .Lt a b (tLt ta tb) := pc_int ha hb fun _ _ _ _ _ _ h => lt_int h
theorem pc_le (ha : PE X a ta) (hb : PE X b tb) : PC X .LtE a b (tLe ta tb) := pc_int ha hb fun _ _ _ _ _ _ h => le_int h
theorem pc_gt (ha : PE X a ta) (hb : PE X b tb) : PC X .Gt a b (tGt ta tb) := pc_int ha hb fun _ _ _ _ _ _ h => gt_int h
theorem pc_ge (ha : PE X a ta) (hb : PE X b tb) : PC X .GtE a b (tGe ta tb) := pc_int ha hb fun _ _ _ _ _ _ h => ge_int h
theorem pc_eqI (ha : PE X a ta) (hb : PE X b tb) : PC X .Eq a b (tEqI ta tb) := pc_int ha hb fun _ _ _ _ _ _ h => eq_int (by rw [Bool.beq_eq_decide_eq]; exact h)
theorem pc_neI (ha : PE X a ta) (hb : PE X b tb) : PC X .NotEq a b (tNeI ta tb) := pc_int ha hb fun _ _ _ _ _ _ h => ne_int (by rw [bne, Bool.beq_eq_decide_eq]; exact h)
/-- is None -/
def tIsN (ta : TE) : TE := fun σ H Q => ta σ H fun x H1 => Q (.bl (decide (x = .non))) H1
def tNotN (ta : TE) : TE := fun σ H Q => ta σ H fun x H1 => Q (.bl (!decide (x = .non))) H1
theorem RelV.none_iff {x : V} {v : Value} (r : RelV x v) : (v == Value.none) = decide (x = .non) := by
  cases x with
  | non => cases r; rfl
  | bl _ => cases r; rfl
  | int _ => obtain ⟨t, rfl⟩ := r; rfl
  | str _ => obtain ⟨t, rfl⟩ := r; rfl
  | byt _ => obtain ⟨t, rfl⟩ := r; rfl
  | flt _ => obtain ⟨t, rfl⟩ := r; rfl
  | ref _ => cases r; rfl
  | ty _ => cases r; rfl
theorem pc_isN {j pos'} (ha : PE X a ta) : PC X .Is a (.Constant .none j pos') (tIsN ta) := by
  intro pins s σ H Q I h
  refine thn (ha pins s σ H _ I h) fun v s1 ⟨x, H1, I1, r1, q1⟩ => ?_
  exact Constant_none (is_none_gen ⟨.bl _, H1, I1, by rw [r1.none_iff]; rfl, q1⟩)
theorem pc_notN {j pos'} (ha : PE X a ta) : PC X .IsNot a (.Constant .none j pos') (tNotN ta) := by
  intro pins s σ H Q I h
  refine thn (ha pins s σ H _ I h) fun v s1 ⟨x, H1, I1, r1, q1⟩ => ?_
  exact Constant_none (isnot_none_gen ⟨.bl _, H1, I1, by rw [r1.none_iff]; rfl, q1⟩)
/-- a comparison as a value, as a test -/
def tB (t : TE) : TT := fun σ H Q => t σ H fun x H1 => ∃ c, x = .bl c ∧ Q c H1
theorem pe_cmp {op : CmpOp} {t : TE} (h : PC X op a b t) (h1 : behindInMarks op b = false := by first | exact nobehind _ (by decide) (by decide) | rfl) : PE X (.Compare a [op] [b] pos) t := fun pins s σ H Q I hw => wpAny_Compare1 (h pins s σ H Q I hw) h1
theorem pt_cmp {op : CmpOp} {t : TE} (h : PC X op a b t) (h1 : behindInMarks op b = false := by first | exact nobehind _ (by decide) (by decide) | rfl) : PT X (.Compare a [op] [b] pos) (tB t) := by
  intro pins s σ H Q I hw
  refine wpAny_isTrue_Compare1 (thn (h pins s σ H _ I hw) fun v s1 h1 => thn h1 fun u s2 h2 => thn h2 fun c s3 ⟨x, H1, I1, r1, q1⟩ => ?_) h1
  obtain ⟨d, rfl, q⟩ := q1
  cases r1
  exact wpAny_truthy_bool ⟨H1, I1, q⟩
/-- an expression whose value is a bool, as a test -/
theorem pt_val {e : Expr} {t : TE} (h : PE X e t) (he : ∀ whole, isTrue e X.env whole = (do let v ← whole; standAt e.pos; holding [v] (truthy v)) := by intro _; rfl) : PT X e (tB t) := by
  intro pins s σ H Q I hw
  refine isTrue_plain (thn (h pins s σ H _ I hw) fun v s1 ⟨x, H1, I1, r1, q1⟩ => ?_) (he _)
  obtain ⟨d, rfl, q⟩ := q1
  cases r1
  exact wpAny_truthy_bool ⟨H1, I1, q⟩

/-! ### and, or, not -/
variable {tA tB' : TT} {rest : List Expr}
def tAnd (t u : TT) : TT := fun σ H Q => t σ H fun c H1 => if c = true then u σ H1 Q else Q false H1
def tOr (t u : TT) : TT := fun σ H Q => t σ H fun c H1 => if c = true then Q true H1 else u σ H1 Q
def tNot (t : TT) : TT := fun σ H Q => t σ H fun c H1 => Q (!c) H1
theorem pw_and1 (ha : PT X a tA) : PW X (.BoolOp .And [a] pos) tA := by
  intro wh pins s σ H Q I h
  refine isTrue_and (thn (ha pins s σ H Q I h) fun c s1 e => ?_)
  cases c with
  | true => exact isTrue_and_nil e
  | false => exact e
theorem pw_or1 (ha : PT X a tA) : PW X (.BoolOp .Or [a] pos) tA := by
  intro wh pins s σ H Q I h
  refine isTrue_or (thn (ha pins s σ H Q I h) fun c s1 e => ?_)
  cases c with
  | false => exact isTrue_or_nil e
  | true => exact e
theorem pw_and (ha : PT X a tA) (hb : PW X (.BoolOp .And (b :: rest) pos) tB') : PW X (.BoolOp .And (a :: b :: rest) pos) (tAnd tA tB') := by
  intro wh pins s σ H Q I h
  refine isTrue_and (thn (ha pins s σ H _ I h) fun c s1 ⟨H1, I1, q1⟩ => ?_)
  cases c with
  | true => exact hb wh pins s1 σ H1 Q I1 q1
  | false => exact ⟨H1, I1, q1⟩
theorem pw_or (ha : PT X a tA) (hb : PW X (.BoolOp .Or (b :: rest) pos) tB') : PW X (.BoolOp .Or (a :: b :: rest) pos) (tOr tA tB') := by
  intro wh pins s σ H Q I h
  refine isTrue_or (thn (ha pins s σ H _ I h) fun c s1 ⟨H1, I1, q1⟩ => ?_)
  cases c with
  | true => exact ⟨H1, I1, q1⟩
  | false => exact hb wh pins s1 σ H1 Q I1 q1
theorem pt_not (ha : PT X a tA) : PT X (.UnaryOp .Not a pos) (tNot tA) := by
  intro pins s σ H Q I h
  exact isTrue_not (ha pins s σ H (fun c H1 => Q (!c) H1) I h)
/-- .. as values (bools) -/
def tAndV (ta tb : TE) : TE := fun σ H Q => ta σ H fun x H1 => ∃ c, x = .bl c ∧ if c = true then tb σ H1 Q else Q (.bl false) H1
def tOrV (ta tb : TE) : TE := fun σ H Q => ta σ H fun x H1 => ∃ c, x = .bl c ∧ if c = true then Q (.bl true) H1 else tb σ H1 Q
def tNotV (ta : TE) : TE := fun σ H Q => ta σ H fun x H1 => ∃ c, x = .bl c ∧ Q (.bl (!c)) H1
theorem pe_one {op} {t : TE} (h : PE X a t) : PE X (.BoolOp op [a] pos) t := fun pins s σ H Q I hw => BoolOp_one (h pins s σ H Q I hw)
theorem pe_and (ha : PE X a ta) (hb : PE X (.BoolOp .And (b :: rest) pos) tb) : PE X (.BoolOp .And (a :: b :: rest) pos) (tAndV ta tb) := by
  intro pins s σ H Q I h
  refine BoolOp_and (thn (ha pins s σ H _ I h) fun v s1 ⟨x, H1, I1, r1, q1⟩ => ?_)
  obtain ⟨c, rfl, q1⟩ := q1
  cases r1
  refine wpAny_truthy_bool ?_
  cases c with
  | true => exact hb pins s1 σ H1 Q I1 q1
  | false => exact ⟨.bl false, H1, I1, rfl, q1⟩
theorem pe_or (ha : PE X a ta) (hb : PE X (.BoolOp .Or (b :: rest) pos) tb) : PE X (.BoolOp .Or (a :: b :: rest) pos) (tOrV ta tb) := by
  intro pins s σ H Q I h
  refine BoolOp_or (thn (ha pins s σ H _ I h) fun v s1 ⟨x, H1, I1, r1, q1⟩ => ?_)
  obtain ⟨c, rfl, q1⟩ := q1
  cases r1
  refine wpAny_truthy_bool ?_
  cases c with
  | false => exact hb pins s1 σ H1 Q I1 q1
  | true => exact ⟨.bl true, H1, I1, rfl, q1⟩
theorem pe_not (ha : PE X a ta) : PE X (.UnaryOp .Not a pos) (tNotV ta) := by
  intro pins s σ H Q I h
  refine UnaryOp_ (thn (ha pins s σ H _ I h) fun v s1 ⟨x, H1, I1, r1, q1⟩ => ?_)
  obtain ⟨c, rfl, q1⟩ := q1
  cases r1
  exact not_of (wpAny_truthy_bool ⟨.bl (!c), H1, I1, rfl, q1⟩)
/-- a if t else b -/
def tIf (t : TT) (ta tb : TE) : TE := fun σ H Q => t σ H fun c H1 => if c = true then ta σ H1 Q else tb σ H1 Q
theorem pe_ifExp {c : Expr} (hc : PT X c tA) (ha : PE X a ta) (hb : PE X b tb) : PE X (.IfExp c a b pos) (tIf tA ta tb) := by
  intro pins s σ H Q I h
  refine wpAny_IfExp (thn (hc pins s σ H _ I h) fun d s1 ⟨H1, I1, q1⟩ => ?_)
  cases d with
  | true => exact ha pins s1 σ H1 Q I1 q1
  | false => exact hb pins s1 σ H1 Q I1 q1
end
end L2

namespace L2
open PySem PySem.Spec PyProof.Rows

/-! ### a list, a tuple that is read: tracked, frozen, or an object of the module -/
def SqL (K : PySem.W.Frag) (H : Hp) (a : Addr) (xs : List V) : Prop :=
  Rd H a (.lst xs) ∨
    ∃ (o : Obj) (its : Array Value) (n : Nat), K.lookup a = some o ∧ o.cls = .type "list" ∧ o.dict = none ∧ o.data = .seq its n ∧ its.size ≤ sizeLine ∧ Vals xs its.toList
def SqT (K : PySem.W.Frag) (H : Hp) (a : Addr) (xs : List V) : Prop :=
  Rd H a (.tup xs) ∨
    ∃ (o : Obj) (its : Array Value) (n : Nat), K.lookup a = some o ∧ o.cls = .type "tuple" ∧ o.data = .seq its n ∧ its.size ≤ sizeLine ∧ Vals xs its.toList
def absV : Value → Option V
  | .none => some .non
  | .bool b => some (.bl b)
  | .int i _ => some (.int i)
  | .str x _ => some (.str x)
  | .bytes b _ => some (.byt b)
  | .float b _ => some (.flt b)
  | .ref a => some (.ref a)
  | .type n => some (.ty n)
  | _ => none
theorem RelV.abs {x : V} {u : Value} (r : RelV x u) : absV u = some x := by
  cases x with
  | non => cases r; rfl
  | bl _ => cases r; rfl
  | int _ => obtain ⟨t, rfl⟩ := r; rfl
  | str _ => obtain ⟨t, rfl⟩ := r; rfl
  | byt _ => obtain ⟨t, rfl⟩ := r; rfl
  | flt _ => obtain ⟨t, rfl⟩ := r; rfl
  | ref _ => cases r; rfl
  | ty _ => cases r; rfl
theorem RelV.inj {x y : V} {u : Value} (r : RelV x u) (q : RelV y u) : x = y := Option.some.inj (r.abs.symm.trans q.abs)
theorem Vals.inj : ∀ {xs ys : List V} {us : List Value}, Vals xs us → Vals ys us → xs = ys
  | _, _, _, .nil, .nil => rfl
  | _, _, _, .cons r t, .cons r' t' => by rw [r.inj r', Vals.inj t t']
section
variable {X : Cx} {pins : List (Addr × Obj)} {σ : St} {H : Hp} {s : Shared} {a : Addr} {xs ys : List V}
theorem SqL.of {K : PySem.W.Frag} (h : H a = some (.lst xs)) : SqL K H a xs := .inl (.inl h)
theorem SqT.of {K : PySem.W.Frag} (h : H a = some (.tup xs)) : SqT K H a xs := .inl (.inl h)
theorem Inv.list (I : Inv X pins σ H s) (h : SqL X.K H a xs) : ∃ its : List Value, Vals xs its ∧ PlainL s.heap a its.toArray ∧ xs.length ≤ sizeLine := by
  rcases h with h | ⟨o, its, n, hk, hc, hd, hs, hz, r⟩
  · obtain ⟨z, its, n, r, e⟩ := h.ok I.hok
    exact ⟨its, r, ⟨_, n, e, rfl, rfl, rfl⟩, z⟩
  · refine ⟨its.toList, r, ⟨o, n, I.kIn a o hk, hc, hd, by simpa using hs⟩, ?_⟩
    have e := r.length
    simp only [Array.length_toList] at e
    omega
theorem Inv.tuple (I : Inv X pins σ H s) (h : SqT X.K H a xs) : ∃ its : List Value, Vals xs its ∧ IsTup s.heap a its.toArray ∧ xs.length ≤ sizeLine := by
  rcases h with h | ⟨o, its, n, hk, hc, hs, hz, r⟩
  · obtain ⟨z, its, r, p⟩ := h.ok I.hok
    exact ⟨its, r, p, z⟩
  · refine ⟨its.toList, r, ⟨o, I.kIn a o hk, hc, n, by simpa using hs⟩, ?_⟩
    have e := r.length
    simp only [Array.length_toList] at e
    omega
theorem Inv.list_inj (I : Inv X pins σ H s) (h : SqL X.K H a xs) (h' : SqL X.K H a ys) : xs = ys := by
  obtain ⟨its, r, ⟨o, n, e, _, _, d⟩, _⟩ := I.list h
  obtain ⟨its', r', ⟨o', n', e', _, _, d'⟩, _⟩ := I.list h'
  rw [e] at e'; cases e'
  rw [d] at d'
  injection d' with d1 _
  have : its = its' := by simpa using congrArg Array.toList d1
  subst this
  exact r.inj r'
theorem Inv.tuple_inj (I : Inv X pins σ H s) (h : SqT X.K H a xs) (h' : SqT X.K H a ys) : xs = ys := by
  obtain ⟨its, r, ⟨o, e, _, n, d⟩, _⟩ := I.tuple h
  obtain ⟨its', r', ⟨o', e', _, n', d'⟩, _⟩ := I.tuple h'
  rw [e] at e'; cases e'
  rw [d] at d'
  injection d' with d1 _
  have : its = its' := by simpa using congrArg Array.toList d1
  subst this
  exact r.inj r'
end

/-! ### another wish about exceptions -/
abbrev Cx.wish (X : Cx) (E : Value → Shared → Prop) : Cx := { X with xe := E }
/-- no exception leaves -/
abbrev Cx.nox (X : Cx) : Cx := X.wish fun _ _ => False
theorem Cx.Ok.wish {X : Cx} (ok : X.Ok) (E : Value → Shared → Prop) : (X.wish E).Ok :=
  ⟨ok.mod, ok.kind, ok.glob, ok.blt, ok.above, ok.inj, ok.has, ok.cab, ok.hd, ok.frames, ok.stk, ok.exf, ok.bs, ok.bsz, ok.noex, ok.exfs, ok.funs, ok.frf⟩
theorem Cx.Ok.unwish {X : Cx} {E : Value → Shared → Prop} (ok : (X.wish E).Ok) : X.Ok :=
  ⟨ok.mod, ok.kind, ok.glob, ok.blt, ok.above, ok.inj, ok.has, ok.cab, ok.hd, ok.frames, ok.stk, ok.exf, ok.bs, ok.bsz, ok.noex, ok.exfs, ok.funs, ok.frf⟩
section
variable {X : Cx} {pins : List (Addr × Obj)} {σ : St} {H : Hp} {s : Shared} {E : Value → Shared → Prop}
theorem Inv.wish (I : Inv X pins σ H s) (E : Value → Shared → Prop) : Inv (X.wish E) pins σ H s := ⟨I.ok.wish E, I.os, I.bare, I.base, I.loc, I.cell, I.free, I.freeC, I.pin, I.hok, I.len⟩
theorem Inv.unwish (I : Inv (X.wish E) pins σ H s) : Inv X pins σ H s := ⟨I.ok.unwish, I.os, I.bare, I.base, I.loc, I.cell, I.free, I.freeC, I.pin, I.hok, I.len⟩
theorem SP.unwish {D : Ends} {f : Flow} {s' : Shared} (h : SP (X.wish E) pins D f s') : SP X pins D f s' := by
  cases f with
  | next => obtain ⟨σ', H', I, q⟩ := h; exact ⟨σ', H', I.unwish, q⟩
  | brk => obtain ⟨σ', H', I, q⟩ := h; exact ⟨σ', H', I.unwish, q⟩
  | cont => obtain ⟨σ', H', I, q⟩ := h; exact ⟨σ', H', I.unwish, q⟩
  | ret u => obtain ⟨v, σ', H', I, r, q⟩ := h; exact ⟨v, σ', H', I.unwish, r, q⟩
theorem PE.nox {e : Expr} {t : TE} (h : PE X.nox e t) : PE X e t := fun pins s σ H Q I hw =>
  wpAny_mono (h pins s σ H Q (I.wish _) hw) (fun _ _ ⟨v, H', I', r, q⟩ => ⟨v, H', I'.unwish, r, q⟩) fun _ _ z => False.elim z
theorem PT.nox {e : Expr} {t : TT} (h : PT X.nox e t) : PT X e t := fun pins s σ H Q I hw =>
  wpAny_mono (h pins s σ H Q (I.wish _) hw) (fun _ _ ⟨H', I', q⟩ => ⟨H', I'.unwish, q⟩) fun _ _ z => False.elim z
theorem PSs.nox {st : List Stmt} {t : TS} (h : PSs X.nox st t) : PSs X st t := fun pins s σ H D I hw =>
  wpAny_mono (h pins s σ H D (I.wish _) hw) (fun _ _ q => q.unwish) fun _ _ z => False.elim z
end

/-! ### blocks and small statements -/
section
variable {X : Cx} {st : Stmt} {rest : List Stmt} {t u : TS} {e : Expr} {te : TE} {pos : Pos}
def tNext : TS := fun D σ H => D.nx σ H
def tSeq (t u : TS) : TS := fun D σ H => t { D with nx := u D } σ H
theorem pss_nil : PSs X [] tNext := fun _ _ σ H _ I h => wpAny_execs_nil ⟨σ, H, I, h⟩
theorem pss_cons (h1 : PS X st t) (h2 : PSs X rest u) : PSs X (st :: rest) (tSeq t u) := by
  intro pins s σ H D I h
  refine wpAny_execs_cons (thn (h1 pins s σ H { D with nx := u D } I h) fun f s1 q => ?_)
  cases f with
  | next =>
    obtain ⟨σ', H', I', q⟩ := q
    exact h2 pins s1 σ' H' D I' q
  | ret v => exact q
  | brk => exact q
  | cont => exact q
theorem pss_one (h1 : PS X st t) : PSs X [st] t := by
  intro pins s σ H D I h
  refine wpAny_execs_cons (thn (h1 pins s σ H D I h) fun f s1 q => ?_)
  cases f with
  | next => exact wpAny_execs_nil q
  | ret v => exact q
  | brk => exact q
  | cont => exact q
def tBreak : TS := fun D σ H => D.bk σ H
def tCont : TS := fun D σ H => D.ct σ H
theorem ps_pass : PS X (.Pass pos) tNext := fun _ _ σ H _ I h => wpAny_Pass ⟨σ, H, I, h⟩
theorem ps_break : PS X (.Break pos) tBreak := fun _ _ σ H _ I h => wpAny_Break ⟨σ, H, I, h⟩
theorem ps_continue : PS X (.Continue pos) tCont := fun _ _ σ H _ I h => wpAny_Continue ⟨σ, H, I, h⟩
/-- in a def's body nothing is shown -/
theorem Inv.quiet {pins : List (Addr × Obj)} {σ : St} {H : Hp} {s : Shared} (I : Inv X pins σ H s) : interactive X.env = false := by simp [interactive, I.ok.kind]
/-- a docstring -/
theorem ps_doc {x j pos pos'} : PS X (.Expr (.Constant (.str x) j pos) pos') tNext := fun _ s σ H _ I h => wpAny_Expr (Calls.Constant_str (show SP X _ _ .next { s with toks := s.toks + 1 } from ⟨σ, H, I.tok _, h⟩)) I.quiet
/-- an expression whose value is dropped -/
def tDrop (te : TE) : TS := fun D σ H => te σ H fun _ H1 => D.nx σ H1
theorem ps_expr (he : PE X e te) (hs : swapsWith e none pos.line X.env = pure false := by rfl) : PS X (.Expr e pos) (tDrop te) := by
  intro pins s σ H D I h
  exact wpAny_Expr_any (thn (he pins s σ H _ I h) fun v s1 ⟨x, H1, I1, r1, q1⟩ => ⟨σ, H1, I1, q1⟩) I.quiet hs
def tRet (te : TE) : TS := fun D σ H => te σ H D.rt
theorem ps_ret (he : PE X e te) : PS X (.Return (some e) pos) (tRet te) := by
  intro pins s σ H D I h
  exact wpAny_Return_some (thn (he pins s σ H _ I h) fun v s1 ⟨x, H1, I1, r1, q1⟩ => ⟨x, σ, H1, I1, r1, q1⟩)
def tRetN : TS := fun D _ H => D.rt .non H
theorem ps_retN : PS X (.Return none pos) tRetN := fun _ _ σ H _ I h => wpAny_Return_none ⟨.non, σ, H, I, rfl, h⟩
def tIfS (c : TT) (t u : TS) : TS := fun D σ H => c σ H fun b H1 => if b = true then t D σ H1 else u D σ H1
theorem ps_if {c : Expr} {a b : List Stmt} {tc : TT} (hc : PT X c tc) (ha : PSs X a t) (hb : PSs X b u) : PS X (.If c a b pos) (tIfS tc t u) := by
  intro pins s σ H D I h
  refine wpAny_If (thn (hc pins s σ H _ I h) fun d s1 ⟨H1, I1, q1⟩ => ?_)
  cases d with
  | true => exact ha pins s1 σ H1 D I1 q1
  | false => exact hb pins s1 σ H1 D I1 q1
/-- code that the proof never comes to -/
def tNever : TS := fun _ _ _ => False
theorem ps_never : PS X st tNever := fun _ _ _ _ _ _ h => h.elim
theorem pss_never {sts : List Stmt} : PSs X sts tNever := fun _ _ _ _ _ _ h => h.elim
end

/-! ### targets -/
abbrev TG := V → St → Hp → (St → Hp → Prop) → Prop
abbrev TGs := List V → St → Hp → (St → Hp → Prop) → Prop
def PG (X : Cx) (target : Expr) (t : TG) : Prop :=
  ∀ (pins : List (Addr × Obj)) (s : Shared) (σ : St) (H : Hp) (v : V) (u : Value) (Q : St → Hp → Prop), Inv X pins σ H s → RelV v u → t v σ H Q →
    wpAny (model X.prog X.w) X.A (assign target X.env u) (fun _ s' => ∃ σ' H', Inv X pins σ' H' s' ∧ Q σ' H') X.xe s
/-- several targets, one after another -/
def PGs (X : Cx) (ts : List Expr) (t : TGs) : Prop :=
  ∀ (pins : List (Addr × Obj)) (s : Shared) (σ : St) (H : Hp) (vs : List V) (us : List Value) (Q : St → Hp → Prop), Inv X pins σ H s → Vals vs us → t vs σ H Q →
    wpAny (model X.prog X.w) X.A (assignInOrder ((assignEach ts X.env).map (·.2)) us) (fun _ s' => ∃ σ' H', Inv X pins σ' H' s' ∧ Q σ' H') X.xe s
/-- o[i] = v, by values -/
abbrev TSet := V → V → V → Hp → (Hp → Prop) → Prop
def PSet (X : Cx) (t : TSet) : Prop :=
  ∀ (pins : List (Addr × Obj)) (s : Shared) (σ : St) (H : Hp) (o i v : V) (ov iv u : Value) (Q : Hp → Prop), Inv X pins σ H s → RelV o ov → RelV i iv → RelV v u → t o i v H Q →
    wpAny (model X.prog X.w) X.A (setItem ov iv u) (fun _ s' => ∃ H', Inv X pins σ H' s' ∧ Q H') X.xe s
/-- a op= b, by values -/
abbrev TIp := V → V → Hp → VK → Prop
def PIp (X : Cx) (op : Operator) (t : TIp) : Prop :=
  ∀ (pins : List (Addr × Obj)) (s : Shared) (σ : St) (H : Hp) (x y : V) (v u : Value) (Q : VK), Inv X pins σ H s → RelV x v → RelV y u → t x y H Q →
    wpAny (model X.prog X.w) X.A (inplaceOp op v u) (EP X pins σ Q) X.xe s
section
variable {X : Cx} {pos : Pos}
def gName (i : Nat) : TG := fun v σ H Q => Q (σ.set i (some v)) H
theorem pg_name {i : Nat} {x : Str} (hN : X.N.Nodup) (hi : X.N[i]? = some x) (hx : Loc X.env.scope x) (hf : X.fn x = true ∨ X.env.scope.names.lookup x = some .local := by first | exact .inl rfl | exact .inr rfl | assumption) : PG X (.Name x pos) (gName i) := by
  intro pins s σ H v u Q I r h
  exact wpAny_assign_Name (store_ok I hN hi hx r (fun s' I' => ⟨_, H, I', h⟩) hf)
def gNil : TGs := fun vs σ H Q => vs = [] ∧ Q σ H
def gCons (t : TG) (u : TGs) : TGs := fun vs σ H Q => ∃ v r, vs = v :: r ∧ t v σ H fun σ' H' => u r σ' H' Q
theorem pgs_nil : PGs X [] gNil := by
  intro pins s σ H vs us Q I r h
  obtain ⟨e, h⟩ := h
  subst e
  cases r
  exact assignInOrder_nil ⟨σ, H, I, h⟩
theorem pgs_cons {e : Expr} {es : List Expr} {t : TG} {u : TGs} (h1 : PG X e t) (h2 : PGs X es u)
    (hs : (assignEach (e :: es) X.env).map (·.2) = assign e X.env :: (assignEach es X.env).map (·.2) := by rfl) : PGs X (e :: es) (gCons t u) := by
  intro pins s σ H vs us Q I r h
  obtain ⟨v, vr, e1, h⟩ := h
  subst e1
  cases r with
  | cons r rr =>
    rw [hs]
    refine assignInOrder_cons (thn (h1 pins s σ H _ _ _ I r h) fun _ s1 ⟨σ1, H1, I1, q1⟩ => ?_)
    exact h2 pins s1 σ1 H1 _ _ Q I1 rr q1
/-- (a, b, ..) = a tuple of that length -/
def gTup (K : PySem.W.Frag) (n : Nat) (t : TGs) : TG := fun v σ H Q => ∃ a xs, v = .ref a ∧ SqT K H a xs ∧ xs.length = n ∧ t xs σ H Q
theorem pg_tup {es : List Expr} {k : Nat} {t : TGs} {n : Nat} (hc : X.calm = true) (h : PGs X es t)
    (hn : (assignEach es X.env).length = n := by rfl) (hst : (assignEach es X.env).findIdx? (·.1) = none := by rfl) : PG X (.Tuple es k pos) (gTup X.K n t) := by
  intro pins s σ H v u Q I r hw
  obtain ⟨a, xs, e1, hq, hl, hw⟩ := hw
  subst e1
  cases r
  obtain ⟨its, rv, ht, hz⟩ := I.tuple hq
  refine assign_Tuple_tuple (I.ok.hd hc) ht (by simp [hn, ← hl, rv.length]) hst fun h' hx => ?_
  have I1 : Inv X pins σ H { s with heap := h' } := I.kept (t' := s.toks) fun b o e => hx b o (Nat.ne_of_lt (Heap.lt_size e)) e
  exact h pins _ σ H xs _ Q I1 (by simpa using rv) hw
/-- o[i] = .. -/
def gSub (to ti : TE) (t : TSet) : TG := fun v σ H Q => to σ H fun o H1 => ti σ H1 fun i H2 => t o i v H2 fun H3 => Q σ H3
theorem pg_sub {o i : Expr} {to ti : TE} {t : TSet} (ho : PE X o to) (hi : PE X i ti) (hs : PSet X t)
    (ha : ∀ v, assign (.Subscript o i pos) X.env v = (do
      let ov ← holding [v] (eval o X.env)
      let iv ← holding [v, ov] (eval i X.env)
      standAt pos
      holding [v, ov, iv] (setItem ov iv v)
      release [v, ov, iv] []) := by intro _; rfl) : PG X (.Subscript o i pos) (gSub to ti t) := by
  intro pins s σ H v u Q I r h
  rw [ha]
  refine wpAny_bind (wpAny_holding (thn (ho pins s σ H _ I h) fun ov s1 ⟨x, H1, I1, r1, q1⟩ => ?_))
  refine wpAny_bind (wpAny_holding (thn (hi pins s1 σ H1 _ I1 q1) fun iv s2 ⟨y, H2, I2, r2, q2⟩ => ?_))
  refine wpAny_bind (wpAny_standAt (wpAny_bind (wpAny_holding (thn (hs pins s2 σ H2 x y v ov iv u _ I2 r1 r2 r q2) fun _ s3 ⟨H3, I3, q3⟩ => ?_))))
  exact wpAny_release ⟨σ, H3, I3, q3⟩
/-- target = value -/
def tAsg (te : TE) (g : TG) : TS := fun D σ H => te σ H fun x H1 => g x σ H1 D.nx
theorem ps_asg {tg e : Expr} {te : TE} {g : TG} (he : PE X e te) (hg : PG X tg g) (hs : swapsWithSole [tg] e pos.line X.env = pure false := by rfl) (hw : swappedStores [tg] e X.env = pure none := by rfl)
    (h1 : (assignEach [tg] X.env).map (·.2) = [assign tg X.env] := by rfl) : PS X (.Assign [tg] e pos) (tAsg te g) := by
  intro pins s σ H D I h
  refine wpAny_Assign_stores (thn (he pins s σ H _ I h) fun v s1 ⟨x, H1, I1, r1, q1⟩ => ?_) hs hw
  rw [h1]
  exact thn (hg pins s1 σ H1 x v _ I1 r1 q1) fun _ s2 q => q
/-- name = value -/
theorem ps_set {i : Nat} {x : Str} {e : Expr} {te : TE} {pos' : Pos} (hN : X.N.Nodup) (hi : X.N[i]? = some x) (hx : Loc X.env.scope x) (he : PE X e te) (hs : swapsWith e (some (.Name x pos')) pos.line X.env = pure false := by rfl) (hf : X.fn x = true ∨ X.env.scope.names.lookup x = some .local := by first | exact .inl rfl | exact .inr rfl | assumption) :
    PS X (.Assign [.Name x pos'] e pos) (tAsg te (gName i)) := by
  intro pins s σ H D I h
  refine wpAny_Assign_Name (thn (he pins s σ H _ I h) fun v s1 ⟨y, H1, I1, r1, q1⟩ => ?_) hs
  exact store_ok I1 hN hi hx r1 (fun s2 I2 => ⟨_, H1, I2, q1⟩) hf
/-- a, b = x, y with plain local names: stored from the right; the pair itself is not tracked (the opening rows as in PyProof/Rows/TupAssign.lean:23) -/
def tPar (i j : Nat) (ta : TA) : TS := fun D σ H => ta σ H fun vs H1 => ∃ v w, vs = [v, w] ∧ D.nx ((σ.set i (some v)).set j (some w)) H1
theorem ps_par {i j : Nat} {x y : Str} {a b : Expr} {ta : TA} {px py pt : Pos} {kt k2 pt2} (hc : X.calm = true) (hN : X.N.Nodup) (hi : X.N[i]? = some x) (hj : X.N[j]? = some y) (hij : i ≠ j)
    (hx : X.env.scope.names.lookup x = some .local) (hy : X.env.scope.names.lookup y = some .local) (ha : PA X [a, b] ta)
    (hw : swappedStores [.Tuple [.Name x px, .Name y py] kt pt] (.Tuple [a, b] k2 pt2) X.env = pure (some [x, y]))
    (hs : swapsWithSole [.Tuple [.Name x px, .Name y py] kt pt] (.Tuple [a, b] k2 pt2) pos.line X.env = pure false := by rfl) :
    PS X (.Assign [.Tuple [.Name x px, .Name y py] kt pt] (.Tuple [a, b] k2 pt2) pos) (tPar i j ta) := by
  intro pins s σ H D I h
  rw [exec_Assign_arm]
  refine wpAny_bind (wpAny_standAt ?_)
  rw [hs]
  refine wpAny_bind (wpAny_pure ?_)
  rw [if_neg (by decide)]
  refine wpAny_bind (Tuple_ (thn (ha _ pins s σ H _ I h) fun us s1 ⟨vs, H1, I1, r1, q1⟩ => ?_))
  obtain ⟨v, w, e1, q1⟩ := q1
  subst e1
  obtain ⟨u1, u2, rfl, rv, rw'⟩ : ∃ u1 u2, us = [u1, u2] ∧ RelV v u1 ∧ RelV w u2 := by
    cases r1 with
    | cons p q =>
      cases q with
      | cons p' q' =>
        cases q'
        exact ⟨_, _, rfl, p, p'⟩
  refine wpAny_newObj_type ?_ (by show 2 ≤ sizeLine; decide)
  have I2 : Inv X pins σ H1 { s1 with heap := s1.heap.push { cls := .type "tuple", data := .seq [u1, u2].toArray } } := I1.kept (t' := s1.toks) fun b o e => Heap.get?_push_of_some _ e
  rw [hw]
  refine wpAny_bind (wpAny_pure ?_)
  show wpAny (model X.prog X.w) X.A (do rule "assign.swapped-stores"; let items ← unpackItems (.ref s1.heap.objs.size) 2 none; assignInOrder [fun v => bindName X.env y v, fun v => bindName X.env x v] items.reverse; pure Flow.next) _ _ _
  refine wpAny_bind (wpAny_rule (wpAny_bind (unpackItems_tuple (items := #[u1, u2]) (I.ok.hd hc) (IsTup.new s1.heap _) fun h' hx' => ?_)))
  have I3 := I2.kept (h' := h') (t' := s1.toks) fun b o e => hx' b o (Nat.ne_of_lt (Heap.lt_size e)) e
  show wpAny _ _ (assignInOrder [fun v => bindName X.env y v, fun v => bindName X.env x v] [u2, u1] >>= fun _ => pure Flow.next) _ _ _
  refine wpAny_bind (assignInOrder_cons (wpAny_bindName (store_ok I3 hN hj (.inl hy) rw' (fun s2 I4 => ?_) (.inr hy))))
  refine assignInOrder_cons (wpAny_bindName (store_ok I4 hN hi (.inl hx) rv (fun s3 I5 => assignInOrder_nil (wpAny_pure ?_)) (.inr hx)))
  rw [List.set_comm _ _ (Ne.symm hij)] at I5
  exact ⟨_, H1, I5, q1⟩
/-- name op= e -/
def tAug (i : Nat) (te : TE) (ti : TIp) : TS := fun D σ H => ∃ x, σ[i]? = some (some x) ∧ te σ H fun y H1 => ti x y H1 fun z H2 => D.nx (σ.set i (some z)) H2
theorem ps_aug {i : Nat} {x : Str} {e : Expr} {te : TE} {op : Operator} {ti : TIp} {pos' : Pos} (hN : X.N.Nodup) (hi : X.N[i]? = some x) (hx : Loc X.env.scope x) (he : PE X e te) (ho : PIp X op ti) (hf : X.fn x = true ∨ X.env.scope.names.lookup x = some .local := by first | exact .inl rfl | exact .inr rfl | assumption) :
    PS X (.AugAssign (.Name x pos') op e pos) (tAug i te ti) := by
  intro pins s σ H D I h
  obtain ⟨v, e1, h⟩ := h
  obtain ⟨m, hn, hl⟩ := I.loc
  have vis : Vis X.env.scope x := by rcases hx with k | k; exact .inl k; exact .inr (.inl k)
  obtain ⟨u, r, l⟩ := hl i x v hi e1 vis
  refine wpAny_AugAssign_Name ?_
  have go : wpAny (model X.prog X.w) X.A (eval e X.env) (fun w s₂ => wpAny (model X.prog X.w) X.A (inplaceOp op u w) (fun r s₃ => wpAny (model X.prog X.w) X.A (storeName X.env x r) (fun _ => SP X pins D .next) X.xe s₃) X.xe s₂) X.xe s := by
    refine thn (he pins s σ H _ I h) fun w s1 ⟨y, H1, I1, r1, q1⟩ => ?_
    refine thn (ho pins s1 σ H1 v y u w _ I1 r r1 q1) fun z s2 ⟨zv, H2, I2, r2, q2⟩ => ?_
    exact store_ok I2 hN hi hx r2 (fun s3 I3 => ⟨_, H2, I3, q2⟩) hf
  rcases l with ⟨hk, hm⟩ | ⟨hk, c, hc, hcell⟩
  · exact wpAny_loadName_local I.ok.kind hk hn hm go
  · rcases hk with hk | hk
    · exact wpAny_loadName_cell I.ok.kind hk hc hcell go
    · rcases hx with k | k
      · have : X.env.scope.names.lookup x = some .free := hk
        rw [k] at this; cases this
      · have : X.env.scope.names.lookup x = some .free := hk
        rw [k] at this; cases this
/-- o[i] op= e -/
def tAugS (to ti te : TE) (tget : V → V → Hp → VK → Prop) (tip : TIp) (tset : TSet) : TS := fun D σ H => to σ H fun o H1 => ti σ H1 fun i H2 => tget o i H2 fun x H3 => te σ H3 fun y H4 => tip x y H4 fun z H5 => tset o i z H5 fun H6 => D.nx σ H6
/-- o[i], by values -/
def PGet (X : Cx) (t : V → V → Hp → VK → Prop) : Prop :=
  ∀ (pins : List (Addr × Obj)) (s : Shared) (σ : St) (H : Hp) (o i : V) (ov iv : Value) (Q : VK), Inv X pins σ H s → RelV o ov → RelV i iv → t o i H Q →
    wpAny (model X.prog X.w) X.A (getItem ov iv) (EP X pins σ Q) X.xe s
theorem ps_augS {o i e : Expr} {to ti te : TE} {tget : V → V → Hp → VK → Prop} {tip : TIp} {tset : TSet} {op : Operator} {tpos : Pos} (ho : PE X o to) (hi : PE X i ti) (hg : PGet X tget) (he : PE X e te) (hp : PIp X op tip) (hs : PSet X tset)
    (ha : ∀ ov iv new, augStore i ov iv new = (do holding [new, ov, iv] (setItem ov iv new); release [new, ov, iv] []; pure .next) := by intros; rfl) : PS X (.AugAssign (.Subscript o i tpos) op e pos) (tAugS to ti te tget tip tset) := by
  intro pins s σ H D I h
  refine wpAny_AugAssign_SubscriptAny (thn (ho pins s σ H _ I h) fun ov s1 ⟨x1, H1, I1, r1, q1⟩ => ?_) ha
  refine thn (hi pins s1 σ H1 _ I1 q1) fun iv s2 ⟨x2, H2, I2, r2, q2⟩ => ?_
  refine thn (hg pins s2 σ H2 x1 x2 ov iv _ I2 r1 r2 q2) fun old s3 ⟨x3, H3, I3, r3, q3⟩ => ?_
  refine thn (he pins s3 σ H3 _ I3 q3) fun v s4 ⟨x4, H4, I4, r4, q4⟩ => ?_
  refine thn (hp pins s4 σ H4 x3 x4 old v _ I4 r3 r4 q4) fun new s5 ⟨x5, H5, I5, r5, q5⟩ => ?_
  exact thn (hs pins s5 σ H5 x1 x2 x5 ov iv new _ I5 r1 r2 r5 q5) fun _ s6 ⟨H6, I6, q6⟩ => ⟨σ, H6, I6, q6⟩
/-- ints -/
def ipI (f : Int → Int → Int) : TIp := fun x y H Q => ∃ i j, x = .int i ∧ y = .int j ∧ Q (.int (f i j)) H
theorem ip_add : PIp X .Add (ipI fun i j => i + j) := by
  intro pins s σ H x y v u Q I r1 r2 h
  obtain ⟨i, j, e1, e2, q⟩ := h
  subst e1; subst e2
  obtain ⟨t, rfl⟩ := r1
  obtain ⟨t', rfl⟩ := r2
  exact iadd_int ⟨.int _, H, I.tok _, ⟨_, rfl⟩, q⟩
theorem ip_sub : PIp X .Sub (ipI fun i j => i - j) := by
  intro pins s σ H x y v u Q I r1 r2 h
  obtain ⟨i, j, e1, e2, q⟩ := h
  subst e1; subst e2
  obtain ⟨t, rfl⟩ := r1
  obtain ⟨t', rfl⟩ := r2
  exact isub_int ⟨.int _, H, I.tok _, ⟨_, rfl⟩, q⟩
end

/-! ### while -/
section
variable {X : Cx} {pos : Pos}
/-- the invariant W with its measure -/
def tWhile (c : TT) (tb : TS) : TS := fun D σ H => ∃ W : Nat → St → Hp → Prop, (∃ m, W m σ H) ∧ ∀ m σ H, W m σ H →
  c σ H fun b H1 => if b = true then ∃ N : St → Hp → Prop, (∀ σ' H', N σ' H' → ∃ m', m' < m ∧ W m' σ' H') ∧ tb { D with nx := N, ct := N, bk := D.nx } σ H1 else D.nx σ H1
theorem ps_while {c : Expr} {body : List Stmt} {tc : TT} {tb : TS} (hp : PassesOwn (model X.prog X.w) X.A X.env X.xe) (hc : PT X c tc) (hb : PSs X body tb) : PS X (.While c body [] pos) (tWhile tc tb) := by
  intro pins s σ H D I h
  obtain ⟨W, ⟨m0, w0⟩, turn⟩ := h
  refine wpAny_While (codeAny_whileLoop (fun n s' => ∃ σ' H', Inv X pins σ' H' s' ∧ W n σ' H') ?_ m0 ⟨σ, H, I, w0⟩)
  rintro n s1 ⟨σ1, H1, I1, w1⟩
  refine wpAny_passesOwn hp (thn (hc pins s1 σ1 H1 _ I1 (turn n σ1 H1 w1)) fun b s2 ⟨H2, I2, q2⟩ => ?_)
  cases b with
  | true =>
    obtain ⟨N, hN, q2⟩ := q2
    rw [if_pos rfl]
    refine wpAny_passesOwn hp (thn (hb pins s2 σ1 H2 _ I2 q2) fun f s3 q3 => ?_)
    cases f with
    | next =>
      obtain ⟨σ3, H3, I3, n3⟩ := q3
      obtain ⟨m', hm, w3⟩ := hN σ3 H3 n3
      exact ⟨m', hm, σ3, H3, I3, w3⟩
    | cont =>
      obtain ⟨σ3, H3, I3, n3⟩ := q3
      obtain ⟨m', hm, w3⟩ := hN σ3 H3 n3
      exact ⟨m', hm, σ3, H3, I3, w3⟩
    | brk => exact q3
    | ret v => exact q3
  | false =>
    rw [if_neg Bool.false_ne_true]
    exact wpAny_execs_nil ⟨σ1, H2, I2, q2⟩
end

/-! ### what a loop or a comprehension walks -/
/-- at turn i: it yields x (the heap may grow), or it stops -/
structure It where
  go : Nat → Hp → Prop
  yld : Nat → Hp → V → Hp → Prop
  stop : Nat → Hp → Prop
/-- the iterator's own objects may turn: they are not the frame's, not pinned, younger than the entry (or a comprehension's own) -/
def FpOk (X : Cx) (pins : List (Addr × Obj)) (H : Hp) (b : Addr) : Prop :=
  H b = none ∧ b ≠ X.env.locals ∧ b ∉ X.fs ∧ (b ∈ X.ex ∨ X.s₀.heap.objs.size ≤ b) ∧ (∀ x c, X.env.cells.lookup x = some c → c ≠ b) ∧ ∀ p ∈ X.pn ++ pins, p.1 ≠ b
theorem Inv.fpOk {X : Cx} {pins : List (Addr × Obj)} {σ : St} {H H' : Hp} {s : Shared} {b : Addr} (I : Inv X pins σ H s) (hb : s.heap.objs.size ≤ b) (hn : H' b = none) : FpOk X pins H' b := by
  refine ⟨hn, Nat.ne_of_gt (Nat.lt_of_lt_of_le I.lt hb), I.nofs hb, .inr (Nat.le_trans I.sz hb), fun x c e z => ?_, fun p hp z => ?_⟩
  · obtain ⟨v, q⟩ := I.cell x c e
    exact absurd (Nat.lt_of_lt_of_le q.lt (by rw [z]; exact hb)) (Nat.lt_irrefl _)
  · exact absurd (Nat.lt_of_lt_of_le (Heap.lt_size (I.pin p hp).1) (by rw [z]; exact hb)) (Nat.lt_irrefl _)
structure Turn (P : Program) (w : World) (K : PySem.W.Frag) (tg : Expr) (J : It) (fp : List Addr) (it : Addr) (tn : Nat → Heap → Prop) : Prop where
  mem : it ∈ fp
  obj : ∀ i h, tn i h → ∀ b ∈ fp, ∃ o, h.get? b = some o ∧ ∀ v, o.data ≠ .cell v
  keep : ∀ i h h', tn i h → (∀ b ∈ fp, ∀ o, h.get? b = some o → h'.get? b = some o) → tn i h'
  item : ∀ (X : Cx), X.prog = P → X.w = w → X.K = K → X.calm = true → ∀ (i : Nat) (pins : List (Addr × Obj)) (s : Shared) (σ : St) (H : Hp) (E : Value → Shared → Prop), Inv X pins σ H s → (∀ b ∈ fp, FpOk X pins H b) → tn i s.heap → J.go i H →
    wpAny (model P w) X.A (pyNext (.ref it)) (fun r s1 => ∃ u, r = some u ∧
      wpAny (model P w) X.A (letOwnedTupleGo tg (.ref it) u) (fun _ s2 => ∃ x H', Inv X pins σ H' s2 ∧ RelV x u ∧ J.yld i H x H' ∧ tn (i + 1) s2.heap ∧ ∀ b ∈ fp, H' b = none) E s1) E s
  done : ∀ (X : Cx), X.prog = P → X.w = w → X.K = K → X.calm = true → ∀ (i : Nat) (pins : List (Addr × Obj)) (s : Shared) (σ : St) (H : Hp) (E : Value → Shared → Prop), Inv X pins σ H s → (∀ b ∈ fp, FpOk X pins H b) → tn i s.heap → J.stop i H →
    wpAny (model P w) X.A (pyNext (.ref it)) (fun r s1 => r = none ∧ Inv X pins σ H s1) E s
  self : ∀ (A : Around) (i : Nat) (s : Shared) (Q : Value → Shared → Prop) (E : Value → Shared → Prop), tn i s.heap → Q (.ref it) s → wpAny (model P w) A (pyIter (.ref it)) Q E s
abbrev TI := St → Hp → (It → Hp → Prop) → Prop
/-- an iterator has come -/
def PIE (X : Cx) (pins : List (Addr × Obj)) (σ : St) (tg : Expr) (R : It → Hp → Prop) (itv : Value) (s2 : Shared) : Prop :=
  ∃ (it : Addr) (fp : List Addr) (tn : Nat → Heap → Prop) (J : It) (H' : Hp), itv = .ref it ∧ Inv X pins σ H' s2 ∧ Turn X.prog X.w X.K tg J fp it tn ∧ tn 0 s2.heap ∧ (∀ b ∈ fp, FpOk X pins H' b) ∧ R J H'
def PI (X : Cx) (tg iter : Expr) (wi : TI) : Prop :=
  ∀ (pins : List (Addr × Obj)) (s : Shared) (σ : St) (H : Hp) (R : It → Hp → Prop), Inv X pins σ H s → wi σ H R →
    wpAny (model X.prog X.w) X.A (eval iter X.env) (fun v s1 => wpAny (model X.prog X.w) X.A (pyIter v) (PIE X pins σ tg R) X.xe s1) X.xe s

/-- the step ahead of the store is nothing for an iterator that keeps no tuple -/
theorem go_of {M : Model} {A : Around} {E : Value → Shared → Prop} {s : Shared} {tg : Expr} {it : Addr} {u : Value} {o : Obj} {n : String} {vs : Array Value} {Q : Unit → Shared → Prop} (ho : s.heap.get? it = some o) (hc : o.cls = .type n) (hd : o.data = .fields vs)
    (hn : ["enumerate", "zip", "dict_itemiterator", "dict_reverseitemiterator", "odict_iterator", "itertools.zip_longest", "itertools.pairwise"].contains n = false) (hQ : Q () s) : wpAny M A (letOwnedTupleGo tg (.ref it) u) Q E s := by
  unfold letOwnedTupleGo
  cases tg <;> first
    | exact wpAny_pure hQ
    | (cases u <;> first
        | exact wpAny_pure hQ
        | (refine wpAny_bind (wpAny_load ho ?_)
           rw [hc, hd]
           show wpAny M A (if (["enumerate", "zip", "dict_itemiterator", "dict_reverseitemiterator", "odict_iterator", "itertools.zip_longest", "itertools.pairwise"].contains n && vs[0]? == some (rawInt _)) = true then _ else _) Q E s
           rw [if_neg (by intro h; rw [hn, Bool.false_and] at h; cases h)]
           exact wpAny_pure hQ))

/-- the list at a, as it stands at each turn (a loop may append to it) -/
def Itl (K : PySem.W.Frag) (a : Addr) : It :=
  ⟨fun i H => ∃ xs x, SqL K H a xs ∧ xs[i]? = some x, fun i H x H' => H' = H ∧ ∀ xs, SqL K H a xs → xs[i]? = some x, fun i H => ∃ xs, SqL K H a xs ∧ xs.length ≤ i⟩
def Itt (K : PySem.W.Frag) (a : Addr) : It :=
  ⟨fun i H => ∃ xs x, SqT K H a xs ∧ xs[i]? = some x, fun i H x H' => H' = H ∧ ∀ xs, SqT K H a xs → xs[i]? = some x, fun i H => ∃ xs, SqT K H a xs ∧ xs.length ≤ i⟩
/-- lo, lo + 1, .. (n of them) -/
def Itr (lo : Int) (n : Nat) : It := ⟨fun i _ => i < n, fun i H x H' => H' = H ∧ x = .int (lo + i), fun i _ => n ≤ i⟩
theorem turn_list {P : Program} {w : World} {K : PySem.W.Frag} {tg : Expr} (a it : Addr) : Turn P w K tg (Itl K a) [it] it (fun i h => h.IsListIter it a i) where
  mem := by simp
  obj := fun i h st b hb => by
    have e : b = it := by simpa using hb
    subst e
    obtain ⟨o, e, c, d⟩ := st
    exact ⟨o, e, fun v z => by rw [d] at z; cases z⟩
  keep := fun i h h' st k => st.at fun o e => k it (by simp) o e
  item := by
    intro X hP hw hK hc i pins s σ H E I hf st hg
    subst hP hw hK
    obtain ⟨xs, x, hq, hx⟩ := hg
    obtain ⟨its, rv, p, hz⟩ := I.list hq
    obtain ⟨u, hu, ru⟩ := rv.get hx
    obtain ⟨f0, f1, f2, f3, f4, f5⟩ := hf it (by simp)
    refine wpAny_pyNext_list_item st p.isList (x := u) (by simpa using hu) fun h' st' sb => ?_
    have I1 : Inv X pins σ H { s with heap := h' } := I.turned (t' := s.toks) (fun b o hb e => (sb.2 b hb).trans e) f0 f1 f3 f4 f5
    obtain ⟨o, e, c, d⟩ := id st'
    exact ⟨u, rfl, go_of (s := { s with heap := h' }) e c d (by decide) ⟨x, H, I1, ru, ⟨rfl, fun ys hy => by rw [I.list_inj hy hq]; exact hx⟩, st', fun b hb => (hf b hb).1⟩⟩
  done := by
    intro X hP hw hK hc i pins s σ H E I hf st hg
    subst hP hw hK
    obtain ⟨xs, hq, hx⟩ := hg
    obtain ⟨its, rv, p, hz⟩ := I.list hq
    obtain ⟨f0, f1, f2, f3, f4, f5⟩ := hf it (by simp)
    have hl := rv.length
    exact wpAny_pyNext_list_end (I.ok.hd hc) st p.isList (by simp; omega) fun h' eb => ⟨rfl, I.turned (t' := s.toks) (fun b o hb e => eb b o hb e) f0 f1 f3 f4 f5⟩
  self := fun _ _ _ _ _ st h => wpAny_pyIter_listiter st h
theorem turn_tuple {P : Program} {w : World} {K : PySem.W.Frag} {tg : Expr} (a it : Addr) : Turn P w K tg (Itt K a) [it] it (fun i h => h.IsTupleIter it a i) where
  mem := by simp
  obj := fun i h st b hb => by
    have e : b = it := by simpa using hb
    subst e
    obtain ⟨o, e, c, d⟩ := st
    exact ⟨o, e, fun v z => by rw [d] at z; cases z⟩
  keep := fun i h h' st k => st.at fun o e => k it (by simp) o e
  item := by
    intro X hP hw hK hc i pins s σ H E I hf st hg
    subst hP hw hK
    obtain ⟨xs, x, hq, hx⟩ := hg
    obtain ⟨its, rv, p, hz⟩ := I.tuple hq
    obtain ⟨u, hu, ru⟩ := rv.get hx
    obtain ⟨f0, f1, f2, f3, f4, f5⟩ := hf it (by simp)
    refine wpAny_pyNext_tuple_item st (show s.heap.IsTuple a its.toArray from p) (x := u) (by simpa using hu) fun h' st' sb => ?_
    have I1 : Inv X pins σ H { s with heap := h' } := I.turned (t' := s.toks) (fun b o hb e => (sb.2 b hb).trans e) f0 f1 f3 f4 f5
    obtain ⟨o, e, c, d⟩ := id st'
    exact ⟨u, rfl, go_of (s := { s with heap := h' }) e c d (by decide) ⟨x, H, I1, ru, ⟨rfl, fun ys hy => by rw [I.tuple_inj hy hq]; exact hx⟩, st', fun b hb => (hf b hb).1⟩⟩
  done := by
    intro X hP hw hK hc i pins s σ H E I hf st hg
    subst hP hw hK
    obtain ⟨xs, hq, hx⟩ := hg
    obtain ⟨its, rv, p, hz⟩ := I.tuple hq
    obtain ⟨f0, f1, f2, f3, f4, f5⟩ := hf it (by simp)
    have hl := rv.length
    exact wpAny_pyNext_tuple_end (I.ok.hd hc) st (show s.heap.IsTuple a its.toArray from p) (by simp; omega) fun h' eb => ⟨rfl, I.turned (t' := s.toks) (fun b o hb e => eb b o hb e) f0 f1 f3 f4 f5⟩
  self := fun _ _ _ _ _ st h => wpAny_pyIter_tupleiter st h
theorem turn_range {P : Program} {w : World} {K : PySem.W.Frag} {tg : Expr} (it : Addr) (lo : Int) (n : Nat) : Turn P w K tg (Itr lo n) [it] it (fun i h => IsRangeIter h it (lo + (i : Nat) * 1) ((n : Int) - (i : Nat)) 1) where
  mem := by simp
  obj := fun i h st b hb => by
    have e : b = it := by simpa using hb
    subst e
    exact ⟨_, st, fun v z => by
      have z' : Data.fields _ = Data.cell v := z
      cases z'⟩
  keep := fun i h h' st k => k it (by simp) _ st
  item := by
    intro X hP hw hK hc i pins s σ H E I hf st hg
    subst hP hw hK
    obtain ⟨f0, f1, f2, f3, f4, f5⟩ := hf it (by simp)
    have W := Walks.range (prog := X.prog) (w := X.w) (I.ok.hd hc) it lo 1 n
    refine W.item i s _ _ hg st fun v h' tk hv st' kk => ?_
    obtain ⟨t, rfl⟩ := hv
    have I1 : Inv X pins σ H { s with heap := h', toks := tk } := I.turned (fun b o hb e => kk b o (by simpa using hb) e) f0 f1 f3 f4 f5
    refine ⟨_, rfl, go_of (s := { s with heap := h', toks := tk }) (n := "range_iterator") st' rfl rfl (by decide) ⟨.int (lo + i), H, I1, ⟨t, ?_⟩, ⟨rfl, rfl⟩, st', fun b hb => (hf b hb).1⟩⟩
    rw [Int.mul_one]
  done := by
    intro X hP hw hK hc i pins s σ H E I hf st hg
    subst hP hw hK
    obtain ⟨f0, f1, f2, f3, f4, f5⟩ := hf it (by simp)
    exact wpAny_pyNext_range_end (I.ok.hd hc) st (by have : n ≤ i := hg; omega) fun h' eb => ⟨rfl, I.turned (t' := s.toks) (fun b o hb e => eb b o hb e) f0 f1 f3 f4 f5⟩
  self := fun _ _ _ _ _ st h => wpAny_pyIter_rangeiter st h
end L2

namespace L2
open PySem PySem.Spec PyProof.Rows
section
variable {X : Cx} {tg : Expr}
def iList (K : PySem.W.Frag) (tl : TE) : TI := fun σ H R => tl σ H fun x H1 => ∃ a, x = .ref a ∧ (∃ xs, SqL K H1 a xs) ∧ R (Itl K a) H1
def iTup (K : PySem.W.Frag) (tl : TE) : TI := fun σ H R => tl σ H fun x H1 => ∃ a, x = .ref a ∧ (∃ xs, SqT K H1 a xs) ∧ R (Itt K a) H1
theorem pi_list {l : Expr} {tl : TE} (hl : PE X l tl) : PI X tg l (iList X.K tl) := by
  intro pins s σ H R I h
  refine thn (hl pins s σ H _ I h) fun v s1 ⟨x, H1, I1, r1, q1⟩ => ?_
  obtain ⟨a, e, ⟨xs, hq⟩, q⟩ := q1
  subst e
  cases r1
  obtain ⟨its, rv, p, hz⟩ := I1.list hq
  refine wpAny_pyIter_list p.isList ?_
  refine ⟨s1.heap.objs.size, [s1.heap.objs.size], _, _, H1, rfl, I1.kept (t' := s1.toks) fun b o e => Heap.get?_push_of_some _ e, turn_list a _, ⟨_, Heap.get?_push_size _ rfl, rfl, rfl⟩, fun b hb => ?_, q⟩
  have e : b = s1.heap.objs.size := by simpa using hb
  subst e
  exact I1.fpOk (Nat.le_refl _) (I1.hok.fresh (Nat.le_refl _))
theorem pi_tup {l : Expr} {tl : TE} (hl : PE X l tl) : PI X tg l (iTup X.K tl) := by
  intro pins s σ H R I h
  refine thn (hl pins s σ H _ I h) fun v s1 ⟨x, H1, I1, r1, q1⟩ => ?_
  obtain ⟨a, e, ⟨xs, hq⟩, q⟩ := q1
  subst e
  cases r1
  obtain ⟨its, rv, p, hz⟩ := I1.tuple hq
  refine wpAny_pyIter_tuple (show s1.heap.IsTuple a its.toArray from p) ?_
  refine ⟨s1.heap.objs.size, [s1.heap.objs.size], _, _, H1, rfl, I1.kept (t' := s1.toks) fun b o e => Heap.get?_push_of_some _ e, turn_tuple a _, ⟨_, Heap.get?_push_size _ rfl, rfl, rfl⟩, fun b hb => ?_, q⟩
  have e : b = s1.heap.objs.size := by simpa using hb
  subst e
  exact I1.fpOk (Nat.le_refl _) (I1.hok.fresh (Nat.le_refl _))
/-- a range object just made, walked -/
theorem range_it {pins : List (Addr × Obj)} {σ : St} {H : Hp} {s : Shared} {R : It → Hp → Prop} {E : Value → Shared → Prop} {lo hi : Int} {t u v : Tok} {tk : Nat} (I : Inv X pins σ H s) (h1 : -(2 ^ 62) ≤ lo) (h2 : lo < 2 ^ 62) (h3 : -(2 ^ 62) ≤ hi) (h4 : hi < 2 ^ 62)
    (q : R (Itr lo (hi - lo).toNat) H) : wpAny (model X.prog X.w) X.A (pyIter (.ref s.heap.objs.size)) (PIE X pins σ tg R) E { s with heap := s.heap.push { cls := .type "range", data := .fields #[.int lo t, .int hi u, .int 1 v] }, toks := tk } := by
  refine wpAny_pyIter_range (IsRange.new ..) (small_one h1 h2 h3 h4) ?_
  have I1 : Inv X pins σ H { s with heap := s.heap.push { cls := .type "range", data := .fields #[.int lo t, .int hi u, .int 1 v] }, toks := tk } := I.kept fun b o e => Heap.get?_push_of_some _ e
  refine ⟨(s.heap.push { cls := .type "range", data := .fields #[.int lo t, .int hi u, .int 1 v] }).objs.size, [(s.heap.push { cls := .type "range", data := .fields #[.int lo t, .int hi u, .int 1 v] }).objs.size], _, _, H, rfl,
    I1.kept (t' := tk) fun b o e => Heap.get?_push_of_some _ e, turn_range _ lo (hi - lo).toNat, ?_, fun b hb => ?_, q⟩
  · have e1 : lo + ((0 : Nat) : Int) * 1 = lo := by simp
    have e2 : (((hi - lo).toNat : Nat) : Int) - ((0 : Nat) : Int) = Builtin.Range.rangeSize lo hi 1 := by rw [rangeSize_one]; split <;> omega
    show IsRangeIter _ _ (lo + ((0 : Nat) : Int) * 1) ((((hi - lo).toNat : Nat) : Int) - ((0 : Nat) : Int)) 1
    rw [e1, e2]
    exact Heap.get?_push_size _ rfl
  · have e : b = (s.heap.push { cls := .type "range", data := .fields #[.int lo t, .int hi u, .int 1 v] }).objs.size := by simpa using hb
    subst e
    exact I1.fpOk (Nat.le_refl _) (I1.hok.fresh (Nat.le_refl _))
def iRng1 (ta : TA) : TI := fun σ H R => ta σ H fun vs H1 => ∃ j : Int, vs = [.int j] ∧ -(2 ^ 62) ≤ j ∧ j < 2 ^ 62 ∧ R (Itr 0 j.toNat) H1
def iRng2 (ta : TA) : TI := fun σ H R => ta σ H fun vs H1 => ∃ i j : Int, vs = [.int i, .int j] ∧ (-(2 ^ 62) ≤ i ∧ i < 2 ^ 62 ∧ -(2 ^ 62) ≤ j ∧ j < 2 ^ 62) ∧ R (Itr i (j - i).toNat) H1
theorem pi_range1 {a : Expr} {ta : TA} {p pos : Pos} (hg : Gl X "range") (hm : X.mg "range" = none) (ha : PA X [a] ta) (hs : starEach [a] X.env = [(false, eval a X.env)] := by rfl) : PI X tg (.Call (.Name "range" p) [a] [] pos) (iRng1 ta) := by
  intro pins s σ H R I h
  refine Call_ (ld_blt I hg hm boot_range (PyProof.Rows.callWith_type1 (thn (ha pos pins s σ H _ I h) fun us s1 ⟨vs, H1, I1, r1, q1⟩ => ?_) hs rfl))
  obtain ⟨j, e, q1, q2, q⟩ := q1
  subst e
  cases r1 with
  | cons r rr =>
    cases rr
    obtain ⟨t, rfl⟩ := r
    exact call_range_1 (range_it I1 (by omega) (by omega) q1 q2 (by simpa using q))
theorem pi_range2 {a b : Expr} {ta : TA} {p pos : Pos} (hg : Gl X "range") (hm : X.mg "range" = none) (ha : PA X [a, b] ta) (hs : starEach [a, b] X.env = [(false, eval a X.env), (false, eval b X.env)] := by rfl) (hs2 : starEach [b] X.env = [(false, eval b X.env)] := by rfl) :
    PI X tg (.Call (.Name "range" p) [a, b] [] pos) (iRng2 ta) := by
  intro pins s σ H R I h
  refine Call_ (ld_blt I hg hm boot_range (PyProof.Rows.callWith_type1 (thn (ha pos pins s σ H _ I h) fun us s1 ⟨vs, H1, I1, r1, q1⟩ => ?_) (by rw [hs, hs2]) (by rw [hs2]; rfl)))
  obtain ⟨i, j, e, ⟨q1, q2, q3, q4⟩, q⟩ := q1
  subst e
  cases r1 with
  | cons r rr =>
    cases rr with
    | cons r' rr =>
      cases rr
      obtain ⟨t, rfl⟩ := r
      obtain ⟨t', rfl⟩ := r'
      exact call_range_2 (range_it I1 q1 q2 q3 q4 q)

/-! ### for -/
/-- W: the invariant by the turn and a measure; N: what the body is to reach -/
def tFor (wi : TI) (g : TG) (tb : TS) : TS := fun D σ H => wi σ H fun J H1 => ∃ W : Nat → Nat → St → Hp → Prop, (∃ m, W 0 m σ H1) ∧ ∀ i m σ H, W i m σ H →
  (J.stop i H ∧ D.nx σ H) ∨ (J.go i H ∧ ∃ N : St → Hp → Prop, (∀ σ' H', N σ' H' → ∃ m', m' < m ∧ W (i + 1) m' σ' H') ∧ ∀ x H', J.yld i H x H' → g x σ H' fun σ2 H2 => tb { D with nx := N, ct := N, bk := D.nx } σ2 H2)
/-- the records at fp as they stand -/
def pinsAt (fp : List Addr) (h : Heap) : List (Addr × Obj) := fp.filterMap fun b => (h.get? b).map fun o => (b, o)
theorem mem_pinsAt {fp : List Addr} {h : Heap} {b : Addr} {o : Obj} (hb : b ∈ fp) (e : h.get? b = some o) : (b, o) ∈ pinsAt fp h := List.mem_filterMap.mpr ⟨b, hb, by rw [e]; rfl⟩
theorem of_pinsAt {fp : List Addr} {h : Heap} {p : Addr × Obj} (hp : p ∈ pinsAt fp h) : p.1 ∈ fp ∧ h.get? p.1 = some p.2 := by
  obtain ⟨b, hb, e⟩ := List.mem_filterMap.mp hp
  cases q : h.get? b with
  | none => rw [q] at e; cases e
  | some o =>
    rw [q] at e
    have e' : (b, o) = p := Option.some.inj e
    subst e'
    exact ⟨hb, q⟩
theorem Inv.pinned {pins : List (Addr × Obj)} {σ : St} {H : Hp} {s : Shared} {fp : List Addr} (I : Inv X pins σ H s) (hf : ∀ b ∈ fp, FpOk X pins H b) (ho : ∀ b ∈ fp, ∃ o, s.heap.get? b = some o ∧ ∀ v, o.data ≠ .cell v) : Inv X (pins ++ pinsAt fp s.heap) σ H s :=
  I.pins_of fun p hp => (List.mem_append.mp hp).elim (fun z => I.pin p (List.mem_append_right _ z)) fun z => by
    obtain ⟨hb, e⟩ := of_pinsAt z
    obtain ⟨f0, f1, f2, _⟩ := hf p.1 hb
    obtain ⟨o, e', d⟩ := ho p.1 hb
    rw [e] at e'; cases e'
    exact ⟨e, f0, f1, f2, d⟩
theorem Inv.unpinned {pins pl : List (Addr × Obj)} {σ : St} {H : Hp} {s : Shared} (I : Inv X (pins ++ pl) σ H s) : Inv X pins σ H s := I.pins_of fun p hp => I.pin p (List.mem_append_right _ (List.mem_append_left _ hp))
theorem ps_for {iter : Expr} {body : List Stmt} {wi : TI} {g : TG} {tb : TS} {pos : Pos} (hp : PassesOwn (model X.prog X.w) X.A X.env X.xe) (hc : X.calm = true) (hi : PI X tg iter wi) (hg : PG X tg g) (hb : PSs X body tb)
    (hs : ∀ x, foldedSetIterable iter X.env x = pure x := by intro _; rfl) : PS X (.For tg iter body [] pos) (tFor wi g tb) := by
  intro pins s σ H D I h
  refine wpAny_For (thn (hi pins s σ H _ I h) fun v s1 h1 => thn h1 fun itv s2 h2 => ?_) hs
  obtain ⟨it, fp, tn, J, H2, e, I2, T, st2, f2, W, ⟨m0, w0⟩, turn⟩ := h2
  subst e
  -- what stays true of the iterator's objects through the loop
  have stat : ∀ {H' : Hp}, (∀ b ∈ fp, H' b = none) → ∀ b ∈ fp, FpOk X pins H' b := fun hn b hb => ⟨hn b hb, (f2 b hb).2⟩
  refine codeAny_forLoop_any (fun n s' => ∃ i σ' H', Inv X pins σ' H' s' ∧ tn i s'.heap ∧ (∀ b ∈ fp, H' b = none) ∧ W i n σ' H') ?_ m0 ⟨0, σ, H2, I2, st2, fun b hb => (f2 b hb).1, w0⟩
  rintro n s3 ⟨i, σ3, H3, I3, st3, fr3, w3⟩
  rcases turn i n σ3 H3 w3 with ⟨stop, qn⟩ | ⟨go, N, hN, step⟩
  · refine wpAny_passesOwn hp (thn (T.done X rfl rfl rfl hc i pins s3 σ3 H3 X.xe I3 (stat fr3) st3 stop) fun r s4 ⟨hr, I4⟩ => ?_)
    subst hr
    exact wpAny_execs_nil ⟨σ3, H3, I4, qn⟩
  · refine wpAny_passesOwn hp (thn (T.item X rfl rfl rfl hc i pins s3 σ3 H3 X.xe I3 (stat fr3) st3 go) fun r s4 ⟨u, hr, h4⟩ => ?_)
    subst hr
    refine wpAny_passesOwn hp (thn h4 fun _ s5 ⟨x, H5, I5, r5, y5, st5, fr5⟩ => ?_)
    have I5' := I5.pinned (stat fr5) (T.obj _ _ st5)
    refine wpAny_passesOwn hp (thn (hg _ s5 σ3 H5 x u _ I5' r5 (step x H5 y5)) fun _ s6 ⟨σ6, H6, I6, q6⟩ => ?_)
    refine wpAny_passesOwn hp (thn (hb _ s6 σ6 H6 _ I6 q6) fun f s7 q7 => ?_)
    have again : ∀ {σ7 : St} {H7 : Hp}, Inv X (pins ++ pinsAt fp s5.heap) σ7 H7 s7 → N σ7 H7 → ∃ m, m < n ∧ ∃ i σ' H', Inv X pins σ' H' s7 ∧ tn i s7.heap ∧ (∀ b ∈ fp, H' b = none) ∧ W i m σ' H' := fun {σ7 H7} I7 n7 => by
      obtain ⟨m', hm, w7⟩ := hN σ7 H7 n7
      refine ⟨m', hm, i + 1, σ7, H7, I7.unpinned, T.keep _ _ _ st5 fun b hb o e => (I7.pin (b, o) (List.mem_append_right _ (List.mem_append_right _ (mem_pinsAt hb e)))).1, fun b hb => ?_, w7⟩
      obtain ⟨o, e, d⟩ := T.obj _ _ st5 b hb
      exact (I7.pin (b, o) (List.mem_append_right _ (List.mem_append_right _ (mem_pinsAt hb e)))).2.1
    cases f with
    | next => obtain ⟨σ7, H7, I7, n7⟩ := q7; exact again I7 n7
    | cont => obtain ⟨σ7, H7, I7, n7⟩ := q7; exact again I7 n7
    | brk => obtain ⟨σ7, H7, I7, q7⟩ := q7; exact ⟨σ7, H7, I7.unpinned, q7⟩
    | ret v => obtain ⟨x7, σ7, H7, I7, r7, q7⟩ := q7; exact ⟨x7, σ7, H7, I7.unpinned, r7, q7⟩
end

/-! ### the forms one uses -/
/-- over a list that the body leaves as it is -/
theorem for_list {K : PySem.W.Frag} {a : Addr} {xs : List V} {g : TG} {tb : TS} {D : Ends} {σ : St} {H : Hp} (Pv : Nat → St → Hp → Prop) (h0 : Pv 0 σ H) (hl : ∀ i σ H, i ≤ xs.length → Pv i σ H → SqL K H a xs)
    (hs : ∀ i x σ H, xs[i]? = some x → Pv i σ H → g x σ H fun σ2 H2 => tb { D with nx := Pv (i + 1), ct := Pv (i + 1), bk := D.nx } σ2 H2) (hd : ∀ σ H, Pv xs.length σ H → D.nx σ H) :
    ∃ W : Nat → Nat → St → Hp → Prop, (∃ m, W 0 m σ H) ∧ ∀ i m σ H, W i m σ H →
      ((Itl K a).stop i H ∧ D.nx σ H) ∨ ((Itl K a).go i H ∧ ∃ N : St → Hp → Prop, (∀ σ' H', N σ' H' → ∃ m', m' < m ∧ W (i + 1) m' σ' H') ∧ ∀ x H', (Itl K a).yld i H x H' → g x σ H' fun σ2 H2 => tb { D with nx := N, ct := N, bk := D.nx } σ2 H2) := by
  refine ⟨fun i m σ H => m = xs.length - i ∧ i ≤ xs.length ∧ Pv i σ H, ⟨xs.length, by simp, Nat.zero_le _, h0⟩, ?_⟩
  rintro i m σ H ⟨rfl, hi, p⟩
  have q := hl i σ H hi p
  by_cases hlt : i < xs.length
  · refine .inr ⟨⟨xs, xs[i], q, by simp [hlt]⟩, Pv (i + 1), fun σ' H' p' => ⟨xs.length - (i + 1), by omega, rfl, hlt, p'⟩, fun x H' y => ?_⟩
    obtain ⟨e, y⟩ := y
    subst e
    exact hs i x σ _ (y xs q) p
  · have e : i = xs.length := by omega
    subst e
    exact .inl ⟨⟨xs, q, Nat.le_refl _⟩, hd σ H p⟩
theorem for_tup {K : PySem.W.Frag} {a : Addr} {xs : List V} {g : TG} {tb : TS} {D : Ends} {σ : St} {H : Hp} (Pv : Nat → St → Hp → Prop) (h0 : Pv 0 σ H) (hl : ∀ i σ H, i ≤ xs.length → Pv i σ H → SqT K H a xs)
    (hs : ∀ i x σ H, xs[i]? = some x → Pv i σ H → g x σ H fun σ2 H2 => tb { D with nx := Pv (i + 1), ct := Pv (i + 1), bk := D.nx } σ2 H2) (hd : ∀ σ H, Pv xs.length σ H → D.nx σ H) :
    ∃ W : Nat → Nat → St → Hp → Prop, (∃ m, W 0 m σ H) ∧ ∀ i m σ H, W i m σ H →
      ((Itt K a).stop i H ∧ D.nx σ H) ∨ ((Itt K a).go i H ∧ ∃ N : St → Hp → Prop, (∀ σ' H', N σ' H' → ∃ m', m' < m ∧ W (i + 1) m' σ' H') ∧ ∀ x H', (Itt K a).yld i H x H' → g x σ H' fun σ2 H2 => tb { D with nx := N, ct := N, bk := D.nx } σ2 H2) := by
  refine ⟨fun i m σ H => m = xs.length - i ∧ i ≤ xs.length ∧ Pv i σ H, ⟨xs.length, by simp, Nat.zero_le _, h0⟩, ?_⟩
  rintro i m σ H ⟨rfl, hi, p⟩
  have q := hl i σ H hi p
  by_cases hlt : i < xs.length
  · refine .inr ⟨⟨xs, xs[i], q, by simp [hlt]⟩, Pv (i + 1), fun σ' H' p' => ⟨xs.length - (i + 1), by omega, rfl, hlt, p'⟩, fun x H' y => ?_⟩
    obtain ⟨e, y⟩ := y
    subst e
    exact hs i x σ _ (y xs q) p
  · have e : i = xs.length := by omega
    subst e
    exact .inl ⟨⟨xs, q, Nat.le_refl _⟩, hd σ H p⟩
theorem for_range {lo : Int} {n : Nat} {g : TG} {tb : TS} {D : Ends} {σ : St} {H : Hp} (Pv : Nat → St → Hp → Prop) (h0 : Pv 0 σ H)
    (hs : ∀ i σ H, i < n → Pv i σ H → g (.int (lo + i)) σ H fun σ2 H2 => tb { D with nx := Pv (i + 1), ct := Pv (i + 1), bk := D.nx } σ2 H2) (hd : ∀ σ H, Pv n σ H → D.nx σ H) :
    ∃ W : Nat → Nat → St → Hp → Prop, (∃ m, W 0 m σ H) ∧ ∀ i m σ H, W i m σ H →
      ((Itr lo n).stop i H ∧ D.nx σ H) ∨ ((Itr lo n).go i H ∧ ∃ N : St → Hp → Prop, (∀ σ' H', N σ' H' → ∃ m', m' < m ∧ W (i + 1) m' σ' H') ∧ ∀ x H', (Itr lo n).yld i H x H' → g x σ H' fun σ2 H2 => tb { D with nx := N, ct := N, bk := D.nx } σ2 H2) := by
  refine ⟨fun i m σ H => m = n - i ∧ i ≤ n ∧ Pv i σ H, ⟨n, by simp, Nat.zero_le _, h0⟩, ?_⟩
  rintro i m σ H ⟨rfl, hi, p⟩
  by_cases hlt : i < n
  · refine .inr ⟨hlt, Pv (i + 1), fun σ' H' p' => ⟨n - (i + 1), by omega, rfl, hlt, p'⟩, fun x H' y => ?_⟩
    obtain ⟨e, y⟩ := y
    subst e y
    exact hs i σ _ hlt p
  · have e : i = n := by omega
    subst e
    exact .inl ⟨Nat.le_refl _, hd σ H p⟩
/-- while, by a word and a measure of the state -/
theorem while_by {c : TT} {tb : TS} {D : Ends} {σ : St} {H : Hp} (Pv : St → Hp → Prop) (μ : St → Hp → Nat) (h0 : Pv σ H)
    (hs : ∀ σ H, Pv σ H → c σ H fun b H1 => if b = true then tb { D with nx := fun σ' H' => Pv σ' H' ∧ μ σ' H' < μ σ H, ct := fun σ' H' => Pv σ' H' ∧ μ σ' H' < μ σ H, bk := D.nx } σ H1 else D.nx σ H1)
    (mono : ∀ σ H Q Q', (∀ b H1, Q b H1 → Q' b H1) → c σ H Q → c σ H Q') : tWhile c tb D σ H := by
  refine ⟨fun m σ H => m = μ σ H ∧ Pv σ H, ⟨_, rfl, h0⟩, ?_⟩
  rintro m σ H ⟨rfl, p⟩
  refine mono σ H _ _ (fun b H1 q => ?_) (hs σ H p)
  cases b with
  | true => exact ⟨_, fun σ' H' ⟨p', l⟩ => ⟨_, l, rfl, p'⟩, q⟩
  | false => exact q
end L2

namespace L2
open PySem PySem.Spec PyProof.Rows

abbrev R2 := V → V → Hp → VK → Prop
/-- a two-place operation on values: f is binaryOp op, inplaceOp op or compareOp op -/
def OpR (X : Cx) (f : Value → Value → Sem Value) (r : R2) : Prop :=
  ∀ (pins : List (Addr × Obj)) (s : Shared) (σ : St) (H : Hp) (x y : V) (v u : Value) (Q : VK), Inv X pins σ H s → RelV x v → RelV y u → r x y H Q →
    wpAny (model X.prog X.w) X.A (f v u) (EP X pins σ Q) X.xe s
/-- a one-place operation -/
def UnR (X : Cx) (f : Value → Sem Value) (r : V → Hp → VK → Prop) : Prop :=
  ∀ (pins : List (Addr × Obj)) (s : Shared) (σ : St) (H : Hp) (x : V) (v : Value) (Q : VK), Inv X pins σ H s → RelV x v → r x H Q →
    wpAny (model X.prog X.w) X.A (f v) (EP X pins σ Q) X.xe s
/-- a call of a value that is known (a builtin, a type) with values -/
def CallR (X : Cx) (f : Value) (r : List V → Hp → VK → Prop) : Prop :=
  ∀ (pins : List (Addr × Obj)) (s : Shared) (σ : St) (H : Hp) (xs : List V) (us : List Value) (Q : VK), Inv X pins σ H s → Vals xs us → r xs H Q →
    wpAny (model X.prog X.w) X.A (call f us) (EP X pins σ Q) X.xe s
/-- a value's truth -/
def TruR (X : Cx) (r : V → Hp → (Bool → Hp → Prop) → Prop) : Prop :=
  ∀ (pins : List (Addr × Obj)) (s : Shared) (σ : St) (H : Hp) (x : V) (v : Value) (Q : Bool → Hp → Prop), Inv X pins σ H s → RelV x v → r x H Q →
    wpAny (model X.prog X.w) X.A (truthy v) (TP X pins σ Q) X.xe s

def tOp (r : R2) (ta tb : TE) : TE := fun σ H Q => ta σ H fun x H1 => tb σ H1 fun y H2 => r x y H2 Q
def tUn (r : V → Hp → VK → Prop) (ta : TE) : TE := fun σ H Q => ta σ H fun x H1 => r x H1 Q
/-- ints in, under C, and a value out -/
def rI (C : Int → Int → Prop) (g : Int → Int → V) : R2 := fun x y H Q => ∃ i j, x = .int i ∧ y = .int j ∧ C i j ∧ Q (g i j) H
def rI0 (g : Int → Int → V) : R2 := fun x y H Q => ∃ i j, x = .int i ∧ y = .int j ∧ Q (g i j) H
def rU (g : Int → V) : V → Hp → VK → Prop := fun x H Q => ∃ i, x = .int i ∧ Q (g i) H

section
variable {X : Cx} {a b c : Expr} {ta tb tc : TE} {pos : Pos}

theorem binT (ha : PE X a ta) (hb : PE X b tb) {pins : List (Addr × Obj)} {s : Shared} {σ : St} {H : Hp} {R : V → V → Hp → Prop} (I : Inv X pins σ H s)
    (h : ta σ H fun x H1 => tb σ H1 fun y H2 => R x y H2) {Q : Value → Shared → Prop} {f : Value → Value → Sem Value}
    (hf : ∀ v u s2 x y H2, Inv X pins σ H2 s2 → RelV x v → RelV y u → R x y H2 → wpAny (model X.prog X.w) X.A (f v u) Q X.xe s2) :
    wpAny (model X.prog X.w) X.A (eval a X.env) (fun v s₁ => wpAny (model X.prog X.w) X.A (eval b X.env) (fun u s₂ => wpAny (model X.prog X.w) X.A (f v u) Q X.xe s₂) X.xe s₁) X.xe s := by
  refine thn (ha pins s σ H _ I h) fun v s1 ⟨x, H1, I1, r1, q1⟩ => ?_
  refine thn (hb pins s1 σ H1 _ I1 q1) fun u s2 ⟨y, H2, I2, r2, q2⟩ => ?_
  exact hf v u s2 x y H2 I2 r1 r2 q2

theorem pe_op {op : Operator} {r : R2} (ho : OpR X (binaryOp op) r) (ha : PE X a ta) (hb : PE X b tb) : PE X (.BinOp a op b pos) (tOp r ta tb) := by
  intro pins s σ H Q I h
  exact wpAny_BinOp (binT ha hb I h fun v u s2 x y H2 I2 rx ry q => ho pins s2 σ H2 x y v u Q I2 rx ry q)
theorem pe_un {op : UnaryOp} {r : V → Hp → VK → Prop} (ho : UnR X (unaryOp op) r) (ha : PE X a ta) : PE X (.UnaryOp op a pos) (tUn r ta) := by
  intro pins s σ H Q I h
  exact UnaryOp_ (thn (ha pins s σ H _ I h) fun v s1 ⟨x, H1, I1, r1, q1⟩ => ho pins s1 σ H1 x v Q I1 r1 q1)
/-- a op= e at a name: the name's slot i -/
theorem augR {op : Operator} {r : R2} (ho : OpR X (inplaceOp op) r) {pins : List (Addr × Obj)} {s : Shared} {σ : St} {H : Hp} {x y : V} {v u : Value} {Q : VK} (I : Inv X pins σ H s)
    (rx : RelV x v) (ry : RelV y u) (q : r x y H Q) : wpAny (model X.prog X.w) X.A (inplaceOp op v u) (EP X pins σ Q) X.xe s := ho pins s σ H x y v u Q I rx ry q

/-! ### ints -/
theorem opI {f : Value → Value → Sem Value} {C : Int → Int → Prop} {g : Int → Int → Int}
    (rule : ∀ (i j : Int) (t u : Tok) (s : Shared) (Q : Value → Shared → Prop) (E : Value → Shared → Prop), C i j → Q (.int (g i j) s.toks) { s with toks := s.toks + 1 } → wpAny (model X.prog X.w) X.A (f (.int i t) (.int j u)) Q E s) :
    OpR X f (rI C fun i j => .int (g i j)) := by
  intro pins s σ H x y v u Q I rx ry h
  obtain ⟨i, j, rfl, rfl, hc, q⟩ := h
  obtain ⟨t, rfl⟩ := rx
  obtain ⟨t', rfl⟩ := ry
  exact rule i j t t' s _ _ hc ⟨.int (g i j), H, I.tok _, ⟨_, rfl⟩, q⟩
theorem opI0 {f : Value → Value → Sem Value} {g : Int → Int → Int}
    (rule : ∀ (i j : Int) (t u : Tok) (s : Shared) (Q : Value → Shared → Prop) (E : Value → Shared → Prop), Q (.int (g i j) s.toks) { s with toks := s.toks + 1 } → wpAny (model X.prog X.w) X.A (f (.int i t) (.int j u)) Q E s) :
    OpR X f (rI0 fun i j => .int (g i j)) := by
  intro pins s σ H x y v u Q I rx ry h
  obtain ⟨i, j, rfl, rfl, q⟩ := h
  obtain ⟨t, rfl⟩ := rx
  obtain ⟨t', rfl⟩ := ry
  exact rule i j t t' s _ _ ⟨.int (g i j), H, I.tok _, ⟨_, rfl⟩, q⟩
theorem opB0 {f : Value → Value → Sem Value} {g : Int → Int → Bool}
    (rule : ∀ (i j : Int) (t u : Tok) (s : Shared) (Q : Value → Shared → Prop) (E : Value → Shared → Prop), Q (.bool (g i j)) s → wpAny (model X.prog X.w) X.A (f (.int i t) (.int j u)) Q E s) :
    OpR X f (rI0 fun i j => .bl (g i j)) := by
  intro pins s σ H x y v u Q I rx ry h
  obtain ⟨i, j, rfl, rfl, q⟩ := h
  obtain ⟨t, rfl⟩ := rx
  obtain ⟨t', rfl⟩ := ry
  exact rule i j t t' s _ _ ⟨.bl (g i j), H, I, rfl, q⟩

def CDiv (i j : Int) : Prop := 0 < j ∧ j < 1073741824
def CDivN (i j : Int) : Prop := j ≠ 0 ∧ j.natAbs < 1073741824
def CPow (i j : Int) : Prop := 0 ≤ j ∧ j ≤ 1000000 ∧ i.natAbs < 2 ^ 64
def CMul (i j : Int) : Prop := (-(2 ^ 64) < i ∧ i < 2 ^ 64) ∨ (-(2 ^ 64) < j ∧ j < 2 ^ 64)
theorem CMul.ok {i j : Int} (h : CMul i j) : IntMulOk i j := by
  rcases h with ⟨h1, h2⟩ | ⟨h1, h2⟩
  · exact .of_left (intBits_le_64 h1 h2)
  · exact .of_right (intBits_le_64 h1 h2)
theorem two_pow_nn (k : Nat) : (0 : Int) ≤ 2 ^ k := by
  rw [two_pow_cast]
  exact Int.natCast_nonneg _

theorem op_add : OpR X (binaryOp .Add) (rI0 fun i j => .int (i + j)) := opI0 fun _ _ _ _ _ _ _ q => add_int q
theorem op_sub : OpR X (binaryOp .Sub) (rI0 fun i j => .int (i - j)) := opI0 fun _ _ _ _ _ _ _ q => sub_int q
theorem op_mul : OpR X (binaryOp .Mult) (rI CMul fun i j => .int (i * j)) := opI fun _ _ _ _ _ _ _ hc q => mul_int q hc.ok
/-- // by a positive divisor -/
theorem op_fdiv : OpR X (binaryOp .FloorDiv) (rI CDiv fun i j => .int (i / j)) := opI fun i j _ _ _ _ _ hc q => by
  have h1 : (0 : Int) < j := hc.1
  have h2 : j < 1073741824 := hc.2
  exact floordiv_int (by omega) (by rw [Int.fdiv_eq_ediv_of_nonneg i (by omega)]; exact q) (.inl (PyProof.noPylong_small (by omega)))
theorem op_fdivN : OpR X (binaryOp .FloorDiv) (rI CDivN fun i j => .int (i.fdiv j)) := opI fun _ _ _ _ _ _ _ hc q => floordiv_int hc.1 q (.inl (PyProof.noPylong_small hc.2))
/-- % by a positive divisor of any size -/
theorem op_mod : OpR X (binaryOp .Mod) (rI (fun _ j => 0 < j) fun i j => .int (i % j)) := opI fun i j _ _ _ _ _ hc q => by
  have h1 : (0 : Int) < j := hc
  exact mod_int' (by omega) (by rw [Int.fmod_eq_emod_of_nonneg i (by omega)]; exact q)
theorem op_modN : OpR X (binaryOp .Mod) (rI (fun _ j => j ≠ 0) fun i j => .int (i.fmod j)) := opI fun _ _ _ _ _ _ _ hc q => mod_int' hc q
theorem op_pow : OpR X (binaryOp .Pow) (rI CPow fun i j => .int (i ^ j.toNat)) := opI fun _ _ _ _ _ _ _ hc q => pow_int_small hc.1 hc.2.1 hc.2.2 q
theorem op_shl : OpR X (binaryOp .LShift) (rI CPow fun i j => .int (i * 2 ^ j.toNat)) := opI fun _ _ _ _ _ _ _ hc q => lshift_int_small hc.1 hc.2.1 hc.2.2 q
theorem op_shr : OpR X (binaryOp .RShift) (rI (fun _ j => 0 ≤ j) fun i j => .int (i / 2 ^ j.toNat)) := opI fun i j _ _ _ _ _ hc q =>
  rshift_int hc (by rw [Int.fdiv_eq_ediv_of_nonneg i (two_pow_nn _)]; exact q)
theorem op_and : OpR X (binaryOp .BitAnd) (rI0 fun i j => .int (Builtin.bitAnd i j)) := opI0 fun _ _ _ _ _ _ _ q => and_int q
theorem op_or : OpR X (binaryOp .BitOr) (rI0 fun i j => .int (Builtin.bitOr i j)) := opI0 fun _ _ _ _ _ _ _ q => or_int q
theorem op_xor : OpR X (binaryOp .BitXor) (rI0 fun i j => .int (Builtin.bitXor i j)) := opI0 fun _ _ _ _ _ _ _ q => xor_int q

theorem iop_add : OpR X (inplaceOp .Add) (rI0 fun i j => .int (i + j)) := opI0 fun _ _ _ _ _ _ _ q => iadd_int q
theorem iop_sub : OpR X (inplaceOp .Sub) (rI0 fun i j => .int (i - j)) := opI0 fun _ _ _ _ _ _ _ q => isub_int q
theorem iop_mul : OpR X (inplaceOp .Mult) (rI CMul fun i j => .int (i * j)) := opI fun _ _ _ _ _ _ _ hc q => imul_int q hc.ok
theorem iop_fdiv : OpR X (inplaceOp .FloorDiv) (rI CDiv fun i j => .int (i / j)) := opI fun i j _ _ _ _ _ hc q => by
  have h1 : (0 : Int) < j := hc.1
  have h2 : j < 1073741824 := hc.2
  exact ifloordiv_int (by omega) (by rw [Int.fdiv_eq_ediv_of_nonneg i (by omega)]; exact q) (.inl (PyProof.noPylong_small (by omega)))
theorem iop_mod : OpR X (inplaceOp .Mod) (rI (fun _ j => 0 < j) fun i j => .int (i % j)) := opI fun i j _ _ _ _ _ hc q => by
  have h1 : (0 : Int) < j := hc
  exact imod_int (by omega) (by rw [Int.fmod_eq_emod_of_nonneg i (by omega)]; exact q)
theorem iop_shl : OpR X (inplaceOp .LShift) (rI CPow fun i j => .int (i * 2 ^ j.toNat)) := opI fun _ _ _ _ _ _ _ hc q => ilshift_int_small hc.1 hc.2.1 hc.2.2 q
theorem iop_shr : OpR X (inplaceOp .RShift) (rI (fun _ j => 0 ≤ j) fun i j => .int (i / 2 ^ j.toNat)) := opI fun i j _ _ _ _ _ hc q =>
  irshift_int hc (by rw [Int.fdiv_eq_ediv_of_nonneg i (two_pow_nn _)]; exact q)
theorem iop_and : OpR X (inplaceOp .BitAnd) (rI0 fun i j => .int (Builtin.bitAnd i j)) := opI0 fun _ _ _ _ _ _ _ q => iand_int q
theorem iop_or : OpR X (inplaceOp .BitOr) (rI0 fun i j => .int (Builtin.bitOr i j)) := opI0 fun _ _ _ _ _ _ _ q => ior_int q
theorem iop_xor : OpR X (inplaceOp .BitXor) (rI0 fun i j => .int (Builtin.bitXor i j)) := opI0 fun _ _ _ _ _ _ _ q => ixor_int q

theorem unI {f : Value → Sem Value} {g : Int → Int}
    (rule : ∀ (i : Int) (t : Tok) (s : Shared) (Q : Value → Shared → Prop) (E : Value → Shared → Prop), Q (.int (g i) s.toks) { s with toks := s.toks + 1 } → wpAny (model X.prog X.w) X.A (f (.int i t)) Q E s) :
    UnR X f (rU fun i => .int (g i)) := by
  intro pins s σ H x v Q I rx h
  obtain ⟨i, rfl, q⟩ := h
  obtain ⟨t, rfl⟩ := rx
  exact rule i t s _ _ ⟨.int (g i), H, I.tok _, ⟨_, rfl⟩, q⟩
theorem un_neg : UnR X (unaryOp .USub) (rU fun i => .int (-i)) := unI fun _ _ _ _ _ q => neg_int q
theorem un_inv : UnR X (unaryOp .Invert) (rU fun i => .int (Builtin.bitNot i)) := unI fun _ _ _ _ _ q => invert_int q

/-! ### bools among ints: n += (a < b) -/
theorem op_add_ib : OpR X (binaryOp .Add) (fun x y H Q => ∃ i k, x = .int i ∧ y = .bl k ∧ Q (.int (i + b2i k)) H) := by
  intro pins s σ H x y v u Q I rx ry h
  obtain ⟨i, k, rfl, rfl, q⟩ := h
  obtain ⟨t, rfl⟩ := rx
  cases ry
  exact add_int_bool ⟨.int (i + b2i k), H, I.tok _, ⟨_, rfl⟩, q⟩
end

/-! ### comparisons -/
/-- the scalars that == tells apart as data does -/
def scal : V → V → Bool
  | .non, .non => true | .non, .int _ => true | .int _, .non => true | .non, .bl _ => true | .bl _, .non => true | .non, .str _ => true | .str _, .non => true
  | .int _, .int _ => true | .bl _, .bl _ => true | .str _, .str _ => true | .byt _, .byt _ => true
  | .int _, .str _ => true | .str _, .int _ => true | .bl _, .str _ => true | .str _, .bl _ => true
  | _, _ => false
def rEq : R2 := fun x y H Q => scal x y = true ∧ Q (.bl (decide (x = y))) H
def rNe : R2 := fun x y H Q => scal x y = true ∧ Q (.bl (!decide (x = y))) H

theorem dec_int {i j : Int} : decide (V.int i = V.int j) = (i == j) := by
  rw [Bool.eq_iff_iff]
  simp
theorem dec_bl {i j : Bool} : decide (V.bl i = V.bl j) = (i == j) := by
  rw [Bool.eq_iff_iff]
  simp
theorem dec_str {i j : Str} : decide (V.str i = V.str j) = (i == j) := by
  rw [Bool.eq_iff_iff]
  simp
theorem dec_byt {i j : Array UInt8} : decide (V.byt i = V.byt j) = (i.toList == j.toList) := by
  rw [Bool.eq_iff_iff]
  cases i
  cases j
  simp

section
variable {X : Cx} {a b c : Expr} {ta tb tc : TE} {pos : Pos}
theorem fin_bl {pins : List (Addr × Obj)} {σ : St} {H : Hp} {s : Shared} {Q : VK} {k k' : Bool} (I : Inv X pins σ H s) (q : Q (.bl k) H) (e : k = k') : EP X pins σ Q (.bool k') s := by
  subst e
  exact ⟨.bl k, H, I, rfl, q⟩
theorem op_eq : OpR X (compareOp .Eq) rEq := by
  intro pins s σ H x y v u Q I rx ry h
  obtain ⟨hs, q⟩ := h
  cases x with
  | non =>
    cases rx
    cases y with
    | non => cases ry; exact PySem.EqNone.eq_none_none (fin_bl I q (by simp))
    | bl j => cases ry; exact PySem.EqNone.eq_none_bool (fin_bl I q (by simp))
    | int j => obtain ⟨t', rfl⟩ := ry; exact PySem.EqNone.eq_none_int (fin_bl I q (by simp))
    | str j => obtain ⟨t', rfl⟩ := ry; exact PySem.EqNone.eq_none_str (fin_bl I q (by simp))
    | _ => exact absurd (show false = true from hs) Bool.false_ne_true
  | bl i =>
    cases rx
    cases y with
    | non => cases ry; exact PySem.EqNone.eq_bool_none (fin_bl I q (by simp))
    | bl j => cases ry; exact eq_bool (fin_bl I q dec_bl)
    | str j => obtain ⟨t', rfl⟩ := ry; exact PySem.EqMixed.eq_bool_str (fin_bl I q (by simp))
    | _ => exact absurd (show false = true from hs) Bool.false_ne_true
  | int i =>
    obtain ⟨t, rfl⟩ := rx
    cases y with
    | non => cases ry; exact PySem.EqNone.eq_int_none (fin_bl I q (by simp))
    | int j => obtain ⟨t', rfl⟩ := ry; exact eq_int (fin_bl I q dec_int)
    | str j => obtain ⟨t', rfl⟩ := ry; exact PySem.EqMixed.eq_int_str (fin_bl I q (by simp))
    | _ => exact absurd (show false = true from hs) Bool.false_ne_true
  | str i =>
    obtain ⟨t, rfl⟩ := rx
    cases y with
    | non => cases ry; exact PySem.EqNone.eq_str_none (fin_bl I q (by simp))
    | bl j => cases ry; exact PySem.EqMixed.eq_str_bool (fin_bl I q (by simp))
    | int j => obtain ⟨t', rfl⟩ := ry; exact PySem.EqMixed.eq_str_int (fin_bl I q (by simp))
    | str j => obtain ⟨t', rfl⟩ := ry; exact eq_str (fin_bl I q dec_str)
    | _ => exact absurd (show false = true from hs) Bool.false_ne_true
  | byt i =>
    obtain ⟨t, rfl⟩ := rx
    cases y with
    | byt j => obtain ⟨t', rfl⟩ := ry; exact PySem.W.eq_bytes (fin_bl I q dec_byt)
    | _ => exact absurd (show false = true from hs) Bool.false_ne_true
  | _ => cases y <;> exact absurd (show false = true from hs) Bool.false_ne_true
theorem op_ne : OpR X (compareOp .NotEq) rNe := by
  intro pins s σ H x y v u Q I rx ry h
  obtain ⟨hs, q⟩ := h
  cases x with
  | non =>
    cases rx
    cases y with
    | non => cases ry; exact PySem.EqNone.ne_none_none (fin_bl I q (by simp))
    | bl j => cases ry; exact PySem.EqNone.ne_none_bool (fin_bl I q (by simp))
    | int j => obtain ⟨t', rfl⟩ := ry; exact PySem.EqNone.ne_none_int (fin_bl I q (by simp))
    | str j => obtain ⟨t', rfl⟩ := ry; exact PySem.EqNone.ne_none_str (fin_bl I q (by simp))
    | _ => exact absurd (show false = true from hs) Bool.false_ne_true
  | bl i =>
    cases rx
    cases y with
    | non => cases ry; exact PySem.EqNone.ne_bool_none (fin_bl I q (by simp))
    | bl j => cases ry; exact ne_bool (fin_bl I q (congrArg not dec_bl))
    | str j => obtain ⟨t', rfl⟩ := ry; exact PySem.EqMixed.ne_bool_str (fin_bl I q (by simp))
    | _ => exact absurd (show false = true from hs) Bool.false_ne_true
  | int i =>
    obtain ⟨t, rfl⟩ := rx
    cases y with
    | non => cases ry; exact PySem.EqNone.ne_int_none (fin_bl I q (by simp))
    | int j => obtain ⟨t', rfl⟩ := ry; exact ne_int (fin_bl I q (congrArg not dec_int))
    | str j => obtain ⟨t', rfl⟩ := ry; exact PySem.EqMixed.ne_int_str (fin_bl I q (by simp))
    | _ => exact absurd (show false = true from hs) Bool.false_ne_true
  | str i =>
    obtain ⟨t, rfl⟩ := rx
    cases y with
    | non => cases ry; exact PySem.EqNone.ne_str_none (fin_bl I q (by simp))
    | bl j => cases ry; exact PySem.EqMixed.ne_str_bool (fin_bl I q (by simp))
    | int j => obtain ⟨t', rfl⟩ := ry; exact PySem.EqMixed.ne_str_int (fin_bl I q (by simp))
    | str j => obtain ⟨t', rfl⟩ := ry; exact ne_str (fin_bl I q (congrArg not dec_str))
    | _ => exact absurd (show false = true from hs) Bool.false_ne_true
  | byt i =>
    obtain ⟨t, rfl⟩ := rx
    cases y with
    | byt j => obtain ⟨t', rfl⟩ := ry; exact PySem.W.ne_bytes (fin_bl I q (congrArg not dec_byt))
    | _ => exact absurd (show false = true from hs) Bool.false_ne_true
  | _ => cases y <;> exact absurd (show false = true from hs) Bool.false_ne_true

theorem op_lt : OpR X (compareOp .Lt) (rI0 fun i j => .bl (decide (i < j))) := opB0 fun _ _ _ _ _ _ _ q => lt_int q
theorem op_le : OpR X (compareOp .LtE) (rI0 fun i j => .bl (decide (i ≤ j))) := opB0 fun _ _ _ _ _ _ _ q => le_int q
theorem op_gt : OpR X (compareOp .Gt) (rI0 fun i j => .bl (decide (j < i))) := opB0 fun _ _ _ _ _ _ _ q => gt_int q
theorem op_ge : OpR X (compareOp .GtE) (rI0 fun i j => .bl (decide (j ≤ i))) := opB0 fun _ _ _ _ _ _ _ q => ge_int q
theorem op_lt_str : OpR X (compareOp .Lt) (fun x y H Q => ∃ i j, x = .str i ∧ y = .str j ∧ Q (.bl (decide (i.cps.toList < j.cps.toList))) H) := by
  intro pins s σ H x y v u Q I rx ry h
  obtain ⟨i, j, rfl, rfl, q⟩ := h
  obtain ⟨t, rfl⟩ := rx
  obtain ⟨t', rfl⟩ := ry
  exact lt_str (fin_bl I q rfl)
/-- the one string within the other -/
theorem op_in_str : OpR X (compareOp .In) (fun x y H Q => ∃ i j, x = .str i ∧ y = .str j ∧ Q (.bl (!(Builtin.Str.occurrences j i 0 j.length 1).isEmpty)) H) := by
  intro pins s σ H x y v u Q I rx ry h
  obtain ⟨i, j, rfl, rfl, q⟩ := h
  obtain ⟨t, rfl⟩ := rx
  obtain ⟨t', rfl⟩ := ry
  exact in_str (fin_bl I q rfl)

/-- is None, is not None: the right side a value none -/
theorem op_isN : OpR X (compareOp .Is) (fun x y H Q => y = .non ∧ Q (.bl (decide (x = .non))) H) := by
  intro pins s σ H x y v u Q I rx ry h
  obtain ⟨rfl, q⟩ := h
  cases ry
  refine is_none_gen (fin_bl I q ?_)
  cases x <;> first
    | (cases rx; rfl)
    | (obtain ⟨t, rfl⟩ := rx; rfl)
theorem op_notN : OpR X (compareOp .IsNot) (fun x y H Q => y = .non ∧ Q (.bl (!decide (x = .non))) H) := by
  intro pins s σ H x y v u Q I rx ry h
  obtain ⟨rfl, q⟩ := h
  cases ry
  refine isnot_none_gen (fin_bl I q ?_)
  cases x <;> first
    | (cases rx; rfl)
    | (obtain ⟨t, rfl⟩ := rx; rfl)

theorem op_notin_str : OpR X (compareOp .NotIn) (fun x y H Q => ∃ i j, x = .str i ∧ y = .str j ∧ Q (.bl (!(!(Builtin.Str.occurrences j i 0 j.length 1).isEmpty))) H) := by
  intro pins s σ H x y v u Q I rx ry h
  obtain ⟨i, j, rfl, rfl, q⟩ := h
  obtain ⟨t, rfl⟩ := rx
  obtain ⟨t', rfl⟩ := ry
  exact notIn_str (fin_bl I q rfl)
/-- is, is not of two objects that are tracked lists or instances -/
def isObj : HO → Bool
  | .lst _ => true
  | .ins _ _ _ => true
  | _ => false
theorem obj_there {pins : List (Addr × Obj)} {s : Shared} {σ : St} {H : Hp} {a : Addr} {o : HO} (I : Inv X pins σ H s) (h : H a = some o) (p : isObj o = true) : ∃ ob, s.heap.get? a = some ob ∧ ob.cls ≠ .type "tuple" := by
  cases o with
  | lst xs =>
    obtain ⟨_, its, n, _, e⟩ : xs.length ≤ sizeLine ∧ ∃ (its : List Value) (n : Nat), Vals xs its ∧ s.heap.get? a = some { cls := .type "list", data := .seq its.toArray n } := I.hok a _ h
    exact ⟨_, e, (by show Value.type "list" ≠ .type "tuple"; decide +kernel)⟩
  | ins C dx fs =>
    have x := I.hok a _ h
    obtain ⟨_, _, _, e, _⟩ := x
    exact ⟨_, e, (by show Value.ref C ≠ .type "tuple"; exact fun z => by cases z)⟩
  | _ => exact absurd (show false = true from p) Bool.false_ne_true
theorem op_is_ref : OpR X (compareOp .Is) (fun x y H Q => ∃ a b oa ob, x = .ref a ∧ y = .ref b ∧ H a = some oa ∧ isObj oa = true ∧ H b = some ob ∧ isObj ob = true ∧ Q (.bl (decide (a = b))) H) := by
  intro pins s σ H x y v u Q I rx ry h
  obtain ⟨a, b, oa, ob, rfl, rfl, ha, pa, hb, pb, q⟩ := h
  cases rx
  cases ry
  obtain ⟨o1, e1, n1⟩ := obj_there I ha pa
  obtain ⟨o2, e2, _⟩ := obj_there I hb pb
  by_cases z : a = b
  · subst z
    exact wpAny_is_ref_self (fin_bl I q (by simp))
  · exact wpAny_is_ref_other z e1 e2 n1 (fin_bl I q (by simp [z]))
theorem op_isnot_ref : OpR X (compareOp .IsNot) (fun x y H Q => ∃ a b oa ob, x = .ref a ∧ y = .ref b ∧ H a = some oa ∧ isObj oa = true ∧ H b = some ob ∧ isObj ob = true ∧ Q (.bl (!decide (a = b))) H) := by
  intro pins s σ H x y v u Q I rx ry h
  obtain ⟨a, b, oa, ob, rfl, rfl, ha, pa, hb, pb, q⟩ := h
  cases rx
  cases ry
  obtain ⟨o1, e1, n1⟩ := obj_there I ha pa
  obtain ⟨o2, e2, _⟩ := obj_there I hb pb
  by_cases z : a = b
  · subst z
    exact wpAny_isNot_ref_self (fin_bl I q (by simp))
  · exact wpAny_isNot_ref_other z e1 e2 n1 (fin_bl I q (by simp [z]))

/-- two rules for one operation: by cases -/
theorem OpR.or {f : Value → Value → Sem Value} {r r' : R2} (h : OpR X f r) (h' : OpR X f r') : OpR X f (fun x y H Q => r x y H Q ∨ r' x y H Q) := by
  intro pins s σ H x y v u Q I rx ry q
  rcases q with q | q
  · exact h pins s σ H x y v u Q I rx ry q
  · exact h' pins s σ H x y v u Q I rx ry q

theorem nomark (b : Expr) {op : CmpOp} (h : op ≠ .In := by decide) (h2 : op ≠ .NotIn := by decide) : behindInMarks op b = false := by
  have e1 : (op == CmpOp.In) = false := by cases op <;> first | rfl | exact absurd rfl h
  have e2 : (op == CmpOp.NotIn) = false := by cases op <;> first | rfl | exact absurd rfl h2
  cases b <;> simp [behindInMarks, e1, e2]
/-- a comparison as a value; hm: nomark b, or (for in, not in) by with_unfolding_all rfl -/
theorem pe_cmpR {op : CmpOp} {r : R2} (ho : OpR X (compareOp op) r) (ha : PE X a ta) (hb : PE X b tb) (hm : behindInMarks op b = false) : PE X (.Compare a [op] [b] pos) (tOp r ta tb) := by
  intro pins s σ H Q I h
  exact wpAny_Compare1 (binT ha hb I h fun v u s2 x y H2 I2 rx ry q => ho pins s2 σ H2 x y v u Q I2 rx ry q) hm
/-- a reading of a value as a test -/
def tTest (t : TE) : TT := fun σ H Q => t σ H fun x H' => ∃ k, x = .bl k ∧ Q k H'
theorem pt_cmpR {op : CmpOp} {r : R2} (ho : OpR X (compareOp op) r) (ha : PE X a ta) (hb : PE X b tb) (hm : behindInMarks op b = false) : PT X (.Compare a [op] [b] pos) (tTest (tOp r ta tb)) := by
  intro pins s σ H Q I h
  refine wpAny_isTrue_Compare1 (thn (ha pins s σ H _ I h) fun v s1 ⟨x, H1, I1, r1, q1⟩ => thn (hb pins s1 σ H1 _ I1 q1) fun u s2 ⟨y, H2, I2, r2, q2⟩ =>
    thn (ho pins s2 σ H2 x y v u _ I2 r1 r2 q2) fun c s3 ⟨z, H3, I3, r3, k, e, q3⟩ => ?_) hm
  subst e
  cases r3
  exact wpAny_truthy_bool ⟨H3, I3, q3⟩
/-- a op1 b op2 c -/
def tChain (r r' : R2) (ta tb tc : TE) : TE := fun σ H Q => ta σ H fun x H1 => tb σ H1 fun y H2 => r x y H2 fun z H3 => ∃ k, z = .bl k ∧
  (if k = true then tc σ H3 fun w' H4 => r' y w' H4 Q else Q (.bl false) H3)
theorem pe_chain {op op' : CmpOp} {r r' : R2} (ho : OpR X (compareOp op) r) (ho' : OpR X (compareOp op') r') (ha : PE X a ta) (hb : PE X b tb) (hc : PE X c tc)
    (hm : lastMarks [op, op'] [b, c] = false := by with_unfolding_all rfl) : PE X (.Compare a [op, op'] [b, c] pos) (tChain r r' ta tb tc) := by
  intro pins s σ H Q I h
  refine Compare_chain (thn (ha pins s σ H _ I h) fun v s1 ⟨x, H1, I1, r1, q1⟩ => chain_link (thn (hb pins s1 σ H1 _ I1 q1) fun u s2 ⟨y, H2, I2, r2, q2⟩ =>
    thn (ho pins s2 σ H2 x y v u _ I2 r1 r2 q2) fun d s3 ⟨z, H3, I3, r3, k, e, q3⟩ => ?_)) hm
  subst e
  cases r3
  refine wpAny_truthy_bool ?_
  cases k with
  | false => exact ite_ff ⟨.bl false, H3, I3, rfl, q3⟩
  | true => exact ite_tt (chain_last (thn (hc pins s3 σ H3 _ I3 q3) fun w' s4 ⟨z', H4, I4, r4, q4⟩ => ho' pins s4 σ H4 y z' u w' Q I4 r2 r4 q4))
theorem pt_chain {op op' : CmpOp} {r r' : R2} (ho : OpR X (compareOp op) r) (ho' : OpR X (compareOp op') r') (ha : PE X a ta) (hb : PE X b tb) (hc : PE X c tc)
    (hm : lastMarks [op, op'] [b, c] = false := by with_unfolding_all rfl) : PT X (.Compare a [op, op'] [b, c] pos) (tTest (tChain r r' ta tb tc)) := by
  intro pins s σ H Q I h
  refine isTrue_chain (thn (ha pins s σ H _ I h) fun v s1 ⟨x, H1, I1, r1, q1⟩ => test_link (thn (hb pins s1 σ H1 _ I1 q1) fun u s2 ⟨y, H2, I2, r2, q2⟩ =>
    thn (ho pins s2 σ H2 x y v u _ I2 r1 r2 q2) fun d s3 ⟨z, H3, I3, r3, k, e, q3⟩ => ?_)) hm
  subst e
  cases r3
  refine wpAny_truthy_bool ?_
  cases k with
  | false =>
    obtain ⟨k', e', q'⟩ := q3
    cases e'
    exact ite_ff ⟨H3, I3, q'⟩
  | true =>
    refine ite_tt (test_last (thn (hc pins s3 σ H3 _ I3 q3) fun w' s4 ⟨z', H4, I4, r4, q4⟩ => thn (ho' pins s4 σ H4 y z' u w' _ I4 r2 r4 q4) fun d' s5 ⟨z2, H5, I5, r5, k2, e2, q5⟩ => ?_))
    subst e2
    cases r5
    exact wpAny_truthy_bool ⟨H5, I5, q5⟩

/-! ### truth -/
/-- a value's truth by the abstract heap -/
def TruV (K : PySem.W.Frag) (x : V) (H : Hp) (k : Bool) : Prop :=
  match x with
  | .non => k = false
  | .bl b => k = b
  | .int i => k = (i != 0)
  | .str y => y.length ≤ sizeLine ∧ k = ((y.length : Int) != 0)
  | .byt y => y.size ≤ sizeLine ∧ k = ((y.size : Int) != 0)
  | .ref p => (∃ xs, SqL K H p xs ∧ k = !xs.isEmpty) ∨ (∃ xs, SqT K H p xs ∧ k = !xs.isEmpty) ∨ ∃ kvs, H p = some (.dK kvs) ∧ k = !kvs.isEmpty
  | _ => False
theorem isEmpty_kv {κ : Type} {kvs : List (κ × V)} {vs : List (κ × Value)} (r : KV kvs vs) : (!vs.isEmpty) = !kvs.isEmpty := by
  cases r <;> rfl
theorem isEmpty_of {xs : List V} {its : List Value} (r : Vals xs its) : (!its.toArray.isEmpty) = !xs.isEmpty := by
  cases r <;> simp
theorem line63 : (sizeLine : Nat) < 2 ^ 63 := by rw [sizeLine_eq]; decide
theorem tru_ok : TruR X (fun x H Q => ∃ k, TruV X.K x H k ∧ Q k H) := by
  intro pins s σ H x v Q I rx h
  obtain ⟨k, e, q⟩ := h
  have hl := line63
  have hs : sizeLine = 16777216 := sizeLine_eq
  cases x with
  | non =>
    cases rx
    have e' : k = false := e
    subst e'
    exact truthy_none ⟨H, I, q⟩
  | bl b =>
    cases rx
    have e' : k = b := e
    subst e'
    exact wpAny_truthy_bool ⟨H, I, q⟩
  | int i =>
    obtain ⟨t, rfl⟩ := rx
    have e' : k = (i != 0) := e
    subst e'
    exact PySem.P.truthy_int ⟨H, I, q⟩
  | str y =>
    obtain ⟨t, rfl⟩ := rx
    obtain ⟨hy, e'⟩ : y.length ≤ sizeLine ∧ k = ((y.length : Int) != 0) := e
    subst e'
    exact PySem.P.truthy_str (by omega) ⟨H, I.tok _, q⟩
  | byt y =>
    obtain ⟨t, rfl⟩ := rx
    obtain ⟨hy, e'⟩ : y.size ≤ sizeLine ∧ k = ((y.size : Int) != 0) := e
    subst e'
    exact PySem.W.truthy_bytes (by omega) ⟨H, I.tok _, q⟩
  | ref p =>
    cases rx
    have e' : (∃ xs, SqL X.K H p xs ∧ k = !xs.isEmpty) ∨ (∃ xs, SqT X.K H p xs ∧ k = !xs.isEmpty) ∨ ∃ kvs, H p = some (.dK kvs) ∧ k = !kvs.isEmpty := e
    rcases e' with ⟨xs, hx, e'⟩ | ⟨xs, hx, e'⟩ | ⟨kvs, hx, e'⟩
    · subst e'
      obtain ⟨its, r, pl, hz⟩ := I.list hx
      have hlen := r.length
      exact wpAny_truthy_list pl.isList (by simp only [List.size_toArray]; omega) ⟨H, I.tok _, by rw [isEmpty_of r]; exact q⟩
    · subst e'
      obtain ⟨its, r, pl, hz⟩ := I.tuple hx
      have hlen := r.length
      exact truthy_tuple pl (by simp only [List.size_toArray]; omega) ⟨H, I.tok _, by rw [isEmpty_of r]; exact q⟩
    · subst e'
      obtain ⟨hz, hS, vs, r, m⟩ : kvs.length ≤ sizeLine ∧ (p == sysModules) = false ∧ ∃ vs, KV kvs vs ∧ s.heap.DictOf (mixKind X.prog X.w) p vs := I.hok p _ hx
      have hlen : kvs.length = vs.length := Paired.length r
      exact wpAny_truthy_dict hS m (by omega) ⟨H, I.tok _, by rw [isEmpty_kv r]; exact q⟩
  | _ => exact (show False from e).elim
/-- any expression whose test is its value's truth (a name, a call, a subscript, a field ..: he by fun _ => rfl) -/
theorem pt_truth (ha : PE X a ta) (he : ∀ whole, isTrue a X.env whole = (do let v ← whole; standAt a.pos; holding [v] (truthy v))) :
    PT X a (fun σ H Q => ta σ H fun x H' => ∃ k, TruV X.K x H' k ∧ Q k H') := by
  intro pins s σ H Q I h
  exact isTrue_plain (thn (ha pins s σ H _ I h) fun v s1 ⟨x, H1, I1, r1, q1⟩ => tru_ok pins s1 σ H1 x v Q I1 r1 q1) (he _)

/-! ### strs and bytes -/
theorem pe_byt {x : List UInt8} {k : Nat} : PE X (.Constant (.bytes x) k pos) (fun _ H Q => Q (.byt x.toArray) H) := fun _ _ _ H _ I h => PySem.W.Constant_bytes ⟨.byt x.toArray, H, I.tok _, ⟨_, rfl⟩, h⟩
theorem op_add_str : OpR X (binaryOp .Add) (fun x y H Q => ∃ i j, x = .str i ∧ y = .str j ∧ i.length + j.length ≤ sizeLine ∧ Q (.str (i ++ j)) H) := by
  intro pins s σ H x y v u Q I rx ry h
  obtain ⟨i, j, rfl, rfl, hz, q⟩ := h
  obtain ⟨t, rfl⟩ := rx
  obtain ⟨t', rfl⟩ := ry
  exact add_str (fun t' tk => ⟨.str (i ++ j), H, I.tok _, ⟨_, rfl⟩, q⟩) hz
theorem iop_add_str : OpR X (inplaceOp .Add) (fun x y H Q => ∃ i j, x = .str i ∧ y = .str j ∧ i.length + j.length ≤ sizeLine ∧ Q (.str (i ++ j)) H) := by
  intro pins s σ H x y v u Q I rx ry h
  obtain ⟨i, j, rfl, rfl, hz, q⟩ := h
  obtain ⟨t, rfl⟩ := rx
  obtain ⟨t', rfl⟩ := ry
  exact iadd_str (fun t' tk => ⟨.str (i ++ j), H, I.tok _, ⟨_, rfl⟩, q⟩) hz
theorem op_add_byt : OpR X (binaryOp .Add) (fun x y H Q => ∃ i j, x = .byt i ∧ y = .byt j ∧ i.size + j.size ≤ 16777216 ∧ Q (.byt (i ++ j)) H) := by
  intro pins s σ H x y v u Q I rx ry h
  obtain ⟨i, j, rfl, rfl, hz, q⟩ := h
  obtain ⟨t, rfl⟩ := rx
  obtain ⟨t', rfl⟩ := ry
  exact PySem.W.KBy.add_bytes hz (fun t' tk => ⟨.byt (i ++ j), H, I.tok _, ⟨_, rfl⟩, q⟩)

def PlainIxT (b : Expr) : Prop := ∀ o i, subscripted b false o i = operate [o, i] (getItem o i)
/-- s[i], 0 ≤ i < len -/
theorem pe_item_str (ha : PE X a ta) (hb : PE X b tb) (hs : PlainIxT b) :
    PE X (.Subscript a b pos) (tOp (fun x y H Q => ∃ z i c, x = .str z ∧ y = .int i ∧ 0 ≤ i ∧ i < 2 ^ 63 ∧ i < z.length ∧ z.cps[i.toNat]? = some c ∧ Q (.str ⟨#[c]⟩) H) ta tb) := by
  intro pins s σ H Q I h
  refine Subscript_ (binT ha hb I h fun v u s2 x y H2 I2 rx ry q => ?_)
  obtain ⟨z, i, c, rfl, rfl, h0, h63, h1, hc, q⟩ := q
  obtain ⟨t, rfl⟩ := rx
  obtain ⟨t', rfl⟩ := ry
  have e : seqIndex? i z.length = some i.toNat := PySem.StrLaws.seqIndex_nonneg h0 h1
  exact tail_any (typeIs_str s2 z t) slot_str_getitem.lookup (getItem_str (c := c) (by
    have e1 : decide (i < -(2 ^ 63 : Int)) = false := decide_eq_false (by omega)
    have e2 : decide (i ≥ 2 ^ 63) = false := decide_eq_false (by omega)
    rw [e1, e2] <;> rfl) (by rw [e]; exact hc) ⟨.str ⟨#[c]⟩, H2, I2.tok _, ⟨_, rfl⟩, q⟩) (hs _ _)
/-- b[i], 0 ≤ i < len -/
theorem pe_item_byt (ha : PE X a ta) (hb : PE X b tb) (hs : PlainIxT b) :
    PE X (.Subscript a b pos) (tOp (fun x y H Q => ∃ (z : List UInt8) (i : Int), x = .byt z.toArray ∧ y = .int i ∧ z.length ≤ sizeLine ∧ 0 ≤ i ∧ i < z.length ∧ Q (.int ((z.getD i.toNat 0).toNat : Nat)) H) ta tb) := by
  intro pins s σ H Q I h
  refine Subscript_ (binT ha hb I h fun v u s2 x y H2 I2 rx ry q => ?_)
  obtain ⟨z, i, rfl, rfl, hz, h0, h1, q⟩ := q
  obtain ⟨t, rfl⟩ := rx
  obtain ⟨t', rfl⟩ := ry
  have hl : sizeLine = 16777216 := sizeLine_eq
  exact tail_any (PySem.W.typeIs_bytes s2 z.toArray t) PySem.W.FB.slot_bytes_getitem.lookup (PySem.W.getItem_bytes (by omega) h0 h1 ⟨.int ((z.getD i.toNat 0).toNat : Nat), H2, I2.tok _, ⟨_, rfl⟩, q⟩) (hs _ _)

/-! ### scalar builtins, by CallR -/
theorem vals1 {x : V} {us : List Value} (r : Vals [x] us) : ∃ u, us = [u] ∧ RelV x u := by
  cases r with
  | cons r1 r2 => cases r2; exact ⟨_, rfl, r1⟩
theorem vals2 {x y : V} {us : List Value} (r : Vals [x, y] us) : ∃ u w', us = [u, w'] ∧ RelV x u ∧ RelV y w' := by
  cases r with
  | cons r1 r2 =>
    cases r2 with
    | cons r3 r4 => cases r4; exact ⟨_, _, rfl, r1, r3⟩
theorem call_abs : CallR X (.builtin "abs") (fun xs H Q => ∃ i, xs = [.int i] ∧ Q (.int (if i < 0 then -i else i)) H) := by
  intro pins s σ H xs us Q I r h
  obtain ⟨i, rfl, q⟩ := h
  obtain ⟨u, rfl, t, rfl⟩ := vals1 r
  exact call_abs_int fun u tk => ⟨.int (if i < 0 then -i else i), H, I.tok _, ⟨_, rfl⟩, q⟩
theorem call_max2 (hc : X.calm = true) : CallR X (.builtin "max") (fun xs H Q => ∃ i j, xs = [.int i, .int j] ∧ Q (.int (if j > i then j else i)) H) := by
  intro pins s σ H xs us Q I r h
  obtain ⟨i, j, rfl, q⟩ := h
  obtain ⟨u, w', rfl, ⟨t, rfl⟩, ⟨t', rfl⟩⟩ := vals2 r
  refine max_two_ints (I.ok.hd hc) fun h' tk k => ⟨_, H, I.kept k, ?_, q⟩
  by_cases hj : j > i
  · rw [if_pos hj, if_pos hj]; exact ⟨_, rfl⟩
  · rw [if_neg hj, if_neg hj]; exact ⟨_, rfl⟩
theorem call_min2 (hc : X.calm = true) : CallR X (.builtin "min") (fun xs H Q => ∃ i j, xs = [.int i, .int j] ∧ Q (.int (if j < i then j else i)) H) := by
  intro pins s σ H xs us Q I r h
  obtain ⟨i, j, rfl, q⟩ := h
  obtain ⟨u, w', rfl, ⟨t, rfl⟩, ⟨t', rfl⟩⟩ := vals2 r
  refine min_two_ints (I.ok.hd hc) fun h' tk k => ⟨_, H, I.kept k, ?_, q⟩
  by_cases hj : j < i
  · rw [if_pos hj, if_pos hj]; exact ⟨_, rfl⟩
  · rw [if_neg hj, if_neg hj]; exact ⟨_, rfl⟩
theorem call_int1 : CallR X (.type "int") (fun xs H Q => (∃ i, xs = [.int i] ∧ Q (.int i) H) ∨ ∃ k, xs = [.bl k] ∧ Q (.int (if k then 1 else 0)) H) := by
  intro pins s σ H xs us Q I r h
  rcases h with ⟨i, rfl, q⟩ | ⟨k, rfl, q⟩
  · obtain ⟨u, rfl, t, rfl⟩ := vals1 r
    exact call_int_int ⟨.int i, H, I, ⟨_, rfl⟩, q⟩
  · obtain ⟨u, rfl, r1⟩ := vals1 r
    cases r1
    exact call_int_bool ⟨.int (if k then 1 else 0), H, I.tok _, ⟨_, rfl⟩, q⟩
theorem call_bool1 : CallR X (.type "bool") (fun xs H Q => (∃ i, xs = [.int i] ∧ Q (.bl (i != 0)) H) ∨ ∃ k, xs = [.bl k] ∧ Q (.bl k) H) := by
  intro pins s σ H xs us Q I r h
  rcases h with ⟨i, rfl, q⟩ | ⟨k, rfl, q⟩
  · obtain ⟨u, rfl, t, rfl⟩ := vals1 r
    exact call_bool_int ⟨.bl (i != 0), H, I, rfl, q⟩
  · obtain ⟨u, rfl, r1⟩ := vals1 r
    cases r1
    exact call_bool_bool ⟨.bl k, H, I, rfl, q⟩
theorem call_str_int : CallR X (.type "str") (fun xs H Q => ∃ i, xs = [.int i] ∧ i.natAbs.log2 < 1920 ∧ Q (.str (toString i)) H) := by
  intro pins s σ H xs us Q I r h
  obtain ⟨i, rfl, hz, q⟩ := h
  obtain ⟨u, rfl, t, rfl⟩ := vals1 r
  exact PySem.P.str_of_int hz ⟨.str _, H, I.tok _, ⟨_, rfl⟩, q⟩
theorem call_ord : CallR X (.builtin "ord") (fun xs H Q => ∃ x, xs = [.str x] ∧ x.length = 1 ∧ Q (.int (x.cps.getD 0 0 : Nat)) H) := by
  intro pins s σ H xs us Q I r h
  obtain ⟨x, rfl, hz, q⟩ := h
  obtain ⟨u, rfl, t, rfl⟩ := vals1 r
  exact ord_of_one hz ⟨.int _, H, I.tok _, ⟨_, rfl⟩, q⟩
theorem call_chr : CallR X (.builtin "chr") (fun xs H Q => ∃ i, xs = [.int i] ∧ 0 ≤ i ∧ i ≤ 1114111 ∧ Q (.str ⟨#[i.toNat]⟩) H) := by
  intro pins s σ H xs us Q I r h
  obtain ⟨i, rfl, h0, h1, q⟩ := h
  obtain ⟨u, rfl, t, rfl⟩ := vals1 r
  exact chr_of_range h0 h1 ⟨.str _, H, I.tok _, ⟨_, rfl⟩, q⟩
/-- len of a str, a bytes, a list, a tuple -/
def LenV (K : PySem.W.Frag) (x : V) (H : Hp) (n : Nat) : Prop :=
  match x with
  | .str y => y.length ≤ sizeLine ∧ n = y.length
  | .byt y => y.size ≤ sizeLine ∧ n = y.size
  | .ref p => (∃ xs, SqL K H p xs ∧ n = xs.length) ∨ ∃ xs, SqT K H p xs ∧ n = xs.length
  | _ => False
theorem call_len : CallR X (.builtin "len") (fun xs H Q => ∃ x n, xs = [x] ∧ LenV X.K x H n ∧ Q (.int n) H) := by
  intro pins s σ H xs us Q I r h
  obtain ⟨x, n, rfl, e, q⟩ := h
  obtain ⟨u, rfl, rx⟩ := vals1 r
  have hl := line63
  have hs : sizeLine = 16777216 := sizeLine_eq
  cases x with
  | str y =>
    obtain ⟨t, rfl⟩ := rx
    obtain ⟨hy, e'⟩ : y.length ≤ sizeLine ∧ n = y.length := e
    subst e'
    exact len_str (by omega) ⟨.int _, H, I.tok _, ⟨_, rfl⟩, q⟩
  | byt y =>
    obtain ⟨t, rfl⟩ := rx
    obtain ⟨hy, e'⟩ : y.size ≤ sizeLine ∧ n = y.size := e
    subst e'
    exact PySem.W.len_bytes (by omega) ⟨.int _, H, I.tok _, ⟨_, rfl⟩, q⟩
  | ref p =>
    cases rx
    have e' : (∃ xs, SqL X.K H p xs ∧ n = xs.length) ∨ ∃ xs, SqT X.K H p xs ∧ n = xs.length := e
    rcases e' with ⟨xs, hx, e'⟩ | ⟨xs, hx, e'⟩
    · subst e'
      obtain ⟨its, r', pl, hz⟩ := I.list hx
      have hlen := r'.length
      exact Calls.call_len_list pl.isList (by simp only [List.size_toArray]; omega) ⟨.int xs.length, H, I.tok _, ⟨_, by simp only [List.size_toArray]; rw [hlen]⟩, q⟩
    · subst e'
      obtain ⟨its, r', pl, hz⟩ := I.tuple hx
      have hlen := r'.length
      exact len_tuple pl (by simp only [List.size_toArray]; omega) ⟨.int xs.length, H, I.tok _, ⟨_, by simp only [List.size_toArray]; rw [hlen]⟩, q⟩
  | _ => exact (show False from e).elim
/-- divmod: a new tuple -/
theorem call_divmod : CallR X (.builtin "divmod") (fun xs H Q => ∃ i j, xs = [.int i, .int j] ∧ CDiv i j ∧ ∀ p, H p = none → Q (.ref p) (upd H p (.tup [.int (i / j), .int (i % j)]))) := by
  intro pins s σ H xs us Q I r h
  obtain ⟨i, j, rfl, ⟨h1, h2⟩, q⟩ := h
  obtain ⟨u, w', rfl, ⟨t, rfl⟩, ⟨t', rfl⟩⟩ := vals2 r
  refine divmod_int (by omega) ?_ (.inl (PyProof.noPylong_small (by omega)))
  rw [Int.fdiv_eq_ediv_of_nonneg i (by omega), Int.fmod_eq_emod_of_nonneg i (by omega)]
  have hn : H s.heap.objs.size = none := I.hok.fresh (Nat.le_refl _)
  refine ⟨.ref s.heap.objs.size, _, ?_, rfl, q _ hn⟩
  refine I.laid (fun b o e => Heap.get?_push_of_some _ e) (Nat.le_refl _) ⟨by simp only [List.length_cons, List.length_nil]; rw [sizeLine_eq]; decide, [.int (i / j) s.toks, .int (i % j) (s.toks + 1)], .cons ⟨_, rfl⟩ (.cons ⟨_, rfl⟩ .nil), ?_⟩
  exact ⟨_, Heap.get?_push_size s.heap rfl, rfl, 0, rfl⟩
end
end L2

namespace L2
open PySem PySem.Spec PyProof.Rows

/-! ### an instance, its attributes a map -/
structure ObjM (h : Heap) (x dx C : Addr) (mA : Str → Option Value) : Prop where
  obj : h.get? x = some (PySem.W.instObj C dx)
  ns : h.Ns1 dx mA
  ne : dx ≠ x

theorem lookIn_ns {h : Heap} {dx : Addr} {mA : Str → Option Value} (n : h.Ns1 dx mA) : ∃ od, h.get? dx = some od ∧ ∀ name, PySem.W.lookIn name od = some (mA name) := by
  obtain ⟨o, es, ep, ho, hd, hk, _, hm⟩ := n
  refine ⟨o, ho, fun name => ?_⟩
  have e := hm name
  unfold nsFind findBy at e
  rw [← Array.find?_toList] at e
  unfold PySem.W.lookIn
  rw [hd]
  dsimp only
  split
  · rename_i y q
    rw [q] at e
    exact congrArg some e
  · rename_i q
    rw [q] at e
    have a : es.toList.any (·.refKey) = false := by
      rw [List.any_eq_false]
      intro y hy
      obtain ⟨z, t, hkey⟩ := hk y (Array.mem_toList_iff.mp hy)
      simp [DictEntry.refKey, hkey]
    have a' : ¬ es.toList.any (·.refKey) = true := by rw [a]; exact Bool.false_ne_true
    rw [if_neg a']
    exact congrArg some e

theorem ObjM.look {h : Heap} {x dx C : Addr} {mA : Str → Option Value} (I : ObjM h x dx C mA) : ∃ od, PySem.W.InstAt h x (PySem.W.instObj C dx) C (some od) ∧ ∀ name, PySem.W.lookIn name od = some (mA name) :=
  let ⟨od, ho, hl⟩ := lookIn_ns I.ns
  ⟨od, ⟨I.obj, rfl, rfl, ho⟩, hl⟩

section
variable {prog : Program} {w : World} {A : Around} {E : Value → Shared → Prop} {s : Shared} {K : PySem.W.Frag} {x dx C f : Addr} {mA : Str → Option Value} {name : Str} {v : Value}

theorem get_map {expr : Bool} {Q : Value → Shared → Prop} (X : K.In s.heap) (I : ObjM s.heap x dx C mA) (hg : PySem.W.plainGet K C name = true) (hh : PySem.W.hasDictIn K C = true)
    (ha : PySem.W.findIn K (.ref C) name = some none) (hv : mA name = some v) (hv' : PySem.W.handedIn v = true) (h : Q v { s with toks := s.toks + 1 }) :
    wpAny (model prog w) A (getAttr (.ref x) name expr) Q E s := by
  obtain ⟨od, J, hl⟩ := I.look
  exact PySem.W.get_value X J (PySem.W.plainGet_of hg).1 (PySem.W.findObj_own hh ha rfl (by rw [hl, hv])) hv' h

theorem get_const {expr : Bool} {a : Value} {Q : Value → Shared → Prop} (X : K.In s.heap) (I : ObjM s.heap x dx C mA) (hg : PySem.W.plainGet K C name = true) (hh : PySem.W.hasDictIn K C = true)
    (ha : PySem.W.findIn K (.ref C) name = some (some a)) (hn : PySem.W.specialIn K a "__get__" = some none) (hc : PySem.W.copiedNames.contains name = false) (hv : mA name = none) (hv' : PySem.W.handedIn a = true)
    (h : Q a { s with toks := s.toks + 1 }) : wpAny (model prog w) A (getAttr (.ref x) name expr) Q E s := by
  obtain ⟨od, J, hl⟩ := I.look
  exact PySem.W.get_value X J (PySem.W.plainGet_of hg).1 (PySem.W.findObj_cls hh ha hn hv' hc (by rw [hl, hv])) hv' h

theorem get_meth {pl : Sem Bool} {Q : Value × List Value → Shared → Prop} (X : K.In s.heap) (I : ObjM s.heap x dx C mA) (hg : PySem.W.plainGet K C name = true)
    (hf : PySem.W.findIn K (.ref C) name = some (some (.ref f))) (ht : PySem.W.isFn K (.ref f) = true) (hv : mA name = none) (h : Q (.ref f, [.ref x]) s) :
    wpAny (model prog w) A (getMethod (.ref x) name pl) Q E s := by
  obtain ⟨od, J, hl⟩ := I.look
  exact PySem.W.method_fn X J (PySem.W.plainGet_of hg).1 (PySem.W.plainGet_of hg).2 hf (beq_iff_eq.mp ht) (by show (PySem.W.lookIn name od).map (·.isSome) = some false; rw [hl, hv]; rfl) h

theorem set_map {ns : List Str} {Q : Unit → Shared → Prop} (X : K.In s.heap) (I : ObjM s.heap x dx C mA)
    (hs : PySem.W.findIn K (.ref C) "__setattr__" = some (some (.builtin "object.__setattr__"))) (hp : PySem.W.plainOver K C = true) (ht : PySem.W.takerIn K C name = some none) (hh : PySem.W.hasDictIn K C = true)
    (hw : PySem.Within mA ns) (hsz : ns.length ≤ sizeLine)
    (h : ∀ h', ObjM h' x dx C (fun y => if y = name then some v else mA y) → Heap.SameBut dx s.heap h' → Q () { s with heap := h', toks := s.toks + 2 }) :
    wpAny (model prog w) A (setAttr (.ref x) name v) Q E s := by
  obtain ⟨od, J, hl⟩ := I.look
  refine PySem.W.set_plain X J hs (PySem.W.osa_open (s := { s with toks := s.toks + 1 }) (r := none) X J hp ht fun b => ?_)
  obtain ⟨cd, hc, hd'⟩ := PySem.W.any_some hh
  have hx : s.heap.get? x = some ⟨.ref C, some dx, .plain, #[]⟩ := I.obj
  refine wpAny_bind (wpAny_pure (wpAny_bind (wpAny_bind (wpAny_loadPart hx (wpAny_bind (PySem.W.Looks.here (s := { s with toks := s.toks + 1 }) (PySem.W.looks_clsIn X hc) ?_))))))
  rw [hd']
  refine wpAny_pure (a := some dx) (wpAny_bind (wpAny_pure (wpAny_bind ?_)))
  refine wpAny_nsSet1 (s := { s with toks := s.toks + 1 }) I.ns fun h' hn2 hs2 => ?_
  obtain ⟨oD, esD, epD, hoD, hdD, hcD⟩ := hn2.count (PySem.Within.cons name v hw)
  refine wpAny_bind (wpAny_lookBehind hoD (by rw [hdD]; exact pastItsLine_dict (Nat.le_trans hcD (by rw [List.length_cons]; omega))) ?_)
  exact wpAny_pure (h _ ⟨(hs2.2 _ (Ne.symm I.ne)).trans I.obj, hn2, I.ne⟩ hs2)

/-- C(..): the dict at the heap's end, the instance behind it; then its __init__ -/
theorem make_map {R : Result → Shared → Prop} {vs : List Value} {kw : List (Str × Value)} (X : K.In s.heap) (hm : PySem.W.makesIn K C = true)
    (hi : PySem.W.findIn K (.ref C) "__init__" = some (some (.ref f))) (hf : PySem.W.typeIn K (.ref f) = some (.type "function"))
    (h : codeAny (model prog w) (A.under (.builtin "type.__call__" ⟨.ref C :: vs, kw⟩)) (.call (.ref f) ⟨.ref (s.heap.objs.size + 1) :: vs, kw⟩) (PySem.W.InitBack (s.heap.objs.size + 1) R)
      { s with heap := (s.heap.push PySem.W.emptyDict).push (PySem.W.instObj C s.heap.objs.size) }) :
    codeAny (model prog w) A (.call (.ref C) ⟨vs, kw⟩) R s := by
  obtain ⟨hh, g, d, t, os⟩ := s
  exact PySem.W.make_core (PySem.W.makes_of X hm) (PySem.W.looks_findIn X hi) (fun self => PySem.W.bind_fn X self hf) (.inl rfl) h
/-- C() where there is no __init__ but object's -/
theorem make_map0 {R : Result → Shared → Prop} (X : K.In s.heap) (hm : PySem.W.makesIn K C = true)
    (hi : PySem.W.findIn K (.ref C) "__init__" = some (some (.builtin "object.__init__")))
    (hb : ∀ self, PySem.W.Looks (model prog w) s.heap (bindSpecial (.builtin "object.__init__") self) (.builtin "object.__init__", [self]))
    (h : codeAny (model prog w) (A.under (.builtin "type.__call__" ⟨[.ref C], []⟩)) (.call (.builtin "object.__init__") ⟨[.ref (s.heap.objs.size + 1)], []⟩) (PySem.W.InitBack (s.heap.objs.size + 1) R)
      { s with heap := (s.heap.push PySem.W.emptyDict).push (PySem.W.instObj C s.heap.objs.size) }) :
    codeAny (model prog w) A (.call (.ref C) ⟨[], []⟩) R s := by
  obtain ⟨hh, g, d, t, os⟩ := s
  exact PySem.W.make_core (PySem.W.makes_of X hm) (PySem.W.looks_findIn X hi) hb (.inr ⟨rfl, rfl⟩) h
end

/-! ### the attributes as a list of pairs -/
def putF (f : Str) (v : V) : List (Str × V) → List (Str × V)
  | [] => [(f, v)]
  | (g, x) :: r => if g = f then (g, v) :: r else (g, x) :: putF f v r
theorem lookup_putF (f g : Str) (v : V) : ∀ fs : List (Str × V), (putF f v fs).lookup g = if g = f then some v else fs.lookup g
  | [] => by
    show List.lookup g [(f, v)] = _
    by_cases h : g = f
    · have hb : (g == f) = true := beq_iff_eq.mpr h
      simp only [List.lookup, hb, if_pos h]
    · have hb : (g == f) = false := beq_eq_false_iff_ne.mpr h
      simp only [List.lookup, hb, if_neg h]
  | (k, x) :: r => by
    have ih := lookup_putF f g v r
    rw [show putF f v ((k, x) :: r) = (if k = f then (k, v) :: r else (k, x) :: putF f v r) from rfl]
    by_cases hk : k = f
    · rw [if_pos hk]
      by_cases h : g = k
      · have hb : (g == k) = true := beq_iff_eq.mpr h
        simp only [List.lookup, hb, if_pos (h.trans hk)]
      · have hb : (g == k) = false := beq_eq_false_iff_ne.mpr h
        simp only [List.lookup, hb, if_neg (fun e : g = f => h (e.trans hk.symm))]
    · rw [if_neg hk]
      by_cases h : g = k
      · have hb : (g == k) = true := beq_iff_eq.mpr h
        simp only [List.lookup, hb, if_neg (fun e : g = f => hk (h.symm.trans e))]
      · have hb : (g == k) = false := beq_eq_false_iff_ne.mpr h
        simp only [List.lookup, hb]
        exact ih
theorem keys_putF (f : Str) (v : V) : ∀ fs : List (Str × V), f ∈ (putF f v fs).map (·.1) ∧ ∀ g, g ∈ fs.map (·.1) → g ∈ (putF f v fs).map (·.1)
  | [] => ⟨by simp [putF], fun g h => by simp at h⟩
  | (k, x) :: r => by
    obtain ⟨i1, i2⟩ := keys_putF f v r
    rw [show putF f v ((k, x) :: r) = (if k = f then (k, v) :: r else (k, x) :: putF f v r) from rfl]
    by_cases hk : k = f
    · rw [if_pos hk]
      subst hk
      exact ⟨by simp, fun g h => by simpa using h⟩
    · rw [if_neg hk]
      refine ⟨?_, fun g h => ?_⟩
      · rw [List.map_cons]
        exact List.mem_cons_of_mem _ i1
      · rw [List.map_cons] at h ⊢
        rcases List.mem_cons.mp h with e | e
        · exact List.mem_cons.mpr (.inl e)
        · exact List.mem_cons_of_mem _ (i2 g e)
theorem length_putF (f : Str) (v : V) : ∀ fs : List (Str × V), (putF f v fs).length ≤ fs.length + 1
  | [] => by simp [putF]
  | (k, x) :: r => by
    have ih := length_putF f v r
    rw [show putF f v ((k, x) :: r) = (if k = f then (k, v) :: r else (k, x) :: putF f v r) from rfl]
    by_cases hk : k = f
    · rw [if_pos hk, List.length_cons, List.length_cons]; omega
    · rw [if_neg hk, List.length_cons, List.length_cons]; omega

theorem RelO.some_of {v : V} {o : Option Value} (r : RelO (some v) o) : ∃ u, o = some u ∧ RelV v u := by
  cases o with
  | none => exact (show False from r).elim
  | some u => exact ⟨u, rfl, r⟩
theorem RelO.none_of {o : Option Value} (r : RelO none o) : o = none := by
  cases o with
  | none => rfl
  | some u => exact (show False from r).elim
theorem handed_of {v : V} {u : Value} (r : RelV v u) : PySem.W.handedIn u = true := by
  cases v with
  | non => cases (show u = Value.none from r); rfl
  | bl b => cases (show u = Value.bool b from r); rfl
  | int i => obtain ⟨t, e⟩ := (show ∃ t, u = Value.int i t from r); cases e; rfl
  | str x => obtain ⟨t, e⟩ := (show ∃ t, u = Value.str x t from r); cases e; rfl
  | byt b => obtain ⟨t, e⟩ := (show ∃ t, u = Value.bytes b t from r); cases e; rfl
  | flt b => obtain ⟨t, e⟩ := (show ∃ t, u = Value.float b t from r); cases e; rfl
  | ref a => cases (show u = Value.ref a from r); rfl
  | ty n => cases (show u = Value.type n from r); rfl

section
variable {P : Program} {w : World} {H H' : Hp} {h h' : Heap} {a C dx : Addr} {fs fs' : List (Str × V)}
theorem ins_get (hok : HOk P w H h) (e : H a = some (.ins C dx fs)) : ∃ mA, ObjM h a dx C mA ∧ (∀ f, RelO (fs.lookup f) (mA f)) ∧ PySem.Within mA (fs.map (·.1)) ∧ fs.length ≤ 1000 ∧ H dx = some (.own a) := by
  obtain ⟨d, z, ne, ob, mA, n, r, q⟩ := (show ObjOk P w H h a (.ins C dx fs) from hok a _ e)
  exact ⟨mA, ⟨ob, n, ne⟩, r, q, z, d⟩
end

/-! ### what of the text a class must have -/
structure Cls (K : PySem.W.Frag) (C : Addr) : Prop where
  pg : PySem.W.plainGet K C Str.empty = true
  hd : PySem.W.hasDictIn K C = true
  po : PySem.W.plainOver K C = true
  sa : PySem.W.findIn K (.ref C) "__setattr__" = some (some (.builtin "object.__setattr__"))
theorem Cls.get {K : PySem.W.Frag} {C : Addr} (c : Cls K C) (f : Str) : PySem.W.plainGet K C f = true := c.pg
/-- no class of it has the name -/
def NoAttr (K : PySem.W.Frag) (C : Addr) (f : Str) : Prop := PySem.W.findIn K (.ref C) f = some none
theorem NoAttr.taker {K : PySem.W.Frag} {C : Addr} {f : Str} (n : NoAttr K C f) : PySem.W.takerIn K C f = some none := by
  unfold PySem.W.takerIn
  rw [show PySem.W.findIn K (.ref C) f = some none from n]
  rfl
/-- a constant of the class -/
structure Con (K : PySem.W.Frag) (C : Addr) (f : Str) (v : V) (u : Value) : Prop where
  at_ : PySem.W.findIn K (.ref C) f = some (some u)
  rel : RelV v u
  get : PySem.W.specialIn K u "__get__" = some none
  cp : PySem.W.copiedNames.contains f = false
/-- a method: a plain def of the class or of one above it -/
structure Meth (K : PySem.W.Frag) (C : Addr) (m : Str) (f : Addr) : Prop where
  at_ : PySem.W.findIn K (.ref C) m = some (some (.ref f))
  fn : PySem.W.isFn K (.ref f) = true
  kp : PySem.W.keepIn K (.ref f) = true

section
variable {X : Cx} {pins : List (Addr × Obj)} {σ : St} {H : Hp} {s : Shared} {a C dx : Addr} {fs : List (Str × V)} {f : Str} {v : V} {A : Around} {E : Value → Shared → Prop}

theorem getattr_ok {b : Bool} {Q : Value → Shared → Prop} (I : Inv X pins σ H s) (e : H a = some (.ins C dx fs)) (c : Cls X.K C) (n : NoAttr X.K C f) (l : fs.lookup f = some v)
    (h : ∀ u s', Inv X pins σ H s' → RelV v u → Q u s') : wpAny (model X.prog X.w) A (getAttr (.ref a) f b) Q E s := by
  obtain ⟨mA, O, r, _, _, _⟩ := ins_get I.hok e
  obtain ⟨u, hu, ru⟩ := RelO.some_of (v := v) (o := mA f) (by rw [← l]; exact r f)
  exact get_map I.kIn O (c.get f) c.hd n hu (handed_of ru) (h u _ (I.tok _) ru)

theorem getcon_ok {b : Bool} {u : Value} {Q : Value → Shared → Prop} (I : Inv X pins σ H s) (e : H a = some (.ins C dx fs)) (c : Cls X.K C) (k : Con X.K C f v u) (l : fs.lookup f = none)
    (h : ∀ s', Inv X pins σ H s' → Q u s') : wpAny (model X.prog X.w) A (getAttr (.ref a) f b) Q E s := by
  obtain ⟨mA, O, r, _, _, _⟩ := ins_get I.hok e
  have hn : mA f = none := RelO.none_of (by rw [← l]; exact r f)
  exact get_const I.kIn O (c.get f) c.hd k.at_ k.get k.cp hn (handed_of k.rel) (h _ (I.tok _))

theorem getmeth_ok {m : Str} {g : Addr} {pl : Sem Bool} {Q : Value × List Value → Shared → Prop} (I : Inv X pins σ H s) (e : H a = some (.ins C dx fs)) (c : Cls X.K C) (k : Meth X.K C m g) (l : fs.lookup m = none)
    (h : Q (.ref g, [.ref a]) s) : wpAny (model X.prog X.w) A (getMethod (.ref a) m pl) Q E s := by
  obtain ⟨mA, O, r, _, _, _⟩ := ins_get I.hok e
  have hn : mA m = none := RelO.none_of (by rw [← l]; exact r m)
  exact get_meth I.kIn O (c.get m) k.at_ k.fn hn h

theorem setattr_ok {y : V} {u : Value} {Q : Unit → Shared → Prop} (I : Inv X pins σ H s) (e : H a = some (.ins C dx fs)) (c : Cls X.K C) (n : NoAttr X.K C f) (hl : fs.length < 1000) (ry : RelV y u)
    (h : ∀ s', Inv X pins σ (upd H a (.ins C dx (putF f y fs))) s' → Q () s') : wpAny (model X.prog X.w) A (setAttr (.ref a) f u) Q E s := by
  obtain ⟨mA, O, r, wi, _, ho⟩ := ins_get I.hok e
  have hz : (fs.map (·.1)).length ≤ sizeLine := by rw [List.length_map, sizeLine_eq]; omega
  refine set_map I.kIn O c.sa c.po n.taker c.hd wi hz fun h' O' sb => h _ ?_
  have hd : ∃ o, h'.get? dx = some o := let ⟨o, _, _, e', _⟩ := O'.ns; ⟨o, e'⟩
  refine I.write (x := a) (e := dx) (by rw [e]; exact True.intro) (.inr ho) (fun b q hb z => (sb.2 b hb).trans z) hd ?_
  refine ⟨by rw [upd_ne O.ne]; exact ho, ?_, O.ne, O'.obj, _, O'.ns, fun g => ?_, fun g hg => ?_⟩
  · have := length_putF f y fs; omega
  · show RelO ((putF f y fs).lookup g) (if g = f then some u else mA g)
    rw [lookup_putF]
    by_cases q : g = f
    · rw [if_pos q, if_pos q]; exact ry
    · rw [if_neg q, if_neg q]; exact r g
  · by_cases q : g = f
    · rw [q]; exact (keys_putF f y fs).1
    · refine (keys_putF f y fs).2 g (wi g fun z => hg ?_)
      show (if g = f then some u else mA g) = none
      rw [if_neg q]; exact z

/-- a new instance, tracked, without attributes -/
theorem Inv.made (I : Inv X pins σ H s) : Inv X pins σ (upd (upd H s.heap.objs.size (.own (s.heap.objs.size + 1))) (s.heap.objs.size + 1) (.ins C s.heap.objs.size []))
    { s with heap := (s.heap.push PySem.W.emptyDict).push (PySem.W.instObj C s.heap.objs.size) } := by
  have e1 : (s.heap.push PySem.W.emptyDict).get? s.heap.objs.size = some PySem.W.emptyDict := Heap.get?_push_size s.heap rfl
  have e2 : ((s.heap.push PySem.W.emptyDict).push (PySem.W.instObj C s.heap.objs.size)).get? (s.heap.objs.size + 1) = some (PySem.W.instObj C s.heap.objs.size) := by
    have := Heap.get?_push_size (s.heap.push PySem.W.emptyDict) (o := PySem.W.instObj C s.heap.objs.size) rfl
    rwa [Heap.size_push] at this
  have e3 : (s.heap.push PySem.W.emptyDict).Ns s.heap.objs.size (fun _ => none) := ⟨PySem.W.emptyDict, #[], _, e1, rfl, (fun e he => absurd he (by simp)), fun _ => rfl⟩
  have I1 := I.laid (a := s.heap.objs.size) (o := .own (s.heap.objs.size + 1)) (h' := s.heap.push PySem.W.emptyDict) (t' := s.toks) (fun b u q => Heap.get?_push_of_some _ q) (Nat.le_refl _) ⟨_, e1⟩
  refine I1.laid (a := s.heap.objs.size + 1) (o := .ins C s.heap.objs.size []) (t' := s.toks) (fun b u q => Heap.get?_push_of_some _ q) (Nat.le_of_eq (Heap.size_push _ _)) ?_
  have ne : s.heap.objs.size ≠ s.heap.objs.size + 1 := Nat.ne_of_lt (Nat.lt_succ_self _)
  refine ⟨by rw [upd_ne ne, upd_same], Nat.zero_le _, ne, e2, fun _ => none, (Heap.Ns1.of_empty e3).at fun o q => Heap.get?_push_of_some _ q, fun _ => True.intro, fun y hy => absurd rfl hy⟩

/-- e.f where nothing but the object is asked: through attributeBase (super) and the last hold -/
theorem attr_of {prog : Program} {w : World} {env : Env} {e : Expr} {f : Str} {pos : Pos} {s : Shared} {Q : Value → Shared → Prop} (hb : attributeBase e f env (eval e env) = eval e env)
    (h : wpAny (model prog w) A (eval e env) (fun o s₁ => wpAny (model prog w) A (getAttr o f true) Q E s₁) E s) : wpAny (model prog w) A (eval (.Attribute e f pos) env) Q E s :=
  Attribute_any_ h (by rw [arm_eval_Attribute, hb])
end

/-! ### readings and rules -/
/-- e.f, an attribute of the instance -/
def tFld (K : PySem.W.Frag) (ta : TE) (f : Str) : TE := fun σ H Q => ta σ H fun x H1 => ∃ a C dx fs v, x = .ref a ∧ H1 a = some (.ins C dx fs) ∧ Cls K C ∧ NoAttr K C f ∧ fs.lookup f = some v ∧ Q v H1
/-- e.f, a constant of the class -/
def tCon (K : PySem.W.Frag) (ta : TE) (f : Str) : TE := fun σ H Q => ta σ H fun x H1 => ∃ a C dx fs v u, x = .ref a ∧ H1 a = some (.ins C dx fs) ∧ Cls K C ∧ Con K C f v u ∧ fs.lookup f = none ∧ Q v H1
/-- e.f = value -/
def sFld (K : PySem.W.Frag) (ta tv : TE) (f : Str) : TS := fun D σ H => tv σ H fun y H1 => ta σ H1 fun x H2 => ∃ a C dx fs, x = .ref a ∧ H2 a = some (.ins C dx fs) ∧ Cls K C ∧ NoAttr K C f ∧ fs.length < 1000 ∧
  D.nx σ (upd H2 a (.ins C dx (putF f y fs)))
/-- an augmented operator on two values -/
def InOp (X : Cx) (op : Operator) (rd : V → V → Hp → VK → Prop) : Prop :=
  ∀ (pins : List (Addr × Obj)) (s : Shared) (σ : St) (H : Hp) (x y : V) (u v : Value) (Q : VK), Inv X pins σ H s → RelV x u → RelV y v → rd x y H Q → wpAny (model X.prog X.w) X.A (inplaceOp op u v) (EP X pins σ Q) X.xe s
/-- e.f op= value -/
def sFldAug (K : PySem.W.Frag) (ta tv : TE) (rd : V → V → Hp → VK → Prop) (f : Str) : TS := fun D σ H => ta σ H fun x H1 => ∃ a C dx fs v, x = .ref a ∧ H1 a = some (.ins C dx fs) ∧ Cls K C ∧ NoAttr K C f ∧ fs.lookup f = some v ∧
  tv σ H1 fun y H2 => rd v y H2 fun z H3 => ∃ dx' fs', H3 a = some (.ins C dx' fs') ∧ fs'.length < 1000 ∧ D.nx σ (upd H3 a (.ins C dx' (putF f z fs')))

section
variable {X : Cx} {o e value : Expr} {f : Str} {pos pos' tpos : Pos} {ta tv : TE}
theorem pe_fld (he : PE X e ta) (hb : attributeBase e f X.env (eval e X.env) = eval e X.env) : PE X (.Attribute e f pos) (tFld X.K ta f) := by
  intro pins s σ H Q I h
  refine attr_of hb (thn (he pins s σ H _ I h) fun u s1 ⟨x, H1, I1, rx, a, C, dx, fs, v, ex, ea, c, n, l, q⟩ => ?_)
  subst ex
  obtain rfl : u = Value.ref a := rx
  exact getattr_ok I1 ea c n l fun u' s2 I2 ru => ⟨v, H1, I2, ru, q⟩
theorem pe_con (he : PE X e ta) (hb : attributeBase e f X.env (eval e X.env) = eval e X.env) : PE X (.Attribute e f pos) (tCon X.K ta f) := by
  intro pins s σ H Q I h
  refine attr_of hb (thn (he pins s σ H _ I h) fun u s1 ⟨x, H1, I1, rx, a, C, dx, fs, v, u0, ex, ea, c, k, l, q⟩ => ?_)
  subst ex
  obtain rfl : u = Value.ref a := rx
  exact getcon_ok I1 ea c k l fun s2 I2 => ⟨v, H1, I2, k.rel, q⟩
theorem ps_fld (ha : PE X o ta) (hv : PE X value tv) (hs : swapsWith value (some (.Attribute o f pos')) pos.line X.env = pure false) : PS X (.Assign [.Attribute o f pos'] value pos) (sFld X.K ta tv f) := by
  intro pins s σ H D I h
  refine plainObj_wpAny_Assign_Attribute (thn (hv pins s σ H _ I h) fun u s1 ⟨y, H1, I1, ry, q⟩ => thn (ha pins s1 σ H1 _ I1 q) fun ov s2 ⟨x, H2, I2, rx, a, C, dx, fs, ex, ea, c, n, l, q2⟩ => ?_) hs
  subst ex
  obtain rfl : ov = Value.ref a := rx
  exact setattr_ok I2 ea c n l ry fun s3 I3 => ⟨σ, _, I3, q2⟩
theorem ps_fldaug {op : Operator} {rd : V → V → Hp → VK → Prop} (ha : PE X o ta) (hv : PE X value tv) (hop : InOp X op rd) : PS X (.AugAssign (.Attribute o f tpos) op value pos) (sFldAug X.K ta tv rd f) := by
  intro pins s σ H D I h
  refine wpAny_AugAssign_AttributeAny (thn (ha pins s σ H _ I h) fun ov s1 ⟨x, H1, I1, rx, a, C, dx, fs, v, ex, ea, c, n, l, q⟩ => ?_)
  subst ex
  obtain rfl : ov = Value.ref a := rx
  refine getattr_ok I1 ea c n l fun u s2 I2 ru => thn (hv pins s2 σ H1 _ I2 q) fun w3 s3 ⟨y, H2, I3, ry, q3⟩ => thn (hop pins s3 σ H2 v y u w3 _ I3 ru ry q3) fun w4 s4 ⟨z, H3, I4, rz, dx', fs', ea', l', q4⟩ => ?_
  exact setattr_ok I4 ea' c n l' rz fun s5 I5 => ⟨σ, _, I5, q4⟩
def rAdd : V → V → Hp → VK → Prop := fun x y H Q => ∃ i j, x = .int i ∧ y = .int j ∧ Q (.int (i + j)) H
def rSub : V → V → Hp → VK → Prop := fun x y H Q => ∃ i j, x = .int i ∧ y = .int j ∧ Q (.int (i - j)) H
theorem in_add : InOp X .Add rAdd := by
  rintro pins s σ H x y u v Q I rx ry ⟨i, j, rfl, rfl, q⟩
  obtain ⟨t, rfl⟩ := (show ∃ t, u = Value.int i t from rx)
  obtain ⟨t', rfl⟩ := (show ∃ t', v = Value.int j t' from ry)
  exact PyProof.Rows.iadd_int ⟨.int (i + j), H, I.tok _, ⟨_, rfl⟩, q⟩
theorem in_sub : InOp X .Sub rSub := by
  rintro pins s σ H x y u v Q I rx ry ⟨i, j, rfl, rfl, q⟩
  obtain ⟨t, rfl⟩ := (show ∃ t, u = Value.int i t from rx)
  obtain ⟨t', rfl⟩ := (show ∃ t', v = Value.int j t' from ry)
  exact PyProof.Rows.isub_int ⟨.int (i - j), H, I.tok _, ⟨_, rfl⟩, q⟩

/-- what is between an instance and its method: the tree of a method call -/
theorem methcall_of {pl : Sem Bool} {m : Str} {apos : Pos} {args : List Expr} {pins : List (Addr × Obj)} {s : Shared} {σ : St} {H : Hp} {Q : Value → Shared → Prop} {te : TE} (he : PE X e te) (I : Inv X pins σ H s)
    (h : te σ H fun x H1 => ∃ a C dx fs g, x = .ref a ∧ H1 a = some (.ins C dx fs) ∧ Cls X.K C ∧ Meth X.K C m g ∧ fs.lookup m = none ∧
      ∀ s1, Inv X pins σ H1 s1 → wpAny (model X.prog X.w) X.A (callWith pos (.ref g) [.ref a] (backTo pos (starEach args X.env)) (backToKw pos (keywordEach [] X.env))) Q X.xe s1)
    (ht : eval (.Call (.Attribute e m apos) args [] pos) X.env = (do
      let ov ← eval e X.env
      standAt apos.atName
      let (f, first) ← holding [ov] (getMethod ov m pl)
      callWith pos f first (backTo pos (starEach args X.env)) (backToKw pos (keywordEach [] X.env)))) :
    wpAny (model X.prog X.w) X.A (eval (.Call (.Attribute e m apos) args [] pos) X.env) Q X.xe s := by
  refine PySem.W.methodCall_KW (pl := pl) (thn (he pins s σ H _ I h) fun u s1 ⟨x, H1, I1, rx, a, C, dx, fs, g, ex, ea, c, k, l, q⟩ => ?_) ht
  subst ex
  obtain rfl : u = Value.ref a := rx
  exact getmeth_ok I1 ea c k l (q s1 I1)
end

/-! ### isinstance -/
section
variable {X : Cx} {pins : List (Addr × Obj)} {σ : St} {H : Hp} {s : Shared} {A : Around} {E : Value → Shared → Prop} {Q : Value → Shared → Prop} {c : Value} {b : Bool}
/-- the type of a value, as the fragment's deciders take it; for an instance its class -/
inductive TyOf (K : PySem.W.Frag) (H : Hp) : V → Value → Prop where
  | non : TyOf K H .non (.type "NoneType")
  | bl (x : Bool) : TyOf K H (.bl x) (.type "bool")
  | int (i : Int) : TyOf K H (.int i) (.type "int")
  | str (x : Str) : TyOf K H (.str x) (.type "str")
  | flt (x : UInt64) : TyOf K H (.flt x) (.type "float")
  | lst {a : Addr} {xs : List V} (e : H a = some (.lst xs)) : TyOf K H (.ref a) (.type "list")
  | frz {a : Addr} {o : Obj} {xs : List V} (e : H a = some (.frz o (.lst xs))) : TyOf K H (.ref a) (.type "list")
  | tup {a : Addr} {xs : List V} (e : H a = some (.tup xs)) : TyOf K H (.ref a) (.type "tuple")
  | dK {a : Addr} {kvs : List (Key × V)} (e : H a = some (.dK kvs)) : TyOf K H (.ref a) (.type "dict")
  | dT {a : Addr} {kvs : List (List Key × V)} (e : H a = some (.dT kvs)) : TyOf K H (.ref a) (.type "dict")
  | ins {a C dx : Addr} {fs : List (Str × V)} (e : H a = some (.ins C dx fs)) (cl : Cls K C) (ha : PySem.W.findIn K (.ref C) "__class__" = some (some (.builtin "object.__class__")))
      (hn : PySem.W.specialIn K (.builtin "object.__class__") "__get__" = some (some (.builtin "getset_descriptor.__get__"))) (htk : PySem.W.takesIn K (.builtin "object.__class__") = some true)
      (hm : PySem.W.mroIn K C (.type "object") = some true) : TyOf K H (.ref a) (.ref C)
/-- isinstance(x, c) for one class c, a built-in or an own one: kitOne's answer -/
theorem isinst_ok {x : V} {u t : Value} (I : Inv X pins σ H s) (rx : RelV x u) (ty : TyOf X.K H x t) (e : PySem.W.kitOne X.K t c = some b) (h : ∀ tk, Q (.bool b) { s with toks := tk }) :
    wpAny (model X.prog X.w) A (call (.builtin "isinstance") [u, c]) Q E s := by
  cases ty with
  | non => cases (show u = Value.none from rx); exact PySem.W.kia_one PySem.W.kitx_none I.kIn True.intro e (fun z => nomatch z) h
  | bl y => cases (show u = Value.bool y from rx); exact PySem.W.kia_one PySem.W.kitx_bool I.kIn True.intro e (fun z => nomatch z) h
  | int i => obtain ⟨t, q⟩ := (show ∃ t, u = Value.int i t from rx); cases q; exact PySem.W.kia_one PySem.W.kitx_int I.kIn True.intro e (fun z => nomatch z) h
  | str y => obtain ⟨t, q⟩ := (show ∃ t, u = Value.str y t from rx); cases q; exact PySem.W.kia_one PySem.W.kitx_str I.kIn True.intro e (fun z => nomatch z) h
  | flt y => obtain ⟨t, q⟩ := (show ∃ t, u = Value.float y t from rx); cases q; exact PySem.W.kia_one PySem.W.kitx_float I.kIn True.intro e (fun z => nomatch z) h
  | @lst a xs ea =>
    cases (show u = Value.ref a from rx)
    obtain ⟨_, _, n, _, h1⟩ := (show ObjOk X.prog X.w H s.heap a (.lst xs) from I.hok a _ ea)
    exact PySem.W.kia_one PySem.W.kitx_list I.kIn ⟨_, h1, rfl⟩ e (fun z => nomatch z) h
  | @frz a ob xs ea =>
    cases (show u = Value.ref a from rx)
    obtain ⟨_, _, _, n, _, h1⟩ := (show ObjOk X.prog X.w H s.heap a (.frz ob (.lst xs)) from I.hok a _ ea)
    exact PySem.W.kia_one PySem.W.kitx_list I.kIn ⟨_, h1, rfl⟩ e (fun z => nomatch z) h
  | @tup a xs ea =>
    cases (show u = Value.ref a from rx)
    obtain ⟨_, _, _, p⟩ := (show ObjOk X.prog X.w H s.heap a (.tup xs) from I.hok a _ ea)
    obtain ⟨o, h1, h2, _⟩ := p
    exact PySem.W.kia_one PySem.W.kitx_tuple I.kIn ⟨o, h1, h2⟩ e (fun z => nomatch z) h
  | @dK a kvs ea =>
    cases (show u = Value.ref a from rx)
    obtain ⟨_, _, vs, _, p⟩ := (show ObjOk X.prog X.w H s.heap a (.dK kvs) from I.hok a _ ea)
    obtain ⟨o, es, ep, h1, h2, _⟩ := p
    exact PySem.W.kia_one PySem.W.kitx_dict I.kIn ⟨o, h1, h2.1⟩ e (fun z => nomatch z) h
  | @dT a kvs ea =>
    cases (show u = Value.ref a from rx)
    obtain ⟨_, _, xs, _, o, es, ep, h1, h2, _⟩ := (show ObjOk X.prog X.w H s.heap a (.dT kvs) from I.hok a _ ea)
    exact PySem.W.kia_one PySem.W.kitx_dict I.kIn ⟨o, h1, h2.1⟩ e (fun z => nomatch z) h
  | @ins a C dx fs ea cl ha hn htk hm =>
    cases (show u = Value.ref a from rx)
    obtain ⟨mA, O, _⟩ := ins_get I.hok ea
    obtain ⟨od, J, _⟩ := O.look
    exact PySem.W.kia_one (PySem.W.kitx_own (cl.get _) cl.hd ha hn htk hm) I.kIn J e (fun z => nomatch z) h
end
end L2

namespace L2
open PySem PySem.Spec PyProof.Rows

/-! ### room -/
structure Room (k : Nat) (A : Around) : Prop where
  hd : A.handled = none
  dp : A.depth + 3 * k + 5 < recursionLimit
  un : A.units + 16 * k + 200 < cLine
theorem Room.mono {j k : Nat} {A : Around} (r : Room k A) (h : j ≤ k) : Room j A := ⟨r.hd, by have := r.dp; omega, by have := r.un; omega⟩
theorem Room.deeper {k : Nat} {A : Around} (r : Room (k + 1) A) (env : Env) : Room k (A.deeper env) :=
  ⟨r.hd, by have := r.dp; show A.depth + 1 + 3 * k + 5 < _; omega, by have := r.un; show A.units + 3 + 16 * k + 200 < _; omega⟩
theorem Room.in1 {k : Nat} {A : Around} (r : Room (k + 1) A) : Room k A.in1 :=
  ⟨r.hd, by have := r.dp; show A.depth + 3 * k + 5 < _; omega, by have := r.un; show A.units + 1 + 16 * k + 200 < _; omega⟩
theorem make_depth {A : Around} {C : Addr} {us : List Value} {kw : List (Str × Value)} : (A.under (.builtin "type.__call__" ⟨.ref C :: us, kw⟩)).depth = A.depth + 1 := by
  first | rfl | simp [Around.under, Code.weight, Code.isCreation, Code.isGuard, Code.isCaller, Code.frames, Code.isFrame, guardIds]
theorem make_units {A : Around} {C : Addr} {us : List Value} {kw : List (Str × Value)} : (A.under (.builtin "type.__call__" ⟨.ref C :: us, kw⟩)).units = A.units + 1 := by
  first | rfl | simp [Around.under, Code.cUnits, Code.frames, Code.isFrame]
theorem Room.make {k : Nat} {A : Around} (r : Room (k + 1) A) (C : Addr) (us : List Value) (kw : List (Str × Value)) : Room k (A.under (.builtin "type.__call__" ⟨.ref C :: us, kw⟩)) :=
  ⟨r.hd, by have := r.dp; rw [make_depth]; omega, by have := r.un; rw [make_units]; omega⟩
theorem Room.depth {k : Nat} {A : Around} (r : Room k A) : A.depth < recursionLimit := by have := r.dp; omega
theorem Room.units {k : Nat} {A : Around} (r : Room k A) : A.units + 64 < cLine := by have := r.un; omega
theorem Room.units0 {k : Nat} {A : Around} (r : Room k A) : A.units < cLine := by have := r.un; omega

/-! ### argument lists and displays -/
def tNil : TA := fun _ H Q => Q [] H
def tCons (ta : TE) (tr : TA) : TA := fun σ H Q => ta σ H fun x H1 => tr σ H1 fun xs H2 => Q (x :: xs) H2
section
variable {X : Cx} {e : Expr} {es : List Expr} {te : TE} {t : TA} {pos : Pos}
theorem pa_nil : PA X [] tNil := fun _ _ _ _ H Q I h => Calls.spliced_nil ⟨[], H, I, .nil, h⟩
theorem pa_cons (ha : PE X e te) (hr : PA X es t) (hs : starEach (e :: es) X.env = (false, eval e X.env) :: starEach es X.env := by rfl) : PA X (e :: es) (tCons te t) := by
  intro pos pins s σ H Q I h
  rw [hs]
  show wpAny _ _ (spliced ((false, eval e X.env) :: backTo pos (starEach es X.env))) _ _ s
  refine Calls.spliced_cons (thn (ha pins s σ H _ I h) fun u s1 ⟨x, H1, I1, r1, q1⟩ => ?_)
  exact thn (hr pos pins s1 σ H1 _ I1 q1) fun us s2 ⟨xs, H2, I2, r2, q2⟩ => ⟨x :: xs, H2, I2, .cons r1 r2, q2⟩

/-- a tuple, a list of written items -/
def tTup (t : TA) : TE := fun σ H Q => t σ H fun xs H1 => xs.length ≤ sizeLine ∧ ∀ p, H1 p = none → Q (.ref p) (upd H1 p (.tup xs))
def tLst (t : TA) : TE := fun σ H Q => t σ H fun xs H1 => xs.length ≤ sizeLine ∧ ∀ p, H1 p = none → Q (.ref p) (upd H1 p (.lst xs))
theorem pe_tup {x1} (h : PA X es t) : PE X (.Tuple es x1 pos) (tTup t) := by
  intro pins s σ H Q I hq
  refine wpAny_Tuple_spliced (thn (h pos pins s σ H _ I hq) fun us s1 ⟨xs, H1, I1, r, z, q⟩ => ⟨by rw [← r.length]; exact z, ?_⟩)
  have hf : H1 s1.heap.objs.size = none := I1.hok.fresh (Nat.le_refl _)
  refine ⟨.ref s1.heap.objs.size, upd H1 s1.heap.objs.size (.tup xs), I1.laid (t' := s1.toks) (fun b u e => Heap.get?_push_of_some _ e) (Nat.le_refl _) ?_, rfl, q _ hf⟩
  exact ⟨z, us, r, ⟨_, Heap.get?_push_size _ rfl, rfl, _, rfl⟩⟩
theorem pe_lst (h : PA X es t) : PE X (.List es pos) (tLst t) := by
  intro pins s σ H Q I hq
  refine wpAny_List_spliced (thn (h pos pins s σ H _ I hq) fun us s1 ⟨xs, H1, I1, r, z, q⟩ => ⟨by rw [← r.length]; exact z, ?_⟩)
  have hf : H1 s1.heap.objs.size = none := I1.hok.fresh (Nat.le_refl _)
  refine ⟨.ref s1.heap.objs.size, upd H1 s1.heap.objs.size (.lst xs), I1.laid (t' := s1.toks) (fun b u e => Heap.get?_push_of_some _ e) (Nat.le_refl _) ?_, rfl, q _ hf⟩
  exact ⟨z, us, 0, r, Heap.get?_push_size _ rfl⟩
end

/-! ### what a def promises -/
/-- a def's promise: the bound arguments in the parameters' order, the heap, the wanted end, the wanted exception -/
abbrev Sp := List V → Hp → VK → XK → Prop
/-- how an exception lies behind a call (file 08 gives it): the callers' frames, abstract heap and state ahead of the call, the wish, the exception, the state -/
abbrev CXT := List Env → Hp → Shared → XK → Value → Shared → Prop

/-- the state at a call -/
structure Env0 (P : Program) (w : World) (K : PySem.W.Frag) (mg : Str → Option Value) (base : Heap) (A : Around) (outer : List Env) (s : Shared) (H : Hp) : Prop where
  frames : A.frames = some outer
  mod : Mod K mg base
  bs : ∀ b o, base.get? b = some o → s.heap.get? b = some o ∧ H b = none
  bsz : base.objs.size ≤ s.heap.objs.size
  funs : s.heap.FunFrames base outer
  frf : ∀ b ∈ frs outer, H b = none
  hok : HOk P w H s.heap
  bare : AllBare s.gens
/-- a call's end -/
def CE (outer : List Env) (P : Program) (w : World) (H : Hp) (s : Shared) (Q : VK) (u : Value) (s' : Shared) : Prop :=
  ∃ v H', s'.os = s.os ∧ AllBare s'.gens ∧ Un (frs outer) [] H H' s.heap s'.heap ∧ HOk P w H' s'.heap ∧ RelV v u ∧ Q v H'
def CR (CX : CXT) (outer : List Env) (P : Program) (w : World) (H : Hp) (s : Shared) (Q : VK) (E : XK) (r : Result) (s' : Shared) : Prop :=
  match r with
  | .ok (.ret u) => CE outer P w H s Q u s'
  | .ok _ => False
  | .error e => CX outer H s E e s'
structure FnOk (P : Program) (w : World) (K : PySem.W.Frag) (mg : Str → Option Value) (base : Heap) (CX : CXT) (k : Nat) (f : Addr) (fd : FuncData) (ps : List Str) (sp : Sp) : Prop where
  len : ∀ vs H Q E, sp vs H Q E → vs.length = ps.length
  run : ∀ (A : Around) (outer : List Env) (s : Shared) (H : Hp) (args : Args) (us : List Value) (vs : List V) (Q : VK) (E : XK), Room k A → Env0 P w K mg base A outer s H → BindsTo s fd args (ps.zip us) → Vals vs us → sp vs H Q E →
    codeAny (model P w) A (.call (.ref f) args) (CR CX outer P w H s Q E) s
theorem FnOk.mono {P : Program} {w : World} {K : PySem.W.Frag} {mg : Str → Option Value} {base : Heap} {CX : CXT} {j k : Nat} {f : Addr} {fd : FuncData} {ps : List Str} {sp : Sp} (F : FnOk P w K mg base CX j f fd ps sp) (h : j ≤ k) :
    FnOk P w K mg base CX k f fd ps sp := ⟨F.len, fun A outer s H args us vs Q E hr => F.run A outer s H args us vs Q E (hr.mono h)⟩
/-- a weaker promise -/
theorem FnOk.imp {P : Program} {w : World} {K : PySem.W.Frag} {mg : Str → Option Value} {base : Heap} {CX : CXT} {k : Nat} {f : Addr} {fd : FuncData} {ps : List Str} {sp sp' : Sp} (F : FnOk P w K mg base CX k f fd ps sp)
    (h : ∀ vs H Q E, sp' vs H Q E → sp vs H Q E) : FnOk P w K mg base CX k f fd ps sp' :=
  ⟨fun vs H Q E q => F.len vs H Q E (h _ _ _ _ q), fun A outer s H args us vs Q E hr he hb hv hs => F.run A outer s H args us vs Q E hr he hb hv (h _ _ _ _ hs)⟩

theorem Env0.make {P : Program} {w : World} {K : PySem.W.Frag} {mg : Str → Option Value} {base : Heap} {A : Around} {outer : List Env} {s : Shared} {H : Hp} (e : Env0 P w K mg base A outer s H) (C : Addr) (us : List Value) (kw : List (Str × Value)) :
    Env0 P w K mg base (A.under (.builtin "type.__call__" ⟨.ref C :: us, kw⟩)) outer s H := ⟨by first | exact e.frames | (simpa [Around.under, Code.envs, Code.isFrame, pushEnvs] using e.frames), e.mod, e.bs, e.bsz, e.funs, e.frf, e.hok, e.bare⟩
theorem Env0.in1 {P : Program} {w : World} {K : PySem.W.Frag} {mg : Str → Option Value} {base : Heap} {A : Around} {outer : List Env} {s : Shared} {H : Hp} (e : Env0 P w K mg base A outer s H) :
    Env0 P w K mg base A.in1 outer s H := ⟨e.frames, e.mod, e.bs, e.bsz, e.funs, e.frf, e.hok, e.bare⟩

section
variable {X : Cx} {pins : List (Addr × Obj)} {σ : St} {H : Hp} {s s' : Shared}
/-- from a body: what a callee wants -/
theorem Inv.env0 (I : Inv X pins σ H s) : Env0 X.prog X.w X.K X.mg X.base X.A X.stack s H :=
  ⟨I.ok.frames, I.ok.mod, I.bs, Nat.le_trans I.ok.bsz I.sz, I.stack, I.stkFree, I.hok, I.bare⟩
/-- behind a call -/
theorem Inv.after {Q : VK} {u : Value} (I : Inv X pins σ H s) (h : CE X.stack X.prog X.w H s Q u s') : EP X pins σ Q u s' := by
  obtain ⟨v, H', os, bare, un, hok, r, q⟩ := h
  obtain ⟨hh, g, d, t, os'⟩ := s'
  obtain rfl : os' = s.os := os
  exact ⟨v, H', I.call (h' := hh) (g' := g) (d' := d) (t' := t) (ch := []) un hok bare (fun b z => absurd z (by simp)), r, q⟩
end

/-! ### calls -/
/-- f(..): the written arguments, then the defaults dvs; E: what is wanted of an exception -/
def tCall (sp : Sp) (dvs : List V) (E : XK) (t : TA) : TE := fun σ H Q => t σ H fun vs H1 => sp (vs ++ dvs) H1 Q E
/-- o.m(..) of an instance of the class at C -/
def tMeth (C : Addr) (m : Str) (sp : Sp) (dvs : List V) (E : XK) (ta : TE) (t : TA) : TE := fun σ H Q => ta σ H fun x H1 => ∃ a dx fs, x = .ref a ∧ H1 a = some (.ins C dx fs) ∧ fs.lookup m = none ∧
  t σ H1 fun vs H2 => sp (x :: (vs ++ dvs)) H2 Q E
/-- C(..): a new instance and its dict, then __init__ -/
def tMake (C : Addr) (sp : Sp) (dvs : List V) (E : XK) (t : TA) : TE := fun σ H Q => t σ H fun vs H1 => ∀ x dx, H1 x = none → H1 dx = none → dx ≠ x →
  sp (.ref x :: (vs ++ dvs)) (upd (upd H1 dx (.own x)) x (.ins C dx [])) (fun v H2 => v = .non ∧ Q (.ref x) H2) E

/-- how the parameters are bound: us the positional arguments, kw the keywords' values by name, ds the defaults that fill up -/
def Binds (K : PySem.W.Frag) (fd : FuncData) (ps : List Str) (ds : List Value) : Prop :=
  ∀ (s : Shared) (us : List Value), K.In s.heap → (us ++ ds).length = ps.length → BindsTo s fd ⟨us, []⟩ (ps.zip (us ++ ds))
/-- every parameter is given -/
theorem Binds.all {K : PySem.W.Frag} {fd : FuncData} {ps : List Str} (h : ∀ us : List Value, us.length = ps.length → bindArgs fd ⟨us, []⟩ = pure (ps.zip us)) : Binds K fd ps [] := fun s us _ hl => by
  rw [List.append_nil] at hl ⊢
  exact .of_eq (h us hl)

/-- an exception of a callee reaches what this body wants of exceptions -/
def Passes (CX : CXT) (X : Cx) (E : XK) : Prop := ∀ (pins : List (Addr × Obj)) (σ : St) (H : Hp) (s : Shared) (e : Value) (s' : Shared), Inv X pins σ H s → CX X.stack H s E e s' → X.xe e s'

section
variable {X : Cx} {CX : CXT} {k : Nat} {f C : Addr} {fd : FuncData} {ps : List Str} {sp : Sp} {dvs : List V} {ds : List Value} {E : XK} {x m : Str} {p pos apos : Pos} {e o : Expr} {es : List Expr} {ta : TE} {t : TA}

/-- the callee runs -/
theorem run_fn {pins : List (Addr × Obj)} {σ : St} {H : Hp} {s : Shared} {Q : VK} {us : List Value} {vs : List V} (F : FnOk X.prog X.w X.K X.mg X.base CX k f fd ps sp) (hr : Room k X.A) (hb : Binds X.K fd ps ds) (hd : Vals dvs ds) (hx : Passes CX X E)
    (I : Inv X pins σ H s) (r : Vals vs us) (h : sp (vs ++ dvs) H Q E) : wpAny (model X.prog X.w) X.A (call (.ref f) us) (EP X pins σ Q) X.xe s := by
  have r2 : Vals (vs ++ dvs) (us ++ ds) := r.append hd
  have hl : (us ++ ds).length = ps.length := by rw [← r2.length]; exact F.len _ _ _ _ h
  refine wpAny_call (codeAny_mono (F.run X.A X.stack s H ⟨us, []⟩ (us ++ ds) (vs ++ dvs) Q E hr I.env0 (hb s us I.kIn hl) r2 h) fun r s' hq => ?_)
  cases r with
  | error e => exact hx pins σ H s e s' I hq
  | ok fl =>
    cases fl with
    | ret u => exact I.after hq
    | next => exact False.elim hq
    | brk => exact False.elim hq
    | cont => exact False.elim hq

theorem pe_call (F : FnOk X.prog X.w X.K X.mg X.base CX k f fd ps sp) (hr : Room k X.A) (hg : Gl X x) (hm : X.mg x = some (.ref f)) (hk : PySem.W.keepIn X.K (.ref f) = true) (hb : Binds X.K fd ps ds) (hd : Vals dvs ds) (hx : Passes CX X E)
    (ha : PA X (e :: es) t) (hdb : (x == ("__debug__" : Str)) = false := by decide) (he : starEach (e :: es) X.env = (false, eval e X.env) :: starEach es X.env := by rfl) (hpl : (backTo pos (starEach es X.env)).any (·.1) = false := by rfl) :
    PE X (.Call (.Name x p) (e :: es) [] pos) (tCall sp dvs E t) := by
  intro pins s σ H Q I h
  refine wpAny_Call_Name_kw (ld_glob I hg hm ?_ hdb)
  refine PySem.W.callWith_K (h₀ := X.base) I.ok.mod.kin hk (thn (ha pos pins s σ H _ I h) fun us s1 ⟨vs, H1, I1, r, q⟩ => ⟨I1.kIn, ?_⟩) he hpl
  exact run_fn F hr hb hd hx I1 r q
theorem pe_call0 (F : FnOk X.prog X.w X.K X.mg X.base CX k f fd ps sp) (hr : Room k X.A) (hg : Gl X x) (hm : X.mg x = some (.ref f)) (hk : PySem.W.keepIn X.K (.ref f) = true) (hb : Binds X.K fd ps ds) (hd : Vals dvs ds) (hx : Passes CX X E)
    (hdb : (x == ("__debug__" : Str)) = false := by decide) : PE X (.Call (.Name x p) [] [] pos) (tCall sp dvs E tNil) := by
  intro pins s σ H Q I h
  refine wpAny_Call_Name_kw (ld_glob I hg hm ?_ hdb)
  exact PySem.W.callWith_K0 I.kIn hk (run_fn (us := []) F hr hb hd hx I .nil h)

/-- o.m(e, ..) -/
theorem pe_meth {pl : Sem Bool} (he : PE X o ta) (c : Cls X.K C) (hm : Meth X.K C m f) (F : FnOk X.prog X.w X.K X.mg X.base CX k f fd ps sp) (hr : Room k X.A) (hb : Binds X.K fd ps ds) (hd : Vals dvs ds) (hx : Passes CX X E) (ha : PA X (e :: es) t)
    (hst : starEach (e :: es) X.env = (false, eval e X.env) :: starEach es X.env := by rfl) (hpl : (backTo pos (starEach es X.env)).any (·.1) = false := by rfl)
    (ht : eval (.Call (.Attribute o m apos) (e :: es) [] pos) X.env = (do
      let ov ← eval o X.env
      standAt apos.atName
      let (f, first) ← holding [ov] (getMethod ov m pl)
      callWith pos f first (backTo pos (starEach (e :: es) X.env)) (backToKw pos (keywordEach [] X.env))) := by rfl) :
    PE X (.Call (.Attribute o m apos) (e :: es) [] pos) (tMeth C m sp dvs E ta t) := by
  intro pins s σ H Q I h
  refine PySem.W.methodCall_KW (pl := pl) (thn (he pins s σ H _ I h) fun u s1 ⟨x, H1, I1, rx, a, dx, fs, ex, ea, l, q⟩ => ?_) ht
  subst ex
  obtain rfl : u = Value.ref a := rx
  refine getmeth_ok I1 ea c hm l ?_
  refine PySem.W.callWith_K (first := [.ref a]) (h₀ := X.base) I.ok.mod.kin hm.kp (thn (ha pos pins s1 σ H1 _ I1 q) fun us s2 ⟨vs, H2, I2, r, q2⟩ => ⟨I2.kIn, ?_⟩) hst hpl
  exact run_fn (us := .ref a :: us) (vs := .ref a :: vs) F hr hb hd hx I2 (.cons rfl r) q2
/-- o.m() -/
theorem pe_meth0 {pl : Sem Bool} (he : PE X o ta) (c : Cls X.K C) (hm : Meth X.K C m f) (F : FnOk X.prog X.w X.K X.mg X.base CX k f fd ps sp) (hr : Room k X.A) (hb : Binds X.K fd ps ds) (hd : Vals dvs ds) (hx : Passes CX X E)
    (ht : eval (.Call (.Attribute o m apos) [] [] pos) X.env = (do
      let ov ← eval o X.env
      standAt apos.atName
      let (f, first) ← holding [ov] (getMethod ov m pl)
      callWith pos f first (backTo pos (starEach [] X.env)) (backToKw pos (keywordEach [] X.env))) := by rfl) :
    PE X (.Call (.Attribute o m apos) [] [] pos) (tMeth C m sp dvs E ta tNil) := by
  intro pins s σ H Q I h
  refine PySem.W.methodCall_KW (pl := pl) (thn (he pins s σ H _ I h) fun u s1 ⟨x, H1, I1, rx, a, dx, fs, ex, ea, l, q⟩ => ?_) ht
  subst ex
  obtain rfl : u = Value.ref a := rx
  refine getmeth_ok I1 ea c hm l ?_
  exact PySem.W.callWith_K0 (first := [.ref a]) I1.kIn hm.kp (run_fn (us := [.ref a]) (vs := [.ref a]) F hr hb hd hx I1 (.cons rfl .nil) q)

/-- what a class must have to be made -/
structure Mk (K : PySem.W.Frag) (C f : Addr) : Prop where
  makes : PySem.W.makesIn K C = true
  init : PySem.W.findIn K (.ref C) "__init__" = some (some (.ref f))
  fn : PySem.W.isFn K (.ref f) = true
  kp : PySem.W.keepIn K (.ref C) = true

theorem run_make {pins : List (Addr × Obj)} {σ : St} {H : Hp} {s : Shared} {Q : VK} {us : List Value} {vs : List V} (M : Mk X.K C f) (F : FnOk X.prog X.w X.K X.mg X.base CX k f fd ps sp) (hr : Room (k + 1) X.A) (hb : Binds X.K fd ps ds) (hd : Vals dvs ds)
    (hx : Passes CX X E) (I : Inv X pins σ H s) (r : Vals vs us)
    (h : ∀ x dx, H x = none → H dx = none → dx ≠ x → sp (.ref x :: (vs ++ dvs)) (upd (upd H dx (.own x)) x (.ins C dx [])) (fun v H2 => v = .non ∧ Q (.ref x) H2) E) :
    wpAny (model X.prog X.w) X.A (call (.ref C) us) (EP X pins σ Q) X.xe s := by
  have hq := h (s.heap.objs.size + 1) s.heap.objs.size (I.hok.fresh (Nat.le_succ _)) (I.hok.fresh (Nat.le_refl _)) (Nat.ne_of_lt (Nat.lt_succ_self _))
  have I2 := Inv.made (C := C) I
  have r2 : Vals (V.ref (s.heap.objs.size + 1) :: (vs ++ dvs)) (Value.ref (s.heap.objs.size + 1) :: (us ++ ds)) := .cons rfl (r.append hd)
  have hl : (Value.ref (s.heap.objs.size + 1) :: us ++ ds).length = ps.length := by
    have e := r2.length
    rw [F.len _ _ _ _ hq] at e
    exact e.symm
  refine wpAny_call (make_map (f := f) I.kIn M.makes M.init (beq_iff_eq.mp M.fn) (codeAny_mono (F.run _ X.stack _ _ ⟨Value.ref (s.heap.objs.size + 1) :: us, []⟩ (Value.ref (s.heap.objs.size + 1) :: (us ++ ds)) _ _ E (hr.make C us [])
    (I2.env0.make C us []) (hb _ (Value.ref (s.heap.objs.size + 1) :: us) I2.kIn hl) r2 hq) fun r s' hq' => ?_))
  cases r with
  | error e => exact hx pins σ _ _ e s' I2 hq'
  | ok fl =>
    cases fl with
    | ret u =>
      obtain ⟨v, H', I3, rv, ev, q3⟩ := I2.after hq'
      subst ev
      exact ⟨rv, ⟨V.ref (s.heap.objs.size + 1), H', I3, rfl, q3⟩⟩
    | next => exact False.elim hq'
    | brk => exact False.elim hq'
    | cont => exact False.elim hq'
theorem pe_make (M : Mk X.K C f) (F : FnOk X.prog X.w X.K X.mg X.base CX k f fd ps sp) (hr : Room (k + 1) X.A) (hg : Gl X x) (hm : X.mg x = some (.ref C)) (hb : Binds X.K fd ps ds) (hd : Vals dvs ds) (hx : Passes CX X E)
    (ha : PA X (e :: es) t) (hdb : (x == ("__debug__" : Str)) = false := by decide) (he : starEach (e :: es) X.env = (false, eval e X.env) :: starEach es X.env := by rfl) (hpl : (backTo pos (starEach es X.env)).any (·.1) = false := by rfl) :
    PE X (.Call (.Name x p) (e :: es) [] pos) (tMake C sp dvs E t) := by
  intro pins s σ H Q I h
  refine wpAny_Call_Name_kw (ld_glob I hg hm ?_ hdb)
  refine PySem.W.callWith_K (h₀ := X.base) I.ok.mod.kin M.kp (thn (ha pos pins s σ H _ I h) fun us s1 ⟨vs, H1, I1, r, q⟩ => ⟨I1.kIn, ?_⟩) he hpl
  exact run_make M F hr hb hd hx I1 r q
theorem pe_make0 (M : Mk X.K C f) (F : FnOk X.prog X.w X.K X.mg X.base CX k f fd ps sp) (hr : Room (k + 1) X.A) (hg : Gl X x) (hm : X.mg x = some (.ref C)) (hb : Binds X.K fd ps ds) (hd : Vals dvs ds) (hx : Passes CX X E)
    (hdb : (x == ("__debug__" : Str)) = false := by decide) : PE X (.Call (.Name x p) [] [] pos) (tMake C sp dvs E tNil) := by
  intro pins s σ H Q I h
  refine wpAny_Call_Name_kw (ld_glob I hg hm ?_ hdb)
  exact PySem.W.callWith_K0 I.kIn M.kp (run_make (us := []) M F hr hb hd hx I .nil h)
end

/-! ### keywords -/
/-- the values of the keywords, from the left -/
def PK (X : Cx) (kws : List Keyword) (t : TA) : Prop :=
  ∀ (pos : Pos) (pins : List (Addr × Obj)) (s : Shared) (σ : St) (H : Hp) (Q : List V → Hp → Prop), Inv X pins σ H s → t σ H Q → wpAny (model X.prog X.w) X.A (evalAll ((backToKw pos (keywordEach kws X.env)).map (·.2))) (AP X pins σ Q) X.xe s
section
variable {X : Cx} {CX : CXT} {k : Nat} {f C : Addr} {fd : FuncData} {ps ks : List Str} {sp : Sp} {E : XK} {x m : Str} {p pos apos kpos : Pos} {e o : Expr} {es : List Expr} {kws : List Keyword} {te ta : TE} {t tk : TA} {nm : Option Str}
theorem pk_nil : PK X [] tNil := fun _ _ _ _ H Q I h => wpAny_evalAll_nil ⟨[], H, I, .nil, h⟩
theorem pk_cons (ha : PE X e te) (hr : PK X kws t) : PK X (⟨nm, e, kpos⟩ :: kws) (tCons te t) := by
  intro pos pins s σ H Q I h
  show wpAny _ _ (evalAll ((do let v ← eval e X.env; standAt pos; pure v) :: (backToKw pos (keywordEach kws X.env)).map (·.2))) _ _ s
  refine wpAny_evalAll_cons (wpAny_bind (thn (ha pins s σ H _ I h) fun u s1 ⟨x, H1, I1, r1, q1⟩ => wpAny_bind (wpAny_standAt (wpAny_pure ?_))))
  exact thn (hr pos pins s1 σ H1 _ I1 q1) fun us s2 ⟨xs, H2, I2, r2, q2⟩ => ⟨x :: xs, H2, I2, .cons r1 r2, q2⟩

/-- how a call with keywords binds: g puts the positional values us and the keywords' values ws (names ks) in the parameters' order, defaults among them -/
structure KBinds (K : PySem.W.Frag) (fd : FuncData) (ps ks : List Str) (g : List Value → List Value → List Value) (gV : List V → List V → List V) : Prop where
  to : ∀ (s : Shared) (us ws : List Value), K.In s.heap → (g us ws).length = ps.length → BindsTo s fd ⟨us, ks.zip ws⟩ (ps.zip (g us ws))
  rel : ∀ {vs : List V} {us : List Value} {zs : List V} {ws : List Value}, Vals vs us → Vals zs ws → Vals (gV vs zs) (g us ws)
def tCallK (sp : Sp) (gV : List V → List V → List V) (E : XK) (t tk : TA) : TE := fun σ H Q => t σ H fun vs H1 => tk σ H1 fun zs H2 => sp (gV vs zs) H2 Q E
variable {g : List Value → List Value → List Value} {gV : List V → List V → List V}
theorem run_fnk {pins : List (Addr × Obj)} {σ : St} {H : Hp} {s : Shared} {Q : VK} {us ws : List Value} {vs zs : List V} (F : FnOk X.prog X.w X.K X.mg X.base CX k f fd ps sp) (hr : Room k X.A) (hb : KBinds X.K fd ps ks g gV) (hx : Passes CX X E)
    (I : Inv X pins σ H s) (r : Vals vs us) (rz : Vals zs ws) (h : sp (gV vs zs) H Q E) : wpAny (model X.prog X.w) X.A (call (.ref f) us (ks.zip ws)) (EP X pins σ Q) X.xe s := by
  have r2 := hb.rel r rz
  have hl : (g us ws).length = ps.length := by rw [← r2.length]; exact F.len _ _ _ _ h
  refine wpAny_call (codeAny_mono (F.run X.A X.stack s H ⟨us, ks.zip ws⟩ (g us ws) (gV vs zs) Q E hr I.env0 (hb.to s us ws I.kIn hl) r2 h) fun r s' hq => ?_)
  cases r with
  | error e => exact hx pins σ H s e s' I hq
  | ok fl =>
    cases fl with
    | ret u => exact I.after hq
    | next => exact False.elim hq
    | brk => exact False.elim hq
    | cont => exact False.elim hq
/-- f(e, .., k = v, ..) -/
theorem pe_callK (F : FnOk X.prog X.w X.K X.mg X.base CX k f fd ps sp) (hr : Room k X.A) (hg : Gl X x) (hm : X.mg x = some (.ref f)) (hk : PySem.W.keepIn X.K (.ref f) = true) (hb : KBinds X.K fd ps ks g gV) (hx : Passes CX X E)
    (ha : PA X (e :: es) t) (hkw : PK X kws tk) (hall : (backToKw pos (keywordEach kws X.env)).all (·.1.isSome) = true := by rfl) (hks : (backToKw pos (keywordEach kws X.env)).filterMap (·.1) = ks := by rfl)
    (hdb : (x == ("__debug__" : Str)) = false := by decide) (he : starEach (e :: es) X.env = (false, eval e X.env) :: starEach es X.env := by rfl)
    (hpl : ((backTo pos (starEach (e :: es) X.env)).any (·.1) || (backToKw pos (keywordEach kws X.env)).any (·.1.isNone)) = false := by rfl) :
    PE X (.Call (.Name x p) (e :: es) kws pos) (tCallK sp gV E t tk) := by
  intro pins s σ H Q I h
  refine wpAny_Call_Name_kw (ld_glob I hg hm ?_ hdb)
  refine PySem.W.callWith_KW (h₀ := X.base) I.ok.mod.kin hk hall (thn (ha pos pins s σ H _ I h) fun us s1 ⟨vs, H1, I1, r, q⟩ => ?_) hpl he
  refine thn (hkw pos pins s1 σ H1 _ I1 q) fun ws s2 ⟨zs, H2, I2, rz, q2⟩ => ⟨I2.kIn, ?_⟩
  rw [hks]
  exact run_fnk F hr hb hx I2 r rz q2
end

/-! ### a def's body keeps its promise -/
/-- names: the parameters first -/
structure FnScope (N P : List Str) (sc : Scope) : Prop where
  kind : sc.kind = .function
  co : sc.isCoroutine = false
  gen : sc.isGenerator = false
  nd : N.Nodup
  pre : N.take P.length = P
  par : ∀ x ∈ P, sc.names.lookup x = some .local ∨ sc.names.lookup x = some .cell
  nofree : ∀ y ∈ sc.names, y.2 ≠ .free

theorem bindL_out {kindOf : Str → Option NameKind} {x : Str} : ∀ {binds : List (Str × Value)} {m : Str → Option Value}, (∀ v, (x, v) ∉ binds) → bindL kindOf binds m x = m x
  | [], _, _ => rfl
  | (n, v) :: r, m, h => by
    unfold bindL
    rw [bindL_out fun w hw => h w (List.mem_cons_of_mem _ hw)]
    split
    · have : x ≠ n := by rintro rfl; exact h v List.mem_cons_self
      simp [this]
    · rfl
theorem bindC_out {kindOf : Str → Option NameKind} {x : Str} : ∀ {binds : List (Str × Value)} {m : Str → Option Value}, (∀ v, (x, v) ∉ binds) → bindC kindOf binds m x = m x
  | [], _, _ => rfl
  | (n, v) :: r, m, h => by
    unfold bindC
    rw [bindC_out fun w hw => h w (List.mem_cons_of_mem _ hw)]
    split
    · rfl
    · have : x ≠ n := by rintro rfl; exact h v List.mem_cons_self
      simp [this]
theorem bindL_get {kindOf : Str → Option NameKind} {x : Str} {v : Value} : ∀ {P : List Str} {vs : List Value} {i : Nat} {m : Str → Option Value}, P.Nodup → P[i]? = some x → vs[i]? = some v → kindOf x = some .local →
    bindL kindOf (P.zip vs) m x = some v
  | [], _, _, _, _, h, _, _ => by simp at h
  | _ :: _, [], _, _, _, _, h, _ => by simp at h
  | p :: P, w :: vs, 0, m, nd, h1, h2, hk => by
    simp at h1 h2; subst h1; subst h2
    show bindL kindOf ((p, w) :: P.zip vs) m p = _
    unfold bindL
    rw [bindL_out fun v hv => (List.nodup_cons.mp nd).1 (List.of_mem_zip hv).1, if_pos hk]
    simp
  | p :: P, w :: vs, i + 1, m, nd, h1, h2, hk => by
    show bindL kindOf ((p, w) :: P.zip vs) m x = _
    unfold bindL
    exact bindL_get (i := i) (List.nodup_cons.mp nd).2 (by simpa using h1) (by simpa using h2) hk
theorem bindC_get {kindOf : Str → Option NameKind} {x : Str} {v : Value} : ∀ {P : List Str} {vs : List Value} {i : Nat} {m : Str → Option Value}, P.Nodup → P[i]? = some x → vs[i]? = some v → kindOf x ≠ some .local →
    bindC kindOf (P.zip vs) m x = some v
  | [], _, _, _, _, h, _, _ => by simp at h
  | _ :: _, [], _, _, _, _, h, _ => by simp at h
  | p :: P, w :: vs, 0, m, nd, h1, h2, hk => by
    simp at h1 h2; subst h1; subst h2
    show bindC kindOf ((p, w) :: P.zip vs) m p = _
    unfold bindC
    rw [bindC_out fun v hv => (List.nodup_cons.mp nd).1 (List.of_mem_zip hv).1, if_neg hk]
    simp
  | p :: P, w :: vs, i + 1, m, nd, h1, h2, hk => by
    show bindC kindOf ((p, w) :: P.zip vs) m x = _
    unfold bindC
    exact bindC_get (i := i) (List.nodup_cons.mp nd).2 (by simpa using h1) (by simpa using h2) hk

/-- the names' values at the entry -/
def start (N : List Str) (vs : List V) : St := vs.map some ++ List.replicate (N.length - vs.length) none

/-- the context of a def's body, at its entry; an exception leaves the frame, then lies as CX says -/
def cxOf (CX : CXT) (P : Program) (w : World) (K : PySem.W.Frag) (mg : Str → Option Value) (base : Heap) (N : List Str) (qual : Str) (scope : Scope) (f : Addr) (cd : Value) (A : Around) (outer : List Env) (s : Shared) (H : Hp) (E : XK) : Cx where
  prog := P
  w := w
  K := K
  mg := mg
  base := base
  A := A.deeper (envOfC qual scope s.heap.objs.size f cd)
  N := N
  s₀ := s
  H₀ := H
  env := envOfC qual scope s.heap.objs.size f cd
  outer := outer
  stack := envOfC qual scope s.heap.objs.size f cd :: outer
  ex := []
  calm := true
  fn := fun _ => true
  pn := []
  xe := fun e s' => wpAny (model P w) (A.deeper (envOfC qual scope s.heap.objs.size f cd)) (leaving (envOfC qual scope s.heap.objs.size f cd) e) (fun _ s'' => CX outer H s E e s'') (fun e' s'' => CX outer H s E e' s'') s'

theorem cell_has {sc : Scope} {n : Nat} {x : Str} (h : sc.names.lookup x = some .cell) : ∃ c, (cellsFrom n sc.names []).lookup x = some c := by
  have q := PySem.W.cellsFrom_some sc.names n [] (.inl h)
  exact Option.isSome_iff_exists.mp q

theorem inv_start {CX : CXT} {P : Program} {w : World} {K : PySem.W.Frag} {mg : Str → Option Value} {base : Heap} {N ps : List Str} {qual : Str} {scope : Scope} {f : Addr} {cd : Value} {A : Around} {outer : List Env} {s s1 : Shared} {H : Hp} {E : XK} {us : List Value} {vs : List V}
    (S : FnScope N ps scope) (hd : A.handled = none) (e0 : Env0 P w K mg base A outer s H) (hl : vs.length = ps.length) (r : Vals vs us)
    (x : InCallC s s.heap.objs.size (bindL (envOfC qual scope s.heap.objs.size f cd).kindOf (ps.zip us) fun _ => none) (cellsFrom (s.heap.objs.size + 1) scope.names []) (bindC (envOfC qual scope s.heap.objs.size f cd).kindOf (ps.zip us) fun _ => none) s1) :
    Inv (cxOf CX P w K mg base N qual scope f cd A outer s H E) [] (start N vs) H s1 := by
  have hpl : ps.length ≤ N.length := by have := congrArg List.length S.pre; rw [List.length_take] at this; omega
  obtain ⟨h1, tk, rfl, hk⟩ := x.done
  have noA : ∀ b : Addr, b ∉ (cxOf CX P w K mg base N qual scope f cd A outer s H E).ex := fun b z => absurd (show b ∈ ([] : List Addr) from z) (by simp)
  refine ⟨⟨e0.mod, S.kind, rfl, rfl, Nat.le_refl _, fun y z c h1 h2 => ?_, fun y hy => ?_, fun y c _ h => ?_, fun _ => hd, Around.frames_deeper e0.frames, .inr ⟨rfl, rfl⟩, fun b z => absurd z (noA b), e0.bs, e0.bsz, fun b _ _ => noA b, fun b z => absurd z (noA b), e0.funs, e0.frf⟩,
    rfl, e0.bare, Un.kept hk, ⟨_, x.toInCall.ns, fun i y v h1 h2 h3 => ?_⟩, fun y c h => ⟨_, x.cell y c h⟩, e0.hok.fresh (Nat.le_refl _), fun y c h => ?_, fun p hp => absurd (show p ∈ ([] : List (Addr × Obj)) from hp) (by simp), e0.hok.kept hk, ?_⟩
  · exact name_of_addr x.apart (PySem.mem_of_lookup h1) (PySem.mem_of_lookup h2)
  · have hy : scope.names.lookup y = some .cell ∨ scope.names.lookup y = some .free := hy
    rcases hy with hy | hy
    · exact cell_has hy
    · exact absurd rfl (S.nofree _ (PySem.mem_of_lookup hy))
  · exact Nat.le_of_lt (x.above y c (PySem.mem_of_lookup h))
  · have hi : i < vs.length := by
      unfold start at h2
      by_cases hi : i < vs.length
      · exact hi
      · rw [List.getElem?_append_right (by simpa using hi)] at h2
        rw [List.getElem?_replicate] at h2
        split at h2 <;> cases h2
    have ha : vs[i]? = some v := by
      unfold start at h2
      rw [List.getElem?_append_left (by simpa using hi), List.getElem?_map] at h2
      cases e : vs[i]? with
      | none => rw [e] at h2; cases h2
      | some a => rw [e] at h2; cases h2; rfl
    obtain ⟨u, hu, rv⟩ := r.get ha
    have hp : ps[i]? = some y := by
      rw [← S.pre, List.getElem?_take_of_lt (by omega)]; exact h1
    have ndP : ps.Nodup := by rw [← S.pre]; exact S.nd.sublist (List.take_sublist _ _)
    refine ⟨u, rv, ?_⟩
    rcases S.par y (List.mem_of_getElem? hp) with k | k
    · exact .inl ⟨k, bindL_get ndP hp hu k⟩
    · obtain ⟨c, e⟩ := cell_has (n := s.heap.objs.size + 1) k
      refine .inr ⟨.inl k, c, e, ?_⟩
      have q := x.cell y c e
      rw [bindC_get ndP hp hu (by show scope.names.lookup y ≠ _; rw [k]; decide)] at q
      exact q
  · exact e0.hok.fresh (Nat.le_of_lt (x.above y c (PySem.mem_of_lookup h)))
  · unfold start
    show _ = N.length
    rw [List.length_append, List.length_map, List.length_replicate]
    omega

/-- THE RULE: a def (or a method) of the text, by its body. The body's reading t is chosen for each entry; it is run at the parameters' values -/
theorem fn_of {CX : CXT} {P : Program} {w : World} {K : PySem.W.Frag} {mg : Str → Option Value} {base : Heap} {k : Nat} {f : Addr} {name qual : Str} {params : Arguments} {body : List Stmt} {scope : Scope} {dV kV doc pm cdv ct oc : Value} {an od : Option Addr}
    {osl : Array (Option Value)} {N ps : List Str} {sp : Sp} (lk : K.lookup f = some ⟨oc, od, .func (PySem.W.fnOf name qual params body scope dV kV doc pm an cdv ct), osl⟩) (hcd : PySem.W.codeIn K cdv qual = true) (S : FnScope N ps scope)
    (len : ∀ vs H Q E, sp vs H Q E → vs.length = ps.length)
    (hbody : ∀ (A : Around) (outer : List Env) (s : Shared) (H : Hp) (vs : List V) (Q : VK) (E : XK), Room k (A.deeper (envOfC qual scope s.heap.objs.size f cdv)) → sp vs H Q E →
      ∃ t, PSs (cxOf CX P w K mg base N qual scope f cdv A outer s H E) body t ∧ t { nx := fun _ H' => Q .non H', rt := Q } (start N vs) H) :
    FnOk P w K mg base CX (k + 1) f (PySem.W.fnOf name qual params body scope dV kV doc pm an cdv ct) ps sp := by
  refine ⟨len, fun A outer s H args us vs Q E hr e0 hb r hsp => ?_⟩
  have hl := len _ _ _ _ hsp
  have KX : K.In s.heap := e0.mod.kin.keeps fun b o e => (e0.bs b o e).1
  have lim : s.heap.NoLimit := e0.mod.nolimit.keeps fun b o e => (e0.bs b o e).1
  have hkind : ∀ y ∈ ps.zip us, scope.names.lookup y.1 = some .local ∨ (scope.names.lookup y.1 = some .cell ∧ ((cellsFrom (s.heap.objs.size + 1) scope.names []).lookup y.1).isSome = true) := fun ⟨n, v⟩ hy => by
    rcases S.par n (List.of_mem_zip hy).1 with q | q
    · exact .inl q
    · exact .inr ⟨q, PySem.W.cellsFrom_some _ _ _ (.inl q)⟩
  refine codeAny_call_function hr.depth (KX _ _ lk) rfl S.co S.gen rfl (PySem.W.codeRec_of KX hcd) (hb _ _ _ _ ?_)
  refine wpAny_newFunctionEnv_cells S.kind hkind fun env he s1 x => ?_
  subst he
  refine ⟨lim.keeps x.toInCall.keep, codeAny_func ?_⟩
  obtain ⟨t, ht, hq⟩ := hbody A outer s H vs Q E (hr.deeper _) hsp
  have I : Inv (cxOf CX P w K mg base N qual scope f cdv A outer s H E) [] (start N vs) H s1 := inv_start S hr.hd e0 hl r x
  refine wpAny_mono (ht [] s1 (start N vs) H _ I hq) (fun fl s' hs => ?_) fun e s' hs => hs
  have fin : ∀ {σ' : St} {H' : Hp} {v : V} {u : Value}, Inv (cxOf CX P w K mg base N qual scope f cdv A outer s H E) [] σ' H' s' → RelV v u → Q v H' → CE outer P w H s Q u s' :=
    fun {σ' H' v u} J rv q => ⟨v, H', J.os, J.bare, J.base, J.hok, rv, q⟩
  cases fl with
  | ret u =>
    obtain ⟨v, σ', H', J, rv, q⟩ := hs
    exact fin J rv q
  | next =>
    obtain ⟨σ', H', J, q⟩ := hs
    exact fin (v := V.non) (u := Value.none) J rfl q
  | brk =>
    obtain ⟨_, _, _, q⟩ := hs
    exact False.elim q
  | cont =>
    obtain ⟨_, _, _, q⟩ := hs
    exact False.elim q
end L2

namespace L2
open PySem PySem.Spec PyProof.Rows
section
variable {X : Cx} {x : Str} {p pos : Pos} {e : Expr} {es : List Expr} {t : TA} {id T : String} {r : List V → Hp → VK → Prop}

def tCB (r : List V → Hp → VK → Prop) (t : TA) : TE := fun σ H Q => t σ H fun vs H1 => r vs H1 Q
/-- f(e, ..), f a built-in function -/
theorem pe_callB (hc : CallR X (.builtin id) r) (hg : Gl X x) (hm : X.mg x = none) (hv : bootBuiltins x = some (.builtin id)) (ha : PA X (e :: es) t) (hn : x ≠ "__name__" := by decide) (hdb : (x == ("__debug__" : Str)) = false := by decide)
    (he : starEach (e :: es) X.env = (false, eval e X.env) :: starEach es X.env := by rfl) (hpl : (backTo pos (starEach es X.env)).any (·.1) = false := by rfl) : PE X (.Call (.Name x p) (e :: es) [] pos) (tCB r t) := by
  intro pins s σ H Q I h
  refine wpAny_Call_Name_kw (ld_blt I hg hm hv ?_ hn hdb)
  exact PyProof.Rows.callWith_builtin1 (thn (ha pos pins s σ H _ I h) fun us s1 ⟨vs, H1, I1, r1, q1⟩ => hc pins s1 σ H1 vs us Q I1 r1 q1) he hpl
/-- T(e, ..), T a built-in type -/
theorem pe_callTy (hc : CallR X (.type T) r) (hg : Gl X x) (hm : X.mg x = none) (hv : bootBuiltins x = some (.type T)) (ha : PA X (e :: es) t) (hn : x ≠ "__name__" := by decide) (hdb : (x == ("__debug__" : Str)) = false := by decide)
    (he : starEach (e :: es) X.env = (false, eval e X.env) :: starEach es X.env := by rfl) (hpl : (backTo pos (starEach es X.env)).any (·.1) = false := by rfl) : PE X (.Call (.Name x p) (e :: es) [] pos) (tCB r t) := by
  intro pins s σ H Q I h
  refine wpAny_Call_Name_kw (ld_blt I hg hm hv ?_ hn hdb)
  exact PyProof.Rows.callWith_type1 (thn (ha pos pins s σ H _ I h) fun us s1 ⟨vs, H1, I1, r1, q1⟩ => hc pins s1 σ H1 vs us Q I1 r1 q1) he hpl
/-- T() -/
theorem pe_callTy0 (hc : CallR X (.type T) r) (hg : Gl X x) (hm : X.mg x = none) (hv : bootBuiltins x = some (.type T)) (hn : x ≠ "__name__" := by decide) (hdb : (x == ("__debug__" : Str)) = false := by decide) :
    PE X (.Call (.Name x p) [] [] pos) (tCB r tNil) := by
  intro pins s σ H Q I h
  refine wpAny_Call_Name_kw (ld_blt I hg hm hv ?_ hn hdb)
  exact PyProof.Rows.callWith_type0 (hc pins s σ H [] [] Q I .nil h)
end
end L2

namespace HT
open PySem PyProof.Rows

/-- t < u of tuples of ints -/
def lexLt : List Int → List Int → Bool
  | [], [] => false
  | [], _ :: _ => true
  | _ :: _, [] => false
  | x :: xs, y :: ys => if x = y then lexLt xs ys else decide (x < y)
theorem lexLt_cons (x y : Int) (xs ys : List Int) : lexLt (x :: xs) (y :: ys) = if x = y then lexLt xs ys else decide (x < y) := rfl
theorem lexLt_nil_nil : lexLt [] [] = false := rfl
theorem lexLt_nil_cons (y : Int) (ys : List Int) : lexLt [] (y :: ys) = true := rfl
theorem lexLt_cons_nil (x : Int) (xs : List Int) : lexLt (x :: xs) [] = false := rfl

theorem eqAt_int (A : Around) (s : Shared) (a : Int) (t : Tok) (c : Int) (u : Tok) : ∃ e, SeqAt.EqAt A s (.int a t) (.int c u) e ∧ (e = true ↔ a = c) :=
  ⟨(a == c), SeqAt.EqAt.int_int a t c u, by simp⟩
theorem rcLt_int (A : Around) (s : Shared) (a : Int) (t : Tok) (c : Int) (u : Tok) (prog : Program) (w : World) (E : Value → Shared → Prop) (Q : Value → Shared → Prop) (h : Q (.bool (decide (a < c))) s) :
    wpAny (model prog w) A (richCompare .Lt (.int a t) (.int c u)) Q E s :=
  (PyProof.Rows.lt_int h : wpAny (model prog w) A (compareOp .Lt (.int a t) (.int c u)) Q E s)

section
open PySem.SeqAt
open PySem.AutoSeq1 (wpAny_loadPart')
open PySem.MeetsSeq PySem.MeetsSeq2 PySem.MeetsSeq3

theorem tuple_lt_ints (l b : Addr) (items items2 : Array Value) (n n2 : Nat) (dd dd2 : Option Addr) (sl sl2 : Array (Option Value)) (ns ms : List Int) (hi : IntsAre items.toList ns) (hj : IntsAre items2.toList ms) :
    Meets (Builtin.«tuple.__lt__» ⟨[.ref l, .ref b], []⟩)
      (fun _ R s => s.heap.get? l = some { cls := .type "tuple", dict := dd, data := .seq items n, slots := sl } ∧ s.heap.get? b = some { cls := .type "tuple", dict := dd2, data := .seq items2 n2, slots := sl2 } ∧
        R (.ok (.ret (.bool (lexLt ns ms)))) s) :=
  .of_wp fun prog w A R s h => by
    obtain ⟨hp, g, d, tk, os⟩ := s; obtain ⟨hl, hb, h⟩ := h
    have f2 := AutoSeq1.sub_tuple_tuple
    have z1 : items.size = ns.length := by rw [← hi.length]; simp
    have z2 : items2.size = ms.length := by rw [← hj.length]; simp
    wp_walk using wpAny_loadPart' hl, wpAny_loadPart' hb, wpAny_forIn_list _ (fun rest b s' => b.1 = none ∧ s' = ⟨hp, g, d, tk, os⟩ ∧ ∃ (vs ws : List Value) (ns' ms' : List Int), rest = vs.zip ws ∧
      IntsAre vs ns' ∧ IntsAre ws ms' ∧ ns'.length + items2.size = ms'.length + items.size ∧ R (.ok (.ret (.bool (lexLt ns' ms')))) ⟨hp, g, d, tk, os⟩) _
    case turn =>
      rintro ⟨y, x⟩ rest b s' ⟨hb', rfl, vs, ws, ns', ms', hz, hvi, hwi, hlen, hR⟩
      cases hvi with
      | nil => rw [List.zip_nil_left] at hz; cases hz
      | cons a t hvi' =>
        cases hwi with
        | nil => rw [List.zip_nil_right] at hz; cases hz
        | cons c u hwi' =>
          rw [List.zip_cons_cons] at hz
          injection hz with hyx hrest
          injection hyx with hy hx
          subst hy hx
          rw [lexLt_cons] at hR
          simp only [List.length_cons] at hlen
          obtain ⟨e, he, hiff⟩ := eqAt_int A.in1 ⟨hp, g, d, tk, os⟩ a t c u
          refine wpAny_bind (he prog w _ _ ?_)
          cases e with
          | true =>
            rw [if_pos (hiff.mp rfl)] at hR
            wp_walk
            exact ⟨rfl, rfl, _, _, _, _, hrest, hvi', hwi', by omega, hR⟩
          | false =>
            rw [if_neg (fun q => absurd (hiff.mpr q) Bool.false_ne_true)] at hR
            have hri := rcLt_int A.in1 ⟨hp, g, d, tk, os⟩ a t c u prog w
            wp_walk using hri
            exact ⟨_, rfl, by simpa using hR⟩
    case fin =>
      rintro ⟨b1, b2⟩ s' ⟨hb', rfl, vs, ws, ns', ms', hz, hvi, hwi, hlen, hR⟩
      simp only at hb'
      subst hb'
      have hv : lexLt ns' ms' = decide (items.size < items2.size) := by
        cases hvi with
        | nil =>
          cases hwi with
          | nil =>
            simp only [List.length_nil] at hlen
            rw [lexLt_nil_nil]
            exact (decide_eq_false (by omega)).symm
          | cons c u hw =>
            simp only [List.length_nil, List.length_cons] at hlen
            rw [lexLt_nil_cons]
            exact (decide_eq_true (by omega)).symm
        | cons a t hv =>
          cases hwi with
          | nil =>
            simp only [List.length_nil, List.length_cons] at hlen
            rw [lexLt_cons_nil]
            exact (decide_eq_false (by omega)).symm
          | cons c u hw =>
            rw [List.zip_cons_cons] at hz
            cases hz
      rw [hv] at hR
      wp_walk
      exact ⟨_, rfl, by simpa [Builtin.Tuple.tupleCompareSizes] using hR⟩
    case h =>
      exact ⟨rfl, rfl, items.toList, items2.toList, ns, ms, rfl, hi, hj, by omega, h⟩
end

section
variable {prog : Program} {w : World} {A : Around} {E : Value → Shared → Prop} {s : Shared}

theorem lt_tupInts {l b : Addr} {items items2 : Array Value} {ns ms : List Int} {Q : Value → Shared → Prop} (hl : IsTup s.heap l items) (hb : IsTup s.heap b items2) (hi : IntsAre items.toList ns) (hj : IntsAre items2.toList ms)
    (hu : A.units < cLine) (h : Q (.bool (lexLt ns ms)) s) : wpAny (model prog w) A (compareOp .Lt (.ref l) (.ref b)) Q E s := by
  obtain ⟨⟨cls, dd, data, sl⟩, ho, hc, n, hd⟩ := id hl
  obtain ⟨⟨cls2, dd2, data2, sl2⟩, ho2, hc2, n2, hd2⟩ := id hb
  simp only at hc hd hc2 hd2
  subst hc hd hc2 hd2
  exact richCompare_meets_room (op := .Lt) ⟨_, ho, rfl⟩ ⟨_, ho2, rfl⟩ PySem.F.slot_tuple_lt PySem.F.entry_tuple_lt (PySem.F.args_tuple_lt_2 _ _) (tuple_lt_ints l b items items2 n n2 dd dd2 sl sl2 ns ms hi hj)
    ⟨ho, ho2, show Value.bool (lexLt ns ms) ≠ Value.notImplemented ∧ Q (.bool (lexLt ns ms)) s from ⟨(fun x => nomatch x), h⟩⟩ hu

/-- t + u, t not empty -/
theorem cat_tup {t b : Addr} {vs ws : List Value} {Q : Value → Shared → Prop} (ht : IsTup s.heap t vs.toArray) (hb : IsTup s.heap b ws.toArray) (hv : vs ≠ [])
    (h1 : ws = [] → Q (.ref t) s) (h2 : ws ≠ [] → Q (.ref s.heap.objs.size) { s with heap := s.heap.push { cls := .type "tuple", data := .seq (vs ++ ws).toArray } })
    (hsz : vs.length + ws.length ≤ sizeLine) : wpAny (model prog w) A (binaryOp .Add (.ref t) (.ref b)) Q E s := by
  obtain ⟨⟨cls, dd, data, sl⟩, ho, hc, n, hd⟩ := id ht
  obtain ⟨⟨cls2, dd2, data2, sl2⟩, ho2, hc2, n2, hd2⟩ := id hb
  simp only at hc hd hc2 hd2
  subst hc hd hc2 hd2
  have e : vs.toArray ++ ws.toArray = (vs ++ ws).toArray := by simp
  by_cases hw : ws = []
  · exact concat_meets ⟨_, ho, rfl⟩ ⟨_, ho2, rfl⟩ noFill_tuple_add seq_tuple_add PySem.F.slot_tuple_add PySem.F.entry_tuple_add (PySem.F.args_tuple_add_2 _ _)
      (tuple_addW1 t b vs.toArray ws.toArray n n2 dd dd2 sl sl2 (by simpa using hv) (by simp [hw])) ⟨ho, ho2, h1 hw⟩
  · refine concat_meets ⟨_, ho, rfl⟩ ⟨_, ho2, rfl⟩ noFill_tuple_add seq_tuple_add PySem.F.slot_tuple_add PySem.F.entry_tuple_add (PySem.F.args_tuple_add_2 _ _)
      (tuple_addW2 t b vs.toArray ws.toArray n n2 dd dd2 sl sl2 (by simpa using hv) (by simpa using hw) (by rw [List.size_toArray, List.size_toArray]; exact hsz)) ⟨ho, ho2, ?_⟩
    rw [e]
    exact h2 hw

/-! ### t[a:b], not the whole -/
/-- a slice's bound as a place among n (d where it is left out) -/
def sIx (n d : Nat) : Option Int → Nat
  | none => d
  | some v => if v < 0 then (v + (n : Int)).toNat else min v.toNat n
theorem sIx_none (n d : Nat) : sIx n d none = d := rfl
theorem sIx_nat (n d k : Nat) : sIx n d (some (k : Int)) = min k n := by
  show (if (k : Int) < 0 then ((k : Int) + (n : Int)).toNat else min (k : Int).toNat n) = min k n
  rw [if_neg (by omega), Int.toNat_natCast]
theorem sIx_le (n d : Nat) (hd : d ≤ n) (o : Option Int) : sIx n d o ≤ n := by
  cases o with
  | none => exact hd
  | some v =>
    show (if v < 0 then (v + (n : Int)).toNat else min v.toNat n) ≤ n
    by_cases hv : v < 0
    · rw [if_pos hv]; omega
    · rw [if_neg hv]; exact Nat.min_le_right _ _
theorem clip_eq (v : Int) (n d : Nat) : (if v < 0 then max (v + (n : Int)) 0 else min v (n : Int)) = ((sIx n d (some v) : Nat) : Int) := by
  show (if v < 0 then max (v + (n : Int)) 0 else min v (n : Int)) = (((if v < 0 then (v + (n : Int)).toNat else min v.toNat n) : Nat) : Int)
  by_cases hv : v < 0
  · simp only [if_pos hv]; omega
  · simp only [if_neg hv]; omega
theorem adjust_gen (lo hi : Option Int) (n : Nat) : Builtin.Slice.sliceAdjust lo hi 1 (n : Int) = (((sIx n 0 lo : Nat) : Int), ((sIx n n hi : Nat) : Int)) := by
  have h1 : ¬ ((1 : Int) < 0) := by omega
  unfold Builtin.Slice.sliceAdjust
  simp only [h1, if_false]
  refine Prod.ext ?_ ?_
  · cases lo with
    | none => rfl
    | some v => exact clip_eq v n 0
  · cases hi with
    | none => rfl
    | some v => exact clip_eq v n n
theorem places_gen (i j : Nat) : Builtin.Slice.slicePlaces (i : Int) (j : Int) 1 = j - i := by
  unfold Builtin.Slice.slicePlaces
  have h1 : (1 : Int) > 0 := by omega
  simp only [h1, if_true, Int.ediv_one]
  split <;> omega
theorem slicePart_ {v : Value} {o : Option Int} {Q : Option Int → Shared → Prop} (p : IsPart v o) (h : Q o s) : wpAny (model prog w) A (Builtin.Slice.slicePartIndex v) Q E s := by
  cases p with
  | none => exact slicePart_none h
  | int i t => exact slicePart_int h
theorem sliceApplied_gen {sl : Addr} {vl vu : Value} {lo hi : Option Int} {n : Nat} {Q : Int × Int × Nat → Shared → Prop} (hs : s.heap.IsSliceOf sl vl vu .none) (pl : IsPart vl lo) (pu : IsPart vu hi)
    (h : Q (((sIx n 0 lo : Nat) : Int), 1, sIx n n hi - sIx n 0 lo) s) : wpAny (model prog w) A (Builtin.Slice.sliceApplied (.ref sl) (pure (n : Int))) Q E s := by
  obtain ⟨os, hos, hcs, hds⟩ := id hs
  unfold Builtin.Slice.sliceApplied Builtin.Slice.sliceFields
  refine wpAny_bind (wpAny_bind (wpAny_field hos hds (x := vl) rfl (wpAny_bind (wpAny_field hos hds (x := vu) rfl (wpAny_bind (wpAny_field hos hds (x := .none) rfl (wpAny_pure ?_)))))))
  refine wpAny_bind (slicePart_none ?_)
  show wpAny _ _ (if ((1 : Int) == 0) = true then _ else _) _ _ s
  rw [if_neg (by decide)]
  refine wpAny_bind (slicePart_ pl (wpAny_bind (slicePart_ pu (wpAny_bind (wpAny_pure ?_)))))
  show wpAny _ _ (match Builtin.Slice.sliceAdjust lo hi 1 (n : Int) with | (lo, hi) => pure (lo, (1 : Int), Builtin.Slice.slicePlaces lo hi 1)) _ _ s
  rw [adjust_gen lo hi n]
  show wpAny _ _ (pure (((sIx n 0 lo : Nat) : Int), (1 : Int), Builtin.Slice.slicePlaces ((sIx n 0 lo : Nat) : Int) ((sIx n n hi : Nat) : Int) 1)) _ _ s
  rw [places_gen]
  exact wpAny_pure h
theorem pick_gen (xs : Array Value) (i k : Nat) : ((List.range k).filterMap fun (m : Nat) => xs[((i : Int) + (m : Int) * 1).toNat]?).toArray = ((xs.toList.drop i).take k).toArray := by
  have e : (fun (m : Nat) => xs[((i : Int) + (m : Int) * 1).toNat]?) = fun m => xs[i + m]? := by
    funext m
    have : ((i : Int) + (m : Int) * 1).toNat = i + m := by omega
    rw [this]
  rw [e]
  have := pick_run xs i k
  rw [List.filterMap_map] at this
  have e2 : ((fun x => xs[x]?) ∘ fun x => i + x) = fun m => xs[i + m]? := rfl
  rw [e2] at this
  rw [this]

theorem getItem_tuple_cut {t sl : Addr} {items : Array Value} {vl vu : Value} {lo hi : Option Int} {Q : Value → Shared → Prop} (ht : IsTup s.heap t items) (hs : s.heap.IsSliceOf sl vl vu .none) (pl : IsPart vl lo) (pu : IsPart vu hi)
    (hw : ¬ (sIx items.size 0 lo = 0 ∧ sIx items.size items.size hi = items.size))
    (h : Q (.ref s.heap.objs.size) { s with heap := s.heap.push { cls := .type "tuple", data := .seq ((items.toList.drop (sIx items.size 0 lo)).take (sIx items.size items.size hi - sIx items.size 0 lo)).toArray } })
    (hsz : items.size ≤ sizeLine) : wpAny (model prog w) A (getItem (.ref t) (.ref sl)) Q E s := by
  have htake : sizeOk (.seq ((items.toList.drop (sIx items.size 0 lo)).take (sIx items.size items.size hi - sIx items.size 0 lo)).toArray) := by
    show ((items.toList.drop (sIx items.size 0 lo)).take (sIx items.size items.size hi - sIx items.size 0 lo)).toArray.size ≤ sizeLine
    rw [List.size_toArray, List.length_take, List.length_drop, Array.length_toList]
    omega
  have hj : sIx items.size items.size hi ≤ items.size := sIx_le _ _ (Nat.le_refl _) hi
  obtain ⟨os, hos, hcs, hds⟩ := id hs
  have hTs : s.TypeIs (.ref sl) "slice" := ⟨os, hos, hcs⟩
  unfold getItem
  try with_reducible refine wpAny_holding ?_
  first | refine wpAny_bind (wpAny_pure ?_) | skip
  refine wpAny_bind (wpAny_sequenceKey ht.typeIs (by decide) ?_)
  refine wpAny_bind (wpAny_callSpecial?_slot (name := Str.ofString "__getitem__") ht.typeIs PyProof.Rows.slot_tuple_getitem
    (wpAny_call_entry PyProof.Rows.slot_tuple_getitem ht.typeIs entry_tuple_getitem ?_ (args_tuple_getitem _ _)))
  show wpAny _ _ (Builtin.Tuple.tupleItemsOf (.ref t) >>= _) _ _ s
  refine wpAny_bind (tupleItemsOf_ ht ?_)
  refine wpAny_bind (wpAny_typeOf hTs ?_)
  rw [if_pos (by decide)]
  refine wpAny_bind (sliceApplied_gen hs pl pu ?_)
  have hno : ¬ ((((sIx items.size 0 lo : Nat) : Int) == 0 && (1 : Int) == 1 && (sIx items.size items.size hi - sIx items.size 0 lo) == items.size) = true) := by
    intro q
    rw [Bool.and_eq_true, Bool.and_eq_true] at q
    have q1 : ((sIx items.size 0 lo : Nat) : Int) = 0 := eq_of_beq q.1.1
    have q2 : sIx items.size items.size hi - sIx items.size 0 lo = items.size := eq_of_beq q.2
    exact hw ⟨by omega, by omega⟩
  show wpAny _ _ (if (((sIx items.size 0 lo : Nat) : Int) == 0 && (1 : Int) == 1 && (sIx items.size items.size hi - sIx items.size 0 lo) == items.size) = true then _ else _) _ _ s
  rw [if_neg hno, pick_gen]
  first
    | exact wpAny_bind (m := Builtin.Tuple.tupleExact _) (wpAny_newObj_type (wpAny_pure ⟨_, rfl, wpAny_pure h⟩) htake)
    | exact wpAny_bind (m := Builtin.Tuple.tupleExact _) (wpAny_newObj_type (wpAny_bind (wpAny_pure (wpAny_pure ⟨_, rfl, wpAny_pure h⟩))) htake)
    | exact wpAny_bind (wpAny_bind (m := Builtin.Tuple.tupleExact _) (wpAny_newObj_type (wpAny_pure (wpAny_pure ⟨_, rfl, wpAny_pure h⟩)) htake))
    | exact wpAny_bind (wpAny_bind (m := Builtin.Tuple.tupleExact _) (wpAny_newObj_type (wpAny_pure ⟨_, rfl, wpAny_pure h⟩) htake))
end
end HT

namespace L2
open PySem PySem.Spec PyProof.Rows

/-! ### the parts of a slice -/
abbrev TO := St → Hp → (Option Int → Hp → Prop) → Prop
/-- a slice's part (left out, or an int) -/
def PO (X : Cx) (e : Option Expr) (t : TO) : Prop :=
  ∀ (pins : List (Addr × Obj)) (s : Shared) (σ : St) (H : Hp) (Q : Option Int → Hp → Prop), Inv X pins σ H s → t σ H Q →
    wpAny (model X.prog X.w) X.A (evalPart e X.env) (fun u s' => ∃ o H', Inv X pins σ H' s' ∧ IsPart u o ∧ Q o H') X.xe s
def tNoPart : TO := fun _ H Q => Q none H
def tPart (t : TE) : TO := fun σ H Q => t σ H fun x H1 => ∃ i, x = .int i ∧ Q (some i) H1

theorem intsAre_of {ns : List Int} : ∀ {us : List Value}, Vals (ns.map V.int) us → IntsAre us ns := by
  induction ns with
  | nil => intro us r; rw [List.map_nil] at r; cases r; exact .nil
  | cons n ns ih =>
    intro us r
    rw [List.map_cons] at r
    cases r with
    | cons r1 r2 =>
      obtain ⟨t, e⟩ := r1
      subst e
      exact .cons n t (ih r2)

section
variable {X : Cx} {e : Expr} {te : TE} {lo hi : Option Expr} {tl th : TO} {pos p2 : Pos}

theorem po_none : PO X none tNoPart := by
  intro pins s σ H Q I h
  rw [evalPart_none]
  exact wpAny_pure ⟨none, H, I, .none, h⟩
theorem po_some (h : PE X e te) : PO X (some e) (tPart te) := by
  intro pins s σ H Q I hw
  rw [evalPart_some]
  refine thn (h pins s σ H _ I hw) fun u s1 ⟨x, H1, I1, r1, q1⟩ => ?_
  obtain ⟨i, rfl, q⟩ := q1
  obtain ⟨t, rfl⟩ := r1
  exact ⟨some i, H1, I1, .int i t, q⟩

/-- what a slice of a value is, by values: the slice object stands at sl -/
def SlR (X : Cx) (r : V → Option Int → Option Int → Hp → VK → Prop) : Prop :=
  ∀ (pins : List (Addr × Obj)) (s : Shared) (σ : St) (H : Hp) (x : V) (v vl vu : Value) (lo hi : Option Int) (sl : Addr) (Q : VK), Inv X pins σ H s → RelV x v → s.heap.IsSliceOf sl vl vu .none → IsPart vl lo → IsPart vu hi → r x lo hi H Q →
    ∃ T id, typeLookup (.type T) "__getitem__" = pure (some (.builtin id)) ∧ s.TypeIs v T ∧ wpAny (model X.prog X.w) X.A (getItem v (.ref sl)) (EP X pins σ Q) X.xe s
theorem SlR.or {r r' : V → Option Int → Option Int → Hp → VK → Prop} (h : SlR X r) (h' : SlR X r') : SlR X (fun x lo hi H Q => r x lo hi H Q ∨ r' x lo hi H Q) := by
  intro pins s σ H x v vl vu lo hi sl Q I rx hs pl pu q
  rcases q with q | q
  · exact h pins s σ H x v vl vu lo hi sl Q I rx hs pl pu q
  · exact h' pins s σ H x v vl vu lo hi sl Q I rx hs pl pu q
def tSl (r : V → Option Int → Option Int → Hp → VK → Prop) (te : TE) (tl th : TO) : TE := fun σ H Q => te σ H fun x H1 => tl σ H1 fun l H2 => th σ H2 fun u H3 => r x l u H3 Q
/-- a[lo:hi], any a -/
theorem pe_slice {r : V → Option Int → Option Int → Hp → VK → Prop} (hr : SlR X r) (he : PE X e te) (hl : PO X lo tl) (hu : PO X hi th) : PE X (.Subscript e (.Slice lo hi none p2) pos) (tSl r te tl th) := by
  intro pins s σ H Q I h
  refine Subscript_ (thn (he pins s σ H _ I h) fun v s1 ⟨x, H1, I1, r1, q1⟩ => ?_)
  refine wpAny_Slice (thn (hl pins s1 σ H1 _ I1 q1) fun vl s2 ⟨l, H2, I2, pl, q2⟩ => thn (hu pins s2 σ H2 _ I2 q2) fun vu s3 ⟨u, H3, I3, pu, q3⟩ => ?_)
  rw [evalPart_none]
  refine wpAny_pure ?_
  have I4 : Inv X pins σ H3 { s3 with heap := s3.heap.push { cls := .type "slice", data := .fields #[vl, vu, .none] } } := I3.kept (t' := s3.toks) fun b ob q => Heap.get?_push_of_some _ q
  obtain ⟨T, id, hT, ht, hg⟩ := hr pins { s3 with heap := s3.heap.push { cls := .type "slice", data := .fields #[vl, vu, .none] } } σ H3 x v vl vu l u s3.heap.objs.size Q I4 r1 (Heap.IsSliceOf.new ..) pl pu q3
  show wpAny (model X.prog X.w) X.A (subscriptTail e (.Slice lo hi none p2) v (.ref s3.heap.objs.size)) (EP X pins σ Q) X.xe { s3 with heap := s3.heap.push { cls := .type "slice", data := .fields #[vl, vu, .none] } }
  exact tail_any (ops := [.ref s3.heap.objs.size, v]) ht hT hg (by with_unfolding_all rfl)

/-- the items of xs[lo:hi] -/
def cutV (xs : List V) (lo hi : Option Int) : List V := (xs.drop (HT.sIx xs.length 0 lo)).take (HT.sIx xs.length xs.length hi - HT.sIx xs.length 0 lo)
theorem cutV_length (xs : List V) (lo hi : Option Int) : (cutV xs lo hi).length ≤ xs.length := by
  unfold cutV
  rw [List.length_take, List.length_drop]
  omega
/-- t[lo:hi], not the whole of it (the whole would be t itself) -/
def rSlT (K : PySem.W.Frag) : V → Option Int → Option Int → Hp → VK → Prop := fun x lo hi H Q => ∃ a xs, x = .ref a ∧ SqT K H a xs ∧
  ¬ (HT.sIx xs.length 0 lo = 0 ∧ HT.sIx xs.length xs.length hi = xs.length) ∧ ∀ p, H p = none → Q (.ref p) (upd H p (.tup (cutV xs lo hi)))
theorem sl_tup : SlR X (rSlT X.K) := by
  intro pins s σ H x v vl vu lo hi sl Q I rx hs pl pu h
  obtain ⟨a, xs, rfl, hx, hw, q⟩ := h
  cases rx
  obtain ⟨its, r, ht, hz⟩ := I.tuple hx
  have hlen : its.toArray.size = xs.length := by rw [List.size_toArray]; exact r.length.symm
  refine ⟨"tuple", _, PyProof.Rows.slot_tuple_getitem.lookup, ht.typeIs, ?_⟩
  refine HT.getItem_tuple_cut ht hs pl pu (by rw [hlen]; exact hw) ?_ (by rw [hlen]; exact hz)
  rw [hlen]
  refine ⟨.ref s.heap.objs.size, _, I.laid (t' := s.toks) (o := .tup (cutV xs lo hi)) (fun b ob q => Heap.get?_push_of_some _ q) (Nat.le_refl _) ?_, rfl, q _ (I.hok.fresh (Nat.le_refl _))⟩
  exact ⟨Nat.le_trans (cutV_length xs lo hi) hz, _, (r.drop (HT.sIx xs.length 0 lo)).take (HT.sIx xs.length xs.length hi - HT.sIx xs.length 0 lo), IsTup.new _ _⟩

/-! ### t < u, t + u -/
def rLtT (K : PySem.W.Frag) : R2 := fun x y H Q => ∃ a b ns ms, x = .ref a ∧ y = .ref b ∧ SqT K H a (ns.map V.int) ∧ SqT K H b (ms.map V.int) ∧ Q (.bl (HT.lexLt ns ms)) H
theorem op_ltT (hu : X.A.units < cLine) : OpR X (compareOp .Lt) (rLtT X.K) := by
  intro pins s σ H x y v u Q I rx ry h
  obtain ⟨a, b, ns, ms, rfl, rfl, ha, hb, q⟩ := h
  cases rx
  cases ry
  obtain ⟨its, r1, p1, _⟩ := I.tuple ha
  obtain ⟨its2, r2, p2, _⟩ := I.tuple hb
  have i1 : IntsAre its.toArray.toList ns := intsAre_of r1
  have i2 : IntsAre its2.toArray.toList ms := intsAre_of r2
  exact HT.lt_tupInts p1 p2 i1 i2 hu ⟨.bl (HT.lexLt ns ms), H, I, rfl, q⟩
/-- t + u, t not empty: u empty gives t itself -/
def rCatT (K : PySem.W.Frag) : R2 := fun x y H Q => ∃ a b xs ys, x = .ref a ∧ y = .ref b ∧ SqT K H a xs ∧ SqT K H b ys ∧ xs ≠ [] ∧ xs.length + ys.length ≤ sizeLine ∧
  (ys = [] → Q (.ref a) H) ∧ (ys ≠ [] → ∀ p, H p = none → Q (.ref p) (upd H p (.tup (xs ++ ys))))
theorem Vals.nil_iff {xs : List V} {us : List Value} (r : Vals xs us) : us = [] ↔ xs = [] := by
  cases r with
  | nil => simp
  | cons _ _ => simp
theorem op_catT : OpR X (binaryOp .Add) (rCatT X.K) := by
  intro pins s σ H x y v u Q I rx ry h
  obtain ⟨a, b, xs, ys, rfl, rfl, ha, hb, hx, hz, q1, q2⟩ := h
  cases rx
  cases ry
  obtain ⟨its, r1, p1, _⟩ := I.tuple ha
  obtain ⟨its2, r2, p2, _⟩ := I.tuple hb
  refine HT.cat_tup p1 p2 (fun z => hx (r1.nil_iff.mp z)) (fun z => ⟨.ref a, H, I, rfl, q1 (r2.nil_iff.mp z)⟩) (fun z => ?_) (by rw [← r1.length, ← r2.length]; exact hz)
  refine ⟨.ref s.heap.objs.size, _, I.laid (t' := s.toks) (o := .tup (xs ++ ys)) (fun b ob q => Heap.get?_push_of_some _ q) (Nat.le_refl _) ?_, rfl, q2 (fun w => z (r2.nil_iff.mpr w)) _ (I.hok.fresh (Nat.le_refl _))⟩
  exact ⟨by rw [List.length_append]; exact hz, _, r1.append r2, IsTup.new _ _⟩
/-- tuple(t) -/
theorem call_tupleT : CallR X (.type "tuple") (fun xs H Q => ∃ a ys, xs = [.ref a] ∧ SqT X.K H a ys ∧ Q (.ref a) H) := by
  intro pins s σ H xs us Q I r h
  obtain ⟨a, ys, rfl, ha, q⟩ := h
  obtain ⟨u, rfl, ru⟩ := vals1 r
  cases ru
  obtain ⟨its, _, p1, _⟩ := I.tuple ha
  exact call_tuple_same (items := its.toArray) p1 ⟨.ref a, H, I, rfl, q⟩
end
end L2

namespace L2
open PySem PySem.Spec PyProof.Rows

/-! ### places -/
/-- the place that an index of any sign means -/
def ixN (n : Nat) (i : Int) : Option Nat := if 0 ≤ i then (if i < n then some i.toNat else none) else if -(n : Int) ≤ i then some (i + n).toNat else none
def atI {α : Type} (xs : List α) (i : Int) : Option α := (ixN xs.length i).bind fun j => xs[j]?
theorem ixN_seq {n : Nat} {i : Int} {j : Nat} (h : ixN n i = some j) : seqIndex? i n = some j ∧ j < n ∧ -(n : Int) ≤ i ∧ i < n := by
  unfold ixN at h
  by_cases h0 : 0 ≤ i
  · rw [if_pos h0] at h
    by_cases h1 : i < n
    · rw [if_pos h1] at h
      have e : i.toNat = j := Option.some.inj h
      exact ⟨by rw [seqIndex_of h0 h1, e], by omega, by omega, h1⟩
    · rw [if_neg h1] at h; cases h
  · rw [if_neg h0] at h
    by_cases h1 : -(n : Int) ≤ i
    · rw [if_pos h1] at h
      have e : (i + n).toNat = j := Option.some.inj h
      exact ⟨by rw [seqIndex_neg (by omega) h1, e], by omega, h1, by omega⟩
    · rw [if_neg h1] at h; cases h
theorem atI_get {α : Type} {xs : List α} {i : Int} {v : α} (h : atI xs i = some v) : ∃ j, seqIndex? i xs.length = some j ∧ xs[j]? = some v ∧ j < xs.length ∧ -(xs.length : Int) ≤ i ∧ i < xs.length := by
  unfold atI at h
  cases e : ixN xs.length i with
  | none => rw [e] at h; cases h
  | some j =>
    rw [e] at h
    obtain ⟨h1, h2, h3, h4⟩ := ixN_seq e
    exact ⟨j, h1, h, h2, h3, h4⟩
theorem atI_nat {α : Type} {xs : List α} {j : Nat} {v : α} (h : xs[j]? = some v) : atI xs (j : Int) = some v := by
  have hj : j < xs.length := (List.getElem?_eq_some_iff.mp h).1
  have e : ixN xs.length (j : Int) = some j := by
    unfold ixN
    rw [if_pos (by omega), if_pos (by omega)]; simp
  unfold atI; rw [e]; exact h
theorem atI_last {α : Type} (xs : List α) (v : α) : atI (xs ++ [v]) (-1) = some v := by
  have hl : (xs ++ [v]).length = xs.length + 1 := by simp
  have e : ixN (xs ++ [v]).length (-1) = some xs.length := by
    unfold ixN
    rw [hl, if_neg (by decide), if_pos (by omega)]
    congr 1
    omega
  unfold atI
  rw [e]
  show (xs ++ [v])[xs.length]? = some v
  simp

/-! ### what may be subscripted -/
/-- what stands as an index of a plain subscript -/
def PlainIx (b : Expr) : Prop := ∀ o i, subscripted b false o i = operate [o, i] (getItem o i)
/-- a subscript by values -/
def IxR (X : Cx) (r : R2) : Prop :=
  ∀ (value slice : Expr) (pins : List (Addr × Obj)) (s : Shared) (σ : St) (H : Hp) (x y : V) (v u : Value) (Q : VK), Inv X pins σ H s → RelV x v → RelV y u → r x y H Q →
    subscripted slice false v u = operate [v, u] (getItem v u) → wpAny (model X.prog X.w) X.A (subscriptTail value slice v u) (EP X pins σ Q) X.xe s
/-- a call of a builtin's method by values: the receiver, the arguments -/
def MtR (X : Cx) (id : String) (r : V → List V → Hp → VK → Prop) : Prop :=
  ∀ (pins : List (Addr × Obj)) (s : Shared) (σ : St) (H : Hp) (x : V) (xs : List V) (v : Value) (us : List Value) (Q : VK), Inv X pins σ H s → RelV x v → Vals xs us → r x xs H Q →
    wpAny (model X.prog X.w) X.A (call (.builtin id) (v :: us)) (EP X pins σ Q) X.xe s
section
variable {X : Cx} {a b : Expr} {ta tb : TE} {pos : Pos}
theorem IxR.or {r r' : R2} (h : IxR X r) (h' : IxR X r') : IxR X (fun x y H Q => r x y H Q ∨ r' x y H Q) := by
  intro value slice pins s σ H x y v u Q I rx ry q hs
  rcases q with q | q
  · exact h value slice pins s σ H x y v u Q I rx ry q hs
  · exact h' value slice pins s σ H x y v u Q I rx ry q hs
theorem MtR.or {id : String} {r r' : V → List V → Hp → VK → Prop} (h : MtR X id r) (h' : MtR X id r') : MtR X id (fun x xs H Q => r x xs H Q ∨ r' x xs H Q) := by
  intro pins s σ H x xs v us Q I rx rs q
  rcases q with q | q
  · exact h pins s σ H x xs v us Q I rx rs q
  · exact h' pins s σ H x xs v us Q I rx rs q
/-- a[b] -/
theorem pe_ix {r : R2} (hr : IxR X r) (ha : PE X a ta) (hb : PE X b tb) (hs : PlainIx b) : PE X (.Subscript a b pos) (tOp r ta tb) := by
  intro pins s σ H Q I h
  exact Subscript_ (binT ha hb I h fun v u s2 x y H2 I2 rx ry q => hr a b pins s2 σ H2 x y v u Q I2 rx ry q (hs _ _))

def rIxL (K : PySem.W.Frag) : R2 := fun x y H Q => ∃ p xs i v, x = .ref p ∧ y = .int i ∧ SqL K H p xs ∧ atI xs i = some v ∧ Q v H
def rIxT (K : PySem.W.Frag) : R2 := fun x y H Q => ∃ p xs i v, x = .ref p ∧ y = .int i ∧ SqT K H p xs ∧ atI xs i = some v ∧ Q v H
def rIxS : R2 := fun x y H Q => ∃ z i c, x = .str z ∧ y = .int i ∧ z.length ≤ sizeLine ∧ atI z.cps.toList i = some c ∧ Q (.str ⟨#[c]⟩) H
theorem ix_list : IxR X (rIxL X.K) := by
  intro value slice pins s σ H x y v u Q I rx ry h hs
  obtain ⟨p, xs, i, z, rfl, rfl, hq, he, q⟩ := h
  cases rx
  obtain ⟨t, rfl⟩ := ry
  obtain ⟨its, r, pl, hz⟩ := I.list hq
  obtain ⟨j, h1, h2, h3, h4, h5⟩ := atI_get he
  obtain ⟨w, ew, rw'⟩ := r.get h2
  have hl := r.length
  have hn := line63
  have fin : EP X pins σ Q w s := ⟨z, H, I, rw', q⟩
  by_cases h0 : 0 ≤ i
  · have hj : i.toNat = j := by
      rw [seqIndex_of h0 h5] at h1
      exact Option.some.inj h1
    exact item_listR pl.isList h0 (by omega) (by rw [hj]; simpa using ew) fin hs
  · have hj : (i + (its.toArray.size : Int)).toNat = j := by
      rw [seqIndex_neg (by omega) h4] at h1
      rw [List.size_toArray, ← hl]
      exact Option.some.inj h1
    exact subscriptTail_builtinR (x := w) pl.isList.typeIs slot_list_getitem.lookup
      (wpAny_getItem_list_neg (Q := fun r s' => r = w ∧ EP X pins σ Q r s') pl.isList (by omega) (by rw [List.size_toArray] <;> omega) (by omega) (by rw [hj]; simpa using ew) ⟨rfl, fin⟩) hs
theorem ix_tup : IxR X (rIxT X.K) := by
  intro value slice pins s σ H x y v u Q I rx ry h hs
  obtain ⟨p, xs, i, z, rfl, rfl, hq, he, q⟩ := h
  cases rx
  obtain ⟨t, rfl⟩ := ry
  obtain ⟨its, r, pl, hz⟩ := I.tuple hq
  obtain ⟨j, h1, h2, h3, h4, h5⟩ := atI_get he
  obtain ⟨w, ew, rw'⟩ := r.get h2
  have hl := r.length
  have hn := line63
  have fin : EP X pins σ Q w s := ⟨z, H, I, rw', q⟩
  exact subscriptTail_builtinR (x := w) pl.typeIs slot_tuple_getitem.lookup
    (getItem_tuple (j := j) (Q := fun r s' => r = w ∧ EP X pins σ Q r s') pl (by omega) (by omega) (by rw [List.size_toArray, ← hl]; exact h1) (by simpa using ew) ⟨rfl, fin⟩) hs
theorem ix_str : IxR X rIxS := by
  intro value slice pins s σ H x y v u Q I rx ry h hs
  obtain ⟨z, i, c, rfl, rfl, hz, he, q⟩ := h
  obtain ⟨t, rfl⟩ := rx
  obtain ⟨t', rfl⟩ := ry
  obtain ⟨j, h1, h2, h3, h4, h5⟩ := atI_get he
  have hl : z.cps.toList.length = z.length := by simp [Str.length]
  rw [hl] at h1 h4 h5
  have hn := line63
  exact tail_any (typeIs_str s z t) slot_str_getitem.lookup (getItem_str (c := c) (by
    have e1 : decide (i < -(2 ^ 63 : Int)) = false := decide_eq_false (by omega)
    have e2 : decide (i ≥ 2 ^ 63) = false := decide_eq_false (by omega)
    rw [e1, e2, Bool.or_false]) (by rw [h1]; simpa using h2) ⟨.str ⟨#[c]⟩, H, I.tok _, ⟨_, rfl⟩, q⟩) hs
/-- list, tuple or str -/
def rIx (K : PySem.W.Frag) : R2 := fun x y H Q => rIxL K x y H Q ∨ rIxT K x y H Q ∨ rIxS x y H Q
theorem ix_seq : IxR X (rIx X.K) := ix_list.or (ix_tup.or ix_str)

/-! ### xs[i] = v, any sign -/
/-- the list's object behind a store -/
theorem mapSeq_set (its : List Value) (n j : Nat) (u : Value) : Obj.mapSeq (·.setIfInBounds j u) { cls := .type "list", data := .seq its.toArray n } = { cls := .type "list", data := .seq (its.set j u).toArray n } := by
  simp [Obj.mapSeq]
theorem Inv.lst {pins : List (Addr × Obj)} {σ : St} {H : Hp} {s : Shared} {p : Addr} {xs : List V} (I : Inv X pins σ H s) (h : H p = some (.lst xs)) :
    ∃ (its : List Value) (n : Nat), Vals xs its ∧ s.heap.get? p = some { cls := .type "list", data := .seq its.toArray n } ∧ xs.length ≤ sizeLine := by
  obtain ⟨z, its, n, r, e⟩ := I.hok p _ h
  exact ⟨its, n, r, e, z⟩
/-- the list at p is written by an update of its object -/
theorem Inv.lstUpd {pins : List (Addr × Obj)} {σ : St} {H : Hp} {s : Shared} {p : Addr} {xs ys : List V} {its its' : List Value} {n n' : Nat} {f : Obj → Obj} (I : Inv X pins σ H s) (h : H p = some (.lst xs))
    (ho : s.heap.get? p = some { cls := .type "list", data := .seq its.toArray n }) (hf : f { cls := .type "list", data := .seq its.toArray n } = { cls := .type "list", data := .seq its'.toArray n' }) (r : Vals ys its') (hz : ys.length ≤ sizeLine) (t : Nat) :
    Inv X pins σ (upd H p (.lst ys)) { s with heap := s.heap.update p f, toks := t } := by
  have e : (s.heap.update p f).get? p = some { cls := .type "list", data := .seq its'.toArray n' } := by
    rw [Heap.get?_update_self f ho (by rw [hf] <;> rfl), hf]
  refine I.write (x := p) (e := p) (by rw [h]; trivial) (.inl rfl) (fun b u hb q => (Heap.get?_update_other _ _ (Ne.symm hb)).trans q) ⟨_, e⟩ ?_
  exact ⟨hz, its', n', r, e⟩
def rSetL : V → V → V → Hp → (Hp → Prop) → Prop := fun o i v H Q => ∃ p xs k j, o = .ref p ∧ i = .int k ∧ H p = some (.lst xs) ∧ ixN xs.length k = some j ∧ Q (upd H p (.lst (xs.set j v)))
theorem set_list : PSet X rSetL := by
  intro pins s σ H o i v ov iv u Q I ro ri rv h
  obtain ⟨p, xs, k, j, rfl, rfl, hp, hj, q⟩ := h
  cases ro
  obtain ⟨t, rfl⟩ := ri
  obtain ⟨its, n, r, ho, hz⟩ := I.lst hp
  obtain ⟨h1, h2, h3, h4⟩ := ixN_seq hj
  have hl := r.length
  have hn := line63
  have I' : Inv X pins σ (upd H p (.lst (xs.set j v))) { s with heap := s.heap.update p (Obj.mapSeq (·.setIfInBounds j u)) } :=
    I.lstUpd hp ho (mapSeq_set its n j u) (r.set rv j) (by rw [List.length_set]; exact hz) s.toks
  by_cases h0 : 0 ≤ k
  · have hk : k.toNat = j := by
      rw [seqIndex_of h0 h4] at h1
      exact Option.some.inj h1
    exact PySem.W.ki_setAt ho h0 (by omega) (by rw [List.size_toArray, ← hl]; exact h4) (by rw [hk]; exact ⟨_, I', q⟩)
  · have hk : (k + (its.toArray.size : Int)).toNat = j := by
      rw [seqIndex_neg (by omega) h3] at h1
      rw [List.size_toArray, ← hl]
      exact Option.some.inj h1
    exact PySem.W.ki_setBack ho (by omega) (by rw [List.size_toArray, ← hl]; exact h3) (by omega) (by rw [hk]; exact ⟨_, I', q⟩)

/-! ### slices -/
theorem slice_bounds (lo hi : Option Int) (n : Nat) : (sliceBounds lo hi none n).1 = ((HT.sIx n 0 lo : Nat) : Int) ∧ (sliceBounds lo hi none n).2.1 = ((HT.sIx n n hi : Nat) : Int) ∧ (sliceBounds lo hi none n).2.2 = 1 := by
  refine ⟨?_, ?_, rfl⟩
  · cases lo with
    | none => simp [sliceBounds, HT.sIx]
    | some i =>
      simp only [sliceBounds, HT.sIx, Option.getD_none, show (1 : Int) > 0 by decide, if_true]
      by_cases h : i < 0
      · simp only [h, if_true] <;> omega
      · simp only [h, if_false] <;> omega
  · cases hi with
    | none => simp [sliceBounds, HT.sIx]
    | some i =>
      simp only [sliceBounds, HT.sIx, Option.getD_none, show (1 : Int) > 0 by decide, if_true]
      by_cases h : i < 0
      · simp only [h, if_true] <;> omega
      · simp only [h, if_false] <;> omega
theorem slicePick_cut (its : List Value) (lo hi : Option Int) : slicePick its.toArray lo hi none = ((its.drop (HT.sIx its.length 0 lo)).take (HT.sIx its.length its.length hi - HT.sIx its.length 0 lo)).toArray := by
  obtain ⟨h1, h2, h3⟩ := slice_bounds lo hi its.toArray.size
  unfold slicePick
  rw [h1, h2, h3]
  simp only [sliceRange_one, pick_run, List.size_toArray] <;> rfl
/-- xs[lo:hi] of a list: a new list -/
def rSlL (K : PySem.W.Frag) : V → Option Int → Option Int → Hp → VK → Prop := fun x lo hi H Q => ∃ a xs, x = .ref a ∧ SqL K H a xs ∧ ∀ p, H p = none → Q (.ref p) (upd H p (.lst (cutV xs lo hi)))
theorem sl_list : SlR X (rSlL X.K) := by
  intro pins s σ H x v vl vu lo hi sl Q I rx hs pl pu h
  obtain ⟨a, xs, rfl, hx, q⟩ := h
  cases rx
  obtain ⟨its, r, ht, hz⟩ := I.list hx
  have hlen := r.length
  refine ⟨"list", _, slot_list_getitem.lookup, ht.isList.typeIs, ?_⟩
  refine wpAny_getItem_list_slice ht.isList hs pl pu .none (by simp) ?_ (by rw [List.size_toArray] <;> omega)
  rw [slicePick_cut, ← hlen]
  refine ⟨.ref s.heap.objs.size, _, I.laid (t' := s.toks) (o := .lst (cutV xs lo hi)) (fun b ob q => Heap.get?_push_of_some _ q) (Nat.le_refl _) ?_, rfl, q _ (I.hok.fresh (Nat.le_refl _))⟩
  exact ⟨Nat.le_trans (cutV_length xs lo hi) hz, _, 0, (r.drop (HT.sIx xs.length 0 lo)).take (HT.sIx xs.length xs.length hi - HT.sIx xs.length 0 lo), Heap.get?_push_size _ rfl⟩

/-! ### in, not in: flat items -/
def flatV : V → Bool
  | .non => true
  | .bl _ => true
  | .int _ => true
  | .str _ => true
  | _ => false
/-- == of flat values -/
def eqV : V → V → Bool
  | .non, .non => true
  | .bl a, .bl b => a == b
  | .bl a, .int b => (if a then 1 else 0) == b
  | .int a, .bl b => a == (if b then 1 else 0)
  | .int a, .int b => a == b
  | .str a, .str b => a == b
  | _, _ => false
theorem eqAt_V {A : Around} {s : Shared} {y x : V} {u v : Value} (ry : RelV y u) (rx : RelV x v) (fy : flatV y = true) (fx : flatV x = true) : SeqAt.EqAt A s u v (eqV y x) := by
  cases y with
  | non =>
    cases ry
    cases x with
    | non => cases rx; exact SeqAt.EqAt.same _
    | bl b => cases rx; exact SeqAt.EqAt.none_bool b
    | int b => obtain ⟨t, rfl⟩ := rx; exact SeqAt.EqAt.none_int b t
    | str b => obtain ⟨t, rfl⟩ := rx; exact SeqAt.EqAt.none_str b t
    | _ => exact absurd (show false = true from fx) Bool.false_ne_true
  | bl a =>
    cases ry
    cases x with
    | non => cases rx; exact SeqAt.EqAt.bool_none a
    | bl b => cases rx; exact SeqAt.EqAt.bool_bool a b
    | int b => obtain ⟨t, rfl⟩ := rx; exact SeqAt.EqAt.bool_int a b t
    | str b => obtain ⟨t, rfl⟩ := rx; exact SeqAt.EqAt.bool_str a b t
    | _ => exact absurd (show false = true from fx) Bool.false_ne_true
  | int a =>
    obtain ⟨t', rfl⟩ := ry
    cases x with
    | non => cases rx; exact SeqAt.EqAt.int_none a t'
    | bl b => cases rx; exact SeqAt.EqAt.int_bool a t' b
    | int b => obtain ⟨t, rfl⟩ := rx; exact SeqAt.EqAt.int_int a t' b t
    | str b => obtain ⟨t, rfl⟩ := rx; exact SeqAt.EqAt.int_str a t' b t
    | _ => exact absurd (show false = true from fx) Bool.false_ne_true
  | str a =>
    obtain ⟨t', rfl⟩ := ry
    cases x with
    | non => cases rx; exact SeqAt.EqAt.str_none a t'
    | bl b => cases rx; exact SeqAt.EqAt.str_bool a t' b
    | int b => obtain ⟨t, rfl⟩ := rx; exact SeqAt.EqAt.str_int a t' b t
    | str b => obtain ⟨t, rfl⟩ := rx; exact SeqAt.EqAt.str_str a t' b t
    | _ => exact absurd (show false = true from fx) Bool.false_ne_true
  | _ => exact absurd (show false = true from fy) Bool.false_ne_true
/-- the items' answers, read off the values (a value's own answer does not lean on its token) -/
def eqU (x : V) (u : Value) : Bool := match u with
  | .none => eqV .non x
  | .bool b => eqV (.bl b) x
  | .int i _ => eqV (.int i) x
  | .str z _ => eqV (.str z) x
  | _ => false
theorem eqU_of {x y : V} {u : Value} (r : RelV y u) (f : flatV y = true) : eqU x u = eqV y x := by
  cases y with
  | non => cases r; rfl
  | bl b => cases r; rfl
  | int i => obtain ⟨t, rfl⟩ := r; rfl
  | str z => obtain ⟨t, rfl⟩ := r; rfl
  | _ => exact absurd (show false = true from f) Bool.false_ne_true
theorem any_eqU {x : V} : ∀ {xs : List V} {us : List Value}, Vals xs us → xs.all flatV = true → us.any (eqU x) = xs.any fun y => eqV y x
  | _, _, .nil, _ => rfl
  | y :: xs, u :: us, .cons r t, f => by
    rw [List.all_cons, Bool.and_eq_true] at f
    rw [List.any_cons, List.any_cons, eqU_of r f.1, any_eqU t f.2]
theorem mem_eqAt {A : Around} {s : Shared} {x : V} {v : Value} (rx : RelV x v) (fx : flatV x = true) : ∀ {xs : List V} {us : List Value}, Vals xs us → xs.all flatV = true → ∀ u ∈ us, SeqAt.EqAt A s u v (eqU x u)
  | _, _, .nil, _ => fun u hu => by cases hu
  | y :: xs, u :: us, .cons r t, f => fun u' hu => by
    rw [List.all_cons, Bool.and_eq_true] at f
    rcases List.mem_cons.mp hu with rfl | hu
    · rw [eqU_of r f.1]; exact eqAt_V r rx f.1 fx
    · exact mem_eqAt rx fx t f.2 u' hu
def inV (x : V) (xs : List V) : Bool := xs.any fun y => eqV y x
/-- x in a list or tuple of flat items -/
def rIn (K : PySem.W.Frag) (neg : Bool) : R2 := fun x y H Q => ∃ p xs, y = .ref p ∧ (SqL K H p xs ∨ SqT K H p xs) ∧ flatV x = true ∧ xs.all flatV = true ∧ Q (.bl (if neg then !inV x xs else inV x xs)) H
theorem op_in_seq : OpR X (compareOp .In) (rIn X.K false) := by
  intro pins s σ H x y v u Q I rx ry h
  obtain ⟨p, xs, rfl, hq, fx, fs, q⟩ := h
  cases ry
  rcases hq with hq | hq
  · obtain ⟨its, r, pl, hz⟩ := I.list hq
    refine SeqAt.in_listAt (eqU x) pl.isList (fun w hw => mem_eqAt rx fx r fs w (by simpa using hw)) ⟨.bl _, H, I, rfl, ?_⟩
    rw [show its.toArray.any (eqU x) = its.any (eqU x) by simp, any_eqU r fs]
    exact q
  · obtain ⟨its, r, pl, hz⟩ := I.tuple hq
    refine SeqAt.in_tupleAt (eqU x) pl (fun w hw => mem_eqAt rx fx r fs w (by simpa using hw)) ⟨.bl _, H, I, rfl, ?_⟩
    rw [show its.toArray.any (eqU x) = its.any (eqU x) by simp, any_eqU r fs]
    exact q
theorem op_notIn_seq : OpR X (compareOp .NotIn) (rIn X.K true) := by
  intro pins s σ H x y v u Q I rx ry h
  obtain ⟨p, xs, rfl, hq, fx, fs, q⟩ := h
  cases ry
  rcases hq with hq | hq
  · obtain ⟨its, r, pl, hz⟩ := I.list hq
    refine SeqAt.notIn_listAt (eqU x) pl.isList (fun w hw => mem_eqAt rx fx r fs w (by simpa using hw)) ⟨.bl _, H, I, rfl, ?_⟩
    rw [show its.toArray.any (eqU x) = its.any (eqU x) by simp, any_eqU r fs]
    exact q
  · obtain ⟨its, r, pl, hz⟩ := I.tuple hq
    refine SeqAt.notIn_tupleAt (eqU x) pl (fun w hw => mem_eqAt rx fx r fs w (by simpa using hw)) ⟨.bl _, H, I, rfl, ?_⟩
    rw [show its.toArray.any (eqU x) = its.any (eqU x) by simp, any_eqU r fs]
    exact q
theorem op_notIn_str : OpR X (compareOp .NotIn) (fun x y H Q => ∃ i j, x = .str i ∧ y = .str j ∧ Q (.bl (!(!(Builtin.Str.occurrences j i 0 j.length 1).isEmpty))) H) := by
  intro pins s σ H x y v u Q I rx ry h
  obtain ⟨i, j, rfl, rfl, q⟩ := h
  obtain ⟨t, rfl⟩ := rx
  obtain ⟨t', rfl⟩ := ry
  exact notIn_str ⟨.bl _, H, I, rfl, q⟩

/-! ### len, list(x), tuple(x) of any list or tuple that is read -/
theorem call_len_seq : CallR X (.builtin "len") (fun xs H Q => ∃ p ys, xs = [.ref p] ∧ (SqL X.K H p ys ∨ SqT X.K H p ys) ∧ Q (.int ys.length) H) := by
  intro pins s σ H xs us Q I r h
  obtain ⟨p, ys, rfl, hq, q⟩ := h
  obtain ⟨u, rfl, rx⟩ := vals1 r
  cases rx
  have hn := line63
  rcases hq with hq | hq
  · obtain ⟨its, r', pl, hz⟩ := I.list hq
    have hlen := r'.length
    exact Calls.call_len_list pl.isList (by simp only [List.size_toArray] <;> omega) ⟨.int ys.length, H, I.tok _, ⟨s.toks + 1, by rw [List.size_toArray, hlen]⟩, q⟩
  · obtain ⟨its, r', pl, hz⟩ := I.tuple hq
    have hlen := r'.length
    exact len_tuple pl (by simp only [List.size_toArray] <;> omega) ⟨.int ys.length, H, I.tok _, ⟨s.toks + 1, by rw [List.size_toArray, hlen]⟩, q⟩
theorem call_len_str : CallR X (.builtin "len") (fun xs H Q => ∃ z, xs = [.str z] ∧ z.length ≤ sizeLine ∧ Q (.int z.length) H) := by
  intro pins s σ H xs us Q I r h
  obtain ⟨z, rfl, hz, q⟩ := h
  obtain ⟨u, rfl, t, rfl⟩ := vals1 r
  have hn := line63
  exact len_str (by omega) ⟨.int z.length, H, I.tok _, ⟨_, rfl⟩, q⟩
theorem CallR.or {f : Value} {r r' : List V → Hp → VK → Prop} (h : CallR X f r) (h' : CallR X f r') : CallR X f (fun xs H Q => r xs H Q ∨ r' xs H Q) := by
  intro pins s σ H xs us Q I rs q
  rcases q with q | q
  · exact h pins s σ H xs us Q I rs q
  · exact h' pins s σ H xs us Q I rs q
theorem call_list_of : CallR X (.type "list") (fun xs H Q => ∃ p ys, xs = [.ref p] ∧ (SqL X.K H p ys ∨ SqT X.K H p ys) ∧ ∀ l, H l = none → Q (.ref l) (upd H l (.lst ys))) := by
  intro pins s σ H xs us Q I r h
  obtain ⟨p, ys, rfl, hq, q⟩ := h
  obtain ⟨u, rfl, rx⟩ := vals1 r
  cases rx
  have fin : ∀ (its : List Value), Vals ys its → ys.length ≤ sizeLine → ∀ (h' : Heap) (c' : Nat), (∀ b o', s.heap.get? b = some o' → h'.get? b = some o') →
      h'.get? s.heap.objs.size = some { cls := .type "list", dict := none, data := .seq its.toArray c', slots := #[] } → EP X pins σ Q (.ref s.heap.objs.size) { s with heap := h' } := fun its r' hz h' c' kp e =>
    ⟨.ref s.heap.objs.size, _, I.laid (t' := s.toks) kp (Nat.le_refl _) (show ObjOk X.prog X.w _ h' _ (.lst ys) from ⟨hz, its, c', r', e⟩), rfl, q _ (I.hok.fresh (Nat.le_refl _))⟩
  rcases hq with hq | hq
  · obtain ⟨its, r', pl, hz⟩ := I.list hq
    have hlen := r'.length
    obtain ⟨o, ho, hc, n, hd⟩ := pl.isList
    exact call_list_seq p (.inl rfl) ho hc hd (fun h' c' kp e => fin its r' hz h' c' kp e) (by simp only [List.size_toArray] <;> omega)
  · obtain ⟨its, r', pl, hz⟩ := I.tuple hq
    have hlen := r'.length
    obtain ⟨o, ho, hc, n, hd⟩ := pl
    exact call_list_seq p (.inr rfl) ho hc hd (fun h' c' kp e => fin its r' hz h' c' kp e) (by simp only [List.size_toArray] <;> omega)
theorem call_tuple_of : CallR X (.type "tuple") (fun xs H Q => ∃ p ys, xs = [.ref p] ∧ ((SqL X.K H p ys ∧ ∀ l, H l = none → Q (.ref l) (upd H l (.tup ys))) ∨ (SqT X.K H p ys ∧ Q (.ref p) H))) := by
  intro pins s σ H xs us Q I r h
  obtain ⟨p, ys, rfl, h⟩ := h
  obtain ⟨u, rfl, rx⟩ := vals1 r
  cases rx
  rcases h with ⟨hq, q⟩ | ⟨hq, q⟩
  · obtain ⟨its, r', pl, hz⟩ := I.list hq
    have hlen := r'.length
    refine call_tuple_list pl.isList (fun h' kp => ?_) (by simp only [List.size_toArray] <;> omega)
    have I1 : Inv X pins σ H { s with heap := h' } := I.kept (t' := s.toks) kp
    have I2 : Inv X pins σ (upd H h'.objs.size (.tup ys)) { s with heap := h'.push { cls := .type "tuple", data := .seq its.toArray } } :=
      I1.laid (t' := s.toks) (fun b o e => Heap.get?_push_of_some _ e) (Nat.le_refl _) (show ObjOk X.prog X.w _ _ _ (.tup ys) from ⟨hz, its, r', IsTup.new _ _⟩)
    exact ⟨.ref h'.objs.size, _, I2, rfl, q _ (I1.hok.fresh (Nat.le_refl _))⟩
  · obtain ⟨its, r', pl, hz⟩ := I.tuple hq
    exact call_tuple_same pl ⟨.ref p, H, I, rfl, q⟩

/-! ### the call of a builtin's method: o.m(..) -/
/-- the value is of that builtin type -/
def tyV (K : PySem.W.Frag) (T : String) (x : V) (H : Hp) : Prop := match x with
  | .str _ => T = "str"
  | .int _ => T = "int"
  | .ref p => (T = "list" ∧ ∃ xs, SqL K H p xs) ∨ (T = "tuple" ∧ ∃ o, K.lookup p = some o ∧ o.cls = .type "tuple" ∧ o.dict = none) ∨
      (T = "dict" ∧ ((∃ kvs, H p = some (.dK kvs)) ∨ ∃ kvs, H p = some (.dT kvs))) ∨ (T = "set" ∧ ∃ S n, H p = some (.set S n))
  | _ => False
theorem tyV_is {pins : List (Addr × Obj)} {σ : St} {H : Hp} {s : Shared} {T : String} {x : V} {v : Value} (I : Inv X pins σ H s) (r : RelV x v) (ty : tyV X.K T x H) :
    s.TypeIs v T ∧ ∀ a, v = .ref a → ∃ ob, s.heap.get? a = some ob ∧ ob.dict = none := by
  cases x with
  | str z =>
    obtain ⟨t, rfl⟩ := r
    cases (show T = "str" from ty)
    exact ⟨typeIs_str s z t, fun _ e => nomatch e⟩
  | int i =>
    obtain ⟨t, rfl⟩ := r
    cases (show T = "int" from ty)
    exact ⟨typeIs_int s i t, fun _ e => nomatch e⟩
  | ref p =>
    cases r
    rcases ty with ⟨rfl, xs, hq⟩ | ⟨rfl, o, hk, hc, hd⟩ | ⟨rfl, hk⟩ | ⟨rfl, S, n, hk⟩
    · obtain ⟨its, _, pl, _⟩ := I.list hq
      refine ⟨pl.isList.typeIs, fun a e => ?_⟩
      cases e
      obtain ⟨o, n, e, c, hd, _⟩ := pl
      exact ⟨o, e, hd⟩
    · refine ⟨⟨o, I.kIn p o hk, hc⟩, fun a e => ?_⟩
      cases e
      exact ⟨o, I.kIn _ o hk, hd⟩
    · have z : ∃ o, s.heap.get? p = some o ∧ o.ExactDict := by
        rcases hk with ⟨kvs, hk⟩ | ⟨kvs, hk⟩
        · obtain ⟨_, _, _, _, o, _, _, e, ex, _⟩ := I.hok p _ hk
          exact ⟨o, e, ex⟩
        · obtain ⟨_, _, _, _, o, _, _, e, ex, _⟩ := I.hok p _ hk
          exact ⟨o, e, ex⟩
      obtain ⟨o, e, ex⟩ := z
      refine ⟨⟨o, e, ex.1⟩, fun a e2 => ?_⟩
      cases e2
      exact ⟨o, e, ex.2.1⟩
    · obtain ⟨o, _, _, _, e, ex, _⟩ := I.hok p _ hk
      refine ⟨⟨o, e, ex.1⟩, fun a e2 => ?_⟩
      cases e2
      exact ⟨o, e, ex.2.1⟩
  | _ => exact False.elim ty
def tBM0 (K : PySem.W.Frag) (T : String) (r : V → List V → Hp → VK → Prop) (to : TE) : TE := fun σ H Q => to σ H fun x H1 => tyV K T x H1 ∧ r x [] H1 Q
def tBM (K : PySem.W.Frag) (T : String) (r : V → List V → Hp → VK → Prop) (to : TE) (t : TA) : TE := fun σ H Q => to σ H fun x H1 => tyV K T x H1 ∧ t σ H1 fun xs H2 => r x xs H2 Q
variable {o e : Expr} {es : List Expr} {to : TE} {t : TA} {name : Str} {apos cpos : Pos} {T id : String} {r : V → List V → Hp → VK → Prop}
theorem pe_bm0 (pa : PlainAttrs T) (slot : Slot T name id) (hty : typeOf (.builtin id) = pure (.type "method_descriptor")) (hm : MtR X id r) (ho : PE X o to)
    (hbase : attributeBase o name X.env (eval o X.env) = eval o X.env := by rfl) (hline : (apos.endLine == cpos.line) = true := by rfl) : PE X (.Call (.Attribute o name apos) [] [] cpos) (tBM0 X.K T r to) := by
  intro pins s σ H Q I h
  refine wpAny_Call_method0_late hbase hline (thn (ho pins s σ H _ I h) fun v s1 ⟨x, H1, I1, r1, ty, q1⟩ => ?_)
  obtain ⟨h1, h2⟩ := tyV_is I1 r1 ty
  exact ⟨T, id, pa, slot, hty, h1, h2, Calls.callWith_builtin rfl (PySem.evalArgs_none (hm pins s1 σ H1 x [] v [] Q I1 r1 .nil q1))⟩
theorem pe_bm (pa : PlainAttrs T) (slot : Slot T name id) (hty : typeOf (.builtin id) = pure (.type "method_descriptor")) (hm : MtR X id r) (ho : PE X o to) (ha : PA X (e :: es) t)
    (hbase : attributeBase o name X.env (eval o X.env) = eval o X.env := by rfl)
    (hfew : ((backTo cpos (starEach (e :: es) X.env)).all (fun x => !x.1) && (backToKw cpos (keywordEach [] X.env)).all (fun x => x.1.isSome)
      && decide ((e :: es).length + ([] : List Keyword).length + (if ([] : List Keyword).isEmpty then 0 else 1) < 30)) = true := by rfl)
    (hline : (apos.endLine == cpos.line) = true := by rfl) (hs : starEach (e :: es) X.env = (false, eval e X.env) :: starEach es X.env := by rfl) (hplain : (backTo cpos (starEach es X.env)).any (·.1) = false := by rfl) :
    PE X (.Call (.Attribute o name apos) (e :: es) [] cpos) (tBM X.K T r to t) := by
  intro pins s σ H Q I h
  refine wpAny_Call_method_late hbase hfew hline rfl (thn (ho pins s σ H _ I h) fun v s1 ⟨x, H1, I1, r1, ty, q1⟩ => ?_)
  obtain ⟨h1, h2⟩ := tyV_is I1 r1 ty
  refine ⟨T, id, pa, slot, hty, h1, h2, ?_⟩
  have hA := ha cpos pins s1 σ H1 _ I1 q1
  rw [hs] at hA ⊢
  refine Calls.callWith_builtin (by show (false || (backTo cpos (starEach es X.env)).any (·.1)) = false; rw [hplain] <;> rfl) (Calls.evalArgs_plain ?_)
  exact thn hA fun us s2 ⟨vs, H2, I2, r2, q2⟩ => hm pins s2 σ H2 x vs v us Q I2 r1 r2 q2
/- xs.append(e), list.index on a module's tuple .. are MtR facts of 06m -/
end
end L2

namespace L2
open PySem PySem.Spec PyProof.Rows

def MtM (X : Cx) (id : String) (r : V → List V → Hp → VK → Prop) : Prop :=
  ∀ (pins : List (Addr × Obj)) (s : Shared) (σ : St) (H : Hp) (x : V) (xs : List V) (v : Value) (us : List Value) (Q : VK), Inv X pins σ H s → RelV x v → Vals xs us → r x xs H Q →
    wpAny (model X.prog X.w) X.A (call (.builtin id) (v :: us)) (EP X pins σ Q) X.xe s

/-! ### lists of values -/
theorem Vals.one : ∀ {x : V} {us : List Value}, Vals [x] us → ∃ u, us = [u] ∧ RelV x u
  | _, _, .cons r .nil => ⟨_, rfl, r⟩
theorem Vals.two : ∀ {x y : V} {us : List Value}, Vals [x, y] us → ∃ u v, us = [u, v] ∧ RelV x u ∧ RelV y v
  | _, _, _, .cons r (.cons q .nil) => ⟨_, _, rfl, r, q⟩
theorem Vals.zero : ∀ {us : List Value}, Vals [] us → us = []
  | _, .nil => rfl
theorem Vals.dropLast {xs : List V} {us : List Value} (h : Vals xs us) : Vals xs.dropLast us.dropLast := by
  induction h with
  | nil => exact .nil
  | cons r t ih =>
    cases t with
    | nil => exact .nil
    | cons q t' => exact .cons r ih
theorem Vals.eraseIdx : ∀ {xs : List V} {us : List Value} (i : Nat), Vals xs us → Vals (xs.eraseIdx i) (us.eraseIdx i)
  | _, _, _, .nil => .nil
  | _, _, 0, .cons _ t => t
  | _, _, i + 1, .cons r t => .cons r (Vals.eraseIdx i t)
theorem Vals.reverse {xs : List V} {us : List Value} (h : Vals xs us) : Vals xs.reverse us.reverse := by
  induction h with
  | nil => exact .nil
  | cons r t ih => rw [List.reverse_cons, List.reverse_cons]; exact Vals.append ih (.cons r .nil)
theorem Vals.rep {xs : List V} {us : List Value} (h : Vals xs us) : ∀ k : Nat, Vals (List.replicate k xs).flatten (List.replicate k us).flatten
  | 0 => .nil
  | k + 1 => by
    rw [List.replicate_succ, List.replicate_succ, List.flatten_cons, List.flatten_cons]
    exact Vals.append h (Vals.rep h k)
theorem erase_last {α : Type} (l : List α) : l.eraseIdx (l.length - 1) = l.dropLast := by
  induction l with
  | nil => rfl
  | cons a r ih =>
    cases r with
    | nil => rfl
    | cons b r =>
      have e : (a :: b :: r).length - 1 = ((b :: r).length - 1) + 1 := by
        have h1 : (a :: b :: r).length = r.length + 2 := rfl
        have h2 : (b :: r).length = r.length + 1 := rfl
        omega
      rw [e, List.eraseIdx_cons_succ, ih]
      all_goals rfl
theorem len_erase {α : Type} : ∀ (l : List α) (i : Nat), (l.eraseIdx i).length ≤ l.length
  | [], _ => Nat.le_refl _
  | _ :: _, 0 => Nat.le_succ _
  | _ :: r, i + 1 => Nat.succ_le_succ (len_erase r i)
theorem foldl_rep (its : List Value) : ∀ (k : Nat) (acc : List Value),
    List.foldl (fun x1 x2 => x1 ++ x2) acc.toArray (List.replicate k its.toArray) = (acc ++ (List.replicate k its).flatten).toArray
  | 0, acc => by simp
  | k + 1, acc => by
    have e : acc.toArray ++ its.toArray = (acc ++ its).toArray := by simp
    have e2 : (acc ++ its) ++ (List.replicate k its).flatten = acc ++ (List.replicate (k + 1) its).flatten := by
      rw [List.replicate_succ, List.flatten_cons, List.append_assoc]
    rw [← e2, ← foldl_rep its k (acc ++ its), ← e, List.replicate_succ, List.foldl_cons]

section
variable {X : Cx} {pins : List (Addr × Obj)} {σ : St} {H : Hp} {s : Shared} {l b : Addr} {xs ys zs : List V}

/-! ### the two steps: a tracked list is rewritten, a new list is laid -/
theorem Inv.lset {its its' : List Value} {n : Nat} {f : Array Value → Array Value} {t' : Nat} (I : Inv X pins σ H s) (hH : H l = some (.lst xs))
    (e : s.heap.get? l = some { cls := .type "list", data := .seq its.toArray n }) (hf : f its.toArray = its'.toArray) (hv : Vals ys its') (hz : ys.length ≤ sizeLine) :
    Inv X pins σ (upd H l (.lst ys)) { s with heap := s.heap.update l (Obj.mapSeq f), toks := t' } := by
  have q := PySem.IsL.update e f
  rw [hf] at q
  refine I.write (x := l) (e := l) (by rw [hH]; exact trivial) (.inl rfl) (fun b' u hb hu => (Heap.get?_update_other s.heap (Obj.mapSeq f) (Ne.symm hb)).trans hu) ⟨_, q⟩ ?_
  exact ⟨hz, its', _, hv, q⟩
theorem Inv.lnew {its : List Value} {t' : Nat} (I : Inv X pins σ H s) (hv : Vals ys its) (hz : ys.length ≤ sizeLine) :
    Inv X pins σ (upd H s.heap.objs.size (.lst ys)) { s with heap := s.heap.push { cls := .type "list", data := .seq its.toArray }, toks := t' } :=
  I.laid (fun _ _ q => Heap.get?_push_of_some _ q) (Nat.le_refl _) ⟨hz, its, 0, hv, Heap.get?_push_size _ rfl⟩
theorem Inv.fresh (I : Inv X pins σ H s) : H s.heap.objs.size = none := I.hok.fresh (Nat.le_refl _)
theorem Inv.lstM (I : Inv X pins σ H s) (hH : H l = some (.lst xs)) : xs.length ≤ sizeLine ∧ ∃ (its : List Value) (n : Nat), Vals xs its ∧ xs.length = its.length ∧ s.heap.get? l = some { cls := .type "list", data := .seq its.toArray n } := by
  obtain ⟨z, its, n, r, e⟩ := I.hok l _ hH
  exact ⟨z, its, n, r, r.length, e⟩

theorem notLongL {n : Nat} (h : n ≤ sizeLine) : Builtin.List.listTooLong n = false := by
  unfold Builtin.List.listTooLong
  exact decide_eq_false (by omega)
end

section
variable {X : Cx}

/-! ### methods -/
def rAppend : V → List V → Hp → VK → Prop := fun x vs H Q => ∃ l xs y, x = .ref l ∧ vs = [y] ∧ H l = some (.lst xs) ∧ xs.length < sizeLine ∧ Q .non (upd H l (.lst (xs ++ [y])))
theorem mt_append : MtM X "list.append" rAppend := by
  intro pins s σ H x vs v us Q I rx rv h
  obtain ⟨l, xs, y, rfl, rfl, hH, hz, q⟩ := h
  cases rx
  obtain ⟨u, rfl, ru⟩ := rv.one
  obtain ⟨z, its, n, r, hl, e⟩ := I.lstM hH
  refine call_meets F.slot_list_append ⟨_, e, rfl⟩ F.entry_list_append (F.args_list_append_2 _ _) (PySem.list_append l its.toArray n u (by rw [List.size_toArray]; omega)) ⟨e, ?_⟩
  refine ⟨.non, _, I.lset (its' := its ++ [u]) hH e (by simp) (r.append (.cons ru .nil)) ?_, rfl, q⟩
  rw [List.length_append, List.length_singleton]
  omega

def rExtend : V → List V → Hp → VK → Prop := fun x vs H Q => ∃ l b xs zs, x = .ref l ∧ vs = [.ref b] ∧ H l = some (.lst xs) ∧ H b = some (.lst zs) ∧ xs.length + zs.length ≤ sizeLine ∧ Q .non (upd H l (.lst (xs ++ zs)))
theorem mt_extend : MtM X "list.extend" rExtend := by
  intro pins s σ H x vs v us Q I rx rv h
  obtain ⟨l, b, xs, zs, rfl, rfl, hH, hB, hz, q⟩ := h
  cases rx
  obtain ⟨u, rfl, ru⟩ := rv.one
  cases ru
  obtain ⟨z, its, n, r, hl, e⟩ := I.lstM hH
  obtain ⟨z2, its2, n2, r2, hl2, e2⟩ := I.lstM hB
  have hsz : its.toArray.size + its2.toArray.size ≤ sizeLine := by rw [List.size_toArray, List.size_toArray]; omega
  have hlong : ¬ (!its.toArray.isEmpty && Builtin.List.listTooLong (its.toArray.size + its2.toArray.size)) = true := by
    rw [notLongL hsz, Bool.and_false]
    exact Bool.false_ne_true
  refine call_meets F.slot_list_extend ⟨_, e, rfl⟩ F.entry_list_extend (F.args_list_extend_2 _ _)
    (AutoSeq1.list_extend_list_list_0 l its.toArray n b its2.toArray n2 hlong (by rw [List.size_toArray]; omega) (by omega)) ⟨e, e2, ?_⟩
  refine ⟨.non, _, I.lset (its' := its ++ its2) hH e (by simp) (r.append r2) ?_, rfl, q⟩
  rw [List.length_append]
  omega

def rPop : V → List V → Hp → VK → Prop := fun x vs H Q => ∃ l xs y, x = .ref l ∧ vs = [] ∧ H l = some (.lst xs) ∧ xs[xs.length - 1]? = some y ∧ Q y (upd H l (.lst xs.dropLast))
theorem mt_pop : MtM X "list.pop" rPop := by
  intro pins s σ H x vs v us Q I rx rv h
  obtain ⟨l, xs, y, rfl, rfl, hH, hy, q⟩ := h
  cases rx
  have hus := rv.zero
  subst hus
  obtain ⟨z, its, n, r, hl, e⟩ := I.lstM hH
  obtain ⟨u, hu, ru⟩ := r.get hy
  have hy' : its.toArray[its.toArray.size - 1]? = some u := by
    show its.toArray[its.length - 1]? = some u
    rw [← Array.getElem?_toList, ← hl]
    exact hu
  refine call_meets F.slot_list_pop ⟨_, e, rfl⟩ F.entry_list_pop (F.args_list_pop_1 _) (MeetsSeq.list_pop_last l its.toArray n u hy' (by rw [List.size_toArray]; omega)) ⟨e, ?_⟩
  refine ⟨y, _, I.lset (its' := its.dropLast) hH e ?_ r.dropLast ?_, ru, q⟩
  · show its.toArray.eraseIdxIfInBounds (its.toArray.size - 1) = its.dropLast.toArray
    rw [List.size_toArray, List.eraseIdxIfInBounds_toArray, erase_last]
  · rw [List.length_dropLast]
    omega

def rPopAt : V → List V → Hp → VK → Prop := fun x vs H Q => ∃ l xs i k y, x = .ref l ∧ vs = [.int i] ∧ H l = some (.lst xs) ∧ -(2 ^ 63) ≤ i ∧ i < 2 ^ 63 ∧ seqIndex? i xs.length = some k ∧ xs[k]? = some y ∧ Q y (upd H l (.lst (xs.eraseIdx k)))
theorem mt_popAt : MtM X "list.pop" rPopAt := by
  intro pins s σ H x vs v us Q I rx rv h
  obtain ⟨l, xs, i, k, y, rfl, rfl, hH, h1, h2, hk, hy, q⟩ := h
  cases rx
  obtain ⟨u, rfl, ru⟩ := rv.one
  obtain ⟨t, rfl⟩ := ru
  obtain ⟨z, its, n, r, hl, e⟩ := I.lstM hH
  obtain ⟨w, hw, rw'⟩ := r.get hy
  refine call_meets F.slot_list_pop ⟨_, e, rfl⟩ F.entry_list_pop (F.args_list_pop_2 _ _)
    (MeetsSeq.list_pop_at l its.toArray n i t k w (fitsIndex_both h1 h2) (by rw [List.size_toArray, ← hl]; exact hk) (by rw [← Array.getElem?_toList]; exact hw) (by rw [List.size_toArray]; omega)) ⟨e, ?_⟩
  refine ⟨y, _, I.lset (its' := its.eraseIdx k) hH e ?_ (r.eraseIdx k) ?_, rw', q⟩
  · show its.toArray.eraseIdxIfInBounds k = (its.eraseIdx k).toArray
    rw [List.eraseIdxIfInBounds_toArray]
  · have := len_erase xs k
    omega

def rReverse : V → List V → Hp → VK → Prop := fun x vs H Q => ∃ l xs, x = .ref l ∧ vs = [] ∧ H l = some (.lst xs) ∧ Q .non (upd H l (.lst xs.reverse))
theorem mt_reverse : MtM X "list.reverse" rReverse := by
  intro pins s σ H x vs v us Q I rx rv h
  obtain ⟨l, xs, rfl, rfl, hH, q⟩ := h
  cases rx
  have hus := rv.zero
  subst hus
  obtain ⟨z, its, n, r, hl, e⟩ := I.lstM hH
  refine call_meets F.slot_list_reverse ⟨_, e, rfl⟩ F.entry_list_reverse (F.args_list_reverse_1 _) (AutoSeq1.list_reverse_list_0 l its.toArray n (by rw [List.size_toArray]; omega)) ⟨e, ?_⟩
  refine ⟨.non, _, I.lset (its' := its.reverse) hH e (by simp) r.reverse ?_, rfl, q⟩
  rw [List.length_reverse]
  omega

def rClear : V → List V → Hp → VK → Prop := fun x vs H Q => ∃ l xs, x = .ref l ∧ vs = [] ∧ H l = some (.lst xs) ∧ Q .non (upd H l (.lst []))
theorem mt_clear : MtM X "list.clear" rClear := by
  intro pins s σ H x vs v us Q I rx rv h
  obtain ⟨l, xs, rfl, rfl, hH, q⟩ := h
  cases rx
  have hus := rv.zero
  subst hus
  obtain ⟨z, its, n, r, hl, e⟩ := I.lstM hH
  refine call_meets F.slot_list_clear ⟨_, e, rfl⟩ F.entry_list_clear (F.args_list_clear_1 _) (AutoSeq1.list_clear_list_0 l its.toArray n (by rw [List.size_toArray]; omega)) ⟨e, ?_⟩
  exact ⟨.non, _, I.lset (its' := []) (ys := []) hH e rfl .nil (Nat.zero_le _), rfl, q⟩

/-! ### list + list, list += list, list * int -/
def rCat : R2 := fun x y H Q => ∃ l b xs zs, x = .ref l ∧ y = .ref b ∧ H l = some (.lst xs) ∧ H b = some (.lst zs) ∧ xs.length + zs.length ≤ sizeLine ∧ ∀ p, H p = none → Q (.ref p) (upd H p (.lst (xs ++ zs)))
theorem op_cat : OpR X (binaryOp .Add) rCat := by
  intro pins s σ H x y v u Q I rx ry h
  obtain ⟨l, b, xs, zs, rfl, rfl, hH, hB, hz, q⟩ := h
  cases rx
  cases ry
  obtain ⟨z, its, n, r, hl, e⟩ := I.lstM hH
  obtain ⟨z2, its2, n2, r2, hl2, e2⟩ := I.lstM hB
  refine PySem.P.add_list e e2 ?_ (by rw [List.size_toArray, List.size_toArray]; omega)
  have ea : its.toArray ++ its2.toArray = (its ++ its2).toArray := by simp
  rw [ea]
  exact ⟨.ref _, _, I.lnew (t' := s.toks) (r.append r2) (by rw [List.length_append]; omega), rfl, q _ I.fresh⟩
/-- a list times an int (a negative one is nothing) -/
def rRep : R2 := fun x y H Q => ∃ l k xs, x = .ref l ∧ y = .int k ∧ H l = some (.lst xs) ∧ -(2 ^ 63) ≤ k ∧ k < 2 ^ 63 ∧ xs.length * k.toNat ≤ sizeLine ∧
  ∀ p, H p = none → Q (.ref p) (upd H p (.lst (List.replicate k.toNat xs).flatten))
theorem len_rep {α : Type} (xs : List α) (k : Nat) : (List.replicate k xs).flatten.length = k * xs.length := by
  induction k with
  | zero => simp
  | succ k ih => rw [List.replicate_succ, List.flatten_cons, List.length_append, ih, Nat.succ_mul, Nat.add_comm]
theorem op_rep : OpR X (binaryOp .Mult) rRep := by
  intro pins s σ H x y v u Q I rx ry h
  obtain ⟨l, k, xs, rfl, rfl, hH, h1, h2, hz, q⟩ := h
  cases rx
  obtain ⟨t, rfl⟩ := ry
  obtain ⟨z, its, n, r, hl, e⟩ := I.lstM hH
  have hlen : its.toArray.size * k.toNat ≤ sizeLine := by rw [List.size_toArray, ← hl]; exact hz
  have hcap : ¬ its.toArray.size * k.toNat > (2 ^ 63 - 1) / 8 := by
    have : (sizeLine : Nat) ≤ (2 ^ 63 - 1) / 8 := by decide
    omega
  have hfit : ¬ (!Builtin.List.listFitsIndex k) = true := by
    rw [fitsIndex_both h1 h2]
    exact Bool.false_ne_true
  have hlong : ¬ Builtin.List.listTooLong (its.toArray.size * k.toNat) = true := by
    rw [notLongL hlen]
    exact Bool.false_ne_true
  have hnew : List.foldl (fun x1 x2 => x1 ++ x2) #[] (List.replicate (if its.toArray.isEmpty = true then 0 else k.toNat) its.toArray) = (List.replicate k.toNat its).flatten.toArray := by
    have f0 : ∀ m : Nat, List.foldl (fun x1 x2 => x1 ++ x2) #[] (List.replicate m its.toArray) = (List.replicate m its).flatten.toArray := fun m => by
      have := foldl_rep its m []
      rw [List.nil_append] at this
      exact this
    rw [f0]
    cases its with
    | nil => simp
    | cons a r' => rw [if_neg (by simp)]
  refine wpAny_binaryOp_repeat_ref (T := "list") (U := "int") (by decide) ⟨_, e, rfl⟩ (fun s' => typeIs_int s' k t) noFill_list_mul F.fills_int_mul F.slot_int_rmul repeat_list F.slot_int_index.lookup
    (call_meets F.slot_int_rmul (typeIs_int s k t) F.entry_int_rmul (F.args_int_rmul_2 _ _) (int___rmul___int_list k t l its.toArray n)
      ⟨e, rfl, ⟨_, e, rfl⟩, call_meets F.slot_list_mul ⟨_, e, rfl⟩ F.entry_list_mul (F.args_list_mul_2 _ _) (AutoListH.list___mul___list_int_3 l its.toArray n k t hfit hcap hlong) ⟨e, ?_⟩⟩)
  rw [hnew]
  exact ⟨.ref _, _, I.lnew (t' := s.toks) (r.rep k.toNat) (by rw [len_rep, Nat.mul_comm]; exact hz), rfl, q _ I.fresh⟩

/-! ### del xs[i] -/
theorem del_list {pins : List (Addr × Obj)} {s : Shared} {σ : St} {H : Hp} {l : Addr} {xs : List V} {i : Int} {t : Tok} {k : Nat} {Q : Unit → Shared → Prop} (I : Inv X pins σ H s) (hH : H l = some (.lst xs))
    (h1 : -(2 ^ 63) ≤ i) (h2 : i < 2 ^ 63) (hk : seqIndex? i xs.length = some k) (h : ∀ s', Inv X pins σ (upd H l (.lst (xs.eraseIdx k))) s' → Q () s') :
    wpAny (model X.prog X.w) X.A (delItem (.ref l) (.int i t)) Q X.xe s := by
  obtain ⟨z, its, n, r, hl, e⟩ := I.lstM hH
  refine PySem.P.delItem_list (k := k) e (fitsIndex_both h1 h2) (by rw [List.size_toArray, ← hl]; exact hk) (h _ ?_) (by rw [List.size_toArray]; omega)
  refine I.lset (its' := its.eraseIdx k) (t' := s.toks) hH e ?_ (r.eraseIdx k) ?_
  · show its.toArray.eraseIdxIfInBounds k = (its.eraseIdx k).toArray
    rw [List.eraseIdxIfInBounds_toArray]
  · have := len_erase xs k
    omega
end

/-! ### xs[a:b] = ys -/
section
variable {prog : Program} {w : World} {A : Around} {E : Value → Shared → Prop} {s : Shared}
theorem splice_eq (its its2 : List Value) (a c : Nat) : its.toArray.extract 0 a ++ its2.toArray ++ its.toArray.extract c its.toArray.size = (its.take a ++ its2 ++ its.drop c).toArray := by
  apply Array.toList_inj.mp
  first
    | (simp
       exact List.take_of_length_le (by simp))
    | simp [List.take_of_length_le]
    | simp
theorem bounds_run {a c n : Nat} (hac : a ≤ c) (hc : c ≤ n) : sliceBounds (some (a : Int)) (some (c : Int)) none n = ((a : Int), (c : Int), 1) := by
  simp only [sliceBounds, Option.getD_none]
  have h1 : ¬ ((a : Int) < 0) := by omega
  have h2 : ¬ ((c : Int) < 0) := by omega
  simp only [h1, h2, if_false, show (1 : Int) > 0 by decide, if_true]
  congr 1
  · omega
  · congr 1; omega
set_option maxRecDepth 100000 in
/-- list.__setitem__ with a slice of step one and another list -/
theorem setItem_slice {l b sl : Addr} {items new : Array Value} {n n2 : Nat} {vl vu : Value} {a c : Nat} {Q : Unit → Shared → Prop}
    (e : s.heap.get? l = some { cls := .type "list", data := .seq items n }) (e2 : s.heap.get? b = some { cls := .type "list", data := .seq new n2 }) (hne : l ≠ b)
    (hs : s.heap.IsSliceOf sl vl vu .none) (pl : IsPart vl (some (a : Int))) (pu : IsPart vu (some (c : Int))) (hac : a ≤ c) (hc : c ≤ items.size)
    (hsz : items.size + new.size ≤ sizeLine) (h : Q () { s with heap := s.heap.update l (Obj.mapSeq fun xs => xs.extract 0 a ++ new ++ xs.extract c xs.size) }) :
    wpAny (model prog w) A (setItem (.ref l) (.ref sl) (.ref b)) Q E s := by
  have hl : s.heap.IsList l items := PySem.IsL.isList e
  have hb : s.heap.IsList b new := PySem.IsL.isList e2
  obtain ⟨os, hos, hcs, hds⟩ := id hs
  have hTs : s.TypeIs (.ref sl) "slice" := ⟨os, hos, hcs⟩
  have hstep : ¬ ((rawPart none == rawInt 0) = true) := Bool.false_ne_true
  have hsame : Builtin.List.listSameRef (.ref l) (.ref b) = false := by
    unfold Builtin.List.listSameRef
    exact beq_eq_false_iff_ne.mpr hne
  have hmax : (max (a : Int) (c : Int)).toNat = c := by omega
  have hz' : ((fun xs : Array Value => xs.extract 0 a ++ new ++ xs.extract c xs.size) items).size ≤ sizeLine + 1 := by
    simp only [Array.size_append, Array.size_extract]
    omega
  unfold setItem
  try with_reducible refine wpAny_holding ?_
  first | refine wpAny_bind (wpAny_pure ?_) | skip
  refine wpAny_bind (wpAny_sequenceKey hl.typeIs (by decide) ?_)
  refine wpAny_bind (wpAny_callSpecial?_slot (name := Str.ofString "__setitem__") hl.typeIs slot_list_setitem
    (wpAny_call_entry slot_list_setitem hl.typeIs entry_list_setitem ?_ (args_list_setitem _ _ _)))
  show wpAny _ _ (Builtin.List.listSubscript? (.ref sl) >>= _) _ _ s
  refine wpAny_bind ?_
  unfold Builtin.List.listSubscript?
  refine wpAny_bind (wpAny_specialOf hTs slice_no_index ?_)
  simp only [Option.isNone_none, if_true]
  refine wpAny_pure ?_
  show wpAny _ _ (typeOf (.ref sl) >>= _) _ _ s
  refine wpAny_bind (wpAny_typeOf hTs ?_)
  first
    | rw [if_neg (by decide)]
    | refine PySem.W.KFB.if_not (by decide) ?_
  rw [listSliceParts_eq]
  refine wpAny_bind (wpAny_bind (wpAny_field hos hds (x := .none) rfl (wpAny_bind (wpAny_listPart .none ?_))))
  rw [if_neg hstep]
  refine wpAny_bind (wpAny_field hos hds (x := vl) rfl (wpAny_bind (wpAny_listPart pl ?_)))
  refine wpAny_bind (wpAny_field hos hds (x := vu) rfl (wpAny_bind (wpAny_listPart pu (wpAny_pure ?_))))
  first
    | simp only [hsame, Bool.false_eq_true, if_false]
    | refine PySem.W.KFB.if_not hsame ?_
    | (dsimp only
       rw [if_neg (by rw [hsame]; exact Bool.false_ne_true)])
  refine wpAny_bind (m := Builtin.List.listAllItems (.ref b) "must assign iterable to extended slice") ?_
  unfold Builtin.List.listAllItems
  refine wpAny_bind (wpAny_typeOf hb.typeIs ?_)
  first
    | refine PySem.W.KFB.if_so (by decide) ?_
    | rw [if_pos (by decide)]
    | simp only [beq_self_eq_true, Bool.true_or, if_true]
  unfold Builtin.List.listItems
  refine wpAny_bind (wpAny_seqItems e2 rfl (wpAny_pure ?_))
  refine wpAny_bind (wpAny_bind (wpAny_seqItems e rfl (wpAny_pure ?_)))
  refine wpAny_bind (wpAny_of_eq ((sliceIndices_raw (some (a : Int)) (some (c : Int)) none items.size (by simp)).trans (congrArg (pure : Int × Int × Int → Sem (Int × Int × Int)) (bounds_run hac hc))) ?_)
  show wpAny _ _ (if ((1 : Int) == 1) = true then _ else _) _ _ s
  rw [if_pos (by decide)]
  refine wpAny_bind (wpAny_rule ?_)
  first
    | simp only [notLongL hsz, Bool.false_eq_true, if_false]
    | refine PySem.W.KFB.if_not (notLongL hsz) ?_
  first | refine wpAny_bind (wpAny_pure ?_) | skip
  show wpAny _ _ (updateSeq l (fun xs => xs.extract 0 ((a : Int)).toNat ++ new ++ xs.extract (max (a : Int) (c : Int)).toNat xs.size) >>= _) _ _ s
  rw [hmax, Int.toNat_natCast]
  refine wpAny_bind (wpAny_updateSeq (hz := Nat.le_trans (Nat.le_add_right _ _) hsz) (_hz' := hz') e rfl ?_)
  refine wpAny_bind (wpAny_letGo ?_)
  first
    | exact wpAny_bind (wpAny_pure (wpAny_pure ⟨.none, rfl, wpAny_pure h⟩))
    | exact wpAny_pure ⟨.none, rfl, wpAny_pure h⟩
end

section
variable {X : Cx}
/-- xs[a:c] = ys of another list, at the value level: sl is the slice object that was just made -/
theorem set_slice {pins : List (Addr × Obj)} {s : Shared} {σ : St} {H : Hp} {l b sl : Addr} {xs ys : List V} {a c : Int} {vl vu : Value} {Q : Unit → Shared → Prop} (I : Inv X pins σ H s)
    (hH : H l = some (.lst xs)) (hB : H b = some (.lst ys)) (hne : l ≠ b) (hs : s.heap.IsSliceOf sl vl vu .none) (ra : RelV (.int a) vl) (rc : RelV (.int c) vu) (h0 : 0 ≤ a) (hac : a ≤ c) (hc : c ≤ xs.length)
    (hz : xs.length + ys.length ≤ sizeLine) (h : ∀ s', Inv X pins σ (upd H l (.lst (xs.take a.toNat ++ ys ++ xs.drop c.toNat))) s' → Q () s') :
    wpAny (model X.prog X.w) X.A (setItem (.ref l) (.ref sl) (.ref b)) Q X.xe s := by
  obtain ⟨ta, rfl⟩ := ra
  obtain ⟨tc, rfl⟩ := rc
  obtain ⟨z, its, n, r, hl, e⟩ := I.lstM hH
  obtain ⟨z2, its2, n2, r2, hl2, e2⟩ := I.lstM hB
  obtain ⟨a', rfl⟩ := Int.eq_ofNat_of_zero_le h0
  obtain ⟨c', rfl⟩ := Int.eq_ofNat_of_zero_le (Int.le_trans h0 hac)
  simp only [Int.toNat_natCast] at h
  refine setItem_slice (a := a') (c := c') e e2 hne hs (.int _ _) (.int _ _) (by omega) (by rw [List.size_toArray]; omega) (by rw [List.size_toArray, List.size_toArray]; omega) (h _ ?_)
  refine I.lset (its' := its.take a' ++ its2 ++ its.drop c') (t' := s.toks) hH e ?_ (Vals.append (Vals.append (r.take _) r2) (r.drop _)) ?_
  · exact splice_eq its its2 a' c'
  · rw [List.length_append, List.length_append, List.length_take, List.length_drop]
    omega
end
end L2

namespace Att
open PySem PySem.W PySem.Calls PyProof.Rows

/-! ### the script -/
theorem ints_of_wellAll {P : Params} {h : Heap} : ∀ (ns : List Int) (vs : List Value), WellAll P h vs (ns.map WData.int) → IntsAre vs ns := by
  intro ns
  induction ns with
  | nil =>
    intro vs w
    rw [List.map_nil] at w
    cases w
    exact .nil
  | cons n ns ih =>
    intro vs w
    rw [List.map_cons] at w
    cases w with
    | cons a b =>
      cases a
      exact .cons _ _ (ih _ b)

theorem script_of {l : OpenLaw} {n : Nat} (hn : l.most = some n) {P : Params} {h : Heap} {args : List WData} {vals : List Value}
    (hpre : l.row.toRowW.claim.pre args = true) (hwl : WellAll P h vals args) :
    ∃ a vs ns, vals = [Value.ref a] ∧ args = [WData.list (ns.map WData.int)] ∧ h.get? a = some { cls := .type "list", data := .seq vs.toArray } ∧ IntsAre vs ns ∧ ns.length ≤ n := by
  have hsh : WShape.hasAll [] args [.list .int] = true := (pre_splitW hpre).1
  have hc : l.pre.holds [] { args := args } = true := (pre_splitW hpre).2
  obtain ⟨d, r, rfl, h1, h2⟩ := hasAllW_cons hsh
  obtain rfl := hasAllW_nil h2
  obtain ⟨xs, rfl, h3⟩ := hasW_list h1
  obtain ⟨ns, rfl⟩ := items_int h3
  have hlen : ns.length ≤ n := by
    unfold OpenLaw.pre at hc
    have h4 : (WTm.not (.lt (.lit (.int (n : Int))) (.len (.arg 0)))).holds [] { args := [.list (ns.map .int)] } = true := by
      have h4 := (holds_andW hc).1
      rw [hn] at h4
      exact h4
    have h5 := condW_of h4 (w_not (w_lt w_lit (w_len_list (w_arg rfl))))
    rw [List.length_map] at h5
    refine Nat.le_of_not_lt fun q => ?_
    have q' : (n : Int) < ((ns.length : Nat) : Int) := by omega
    first
      | (rw [decide_eq_true q'] at h5; exact absurd h5 (by decide))
      | (simp at h5; omega)
  cases hwl with
  | cons w1 w2 =>
    cases w2
    cases w1 with
    | list ho hall => exact ⟨_, _, ns, rfl, rfl, ho, ints_of_wellAll ns _ hall, hlen⟩

theorem post_true (l : OpenLaw) (args : List WData) : l.row.toRowW.claim.post args (.bool true) args = true :=
  postW_of (r := l.row.toRowW) (X := (true == true))
    (show WShape.has [] (.bool true) .bool = true by first | rfl | decide | simp [WShape.has, WShape.arms, WShape.armsAll])
    (show (WTm.eq .res (.lit (.bool true))).value [] { args := args, res := some (.bool true), after := args } = some (.bool (true == true)) from w_eq_bool (w_res rfl) w_lit) rfl

/-! ### the attachment: holds_open's last premise (the goal 'hc' behind k_head) from a wpAny of the law's body -/
theorem attach {l : OpenLaw} {n : Nat} {q : Program} {loose : List Str} {XP : (Str → Option Value) → Heap → Prop} {YP : World → Heap → Prop} {d : DefRec} {x : Str}
    (hn : l.most = some n) (hdf : d.params.defaults = [])
    (hbind : ∀ pm cd doc v : Value, bindArgs (docDef d.name d.params d.body d.scope pm cd doc) ⟨[v], []⟩ = pure [(x, v)])
    (hx : d.scope.names.lookup x = some .local ∨ d.scope.names.lookup x = some .cell)
    (hk : d.scope.kind = .function) (hco : d.scope.isCoroutine = false) (hgen : d.scope.isGenerator = false)
    (body : ∀ (w : World) (s₀ s₁ s : Shared) (mg mb : Str → Option Value) (fa : Addr) (o : Obj) (pm cd doc : Value) (a : Addr) (vs : List Value) (ns : List Int),
      Ground q loose [] XP w s₀ mg mb s₁.heap → YP w s₁.heap →
      s₁.heap.get? fa = some o → o.data = .func (docDef d.name d.params d.body d.scope pm cd doc) → s₁.heap.CodeRec cd d.name → mg d.name = some (.ref fa) →
      s₁.heap.get? a = some { cls := .type "list", data := .seq vs.toArray } → IntsAre vs ns → ns.length ≤ n →
      s.gens = #[] → s.os = s₁.os →
      Fr s₁.heap s₁.heap.objs.size s.heap (bindL (envOfC d.name d.scope s₁.heap.objs.size fa cd).kindOf [(x, .ref a)] fun _ => none) →
      Cl s₁.heap.objs.size (cellsFrom (s₁.heap.objs.size + 1) d.scope.names []) s.heap (bindC (envOfC d.name d.scope s₁.heap.objs.size fa cd).kindOf [(x, .ref a)] fun _ => none) →
      wpAny (model l.prog w) (callerA.deeper (envOfC d.name d.scope s₁.heap.objs.size fa cd)) (execs d.body (envOfC d.name d.scope s₁.heap.objs.size fa cd))
        (fun f s' => f = .ret (.bool true) ∧ OldK s₁.heap s'.heap ∧ s'.os = s₁.os ∧ AllBare s'.gens) (fun _ _ => False) s) :
    WalkO q loose XP YP l.row.toRowW d [] (fun f vs => PySem.call f vs) := by
  intro w s₀ s₁ mg mb G Y fa o pm cd doc dV kV ho hd hcd hD hmg hg args vals as hpre hlay hrd hwl hlo
  obtain rfl : dV = .none := Dflts.none hD hdf
  obtain rfl : kV = .none := Dflts.noKw hD
  obtain ⟨a, vs, ns, rfl, rfl, hobj, hints, hlen⟩ := script_of hn hpre hwl
  refine enter_call ?_
  refine call_cells_ret (o := o) (by rw [depth_caller]; decide) ho (fd_plain hd) G.T.nolimit hcd (hbind pm cd doc (.ref a)) (fun y hy => ?_) (fun h₁ tk F X => ?_) hco hgen hk
  · obtain rfl : y = (x, Value.ref a) := List.mem_singleton.mp hy
    rcases hx with e | e
    · exact .inl e
    · exact .inr ⟨e, cellsFrom_some _ _ _ (.inl e)⟩
  · refine wpAny_mono (body w s₀ s₁ { s₁ with heap := h₁, toks := tk } mg mb fa o pm cd doc a vs ns G Y ho (fd_plain hd) hcd hmg hobj hints hlen hg rfl F X) (fun f s' hq => ?_) (fun _ _ hq => hq)
    obtain ⟨rfl, h2, h3, h4⟩ := hq
    exact ⟨.inl ⟨.bool true, .bool true, [], rfl, fun _ => rfl, .bool true, post_true l _, fun _ => ⟨List.Pairwise.nil, fun _ hm => (nomatch hm)⟩⟩, h2, h3, h4⟩

/-- the same from a codeAny of the CALL (for a layer whose function contracts speak of calls) -/
theorem attach_call {l : OpenLaw} {n : Nat} {q : Program} {loose : List Str} {XP : (Str → Option Value) → Heap → Prop} {YP : World → Heap → Prop} {d : DefRec}
    (hn : l.most = some n) (hdf : d.params.defaults = [])
    (call : ∀ (w : World) (s₀ s₁ : Shared) (mg mb : Str → Option Value) (fa : Addr) (o : Obj) (pm cd doc : Value) (a : Addr) (vs : List Value) (ns : List Int),
      Ground q loose [] XP w s₀ mg mb s₁.heap → YP w s₁.heap →
      s₁.heap.get? fa = some o → o.data = .func (docDef d.name d.params d.body d.scope pm cd doc) → s₁.heap.CodeRec cd d.name → mg d.name = some (.ref fa) →
      s₁.heap.get? a = some { cls := .type "list", data := .seq vs.toArray } → IntsAre vs ns → ns.length ≤ n → s₁.gens = #[] →
      codeAny (model l.prog w) callerA (.call (.ref fa) ⟨[.ref a], []⟩) (fun r s' => r = .ok (.ret (.bool true)) ∧ OldK s₁.heap s'.heap ∧ s'.os = s₁.os ∧ AllBare s'.gens) s₁) :
    WalkO q loose XP YP l.row.toRowW d [] (fun f vs => PySem.call f vs) := by
  intro w s₀ s₁ mg mb G Y fa o pm cd doc dV kV ho hd hcd hD hmg hg args vals as hpre hlay hrd hwl hlo
  obtain rfl : dV = .none := Dflts.none hD hdf
  obtain rfl : kV = .none := Dflts.noKw hD
  obtain ⟨a, vs, ns, rfl, rfl, hobj, hints, hlen⟩ := script_of hn hpre hwl
  refine enter_call (codeAny_mono (call w s₀ s₁ mg mb fa o pm cd doc a vs ns G Y ho (fd_plain hd) hcd hmg hobj hints hlen hg) fun r s' hq => ?_)
  obtain ⟨rfl, h2, h3, h4⟩ := hq
  exact ⟨.inl ⟨.bool true, .bool true, [], rfl, fun _ => rfl, .bool true, post_true l _, fun _ => ⟨List.Pairwise.nil, fun _ hm => (nomatch hm)⟩⟩, h2, h3, h4⟩

/-- the same where the top left finished generators (o_head chose holds_openN): nothing may have changed at all and no generator may be left -/
theorem attachN {l : OpenLaw} {n : Nat} {q : Program} {loose : List Str} {XP : (Str → Option Value) → Heap → Prop} {YP : World → Heap → Prop} {d : DefRec} {x : Str}
    (hn : l.most = some n) (hdf : d.params.defaults = [])
    (hbind : ∀ pm cd doc v : Value, bindArgs (docDef d.name d.params d.body d.scope pm cd doc) ⟨[v], []⟩ = pure [(x, v)])
    (hx : d.scope.names.lookup x = some .local ∨ d.scope.names.lookup x = some .cell)
    (hk : d.scope.kind = .function) (hco : d.scope.isCoroutine = false) (hgen : d.scope.isGenerator = false)
    (body : ∀ (w : World) (s₀ s₁ s : Shared) (mg mb : Str → Option Value) (fa : Addr) (o : Obj) (pm cd doc : Value) (a : Addr) (vs : List Value) (ns : List Int),
      Ground q loose [] XP w s₀ mg mb s₁.heap → YP w s₁.heap →
      s₁.heap.get? fa = some o → o.data = .func (docDef d.name d.params d.body d.scope pm cd doc) → s₁.heap.CodeRec cd d.name → mg d.name = some (.ref fa) →
      s₁.heap.get? a = some { cls := .type "list", data := .seq vs.toArray } → IntsAre vs ns → ns.length ≤ n →
      s.gens = #[] → s.os = s₁.os →
      Fr s₁.heap s₁.heap.objs.size s.heap (bindL (envOfC d.name d.scope s₁.heap.objs.size fa cd).kindOf [(x, .ref a)] fun _ => none) →
      Cl s₁.heap.objs.size (cellsFrom (s₁.heap.objs.size + 1) d.scope.names []) s.heap (bindC (envOfC d.name d.scope s₁.heap.objs.size fa cd).kindOf [(x, .ref a)] fun _ => none) →
      wpAny (model l.prog w) (callerA.deeper (envOfC d.name d.scope s₁.heap.objs.size fa cd)) (execs d.body (envOfC d.name d.scope s₁.heap.objs.size fa cd))
        (fun f s' => f = .ret (.bool true) ∧ (∀ b o, s₁.heap.get? b = some o → s'.heap.get? b = some o) ∧ s'.os = s₁.os ∧ s'.gens = #[]) (fun _ _ => False) s) :
    WalkN q loose XP YP l.row.toRowW d [] (fun f vs => PySem.call f vs) := by
  intro w s₀ s₁ mg mb G Y fa o pm cd doc dV kV ho hd hcd hD hmg hg args vals as hpre hlay hrd hwl hlo
  obtain rfl : dV = .none := Dflts.none hD hdf
  obtain rfl : kV = .none := Dflts.noKw hD
  obtain ⟨a, vs, ns, rfl, rfl, hobj, hints, hlen⟩ := script_of hn hpre hwl
  refine enter_callW ?_
  refine call_cells_ret (o := o) (by rw [depth_caller]; decide) ho (fd_plain hd) G.T.nolimit hcd (hbind pm cd doc (.ref a)) (fun y hy => ?_) (fun h₁ tk F X => ?_) hco hgen hk
  · obtain rfl : y = (x, Value.ref a) := List.mem_singleton.mp hy
    rcases hx with e | e
    · exact .inl e
    · exact .inr ⟨e, cellsFrom_some _ _ _ (.inl e)⟩
  · refine wpAny_mono (body w s₀ s₁ { s₁ with heap := h₁, toks := tk } mg mb fa o pm cd doc a vs ns G Y ho (fd_plain hd) hcd hmg hobj hints hlen hg rfl F X) (fun f s' hq => ?_) (fun _ _ hq => hq)
    obtain ⟨rfl, h2, h3, h4⟩ := hq
    exact ⟨.inl ⟨.bool true, .bool true, [], rfl, fun _ => rfl, .bool true, post_true l _, fun _ => ⟨List.Pairwise.nil, fun _ hm => (nomatch hm)⟩⟩, h2, h3, h4⟩

/-! ### rules over ANY heap (no ledger) from facts about the written part K: the library's own take a ledger (News) for what they write -/
section
variable {prog : Program} {w : World} {A : Around} {E : Value → Shared → Prop} {s : Shared} {K : Frag}

/-- a def of the module, or a method (qual 'C.m'), entered: the frame is the next address; cells behind it -/
theorem call_fn {R : Result → Shared → Prop} {name qual : Str} {params : Arguments} {body : List Stmt} {scope : Scope} {dV kV doc pm cdv ct oc : Value} {an od : Option Addr} {osl : Array (Option Value)} {f : Addr} {args : Args} {binds : List (Str × Value)}
    (X : K.In s.heap) (hlim : s.heap.NoLimit) (ho : K.lookup f = some ⟨oc, od, .func (fnOf name qual params body scope dV kV doc pm an cdv ct), osl⟩) (hcd : codeIn K cdv qual = true) (hroom : A.depth < recursionLimit)
    (hbind : BindsTo s (fnOf name qual params body scope dV kV doc pm an cdv ct) args binds)
    (hkind : (binds.all fun y => scope.names.lookup y.1 == some .local || scope.names.lookup y.1 == some .cell) = true)
    (h : ∀ s₁, InCallC s s.heap.objs.size (bindL (envOfC qual scope s.heap.objs.size f cdv).kindOf binds fun _ => none) (cellsFrom (s.heap.objs.size + 1) scope.names [])
        (bindC (envOfC qual scope s.heap.objs.size f cdv).kindOf binds fun _ => none) s₁ →
      wpAny (model prog w) (A.deeper (envOfC qual scope s.heap.objs.size f cdv)) (execs body (envOfC qual scope s.heap.objs.size f cdv))
        (fun fl s' => R (.ok (.ret (match fl with | .ret v => v | _ => .none))) s')
        (fun e s' => wpAny (model prog w) (A.deeper (envOfC qual scope s.heap.objs.size f cdv)) (leaving (envOfC qual scope s.heap.objs.size f cdv) e) (fun _ s'' => R (.error e) s'') (fun e' s'' => R (.error e') s'') s') s₁)
    (hco : scope.isCoroutine = false) (hgen : scope.isGenerator = false) (hk : scope.kind = .function) : codeAny (model prog w) A (.call (.ref f) args) R s := by
  refine codeAny_call_function hroom (X _ _ ho) rfl hco hgen rfl (codeRec_of X hcd) (hbind _ _ _ _ ?_)
  refine wpAny_newFunctionEnv_cells hk (kindsX hkind _) fun env he s₁ x => ?_
  subst he
  exact ⟨hlim.keeps x.toInCall.keep, codeAny_func (h s₁ x)⟩

/-- C(..): dict at size, instance at size + 1, then __init__ -/
theorem make_obj {R : Result → Shared → Prop} {C fI : Addr} {rest : List Value} {kw : List (Str × Value)}
    (X : K.In s.heap) (hm : makesIn K C = true) (hi : findIn K (.ref C) "__init__" = some (some (.ref fI))) (hf : isFn K (.ref fI) = true)
    (h : codeAny (model prog w) (A.under (.builtin "type.__call__" ⟨.ref C :: rest, kw⟩)) (.call (.ref fI) ⟨.ref (s.heap.objs.size + 1) :: rest, kw⟩) (InitBack (s.heap.objs.size + 1) R)
      { s with heap := (s.heap.push emptyDict).push (instObj C s.heap.objs.size) }) : codeAny (model prog w) A (.call (.ref C) ⟨rest, kw⟩) R s := by
  obtain ⟨hh, g, d, t, os⟩ := s
  exact make_core (makes_of X hm) (looks_findIn X hi) (fun self => bind_fn X self (beq_iff_eq.mp hf)) (.inl rfl) h

/-- x.name where the instance's dict holds the name and the class does not -/
theorem get_field {x C : Addr} {ox : Obj} {es : List DictEntry} {n : Nat} {name : Str} {expr : Bool} {v : Value} {Q : Value → Shared → Prop}
    (X : K.In s.heap) (I : PySem.W.InstAt s.heap x ox C (some (dictOf es n))) (hg : plainGet K C name = true) (hh : hasDictIn K C = true) (ha : findIn K (.ref C) name = some none)
    (hl : getL name es = some (some v)) (hv : handedIn v = true) (h : Q v { s with toks := s.toks + 1 }) : wpAny (model prog w) A (getAttr (.ref x) name expr) Q E s :=
  get_value X I (plainGet_of hg).1 (findObj_own hh ha rfl hl) hv h

/-- x.m(..): the method found in the class -/
theorem get_method {x C f : Addr} {ox : Obj} {es : List DictEntry} {n : Nat} {name : Str} {pl : Sem Bool} {Q : Value × List Value → Shared → Prop}
    (X : K.In s.heap) (I : PySem.W.InstAt s.heap x ox C (some (dictOf es n))) (hg : plainGet K C name = true) (hf : findIn K (.ref C) name = some (some (.ref f))) (ht : isFn K (.ref f) = true)
    (hl : getL name es = some none) (h : Q (.ref f, [.ref x]) s) : wpAny (model prog w) A (getMethod (.ref x) name pl) Q E s :=
  method_fn X I (plainGet_of hg).1 (plainGet_of hg).2 hf (beq_iff_eq.mp ht) (by show (lookIn name (dictOf es n)).map _ = _; rw [lookIn_dict, hl]; rfl) h

/-! the whole heap as the ledger: makes every rule that writes through a ledger a rule over any heap -/
def noObjs (h : Heap) : Heap := { h with objs := #[] }
theorem noObjs_get (h : Heap) (b : Addr) : (noObjs h).get? b = none := by
  cases e : (noObjs h).get? b with
  | none => rfl
  | some o => exact absurd (Heap.lt_size e) (Nat.not_lt_zero _)
def ledger (h : Heap) (L d : Addr) : List (Addr × Obj) := (List.range h.objs.size).filterMap fun a => if a = L ∨ a = d then none else (h.get? a).map fun o => (a, o)
theorem mem_ledger {h : Heap} {L d a : Addr} {o : Obj} : (a, o) ∈ ledger h L d ↔ a ≠ L ∧ a ≠ d ∧ h.get? a = some o := by
  unfold ledger
  rw [List.mem_filterMap]
  constructor
  · rintro ⟨b, _, e⟩
    split at e
    · cases e
    · rename_i hb
      obtain ⟨o', ho, e'⟩ := Option.map_eq_some_iff.mp e
      cases e'
      exact ⟨fun q => hb (.inl q), fun q => hb (.inr q), ho⟩
  · rintro ⟨n1, n2, ho⟩
    refine ⟨a, List.mem_range.mpr (Heap.lt_size ho), ?_⟩
    rw [if_neg (show ¬ (a = L ∨ a = d) from fun q => q.elim n1 n2), ho] <;> rfl
theorem news_ledger {h : Heap} {L d : Addr} {od : Obj} (hne : d ≠ L) (ho : h.get? d = some od) : News (noObjs h) L h ([] ++ (d, od) :: ledger h L d) := by
  rintro ⟨a, o⟩ hp
  rcases List.mem_cons.mp hp with e | hp
  · cases e
    exact ⟨ho, hne, noObjs_get _ _⟩
  · obtain ⟨n1, n2, e⟩ := mem_ledger.mp hp
    exact ⟨e, n1, noObjs_get _ _⟩
theorem fr_all {h : Heap} {L : Addr} {m : Str → Option Value} (n : h.Ns L m) : Fr (noObjs h) L h m :=
  ⟨n, fun b o e => (by rw [noObjs_get] at e; cases e), Nat.zero_le _⟩
/-- Upd of the head entry (for append_K, setItem_K ..) -/
theorem upd_ledger {h : Heap} {L d : Addr} {o o' : Obj} : Upd d o o' ((d, o) :: ledger h L d) ((d, o') :: ledger h L d) :=
  .head fun ⟨_, _⟩ hp => (mem_ledger.mp hp).2.1

/-- x.name = v over any heap: L is any namespace of the heap (the frame's, say): its map stays, its object is not told; all else but the dict stays -/
theorem set_field {x C dx L : Addr} {ox : Obj} {m : Str → Option Value} {es es' : List DictEntry} {n n' : Nat} {name : Str} {v : Value} {Q : Unit → Shared → Prop}
    (X : K.In s.heap) (I : PySem.W.InstAt s.heap x ox C (some (dictOf es n))) (hd : ox.dict = some dx) (hL : s.heap.Ns L m) (hne : dx ≠ L)
    (hs : findIn K (.ref C) "__setattr__" = some (some (.builtin "object.__setattr__"))) (hp : plainOver K C = true) (ht : takerIn K C name = some none) (hh : hasDictIn K C = true) (hl : (getL name es).isSome = true)
    (e : (putL name (PyData.keyHash w.params name) (.str name (s.toks + 1)) v es, putN name es n) = (es', n')) (hz : es'.length ≤ 1000)
    (h : ∀ h' : Heap, h'.Ns L m → h'.get? dx = some (dictOf es' n') → (∀ b o, b ≠ dx → b ≠ L → s.heap.get? b = some o → h'.get? b = some o) → Q () { s with heap := h', toks := s.toks + 2 }) :
    wpAny (model prog w) A (setAttr (.ref x) name v) Q E s := by
  obtain ⟨e1, e2⟩ := Prod.mk.inj e
  have hdx : s.heap.get? dx = some (dictOf es n) := by
    have := I.dict
    rw [hd] at this
    exact this
  refine set_plain X I hs (osa_dict (s := { s with toks := s.toks + 1 }) (h₀ := noObjs s.heap) (L := L) (m := m) (od := dictOf es n) (od' := dictOf es' n') (es := es') (n := n') (pre := []) (post := ledger s.heap L dx)
    (fr_all hL) (news_ledger hne hdx) X I hd hp ht hh hl (fun _ q => nomatch q) (fun ⟨_, _⟩ q => (mem_ledger.mp q).2.1) (by rw [putName_dict, e1, e2]) rfl hz fun h' F' N' => ?_)
  exact h h' F'.ns (N'.get (List.Mem.head _)) fun b o n1 n2 ho => N'.get (List.Mem.tail _ (mem_ledger.mpr ⟨n2, n1, ho⟩))
end
end Att

namespace L2
open PySem PySem.Spec PyProof.Rows

theorem vals_ints : ∀ {vs : List Value} {ns : List Int}, IntsAre vs ns → Vals (ns.map V.int) vs
  | _, _, .nil => .nil
  | _, _, .cons n t h => .cons ⟨t, rfl⟩ (vals_ints h)

/-- nothing is tracked but the script, known to the object (or it is an object of the module) -/
def Only (H : Hp) : Prop := ∀ b, H b = none ∨ ∃ o xs, H b = some (.frz o (.lst xs))

/-- THE HEAD: the law's promise, at the heap behind the top. F, the promise of the law's def, may use that base is part of the heap (so K.In base, base.Ns mainGlobals mg stand in Mod) -/
theorem law_call {P : Program} {w : World} {K : PySem.W.Frag} {mg mb : Str → Option Value} {CX : CXT} {k : Nat} {fa a : Addr} {fd : FuncData} {x : Str} {sp : Sp} {s₁ : Shared} {vs : List Value} {ns : List Int}
    (KX : K.In s₁.heap) (hns : s₁.heap.Ns mainGlobals mg) (hb : s₁.heap.Ns builtinsNs mb) (hbb : ∀ x : Str, x ≠ "__name__" → mb x = bootBuiltins x) (hlim : s₁.heap.NoLimit) (hg : s₁.gens = #[])
    (ha : s₁.heap.get? a = some { cls := .type "list", data := .seq vs.toArray }) (hi : IntsAre vs ns) (hl : ns.length ≤ sizeLine) (hr : Room k callerA)
    (F : ∀ base : Heap, K.In base → base.Ns mainGlobals mg → FnOk P w K mg base CX k fa fd [x] sp) (hbind : ∀ (s : Shared) (u : Value), BindsTo s fd ⟨[u], []⟩ [(x, u)])
    (hsp : ∀ H : Hp, Only H → SqL K H a (ns.map V.int) → sp [.ref a] H (fun v _ => v = .bl true) fun _ _ _ => False)
    (hCX : ∀ H e s', CX [] H s₁ (fun _ _ _ => False) e s' → False) :
    codeAny (model P w) callerA (.call (.ref fa) ⟨[.ref a], []⟩) (fun r s' => r = .ok (.ret (.bool true)) ∧ OldK s₁.heap s'.heap ∧ s'.os = s₁.os ∧ AllBare s'.gens) s₁ := by
  have rv := vals_ints hi
  have lenV := hi.length
  -- from an abstract heap in which nothing but the script may be tracked
  have core : ∀ H : Hp, Only H → SqL K H a (ns.map V.int) → HOk P w H s₁.heap → (∀ b, H b ≠ none → b = a) → (H a ≠ none → K.lookup a = none) →
      codeAny (model P w) callerA (.call (.ref fa) ⟨[.ref a], []⟩) (fun r s' => r = .ok (.ret (.bool true)) ∧ OldK s₁.heap s'.heap ∧ s'.os = s₁.os ∧ AllBare s'.gens) s₁ := by
    intro H hO hS hok hA hK
    have base_of : ∀ {b : Addr} {o : Obj}, s₁.heap.get? b = some o → H b = none → (hidT s₁.heap H).get? b = some o := fun e n => hidT_get e n
    have noA : ∀ {b : Addr} {o : Obj} {es : Array DictEntry} {ep : Nat}, s₁.heap.get? b = some o → o.data = .dict es ep → H b = none := fun {b o es ep} e d => by
      cases q : H b with
      | none => rfl
      | some u =>
        have e' : b = a := hA b (by rw [q]; simp)
        subst e'
        rw [ha] at e; cases e
        have d' : Data.seq vs.toArray _ = Data.dict es ep := d
        cases d'
    have nsK : ∀ {b : Addr} {m : Str → Option Value}, s₁.heap.Ns b m → (hidT s₁.heap H).Ns b m := fun {b m} ⟨o, es, ep, e, d, r⟩ => ⟨o, es, ep, base_of e (noA e d), d, r⟩
    have hKb : K.In (hidT s₁.heap H) := fun b o e => base_of (KX b o e) (by
      cases q : H b with
      | none => rfl
      | some u =>
        have e' : b = a := hA b (by rw [q]; simp)
        subst e'
        rw [hK (by rw [q]; simp)] at e; cases e)
    have hM : Mod K mg (hidT s₁.heap H) := ⟨hKb, nsK hns, ⟨mb, nsK hb, hbb⟩, let ⟨mc, h1, h2⟩ := hlim; ⟨mc, nsK h1, h2⟩⟩
    have e0 : Env0 P w K mg (hidT s₁.heap H) callerA [] s₁ H := ⟨rfl, hM, fun b o e => of_hidT e, Nat.le_of_eq (hidT_size _ _), trivial, fun b hb => absurd (show b ∈ ([] : List Addr) from hb) (by simp), hok, .of_eq hg⟩
    refine codeAny_mono ((F _ hKb (nsK hns)).run callerA [] s₁ H ⟨[.ref a], []⟩ [.ref a] [.ref a] _ _ hr e0 (hbind s₁ (.ref a)) (.cons rfl .nil) (hsp H hO hS)) fun r s' h => ?_
    cases r with
    | error e => exact (hCX H e s' h).elim
    | ok fl =>
      cases fl with
      | next => exact False.elim h
      | brk => exact False.elim h
      | cont => exact False.elim h
      | ret u =>
        obtain ⟨v, H', os, bare, un, hok', r', q⟩ := h
        have q' : v = .bl true := q
        subst q'
        obtain rfl : u = Value.bool true := r'
        refine ⟨rfl, OldK.of_keep fun b o e => ?_, os, bare⟩
        cases q : H b with
        | none => exact un.keep b o e q (by intro z; exact absurd (show b ∈ ([] : List Addr) from z) (by simp)) (by simp)
        | some u =>
          rcases hO b with z | ⟨ob, xs, z⟩
          · rw [q] at z; cases z
          · have z2 := un.frzs b ob _ z
            obtain ⟨e1, _⟩ := hok b _ z
            obtain ⟨e2, _⟩ := hok' b _ z2
            rw [e] at e1; cases e1
            exact e2
  cases hk : K.lookup a with
  | some o =>
    -- the script is one of the module's own objects
    have e := KX a o hk
    rw [ha] at e
    cases e
    refine core (fun _ => none) (fun _ => .inl rfl) (.inr ⟨_, vs.toArray, _, hk, rfl, rfl, rfl, by rw [List.size_toArray, lenV]; exact hl, by simpa using rv⟩) (fun b u z => by have z' : (none : Option HO) = some u := z; cases z') (fun b z => absurd rfl z) fun z => absurd rfl z
  | none =>
    refine core (fun b => if b = a then some (.frz { cls := .type "list", data := .seq vs.toArray } (.lst (ns.map V.int))) else none) (fun b => ?_) (.inl (.inr ⟨{ cls := .type "list", data := .seq vs.toArray }, if_pos rfl⟩)) (fun b u z => ?_) (fun b z => ?_) fun _ => hk
    · by_cases hb : b = a
      · exact .inr ⟨_, _, if_pos hb⟩
      · exact .inl (if_neg hb)
    · by_cases hb : b = a
      · have z' := (if_pos hb).symm.trans z
        cases z'
        subst hb
        exact ⟨ha, by rw [List.length_map]; exact hl, vs, _, rv, ha⟩
      · have z' := (if_neg hb).symm.trans z
        cases z'
    · by_cases hb : b = a
      · exact hb
      · exact absurd (if_neg hb) z
end L2

namespace L2
open PySem PySem.Spec PyProof.Rows

abbrev KOf {K : PySem.W.Frag} {h : Heap} (_ : K.In h) : PySem.W.Frag := K

/-- the goal that k_head leaves (case hc), from the law's promise. F gives the function object fd (K's own) once, then the promise over every base -/
theorem walk_of {l : PySem.W.OpenLaw} {n k : Nat} {q : Program} {loose : List Str} {XP : (Str → Option Value) → Heap → Prop} {YP : World → Heap → Prop} {d : DefRec} {K : Params → PySem.W.Frag} {CX : World → CXT} {sp : World → Sp} {x : Str}
    (hn : l.most = some n) (hn2 : n ≤ sizeLine) (hdf : d.params.defaults = []) (hr : Room k callerA)
    (hY : ∀ (w : World) (h : Heap), YP w h → (K w.params).In h)
    (F : ∀ (w : World) (mg : Str → Option Value) (fa : Addr) (h : Heap), (K w.params).In h → h.Ns mainGlobals mg → mg d.name = some (.ref fa) →
      ∃ fd : FuncData, (∀ (s : Shared) (u : Value), BindsTo s fd ⟨[u], []⟩ [(x, u)]) ∧
        ∀ base : Heap, (K w.params).In base → base.Ns mainGlobals mg → FnOk l.prog w (K w.params) mg base (CX w) k fa fd [x] (sp w))
    (hsp : ∀ (w : World) (H : Hp) (a : Addr) (ns : List Int), ns.length ≤ n → Only H → SqL (K w.params) H a (ns.map V.int) → sp w [.ref a] H (fun v _ => v = .bl true) fun _ _ _ => False)
    (hCX : ∀ (w : World) (H : Hp) (s : Shared) (e : Value) (s' : Shared), CX w [] H s (fun _ _ _ => False) e s' → False) :
    PySem.W.WalkO q loose XP YP l.row.toRowW d [] (fun f vs => PySem.call f vs) := by
  refine Att.attach_call hn hdf fun w s₀ s₁ mg mb fa o pm cd doc a vs ns G Y ho hd hcd hmg hobj hints hlen hg => ?_
  have KX := hY w _ Y
  obtain ⟨fd, hb, hF⟩ := F w mg fa _ KX G.T.g hmg
  exact law_call KX G.T.g G.T.b G.T.builtins G.T.nolimit hg hobj hints (Nat.le_trans hlen hn2) hr hF hb (fun H hO hS => hsp w H a ns hlen hO hS) fun H e s' => hCX w H s₁ e s'
/-- the same where the promise hangs on the written part alone: (sp := My.sp_law), no hole under a binder -/
theorem walk_ofK {l : PySem.W.OpenLaw} {n k : Nat} {q : Program} {loose : List Str} {XP : (Str → Option Value) → Heap → Prop} {YP : World → Heap → Prop} {d : DefRec} {K : Params → PySem.W.Frag} {CX : CXT} {sp : PySem.W.Frag → Sp} {x : Str}
    (hn : l.most = some n) (hn2 : n ≤ sizeLine) (hdf : d.params.defaults = []) (hr : Room k callerA)
    (hY : ∀ (w : World) (h : Heap), YP w h → (K w.params).In h)
    (F : ∀ (w : World) (mg : Str → Option Value) (fa : Addr) (h : Heap), (K w.params).In h → h.Ns mainGlobals mg → mg d.name = some (.ref fa) →
      ∃ fd : FuncData, (∀ (s : Shared) (u : Value), BindsTo s fd ⟨[u], []⟩ [(x, u)]) ∧
        ∀ base : Heap, (K w.params).In base → base.Ns mainGlobals mg → FnOk l.prog w (K w.params) mg base CX k fa fd [x] (sp (K w.params)))
    (hsp : ∀ (K : PySem.W.Frag) (H : Hp) (a : Addr) (ns : List Int), ns.length ≤ n → Only H → SqL K H a (ns.map V.int) → sp K [.ref a] H (fun v _ => v = .bl true) fun _ _ _ => False)
    (hCX : ∀ (H : Hp) (s : Shared) (e : Value) (s' : Shared), CX [] H s (fun _ _ _ => False) e s' → False) :
    PySem.W.WalkO q loose XP YP l.row.toRowW d [] (fun f vs => PySem.call f vs) :=
  walk_of (K := K) (CX := fun _ => CX) (sp := fun w => sp (K w.params)) hn hn2 hdf hr hY F (fun w H a ns h1 h2 h3 => hsp (K w.params) H a ns h1 h2 h3) fun _ H s e s' => hCX H s e s'
end L2

/- THE LAST THEOREM (shape; LID, My.* are yours):
   My.Adr: a structure of the addresses that your layer names (classes, functions); My.Txt K t: a structure (Prop) of the equations over K;
   My.txt_mk : {K} {implicit addresses ..} (e1 : nsIn K mainGlobals "law" = some (some (.ref f))) (e2 : K.lookup f = some ⟨oc, od, .func (fnOf "law" "law" params body scope dV kV doc pm an cdv ct), sl⟩) (e3 : codeIn K cdv "law" = true) .. : ∃ t, My.Txt K t

set_option maxRecDepth 100000 in
set_option maxHeartbeats 0 in
theorem PySem.Challenge.cw_LID_holds : PySem.Challenge.rw_LID.Holds := by
  w_on; o_law; k_head; (case hw => w_witness2)
  k_fill
  refine L2.walk_of (l := PySem.Challenge.rw_LID) (n := 63) (k := 40) (x := "script") (CX := fun w => ..) (sp := fun _ => My.sp_law) rfl (by decide) rfl ⟨rfl, by decide, by decide⟩ (fun w h Y => PySem.W.kIn_of Y) ?F ?S ?C
  case F =>
    intro w mg fa h KX G hmg
    have T : ∃ t, My.Txt (L2.KOf KX) t := by
      dsimp only [L2.KOf]                          -- K must stand as «<heap const> w.params» for k_is
      refine' My.txt_mk ?e1 ?e2 ?e3 ..
      (case e1 => PySem.W.k_is)                    -- in the order: a name -> its address -> its object -> its parts
      (case e2 => PySem.W.k_is)
      ..
    obtain ⟨t, T⟩ := T
    have e0 := hmg.symm.trans (PySem.W.mg_of KX G T.law)
    cases e0                                       -- fa is the law's own address
    exact ⟨_, fun s u => .of_eq rfl, fun base kb nb => My.law_fn T kb nb⟩     -- if «.of_eq rfl» comes too early: refine' ⟨_, ?b, fun base kb nb => My.law_fn T kb nb⟩; exact fun s u => .of_eq rfl
  case S => exact fun w H a ns hl hO hS => ..
  case C => exact ..
(the tactic k_is has no namespace: write k_is) -/

/-! SHORT WORDS over the layer: a def of the text, its body, what a loop and a test want. -/
namespace L2
open PySem PySem.Spec PyProof.Rows

/-! ### the text by places -/
/-- the j-th statement of a class's body -/
def inClass (s : Stmt) (j : Nat) : Stmt := match s with
  | .ClassDef _ _ _ body _ _ _ _ _ _ _ => body.getD j (.Pass ⟨0, 0, 0, 0⟩)
  | _ => .Pass ⟨0, 0, 0, 0⟩
def defArgs (s : Stmt) : Arguments := match s with
  | .FunctionDef _ a _ _ _ _ _ _ _ _ => a
  | _ => { posonlyargs := [], args := [], vararg := none, kwonlyargs := [], kw_defaults := [], kwarg := none, defaults := [] }
def defBody (s : Stmt) : List Stmt := match s with
  | .FunctionDef _ _ b _ _ _ _ _ _ _ => b
  | _ => []
def defScope (s : Stmt) : Scope := match s with
  | .FunctionDef _ _ _ _ _ _ sc _ _ _ => sc
  | _ => { kind := .function, names := [], isGenerator := false, isCoroutine := false }

/-! ### no exception leaves a def -/
abbrev CX0 : CXT := fun _ _ _ _ _ _ => False
abbrev E0 : XK := fun _ _ _ => False
theorem pass0 {X : Cx} : Passes CX0 X E0 := fun _ _ _ _ _ _ _ h => h.elim

/-! ### a def (or method) of the text as it stands behind the top -/
structure Fun (K : PySem.W.Frag) (x qual : Str) (st : Stmt) (f : Addr) (fd : FuncData) : Prop where
  ex : ∃ (oc : Value) (od : Option Addr) (kV doc pm : Value) (an : Option Addr) (cdv ct : Value) (osl : Array (Option Value)),
    fd = PySem.W.fnOf x qual (defArgs st) (defBody st) (defScope st) .none kV doc pm an cdv ct ∧ K.lookup f = some ⟨oc, od, .func fd, osl⟩ ∧ PySem.W.codeIn K cdv qual = true
  kp : PySem.W.keepIn K (.ref f) = true
section
variable {P : Program} {w : World} {K : PySem.W.Frag} {mg : Str → Option Value} {base : Heap}
/-- THE RULE for a def: its body as a term of rules, and the reading of that term -/
theorem Fun.ok {x qual : Str} {st : Stmt} {f : Addr} {fd : FuncData} {N ps : List Str} {k : Nat} {sp : Sp} (F : Fun K x qual st f fd) (S : FnScope N ps (defScope st)) (len : ∀ vs H Q E, sp vs H Q E → vs.length = ps.length)
    (hbody : ∀ (cdv : Value) (A : Around) (outer : List Env) (s : Shared) (H : Hp) (vs : List V) (Q : VK) (E : XK), Room k (A.deeper (envOfC qual (defScope st) s.heap.objs.size f cdv)) → sp vs H Q E →
      ∃ t, PSs (cxOf CX0 P w K mg base N qual (defScope st) f cdv A outer s H E).nox (defBody st) t ∧ t { nx := fun _ H' => Q .non H', rt := Q } (start N vs) H) : FnOk P w K mg base CX0 (k + 1) f fd ps sp := by
  obtain ⟨oc, od, kV, doc, pm, an, cdv, ct, osl, rfl, lk, hcd⟩ := F.ex
  refine fn_of lk hcd S len fun A outer s H vs Q E hr hsp => ?_
  obtain ⟨t, h, q⟩ := hbody cdv A outer s H vs Q E hr hsp
  exact ⟨t, h.nox, q⟩
/-- how its arguments bind (no defaults): h is «fun _ _ _ _ _ _ us hl => match us, hl with | [_, _], _ => rfl», one _ a parameter -/
theorem Fun.binds {x qual : Str} {st : Stmt} {f : Addr} {fd : FuncData} {ps : List Str} (F : Fun K x qual st f fd)
    (h : ∀ (kV doc pm : Value) (an : Option Addr) (cdv ct : Value) (us : List Value), us.length = ps.length → bindArgs (PySem.W.fnOf x qual (defArgs st) (defBody st) (defScope st) .none kV doc pm an cdv ct) ⟨us, []⟩ = pure (ps.zip us)) : Binds K fd ps [] := by
  obtain ⟨oc, od, kV, doc, pm, an, cdv, ct, osl, rfl, lk, hcd⟩ := F.ex
  exact .all (h kV doc pm an cdv ct)
theorem fun_mk {x qual : Str} {st : Stmt} {f : Addr} {oc : Value} {od an : Option Addr} {osl : Array (Option Value)} {kV doc pm cdv ct : Value} (l : K.lookup f = some ⟨oc, od, .func (PySem.W.fnOf x qual (defArgs st) (defBody st) (defScope st) .none kV doc pm an cdv ct), osl⟩)
    (c : PySem.W.codeIn K cdv qual = true) (k : PySem.W.keepIn K (.ref f) = true) : Fun K x qual st f (PySem.W.fnOf x qual (defArgs st) (defBody st) (defScope st) .none kV doc pm an cdv ct) := ⟨⟨oc, od, kV, doc, pm, an, cdv, ct, osl, rfl, l, c⟩, k⟩
end
theorem hu_of {A : Around} {k : Nat} (hr : Room k A) : A.units + 1 < cLine := Nat.lt_of_le_of_lt (Nat.add_le_add_left (by decide : 1 ≤ 64) _) hr.units
theorem small1000 {n : Nat} (h : n ≤ 1000) : n < sizeLine := Nat.lt_of_le_of_lt h (by decide)

/-! ### expressions in short: the name that stands in the i-th slot -/
section
variable {X : Cx}
theorem pv (i : Nat) {x : Str} {pos : Pos} (hN : X.N[i]? = some x := by rfl) (hv : Vis X.env.scope x := by first | exact Or.inl rfl | exact Or.inr (Or.inl rfl) | exact Or.inr (Or.inr rfl)) (hd : (x == ("__debug__" : Str)) = false := by decide)
    (hcd : (x == ("__classdict__" : Str)) = false := by decide) : PE X (.Name x pos) (tVar i) := pe_var hN hv hd hcd
end

/-! ### tests -/
theorem iteF {A B : Prop} (h : B) : if false = true then A else B := by
  rw [if_neg Bool.false_ne_true]
  exact h
theorem iteT {A B : Prop} (h : A) : if true = true then A else B := by
  rw [if_pos rfl]
  exact h
theorem ite2 {c A B : Prop} [Decidable c] (h1 : c → A) (h2 : ¬ c → B) : if c then A else B := by
  by_cases h : c
  · rw [if_pos h]
    exact h1 h
  · rw [if_neg h]
    exact h2 h
theorem iteNS {c A B : Prop} [Decidable c] (hc : c) (h : B) : if (!decide c) = true then A else B := by
  rw [decide_eq_true hc]
  exact iteF h

/-! ### heaps -/
/-- all that was tracked is as it was -/
def Same (H H' : Hp) : Prop := ∀ b o, H b = some o → H' b = some o
theorem Same.refl (H : Hp) : Same H H := fun _ _ h => h
theorem Same.trans {H H1 H2 : Hp} (a : Same H H1) (b : Same H1 H2) : Same H H2 := fun c o h => b c o (a c o h)
theorem Same.free {H H' : Hp} (e : Same H H') {l : Addr} (h : H' l = Option.none) : H l = Option.none := by
  cases q : H l with
  | none => rfl
  | some o =>
    rw [e l o q] at h
    cases h
theorem Same.seq {K : PySem.W.Frag} {H H' : Hp} {a : Addr} {xs : List V} (e : Same H H') (h : SqL K H a xs) : SqL K H' a xs := by
  rcases h with (h | ⟨o, h⟩) | h
  · exact .inl (.inl (e _ _ h))
  · exact .inl (.inr ⟨o, e _ _ h⟩)
  · exact .inr h

end L2

namespace L2
open PySem PySem.Spec PyProof.Rows

/-! ### lists of pairs as tables -/
section
variable {κ : Type} [DecidableEq κ]
def valV (kvs : List (κ × V)) (k : κ) : Option V := (kvs.find? fun kv => decide (kv.1 = k)).map (·.2)
/-- in its place, or at the end -/
def putK (kvs : List (κ × V)) (k : κ) (v : V) : List (κ × V) :=
  if (kvs.any fun kv => decide (kv.1 = k)) = true then kvs.map (fun kv => if kv.1 = k then (kv.1, v) else kv) else kvs ++ [(k, v)]
def dropK (kvs : List (κ × V)) (k : κ) : List (κ × V) := kvs.filter fun kv => decide (kv.1 ≠ k)

theorem valV_nil {k : κ} : valV ([] : List (κ × V)) k = none := rfl
theorem valV_pos {p : κ × V} {r : List (κ × V)} {k : κ} (e : p.1 = k) : valV (p :: r) k = some p.2 := by simp [valV, List.find?_cons, e]
theorem valV_neg {p : κ × V} {r : List (κ × V)} {k : κ} (e : ¬ p.1 = k) : valV (p :: r) k = valV r k := by simp [valV, List.find?_cons, e]
theorem valV_any (k : κ) : ∀ kvs : List (κ × V), (kvs.any fun kv => decide (kv.1 = k)) = (valV kvs k).isSome
  | [] => rfl
  | p :: r => by
    rw [List.any_cons]
    by_cases e : p.1 = k
    · simp only [valV_pos e, decide_eq_true e, Bool.true_or, Option.isSome_some]
    · rw [valV_neg e, decide_eq_false e, Bool.false_or]; exact valV_any k r
theorem valV_map (k j : κ) (y : V) : ∀ kvs : List (κ × V), valV (kvs.map fun kv => if kv.1 = k then (kv.1, y) else kv) j = (valV kvs j).map fun x => if j = k then y else x
  | [] => rfl
  | p :: r => by
    have ih := valV_map k j y r
    rw [List.map_cons]
    by_cases h : p.1 = k
    · rw [if_pos h]
      by_cases e : p.1 = j
      · rw [valV_pos (p := (p.1, y)) e, valV_pos e, Option.map_some, if_pos (e.symm.trans h)]
      · rw [valV_neg (p := (p.1, y)) e, valV_neg e, ih]
    · rw [if_neg h]
      by_cases e : p.1 = j
      · rw [valV_pos (p := p) e, valV_pos e, Option.map_some, if_neg (fun z => h (e.trans z))]
      · rw [valV_neg (p := p) e, valV_neg e, ih]
theorem valV_snoc (k j : κ) (y : V) : ∀ kvs : List (κ × V), valV kvs k = none → valV (kvs ++ [(k, y)]) j = if j = k then some y else valV kvs j
  | [], _ => by
    by_cases e : k = j
    · rw [if_pos e.symm]; exact valV_pos (p := (k, y)) e
    · rw [if_neg (fun z => e z.symm)]; exact valV_neg (p := (k, y)) e
  | p :: r, hn => by
    rw [List.cons_append]
    have hk : ¬ p.1 = k := fun z => by rw [valV_pos z] at hn; cases hn
    rw [valV_neg hk] at hn
    have ih := valV_snoc k j y r hn
    by_cases e : p.1 = j
    · rw [valV_pos e, valV_pos e, if_neg (fun z => hk (e.trans z))]
    · rw [valV_neg e, valV_neg e, ih]
theorem valV_put (kvs : List (κ × V)) (k j : κ) (y : V) : valV (putK kvs k y) j = if j = k then some y else valV kvs j := by
  unfold putK
  by_cases a : (kvs.any fun kv => decide (kv.1 = k)) = true
  · rw [if_pos a, valV_map]
    rw [valV_any] at a
    by_cases e : j = k
    · obtain ⟨x, hx⟩ := Option.isSome_iff_exists.mp a
      rw [if_pos e, e, hx, Option.map_some, if_pos rfl]
    · rw [if_neg e]
      cases valV kvs j with
      | none => rfl
      | some x => rw [Option.map_some, if_neg e]
  · rw [if_neg a]
    refine valV_snoc k j y kvs ?_
    rw [valV_any] at a
    cases q : valV kvs k with
    | none => rfl
    | some x => rw [q] at a; exact (a rfl).elim
theorem length_putK (kvs : List (κ × V)) (k : κ) (v : V) : (putK kvs k v).length ≤ kvs.length + 1 := by
  unfold putK
  split
  · rw [List.length_map]; omega
  · rw [List.length_append, List.length_cons, List.length_nil]; omega
theorem putK_new {kvs : List (κ × V)} {k : κ} (v : V) (h : valV kvs k = none) : putK kvs k v = kvs ++ [(k, v)] := by
  unfold putK
  rw [valV_any, h]
  exact if_neg (by decide)

theorem RelO.isSome_eq {o : Option V} {u : Option Value} (r : RelO o u) : o.isSome = u.isSome := by
  cases o with
  | none => cases u with
    | none => rfl
    | some _ => exact (show False from r).elim
  | some _ => cases u with
    | none => exact (show False from r).elim
    | some _ => rfl
theorem RelO.getD {o : Option V} {u : Option Value} {d : V} {d' : Value} (r : RelO o u) (rd : RelV d d') : RelV (o.getD d) (u.getD d') := by
  cases o with
  | none => cases u with
    | none => exact rd
    | some _ => exact (show False from r).elim
  | some _ => cases u with
    | none => exact (show False from r).elim
    | some _ => exact r

/-- raw tables of the same keys -/
theorem KV.val {kvs : List (κ × V)} {vs : List (κ × Value)} (r : KV kvs vs) (k : κ) : RelO (valV kvs k) (valueAt vs k) := by
  unfold KV at r
  induction r with
  | nil => exact True.intro
  | @cons p q ps qs h t ih =>
    obtain ⟨h1, h2⟩ := h
    by_cases e : p.1 = k
    · have e' : q.1 = k := h1.symm.trans e
      have b : valueAt (q :: qs) k = some q.2 := by simp [valueAt, List.find?_cons, e']
      rw [valV_pos e, b]; exact h2
    · have e' : ¬ q.1 = k := fun z => e (h1.trans z)
      have b : valueAt (q :: qs) k = valueAt qs k := by simp [valueAt, List.find?_cons, e']
      rw [valV_neg e, b]; exact ih
theorem KV.any {kvs : List (κ × V)} {vs : List (κ × Value)} (r : KV kvs vs) (k : κ) : (kvs.any fun kv => decide (kv.1 = k)) = vs.any fun kv => decide (kv.1 = k) := by
  unfold KV at r
  induction r with
  | nil => rfl
  | cons h t ih => rw [List.any_cons, List.any_cons, ih, h.1]
theorem KV.repl {kvs : List (κ × V)} {vs : List (κ × Value)} (r : KV kvs vs) (k : κ) {y : V} {u : Value} (ry : RelV y u) :
    KV (kvs.map fun kv => if kv.1 = k then (kv.1, y) else kv) (vs.map fun kv => if kv.1 = k then (kv.1, u) else kv) := by
  unfold KV at r ⊢
  induction r with
  | nil => exact .nil
  | @cons p q ps qs h t ih =>
    rw [List.map_cons, List.map_cons]
    refine .cons ?_ ih
    obtain ⟨h1, h2⟩ := h
    by_cases e : p.1 = k
    · rw [if_pos e, if_pos (h1.symm.trans e)]; exact ⟨h1, ry⟩
    · rw [if_neg e, if_neg (fun z => e (h1.trans z))]; exact ⟨h1, h2⟩
theorem KV.put {kvs : List (κ × V)} {vs : List (κ × Value)} (r : KV kvs vs) (k : κ) {y : V} {u : Value} (ry : RelV y u) : KV (putK kvs k y) (stored vs k u) := by
  unfold putK stored
  rw [r.any k]
  by_cases e : (vs.any fun kv => decide (kv.1 = k)) = true
  · rw [if_pos e, if_pos e]; exact r.repl k ry
  · rw [if_neg e, if_neg e]; exact Paired.snoc r ⟨rfl, ry⟩
theorem KV.drop {kvs : List (κ × V)} {vs : List (κ × Value)} (r : KV kvs vs) (k : κ) : KV (dropK kvs k) (without vs k) := by
  unfold KV at r ⊢
  unfold dropK without
  induction r with
  | nil => exact .nil
  | @cons p q ps qs h t ih =>
    obtain ⟨h1, h2⟩ := h
    rw [List.filter_cons, List.filter_cons]
    by_cases e : p.1 = k
    · have a : ¬ decide (p.1 ≠ k) = true := by simp [e]
      have b : ¬ decide (q.1 ≠ k) = true := by simp [h1.symm.trans e]
      rw [if_neg a, if_neg b]; exact ih
    · have e' : ¬ q.1 = k := fun z => e (h1.trans z)
      have a : decide (p.1 ≠ k) = true := by simp [e]
      have b : decide (q.1 ≠ k) = true := by simp [e']
      rw [if_pos a, if_pos b]; exact .cons ⟨h1, h2⟩ ih
theorem KV.keys {kvs : List (κ × V)} {vs : List (κ × Value)} (r : KV kvs vs) : kvs.map (·.1) = vs.map (·.1) := by
  unfold KV at r
  induction r with
  | nil => rfl
  | cons h t ih => rw [List.map_cons, List.map_cons, ih, h.1]
theorem KV.length {kvs : List (κ × V)} {vs : List (κ × Value)} (r : KV kvs vs) : kvs.length = vs.length := Paired.length r
theorem dropK_le (kvs : List (κ × V)) (k : κ) : (dropK kvs k).length ≤ kvs.length := List.length_filter_le _ _
end


/-! ### a tracked dict, its keys ints and texts or tuples of these -/
theorem kV_is {P : Program} {w : World} {k : Key} {u : Value} (r : RelV (kV k) u) : (mixKind P w).is k u = true := by
  cases k with
  | inl i => obtain ⟨t, e⟩ := (show ∃ t, u = Value.int i t from r); subst e; exact mixKind_int P w i t
  | inr x => obtain ⟨t, e⟩ := (show ∃ t, u = Value.str x t from r); subst e; exact mixKind_str P w x t
theorem kV_inj {a b : Key} (e : kV a = kV b) : a = b := by
  cases a with
  | inl i => cases b with
    | inl j => have e' : V.int i = V.int j := e; injection e' with e'; rw [e']
    | inr y => exact nomatch (show V.int i = V.str y from e)
  | inr x => cases b with
    | inl j => exact nomatch (show V.str x = V.int j from e)
    | inr y => have e' : V.str x = V.str y := e; injection e' with e'; rw [e']
theorem kVs_inj : ∀ {a b : List Key}, a.map kV = b.map kV → a = b
  | [], [], _ => rfl
  | [], _ :: _, e => by simp at e
  | _ :: _, [], e => by simp at e
  | x :: xs, y :: ys, e => by
    rw [List.map_cons, List.map_cons] at e
    injection e with e1 e2
    rw [kV_inj e1, kVs_inj e2]
theorem items_are {P : Program} {w : World} : ∀ {ks : List Key} {us : List Value}, Vals (ks.map kV) us → ItemsAre (mixKind P w) ks us
  | [], _, r => by rw [List.map_nil] at r; cases r; exact .nil
  | k :: ks, _, r => by
    rw [List.map_cons] at r
    cases r with
    | cons h t => exact .cons (kV_is h) (items_are t)

/-- raw entries of a dict with tuple keys -/
abbrev KT (H : Hp) : List (List Key × V) → List (List Key × Addr × Value) → Prop := Paired fun p q => p.1 = q.1 ∧ H q.2.1 = some (.tup (p.1.map kV)) ∧ RelV p.2 q.2.2
theorem KT.val {H : Hp} {kvs : List (List Key × V)} {xs : List (List Key × Addr × Value)} (r : KT H kvs xs) (k : List Key) : RelO (valV kvs k) ((atKey xs k).map (·.2)) := by
  induction r with
  | nil => exact True.intro
  | @cons p q ps qs h t ih =>
    obtain ⟨h1, _, h2⟩ := h
    by_cases e : p.1 = k
    · have e' : q.1 = k := h1.symm.trans e
      have b : atKey (q :: qs) k = some q.2 := by simp [atKey, List.find?_cons, e']
      rw [valV_pos e, b]; exact h2
    · have e' : ¬ q.1 = k := fun z => e (h1.trans z)
      have b : atKey (q :: qs) k = atKey qs k := by simp [atKey, List.find?_cons, e']
      rw [valV_neg e, b]; exact ih
theorem KT.repl {H : Hp} {kvs : List (List Key × V)} {xs : List (List Key × Addr × Value)} (r : KT H kvs xs) (k : List Key) {y : V} {u : Value} (ry : RelV y u) :
    KT H (kvs.map fun kv => if kv.1 = k then (kv.1, y) else kv) (xs.map (putAt k u)) := by
  induction r with
  | nil => exact .nil
  | @cons p q ps qs h t ih =>
    rw [List.map_cons, List.map_cons]
    refine .cons ?_ ih
    obtain ⟨h1, h2, h3⟩ := h
    unfold putAt
    by_cases e : p.1 = k
    · rw [if_pos e, if_pos (h1.symm.trans e)]; exact ⟨h1, h2, ry⟩
    · rw [if_neg e, if_neg (fun z => e (h1.trans z))]; exact ⟨h1, h2, h3⟩
theorem KT.put {H : Hp} {kvs : List (List Key × V)} {xs : List (List Key × Addr × Value)} (r : KT H kvs xs) (k : List Key) {b : Addr} {y : V} {u : Value} (hb : H b = some (.tup (k.map kV))) (ry : RelV y u) :
    KT H (putK kvs k y) (storedH xs k b u) := by
  have e : (kvs.any fun kv => decide (kv.1 = k)) = (atKey xs k).isSome := by
    rw [valV_any, (r.val k).isSome_eq, Option.isSome_map]
  unfold putK storedH
  rw [e]
  by_cases q : (atKey xs k).isSome = true
  · rw [if_pos q, if_pos q]; exact r.repl k ry
  · rw [if_neg q, if_neg q]; exact Paired.snoc r ⟨rfl, hb, ry⟩
theorem KT.keeps {H H' : Hp} {kvs : List (List Key × V)} {xs : List (List Key × Addr × Value)} (r : KT H kvs xs) (ht : ∀ b ys, H b = some (.tup ys) → H' b = some (.tup ys)) : KT H' kvs xs :=
  Paired.mapP r fun _ _ z => ⟨z.1, ht _ _ z.2.1, z.2.2⟩

section
variable {P : Program} {w : World} {H : Hp} {h : Heap} {a : Addr}
theorem rd_of {u : HO} (ok : HOk P w H h) (e : Rd H a u) : ObjOk P w H h a u := e.ok ok
theorem dk_rd {kvs : List (Key × V)} (ok : HOk P w H h) (e : Rd H a (.dK kvs)) : kvs.length ≤ sizeLine ∧ (a == sysModules) = false ∧ ∃ vs, KV kvs vs ∧ h.DictOf (mixKind P w) a vs :=
  show ObjOk P w H h a (.dK kvs) from rd_of ok e
theorem dk_of {kvs : List (Key × V)} (ok : HOk P w H h) (e : H a = some (.dK kvs)) : kvs.length ≤ sizeLine ∧ (a == sysModules) = false ∧ ∃ vs, KV kvs vs ∧ h.DictOf (mixKind P w) a vs := dk_rd ok (.inl e)
/-- a tracked tuple of ints and texts is a key -/
theorem key_of {ks : List Key} (ok : HOk P w H h) (e : H a = some (.tup (ks.map kV))) : (tupleKind (mixKind P w)).is h ks a := by
  obtain ⟨_, its, r, o, h1, h2, n, h3⟩ := (show ObjOk P w H h a (.tup (ks.map kV)) from ok a _ e)
  exact ⟨o, its.toArray, n, h1, h2, h3, by simpa using items_are r⟩
theorem dt_rd {kvs : List (List Key × V)} (ok : HOk P w H h) (e : Rd H a (.dT kvs)) : kvs.length ≤ sizeLine ∧ (a == sysModules) = false ∧
    ∃ xs, KT H kvs xs ∧ h.DictOfH (tupleKind (mixKind P w)) a xs := by
  obtain ⟨z, y, xs, r, o, es, ep, h1, h2, h3, h4, h5⟩ := (show ObjOk P w H h a (.dT kvs) from rd_of ok e)
  refine ⟨z, y, xs, r, o, es, ep, h1, h2, h3, h4, fun x hx => ?_, h5⟩
  have all : ∀ {l : List (List Key × V)} {m : List (List Key × Addr × Value)}, KT H l m → ∀ x ∈ m, (tupleKind (mixKind P w)).is h x.1 x.2.1 := by
    intro l m q
    induction q with
    | nil => intro x hx; exact nomatch hx
    | @cons p q ps qs hq t ih =>
      intro x hx
      rcases List.mem_cons.mp hx with e | hx
      · subst e
        exact key_of ok (by rw [← hq.1]; exact hq.2.1)
      · exact ih x hx
  exact all r x hx
theorem dt_of {kvs : List (List Key × V)} (ok : HOk P w H h) (e : H a = some (.dT kvs)) : kvs.length ≤ sizeLine ∧ (a == sysModules) = false ∧
    ∃ xs, KT H kvs xs ∧ h.DictOfH (tupleKind (mixKind P w)) a xs := dt_rd ok (.inl e)
end

/-- what the dict at a holds at the key y -/
def DGet (H : Hp) (a : Addr) (y : V) (r : Option V) : Prop :=
  (∃ kvs k, Rd H a (.dK kvs) ∧ y = kV k ∧ r = valV kvs k) ∨ ∃ kvs k b, Rd H a (.dT kvs) ∧ y = .ref b ∧ H b = some (.tup (k.map kV)) ∧ r = valV kvs k
/-- the heap behind a[y] = v -/
def DPut (H : Hp) (a : Addr) (y v : V) (H' : Hp) : Prop :=
  (∃ kvs k, H a = some (.dK kvs) ∧ y = kV k ∧ kvs.length < sizeLine ∧ H' = upd H a (.dK (putK kvs k v))) ∨
  ∃ kvs k b, H a = some (.dT kvs) ∧ y = .ref b ∧ H b = some (.tup (k.map kV)) ∧ kvs.length < sizeLine ∧ H' = upd H a (.dT (putK kvs k v))
theorem DGet.k {H : Hp} {a : Addr} {kvs : List (Key × V)} {k : Key} (e : H a = some (.dK kvs)) : DGet H a (kV k) (valV kvs k) := .inl ⟨kvs, k, .inl e, rfl, rfl⟩
theorem DGet.t {H : Hp} {a b : Addr} {kvs : List (List Key × V)} {k : List Key} (e : H a = some (.dT kvs)) (eb : H b = some (.tup (k.map kV))) : DGet H a (.ref b) (valV kvs k) := .inr ⟨kvs, k, b, .inl e, rfl, eb, rfl⟩
theorem DPut.k {H : Hp} {a : Addr} {kvs : List (Key × V)} {k : Key} {v : V} (e : H a = some (.dK kvs)) (hl : kvs.length < sizeLine) : DPut H a (kV k) v (upd H a (.dK (putK kvs k v))) := .inl ⟨kvs, k, e, rfl, hl, rfl⟩
theorem DPut.t {H : Hp} {a b : Addr} {kvs : List (List Key × V)} {k : List Key} {v : V} (e : H a = some (.dT kvs)) (eb : H b = some (.tup (k.map kV))) (hl : kvs.length < sizeLine) :
    DPut H a (.ref b) v (upd H a (.dT (putK kvs k v))) := .inr ⟨kvs, k, b, e, rfl, eb, hl, rfl⟩


section
variable {X : Cx} {pins : List (Addr × Obj)} {σ : St} {H : Hp} {s : Shared} {a : Addr} {y v : V} {u r : Value} {o : Option V} {A : Around} {E : Value → Shared → Prop}

theorem Inv.big (I : Inv X pins σ H s) : sysModules < s.heap.objs.size := by
  have h : mainGlobals < s.heap.objs.size := (I.mod.glob.keeps I.bk).lt
  exact Nat.lt_trans (by decide) h

/-- d[y], there -/
theorem d_getItem {Q : Value → Shared → Prop} (hu : A.units + 1 < cLine) (I : Inv X pins σ H s) (g : DGet H a y (some v)) (ry : RelV y u) (h : ∀ w' s', Inv X pins σ H s' → RelV v w' → Q w' s') :
    wpAny (model X.prog X.w) A (getItem (.ref a) u) Q E s := by
  rcases g with ⟨kvs, k, e, ey, l⟩ | ⟨kvs, k, b, e, ey, eb, l⟩
  · subst ey
    obtain ⟨z, hd, vs, rel, dd⟩ := dk_rd I.hok e
    obtain ⟨w', hw, rw'⟩ := RelO.some_of (v := v) (o := valueAt vs k) (by rw [l]; exact rel.val k)
    exact wpAny_getItem_of (kV_is ry) dd.mapOf hw (h w' _ (I.tok _) rw')
  · subst ey
    cases (show u = Value.ref b from ry)
    obtain ⟨z, hd, xs, rel, dd⟩ := dt_rd I.hok e
    obtain ⟨w', hw, rw'⟩ := RelO.some_of (v := v) (o := (atKey xs k).map (·.2)) (by rw [l]; exact rel.val k)
    obtain ⟨p, hp, hp2⟩ := Option.map_eq_some_iff.mp hw
    refine wpAny_getItem_heap (tupleKind_room_in1 hu) (key_of I.hok eb) dd hp ?_
    rw [hp2]
    exact h w' _ (I.tok _) rw'
/-- y in d -/
theorem d_in {Q : Value → Shared → Prop} (hu : A.units + 1 < cLine) (I : Inv X pins σ H s) (g : DGet H a y o) (ry : RelV y u) (h : ∀ s', Inv X pins σ H s' → Q (.bool o.isSome) s') :
    wpAny (model X.prog X.w) A (compareOp .In u (.ref a)) Q E s := by
  rcases g with ⟨kvs, k, e, ey, l⟩ | ⟨kvs, k, b, e, ey, eb, l⟩
  · subst ey
    obtain ⟨z, hd, vs, rel, dd⟩ := dk_rd I.hok e
    refine wpAny_in_of (kV_is ry) hd dd.mapOf ?_
    rw [← (rel.val k).isSome_eq, ← l]
    exact h _ (I.tok _)
  · subst ey
    cases (show u = Value.ref b from ry)
    obtain ⟨z, hd, xs, rel, dd⟩ := dt_rd I.hok e
    refine wpAny_in_heap (tupleKind_room_in1 hu) (key_of I.hok eb) hd dd ?_
    have q := (rel.val k).isSome_eq
    rw [Option.isSome_map] at q
    rw [← q, ← l]
    exact h _ (I.tok _)
theorem d_notIn {Q : Value → Shared → Prop} (hu : A.units + 1 < cLine) (I : Inv X pins σ H s) (g : DGet H a y o) (ry : RelV y u) (h : ∀ s', Inv X pins σ H s' → Q (.bool (!o.isSome)) s') :
    wpAny (model X.prog X.w) A (compareOp .NotIn u (.ref a)) Q E s := by
  rcases g with ⟨kvs, k, e, ey, l⟩ | ⟨kvs, k, b, e, ey, eb, l⟩
  · subst ey
    obtain ⟨z, hd, vs, rel, dd⟩ := dk_rd I.hok e
    refine wpAny_notIn_of (kV_is ry) hd dd.mapOf ?_
    rw [← (rel.val k).isSome_eq, ← l]
    exact h _ (I.tok _)
  · subst ey
    cases (show u = Value.ref b from ry)
    obtain ⟨z, hd, xs, rel, dd⟩ := dt_rd I.hok e
    refine wpAny_notIn_heap (tupleKind_room_in1 hu) (key_of I.hok eb) hd dd ?_
    have q := (rel.val k).isSome_eq
    rw [Option.isSome_map] at q
    rw [← q, ← l]
    exact h _ (I.tok _)
/-- a dict's object is replaced -/
theorem d_write {h' : Heap} {t' : Nat} {ob : HO} (I : Inv X pins σ H s) (mu : Mut (H a)) (hs : Heap.SameBut a s.heap h') (he : ∃ q, h'.get? a = some q) (new : ObjOk X.prog X.w (upd H a ob) h' a ob) :
    Inv X pins σ (upd H a ob) { s with heap := h', toks := t' } :=
  I.write (x := a) (e := a) mu (.inl rfl) (fun b q hb z => (hs.2 b hb).trans z) he new
theorem dk_new {P : Program} {w : World} {H' : Hp} {h' : Heap} {kvs : List (Key × V)} {vs : List (Key × Value)} (z : kvs.length ≤ sizeLine) (hd : (a == sysModules) = false) (rel : KV kvs vs) (dd : h'.DictOf (mixKind P w) a vs) :
    ObjOk P w H' h' a (.dK kvs) := ⟨z, hd, vs, rel, dd⟩
/-- d[y] = v -/
theorem d_setItem {H' : Hp} {Q : Unit → Shared → Prop} (hu : A.units + 1 < cLine) (I : Inv X pins σ H s) (g : DPut H a y v H') (ry : RelV y u) (rv : RelV v r) (h : ∀ s', Inv X pins σ H' s' → Q () s') :
    wpAny (model X.prog X.w) A (setItem (.ref a) u r) Q E s := by
  rcases g with ⟨kvs, k, e, ey, l, eH⟩ | ⟨kvs, k, b, e, ey, eb, l, eH⟩
  · subst ey eH
    obtain ⟨z, hd, vs, rel, dd⟩ := dk_of I.hok e
    have hz : vs.length ≤ sizeLine := by rw [← rel.length]; exact z
    have hl : (putK kvs k v).length ≤ sizeLine := by have := length_putK kvs k v; omega
    refine wpAny_setItem_pairs (hsz := hz) (kV_is ry) dd fun h' dd' hs => h _ ?_
    have he : ∃ q, h'.get? a = some q := let ⟨q, _, _, hq, _⟩ := dd'; ⟨q, hq⟩
    exact d_write I (by rw [e]; exact True.intro) hs he (dk_new hl hd (rel.put k rv) dd')
  · subst ey eH
    cases (show u = Value.ref b from ry)
    obtain ⟨z, hd, xs, rel, dd⟩ := dt_of I.hok e
    have hz : xs.length ≤ sizeLine := by rw [← Paired.length rel]; exact z
    have hl : (putK kvs k v).length ≤ sizeLine := by have := length_putK kvs k v; omega
    refine wpAny_setItem_heap (hsz := hz) (tupleKind_room_in1 hu) (key_of I.hok eb) dd fun h' dd' hs => h _ ?_
    obtain ⟨q, es, ep, hq, h2, h3, h4, _, h5⟩ := dd'
    refine d_write I (by rw [e]; exact True.intro) hs ⟨q, hq⟩ ⟨hl, hd, _, (rel.put k eb rv).keeps fun c ys ec => ?_, q, es, ep, hq, h2, h3, h4, h5⟩
    rw [upd_ne (ne_of ec e (fun z => nomatch z))]
    exact ec
end

section
variable {X : Cx} {pins : List (Addr × Obj)} {σ : St} {H : Hp} {s : Shared} {a : Addr} {kvs : List (Key × V)} {k : Key} {u : Value} {A : Around} {E : Value → Shared → Prop}
/-- del d[k] -/
theorem d_delItem {Q : Unit → Shared → Prop} (I : Inv X pins σ H s) (e : H a = some (.dK kvs)) (ry : RelV (kV k) u) (l : (valV kvs k).isSome = true) (h : ∀ s', Inv X pins σ (upd H a (.dK (dropK kvs k))) s' → Q () s') :
    wpAny (model X.prog X.w) A (delItem (.ref a) u) Q E s := by
  obtain ⟨z, hd, vs, rel, dd⟩ := dk_of I.hok e
  refine wpAny_delItem_slot dd.typeIs (by decide) PySem.F.slot_dict_delitem
    (call_meetsIn PySem.F.slot_dict_delitem dd.typeIs PySem.F.entry_dict_delitem (PySem.F.args_dict_delitem_2 _ _) (meets_dict_delitem_pairs (mixKind X.prog X.w) a (kV_is ry)) ⟨vs, dd, by rw [← rel.length]; exact z, by rw [← (rel.val k).isSome_eq]; exact l, fun h' dd' hs => h _ ?_⟩)
  have he : ∃ q, h'.get? a = some q := let ⟨q, _, _, hq, _⟩ := dd'; ⟨q, hq⟩
  exact d_write I (by rw [e]; exact True.intro) hs he (dk_new (Nat.le_trans (dropK_le kvs k) z) hd (rel.drop k) dd')
/-- d.pop(k[, x]), there -/
theorem d_pop {v : V} {more : List Value} {Q : Value → Shared → Prop} (I : Inv X pins σ H s) (e : H a = some (.dK kvs)) (ry : RelV (kV k) u) (l : valV kvs k = some v) (hm : more = [] ∨ ∃ x, more = [x])
    (h : ∀ w' s', Inv X pins σ (upd H a (.dK (dropK kvs k))) s' → RelV v w' → Q w' s') : wpAny (model X.prog X.w) A (call (.builtin "dict.pop") (.ref a :: u :: more)) Q E s := by
  obtain ⟨z, hd, vs, rel, dd⟩ := dk_of I.hok e
  obtain ⟨w', hw, rw'⟩ := RelO.some_of (v := v) (o := valueAt vs k) (by rw [← l]; exact rel.val k)
  have hp : (keyPart u).isSome = true := by
    cases k with
    | inl i => obtain ⟨t, q⟩ := (show ∃ t, u = Value.int i t from ry); subst q; rfl
    | inr x => obtain ⟨t, q⟩ := (show ∃ t, u = Value.str x t from ry); subst q; rfl
  have ha : argsOk "dict.pop" ⟨.ref a :: u :: more, []⟩ := by
    rcases hm with q | ⟨x, q⟩
    · subst q; exact PySem.F.args_dict_pop_2 _ _
    · subst q; exact PySem.F.args_dict_pop_3 _ _ _
  refine call_meetsIn PySem.F.slot_dict_pop dd.typeIs PySem.F.entry_dict_pop ha (meets_dict_pop_there (mixKind X.prog X.w) a (kV_is ry) more hm hp)
    ⟨vs, w', dd, by rw [← rel.length]; exact z, hw, fun h' dd' hs => h w' _ ?_ rw'⟩
  have he : ∃ q, h'.get? a = some q := let ⟨q, _, _, hq, _⟩ := dd'; ⟨q, hq⟩
  exact d_write I (by rw [e]; exact True.intro) hs he (dk_new (Nat.le_trans (dropK_le kvs k) z) hd (rel.drop k) dd')
/-- d.pop(k, x), not there -/
theorem d_popD {r : Value} {Q : Value → Shared → Prop} (I : Inv X pins σ H s) (e : H a = some (.dK kvs)) (ry : RelV (kV k) u) (l : valV kvs k = none) (h : ∀ s', Inv X pins σ H s' → Q r s') :
    wpAny (model X.prog X.w) A (call (.builtin "dict.pop") [.ref a, u, r]) Q E s := by
  obtain ⟨z, hd, vs, rel, dd⟩ := dk_of I.hok e
  have hn : valueAt vs k = none := RelO.none_of (by rw [← l]; exact rel.val k)
  have hp : (keyPart u).isSome = true := by
    cases k with
    | inl i => obtain ⟨t, q⟩ := (show ∃ t, u = Value.int i t from ry); subst q; rfl
    | inr x => obtain ⟨t, q⟩ := (show ∃ t, u = Value.str x t from ry); subst q; rfl
  exact call_meetsIn PySem.F.slot_dict_pop dd.typeIs PySem.F.entry_dict_pop (PySem.F.args_dict_pop_3 _ _ _) (meets_dict_pop_default (mixKind X.prog X.w) a (kV_is ry) hd hp r) ⟨vs, dd, hn, h _ (I.tok _)⟩
/-- d.clear() -/
theorem d_clear {Q : Value → Shared → Prop} (I : Inv X pins σ H s) (e : H a = some (.dK kvs)) (h : ∀ s', Inv X pins σ (upd H a (.dK [])) s' → Q .none s') : wpAny (model X.prog X.w) A (call (.builtin "dict.clear") [.ref a]) Q E s := by
  obtain ⟨z, hd, vs, rel, dd⟩ := dk_of I.hok e
  refine call_meetsIn PySem.F.slot_dict_clear dd.typeIs PySem.F.entry_dict_clear (PySem.F.args_dict_clear_1 _) (meets_dict_clear (mixKind X.prog X.w) a) ⟨vs, dd, by rw [← rel.length]; exact z, fun h' dd' hs => h _ ?_⟩
  have he : ∃ q, h'.get? a = some q := let ⟨q, _, _, hq, _⟩ := dd'; ⟨q, hq⟩
  exact d_write (t' := s.toks) I (by rw [e]; exact True.intro) hs he (dk_new (Nat.zero_le _) hd .nil dd')
/-- len(d) -/
theorem d_len {Q : Value → Shared → Prop} (I : Inv X pins σ H s) (e : Rd H a (.dK kvs)) (h : ∀ t s', Inv X pins σ H s' → Q (.int kvs.length t) s') : wpAny (model X.prog X.w) A (call (.builtin "len") [.ref a]) Q E s := by
  obtain ⟨z, hd, vs, rel, dd⟩ := dk_rd I.hok e
  refine call_len_dict hd dd (by rw [← rel.length]; rw [sizeLine_eq] at z; omega) ?_
  rw [← rel.length]
  exact h _ _ (I.tok _)
/-- if d -/
theorem d_truth {Q : Bool → Shared → Prop} (I : Inv X pins σ H s) (e : Rd H a (.dK kvs)) (h : ∀ s', Inv X pins σ H s' → Q (!kvs.isEmpty) s') : wpAny (model X.prog X.w) A (truthy (.ref a)) Q E s := by
  obtain ⟨z, hd, vs, rel, dd⟩ := dk_rd I.hok e
  refine wpAny_truthy_dict hd dd (by rw [← rel.length]; rw [sizeLine_eq] at z; omega) ?_
  have q : kvs.isEmpty = vs.isEmpty := by cases rel <;> rfl
  rw [← q]
  exact h _ (I.tok _)
end


/-! ### readings and rules -/
/-- the element of a subscription, not a slice -/
def NoSl (i : Expr) : Prop := ∀ ov iv, subscripted i false ov iv = operate [ov, iv] (getItem ov iv)
theorem subD_of {prog : Program} {w : World} {A : Around} {E : Value → Shared → Prop} {s : Shared} {env : Env} {value slice : Expr} {pos : Pos} {T id : String} {Q : Value → Shared → Prop}
    (hl : typeLookup (.type T) "__getitem__" = pure (some (.builtin id))) (hs : NoSl slice)
    (h : wpAny (model prog w) A (eval value env) (fun o s₁ => wpAny (model prog w) A (eval slice env) (fun i s₂ => s₂.TypeIs o T ∧ wpAny (model prog w) A (getItem o i) Q E s₂) E s₁) E s) :
    wpAny (model prog w) A (eval (.Subscript value slice pos) env) Q E s := by
  refine Subscript_ (wpAny_mono h (fun o s₁ h₁ => wpAny_mono h₁ (fun i s₂ h₂ => ?_) fun _ _ x => x) fun _ _ x => x)
  obtain ⟨hT, h₂⟩ := h₂
  unfold subscriptTail
  refine wpAny_bind ?_
  rw [getitemInPython_of_ne hT.not_modules]
  refine wpAny_bind (wpAny_specialOf hT hl ?_)
  have fin : wpAny (model prog w) A (subscripted slice false o i) (fun r s₃ => wpAny (model prog w) A (letTemporaryGo value o r >>= fun _ => pure r) Q E s₃) E s₂ := by
    rw [hs o i]
    exact wpAny_operating (wpAny_mono h₂ (fun r s₃ h₃ => wpAny_bind (wpAny_letTemporaryGo (wpAny_pure h₃))) fun _ _ x => x)
  first
    | exact wpAny_pure (wpAny_bind fin)
    | exact wpAny_bind (wpAny_pure (wpAny_bind fin))
    | exact wpAny_bind fin

theorem dict_typeIs {X : Cx} {pins : List (Addr × Obj)} {σ : St} {H : Hp} {s : Shared} {a : Addr} {y : V} {o : Option V} (I : Inv X pins σ H s) (g : DGet H a y o) : s.TypeIs (.ref a) "dict" := by
  rcases g with ⟨kvs, k, e, _, _⟩ | ⟨kvs, k, b, e, _, _, _⟩
  · obtain ⟨_, _, vs, _, dd⟩ := dk_rd I.hok e
    exact dd.typeIs
  · obtain ⟨_, _, xs, _, dd⟩ := dt_rd I.hok e
    exact dd.typeIs
theorem dict_noDict {X : Cx} {pins : List (Addr × Obj)} {σ : St} {H : Hp} {s : Shared} {a : Addr} {y : V} {o : Option V} (I : Inv X pins σ H s) (g : DGet H a y o) :
    ∀ b, Value.ref a = .ref b → ∃ ob, s.heap.get? b = some ob ∧ ob.dict = none := fun b q => by
  cases q
  rcases g with ⟨kvs, k, e, _, _⟩ | ⟨kvs, k, b, e, _, _, _⟩
  · obtain ⟨_, _, vs, _, ob, _, _, h1, h2, _⟩ := dk_rd I.hok e
    exact ⟨ob, h1, h2.2.1⟩
  · obtain ⟨_, _, xs, _, ob, _, _, h1, h2, _⟩ := dt_rd I.hok e
    exact ⟨ob, h1, h2.2.1⟩

/-- d[y] -/
def tDGet (td ty : TE) : TE := fun σ H Q => td σ H fun x H1 => ty σ H1 fun y H2 => ∃ a v, x = .ref a ∧ DGet H2 a y (some v) ∧ Q v H2
/-- y in d, y not in d -/
def tDIn (ty td : TE) : TE := fun σ H Q => ty σ H fun y H1 => td σ H1 fun x H2 => ∃ a o, x = .ref a ∧ DGet H2 a y o ∧ Q (.bl o.isSome) H2
def tDNotIn (ty td : TE) : TE := fun σ H Q => ty σ H fun y H1 => td σ H1 fun x H2 => ∃ a o, x = .ref a ∧ DGet H2 a y o ∧ Q (.bl (!o.isSome)) H2
/-- d[y] = v -/
def sDPut (td ty tv : TE) : TS := fun D σ H => tv σ H fun v H1 => td σ H1 fun x H2 => ty σ H2 fun y H3 => ∃ a H4, x = .ref a ∧ DPut H3 a y v H4 ∧ D.nx σ H4
/-- d[y] op= v -/
def sDAug (td ty tv : TE) (rd : V → V → Hp → VK → Prop) : TS := fun D σ H => td σ H fun x H1 => ty σ H1 fun y H2 => ∃ a v, x = .ref a ∧ DGet H2 a y (some v) ∧
  tv σ H2 fun y2 H3 => rd v y2 H3 fun z H4 => ∃ H5, DPut H4 a y z H5 ∧ D.nx σ H5
/-- del d[y] -/
def sDDel (td ty : TE) : TS := fun D σ H => td σ H fun x H1 => ty σ H1 fun y H2 => ∃ a kvs k, x = .ref a ∧ H2 a = some (.dK kvs) ∧ y = kV k ∧ (valV kvs k).isSome = true ∧ D.nx σ (upd H2 a (.dK (dropK kvs k)))

section
variable {X : Cx} {o i e value : Expr} {pos pos' tpos : Pos} {td ty tv : TE}
theorem pe_dget (hu : X.A.units + 1 < cLine) (ho : PE X o td) (hi : PE X i ty) (hs : NoSl i) : PE X (.Subscript o i pos) (tDGet td ty) := by
  intro pins s σ H Q I h
  refine subD_of PySem.F.slot_dict_getitem.lookup hs (thn (ho pins s σ H _ I h) fun u s1 ⟨x, H1, I1, rx, q1⟩ => thn (hi pins s1 σ H1 _ I1 q1) fun iv s2 ⟨y, H2, I2, ry, a, v, ex, g, q2⟩ => ?_)
  subst ex
  obtain rfl : u = Value.ref a := rx
  exact ⟨dict_typeIs I2 g, d_getItem hu I2 g ry fun w' s3 I3 rw' => ⟨v, H2, I3, rw', q2⟩⟩
theorem pc_din (hu : X.A.units + 1 < cLine) (hi : PE X i ty) (ho : PE X o td) : PC X .In i o (tDIn ty td) := by
  intro pins s σ H Q I h
  refine thn (hi pins s σ H _ I h) fun iv s1 ⟨y, H1, I1, ry, q1⟩ => thn (ho pins s1 σ H1 _ I1 q1) fun u s2 ⟨x, H2, I2, rx, a, ov, ex, g, q2⟩ => ?_
  subst ex
  obtain rfl : u = Value.ref a := rx
  exact d_in hu I2 g ry fun s3 I3 => ⟨.bl ov.isSome, H2, I3, rfl, q2⟩
theorem pc_dnotin (hu : X.A.units + 1 < cLine) (hi : PE X i ty) (ho : PE X o td) : PC X .NotIn i o (tDNotIn ty td) := by
  intro pins s σ H Q I h
  refine thn (hi pins s σ H _ I h) fun iv s1 ⟨y, H1, I1, ry, q1⟩ => thn (ho pins s1 σ H1 _ I1 q1) fun u s2 ⟨x, H2, I2, rx, a, ov, ex, g, q2⟩ => ?_
  subst ex
  obtain rfl : u = Value.ref a := rx
  exact d_notIn hu I2 g ry fun s3 I3 => ⟨.bl (!ov.isSome), H2, I3, rfl, q2⟩
theorem ps_dput (hu : X.A.units + 1 < cLine) (ho : PE X o td) (hi : PE X i ty) (hv : PE X value tv) (hs : swapsWith value (some (.Subscript o i pos')) pos.line X.env = pure false) :
    PS X (.Assign [.Subscript o i pos'] value pos) (sDPut td ty tv) := by
  intro pins s σ H D I h
  refine wpAny_Assign_Subscript (thn (hv pins s σ H _ I h) fun r s1 ⟨v, H1, I1, rv, q1⟩ => thn (ho pins s1 σ H1 _ I1 q1) fun u s2 ⟨x, H2, I2, rx, q2⟩ => thn (hi pins s2 σ H2 _ I2 q2) fun iv s3 ⟨y, H3, I3, ry, a, H4, ex, g, q3⟩ => ?_) hs
  subst ex
  obtain rfl : u = Value.ref a := rx
  exact d_setItem hu I3 g ry rv fun s4 I4 => ⟨σ, H4, I4, q3⟩
theorem ps_daug {op : Operator} {rd : V → V → Hp → VK → Prop} (hu : X.A.units + 1 < cLine) (ho : PE X o td) (hi : PE X i ty) (hv : PE X value tv) (hop : InOp X op rd)
    (ha : ∀ ov iv new, augStore i ov iv new = (do holding [new, ov, iv] (setItem ov iv new); release [new, ov, iv] []; pure .next)) : PS X (.AugAssign (.Subscript o i tpos) op value pos) (sDAug td ty tv rd) := by
  intro pins s σ H D I h
  refine wpAny_AugAssign_SubscriptAny (thn (ho pins s σ H _ I h) fun u s1 ⟨x, H1, I1, rx, q1⟩ => thn (hi pins s1 σ H1 _ I1 q1) fun iv s2 ⟨y, H2, I2, ry, a, v, ex, g, q2⟩ => ?_) ha
  subst ex
  obtain rfl : u = Value.ref a := rx
  refine d_getItem hu I2 g ry fun w' s3 I3 rw' => thn (hv pins s3 σ H2 _ I3 q2) fun w2 s4 ⟨y2, H3, I4, ry2, q3⟩ => thn (hop pins s4 σ H3 v y2 w' w2 _ I4 rw' ry2 q3) fun w3 s5 ⟨z, H4, I5, rz, H5, g5, q4⟩ => ?_
  exact d_setItem hu I5 g5 ry rz fun s6 I6 => ⟨σ, H5, I6, q4⟩
theorem ps_ddel (ho : PE X o td) (hi : PE X i ty) : PS X (.Delete [.Subscript o i tpos] pos) (sDDel td ty) := by
  intro pins s σ H D I h
  refine wpAny_Delete (wpAny_deleteEach_cons (wpAny_delete_Subscript (thn (ho pins s σ H _ I h) fun u s1 ⟨x, H1, I1, rx, q1⟩ => thn (hi pins s1 σ H1 _ I1 q1) fun iv s2 ⟨y, H2, I2, ry, a, kvs, k, ex, e, ey, l, q2⟩ => ?_)))
  subst ex ey
  obtain rfl : u = Value.ref a := rx
  exact d_delItem I2 e ry l fun s3 I3 => wpAny_deleteEach_nil ⟨σ, _, I3, q2⟩
end


/-! ### displays -/
theorem dk_empty {P : Program} {w : World} {H : Hp} (h : Heap) (hb : sysModules < h.objs.size) : ObjOk P w H (h.push { cls := .type "dict", data := .dict #[] }) h.objs.size (.dK []) :=
  ⟨Nat.zero_le _, beq_eq_false_iff_ne.mpr (Ne.symm (Nat.ne_of_lt hb)), [], .nil, Heap.DictOf.new h⟩
theorem dt_empty {P : Program} {w : World} {H : Hp} (h : Heap) (hb : sysModules < h.objs.size) : ObjOk P w H (h.push { cls := .type "dict", data := .dict #[] }) h.objs.size (.dT []) :=
  ⟨Nat.zero_le _, beq_eq_false_iff_ne.mpr (Ne.symm (Nat.ne_of_lt hb)), [], .nil, _, #[], 0, Heap.get?_push_size _ rfl, ⟨rfl, rfl, rfl⟩, rfl, rfl, List.nodup_nil⟩
/-- {}, to be a dict of the kind that is wanted -/
def tDNewK : TE := fun _ H Q => ∀ p, H p = none → Q (.ref p) (upd H p (.dK []))
def tDNewT : TE := fun _ H Q => ∀ p, H p = none → Q (.ref p) (upd H p (.dT []))
section
variable {X : Cx} {pos : Pos}
theorem pe_dnewK : PE X (.Dict [] [] pos) tDNewK := fun pins s σ H Q I h =>
  wpAny_Dict_empty ⟨.ref s.heap.objs.size, _, I.laid (a := s.heap.objs.size) (o := .dK []) (t' := s.toks) (fun _ _ q => Heap.get?_push_of_some _ q) (Nat.le_refl _) (dk_empty s.heap I.big), rfl, h _ (I.hok.fresh (Nat.le_refl _))⟩
theorem pe_dnewT : PE X (.Dict [] [] pos) tDNewT := fun pins s σ H Q I h =>
  wpAny_Dict_empty ⟨.ref s.heap.objs.size, _, I.laid (a := s.heap.objs.size) (o := .dT []) (t' := s.toks) (fun _ _ q => Heap.get?_push_of_some _ q) (Nat.le_refl _) (dt_empty s.heap I.big), rfl, h _ (I.hok.fresh (Nat.le_refl _))⟩
end

/-- the pairs of a display, from the left -/
def tPairs : List (TE × TE) → St → Hp → (List (V × V) → Hp → Prop) → Prop
  | [], _, H, Q => Q [] H
  | (tk, tv) :: r, σ, H, Q => tk σ H fun x H1 => tv σ H1 fun y H2 => tPairs r σ H2 fun ps H3 => Q ((x, y) :: ps) H3
abbrev VV : List (V × V) → List (Value × Value) → Prop := Paired fun p q => RelV p.1 q.1 ∧ RelV p.2 q.2
def PPs (X : Cx) (pos : Pos) (keys : List (Option Expr)) (values : List Expr) (trs : List (TE × TE)) : Prop :=
  ∀ (pins : List (Addr × Obj)) (s : Shared) (σ : St) (H : Hp) (Q : List (V × V) → Hp → Prop), Inv X pins σ H s → tPairs trs σ H Q →
    wpAny (model X.prog X.w) X.A (evalPairs (pairTrees keys values X.env pos)) (fun vs s' => ∃ ps H', Inv X pins σ H' s' ∧ VV ps vs ∧ Q ps H') X.xe s
theorem pps_nil {X : Cx} {pos : Pos} : PPs X pos [] [] [] := fun pins s σ H Q I h => pairTrees_nil_walk ⟨[], H, I, .nil, h⟩
theorem pps_cons {X : Cx} {pos : Pos} {k v : Expr} {ks : List (Option Expr)} {vs : List Expr} {tk tv : TE} {trs : List (TE × TE)} (hk : PE X k tk) (hv : PE X v tv) (hr : PPs X pos ks vs trs) :
    PPs X pos (some k :: ks) (v :: vs) ((tk, tv) :: trs) := fun pins s σ H Q I h =>
  pairTrees_cons_walk (thn (hk pins s σ H _ I h) fun u s1 ⟨x, H1, I1, rx, q1⟩ => thn (hv pins s1 σ H1 _ I1 q1) fun w2 s2 ⟨y, H2, I2, ry, q2⟩ =>
    thn (hr pins s2 σ H2 _ I2 q2) fun ws s3 ⟨ps, H3, I3, rel, q3⟩ => ⟨(x, y) :: ps, H3, I3, .cons ⟨rx, ry⟩ rel, q3⟩)

def mergeK (kvs more : List (Key × V)) : List (Key × V) := more.foldl (fun acc kv => putK acc kv.1 kv.2) kvs
theorem KV.merge : ∀ {more : List (Key × V)} {rs : List (Key × Value)} {kvs : List (Key × V)} {vs : List (Key × Value)}, KV more rs → KV kvs vs → KV (mergeK kvs more) (merged vs rs) := by
  intro more rs kvs vs r
  unfold KV at r
  induction r generalizing kvs vs with
  | nil => intro q; exact q
  | @cons p q ps qs h t ih =>
    intro r0
    have e : KV (putK kvs p.1 p.2) (stored vs q.1 q.2) := by
      have := r0.put p.1 h.2
      rw [← h.1]; exact this
    exact ih e
theorem length_mergeK : ∀ (more kvs : List (Key × V)), (mergeK kvs more).length ≤ kvs.length + more.length
  | [], kvs => by show kvs.length ≤ kvs.length + 0; omega
  | p :: r, kvs => by
    have h1 := length_mergeK r (putK kvs p.1 p.2)
    have h2 := length_putK kvs p.1 p.2
    show (mergeK (putK kvs p.1 p.2) r).length ≤ _
    rw [List.length_cons]; omega
theorem carries_of {P : Program} {w : World} : ∀ {kvs : List (Key × V)} {ws : List (Value × Value)}, VV (kvs.map fun kv => (kV kv.1, kv.2)) ws → ∃ rs, Carries (mixKind P w) ws rs ∧ KV kvs rs
  | [], _, r => by rw [List.map_nil] at r; cases r; exact ⟨[], True.intro, .nil⟩
  | p :: kvs, _, r => by
    rw [List.map_cons] at r
    cases r with
    | @cons a b as bs h t =>
      obtain ⟨rs, c, q⟩ := carries_of (P := P) (w := w) t
      obtain ⟨b1, b2⟩ := b
      exact ⟨(p.1, b2) :: rs, ⟨kV_is h.1, rfl, c⟩, .cons ⟨rfl, h.2⟩ q⟩
/-- {k: v, ..} with keys ints and texts; the new dict stands empty while the pairs are made -/
def tDisp (trs : List (TE × TE)) : TE := fun σ H Q => ∀ p, H p = none → tPairs trs σ (upd H p (.dK [])) fun ps H2 => H2 p = some (.dK []) ∧ ∃ kvs : List (Key × V), ps = kvs.map (fun kv => (kV kv.1, kv.2)) ∧ kvs.length ≤ 15 ∧ Q (.ref p) (upd H2 p (.dK (mergeK [] kvs)))
theorem pe_disp {X : Cx} {pos : Pos} {keys : List (Option Expr)} {values : List Expr} {trs : List (TE × TE)} (h : PPs X pos keys values trs) (hall : keys.all (·.isSome) = true) (hl : keys.length = values.length) (h0 : keys ≠ [])
    (h15 : keys.length ≤ 15) : PE X (.Dict keys values pos) (tDisp trs) := by
  intro pins s σ H Q I q
  have hn := I.hok.fresh (Nat.le_refl s.heap.objs.size)
  have I1 := I.laid (a := s.heap.objs.size) (o := .dK []) (h' := s.heap.push { cls := .type "dict", data := .dict #[] }) (t' := s.toks) (fun _ _ q => Heap.get?_push_of_some _ q) (Nat.le_refl _) (dk_empty s.heap I.big)
  refine wpAny_Dict_walk (knd := mixKind X.prog X.w) hall hl h0 h15 (thn (h pins _ σ _ _ I1 (q _ hn)) fun ws s2 ⟨ps, H2, I2, rel, e, kvs, ep, lk, q2⟩ => ?_)
  subst ep
  obtain ⟨rs, c, rk⟩ := carries_of (P := X.prog) (w := X.w) rel
  obtain ⟨z, hd, vs0, r0, dd⟩ := dk_of I2.hok e
  cases r0
  refine ⟨rs, c, dd, fun h' dd' hs => ⟨.ref s.heap.objs.size, _, ?_, rfl, q2⟩⟩
  have hz : (mergeK [] kvs).length ≤ sizeLine := by
    have h1 := length_mergeK kvs []
    rw [List.length_nil] at h1
    rw [sizeLine_eq]; omega
  have he : ∃ q, h'.get? s.heap.objs.size = some q := let ⟨q, _, _, hq, _⟩ := dd'; ⟨q, hq⟩
  exact d_write I2 (by rw [e]; exact True.intro) hs he (dk_new hz hd (rk.merge .nil) dd')


/-! ### methods -/
/-- a method call o.m(e) of a built-in, with one argument: what must be seen of the text -/
structure M1 (X : Cx) (o : Expr) (m : Str) (apos : Pos) (e : Expr) (cpos : Pos) : Prop where
  base : attributeBase o m X.env (eval o X.env) = eval o X.env
  few : ((backTo cpos (starEach [e] X.env)).all (fun x => !x.1) && (backToKw cpos (keywordEach [] X.env)).all (fun x => x.1.isSome)
    && decide (([e] : List Expr).length + ([] : List Keyword).length + (if ([] : List Keyword).isEmpty then 0 else 1) < 30)) = true
  line : (apos.endLine == cpos.line) = true
  trees : backTo cpos (starEach [e] X.env) = [(false, eval e X.env)]
structure M2 (X : Cx) (o : Expr) (m : Str) (apos : Pos) (e f : Expr) (cpos : Pos) : Prop where
  base : attributeBase o m X.env (eval o X.env) = eval o X.env
  few : ((backTo cpos (starEach [e, f] X.env)).all (fun x => !x.1) && (backToKw cpos (keywordEach [] X.env)).all (fun x => x.1.isSome)
    && decide (([e, f] : List Expr).length + ([] : List Keyword).length + (if ([] : List Keyword).isEmpty then 0 else 1) < 30)) = true
  line : (apos.endLine == cpos.line) = true
  trees : backTo cpos (starEach [e, f] X.env) = [(false, eval e X.env), (false, eval f X.env)]

/-- a is a dict, whatever its keys -/
def IsD (H : Hp) (a : Addr) : Prop := (∃ kvs, Rd H a (.dK kvs)) ∨ ∃ kvs, Rd H a (.dT kvs)
theorem isD_at {X : Cx} {pins : List (Addr × Obj)} {σ : St} {H : Hp} {s : Shared} {a : Addr} (I : Inv X pins σ H s) (d : IsD H a) :
    s.TypeIs (.ref a) "dict" ∧ (∀ b, Value.ref a = .ref b → ∃ ob, s.heap.get? b = some ob ∧ ob.dict = none) ∧ (a == sysModules) = false := by
  rcases d with ⟨kvs, e⟩ | ⟨kvs, e⟩
  · obtain ⟨_, hd, vs, _, dd⟩ := dk_rd I.hok e
    refine ⟨dd.typeIs, fun b q => ?_, hd⟩
    cases q
    obtain ⟨ob, _, _, h1, h2, _⟩ := dd
    exact ⟨ob, h1, h2.2.1⟩
  · obtain ⟨_, hd, xs, _, dd⟩ := dt_rd I.hok e
    refine ⟨dd.typeIs, fun b q => ?_, hd⟩
    cases q
    obtain ⟨ob, _, _, h1, h2, _⟩ := dd
    exact ⟨ob, h1, h2.2.1⟩

section
variable {X : Cx} {pins : List (Addr × Obj)} {σ : St} {H : Hp} {s : Shared} {a : Addr} {y d : V} {u r : Value} {o : Option V} {A : Around} {E : Value → Shared → Prop}
/-- d.get(y) -/
theorem d_get1 {Q : Value → Shared → Prop} (hu : A.units + 1 < cLine) (I : Inv X pins σ H s) (g : DGet H a y o) (ry : RelV y u) (h : ∀ w' s', Inv X pins σ H s' → RelV (o.getD .non) w' → Q w' s') :
    wpAny (model X.prog X.w) A (call (.builtin "dict.get") [.ref a, u]) Q E s := by
  rcases g with ⟨kvs, k, e, ey, l⟩ | ⟨kvs, k, b, e, ey, eb, l⟩
  · subst ey
    obtain ⟨z, hd, vs, rel, dd⟩ := dk_rd I.hok e
    refine call_meetsIn PySem.F.slot_dict_get dd.typeIs PySem.F.entry_dict_get (PySem.F.args_dict_get_2 _ _) (meets_dict_get (mixKind X.prog X.w) a (kV_is ry) hd) ⟨_, dd.mapOf, h _ _ (I.tok _) ?_⟩
    rw [l]
    exact (rel.val k).getD rfl
  · subst ey
    cases (show u = Value.ref b from ry)
    obtain ⟨z, hd, xs, rel, dd⟩ := dt_rd I.hok e
    refine call_meetsIn PySem.F.slot_dict_get dd.typeIs PySem.F.entry_dict_get (PySem.F.args_dict_get_2 _ _) (meetsH_dict_get (tupleKind (mixKind X.prog X.w)) a b hd) ⟨tupleKind_room_in1 hu, k, xs, key_of I.hok eb, dd, h _ _ (I.tok _) ?_⟩
    rw [l]
    exact (rel.val k).getD rfl
/-- d.get(y, x) -/
theorem d_get2 {Q : Value → Shared → Prop} (hu : A.units + 1 < cLine) (I : Inv X pins σ H s) (g : DGet H a y o) (ry : RelV y u) (rd : RelV d r) (h : ∀ w' s', Inv X pins σ H s' → RelV (o.getD d) w' → Q w' s') :
    wpAny (model X.prog X.w) A (call (.builtin "dict.get") [.ref a, u, r]) Q E s := by
  rcases g with ⟨kvs, k, e, ey, l⟩ | ⟨kvs, k, b, e, ey, eb, l⟩
  · subst ey
    obtain ⟨z, hd, vs, rel, dd⟩ := dk_rd I.hok e
    refine call_meetsIn PySem.F.slot_dict_get dd.typeIs PySem.F.entry_dict_get (PySem.F.args_dict_get_3 _ _ _) (meets_dict_get_default (mixKind X.prog X.w) a (kV_is ry) hd r) ⟨_, dd.mapOf, h _ _ (I.tok _) ?_⟩
    rw [l]
    exact (rel.val k).getD rd
  · subst ey
    cases (show u = Value.ref b from ry)
    obtain ⟨z, hd, xs, rel, dd⟩ := dt_rd I.hok e
    refine call_meetsIn PySem.F.slot_dict_get dd.typeIs PySem.F.entry_dict_get (PySem.F.args_dict_get_3 _ _ _) (meetsH_dict_get_default (tupleKind (mixKind X.prog X.w)) a b hd r) ⟨tupleKind_room_in1 hu, k, xs, key_of I.hok eb, dd, h _ _ (I.tok _) ?_⟩
    rw [l]
    exact (rel.val k).getD rd
end

def tDGet1 (td ty : TE) : TE := fun σ H Q => td σ H fun x H1 => ∃ a, x = .ref a ∧ IsD H1 a ∧ ty σ H1 fun y H2 => ∃ o, DGet H2 a y o ∧ Q (o.getD .non) H2
def tDGet2 (td ty tx : TE) : TE := fun σ H Q => td σ H fun x H1 => ∃ a, x = .ref a ∧ IsD H1 a ∧ ty σ H1 fun y H2 => tx σ H2 fun z H3 => ∃ o, DGet H3 a y o ∧ Q (o.getD z) H3
/-- d.pop(k): there; d.pop(k, x): there or not -/
def tDPop1 (td ty : TE) : TE := fun σ H Q => td σ H fun x H1 => ∃ a, x = .ref a ∧ IsD H1 a ∧ ty σ H1 fun y H2 => ∃ kvs k v, H2 a = some (.dK kvs) ∧ y = kV k ∧ valV kvs k = some v ∧ Q v (upd H2 a (.dK (dropK kvs k)))
def tDPop2 (td ty tx : TE) : TE := fun σ H Q => td σ H fun x H1 => ∃ a, x = .ref a ∧ IsD H1 a ∧ ty σ H1 fun y H2 => tx σ H2 fun z H3 => ∃ kvs k, H3 a = some (.dK kvs) ∧ y = kV k ∧
  (∀ v, valV kvs k = some v → Q v (upd H3 a (.dK (dropK kvs k)))) ∧ (valV kvs k = none → Q z H3)
section
variable {X : Cx} {o e f : Expr} {apos cpos : Pos} {td ty tx : TE}
theorem pe_dget1 (hu : X.A.units + 1 < cLine) (ho : PE X o td) (he : PE X e ty) (m : M1 X o "get" apos e cpos) : PE X (.Call (.Attribute o "get" apos) [e] [] cpos) (tDGet1 td ty) := by
  intro pins s σ H Q I h
  refine wpAny_Call_method m.base m.few m.line PySem.F.plainAttrs_dict PySem.F.slot_dict_get PySem.F.type_dict_get (thn (ho pins s σ H _ I h) fun u s1 ⟨x, H1, I1, rx, a, ex, d, q1⟩ => ?_)
  subst ex
  obtain rfl : u = Value.ref a := rx
  obtain ⟨t1, t2, _⟩ := isD_at I1 d
  refine ⟨t1, t2, ?_⟩
  rw [m.trees]
  refine Calls.callWith_builtin rfl (Calls.evalArgs_plain (Calls.spliced_cons (thn (he pins s1 σ H1 _ I1 q1) fun iv s2 ⟨y, H2, I2, ry, ov, g, q2⟩ => Calls.spliced_nil ?_)))
  exact d_get1 hu I2 g ry fun w' s3 I3 rw' => ⟨_, H2, I3, rw', q2⟩
theorem pe_dget2 (hu : X.A.units + 1 < cLine) (ho : PE X o td) (he : PE X e ty) (hf : PE X f tx) (m : M2 X o "get" apos e f cpos) : PE X (.Call (.Attribute o "get" apos) [e, f] [] cpos) (tDGet2 td ty tx) := by
  intro pins s σ H Q I h
  refine wpAny_Call_method m.base m.few m.line PySem.F.plainAttrs_dict PySem.F.slot_dict_get PySem.F.type_dict_get (thn (ho pins s σ H _ I h) fun u s1 ⟨x, H1, I1, rx, a, ex, d, q1⟩ => ?_)
  subst ex
  obtain rfl : u = Value.ref a := rx
  obtain ⟨t1, t2, _⟩ := isD_at I1 d
  refine ⟨t1, t2, ?_⟩
  rw [m.trees]
  refine Calls.callWith_builtin rfl (Calls.evalArgs_plain (Calls.spliced_cons (thn (he pins s1 σ H1 _ I1 q1) fun iv s2 ⟨y, H2, I2, ry, q2⟩ =>
    Calls.spliced_cons (thn (hf pins s2 σ H2 _ I2 q2) fun fv s3 ⟨z, H3, I3, rz, ov, g, q3⟩ => Calls.spliced_nil ?_))))
  exact d_get2 hu I3 g ry rz fun w' s4 I4 rw' => ⟨_, H3, I4, rw', q3⟩
theorem pe_dpop1 (ho : PE X o td) (he : PE X e ty) (m : M1 X o "pop" apos e cpos) : PE X (.Call (.Attribute o "pop" apos) [e] [] cpos) (tDPop1 td ty) := by
  intro pins s σ H Q I h
  refine wpAny_Call_method m.base m.few m.line PySem.F.plainAttrs_dict PySem.F.slot_dict_pop PySem.F.type_dict_pop (thn (ho pins s σ H _ I h) fun u s1 ⟨x, H1, I1, rx, a, ex, d, q1⟩ => ?_)
  subst ex
  obtain rfl : u = Value.ref a := rx
  obtain ⟨t1, t2, _⟩ := isD_at I1 d
  refine ⟨t1, t2, ?_⟩
  rw [m.trees]
  refine Calls.callWith_builtin rfl (Calls.evalArgs_plain (Calls.spliced_cons (thn (he pins s1 σ H1 _ I1 q1) fun iv s2 ⟨y, H2, I2, ry, kvs, k, v, ea, ey, l, q2⟩ => Calls.spliced_nil ?_)))
  subst ey
  exact d_pop I2 ea ry l (.inl rfl) fun w' s3 I3 rw' => ⟨v, _, I3, rw', q2⟩
theorem pe_dpop2 (ho : PE X o td) (he : PE X e ty) (hf : PE X f tx) (m : M2 X o "pop" apos e f cpos) : PE X (.Call (.Attribute o "pop" apos) [e, f] [] cpos) (tDPop2 td ty tx) := by
  intro pins s σ H Q I h
  refine wpAny_Call_method m.base m.few m.line PySem.F.plainAttrs_dict PySem.F.slot_dict_pop PySem.F.type_dict_pop (thn (ho pins s σ H _ I h) fun u s1 ⟨x, H1, I1, rx, a, ex, d, q1⟩ => ?_)
  subst ex
  obtain rfl : u = Value.ref a := rx
  obtain ⟨t1, t2, _⟩ := isD_at I1 d
  refine ⟨t1, t2, ?_⟩
  rw [m.trees]
  refine Calls.callWith_builtin rfl (Calls.evalArgs_plain (Calls.spliced_cons (thn (he pins s1 σ H1 _ I1 q1) fun iv s2 ⟨y, H2, I2, ry, q2⟩ =>
    Calls.spliced_cons (thn (hf pins s2 σ H2 _ I2 q2) fun fv s3 ⟨z, H3, I3, rz, kvs, k, ea, ey, q3, q4⟩ => Calls.spliced_nil ?_))))
  subst ey
  cases l : valV kvs k with
  | some v => exact d_pop I3 ea ry l (.inr ⟨fv, rfl⟩) fun w' s4 I4 rw' => ⟨v, _, I4, rw', q3 v l⟩
  | none => exact d_popD I3 ea ry l fun s4 I4 => ⟨z, H3, I4, rz, q4 l⟩
end

/-! ### dict(d): a copy -/
section
variable {X : Cx} {pins : List (Addr × Obj)} {σ : St} {H : Hp} {s : Shared} {a : Addr} {kvs : List (Key × V)} {A : Around} {E : Value → Shared → Prop}
theorem d_copyOf {Q : Value → Shared → Prop} (I : Inv X pins σ H s) (e : Rd H a (.dK kvs)) (h : ∀ p s', H p = none → Inv X pins σ (upd H p (.dK kvs)) s' → Q (.ref p) s') : wpAny (model X.prog X.w) A (call (.type "dict") [.ref a]) Q E s := by
  obtain ⟨z, hd, vs, rel, dd⟩ := dk_rd I.hok e
  refine kt_call_dict hd dd (by rw [← rel.length]; exact z) fun h' dd' hs => ?_
  refine h _ _ (I.hok.fresh (Nat.le_refl _)) (I.laid (a := s.heap.objs.size) (o := .dK kvs) (t' := s.toks) (fun b q hq => ?_) (Nat.le_refl _) (dk_new z (beq_eq_false_iff_ne.mpr (Ne.symm (Nat.ne_of_lt I.big))) rel dd'))
  exact (hs.2 b (Nat.ne_of_lt (Heap.lt_size hq))).trans (Heap.get?_push_of_some _ hq)
end


section
variable {X : Cx} {pins : List (Addr × Obj)} {σ : St} {H : Hp} {s : Shared} {a : Addr} {y : V} {u : Value} {A : Around} {E : Value → Shared → Prop}
/-- d[y], not there: a KeyError -/
theorem d_missing {Q : Value → Shared → Prop} (hu : A.units + 1 < cLine) (hh : A.handled = none) (I : Inv X pins σ H s) (g : DGet H a y none) (ry : RelV y u)
    (h : ∀ h' e t', Heap.NewExc s.heap h' e "KeyError" → E (.ref e) { s with heap := h', toks := t' }) : wpAny (model X.prog X.w) A (getItem (.ref a) u) Q E s := by
  rcases g with ⟨kvs, k, e, ey, l⟩ | ⟨kvs, k, b, e, ey, eb, l⟩
  · subst ey
    obtain ⟨z, hd, vs, rel, dd⟩ := dk_rd I.hok e
    have hn : valueAt vs k = none := RelO.none_of (by rw [l]; exact rel.val k)
    exact wpAny_getItem_missing_of (kV_is ry) hd hh dd.mapOf hn fun h' ex ne => h h' ex _ ne
  · subst ey
    cases (show u = Value.ref b from ry)
    obtain ⟨z, hd, xs, rel, dd⟩ := dt_rd I.hok e
    have hn : (atKey xs k).map (·.2) = none := RelO.none_of (by rw [l]; exact rel.val k)
    exact wpAny_getItem_missing_heap (tupleKind_room_in1 hu) (key_of I.hok eb) hd hh dd (Option.map_eq_none_iff.mp hn) fun h' ex ne => h h' ex _ ne
end
end L2

namespace L2
open PySem PySem.Spec PyProof.Rows
section
variable {X : Cx}
/-- len of a dict -/
theorem call_lenD : CallR X (.builtin "len") (fun xs H Q => ∃ a kvs, xs = [V.ref a] ∧ H a = some (.dK kvs) ∧ Q (.int kvs.length) H) := by
  intro pins s σ H xs us Q I r h
  obtain ⟨a, kvs, rfl, ha, q⟩ := h
  obtain ⟨u, rfl, ru⟩ := vals1 r
  cases ru
  exact d_len I (.inl ha) fun t s' I' => ⟨.int kvs.length, H, I', ⟨t, rfl⟩, q⟩
end
section
variable {κ : Type} [DecidableEq κ]
theorem valV_not {kvs : List (κ × V)} {k : κ} (h : valV kvs k = none) : ¬ k ∈ kvs.map (·.1) := by
  intro m
  obtain ⟨p, hp, e⟩ := List.mem_map.mp m
  have q : (kvs.any fun kv => decide (kv.1 = k)) = true := List.any_eq_true.mpr ⟨p, hp, decide_eq_true e⟩
  rw [valV_any, h] at q
  exact absurd q (by simp)
theorem valV_in {kvs : List (κ × V)} {k : κ} {v : V} (h : valV kvs k = some v) : k ∈ kvs.map (·.1) := by
  have q : (kvs.any fun kv => decide (kv.1 = k)) = true := by
    rw [valV_any, h]
    all_goals rfl
  obtain ⟨p, hp, e⟩ := List.any_eq_true.mp q
  exact List.mem_map.mpr ⟨p, hp, of_decide_eq_true e⟩
theorem nd_snoc : ∀ {l : List κ} {k : κ}, l.Nodup → ¬ k ∈ l → (l ++ [k]).Nodup
  | [], k, _, _ => by simp
  | a :: r, k, h, hk => by
    obtain ⟨h1, h2⟩ := List.nodup_cons.mp h
    show (a :: (r ++ [k])).Nodup
    refine List.nodup_cons.mpr ⟨fun m => ?_, nd_snoc h2 fun m => hk (List.mem_cons.mpr (Or.inr m))⟩
    rcases List.mem_append.mp m with q | q
    · exact h1 q
    · exact hk (List.mem_cons.mpr (Or.inl (List.mem_singleton.mp q).symm))
theorem nd_putK {kvs : List (κ × V)} {k : κ} (v : V) (hn : (kvs.map (·.1)).Nodup) (h : valV kvs k = none) : ((putK kvs k v).map (·.1)).Nodup := by
  rw [putK_new v h, List.map_append]
  exact nd_snoc hn (valV_not h)
theorem dropK_pos {p : κ × V} {r : List (κ × V)} {k : κ} (e : p.1 = k) : dropK (p :: r) k = dropK r k := by
  unfold dropK
  rw [List.filter_cons, if_neg (by simp [e])]
theorem dropK_neg {p : κ × V} {r : List (κ × V)} {k : κ} (e : ¬ p.1 = k) : dropK (p :: r) k = p :: dropK r k := by
  unfold dropK
  rw [List.filter_cons, if_pos (by simp [e])]
theorem dropK_no : ∀ {kvs : List (κ × V)} {k : κ}, ¬ k ∈ kvs.map (·.1) → dropK kvs k = kvs
  | [], _, _ => rfl
  | p :: r, k, h => by
    have h' : ¬ k ∈ r.map (·.1) := fun m => by
      obtain ⟨q, hq, e⟩ := List.mem_map.mp m
      exact h (List.mem_map.mpr ⟨q, List.mem_cons.mpr (Or.inr hq), e⟩)
    rw [dropK_neg fun e => h (List.mem_map.mpr ⟨p, List.mem_cons.mpr (Or.inl rfl), e⟩), dropK_no h']
theorem dropK_mem {kvs : List (κ × V)} {k : κ} {p : κ × V} (h : p ∈ dropK kvs k) : p ∈ kvs := (List.mem_filter.mp h).1
theorem nd_dropK : ∀ {kvs : List (κ × V)} {k : κ}, (kvs.map (·.1)).Nodup → ((dropK kvs k).map (·.1)).Nodup
  | [], _, _ => List.nodup_nil
  | p :: r, k, h => by
    have h : (p.1 :: r.map (·.1)).Nodup := h
    obtain ⟨h1, h2⟩ := List.nodup_cons.mp h
    by_cases e : p.1 = k
    · rw [dropK_pos e]
      exact nd_dropK h2
    · rw [dropK_neg e]
      show (p.1 :: (dropK r k).map (·.1)).Nodup
      refine List.nodup_cons.mpr ⟨fun m => h1 ?_, nd_dropK h2⟩
      obtain ⟨q, hq, eq⟩ := List.mem_map.mp m
      exact List.mem_map.mpr ⟨q, dropK_mem hq, eq⟩
theorem dropK_len : ∀ {kvs : List (κ × V)} {k : κ}, (kvs.map (·.1)).Nodup → k ∈ kvs.map (·.1) → (dropK kvs k).length + 1 = kvs.length
  | [], _, _, m => by simp at m
  | p :: r, k, h, m => by
    have h : (p.1 :: r.map (·.1)).Nodup := h
    have m : k = p.1 ∨ k ∈ r.map (·.1) := List.mem_cons.mp m
    obtain ⟨h1, h2⟩ := List.nodup_cons.mp h
    by_cases e : p.1 = k
    · subst e
      rw [dropK_pos rfl, dropK_no h1]
      all_goals rfl
    · have m' : k ∈ r.map (·.1) := m.resolve_left fun z => e z.symm
      have q := dropK_len h2 m'
      rw [dropK_neg e, List.length_cons, List.length_cons]
      omega
end
end L2
/-! THE MIRROR LAYER (own work): values, a mirror heap, what a text does as a function of both; rules that carry a function to the model through the hand layer L2. -/
namespace Mi
open PySem PySem.Spec PyProof.Rows L2

/-- values: tuples and lists that nobody changes stand by what is in them; a ref is a thing of the mirror heap -/
inductive W where
  | non | bl (b : Bool) | int (i : Int) | str (x : Str) | tup (ws : List W) | lst (ws : List W) | frz (ws : List W) | ref (n : Nat) | ty (n : String)
inductive MO where
  | lst (ws : List W)
  | dic (kvs : List (Key × W))
abbrev MH := List MO
abbrev MSt := List (Option W)

/-- where things stand: ρ the addresses of the mirror heap's things, F what nobody changes -/
structure Rn where
  ρ : Nat → Addr
  N : Nat
  F : Hp
structure Ext (R R' : Rn) : Prop where
  n : R.N ≤ R'.N
  ρ : ∀ n, n < R.N → R'.ρ n = R.ρ n
  f : ∀ a o, R.F a = some o → R'.F a = some o
theorem Ext.refl (R : Rn) : Ext R R := ⟨Nat.le_refl _, fun _ _ => rfl, fun _ _ h => h⟩
theorem Ext.trans {R R1 R2 : Rn} (a : Ext R R1) (b : Ext R1 R2) : Ext R R2 :=
  ⟨Nat.le_trans a.n b.n, fun n h => (b.ρ n (Nat.lt_of_lt_of_le h a.n)).trans (a.ρ n h), fun x o h => b.f x o (a.f x o h)⟩

theorem sqT_mono {K : PySem.W.Frag} {F F' : Hp} (e : ∀ a o, F a = some o → F' a = some o) {a : Addr} {xs : List V} (h : SqT K F a xs) : SqT K F' a xs := by
  rcases h with (h | ⟨o, h⟩) | h
  · exact .inl (.inl (e _ _ h))
  · exact .inl (.inr ⟨o, e _ _ h⟩)
  · exact .inr h
theorem sqL_mono {K : PySem.W.Frag} {F F' : Hp} (e : ∀ a o, F a = some o → F' a = some o) {a : Addr} {xs : List V} (h : SqL K F a xs) : SqL K F' a xs := by
  rcases h with (h | ⟨o, h⟩) | h
  · exact .inl (.inl (e _ _ h))
  · exact .inl (.inr ⟨o, e _ _ h⟩)
  · exact .inr h

section
variable (K : PySem.W.Frag)
mutual
def Rw (R : Rn) : W → V → Prop
  | .non, v => v = .non
  | .bl b, v => v = .bl b
  | .int i, v => v = .int i
  | .str x, v => v = .str x
  | .tup ws, v => ∃ a xs, v = .ref a ∧ SqT K R.F a xs ∧ Rws R ws xs
  | .lst ws, v => ∃ a xs, v = .ref a ∧ R.F a = some (.lst xs) ∧ Rws R ws xs
  | .frz ws, v => ∃ a xs, v = .ref a ∧ SqL K R.F a xs ∧ Rws R ws xs
  | .ref n, v => n < R.N ∧ v = .ref (R.ρ n)
  | .ty n, v => v = .ty n
def Rws (R : Rn) : List W → List V → Prop
  | [], vs => vs = []
  | w :: ws, vs => ∃ v vs', vs = v :: vs' ∧ Rw R w v ∧ Rws R ws vs'
end
end
section
variable {K : PySem.W.Frag} {R R' : Rn}
mutual
theorem Rw.mono (e : Ext R R') : ∀ (w : W) (v : V), Rw K R w v → Rw K R' w v
  | .non, _, h => by unfold Rw at h ⊢; exact h
  | .bl _, _, h => by unfold Rw at h ⊢; exact h
  | .int _, _, h => by unfold Rw at h ⊢; exact h
  | .str _, _, h => by unfold Rw at h ⊢; exact h
  | .ty _, _, h => by unfold Rw at h ⊢; exact h
  | .tup ws, _, h => by
    unfold Rw at h ⊢
    obtain ⟨a, xs, e1, e2, e3⟩ := h
    exact ⟨a, xs, e1, sqT_mono e.f e2, Rws.mono e ws xs e3⟩
  | .lst ws, _, h => by
    unfold Rw at h ⊢
    obtain ⟨a, xs, e1, e2, e3⟩ := h
    exact ⟨a, xs, e1, e.f a _ e2, Rws.mono e ws xs e3⟩
  | .frz ws, _, h => by
    unfold Rw at h ⊢
    obtain ⟨a, xs, e1, e2, e3⟩ := h
    exact ⟨a, xs, e1, sqL_mono e.f e2, Rws.mono e ws xs e3⟩
  | .ref n, _, h => by
    unfold Rw at h ⊢
    obtain ⟨e1, e2⟩ := h
    exact ⟨Nat.lt_of_lt_of_le e1 e.n, by rw [e.ρ n e1]; exact e2⟩
theorem Rws.mono (e : Ext R R') : ∀ (ws : List W) (vs : List V), Rws K R ws vs → Rws K R' ws vs
  | [], _, h => by unfold Rws at h ⊢; exact h
  | w :: ws, _, h => by
    unfold Rws at h ⊢
    obtain ⟨v, vs', e1, e2, e3⟩ := h
    exact ⟨v, vs', e1, Rw.mono e w v e2, Rws.mono e ws vs' e3⟩
end
theorem Rws.nil_iff {vs : List V} : Rws K R [] vs ↔ vs = [] := by unfold Rws; exact Iff.rfl
theorem Rws.cons_iff {w : W} {ws : List W} {vs : List V} : Rws K R (w :: ws) vs ↔ ∃ v vs', vs = v :: vs' ∧ Rw K R w v ∧ Rws K R ws vs' := by
  constructor
  · intro h; unfold Rws at h; exact h
  · intro h; unfold Rws; exact h
theorem Rws.nil : Rws K R [] [] := Rws.nil_iff.mpr rfl
theorem Rws.cons {w : W} {ws : List W} {v : V} {vs : List V} (a : Rw K R w v) (b : Rws K R ws vs) : Rws K R (w :: ws) (v :: vs) := Rws.cons_iff.mpr ⟨v, vs, rfl, a, b⟩
theorem Rws.paired : ∀ {ws : List W} {vs : List V}, Rws K R ws vs → Paired (Rw K R) ws vs
  | [], vs, h => by rw [Rws.nil_iff] at h; subst h; exact .nil
  | w :: ws, vs, h => by
    rw [Rws.cons_iff] at h
    obtain ⟨v, vs', rfl, a, b⟩ := h
    exact .cons a (Rws.paired b)
theorem Rws.of : ∀ {ws : List W} {vs : List V}, Paired (Rw K R) ws vs → Rws K R ws vs
  | _, _, .nil => Rws.nil
  | _, _, .cons a b => Rws.cons a (Rws.of b)
theorem Rws.length {ws : List W} {vs : List V} (h : Rws K R ws vs) : ws.length = vs.length := Paired.length h.paired
theorem Rws.get : ∀ {ws : List W} {vs : List V} {i : Nat} {w : W}, Rws K R ws vs → ws[i]? = some w → ∃ v, vs[i]? = some v ∧ Rw K R w v
  | [], _, _, _, _, e => by simp at e
  | w :: ws, vs, 0, x, h, e => by
    rw [Rws.cons_iff] at h
    obtain ⟨v, vs', rfl, a, b⟩ := h
    simp at e; subst e
    exact ⟨v, by simp, a⟩
  | w :: ws, vs, i + 1, x, h, e => by
    rw [Rws.cons_iff] at h
    obtain ⟨v, vs', rfl, a, b⟩ := h
    obtain ⟨y, h1, h2⟩ := Rws.get (i := i) b (by simpa using e)
    exact ⟨y, by simpa using h1, h2⟩
theorem Rws.get' : ∀ {ws : List W} {vs : List V} {i : Nat} {v : V}, Rws K R ws vs → vs[i]? = some v → ∃ w, ws[i]? = some w ∧ Rw K R w v
  | [], vs, i, v, h, e => by rw [Rws.nil_iff] at h; subst h; simp at e
  | w :: ws, vs, 0, x, h, e => by
    rw [Rws.cons_iff] at h
    obtain ⟨v, vs', rfl, a, b⟩ := h
    simp at e; subst e
    exact ⟨w, by simp, a⟩
  | w :: ws, vs, i + 1, x, h, e => by
    rw [Rws.cons_iff] at h
    obtain ⟨v, vs', rfl, a, b⟩ := h
    obtain ⟨y, h1, h2⟩ := Rws.get' (i := i) b (by simpa using e)
    exact ⟨y, by simpa using h1, h2⟩
theorem Rws.append : ∀ {ws us : List W} {vs xs : List V}, Rws K R ws vs → Rws K R us xs → Rws K R (ws ++ us) (vs ++ xs)
  | [], us, vs, xs, h, q => by rw [Rws.nil_iff] at h; subst h; exact q
  | w :: ws, us, vs, xs, h, q => by
    rw [Rws.cons_iff] at h
    obtain ⟨v, vs', rfl, a, b⟩ := h
    exact Rws.cons a (Rws.append b q)
theorem Rws.take : ∀ {ws : List W} {vs : List V} (n : Nat), Rws K R ws vs → Rws K R (ws.take n) (vs.take n)
  | _, _, 0, _ => by simp; exact Rws.nil
  | [], vs, n + 1, h => by rw [Rws.nil_iff] at h; subst h; simp; exact Rws.nil
  | w :: ws, vs, n + 1, h => by
    rw [Rws.cons_iff] at h
    obtain ⟨v, vs', rfl, a, b⟩ := h
    exact Rws.cons a (Rws.take n b)
theorem Rws.drop : ∀ {ws : List W} {vs : List V} (n : Nat), Rws K R ws vs → Rws K R (ws.drop n) (vs.drop n)
  | _, _, 0, h => by simpa using h
  | [], vs, n + 1, h => by rw [Rws.nil_iff] at h; subst h; simp; exact Rws.nil
  | w :: ws, vs, n + 1, h => by
    rw [Rws.cons_iff] at h
    obtain ⟨v, vs', rfl, a, b⟩ := h
    exact Rws.drop n b
theorem Rws.set : ∀ {ws : List W} {vs : List V} {w : W} {v : V} (n : Nat), Rws K R ws vs → Rw K R w v → Rws K R (ws.set n w) (vs.set n v)
  | [], vs, _, _, n, h, _ => by rw [Rws.nil_iff] at h; subst h; simp; exact Rws.nil
  | x :: ws, vs, w, v, 0, h, q => by
    rw [Rws.cons_iff] at h
    obtain ⟨y, vs', rfl, a, b⟩ := h
    exact Rws.cons q b
  | x :: ws, vs, w, v, n + 1, h, q => by
    rw [Rws.cons_iff] at h
    obtain ⟨y, vs', rfl, a, b⟩ := h
    exact Rws.cons a (Rws.set n b q)
end

/-! ### the mirror heap -/
def kW : Key → W
  | .inl i => .int i
  | .inr x => .str x
section
variable (K : PySem.W.Frag)
def Ro (R : Rn) : MO → Option HO → Prop
  | .lst ws, o => ∃ xs, o = some (.lst xs) ∧ Rws K R ws xs
  | .dic kvs, o => ∃ kx : List (Key × V), o = some (.dK kx) ∧ Paired (fun p q => p.1 = q.1 ∧ Rw K R p.2 q.2) kvs kx
structure Rh (R : Rn) (h : MH) (H : Hp) : Prop where
  len : R.N = h.length
  sub : ∀ a o, R.F a = some o → H a = some o
  sep : ∀ n, n < R.N → R.F (R.ρ n) = none
  inj : ∀ m n, m < R.N → n < R.N → R.ρ m = R.ρ n → m = n
  obj : ∀ n o, h[n]? = some o → Ro K R o (H (R.ρ n))
def Rst (R : Rn) (σi : MSt) (σ : L2.St) : Prop := σi.length = σ.length ∧ ∀ (i : Nat) (w : W), σi[i]? = some (some w) → ∃ v, σ[i]? = some (some v) ∧ Rw K R w v
end
section
variable {K : PySem.W.Frag} {R R' : Rn} {h : MH} {H : Hp} {σi : MSt} {σ : L2.St}
theorem Ro.mono (e : Ext R R') {o : MO} {u : Option HO} (q : Ro K R o u) : Ro K R' o u := by
  cases o with
  | lst ws => obtain ⟨xs, e1, e2⟩ := q; exact ⟨xs, e1, Rws.mono e ws xs e2⟩
  | dic kvs => obtain ⟨kx, e1, e2⟩ := q; exact ⟨kx, e1, Paired.mapP e2 fun a b z => ⟨z.1, Rw.mono e _ _ z.2⟩⟩
theorem Ro.some {o : MO} {u : Option HO} (q : Ro K R o u) : ∃ x, u = some x := by
  cases o with
  | lst ws => obtain ⟨xs, e1, e2⟩ := q; exact ⟨_, e1⟩
  | dic kvs => obtain ⟨kx, e1, e2⟩ := q; exact ⟨_, e1⟩
theorem Rst.mono (e : Ext R R') (q : Rst K R σi σ) : Rst K R' σi σ := ⟨q.1, fun i w h => by
  obtain ⟨v, h1, h2⟩ := q.2 i w h
  exact ⟨v, h1, Rw.mono e _ _ h2⟩⟩
theorem Rst.set {i : Nat} {w : W} {v : V} (q : Rst K R σi σ) (r : Rw K R w v) : Rst K R (σi.set i (some w)) (σ.set i (some v)) := by
  refine ⟨by rw [List.length_set, List.length_set]; exact q.1, fun j u e => ?_⟩
  rw [List.getElem?_set] at e ⊢
  by_cases hij : i = j
  · subst hij
    rw [if_pos rfl] at e ⊢
    by_cases hl : i < σi.length
    · rw [if_pos hl] at e
      rw [if_pos (q.1 ▸ hl)]
      cases e
      exact ⟨v, rfl, r⟩
    · rw [if_neg hl] at e; cases e
  · rw [if_neg hij] at e ⊢
    exact q.2 j u e
theorem Rh.there (q : Rh K R h H) {n : Nat} (hn : n < R.N) : ∃ o u, h[n]? = some o ∧ H (R.ρ n) = some u := by
  have hl : n < h.length := q.len ▸ hn
  obtain ⟨u, hu⟩ := (q.obj n h[n] (List.getElem?_eq_getElem hl)).some
  exact ⟨h[n], u, List.getElem?_eq_getElem hl, hu⟩
theorem Rh.ne (q : Rh K R h H) {p : Addr} (hp : H p = none) {n : Nat} (hn : n < R.N) : R.ρ n ≠ p := fun e => by
  obtain ⟨o, u, _, hu⟩ := q.there hn
  rw [e, hp] at hu; cases hu
/-- a thing that nobody changes is laid -/
theorem Rh.fix (q : Rh K R h H) {p : Addr} {o : HO} (hp : H p = none) :
    Ext R { R with F := upd R.F p o } ∧ Rh K { R with F := upd R.F p o } h (upd H p o) := by
  have hF : R.F p = none := by
    cases e : R.F p with
    | none => rfl
    | some u => have := q.sub p u e; rw [hp] at this; cases this
  have x : Ext R { R with F := upd R.F p o } := ⟨Nat.le_refl _, fun _ _ => rfl, fun a u e => by
    show upd R.F p o a = some u
    rw [upd_ne (fun z => by rw [z, hF] at e; cases e)]; exact e⟩
  refine ⟨x, q.len, fun a u e => ?_, fun n hn => ?_, q.inj, fun n u e => ?_⟩
  · by_cases z : a = p
    · subst z
      have e' : upd R.F a o a = some u := e
      rw [upd_same] at e' ⊢; exact e'
    · have e' : upd R.F p o a = some u := e
      rw [upd_ne z] at e' ⊢; exact q.sub a u e'
  · show upd R.F p o (R.ρ n) = none
    rw [upd_ne (q.ne hp hn)]; exact q.sep n hn
  · have hn : n < R.N := by rw [q.len]; exact (List.getElem?_eq_some_iff.mp e).1
    show Ro K _ u (upd H p o (R.ρ n))
    rw [upd_ne (q.ne hp hn)]
    exact (q.obj n u e).mono x
theorem Rh.tup (q : Rh K R h H) {p : Addr} {ws : List W} {xs : List V} (hp : H p = none) (r : Rws K R ws xs) :
    ∃ R', Ext R R' ∧ Rh K R' h (upd H p (.tup xs)) ∧ Rw K R' (.tup ws) (.ref p) := by
  obtain ⟨x, y⟩ := q.fix (o := .tup xs) hp
  refine ⟨_, x, y, ?_⟩
  unfold Rw
  exact ⟨p, xs, rfl, SqT.of upd_same, Rws.mono x _ _ r⟩
theorem Rh.lstI (q : Rh K R h H) {p : Addr} {ws : List W} {xs : List V} (hp : H p = none) (r : Rws K R ws xs) :
    ∃ R', Ext R R' ∧ Rh K R' h (upd H p (.lst xs)) ∧ Rw K R' (.lst ws) (.ref p) := by
  obtain ⟨x, y⟩ := q.fix (o := .lst xs) hp
  refine ⟨_, x, y, ?_⟩
  unfold Rw
  exact ⟨p, xs, rfl, upd_same, Rws.mono x _ _ r⟩
/-- a new thing of the mirror heap is laid -/
theorem Rh.new (q : Rh K R h H) {p : Addr} {o : HO} {mo : MO} (hp : H p = none) (r : ∀ R', Ext R R' → Ro K R' mo (some o)) :
    ∃ R', Ext R R' ∧ Rh K R' (h ++ [mo]) (upd H p o) ∧ Rw K R' (.ref h.length) (.ref p) := by
  let R' : Rn := { ρ := fun n => if n = R.N then p else R.ρ n, N := R.N + 1, F := R.F }
  have hr : ∀ n, n < R.N → R'.ρ n = R.ρ n := fun n hn => if_neg (Nat.ne_of_lt hn)
  have hq : R'.ρ R.N = p := if_pos rfl
  have x : Ext R R' := ⟨Nat.le_succ _, hr, fun _ _ e => e⟩
  have hF : R.F p = none := by
    cases e : R.F p with
    | none => rfl
    | some u => have := q.sub p u e; rw [hp] at this; cases this
  have below : ∀ n, n < R.N + 1 → n < R.N ∨ n = R.N := fun n hn => Nat.lt_or_eq_of_le (Nat.le_of_lt_succ hn)
  refine ⟨R', x, ⟨?_, fun a u e => ?_, fun n hn => ?_, fun m n hm hn e => ?_, fun n u e => ?_⟩, ?_⟩
  · show R.N + 1 = _
    rw [List.length_append, q.len]; rfl
  · have z : a ≠ p := fun z => by have e' : R.F a = some u := e; rw [z, hF] at e'; cases e'
    rw [upd_ne z]; exact q.sub a u e
  · rcases below n hn with hn | hn
    · rw [hr n hn]; exact q.sep n hn
    · subst hn; rw [hq]; exact hF
  · rcases below m hm with hm | hm <;> rcases below n hn with hn | hn
    · rw [hr m hm, hr n hn] at e; exact q.inj m n hm hn e
    · subst hn; rw [hr m hm, hq] at e; exact absurd e (q.ne hp hm)
    · subst hm; rw [hr n hn, hq] at e; exact absurd e.symm (q.ne hp hn)
    · rw [hm, hn]
  · have hn : n < R.N + 1 := by
      have := (List.getElem?_eq_some_iff.mp e).1
      rw [List.length_append, ← q.len] at this; exact this
    rcases below n hn with hn | hn
    · rw [hr n hn, upd_ne (q.ne hp hn)]
      rw [List.getElem?_append_left (by rw [← q.len]; exact hn)] at e
      exact (q.obj n u e).mono x
    · subst hn
      rw [hq, upd_same]
      rw [List.getElem?_append_right (by rw [q.len]; exact Nat.le_refl _), q.len, Nat.sub_self] at e
      cases e
      exact r R' x
  · unfold Rw
    refine ⟨by rw [← q.len]; exact Nat.lt_succ_self _, ?_⟩
    rw [← q.len, hq]
/-- a thing of the mirror heap is changed -/
theorem Rh.put (q : Rh K R h H) {n : Nat} {o : HO} {mo : MO} (hn : n < R.N) (r : Ro K R mo (some o)) : Rh K R (h.set n mo) (upd H (R.ρ n) o) := by
  refine ⟨by rw [List.length_set]; exact q.len, fun a u e => ?_, q.sep, q.inj, fun m u e => ?_⟩
  · have z : a ≠ R.ρ n := fun z => by rw [z, q.sep n hn] at e; cases e
    rw [upd_ne z]; exact q.sub a u e
  · by_cases z : n = m
    · subst z
      rw [upd_same]
      rw [List.getElem?_set_self (by rw [← q.len]; exact hn)] at e
      cases e
      exact r
    · have hm : m < R.N := by
        have := (List.getElem?_eq_some_iff.mp e).1
        rw [List.length_set, ← q.len] at this; exact this
      rw [List.getElem?_set_ne z] at e
      rw [upd_ne (fun w => z (q.inj m n hm hn w).symm)]
      exact q.obj m u e
theorem Rh.tupAt (q : Rh K R h H) {ws : List W} {v : V} (r : Rw K R (.tup ws) v) : ∃ a xs, v = .ref a ∧ SqT K H a xs ∧ Rws K R ws xs := by
  unfold Rw at r
  obtain ⟨a, xs, e1, e2, e3⟩ := r
  exact ⟨a, xs, e1, sqT_mono q.sub e2, e3⟩
theorem Rh.lstAt (q : Rh K R h H) {ws : List W} {v : V} (r : Rw K R (.lst ws) v) : ∃ a xs, v = .ref a ∧ H a = some (.lst xs) ∧ Rws K R ws xs := by
  unfold Rw at r
  obtain ⟨a, xs, e1, e2, e3⟩ := r
  exact ⟨a, xs, e1, q.sub a _ e2, e3⟩
theorem Rh.frzAt (q : Rh K R h H) {ws : List W} {v : V} (r : Rw K R (.frz ws) v) : ∃ a xs, v = .ref a ∧ SqL K H a xs ∧ Rws K R ws xs := by
  unfold Rw at r
  obtain ⟨a, xs, e1, e2, e3⟩ := r
  exact ⟨a, xs, e1, sqL_mono q.sub e2, e3⟩
/-- what is in a list, whatever it is -/
def lsW (h : MH) : W → Option (List W)
  | .lst ws => some ws
  | .frz ws => some ws
  | .ref n => match h[n]? with | some (.lst ws) => some ws | _ => none
  | _ => none
/-- the same, the script aside -/
def loW (h : MH) : W → Option (List W)
  | .lst ws => some ws
  | .ref n => match h[n]? with | some (.lst ws) => some ws | _ => none
  | _ => none
theorem Rh.loAt (q : Rh K R h H) {w : W} {v : V} {ws : List W} (r : Rw K R w v) (e : loW h w = some ws) : ∃ a xs, v = .ref a ∧ H a = some (.lst xs) ∧ Rws K R ws xs := by
  cases w with
  | lst us => cases e; exact q.lstAt r
  | ref n =>
    simp only [loW] at e
    split at e
    · rename_i us hn
      cases e
      unfold Rw at r
      obtain ⟨xs, h1, h2⟩ := q.obj n _ hn
      exact ⟨_, xs, r.2, h1, h2⟩
    · cases e
  | _ => cases e
theorem Rh.lsAt (q : Rh K R h H) {w : W} {v : V} {ws : List W} (r : Rw K R w v) (e : lsW h w = some ws) : ∃ a xs, v = .ref a ∧ SqL K H a xs ∧ Rws K R ws xs := by
  cases w with
  | lst us => cases e; obtain ⟨a, xs, e1, e2, e3⟩ := q.lstAt r; exact ⟨a, xs, e1, SqL.of e2, e3⟩
  | frz us => cases e; exact q.frzAt r
  | ref n =>
    simp only [lsW] at e
    split at e
    · rename_i us hn
      cases e
      unfold Rw at r
      obtain ⟨xs, h1, h2⟩ := q.obj n _ hn
      exact ⟨_, xs, r.2, SqL.of h1, h2⟩
    · cases e
  | _ => cases e
theorem Rh.refAt (q : Rh K R h H) {n : Nat} {v : V} {ws : List W} (r : Rw K R (.ref n) v) (e : h[n]? = some (.lst ws)) :
    n < R.N ∧ v = .ref (R.ρ n) ∧ ∃ xs, H (R.ρ n) = some (.lst xs) ∧ Rws K R ws xs := by
  unfold Rw at r
  exact ⟨r.1, r.2, q.obj n _ e⟩
end
theorem Rw.non_eq {K : PySem.W.Frag} {R : Rn} {v : V} (r : Rw K R .non v) : v = .non := by unfold Rw at r; exact r
theorem Rw.bl_eq {K : PySem.W.Frag} {R : Rn} {v : V} {b : Bool} (r : Rw K R (.bl b) v) : v = .bl b := by unfold Rw at r; exact r
theorem Rw.int_eq {K : PySem.W.Frag} {R : Rn} {v : V} {i : Int} (r : Rw K R (.int i) v) : v = .int i := by unfold Rw at r; exact r
theorem Rw.str_eq {K : PySem.W.Frag} {R : Rn} {v : V} {x : Str} (r : Rw K R (.str x) v) : v = .str x := by unfold Rw at r; exact r
theorem Rw.ty_eq {K : PySem.W.Frag} {R : Rn} {v : V} {n : String} (r : Rw K R (.ty n) v) : v = .ty n := by unfold Rw at r; exact r
theorem Rw.ty {K : PySem.W.Frag} {R : Rn} (n : String) : Rw K R (.ty n) (.ty n) := by unfold Rw; rfl
theorem Rw.non {K : PySem.W.Frag} {R : Rn} : Rw K R .non .non := by unfold Rw; rfl
theorem Rw.bl {K : PySem.W.Frag} {R : Rn} (b : Bool) : Rw K R (.bl b) (.bl b) := by unfold Rw; rfl
theorem Rw.int {K : PySem.W.Frag} {R : Rn} (i : Int) : Rw K R (.int i) (.int i) := by unfold Rw; rfl
theorem Rw.str {K : PySem.W.Frag} {R : Rn} (x : Str) : Rw K R (.str x) (.str x) := by unfold Rw; rfl
end Mi

namespace Mi
open PySem PySem.Spec PyProof.Rows L2

/-! ### what a piece of the text does -/
abbrev ME := MSt → MH → Option (W × MH)
abbrev MT := MSt → MH → Option (Bool × MH)
abbrev MA := MSt → MH → Option (List W × MH)
inductive MF where
  | nx (σ : MSt) (h : MH) | rt (w : W) (h : MH) | bk (σ : MSt) (h : MH) | ct (σ : MSt) (h : MH)
abbrev SM := MSt → MH → Option MF
/-- a def: arguments, heap -/
abbrev FM := List W → MH → Option (W × MH)

section
variable (K : PySem.W.Frag)
/-- what is wanted behind a value -/
def After (R : Rn) (w : W) (h' : MH) (Q : VK) : Prop := ∀ R' H' v, Ext R R' → Rh K R' h' H' → Rw K R' w v → Q v H'
def tI (m : ME) : TE := fun σ H Q => ∃ R σi h w h', Rh K R h H ∧ Rst K R σi σ ∧ m σi h = some (w, h') ∧ After K R w h' Q
def tIT (m : MT) : TT := fun σ H Q => ∃ R σi h b h', Rh K R h H ∧ Rst K R σi σ ∧ m σi h = some (b, h') ∧ ∀ R' H', Ext R R' → Rh K R' h' H' → Q b H'
def tIA (m : MA) : TA := fun σ H Q => ∃ R σi h ws h', Rh K R h H ∧ Rst K R σi σ ∧ m σi h = some (ws, h') ∧ ∀ R' H' vs, Ext R R' → Rh K R' h' H' → Rws K R' ws vs → Q vs H'
def Ends (R : Rn) (D : L2.Ends) : MF → Prop
  | .nx σi h => ∀ R' H' σ, Ext R R' → Rh K R' h H' → Rst K R' σi σ → D.nx σ H'
  | .bk σi h => ∀ R' H' σ, Ext R R' → Rh K R' h H' → Rst K R' σi σ → D.bk σ H'
  | .ct σi h => ∀ R' H' σ, Ext R R' → Rh K R' h H' → Rst K R' σi σ → D.ct σ H'
  | .rt w h => After K R w h D.rt
def tS (m : SM) : TS := fun D σ H => ∃ R σi h r, Rh K R h H ∧ Rst K R σi σ ∧ m σi h = some r ∧ Ends K R D r
def spM (n : Nat) (m : FM) : Sp := fun vs H Q _ => ∃ R ws h w h', ws.length = n ∧ Rh K R h H ∧ Rws K R ws vs ∧ m ws h = some (w, h') ∧ After K R w h' Q
end
def PM (X : Cx) (e : Expr) (m : ME) : Prop := PE X e (tI X.K m)
def PMT (X : Cx) (e : Expr) (m : MT) : Prop := PT X e (tIT X.K m)
def PMA (X : Cx) (es : List Expr) (m : MA) : Prop := PA X es (tIA X.K m)
def PMS (X : Cx) (st : Stmt) (m : SM) : Prop := PS X st (tS X.K m)
def PMSs (X : Cx) (st : List Stmt) (m : SM) : Prop := PSs X st (tS X.K m)

section
variable {K : PySem.W.Frag} {R R1 R2 : Rn}
theorem After.ext {w : W} {h' : MH} {Q : VK} (a : After K R w h' Q) (x : Ext R R1) : After K R1 w h' Q := fun R' H' v e => a R' H' v (x.trans e)
theorem Ends.ext {D : L2.Ends} {r : MF} (a : Ends K R D r) (x : Ext R R1) : Ends K R1 D r := by
  cases r with
  | nx σ h => exact fun R' H' v e => a R' H' v (x.trans e)
  | bk σ h => exact fun R' H' v e => a R' H' v (x.trans e)
  | ct σ h => exact fun R' H' v e => a R' H' v (x.trans e)
  | rt w h => exact After.ext a x
end
theorem pe_imp {X : Cx} {e : Expr} {t t' : TE} (h : PE X e t) (i : ∀ σ H Q, t' σ H Q → t σ H Q) : PE X e t' := fun pins s σ H Q I q => h pins s σ H Q I (i _ _ _ q)
theorem pt_imp {X : Cx} {e : Expr} {t t' : TT} (h : PT X e t) (i : ∀ σ H Q, t' σ H Q → t σ H Q) : PT X e t' := fun pins s σ H Q I q => h pins s σ H Q I (i _ _ _ q)
theorem pw_imp {X : Cx} {e : Expr} {t t' : TT} (h : PW X e t) (i : ∀ σ H Q, t' σ H Q → t σ H Q) : PW X e t' := fun wh pins s σ H Q I q => h wh pins s σ H Q I (i _ _ _ q)
theorem pa_imp {X : Cx} {es : List Expr} {t t' : TA} (h : PA X es t) (i : ∀ σ H Q, t' σ H Q → t σ H Q) : PA X es t' := fun pos pins s σ H Q I q => h pos pins s σ H Q I (i _ _ _ q)
theorem ps_imp {X : Cx} {st : Stmt} {t t' : TS} (h : PS X st t) (i : ∀ D σ H, t' D σ H → t D σ H) : PS X st t' := fun pins s σ H D I q => h pins s σ H D I (i _ _ _ q)
theorem pss_imp {X : Cx} {st : List Stmt} {t t' : TS} (h : PSs X st t) (i : ∀ D σ H, t' D σ H → t D σ H) : PSs X st t' := fun pins s σ H D I q => h pins s σ H D I (i _ _ _ q)

/-! ### names, constants -/
def mVar (i : Nat) : ME := fun σ h => match σ[i]? with | some (some w) => some (w, h) | _ => none
def mC (w : W) : ME := fun _ h => some (w, h)
section
variable {X : Cx}
theorem pm_var (i : Nat) {x : Str} {pos : Pos} (hN : X.N[i]? = some x := by rfl) (hv : Vis X.env.scope x := by first | exact Or.inl rfl | exact Or.inr (Or.inl rfl) | exact Or.inr (Or.inr rfl)) (hd : (x == ("__debug__" : Str)) = false := by decide)
    (hcd : (x == ("__classdict__" : Str)) = false := by decide) : PM X (.Name x pos) (mVar i) := pe_imp (pe_var hN hv hd hcd) fun σ H Q ⟨R, σi, h, w, h', rh, st, e, k⟩ => by
  unfold mVar at e
  split at e
  · rename_i w' e'
    cases e
    obtain ⟨v, h1, h2⟩ := st.2 i _ e'
    exact ⟨v, h1, k R H v (Ext.refl _) rh h2⟩
  · cases e
theorem tC_of {w : W} {v : V} (r : ∀ R, Rw X.K R w v) {σ : L2.St} {H : Hp} {Q : VK} (q : tI X.K (mC w) σ H Q) : tC v σ H Q := by
  obtain ⟨R, σi, h, w', h', rh, st, e, k⟩ := q
  cases e
  exact k R H v (Ext.refl _) rh (r R)
theorem pm_int {i j pos} : PM X (.Constant (.int i) j pos) (mC (.int i)) := pe_imp pe_int fun _ _ _ => tC_of fun _ => Rw.int _
theorem pm_bl {b j pos} : PM X (.Constant (.bool b) j pos) (mC (.bl b)) := pe_imp pe_bl fun _ _ _ => tC_of fun _ => Rw.bl _
theorem pm_non {j pos} : PM X (.Constant .none j pos) (mC .non) := pe_imp pe_non fun _ _ _ => tC_of fun _ => Rw.non
theorem pm_bltn {x : Str} {w : W} {v : V} {u : Value} {pos : Pos} (hg : Gl X x) (hm : X.mg x = none) (hv : bootBuiltins x = some u) (r : RelV v u) (rw : ∀ R, Rw X.K R w v) (hn : x ≠ "__name__" := by decide) (hd : (x == ("__debug__" : Str)) = false := by decide) : PM X (.Name x pos) (mC w) :=
  pe_imp (pe_bltn hg hm hv r hn hd) fun _ _ _ => tC_of rw
theorem pm_str {x j pos} : PM X (.Constant (.str x) j pos) (mC (.str x)) := pe_imp pe_str fun _ _ _ => tC_of fun _ => Rw.str _
/-- a name of the module's top whose value is fixed by the text -/
theorem pm_glob {x : Str} {w : W} {v : V} {u : Value} {pos : Pos} (hg : Gl X x) (hm : X.mg x = some u) (r : RelV v u) (rw : ∀ R, Rw X.K R w v) (hd : (x == ("__debug__" : Str)) = false := by decide) : PM X (.Name x pos) (mC w) :=
  pe_imp (pe_glob hg hm r hd) fun _ _ _ => tC_of rw
end

/-! ### two parts -/
def mBin (f : W → W → MH → Option (W × MH)) (ma mb : ME) : ME := fun σ h => (ma σ h).bind fun p => (mb σ p.2).bind fun q => f p.1 q.1 q.2
def F1 (K : PySem.W.Frag) (f : W → MH → Option (W × MH)) (x : V) (H : Hp) (Q : VK) : Prop := ∃ R h a w h', Rh K R h H ∧ Rw K R a x ∧ f a h = some (w, h') ∧ After K R w h' Q
def F2 (K : PySem.W.Frag) (f : W → W → MH → Option (W × MH)) (x y : V) (H : Hp) (Q : VK) : Prop := ∃ R h a b w h', Rh K R h H ∧ Rw K R a x ∧ Rw K R b y ∧ f a b h = some (w, h') ∧ After K R w h' Q
def Fs (K : PySem.W.Frag) (f : List W → MH → Option (W × MH)) (xs : List V) (H : Hp) (Q : VK) : Prop := ∃ R h ws w h', Rh K R h H ∧ Rws K R ws xs ∧ f ws h = some (w, h') ∧ After K R w h' Q
def mUn (f : W → MH → Option (W × MH)) (ma : ME) : ME := fun σ h => (ma σ h).bind fun p => f p.1 p.2
def mFn (f : List W → MH → Option (W × MH)) (ma : MA) : ME := fun σ h => (ma σ h).bind fun p => f p.1 p.2
section
variable {K : PySem.W.Frag} {σ : L2.St} {H : Hp} {Q : VK}
theorem un1 {f : W → MH → Option (W × MH)} {ma : ME} (q : tI K (mUn f ma) σ H Q) : tI K ma σ H fun x H1 => F1 K f x H1 Q := by
  obtain ⟨R, σi, h, w, h', rh, st, e, k⟩ := q
  obtain ⟨⟨a, h1⟩, ea, e2⟩ := Option.bind_eq_some_iff.mp e
  exact ⟨R, σi, h, a, h1, rh, st, ea, fun R1 H1 x x1 rh1 rx => ⟨R1, h1, a, w, h', rh1, rx, e2, k.ext x1⟩⟩
theorem bin2 {f : W → W → MH → Option (W × MH)} {ma mb : ME} (q : tI K (mBin f ma mb) σ H Q) : tI K ma σ H fun x H1 => tI K mb σ H1 fun y H2 => F2 K f x y H2 Q := by
  obtain ⟨R, σi, h, w, h', rh, st, e, k⟩ := q
  obtain ⟨⟨a, h1⟩, ea, e2⟩ := Option.bind_eq_some_iff.mp e
  obtain ⟨⟨b, h2⟩, eb, e3⟩ := Option.bind_eq_some_iff.mp e2
  exact ⟨R, σi, h, a, h1, rh, st, ea, fun R1 H1 x x1 rh1 rx => ⟨R1, σi, h1, b, h2, rh1, st.mono x1, eb, fun R2 H2 y x2 rh2 ry =>
    ⟨R2, h2, a, b, w, h', rh2, Rw.mono x2 _ _ rx, ry, e3, k.ext (x1.trans x2)⟩⟩⟩
theorem args1 {f : List W → MH → Option (W × MH)} {ma : MA} (q : tI K (mFn f ma) σ H Q) : tIA K ma σ H fun xs H1 => Fs K f xs H1 Q := by
  obtain ⟨R, σi, h, w, h', rh, st, e, k⟩ := q
  obtain ⟨⟨a, h1⟩, ea, e2⟩ := Option.bind_eq_some_iff.mp e
  exact ⟨R, σi, h, a, h1, rh, st, ea, fun R1 H1 x x1 rh1 rx => ⟨R1, h1, a, w, h', rh1, rx, e2, k.ext x1⟩⟩
end
/-! ### no stars among arguments -/
def isStar : Expr → Bool
  | .Starred .. => true
  | _ => false
def noStar (es : List Expr) : Bool := es.all fun e => !isStar e
theorem star_cons {e : Expr} {es : List Expr} {env : Env} (h : isStar e = false) : starEach (e :: es) env = (false, eval e env) :: starEach es env := by
  cases e <;> first | rfl | cases h
theorem any_star {es : List Expr} {env : Env} {pos : Pos} (h : noStar es = true) : (backTo pos (starEach es env)).any (·.1) = false := by
  induction es with
  | nil => rfl
  | cons e es ih =>
    unfold noStar at h ih
    rw [List.all_cons, Bool.and_eq_true] at h
    have he : isStar e = false := by simpa using h.1
    rw [star_cons he]
    have := ih h.2
    unfold backTo at this ⊢
    rw [List.map_cons, List.any_cons, this]; rfl
theorem all_star {es : List Expr} {env : Env} {pos : Pos} (h : noStar es = true) : (backTo pos (starEach es env)).all (fun x => !x.1) = true := by
  have := any_star (env := env) (pos := pos) h
  rw [List.all_eq_not_any_not]
  simp only [Bool.not_not]
  rw [this]; rfl
/-! ### arguments -/
def mNil : MA := fun _ h => some ([], h)
def mCons (ma : ME) (mr : MA) : MA := fun σ h => (ma σ h).bind fun p => (mr σ p.2).bind fun q => some (p.1 :: q.1, q.2)
section
variable {X : Cx} {e : Expr} {es : List Expr} {m : ME} {ms : MA} {pos : Pos}
theorem pma_nil : PMA X [] mNil := pa_imp pa_nil fun σ H Q ⟨R, σi, h, ws, h', rh, st, e, k⟩ => by
  cases e
  exact k R H [] (Ext.refl _) rh Rws.nil
theorem pma_cons (ha : PM X e m) (hr : PMA X es ms) (hs : isStar e = false := by rfl) : PMA X (e :: es) (mCons m ms) :=
  pa_imp (pa_cons ha hr (star_cons hs)) fun σ H Q ⟨R, σi, h, ws, h', rh, st, e, k⟩ => by
    obtain ⟨⟨a, h1⟩, ea, e2⟩ := Option.bind_eq_some_iff.mp e
    obtain ⟨⟨b, h2⟩, eb, e3⟩ := Option.bind_eq_some_iff.mp e2
    cases e3
    exact ⟨R, σi, h, a, h1, rh, st, ea, fun R1 H1 x x1 rh1 rx => ⟨R1, σi, h1, b, h2, rh1, st.mono x1, eb, fun R2 H2 ys x2 rh2 ry =>
      k R2 H2 (x :: ys) (x1.trans x2) rh2 (Rws.cons (Rw.mono x2 _ _ rx) ry)⟩⟩
/-! ### displays -/
def wTup (ws : List W) (h : MH) : Option (W × MH) := if ws.length ≤ sizeLine then some (.tup ws, h) else none
def wLst (ws : List W) (h : MH) : Option (W × MH) := if ws.length ≤ sizeLine then some (.lst ws, h) else none
def wNew (ws : List W) (h : MH) : Option (W × MH) := if ws.length ≤ sizeLine then some (.ref h.length, h ++ [.lst ws]) else none
theorem pm_tup {x1} (h : PMA X es ms) : PM X (.Tuple es x1 pos) (mFn wTup ms) := pe_imp (pe_tup h) fun σ H Q q => by
  obtain ⟨R, σi, h0, ws, h1, rh, st, e, k⟩ := args1 q
  refine ⟨R, σi, h0, ws, h1, rh, st, e, fun R1 H1 vs x1 rh1 rx => ?_⟩
  obtain ⟨R2, h2, ws2, w, h3, rh2, rx2, e2, k2⟩ := k R1 H1 vs x1 rh1 rx
  unfold wTup at e2
  split at e2
  · rename_i hl
    cases e2
    refine ⟨by rw [← rx2.length]; exact hl, fun p hp => ?_⟩
    obtain ⟨R3, x3, rh3, rw3⟩ := rh2.tup hp rx2
    exact k2 R3 _ _ x3 rh3 rw3
  · cases e2
theorem pm_lst (h : PMA X es ms) : PM X (.List es pos) (mFn wLst ms) := pe_imp (pe_lst h) fun σ H Q q => by
  obtain ⟨R, σi, h0, ws, h1, rh, st, e, k⟩ := args1 q
  refine ⟨R, σi, h0, ws, h1, rh, st, e, fun R1 H1 vs x1 rh1 rx => ?_⟩
  obtain ⟨R2, h2, ws2, w, h3, rh2, rx2, e2, k2⟩ := k R1 H1 vs x1 rh1 rx
  unfold wLst at e2
  split at e2
  · rename_i hl
    cases e2
    refine ⟨by rw [← rx2.length]; exact hl, fun p hp => ?_⟩
    obtain ⟨R3, x3, rh3, rw3⟩ := rh2.lstI hp rx2
    exact k2 R3 _ _ x3 rh3 rw3
  · cases e2
theorem pm_new (h : PMA X es ms) : PM X (.List es pos) (mFn wNew ms) := pe_imp (pe_lst h) fun σ H Q q => by
  obtain ⟨R, σi, h0, ws, h1, rh, st, e, k⟩ := args1 q
  refine ⟨R, σi, h0, ws, h1, rh, st, e, fun R1 H1 vs x1 rh1 rx => ?_⟩
  obtain ⟨R2, h2, ws2, w, h3, rh2, rx2, e2, k2⟩ := k R1 H1 vs x1 rh1 rx
  unfold wNew at e2
  split at e2
  · rename_i hl
    cases e2
    refine ⟨by rw [← rx2.length]; exact hl, fun p hp => ?_⟩
    obtain ⟨R3, x3, rh3, rw3⟩ := rh2.new (mo := .lst ws2) (o := .lst vs) hp fun R' x' => ⟨vs, rfl, Rws.mono x' _ _ rx2⟩
    exact k2 R3 _ _ x3 rh3 rw3
  · cases e2
end
/-! ### operations on values -/
def OpM (K : PySem.W.Frag) (r : R2) (f : W → W → MH → Option (W × MH)) : Prop := ∀ x y H Q, F2 K f x y H Q → r x y H Q
def CallM (K : PySem.W.Frag) (r : List V → Hp → VK → Prop) (f : List W → MH → Option (W × MH)) : Prop := ∀ xs H Q, Fs K f xs H Q → r xs H Q
section
variable {X : Cx} {a b c : Expr} {ma mb mc : ME} {pos : Pos}
theorem tI_mono {K : PySem.W.Frag} {m : ME} {σ : L2.St} {H : Hp} {Q Q' : VK} (h : tI K m σ H Q) (i : ∀ v H, Q v H → Q' v H) : tI K m σ H Q' := by
  obtain ⟨R, σi, h, w, h', rh, st, e, k⟩ := h
  exact ⟨R, σi, h, w, h', rh, st, e, fun R' H' v a b c => i _ _ (k R' H' v a b c)⟩
theorem tIA_mono {K : PySem.W.Frag} {m : MA} {σ : L2.St} {H : Hp} {Q Q' : List V → Hp → Prop} (h : tIA K m σ H Q) (i : ∀ v H, Q v H → Q' v H) : tIA K m σ H Q' := by
  obtain ⟨R, σi, h, w, h', rh, st, e, k⟩ := h
  exact ⟨R, σi, h, w, h', rh, st, e, fun R' H' v a b c => i _ _ (k R' H' v a b c)⟩
theorem tIT_mono {K : PySem.W.Frag} {m : MT} {σ : L2.St} {H : Hp} {Q Q' : Bool → Hp → Prop} (h : tIT K m σ H Q) (i : ∀ v H, Q v H → Q' v H) : tIT K m σ H Q' := by
  obtain ⟨R, σi, h, w, h', rh, st, e, k⟩ := h
  exact ⟨R, σi, h, w, h', rh, st, e, fun R' H' a b => i _ _ (k R' H' a b)⟩
theorem pm_op {op : Operator} {r : R2} {f : W → W → MH → Option (W × MH)} (ho : OpR X (binaryOp op) r) (hf : OpM X.K r f) (ha : PM X a ma) (hb : PM X b mb) : PM X (.BinOp a op b pos) (mBin f ma mb) :=
  pe_imp (pe_op ho ha hb) fun _ _ _ q => tI_mono (bin2 q) fun _ _ q1 => tI_mono q1 fun _ _ q2 => hf _ _ _ _ q2
theorem pm_cmp {op : CmpOp} {r : R2} {f : W → W → MH → Option (W × MH)} (ho : OpR X (compareOp op) r) (hf : OpM X.K r f) (ha : PM X a ma) (hb : PM X b mb) (hm : behindInMarks op b = false := by rfl) : PM X (.Compare a [op] [b] pos) (mBin f ma mb) :=
  pe_imp (pe_cmpR ho ha hb hm) fun _ _ _ q => tI_mono (bin2 q) fun _ _ q1 => tI_mono q1 fun _ _ q2 => hf _ _ _ _ q2
/-- as a test: the value is a bool -/
def mTest (m : ME) : MT := fun σ h => (m σ h).bind fun p => match p.1 with | .bl b => some (b, p.2) | _ => none
theorem tTest_of {K : PySem.W.Frag} {m : ME} {σ : L2.St} {H : Hp} {Q : Bool → Hp → Prop} (q : tIT K (mTest m) σ H Q) : tI K m σ H fun x H' => ∃ k, x = .bl k ∧ Q k H' := by
  obtain ⟨R, σi, h, b, h', rh, st, e, k⟩ := q
  obtain ⟨⟨w, h1⟩, ew, e2⟩ := Option.bind_eq_some_iff.mp e
  cases w <;> simp only at e2 <;> first | (cases e2; exact ⟨R, σi, h, _, _, rh, st, ew, fun R' H' v x rh' rv => ⟨_, rv.bl_eq, k R' H' x rh'⟩⟩) | (cases e2)
theorem pmt_cmp {op : CmpOp} {r : R2} {f : W → W → MH → Option (W × MH)} (ho : OpR X (compareOp op) r) (hf : OpM X.K r f) (ha : PM X a ma) (hb : PM X b mb) (hm : behindInMarks op b = false := by rfl) : PMT X (.Compare a [op] [b] pos) (mTest (mBin f ma mb)) :=
  pt_imp (pt_cmpR ho ha hb hm) fun _ _ _ q => tI_mono (bin2 (tTest_of q)) fun _ _ q1 => tI_mono q1 fun _ _ q2 => hf _ _ _ _ q2
/-- a op b op' c -/
def mChain (f f' : W → W → MH → Option (W × MH)) (ma mb mc : ME) : ME := fun σ h => (ma σ h).bind fun p => (mb σ p.2).bind fun q => (f p.1 q.1 q.2).bind fun z => match z.1 with
  | .bl true => (mc σ z.2).bind fun y => f' q.1 y.1 y.2
  | .bl false => some (.bl false, z.2)
  | _ => none
theorem chain_of {K : PySem.W.Frag} {r r' : R2} {f f' : W → W → MH → Option (W × MH)} (hf : OpM K r f) (hf' : OpM K r' f') {σ : L2.St} {H : Hp} {Q : VK} (q : tI K (mChain f f' ma mb mc) σ H Q) : tChain r r' (tI K ma) (tI K mb) (tI K mc) σ H Q := by
  obtain ⟨R, σi, h, w, h', rh, st, e, k⟩ := q
  obtain ⟨⟨a, h1⟩, ea, e2⟩ := Option.bind_eq_some_iff.mp e
  obtain ⟨⟨b, h2⟩, eb, e3⟩ := Option.bind_eq_some_iff.mp e2
  obtain ⟨⟨z, h3⟩, ez, e4⟩ := Option.bind_eq_some_iff.mp e3
  refine ⟨R, σi, h, a, h1, rh, st, ea, fun R1 H1 x x1 rh1 rx => ⟨R1, σi, h1, b, h2, rh1, st.mono x1, eb, fun R2 H2 y x2 rh2 ry => ?_⟩⟩
  refine hf _ _ _ _ ⟨R2, h2, a, b, z, h3, rh2, Rw.mono x2 _ _ rx, ry, ez, fun R3 H3 v x3 rh3 rv => ?_⟩
  cases z with
  | bl t =>
    refine ⟨t, rv.bl_eq, ?_⟩
    cases t with
    | true =>
      obtain ⟨⟨c, h4⟩, ec, e5⟩ := Option.bind_eq_some_iff.mp e4
      refine iteT ⟨R3, σi, h3, c, h4, rh3, st.mono (x1.trans (x2.trans x3)), ec, fun R4 H4 y' x4 rh4 ry' => ?_⟩
      exact hf' _ _ _ _ ⟨R4, h4, b, c, w, h', rh4, Rw.mono (x3.trans x4) _ _ ry, ry', e5, k.ext (x1.trans (x2.trans (x3.trans x4)))⟩
    | false =>
      cases e4
      exact iteF (k R3 H3 _ (x1.trans (x2.trans x3)) rh3 (Rw.bl _))
  | non => cases e4
  | int _ => cases e4
  | str _ => cases e4
  | tup _ => cases e4
  | lst _ => cases e4
  | frz _ => cases e4
  | ref _ => cases e4
  | ty _ => cases e4
theorem pm_chain {op op' : CmpOp} {r r' : R2} {f f' : W → W → MH → Option (W × MH)} (ho : OpR X (compareOp op) r) (hf : OpM X.K r f) (ho' : OpR X (compareOp op') r') (hf' : OpM X.K r' f') (ha : PM X a ma) (hb : PM X b mb) (hc : PM X c mc)
    (hm : lastMarks [op, op'] [b, c] = false := by with_unfolding_all rfl) : PM X (.Compare a [op, op'] [b, c] pos) (mChain f f' ma mb mc) := pe_imp (pe_chain ho ho' ha hb hc hm) fun _ _ _ q => chain_of hf hf' q
theorem pmt_chain {op op' : CmpOp} {r r' : R2} {f f' : W → W → MH → Option (W × MH)} (ho : OpR X (compareOp op) r) (hf : OpM X.K r f) (ho' : OpR X (compareOp op') r') (hf' : OpM X.K r' f') (ha : PM X a ma) (hb : PM X b mb) (hc : PM X c mc)
    (hm : lastMarks [op, op'] [b, c] = false := by with_unfolding_all rfl) : PMT X (.Compare a [op, op'] [b, c] pos) (mTest (mChain f f' ma mb mc)) := pt_imp (pt_chain ho ho' ha hb hc hm) fun _ _ _ q => chain_of hf hf' (tTest_of q)
/-! ### and, or, not, if -/
def mAnd (ma mb : ME) : ME := fun σ h => (ma σ h).bind fun p => match p.1 with | .bl true => mb σ p.2 | .bl false => some (.bl false, p.2) | _ => none
def mOr (ma mb : ME) : ME := fun σ h => (ma σ h).bind fun p => match p.1 with | .bl true => some (.bl true, p.2) | .bl false => mb σ p.2 | _ => none
def mNot (ma : ME) : ME := fun σ h => (ma σ h).bind fun p => match p.1 with | .bl b => some (.bl (!b), p.2) | _ => none
def mtAnd (ma mb : MT) : MT := fun σ h => (ma σ h).bind fun p => match p.1 with | true => mb σ p.2 | false => some (false, p.2)
def mtOr (ma mb : MT) : MT := fun σ h => (ma σ h).bind fun p => match p.1 with | true => some (true, p.2) | false => mb σ p.2
def mtNot (ma : MT) : MT := fun σ h => (ma σ h).bind fun p => some (!p.1, p.2)
def mIf (t : MT) (ma mb : ME) : ME := fun σ h => (t σ h).bind fun p => match p.1 with | true => ma σ p.2 | false => mb σ p.2
variable {rest : List Expr} {ta tb : MT}
theorem pm_one {op} (h : PM X a ma) : PM X (.BoolOp op [a] pos) ma := pe_one h
theorem pm_and (ha : PM X a ma) (hb : PM X (.BoolOp .And (b :: rest) pos) mb) : PM X (.BoolOp .And (a :: b :: rest) pos) (mAnd ma mb) := pe_imp (pe_and ha hb) fun σ H Q ⟨R, σi, h, w, h', rh, st, e, k⟩ => by
  obtain ⟨⟨a, h1⟩, ea, e2⟩ := Option.bind_eq_some_iff.mp e
  refine ⟨R, σi, h, a, h1, rh, st, ea, fun R1 H1 x x1 rh1 rx => ?_⟩
  cases a with
  | bl t =>
    refine ⟨t, rx.bl_eq, ?_⟩
    cases t with
    | true => exact iteT ⟨R1, σi, h1, w, h', rh1, st.mono x1, e2, k.ext x1⟩
    | false => cases e2; exact iteF (k R1 H1 _ x1 rh1 (Rw.bl _))
  | non => cases e2
  | int _ => cases e2
  | str _ => cases e2
  | tup _ => cases e2
  | lst _ => cases e2
  | frz _ => cases e2
  | ref _ => cases e2
  | ty _ => cases e2
theorem pm_or (ha : PM X a ma) (hb : PM X (.BoolOp .Or (b :: rest) pos) mb) : PM X (.BoolOp .Or (a :: b :: rest) pos) (mOr ma mb) := pe_imp (pe_or ha hb) fun σ H Q ⟨R, σi, h, w, h', rh, st, e, k⟩ => by
  obtain ⟨⟨a, h1⟩, ea, e2⟩ := Option.bind_eq_some_iff.mp e
  refine ⟨R, σi, h, a, h1, rh, st, ea, fun R1 H1 x x1 rh1 rx => ?_⟩
  cases a with
  | bl t =>
    refine ⟨t, rx.bl_eq, ?_⟩
    cases t with
    | true => cases e2; exact iteT (k R1 H1 _ x1 rh1 (Rw.bl _))
    | false => exact iteF ⟨R1, σi, h1, w, h', rh1, st.mono x1, e2, k.ext x1⟩
  | non => cases e2
  | int _ => cases e2
  | str _ => cases e2
  | tup _ => cases e2
  | lst _ => cases e2
  | frz _ => cases e2
  | ref _ => cases e2
  | ty _ => cases e2
theorem pm_not (ha : PM X a ma) : PM X (.UnaryOp .Not a pos) (mNot ma) := pe_imp (pe_not ha) fun σ H Q ⟨R, σi, h, w, h', rh, st, e, k⟩ => by
  obtain ⟨⟨a, h1⟩, ea, e2⟩ := Option.bind_eq_some_iff.mp e
  refine ⟨R, σi, h, a, h1, rh, st, ea, fun R1 H1 x x1 rh1 rx => ?_⟩
  cases a with
  | bl t => cases e2; exact ⟨t, rx.bl_eq, k R1 H1 _ x1 rh1 (Rw.bl _)⟩
  | non => cases e2
  | int _ => cases e2
  | str _ => cases e2
  | tup _ => cases e2
  | lst _ => cases e2
  | frz _ => cases e2
  | ref _ => cases e2
  | ty _ => cases e2
def PMW (X : Cx) (e : Expr) (m : MT) : Prop := PW X e (tIT X.K m)
theorem PMW.pt {e : Expr} {m : MT} (h : PMW X e m) : PMT X e m := PW.pt h
theorem tAnd_of {K : PySem.W.Frag} {σ : L2.St} {H : Hp} {Q : Bool → Hp → Prop} (q : tIT K (mtAnd ta tb) σ H Q) : tAnd (tIT K ta) (tIT K tb) σ H Q := by
  obtain ⟨R, σi, h, w, h', rh, st, e, k⟩ := q
  obtain ⟨⟨a, h1⟩, ea, e2⟩ := Option.bind_eq_some_iff.mp e
  refine ⟨R, σi, h, a, h1, rh, st, ea, fun R1 H1 x1 rh1 => ?_⟩
  cases a with
  | true => exact iteT ⟨R1, σi, h1, w, h', rh1, st.mono x1, e2, fun R2 H2 x2 => k R2 H2 (x1.trans x2)⟩
  | false => cases e2; exact iteF (k R1 H1 x1 rh1)
theorem tOr_of {K : PySem.W.Frag} {σ : L2.St} {H : Hp} {Q : Bool → Hp → Prop} (q : tIT K (mtOr ta tb) σ H Q) : tOr (tIT K ta) (tIT K tb) σ H Q := by
  obtain ⟨R, σi, h, w, h', rh, st, e, k⟩ := q
  obtain ⟨⟨a, h1⟩, ea, e2⟩ := Option.bind_eq_some_iff.mp e
  refine ⟨R, σi, h, a, h1, rh, st, ea, fun R1 H1 x1 rh1 => ?_⟩
  cases a with
  | true => cases e2; exact iteT (k R1 H1 x1 rh1)
  | false => exact iteF ⟨R1, σi, h1, w, h', rh1, st.mono x1, e2, fun R2 H2 x2 => k R2 H2 (x1.trans x2)⟩
theorem pmw_and1 (ha : PMT X a ta) : PMW X (.BoolOp .And [a] pos) ta := pw_and1 ha
theorem pmw_or1 (ha : PMT X a ta) : PMW X (.BoolOp .Or [a] pos) ta := pw_or1 ha
theorem pmw_and (ha : PMT X a ta) (hb : PMW X (.BoolOp .And (b :: rest) pos) tb) : PMW X (.BoolOp .And (a :: b :: rest) pos) (mtAnd ta tb) := pw_imp (pw_and ha hb) fun _ _ _ => tAnd_of
theorem pmw_or (ha : PMT X a ta) (hb : PMW X (.BoolOp .Or (b :: rest) pos) tb) : PMW X (.BoolOp .Or (a :: b :: rest) pos) (mtOr ta tb) := pw_imp (pw_or ha hb) fun _ _ _ => tOr_of
theorem pmt_not (ha : PMT X a ta) : PMT X (.UnaryOp .Not a pos) (mtNot ta) := pt_imp (pt_not ha) fun σ H Q ⟨R, σi, h, w, h', rh, st, e, k⟩ => by
  obtain ⟨⟨a, h1⟩, ea, e2⟩ := Option.bind_eq_some_iff.mp e
  cases e2
  exact ⟨R, σi, h, a, h1, rh, st, ea, fun R1 H1 x1 rh1 => k R1 H1 x1 rh1⟩
theorem pm_if (ht : PMT X c ta) (ha : PM X a ma) (hb : PM X b mb) : PM X (.IfExp c a b pos) (mIf ta ma mb) := pe_imp (pe_ifExp ht ha hb) fun σ H Q ⟨R, σi, h, w, h', rh, st, e, k⟩ => by
  obtain ⟨⟨t, h1⟩, ea, e2⟩ := Option.bind_eq_some_iff.mp e
  refine ⟨R, σi, h, t, h1, rh, st, ea, fun R1 H1 x1 rh1 => ?_⟩
  cases t with
  | true => exact iteT ⟨R1, σi, h1, w, h', rh1, st.mono x1, e2, k.ext x1⟩
  | false => exact iteF ⟨R1, σi, h1, w, h', rh1, st.mono x1, e2, k.ext x1⟩
/-- the truth of a value -/
def truW (h : MH) : W → Option Bool
  | .non => some false
  | .bl b => some b
  | .int i => some (i != 0)
  | .str x => if x.length ≤ sizeLine then some ((x.length : Int) != 0) else none
  | .tup ws => some (!ws.isEmpty)
  | .lst ws => some (!ws.isEmpty)
  | .frz ws => some (!ws.isEmpty)
  | .ref n => match h[n]? with | some (.lst ws) => some (!ws.isEmpty) | some (.dic kvs) => some (!kvs.isEmpty) | none => none
  | .ty _ => none
def mTru (m : ME) : MT := fun σ h => (m σ h).bind fun p => (truW p.2 p.1).map fun b => (b, p.2)
theorem Rws.isEmpty {K : PySem.W.Frag} {R : Rn} {ws : List W} {vs : List V} (r : Rws K R ws vs) : ws.isEmpty = vs.isEmpty := by
  have := r.length
  cases ws <;> cases vs <;> simp at this ⊢
theorem tru_of {K : PySem.W.Frag} {R : Rn} {h : MH} {H : Hp} {w : W} {v : V} {b : Bool} (rh : Rh K R h H) (r : Rw K R w v) (e : truW h w = some b) : TruV K v H b := by
  cases w with
  | non => rw [r.non_eq]; cases e; rfl
  | bl b => rw [r.bl_eq]; cases e; rfl
  | int i => rw [r.int_eq]; cases e; rfl
  | str x =>
    rw [r.str_eq]
    simp only [truW] at e
    split at e
    · rename_i hl; cases e; exact ⟨hl, rfl⟩
    · cases e
  | tup ws =>
    obtain ⟨a, xs, rfl, h1, h2⟩ := rh.tupAt r
    cases e
    exact .inr (.inl ⟨xs, h1, by rw [h2.isEmpty]⟩)
  | lst ws =>
    obtain ⟨a, xs, rfl, h1, h2⟩ := rh.lstAt r
    cases e
    exact .inl ⟨xs, SqL.of h1, by rw [h2.isEmpty]⟩
  | frz ws =>
    obtain ⟨a, xs, rfl, h1, h2⟩ := rh.frzAt r
    cases e
    exact .inl ⟨xs, h1, by rw [h2.isEmpty]⟩
  | ref n =>
    simp only [truW] at e
    split at e
    · rename_i ws hn
      cases e
      obtain ⟨_, rfl, xs, h1, h2⟩ := rh.refAt r hn
      exact .inl ⟨xs, SqL.of h1, by rw [h2.isEmpty]⟩
    · rename_i kvs hn
      cases e
      unfold Rw at r
      obtain ⟨kx, h1, h2⟩ := rh.obj n _ hn
      rw [r.2]
      refine .inr (.inr ⟨kx, h1, ?_⟩)
      have := Paired.length h2
      cases kvs <;> cases kx <;> simp at this ⊢
    · cases e
  | ty _ => cases e
theorem pmt_tru (ha : PM X a ma) (he : ∀ whole, isTrue a X.env whole = (do let v ← whole; standAt a.pos; holding [v] (truthy v)) := by intro _; rfl) : PMT X a (mTru ma) :=
  pt_imp (pt_truth ha he) fun σ H Q ⟨R, σi, h, w, h', rh, st, e, k⟩ => by
    obtain ⟨⟨a, h1⟩, ea, e2⟩ := Option.bind_eq_some_iff.mp e
    obtain ⟨b, eb, e3⟩ := Option.map_eq_some_iff.mp e2
    cases e3
    exact ⟨R, σi, h, a, _, rh, st, ea, fun R1 H1 x x1 rh1 rx => ⟨_, tru_of rh1 rx eb, k R1 H1 x1 rh1⟩⟩
end
end Mi

namespace Mi
open PySem PySem.Spec PyProof.Rows L2

/-! ### statements -/
def isComp : Expr → Bool
  | .ListComp .. => true
  | .SetComp .. => true
  | .DictComp .. => true
  | _ => false
theorem swaps_of {e : Expr} {t : Option Expr} {l : Nat} {env : Env} (h : isComp e = false) : swapsWith e t l env = pure false := by
  cases e <;> first | rfl | cases h
def mSkip : SM := fun σ h => some (.nx σ h)
def mSeq (a b : SM) : SM := fun σ h => (a σ h).bind fun r => match r with | .nx σ' h' => b σ' h' | r => some r
def mRet (m : ME) : SM := fun σ h => (m σ h).map fun p => .rt p.1 p.2
def mRetN : SM := fun _ h => some (.rt .non h)
def mBrk : SM := fun σ h => some (.bk σ h)
def mCnt : SM := fun σ h => some (.ct σ h)
def mIte (t : MT) (a b : SM) : SM := fun σ h => (t σ h).bind fun p => match p.1 with | true => a σ p.2 | false => b σ p.2
def mDrop (m : ME) : SM := fun σ h => (m σ h).map fun p => .nx σ p.2
def mSet (i : Nat) (m : ME) : SM := fun σ h => (m σ h).map fun p => .nx (σ.set i (some p.1)) p.2
def mAug (i : Nat) (f : W → W → MH → Option (W × MH)) (m : ME) : SM := fun σ h => match σ[i]? with
  | some (some x) => (m σ h).bind fun p => (f x p.1 p.2).map fun q => .nx (σ.set i (some q.1)) q.2
  | _ => none
section
variable {X : Cx} {st : Stmt} {rest : List Stmt} {a b : SM} {e : Expr} {m : ME} {pos : Pos}
theorem pms_nil : PMSs X [] mSkip := pss_imp pss_nil fun D σ H ⟨R, σi, h, r, rh, s, e, k⟩ => by
  cases e
  exact k R H σ (Ext.refl _) rh s
theorem seq_of {K : PySem.W.Frag} {D : L2.Ends} {σ : L2.St} {H : Hp} (q : tS K (mSeq a b) D σ H) : tSeq (tS K a) (tS K b) D σ H := by
  obtain ⟨R, σi, h, r, rh, s, e, k⟩ := q
  obtain ⟨r1, e1, e2⟩ := Option.bind_eq_some_iff.mp e
  refine ⟨R, σi, h, r1, rh, s, e1, ?_⟩
  cases r1 with
  | nx σ1 h1 => exact fun R1 H1 σ' x1 rh1 s1 => ⟨R1, σ1, h1, r, rh1, s1, e2, Ends.ext k x1⟩
  | rt w h1 => cases e2; exact k
  | bk σ1 h1 => cases e2; exact k
  | ct σ1 h1 => cases e2; exact k
theorem pms_cons (h1 : PMS X st a) (h2 : PMSs X rest b) : PMSs X (st :: rest) (mSeq a b) := pss_imp (pss_cons h1 h2) fun _ _ _ => seq_of
theorem pms_one (h1 : PMS X st a) : PMSs X [st] a := pss_one h1
theorem pms_pass : PMS X (.Pass pos) mSkip := ps_imp ps_pass fun D σ H ⟨R, σi, h, r, rh, s, e, k⟩ => by
  cases e
  exact k R H σ (Ext.refl _) rh s
theorem pms_break : PMS X (.Break pos) mBrk := ps_imp ps_break fun D σ H ⟨R, σi, h, r, rh, s, e, k⟩ => by
  cases e
  exact k R H σ (Ext.refl _) rh s
theorem pms_continue : PMS X (.Continue pos) mCnt := ps_imp ps_continue fun D σ H ⟨R, σi, h, r, rh, s, e, k⟩ => by
  cases e
  exact k R H σ (Ext.refl _) rh s
theorem pms_doc {x j pos pos'} : PMS X (.Expr (.Constant (.str x) j pos) pos') mSkip := ps_imp ps_doc fun D σ H ⟨R, σi, h, r, rh, s, e, k⟩ => by
  cases e
  exact k R H σ (Ext.refl _) rh s
theorem pms_expr (he : PM X e m) (hs : isComp e = false := by rfl) : PMS X (.Expr e pos) (mDrop m) := ps_imp (ps_expr he (swaps_of hs)) fun D σ H ⟨R, σi, h, r, rh, s, e, k⟩ => by
  obtain ⟨⟨w, h1⟩, e1, e2⟩ := Option.map_eq_some_iff.mp e
  cases e2
  exact ⟨R, σi, h, w, h1, rh, s, e1, fun R1 H1 v x1 rh1 _ => k R1 H1 σ x1 rh1 (s.mono x1)⟩
theorem pms_ret (he : PM X e m) : PMS X (.Return (some e) pos) (mRet m) := ps_imp (ps_ret he) fun D σ H ⟨R, σi, h, r, rh, s, e, k⟩ => by
  obtain ⟨⟨w, h1⟩, e1, e2⟩ := Option.map_eq_some_iff.mp e
  cases e2
  exact ⟨R, σi, h, w, h1, rh, s, e1, k⟩
theorem pms_retN : PMS X (.Return none pos) mRetN := ps_imp ps_retN fun D σ H ⟨R, σi, h, r, rh, s, e, k⟩ => by
  cases e
  exact k R H .non (Ext.refl _) rh Rw.non
theorem pms_if {c : Expr} {sa sb : List Stmt} {t : MT} (hc : PMT X c t) (ha : PMSs X sa a) (hb : PMSs X sb b) : PMS X (.If c sa sb pos) (mIte t a b) := ps_imp (ps_if hc ha hb) fun D σ H ⟨R, σi, h, r, rh, s, e, k⟩ => by
  obtain ⟨⟨z, h1⟩, e1, e2⟩ := Option.bind_eq_some_iff.mp e
  refine ⟨R, σi, h, z, h1, rh, s, e1, fun R1 H1 x1 rh1 => ?_⟩
  cases z with
  | true => exact iteT ⟨R1, σi, h1, r, rh1, s.mono x1, e2, Ends.ext k x1⟩
  | false => exact iteF ⟨R1, σi, h1, r, rh1, s.mono x1, e2, Ends.ext k x1⟩
theorem pms_set {i : Nat} {x : Str} {pos' : Pos} (hN : X.N.Nodup) (hi : X.N[i]? = some x) (hx : Loc X.env.scope x) (he : PM X e m) (hs : isComp e = false := by rfl) (hf : X.fn x = true ∨ X.env.scope.names.lookup x = some .local := by first | exact .inl rfl | exact .inr rfl | assumption) :
    PMS X (.Assign [.Name x pos'] e pos) (mSet i m) := ps_imp (ps_set hN hi hx he (swaps_of hs) hf) fun D σ H ⟨R, σi, h, r, rh, s, e, k⟩ => by
  obtain ⟨⟨w, h1⟩, e1, e2⟩ := Option.map_eq_some_iff.mp e
  cases e2
  exact ⟨R, σi, h, w, h1, rh, s, e1, fun R1 H1 v x1 rh1 rv => k R1 H1 _ x1 rh1 ((s.mono x1).set rv)⟩
/-- a op= b by values -/
theorem pip_of {op : Operator} {r : R2} (ho : OpR X (inplaceOp op) r) : PIp X op r := ho
theorem pms_aug {i : Nat} {x : Str} {op : Operator} {r : R2} {f : W → W → MH → Option (W × MH)} {pos' : Pos} (hN : X.N.Nodup) (hi : X.N[i]? = some x) (hx : Loc X.env.scope x) (ho : OpR X (inplaceOp op) r) (hf : OpM X.K r f) (he : PM X e m)
    (hfn : X.fn x = true ∨ X.env.scope.names.lookup x = some .local := by first | exact .inl rfl | exact .inr rfl | assumption) : PMS X (.AugAssign (.Name x pos') op e pos) (mAug i f m) :=
  ps_imp (ps_aug hN hi hx he (pip_of ho) hfn) fun D σ H ⟨R, σi, h, r, rh, s, e, k⟩ => by
    unfold mAug at e
    split at e
    · rename_i w0 hw0
      obtain ⟨⟨w, h1⟩, e1, e2⟩ := Option.bind_eq_some_iff.mp e
      obtain ⟨⟨z, h2⟩, e3, e4⟩ := Option.map_eq_some_iff.mp e2
      cases e4
      obtain ⟨v0, hv0, rv0⟩ := s.2 i _ hw0
      refine ⟨v0, hv0, R, σi, h, w, h1, rh, s, e1, fun R1 H1 v x1 rh1 rv => ?_⟩
      exact hf _ _ _ _ ⟨R1, h1, w0, w, z, h2, rh1, Rw.mono x1 _ _ rv0, rv, e3, fun R2 H2 y x2 rh2 ry => k R2 H2 _ (x1.trans x2) rh2 ((s.mono (x1.trans x2)).set ry)⟩
    · cases e
end

/-! ### defs -/
def mFin (r : Option MF) : Option (W × MH) := match r with | some (.rt w h) => some (w, h) | some (.nx _ h) => some (.non, h) | _ => none
/-- a def with its names: n the parameters, more the further names -/
def mDef (more : Nat) (m : SM) : FM := fun ws h => mFin (m (ws.map some ++ List.replicate more none) h)
theorem Rst.start {K : PySem.W.Frag} {R : Rn} {ws : List W} {vs : List V} {N : List Str} (r : Rws K R ws vs) (k : Nat) (hk : N.length = ws.length + k) : Rst K R (ws.map some ++ List.replicate k none) (start N vs) := by
  have hl := r.length
  unfold L2.start
  refine ⟨by simp [hk, hl], fun i w e => ?_⟩
  by_cases hi : i < ws.length
  · rw [List.getElem?_append_left (by simpa using hi)] at e
    rw [List.getElem?_append_left (by simpa [← hl] using hi)]
    rw [List.getElem?_map] at e ⊢
    obtain ⟨w', hw', e'⟩ := Option.map_eq_some_iff.mp e
    cases e'
    obtain ⟨v, h1, h2⟩ := r.get hw'
    exact ⟨v, by rw [h1]; rfl, h2⟩
  · rw [List.getElem?_append_right (by simpa using hi)] at e
    rw [List.getElem?_replicate] at e
    split at e <;> cases e
section
variable {P : Program} {w : World} {K : PySem.W.Frag} {mg : Str → Option Value} {base : Heap}
theorem fn_ok {x qual : Str} {st : Stmt} {f : Addr} {fd : FuncData} {N ps : List Str} {k more : Nat} {m : SM} (F : Fun K x qual st f fd) (S : FnScope N ps (defScope st)) (hN : N.length = ps.length + more)
    (hbody : ∀ (cdv : Value) (A : Around) (outer : List Env) (s : Shared) (H : Hp) (E : XK), Room k (A.deeper (envOfC qual (defScope st) s.heap.objs.size f cdv)) → PMSs (cxOf CX0 P w K mg base N qual (defScope st) f cdv A outer s H E).nox (defBody st) m) :
    FnOk P w K mg base CX0 (k + 1) f fd ps (spM K ps.length (mDef more m)) := by
  refine F.ok S (fun vs H Q E q => ?_) (fun cdv A outer s H vs Q E hr q => ?_)
  · obtain ⟨R, ws, h, w, h', hl, rh, rws, _⟩ := q
    rw [← rws.length]; exact hl
  · refine ⟨_, hbody cdv A outer s H E hr, ?_⟩
    obtain ⟨R, ws, h, w, h', hl, rh, rws, e, kk⟩ := q
    have st := Rst.start (N := N) rws more (by rw [hN, hl])
    unfold mDef mFin at e
    split at e
    · rename_i w' h1 e1
      cases e
      exact ⟨R, _, h, _, rh, st, e1, kk⟩
    · rename_i σ1 h1 e1
      cases e
      exact ⟨R, _, h, _, rh, st, e1, fun R1 H1 σ' x1 rh1 _ => kk R1 H1 .non x1 rh1 Rw.non⟩
    · cases e
end
/-! ### calls -/
section
variable {X : Cx} {CX : CXT} {k : Nat} {f : Addr} {fd : FuncData} {ps : List Str} {g : FM} {E : XK} {x : Str} {p pos : Pos} {e : Expr} {es : List Expr} {ms : MA}
/-- the number of arguments is looked at -/
def mCall (n : Nat) (g : FM) (ms : MA) : ME := mFn (fun ws h => if ws.length = n then g ws h else none) ms
theorem call_of {K : PySem.W.Frag} {n : Nat} {σ : L2.St} {H : Hp} {Q : VK} (q : tI K (mCall n g ms) σ H Q) : tCall (spM K n g) [] E (tIA K ms) σ H Q := by
  refine tIA_mono (args1 q) fun vs H1 ⟨R, h, ws, w, h', rh, rws, e, k⟩ => ?_
  dsimp only at e
  split at e
  · rename_i hl
    exact ⟨R, ws, h, w, h', hl, rh, by rw [List.append_nil]; exact rws, e, k⟩
  · cases e
theorem pm_call (F : FnOk X.prog X.w X.K X.mg X.base CX k f fd ps (spM X.K ps.length g)) (hr : Room k X.A) (hg : Gl X x) (hm : X.mg x = some (.ref f)) (hk : PySem.W.keepIn X.K (.ref f) = true) (hb : Binds X.K fd ps []) (hx : Passes CX X E)
    (ha : PMA X (e :: es) ms) (hdb : (x == ("__debug__" : Str)) = false := by decide) (he : isStar e = false := by rfl) (hpl : noStar es = true := by rfl) :
    PM X (.Call (.Name x p) (e :: es) [] pos) (mCall ps.length g ms) := pe_imp (pe_call F hr hg hm hk hb .nil hx ha hdb (star_cons he) (any_star hpl)) fun _ _ _ => call_of
theorem pm_call0 (F : FnOk X.prog X.w X.K X.mg X.base CX k f fd ps (spM X.K ps.length g)) (hr : Room k X.A) (hg : Gl X x) (hm : X.mg x = some (.ref f)) (hk : PySem.W.keepIn X.K (.ref f) = true) (hb : Binds X.K fd ps []) (hx : Passes CX X E)
    (hdb : (x == ("__debug__" : Str)) = false := by decide) : PM X (.Call (.Name x p) [] [] pos) (mCall ps.length g mNil) := pe_imp (pe_call0 F hr hg hm hk hb .nil hx hdb) fun σ H Q q => by
  obtain ⟨R, σi, h, ws, h', rh, st, e, k⟩ := call_of (E := E) q
  cases e
  exact k R H [] (Ext.refl _) rh Rws.nil
end
/-! ### built-in functions and types -/
section
variable {X : Cx} {x : Str} {p pos : Pos} {e : Expr} {es : List Expr} {ms : MA} {id T : String} {r : List V → Hp → VK → Prop} {f : List W → MH → Option (W × MH)}
theorem pm_callB (hc : CallR X (.builtin id) r) (hf : CallM X.K r f) (hg : Gl X x) (hm : X.mg x = none) (hv : bootBuiltins x = some (.builtin id)) (ha : PMA X (e :: es) ms) (hn : x ≠ "__name__" := by decide) (hdb : (x == ("__debug__" : Str)) = false := by decide)
    (he : isStar e = false := by rfl) (hpl : noStar es = true := by rfl) : PM X (.Call (.Name x p) (e :: es) [] pos) (mFn f ms) :=
  pe_imp (pe_callB hc hg hm hv ha hn hdb (star_cons he) (any_star hpl)) fun _ _ _ q => tIA_mono (args1 q) fun _ _ q1 => hf _ _ _ q1
theorem pm_callTy (hc : CallR X (.type T) r) (hf : CallM X.K r f) (hg : Gl X x) (hm : X.mg x = none) (hv : bootBuiltins x = some (.type T)) (ha : PMA X (e :: es) ms) (hn : x ≠ "__name__" := by decide) (hdb : (x == ("__debug__" : Str)) = false := by decide)
    (he : isStar e = false := by rfl) (hpl : noStar es = true := by rfl) : PM X (.Call (.Name x p) (e :: es) [] pos) (mFn f ms) :=
  pe_imp (pe_callTy hc hg hm hv ha hn hdb (star_cons he) (any_star hpl)) fun _ _ _ q => tIA_mono (args1 q) fun _ _ q1 => hf _ _ _ q1
end
/-! ### loops -/
/-- the list that is walked still stands -/
def live (src : Option Nat) (items : List W) (h : MH) : Prop := ∀ n, src = some n → h[n]? = some (.lst items)
abbrev MI := MSt → MH → Option (List W × Option Nat × MH)
structure ItOk (K : PySem.W.Frag) (R : Rn) (J : It) (items : List W) (src : Option Nat) : Prop where
  go : ∀ i w R' h H, Ext R R' → Rh K R' h H → live src items h → items[i]? = some w → J.go i H
  yld : ∀ i w R' h H x H', Ext R R' → Rh K R' h H → live src items h → items[i]? = some w → J.yld i H x H' → ∃ R'', Ext R' R'' ∧ Rh K R'' h H' ∧ Rw K R'' w x
  stop : ∀ i R' h H, Ext R R' → Rh K R' h H → live src items h → items.length ≤ i → J.stop i H
def tII (K : PySem.W.Frag) (m : MI) : TI := fun σ H C => ∃ R σi h items src h', Rh K R h H ∧ Rst K R σi σ ∧ m σi h = some (items, src, h') ∧ ∀ R' H' J, Ext R R' → Rh K R' h' H' → ItOk K R' J items src → C J H'
def PMI (X : Cx) (tg iter : Expr) (m : MI) : Prop := PI X tg iter (tII X.K m)
theorem pi_imp {X : Cx} {tg iter : Expr} {t t' : TI} (h : PI X tg iter t) (i : ∀ σ H C, t' σ H C → t σ H C) : PI X tg iter t' := fun pins s σ H C I q => h pins s σ H C I (i _ _ _ q)
/-- targets: where the turn's value goes -/
abbrev MG := W → MSt → MH → Option MSt
def tIG (K : PySem.W.Frag) (b : MG) : TG := fun v σ H C => ∃ R σi h w σ1, Rh K R h H ∧ Rst K R σi σ ∧ Rw K R w v ∧ b w σi h = some σ1 ∧ ∀ R' H' σ', Ext R R' → Rh K R' h H' → Rst K R' σ1 σ' → C σ' H'
def PMG (X : Cx) (tg : Expr) (b : MG) : Prop := PG X tg (tIG X.K b)
theorem pg_imp {X : Cx} {tg : Expr} {t t' : TG} (h : PG X tg t) (i : ∀ v σ H C, t' v σ H C → t v σ H C) : PG X tg t' := fun pins s σ H v u C I r q => h pins s σ H v u C I r (i _ _ _ _ q)
def gSet (i : Nat) : MG := fun w σ _ => some (σ.set i (some w))
theorem pmg_name {X : Cx} {i : Nat} {x : Str} {pos : Pos} (hN : X.N.Nodup) (hi : X.N[i]? = some x) (hx : Loc X.env.scope x) (hf : X.fn x = true ∨ X.env.scope.names.lookup x = some .local := by first | exact .inl rfl | exact .inr rfl | assumption) :
    PMG X (.Name x pos) (gSet i) := pg_imp (pg_name hN hi hx hf) fun v σ H C ⟨R, σi, h, w, σ1, rh, st, rw, e, k⟩ => by
  cases e
  exact k R H _ (Ext.refl _) rh (st.set rw)
open Classical in
/-- the turns that are left -/
noncomputable def mLoop (items : List W) (src : Option Nat) (b : MG) (body : SM) : List W → SM
  | [], σ, h => if live src items h then some (.nx σ h) else none
  | w :: r, σ, h => if live src items h then (b w σ h).bind fun σ1 => (body σ1 h).bind fun z => match z with
      | .nx σ2 h2 => mLoop items src b body r σ2 h2
      | .ct σ2 h2 => mLoop items src b body r σ2 h2
      | .bk σ2 h2 => some (.nx σ2 h2)
      | .rt v h2 => some (.rt v h2)
    else none
noncomputable def mFor (mi : MI) (b : MG) (body : SM) : SM := fun σ h => (mi σ h).bind fun p => mLoop p.1 p.2.1 b body p.1 σ p.2.2
section
variable {X : Cx} {tg iter : Expr} {body : List Stmt} {mi : MI} {b : MG} {m : SM} {pos : Pos}
theorem for_of {K : PySem.W.Frag} {D : L2.Ends} {σ : L2.St} {H : Hp} (q : tS K (mFor mi b m) D σ H) : tFor (tII K mi) (tIG K b) (tS K m) D σ H := by
  obtain ⟨R, σi, h, r, rh, s, e, k⟩ := q
  obtain ⟨⟨items, src, h1⟩, e1, e2⟩ := Option.bind_eq_some_iff.mp e
  refine ⟨R, σi, h, items, src, h1, rh, s, e1, fun R1 H1 J x1 rh1 it => ?_⟩
  refine ⟨fun i n σ H => i + n = items.length ∧ ∃ R2 σ2 h2, Ext R1 R2 ∧ Rh K R2 h2 H ∧ Rst K R2 σ2 σ ∧ ∃ r, mLoop items src b m (items.drop i) σ2 h2 = some r ∧ Ends K R2 D r, ⟨items.length, by simp, R1, σi, h1, Ext.refl _, rh1, s.mono x1, r, by simpa using e2, Ends.ext k x1⟩, ?_⟩
  rintro i n σ2' H2 ⟨hin, R2, σ2, h2, x2, rh2, s2, r2, e3, k2⟩
  by_cases hi : i < items.length
  · obtain ⟨w, hw⟩ : ∃ w, items[i]? = some w := ⟨items[i], List.getElem?_eq_getElem hi⟩
    have hd : items.drop i = w :: items.drop (i + 1) := by
      rw [List.drop_eq_getElem_cons hi]
      rw [List.getElem?_eq_getElem hi] at hw
      cases hw; rfl
    rw [hd] at e3
    unfold mLoop at e3
    split at e3
    · rename_i hl
      obtain ⟨σ3, e4, e5⟩ := Option.bind_eq_some_iff.mp e3
      obtain ⟨z, e6, e7⟩ := Option.bind_eq_some_iff.mp e5
      refine .inr ⟨it.go i w R2 h2 H2 x2 rh2 hl hw, fun σ' H' => ∃ R3 σ4 h4, Ext R1 R3 ∧ Rh K R3 h4 H' ∧ Rst K R3 σ4 σ' ∧ ∃ r, mLoop items src b m (items.drop (i + 1)) σ4 h4 = some r ∧ Ends K R3 D r, fun σ' H' hn => ⟨n - 1, by omega, by omega, hn⟩, fun x H' hy => ?_⟩
      obtain ⟨R3, x3, rh3, rw3⟩ := it.yld i w R2 h2 H2 x H' x2 rh2 hl hw hy
      refine ⟨R3, σ2, h2, w, σ3, rh3, s2.mono x3, rw3, e4, fun R4 H4 σ4' x4 rh4 s4 => ?_⟩
      refine ⟨R4, σ3, h2, z, rh4, s4, e6, ?_⟩
      cases z with
      | nx σ5 h5 => exact fun R5 H5 σ5' x5 rh5 s5 => ⟨R5, σ5, h5, x2.trans (x3.trans (x4.trans x5)), rh5, s5, r2, e7, Ends.ext k2 (x3.trans (x4.trans x5))⟩
      | ct σ5 h5 => exact fun R5 H5 σ5' x5 rh5 s5 => ⟨R5, σ5, h5, x2.trans (x3.trans (x4.trans x5)), rh5, s5, r2, e7, Ends.ext k2 (x3.trans (x4.trans x5))⟩
      | bk σ5 h5 => cases e7; exact fun R5 H5 σ5' x5 rh5 s5 => k2 R5 H5 σ5' (x3.trans (x4.trans x5)) rh5 s5
      | rt v h5 => cases e7; exact After.ext k2 (x3.trans x4)
    · cases e3
  · have hd : items.drop i = [] := List.drop_eq_nil_of_le (by omega)
    rw [hd] at e3
    unfold mLoop at e3
    split at e3
    · rename_i hl
      cases e3
      exact .inl ⟨it.stop i R2 h2 H2 x2 rh2 hl (by omega), k2 R2 H2 σ2' (Ext.refl _) rh2 s2⟩
    · cases e3
theorem pms_for (hp : PassesOwn (model X.prog X.w) X.A X.env X.xe) (hc : X.calm = true) (hi : PMI X tg iter mi) (hg : PMG X tg b) (hb : PMSs X body m)
    (hs : ∀ x, foldedSetIterable iter X.env x = pure x := by intro _; rfl) : PMS X (.For tg iter body [] pos) (mFor mi b m) := ps_imp (ps_for hp hc hi hg hb hs) fun _ _ _ => for_of
end
/-! ### while -/
/-- n turns, then the test falls -/
def mWhileN (t : MT) (body : SM) : Nat → SM
  | 0, _, _ => none
  | n + 1, σ, h => (t σ h).bind fun p => match p.1 with
    | false => some (.nx σ p.2)
    | true => (body σ p.2).bind fun z => match z with
      | .nx σ2 h2 => mWhileN t body n σ2 h2
      | .ct σ2 h2 => mWhileN t body n σ2 h2
      | .bk σ2 h2 => some (.nx σ2 h2)
      | .rt v h2 => some (.rt v h2)
section
variable {X : Cx} {c : Expr} {body : List Stmt} {t : MT} {m : SM} {pos : Pos}
/-- n: any number of turns that is enough -/
theorem while_of {K : PySem.W.Frag} {n : Nat} {D : L2.Ends} {σ : L2.St} {H : Hp} (q : tS K (mWhileN t m n) D σ H) : tWhile (tIT K t) (tS K m) D σ H := by
  obtain ⟨R, σi, h, r, rh, s, e, k⟩ := q
  refine ⟨fun n σ H => ∃ R2 σ2 h2, Rh K R2 h2 H ∧ Rst K R2 σ2 σ ∧ ∃ r, mWhileN t m n σ2 h2 = some r ∧ Ends K R2 D r, ⟨n, R, σi, h, rh, s, r, e, k⟩, ?_⟩
  rintro n σ2' H2 ⟨R2, σ2, h2, rh2, s2, r2, e2, k2⟩
  cases n with
  | zero => cases e2
  | succ n =>
    unfold mWhileN at e2
    obtain ⟨⟨z, h3⟩, e3, e4⟩ := Option.bind_eq_some_iff.mp e2
    refine ⟨R2, σ2, h2, z, h3, rh2, s2, e3, fun R3 H3 x3 rh3 => ?_⟩
    cases z with
    | false =>
      cases e4
      exact iteF (k2 R3 H3 σ2' x3 rh3 (s2.mono x3))
    | true =>
      obtain ⟨y, e5, e6⟩ := Option.bind_eq_some_iff.mp e4
      refine iteT ⟨fun σ' H' => ∃ R4 σ4 h4, Rh K R4 h4 H' ∧ Rst K R4 σ4 σ' ∧ ∃ r, mWhileN t m n σ4 h4 = some r ∧ Ends K R4 D r, fun σ' H' hn => ⟨n, Nat.lt_succ_self _, hn⟩, ?_⟩
      refine ⟨R3, σ2, h3, y, rh3, s2.mono x3, e5, ?_⟩
      cases y with
      | nx σ5 h5 => exact fun R5 H5 σ5' x5 rh5 s5 => ⟨R5, σ5, h5, rh5, s5, r2, e6, Ends.ext k2 (x3.trans x5)⟩
      | ct σ5 h5 => exact fun R5 H5 σ5' x5 rh5 s5 => ⟨R5, σ5, h5, rh5, s5, r2, e6, Ends.ext k2 (x3.trans x5)⟩
      | bk σ5 h5 => cases e6; exact fun R5 H5 σ5' x5 rh5 s5 => k2 R5 H5 σ5' (x3.trans x5) rh5 s5
      | rt v h5 => cases e6; exact After.ext k2 x3
theorem pms_while (n : Nat) (hp : PassesOwn (model X.prog X.w) X.A X.env X.xe) (hc : PMT X c t) (hb : PMSs X body m) : PMS X (.While c body [] pos) (mWhileN t m n) := ps_imp (ps_while hp hc hb) fun _ _ _ => while_of
end
end Mi

namespace Mi
open PySem PySem.Spec PyProof.Rows L2

/-! ### comprehensions -/
section
variable {prog : Program} {w : World} {A : Around} {E : Value → Shared → Prop} {R : Result → Shared → Prop} {s : Shared}
theorem compLoop_go {elt target iter : Expr} {ifs : List Expr} {scope : Scope} {pos : Pos} {it acc : Value} {env : Env} (I : Nat → Shared → Prop)
    (turn : ∀ n s, I n s → wpAny (model prog w) A (pyNext it) (fun r s₁ => match r with
      | none => R (.ok .next) s₁
      | some v => wpAny (model prog w) A (letOwnedTupleGo target it v) (fun _ s₁' => wpAny (model prog w) A (assign target env v) (fun _ s₂ =>
          wpAny (model prog w) A (forIn ifs true fun c r => if r = true then do let ok ← isTrue c env (eval c env); pure (ForInStep.yield ok) else pure (ForInStep.yield r)) (fun ok s₃ =>
            if ok = true then wpAny (model prog w) A (eval elt env) (fun x s₄ =>
              wpAny (model prog w) A (call (.builtin "list.append") [acc, x]) (fun _ s₅ => ∃ m, m < n ∧ I m s₅) (fun _ _ => False) s₄) (fun _ _ => False) s₃
            else ∃ m, m < n ∧ I m s₃) (fun _ _ => False) s₂) (fun _ _ => False) s₁') (fun _ _ => False) s₁) (fun _ _ => False) s)
    (n : Nat) (h : I n s) :
    codeAny (model prog w) A (.compLoop (.ListComp elt [⟨target, iter, ifs, 0⟩] scope pos) 0 it acc env) R s := by
  refine codeAny_loop rfl I (fun n s hI => ?_) n h
  show wpAny _ A ((compTurn (.ListComp elt [⟨target, iter, ifs, 0⟩] scope pos) 0 it acc env).onRaise (fun x => do noteFrame x env; theTreesLotGoes x)) _ _ s
  refine wpAny_noted ?_
  rw [compTurn_list]
  refine wpAny_bind (wpAny_standAt (wpAny_bind (wpAny_mono (turn n s hI) (fun r s₁ h₁ => ?_) fun _ _ h' => h'.elim)))
  cases r with
  | none => exact wpAny_pure h₁
  | some v =>
    refine wpAny_bind (wpAny_mono h₁ (fun _ s₁' h₁' => ?_) fun _ _ h' => h'.elim)
    refine wpAny_bind (wpAny_mono h₁' (fun _ s₂ h₂ => wpAny_bind (wpAny_mono h₂ (fun ok s₃ h₃ => ?_) fun _ _ h' => h'.elim)) fun _ _ h' => h'.elim)
    cases ok with
    | false => exact wpAny_pure ⟨rfl, h₃⟩
    | true =>
      exact wpAny_bind (wpAny_bind (wpAny_mono h₃ (fun x s₄ h₄ => wpAny_bind (wpAny_mono h₄ (fun _ s₅ h₅ => wpAny_pure (wpAny_pure ⟨rfl, h₅⟩)) fun _ _ h' => h'.elim)) fun _ _ h' => h'.elim))
end

theorem sz {h : Heap} {b : Addr} {o : Obj} {n : Nat} (e : h.get? b = some o) (hn : h.objs.size ≤ n) : ¬ b = n := fun z => by
  have h1 : @LT.lt Nat instLTNat b h.objs.size := Heap.lt_size e
  subst z
  exact Nat.lt_irrefl _ (Nat.lt_of_lt_of_le h1 hn)
/-- the block of a comprehension -/
abbrev blk (X : Cx) (scope : Scope) (cl : List (Str × Addr)) (Nb : List Str) (s₀ : Shared) (H₀ : Hp) (C : Addr) (ex : List Addr) (pn : List (Addr × Obj)) : Cx :=
  { X with N := Nb, s₀ := s₀, H₀ := H₀, env := compEnvC scope cl C X.env, outer := X.stack, stack := X.stack, ex := ex, fn := fun _ => false, pn := pn, xe := fun _ _ => False }

/-- what must be seen of a comprehension's scope: cl the cells that it takes, cp where its names stand outside -/
structure BlkOk (X : Cx) (scope : Scope) (cl : List (Str × Addr)) (Nb : List Str) (cp : List (Option Nat)) : Prop where
  clos : closureFor scope X.env = pure cl
  cell : ∀ y ∈ scope.names, y.2 ≠ .cell
  kind : scope.kind = .function
  names : ∀ y ∈ scope.names, y.2 = .local → scope.names.lookup y.1 = some .local
  sub : ∀ x c, cl.lookup x = some c → X.env.cells.lookup x = some c
  has : ∀ x, ((relabel scope X.env).names.lookup x = some .cell ∨ (relabel scope X.env).names.lookup x = some .free) → ∃ c, cl.lookup x = some c
  len : cp.length = Nb.length
  cap : ∀ (i j : Nat) (x : Str), cp[i]? = some (some j) → Nb[i]? = some x → X.N[j]? = some x ∧ Vis X.env.scope x ∧ (X.env.kindOf x = some .cell ∨ X.env.kindOf x = some .free) ∧ ((relabel scope X.env).names.lookup x = some .cell ∨ (relabel scope X.env).names.lookup x = some .free)

/-- the state at the block's entry -/
def capSt (cp : List (Option Nat)) (σ : L2.St) : L2.St := cp.map fun o => match o with | none => none | some j => match σ[j]? with | some v => v | none => none

def tComp (wi : TI) (cp : List (Option Nat)) (g : TG) (tt : TT) (te : TE) : TE := fun σ H Q => wi σ H fun J H1 => ∃ W : Nat → Nat → List V → L2.St → Hp → Prop, (∃ m, W 0 m [] (capSt cp σ) H1) ∧ ∀ i m acc τ H, W i m acc τ H →
  (J.stop i H ∧ ∀ D, H D = none → Q (.ref D) (upd H D (.lst acc))) ∨
  (J.go i H ∧ ∀ x H', J.yld i H x H' → g x τ H' fun τ2 H2 => tt τ2 H2 fun b H3 => if b = true then te τ2 H3 fun v H4 => acc.length < sizeLine ∧ ∃ m', m' < m ∧ W (i + 1) m' (acc ++ [v]) τ2 H4 else ∃ m', m' < m ∧ W (i + 1) m' acc τ2 H3)

/-- an untracked list of ours becomes tracked -/
theorem Inv.track {X : Cx} {pins : List (Addr × Obj)} {σ : L2.St} {H : Hp} {s : Shared} {D : Addr} {o : HO} (I : Inv X pins σ H s) (hn : H D = none) (h0 : X.s₀.heap.objs.size ≤ D) (hL : X.env.locals ≠ D) (hc : ∀ x c, X.env.cells.lookup x = some c → c ≠ D)
    (hp : ∀ p ∈ X.pn ++ pins, p.1 ≠ D) (ob : ObjOk X.prog X.w (upd H D o) s.heap D o) : Inv X pins σ (upd H D o) s where
  ok := I.ok
  os := I.os
  bare := I.bare
  base := {
    keep := I.base.keep
    slot := I.base.slot
    free := fun b q e n nx => by
      have : b ≠ D := sz e h0
      rw [upd_ne this]; exact I.base.free b q e n nx
    there := I.base.there
    tups := fun b xs e => by
      have q := I.base.tups b xs e
      rw [upd_ne (fun z => by rw [z, hn] at q; cases q)]; exact q
    frzs := fun b q u e => by
      have z := I.base.frzs b q u e
      rw [upd_ne (fun y => by rw [y, hn] at z; cases z)]; exact z
    tbls := fun b ps e => by
      obtain ⟨more, q⟩ := I.base.tbls b ps e
      exact ⟨more, by rw [upd_ne (fun z => by rw [z, hn] at q; cases q)]; exact q⟩ }
  loc := I.loc
  cell := I.cell
  free := by rw [upd_ne hL]; exact I.free
  freeC := fun x c e => by rw [upd_ne (hc x c e)]; exact I.freeC x c e
  pin := fun p hp' => by
    obtain ⟨a, b, c⟩ := I.pin p hp'
    exact ⟨a, by rw [upd_ne (hp p hp')]; exact b, c⟩
  hok := fun a u e => by
    by_cases z : a = D
    · subst z
      rw [upd_same] at e; cases e
      exact ob
    · rw [upd_ne z] at e
      refine (I.hok a u e).stay (fun _ _ _ q => q) (fun b q => ?_) (fun b xs q => ?_)
      · rw [upd_ne (fun y => by rw [y, hn] at q; cases q)]; exact q
      · rw [upd_ne (fun y => by rw [y, hn] at q; cases q)]; exact q
  len := I.len

section
variable {X : Cx} {elt tg iter : Expr} {ifs : List Expr} {scope : Scope} {pos : Pos} {cl : List (Str × Addr)} {Nb : List Str} {cp : List (Option Nat)} {wi : TI} {g : TG} {tt : TT} {te : TE}

theorem Cx.Ok.blk {pins : List (Addr × Obj)} {σ : L2.St} {H : Hp} {s : Shared} {C : Addr} {fp : List Addr} {pn : List (Addr × Obj)} (B : BlkOk X scope cl Nb cp) (I : Inv X pins σ H s) (hf : ∀ b ∈ fp, FpOk X pins H b) (hfs : ∀ b ∈ fp, b < s.heap.objs.size) (hC : s.heap.objs.size ≤ C) :
    (blk X scope cl Nb s H C fp pn).Ok where
  mod := I.ok.mod
  kind := B.kind
  glob := I.ok.glob
  blt := I.ok.blt
  above := hC
  inj := fun x y c h1 h2 => I.ok.inj x y c (B.sub x c h1) (B.sub y c h2)
  has := fun x h => B.has x h
  cab := fun x c h => absurd h (by simp)
  hd := I.ok.hd
  frames := I.ok.frames
  stk := .inl rfl
  exf := fun b hb => ⟨fun z => by have := hfs b hb; rw [z] at this; exact absurd hC (Nat.not_le.mpr this), fun x c e => (hf b hb).2.2.2.2.1 x c (B.sub x c e)⟩
  bs := I.bs
  bsz := Nat.le_trans I.ok.bsz I.sz
  noex := fun b o e hb => by
    rcases (hf b hb).2.2.2.1 with z | z
    · exact I.ok.noex b o e z
    · exact sz e (Nat.le_trans I.ok.bsz z) rfl
  exfs := fun b hb z => by
    have := I.stkSub b z
    rcases List.mem_cons.mp this with q | q
    · exact (hf b hb).2.1 q
    · exact (hf b hb).2.2.1 q
  funs := I.stack
  frf := fun b hb => I.stkFree b hb

theorem capSt_get {cp : List (Option Nat)} {σ : L2.St} {i : Nat} {v : V} (e : (capSt cp σ)[i]? = some (some v)) : ∃ j, cp[i]? = some (some j) ∧ σ[j]? = some (some v) := by
  unfold capSt at e
  rw [List.getElem?_map] at e
  obtain ⟨o, h1, h2⟩ := Option.map_eq_some_iff.mp e
  cases o with
  | none => cases h2
  | some j =>
    refine ⟨j, h1, ?_⟩
    simp only at h2
    split at h2
    · rename_i u hu; rw [hu, h2]
    · cases h2

theorem Inv.blk {pins : List (Addr × Obj)} {σ : L2.St} {H : Hp} {s : Shared} {C : Addr} {fp : List Addr} {h' : Heap} {m : Str → Option Value} {tk : Nat} (B : BlkOk X scope cl Nb cp) (I : Inv X pins σ H s) (hf : ∀ b ∈ fp, FpOk X pins H b) (hfs : ∀ b ∈ fp, b < s.heap.objs.size)
    (hC : s.heap.objs.size ≤ C) (hns : h'.Ns C m) (hk : ∀ b o, s.heap.get? b = some o → h'.get? b = some o) : Inv (Mi.blk X scope cl Nb s H C fp (X.pn ++ pins)) [] (capSt cp σ) H { s with heap := h', toks := tk } where
  ok := Cx.Ok.blk B I hf hfs hC
  os := rfl
  bare := I.bare
  base := Un.kept hk
  loc := by
    refine ⟨m, hns, fun i x v hN e hv => ?_⟩
    obtain ⟨j, h1, h2⟩ := capSt_get e
    obtain ⟨hX, hvis, hkd, hkb⟩ := B.cap i j x h1 hN
    obtain ⟨m0, n0, lk⟩ := I.loc
    obtain ⟨u, r, l⟩ := lk j x v hX h2 hvis
    refine ⟨u, r, ?_⟩
    rcases l with ⟨h, _⟩ | ⟨_, c, hc, hcell⟩
    · rcases hkd with z | z <;> rw [z] at h <;> cases h
    · refine .inr ⟨hkb, ?_⟩
      obtain ⟨c', hc'⟩ := B.has x hkb
      have := B.sub x c' hc'
      rw [hc] at this; cases this
      exact ⟨c, hc', by
        obtain ⟨o, h3, h4⟩ := hcell
        exact ⟨o, hk _ _ h3, h4⟩⟩
  cell := fun x c e => by
    obtain ⟨v, o, h3, h4⟩ := I.cell x c (B.sub x c e)
    exact ⟨v, o, hk _ _ h3, h4⟩
  free := I.hok.fresh hC
  freeC := fun x c e => I.freeC x c (B.sub x c e)
  pin := fun p hp => by
    rw [List.append_nil] at hp
    obtain ⟨a, b, c, d, e⟩ := I.pin p hp
    refine ⟨hk _ _ a, b, fun z => ?_, fun z => ?_, e⟩
    · have := Heap.lt_size a; rw [z] at this; exact absurd hC (Nat.not_le.mpr this)
    · rcases List.mem_cons.mp (I.stkSub _ z) with q | q
      · exact c q
      · exact d q
  hok := I.hok.kept hk
  len := by unfold capSt; rw [List.length_map]; exact B.len

theorem pe_comp (hc : X.calm = true) (B : BlkOk X scope cl Nb cp) (hi : PI X tg iter wi) (hg : ∀ s₀ H₀ C ex pn, PG (Mi.blk X scope cl Nb s₀ H₀ C ex pn) tg g)
    (ht : ∀ s₀ H₀ C ex pn, ∀ (pins : List (Addr × Obj)) (s : Shared) (τ : L2.St) (H : Hp) (Q : Bool → Hp → Prop), Inv (Mi.blk X scope cl Nb s₀ H₀ C ex pn) pins τ H s → tt τ H Q →
      wpAny (model X.prog X.w) X.A (forIn ifs true fun c r => if r = true then do let ok ← isTrue c (compEnvC scope cl C X.env) (eval c (compEnvC scope cl C X.env)); pure (ForInStep.yield ok) else pure (ForInStep.yield r)) (TP (Mi.blk X scope cl Nb s₀ H₀ C ex pn) pins τ Q) (fun _ _ => False) s)
    (he : ∀ s₀ H₀ C ex pn, PE (Mi.blk X scope cl Nb s₀ H₀ C ex pn) elt te) (hs : ∀ x, foldedSetIterable iter X.env x = pure x := by intro _; rfl) :
    PE X (.ListComp elt [⟨tg, iter, ifs, 0⟩] scope pos) (tComp wi cp g tt te) := by
  intro pins s σ H Q I h
  rw [eval_ListComp]
  refine wpAny_comprehension_free (use := none) rfl hs B.clos B.kind B.names (wpAny_mono (hi pins s σ H _ I h) (fun xv s₁ h₁ => wpAny_mono h₁ (fun itv s₂ h₂ => ?_) fun _ _ e => e) fun _ _ e => e)
  obtain ⟨it, fp, tn, J, H2, rfl, I2, T, st2, f2, W, ⟨m0, w0⟩, turn⟩ := h₂
  have hfs : ∀ b ∈ fp, b < s₂.heap.objs.size := fun b hb => by
    obtain ⟨o, e, _⟩ := T.obj _ _ st2 b hb
    exact Heap.lt_size e
  refine wpAny_newObj_type (wpAny_newFunctionEnv B.cell (by intro y hy; simp at hy) (fun h₁ hns₁ hsb₁ => ?_) B.kind)
  dsimp only at hns₁ hsb₁ ⊢
  generalize hH2 : s₂.heap.push { cls := .type "list", dict := none, data := .seq ([] : List Value).toArray } = G2 at hns₁ hsb₁ ⊢
  have hCz : G2.objs.size = s₂.heap.objs.size + 1 := by rw [← hH2, Heap.size_push]
  generalize hCC : G2.objs.size = C at hns₁ hsb₁ ⊢
  rw [hCC] at hCz
  have hCle : s₂.heap.objs.size ≤ C := by omega
  have hDC : s₂.heap.objs.size ≠ C := by omega
  have old : ∀ b o, s₂.heap.get? b = some o → h₁.get? b = some o := fun b o e => hsb₁.extBut b o (sz e hCle) (Heap.get?_push_of_some _ (hH2 ▸ Heap.get?_push_of_some _ e))
  have hacc : h₁.get? s₂.heap.objs.size = some { cls := .type "list", data := .seq ([] : List Value).toArray } := hsb₁.extBut _ _ hDC (Heap.get?_push_of_some _ (hH2 ▸ Heap.get?_push_size _ rfl))
  generalize hD : s₂.heap.objs.size = D at hacc hDC hCle hCz ⊢
  have hDle : s₂.heap.objs.size ≤ D := Nat.le_of_eq hD
  have hCle2 : s₂.heap.objs.size ≤ C := Nat.le_trans hDle hCle
  -- the block's context
  have I3 := Inv.blk (tk := s₂.toks + ([] : List (Str × Value)).length) B I2 f2 hfs (C := C) (Nat.le_trans (Nat.le_of_eq hD) hCle) hns₁ old
  have hDfp : D ∉ fp := fun z => Nat.lt_irrefl _ (Nat.lt_of_lt_of_le (hfs D z) hDle)
  have hCfp : C ∉ fp := fun z => Nat.lt_irrefl _ (Nat.lt_of_lt_of_le (hfs C z) hCle2)
  -- D in the block: not a frame's, not a cell's, not pinned
  have dcell : ∀ x c, cl.lookup x = some c → c ≠ D := fun x c e z => by
    obtain ⟨v, o, h3, _⟩ := I2.cell x c (B.sub x c e)
    exact sz h3 hDle z
  have dpin : ∀ p ∈ X.pn ++ pins, p.1 ≠ D := fun p hp z => sz (I2.pin p hp).1 hDle z
  have cpin : ∀ p ∈ X.pn ++ pins, p.1 ≠ C := fun p hp z => sz (I2.pin p hp).1 hCle2 z
  have dfs : D ∉ frs X.stack := fun z => by
    rcases List.mem_cons.mp (I2.stkSub _ z) with q | q
    · exact Nat.lt_irrefl _ (Nat.lt_of_lt_of_le (q ▸ I2.lt : D < s₂.heap.objs.size) hDle)
    · exact I2.nofs hDle q
  have fpst : ∀ {H' : Hp} {pl : List (Addr × Obj)}, (∀ b ∈ fp, H' b = none) → (∀ p ∈ pl, p.1 = D) → ∀ b ∈ fp, FpOk (Mi.blk X scope cl Nb s₂ H2 C fp (X.pn ++ pins)) pl H' b := fun {H' pl} hn hpl b hb =>
    ⟨hn b hb, fun (z : b = C) => hCfp (z ▸ hb), fun z => by
      rcases List.mem_cons.mp (I2.stkSub _ z) with q | q
      · exact (f2 b hb).2.1 q
      · exact (f2 b hb).2.2.1 q, .inl hb, fun x c e => (f2 b hb).2.2.2.2.1 x c (B.sub x c e), fun p hp z => by
      rcases List.mem_append.mp hp with q | q
      · exact (f2 b hb).2.2.2.2.2 p q z
      · rw [hpl p q] at z; exact hDfp (z ▸ hb)⟩
  have fp0 : ∀ {H' : Hp}, (∀ b ∈ fp, H' b = none) → ∀ b ∈ fp, FpOk X pins H' b := fun hn b hb => ⟨hn b hb, (f2 b hb).2⟩
  -- the end
  have fin : ∀ {τ : L2.St} {H' : Hp} {s' : Shared} {acc : List V} {its : List Value} {n : Nat} {h'' : Heap}, Inv (Mi.blk X scope cl Nb s₂ H2 C fp (X.pn ++ pins)) [] τ H' s' → H' D = none → s'.heap.get? D = some { cls := .type "list", data := .seq its.toArray n } → Vals acc its → acc.length ≤ sizeLine → Heap.SameBut C s'.heap h'' →
      (∀ D, H' D = none → Q (.ref D) (upd H' D (.lst acc))) → EP X pins σ Q (.ref D) { s' with heap := h'' } := by
    intro τ H' s' acc its n h'' Ib hDH hDo r hz sb q
    have Ie : Inv X pins σ H' s' := I2.call' (ch := fp) (Ib.os) Ib.base Ib.hok Ib.bare fun b hb => ⟨(f2 b hb).2.2.2.1, (f2 b hb).2.1, (f2 b hb).2.2.2.2.1, (f2 b hb).2.2.2.2.2⟩
    have hsz : X.s₀.heap.objs.size ≤ s₂.heap.objs.size := I2.sz
    have It : Inv X pins σ (upd H' D (.lst acc)) s' := Inv.track Ie hDH (Nat.le_trans hsz hDle) (fun z => Nat.lt_irrefl _ (Nat.lt_of_lt_of_le (z ▸ I2.lt : D < s₂.heap.objs.size) hDle)) (fun x c e z => by
      obtain ⟨v, o, h3, _⟩ := I2.cell x c e
      exact sz h3 hDle z) dpin ⟨hz, its, n, r, hDo⟩
    have Iu : Inv X pins σ (upd H' D (.lst acc)) { s' with heap := h'' } := It.turned (t' := s'.toks) (it := C) (fun b o hb e => sb.extBut b o hb e) (by rw [upd_ne (Ne.symm hDC)]; exact Ib.free) (fun z => Nat.lt_irrefl _ (Nat.lt_of_lt_of_le (z ▸ I2.lt : C < s₂.heap.objs.size) hCle2)) (.inr (Nat.le_trans hsz hCle2)) (fun x c e z => by
      obtain ⟨v, o, h3, _⟩ := I2.cell x c e
      exact sz h3 hCle2 z) cpin
    exact ⟨.ref D, _, Iu, rfl, q D hDH⟩
  have loop : ∀ s₃ : Shared, s₃ = { s₂ with heap := h₁, toks := s₂.toks + ([] : List (Str × Value)).length } →
      codeAny (model X.prog X.w) X.A (.compLoop (.ListComp elt [⟨tg, iter, ifs, 0⟩] scope pos) 0 (.ref it) (.ref D) (compEnvC scope cl C X.env))
        (compPost (model X.prog X.w) X.A X.xe none (EP X pins σ Q) (.ref D) C) s₃ := by
    rintro s₃ rfl
    refine compLoop_go (fun n s' => ∃ i τ H' acc its k, Inv (Mi.blk X scope cl Nb s₂ H2 C fp (X.pn ++ pins)) [] τ H' s' ∧ tn i s'.heap ∧ (∀ b ∈ fp, H' b = none) ∧ H' D = none ∧ s'.heap.get? D = some { cls := .type "list", data := .seq (its : List Value).toArray k } ∧ Vals acc its ∧ acc.length ≤ sizeLine ∧ W i n acc τ H') ?_ m0
      ⟨0, capSt cp σ, H2, [], [], _, I3, T.keep _ _ _ st2 (fun b hb o e => old b o e), fun b hb => (f2 b hb).1, I2.hok.fresh hDle, hacc, .nil, Nat.zero_le _, w0⟩
    rintro n s3 ⟨i, τ, H3, acc, its, k, Ib, st3, fr3, hDH, hDo, r3, hz3, w3⟩
    have pinD : ∀ {τ' : L2.St} {H' : Hp} {s' : Shared}, Inv (Mi.blk X scope cl Nb s₂ H2 C fp (X.pn ++ pins)) [] τ' H' s' → H' D = none → s'.heap.get? D = some { cls := .type "list", data := .seq its.toArray k } →
        Inv (Mi.blk X scope cl Nb s₂ H2 C fp (X.pn ++ pins)) [(D, { cls := .type "list", data := .seq its.toArray k })] τ' H' s' := fun {τ' H' s'} I' hn ho => I'.pins_of fun p hp => by
      rw [List.mem_singleton] at hp; subst hp
      exact ⟨ho, hn, hDC, dfs, by intro v; simp⟩
    have IbD := pinD Ib hDH hDo
    have onlyD : ∀ p ∈ [(D, ({ cls := .type "list", data := .seq its.toArray k } : Obj))], p.1 = D := fun p hp => by rw [List.mem_singleton] at hp; subst hp; rfl
    have ofD : ∀ {τ' : L2.St} {H' : Hp} {s' : Shared}, Inv (Mi.blk X scope cl Nb s₂ H2 C fp (X.pn ++ pins)) [(D, { cls := .type "list", data := .seq its.toArray k })] τ' H' s' → s'.heap.get? D = some { cls := .type "list", data := .seq its.toArray k } ∧ H' D = none := fun I' => by
      obtain ⟨a, b, _⟩ := I'.pin (D, _) (List.mem_append_right _ (List.mem_singleton.mpr rfl))
      exact ⟨a, b⟩
    rcases turn i n acc τ H3 w3 with ⟨stop, qn⟩ | ⟨go, step⟩
    · refine wpAny_mono (T.done (Mi.blk X scope cl Nb s₂ H2 C fp (X.pn ++ pins)) rfl rfl rfl hc i _ s3 τ H3 (fun _ _ => False) IbD (fpst fr3 onlyD) st3 stop) (fun r s4 ⟨hr, I4⟩ => ?_) fun _ _ z => z.elim
      subst hr
      obtain ⟨o4, n4⟩ := ofD I4
      obtain ⟨m4, ns4, _⟩ := I4.loc
      have I4' : Inv (Mi.blk X scope cl Nb s₂ H2 C fp (X.pn ++ pins)) [] τ H3 s4 := I4.pins_of fun p hp => by cases hp
      exact ⟨m4, ns4, fun h'' sb => fin I4' n4 o4 r3 hz3 sb qn⟩
    · refine wpAny_mono (T.item (Mi.blk X scope cl Nb s₂ H2 C fp (X.pn ++ pins)) rfl rfl rfl hc i _ s3 τ H3 (fun _ _ => False) IbD (fpst fr3 onlyD) st3 go) (fun r s4 ⟨u, hr, h4⟩ => ?_) fun _ _ z => z.elim
      subst hr
      refine wpAny_mono h4 (fun _ s5 ⟨x, H5, I5, r5, y5, st5, fr5⟩ => ?_) fun _ _ z => z.elim
      have I5' := I5.pinned (fpst fr5 onlyD) (T.obj _ _ st5)
      refine wpAny_mono (hg s₂ H2 C fp (X.pn ++ pins) _ s5 τ H5 x u _ I5' r5 (step x H5 y5)) (fun _ s6 ⟨τ6, H6, I6, q6⟩ => ?_) fun _ _ z => z.elim
      refine wpAny_mono (ht s₂ H2 C fp (X.pn ++ pins) _ s6 τ6 H6 _ I6 q6) (fun ok s7 ⟨H7, I7, q7⟩ => ?_) fun _ _ z => z.elim
      have keepT : ∀ {τ' : L2.St} {H' : Hp} {s' : Shared}, Inv (Mi.blk X scope cl Nb s₂ H2 C fp (X.pn ++ pins)) ([(D, { cls := .type "list", data := .seq its.toArray k })] ++ pinsAt fp s5.heap) τ' H' s' → tn (i + 1) s'.heap ∧ (∀ b ∈ fp, H' b = none) ∧ s'.heap.get? D = some { cls := .type "list", data := .seq its.toArray k } ∧ H' D = none := fun {τ' H' s'} I' => by
        refine ⟨T.keep _ _ _ st5 fun b hb o e => (I'.pin (b, o) (List.mem_append_right _ (List.mem_append_right _ (mem_pinsAt hb e)))).1, fun b hb => ?_, ?_⟩
        · obtain ⟨o, e, d⟩ := T.obj _ _ st5 b hb
          exact (I'.pin (b, o) (List.mem_append_right _ (List.mem_append_right _ (mem_pinsAt hb e)))).2.1
        · obtain ⟨a, b, _⟩ := I'.pin (D, { cls := .type "list", data := .seq its.toArray k }) (List.mem_append_right _ (List.mem_append_left _ (List.mem_singleton.mpr rfl)))
          exact ⟨a, b⟩
      cases ok with
      | false =>
        rw [if_neg Bool.false_ne_true] at q7 ⊢
        obtain ⟨m', hm, w7⟩ := q7
        obtain ⟨t7, f7, o7, n7⟩ := keepT I7
        exact ⟨m', hm, i + 1, τ6, H7, acc, its, k, I7.pins_of (fun p hp => by cases hp), t7, f7, n7, o7, r3, hz3, w7⟩
      | true =>
        rw [if_pos rfl] at q7 ⊢
        refine wpAny_mono (he s₂ H2 C fp (X.pn ++ pins) _ s7 τ6 H7 _ I7 q7) (fun y s8 ⟨v8, H8, I8, r8, hlt, m', hm, w8⟩ => ?_) fun _ _ z => z.elim
        obtain ⟨t8, f8, o8, n8⟩ := keepT I8
        have hlen := r3.length
        refine call_meets F.slot_list_append ⟨_, o8, rfl⟩ F.entry_list_append (F.args_list_append_2 _ _) (PySem.list_append D its.toArray k y (by rw [List.size_toArray]; omega)) ⟨o8, ?_⟩
        have q := PySem.IsL.update o8 (·.push y)
        have hf : its.toArray.push y = (its ++ [y]).toArray := by simp
        rw [hf] at q
        have I8' : Inv (Mi.blk X scope cl Nb s₂ H2 C fp (X.pn ++ pins)) [] τ6 H8 s8 := I8.pins_of fun p hp => by cases hp
        have I9 : Inv (Mi.blk X scope cl Nb s₂ H2 C fp (X.pn ++ pins)) [] τ6 H8 { s8 with heap := s8.heap.update D (Obj.mapSeq (·.push y)), toks := s8.toks } :=
          I8'.turned (it := D) (fun b o hb e => (Heap.get?_update_other s8.heap (Obj.mapSeq (·.push y)) (Ne.symm hb)).trans e) n8 hDC (.inr hDle) (fun x c e => dcell x c e) fun p hp => by
            rw [List.append_nil] at hp; exact dpin p hp
        refine ⟨m', hm, i + 1, τ6, H8, acc ++ [v8], its ++ [y], _, I9, T.keep _ _ _ t8 (fun b hb o e => (Heap.get?_update_other s8.heap (Obj.mapSeq (·.push y)) (fun (z : D = b) => hDfp (z ▸ hb))).trans e), f8, n8, q, r3.append (.cons r8 .nil), by rw [List.length_append, List.length_singleton]; omega, w8⟩
  exact codeAny_compStart_list (loop _ rfl) (T.self _ 0 _ _ _ (T.keep _ _ _ st2 (fun b hb o e => old b o e)) (loop _ rfl))
end
end Mi

namespace Mi
open PySem PySem.Spec PyProof.Rows L2

/-! ### what is walked, by values -/
def IterR (X : Cx) (tg : Expr) (r : V → Hp → (It → Hp → Prop) → Prop) : Prop :=
  ∀ (pins : List (Addr × Obj)) (s : Shared) (σ : L2.St) (H : Hp) (x : V) (v : Value) (C : It → Hp → Prop), Inv X pins σ H s → RelV x v → r x H C → wpAny (model X.prog X.w) X.A (pyIter v) (PIE X pins σ tg C) X.xe s
section
variable {X : Cx} {tg : Expr}
theorem IterR.or {r r' : V → Hp → (It → Hp → Prop) → Prop} (h : IterR X tg r) (h' : IterR X tg r') : IterR X tg (fun x H C => r x H C ∨ r' x H C) := fun pins s σ H x v C I rx q => by
  rcases q with q | q
  · exact h pins s σ H x v C I rx q
  · exact h' pins s σ H x v C I rx q
theorem it_list : IterR X tg (fun x H C => ∃ a, x = .ref a ∧ (∃ xs, SqL X.K H a xs) ∧ C (Itl X.K a) H) := by
  intro pins s1 σ H1 x v C I1 r1 q1
  obtain ⟨a, e, ⟨xs, hq⟩, q⟩ := q1
  subst e
  cases r1
  obtain ⟨its, rv, p, hz⟩ := I1.list hq
  refine wpAny_pyIter_list p.isList ?_
  refine ⟨s1.heap.objs.size, [s1.heap.objs.size], _, _, H1, rfl, I1.kept (t' := s1.toks) fun b o e => Heap.get?_push_of_some _ e, turn_list a _, ⟨_, Heap.get?_push_size _ rfl, rfl, rfl⟩, fun b hb => ?_, q⟩
  have e : b = s1.heap.objs.size := by simpa using hb
  subst e
  exact I1.fpOk (Nat.le_refl _) (I1.hok.fresh (Nat.le_refl _))
theorem it_tup : IterR X tg (fun x H C => ∃ a, x = .ref a ∧ (∃ xs, SqT X.K H a xs) ∧ C (Itt X.K a) H) := by
  intro pins s1 σ H1 x v C I1 r1 q1
  obtain ⟨a, e, ⟨xs, hq⟩, q⟩ := q1
  subst e
  cases r1
  obtain ⟨its, rv, p, hz⟩ := I1.tuple hq
  refine wpAny_pyIter_tuple (show s1.heap.IsTuple a its.toArray from p) ?_
  refine ⟨s1.heap.objs.size, [s1.heap.objs.size], _, _, H1, rfl, I1.kept (t' := s1.toks) fun b o e => Heap.get?_push_of_some _ e, turn_tuple a _, ⟨_, Heap.get?_push_size _ rfl, rfl, rfl⟩, fun b hb => ?_, q⟩
  have e : b = s1.heap.objs.size := by simpa using hb
  subst e
  exact I1.fpOk (Nat.le_refl _) (I1.hok.fresh (Nat.le_refl _))
/-- the signs of a text -/
def Its (x : Str) : It := ⟨fun i _ => i < x.cps.size, fun i H v H' => H' = H ∧ ∃ c, x.cps[i]? = some c ∧ v = .str ⟨#[c]⟩, fun i _ => x.cps.size ≤ i⟩
def signsW (x : Str) : List W := x.cps.toList.map fun c => .str ⟨#[c]⟩
theorem turn_str {P : Program} {w : World} {K : PySem.W.Frag} {tg : Expr} (it : Addr) (x : Str) (ty : String) (t : Tok) (hty : ty = "str_ascii_iterator" ∨ ty = "str_iterator") :
    Turn P w K tg (Its x) [it] it (fun i h => i ≤ x.cps.size ∧ h.IsStrIter it ty x t i) where
  mem := by simp
  obj := fun i h st b hb => by
    have e : b = it := by simpa using hb
    subst e
    obtain ⟨_, o, e, c, d⟩ := st
    exact ⟨o, e, fun v z => by rw [d] at z; cases z⟩
  keep := fun i h h' st k => ⟨st.1, let ⟨o, ho, r⟩ := st.2; ⟨o, k it (by simp) o ho, r⟩⟩
  item := by
    intro X hP hw hK hc i pins s σ H E I hf st hg
    subst hP hw hK
    obtain ⟨hi, st⟩ := st
    obtain ⟨f0, f1, f2, f3, f4, f5⟩ := hf it (by simp)
    have hg' : i < x.cps.size := hg
    have hx : x.cps[i]? = some (x.cps[i]'hg') := Array.getElem?_eq_getElem hg'
    have fin : ∀ h' : Heap, h'.IsStrIter it ty x t (i + 1) → Heap.SameBut it s.heap h' → ∃ u, some (Value.str ⟨#[x.cps[i]'hg']⟩ s.toks) = some u ∧ wpAny (model X.prog X.w) X.A (letOwnedTupleGo tg (.ref it) u) (fun _ s2 => ∃ y H', Inv X pins σ H' s2 ∧ RelV y u ∧ (Its x).yld i H y H' ∧ (i + 1 ≤ x.cps.size ∧ s2.heap.IsStrIter it ty x t (i + 1)) ∧ ∀ b ∈ [it], H' b = none) E { s with heap := h', toks := s.toks + 1 } := fun h' st' sb => by
      have I1 : Inv X pins σ H { s with heap := h', toks := s.toks + 1 } := I.turned (fun b o hb e => (sb.2 b hb).trans e) f0 f1 f3 f4 f5
      obtain ⟨o, e, c, d⟩ := id st'
      refine ⟨_, rfl, go_of (s := { s with heap := h', toks := s.toks + 1 }) e c d (by rcases hty with z | z <;> rw [z] <;> decide) ⟨.str ⟨#[x.cps[i]'hg']⟩, H, I1, ⟨_, rfl⟩, ⟨rfl, _, hx, rfl⟩, ⟨hg, st'⟩, fun b hb => (hf b hb).1⟩⟩
    rcases hty with z | z
    · subst z
      exact wpAny_pyNext_ascii_item st hx fin
    · subst z
      exact wpAny_pyNext_wide_item st hx fin
  done := by
    intro X hP hw hK hc i pins s σ H E I hf st hg
    subst hP hw hK
    obtain ⟨hi, st⟩ := st
    obtain ⟨f0, f1, f2, f3, f4, f5⟩ := hf it (by simp)
    have hx : x.cps[i]? = none := by have : x.cps.size ≤ i := hg; simp; omega
    rcases hty with z | z
    · subst z
      exact wpAny_pyNext_ascii_end (I.ok.hd hc) st hx fun h' eb => ⟨rfl, I.turned (t' := s.toks) (fun b o hb e => eb b o hb e) f0 f1 f3 f4 f5⟩
    · subst z
      exact wpAny_pyNext_wide_end (I.ok.hd hc) st hx fun h' eb => ⟨rfl, I.turned (t' := s.toks) (fun b o hb e => eb b o hb e) f0 f1 f3 f4 f5⟩
  self := fun _ _ _ _ _ st h => by
    rcases hty with z | z
    · subst z; exact wpAny_pyIter_striter_ascii st.2 h
    · subst z; exact wpAny_pyIter_striter_wide st.2 h
theorem it_str : IterR X tg (fun x H C => ∃ y, x = .str y ∧ C (Its y) H) := by
  intro pins s1 σ H1 x v C I1 r1 q1
  obtain ⟨y, rfl, q⟩ := q1
  obtain ⟨t, rfl⟩ := r1
  have fin : ∀ ty, (ty = "str_ascii_iterator" ∨ ty = "str_iterator") → PIE X pins σ tg C (.ref s1.heap.objs.size) { s1 with heap := s1.heap.push { cls := .type ty, data := .fields #[.str y t, .int 0 0] } } := fun ty hty => by
    refine ⟨s1.heap.objs.size, [s1.heap.objs.size], _, _, H1, rfl, I1.kept (t' := s1.toks) fun b o e => Heap.get?_push_of_some _ e, turn_str _ y ty t hty, ⟨Nat.zero_le _, _, Heap.get?_push_size _ rfl, rfl, rfl⟩, fun b hb => ?_, q⟩
    have e : b = s1.heap.objs.size := by simpa using hb
    subst e
    exact I1.fpOk (Nat.le_refl _) (I1.hok.fresh (Nat.le_refl _))
  cases ha : y.cps.all (· < 128)
  · exact wpAny_pyIter_wide ha (fin _ (.inr rfl))
  · exact wpAny_pyIter_ascii ha (fin _ (.inl rfl))
end
/-- what a loop takes of a value -/
def itemsW (h : MH) : W → Option (List W × Option Nat)
  | .tup ws => some (ws, none)
  | .lst ws => some (ws, none)
  | .frz ws => some (ws, none)
  | .str x => some (signsW x, none)
  | .ref n => match h[n]? with | some (.lst ws) => some (ws, some n) | _ => none
  | _ => none
def miVal (m : ME) : MI := fun σ h => (m σ h).bind fun p => (itemsW p.2 p.1).map fun q => (q.1, q.2, p.2)
section
variable {K : PySem.W.Frag} {R : Rn}
theorem itok_list {a : Addr} {xs : List V} {ws : List W} (hq : SqL K R.F a xs) (r : Rws K R ws xs) : ItOk K R (Itl K a) ws none where
  go := fun i w R' h H x rh _ e => by
    obtain ⟨v, h1, _⟩ := r.get e
    exact ⟨xs, v, sqL_mono (fun b o z => rh.sub b o (x.f b o z)) hq, h1⟩
  yld := fun i w R' h H x H' e rh _ ew hy => by
    obtain ⟨rfl, hx⟩ := hy
    obtain ⟨v, h1, h2⟩ := r.get ew
    have := hx xs (sqL_mono (fun b o z => rh.sub b o (e.f b o z)) hq)
    rw [h1] at this; cases this
    exact ⟨R', Ext.refl _, rh, Rw.mono e _ _ h2⟩
  stop := fun i R' h H x rh _ hl => ⟨xs, sqL_mono (fun b o z => rh.sub b o (x.f b o z)) hq, by rw [← r.length]; exact hl⟩
theorem itok_tup {a : Addr} {xs : List V} {ws : List W} (hq : SqT K R.F a xs) (r : Rws K R ws xs) : ItOk K R (Itt K a) ws none where
  go := fun i w R' h H x rh _ e => by
    obtain ⟨v, h1, _⟩ := r.get e
    exact ⟨xs, v, sqT_mono (fun b o z => rh.sub b o (x.f b o z)) hq, h1⟩
  yld := fun i w R' h H x H' e rh _ ew hy => by
    obtain ⟨rfl, hx⟩ := hy
    obtain ⟨v, h1, h2⟩ := r.get ew
    have := hx xs (sqT_mono (fun b o z => rh.sub b o (e.f b o z)) hq)
    rw [h1] at this; cases this
    exact ⟨R', Ext.refl _, rh, Rw.mono e _ _ h2⟩
  stop := fun i R' h H x rh _ hl => ⟨xs, sqT_mono (fun b o z => rh.sub b o (x.f b o z)) hq, by rw [← r.length]; exact hl⟩
theorem itok_ref {n : Nat} {ws : List W} (hn : n < R.N) : ItOk K R (Itl K (R.ρ n)) ws (some n) where
  go := fun i w R' h H x rh hl e => by
    obtain ⟨xs, h1, h2⟩ := rh.obj n _ (hl n rfl)
    obtain ⟨v, h3, _⟩ := h2.get e
    rw [x.ρ n hn] at h1
    exact ⟨xs, v, SqL.of h1, h3⟩
  yld := fun i w R' h H x H' e rh hl ew hy => by
    obtain ⟨rfl, hx⟩ := hy
    obtain ⟨xs, h1, h2⟩ := rh.obj n _ (hl n rfl)
    obtain ⟨v, h3, h4⟩ := h2.get ew
    rw [e.ρ n hn] at h1
    have := hx xs (SqL.of h1)
    rw [h3] at this; cases this
    exact ⟨R', Ext.refl _, rh, h4⟩
  stop := fun i R' h H x rh hl hle => by
    obtain ⟨xs, h1, h2⟩ := rh.obj n _ (hl n rfl)
    rw [x.ρ n hn] at h1
    exact ⟨xs, SqL.of h1, by rw [← h2.length]; exact hle⟩
theorem itok_str {x : Str} : ItOk K R (Its x) (signsW x) none where
  go := fun i w R' h H _ _ _ e => by
    have := (List.getElem?_eq_some_iff.mp e).1
    show i < x.cps.size
    simpa [signsW] using this
  yld := fun i w R' h H v H' e rh _ ew hy => by
    obtain ⟨rfl, c, hc, rfl⟩ := hy
    unfold signsW at ew
    rw [List.getElem?_map, Array.getElem?_toList, hc] at ew
    cases ew
    exact ⟨R', Ext.refl _, rh, Rw.str _⟩
  stop := fun i R' h H _ _ _ hl => by
    show x.cps.size ≤ i
    simpa [signsW] using hl
theorem itok_range {lo : Int} {n : Nat} : ItOk K R (Itr lo n) ((List.range n).map fun (i : Nat) => W.int (lo + (i : Int))) none where
  go := fun i w R' h H _ _ _ e => by
    have := (List.getElem?_eq_some_iff.mp e).1
    show i < n
    simpa using this
  yld := fun i w R' h H v H' e rh _ ew hy => by
    obtain ⟨rfl, rfl⟩ := hy
    rw [List.getElem?_map] at ew
    obtain ⟨j, hj, e2⟩ := Option.map_eq_some_iff.mp ew
    rw [List.getElem?_range (by have := (List.getElem?_eq_some_iff.mp hj).1; simpa using this)] at hj
    cases hj
    cases e2
    exact ⟨R', Ext.refl _, rh, Rw.int _⟩
  stop := fun i R' h H _ _ _ hl => by
    show n ≤ i
    simpa using hl
end
section
variable {X : Cx} {tg a b c : Expr} {ma : ME} {ms : MA} {pos p : Pos}
theorem pmi_val (ha : PM X a ma) : PMI X tg a (miVal ma) := by
  intro pins s σ H C I q
  obtain ⟨R, σi, h, items, src, h', rh, st, e, k⟩ := q
  obtain ⟨⟨w, h1⟩, e1, e2⟩ := Option.bind_eq_some_iff.mp e
  obtain ⟨⟨its, sr⟩, e3, e4⟩ := Option.map_eq_some_iff.mp e2
  cases e4
  refine thn (ha pins s σ H _ I ⟨R, σi, h, w, h1, rh, st, e1, fun R1 H1 v x1 rh1 rv => ?_⟩) fun v s1 ⟨x, H1, I1, r1, q1⟩ => ((it_list.or it_tup).or it_str) pins s1 σ H1 x v C I1 r1 q1
  cases w with
  | tup ws =>
    cases e3
    obtain ⟨ad, xs, rfl, h2, h3⟩ := rh1.tupAt rv
    unfold Rw at rv
    obtain ⟨ad', xs', e5, e6, e7⟩ := rv
    cases e5
    exact .inl (.inr ⟨_, rfl, ⟨xs, h2⟩, k R1 H1 _ x1 rh1 (itok_tup e6 e7)⟩)
  | lst ws =>
    cases e3
    unfold Rw at rv
    obtain ⟨ad', xs', rfl, e6, e7⟩ := rv
    exact .inl (.inl ⟨_, rfl, ⟨xs', SqL.of (rh1.sub _ _ e6)⟩, k R1 H1 _ x1 rh1 (itok_list (SqL.of e6) e7)⟩)
  | frz ws =>
    cases e3
    unfold Rw at rv
    obtain ⟨ad', xs', rfl, e6, e7⟩ := rv
    exact .inl (.inl ⟨_, rfl, ⟨xs', sqL_mono rh1.sub e6⟩, k R1 H1 _ x1 rh1 (itok_list e6 e7)⟩)
  | str y =>
    cases e3
    rw [rv.str_eq]
    exact .inr ⟨y, rfl, k R1 H1 _ x1 rh1 itok_str⟩
  | ref n =>
    simp only [itemsW] at e3
    split at e3
    · rename_i ws hn
      cases e3
      obtain ⟨hlt, rfl, xs, h2, h3⟩ := rh1.refAt rv hn
      exact .inl (.inl ⟨_, rfl, ⟨xs, SqL.of h2⟩, k R1 H1 _ x1 rh1 (itok_ref hlt)⟩)
    · cases e3
  | _ => cases e3
def rangeW (lo : Int) (n : Nat) : List W := (List.range n).map fun (i : Nat) => W.int (lo + (i : Int))
def miR1 (ms : MA) : MI := fun σ h => (ms σ h).bind fun p => match p.1 with
  | [.int j] => if -(2 ^ 62) ≤ j ∧ j < 2 ^ 62 then some (rangeW 0 j.toNat, none, p.2) else none
  | _ => none
def miR2 (ms : MA) : MI := fun σ h => (ms σ h).bind fun p => match p.1 with
  | [.int i, .int j] => if -(2 ^ 62) ≤ i ∧ i < 2 ^ 62 ∧ -(2 ^ 62) ≤ j ∧ j < 2 ^ 62 then some (rangeW i (j - i).toNat, none, p.2) else none
  | _ => none
theorem pmi_r1 (hg : Gl X "range") (hm : X.mg "range" = none) (ha : PMA X [a] ms) (hs : starEach [a] X.env = [(false, eval a X.env)] := by rfl) : PMI X tg (.Call (.Name "range" p) [a] [] pos) (miR1 ms) :=
  pi_imp (pi_range1 hg hm ha hs) fun σ H C ⟨R, σi, h, items, src, h', rh, st, e, k⟩ => by
    obtain ⟨⟨ws, h1⟩, e1, e2⟩ := Option.bind_eq_some_iff.mp e
    refine ⟨R, σi, h, ws, h1, rh, st, e1, fun R1 H1 vs x1 rh1 rv => ?_⟩
    split at e2
    · rename_i j hj
      simp only at hj
      subst hj
      split at e2
      · rename_i hb
        cases e2
        rw [Rws.cons_iff] at rv
        obtain ⟨v, vs', rfl, r1, r2⟩ := rv
        rw [Rws.nil_iff] at r2
        subst r2
        rw [r1.int_eq]
        exact ⟨j, rfl, hb.1, hb.2, k R1 H1 _ x1 rh1 itok_range⟩
      · cases e2
    · cases e2
theorem pmi_r2 (hg : Gl X "range") (hm : X.mg "range" = none) (ha : PMA X [a, b] ms) (hs : starEach [a, b] X.env = [(false, eval a X.env), (false, eval b X.env)] := by rfl) (hs2 : starEach [b] X.env = [(false, eval b X.env)] := by rfl) : PMI X tg (.Call (.Name "range" p) [a, b] [] pos) (miR2 ms) :=
  pi_imp (pi_range2 hg hm ha hs hs2) fun σ H C ⟨R, σi, h, items, src, h', rh, st, e, k⟩ => by
    obtain ⟨⟨ws, h1⟩, e1, e2⟩ := Option.bind_eq_some_iff.mp e
    refine ⟨R, σi, h, ws, h1, rh, st, e1, fun R1 H1 vs x1 rh1 rv => ?_⟩
    split at e2
    · rename_i i j hj
      simp only at hj
      subst hj
      split at e2
      · rename_i hb
        cases e2
        rw [Rws.cons_iff] at rv
        obtain ⟨v, vs', rfl, r1, r2⟩ := rv
        rw [Rws.cons_iff] at r2
        obtain ⟨v2, vs2, rfl, r3, r4⟩ := r2
        rw [Rws.nil_iff] at r4
        subst r4
        rw [r1.int_eq, r3.int_eq]
        exact ⟨i, j, rfl, hb, k R1 H1 _ x1 rh1 itok_range⟩
      · cases e2
    · cases e2
end
/-! ### comprehensions -/
def capM (cp : List (Option Nat)) (σ : MSt) : MSt := cp.map fun o => match o with | none => none | some j => match σ[j]? with | some v => v | none => none
theorem Rst.cap {K : PySem.W.Frag} {R : Rn} {σi : MSt} {σ : L2.St} (s : Rst K R σi σ) (cp : List (Option Nat)) : Rst K R (capM cp σi) (capSt cp σ) := by
  unfold capM capSt
  refine ⟨by simp, fun i w e => ?_⟩
  rw [List.getElem?_map] at e ⊢
  obtain ⟨o, h1, h2⟩ := Option.map_eq_some_iff.mp e
  rw [h1]
  cases o with
  | none => cases h2
  | some j =>
    simp only at h2
    split at h2
    · rename_i u hu
      subst h2
      obtain ⟨v, h3, h4⟩ := s.2 j w hu
      exact ⟨v, by simp [h3], h4⟩
    · cases h2
open Classical in
/-- the turns that are left; fin: what becomes of the list -/
noncomputable def mCompL (fin : List W → MH → Option (W × MH)) (items : List W) (src : Option Nat) (b : MG) (mt : MT) (me : ME) : List W → List W → MSt → MH → Option (W × MH)
  | [], acc, _, h => if live src items h then fin acc h else none
  | w :: r, acc, τ, h => if live src items h then (b w τ h).bind fun τ1 => (mt τ1 h).bind fun q => match q.1 with
      | true => (me τ1 q.2).bind fun v => if acc.length < sizeLine then mCompL fin items src b mt me r (acc ++ [v.1]) τ1 v.2 else none
      | false => mCompL fin items src b mt me r acc τ1 q.2
    else none
noncomputable def mComp (fin : List W → MH → Option (W × MH)) (mi : MI) (cp : List (Option Nat)) (b : MG) (mt : MT) (me : ME) : ME := fun σ h => (mi σ h).bind fun p => mCompL fin p.1 p.2.1 b mt me p.1 [] (capM cp σ) p.2.2
def mYes : MT := fun _ h => some (true, h)
/-- the list stays by what is in it; it is a new thing -/
def fLst (acc : List W) (h : MH) : Option (W × MH) := some (.lst acc, h)
def fNew (acc : List W) (h : MH) : Option (W × MH) := some (.ref h.length, h ++ [.lst acc])
def FinOk (K : PySem.W.Frag) (fin : List W → MH → Option (W × MH)) : Prop := ∀ R h H acc accV w h' D, Rh K R h H → Rws K R acc accV → fin acc h = some (w, h') → H D = none → ∃ R', Ext R R' ∧ Rh K R' h' (upd H D (.lst accV)) ∧ Rw K R' w (.ref D)
theorem fin_lst {K : PySem.W.Frag} : FinOk K fLst := fun R h H acc accV w h' D rh r e hD => by
  cases e
  exact rh.lstI hD r
theorem fin_new {K : PySem.W.Frag} : FinOk K fNew := fun R h H acc accV w h' D rh r e hD => by
  cases e
  exact rh.new hD fun R' x' => ⟨accV, rfl, Rws.mono x' _ _ r⟩
section
variable {X : Cx} {elt tg iter c : Expr} {scope : Scope} {pos : Pos} {cl : List (Str × Addr)} {Nb : List Str} {cp : List (Option Nat)} {mi : MI} {b : MG} {mt : MT} {me : ME} {fin : List W → MH → Option (W × MH)}
theorem comp_of {K : PySem.W.Frag} (hf : FinOk K fin) {σ : L2.St} {H : Hp} {Q : VK} (q : tI K (mComp fin mi cp b mt me) σ H Q) : tComp (tII K mi) cp (tIG K b) (tIT K mt) (tI K me) σ H Q := by
  obtain ⟨R, σi, h, w, h', rh, s, e, k⟩ := q
  obtain ⟨⟨items, src, h1⟩, e1, e2⟩ := Option.bind_eq_some_iff.mp e
  refine ⟨R, σi, h, items, src, h1, rh, s, e1, fun R1 H1 J x1 rh1 it => ?_⟩
  refine ⟨fun i n acc τ H => i + n = items.length ∧ ∃ R2 σ2 h2 accW, Ext R1 R2 ∧ Rh K R2 h2 H ∧ Rst K R2 σ2 τ ∧ Rws K R2 accW acc ∧ mCompL fin items src b mt me (items.drop i) accW σ2 h2 = some (w, h') ∧ After K R2 w h' Q, ⟨items.length, by simp, R1, capM cp σi, h1, [], Ext.refl _, rh1, (s.mono x1).cap cp, Rws.nil, by simpa using e2, k.ext x1⟩, ?_⟩
  rintro i n acc τ H2 ⟨hin, R2, σ2, h2, accW, x2, rh2, s2, ra, e3, k2⟩
  by_cases hi : i < items.length
  · obtain ⟨y, hy⟩ : ∃ y, items[i]? = some y := ⟨items[i], List.getElem?_eq_getElem hi⟩
    have hd : items.drop i = y :: items.drop (i + 1) := by
      rw [List.drop_eq_getElem_cons hi]
      rw [List.getElem?_eq_getElem hi] at hy
      cases hy; rfl
    rw [hd] at e3
    unfold mCompL at e3
    split at e3
    · rename_i hl
      obtain ⟨σ3, e4, e5⟩ := Option.bind_eq_some_iff.mp e3
      obtain ⟨⟨t, h3⟩, e6, e7⟩ := Option.bind_eq_some_iff.mp e5
      refine .inr ⟨it.go i y R2 h2 H2 x2 rh2 hl hy, fun x H' hyl => ?_⟩
      obtain ⟨R3, x3, rh3, rw3⟩ := it.yld i y R2 h2 H2 x H' x2 rh2 hl hy hyl
      refine ⟨R3, σ2, h2, y, σ3, rh3, s2.mono x3, rw3, e4, fun R4 H4 τ4 x4 rh4 s4 => ?_⟩
      refine ⟨R4, σ3, h2, t, h3, rh4, s4, e6, fun R5 H5 x5 rh5 => ?_⟩
      cases t with
      | true =>
        obtain ⟨⟨v, h4⟩, e8, e9⟩ := Option.bind_eq_some_iff.mp e7
        dsimp only at e9
        split at e9
        · rename_i hz
          refine iteT ⟨R5, σ3, h3, v, h4, rh5, s4.mono x5, e8, fun R6 H6 u x6 rh6 rv => ⟨by rw [← ra.length]; exact hz, n - 1, by omega, by omega, R6, σ3, h4, accW ++ [v], x2.trans (x3.trans (x4.trans (x5.trans x6))), rh6, s4.mono (x5.trans x6), ?_, e9, k2.ext (x3.trans (x4.trans (x5.trans x6)))⟩⟩
          exact Rws.append (Rws.mono (x3.trans (x4.trans (x5.trans x6))) _ _ ra) (Rws.cons rv Rws.nil)
        · cases e9
      | false =>
        exact iteF ⟨n - 1, by omega, by omega, R5, σ3, h3, accW, x2.trans (x3.trans (x4.trans x5)), rh5, s4.mono x5, Rws.mono (x3.trans (x4.trans x5)) _ _ ra, e7, k2.ext (x3.trans (x4.trans x5))⟩
    · cases e3
  · have hd : items.drop i = [] := List.drop_eq_nil_of_le (by omega)
    rw [hd] at e3
    unfold mCompL at e3
    split at e3
    · rename_i hl
      refine .inl ⟨it.stop i R2 h2 H2 x2 rh2 hl (by omega), fun D hD => ?_⟩
      obtain ⟨R3, x3, rh3, rw3⟩ := hf R2 h2 H2 accW acc w h' D rh2 ra e3 hD
      exact k2 R3 _ _ x3 rh3 rw3
    · cases e3
theorem pm_comp0 (hf : FinOk X.K fin) (hc : X.calm = true) (B : BlkOk X scope cl Nb cp) (hi : PMI X tg iter mi) (hg : ∀ s₀ H₀ C ex pn, PMG (Mi.blk X scope cl Nb s₀ H₀ C ex pn) tg b)
    (he : ∀ s₀ H₀ C ex pn, PM (Mi.blk X scope cl Nb s₀ H₀ C ex pn) elt me) (hs : ∀ x, foldedSetIterable iter X.env x = pure x := by intro _; rfl) :
    PM X (.ListComp elt [⟨tg, iter, [], 0⟩] scope pos) (mComp fin mi cp b mYes me) :=
  pe_imp (pe_comp (g := tIG X.K b) (te := tI X.K me) (tt := tIT X.K mYes) hc B hi hg (fun s₀ H₀ C ex pn pins s τ H Q I q => wpAny_tests_nil (by
    obtain ⟨R, σi, h, t, h', rh, st, e, k⟩ := q
    cases e
    exact ⟨H, I, k R H (Ext.refl _) rh⟩)) he hs) fun _ _ _ q => comp_of hf q
theorem pm_comp1 (hf : FinOk X.K fin) (hc : X.calm = true) (B : BlkOk X scope cl Nb cp) (hi : PMI X tg iter mi) (hg : ∀ s₀ H₀ C ex pn, PMG (Mi.blk X scope cl Nb s₀ H₀ C ex pn) tg b)
    (ht : ∀ s₀ H₀ C ex pn, PMT (Mi.blk X scope cl Nb s₀ H₀ C ex pn) c mt)
    (he : ∀ s₀ H₀ C ex pn, PM (Mi.blk X scope cl Nb s₀ H₀ C ex pn) elt me) (hs : ∀ x, foldedSetIterable iter X.env x = pure x := by intro _; rfl) :
    PM X (.ListComp elt [⟨tg, iter, [c], 0⟩] scope pos) (mComp fin mi cp b mt me) :=
  pe_imp (pe_comp (g := tIG X.K b) (te := tI X.K me) (tt := tIT X.K mt) hc B hi hg (fun s₀ H₀ C ex pn pins s τ H Q I q => wpAny_tests_one (ht s₀ H₀ C ex pn pins s τ H Q I q)) he hs) fun _ _ _ q => comp_of hf q
end
end Mi

namespace Mi
open PySem PySem.Spec PyProof.Rows L2 PySem.SeqAt

/-! ### == of whatever is in values -/
mutual
def eqW : W → W → Bool
  | .non, .non => true
  | .bl a, .bl b => a == b
  | .bl a, .int b => (if a then 1 else 0) == b
  | .int a, .bl b => a == (if b then 1 else 0)
  | .int a, .int b => a == b
  | .str a, .str b => a == b
  | .tup a, .tup b => eqWs a b
  | .lst a, .lst b => eqWs a b
  | _, _ => false
def eqWs : List W → List W → Bool
  | [], [] => true
  | x :: xs, y :: ys => eqW x y && eqWs xs ys
  | _, _ => false
end
def mapO {α β : Type} (f : α → Option β) : List α → Option (List β)
  | [] => some []
  | x :: xs => (f x).bind fun y => (mapO f xs).map (y :: ·)
/-- the same with all that is within, n within one another -/
def drf (h : MH) : Nat → W → Option W
  | 0, _ => none
  | n + 1, w => match w with
    | .tup ws => (mapO (drf h n) ws).map .tup
    | .lst ws => (mapO (drf h n) ws).map .lst
    | .frz ws => (mapO (drf h n) ws).map .lst
    | .ref k => match h[k]? with | some (.lst ws) => (mapO (drf h n) ws).map .lst | _ => none
    | .ty _ => none
    | .non => some .non
    | .bl b => some (.bl b)
    | .int i => some (.int i)
    | .str x => some (.str x)
theorem mapO_get {α β : Type} {f : α → Option β} : ∀ {xs : List α} {ys : List β}, mapO f xs = some ys → xs.length = ys.length ∧ ∀ (i : Nat) x, xs[i]? = some x → ∃ y, ys[i]? = some y ∧ f x = some y
  | [], ys, e => by cases e; exact ⟨rfl, fun i x h => by simp at h⟩
  | x :: xs, ys, e => by
    obtain ⟨y, h1, h2⟩ := Option.bind_eq_some_iff.mp e
    obtain ⟨zs, h3, h4⟩ := Option.map_eq_some_iff.mp h2
    subst h4
    obtain ⟨l, q⟩ := mapO_get h3
    refine ⟨by simp [l], fun i z hz => ?_⟩
    cases i with
    | zero => simp at hz; subst hz; exact ⟨y, by simp, h1⟩
    | succ i => simp at hz; obtain ⟨u, h5, h6⟩ := q i z hz; exact ⟨u, by simp [h5], h6⟩
theorem eqWs_len : ∀ {a b : List W}, a.length ≠ b.length → eqWs a b = false
  | [], [], h => absurd rfl h
  | [], _ :: _, _ => by unfold eqWs; rfl
  | _ :: _, [], _ => by unfold eqWs; rfl
  | x :: xs, y :: ys, h => by
    unfold eqWs
    rw [eqWs_len (a := xs) (b := ys) (fun z => h (by simp [z])), Bool.and_false]
theorem eqWs_all : ∀ {a b : List W}, a.length = b.length → eqWs a b = (List.range a.length).all fun j => match a[j]?, b[j]? with | some x, some y => eqW x y | _, _ => false
  | [], [], _ => by unfold eqWs; rfl
  | x :: xs, y :: ys, h => by
    have ih := eqWs_all (a := xs) (b := ys) (by simpa using h)
    unfold eqWs
    rw [ih, List.length_cons, List.range_succ_eq_map, List.all_cons, List.all_map]
    simp [Function.comp_def]
/-- a value of the mirror as one of the three kinds -/
inductive Kd (K : PySem.W.Frag) (R : Rn) (h : MH) (H : Hp) (n : Nat) (v : V) : W → Prop where
  | flat {a : W} (f : flatV v = true) (e : (v = .non ∧ a = .non) ∨ (∃ b, v = .bl b ∧ a = .bl b) ∨ (∃ i, v = .int i ∧ a = .int i) ∨ ∃ x, v = .str x ∧ a = .str x) : Kd K R h H n v a
  | lst {ad : Addr} {xs : List V} {ws as : List W} (e : v = .ref ad) (q : SqL K H ad xs) (r : Rws K R ws xs) (m : mapO (drf h n) ws = some as) : Kd K R h H n v (.lst as)
  | tup {ad : Addr} {xs : List V} {ws as : List W} (e : v = .ref ad) (q : SqT K H ad xs) (r : Rws K R ws xs) (m : mapO (drf h n) ws = some as) : Kd K R h H n v (.tup as)
theorem kd_of {K : PySem.W.Frag} {R : Rn} {h : MH} {H : Hp} {n : Nat} {w a : W} {v : V} (rh : Rh K R h H) (r : Rw K R w v) (e : drf h (n + 1) w = some a) : Kd K R h H n v a := by
  cases w with
  | non => rw [r.non_eq]; cases e; exact .flat rfl (.inl ⟨rfl, rfl⟩)
  | bl b => rw [r.bl_eq]; cases e; exact .flat rfl (.inr (.inl ⟨b, rfl, rfl⟩))
  | int i => rw [r.int_eq]; cases e; exact .flat rfl (.inr (.inr (.inl ⟨i, rfl, rfl⟩)))
  | str x => rw [r.str_eq]; cases e; exact .flat rfl (.inr (.inr (.inr ⟨x, rfl, rfl⟩)))
  | tup ws =>
    obtain ⟨ad, xs, e1, q, r1⟩ := rh.tupAt r
    obtain ⟨as, m, e2⟩ := Option.map_eq_some_iff.mp e
    subst e2
    exact .tup e1 q r1 m
  | lst ws =>
    obtain ⟨ad, xs, e1, q, r1⟩ := rh.lstAt r
    obtain ⟨as, m, e2⟩ := Option.map_eq_some_iff.mp e
    subst e2
    exact .lst e1 (SqL.of q) r1 m
  | frz ws =>
    obtain ⟨ad, xs, e1, q, r1⟩ := rh.frzAt r
    obtain ⟨as, m, e2⟩ := Option.map_eq_some_iff.mp e
    subst e2
    exact .lst e1 q r1 m
  | ref k =>
    simp only [drf] at e
    split at e
    · rename_i ws hk
      obtain ⟨as, m, e2⟩ := Option.map_eq_some_iff.mp e
      subst e2
      obtain ⟨_, e1, xs, q, r1⟩ := rh.refAt r hk
      exact .lst e1 (SqL.of q) r1 m
    · cases e
  | ty _ => cases e
section
variable {X : Cx} {pins : List (Addr × Obj)} {σ : L2.St} {H : Hp} {s : Shared} {R : Rn} {h : MH}
theorem mapO_same {K : PySem.W.Frag} {n : Nat} (ih : ∀ w1 w2 v a b, Rw K R w1 v → Rw K R w2 v → drf h n w1 = some a → drf h n w2 = some b → a = b) :
    ∀ {ws1 ws2 : List W} {xs : List V} {a b : List W}, Rws K R ws1 xs → Rws K R ws2 xs → mapO (drf h n) ws1 = some a → mapO (drf h n) ws2 = some b → a = b
  | [], ws2, xs, a, b, r1, r2, m1, m2 => by
    rw [Rws.nil_iff] at r1; subst r1
    cases ws2 with
    | nil => cases m1; cases m2; rfl
    | cons w ws => rw [Rws.cons_iff] at r2; obtain ⟨_, _, z, _⟩ := r2; cases z
  | w :: ws1, ws2, xs, a, b, r1, r2, m1, m2 => by
    rw [Rws.cons_iff] at r1
    obtain ⟨v, xs', rfl, p1, p2⟩ := r1
    cases ws2 with
    | nil => rw [Rws.nil_iff] at r2; cases r2
    | cons w' ws2 =>
      rw [Rws.cons_iff] at r2
      obtain ⟨_, _, z, q1, q2⟩ := r2
      cases z
      obtain ⟨y, h1, h2⟩ := Option.bind_eq_some_iff.mp m1
      obtain ⟨zs, h3, h4⟩ := Option.map_eq_some_iff.mp h2
      obtain ⟨y', h1', h2'⟩ := Option.bind_eq_some_iff.mp m2
      obtain ⟨zs', h3', h4'⟩ := Option.map_eq_some_iff.mp h2'
      subst h4 h4'
      rw [ih w w' v y y' p1 q1 h1 h1', mapO_same ih p2 q2 h3 h3']
theorem list_not_tup (I : Inv X pins σ H s) {a : Addr} {xs ys : List V} (q : SqL X.K H a xs) (q' : SqT X.K H a ys) : False := by
  obtain ⟨its, _, p, _⟩ := I.list q
  obtain ⟨its', _, p', _⟩ := I.tuple q'
  obtain ⟨o, n, h1, h2, _⟩ := p
  obtain ⟨o', h1', h2', _⟩ := p'
  rw [h1] at h1'; cases h1'
  rw [h2] at h2'
  exact absurd h2' (by simp)
/-- one value of the model, one of the mirror -/
theorem drf_same (I : Inv X pins σ H s) (rh : Rh X.K R h H) : ∀ (n : Nat) (w1 w2 : W) (v : V) (a b : W), Rw X.K R w1 v → Rw X.K R w2 v → drf h n w1 = some a → drf h n w2 = some b → a = b
  | 0, _, _, _, _, _, _, _, e, _ => by cases e
  | n + 1, w1, w2, v, a, b, r1, r2, e1, e2 => by
    have ih := drf_same I rh n
    cases kd_of rh r1 e1 with
    | flat f z =>
      cases kd_of rh r2 e2 with
      | flat f' z' =>
        rcases z with ⟨rfl, rfl⟩ | ⟨_, rfl, rfl⟩ | ⟨_, rfl, rfl⟩ | ⟨_, rfl, rfl⟩ <;> rcases z' with ⟨z1, rfl⟩ | ⟨_, z1, rfl⟩ | ⟨_, z1, rfl⟩ | ⟨_, z1, rfl⟩ <;> cases z1 <;> rfl
      | lst e => subst e; cases f
      | tup e => subst e; cases f
    | lst e q r m =>
      subst e
      cases kd_of rh r2 e2 with
      | flat f => cases f
      | lst e' q' r' m' => cases e'; have := I.list_inj q q'; subst this; rw [mapO_same ih r r' m m']
      | tup e' q' => cases e'; exact (list_not_tup I q q').elim
    | tup e q r m =>
      subst e
      cases kd_of rh r2 e2 with
      | flat f => cases f
      | lst e' q' => cases e'; exact (list_not_tup I q' q).elim
      | tup e' q' r' m' => cases e'; have := I.tuple_inj q q'; subst this; rw [mapO_same ih r r' m m']
mutual
theorem eqW_refl : ∀ (n : Nat) (w a : W), drf h n w = some a → eqW a a = true
  | 0, _, _, e => by cases e
  | n + 1, w, a, e => by
    cases w with
    | non => cases e; unfold eqW; rfl
    | bl b => cases e; unfold eqW; simp
    | int i => cases e; unfold eqW; simp
    | str x => cases e; unfold eqW; simp
    | tup ws => obtain ⟨as, m, e2⟩ := Option.map_eq_some_iff.mp e; subst e2; unfold eqW; exact eqWs_refl n ws as m
    | lst ws => obtain ⟨as, m, e2⟩ := Option.map_eq_some_iff.mp e; subst e2; unfold eqW; exact eqWs_refl n ws as m
    | frz ws => obtain ⟨as, m, e2⟩ := Option.map_eq_some_iff.mp e; subst e2; unfold eqW; exact eqWs_refl n ws as m
    | ref k =>
      simp only [drf] at e
      split at e
      · rename_i ws hk
        obtain ⟨as, m, e2⟩ := Option.map_eq_some_iff.mp e; subst e2; unfold eqW; exact eqWs_refl n ws as m
      · cases e
    | ty _ => cases e
theorem eqWs_refl : ∀ (n : Nat) (ws as : List W), mapO (drf h n) ws = some as → eqWs as as = true
  | n, [], _, m => by cases m; unfold eqWs; rfl
  | n, w :: ws, _, m => by
    obtain ⟨y, h1, h2⟩ := Option.bind_eq_some_iff.mp m
    obtain ⟨zs, h3, h4⟩ := Option.map_eq_some_iff.mp h2
    subst h4
    unfold eqWs
    rw [eqW_refl n w y h1, eqWs_refl n ws zs h3]; rfl
end
theorem items_eqAt {n : Nat} {A : Around} (ih : ∀ w1 w2 v1 v2 u1 u2 a b, Rw X.K R w1 v1 → Rw X.K R w2 v2 → RelV v1 u1 → RelV v2 u2 → drf h n w1 = some a → drf h n w2 = some b → EqAt A s u1 u2 (eqW a b))
    {ws1 ws2 as bs : List W} {xs ys : List V} {its its2 : List Value} (r1 : Rws X.K R ws1 xs) (r2 : Rws X.K R ws2 ys) (v1 : Vals xs its) (v2 : Vals ys its2) (m1 : mapO (drf h n) ws1 = some as) (m2 : mapO (drf h n) ws2 = some bs)
    (j : Nat) (h1 : j < its.toArray.size) (h2 : j < its2.toArray.size) : EqAt A s its.toArray[j] its2.toArray[j] (match as[j]?, bs[j]? with | some x, some y => eqW x y | _, _ => false) := by
  have l1 := r1.length; have l2 := v1.length; have l3 := r2.length; have l4 := v2.length
  rw [List.size_toArray] at h1 h2
  obtain ⟨w1, hw1⟩ : ∃ w, ws1[j]? = some w := ⟨ws1[j]'(by omega), List.getElem?_eq_getElem _⟩
  obtain ⟨w2, hw2⟩ : ∃ w, ws2[j]? = some w := ⟨ws2[j]'(by omega), List.getElem?_eq_getElem _⟩
  obtain ⟨x, hx, rx⟩ := r1.get hw1
  obtain ⟨y, hy, ry⟩ := r2.get hw2
  obtain ⟨u, hu, ru⟩ := v1.get hx
  obtain ⟨t, ht, rt⟩ := v2.get hy
  obtain ⟨a, ha, ea⟩ := (mapO_get m1).2 j w1 hw1
  obtain ⟨b, hb, eb⟩ := (mapO_get m2).2 j w2 hw2
  rw [ha, hb]
  have e1 : its.toArray[j] = u := by
    have := hu; rw [List.getElem?_eq_getElem h1] at this; simpa using this
  have e2 : its2.toArray[j] = t := by
    have := ht; rw [List.getElem?_eq_getElem h2] at this; simpa using this
  rw [e1, e2]
  exact ih w1 w2 x y u t a b rx ry ru rt ea eb
theorem rc_lists (I : Inv X pins σ H s) {n : Nat} {A : Around} (hu : A.units < cLine) (ih : ∀ w1 w2 v1 v2 u1 u2 a b, Rw X.K R w1 v1 → Rw X.K R w2 v2 → RelV v1 u1 → RelV v2 u2 → drf h n w1 = some a → drf h n w2 = some b → EqAt A.in1 s u1 u2 (eqW a b))
    {ad bd : Addr} {ws1 ws2 as bs : List W} {xs ys : List V} (q1 : SqL X.K H ad xs) (q2 : SqL X.K H bd ys) (r1 : Rws X.K R ws1 xs) (r2 : Rws X.K R ws2 ys) (m1 : mapO (drf h n) ws1 = some as) (m2 : mapO (drf h n) ws2 = some bs) : RcAt A s (.ref ad) (.ref bd) (eqWs as bs) := by
  obtain ⟨its, v1, p1, _⟩ := I.list q1
  obtain ⟨its2, v2, p2, _⟩ := I.list q2
  have l1 := r1.length; have l2 := v1.length; have l3 := r2.length; have l4 := v2.length
  have l5 := (mapO_get m1).1; have l6 := (mapO_get m2).1
  by_cases hl : as.length = bs.length
  · rw [eqWs_all hl]
    have := RcAt.lists (A := A) p1.isList p2.isList (by rw [List.size_toArray, List.size_toArray]; omega) hu (fun j h1 h2 => items_eqAt ih r1 r2 v1 v2 m1 m2 j h1 h2)
    rw [List.size_toArray] at this
    rw [show as.length = its.length by omega]
    exact this
  · rw [eqWs_len hl]
    exact RcAt.lists_lengths p1.isList p2.isList (by rw [List.size_toArray, List.size_toArray]; simp; omega) hu
theorem rc_tups (I : Inv X pins σ H s) {n : Nat} {A : Around} (hu : A.units < cLine) (ih : ∀ w1 w2 v1 v2 u1 u2 a b, Rw X.K R w1 v1 → Rw X.K R w2 v2 → RelV v1 u1 → RelV v2 u2 → drf h n w1 = some a → drf h n w2 = some b → EqAt A.in1 s u1 u2 (eqW a b))
    {ad bd : Addr} {ws1 ws2 as bs : List W} {xs ys : List V} (q1 : SqT X.K H ad xs) (q2 : SqT X.K H bd ys) (r1 : Rws X.K R ws1 xs) (r2 : Rws X.K R ws2 ys) (m1 : mapO (drf h n) ws1 = some as) (m2 : mapO (drf h n) ws2 = some bs) : RcAt A s (.ref ad) (.ref bd) (eqWs as bs) := by
  obtain ⟨its, v1, p1, _⟩ := I.tuple q1
  obtain ⟨its2, v2, p2, _⟩ := I.tuple q2
  have l1 := r1.length; have l2 := v1.length; have l3 := r2.length; have l4 := v2.length
  have l5 := (mapO_get m1).1; have l6 := (mapO_get m2).1
  have := RcAt.tuples (A := A) (show s.heap.IsTuple ad its.toArray from p1) (show s.heap.IsTuple bd its2.toArray from p2) hu (fun j h1 h2 => items_eqAt ih r1 r2 v1 v2 m1 m2 j h1 h2)
  rw [List.size_toArray, List.size_toArray] at this
  by_cases hl : as.length = bs.length
  · rw [eqWs_all hl]
    rw [show min its.length its2.length = as.length by omega, show (its.length == its2.length) = true by simp; omega, Bool.and_true] at this
    exact this
  · rw [eqWs_len hl]
    rw [show (its.length == its2.length) = false by simp; omega, Bool.and_false] at this
    exact this
theorem eqAt_W (I : Inv X pins σ H s) (rh : Rh X.K R h H) : ∀ (n : Nat) (A : Around), A.units + n < cLine → ∀ (w1 w2 : W) (v1 v2 : V) (u1 u2 : Value) (a b : W), Rw X.K R w1 v1 → Rw X.K R w2 v2 → RelV v1 u1 → RelV v2 u2 → drf h n w1 = some a → drf h n w2 = some b → EqAt A s u1 u2 (eqW a b)
  | 0, _, _, _, _, _, _, _, _, _, _, _, _, _, _, e, _ => by cases e
  | n + 1, A, hu, w1, w2, v1, v2, u1, u2, a, b, r1, r2, t1, t2, e1, e2 => by
    have hu0 : A.units < cLine := by omega
    have ih := eqAt_W I rh n A.in1 (by show A.units + 1 + n < cLine; omega)
    have isl : ∀ {ad : Addr} {xs : List V}, SqL X.K H ad xs → ∃ its : Array Value, s.heap.IsList ad its := fun q => by
      obtain ⟨its, _, p, _⟩ := I.list q; exact ⟨_, p.isList⟩
    have ist : ∀ {ad : Addr} {xs : List V}, SqT X.K H ad xs → ∃ its : Array Value, s.heap.IsTuple ad its := fun q => by
      obtain ⟨its, _, p, _⟩ := I.tuple q; exact ⟨_, p⟩
    cases kd_of rh r1 e1 with
    | flat f z =>
      cases kd_of rh r2 e2 with
      | flat f' z' =>
        have := eqAt_V (A := A) (s := s) t1 t2 f f'
        rcases z with ⟨rfl, rfl⟩ | ⟨_, rfl, rfl⟩ | ⟨_, rfl, rfl⟩ | ⟨_, rfl, rfl⟩ <;> rcases z' with ⟨rfl, rfl⟩ | ⟨_, rfl, rfl⟩ | ⟨_, rfl, rfl⟩ | ⟨_, rfl, rfl⟩ <;> (unfold eqW; exact this)
      | lst e q =>
        subst e
        cases t2
        obtain ⟨its, p⟩ := isl q
        rcases z with ⟨rfl, rfl⟩ | ⟨_, rfl, rfl⟩ | ⟨_, rfl, rfl⟩ | ⟨_, rfl, rfl⟩
        · cases t1; unfold eqW; exact EqAt.none_list p hu0
        · cases t1; unfold eqW; exact EqAt.bool_list _ p hu0
        · obtain ⟨t, rfl⟩ := t1; unfold eqW; exact EqAt.int_list _ t p hu0
        · obtain ⟨t, rfl⟩ := t1; unfold eqW; exact EqAt.str_list _ t p hu0
      | tup e q =>
        subst e
        cases t2
        obtain ⟨its, p⟩ := ist q
        rcases z with ⟨rfl, rfl⟩ | ⟨_, rfl, rfl⟩ | ⟨_, rfl, rfl⟩ | ⟨_, rfl, rfl⟩
        · cases t1; unfold eqW; exact EqAt.none_tuple p hu0
        · cases t1; unfold eqW; exact EqAt.bool_tuple _ p hu0
        · obtain ⟨t, rfl⟩ := t1; unfold eqW; exact EqAt.int_tuple _ t p hu0
        · obtain ⟨t, rfl⟩ := t1; unfold eqW; exact EqAt.str_tuple _ t p hu0
    | @lst ad1 _ _ _ e q r m =>
      subst e
      cases t1
      obtain ⟨its, p⟩ := isl q
      have k2 := kd_of rh r2 e2
      cases k2 with
      | flat f' z' =>
        rcases z' with ⟨rfl, rfl⟩ | ⟨_, rfl, rfl⟩ | ⟨_, rfl, rfl⟩ | ⟨_, rfl, rfl⟩
        · cases t2; unfold eqW; exact EqAt.list_none p hu0
        · cases t2; unfold eqW; exact EqAt.list_bool _ p hu0
        · obtain ⟨t, rfl⟩ := t2; unfold eqW; exact EqAt.list_int _ t p hu0
        · obtain ⟨t, rfl⟩ := t2; unfold eqW; exact EqAt.list_str _ t p hu0
      | @lst ad2 _ _ _ e' q' r' m' =>
        subst e'
        cases t2
        by_cases hab : ad1 = ad2
        · subst hab
          have := drf_same I rh (n + 1) w1 w2 _ _ _ r1 r2 e1 e2
          rw [this, eqW_refl (n + 1) w2 _ e2]
          exact EqAt.same _
        · unfold eqW
          exact EqAt.of_refs hab (rc_lists I hu0 ih q q' r r' m m')
      | tup e' q' =>
        subst e'
        cases t2
        obtain ⟨its', p'⟩ := ist q'
        unfold eqW; exact EqAt.list_tuple p p' hu0
    | @tup ad1 _ _ _ e q r m =>
      subst e
      cases t1
      obtain ⟨its, p⟩ := ist q
      have k2 := kd_of rh r2 e2
      cases k2 with
      | flat f' z' =>
        rcases z' with ⟨rfl, rfl⟩ | ⟨_, rfl, rfl⟩ | ⟨_, rfl, rfl⟩ | ⟨_, rfl, rfl⟩
        · cases t2; unfold eqW; exact EqAt.tuple_none p hu0
        · cases t2; unfold eqW; exact EqAt.tuple_bool _ p hu0
        · obtain ⟨t, rfl⟩ := t2; unfold eqW; exact EqAt.tuple_int _ t p hu0
        · obtain ⟨t, rfl⟩ := t2; unfold eqW; exact EqAt.tuple_str _ t p hu0
      | lst e' q' =>
        subst e'
        cases t2
        obtain ⟨its', p'⟩ := isl q'
        unfold eqW; exact EqAt.tuple_list p p' hu0
      | @tup ad2 _ _ _ e' q' r' m' =>
        subst e'
        cases t2
        by_cases hab : ad1 = ad2
        · subst hab
          have := drf_same I rh (n + 1) w1 w2 _ _ _ r1 r2 e1 e2
          rw [this, eqW_refl (n + 1) w2 _ e2]
          exact EqAt.same _
        · unfold eqW
          exact EqAt.of_refs hab (rc_tups I hu0 ih q q' r r' m m')
end
end Mi

namespace Mi
open PySem PySem.Spec PyProof.Rows L2 PySem.SeqAt
section
variable {X : Cx} {pins : List (Addr × Obj)} {σ : L2.St} {H : Hp} {s : Shared} {R : Rn} {h : MH}
theorem rcne_lists (I : Inv X pins σ H s) {n : Nat} {A : Around} (hu : A.units < cLine) (ih : ∀ w1 w2 v1 v2 u1 u2 a b, Rw X.K R w1 v1 → Rw X.K R w2 v2 → RelV v1 u1 → RelV v2 u2 → drf h n w1 = some a → drf h n w2 = some b → EqAt A.in1 s u1 u2 (eqW a b))
    {ad bd : Addr} {ws1 ws2 as bs : List W} {xs ys : List V} (q1 : SqL X.K H ad xs) (q2 : SqL X.K H bd ys) (r1 : Rws X.K R ws1 xs) (r2 : Rws X.K R ws2 ys) (m1 : mapO (drf h n) ws1 = some as) (m2 : mapO (drf h n) ws2 = some bs) : RcNeAt A s (.ref ad) (.ref bd) (!eqWs as bs) := by
  obtain ⟨its, v1, p1, _⟩ := I.list q1
  obtain ⟨its2, v2, p2, _⟩ := I.list q2
  have l1 := r1.length; have l2 := v1.length; have l3 := r2.length; have l4 := v2.length
  have l5 := (mapO_get m1).1; have l6 := (mapO_get m2).1
  by_cases hl : as.length = bs.length
  · rw [eqWs_all hl]
    have := RcNeAt.lists (A := A) p1.isList p2.isList (by rw [List.size_toArray, List.size_toArray]; omega) hu (fun j h1 h2 => items_eqAt ih r1 r2 v1 v2 m1 m2 j h1 h2)
    rw [List.size_toArray] at this
    rw [show as.length = its.length by omega]
    exact this
  · rw [eqWs_len hl]
    exact RcNeAt.lists_lengths p1.isList p2.isList (by rw [List.size_toArray, List.size_toArray]; simp; omega) hu
theorem rcne_tups (I : Inv X pins σ H s) {n : Nat} {A : Around} (hu : A.units < cLine) (ih : ∀ w1 w2 v1 v2 u1 u2 a b, Rw X.K R w1 v1 → Rw X.K R w2 v2 → RelV v1 u1 → RelV v2 u2 → drf h n w1 = some a → drf h n w2 = some b → EqAt A.in1 s u1 u2 (eqW a b))
    {ad bd : Addr} {ws1 ws2 as bs : List W} {xs ys : List V} (q1 : SqT X.K H ad xs) (q2 : SqT X.K H bd ys) (r1 : Rws X.K R ws1 xs) (r2 : Rws X.K R ws2 ys) (m1 : mapO (drf h n) ws1 = some as) (m2 : mapO (drf h n) ws2 = some bs) : RcNeAt A s (.ref ad) (.ref bd) (!eqWs as bs) := by
  obtain ⟨its, v1, p1, _⟩ := I.tuple q1
  obtain ⟨its2, v2, p2, _⟩ := I.tuple q2
  have l1 := r1.length; have l2 := v1.length; have l3 := r2.length; have l4 := v2.length
  have l5 := (mapO_get m1).1; have l6 := (mapO_get m2).1
  have := RcNeAt.tuples (A := A) (show s.heap.IsTuple ad its.toArray from p1) (show s.heap.IsTuple bd its2.toArray from p2) hu (fun j h1 h2 => items_eqAt ih r1 r2 v1 v2 m1 m2 j h1 h2)
  rw [List.size_toArray, List.size_toArray] at this
  by_cases hl : as.length = bs.length
  · rw [eqWs_all hl]
    rw [show min its.length its2.length = as.length by omega, show (its.length == its2.length) = true by simp; omega, Bool.and_true] at this
    exact this
  · rw [eqWs_len hl]
    rw [show (its.length == its2.length) = false by simp; omega, Bool.and_false] at this
    exact this
theorem rcAt_W (I : Inv X pins σ H s) (rh : Rh X.K R h H) (n : Nat) (A : Around) (hu : A.units + n < cLine) (w1 w2 : W) (v1 v2 : V) (u1 u2 : Value) (a b : W) (r1 : Rw X.K R w1 v1) (r2 : Rw X.K R w2 v2) (t1 : RelV v1 u1) (t2 : RelV v2 u2) (e1 : drf h n w1 = some a) (e2 : drf h n w2 = some b) : RcAt A s u1 u2 (eqW a b) := by
  cases n with
  | zero => cases e1
  | succ n =>
    have hu0 : A.units < cLine := by omega
    have ih := eqAt_W I rh n A.in1 (by show A.units + 1 + n < cLine; omega)
    have isl : ∀ {ad : Addr} {xs : List V}, SqL X.K H ad xs → ∃ its : Array Value, s.heap.IsList ad its := fun q => by
      obtain ⟨its, _, p, _⟩ := I.list q; exact ⟨_, p.isList⟩
    have ist : ∀ {ad : Addr} {xs : List V}, SqT X.K H ad xs → ∃ its : Array Value, s.heap.IsTuple ad its := fun q => by
      obtain ⟨its, _, p, _⟩ := I.tuple q; exact ⟨_, p⟩
    cases kd_of rh r1 e1 with
    | flat f z =>
      cases kd_of rh r2 e2 with
      | flat f' z' =>
        rcases z with ⟨rfl, rfl⟩ | ⟨_, rfl, rfl⟩ | ⟨_, rfl, rfl⟩ | ⟨_, rfl, rfl⟩ <;> rcases z' with ⟨rfl, rfl⟩ | ⟨_, rfl, rfl⟩ | ⟨_, rfl, rfl⟩ | ⟨_, rfl, rfl⟩ <;> first | (obtain ⟨t1', rfl⟩ := t1) | cases t1
        · first | (obtain ⟨t2', rfl⟩ := t2) | cases t2
          unfold eqW; exact RcAt.none_none
        · first | (obtain ⟨t2', rfl⟩ := t2) | cases t2
          unfold eqW; exact RcAt.none_bool _
        · first | (obtain ⟨t2', rfl⟩ := t2) | cases t2
          unfold eqW; exact RcAt.none_int _ _
        · first | (obtain ⟨t2', rfl⟩ := t2) | cases t2
          unfold eqW; exact RcAt.none_str _ _
        · first | (obtain ⟨t2', rfl⟩ := t2) | cases t2
          unfold eqW; exact RcAt.bool_none _
        · first | (obtain ⟨t2', rfl⟩ := t2) | cases t2
          unfold eqW; exact RcAt.bool_bool _ _
        · first | (obtain ⟨t2', rfl⟩ := t2) | cases t2
          unfold eqW; exact RcAt.bool_int _ _ _
        · first | (obtain ⟨t2', rfl⟩ := t2) | cases t2
          unfold eqW; exact RcAt.bool_str _ _ _
        · first | (obtain ⟨t2', rfl⟩ := t2) | cases t2
          unfold eqW; exact RcAt.int_none _ _
        · first | (obtain ⟨t2', rfl⟩ := t2) | cases t2
          unfold eqW; exact RcAt.int_bool _ _ _
        · first | (obtain ⟨t2', rfl⟩ := t2) | cases t2
          unfold eqW; exact RcAt.int_int _ _ _ _
        · first | (obtain ⟨t2', rfl⟩ := t2) | cases t2
          unfold eqW; exact RcAt.int_str _ _ _ _
        · first | (obtain ⟨t2', rfl⟩ := t2) | cases t2
          unfold eqW; exact RcAt.str_none _ _
        · first | (obtain ⟨t2', rfl⟩ := t2) | cases t2
          unfold eqW; exact RcAt.str_bool _ _ _
        · first | (obtain ⟨t2', rfl⟩ := t2) | cases t2
          unfold eqW; exact RcAt.str_int _ _ _ _
        · first | (obtain ⟨t2', rfl⟩ := t2) | cases t2
          unfold eqW; exact RcAt.str_str _ _ _ _
      | lst e q =>
        subst e
        cases t2
        obtain ⟨its, p⟩ := isl q
        rcases z with ⟨rfl, rfl⟩ | ⟨_, rfl, rfl⟩ | ⟨_, rfl, rfl⟩ | ⟨_, rfl, rfl⟩
        · cases t1; unfold eqW; exact RcAt.none_list p hu0
        · cases t1; unfold eqW; exact RcAt.bool_list _ p hu0
        · obtain ⟨t, rfl⟩ := t1; unfold eqW; exact RcAt.int_list _ t p hu0
        · obtain ⟨t, rfl⟩ := t1; unfold eqW; exact RcAt.str_list _ t p hu0
      | tup e q =>
        subst e
        cases t2
        obtain ⟨its, p⟩ := ist q
        rcases z with ⟨rfl, rfl⟩ | ⟨_, rfl, rfl⟩ | ⟨_, rfl, rfl⟩ | ⟨_, rfl, rfl⟩
        · cases t1; unfold eqW; exact RcAt.none_tuple p hu0
        · cases t1; unfold eqW; exact RcAt.bool_tuple _ p hu0
        · obtain ⟨t, rfl⟩ := t1; unfold eqW; exact RcAt.int_tuple _ t p hu0
        · obtain ⟨t, rfl⟩ := t1; unfold eqW; exact RcAt.str_tuple _ t p hu0
    | @lst ad1 _ _ _ e q r m =>
      subst e
      cases t1
      obtain ⟨its, p⟩ := isl q
      have k2 := kd_of rh r2 e2
      cases k2 with
      | flat f' z' =>
        rcases z' with ⟨rfl, rfl⟩ | ⟨_, rfl, rfl⟩ | ⟨_, rfl, rfl⟩ | ⟨_, rfl, rfl⟩
        · cases t2; unfold eqW; exact RcAt.list_none p hu0
        · cases t2; unfold eqW; exact RcAt.list_bool _ p hu0
        · obtain ⟨t, rfl⟩ := t2; unfold eqW; exact RcAt.list_int _ t p hu0
        · obtain ⟨t, rfl⟩ := t2; unfold eqW; exact RcAt.list_str _ t p hu0
      | tup e' q' =>
        subst e'
        cases t2
        obtain ⟨its', p'⟩ := ist q'
        unfold eqW; exact RcAt.list_tuple p p' hu0
      | lst e' q' r' m' =>
        subst e'
        cases t2
        unfold eqW
        exact rc_lists I hu0 ih q q' r r' m m'
    | @tup ad1 _ _ _ e q r m =>
      subst e
      cases t1
      obtain ⟨its, p⟩ := ist q
      have k2 := kd_of rh r2 e2
      cases k2 with
      | flat f' z' =>
        rcases z' with ⟨rfl, rfl⟩ | ⟨_, rfl, rfl⟩ | ⟨_, rfl, rfl⟩ | ⟨_, rfl, rfl⟩
        · cases t2; unfold eqW; exact RcAt.tuple_none p hu0
        · cases t2; unfold eqW; exact RcAt.tuple_bool _ p hu0
        · obtain ⟨t, rfl⟩ := t2; unfold eqW; exact RcAt.tuple_int _ t p hu0
        · obtain ⟨t, rfl⟩ := t2; unfold eqW; exact RcAt.tuple_str _ t p hu0
      | lst e' q' =>
        subst e'
        cases t2
        obtain ⟨its', p'⟩ := isl q'
        unfold eqW; exact RcAt.tuple_list p p' hu0
      | tup e' q' r' m' =>
        subst e'
        cases t2
        unfold eqW
        exact rc_tups I hu0 ih q q' r r' m m'
theorem rcneAt_W (I : Inv X pins σ H s) (rh : Rh X.K R h H) (n : Nat) (A : Around) (hu : A.units + n < cLine) (w1 w2 : W) (v1 v2 : V) (u1 u2 : Value) (a b : W) (r1 : Rw X.K R w1 v1) (r2 : Rw X.K R w2 v2) (t1 : RelV v1 u1) (t2 : RelV v2 u2) (e1 : drf h n w1 = some a) (e2 : drf h n w2 = some b) : RcNeAt A s u1 u2 (!eqW a b) := by
  cases n with
  | zero => cases e1
  | succ n =>
    have hu0 : A.units < cLine := by omega
    have ih := eqAt_W I rh n A.in1 (by show A.units + 1 + n < cLine; omega)
    have isl : ∀ {ad : Addr} {xs : List V}, SqL X.K H ad xs → ∃ its : Array Value, s.heap.IsList ad its := fun q => by
      obtain ⟨its, _, p, _⟩ := I.list q; exact ⟨_, p.isList⟩
    have ist : ∀ {ad : Addr} {xs : List V}, SqT X.K H ad xs → ∃ its : Array Value, s.heap.IsTuple ad its := fun q => by
      obtain ⟨its, _, p, _⟩ := I.tuple q; exact ⟨_, p⟩
    cases kd_of rh r1 e1 with
    | flat f z =>
      cases kd_of rh r2 e2 with
      | flat f' z' =>
        rcases z with ⟨rfl, rfl⟩ | ⟨_, rfl, rfl⟩ | ⟨_, rfl, rfl⟩ | ⟨_, rfl, rfl⟩ <;> rcases z' with ⟨rfl, rfl⟩ | ⟨_, rfl, rfl⟩ | ⟨_, rfl, rfl⟩ | ⟨_, rfl, rfl⟩ <;> first | (obtain ⟨t1', rfl⟩ := t1) | cases t1
        · first | (obtain ⟨t2', rfl⟩ := t2) | cases t2
          unfold eqW; exact RcNeAt.none_none
        · first | (obtain ⟨t2', rfl⟩ := t2) | cases t2
          unfold eqW; exact RcNeAt.none_bool _
        · first | (obtain ⟨t2', rfl⟩ := t2) | cases t2
          unfold eqW; exact RcNeAt.none_int _ _
        · first | (obtain ⟨t2', rfl⟩ := t2) | cases t2
          unfold eqW; exact RcNeAt.none_str _ _
        · first | (obtain ⟨t2', rfl⟩ := t2) | cases t2
          unfold eqW; exact RcNeAt.bool_none _
        · first | (obtain ⟨t2', rfl⟩ := t2) | cases t2
          unfold eqW; exact RcNeAt.bool_bool _ _
        · first | (obtain ⟨t2', rfl⟩ := t2) | cases t2
          unfold eqW; exact RcNeAt.bool_int _ _ _
        · first | (obtain ⟨t2', rfl⟩ := t2) | cases t2
          unfold eqW; exact RcNeAt.bool_str _ _ _
        · first | (obtain ⟨t2', rfl⟩ := t2) | cases t2
          unfold eqW; exact RcNeAt.int_none _ _
        · first | (obtain ⟨t2', rfl⟩ := t2) | cases t2
          unfold eqW; exact RcNeAt.int_bool _ _ _
        · first | (obtain ⟨t2', rfl⟩ := t2) | cases t2
          unfold eqW; exact RcNeAt.int_int _ _ _ _
        · first | (obtain ⟨t2', rfl⟩ := t2) | cases t2
          unfold eqW; exact RcNeAt.int_str _ _ _ _
        · first | (obtain ⟨t2', rfl⟩ := t2) | cases t2
          unfold eqW; exact RcNeAt.str_none _ _
        · first | (obtain ⟨t2', rfl⟩ := t2) | cases t2
          unfold eqW; exact RcNeAt.str_bool _ _ _
        · first | (obtain ⟨t2', rfl⟩ := t2) | cases t2
          unfold eqW; exact RcNeAt.str_int _ _ _ _
        · first | (obtain ⟨t2', rfl⟩ := t2) | cases t2
          unfold eqW; exact RcNeAt.str_str _ _ _ _
      | lst e q =>
        subst e
        cases t2
        obtain ⟨its, p⟩ := isl q
        rcases z with ⟨rfl, rfl⟩ | ⟨_, rfl, rfl⟩ | ⟨_, rfl, rfl⟩ | ⟨_, rfl, rfl⟩
        · cases t1; unfold eqW; exact RcNeAt.none_list p hu0
        · cases t1; unfold eqW; exact RcNeAt.bool_list _ p hu0
        · obtain ⟨t, rfl⟩ := t1; unfold eqW; exact RcNeAt.int_list _ t p hu0
        · obtain ⟨t, rfl⟩ := t1; unfold eqW; exact RcNeAt.str_list _ t p hu0
      | tup e q =>
        subst e
        cases t2
        obtain ⟨its, p⟩ := ist q
        rcases z with ⟨rfl, rfl⟩ | ⟨_, rfl, rfl⟩ | ⟨_, rfl, rfl⟩ | ⟨_, rfl, rfl⟩
        · cases t1; unfold eqW; exact RcNeAt.none_tuple p hu0
        · cases t1; unfold eqW; exact RcNeAt.bool_tuple _ p hu0
        · obtain ⟨t, rfl⟩ := t1; unfold eqW; exact RcNeAt.int_tuple _ t p hu0
        · obtain ⟨t, rfl⟩ := t1; unfold eqW; exact RcNeAt.str_tuple _ t p hu0
    | @lst ad1 _ _ _ e q r m =>
      subst e
      cases t1
      obtain ⟨its, p⟩ := isl q
      have k2 := kd_of rh r2 e2
      cases k2 with
      | flat f' z' =>
        rcases z' with ⟨rfl, rfl⟩ | ⟨_, rfl, rfl⟩ | ⟨_, rfl, rfl⟩ | ⟨_, rfl, rfl⟩
        · cases t2; unfold eqW; exact RcNeAt.list_none p hu0
        · cases t2; unfold eqW; exact RcNeAt.list_bool _ p hu0
        · obtain ⟨t, rfl⟩ := t2; unfold eqW; exact RcNeAt.list_int _ t p hu0
        · obtain ⟨t, rfl⟩ := t2; unfold eqW; exact RcNeAt.list_str _ t p hu0
      | tup e' q' =>
        subst e'
        cases t2
        obtain ⟨its', p'⟩ := ist q'
        unfold eqW; exact RcNeAt.list_tuple p p' hu0
      | lst e' q' r' m' =>
        subst e'
        cases t2
        unfold eqW
        exact rcne_lists I hu0 ih q q' r r' m m'
    | @tup ad1 _ _ _ e q r m =>
      subst e
      cases t1
      obtain ⟨its, p⟩ := ist q
      have k2 := kd_of rh r2 e2
      cases k2 with
      | flat f' z' =>
        rcases z' with ⟨rfl, rfl⟩ | ⟨_, rfl, rfl⟩ | ⟨_, rfl, rfl⟩ | ⟨_, rfl, rfl⟩
        · cases t2; unfold eqW; exact RcNeAt.tuple_none p hu0
        · cases t2; unfold eqW; exact RcNeAt.tuple_bool _ p hu0
        · obtain ⟨t, rfl⟩ := t2; unfold eqW; exact RcNeAt.tuple_int _ t p hu0
        · obtain ⟨t, rfl⟩ := t2; unfold eqW; exact RcNeAt.tuple_str _ t p hu0
      | lst e' q' =>
        subst e'
        cases t2
        obtain ⟨its', p'⟩ := isl q'
        unfold eqW; exact RcNeAt.tuple_list p p' hu0
      | tup e' q' r' m' =>
        subst e'
        cases t2
        unfold eqW
        exact rcne_tups I hu0 ih q q' r r' m m'
end
/-! ### operations of two values -/
def wEq (a b : W) (h : MH) : Option (W × MH) := (drf h 40 a).bind fun x => (drf h 40 b).map fun y => (.bl (eqW x y), h)
def wNe (a b : W) (h : MH) : Option (W × MH) := (drf h 40 a).bind fun x => (drf h 40 b).map fun y => (.bl (!eqW x y), h)
theorem opM_id {K : PySem.W.Frag} {f : W → W → MH → Option (W × MH)} : OpM K (F2 K f) f := fun _ _ _ _ q => q
section
variable {X : Cx}
theorem opr_eq (hu : X.A.units + 64 < cLine) : OpR X (compareOp .Eq) (F2 X.K wEq) := by
  intro pins s σ H x y v u Q I rx ry q
  obtain ⟨R, h, a, b, w, h', rh, ra, rb, e, k⟩ := q
  obtain ⟨a', e1, e2⟩ := Option.bind_eq_some_iff.mp e
  obtain ⟨b', e3, e4⟩ := Option.map_eq_some_iff.mp e2
  cases e4
  exact rcAt_W I rh 40 X.A (by omega) a b x y v u a' b' ra rb rx ry e1 e3 _ _ _ _ ⟨.bl _, H, I, rfl, k R H _ (Ext.refl _) rh (Rw.bl _)⟩
theorem opr_ne (hu : X.A.units + 64 < cLine) : OpR X (compareOp .NotEq) (F2 X.K wNe) := by
  intro pins s σ H x y v u Q I rx ry q
  obtain ⟨R, h, a, b, w, h', rh, ra, rb, e, k⟩ := q
  obtain ⟨a', e1, e2⟩ := Option.bind_eq_some_iff.mp e
  obtain ⟨b', e3, e4⟩ := Option.map_eq_some_iff.mp e2
  cases e4
  exact rcneAt_W I rh 40 X.A (by omega) a b x y v u a' b' ra rb rx ry e1 e3 _ _ _ _ ⟨.bl _, H, I, rfl, k R H _ (Ext.refl _) rh (Rw.bl _)⟩
/-! in, not in -/
def inW (x : W) (xs : List W) : Bool := xs.any fun y => eqW y x
def wIn (neg : Bool) (a b : W) (h : MH) : Option (W × MH) := match b with
  | .tup ys => (drf h 40 a).bind fun x => (mapO (drf h 40) ys).map fun zs => (.bl (if neg then !inW x zs else inW x zs), h)
  | b => (lsW h b).bind fun ys => (drf h 40 a).bind fun x => (mapO (drf h 40) ys).map fun zs => (.bl (if neg then !inW x zs else inW x zs), h)
open Classical in
/-- the answer of an item, read off its value -/
noncomputable def hitU (K : PySem.W.Frag) (R : Rn) (h : MH) (x : W) (u : Value) : Bool := decide (∃ w v a, Rw K R w v ∧ RelV v u ∧ drf h 40 w = some a ∧ eqW a x = true)
open Classical in
theorem hitU_of {pins : List (Addr × Obj)} {σ : L2.St} {H : Hp} {s : Shared} {R : Rn} {h : MH} (I : Inv X pins σ H s) (rh : Rh X.K R h H) {x w a : W} {v : V} {u : Value} (r : Rw X.K R w v) (t : RelV v u) (e : drf h 40 w = some a) : hitU X.K R h x u = eqW a x := by
  unfold hitU
  by_cases q : eqW a x = true
  · rw [q]; exact decide_eq_true ⟨w, v, a, r, t, e, q⟩
  · have q' : eqW a x = false := by simpa using q
    rw [q']
    refine decide_eq_false fun ⟨w', v', a', r', t', e', z⟩ => ?_
    have := t.inj t'
    subst this
    rw [drf_same I rh 40 w w' v a a' r r' e e', z] at q'
    cases q'
theorem hit_any {pins : List (Addr × Obj)} {σ : L2.St} {H : Hp} {s : Shared} {R : Rn} {h : MH} (I : Inv X pins σ H s) (rh : Rh X.K R h H) {x : W} : ∀ {ws as : List W} {xs : List V} {us : List Value}, Rws X.K R ws xs → Vals xs us → mapO (drf h 40) ws = some as → us.any (hitU X.K R h x) = inW x as
  | [], _, _, _, r, t, m => by
    rw [Rws.nil_iff] at r; subst r; cases t; cases m; rfl
  | w :: ws, _, _, _, r, t, m => by
    rw [Rws.cons_iff] at r
    obtain ⟨v, xs', rfl, r1, r2⟩ := r
    cases t with
    | cons t1 t2 =>
      obtain ⟨y, h1, h2⟩ := Option.bind_eq_some_iff.mp m
      obtain ⟨zs, h3, h4⟩ := Option.map_eq_some_iff.mp h2
      subst h4
      have ih := hit_any I rh (x := x) r2 t2 h3
      unfold inW at ih ⊢
      rw [List.any_cons, List.any_cons, hitU_of I rh r1 t1 h1, ih]
theorem hit_eqAt {pins : List (Addr × Obj)} {σ : L2.St} {H : Hp} {s : Shared} {R : Rn} {h : MH} (I : Inv X pins σ H s) (rh : Rh X.K R h H) {A : Around} (hu : A.units + 40 < cLine) {a x : W} {v : V} {u : Value} (ra : Rw X.K R a v) (ta : RelV v u) (ea : drf h 40 a = some x) {ws as : List W} {xs : List V} {us : List Value}
    (r : Rws X.K R ws xs) (t : Vals xs us) (m : mapO (drf h 40) ws = some as) : ∀ y ∈ us, EqAt A s y u (hitU X.K R h x y) := by
  intro y hy
  obtain ⟨i, hi, e⟩ := List.mem_iff_getElem.mp hy
  have l1 := r.length; have l2 := t.length
  obtain ⟨w, hw⟩ : ∃ w, ws[i]? = some w := ⟨ws[i]'(by omega), List.getElem?_eq_getElem _⟩
  obtain ⟨v', hv, rv⟩ := r.get hw
  obtain ⟨u', hu', ru⟩ := t.get hv
  rw [List.getElem?_eq_getElem hi, e] at hu'
  cases hu'
  obtain ⟨b, hb, eb⟩ := (mapO_get m).2 i w hw
  rw [hitU_of I rh rv ru eb]
  exact eqAt_W I rh 40 A hu w a v' v y u b x rv ra ru ta eb ea
theorem opr_in (hu : X.A.units + 64 < cLine) : OpR X (compareOp .In) (F2 X.K (wIn false)) := by
  intro pins s σ H x y v u Q I rx ry q
  obtain ⟨R, h, a, b, w, h', rh, ra, rb, e, k⟩ := q
  have hu' : X.A.in1.units + 40 < cLine := by show X.A.units + 1 + 40 < cLine; omega
  have main : ∀ ys, ((drf h 40 a).bind fun x => (mapO (drf h 40) ys).map fun zs => ((W.bl (if false then !inW x zs else inW x zs), h) : W × MH)) = some (w, h') → ∃ x' zs, drf h 40 a = some x' ∧ mapO (drf h 40) ys = some zs ∧ w = .bl (inW x' zs) ∧ h' = h := fun ys e => by
    obtain ⟨x', e1, e2⟩ := Option.bind_eq_some_iff.mp e
    obtain ⟨zs, e3, e4⟩ := Option.map_eq_some_iff.mp e2
    cases e4
    exact ⟨x', zs, e1, e3, rfl, rfl⟩
  have fin : ∀ {x' : W} {zs ws : List W} {xs : List V} {its : List Value}, Rws X.K R ws xs → Vals xs its → drf h 40 a = some x' → mapO (drf h 40) ws = some zs → w = .bl (inW x' zs) → h' = h → EP X pins σ Q (.bool (its.toArray.any (hitU X.K R h x'))) s := fun {x' zs ws xs its} r t ea em ew eh => by
    subst ew eh
    rw [List.any_toArray, hit_any I rh r t em]
    exact ⟨.bl _, H, I, rfl, k R H _ (Ext.refl _) rh (Rw.bl _)⟩
  unfold wIn at e
  split at e
  · rename_i ys
    obtain ⟨x', zs, e1, e3, ew, eh⟩ := main ys e
    obtain ⟨ad, xs, rfl, q1, r1⟩ := rh.tupAt rb
    cases ry
    obtain ⟨its, t1, p1, _⟩ := I.tuple q1
    exact in_tupleAt (hitU X.K R h x') (show s.heap.IsTuple ad its.toArray from p1) (fun z hz => hit_eqAt I rh hu' ra rx e1 r1 t1 e3 z (by simpa using hz)) (fin r1 t1 e1 e3 ew eh)
  · obtain ⟨ys, e0, e⟩ := Option.bind_eq_some_iff.mp e
    obtain ⟨x', zs, e1, e3, ew, eh⟩ := main ys e
    obtain ⟨ad, xs, rfl, q1, r1⟩ := rh.lsAt rb e0
    cases ry
    obtain ⟨its, t1, p1, _⟩ := I.list q1
    exact in_listAt (hitU X.K R h x') p1.isList (fun z hz => hit_eqAt I rh hu' ra rx e1 r1 t1 e3 z (by simpa using hz)) (fin r1 t1 e1 e3 ew eh)
theorem opr_notIn (hu : X.A.units + 64 < cLine) : OpR X (compareOp .NotIn) (F2 X.K (wIn true)) := by
  intro pins s σ H x y v u Q I rx ry q
  obtain ⟨R, h, a, b, w, h', rh, ra, rb, e, k⟩ := q
  have hu' : X.A.in1.units + 40 < cLine := by show X.A.units + 1 + 40 < cLine; omega
  have main : ∀ ys, ((drf h 40 a).bind fun x => (mapO (drf h 40) ys).map fun zs => ((W.bl (if true then !inW x zs else inW x zs), h) : W × MH)) = some (w, h') → ∃ x' zs, drf h 40 a = some x' ∧ mapO (drf h 40) ys = some zs ∧ w = .bl (!inW x' zs) ∧ h' = h := fun ys e => by
    obtain ⟨x', e1, e2⟩ := Option.bind_eq_some_iff.mp e
    obtain ⟨zs, e3, e4⟩ := Option.map_eq_some_iff.mp e2
    cases e4
    exact ⟨x', zs, e1, e3, rfl, rfl⟩
  have fin : ∀ {x' : W} {zs ws : List W} {xs : List V} {its : List Value}, Rws X.K R ws xs → Vals xs its → drf h 40 a = some x' → mapO (drf h 40) ws = some zs → w = .bl (!inW x' zs) → h' = h → EP X pins σ Q (.bool (!its.toArray.any (hitU X.K R h x'))) s := fun {x' zs ws xs its} r t ea em ew eh => by
    subst ew eh
    rw [List.any_toArray, hit_any I rh r t em]
    exact ⟨.bl _, H, I, rfl, k R H _ (Ext.refl _) rh (Rw.bl _)⟩
  unfold wIn at e
  split at e
  · rename_i ys
    obtain ⟨x', zs, e1, e3, ew, eh⟩ := main ys e
    obtain ⟨ad, xs, rfl, q1, r1⟩ := rh.tupAt rb
    cases ry
    obtain ⟨its, t1, p1, _⟩ := I.tuple q1
    exact notIn_tupleAt (hitU X.K R h x') (show s.heap.IsTuple ad its.toArray from p1) (fun z hz => hit_eqAt I rh hu' ra rx e1 r1 t1 e3 z (by simpa using hz)) (fin r1 t1 e1 e3 ew eh)
  · obtain ⟨ys, e0, e⟩ := Option.bind_eq_some_iff.mp e
    obtain ⟨x', zs, e1, e3, ew, eh⟩ := main ys e
    obtain ⟨ad, xs, rfl, q1, r1⟩ := rh.lsAt rb e0
    cases ry
    obtain ⟨its, t1, p1, _⟩ := I.list q1
    exact notIn_listAt (hitU X.K R h x') p1.isList (fun z hz => hit_eqAt I rh hu' ra rx e1 r1 t1 e3 z (by simpa using hz)) (fin r1 t1 e1 e3 ew eh)
end
end Mi

namespace Mi
open PySem PySem.Spec PyProof.Rows L2

/-! ### arithmetic -/
def wAdd (a b : W) (h : MH) : Option (W × MH) := match a, b with
  | .int i, .int j => some (.int (i + j), h)
  | .str x, .str y => if x.length + y.length ≤ sizeLine then some (.str (x ++ y), h) else none
  | .tup xs, .tup ys => if xs.length + ys.length ≤ sizeLine then some (.tup (xs ++ ys), h) else none
  | a, b => (loW h a).bind fun xs => (loW h b).bind fun ys => if xs.length + ys.length ≤ sizeLine then some (.lst (xs ++ ys), h) else none
def wSub (a b : W) (h : MH) : Option (W × MH) := match a, b with | .int i, .int j => some (.int (i - j), h) | _, _ => none
def wMul (a b : W) (h : MH) : Option (W × MH) := match a, b with | .int i, .int j => if (-(2 ^ 64) < i ∧ i < 2 ^ 64) ∨ (-(2 ^ 64) < j ∧ j < 2 ^ 64) then some (.int (i * j), h) else none | _, _ => none
def wDiv (a b : W) (h : MH) : Option (W × MH) := match a, b with | .int i, .int j => if 0 < j ∧ j < 1073741824 then some (.int (i / j), h) else none | _, _ => none
def wMod (a b : W) (h : MH) : Option (W × MH) := match a, b with | .int i, .int j => if 0 < j then some (.int (i % j), h) else none | _, _ => none
def wPow (a b : W) (h : MH) : Option (W × MH) := match a, b with | .int i, .int j => if 0 ≤ j ∧ j ≤ 1000000 ∧ i.natAbs < 2 ^ 64 then some (.int (i ^ j.toNat), h) else none | _, _ => none
def wLt (a b : W) (h : MH) : Option (W × MH) := match a, b with | .int i, .int j => some (.bl (decide (i < j)), h) | .str x, .str y => some (.bl (decide (x.cps.toList < y.cps.toList)), h) | _, _ => none
def wLe (a b : W) (h : MH) : Option (W × MH) := match a, b with | .int i, .int j => some (.bl (decide (i ≤ j)), h) | .str x, .str y => some (.bl (!decide (y.cps.toList < x.cps.toList)), h) | _, _ => none
def wGt (a b : W) (h : MH) : Option (W × MH) := match a, b with | .int i, .int j => some (.bl (decide (j < i)), h) | _, _ => none
def wGe (a b : W) (h : MH) : Option (W × MH) := match a, b with | .int i, .int j => some (.bl (decide (j ≤ i)), h) | _, _ => none
def isNonW : W → Bool
  | .non => true
  | _ => false
/-- is, beside None, True, False -/
def wIs (a b : W) (h : MH) : Option (W × MH) := match b with
  | .non => some (.bl (isNonW a), h)
  | .bl y => match a with | .bl x => some (.bl (x == y), h) | _ => none
  | _ => none
def wIsNot (a b : W) (h : MH) : Option (W × MH) := match b with
  | .non => some (.bl (!isNonW a), h)
  | _ => none
theorem rw_non {K : PySem.W.Frag} {R : Rn} {a : W} {v : V} (r : Rw K R a v) : decide (v = .non) = isNonW a := by
  cases a with
  | non => rw [r.non_eq]; rfl
  | bl _ => rw [r.bl_eq]; rfl
  | int _ => rw [r.int_eq]; rfl
  | str _ => rw [r.str_eq]; rfl
  | ty _ => rw [r.ty_eq]; rfl
  | tup _ => unfold Rw at r; obtain ⟨_, _, rfl, _⟩ := r; rfl
  | lst _ => unfold Rw at r; obtain ⟨_, _, rfl, _⟩ := r; rfl
  | frz _ => unfold Rw at r; obtain ⟨_, _, rfl, _⟩ := r; rfl
  | ref _ => unfold Rw at r; obtain ⟨_, rfl⟩ := r; rfl
section
variable {X : Cx}
/-- t + u of tuples -/
def rCatA (K : PySem.W.Frag) : R2 := fun x y H Q => ∃ a b xs ys, x = .ref a ∧ y = .ref b ∧ SqT K H a xs ∧ SqT K H b ys ∧ xs.length + ys.length ≤ sizeLine ∧
  (xs = [] → Q (.ref b) H) ∧ (xs ≠ [] → ys = [] → Q (.ref a) H) ∧ (xs ≠ [] → ys ≠ [] → ∀ p, H p = none → Q (.ref p) (upd H p (.tup (xs ++ ys))))
theorem op_catA : OpR X (binaryOp .Add) (rCatA X.K) := by
  intro pins s σ H x y v u Q I rx ry h
  obtain ⟨a, b, xs, ys, rfl, rfl, ha, hb, hz, q0, q1, q2⟩ := h
  by_cases hx : xs = []
  · subst hx
    cases rx
    cases ry
    obtain ⟨its, r1, p1, _⟩ := I.tuple ha
    obtain ⟨its2, r2, p2, _⟩ := I.tuple hb
    cases r1
    obtain ⟨⟨cls, dd, data, sl⟩, ho, hc, n, hd⟩ := id p1
    obtain ⟨⟨cls2, dd2, data2, sl2⟩, ho2, hc2, n2, hd2⟩ := id p2
    simp only at hc hd hc2 hd2
    subst hc hd hc2 hd2
    exact concat_meets ⟨_, ho, rfl⟩ ⟨_, ho2, rfl⟩ noFill_tuple_add seq_tuple_add PySem.F.slot_tuple_add PySem.F.entry_tuple_add (PySem.F.args_tuple_add_2 _ _)
      (tuple_addW0 a b #[] its2.toArray n n2 dd dd2 sl sl2 (by simp)) ⟨ho, ho2, ⟨.ref b, H, I, rfl, q0 rfl⟩⟩
  · exact op_catT pins s σ H _ _ v u Q I rx ry ⟨a, b, xs, ys, rfl, rfl, ha, hb, hx, hz, q1 hx, q2 hx⟩
theorem op_le_str : OpR X (compareOp .LtE) (fun x y H Q => ∃ i j, x = .str i ∧ y = .str j ∧ Q (.bl (!decide (j.cps.toList < i.cps.toList))) H) := by
  intro pins s σ H x y v u Q I rx ry h
  obtain ⟨i, j, rfl, rfl, q⟩ := h
  obtain ⟨t, rfl⟩ := rx
  obtain ⟨t', rfl⟩ := ry
  exact PySem.P.le_str ⟨.bl _, H, I, rfl, q⟩
theorem op_isB : OpR X (compareOp .Is) (fun x y H Q => ∃ i j, x = .bl i ∧ y = .bl j ∧ Q (.bl (i == j)) H) := by
  intro pins s σ H x y v u Q I rx ry h
  obtain ⟨i, j, rfl, rfl, q⟩ := h
  cases rx
  cases ry
  exact is_bool ⟨.bl _, H, I, rfl, q⟩
theorem opr_add : OpR X (binaryOp .Add) (F2 X.K wAdd) := by
  intro pins s σ H x y v u Q I rx ry q
  refine (op_add.or (op_add_str.or (op_catA.or op_cat))) pins s σ H x y v u Q I rx ry ?_
  obtain ⟨R, h, a, b, w, h', rh, ra, rb, e, k⟩ := q
  unfold wAdd at e
  split at e
  · cases e
    exact .inl ⟨_, _, ra.int_eq, rb.int_eq, k R H _ (Ext.refl _) rh (Rw.int _)⟩
  · split at e
    · rename_i hl
      cases e
      exact .inr (.inl ⟨_, _, ra.str_eq, rb.str_eq, hl, k R H _ (Ext.refl _) rh (Rw.str _)⟩)
    · cases e
  · split at e
    · rename_i xs ys hl
      cases e
      obtain ⟨ad, xv, e1, q1, r1⟩ := rh.tupAt ra
      obtain ⟨bd, yv, e2, q2, r2⟩ := rh.tupAt rb
      have l1 := r1.length; have l2 := r2.length
      refine .inr (.inr (.inl ⟨ad, bd, xv, yv, e1, e2, q1, q2, by omega, fun z => ?_, fun _ z => ?_, fun _ _ p hp => ?_⟩))
      · subst z
        have : xs = [] := List.length_eq_zero_iff.mp l1
        subst this
        exact k R H _ (Ext.refl _) rh (e2 ▸ rb)
      · subst z
        have : ys = [] := List.length_eq_zero_iff.mp l2
        subst this
        rw [List.append_nil] at k
        exact k R H _ (Ext.refl _) rh (e1 ▸ ra)
      · obtain ⟨R3, x3, rh3, rw3⟩ := rh.tup hp (Rws.append r1 r2)
        exact k R3 _ _ x3 rh3 rw3
    · cases e
  · obtain ⟨xs, e1, e⟩ := Option.bind_eq_some_iff.mp e
    obtain ⟨ys, e2, e⟩ := Option.bind_eq_some_iff.mp e
    split at e
    · rename_i hl
      cases e
      obtain ⟨ad, xv, f1, q1, r1⟩ := rh.loAt ra e1
      obtain ⟨bd, yv, f2, q2, r2⟩ := rh.loAt rb e2
      have l1 := r1.length; have l2 := r2.length
      refine .inr (.inr (.inr ⟨ad, bd, xv, yv, f1, f2, q1, q2, by omega, fun p hp => ?_⟩))
      obtain ⟨R3, x3, rh3, rw3⟩ := rh.lstI hp (Rws.append r1 r2)
      exact k R3 _ _ x3 rh3 rw3
    · cases e
theorem opr_sub : OpR X (binaryOp .Sub) (F2 X.K wSub) := by
  intro pins s σ H x y v u Q I rx ry q
  refine op_sub pins s σ H x y v u Q I rx ry ?_
  obtain ⟨R, h, a, b, w, h', rh, ra, rb, e, k⟩ := q
  unfold wSub at e
  split at e
  · cases e
    exact ⟨_, _, ra.int_eq, rb.int_eq, k R H _ (Ext.refl _) rh (Rw.int _)⟩
  · cases e
theorem opr_mul : OpR X (binaryOp .Mult) (F2 X.K wMul) := by
  intro pins s σ H x y v u Q I rx ry q
  refine op_mul pins s σ H x y v u Q I rx ry ?_
  obtain ⟨R, h, a, b, w, h', rh, ra, rb, e, k⟩ := q
  unfold wMul at e
  split at e
  · split at e
    · rename_i hl
      cases e
      exact ⟨_, _, ra.int_eq, rb.int_eq, hl, k R H _ (Ext.refl _) rh (Rw.int _)⟩
    · cases e
  · cases e
theorem opr_div : OpR X (binaryOp .FloorDiv) (F2 X.K wDiv) := by
  intro pins s σ H x y v u Q I rx ry q
  refine op_fdiv pins s σ H x y v u Q I rx ry ?_
  obtain ⟨R, h, a, b, w, h', rh, ra, rb, e, k⟩ := q
  unfold wDiv at e
  split at e
  · split at e
    · rename_i hl
      cases e
      exact ⟨_, _, ra.int_eq, rb.int_eq, hl, k R H _ (Ext.refl _) rh (Rw.int _)⟩
    · cases e
  · cases e
theorem opr_mod : OpR X (binaryOp .Mod) (F2 X.K wMod) := by
  intro pins s σ H x y v u Q I rx ry q
  refine op_mod pins s σ H x y v u Q I rx ry ?_
  obtain ⟨R, h, a, b, w, h', rh, ra, rb, e, k⟩ := q
  unfold wMod at e
  split at e
  · split at e
    · rename_i hl
      cases e
      exact ⟨_, _, ra.int_eq, rb.int_eq, hl, k R H _ (Ext.refl _) rh (Rw.int _)⟩
    · cases e
  · cases e
theorem opr_pow : OpR X (binaryOp .Pow) (F2 X.K wPow) := by
  intro pins s σ H x y v u Q I rx ry q
  refine op_pow pins s σ H x y v u Q I rx ry ?_
  obtain ⟨R, h, a, b, w, h', rh, ra, rb, e, k⟩ := q
  unfold wPow at e
  split at e
  · split at e
    · rename_i hl
      cases e
      exact ⟨_, _, ra.int_eq, rb.int_eq, hl, k R H _ (Ext.refl _) rh (Rw.int _)⟩
    · cases e
  · cases e
theorem opr_lt : OpR X (compareOp .Lt) (F2 X.K wLt) := by
  intro pins s σ H x y v u Q I rx ry q
  refine (op_lt.or op_lt_str) pins s σ H x y v u Q I rx ry ?_
  obtain ⟨R, h, a, b, w, h', rh, ra, rb, e, k⟩ := q
  unfold wLt at e
  split at e
  · cases e
    exact .inl ⟨_, _, ra.int_eq, rb.int_eq, k R H _ (Ext.refl _) rh (Rw.bl _)⟩
  · cases e
    exact .inr ⟨_, _, ra.str_eq, rb.str_eq, k R H _ (Ext.refl _) rh (Rw.bl _)⟩
  · cases e
theorem opr_le : OpR X (compareOp .LtE) (F2 X.K wLe) := by
  intro pins s σ H x y v u Q I rx ry q
  refine (op_le.or op_le_str) pins s σ H x y v u Q I rx ry ?_
  obtain ⟨R, h, a, b, w, h', rh, ra, rb, e, k⟩ := q
  unfold wLe at e
  split at e
  · cases e
    exact .inl ⟨_, _, ra.int_eq, rb.int_eq, k R H _ (Ext.refl _) rh (Rw.bl _)⟩
  · cases e
    exact .inr ⟨_, _, ra.str_eq, rb.str_eq, k R H _ (Ext.refl _) rh (Rw.bl _)⟩
  · cases e
theorem opr_gt : OpR X (compareOp .Gt) (F2 X.K wGt) := by
  intro pins s σ H x y v u Q I rx ry q
  refine op_gt pins s σ H x y v u Q I rx ry ?_
  obtain ⟨R, h, a, b, w, h', rh, ra, rb, e, k⟩ := q
  unfold wGt at e
  split at e
  · cases e
    exact ⟨_, _, ra.int_eq, rb.int_eq, k R H _ (Ext.refl _) rh (Rw.bl _)⟩
  · cases e
theorem opr_ge : OpR X (compareOp .GtE) (F2 X.K wGe) := by
  intro pins s σ H x y v u Q I rx ry q
  refine op_ge pins s σ H x y v u Q I rx ry ?_
  obtain ⟨R, h, a, b, w, h', rh, ra, rb, e, k⟩ := q
  unfold wGe at e
  split at e
  · cases e
    exact ⟨_, _, ra.int_eq, rb.int_eq, k R H _ (Ext.refl _) rh (Rw.bl _)⟩
  · cases e
theorem opr_is : OpR X (compareOp .Is) (F2 X.K wIs) := by
  intro pins s σ H x y v u Q I rx ry q
  refine (op_isN.or op_isB) pins s σ H x y v u Q I rx ry ?_
  obtain ⟨R, h, a, b, w, h', rh, ra, rb, e, k⟩ := q
  unfold wIs at e
  split at e
  · cases e
    exact .inl ⟨rb.non_eq, by rw [rw_non ra]; exact k R H _ (Ext.refl _) rh (Rw.bl _)⟩
  · split at e
    · cases e
      exact .inr ⟨_, _, ra.bl_eq, rb.bl_eq, k R H _ (Ext.refl _) rh (Rw.bl _)⟩
    · cases e
  · cases e
theorem opr_isNot : OpR X (compareOp .IsNot) (F2 X.K wIsNot) := by
  intro pins s σ H x y v u Q I rx ry q
  refine op_notN pins s σ H x y v u Q I rx ry ?_
  obtain ⟨R, h, a, b, w, h', rh, ra, rb, e, k⟩ := q
  unfold wIsNot at e
  split at e
  · cases e
    exact ⟨rb.non_eq, by rw [rw_non ra]; exact k R H _ (Ext.refl _) rh (Rw.bl _)⟩
  · cases e
/-! ### -x -/
def wNeg (a : W) (h : MH) : Option (W × MH) := match a with | .int i => some (.int (-i), h) | _ => none
theorem pm_neg {a : Expr} {ma : ME} {pos : Pos} (ha : PM X a ma) : PM X (.UnaryOp .USub a pos) (mUn wNeg ma) := pe_imp (pe_un un_neg ha) fun σ H Q q => tI_mono (un1 q) fun x H1 ⟨R, h, a, w, h', rh, ra, e, k⟩ => by
  unfold wNeg at e
  split at e
  · cases e
    exact ⟨_, ra.int_eq, k R H1 _ (Ext.refl _) rh (Rw.int _)⟩
  · cases e
/-! ### a[i] -/
def wIx (a b : W) (h : MH) : Option (W × MH) := match b with
  | .int i => match a with
    | .tup ws => (atI ws i).map fun w => (w, h)
    | .str x => if x.length ≤ sizeLine then (atI x.cps.toList i).map fun c => (.str ⟨#[c]⟩, h) else none
    | a => (lsW h a).bind fun ws => (atI ws i).map fun w => (w, h)
  | _ => none
theorem atI_rel {K : PySem.W.Frag} {R : Rn} {ws : List W} {xs : List V} (r : Rws K R ws xs) {i : Int} {w : W} (e : atI ws i = some w) : ∃ v, atI xs i = some v ∧ Rw K R w v := by
  unfold atI at e ⊢
  rw [← r.length]
  obtain ⟨j, e1, e2⟩ := Option.bind_eq_some_iff.mp e
  obtain ⟨v, e3, e4⟩ := r.get e2
  exact ⟨v, by rw [e1]; exact e3, e4⟩
theorem ixr_all : IxR X (F2 X.K wIx) := by
  intro value slice pins s σ H x y v u Q I rx ry q hs
  refine ix_seq value slice pins s σ H x y v u Q I rx ry ?_ hs
  obtain ⟨R, h, a, b, w, h', rh, ra, rb, e, k⟩ := q
  unfold wIx at e
  split at e
  · rename_i i
    split at e
    · rename_i ws
      obtain ⟨w1, e1, e2⟩ := Option.map_eq_some_iff.mp e
      cases e2
      obtain ⟨ad, xs, rfl, q1, r1⟩ := rh.tupAt ra
      obtain ⟨v1, e3, r3⟩ := atI_rel r1 e1
      exact .inr (.inl ⟨ad, xs, i, v1, rfl, rb.int_eq, q1, e3, k R H _ (Ext.refl _) rh r3⟩)
    · split at e
      · rename_i hl
        obtain ⟨c, e1, e2⟩ := Option.map_eq_some_iff.mp e
        cases e2
        exact .inr (.inr ⟨_, i, c, ra.str_eq, rb.int_eq, hl, e1, k R H _ (Ext.refl _) rh (Rw.str _)⟩)
      · cases e
    · obtain ⟨ws, e0, e⟩ := Option.bind_eq_some_iff.mp e
      obtain ⟨w1, e1, e2⟩ := Option.map_eq_some_iff.mp e
      cases e2
      obtain ⟨ad, xs, rfl, q1, r1⟩ := rh.lsAt ra e0
      obtain ⟨v1, e3, r3⟩ := atI_rel r1 e1
      exact .inl ⟨ad, xs, i, v1, rfl, rb.int_eq, q1, e3, k R H _ (Ext.refl _) rh r3⟩
  · cases e
theorem pm_ix {a b : Expr} {ma mb : ME} {pos : Pos} (ha : PM X a ma) (hb : PM X b mb) (hs : PlainIx b := by intro _ _; rfl) : PM X (.Subscript a b pos) (mBin wIx ma mb) :=
  pe_imp (pe_ix ixr_all ha hb hs) fun _ _ _ q => tI_mono (bin2 q) fun _ _ q1 => tI_mono q1 fun _ _ q2 => q2
/-! ### len -/
def wLen (ws : List W) (h : MH) : Option (W × MH) := match ws with
  | [.str x] => if x.length ≤ sizeLine then some (.int x.length, h) else none
  | [.tup ws] => some (.int ws.length, h)
  | [a] => (lsW h a).map fun ws => (.int ws.length, h)
  | _ => none
theorem callM_id {K : PySem.W.Frag} {f : List W → MH → Option (W × MH)} : CallM K (Fs K f) f := fun _ _ _ q => q
theorem rws1 {K : PySem.W.Frag} {R : Rn} {a : W} {xs : List V} (r : Rws K R [a] xs) : ∃ v, xs = [v] ∧ Rw K R a v := by
  rw [Rws.cons_iff] at r
  obtain ⟨v, vs, rfl, r1, r2⟩ := r
  rw [Rws.nil_iff] at r2
  subst r2
  exact ⟨v, rfl, r1⟩
theorem rws2 {K : PySem.W.Frag} {R : Rn} {a b : W} {xs : List V} (r : Rws K R [a, b] xs) : ∃ v u, xs = [v, u] ∧ Rw K R a v ∧ Rw K R b u := by
  rw [Rws.cons_iff] at r
  obtain ⟨v, vs, rfl, r1, r2⟩ := r
  obtain ⟨u, rfl, r3⟩ := rws1 r2
  exact ⟨v, u, rfl, r1, r3⟩
theorem callr_len : CallR X (.builtin "len") (Fs X.K wLen) := by
  intro pins s σ H xs us Q I r q
  refine (call_len_seq.or call_len_str) pins s σ H xs us Q I r ?_
  obtain ⟨R, h, ws, w, h', rh, rw, e, k⟩ := q
  unfold wLen at e
  split at e
  · split at e
    · rename_i hl
      cases e
      obtain ⟨v, rfl, r1⟩ := rws1 rw
      exact .inr ⟨_, by rw [r1.str_eq], hl, k R H _ (Ext.refl _) rh (Rw.int _)⟩
    · cases e
  · cases e
    obtain ⟨v, rfl, r1⟩ := rws1 rw
    obtain ⟨ad, xs, rfl, q1, r2⟩ := rh.tupAt r1
    exact .inl ⟨ad, xs, rfl, .inr q1, by rw [← r2.length]; exact k R H _ (Ext.refl _) rh (Rw.int _)⟩
  · obtain ⟨ys, e1, e2⟩ := Option.map_eq_some_iff.mp e
    cases e2
    obtain ⟨v, rfl, r1⟩ := rws1 rw
    obtain ⟨ad, xs, rfl, q1, r2⟩ := rh.lsAt r1 e1
    exact .inl ⟨ad, xs, rfl, .inl q1, by rw [← r2.length]; exact k R H _ (Ext.refl _) rh (Rw.int _)⟩
  · cases e
/-! ### tuple(x), list(x) -/
def wTuple (ws : List W) (h : MH) : Option (W × MH) := match ws with
  | [.tup ws] => some (.tup ws, h)
  | [a] => (lsW h a).map fun ws => (.tup ws, h)
  | _ => none
def wList (ws : List W) (h : MH) : Option (W × MH) := match ws with
  | [.tup ws] => some (.lst ws, h)
  | [a] => (lsW h a).map fun ws => (.lst ws, h)
  | _ => none
theorem callr_tuple : CallR X (.type "tuple") (Fs X.K wTuple) := by
  intro pins s σ H xs us Q I r q
  refine call_tuple_of pins s σ H xs us Q I r ?_
  obtain ⟨R, h, ws, w, h', rh, rw, e, k⟩ := q
  unfold wTuple at e
  split at e
  · cases e
    obtain ⟨v, rfl, r1⟩ := rws1 rw
    obtain ⟨ad, xs, rfl, q1, r2⟩ := rh.tupAt r1
    exact ⟨ad, xs, rfl, .inr ⟨q1, k R H _ (Ext.refl _) rh r1⟩⟩
  · obtain ⟨ys, e1, e2⟩ := Option.map_eq_some_iff.mp e
    cases e2
    obtain ⟨v, rfl, r1⟩ := rws1 rw
    obtain ⟨ad, xs, rfl, q1, r2⟩ := rh.lsAt r1 e1
    refine ⟨ad, xs, rfl, .inl ⟨q1, fun p hp => ?_⟩⟩
    obtain ⟨R3, x3, rh3, rw3⟩ := rh.tup hp r2
    exact k R3 _ _ x3 rh3 rw3
  · cases e
theorem callr_list : CallR X (.type "list") (Fs X.K wList) := by
  intro pins s σ H xs us Q I r q
  refine call_list_of pins s σ H xs us Q I r ?_
  obtain ⟨R, h, ws, w, h', rh, rw, e, k⟩ := q
  unfold wList at e
  split at e
  · cases e
    obtain ⟨v, rfl, r1⟩ := rws1 rw
    obtain ⟨ad, xs, rfl, q1, r2⟩ := rh.tupAt r1
    refine ⟨ad, xs, rfl, .inr q1, fun p hp => ?_⟩
    obtain ⟨R3, x3, rh3, rw3⟩ := rh.lstI hp r2
    exact k R3 _ _ x3 rh3 rw3
  · obtain ⟨ys, e1, e2⟩ := Option.map_eq_some_iff.mp e
    cases e2
    obtain ⟨v, rfl, r1⟩ := rws1 rw
    obtain ⟨ad, xs, rfl, q1, r2⟩ := rh.lsAt r1 e1
    refine ⟨ad, xs, rfl, .inl q1, fun p hp => ?_⟩
    obtain ⟨R3, x3, rh3, rw3⟩ := rh.lstI hp r2
    exact k R3 _ _ x3 rh3 rw3
  · cases e
/-! ### all(xs) of truths -/
def blsW : List W → Option (List Bool)
  | [] => some []
  | .bl b :: r => (blsW r).map (b :: ·)
  | _ => none
def wAll (ws : List W) (h : MH) : Option (W × MH) := match ws with
  | [a] => (lsW h a).bind fun ws => (blsW ws).map fun bs => (.bl (bs.all id), h)
  | _ => none
theorem bls_rel {K : PySem.W.Frag} {R : Rn} : ∀ {ws : List W} {xs : List V} {bs : List Bool}, Rws K R ws xs → blsW ws = some bs → xs = bs.map V.bl
  | [], xs, bs, r, e => by rw [Rws.nil_iff] at r; subst r; cases e; rfl
  | w :: ws, xs, bs, r, e => by
    rw [Rws.cons_iff] at r
    obtain ⟨v, vs, rfl, r1, r2⟩ := r
    cases w <;> simp only [blsW] at e <;> first | cases e | skip
    obtain ⟨cs, e1, e2⟩ := Option.map_eq_some_iff.mp e
    subst e2
    rw [r1.bl_eq, bls_rel r2 e1]; rfl
theorem vals_bls : ∀ {bs : List Bool} {us : List Value}, Vals (bs.map V.bl) us → us = bs.map Value.bool
  | [], us, r => by cases r; rfl
  | b :: bs, us, r => by
    cases r with
    | cons r1 r2 => cases r1; rw [vals_bls r2]; rfl
theorem all_getD : ∀ bs : List Bool, (List.range bs.length).all (fun i => bs.getD i false) = bs.all id
  | [] => rfl
  | b :: bs => by rw [List.length_cons, List.range_succ_eq_map, List.all_cons, List.all_map, List.all_cons, ← all_getD bs]; rfl
theorem callr_all (hc : X.calm = true) : CallR X (.builtin "all") (Fs X.K wAll) := by
  intro pins s σ H xs us Q I r q
  obtain ⟨R, h, ws, w, h', rh, rw, e, k⟩ := q
  unfold wAll at e
  split at e
  · rename_i a
    obtain ⟨ys, e1, e⟩ := Option.bind_eq_some_iff.mp e
    obtain ⟨bs, e2, e3⟩ := Option.map_eq_some_iff.mp e
    cases e3
    obtain ⟨v, rfl, r1⟩ := rws1 rw
    obtain ⟨ad, xs, rfl, q1, r2⟩ := rh.lsAt r1 e1
    obtain ⟨u, rfl, ru⟩ := vals1 r
    cases ru
    obtain ⟨its, t1, p1, hz⟩ := I.list q1
    have hb := bls_rel r2 e2
    subst hb
    have hi := vals_bls t1
    subst hi
    refine call_all_walk (wpAny_pyIter_list p1.isList ?_)
    have hne : ad ≠ s.heap.objs.size := fun z => by
      obtain ⟨o, n, h1, _⟩ := p1
      exact sz h1 (Nat.le_refl _) z
    refine ⟨s.heap.objs.size, _, _, _, _, _, fun i => bs.getD i false, rfl, Walks.list (A := X.A.in1) (show X.A.in1.handled = none from I.ok.hd hc) _ ad hne (bs.map Value.bool).toArray, ?_, ?_, fun h' tk hk => ?_⟩
    · exact ⟨⟨_, Heap.get?_push_size _ rfl, rfl, rfl⟩, p1.isList.at fun o e => Heap.get?_push_of_some _ e⟩
    · intro i v s' Q' E' hv hq
      have hv' : (bs.map Value.bool)[i]? = some v := by simpa using hv
      rw [List.getElem?_map] at hv'
      obtain ⟨b, hb, rfl⟩ := Option.map_eq_some_iff.mp hv'
      refine wpAny_truthy_bool ?_
      have : bs.getD i false = b := by rw [List.getD_eq_getElem?_getD, hb]; rfl
      exact this ▸ hq
    · have e3 : (List.range (bs.map Value.bool).toArray.size).all (fun i => bs.getD i false) = bs.all id := by
        rw [List.size_toArray, List.length_map]
        exact all_getD bs
      rw [e3]
      have I0 := I.kept (t' := s.toks) (h' := s.heap.push { cls := .type "list_iterator", data := .fields #[.ref ad, .int 0 0] }) fun b o e => Heap.get?_push_of_some _ e
      have I' := I0.turned (t' := tk) (h' := h') (it := s.heap.objs.size) (fun b o hb e => hk b o (by simpa using hb) e) (I.hok.fresh (Nat.le_refl _)) (fun z => Nat.lt_irrefl _ (z ▸ I.lt : s.heap.objs.size < s.heap.objs.size)) (.inr I.sz) (fun x c e z => by
        obtain ⟨v, o, h3, _⟩ := I.cell x c e
        exact sz h3 (Nat.le_refl _) z) fun p hp z => sz (I.pin p hp).1 (Nat.le_refl _) z
      exact ⟨.bl _, H, I', rfl, k R H _ (Ext.refl _) rh (Rw.bl _)⟩
  · cases e
end
end Mi

namespace Mi
open PySem PySem.Spec PyProof.Rows L2

/-! ### slices -/
section
variable {prog : Program} {w : World} {A : Around} {E : Value → Shared → Prop} {s : Shared}
theorem getItem_tuple_whole {t sl : Addr} {items : Array Value} {vl vu : Value} {lo hi : Option Int} {Q : Value → Shared → Prop} (ht : IsTup s.heap t items) (hs : s.heap.IsSliceOf sl vl vu .none) (pl : IsPart vl lo) (pu : IsPart vu hi)
    (hw : HT.sIx items.size 0 lo = 0 ∧ HT.sIx items.size items.size hi = items.size) (h : Q (.ref t) s) : wpAny (model prog w) A (getItem (.ref t) (.ref sl)) Q E s := by
  obtain ⟨os, hos, hcs, hds⟩ := id hs
  have hTs : s.TypeIs (.ref sl) "slice" := ⟨os, hos, hcs⟩
  unfold getItem
  try with_reducible refine wpAny_holding ?_
  first | refine wpAny_bind (wpAny_pure ?_) | skip
  refine wpAny_bind (wpAny_sequenceKey ht.typeIs (by decide) ?_)
  refine wpAny_bind (wpAny_callSpecial?_slot (name := Str.ofString "__getitem__") ht.typeIs PyProof.Rows.slot_tuple_getitem
    (wpAny_call_entry PyProof.Rows.slot_tuple_getitem ht.typeIs entry_tuple_getitem ?_ (args_tuple_getitem _ _)))
  show wpAny _ _ (Builtin.Tuple.tupleItemsOf (.ref t) >>= _) _ _ s
  refine wpAny_bind (tupleItemsOf_ ht ?_)
  refine wpAny_bind (wpAny_typeOf hTs ?_)
  rw [if_pos (by decide)]
  refine wpAny_bind (HT.sliceApplied_gen hs pl pu ?_)
  have hno : ((((HT.sIx items.size 0 lo : Nat) : Int) == 0 && (1 : Int) == 1 && (HT.sIx items.size items.size hi - HT.sIx items.size 0 lo) == items.size) = true) := by
    rw [hw.1, hw.2]; simp
  show wpAny _ _ (if (((HT.sIx items.size 0 lo : Nat) : Int) == 0 && (1 : Int) == 1 && (HT.sIx items.size items.size hi - HT.sIx items.size 0 lo) == items.size) = true then _ else _) _ _ s
  rw [if_pos hno]
  refine wpAny_bind (m := Builtin.Tuple.tupleIsExact _) ?_
  unfold Builtin.Tuple.tupleIsExact
  refine wpAny_bind (wpAny_typeOf ht.typeIs (wpAny_pure ?_))
  rw [if_pos (by decide)]
  exact wpAny_bind (wpAny_rule (wpAny_pure ⟨_, rfl, wpAny_pure h⟩))
end
/-- the part lo:hi -/
def cutW {α : Type} (xs : List α) (lo hi : Option Int) : List α := (xs.drop (HT.sIx xs.length 0 lo)).take (HT.sIx xs.length xs.length hi - HT.sIx xs.length 0 lo)
def wSl (a : W) (lo hi : Option Int) (h : MH) : Option (W × MH) := match a with
  | .tup ws => some (.tup (cutW ws lo hi), h)
  | .str x => if x.length ≤ sizeLine then some (.str (Txt.slice x lo hi), h) else none
  | a => (lsW h a).map fun ws => (.lst (cutW ws lo hi), h)
theorem cut_rel {K : PySem.W.Frag} {R : Rn} {ws : List W} {xs : List V} (r : Rws K R ws xs) (lo hi : Option Int) : Rws K R (cutW ws lo hi) (cutV xs lo hi) := by
  unfold cutW cutV
  rw [r.length]
  exact (r.drop _).take _
theorem cutW_length {α : Type} (xs : List α) (lo hi : Option Int) : (cutW xs lo hi).length ≤ xs.length := by
  unfold cutW
  rw [List.length_take, List.length_drop]; omega
theorem cutW_whole {α : Type} {xs : List α} {lo hi : Option Int} (h : HT.sIx xs.length 0 lo = 0 ∧ HT.sIx xs.length xs.length hi = xs.length) : cutW xs lo hi = xs := by
  unfold cutW
  rw [h.1, h.2]; simp
abbrev MOp := MSt → MH → Option (Option Int × MH)
def tIO (K : PySem.W.Frag) (m : MOp) : TO := fun σ H Q => ∃ R σi h o h', Rh K R h H ∧ Rst K R σi σ ∧ m σi h = some (o, h') ∧ ∀ R' H', Ext R R' → Rh K R' h' H' → Q o H'
def PMO (X : Cx) (e : Option Expr) (m : MOp) : Prop := PO X e (tIO X.K m)
def oNone : MOp := fun _ h => some (none, h)
def oSome (m : ME) : MOp := fun σ h => (m σ h).bind fun p => match p.1 with | .int i => some (some i, p.2) | _ => none
def mSl (ma : ME) (ml mh : MOp) : ME := fun σ h => (ma σ h).bind fun p => (ml σ p.2).bind fun q => (mh σ q.2).bind fun r => wSl p.1 q.1 r.1 r.2
section
variable {X : Cx}
theorem sl_tupA : SlR X (fun x lo hi H Q => ∃ a xs, x = .ref a ∧ SqT X.K H a xs ∧ ((HT.sIx xs.length 0 lo = 0 ∧ HT.sIx xs.length xs.length hi = xs.length) → Q (.ref a) H) ∧
    (¬ (HT.sIx xs.length 0 lo = 0 ∧ HT.sIx xs.length xs.length hi = xs.length) → ∀ p, H p = none → Q (.ref p) (upd H p (.tup (cutV xs lo hi))))) := by
  intro pins s σ H x v vl vu lo hi sl Q I rx hs pl pu h
  obtain ⟨a, xs, rfl, hx, q1, q2⟩ := h
  by_cases hw : HT.sIx xs.length 0 lo = 0 ∧ HT.sIx xs.length xs.length hi = xs.length
  · cases rx
    obtain ⟨its, r, ht, hz⟩ := I.tuple hx
    have hlen : its.toArray.size = xs.length := by rw [List.size_toArray]; exact r.length.symm
    refine ⟨"tuple", _, PyProof.Rows.slot_tuple_getitem.lookup, ht.typeIs, ?_⟩
    exact getItem_tuple_whole ht hs pl pu (by rw [hlen]; exact hw) ⟨.ref a, H, I, rfl, q1 hw⟩
  · exact sl_tup pins s σ H (.ref a) v vl vu lo hi sl Q I rx hs pl pu ⟨a, xs, rfl, hx, hw, q2 hw⟩
theorem sl_str : SlR X (fun x lo hi H Q => ∃ z, x = .str z ∧ z.length ≤ sizeLine ∧ Q (.str (Txt.slice z lo hi)) H) := by
  intro pins s σ H x v vl vu lo hi sl Q I rx hs pl pu h
  obtain ⟨z, rfl, hz, q⟩ := h
  obtain ⟨t, rfl⟩ := rx
  refine ⟨"str", _, PySem.F.slot_str_getitem.lookup, typeIs_str _ _ _, ?_⟩
  have fin : ∀ (t' : Tok) (k : Nat), EP X pins σ Q (.str (Txt.slice z lo hi) t') { s with toks := k } := fun t' k => ⟨.str _, H, I.tok _, ⟨t', rfl⟩, q⟩
  cases pl with
  | none =>
    cases pu with
    | none => exact wpAny_getItem_str_slice (l := none) (u := none) (st := none) hs rfl (post_val_or_str ⟨Nat.le_trans (Txt.slice_le z _ _) hz, fin⟩)
    | int j tj => exact wpAny_getItem_str_slice (l := none) (u := some (j, tj)) (st := none) hs rfl (post_val_or_str ⟨Nat.le_trans (Txt.slice_le z _ _) hz, fin⟩)
  | int i ti =>
    cases pu with
    | none => exact wpAny_getItem_str_slice (l := some (i, ti)) (u := none) (st := none) hs rfl (post_val_or_str ⟨Nat.le_trans (Txt.slice_le z _ _) hz, fin⟩)
    | int j tj => exact wpAny_getItem_str_slice (l := some (i, ti)) (u := some (j, tj)) (st := none) hs rfl (post_val_or_str ⟨Nat.le_trans (Txt.slice_le z _ _) hz, fin⟩)
theorem pmo_none : PMO X none oNone := fun pins s σ H Q I ⟨R, σi, h, o, h', rh, st, e, k⟩ => by
  cases e
  exact po_none pins s σ H Q I (k R H (Ext.refl _) rh)
theorem pmo_some {e : Expr} {m : ME} (he : PM X e m) : PMO X (some e) (oSome m) := fun pins s σ H Q I ⟨R, σi, h, o, h', rh, st, e1, k⟩ => by
  refine po_some he pins s σ H Q I ?_
  obtain ⟨⟨w, h1⟩, e2, e3⟩ := Option.bind_eq_some_iff.mp e1
  refine ⟨R, σi, h, w, h1, rh, st, e2, fun R1 H1 v x1 rh1 rv => ?_⟩
  cases w <;> simp only at e3 <;> first | (cases e3; exact ⟨_, rv.int_eq, k R1 H1 x1 rh1⟩) | cases e3
theorem pm_slice {a : Expr} {lo hi : Option Expr} {ma : ME} {ml mh : MOp} {pos p2 : Pos} (ha : PM X a ma) (hl : PMO X lo ml) (hh : PMO X hi mh) : PM X (.Subscript a (.Slice lo hi none p2) pos) (mSl ma ml mh) :=
  pe_imp (pe_slice (sl_list.or (sl_tupA.or sl_str)) ha hl hh) fun σ H Q ⟨R, σi, h, w, h', rh, st, e, k⟩ => by
    obtain ⟨⟨a, h1⟩, ea, e2⟩ := Option.bind_eq_some_iff.mp e
    obtain ⟨⟨l, h2⟩, el, e3⟩ := Option.bind_eq_some_iff.mp e2
    obtain ⟨⟨u, h3⟩, eu, e4⟩ := Option.bind_eq_some_iff.mp e3
    refine ⟨R, σi, h, a, h1, rh, st, ea, fun R1 H1 x x1 rh1 rx => ⟨R1, σi, h1, l, h2, rh1, st.mono x1, el, fun R2 H2 x2 rh2 => ⟨R2, σi, h2, u, h3, rh2, st.mono (x1.trans x2), eu, fun R3 H3 x3 rh3 => ?_⟩⟩⟩
    have rx3 := Rw.mono (x2.trans x3) _ _ rx
    have k3 := k.ext (x1.trans (x2.trans x3))
    dsimp only at e4
    unfold wSl at e4
    split at e4
    · cases e4
      obtain ⟨ad, xs, rfl, q1, r1⟩ := rh3.tupAt rx3
      refine .inr (.inl ⟨ad, xs, rfl, q1, fun hw => ?_, fun _ p hp => ?_⟩)
      · rw [cutW_whole (by rw [r1.length]; exact hw)] at k3
        exact k3 R3 H3 _ (Ext.refl _) rh3 rx3
      · obtain ⟨R4, x4, rh4, rw4⟩ := rh3.tup hp (cut_rel r1 l u)
        exact k3 R4 _ _ x4 rh4 rw4
    · split at e4
      · rename_i hz
        cases e4
        exact .inr (.inr ⟨_, rx3.str_eq, hz, k3 R3 H3 _ (Ext.refl _) rh3 (Rw.str _)⟩)
      · cases e4
    · obtain ⟨ys, e5, e6⟩ := Option.map_eq_some_iff.mp e4
      cases e6
      obtain ⟨ad, xs, rfl, q1, r1⟩ := rh3.lsAt rx3 e5
      refine .inl ⟨ad, xs, rfl, q1, fun p hp => ?_⟩
      obtain ⟨R4, x4, rh4, rw4⟩ := rh3.lstI hp (cut_rel r1 l u)
      exact k3 R4 _ _ x4 rh4 rw4
end
/-! ### methods of Python's own values -/
def MtMM (X : Cx) (id : String) (f : W → List W → MH → Option (W × MH)) : Prop :=
  MtR X id (fun x xs H Q => ∃ R h a ws w h', Rh X.K R h H ∧ Rw X.K R a x ∧ Rws X.K R ws xs ∧ f a ws h = some (w, h') ∧ After X.K R w h' Q)
/-- what kind of thing it is -/
def tyW (h : MH) (T : String) : W → Bool
  | .str _ => T == "str"
  | .int _ => T == "int"
  | .lst _ => T == "list"
  | .frz _ => T == "list"
  | .ref n => match h[n]? with | some (.lst _) => T == "list" | some (.dic _) => T == "dict" | none => false
  | _ => false
def mMt (T : String) (f : W → List W → MH → Option (W × MH)) (mo : ME) (ms : MA) : ME := fun σ h => (mo σ h).bind fun p => if tyW p.2 T p.1 = true then (ms σ p.2).bind fun q => f p.1 q.1 q.2 else none
theorem tyV_of {K : PySem.W.Frag} {R : Rn} {h : MH} {H : Hp} {T : String} {a : W} {x : V} (rh : Rh K R h H) (r : Rw K R a x) (e : tyW h T a = true) : tyV K T x H := by
  cases a with
  | str _ => rw [r.str_eq]; exact eq_of_beq e
  | int _ => rw [r.int_eq]; exact eq_of_beq e
  | lst _ =>
    obtain ⟨ad, xs, rfl, q, _⟩ := rh.lstAt r
    exact .inl ⟨eq_of_beq e, xs, SqL.of q⟩
  | frz _ =>
    obtain ⟨ad, xs, rfl, q, _⟩ := rh.frzAt r
    exact .inl ⟨eq_of_beq e, xs, q⟩
  | ref n =>
    simp only [tyW] at e
    split at e
    · rename_i ws hn
      obtain ⟨_, rfl, xs, h1, _⟩ := rh.refAt r hn
      exact .inl ⟨eq_of_beq e, xs, SqL.of h1⟩
    · rename_i kvs hn
      unfold Rw at r
      obtain ⟨kx, h1, _⟩ := rh.obj n _ hn
      rw [r.2]
      exact .inr (.inr (.inl ⟨eq_of_beq e, .inl ⟨kx, h1⟩⟩))
    · cases e
  | _ => cases e
section
variable {X : Cx} {o e : Expr} {es : List Expr} {mo : ME} {ms : MA} {name : Str} {apos cpos : Pos} {T id : String} {f : W → List W → MH → Option (W × MH)}
theorem few_of {X : Cx} {e : Expr} {es : List Expr} {cpos : Pos} (hfew : decide ((e :: es).length < 30) = true) (hs : isStar e = false) (hp : noStar es = true) :
    ((backTo cpos (starEach (e :: es) X.env)).all (fun x => !x.1) && (backToKw cpos (keywordEach [] X.env)).all (fun x => x.1.isSome)
      && decide ((e :: es).length + ([] : List Keyword).length + (if ([] : List Keyword).isEmpty then 0 else 1) < 30)) = true := by
  rw [all_star (by unfold noStar at hp ⊢; rw [List.all_cons, hs, hp]; rfl)]
  exact hfew
theorem pm_mt (pa : PlainAttrs T) (slot : Slot T name id) (hty : typeOf (.builtin id) = pure (.type "method_descriptor")) (hm : MtMM X id f) (ho : PM X o mo) (ha : PMA X (e :: es) ms)
    (hbase : attributeBase o name X.env (eval o X.env) = eval o X.env := by rfl) (hfew : decide ((e :: es).length < 30) = true := by rfl)
    (hline : (apos.endLine == cpos.line) = true := by rfl) (hs : isStar e = false := by rfl) (hplain : noStar es = true := by rfl) :
    PM X (.Call (.Attribute o name apos) (e :: es) [] cpos) (mMt T f mo ms) :=
  pe_imp (pe_bm pa slot hty hm ho ha hbase (few_of hfew hs hplain) hline (star_cons hs) (any_star hplain)) fun σ H Q ⟨R, σi, h, w, h', rh, st, e, k⟩ => by
    obtain ⟨⟨a, h1⟩, ea, e2⟩ := Option.bind_eq_some_iff.mp e
    dsimp only at e2
    split at e2
    · rename_i ht
      obtain ⟨⟨ws, h2⟩, es, e3⟩ := Option.bind_eq_some_iff.mp e2
      exact ⟨R, σi, h, a, h1, rh, st, ea, fun R1 H1 x x1 rh1 rx => ⟨tyV_of rh1 rx ht, R1, σi, h1, ws, h2, rh1, st.mono x1, es, fun R2 H2 xs x2 rh2 rxs => ⟨R2, h2, a, ws, w, h', rh2, Rw.mono x2 _ _ rx, rxs, e3, k.ext (x1.trans x2)⟩⟩⟩
    · cases e2
theorem pm_mt0 (pa : PlainAttrs T) (slot : Slot T name id) (hty : typeOf (.builtin id) = pure (.type "method_descriptor")) (hm : MtMM X id f) (ho : PM X o mo)
    (hbase : attributeBase o name X.env (eval o X.env) = eval o X.env := by rfl) (hline : (apos.endLine == cpos.line) = true := by rfl) : PM X (.Call (.Attribute o name apos) [] [] cpos) (mMt T f mo mNil) :=
  pe_imp (pe_bm0 pa slot hty hm ho hbase hline) fun σ H Q ⟨R, σi, h, w, h', rh, st, e, k⟩ => by
    obtain ⟨⟨a, h1⟩, ea, e2⟩ := Option.bind_eq_some_iff.mp e
    dsimp only at e2
    split at e2
    · rename_i ht
      obtain ⟨⟨ws, h2⟩, es, e3⟩ := Option.bind_eq_some_iff.mp e2
      cases es
      exact ⟨R, σi, h, a, h1, rh, st, ea, fun R1 H1 x x1 rh1 rx => ⟨tyV_of rh1 rx ht, R1, h1, a, [], w, h', rh1, rx, Rws.nil, e3, k.ext x1⟩⟩
    · cases e2
end
/-! lists that change -/
def wAppend (a : W) (ws : List W) (h : MH) : Option (W × MH) := match a, ws with
  | .ref n, [w] => match h[n]? with | some (.lst xs) => if xs.length < sizeLine then some (.non, h.set n (.lst (xs ++ [w]))) else none | _ => none
  | _, _ => none
def wExtend (a : W) (ws : List W) (h : MH) : Option (W × MH) := match a, ws with
  | .ref n, [w] => match h[n]? with | some (.lst xs) => (loW h w).bind fun ys => if xs.length + ys.length ≤ sizeLine then some (.non, h.set n (.lst (xs ++ ys))) else none | _ => none
  | _, _ => none
def wPop (a : W) (ws : List W) (h : MH) : Option (W × MH) := match a, ws with
  | .ref n, [] => match h[n]? with | some (.lst xs) => (xs[xs.length - 1]?).map fun w => (w, h.set n (.lst xs.dropLast)) | _ => none
  | _, _ => none
section
variable {X : Cx}
theorem Rws.dropLast {K : PySem.W.Frag} {R : Rn} {ws : List W} {vs : List V} (r : Rws K R ws vs) : Rws K R ws.dropLast vs.dropLast := by
  rw [List.dropLast_eq_take, List.dropLast_eq_take, r.length]
  exact r.take _
theorem mtm_append : MtMM X "list.append" wAppend := by
  intro pins s σ H x xs v us Q I rx rv q
  refine mt_append pins s σ H x xs v us Q I rx rv ?_
  obtain ⟨R, h, a, ws, w, h', rh, ra, rws, e, k⟩ := q
  unfold wAppend at e
  split at e
  · rename_i n w1
    split at e
    · rename_i ys hn
      split at e
      · rename_i hl
        cases e
        obtain ⟨hlt, rfl, xv, h1, r1⟩ := rh.refAt ra hn
        obtain ⟨y, rfl, ry⟩ := rws1 rws
        refine ⟨_, xv, y, rfl, rfl, h1, by rw [← r1.length]; exact hl, ?_⟩
        exact k R _ _ (Ext.refl _) (rh.put hlt ⟨_, rfl, Rws.append r1 (Rws.cons ry Rws.nil)⟩) Rw.non
      · cases e
    · cases e
  · cases e
theorem mtm_extend : MtMM X "list.extend" wExtend := by
  intro pins s σ H x xs v us Q I rx rv q
  refine mt_extend pins s σ H x xs v us Q I rx rv ?_
  obtain ⟨R, h, a, ws, w, h', rh, ra, rws, e, k⟩ := q
  unfold wExtend at e
  split at e
  · rename_i n w1
    split at e
    · rename_i ys hn
      obtain ⟨zs, e1, e⟩ := Option.bind_eq_some_iff.mp e
      split at e
      · rename_i hl
        cases e
        obtain ⟨hlt, rfl, xv, h1, r1⟩ := rh.refAt ra hn
        obtain ⟨y, rfl, ry⟩ := rws1 rws
        obtain ⟨bd, yv, rfl, h2, r2⟩ := rh.loAt ry e1
        refine ⟨_, bd, xv, yv, rfl, rfl, h1, h2, by rw [← r1.length, ← r2.length]; exact hl, ?_⟩
        exact k R _ _ (Ext.refl _) (rh.put hlt ⟨_, rfl, Rws.append r1 r2⟩) Rw.non
      · cases e
    · cases e
  · cases e
theorem mtm_pop : MtMM X "list.pop" wPop := by
  intro pins s σ H x xs v us Q I rx rv q
  refine mt_pop pins s σ H x xs v us Q I rx rv ?_
  obtain ⟨R, h, a, ws, w, h', rh, ra, rws, e, k⟩ := q
  unfold wPop at e
  split at e
  · rename_i n
    split at e
    · rename_i ys hn
      obtain ⟨w1, e1, e2⟩ := Option.map_eq_some_iff.mp e
      cases e2
      obtain ⟨hlt, rfl, xv, h1, r1⟩ := rh.refAt ra hn
      rw [Rws.nil_iff] at rws
      subst rws
      obtain ⟨y, e3, ry⟩ := r1.get e1
      refine ⟨_, xv, y, rfl, rfl, h1, by rw [← r1.length]; exact e3, ?_⟩
      exact k R _ _ (Ext.refl _) (rh.put hlt ⟨_, rfl, r1.dropLast⟩) ry
    · cases e
  · cases e
/-! texts -/
def strsW : List W → Option (List Str)
  | [] => some []
  | .str x :: r => (strsW r).map (x :: ·)
  | _ => none
theorem strs_rel {K : PySem.W.Frag} {R : Rn} : ∀ {ws : List W} {xs : List V} {ys : List Str}, Rws K R ws xs → strsW ws = some ys → xs = ys.map V.str
  | [], xs, ys, r, e => by rw [Rws.nil_iff] at r; subst r; cases e; rfl
  | w :: ws, xs, ys, r, e => by
    rw [Rws.cons_iff] at r
    obtain ⟨v, vs, rfl, r1, r2⟩ := r
    cases w <;> simp only [strsW] at e <;> first | cases e | skip
    obtain ⟨cs, e1, e2⟩ := Option.map_eq_some_iff.mp e
    subst e2
    rw [r1.str_eq, strs_rel r2 e1]; rfl
theorem strsAre_of : ∀ {ys : List Str} {us : List Value}, Vals (ys.map V.str) us → StrsAre us ys
  | [], us, r => by cases r; exact .nil
  | y :: ys, us, r => by
    cases r with
    | cons r1 r2 => obtain ⟨t, rfl⟩ := r1; exact .cons y t (strsAre_of r2)
def wJoin (a : W) (ws : List W) (h : MH) : Option (W × MH) := match a, ws with
  | .str x, [.tup ys] => (strsW ys).bind fun zs => if (zs.map (·.length)).sum + zs.length * x.length ≤ 16777216 then some (.str (Txt.join x zs), h) else none
  | .str x, [b] => (lsW h b).bind fun ys => (strsW ys).bind fun zs => if (zs.map (·.length)).sum + zs.length * x.length ≤ 16777216 then some (.str (Txt.join x zs), h) else none
  | _, _ => none
theorem mtm_join : MtMM X "str.join" wJoin := by
  intro pins s σ H x xs v us Q I rx rv q
  obtain ⟨R, h, a, ws, w, h', rh, ra, rws, e, k⟩ := q
  unfold wJoin at e
  split at e
  · rename_i x1 ys
    obtain ⟨zs, e1, e⟩ := Option.bind_eq_some_iff.mp e
    split at e
    · rename_i hl
      cases e
      obtain ⟨y, rfl, ry⟩ := rws1 rws
      obtain ⟨ad, yv, rfl, q1, r1⟩ := rh.tupAt ry
      obtain ⟨u, rfl, ru⟩ := vals1 rv
      cases ru
      rw [ra.str_eq] at rx
      obtain ⟨t, rfl⟩ := rx
      obtain ⟨its, t1, p1, _⟩ := I.tuple q1
      have := strs_rel r1 e1
      subst this
      exact join_tuple p1 (by simpa using strsAre_of t1) hl fun t' kk => ⟨.str _, H, I.tok _, ⟨t', rfl⟩, k R H _ (Ext.refl _) rh (Rw.str _)⟩
    · cases e
  · rename_i x1 b _
    obtain ⟨ys, e0, e⟩ := Option.bind_eq_some_iff.mp e
    obtain ⟨zs, e1, e⟩ := Option.bind_eq_some_iff.mp e
    split at e
    · rename_i hl
      cases e
      obtain ⟨y, rfl, ry⟩ := rws1 rws
      obtain ⟨ad, yv, rfl, q1, r1⟩ := rh.lsAt ry e0
      obtain ⟨u, rfl, ru⟩ := vals1 rv
      cases ru
      rw [ra.str_eq] at rx
      obtain ⟨t, rfl⟩ := rx
      obtain ⟨its, t1, p1, _⟩ := I.list q1
      have := strs_rel r1 e1
      subst this
      exact join_list p1.isList (by simpa using strsAre_of t1) hl fun t' kk => ⟨.str _, H, I.tok _, ⟨t', rfl⟩, k R H _ (Ext.refl _) rh (Rw.str _)⟩
    · cases e
  · cases e
def wUpper (a : W) (ws : List W) (h : MH) : Option (W × MH) := match a, ws with
  | .str x, [] => if x.length ≤ 5592405 then some (.str (Txt.upper x), h) else none
  | _, _ => none
theorem mtm_upper : MtMM X "str.upper" wUpper := by
  intro pins s σ H x xs v us Q I rx rv q
  obtain ⟨R, h, a, ws, w, h', rh, ra, rws, e, k⟩ := q
  unfold wUpper at e
  split at e
  · split at e
    · rename_i hl
      cases e
      rw [Rws.nil_iff] at rws
      subst rws
      cases rv
      rw [ra.str_eq] at rx
      obtain ⟨t, rfl⟩ := rx
      exact SCL.upper hl fun _ => ⟨.str _, H, I.tok _, ⟨_, rfl⟩, k R H _ (Ext.refl _) rh (Rw.str _)⟩
    · cases e
  · cases e
end
/-! ### isinstance -/
def kindW (h : MH) : W → Option String
  | .non => some "NoneType"
  | .bl _ => some "bool"
  | .int _ => some "int"
  | .str _ => some "str"
  | .tup _ => some "tuple"
  | .lst _ => some "list"
  | .frz _ => some "list"
  | .ref n => match h[n]? with | some (.lst _) => some "list" | some (.dic _) => some "dict" | none => none
  | .ty _ => none
def subKind (k T : String) : Bool := k == T || (k == "bool" && T == "int")
def knownT (T : String) : Bool := T == "str" || T == "int" || T == "bool" || T == "list" || T == "tuple" || T == "dict"
def wIsi (ws : List W) (h : MH) : Option (W × MH) := match ws with
  | [a, .ty T] => if knownT T = true then (kindW h a).map fun k => (.bl (subKind k T), h) else none
  | _ => none
theorem kit_known {K : PySem.W.Frag} {k T : String} (hk : k = "NoneType" ∨ k = "bool" ∨ k = "int" ∨ k = "str" ∨ k = "tuple" ∨ k = "list" ∨ k = "dict") (hT : knownT T = true) : PySem.W.kitOne K (.type k) (.type T) = some (subKind k T) := by
  have hT' : T = "str" ∨ T = "int" ∨ T = "bool" ∨ T = "list" ∨ T = "tuple" ∨ T = "dict" := by
    unfold knownT at hT
    simp only [Bool.or_eq_true, beq_iff_eq] at hT
    rcases hT with ((((h | h) | h) | h) | h) | h <;> simp [h]
  rcases hk with rfl | rfl | rfl | rfl | rfl | rfl | rfl <;> rcases hT' with rfl | rfl | rfl | rfl | rfl | rfl <;> first | rfl | decide +kernel
section
variable {X : Cx}
theorem callr_isi : CallR X (.builtin "isinstance") (Fs X.K wIsi) := by
  intro pins s σ H xs us Q I r q
  obtain ⟨R, h, ws, w, h', rh, rws, e, k⟩ := q
  unfold wIsi at e
  split at e
  · rename_i a T
    split at e
    · rename_i hT
      obtain ⟨kd, e1, e2⟩ := Option.map_eq_some_iff.mp e
      cases e2
      obtain ⟨x, y, rfl, ra, rb⟩ := rws2 rws
      obtain ⟨u, u2, rfl, ru, ru2⟩ := vals2 r
      rw [rb.ty_eq] at ru2
      cases ru2
      have fin : ∀ tk, EP X pins σ Q (.bool (subKind kd T)) { s with toks := tk } := fun tk => ⟨.bl _, H, I.tok _, rfl, k R H _ (Ext.refl _) rh (Rw.bl _)⟩
      have one : ∀ {t : String}, TyOf X.K H x (.type t) → kd = t → (t = "NoneType" ∨ t = "bool" ∨ t = "int" ∨ t = "str" ∨ t = "tuple" ∨ t = "list" ∨ t = "dict") → wpAny (model X.prog X.w) X.A (call (.builtin "isinstance") [u, .type T]) (EP X pins σ Q) X.xe s := fun {t} ty et ht => by
        subst et
        exact isinst_ok I ru ty (kit_known ht hT) fin
      cases a with
      | non => cases e1; rw [ra.non_eq] at one; exact one .non rfl (by simp)
      | bl b => cases e1; rw [ra.bl_eq] at one; exact one (.bl b) rfl (by simp)
      | int i => cases e1; rw [ra.int_eq] at one; exact one (.int i) rfl (by simp)
      | str z => cases e1; rw [ra.str_eq] at one; exact one (.str z) rfl (by simp)
      | tup ys =>
        cases e1
        obtain ⟨ad, yv, rfl, q1, _⟩ := rh.tupAt ra
        cases ru
        obtain ⟨its, _, p, _⟩ := I.tuple q1
        obtain ⟨o, h1, h2, _⟩ := p
        exact PySem.W.kia_one PySem.W.kitx_tuple I.kIn ⟨o, h1, h2⟩ (kit_known (by simp) hT) (fun z => nomatch z) fin
      | lst ys =>
        cases e1
        obtain ⟨ad, yv, rfl, q1, _⟩ := rh.lstAt ra
        exact one (.lst q1) rfl (by simp)
      | frz ys =>
        cases e1
        obtain ⟨ad, yv, rfl, q1, _⟩ := rh.frzAt ra
        cases ru
        obtain ⟨its, _, p, _⟩ := I.list q1
        obtain ⟨o, n, h1, h2, _⟩ := p
        exact PySem.W.kia_one PySem.W.kitx_list I.kIn ⟨o, h1, h2⟩ (kit_known (by simp) hT) (fun z => nomatch z) fin
      | ref n =>
        simp only [kindW] at e1
        split at e1
        · rename_i ys hn
          cases e1
          obtain ⟨_, rfl, yv, h1, _⟩ := rh.refAt ra hn
          exact one (.lst h1) rfl (by simp)
        · rename_i kvs hn
          cases e1
          unfold Rw at ra
          obtain ⟨kx, h1, _⟩ := rh.obj n _ hn
          rw [ra.2] at one
          exact one (.dK h1) rfl (by simp)
        · cases e1
      | ty _ => cases e1
    · cases e
  · cases e
end
end Mi

namespace Mi
open PySem PySem.Spec PyProof.Rows L2

/-! ### a def of the text, to be called -/
structure Cal (P : Program) (w : World) (K : PySem.W.Frag) (mg : Str → Option Value) (base : Heap) (k : Nat) (x : Str) (ps : List Str) (g : FM) : Prop where
  ex : ∃ (f : Addr) (fd : FuncData), FnOk P w K mg base CX0 k f fd ps (spM K ps.length g) ∧ mg x = some (.ref f) ∧ PySem.W.keepIn K (.ref f) = true ∧ Binds K fd ps [] ∧ ∃ (oc : Value) (od : Option Addr) (osl : Array (Option Value)), K.lookup f = some ⟨oc, od, .func fd, osl⟩
/-- a def of the text as it stands behind the top -/
structure DefAt (K : PySem.W.Frag) (mg : Str → Option Value) (x : Str) (st : Stmt) (ps : List Str) : Prop where
  ex : ∃ (f : Addr) (fd : FuncData), Fun K x x st f fd ∧ mg x = some (.ref f) ∧ Binds K fd ps []
theorem defAt_mk {K : PySem.W.Frag} {h : Heap} {mg : Str → Option Value} {x : Str} {st : Stmt} {ps : List Str} {f : Addr} {oc : Value} {od an : Option Addr} {sl : Array (Option Value)} {kV doc pm cd ct : Value} (X : K.In h) (G : h.Ns mainGlobals mg)
    (a : PySem.W.nsIn K mainGlobals x = some (some (.ref f))) (l : K.lookup f = some ⟨oc, od, .func (PySem.W.fnOf x x (defArgs st) (defBody st) (defScope st) .none kV doc pm an cd ct), sl⟩) (c : PySem.W.codeIn K cd x = true) (k : PySem.W.keepIn K (.ref f) = true)
    (b : ∀ (kV doc pm : Value) (an : Option Addr) (cdv ct : Value) (us : List Value), us.length = ps.length → bindArgs (PySem.W.fnOf x x (defArgs st) (defBody st) (defScope st) .none kV doc pm an cdv ct) ⟨us, []⟩ = pure (ps.zip us)) : DefAt K mg x st ps :=
  ⟨f, _, fun_mk l c k, PySem.W.mg_of X G a, (fun_mk l c k).binds b⟩
/-- a name of the top with a fixed value -/
structure Glob (K : PySem.W.Frag) (mg : Str → Option Value) (x : Str) (w : W) : Prop where
  ex : ∃ (v : V) (u : Value), mg x = some u ∧ RelV v u ∧ ∀ R, Rw K R w v
theorem glob_int {K : PySem.W.Frag} {h : Heap} {mg : Str → Option Value} {x : Str} {i : Int} {t : Tok} (X : K.In h) (G : h.Ns mainGlobals mg) (a : PySem.W.nsIn K mainGlobals x = some (some (.int i t))) : Glob K mg x (.int i) :=
  ⟨.int i, _, PySem.W.mg_of X G a, ⟨t, rfl⟩, fun _ => Rw.int i⟩
def strWs : List Str → List W := List.map W.str
theorem rws_strs {K : PySem.W.Frag} {R : Rn} : ∀ (ys : List Str), Rws K R (strWs ys) (ys.map V.str)
  | [] => Rws.nil
  | y :: ys => Rws.cons (Rw.str y) (rws_strs ys)
theorem vals_strs : ∀ {its : List Value} {ys : List Str}, StrsAre its ys → Vals (ys.map V.str) its
  | _, _, .nil => .nil
  | _, _, .cons y t r => .cons ⟨t, rfl⟩ (vals_strs r)
/-- a tuple of texts at the top -/
theorem glob_strs {K : PySem.W.Frag} {h : Heap} {mg : Str → Option Value} {x : Str} {c : Addr} {dd : Option Addr} {its : Array Value} {n : Nat} {sl : Array (Option Value)} {ys : List Str} (X : K.In h) (G : h.Ns mainGlobals mg) (a : PySem.W.nsIn K mainGlobals x = some (some (.ref c)))
    (l : K.lookup c = some ⟨.type "tuple", dd, .seq its n, sl⟩) (hz : its.size ≤ sizeLine) (hs : StrsAre its.toList ys) : Glob K mg x (.tup (strWs ys)) :=
  ⟨.ref c, _, PySem.W.mg_of X G a, rfl, fun R => by
    unfold Rw
    exact ⟨c, _, rfl, .inr ⟨_, its, n, l, rfl, rfl, hz, vals_strs hs⟩, rws_strs ys⟩⟩
section
variable {X : Cx} {k n : Nat} {g : FM} {x : Str} {ps : List Str} {p pos : Pos} {e : Expr} {es : List Expr} {ms : MA}
theorem pm_callC (C : Cal X.prog X.w X.K X.mg X.base k x ps g) (hr : Room k X.A) (hg : Gl X x) (ha : PMA X (e :: es) ms) (hn : ps.length = n := by rfl)
    (hdb : (x == ("__debug__" : Str)) = false := by decide) (he : isStar e = false := by rfl) (hpl : noStar es = true := by rfl) :
    PM X (.Call (.Name x p) (e :: es) [] pos) (mCall n g ms) := by
  obtain ⟨f, fd, F, hm, hk, hb, _⟩ := C.ex
  subst hn
  exact pm_call F hr hg hm hk hb pass0 ha hdb he hpl
theorem pm_callC0 (C : Cal X.prog X.w X.K X.mg X.base k x ps g) (hr : Room k X.A) (hg : Gl X x) (hn : ps.length = n := by rfl) (hdb : (x == ("__debug__" : Str)) = false := by decide) : PM X (.Call (.Name x p) [] [] pos) (mCall n g mNil) := by
  obtain ⟨f, fd, F, hm, hk, hb, _⟩ := C.ex
  subst hn
  exact pm_call0 F hr hg hm hk hb pass0 hdb
theorem pm_globC {w : W} (C : Glob X.K X.mg x w) (hg : Gl X x) (hd : (x == ("__debug__" : Str)) = false := by decide) : PM X (.Name x pos) (mC w) := by
  obtain ⟨v, u, hm, r, rw⟩ := C.ex
  exact pm_glob hg hm r rw hd
/-- a built-in type as a value -/
theorem pm_ty {T : String} (hg : Gl X x) (hm : X.mg x = none) (hv : bootBuiltins x = some (.type T)) (hn : x ≠ "__name__" := by decide) (hd : (x == ("__debug__" : Str)) = false := by decide) : PM X (.Name x pos) (mC (.ty T)) :=
  pm_bltn hg hm hv (v := .ty T) rfl (fun _ => Rw.ty _) hn hd
end
section
variable {P : Program} {w : World} {K : PySem.W.Frag} {mg : Str → Option Value} {base : Heap}
theorem cal_mk {x : Str} {st : Stmt} {N ps : List Str} {k more : Nat} {m : SM} (d : DefAt K mg x st ps) (S : FnScope N ps (defScope st)) (hN : N.length = ps.length + more)
    (hbody : ∀ (f : Addr) (cdv : Value) (A : Around) (outer : List Env) (s : Shared) (H : Hp) (E : XK), Room k (A.deeper (envOfC x (defScope st) s.heap.objs.size f cdv)) → PMSs (cxOf CX0 P w K mg base N x (defScope st) f cdv A outer s H E).nox (defBody st) m) :
    Cal P w K mg base (k + 1) x ps (mDef more m) := by
  obtain ⟨f, fd, F, hm, hb⟩ := d.ex
  obtain ⟨oc, od, kV, doc, pm, an, cdv, ct, osl, e, lk, hcd⟩ := F.ex
  exact ⟨f, fd, fn_ok F S hN (fun cdv A outer s H E hr => hbody f cdv A outer s H E hr), hm, F.kp, hb, oc, od, osl, lk⟩
theorem Cal.imp {x : Str} {ps : List Str} {k : Nat} {g g' : FM} (C : Cal P w K mg base k x ps g) (h : ∀ vs H Q E, spM K ps.length g' vs H Q E → spM K ps.length g vs H Q E) : Cal P w K mg base k x ps g' := by
  obtain ⟨f, fd, F, r⟩ := C.ex
  exact ⟨f, fd, F.imp h, r⟩
/-- another way to say what it does -/
theorem Cal.eq {x : Str} {ps : List Str} {k : Nat} {g g' : FM} (C : Cal P w K mg base k x ps g) (h : ∀ ws hp r, ws.length = ps.length → g' ws hp = some r → g ws hp = some r) : Cal P w K mg base k x ps g' :=
  C.imp fun _ _ _ _ ⟨R, ws, hp, w, h', hl, rh, rws, e, k⟩ => ⟨R, ws, hp, w, h', hl, rh, rws, h ws hp _ hl e, k⟩
end
theorem rws_ints {K : PySem.W.Frag} {R : Rn} : ∀ (ns : List Int), Rws K R (ns.map W.int) (ns.map V.int)
  | [] => Rws.nil
  | n :: ns => Rws.cons (Rw.int n) (rws_ints ns)
/-- the goal behind k_head from what law does -/
theorem walkM {l : PySem.W.OpenLaw} {q : Program} {loose : List Str} {XP : (Str → Option Value) → Heap → Prop} {YP : World → Heap → Prop} {d : DefRec} {K : Params → PySem.W.Frag} {st : Stmt} {sem : FM} {k : Nat} (hn : l.most = some 63) (hdf : d.params.defaults = []) (hr : Room k callerA) (hdn : d.name = "law")
    (hY : ∀ (w : World) (h : Heap), YP w h → (K w.params).In h)
    (hb : ∀ (kV doc pm : Value) (an : Option Addr) (cdv ct : Value) (s : Shared) (u : Value), BindsTo s (PySem.W.fnOf "law" "law" (defArgs st) (defBody st) (defScope st) .none kV doc pm an cdv ct) ⟨[u], []⟩ [("script", u)])
    (F : ∀ (w : World) (mg : Str → Option Value) (h : Heap), (K w.params).In h → h.Ns mainGlobals mg →
      DefAt (K w.params) mg "law" st ["script"] ∧ ∀ base : Heap, (K w.params).In base → base.Ns mainGlobals mg → Cal l.prog w (K w.params) mg base k "law" ["script"] sem)
    (main : ∀ ns : List Int, ns.length ≤ 63 → ∃ h', sem [.frz (ns.map W.int)] [] = some (.bl true, h')) :
    PySem.W.WalkO q loose XP YP l.row.toRowW d [] (fun f vs => PySem.call f vs) := by
  refine L2.walk_of (n := 63) (k := k) (x := "script") (CX := fun _ => CX0) (sp := fun w => spM (K w.params) 1 sem) hn (by decide) hdf hr hY ?_ ?_ fun _ _ _ _ _ z => z
  · intro w mg fa h KX G hmg
    obtain ⟨D, Fn⟩ := F w mg h KX G
    obtain ⟨f, fd, Fu, hm, _⟩ := D.ex
    rw [hdn] at hmg
    rw [hm] at hmg
    cases hmg
    obtain ⟨oc, od, kV, doc, pm, an, cdv, ct, osl, e, lk, hcd⟩ := Fu.ex
    refine ⟨fd, fun s u => ?_, fun base kb nb => ?_⟩
    rotate_left
    · obtain ⟨f', fd', F', hm', _, _, oc', od', osl', lk'⟩ := (Fn base kb nb).ex
      rw [hm] at hm'
      cases hm'
      rw [lk] at lk'
      cases lk'
      exact F'
    rw [e]
    exact hb kV doc pm an cdv ct s u
  · intro w H a ns hl hO hS
    obtain ⟨h', e⟩ := main ns hl
    refine ⟨⟨fun _ => 0, 0, H⟩, [.frz (ns.map W.int)], [], .bl true, h', rfl, ⟨rfl, fun _ _ z => z, fun n hn => absurd hn (Nat.not_lt_zero _), fun m n hm => absurd hm (Nat.not_lt_zero _), fun n o z => by simp at z⟩, ?_, e, fun R' H' v _ _ rv => rv.bl_eq⟩
    refine Rws.cons ?_ Rws.nil
    unfold Rw
    exact ⟨a, _, rfl, hS, rws_ints ns⟩
end Mi

namespace Mi
open PySem PySem.Spec PyProof.Rows L2

/-! ### what must be seen of a comprehension's scope, by looking at names -/
def scopeOk (scope : Scope) : Bool := scope.names.all fun y => y.2 != .cell && (y.2 != .local || scope.names.lookup y.1 == some .local)
def capOk (N : List Str) (xs scope : Scope) (cp : List (Option Nat)) (Nb : List Str) : Bool := (cp.zip Nb).all fun p => match p.1 with
  | none => true
  | some j => N[j]? == some p.2 && (xs.names.lookup p.2 == some .cell || xs.names.lookup p.2 == some .free) && scope.names.lookup p.2 == some .free
def keysOk (scope : Scope) (ks : List Str) : Bool := scope.names.all fun y => y.2 != .free || ks.contains y.1
theorem lookup_relabel_free {env : Env} : ∀ {names : List (Str × NameKind)} {x : Str}, names.lookup x = some .free →
    (names.map fun (n, k) => if (k == NameKind.free && env.scope.kind == .function && env.kindOf n == some .cell) then (n, NameKind.cell) else (n, k)).lookup x = some .cell ∨
    (names.map fun (n, k) => if (k == NameKind.free && env.scope.kind == .function && env.kindOf n == some .cell) then (n, NameKind.cell) else (n, k)).lookup x = some .free
  | [], _, h => by simp at h
  | (n, k) :: r, x, h => by
    have ih := @lookup_relabel_free env r x
    rw [List.map_cons]
    dsimp only
    cases hx : x == n with
    | true =>
      simp only [List.lookup_cons, hx] at h
      cases h
      by_cases hc : (NameKind.free == NameKind.free && env.scope.kind == .function && env.kindOf n == some .cell) = true
      · rw [if_pos hc]; exact .inl (by simp [List.lookup_cons, hx])
      · rw [if_neg hc]; exact .inr (by simp [List.lookup_cons, hx])
    | false =>
      simp only [List.lookup_cons, hx] at h
      by_cases hc : (k == NameKind.free && env.scope.kind == .function && env.kindOf n == some .cell) = true
      · rw [if_pos hc]; simp only [List.lookup_cons, hx]; exact ih h
      · rw [if_neg hc]; simp only [List.lookup_cons, hx]; exact ih h
theorem relabel_lookup {env : Env} : ∀ {names : List (Str × NameKind)} {x : Str} {k' : NameKind}, (∀ y ∈ names, y.2 ≠ .cell) → (k' = .cell ∨ k' = .free) →
    (names.map fun (n, k) => if (k == NameKind.free && env.scope.kind == .function && env.kindOf n == some .cell) then (n, NameKind.cell) else (n, k)).lookup x = some k' → (x, NameKind.free) ∈ names
  | [], _, _, _, _, h => by simp at h
  | (n, k) :: r, x, k', hn, hk, h => by
    rw [List.map_cons] at h
    dsimp only at h
    have ih := @relabel_lookup env r x k' (fun y hy => hn y (List.mem_cons_of_mem _ hy)) hk
    cases hx : x == n with
    | true =>
      have : x = n := eq_of_beq hx
      subst this
      by_cases hc : (k == NameKind.free && env.scope.kind == .function && env.kindOf x == some .cell) = true
      · have : k = .free := by
          simp only [Bool.and_eq_true, beq_iff_eq] at hc; exact hc.1.1
        subst this
        exact List.mem_cons_self
      · rw [if_neg hc] at h
        simp [List.lookup_cons] at h
        subst h
        rcases hk with z | z
        · exact absurd z (hn (x, k) List.mem_cons_self)
        · subst z; exact List.mem_cons_self
    | false =>
      refine List.mem_cons_of_mem _ (ih ?_)
      by_cases hc : (k == NameKind.free && env.scope.kind == .function && env.kindOf n == some .cell) = true
      · rw [if_pos hc] at h; simpa only [List.lookup_cons, hx] using h
      · rw [if_neg hc] at h; simpa only [List.lookup_cons, hx] using h
theorem lookup_mem {cl : List (Str × Addr)} {x : Str} {c : Addr} (h : cl.lookup x = some c) : (x, c) ∈ cl := by
  induction cl with
  | nil => simp at h
  | cons p r ih =>
    obtain ⟨n, a⟩ := p
    cases hx : x == n with
    | true =>
      simp only [List.lookup_cons, hx] at h
      cases h
      rw [eq_of_beq hx]; exact List.mem_cons_self
    | false =>
      simp only [List.lookup_cons, hx] at h
      exact List.mem_cons_of_mem _ (ih h)
theorem lookup_of_key {cl : List (Str × Addr)} {x : Str} (h : x ∈ cl.map (·.1)) : ∃ c, cl.lookup x = some c := by
  induction cl with
  | nil => simp at h
  | cons p r ih =>
    obtain ⟨n, a⟩ := p
    cases hx : x == n with
    | true => exact ⟨a, by simp only [List.lookup_cons, hx]⟩
    | false =>
      rcases List.mem_cons.mp h with z | z
      · dsimp only at z; rw [z, beq_self_eq_true] at hx; cases hx
      · obtain ⟨c, hc⟩ := ih z
        exact ⟨c, by simp only [List.lookup_cons, hx]; exact hc⟩
theorem blk_mk {X : Cx} {scope xs : Scope} {cl : List (Str × Addr)} {N Nb ks : List Str} {cp : List (Option Nat)} (clos : closureFor scope X.env = pure cl) (kind : scope.kind = .function) (hs : scopeOk scope = true) (hk : cl.map (·.1) = ks) (hks : keysOk scope ks = true)
    (hsub : ∀ p ∈ cl, X.env.cells.lookup p.1 = some p.2) (hN : X.N = N) (hx : X.env.scope = xs) (hl : cp.length = Nb.length) (hc : capOk N xs scope cp Nb = true) : BlkOk X scope cl Nb cp := by
  have hcell : ∀ y ∈ scope.names, y.2 ≠ .cell := fun y hy => by
    have := List.all_eq_true.mp hs y hy
    simp only [Bool.and_eq_true, bne_iff_ne] at this
    exact this.1
  refine ⟨clos, hcell, kind, fun y hy hl => ?_, fun x c h => hsub _ (lookup_mem h), fun x h => ?_, hl, fun i j x h1 h2 => ?_⟩
  · have := List.all_eq_true.mp hs y hy
    simp only [Bool.and_eq_true, Bool.or_eq_true, bne_iff_ne, beq_iff_eq] at this
    rcases this.2 with z | z
    · exact absurd hl z
    · exact z
  · have hm : (x, NameKind.free) ∈ scope.names := by
      rcases h with h | h
      · exact relabel_lookup hcell (.inl rfl) h
      · exact relabel_lookup hcell (.inr rfl) h
    have := List.all_eq_true.mp hks _ hm
    simp only [Bool.or_eq_true, bne_iff_ne, ne_eq, not_true_eq_false, false_or, List.contains_iff_mem] at this
    exact lookup_of_key (by rw [hk]; exact this)
  · have hz : (cp.zip Nb)[i]? = some (some j, x) := by rw [List.getElem?_zip_eq_some]; exact ⟨h1, h2⟩
    have := List.all_eq_true.mp hc _ (List.mem_of_getElem? hz)
    simp only [Bool.and_eq_true, Bool.or_eq_true, beq_iff_eq] at this
    obtain ⟨⟨a, b⟩, c⟩ := this
    refine ⟨by rw [hN]; exact a, ?_, ?_, lookup_relabel_free c⟩
    · rw [hx]
      rcases b with b | b
      · exact .inr (.inl b)
      · exact .inr (.inr b)
    · unfold Env.kindOf
      rw [hx]; exact b
/-- nothing is taken from outside -/
theorem blk_plain {X : Cx} {scope : Scope} {Nb : List Str} {cp : List (Option Nat)} (kind : scope.kind = .function) (hs : scopeOk scope = true) (hks : keysOk scope [] = true) (hl : cp.length = Nb.length) (hc : cp.all (·.isNone) = true) : BlkOk X scope [] Nb cp := by
  have hfree : ∀ y ∈ scope.names, y.2 ≠ .free := fun y hy z => by
    have := List.all_eq_true.mp hks y hy
    simp [z] at this
  have hcell : ∀ y ∈ scope.names, y.2 ≠ .cell := fun y hy => by
    have := List.all_eq_true.mp hs y hy
    simp only [Bool.and_eq_true, bne_iff_ne] at this
    exact this.1
  refine ⟨closureFor_none hfree, hcell, kind, fun y hy hl => ?_, fun x c h => by simp at h, fun x h => ?_, hl, fun i j x h1 h2 => ?_⟩
  · have := List.all_eq_true.mp hs y hy
    simp only [Bool.and_eq_true, Bool.or_eq_true, bne_iff_ne, beq_iff_eq] at this
    rcases this.2 with z | z
    · exact absurd hl z
    · exact z
  · have hm : (x, NameKind.free) ∈ scope.names := by
      rcases h with h | h
      · exact relabel_lookup hcell (.inl rfl) h
      · exact relabel_lookup hcell (.inr rfl) h
    exact absurd rfl (hfree _ hm)
  · have := List.all_eq_true.mp hc _ (List.mem_of_getElem? h1)
    simp at this
end Mi

namespace Mi
open PySem PySem.Spec PyProof.Rows L2
/-! ### reckoning with mirror functions -/
theorem live_none (items : List W) (h : MH) : live none items h := fun _ z => by cases z
theorem compL_pure {fin : List W → MH → Option (W × MH)} {items : List W} {mt : MT} {me : ME} {caps : MSt} {h : MH} {f : W → W} {p : W → Bool} : ∀ (rest acc : List W) (o : Option W),
    (∀ w ∈ rest, mt (some w :: caps) h = some (p w, h)) → (∀ w ∈ rest, p w = true → me (some w :: caps) h = some (f w, h)) → acc.length + rest.length ≤ sizeLine →
    mCompL fin items none (gSet 0) mt me rest acc (o :: caps) h = fin (acc ++ (rest.filter p).map f) h
  | [], acc, o, _, _, _ => by
    unfold mCompL
    rw [if_pos (live_none _ _)]; simp
  | w :: rest, acc, o, ht, he, hl => by
    unfold mCompL
    rw [if_pos (live_none _ _)]
    have h1 : gSet 0 w (o :: caps) h = some (some w :: caps) := rfl
    rw [h1, Option.bind_some, ht w List.mem_cons_self, Option.bind_some]
    have hl' : acc.length + (rest.length + 1) ≤ sizeLine := by simpa using hl
    cases hp : p w with
    | true =>
      simp only [hp]
      rw [he w List.mem_cons_self hp, Option.bind_some, if_pos (by omega)]
      rw [compL_pure rest (acc ++ [f w]) (some w) (fun x hx => ht x (List.mem_cons_of_mem _ hx)) (fun x hx => he x (List.mem_cons_of_mem _ hx)) (by simp; omega)]
      simp [List.filter_cons, hp]
    | false =>
      simp only [hp]
      rw [compL_pure rest acc (some w) (fun x hx => ht x (List.mem_cons_of_mem _ hx)) (fun x hx => he x (List.mem_cons_of_mem _ hx)) (by omega)]
      simp [List.filter_cons, hp]
theorem bls_map {α : Type} (g : α → Bool) : ∀ xs : List α, blsW (xs.map fun x => W.bl (g x)) = some (xs.map g)
  | [] => rfl
  | x :: xs => by simp [blsW, bls_map g xs]
theorem strs_map {α : Type} (g : α → Str) : ∀ xs : List α, strsW (xs.map fun x => W.str (g x)) = some (xs.map g)
  | [] => rfl
  | x :: xs => by simp [strsW, strs_map g xs]
/-- texts stay as they are -/
theorem drf_str (h : MH) (n : Nat) (x : Str) : drf h (n + 1) (.str x) = some (.str x) := rfl
theorem mapO_strs (h : MH) (n : Nat) : ∀ ys : List Str, mapO (drf h (n + 1)) (ys.map W.str) = some (ys.map W.str)
  | [] => rfl
  | y :: ys => by simp [mapO, drf_str, mapO_strs h n ys]
theorem loop_turn {items : List W} {b : MG} {body : SM} {w : W} {r : List W} {σ σ1 σ2 : MSt} {h h2 : MH} (hb : b w σ h = some σ1) (hy : body σ1 h = some (.nx σ2 h2)) : mLoop items none b body (w :: r) σ h = mLoop items none b body r σ2 h2 := by
  rw [mLoop, if_pos (live_none _ _), hb, Option.bind_some, hy, Option.bind_some]
theorem loop_end {items : List W} {b : MG} {body : SM} {σ : MSt} {h : MH} : mLoop items none b body [] σ h = some (.nx σ h) := by
  rw [mLoop, if_pos (live_none _ _)]
/-- a loop whose turns keep a word of the state and change nothing of the heap -/
theorem loop_keep {items : List W} {b : MG} {body : SM} {h : MH} (P : MSt → Prop) : ∀ (r : List W) (σ : MSt), P σ → (∀ w ∈ r, ∀ σ, P σ → ∃ σ1 σ2, b w σ h = some σ1 ∧ body σ1 h = some (.nx σ2 h) ∧ P σ2) → ∃ σ', mLoop items none b body r σ h = some (.nx σ' h) ∧ P σ'
  | [], σ, hp, _ => ⟨σ, loop_end, hp⟩
  | w :: r, σ, hp, hs => by
    obtain ⟨σ1, σ2, e1, e2, p2⟩ := hs w List.mem_cons_self σ hp
    obtain ⟨σ', e3, p3⟩ := loop_keep P r σ2 p2 fun x hx => hs x (List.mem_cons_of_mem _ hx)
    exact ⟨σ', by rw [loop_turn e1 e2]; exact e3, p3⟩
end Mi

namespace Mi
open PySem PySem.Spec PyProof.Rows L2
/-! ### steps of mirror functions -/
section
variable {σ σ1 : MSt} {h h1 h2 h3 : MH} {a b c w : W} {ws : List W} {ma mb mc : ME} {ms : MA} {mt mu : MT} {s1 s2 : SM} {f f' : W → W → MH → Option (W × MH)} {g : List W → MH → Option (W × MH)} {z : MF}
theorem e_nil : mNil σ h = some ([], h) := rfl
theorem e_cons (e1 : ma σ h = some (a, h1)) (e2 : ms σ h1 = some (ws, h2)) : mCons ma ms σ h = some (a :: ws, h2) := by unfold mCons; rw [e1, Option.bind_some, e2]; rfl
theorem e_fn (e1 : ms σ h = some (ws, h1)) : mFn g ms σ h = g ws h1 := by unfold mFn; rw [e1]; rfl
theorem e_call {n : Nat} {fm : FM} (e1 : ms σ h = some (ws, h1)) (hn : ws.length = n) : mCall n fm ms σ h = fm ws h1 := by unfold mCall; rw [e_fn e1]; exact if_pos hn
theorem e_bin (e1 : ma σ h = some (a, h1)) (e2 : mb σ h1 = some (b, h2)) : mBin f ma mb σ h = f a b h2 := by unfold mBin; rw [e1, Option.bind_some, e2]; rfl
theorem e_test {t : Bool} (e1 : ma σ h = some (.bl t, h1)) : mTest ma σ h = some (t, h1) := by unfold mTest; rw [e1]; rfl
theorem e_tru {t : Bool} (e1 : ma σ h = some (a, h1)) (e2 : truW h1 a = some t) : mTru ma σ h = some (t, h1) := by unfold mTru; rw [e1, Option.bind_some]; simp only; rw [e2]; rfl
theorem e_tnot {t : Bool} (e1 : mt σ h = some (t, h1)) : mtNot mt σ h = some (!t, h1) := by unfold mtNot; rw [e1]; rfl
theorem e_tand {t u : Bool} (e1 : mt σ h = some (t, h)) (e2 : mu σ h = some (u, h)) : mtAnd mt mu σ h = some (t && u, h) := by unfold mtAnd; rw [e1, Option.bind_some]; cases t <;> simp [e2]
theorem e_tor {t u : Bool} (e1 : mt σ h = some (t, h)) (e2 : mu σ h = some (u, h)) : mtOr mt mu σ h = some (t || u, h) := by unfold mtOr; rw [e1, Option.bind_some]; cases t <;> simp [e2]
theorem e_torT (e1 : mt σ h = some (true, h1)) : mtOr mt mu σ h = some (true, h1) := by unfold mtOr; rw [e1]; rfl
theorem e_torF {r : Option (Bool × MH)} (e1 : mt σ h = some (false, h1)) (e2 : mu σ h1 = r) : mtOr mt mu σ h = r := by unfold mtOr; rw [e1]; exact e2
theorem e_tandF (e1 : mt σ h = some (false, h1)) : mtAnd mt mu σ h = some (false, h1) := by unfold mtAnd; rw [e1]; rfl
theorem e_tandT {r : Option (Bool × MH)} (e1 : mt σ h = some (true, h1)) (e2 : mu σ h1 = r) : mtAnd mt mu σ h = r := by unfold mtAnd; rw [e1]; exact e2
theorem e_and {t u : Bool} (e1 : ma σ h = some (.bl t, h)) (e2 : mb σ h = some (.bl u, h)) : mAnd ma mb σ h = some (.bl (t && u), h) := by unfold mAnd; rw [e1, Option.bind_some]; cases t <;> simp [e2]
theorem e_chain {t u : Bool} (e1 : ma σ h = some (a, h)) (e2 : mb σ h = some (b, h)) (e3 : f a b h = some (.bl t, h)) (e4 : mc σ h = some (c, h)) (e5 : f' b c h = some (.bl u, h)) : mChain f f' ma mb mc σ h = some (.bl (t && u), h) := by
  unfold mChain; rw [e1, Option.bind_some, e2, Option.bind_some]; simp only; rw [e3, Option.bind_some]; cases t <;> simp [e4, e5]
theorem e_seq {r : Option MF} (e1 : s1 σ h = some (.nx σ1 h1)) (e2 : s2 σ1 h1 = r) : mSeq s1 s2 σ h = r := by unfold mSeq; rw [e1]; exact e2
theorem e_seqR (e1 : s1 σ h = some (.rt w h1)) : mSeq s1 s2 σ h = some (.rt w h1) := by unfold mSeq; rw [e1]; rfl
theorem e_iteT {r : Option MF} (e1 : mt σ h = some (true, h1)) (e2 : s1 σ h1 = r) : mIte mt s1 s2 σ h = r := by unfold mIte; rw [e1]; exact e2
theorem e_iteF {r : Option MF} (e1 : mt σ h = some (false, h1)) (e2 : s2 σ h1 = r) : mIte mt s1 s2 σ h = r := by unfold mIte; rw [e1]; exact e2
theorem e_ret (e1 : ma σ h = some (a, h1)) : mRet ma σ h = some (.rt a h1) := by unfold mRet; rw [e1]; rfl
theorem e_set {i : Nat} (e1 : ma σ h = some (a, h1)) : mSet i ma σ h = some (.nx (σ.set i (some a)) h1) := by unfold mSet; rw [e1]; rfl
theorem e_skip : mSkip σ h = some (.nx σ h) := rfl
theorem e_def {more : Nat} (e1 : s1 (ws.map some ++ List.replicate more none) h = some (.rt w h1)) : mDef more s1 ws h = some (w, h1) := by unfold mDef; rw [e1]; rfl
theorem e_ix {i : Int} {x : W} (e1 : ma σ h = some (.lst ws, h1)) (e2 : mb σ h1 = some (.int i, h2)) (e3 : atI ws i = some x) : mBin wIx ma mb σ h = some (x, h2) := by
  rw [e_bin e1 e2]; unfold wIx; simp only [lsW, Option.bind_some, e3]; rfl
theorem e_lst (e1 : ms σ h = some (ws, h1)) (hl : ws.length ≤ sizeLine) : mFn wLst ms σ h = some (.lst ws, h1) := by rw [e_fn e1]; unfold wLst; exact if_pos hl
end
theorem wMul_eq {i j : Int} {h : MH} (c : (-(2 ^ 64) < i ∧ i < 2 ^ 64) ∨ (-(2 ^ 64) < j ∧ j < 2 ^ 64)) : wMul (.int i) (.int j) h = some (.int (i * j), h) := by unfold wMul; exact if_pos c
theorem wDiv_eq {i j : Int} {h : MH} (c : 0 < j ∧ j < 1073741824) : wDiv (.int i) (.int j) h = some (.int (i / j), h) := by unfold wDiv; exact if_pos c
theorem wMod_eq {i j : Int} {h : MH} (c : 0 < j) : wMod (.int i) (.int j) h = some (.int (i % j), h) := by unfold wMod; exact if_pos c
theorem wPow_eq {i j : Int} {h : MH} (c : 0 ≤ j ∧ j ≤ 1000000 ∧ i.natAbs < 2 ^ 64) : wPow (.int i) (.int j) h = some (.int (i ^ j.toNat), h) := by unfold wPow; exact if_pos c
theorem wIx_str {x : Str} {i : Int} {h : MH} {d : Nat} (hl : x.length ≤ sizeLine) (e : atI x.cps.toList i = some d) : wIx (.str x) (.int i) h = some (.str ⟨#[d]⟩, h) := by
  unfold wIx; simp only; rw [if_pos hl, e]; rfl
theorem wAdd_str {x y : Str} {h : MH} (hl : x.length + y.length ≤ sizeLine) : wAdd (.str x) (.str y) h = some (.str (x ++ y), h) := by unfold wAdd; simp only; exact if_pos hl
theorem sl_strE {x : Str} {lo hi : Option Int} {h : MH} (hl : x.length ≤ sizeLine) : wSl (.str x) lo hi h = some (.str (Txt.slice x lo hi), h) := by unfold wSl; exact if_pos hl
theorem atI_ex {α : Type} {xs : List α} {i : Int} (h0 : 0 ≤ i) (h1 : i < xs.length) : ∃ x ∈ xs, atI xs i = some x := by
  have hn : i.toNat < xs.length := by omega
  refine ⟨xs[i.toNat], List.getElem_mem hn, ?_⟩
  obtain ⟨n, rfl⟩ : ∃ n : Nat, i = n := ⟨i.toNat, by omega⟩
  exact atI_nat (List.getElem?_eq_getElem hn)
end Mi

namespace Mi
open PySem PySem.Spec PyProof.Rows L2
/-! ### xs[i] = v -/
def mPut (mo mi mv : ME) : SM := fun σ h => (mv σ h).bind fun v => (mo σ v.2).bind fun o => (mi σ o.2).bind fun i => match o.1, i.1 with
  | .ref n, .int k => match i.2[n]? with
    | some (.lst xs) => (ixN xs.length k).map fun j => .nx σ (i.2.set n (.lst (xs.set j v.1)))
    | _ => none
  | _, _ => none
section
variable {X : Cx} {o i e : Expr} {mo mi mv : ME} {pos pos' : Pos}
theorem put_of {K : PySem.W.Frag} {D : L2.Ends} {σ : L2.St} {H : Hp} (q : tS K (mPut mo mi mv) D σ H) : tAsg (tI K mv) (gSub (tI K mo) (tI K mi) rSetL) D σ H := by
  obtain ⟨R, σi, h, r, rh, s, e, k⟩ := q
  obtain ⟨⟨v, h1⟩, e1, e2⟩ := Option.bind_eq_some_iff.mp e
  obtain ⟨⟨ob, h2⟩, e3, e4⟩ := Option.bind_eq_some_iff.mp e2
  obtain ⟨⟨ix, h3⟩, e5, e6⟩ := Option.bind_eq_some_iff.mp e4
  refine ⟨R, σi, h, v, h1, rh, s, e1, fun R1 H1 x x1 rh1 rx => ⟨R1, σi, h1, ob, h2, rh1, s.mono x1, e3, fun R2 H2 y x2 rh2 ry => ⟨R2, σi, h2, ix, h3, rh2, s.mono (x1.trans x2), e5, fun R3 H3 z x3 rh3 rz => ?_⟩⟩⟩
  dsimp only at e6
  split at e6
  · rename_i n kk
    split at e6
    · rename_i xs hn
      obtain ⟨j, e7, e8⟩ := Option.map_eq_some_iff.mp e6
      cases e8
      obtain ⟨hlt, ey, xv, h4, r4⟩ := rh3.refAt (Rw.mono x3 _ _ ry) hn
      refine ⟨_, xv, kk, j, ey, rz.int_eq, h4, by rw [← r4.length]; exact e7, ?_⟩
      exact k R3 _ σ (x1.trans (x2.trans x3)) (rh3.put hlt ⟨_, rfl, r4.set j (Rw.mono (x2.trans x3) _ _ rx)⟩) (s.mono (x1.trans (x2.trans x3)))
    · cases e6
  · cases e6
theorem pms_put (ho : PM X o mo) (hi : PM X i mi) (he : PM X e mv)
    (ha : ∀ v, assign (.Subscript o i pos') X.env v = (do
      let ov ← holding [v] (eval o X.env)
      let iv ← holding [v, ov] (eval i X.env)
      standAt pos'
      holding [v, ov, iv] (setItem ov iv v)
      release [v, ov, iv] []) := by intro _; rfl)
    (hs : isComp e = false := by rfl) (hw : swappedStores [.Subscript o i pos'] e X.env = pure none := by rfl) : PMS X (.Assign [.Subscript o i pos'] e pos) (mPut mo mi mv) :=
  ps_imp (ps_asg he (pg_sub ho hi set_list ha) (show swapsWith e (some (.Subscript o i pos')) pos.line X.env = pure false from swaps_of hs) hw rfl) fun _ _ _ => put_of
/-! ### n += e, n -= e of ints -/
end
def wAddI (a b : W) (h : MH) : Option (W × MH) := match a, b with | .int i, .int j => some (.int (i + j), h) | _, _ => none
section
variable {X : Cx} {o i e : Expr} {mo mi mv : ME} {pos pos' : Pos}
theorem iopr_add : OpR X (inplaceOp .Add) (F2 X.K wAddI) := by
  intro pins s σ H x y v u Q I rx ry q
  refine iop_add pins s σ H x y v u Q I rx ry ?_
  obtain ⟨R, h, a, b, w, h', rh, ra, rb, e, k⟩ := q
  unfold wAddI at e
  split at e
  · cases e
    exact ⟨_, _, ra.int_eq, rb.int_eq, k R H _ (Ext.refl _) rh (Rw.int _)⟩
  · cases e
theorem iopr_sub : OpR X (inplaceOp .Sub) (F2 X.K wSub) := by
  intro pins s σ H x y v u Q I rx ry q
  refine iop_sub pins s σ H x y v u Q I rx ry ?_
  obtain ⟨R, h, a, b, w, h', rh, ra, rb, e, k⟩ := q
  unfold wSub at e
  split at e
  · cases e
    exact ⟨_, _, ra.int_eq, rb.int_eq, k R H _ (Ext.refl _) rh (Rw.int _)⟩
  · cases e
end
end Mi

namespace Mi
open PySem PySem.Spec PyProof.Rows L2
/-! ### two names as a target -/
def gSet2 (i j : Nat) : MG := fun w σ _ => match w with | .tup [a, b] => some ((σ.set i (some a)).set j (some b)) | _ => none
theorem pmg_tup2 {X : Cx} {i j k : Nat} {x y : Str} {px py pos : Pos} (hc : X.calm = true) (hN : X.N.Nodup) (hi : X.N[i]? = some x) (hj : X.N[j]? = some y) (hx : Loc X.env.scope x) (hy : Loc X.env.scope y)
    (hf : X.fn x = true ∨ X.env.scope.names.lookup x = some .local) (hg : X.fn y = true ∨ X.env.scope.names.lookup y = some .local) : PMG X (.Tuple [.Name x px, .Name y py] k pos) (gSet2 i j) :=
  pg_imp (pg_tup (n := 2) hc (pgs_cons (pg_name hN hi hx hf) (pgs_cons (pg_name hN hj hy hg) pgs_nil)) rfl rfl) fun v σ H C ⟨R, σi, h, w, σ1, rh, st, rw, e, q⟩ => by
    unfold gSet2 at e
    split at e
    · rename_i a b
      cases e
      obtain ⟨ad, xs, rfl, q1, r1⟩ := rh.tupAt rw
      obtain ⟨va, vb, rfl, ra, rb⟩ := rws2 r1
      refine ⟨ad, _, rfl, q1, rfl, va, [vb], rfl, vb, [], rfl, rfl, ?_⟩
      exact q R H _ (Ext.refl _) rh ((st.set ra).set rb)
    · cases e
end Mi

namespace Mi
open PySem PySem.Spec PyProof.Rows L2 PySem.SeqAt
/-! ### xs.index(x) -/
def wIndex (a : W) (ws : List W) (h : MH) : Option (W × MH) := match ws with
  | [w] => (lsW h a).bind fun ys => (drf h 40 w).bind fun x => (mapO (drf h 40) ys).bind fun zs => (zs.findIdx? fun y => eqW y x).map fun j => (.int (j : Nat), h)
  | _ => none
theorem mtm_index {X : Cx} (hu : X.A.units + 64 < cLine) : MtMM X "list.index" wIndex := by
  intro pins s σ H x xs v us Q I rx rv q
  obtain ⟨R, h, a, ws, w, h', rh, ra, rws, e, k⟩ := q
  unfold wIndex at e
  split at e
  · rename_i w1
    obtain ⟨ys, e1, e⟩ := Option.bind_eq_some_iff.mp e
    obtain ⟨x', e2, e⟩ := Option.bind_eq_some_iff.mp e
    obtain ⟨zs, e3, e⟩ := Option.bind_eq_some_iff.mp e
    obtain ⟨j, e4, e5⟩ := Option.map_eq_some_iff.mp e
    cases e5
    obtain ⟨y, rfl, ry⟩ := rws1 rws
    obtain ⟨u, rfl, ru⟩ := vals1 rv
    obtain ⟨ad, xv, rfl, q1, r1⟩ := rh.lsAt ra e1
    cases rx
    obtain ⟨its, t1, p1, hz⟩ := I.list q1
    have hu' : X.A.in1.units + 40 < cLine := by show X.A.units + 1 + 40 < cLine; omega
    have l1 := r1.length; have l2 := t1.length; have l3 := (mapO_get e3).1
    obtain ⟨hj, hhit, hbefore⟩ := List.findIdx?_eq_some_iff_getElem.mp e4
    have at_ : ∀ m (hm : m < its.toArray.size), hitU X.K R h x' its.toArray[m] = eqW (zs[m]'(by rw [List.size_toArray] at hm; omega)) x' := by
      intro m hm
      rw [List.size_toArray] at hm
      obtain ⟨w2, hw2⟩ : ∃ w2, ys[m]? = some w2 := ⟨ys[m]'(by omega), List.getElem?_eq_getElem _⟩
      obtain ⟨v2, hv2, rv2⟩ := r1.get hw2
      obtain ⟨u2, hu2, ru2⟩ := t1.get hv2
      obtain ⟨b, hb, eb⟩ := (mapO_get e3).2 m w2 hw2
      have eu : its.toArray[m] = u2 := by have := hu2; rw [List.getElem?_eq_getElem hm] at this; simpa using this
      have ez : zs[m]'(by omega) = b := by have := hb; rw [List.getElem?_eq_getElem (by omega)] at this; simpa using this
      rw [eu, ez]
      exact hitU_of I rh rv2 ru2 eb
    obtain ⟨ob, n, ho, hc, hdd, hd⟩ := p1
    obtain ⟨cls, dd, data, sl⟩ := ob
    simp only at hc hd
    subst hc hd
    have hjs : j < its.toArray.size := by rw [List.size_toArray]; omega
    refine call_meets PySem.F.slot_list_index ⟨_, ho, rfl⟩ PySem.F.entry_list_index (PySem.F.args_list_index_2 _ _)
      (list_indexAt ad its.toArray n dd sl u (hitU X.K R h x') j hjs ?_ ?_ ?_) ⟨ho, fun z hz' => hit_eqAt I rh hu' ry ru e2 r1 t1 e3 z (by simpa using hz'), ?_⟩
    · have : (sizeLine : Nat) < 2 ^ 62 := by decide
      have hj2 : j < 2 ^ 62 := by omega
      omega
    · rw [at_ j hjs]; exact hhit
    · intro m hm hmj
      rw [at_ m hm]
      simpa using hbefore m hmj
    · exact ⟨.int j, H, I.tok _, ⟨_, rfl⟩, k R H _ (Ext.refl _) rh (Rw.int _)⟩
  · cases e
end Mi

namespace Mi
open PySem PySem.Spec PyProof.Rows L2
/-! ### a dict of the top, texts to ints, that nobody changes -/
inductive TabIs : List DictEntry → List (Str × Int) → Prop where
  | nil : TabIs [] []
  | cons {e : DictEntry} {x : Str} {i : Int} {t t' : Tok} {es : List DictEntry} {tab : List (Str × Int)} (hk : e.key = .str x t) (hv : e.val = .int i t') (r : TabIs es tab) : TabIs (e :: es) ((x, i) :: tab)
def tabAt (tab : List (Str × Int)) (k : Str) : Option Int := (tab.find? fun p => p.1 == k).map (·.2)
def relT : Option Int → Option Value → Prop
  | none, u => u = none
  | some i, u => ∃ t, u = some (.int i t)
theorem tab_find : ∀ {es : List DictEntry} {tab : List (Str × Int)} (k : Str), TabIs es tab → relT (tabAt tab k) ((es.find? fun e => Value.isStrOf k e.key).map (·.val))
  | _, _, k, .nil => rfl
  | _, _, k, .cons (x := x) (i := i) (t' := t') hk hv r => by
    have ih := tab_find k r
    unfold tabAt at ih ⊢
    rw [List.find?_cons, List.find?_cons, hk]
    simp only [Value.isStrOf]
    by_cases e : (x == k) = true
    · rw [e]; exact ⟨t', by simp [hv]⟩
    · have e' : (x == k) = false := by simpa using e
      rw [e']; exact ih
structure GTab (w : World) (K : PySem.W.Frag) (mg : Str → Option Value) (x : Str) (tab : List (Str × Int)) : Prop where
  ex : ∃ (a : Addr) (es : List DictEntry) (n : Nat), mg x = some (.ref a) ∧ K.lookup a = some ⟨.type "dict", none, .dict es.toArray n, #[]⟩ ∧ PySem.W.KeysLit w.params es ∧ (a == sysModules) = false ∧ TabIs es tab
theorem gtab_mk {w : World} {K : PySem.W.Frag} {h : Heap} {mg : Str → Option Value} {x : Str} {c : Addr} {es : List DictEntry} {n : Nat} {tab : List (Str × Int)} (X : K.In h) (G : h.Ns mainGlobals mg) (a : PySem.W.nsIn K mainGlobals x = some (some (.ref c)))
    (l : K.lookup c = some ⟨.type "dict", none, .dict es.toArray n, #[]⟩) (k : PySem.W.KeysLit w.params es) (s : (c == sysModules) = false) (t : TabIs es tab) : GTab w K mg x tab :=
  ⟨c, es, n, PySem.W.mg_of X G a, l, k, s, t⟩
def wInT (neg : Bool) (tab : List (Str × Int)) (a : W) (h : MH) : Option (W × MH) := match a with
  | .str x => some (.bl (if neg then !(tabAt tab x).isSome else (tabAt tab x).isSome), h)
  | _ => none
def wIxT (tab : List (Str × Int)) (a : W) (h : MH) : Option (W × MH) := match a with
  | .str x => (tabAt tab x).map fun i => (.int i, h)
  | _ => none
theorem relT_some {o : Option Int} {u : Option Value} (r : relT o u) : u.isSome = o.isSome := by
  cases o with
  | none => rw [show u = none from r]; rfl
  | some i => obtain ⟨t, rfl⟩ := (show ∃ t, u = some (.int i t) from r); rfl
section
variable {X : Cx} {c : Addr} {es : List DictEntry} {n : Nat} {tab : List (Str × Int)}
theorem tab_map (hl : X.K.lookup c = some ⟨.type "dict", none, .dict es.toArray n, #[]⟩) (hk : PySem.W.KeysLit X.w.params es) {pins : List (Addr × Obj)} {σ : L2.St} {H : Hp} {s : Shared} (I : Inv X pins σ H s) : s.heap.MapOf (strKind X.prog X.w) c (fun k => findBy Value.isStrOf es.toArray k) :=
  PySem.W.mapOf_K I.kIn hl (by simpa using hk)
theorem tab_rel (ht : TabIs es tab) (k : Str) : relT (tabAt tab k) (findBy Value.isStrOf es.toArray k) := by
  have := tab_find k ht
  unfold findBy
  rw [List.find?_toArray]
  exact this
theorem op_inT (hl : X.K.lookup c = some ⟨.type "dict", none, .dict es.toArray n, #[]⟩) (hk : PySem.W.KeysLit X.w.params es) (hs : (c == sysModules) = false) (ht : TabIs es tab) :
    OpR X (compareOp .In) (fun x y H Q => ∃ k, x = .str k ∧ y = .ref c ∧ Q (.bl (tabAt tab k).isSome) H) := by
  intro pins s σ H x y v u Q I rx ry h
  obtain ⟨k, rfl, rfl, q⟩ := h
  obtain ⟨t, rfl⟩ := rx
  cases ry
  refine wpAny_in_of (strKind_is X.prog X.w k t) hs (tab_map hl hk I) ?_
  rw [relT_some (tab_rel ht k)]
  exact ⟨.bl _, H, I.tok _, rfl, q⟩
theorem op_notInT (hl : X.K.lookup c = some ⟨.type "dict", none, .dict es.toArray n, #[]⟩) (hk : PySem.W.KeysLit X.w.params es) (hs : (c == sysModules) = false) (ht : TabIs es tab) :
    OpR X (compareOp .NotIn) (fun x y H Q => ∃ k, x = .str k ∧ y = .ref c ∧ Q (.bl (!(tabAt tab k).isSome)) H) := by
  intro pins s σ H x y v u Q I rx ry h
  obtain ⟨k, rfl, rfl, q⟩ := h
  obtain ⟨t, rfl⟩ := rx
  cases ry
  refine wpAny_notIn_of (strKind_is X.prog X.w k t) hs (tab_map hl hk I) ?_
  rw [relT_some (tab_rel ht k)]
  exact ⟨.bl _, H, I.tok _, rfl, q⟩
theorem ix_T (hl : X.K.lookup c = some ⟨.type "dict", none, .dict es.toArray n, #[]⟩) (hk : PySem.W.KeysLit X.w.params es) (ht : TabIs es tab) :
    IxR X (fun x y H Q => ∃ k i, x = .ref c ∧ y = .str k ∧ tabAt tab k = some i ∧ Q (.int i) H) := by
  intro value slice pins s σ H x y v u Q I rx ry h hs
  obtain ⟨k, i, rfl, rfl, e, q⟩ := h
  obtain ⟨t, rfl⟩ := ry
  cases rx
  have hm := tab_map hl hk I
  have r := tab_rel ht k
  rw [e] at r
  obtain ⟨t', ht'⟩ := (show ∃ t, findBy Value.isStrOf es.toArray k = some (.int i t) from r)
  exact tail_any hm.typeIs PySem.F.slot_dict_getitem.lookup (wpAny_getItem_of (strKind_is X.prog X.w k t) hm ht' ⟨.int i, H, I.tok _, ⟨t', rfl⟩, q⟩) hs
variable {a : Expr} {ma : ME} {x : Str} {pos pos' : Pos}
theorem inT_of {K : PySem.W.Frag} {neg : Bool} {σ : L2.St} {H : Hp} {Q : VK} (q : tI K (mUn (wInT neg tab) ma) σ H Q) : tI K ma σ H fun v H1 => ∃ k, v = .str k ∧ Q (.bl (if neg then !(tabAt tab k).isSome else (tabAt tab k).isSome)) H1 :=
  tI_mono (un1 q) fun v H1 ⟨R, h, w, w', h', rh, rv, e, k⟩ => by
    unfold wInT at e
    split at e
    · cases e
      exact ⟨_, rv.str_eq, k R H1 _ (Ext.refl _) rh (Rw.bl _)⟩
    · cases e
theorem pm_inT (G : GTab X.w X.K X.mg x tab) (hg : Gl X x) (ha : PM X a ma) (hd : (x == ("__debug__" : Str)) = false := by decide) (hm : behindInMarks .In (.Name x pos') = false := by rfl) : PM X (.Compare a [.In] [.Name x pos'] pos) (mUn (wInT false tab) ma) := by
  obtain ⟨c, es, n, hmg, hl, hk, hs, ht⟩ := G.ex
  exact pe_imp (pe_cmpR (op_inT hl hk hs ht) ha (pe_glob (v := .ref c) hg hmg rfl hd) hm) fun σ H Q q => tI_mono (inT_of q) fun v H1 ⟨k, e, q1⟩ => ⟨k, e, rfl, q1⟩
theorem pm_notInT (G : GTab X.w X.K X.mg x tab) (hg : Gl X x) (ha : PM X a ma) (hd : (x == ("__debug__" : Str)) = false := by decide) (hm : behindInMarks .NotIn (.Name x pos') = false := by rfl) : PM X (.Compare a [.NotIn] [.Name x pos'] pos) (mUn (wInT true tab) ma) := by
  obtain ⟨c, es, n, hmg, hl, hk, hs, ht⟩ := G.ex
  exact pe_imp (pe_cmpR (op_notInT hl hk hs ht) ha (pe_glob (v := .ref c) hg hmg rfl hd) hm) fun σ H Q q => tI_mono (inT_of q) fun v H1 ⟨k, e, q1⟩ => ⟨k, e, rfl, q1⟩
theorem pmt_inT (G : GTab X.w X.K X.mg x tab) (hg : Gl X x) (ha : PM X a ma) (hd : (x == ("__debug__" : Str)) = false := by decide) (hm : behindInMarks .In (.Name x pos') = false := by rfl) : PMT X (.Compare a [.In] [.Name x pos'] pos) (mTest (mUn (wInT false tab) ma)) := by
  obtain ⟨c, es, n, hmg, hl, hk, hs, ht⟩ := G.ex
  exact pt_imp (pt_cmpR (op_inT hl hk hs ht) ha (pe_glob (v := .ref c) hg hmg rfl hd) hm) fun σ H Q q => tI_mono (inT_of (tTest_of q)) fun v H1 ⟨k, e, q1⟩ => ⟨k, e, rfl, q1⟩
theorem pmt_notInT (G : GTab X.w X.K X.mg x tab) (hg : Gl X x) (ha : PM X a ma) (hd : (x == ("__debug__" : Str)) = false := by decide) (hm : behindInMarks .NotIn (.Name x pos') = false := by rfl) : PMT X (.Compare a [.NotIn] [.Name x pos'] pos) (mTest (mUn (wInT true tab) ma)) := by
  obtain ⟨c, es, n, hmg, hl, hk, hs, ht⟩ := G.ex
  exact pt_imp (pt_cmpR (op_notInT hl hk hs ht) ha (pe_glob (v := .ref c) hg hmg rfl hd) hm) fun σ H Q q => tI_mono (inT_of (tTest_of q)) fun v H1 ⟨k, e, q1⟩ => ⟨k, e, rfl, q1⟩
theorem pm_ixT (G : GTab X.w X.K X.mg x tab) (hg : Gl X x) (ha : PM X a ma) (hd : (x == ("__debug__" : Str)) = false := by decide) (hs : PlainIx a := by intro _ _; rfl) : PM X (.Subscript (.Name x pos') a pos) (mUn (wIxT tab) ma) := by
  obtain ⟨c, es, n, hmg, hl, hk, _, ht⟩ := G.ex
  refine pe_imp (pe_ix (ix_T hl hk ht) (pe_glob (v := .ref c) hg hmg rfl hd) ha hs) fun σ H Q q => ?_
  exact tI_mono (un1 q) fun v H1 ⟨R, h, w, w', h', rh, rv, e, k⟩ => by
    unfold wIxT at e
    split at e
    · obtain ⟨i, e1, e2⟩ := Option.map_eq_some_iff.mp e
      cases e2
      exact ⟨_, i, rfl, rv.str_eq, e1, k R H1 _ (Ext.refl _) rh (Rw.int _)⟩
    · cases e
end
end Mi

namespace Mi
open PySem PySem.Spec PyProof.Rows L2
/-! ### reckoning, the second part -/
theorem e_mt {T : String} {f : W → List W → MH → Option (W × MH)} {mo : ME} {ms : MA} {σ : MSt} {h h1 h2 : MH} {a : W} {ws : List W} (e1 : mo σ h = some (a, h1)) (ht : tyW h1 T a = true) (e2 : ms σ h1 = some (ws, h2)) : mMt T f mo ms σ h = f a ws h2 := by
  unfold mMt
  rw [e1, Option.bind_some]
  simp only
  rw [if_pos ht, e2, Option.bind_some]
theorem e_un {f : W → MH → Option (W × MH)} {ma : ME} {σ : MSt} {h h1 : MH} {a : W} (e1 : ma σ h = some (a, h1)) : mUn f ma σ h = f a h1 := by unfold mUn; rw [e1]; rfl
theorem e_drop {ma : ME} {σ : MSt} {h h1 : MH} {a : W} (e1 : ma σ h = some (a, h1)) : mDrop ma σ h = some (.nx σ h1) := by unfold mDrop; rw [e1]; rfl
theorem e_ifT {mt : MT} {ma mb : ME} {σ : MSt} {h h1 : MH} {r : Option (W × MH)} (e1 : mt σ h = some (true, h1)) (e2 : ma σ h1 = r) : mIf mt ma mb σ h = r := by unfold mIf; rw [e1]; exact e2
theorem e_ifF {mt : MT} {ma mb : ME} {σ : MSt} {h h1 : MH} {r : Option (W × MH)} (e1 : mt σ h = some (false, h1)) (e2 : mb σ h1 = r) : mIf mt ma mb σ h = r := by unfold mIf; rw [e1]; exact e2
theorem wEq_int (a b : Int) (h : MH) : wEq (.int a) (.int b) h = some (.bl (a == b), h) := by unfold wEq; simp [drf, eqW]
theorem wNe_int (a b : Int) (h : MH) : wNe (.int a) (.int b) h = some (.bl (!(a == b)), h) := by unfold wNe; simp [drf, eqW]
theorem wEq_str (a b : Str) (h : MH) : wEq (.str a) (.str b) h = some (.bl (a == b), h) := by unfold wEq; simp [drf, eqW]
theorem e_isi {ma : ME} {σ : MSt} {w : W} {h : MH} {k T : String} (e : ma σ h = some (w, h)) (hT : knownT T = true) (hk : kindW h w = some k) : mTru (mFn wIsi (mCons ma (mCons (mC (.ty T)) mNil))) σ h = some (subKind k T, h) := by
  refine e_tru (a := .bl (subKind k T)) ?_ rfl
  rw [e_fn (e_cons e (e_cons rfl e_nil))]
  unfold wIsi
  simp only
  rw [if_pos hT, hk]; rfl
theorem mapO_bls (h : MH) (n : Nat) : ∀ bs : List Bool, mapO (drf h (n + 1)) (bs.map W.bl) = some (bs.map W.bl)
  | [] => rfl
  | b :: bs => by
    show (some (W.bl b)).bind (fun y => (mapO (drf h (n + 1)) (bs.map W.bl)).map (y :: ·)) = _
    rw [mapO_bls h n bs]; rfl
theorem mapO_all (h : MH) (n : Nat) : ∀ ws : List W, (∀ w ∈ ws, drf h n w = some w) → mapO (drf h n) ws = some ws
  | [], _ => rfl
  | w :: ws, hw => by
    unfold mapO
    rw [hw w List.mem_cons_self, Option.bind_some, mapO_all h n ws fun x hx => hw x (List.mem_cons_of_mem _ hx)]; rfl
theorem atI_0 {α : Type} (x : α) (xs : List α) : atI (x :: xs) 0 = some x := atI_nat (j := 0) (v := x) rfl
/-- a loop whose turns keep a word of state and heap -/
theorem loop_keepH {items : List W} {b : MG} {body : SM} (P : MSt → MH → Prop) : ∀ (r : List W) (σ : MSt) (h : MH), P σ h → (∀ w ∈ r, ∀ σ h, P σ h → ∃ σ1 σ2 h2, b w σ h = some σ1 ∧ body σ1 h = some (.nx σ2 h2) ∧ P σ2 h2) → ∃ σ' h', mLoop items none b body r σ h = some (.nx σ' h') ∧ P σ' h'
  | [], σ, h, hp, _ => ⟨σ, h, loop_end, hp⟩
  | w :: r, σ, h, hp, hs => by
    obtain ⟨σ1, σ2, h2, e1, e2, p2⟩ := hs w List.mem_cons_self σ h hp
    obtain ⟨σ', h', e3, p3⟩ := loop_keepH P r σ2 h2 p2 fun x hx => hs x (List.mem_cons_of_mem _ hx)
    exact ⟨σ', h', by rw [loop_turn e1 e2]; exact e3, p3⟩
/-- the same with a count of the turns done -/
theorem loop_count {items : List W} {b : MG} {body : SM} (P : Nat → MSt → MH → Prop) : ∀ (r : List W) (n : Nat) (σ : MSt) (h : MH), P n σ h → (∀ (j : Nat) (w : W), r[j]? = some w → ∀ σ h, P (n + j) σ h → ∃ σ1 σ2 h2, b w σ h = some σ1 ∧ body σ1 h = some (.nx σ2 h2) ∧ P (n + j + 1) σ2 h2) → ∃ σ' h', mLoop items none b body r σ h = some (.nx σ' h') ∧ P (n + r.length) σ' h'
  | [], n, σ, h, hp, _ => ⟨σ, h, loop_end, hp⟩
  | w :: r, n, σ, h, hp, hs => by
    obtain ⟨σ1, σ2, h2, e1, e2, p2⟩ := hs 0 w rfl σ h hp
    obtain ⟨σ', h', e3, p3⟩ := loop_count P r (n + 1) σ2 h2 p2 fun j x hx σ h hp => by
      have := hs (j + 1) x (by simpa using hx) σ h (by rw [show n + (j + 1) = n + 1 + j by omega]; exact hp)
      rw [show n + (j + 1) + 1 = n + 1 + j + 1 by omega] at this
      exact this
    exact ⟨σ', h', by rw [loop_turn e1 e2]; exact e3, by rw [List.length_cons, show n + (r.length + 1) = n + 1 + r.length by omega]; exact p3⟩
theorem e_r1 {ma : ME} {σ : MSt} {h h1 : MH} {j : Int} (e : ma σ h = some (.int j, h1)) (h0 : -(2 ^ 62) ≤ j) (h2 : j < 2 ^ 62) : miR1 (mCons ma mNil) σ h = some (rangeW 0 j.toNat, none, h1) := by
  unfold miR1
  rw [e_cons e e_nil, Option.bind_some]
  exact if_pos ⟨h0, h2⟩
theorem e_for {mi : MI} {b : MG} {body : SM} {σ : MSt} {h h1 : MH} {items : List W} {src : Option Nat} {r : Option MF} (e : mi σ h = some (items, src, h1)) (e2 : mLoop items src b body items σ h1 = r) : mFor mi b body σ h = r := by
  unfold mFor; rw [e]; exact e2
theorem rangeW_get {lo : Int} {n j : Nat} {w : W} (e : (rangeW lo n)[j]? = some w) : j < n ∧ w = .int (lo + (j : Int)) := by
  unfold rangeW at e
  rw [List.getElem?_map] at e
  obtain ⟨i, h1, rfl⟩ := Option.map_eq_some_iff.mp e
  have := (List.getElem?_eq_some_iff.mp h1)
  obtain ⟨hl, h2⟩ := this
  rw [List.length_range] at hl
  rw [List.getElem_range] at h2
  subst h2
  exact ⟨hl, rfl⟩
theorem rangeW_len (lo : Int) (n : Nat) : (rangeW lo n).length = n := by unfold rangeW; simp
end Mi

namespace Mi
open PySem PySem.Spec PyProof.Rows L2
/-! ### reckoning, the third part: lists made turn by turn -/
theorem compL_ex {fin : List W → MH → Option (W × MH)} {items : List W} {me : ME} {caps : MSt} {h : MH} (Q : W → Prop) : ∀ (rest acc : List W) (o : Option W), (∀ w ∈ rest, ∃ v, Q v ∧ me (some w :: caps) h = some (v, h)) → acc.length + rest.length ≤ sizeLine →
    ∃ vs : List W, vs.length = rest.length ∧ (∀ v ∈ vs, Q v) ∧ mCompL fin items none (gSet 0) mYes me rest acc (o :: caps) h = fin (acc ++ vs) h
  | [], acc, o, _, _ => ⟨[], rfl, (fun v hv => by cases hv), by unfold mCompL; rw [if_pos (live_none _ _)]; simp⟩
  | w :: rest, acc, o, he, hl => by
    have hl' : acc.length + (rest.length + 1) ≤ sizeLine := by simpa using hl
    obtain ⟨v, hv, ev⟩ := he w List.mem_cons_self
    obtain ⟨vs, l1, q1, e1⟩ := compL_ex (fin := fin) (items := items) Q rest (acc ++ [v]) (some w) (fun x hx => he x (List.mem_cons_of_mem _ hx)) (by simp; omega)
    refine ⟨v :: vs, by simp [l1], fun x hx => ?_, ?_⟩
    · rcases List.mem_cons.mp hx with rfl | hx
      · exact hv
      · exact q1 x hx
    · unfold mCompL
      rw [if_pos (live_none _ _)]
      have h1 : gSet 0 w (o :: caps) h = some (some w :: caps) := rfl
      have h2 : mYes (some w :: caps) h = some (true, h) := rfl
      rw [h1, Option.bind_some, h2, Option.bind_some]
      dsimp only
      rw [ev, Option.bind_some, if_pos (by omega)]
      rw [e1]; simp
theorem strs_ex {m : Nat} : ∀ vs : List W, (∀ v ∈ vs, ∃ t : Str, v = .str t ∧ t.length ≤ m) → ∃ zs : List Str, vs = zs.map W.str ∧ ∀ z ∈ zs, z.length ≤ m
  | [], _ => ⟨[], rfl, (fun z hz => by cases hz)⟩
  | v :: vs, h => by
    obtain ⟨t, rfl, ht⟩ := h v List.mem_cons_self
    obtain ⟨zs, rfl, hz⟩ := strs_ex vs fun x hx => h x (List.mem_cons_of_mem _ hx)
    refine ⟨t :: zs, rfl, fun z hz' => ?_⟩
    rcases List.mem_cons.mp hz' with rfl | hz'
    · exact ht
    · exact hz z hz'
theorem sum_le {m : Nat} : ∀ zs : List Str, (∀ z ∈ zs, z.length ≤ m) → (zs.map (·.length)).sum ≤ zs.length * m
  | [], _ => Nat.zero_le _
  | z :: zs, h => by
    rw [List.map_cons, List.sum_cons, List.length_cons, Nat.succ_mul]
    have := sum_le zs fun x hx => h x (List.mem_cons_of_mem _ hx)
    have h1 := h z List.mem_cons_self
    omega
theorem empty_len : (("" : Str)).length = 0 := by decide +kernel
theorem join_len (zs : List Str) : (Txt.join "" zs).length ≤ (zs.map (·.length)).sum := by
  have hj := StrLaws.join_length_le ("" : Str) zs
  have : Txt.join ("" : Str) zs = Str.join "" zs := eq_of_beq (join_plain_closes _ _)
  rw [this]
  rw [empty_len] at hj; omega
theorem strsW_map : ∀ zs : List Str, strsW (zs.map W.str) = some zs
  | [] => rfl
  | z :: zs => by rw [List.map_cons]; unfold strsW; rw [strsW_map zs]; rfl
theorem wJoin_eq {zs : List Str} {h : MH} (hs : (zs.map (·.length)).sum ≤ 16777216) : wJoin (.str "") [.lst (zs.map W.str)] h = some (.str (Txt.join "" zs), h) := by
  show ((lsW h (.lst (zs.map W.str))).bind fun ys => (strsW ys).bind fun zs => if (zs.map (·.length)).sum + zs.length * (("" : Str)).length ≤ 16777216 then some (W.str (Txt.join "" zs), h) else none) = _
  rw [show lsW h (.lst (zs.map W.str)) = some (zs.map W.str) from rfl, Option.bind_some, strsW_map, Option.bind_some, if_pos (by rw [empty_len]; omega)]
/-- ''.join([me for . in range(n)]) of short texts -/
theorem join_comp {mi : MI} {cp : List (Option Nat)} {me : ME} {caps σ : MSt} {h h1 : MH} {items : List W} {m : Nat} (e0 : mi σ h = some (items, none, h1)) (hc : capM cp σ = none :: caps) (one : ∀ w ∈ items, ∃ t : Str, t.length ≤ m ∧ me (some w :: caps) h1 = some (.str t, h1)) (hl : items.length * m ≤ 16777216) (hn : items.length ≤ sizeLine) :
    ∃ t : Str, t.length ≤ items.length * m ∧ mMt "str" wJoin (mC (.str "")) (mCons (mComp fLst mi cp (gSet 0) mYes me) mNil) σ h = some (.str t, h1) := by
  obtain ⟨vs, l1, q1, e1⟩ := compL_ex (fin := fLst) (items := items) (me := me) (caps := caps) (h := h1) (fun v => ∃ t : Str, v = .str t ∧ t.length ≤ m) items [] none (fun w hw => by
    obtain ⟨t, ht, et⟩ := one w hw
    exact ⟨_, ⟨t, rfl, ht⟩, et⟩) (by simpa using hn)
  obtain ⟨zs, rfl, hz⟩ := strs_ex vs q1
  have hs := sum_le zs hz
  rw [List.length_map] at l1
  rw [l1] at hs
  refine ⟨Txt.join "" zs, Nat.le_trans (join_len zs) hs, ?_⟩
  have ec : mComp fLst mi cp (gSet 0) mYes me σ h = some (.lst (zs.map W.str), h1) := by
    unfold mComp
    rw [e0, Option.bind_some, hc]
    exact e1
  rw [e_mt (a := .str "") rfl rfl (e_cons ec e_nil)]
  exact wJoin_eq (Nat.le_trans hs hl)
end Mi

namespace Mi
open PySem PySem.Spec PyProof.Rows L2
/-! ### range with a step -/
def Itst (lo c : Int) (n : Nat) : It := ⟨fun i _ => i < n, fun i H x H' => H' = H ∧ x = .int (lo + i * c), fun i _ => n ≤ i⟩
theorem turn_step {P : Program} {w : World} {K : PySem.W.Frag} {tg : Expr} (it : Addr) (lo c : Int) (n : Nat) : Turn P w K tg (Itst lo c n) [it] it (fun i h => IsRangeIter h it (lo + (i : Nat) * c) ((n : Int) - (i : Nat)) c) where
  mem := by simp
  obj := fun i h st b hb => by
    have e : b = it := by simpa using hb
    subst e
    exact ⟨_, st, fun v z => by
      have z' : Data.fields _ = Data.cell v := z
      cases z'⟩
  keep := fun i h h' st k => k it (by simp) _ st
  item := by
    intro X hP hw hK hc i pins s σ H E I hf st hg
    subst hP hw hK
    obtain ⟨f0, f1, f2, f3, f4, f5⟩ := hf it (by simp)
    have W := Walks.range (prog := X.prog) (w := X.w) (I.ok.hd hc) it lo c n
    refine W.item i s _ _ hg st fun v h' tk hv st' kk => ?_
    obtain ⟨t, rfl⟩ := hv
    have I1 : Inv X pins σ H { s with heap := h', toks := tk } := I.turned (fun b o hb e => kk b o (by simpa using hb) e) f0 f1 f3 f4 f5
    exact ⟨_, rfl, go_of (s := { s with heap := h', toks := tk }) (n := "range_iterator") st' rfl rfl (by decide) ⟨.int (lo + i * c), H, I1, ⟨t, rfl⟩, ⟨rfl, rfl⟩, st', fun b hb => (hf b hb).1⟩⟩
  done := by
    intro X hP hw hK hc i pins s σ H E I hf st hg
    subst hP hw hK
    obtain ⟨f0, f1, f2, f3, f4, f5⟩ := hf it (by simp)
    exact wpAny_pyNext_range_end (I.ok.hd hc) st (by have : n ≤ i := hg; omega) fun h' eb => ⟨rfl, I.turned (t' := s.toks) (fun b o hb e => eb b o hb e) f0 f1 f3 f4 f5⟩
  self := fun _ _ _ _ _ st h => wpAny_pyIter_rangeiter st h
theorem rangeSize_nn {a b c : Int} (hc : c ≠ 0) : 0 ≤ Builtin.Range.rangeSize a b c := by
  unfold Builtin.Range.rangeSize
  split
  · split
    · have : 0 ≤ (b - a - 1) / c := Int.ediv_nonneg (by omega) (by omega)
      omega
    · exact Int.le_refl _
  · split
    · have : 0 ≤ (a - b - 1) / (-c) := Int.ediv_nonneg (by omega) (by omega)
      omega
    · exact Int.le_refl _
section
variable {X : Cx} {tg : Expr}
theorem step_it {pins : List (Addr × Obj)} {σ : L2.St} {H : Hp} {s : Shared} {R : It → Hp → Prop} {E : Value → Shared → Prop} {lo hi c : Int} {t u v : Tok} {tk : Nat} (I : Inv X pins σ H s) (hc : c ≠ 0) (h1 : Builtin.Range.small lo hi c = true)
    (q : R (Itst lo c (Builtin.Range.rangeSize lo hi c).toNat) H) : wpAny (model X.prog X.w) X.A (pyIter (.ref s.heap.objs.size)) (PIE X pins σ tg R) E { s with heap := s.heap.push { cls := .type "range", data := .fields #[.int lo t, .int hi u, .int c v] }, toks := tk } := by
  refine wpAny_pyIter_range (IsRange.new ..) h1 ?_
  have I1 : Inv X pins σ H { s with heap := s.heap.push { cls := .type "range", data := .fields #[.int lo t, .int hi u, .int c v] }, toks := tk } := I.kept fun b o e => Heap.get?_push_of_some _ e
  refine ⟨(s.heap.push { cls := .type "range", data := .fields #[.int lo t, .int hi u, .int c v] }).objs.size, [(s.heap.push { cls := .type "range", data := .fields #[.int lo t, .int hi u, .int c v] }).objs.size], _, _, H, rfl,
    I1.kept (t' := tk) fun b o e => Heap.get?_push_of_some _ e, turn_step _ lo c (Builtin.Range.rangeSize lo hi c).toNat, ?_, fun b hb => ?_, q⟩
  · have e1 : lo + ((0 : Nat) : Int) * c = lo := by simp
    have e2 : (((Builtin.Range.rangeSize lo hi c).toNat : Nat) : Int) - ((0 : Nat) : Int) = Builtin.Range.rangeSize lo hi c := by
      have := rangeSize_nn (a := lo) (b := hi) hc
      omega
    show IsRangeIter _ _ (lo + ((0 : Nat) : Int) * c) ((((Builtin.Range.rangeSize lo hi c).toNat : Nat) : Int) - ((0 : Nat) : Int)) c
    rw [e1, e2]
    exact Heap.get?_push_size _ rfl
  · have e : b = (s.heap.push { cls := .type "range", data := .fields #[.int lo t, .int hi u, .int c v] }).objs.size := by simpa using hb
    subst e
    exact I1.fpOk (Nat.le_refl _) (I1.hok.fresh (Nat.le_refl _))
def iRng3 (ta : TA) : TI := fun σ H R => ta σ H fun vs H1 => ∃ i j c : Int, vs = [.int i, .int j, .int c] ∧ (c ≠ 0 ∧ c.natAbs < 1073741824 ∧ Builtin.Range.small i j c = true) ∧ R (Itst i c (Builtin.Range.rangeSize i j c).toNat) H1
theorem pi_range3 {a b d : Expr} {ta : TA} {p pos : Pos} (hg : Gl X "range") (hm : X.mg "range" = none) (ha : PA X [a, b, d] ta) (hs : starEach [a, b, d] X.env = [(false, eval a X.env), (false, eval b X.env), (false, eval d X.env)] := by rfl) (hs2 : starEach [b, d] X.env = [(false, eval b X.env), (false, eval d X.env)] := by rfl) :
    PI X tg (.Call (.Name "range" p) [a, b, d] [] pos) (iRng3 ta) := by
  intro pins s σ H R I h
  refine Call_ (ld_blt I hg hm boot_range (PyProof.Rows.callWith_type1 (thn (ha pos pins s σ H _ I h) fun us s1 ⟨vs, H1, I1, r1, q1⟩ => ?_) (by rw [hs, hs2]) (by rw [hs2]; rfl)))
  obtain ⟨i, j, c, e, ⟨q1, q2, q3⟩, q⟩ := q1
  subst e
  cases r1 with
  | cons r rr =>
    cases rr with
    | cons r' rr =>
      cases rr with
      | cons r'' rr =>
        cases rr
        obtain ⟨t, rfl⟩ := r
        obtain ⟨t', rfl⟩ := r'
        obtain ⟨t'', rfl⟩ := r''
        exact call_range_3 q1 (step_it I1 q1 q3 q) (.inl (PyProof.noPylong_small q2))
end
def rangeS (lo c : Int) (n : Nat) : List W := (List.range n).map fun (i : Nat) => W.int (lo + (i : Int) * c)
section
variable {K : PySem.W.Frag} {R : Rn}
theorem itok_step {lo c : Int} {n : Nat} : ItOk K R (Itst lo c n) (rangeS lo c n) none where
  go := fun i w R' h H _ _ _ e => by
    have := (List.getElem?_eq_some_iff.mp e).1
    show i < n
    simpa [rangeS] using this
  yld := fun i w R' h H v H' e rh _ ew hy => by
    obtain ⟨rfl, rfl⟩ := hy
    unfold rangeS at ew
    rw [List.getElem?_map] at ew
    obtain ⟨j, hj, e2⟩ := Option.map_eq_some_iff.mp ew
    rw [List.getElem?_range (by have := (List.getElem?_eq_some_iff.mp hj).1; simpa using this)] at hj
    cases hj
    cases e2
    exact ⟨R', Ext.refl _, rh, Rw.int _⟩
  stop := fun i R' h H _ _ _ hl => by
    show n ≤ i
    simpa [rangeS] using hl
end
def miR3 (ms : MA) : MI := fun σ h => (ms σ h).bind fun p => match p.1 with
  | [.int i, .int j, .int c] => if c ≠ 0 ∧ c.natAbs < 1073741824 ∧ Builtin.Range.small i j c = true then some (rangeS i c (Builtin.Range.rangeSize i j c).toNat, none, p.2) else none
  | _ => none
section
variable {X : Cx} {tg a b d : Expr} {ms : MA} {p pos : Pos}
theorem pmi_r3 (hg : Gl X "range") (hm : X.mg "range" = none) (ha : PMA X [a, b, d] ms) (hs : starEach [a, b, d] X.env = [(false, eval a X.env), (false, eval b X.env), (false, eval d X.env)] := by rfl) (hs2 : starEach [b, d] X.env = [(false, eval b X.env), (false, eval d X.env)] := by rfl) : PMI X tg (.Call (.Name "range" p) [a, b, d] [] pos) (miR3 ms) :=
  pi_imp (pi_range3 hg hm ha hs hs2) fun σ H C ⟨R, σi, h, items, src, h', rh, st, e, k⟩ => by
    obtain ⟨⟨ws, h1⟩, e1, e2⟩ := Option.bind_eq_some_iff.mp e
    refine ⟨R, σi, h, ws, h1, rh, st, e1, fun R1 H1 vs x1 rh1 rv => ?_⟩
    split at e2
    · rename_i i j c hj
      simp only at hj
      subst hj
      split at e2
      · rename_i hb
        cases e2
        rw [Rws.cons_iff] at rv
        obtain ⟨v, vs', rfl, r1, r2⟩ := rv
        rw [Rws.cons_iff] at r2
        obtain ⟨v2, vs2, rfl, r3, r4⟩ := r2
        rw [Rws.cons_iff] at r4
        obtain ⟨v3, vs3, rfl, r5, r6⟩ := r4
        rw [Rws.nil_iff] at r6
        subst r6
        rw [r1.int_eq, r3.int_eq, r5.int_eq]
        exact ⟨i, j, c, rfl, hb, k R1 H1 _ x1 rh1 itok_step⟩
      · cases e2
    · cases e2
end
end Mi

namespace Mi
open PySem PySem.Spec PyProof.Rows L2
/-! ### a dict of a def's own: {}, d[k], d[k] = v, k in d; keys ints and texts -/
def valW (kvs : List (Key × W)) (k : Key) : Option W := (kvs.find? fun kv => decide (kv.1 = k)).map (·.2)
def putW (kvs : List (Key × W)) (k : Key) (v : W) : List (Key × W) :=
  if (kvs.any fun kv => decide (kv.1 = k)) = true then kvs.map (fun kv => if kv.1 = k then (kv.1, v) else kv) else kvs ++ [(k, v)]
def keyW : W → Option Key
  | .int i => some (.inl i)
  | .str x => some (.inr x)
  | _ => none
section
variable {K : PySem.W.Frag} {R : Rn}
abbrev DicR (K : PySem.W.Frag) (R : Rn) : List (Key × W) → List (Key × V) → Prop := Paired fun p q => p.1 = q.1 ∧ Rw K R p.2 q.2
theorem keyW_rel {w : W} {v : V} {k : Key} (r : Rw K R w v) (e : keyW w = some k) : v = kV k := by
  cases w with
  | int i => cases e; exact r.int_eq
  | str x => cases e; exact r.str_eq
  | _ => cases e
theorem dic_val {k : Key} : ∀ {kvs : List (Key × W)} {kx : List (Key × V)}, DicR K R kvs kx → (valW kvs k = none ∧ valV kx k = none) ∨ ∃ w v, valW kvs k = some w ∧ valV kx k = some v ∧ Rw K R w v
  | _, _, .nil => .inl ⟨rfl, rfl⟩
  | p :: ps, q :: qs, .cons h t => by
    by_cases e : p.1 = k
    · have e' : q.1 = k := h.1 ▸ e
      exact .inr ⟨p.2, q.2, by simp [valW, List.find?_cons, e], by simp [valV, List.find?_cons, e'], h.2⟩
    · have e' : ¬ q.1 = k := h.1 ▸ e
      have h1 : valW (p :: ps) k = valW ps k := by simp only [valW, List.find?_cons, e, decide_false]
      have h2 : valV (q :: qs) k = valV qs k := by simp only [valV, List.find?_cons, e', decide_false]
      rcases dic_val (k := k) t with z | ⟨w, v, z1, z2, z3⟩
      · exact .inl ⟨h1.trans z.1, h2.trans z.2⟩
      · exact .inr ⟨w, v, h1.trans z1, h2.trans z2, z3⟩
theorem dic_any {k : Key} : ∀ {kvs : List (Key × W)} {kx : List (Key × V)}, DicR K R kvs kx → (kvs.any fun kv => decide (kv.1 = k)) = kx.any fun kv => decide (kv.1 = k)
  | _, _, .nil => rfl
  | _, _, .cons (a := p) (b := q) h t => by
    rw [List.any_cons, List.any_cons, dic_any t, h.1]
theorem dic_repl {k : Key} {w : W} {v : V} (r : Rw K R w v) : ∀ {kvs : List (Key × W)} {kx : List (Key × V)}, DicR K R kvs kx → DicR K R (kvs.map (fun kv => if kv.1 = k then (kv.1, w) else kv)) (kx.map (fun kv => if kv.1 = k then (kv.1, v) else kv))
  | _, _, .nil => .nil
  | _, _, .cons (a := p) (b := q) h t => by
    rw [List.map_cons, List.map_cons]
    refine .cons ?_ (dic_repl r t)
    by_cases e : p.1 = k
    · rw [if_pos e, if_pos (h.1 ▸ e)]; exact ⟨h.1, r⟩
    · rw [if_neg e, if_neg (h.1 ▸ e)]; exact h
theorem dic_put {k : Key} {w : W} {v : V} {kvs : List (Key × W)} {kx : List (Key × V)} (d : DicR K R kvs kx) (r : Rw K R w v) : DicR K R (putW kvs k w) (putK kx k v) := by
  unfold putW putK
  rw [dic_any d]
  split
  · exact dic_repl r d
  · exact Paired.snoc d ⟨rfl, r⟩
theorem Rh.dicAt {h : MH} {H : Hp} (q : Rh K R h H) {n : Nat} {v : V} {kvs : List (Key × W)} (r : Rw K R (.ref n) v) (e : h[n]? = some (.dic kvs)) :
    n < R.N ∧ v = .ref (R.ρ n) ∧ ∃ kx, H (R.ρ n) = some (.dK kx) ∧ DicR K R kvs kx := by
  unfold Rw at r
  exact ⟨r.1, r.2, q.obj n _ e⟩
end
def mNewD : ME := fun _ h => some (.ref h.length, h ++ [.dic []])
def dicW (h : MH) : W → Option (List (Key × W))
  | .ref n => match h[n]? with | some (.dic kvs) => some kvs | _ => none
  | _ => none
theorem dicW_ref {h : MH} {a : W} {kvs : List (Key × W)} (e : dicW h a = some kvs) : ∃ n, a = .ref n ∧ h[n]? = some (.dic kvs) := by
  cases a with
  | ref n =>
    simp only [dicW] at e
    split at e
    · rename_i us hn
      cases e
      exact ⟨n, rfl, hn⟩
    · cases e
  | _ => cases e
def wIxD (a b : W) (h : MH) : Option (W × MH) := (dicW h a).bind fun kvs => (keyW b).bind fun k => (valW kvs k).map fun v => (v, h)
def wInD (neg : Bool) (b a : W) (h : MH) : Option (W × MH) := (dicW h a).bind fun kvs => (keyW b).map fun k => (.bl (if neg then !(valW kvs k).isSome else (valW kvs k).isSome), h)
def mPutD (mo mi mv : ME) : SM := fun σ h => (mv σ h).bind fun v => (mo σ v.2).bind fun o => (mi σ o.2).bind fun i => (keyW i.1).bind fun k => match o.1 with
  | .ref n => match i.2[n]? with
    | some (.dic kvs) => if kvs.length < sizeLine then some (.nx σ (i.2.set n (.dic (putW kvs k v.1)))) else none
    | _ => none
  | _ => none
section
variable {X : Cx} {o i e a b : Expr} {mo mi mv ma mb : ME} {pos pos' : Pos}
theorem pm_newD : PM X (.Dict [] [] pos) mNewD := pe_imp pe_dnewK fun σ H Q q => by
  obtain ⟨R, σi, h, w, h', rh, st, e, k⟩ := q
  cases e
  intro p hp
  obtain ⟨R3, x3, rh3, rw3⟩ := rh.new (mo := .dic []) (o := .dK []) hp fun R' x' => ⟨[], rfl, .nil⟩
  exact k R3 _ _ x3 rh3 rw3
theorem pm_ixD (hu : X.A.units + 64 < cLine) (ha : PM X a ma) (hb : PM X b mb) (hs : PlainIx b := by intro _ _; rfl) : PM X (.Subscript a b pos) (mBin wIxD ma mb) :=
  pe_imp (pe_dget (by omega) ha hb hs) fun σ H Q q => tI_mono (bin2 q) fun x H1 q1 => tI_mono q1 fun y H2 ⟨R, h, a, b, w, h', rh, ra, rb, e, k⟩ => by
    unfold wIxD at e
    obtain ⟨kvs, e1, e2⟩ := Option.bind_eq_some_iff.mp e
    obtain ⟨kk, e3, e4⟩ := Option.bind_eq_some_iff.mp e2
    obtain ⟨v, e5, e6⟩ := Option.map_eq_some_iff.mp e4
    cases e6
    obtain ⟨n, rfl, hn⟩ := dicW_ref e1
    obtain ⟨_, ey, kx, hx, dr⟩ := rh.dicAt ra hn
    have eb := keyW_rel rb e3
    subst eb
    rcases dic_val (k := kk) dr with z | ⟨w', v', z1, z2, z3⟩
    · rw [z.1] at e5; cases e5
    · rw [z1] at e5; cases e5
      exact ⟨_, v', ey, by rw [← z2]; exact DGet.k hx, k R H2 _ (Ext.refl _) rh z3⟩
theorem opr_inD (hu : X.A.units + 64 < cLine) : OpR X (compareOp .In) (F2 X.K (wInD false)) := by
  intro pins s σ H x y v u Q I rx ry ⟨R, h, a, b, w, h', rh, ra, rb, e, k⟩
  unfold wInD at e
  obtain ⟨kvs, e1, e2⟩ := Option.bind_eq_some_iff.mp e
  obtain ⟨kk, e3, e4⟩ := Option.map_eq_some_iff.mp e2
  cases e4
  obtain ⟨n, rfl, hn⟩ := dicW_ref e1
  obtain ⟨_, ey, kx, hx, dr⟩ := rh.dicAt rb hn
  have eb := keyW_rel ra e3
  subst eb ey
  obtain rfl : u = Value.ref (R.ρ n) := ry
  refine d_in (by omega) I (DGet.k (k := kk) hx) rx fun s' I' => ⟨.bl (valV kx kk).isSome, H, I', rfl, ?_⟩
  have : (valW kvs kk).isSome = (valV kx kk).isSome := by
    rcases dic_val (k := kk) dr with z | ⟨w', v', z1, z2, z3⟩
    · rw [z.1, z.2]; rfl
    · rw [z1, z2]; rfl
  rw [← this]
  exact k R H _ (Ext.refl _) rh (Rw.bl _)
theorem opr_notInD (hu : X.A.units + 64 < cLine) : OpR X (compareOp .NotIn) (F2 X.K (wInD true)) := by
  intro pins s σ H x y v u Q I rx ry ⟨R, h, a, b, w, h', rh, ra, rb, e, k⟩
  unfold wInD at e
  obtain ⟨kvs, e1, e2⟩ := Option.bind_eq_some_iff.mp e
  obtain ⟨kk, e3, e4⟩ := Option.map_eq_some_iff.mp e2
  cases e4
  obtain ⟨n, rfl, hn⟩ := dicW_ref e1
  obtain ⟨_, ey, kx, hx, dr⟩ := rh.dicAt rb hn
  have eb := keyW_rel ra e3
  subst eb ey
  obtain rfl : u = Value.ref (R.ρ n) := ry
  refine d_notIn (by omega) I (DGet.k (k := kk) hx) rx fun s' I' => ⟨.bl (!(valV kx kk).isSome), H, I', rfl, ?_⟩
  have : (valW kvs kk).isSome = (valV kx kk).isSome := by
    rcases dic_val (k := kk) dr with z | ⟨w', v', z1, z2, z3⟩
    · rw [z.1, z.2]; rfl
    · rw [z1, z2]; rfl
  rw [← this]
  exact k R H _ (Ext.refl _) rh (Rw.bl _)
theorem putD_of {K : PySem.W.Frag} {D : L2.Ends} {σ : L2.St} {H : Hp} (q : tS K (mPutD mo mi mv) D σ H) : sDPut (tI K mo) (tI K mi) (tI K mv) D σ H := by
  obtain ⟨R, σi, h, r, rh, s, e, k⟩ := q
  obtain ⟨⟨v, h1⟩, e1, e2⟩ := Option.bind_eq_some_iff.mp e
  obtain ⟨⟨ob, h2⟩, e3, e4⟩ := Option.bind_eq_some_iff.mp e2
  obtain ⟨⟨ix, h3⟩, e5, e6⟩ := Option.bind_eq_some_iff.mp e4
  obtain ⟨kk, e7, e8⟩ := Option.bind_eq_some_iff.mp e6
  refine ⟨R, σi, h, v, h1, rh, s, e1, fun R1 H1 x x1 rh1 rx => ⟨R1, σi, h1, ob, h2, rh1, s.mono x1, e3, fun R2 H2 y x2 rh2 ry => ⟨R2, σi, h2, ix, h3, rh2, s.mono (x1.trans x2), e5, fun R3 H3 z x3 rh3 rz => ?_⟩⟩⟩
  dsimp only at e8
  split at e8
  · rename_i n
    split at e8
    · rename_i kvs hn
      split at e8
      · rename_i hlen
        cases e8
        obtain ⟨hlt, ey, kx, h4, r4⟩ := rh3.dicAt (Rw.mono x3 _ _ ry) hn
        have ez := keyW_rel rz e7
        subst ez
        refine ⟨_, _, ey, DPut.k h4 (by rw [← Paired.length r4]; exact hlen), ?_⟩
        exact k R3 _ σ (x1.trans (x2.trans x3)) (rh3.put hlt ⟨_, rfl, dic_put r4 (Rw.mono (x2.trans x3) _ _ rx)⟩) (s.mono (x1.trans (x2.trans x3)))
      · cases e8
    · cases e8
  · cases e8
theorem pms_putD (hu : X.A.units + 64 < cLine) (ho : PM X o mo) (hi : PM X i mi) (he : PM X e mv) (hs : isComp e = false := by rfl) : PMS X (.Assign [.Subscript o i pos'] e pos) (mPutD mo mi mv) :=
  ps_imp (ps_dput (by omega) ho hi he (show swapsWith e (some (.Subscript o i pos')) pos.line X.env = pure false from swaps_of hs)) fun _ _ _ => putD_of
end
end Mi

namespace Mi
open PySem PySem.Spec PyProof.Rows L2
/-! ### reckoning, the third part -/
theorem e_aug {i : Nat} {f : W → W → MH → Option (W × MH)} {m : ME} {σ : MSt} {h h1 h2 : MH} {x a b : W} (hx : σ[i]? = some (some x)) (e : m σ h = some (a, h1)) (ef : f x a h1 = some (b, h2)) : mAug i f m σ h = some (.nx (σ.set i (some b)) h2) := by
  unfold mAug
  simp only [hx]
  rw [e, Option.bind_some]
  simp only
  rw [ef]; rfl
theorem loop_ret {items : List W} {b : MG} {body : SM} {w v : W} {r : List W} {σ σ1 : MSt} {h h2 : MH} (hb : b w σ h = some σ1) (hy : body σ1 h = some (.rt v h2)) : mLoop items none b body (w :: r) σ h = some (.rt v h2) := by
  rw [mLoop, if_pos (live_none _ _), hb, Option.bind_some, hy, Option.bind_some]
/-- a loop whose turns keep a word, or end the def -/
theorem loop_res {items : List W} {b : MG} {body : SM} (P : Nat → MSt → MH → Prop) (Q : W → MH → Prop) : ∀ (r : List W) (n : Nat) (σ : MSt) (h : MH), P n σ h →
    (∀ (j : Nat) (w : W), r[j]? = some w → ∀ σ h, P (n + j) σ h → ∃ σ1, b w σ h = some σ1 ∧ ((∃ σ2 h2, body σ1 h = some (.nx σ2 h2) ∧ P (n + j + 1) σ2 h2) ∨ ∃ v h2, body σ1 h = some (.rt v h2) ∧ Q v h2)) →
    (∃ σ' h', mLoop items none b body r σ h = some (.nx σ' h') ∧ P (n + r.length) σ' h') ∨ ∃ v h', mLoop items none b body r σ h = some (.rt v h') ∧ Q v h'
  | [], n, σ, h, hp, _ => .inl ⟨σ, h, loop_end, hp⟩
  | w :: r, n, σ, h, hp, hs => by
    obtain ⟨σ1, e1, ⟨σ2, h2, e2, p2⟩ | ⟨v, h2, e2, q⟩⟩ := hs 0 w rfl σ h hp
    · have := loop_res (items := items) P Q r (n + 1) σ2 h2 p2 fun j x hx σ h hp => by
        have := hs (j + 1) x (by simpa using hx) σ h (by rw [show n + (j + 1) = n + 1 + j by omega]; exact hp)
        rw [show n + (j + 1) + 1 = n + 1 + j + 1 by omega] at this
        exact this
      rw [loop_turn e1 e2, List.length_cons, show n + (r.length + 1) = n + 1 + r.length by omega]
      exact this
    · exact .inr ⟨v, h2, loop_ret e1 e2, q⟩
theorem e_seqL {s1 s2 : SM} {σ : MSt} {h h1 : MH} {w : W} {r : Option MF} (e1 : s1 σ h = some (.rt w h1)) (e2 : r = some (.rt w h1)) : mSeq s1 s2 σ h = r := by rw [e2]; exact e_seqR e1
theorem wIx_tup {ws : List W} {j : Nat} {w : W} {h : MH} (e : ws[j]? = some w) : wIx (.tup ws) (.int (j : Int)) h = some (w, h) := by
  show ((atI ws (j : Int)).map fun w => (w, h)) = _
  rw [atI_nat e]; rfl
theorem wIx_ls {a : W} {ws : List W} {i : Int} {w : W} {h : MH} (hn : ∀ x, a ≠ .tup x) (hs : ∀ x, a ≠ .str x) (e : lsW h a = some ws) (e2 : atI ws i = some w) : wIx a (.int i) h = some (w, h) := by
  unfold wIx
  cases a with
  | tup x => exact absurd rfl (hn x)
  | str x => exact absurd rfl (hs x)
  | _ => simp only; rw [e, Option.bind_some, e2]; rfl
theorem lsW_ref {h : MH} {n : Nat} {ws : List W} (e : h[n]? = some (.lst ws)) : lsW h (.ref n) = some ws := by unfold lsW; simp only [e]
theorem atI_last {α : Type} (xs : List α) (x : α) : atI (xs ++ [x]) (-1) = some x := by
  unfold atI ixN
  rw [if_neg (by decide), if_pos (by simp; omega), Option.bind_some]
  have : ((-1 : Int) + ((xs ++ [x]).length : Nat)).toNat = xs.length := by simp; omega
  rw [this]; simp
theorem ixN_last {α : Type} (xs : List α) (x : α) : ixN (xs ++ [x]).length (-1) = some xs.length := by
  unfold ixN
  rw [if_neg (by decide), if_pos (by simp; omega)]
  congr 1
  simp; omega
theorem set_lastL {α : Type} (xs : List α) (x y : α) : (xs ++ [x]).set xs.length y = xs ++ [y] := by simp
theorem wPop_ref {h : MH} {n : Nat} {xs : List W} {x : W} (e : h[n]? = some (.lst (xs ++ [x]))) : wPop (.ref n) [] h = some (x, h.set n (.lst xs)) := by
  unfold wPop
  simp only [e]
  have : (xs ++ [x])[(xs ++ [x]).length - 1]? = some x := by simp
  rw [this, Option.map_some]
  simp
theorem append_refM {h : MH} {n : Nat} {xs : List W} {w : W} (e : h[n]? = some (.lst xs)) (hl : xs.length < sizeLine) : wAppend (.ref n) [w] h = some (.non, h.set n (.lst (xs ++ [w]))) := by
  unfold wAppend
  simp only [e]
  rw [if_pos hl]
theorem tyW_ref {h : MH} {n : Nat} {xs : List W} (e : h[n]? = some (.lst xs)) : tyW h "list" (.ref n) = true := by unfold tyW; simp only [e]; rfl
/-- xs.append(e) -/
theorem e_append {mo me : ME} {σ : MSt} {h h1 : MH} {n : Nat} {xs : List W} {w : W} (e1 : mo σ h = some (.ref n, h)) (e2 : me σ h = some (w, h1)) (hn : h[n]? = some (.lst xs)) (hn1 : h1[n]? = some (.lst xs)) (hl : xs.length < sizeLine) : mDrop (mMt "list" wAppend mo (mCons me mNil)) σ h = some (.nx σ (h1.set n (.lst (xs ++ [w])))) :=
  e_drop (a := .non) ((e_mt e1 (tyW_ref hn) (e_cons e2 e_nil)).trans (append_refM hn1 hl))
/-- xs.pop() -/
theorem e_pop {mo : ME} {σ : MSt} {h : MH} {n : Nat} {xs : List W} {w : W} (e1 : mo σ h = some (.ref n, h)) (hn : h[n]? = some (.lst (xs ++ [w]))) : mMt "list" wPop mo mNil σ h = some (w, h.set n (.lst xs)) :=
  (e_mt e1 (tyW_ref hn) e_nil).trans (wPop_ref hn)
/-- xs[-1] = e -/
theorem e_putLast {mo mi mv : ME} {σ : MSt} {h : MH} {n : Nat} {xs : List W} {w v : W} (ev : mv σ h = some (v, h)) (eo : mo σ h = some (.ref n, h)) (ei : mi σ h = some (.int (-1), h)) (hn : h[n]? = some (.lst (xs ++ [w]))) : mPut mo mi mv σ h = some (.nx σ (h.set n (.lst (xs ++ [v])))) := by
  unfold mPut
  rw [ev, Option.bind_some]
  simp only
  rw [eo, Option.bind_some]
  simp only
  rw [ei, Option.bind_some]
  simp only [hn]
  rw [ixN_last, Option.map_some, set_lastL]
/-- xs[-1] -/
theorem e_last {mo mi : ME} {σ : MSt} {h : MH} {n : Nat} {xs : List W} {w : W} (eo : mo σ h = some (.ref n, h)) (ei : mi σ h = some (.int (-1), h)) (hn : h[n]? = some (.lst (xs ++ [w]))) : mBin wIx mo mi σ h = some (w, h) :=
  (e_bin eo ei).trans (wIx_ls (by intro x; simp) (by intro x; simp) (lsW_ref hn) (atI_last _ _))
theorem valW_put_same (kvs : List (Key × W)) (k : Key) (v : W) : valW (putW kvs k v) k = some v := by
  unfold putW
  split
  · rename_i h
    induction kvs with
    | nil => simp at h
    | cons p r ih =>
      by_cases e : p.1 = k
      · simp [valW, List.find?_cons, e]
      · have h' : (r.any fun kv => decide (kv.1 = k)) = true := by simpa [List.any_cons, e] using h
        have := ih h'
        simp only [valW, List.map_cons, List.find?_cons, if_neg e, decide_eq_false e] at this ⊢
        exact this
  · rename_i h
    have : kvs.find? (fun kv => decide (kv.1 = k)) = none := by
      rw [List.find?_eq_none]
      intro p hp q
      exact h (List.any_eq_true.mpr ⟨p, hp, q⟩)
    simp [valW, List.find?_append, this]
theorem valW_put_ne (kvs : List (Key × W)) {k k' : Key} (v : W) (hne : k' ≠ k) : valW (putW kvs k v) k' = valW kvs k' := by
  unfold putW
  split
  · rename_i hh
    clear hh
    induction kvs with
    | nil => rfl
    | cons p r ih =>
      simp only [valW, List.map_cons, List.find?_cons] at ih ⊢
      by_cases e : p.1 = k
      · have e2 : ¬ p.1 = k' := fun z => hne (z.symm.trans e)
        rw [if_pos e]
        simp only [decide_eq_false e2]
        exact ih
      · rw [if_neg e]
        by_cases e2 : p.1 = k'
        · simp [e2]
        · simp only [decide_eq_false e2]
          exact ih
  · have hne' : ¬ k = k' := fun z => hne z.symm
    simp only [valW, List.find?_append]
    cases kvs.find? (fun kv => decide (kv.1 = k')) with
    | some x => simp
    | none => simp [hne']
theorem putW_len (kvs : List (Key × W)) (k : Key) (v : W) : (putW kvs k v).length ≤ kvs.length + 1 := by
  unfold putW
  split
  · simp
  · simp
theorem e_putD {mo mi mv : ME} {σ : MSt} {h h1 : MH} {n : Nat} {kvs : List (Key × W)} {v i : W} {k : Key} (ev : mv σ h = some (v, h1)) (eo : mo σ h1 = some (.ref n, h1)) (ei : mi σ h1 = some (i, h1)) (hk : keyW i = some k) (hn : h1[n]? = some (.dic kvs)) (hl : kvs.length < sizeLine) : mPutD mo mi mv σ h = some (.nx σ (h1.set n (.dic (putW kvs k v)))) := by
  unfold mPutD
  rw [ev, Option.bind_some]
  simp only
  rw [eo, Option.bind_some]
  simp only
  rw [ei, Option.bind_some]
  simp only
  rw [hk, Option.bind_some]
  simp only [hn]
  rw [if_pos hl]
theorem e_ixD {mo mi : ME} {σ : MSt} {h : MH} {n : Nat} {kvs : List (Key × W)} {v i : W} {k : Key} (eo : mo σ h = some (.ref n, h)) (ei : mi σ h = some (i, h)) (hk : keyW i = some k) (hn : h[n]? = some (.dic kvs)) (hv : valW kvs k = some v) : mBin wIxD mo mi σ h = some (v, h) := by
  rw [e_bin eo ei]
  unfold wIxD dicW
  simp only [hn]
  rw [Option.bind_some, hk, Option.bind_some, hv]; rfl
theorem wNe_str (a b : Str) (h : MH) : wNe (.str a) (.str b) h = some (.bl (!(a == b)), h) := by unfold wNe; simp [drf, eqW]
theorem rangeS_get {lo c : Int} {n j : Nat} {w : W} (e : (rangeS lo c n)[j]? = some w) : j < n ∧ w = .int (lo + (j : Int) * c) := by
  unfold rangeS at e
  rw [List.getElem?_map] at e
  obtain ⟨i, h1, rfl⟩ := Option.map_eq_some_iff.mp e
  obtain ⟨hl, h2⟩ := List.getElem?_eq_some_iff.mp h1
  rw [List.length_range] at hl
  rw [List.getElem_range] at h2
  subst h2
  exact ⟨hl, rfl⟩
theorem rangeS_len (lo c : Int) (n : Nat) : (rangeS lo c n).length = n := by unfold rangeS; simp
theorem small_m1 {k : Nat} (hk : k < 1000) : Builtin.Range.small ((k : Int) - 1) (-1) (-1) = true ∧ (Builtin.Range.rangeSize ((k : Int) - 1) (-1) (-1)).toNat = k := by
  have e : Builtin.Range.rangeSize ((k : Int) - 1) (-1) (-1) = k := by
    unfold Builtin.Range.rangeSize
    rw [if_neg (by decide)]
    by_cases z : k = 0
    · subst z; rfl
    · rw [if_pos (by omega)]
      simp
  refine ⟨?_, by rw [e]; simp⟩
  unfold Builtin.Range.small
  rw [e]
  simp only [Builtin.Range.rangeFitsLong, Bool.and_eq_true, Bool.or_eq_true, decide_eq_true_eq, beq_iff_eq]
  exact ⟨by omega, .inr (by decide)⟩
theorem e_r3d {ma mb mc : ME} {σ : MSt} {h : MH} {k : Nat} (e : ma σ h = some (.int ((k : Int) - 1), h)) (eb : mb σ h = some (.int (-1), h)) (ec : mc σ h = some (.int (-1), h)) (hk : k < 1000) : miR3 (mCons ma (mCons mb (mCons mc mNil))) σ h = some (rangeS ((k : Int) - 1) (-1) k, none, h) := by
  unfold miR3
  rw [e_cons e (e_cons eb (e_cons ec e_nil)), Option.bind_some]
  obtain ⟨h1, h2⟩ := small_m1 hk
  show (if _ then _ else _) = _
  rw [if_pos ⟨by decide, by decide, h1⟩, h2]
theorem e_r2 {ma mb : ME} {σ : MSt} {h : MH} {i j : Int} (e : ma σ h = some (.int i, h)) (eb : mb σ h = some (.int j, h)) (h0 : -(2 ^ 62) ≤ i ∧ i < 2 ^ 62 ∧ -(2 ^ 62) ≤ j ∧ j < 2 ^ 62) : miR2 (mCons ma (mCons mb mNil)) σ h = some (rangeW i (j - i).toNat, none, h) := by
  unfold miR2
  rw [e_cons e (e_cons eb e_nil), Option.bind_some]
  exact if_pos h0
end Mi

namespace My
open PySem PySem.Spec PyProof.Rows L2 Mi
def top (i : Nat) : Stmt := PySem.Challenge.pw_doneroom_k03_blocks.main.body.getD i (.Pass ⟨0, 0, 0, 0⟩)
section
variable {P : Program} {w : World} {K : PySem.W.Frag} {mg : Str → Option Value} {base : Heap}
abbrev st__law_cell : Stmt := top 8
theorem sc__law_cell : FnScope ["script", "k"] ["script", "k"] (defScope st__law_cell) := ⟨rfl, rfl, rfl, by decide +kernel, rfl, by decide +kernel, by decide +kernel⟩
noncomputable def sem__law_cell : FM := mDef 0
    (mSeq (mIte (mTest (mBin wLt (mVar 1) (mFn wLen (mCons (mVar 0) mNil)))) (mRet (mBin wMod (mBin wIx (mVar 0) (mVar 1)) (mBin wPow (mC (.int 10)) (mC (.int 40))))) mSkip)
    (mRet (mBin wDiv (mBin wMul (mBin wMul (mBin wAdd (mVar 1) (mC (.int 7))) (mC (.int 15485863))) (mBin wAdd (mVar 1) (mC (.int 1)))) (mC (.int 3)))))
set_option maxHeartbeats 4000000 in
theorem cal__law_cell (d : DefAt K mg "_law_cell" st__law_cell ["script", "k"]) (b_len : mg "len" = none) : Cal P w K mg base 1 "_law_cell" ["script", "k"] sem__law_cell := by
  refine cal_mk (k := 0) (more := 0) d sc__law_cell rfl fun f cdv A outer s H E hr => ?_
  have hu := hr.units
  refine pms_cons ?_ ?_
  refine pms_if ?_ ?_ ?_
  refine pmt_cmp opr_lt opM_id ?_ ?_
  exact pm_var 1
  refine pm_callB callr_len callM_id ?_ ?_ PySem.boot_len ?_ ?_ ?_ ?_ ?_
  exact rfl
  exact b_len
  refine pma_cons ?_ ?_
  exact pm_var 0
  exact pma_nil
  decide
  decide
  exact rfl
  exact rfl
  refine pms_one ?_
  refine pms_ret ?_
  refine pm_op opr_mod opM_id ?_ ?_
  refine pm_ix ?_ ?_
  exact pm_var 0
  exact pm_var 1
  refine pm_op opr_pow opM_id ?_ ?_
  exact pm_int
  exact pm_int
  exact pms_nil
  refine pms_one ?_
  refine pms_ret ?_
  refine pm_op opr_div opM_id ?_ ?_
  refine pm_op opr_mul opM_id ?_ ?_
  refine pm_op opr_mul opM_id ?_ ?_
  refine pm_op opr_add opM_id ?_ ?_
  exact pm_var 1
  exact pm_int
  exact pm_int
  refine pm_op opr_add opM_id ?_ ?_
  exact pm_var 1
  exact pm_int
  exact pm_int
abbrev st__law_right : Stmt := top 10
theorem sc__law_right : FnScope ["script", "many", "lines", "waiting", "k", "cell", "word"] ["script", "many"] (defScope st__law_right) := ⟨rfl, rfl, rfl, by decide +kernel, rfl, by decide +kernel, by decide +kernel⟩
noncomputable abbrev bd__law_right_1 : SM := (mSeq (mSet 5 (mBin wDiv (mCall 2 sem__law_cell (mCons (mVar 0) (mCons (mBin wAdd (mC (.int 1)) (mBin wMod (mVar 4) (mC (.int 20)))) mNil))) (mBin wAdd (mC (.int 1)) (mBin wMul (mBin wDiv (mVar 4) (mC (.int 20))) (mC (.int 7))))))
    (mIte (mtAnd (mTest (mBin wLt (mBin wMod (mVar 5) (mC (.int 7))) (mC (.int 2)))) (mTest (mBin wLt (mFn wLen (mCons (mVar 3) mNil)) (mC (.int 8))))) (mSeq (mDrop (mMt "list" wAppend (mVar 3) (mCons (mBin wIx (mFn wLst (mCons (mC (.str "either")) (mCons (mC (.str "again")) mNil))) (mBin wMod (mVar 5) (mC (.int 7)))) mNil)))
    (mDrop (mMt "list" wAppend (mVar 2) (mCons (mFn wTup (mCons (mBin wIx (mVar 3) (mUn wNeg (mC (.int 1)))) mNil)) mNil)))) (mIte (mtAnd (mTest (mBin wLt (mBin wMod (mVar 5) (mC (.int 7))) (mC (.int 5)))) (mTest (mBin wNe (mVar 3) (mFn wLst mNil)))) (mSeq (mSet 6 (mMt "list" wPop (mVar 3) mNil))
    (mIte (mTest (mBin wEq (mVar 6) (mC (.str "either")))) (mSeq (mDrop (mMt "list" wAppend (mVar 3) (mCons (mC (.str "or")) mNil)))
    (mDrop (mMt "list" wAppend (mVar 2) (mCons (mFn wTup (mCons (mC (.str "or")) mNil)) mNil)))) (mDrop (mMt "list" wAppend (mVar 2) (mCons (mFn wTup (mCons (mC (.str "end")) mNil)) mNil))))) (mDrop (mMt "list" wAppend (mVar 2) (mCons (mBin wIx (mFn wLst (mCons (mFn wTup (mCons (mC (.str "tell")) (mCons (mC (.str "a")) mNil))) (mCons (mFn wTup (mCons (mC (.str "none")) (mCons (mC (.str "b")) mNil))) (mCons (mFn wTup (mCons (mC (.str "back")) (mCons (mC (.str "endx")) mNil))) mNil)))) (mBin wMod (mBin wDiv (mVar 5) (mC (.int 7))) (mC (.int 3)))) mNil))))))
noncomputable abbrev bd__law_right_2 : SM := (mSeq (mIte (mTest (mBin wEq (mMt "list" wPop (mVar 3) mNil) (mC (.str "either")))) (mDrop (mMt "list" wAppend (mVar 2) (mCons (mFn wTup (mCons (mC (.str "or")) mNil)) mNil))) mSkip)
    (mDrop (mMt "list" wAppend (mVar 2) (mCons (mFn wTup (mCons (mC (.str "end")) mNil)) mNil))))
noncomputable def sem__law_right : FM := mDef 5
    (mSeq (mSet 2 (mFn wNew mNil))
    (mSeq (mSet 3 (mFn wNew mNil))
    (mSeq (mFor (miR1 (mCons (mVar 1) mNil)) (gSet 4)
    bd__law_right_1)
    (mSeq (mWhileN (mTest (mBin wNe (mVar 3) (mFn wLst mNil))) bd__law_right_2 1000000)
    (mRet (mVar 2))))))
set_option maxHeartbeats 4000000 in
theorem cal__law_right (d : DefAt K mg "_law_right" st__law_right ["script", "many"]) (b_len : mg "len" = none) (b_range : mg "range" = none) (c__law_cell : Cal P w K mg base 1 "_law_cell" ["script", "k"] sem__law_cell) : Cal P w K mg base 2 "_law_right" ["script", "many"] sem__law_right := by
  refine cal_mk (k := 1) (more := 5) d sc__law_right rfl fun f cdv A outer s H E hr => ?_
  have hu := hr.units
  refine pms_cons ?_ ?_
  refine pms_set ?_ ?_ ?_ ?_ ?_ ?_
  exact sc__law_right.nd
  exact rfl
  exact (Or.inl rfl)
  refine pm_new ?_
  exact pma_nil
  exact rfl
  first | exact .inl rfl | exact .inr rfl
  refine pms_cons ?_ ?_
  refine pms_set ?_ ?_ ?_ ?_ ?_ ?_
  exact sc__law_right.nd
  exact rfl
  exact (Or.inl rfl)
  refine pm_new ?_
  exact pma_nil
  exact rfl
  first | exact .inl rfl | exact .inr rfl
  refine pms_cons ?_ ?_
  refine pms_for ?_ ?_ ?_ ?_ ?_ ?_
  exact PassesOwn.never
  exact rfl
  refine pmi_r1 ?_ ?_ ?_ ?_
  exact rfl
  exact b_range
  refine pma_cons ?_ ?_
  exact pm_var 1
  exact pma_nil
  exact rfl
  exact pmg_name (i := 4) (x := "k") sc__law_right.nd rfl (Or.inl rfl)
  refine pms_cons ?_ ?_
  refine pms_set ?_ ?_ ?_ ?_ ?_ ?_
  exact sc__law_right.nd
  exact rfl
  exact (Or.inl rfl)
  refine pm_op opr_div opM_id ?_ ?_
  refine pm_callC (k := 1) (ps := ["script", "k"]) ?_ ?_ ?_ ?_ ?_ ?_ ?_ ?_
  exact c__law_cell
  exact hr.mono (by decide)
  exact rfl
  refine pma_cons ?_ ?_
  exact pm_var 0
  refine pma_cons ?_ ?_
  refine pm_op opr_add opM_id ?_ ?_
  exact pm_int
  refine pm_op opr_mod opM_id ?_ ?_
  exact pm_var 4
  exact pm_int
  exact pma_nil
  exact rfl
  decide
  exact rfl
  exact rfl
  refine pm_op opr_add opM_id ?_ ?_
  exact pm_int
  refine pm_op opr_mul opM_id ?_ ?_
  refine pm_op opr_div opM_id ?_ ?_
  exact pm_var 4
  exact pm_int
  exact pm_int
  exact rfl
  first | exact .inl rfl | exact .inr rfl
  refine pms_one ?_
  refine pms_if ?_ ?_ ?_
  refine PMW.pt ?_
  refine pmw_and ?_ ?_
  refine pmt_cmp opr_lt opM_id ?_ ?_
  refine pm_op opr_mod opM_id ?_ ?_
  exact pm_var 5
  exact pm_int
  exact pm_int
  refine pmw_and1 ?_
  refine pmt_cmp opr_lt opM_id ?_ ?_
  refine pm_callB callr_len callM_id ?_ ?_ PySem.boot_len ?_ ?_ ?_ ?_ ?_
  exact rfl
  exact b_len
  refine pma_cons ?_ ?_
  exact pm_var 3
  exact pma_nil
  decide
  decide
  exact rfl
  exact rfl
  exact pm_int
  refine pms_cons ?_ ?_
  refine pms_expr ?_
  refine pm_mt PySem.F.plainAttrs_list PySem.F.slot_list_append PySem.F.type_list_append mtm_append ?_ ?_
  exact pm_var 3
  refine pma_cons ?_ ?_
  refine pm_ix ?_ ?_
  refine pm_lst ?_
  refine pma_cons ?_ ?_
  exact pm_str
  refine pma_cons ?_ ?_
  exact pm_str
  exact pma_nil
  refine pm_op opr_mod opM_id ?_ ?_
  exact pm_var 5
  exact pm_int
  exact pma_nil
  refine pms_one ?_
  refine pms_expr ?_
  refine pm_mt PySem.F.plainAttrs_list PySem.F.slot_list_append PySem.F.type_list_append mtm_append ?_ ?_
  exact pm_var 2
  refine pma_cons ?_ ?_
  refine pm_tup ?_
  refine pma_cons ?_ ?_
  refine pm_ix ?_ ?_
  exact pm_var 3
  refine pm_neg ?_
  exact pm_int
  exact pma_nil
  exact pma_nil
  refine pms_one ?_
  refine pms_if ?_ ?_ ?_
  refine PMW.pt ?_
  refine pmw_and ?_ ?_
  refine pmt_cmp opr_lt opM_id ?_ ?_
  refine pm_op opr_mod opM_id ?_ ?_
  exact pm_var 5
  exact pm_int
  exact pm_int
  refine pmw_and1 ?_
  refine pmt_cmp (opr_ne ?_) opM_id ?_ ?_
  exact hu
  exact pm_var 3
  refine pm_lst ?_
  exact pma_nil
  refine pms_cons ?_ ?_
  refine pms_set ?_ ?_ ?_ ?_ ?_ ?_
  exact sc__law_right.nd
  exact rfl
  exact (Or.inl rfl)
  refine pm_mt0 PySem.F.plainAttrs_list PySem.F.slot_list_pop PySem.F.type_list_pop mtm_pop ?_
  exact pm_var 3
  exact rfl
  first | exact .inl rfl | exact .inr rfl
  refine pms_one ?_
  refine pms_if ?_ ?_ ?_
  refine pmt_cmp (opr_eq ?_) opM_id ?_ ?_
  exact hu
  exact pm_var 6
  exact pm_str
  refine pms_cons ?_ ?_
  refine pms_expr ?_
  refine pm_mt PySem.F.plainAttrs_list PySem.F.slot_list_append PySem.F.type_list_append mtm_append ?_ ?_
  exact pm_var 3
  refine pma_cons ?_ ?_
  exact pm_str
  exact pma_nil
  refine pms_one ?_
  refine pms_expr ?_
  refine pm_mt PySem.F.plainAttrs_list PySem.F.slot_list_append PySem.F.type_list_append mtm_append ?_ ?_
  exact pm_var 2
  refine pma_cons ?_ ?_
  refine pm_tup ?_
  refine pma_cons ?_ ?_
  exact pm_str
  exact pma_nil
  exact pma_nil
  refine pms_one ?_
  refine pms_expr ?_
  refine pm_mt PySem.F.plainAttrs_list PySem.F.slot_list_append PySem.F.type_list_append mtm_append ?_ ?_
  exact pm_var 2
  refine pma_cons ?_ ?_
  refine pm_tup ?_
  refine pma_cons ?_ ?_
  exact pm_str
  exact pma_nil
  exact pma_nil
  refine pms_one ?_
  refine pms_expr ?_
  refine pm_mt PySem.F.plainAttrs_list PySem.F.slot_list_append PySem.F.type_list_append mtm_append ?_ ?_
  exact pm_var 2
  refine pma_cons ?_ ?_
  refine pm_ix ?_ ?_
  refine pm_lst ?_
  refine pma_cons ?_ ?_
  refine pm_tup ?_
  refine pma_cons ?_ ?_
  exact pm_str
  refine pma_cons ?_ ?_
  exact pm_str
  exact pma_nil
  refine pma_cons ?_ ?_
  refine pm_tup ?_
  refine pma_cons ?_ ?_
  exact pm_str
  refine pma_cons ?_ ?_
  exact pm_str
  exact pma_nil
  refine pma_cons ?_ ?_
  refine pm_tup ?_
  refine pma_cons ?_ ?_
  exact pm_str
  refine pma_cons ?_ ?_
  exact pm_str
  exact pma_nil
  exact pma_nil
  refine pm_op opr_mod opM_id ?_ ?_
  refine pm_op opr_div opM_id ?_ ?_
  exact pm_var 5
  exact pm_int
  exact pm_int
  exact pma_nil
  exact fun _ => rfl
  refine pms_cons ?_ ?_
  refine pms_while 1000000 ?_ ?_ ?_
  exact PassesOwn.never
  refine pmt_cmp (opr_ne ?_) opM_id ?_ ?_
  exact hu
  exact pm_var 3
  refine pm_lst ?_
  exact pma_nil
  refine pms_cons ?_ ?_
  refine pms_if ?_ ?_ ?_
  refine pmt_cmp (opr_eq ?_) opM_id ?_ ?_
  exact hu
  refine pm_mt0 PySem.F.plainAttrs_list PySem.F.slot_list_pop PySem.F.type_list_pop mtm_pop ?_
  exact pm_var 3
  exact pm_str
  refine pms_one ?_
  refine pms_expr ?_
  refine pm_mt PySem.F.plainAttrs_list PySem.F.slot_list_append PySem.F.type_list_append mtm_append ?_ ?_
  exact pm_var 2
  refine pma_cons ?_ ?_
  refine pm_tup ?_
  refine pma_cons ?_ ?_
  exact pm_str
  exact pma_nil
  exact pma_nil
  exact pms_nil
  refine pms_one ?_
  refine pms_expr ?_
  refine pm_mt PySem.F.plainAttrs_list PySem.F.slot_list_append PySem.F.type_list_append mtm_append ?_ ?_
  exact pm_var 2
  refine pma_cons ?_ ?_
  refine pm_tup ?_
  refine pma_cons ?_ ?_
  exact pm_str
  exact pma_nil
  exact pma_nil
  refine pms_one ?_
  refine pms_ret ?_
  exact pm_var 2
abbrev st__law_some : Stmt := top 9
theorem sc__law_some : FnScope ["cell"] ["cell"] (defScope st__law_some) := ⟨rfl, rfl, rfl, by decide +kernel, rfl, by decide +kernel, by decide +kernel⟩
noncomputable def sem__law_some : FM := mDef 0
    (mRet (mBin wIx (mFn wLst (mCons (mFn wTup (mCons (mC (.str "either")) mNil)) (mCons (mFn wTup (mCons (mC (.str "or")) mNil)) (mCons (mFn wTup (mCons (mC (.str "again")) mNil)) (mCons (mFn wTup (mCons (mC (.str "end")) mNil)) (mCons (mFn wTup (mCons (mC (.str "tell")) (mCons (mC (.str "a")) mNil))) (mCons (mFn wTup (mCons (mC (.str "do")) (mCons (mC (.str "ora")) mNil))) mNil))))))) (mBin wMod (mVar 0) (mC (.int 6)))))
set_option maxHeartbeats 4000000 in
theorem cal__law_some (d : DefAt K mg "_law_some" st__law_some ["cell"]) : Cal P w K mg base 1 "_law_some" ["cell"] sem__law_some := by
  refine cal_mk (k := 0) (more := 0) d sc__law_some rfl fun f cdv A outer s H E hr => ?_
  have hu := hr.units
  refine pms_one ?_
  refine pms_ret ?_
  refine pm_ix ?_ ?_
  refine pm_lst ?_
  refine pma_cons ?_ ?_
  refine pm_tup ?_
  refine pma_cons ?_ ?_
  exact pm_str
  exact pma_nil
  refine pma_cons ?_ ?_
  refine pm_tup ?_
  refine pma_cons ?_ ?_
  exact pm_str
  exact pma_nil
  refine pma_cons ?_ ?_
  refine pm_tup ?_
  refine pma_cons ?_ ?_
  exact pm_str
  exact pma_nil
  refine pma_cons ?_ ?_
  refine pm_tup ?_
  refine pma_cons ?_ ?_
  exact pm_str
  exact pma_nil
  refine pma_cons ?_ ?_
  refine pm_tup ?_
  refine pma_cons ?_ ?_
  exact pm_str
  refine pma_cons ?_ ?_
  exact pm_str
  exact pma_nil
  refine pma_cons ?_ ?_
  refine pm_tup ?_
  refine pma_cons ?_ ?_
  exact pm_str
  refine pma_cons ?_ ?_
  exact pm_str
  exact pma_nil
  exact pma_nil
  refine pm_op opr_mod opM_id ?_ ?_
  exact pm_var 0
  exact pm_int
abbrev st__law_bent : Stmt := top 11
theorem sc__law_bent : FnScope ["lines", "cell", "at"] ["lines", "cell"] (defScope st__law_bent) := ⟨rfl, rfl, rfl, by decide +kernel, rfl, by decide +kernel, by decide +kernel⟩
noncomputable def sem__law_bent : FM := mDef 1
    (mSeq (mSet 2 (mBin wMod (mBin wDiv (mVar 1) (mC (.int 3))) (mBin wAdd (mFn wLen (mCons (mVar 0) mNil)) (mC (.int 1)))))
    (mSeq (mIte (mTest (mBin wEq (mBin wMod (mVar 1) (mC (.int 3))) (mC (.int 0)))) (mRet (mBin wAdd (mBin wAdd (mSl (mVar 0) oNone (oSome (mVar 2))) (mFn wLst (mCons (mCall 1 sem__law_some (mCons (mBin wDiv (mVar 1) (mC (.int 123))) mNil)) mNil))) (mSl (mVar 0) (oSome (mVar 2)) oNone))) mSkip)
    (mSeq (mIte (mTest (mBin wEq (mBin wMod (mVar 1) (mC (.int 3))) (mC (.int 1)))) (mRet (mBin wAdd (mSl (mVar 0) oNone (oSome (mVar 2))) (mSl (mVar 0) (oSome (mBin wAdd (mVar 2) (mC (.int 1)))) oNone))) mSkip)
    (mRet (mBin wAdd (mBin wAdd (mSl (mVar 0) oNone (oSome (mVar 2))) (mFn wLst (mCons (mCall 1 sem__law_some (mCons (mBin wDiv (mVar 1) (mC (.int 123))) mNil)) mNil))) (mSl (mVar 0) (oSome (mBin wAdd (mVar 2) (mC (.int 1)))) oNone))))))
set_option maxHeartbeats 4000000 in
theorem cal__law_bent (d : DefAt K mg "_law_bent" st__law_bent ["lines", "cell"]) (b_len : mg "len" = none) (c__law_some : Cal P w K mg base 1 "_law_some" ["cell"] sem__law_some) : Cal P w K mg base 2 "_law_bent" ["lines", "cell"] sem__law_bent := by
  refine cal_mk (k := 1) (more := 1) d sc__law_bent rfl fun f cdv A outer s H E hr => ?_
  have hu := hr.units
  refine pms_cons ?_ ?_
  refine pms_set ?_ ?_ ?_ ?_ ?_ ?_
  exact sc__law_bent.nd
  exact rfl
  exact (Or.inl rfl)
  refine pm_op opr_mod opM_id ?_ ?_
  refine pm_op opr_div opM_id ?_ ?_
  exact pm_var 1
  exact pm_int
  refine pm_op opr_add opM_id ?_ ?_
  refine pm_callB callr_len callM_id ?_ ?_ PySem.boot_len ?_ ?_ ?_ ?_ ?_
  exact rfl
  exact b_len
  refine pma_cons ?_ ?_
  exact pm_var 0
  exact pma_nil
  decide
  decide
  exact rfl
  exact rfl
  exact pm_int
  exact rfl
  first | exact .inl rfl | exact .inr rfl
  refine pms_cons ?_ ?_
  refine pms_if ?_ ?_ ?_
  refine pmt_cmp (opr_eq ?_) opM_id ?_ ?_
  exact hu
  refine pm_op opr_mod opM_id ?_ ?_
  exact pm_var 1
  exact pm_int
  exact pm_int
  refine pms_one ?_
  refine pms_ret ?_
  refine pm_op opr_add opM_id ?_ ?_
  refine pm_op opr_add opM_id ?_ ?_
  refine pm_slice ?_ ?_ ?_
  exact pm_var 0
  exact pmo_none
  refine pmo_some ?_
  exact pm_var 2
  refine pm_lst ?_
  refine pma_cons ?_ ?_
  refine pm_callC (k := 1) (ps := ["cell"]) ?_ ?_ ?_ ?_ ?_ ?_ ?_ ?_
  exact c__law_some
  exact hr.mono (by decide)
  exact rfl
  refine pma_cons ?_ ?_
  refine pm_op opr_div opM_id ?_ ?_
  exact pm_var 1
  exact pm_int
  exact pma_nil
  exact rfl
  decide
  exact rfl
  exact rfl
  exact pma_nil
  refine pm_slice ?_ ?_ ?_
  exact pm_var 0
  refine pmo_some ?_
  exact pm_var 2
  exact pmo_none
  exact pms_nil
  refine pms_cons ?_ ?_
  refine pms_if ?_ ?_ ?_
  refine pmt_cmp (opr_eq ?_) opM_id ?_ ?_
  exact hu
  refine pm_op opr_mod opM_id ?_ ?_
  exact pm_var 1
  exact pm_int
  exact pm_int
  refine pms_one ?_
  refine pms_ret ?_
  refine pm_op opr_add opM_id ?_ ?_
  refine pm_slice ?_ ?_ ?_
  exact pm_var 0
  exact pmo_none
  refine pmo_some ?_
  exact pm_var 2
  refine pm_slice ?_ ?_ ?_
  exact pm_var 0
  refine pmo_some ?_
  refine pm_op opr_add opM_id ?_ ?_
  exact pm_var 2
  exact pm_int
  exact pmo_none
  exact pms_nil
  refine pms_one ?_
  refine pms_ret ?_
  refine pm_op opr_add opM_id ?_ ?_
  refine pm_op opr_add opM_id ?_ ?_
  refine pm_slice ?_ ?_ ?_
  exact pm_var 0
  exact pmo_none
  refine pmo_some ?_
  exact pm_var 2
  refine pm_lst ?_
  refine pma_cons ?_ ?_
  refine pm_callC (k := 1) (ps := ["cell"]) ?_ ?_ ?_ ?_ ?_ ?_ ?_ ?_
  exact c__law_some
  exact hr.mono (by decide)
  exact rfl
  refine pma_cons ?_ ?_
  refine pm_op opr_div opM_id ?_ ?_
  exact pm_var 1
  exact pm_int
  exact pma_nil
  exact rfl
  decide
  exact rfl
  exact rfl
  exact pma_nil
  refine pm_slice ?_ ?_ ?_
  exact pm_var 0
  refine pmo_some ?_
  refine pm_op opr_add opM_id ?_ ?_
  exact pm_var 2
  exact pm_int
  exact pmo_none
abbrev st__law_lines : Stmt := top 12
theorem sc__law_lines : FnScope ["script", "cell", "many", "lines"] ["script"] (defScope st__law_lines) := ⟨rfl, rfl, rfl, by decide +kernel, rfl, by decide +kernel, by decide +kernel⟩
noncomputable def sem__law_lines : FM := mDef 3
    (mSeq (mSet 1 (mCall 2 sem__law_cell (mCons (mVar 0) (mCons (mC (.int 0)) mNil))))
    (mSeq (mSet 2 (mBin wMod (mBin wDiv (mVar 1) (mC (.int 8))) (mC (.int 34))))
    (mSeq (mIte (mTest (mBin wEq (mBin wMod (mVar 1) (mC (.int 4))) (mC (.int 3)))) (mRet (mComp fLst (miR1 (mCons (mBin wMod (mVar 2) (mC (.int 12))) mNil)) [none, some 0] (gSet 0) mYes (mCall 1 sem__law_some (mCons (mCall 2 sem__law_cell (mCons (mVar 1) (mCons (mBin wAdd (mC (.int 1)) (mVar 0)) mNil))) mNil)))) mSkip)
    (mSeq (mSet 3 (mCall 2 sem__law_right (mCons (mVar 0) (mCons (mVar 2) mNil))))
    (mSeq (mIte (mTest (mBin wEq (mBin wMod (mVar 1) (mC (.int 4))) (mC (.int 2)))) (mSet 3 (mCall 2 sem__law_bent (mCons (mVar 3) (mCons (mBin wDiv (mVar 1) (mC (.int 272))) mNil)))) mSkip)
    (mRet (mVar 3)))))))
set_option maxHeartbeats 4000000 in
theorem cal__law_lines (d : DefAt K mg "_law_lines" st__law_lines ["script"]) (b_range : mg "range" = none) (c__law_bent : Cal P w K mg base 2 "_law_bent" ["lines", "cell"] sem__law_bent) (c__law_cell : Cal P w K mg base 1 "_law_cell" ["script", "k"] sem__law_cell) (c__law_right : Cal P w K mg base 2 "_law_right" ["script", "many"] sem__law_right) (c__law_some : Cal P w K mg base 1 "_law_some" ["cell"] sem__law_some) : Cal P w K mg base 3 "_law_lines" ["script"] sem__law_lines := by
  refine cal_mk (k := 2) (more := 3) d sc__law_lines rfl fun f cdv A outer s H E hr => ?_
  have hu := hr.units
  refine pms_cons ?_ ?_
  refine pms_set ?_ ?_ ?_ ?_ ?_ ?_
  exact sc__law_lines.nd
  exact rfl
  exact (Or.inl rfl)
  refine pm_callC (k := 1) (ps := ["script", "k"]) ?_ ?_ ?_ ?_ ?_ ?_ ?_ ?_
  exact c__law_cell
  exact hr.mono (by decide)
  exact rfl
  refine pma_cons ?_ ?_
  exact pm_var 0
  refine pma_cons ?_ ?_
  exact pm_int
  exact pma_nil
  exact rfl
  decide
  exact rfl
  exact rfl
  exact rfl
  first | exact .inl rfl | exact .inr rfl
  refine pms_cons ?_ ?_
  refine pms_set ?_ ?_ ?_ ?_ ?_ ?_
  exact sc__law_lines.nd
  exact rfl
  exact (Or.inl rfl)
  refine pm_op opr_mod opM_id ?_ ?_
  refine pm_op opr_div opM_id ?_ ?_
  exact pm_var 1
  exact pm_int
  exact pm_int
  exact rfl
  first | exact .inl rfl | exact .inr rfl
  refine pms_cons ?_ ?_
  refine pms_if ?_ ?_ ?_
  refine pmt_cmp (opr_eq ?_) opM_id ?_ ?_
  exact hu
  refine pm_op opr_mod opM_id ?_ ?_
  exact pm_var 1
  exact pm_int
  exact pm_int
  refine pms_one ?_
  refine pms_ret ?_
  refine pm_comp0 fin_lst ?_ (blk_mk (ks := ["script"]) (Nb := ["k", "script"]) (cp := [none, some 0]) (N := ["script", "cell", "many", "lines"]) (xs := (defScope st__law_lines)) rfl rfl (by decide +kernel) rfl (by decide +kernel) (by intro p hp; simp only [List.mem_cons, List.not_mem_nil, or_false] at hp; rcases hp with rfl <;> rfl) rfl rfl rfl (by decide +kernel)) ?_ (fun _ _ _ _ _ => ?_) (fun _ _ _ _ _ => ?_)
  exact rfl
  refine pmi_r1 ?_ ?_ ?_ ?_
  exact rfl
  exact b_range
  refine pma_cons ?_ ?_
  refine pm_op opr_mod opM_id ?_ ?_
  exact pm_var 2
  exact pm_int
  exact pma_nil
  exact rfl
  exact pmg_name (i := 0) (x := "k") (show List.Nodup (["k", "script"] : List Str) from by decide +kernel) rfl (Or.inl rfl)
  refine pm_callC (k := 1) (ps := ["cell"]) ?_ ?_ ?_ ?_ ?_ ?_ ?_ ?_
  exact c__law_some
  exact hr.mono (by decide)
  exact rfl
  refine pma_cons ?_ ?_
  refine pm_callC (k := 1) (ps := ["script", "k"]) ?_ ?_ ?_ ?_ ?_ ?_ ?_ ?_
  exact c__law_cell
  exact hr.mono (by decide)
  exact rfl
  refine pma_cons ?_ ?_
  exact pm_var 1
  refine pma_cons ?_ ?_
  refine pm_op opr_add opM_id ?_ ?_
  exact pm_int
  exact pm_var 0
  exact pma_nil
  exact rfl
  decide
  exact rfl
  exact rfl
  exact pma_nil
  exact rfl
  decide
  exact rfl
  exact rfl
  exact pms_nil
  refine pms_cons ?_ ?_
  refine pms_set ?_ ?_ ?_ ?_ ?_ ?_
  exact sc__law_lines.nd
  exact rfl
  exact (Or.inl rfl)
  refine pm_callC (k := 2) (ps := ["script", "many"]) ?_ ?_ ?_ ?_ ?_ ?_ ?_ ?_
  exact c__law_right
  exact hr.mono (by decide)
  exact rfl
  refine pma_cons ?_ ?_
  exact pm_var 0
  refine pma_cons ?_ ?_
  exact pm_var 2
  exact pma_nil
  exact rfl
  decide
  exact rfl
  exact rfl
  exact rfl
  first | exact .inl rfl | exact .inr rfl
  refine pms_cons ?_ ?_
  refine pms_if ?_ ?_ ?_
  refine pmt_cmp (opr_eq ?_) opM_id ?_ ?_
  exact hu
  refine pm_op opr_mod opM_id ?_ ?_
  exact pm_var 1
  exact pm_int
  exact pm_int
  refine pms_one ?_
  refine pms_set ?_ ?_ ?_ ?_ ?_ ?_
  exact sc__law_lines.nd
  exact rfl
  exact (Or.inl rfl)
  refine pm_callC (k := 2) (ps := ["lines", "cell"]) ?_ ?_ ?_ ?_ ?_ ?_ ?_ ?_
  exact c__law_bent
  exact hr.mono (by decide)
  exact rfl
  refine pma_cons ?_ ?_
  exact pm_var 3
  refine pma_cons ?_ ?_
  refine pm_op opr_div opM_id ?_ ?_
  exact pm_var 1
  exact pm_int
  exact pma_nil
  exact rfl
  decide
  exact rfl
  exact rfl
  exact rfl
  first | exact .inl rfl | exact .inr rfl
  exact pms_nil
  refine pms_one ?_
  refine pms_ret ?_
  exact pm_var 3
abbrev st__law_partners : Stmt := top 13
theorem sc__law_partners : FnScope ["lines", "waiting", "found", "k", "word"] ["lines"] (defScope st__law_partners) := ⟨rfl, rfl, rfl, by decide +kernel, rfl, by decide +kernel, by decide +kernel⟩
noncomputable abbrev bd__law_partners_1 : SM := (mSeq (mSet 4 (mBin wIx (mBin wIx (mVar 0) (mVar 3)) (mC (.int 0))))
    (mIte (mtOr (mTest (mBin wEq (mVar 4) (mC (.str "either")))) (mTest (mBin wEq (mVar 4) (mC (.str "again"))))) (mDrop (mMt "list" wAppend (mVar 1) (mCons (mFn wLst (mCons (mVar 4) (mCons (mVar 3) mNil))) mNil))) (mIte (mTest (mBin wEq (mVar 4) (mC (.str "or")))) (mSeq (mIte (mtOr (mTest (mBin wEq (mVar 1) (mFn wLst mNil))) (mTest (mBin wNe (mBin wIx (mBin wIx (mVar 1) (mUn wNeg (mC (.int 1)))) (mC (.int 0))) (mC (.str "either"))))) (mRet (mC .non)) mSkip)
    (mSeq (mPutD (mVar 2) (mBin wIx (mBin wIx (mVar 1) (mUn wNeg (mC (.int 1)))) (mC (.int 1))) (mVar 3))
    (mPut (mVar 1) (mUn wNeg (mC (.int 1))) (mFn wLst (mCons (mC (.str "or")) (mCons (mBin wIx (mBin wIx (mVar 1) (mUn wNeg (mC (.int 1)))) (mC (.int 1))) (mCons (mVar 3) mNil))))))) (mIte (mTest (mBin wEq (mVar 4) (mC (.str "end")))) (mSeq (mIte (mtOr (mTest (mBin wEq (mVar 1) (mFn wLst mNil))) (mTest (mBin wEq (mBin wIx (mBin wIx (mVar 1) (mUn wNeg (mC (.int 1)))) (mC (.int 0))) (mC (.str "either"))))) (mRet (mC .non)) mSkip)
    (mPutD (mVar 2) (mVar 3) (mMt "list" wPop (mVar 1) mNil))) mSkip))))
noncomputable def sem__law_partners : FM := mDef 4
    (mSeq (mSet 1 (mFn wNew mNil))
    (mSeq (mSet 2 mNewD)
    (mSeq (mFor (miR1 (mCons (mFn wLen (mCons (mVar 0) mNil)) mNil)) (gSet 3)
    bd__law_partners_1)
    (mSeq (mIte (mTest (mBin wNe (mVar 1) (mFn wLst mNil))) (mRet (mC .non)) mSkip)
    (mRet (mVar 2))))))
set_option maxHeartbeats 4000000 in
theorem cal__law_partners (d : DefAt K mg "_law_partners" st__law_partners ["lines"]) (b_len : mg "len" = none) (b_range : mg "range" = none) : Cal P w K mg base 1 "_law_partners" ["lines"] sem__law_partners := by
  refine cal_mk (k := 0) (more := 4) d sc__law_partners rfl fun f cdv A outer s H E hr => ?_
  have hu := hr.units
  refine pms_cons ?_ ?_
  refine pms_set ?_ ?_ ?_ ?_ ?_ ?_
  exact sc__law_partners.nd
  exact rfl
  exact (Or.inl rfl)
  refine pm_new ?_
  exact pma_nil
  exact rfl
  first | exact .inl rfl | exact .inr rfl
  refine pms_cons ?_ ?_
  refine pms_set ?_ ?_ ?_ ?_ ?_ ?_
  exact sc__law_partners.nd
  exact rfl
  exact (Or.inl rfl)
  exact pm_newD
  exact rfl
  first | exact .inl rfl | exact .inr rfl
  refine pms_cons ?_ ?_
  refine pms_for ?_ ?_ ?_ ?_ ?_ ?_
  exact PassesOwn.never
  exact rfl
  refine pmi_r1 ?_ ?_ ?_ ?_
  exact rfl
  exact b_range
  refine pma_cons ?_ ?_
  refine pm_callB callr_len callM_id ?_ ?_ PySem.boot_len ?_ ?_ ?_ ?_ ?_
  exact rfl
  exact b_len
  refine pma_cons ?_ ?_
  exact pm_var 0
  exact pma_nil
  decide
  decide
  exact rfl
  exact rfl
  exact pma_nil
  exact rfl
  exact pmg_name (i := 3) (x := "k") sc__law_partners.nd rfl (Or.inl rfl)
  refine pms_cons ?_ ?_
  refine pms_set ?_ ?_ ?_ ?_ ?_ ?_
  exact sc__law_partners.nd
  exact rfl
  exact (Or.inl rfl)
  refine pm_ix ?_ ?_
  refine pm_ix ?_ ?_
  exact pm_var 0
  exact pm_var 3
  exact pm_int
  exact rfl
  first | exact .inl rfl | exact .inr rfl
  refine pms_one ?_
  refine pms_if ?_ ?_ ?_
  refine PMW.pt ?_
  refine pmw_or ?_ ?_
  refine pmt_cmp (opr_eq ?_) opM_id ?_ ?_
  exact hu
  exact pm_var 4
  exact pm_str
  refine pmw_or1 ?_
  refine pmt_cmp (opr_eq ?_) opM_id ?_ ?_
  exact hu
  exact pm_var 4
  exact pm_str
  refine pms_one ?_
  refine pms_expr ?_
  refine pm_mt PySem.F.plainAttrs_list PySem.F.slot_list_append PySem.F.type_list_append mtm_append ?_ ?_
  exact pm_var 1
  refine pma_cons ?_ ?_
  refine pm_lst ?_
  refine pma_cons ?_ ?_
  exact pm_var 4
  refine pma_cons ?_ ?_
  exact pm_var 3
  exact pma_nil
  exact pma_nil
  refine pms_one ?_
  refine pms_if ?_ ?_ ?_
  refine pmt_cmp (opr_eq ?_) opM_id ?_ ?_
  exact hu
  exact pm_var 4
  exact pm_str
  refine pms_cons ?_ ?_
  refine pms_if ?_ ?_ ?_
  refine PMW.pt ?_
  refine pmw_or ?_ ?_
  refine pmt_cmp (opr_eq ?_) opM_id ?_ ?_
  exact hu
  exact pm_var 1
  refine pm_lst ?_
  exact pma_nil
  refine pmw_or1 ?_
  refine pmt_cmp (opr_ne ?_) opM_id ?_ ?_
  exact hu
  refine pm_ix ?_ ?_
  refine pm_ix ?_ ?_
  exact pm_var 1
  refine pm_neg ?_
  exact pm_int
  exact pm_int
  exact pm_str
  refine pms_one ?_
  refine pms_ret ?_
  exact pm_non
  exact pms_nil
  refine pms_cons ?_ ?_
  refine pms_putD ?_ ?_ ?_ ?_ ?_
  exact hu
  exact pm_var 2
  refine pm_ix ?_ ?_
  refine pm_ix ?_ ?_
  exact pm_var 1
  refine pm_neg ?_
  exact pm_int
  exact pm_int
  exact pm_var 3
  exact rfl
  refine pms_one ?_
  refine pms_put ?_ ?_ ?_ ?_ ?_ ?_
  exact pm_var 1
  refine pm_neg ?_
  exact pm_int
  refine pm_lst ?_
  refine pma_cons ?_ ?_
  exact pm_str
  refine pma_cons ?_ ?_
  refine pm_ix ?_ ?_
  refine pm_ix ?_ ?_
  exact pm_var 1
  refine pm_neg ?_
  exact pm_int
  exact pm_int
  refine pma_cons ?_ ?_
  exact pm_var 3
  exact pma_nil
  exact fun _ => rfl
  exact rfl
  exact rfl
  refine pms_one ?_
  refine pms_if ?_ ?_ ?_
  refine pmt_cmp (opr_eq ?_) opM_id ?_ ?_
  exact hu
  exact pm_var 4
  exact pm_str
  refine pms_cons ?_ ?_
  refine pms_if ?_ ?_ ?_
  refine PMW.pt ?_
  refine pmw_or ?_ ?_
  refine pmt_cmp (opr_eq ?_) opM_id ?_ ?_
  exact hu
  exact pm_var 1
  refine pm_lst ?_
  exact pma_nil
  refine pmw_or1 ?_
  refine pmt_cmp (opr_eq ?_) opM_id ?_ ?_
  exact hu
  refine pm_ix ?_ ?_
  refine pm_ix ?_ ?_
  exact pm_var 1
  refine pm_neg ?_
  exact pm_int
  exact pm_int
  exact pm_str
  refine pms_one ?_
  refine pms_ret ?_
  exact pm_non
  exact pms_nil
  refine pms_one ?_
  refine pms_putD ?_ ?_ ?_ ?_ ?_
  exact hu
  exact pm_var 2
  exact pm_var 3
  refine pm_mt0 PySem.F.plainAttrs_list PySem.F.slot_list_pop PySem.F.type_list_pop mtm_pop ?_
  exact pm_var 1
  exact rfl
  exact pms_nil
  exact fun _ => rfl
  refine pms_cons ?_ ?_
  refine pms_if ?_ ?_ ?_
  refine pmt_cmp (opr_ne ?_) opM_id ?_ ?_
  exact hu
  exact pm_var 1
  refine pm_lst ?_
  exact pma_nil
  refine pms_one ?_
  refine pms_ret ?_
  exact pm_non
  exact pms_nil
  refine pms_one ?_
  refine pms_ret ?_
  exact pm_var 2
abbrev st_is_blocks : Stmt := top 1
theorem sc_is_blocks : FnScope ["lines", "opened", "line"] ["lines"] (defScope st_is_blocks) := ⟨rfl, rfl, rfl, by decide +kernel, rfl, by decide +kernel, by decide +kernel⟩
noncomputable abbrev bd_is_blocks_1 : SM := (mIte (mtOr (mTest (mBin wEq (mBin wIx (mVar 2) (mC (.int 0))) (mC (.str "either")))) (mTest (mBin wEq (mBin wIx (mVar 2) (mC (.int 0))) (mC (.str "again"))))) (mDrop (mMt "list" wAppend (mVar 1) (mCons (mBin wIx (mVar 2) (mC (.int 0))) mNil))) (mIte (mTest (mBin wEq (mBin wIx (mVar 2) (mC (.int 0))) (mC (.str "or")))) (mSeq (mIte (mtOr (mtNot (mTru (mVar 1))) (mTest (mBin wNe (mBin wIx (mVar 1) (mUn wNeg (mC (.int 1)))) (mC (.str "either"))))) (mRet (mC (.bl false))) mSkip)
    (mPut (mVar 1) (mUn wNeg (mC (.int 1))) (mC (.str "or")))) (mIte (mTest (mBin wEq (mBin wIx (mVar 2) (mC (.int 0))) (mC (.str "end")))) (mSeq (mIte (mtOr (mtNot (mTru (mVar 1))) (mTest (mBin wEq (mBin wIx (mVar 1) (mUn wNeg (mC (.int 1)))) (mC (.str "either"))))) (mRet (mC (.bl false))) mSkip)
    (mDrop (mMt "list" wPop (mVar 1) mNil))) mSkip)))
noncomputable def sem_is_blocks : FM := mDef 2
    (mSeq (mSet 1 (mFn wNew mNil))
    (mSeq (mFor (miVal (mVar 0)) (gSet 2)
    bd_is_blocks_1)
    (mRet (mBin wEq (mFn wLen (mCons (mVar 1) mNil)) (mC (.int 0))))))
set_option maxHeartbeats 4000000 in
theorem cal_is_blocks (d : DefAt K mg "is_blocks" st_is_blocks ["lines"]) (b_len : mg "len" = none) : Cal P w K mg base 1 "is_blocks" ["lines"] sem_is_blocks := by
  refine cal_mk (k := 0) (more := 2) d sc_is_blocks rfl fun f cdv A outer s H E hr => ?_
  have hu := hr.units
  refine pms_cons ?_ ?_
  refine pms_set ?_ ?_ ?_ ?_ ?_ ?_
  exact sc_is_blocks.nd
  exact rfl
  exact (Or.inl rfl)
  refine pm_new ?_
  exact pma_nil
  exact rfl
  first | exact .inl rfl | exact .inr rfl
  refine pms_cons ?_ ?_
  refine pms_for ?_ ?_ ?_ ?_ ?_ ?_
  exact PassesOwn.never
  exact rfl
  refine pmi_val ?_
  exact pm_var 0
  exact pmg_name (i := 2) (x := "line") sc_is_blocks.nd rfl (Or.inl rfl)
  refine pms_one ?_
  refine pms_if ?_ ?_ ?_
  refine PMW.pt ?_
  refine pmw_or ?_ ?_
  refine pmt_cmp (opr_eq ?_) opM_id ?_ ?_
  exact hu
  refine pm_ix ?_ ?_
  exact pm_var 2
  exact pm_int
  exact pm_str
  refine pmw_or1 ?_
  refine pmt_cmp (opr_eq ?_) opM_id ?_ ?_
  exact hu
  refine pm_ix ?_ ?_
  exact pm_var 2
  exact pm_int
  exact pm_str
  refine pms_one ?_
  refine pms_expr ?_
  refine pm_mt PySem.F.plainAttrs_list PySem.F.slot_list_append PySem.F.type_list_append mtm_append ?_ ?_
  exact pm_var 1
  refine pma_cons ?_ ?_
  refine pm_ix ?_ ?_
  exact pm_var 2
  exact pm_int
  exact pma_nil
  refine pms_one ?_
  refine pms_if ?_ ?_ ?_
  refine pmt_cmp (opr_eq ?_) opM_id ?_ ?_
  exact hu
  refine pm_ix ?_ ?_
  exact pm_var 2
  exact pm_int
  exact pm_str
  refine pms_cons ?_ ?_
  refine pms_if ?_ ?_ ?_
  refine PMW.pt ?_
  refine pmw_or ?_ ?_
  refine pmt_not ?_
  refine pmt_tru ?_
  exact pm_var 1
  refine pmw_or1 ?_
  refine pmt_cmp (opr_ne ?_) opM_id ?_ ?_
  exact hu
  refine pm_ix ?_ ?_
  exact pm_var 1
  refine pm_neg ?_
  exact pm_int
  exact pm_str
  refine pms_one ?_
  refine pms_ret ?_
  exact pm_bl
  exact pms_nil
  refine pms_one ?_
  refine pms_put ?_ ?_ ?_ ?_ ?_ ?_
  exact pm_var 1
  refine pm_neg ?_
  exact pm_int
  exact pm_str
  exact fun _ => rfl
  exact rfl
  exact rfl
  refine pms_one ?_
  refine pms_if ?_ ?_ ?_
  refine pmt_cmp (opr_eq ?_) opM_id ?_ ?_
  exact hu
  refine pm_ix ?_ ?_
  exact pm_var 2
  exact pm_int
  exact pm_str
  refine pms_cons ?_ ?_
  refine pms_if ?_ ?_ ?_
  refine PMW.pt ?_
  refine pmw_or ?_ ?_
  refine pmt_not ?_
  refine pmt_tru ?_
  exact pm_var 1
  refine pmw_or1 ?_
  refine pmt_cmp (opr_eq ?_) opM_id ?_ ?_
  exact hu
  refine pm_ix ?_ ?_
  exact pm_var 1
  refine pm_neg ?_
  exact pm_int
  exact pm_str
  refine pms_one ?_
  refine pms_ret ?_
  exact pm_bl
  exact pms_nil
  refine pms_one ?_
  refine pms_expr ?_
  refine pm_mt0 PySem.F.plainAttrs_list PySem.F.slot_list_pop PySem.F.type_list_pop mtm_pop ?_
  exact pm_var 1
  exact pms_nil
  exact fun _ => rfl
  refine pms_one ?_
  refine pms_ret ?_
  refine pm_cmp (opr_eq ?_) opM_id ?_ ?_
  exact hu
  refine pm_callB callr_len callM_id ?_ ?_ PySem.boot_len ?_ ?_ ?_ ?_ ?_
  exact rfl
  exact b_len
  refine pma_cons ?_ ?_
  exact pm_var 1
  exact pma_nil
  decide
  decide
  exact rfl
  exact rfl
  exact pm_int
abbrev st_level_change : Stmt := top 5
theorem sc_level_change : FnScope ["line"] ["line"] (defScope st_level_change) := ⟨rfl, rfl, rfl, by decide +kernel, rfl, by decide +kernel, by decide +kernel⟩
noncomputable def sem_level_change : FM := mDef 0
    (mSeq (mIte (mtOr (mTest (mBin wEq (mBin wIx (mVar 0) (mC (.int 0))) (mC (.str "either")))) (mTest (mBin wEq (mBin wIx (mVar 0) (mC (.int 0))) (mC (.str "again"))))) (mRet (mC (.int 1))) mSkip)
    (mRet (mIf (mTest (mBin wEq (mBin wIx (mVar 0) (mC (.int 0))) (mC (.str "end")))) (mUn wNeg (mC (.int 1))) (mC (.int 0)))))
set_option maxHeartbeats 4000000 in
theorem cal_level_change (d : DefAt K mg "level_change" st_level_change ["line"]) : Cal P w K mg base 1 "level_change" ["line"] sem_level_change := by
  refine cal_mk (k := 0) (more := 0) d sc_level_change rfl fun f cdv A outer s H E hr => ?_
  have hu := hr.units
  refine pms_cons ?_ ?_
  refine pms_if ?_ ?_ ?_
  refine PMW.pt ?_
  refine pmw_or ?_ ?_
  refine pmt_cmp (opr_eq ?_) opM_id ?_ ?_
  exact hu
  refine pm_ix ?_ ?_
  exact pm_var 0
  exact pm_int
  exact pm_str
  refine pmw_or1 ?_
  refine pmt_cmp (opr_eq ?_) opM_id ?_ ?_
  exact hu
  refine pm_ix ?_ ?_
  exact pm_var 0
  exact pm_int
  exact pm_str
  refine pms_one ?_
  refine pms_ret ?_
  exact pm_int
  exact pms_nil
  refine pms_one ?_
  refine pms_ret ?_
  refine pm_if ?_ ?_ ?_
  refine pmt_cmp (opr_eq ?_) opM_id ?_ ?_
  exact hu
  refine pm_ix ?_ ?_
  exact pm_var 0
  exact pm_int
  exact pm_str
  refine pm_neg ?_
  exact pm_int
  exact pm_int
abbrev st_head_of : Stmt := top 4
theorem sc_head_of : FnScope ["lines", "k", "level", "j"] ["lines", "k"] (defScope st_head_of) := ⟨rfl, rfl, rfl, by decide +kernel, rfl, by decide +kernel, by decide +kernel⟩
noncomputable abbrev bd_head_of_1 : SM := (mSeq (mAug 2 wAddI (mCall 1 sem_level_change (mCons (mBin wIx (mVar 0) (mVar 3)) mNil)))
    (mIte (mTest (mBin wEq (mVar 2) (mC (.int 1)))) (mRet (mVar 3)) mSkip))
noncomputable def sem_head_of : FM := mDef 2
    (mSeq (mSet 2 (mC (.int 0)))
    (mSeq (mFor (miR3 (mCons (mBin wSub (mVar 1) (mC (.int 1))) (mCons (mUn wNeg (mC (.int 1))) (mCons (mUn wNeg (mC (.int 1))) mNil)))) (gSet 3)
    bd_head_of_1)
    (mRet (mC .non))))
set_option maxHeartbeats 4000000 in
theorem cal_head_of (d : DefAt K mg "head_of" st_head_of ["lines", "k"]) (b_range : mg "range" = none) (c_level_change : Cal P w K mg base 1 "level_change" ["line"] sem_level_change) : Cal P w K mg base 2 "head_of" ["lines", "k"] sem_head_of := by
  refine cal_mk (k := 1) (more := 2) d sc_head_of rfl fun f cdv A outer s H E hr => ?_
  have hu := hr.units
  refine pms_cons ?_ ?_
  refine pms_set ?_ ?_ ?_ ?_ ?_ ?_
  exact sc_head_of.nd
  exact rfl
  exact (Or.inl rfl)
  exact pm_int
  exact rfl
  first | exact .inl rfl | exact .inr rfl
  refine pms_cons ?_ ?_
  refine pms_for ?_ ?_ ?_ ?_ ?_ ?_
  exact PassesOwn.never
  exact rfl
  refine pmi_r3 ?_ ?_ ?_ ?_ ?_
  exact rfl
  exact b_range
  refine pma_cons ?_ ?_
  refine pm_op opr_sub opM_id ?_ ?_
  exact pm_var 1
  exact pm_int
  refine pma_cons ?_ ?_
  refine pm_neg ?_
  exact pm_int
  refine pma_cons ?_ ?_
  refine pm_neg ?_
  exact pm_int
  exact pma_nil
  exact rfl
  exact rfl
  exact pmg_name (i := 3) (x := "j") sc_head_of.nd rfl (Or.inl rfl)
  refine pms_cons ?_ ?_
  refine pms_aug ?_ ?_ ?_ iopr_add opM_id ?_ ?_
  exact sc_head_of.nd
  exact rfl
  exact (Or.inl rfl)
  refine pm_callC (k := 1) (ps := ["line"]) ?_ ?_ ?_ ?_ ?_ ?_ ?_ ?_
  exact c_level_change
  exact hr.mono (by decide)
  exact rfl
  refine pma_cons ?_ ?_
  refine pm_ix ?_ ?_
  exact pm_var 0
  exact pm_var 3
  exact pma_nil
  exact rfl
  decide
  exact rfl
  exact rfl
  first | exact .inl rfl | exact .inr rfl
  refine pms_one ?_
  refine pms_if ?_ ?_ ?_
  refine pmt_cmp (opr_eq ?_) opM_id ?_ ?_
  exact hu
  exact pm_var 2
  exact pm_int
  refine pms_one ?_
  refine pms_ret ?_
  exact pm_var 3
  exact pms_nil
  exact fun _ => rfl
  refine pms_one ?_
  refine pms_ret ?_
  exact pm_non
abbrev st_found_behind : Stmt := top 6
theorem sc_found_behind : FnScope ["lines", "k", "kind", "level", "j"] ["lines", "k", "kind"] (defScope st_found_behind) := ⟨rfl, rfl, rfl, by decide +kernel, rfl, by decide +kernel, by decide +kernel⟩
noncomputable abbrev bd_found_behind_1 : SM := (mSeq (mIte (mtAnd (mTest (mBin wEq (mVar 3) (mC (.int 0)))) (mTest (mBin wEq (mBin wIx (mBin wIx (mVar 0) (mVar 4)) (mC (.int 0))) (mVar 2)))) (mRet (mVar 4)) mSkip)
    (mAug 3 wAddI (mCall 1 sem_level_change (mCons (mBin wIx (mVar 0) (mVar 4)) mNil))))
noncomputable def sem_found_behind : FM := mDef 2
    (mSeq (mSet 3 (mC (.int 0)))
    (mSeq (mFor (miR2 (mCons (mBin wAdd (mVar 1) (mC (.int 1))) (mCons (mFn wLen (mCons (mVar 0) mNil)) mNil))) (gSet 4)
    bd_found_behind_1)
    (mRet (mC .non))))
set_option maxHeartbeats 4000000 in
theorem cal_found_behind (d : DefAt K mg "found_behind" st_found_behind ["lines", "k", "kind"]) (b_len : mg "len" = none) (b_range : mg "range" = none) (c_level_change : Cal P w K mg base 1 "level_change" ["line"] sem_level_change) : Cal P w K mg base 2 "found_behind" ["lines", "k", "kind"] sem_found_behind := by
  refine cal_mk (k := 1) (more := 2) d sc_found_behind rfl fun f cdv A outer s H E hr => ?_
  have hu := hr.units
  refine pms_cons ?_ ?_
  refine pms_set ?_ ?_ ?_ ?_ ?_ ?_
  exact sc_found_behind.nd
  exact rfl
  exact (Or.inl rfl)
  exact pm_int
  exact rfl
  first | exact .inl rfl | exact .inr rfl
  refine pms_cons ?_ ?_
  refine pms_for ?_ ?_ ?_ ?_ ?_ ?_
  exact PassesOwn.never
  exact rfl
  refine pmi_r2 ?_ ?_ ?_ ?_ ?_
  exact rfl
  exact b_range
  refine pma_cons ?_ ?_
  refine pm_op opr_add opM_id ?_ ?_
  exact pm_var 1
  exact pm_int
  refine pma_cons ?_ ?_
  refine pm_callB callr_len callM_id ?_ ?_ PySem.boot_len ?_ ?_ ?_ ?_ ?_
  exact rfl
  exact b_len
  refine pma_cons ?_ ?_
  exact pm_var 0
  exact pma_nil
  decide
  decide
  exact rfl
  exact rfl
  exact pma_nil
  exact rfl
  exact rfl
  exact pmg_name (i := 4) (x := "j") sc_found_behind.nd rfl (Or.inl rfl)
  refine pms_cons ?_ ?_
  refine pms_if ?_ ?_ ?_
  refine PMW.pt ?_
  refine pmw_and ?_ ?_
  refine pmt_cmp (opr_eq ?_) opM_id ?_ ?_
  exact hu
  exact pm_var 3
  exact pm_int
  refine pmw_and1 ?_
  refine pmt_cmp (opr_eq ?_) opM_id ?_ ?_
  exact hu
  refine pm_ix ?_ ?_
  refine pm_ix ?_ ?_
  exact pm_var 0
  exact pm_var 4
  exact pm_int
  exact pm_var 2
  refine pms_one ?_
  refine pms_ret ?_
  exact pm_var 4
  exact pms_nil
  refine pms_one ?_
  refine pms_aug ?_ ?_ ?_ iopr_add opM_id ?_ ?_
  exact sc_found_behind.nd
  exact rfl
  exact (Or.inl rfl)
  refine pm_callC (k := 1) (ps := ["line"]) ?_ ?_ ?_ ?_ ?_ ?_ ?_ ?_
  exact c_level_change
  exact hr.mono (by decide)
  exact rfl
  refine pma_cons ?_ ?_
  refine pm_ix ?_ ?_
  exact pm_var 0
  exact pm_var 4
  exact pma_nil
  exact rfl
  decide
  exact rfl
  exact rfl
  first | exact .inl rfl | exact .inr rfl
  exact fun _ => rfl
  refine pms_one ?_
  refine pms_ret ?_
  exact pm_non
abbrev st_end_of : Stmt := top 2
theorem sc_end_of : FnScope ["lines", "k"] ["lines", "k"] (defScope st_end_of) := ⟨rfl, rfl, rfl, by decide +kernel, rfl, by decide +kernel, by decide +kernel⟩
noncomputable def sem_end_of : FM := mDef 0
    (mRet (mCall 3 sem_found_behind (mCons (mVar 0) (mCons (mVar 1) (mCons (mC (.str "end")) mNil)))))
set_option maxHeartbeats 4000000 in
theorem cal_end_of (d : DefAt K mg "end_of" st_end_of ["lines", "k"]) (c_found_behind : Cal P w K mg base 2 "found_behind" ["lines", "k", "kind"] sem_found_behind) : Cal P w K mg base 3 "end_of" ["lines", "k"] sem_end_of := by
  refine cal_mk (k := 2) (more := 0) d sc_end_of rfl fun f cdv A outer s H E hr => ?_
  have hu := hr.units
  refine pms_one ?_
  refine pms_ret ?_
  refine pm_callC (k := 2) (ps := ["lines", "k", "kind"]) ?_ ?_ ?_ ?_ ?_ ?_ ?_ ?_
  exact c_found_behind
  exact hr.mono (by decide)
  exact rfl
  refine pma_cons ?_ ?_
  exact pm_var 0
  refine pma_cons ?_ ?_
  exact pm_var 1
  refine pma_cons ?_ ?_
  exact pm_str
  exact pma_nil
  exact rfl
  decide
  exact rfl
  exact rfl
abbrev st_or_of : Stmt := top 3
theorem sc_or_of : FnScope ["lines", "k"] ["lines", "k"] (defScope st_or_of) := ⟨rfl, rfl, rfl, by decide +kernel, rfl, by decide +kernel, by decide +kernel⟩
noncomputable def sem_or_of : FM := mDef 0
    (mRet (mCall 3 sem_found_behind (mCons (mVar 0) (mCons (mVar 1) (mCons (mC (.str "or")) mNil)))))
set_option maxHeartbeats 4000000 in
theorem cal_or_of (d : DefAt K mg "or_of" st_or_of ["lines", "k"]) (c_found_behind : Cal P w K mg base 2 "found_behind" ["lines", "k", "kind"] sem_found_behind) : Cal P w K mg base 3 "or_of" ["lines", "k"] sem_or_of := by
  refine cal_mk (k := 2) (more := 0) d sc_or_of rfl fun f cdv A outer s H E hr => ?_
  have hu := hr.units
  refine pms_one ?_
  refine pms_ret ?_
  refine pm_callC (k := 2) (ps := ["lines", "k", "kind"]) ?_ ?_ ?_ ?_ ?_ ?_ ?_ ?_
  exact c_found_behind
  exact hr.mono (by decide)
  exact rfl
  refine pma_cons ?_ ?_
  exact pm_var 0
  refine pma_cons ?_ ?_
  exact pm_var 1
  refine pma_cons ?_ ?_
  exact pm_str
  exact pma_nil
  exact rfl
  decide
  exact rfl
  exact rfl
abbrev st__law_middle : Stmt := top 14
theorem sc__law_middle : FnScope ["lines", "first", "middle", "last"] ["lines", "first", "middle", "last"] (defScope st__law_middle) := ⟨rfl, rfl, rfl, by decide +kernel, rfl, by decide +kernel, by decide +kernel⟩
noncomputable def sem__law_middle : FM := mDef 0
    (mRet (mAnd (mBin wEq (mCall 2 sem_or_of (mCons (mVar 0) (mCons (mVar 1) mNil))) (mVar 2)) (mAnd (mBin wEq (mCall 2 sem_head_of (mCons (mVar 0) (mCons (mVar 2) mNil))) (mVar 1)) (mBin wEq (mCall 2 sem_end_of (mCons (mVar 0) (mCons (mVar 2) mNil))) (mVar 3)))))
set_option maxHeartbeats 4000000 in
theorem cal__law_middle (d : DefAt K mg "_law_middle" st__law_middle ["lines", "first", "middle", "last"]) (c_end_of : Cal P w K mg base 3 "end_of" ["lines", "k"] sem_end_of) (c_head_of : Cal P w K mg base 2 "head_of" ["lines", "k"] sem_head_of) (c_or_of : Cal P w K mg base 3 "or_of" ["lines", "k"] sem_or_of) : Cal P w K mg base 4 "_law_middle" ["lines", "first", "middle", "last"] sem__law_middle := by
  refine cal_mk (k := 3) (more := 0) d sc__law_middle rfl fun f cdv A outer s H E hr => ?_
  have hu := hr.units
  refine pms_one ?_
  refine pms_ret ?_
  refine pm_and ?_ ?_
  refine pm_cmp (opr_eq ?_) opM_id ?_ ?_
  exact hu
  refine pm_callC (k := 3) (ps := ["lines", "k"]) ?_ ?_ ?_ ?_ ?_ ?_ ?_ ?_
  exact c_or_of
  exact hr.mono (by decide)
  exact rfl
  refine pma_cons ?_ ?_
  exact pm_var 0
  refine pma_cons ?_ ?_
  exact pm_var 1
  exact pma_nil
  exact rfl
  decide
  exact rfl
  exact rfl
  exact pm_var 2
  refine pm_and ?_ ?_
  refine pm_cmp (opr_eq ?_) opM_id ?_ ?_
  exact hu
  refine pm_callC (k := 2) (ps := ["lines", "k"]) ?_ ?_ ?_ ?_ ?_ ?_ ?_ ?_
  exact c_head_of
  exact hr.mono (by decide)
  exact rfl
  refine pma_cons ?_ ?_
  exact pm_var 0
  refine pma_cons ?_ ?_
  exact pm_var 2
  exact pma_nil
  exact rfl
  decide
  exact rfl
  exact rfl
  exact pm_var 1
  refine pm_one ?_
  refine pm_cmp (opr_eq ?_) opM_id ?_ ?_
  exact hu
  refine pm_callC (k := 3) (ps := ["lines", "k"]) ?_ ?_ ?_ ?_ ?_ ?_ ?_ ?_
  exact c_end_of
  exact hr.mono (by decide)
  exact rfl
  refine pma_cons ?_ ?_
  exact pm_var 0
  refine pma_cons ?_ ?_
  exact pm_var 2
  exact pma_nil
  exact rfl
  decide
  exact rfl
  exact rfl
  exact pm_var 3
abbrev st_law : Stmt := top 15
theorem sc_law : FnScope ["script", "lines", "handed", "found", "told", "k", "opened"] ["script"] (defScope st_law) := ⟨rfl, rfl, rfl, by decide +kernel, rfl, by decide +kernel, by decide +kernel⟩
noncomputable abbrev bd_law_1 : SM := (mIte (mTest (mBin wEq (mBin wIx (mBin wIx (mVar 1) (mVar 5)) (mC (.int 0))) (mC (.str "end")))) (mSeq (mSet 6 (mBin wIxD (mVar 3) (mVar 5)))
    (mSeq (mIte (mtOr (mTest (mBin wNe (mCall 2 sem_head_of (mCons (mVar 2) (mCons (mVar 5) mNil))) (mBin wIx (mVar 6) (mC (.int 1))))) (mTest (mBin wNe (mCall 2 sem_end_of (mCons (mVar 2) (mCons (mBin wIx (mVar 6) (mC (.int 1))) mNil))) (mVar 5)))) (mRet (mC (.bl false))) mSkip)
    (mIte (mtAnd (mTest (mBin wEq (mFn wLen (mCons (mVar 6) mNil)) (mC (.int 3)))) (mtNot (mTru (mCall 4 sem__law_middle (mCons (mVar 2) (mCons (mBin wIx (mVar 6) (mC (.int 1))) (mCons (mBin wIx (mVar 6) (mC (.int 2))) (mCons (mVar 5) mNil)))))))) (mRet (mC (.bl false))) mSkip))) mSkip)
noncomputable def sem_law : FM := mDef 6
    (mSeq (mSet 1 (mCall 1 sem__law_lines (mCons (mVar 0) mNil)))
    (mSeq (mSet 2 (mFn wTuple (mCons (mVar 1) mNil)))
    (mSeq (mSet 3 (mCall 1 sem__law_partners (mCons (mVar 1) mNil)))
    (mSeq (mSet 4 (mCall 1 sem_is_blocks (mCons (mVar 2) mNil)))
    (mSeq (mIte (mtOr (mtNot (mTru (mFn wIsi (mCons (mVar 4) (mCons (mC (.ty "bool")) mNil))))) (mTest (mBin wNe (mVar 4) (mBin wIsNot (mVar 3) (mC .non))))) (mRet (mC (.bl false))) mSkip)
    (mSeq (mIte (mTest (mBin wIs (mVar 3) (mC .non))) (mRet (mC (.bl true))) mSkip)
    (mSeq (mFor (miR1 (mCons (mFn wLen (mCons (mVar 1) mNil)) mNil)) (gSet 5)
    bd_law_1)
    (mRet (mC (.bl true))))))))))
set_option maxHeartbeats 4000000 in
theorem cal_law (d : DefAt K mg "law" st_law ["script"]) (b_bool : mg "bool" = none) (b_isinstance : mg "isinstance" = none) (b_len : mg "len" = none) (b_range : mg "range" = none) (b_tuple : mg "tuple" = none) (c__law_lines : Cal P w K mg base 3 "_law_lines" ["script"] sem__law_lines) (c__law_middle : Cal P w K mg base 4 "_law_middle" ["lines", "first", "middle", "last"] sem__law_middle) (c__law_partners : Cal P w K mg base 1 "_law_partners" ["lines"] sem__law_partners) (c_end_of : Cal P w K mg base 3 "end_of" ["lines", "k"] sem_end_of) (c_head_of : Cal P w K mg base 2 "head_of" ["lines", "k"] sem_head_of) (c_is_blocks : Cal P w K mg base 1 "is_blocks" ["lines"] sem_is_blocks) : Cal P w K mg base 5 "law" ["script"] sem_law := by
  refine cal_mk (k := 4) (more := 6) d sc_law rfl fun f cdv A outer s H E hr => ?_
  have hu := hr.units
  refine pms_cons ?_ ?_
  refine pms_set ?_ ?_ ?_ ?_ ?_ ?_
  exact sc_law.nd
  exact rfl
  exact (Or.inl rfl)
  refine pm_callC (k := 3) (ps := ["script"]) ?_ ?_ ?_ ?_ ?_ ?_ ?_ ?_
  exact c__law_lines
  exact hr.mono (by decide)
  exact rfl
  refine pma_cons ?_ ?_
  exact pm_var 0
  exact pma_nil
  exact rfl
  decide
  exact rfl
  exact rfl
  exact rfl
  first | exact .inl rfl | exact .inr rfl
  refine pms_cons ?_ ?_
  refine pms_set ?_ ?_ ?_ ?_ ?_ ?_
  exact sc_law.nd
  exact rfl
  exact (Or.inl rfl)
  refine pm_callTy callr_tuple callM_id ?_ ?_ PyProof.Rows.boot_tuple ?_ ?_ ?_ ?_ ?_
  exact rfl
  exact b_tuple
  refine pma_cons ?_ ?_
  exact pm_var 1
  exact pma_nil
  decide
  decide
  exact rfl
  exact rfl
  exact rfl
  first | exact .inl rfl | exact .inr rfl
  refine pms_cons ?_ ?_
  refine pms_set ?_ ?_ ?_ ?_ ?_ ?_
  exact sc_law.nd
  exact rfl
  exact (Or.inl rfl)
  refine pm_callC (k := 1) (ps := ["lines"]) ?_ ?_ ?_ ?_ ?_ ?_ ?_ ?_
  exact c__law_partners
  exact hr.mono (by decide)
  exact rfl
  refine pma_cons ?_ ?_
  exact pm_var 1
  exact pma_nil
  exact rfl
  decide
  exact rfl
  exact rfl
  exact rfl
  first | exact .inl rfl | exact .inr rfl
  refine pms_cons ?_ ?_
  refine pms_set ?_ ?_ ?_ ?_ ?_ ?_
  exact sc_law.nd
  exact rfl
  exact (Or.inl rfl)
  refine pm_callC (k := 1) (ps := ["lines"]) ?_ ?_ ?_ ?_ ?_ ?_ ?_ ?_
  exact c_is_blocks
  exact hr.mono (by decide)
  exact rfl
  refine pma_cons ?_ ?_
  exact pm_var 2
  exact pma_nil
  exact rfl
  decide
  exact rfl
  exact rfl
  exact rfl
  first | exact .inl rfl | exact .inr rfl
  refine pms_cons ?_ ?_
  refine pms_if ?_ ?_ ?_
  refine PMW.pt ?_
  refine pmw_or ?_ ?_
  refine pmt_not ?_
  refine pmt_tru ?_
  refine pm_callB callr_isi callM_id ?_ ?_ PyProof.Rows.boot_isinstance ?_ ?_ ?_ ?_ ?_
  exact rfl
  exact b_isinstance
  refine pma_cons ?_ ?_
  exact pm_var 4
  refine pma_cons ?_ ?_
  exact pm_ty rfl b_bool PyProof.Rows.boot_bool
  exact pma_nil
  decide
  decide
  exact rfl
  exact rfl
  refine pmw_or1 ?_
  refine pmt_cmp (opr_ne ?_) opM_id ?_ ?_
  exact hu
  exact pm_var 4
  refine pm_cmp opr_isNot opM_id ?_ ?_
  exact pm_var 3
  exact pm_non
  refine pms_one ?_
  refine pms_ret ?_
  exact pm_bl
  exact pms_nil
  refine pms_cons ?_ ?_
  refine pms_if ?_ ?_ ?_
  refine pmt_cmp opr_is opM_id ?_ ?_
  exact pm_var 3
  exact pm_non
  refine pms_one ?_
  refine pms_ret ?_
  exact pm_bl
  exact pms_nil
  refine pms_cons ?_ ?_
  refine pms_for ?_ ?_ ?_ ?_ ?_ ?_
  exact PassesOwn.never
  exact rfl
  refine pmi_r1 ?_ ?_ ?_ ?_
  exact rfl
  exact b_range
  refine pma_cons ?_ ?_
  refine pm_callB callr_len callM_id ?_ ?_ PySem.boot_len ?_ ?_ ?_ ?_ ?_
  exact rfl
  exact b_len
  refine pma_cons ?_ ?_
  exact pm_var 1
  exact pma_nil
  decide
  decide
  exact rfl
  exact rfl
  exact pma_nil
  exact rfl
  exact pmg_name (i := 5) (x := "k") sc_law.nd rfl (Or.inl rfl)
  refine pms_one ?_
  refine pms_if ?_ ?_ ?_
  refine pmt_cmp (opr_eq ?_) opM_id ?_ ?_
  exact hu
  refine pm_ix ?_ ?_
  refine pm_ix ?_ ?_
  exact pm_var 1
  exact pm_var 5
  exact pm_int
  exact pm_str
  refine pms_cons ?_ ?_
  refine pms_set ?_ ?_ ?_ ?_ ?_ ?_
  exact sc_law.nd
  exact rfl
  exact (Or.inl rfl)
  refine pm_ixD ?_ ?_ ?_
  exact hu
  exact pm_var 3
  exact pm_var 5
  exact rfl
  first | exact .inl rfl | exact .inr rfl
  refine pms_cons ?_ ?_
  refine pms_if ?_ ?_ ?_
  refine PMW.pt ?_
  refine pmw_or ?_ ?_
  refine pmt_cmp (opr_ne ?_) opM_id ?_ ?_
  exact hu
  refine pm_callC (k := 2) (ps := ["lines", "k"]) ?_ ?_ ?_ ?_ ?_ ?_ ?_ ?_
  exact c_head_of
  exact hr.mono (by decide)
  exact rfl
  refine pma_cons ?_ ?_
  exact pm_var 2
  refine pma_cons ?_ ?_
  exact pm_var 5
  exact pma_nil
  exact rfl
  decide
  exact rfl
  exact rfl
  refine pm_ix ?_ ?_
  exact pm_var 6
  exact pm_int
  refine pmw_or1 ?_
  refine pmt_cmp (opr_ne ?_) opM_id ?_ ?_
  exact hu
  refine pm_callC (k := 3) (ps := ["lines", "k"]) ?_ ?_ ?_ ?_ ?_ ?_ ?_ ?_
  exact c_end_of
  exact hr.mono (by decide)
  exact rfl
  refine pma_cons ?_ ?_
  exact pm_var 2
  refine pma_cons ?_ ?_
  refine pm_ix ?_ ?_
  exact pm_var 6
  exact pm_int
  exact pma_nil
  exact rfl
  decide
  exact rfl
  exact rfl
  exact pm_var 5
  refine pms_one ?_
  refine pms_ret ?_
  exact pm_bl
  exact pms_nil
  refine pms_one ?_
  refine pms_if ?_ ?_ ?_
  refine PMW.pt ?_
  refine pmw_and ?_ ?_
  refine pmt_cmp (opr_eq ?_) opM_id ?_ ?_
  exact hu
  refine pm_callB callr_len callM_id ?_ ?_ PySem.boot_len ?_ ?_ ?_ ?_ ?_
  exact rfl
  exact b_len
  refine pma_cons ?_ ?_
  exact pm_var 6
  exact pma_nil
  decide
  decide
  exact rfl
  exact rfl
  exact pm_int
  refine pmw_and1 ?_
  refine pmt_not ?_
  refine pmt_tru ?_
  refine pm_callC (k := 4) (ps := ["lines", "first", "middle", "last"]) ?_ ?_ ?_ ?_ ?_ ?_ ?_ ?_
  exact c__law_middle
  exact hr.mono (by decide)
  exact rfl
  refine pma_cons ?_ ?_
  exact pm_var 2
  refine pma_cons ?_ ?_
  refine pm_ix ?_ ?_
  exact pm_var 6
  exact pm_int
  refine pma_cons ?_ ?_
  refine pm_ix ?_ ?_
  exact pm_var 6
  exact pm_int
  refine pma_cons ?_ ?_
  exact pm_var 5
  exact pma_nil
  exact rfl
  decide
  exact rfl
  exact rfl
  refine pms_one ?_
  refine pms_ret ?_
  exact pm_bl
  exact pms_nil
  exact pms_nil
  exact fun _ => rfl
  refine pms_one ?_
  refine pms_ret ?_
  exact pm_bl
end

/-! ### all defs -/
theorem all_law {P : Program} {w : World} {K : PySem.W.Frag} {mg : Str → Option Value} {base : Heap} (d__law_cell : DefAt K mg "_law_cell" st__law_cell ["script", "k"]) (d__law_right : DefAt K mg "_law_right" st__law_right ["script", "many"]) (d__law_some : DefAt K mg "_law_some" st__law_some ["cell"]) (d__law_bent : DefAt K mg "_law_bent" st__law_bent ["lines", "cell"]) (d__law_lines : DefAt K mg "_law_lines" st__law_lines ["script"]) (d__law_partners : DefAt K mg "_law_partners" st__law_partners ["lines"]) (d_is_blocks : DefAt K mg "is_blocks" st_is_blocks ["lines"]) (d_level_change : DefAt K mg "level_change" st_level_change ["line"]) (d_head_of : DefAt K mg "head_of" st_head_of ["lines", "k"]) (d_found_behind : DefAt K mg "found_behind" st_found_behind ["lines", "k", "kind"]) (d_end_of : DefAt K mg "end_of" st_end_of ["lines", "k"]) (d_or_of : DefAt K mg "or_of" st_or_of ["lines", "k"]) (d__law_middle : DefAt K mg "_law_middle" st__law_middle ["lines", "first", "middle", "last"]) (d_law : DefAt K mg "law" st_law ["script"]) (b_bool : mg "bool" = none) (b_isinstance : mg "isinstance" = none) (b_len : mg "len" = none) (b_range : mg "range" = none) (b_tuple : mg "tuple" = none) : Cal P w K mg base 5 "law" ["script"] sem_law := by
  have c__law_cell : Cal P w K mg base 1 "_law_cell" ["script", "k"] sem__law_cell := cal__law_cell d__law_cell b_len
  have c__law_right : Cal P w K mg base 2 "_law_right" ["script", "many"] sem__law_right := cal__law_right d__law_right b_len b_range c__law_cell
  have c__law_some : Cal P w K mg base 1 "_law_some" ["cell"] sem__law_some := cal__law_some d__law_some
  have c__law_bent : Cal P w K mg base 2 "_law_bent" ["lines", "cell"] sem__law_bent := cal__law_bent d__law_bent b_len c__law_some
  have c__law_lines : Cal P w K mg base 3 "_law_lines" ["script"] sem__law_lines := cal__law_lines d__law_lines b_range c__law_bent c__law_cell c__law_right c__law_some
  have c__law_partners : Cal P w K mg base 1 "_law_partners" ["lines"] sem__law_partners := cal__law_partners d__law_partners b_len b_range
  have c_is_blocks : Cal P w K mg base 1 "is_blocks" ["lines"] sem_is_blocks := cal_is_blocks d_is_blocks b_len
  have c_level_change : Cal P w K mg base 1 "level_change" ["line"] sem_level_change := cal_level_change d_level_change
  have c_head_of : Cal P w K mg base 2 "head_of" ["lines", "k"] sem_head_of := cal_head_of d_head_of b_range c_level_change
  have c_found_behind : Cal P w K mg base 2 "found_behind" ["lines", "k", "kind"] sem_found_behind := cal_found_behind d_found_behind b_len b_range c_level_change
  have c_end_of : Cal P w K mg base 3 "end_of" ["lines", "k"] sem_end_of := cal_end_of d_end_of c_found_behind
  have c_or_of : Cal P w K mg base 3 "or_of" ["lines", "k"] sem_or_of := cal_or_of d_or_of c_found_behind
  have c__law_middle : Cal P w K mg base 4 "_law_middle" ["lines", "first", "middle", "last"] sem__law_middle := cal__law_middle d__law_middle c_end_of c_head_of c_or_of
  have c_law : Cal P w K mg base 5 "law" ["script"] sem_law := cal_law d_law b_bool b_isinstance b_len b_range b_tuple c__law_lines c__law_middle c__law_partners c_end_of c_head_of c_is_blocks
  exact c_law

end My

namespace My3
/-! ### blocks: the pile and the levels (plain mathematics) -/
inductive Cd where
  | ei | ag | oo | en | ot
  deriving DecidableEq
structure En where
  kd : Cd
  fs : Nat
  md : Nat
def ch : Cd → Int
  | .ei => 1
  | .ag => 1
  | .en => -1
  | _ => 0
def lev (ls : List Cd) : Nat → Int
  | 0 => 0
  | k + 1 => lev ls k + (match ls[k]? with | some c => ch c | none => 0)
def stp (k : Nat) (c : Cd) (st : List En) : Option (List En) := match c with
  | .ei => some (⟨.ei, k, 0⟩ :: st)
  | .ag => some (⟨.ag, k, 0⟩ :: st)
  | .oo => match st with
    | e :: r => if e.kd = .ei then some (⟨.oo, e.fs, k⟩ :: r) else none
    | [] => none
  | .en => match st with
    | e :: r => if e.kd = .ei then none else some r
    | [] => none
  | .ot => some st
theorem lev_succ {ls : List Cd} {k : Nat} {c : Cd} (e : ls[k]? = some c) : lev ls (k + 1) = lev ls k + ch c := by
  simp only [lev, e]
/-- what holds of an entry of the pile with t entries above it, ahead of line k -/
structure Fit (ls : List Cd) (k t : Nat) (e : En) : Prop where
  lt : e.fs < k
  at_ : ls[e.fs]? = some .ei ∨ ls[e.fs]? = some .ag
  lv : lev ls (e.fs + 1) + t = lev ls k
  ge : ∀ j, e.fs < j → j ≤ k → lev ls (e.fs + 1) ≤ lev ls j
  kd : e.kd = .ei ∨ e.kd = .ag ∨ e.kd = .oo
  ei : e.kd = .ei → ∀ j, e.fs < j → j < k → lev ls j = lev ls (e.fs + 1) → ls[j]? ≠ some .oo
  oo : e.kd = .oo → e.fs < e.md ∧ e.md < k ∧ ls[e.md]? = some .oo ∧ lev ls e.md = lev ls (e.fs + 1) ∧ ∀ j, e.fs < j → j < e.md → lev ls j = lev ls (e.fs + 1) → ls[j]? ≠ some .oo
def Fits (ls : List Cd) (k : Nat) : Nat → List En → Prop
  | _, [] => True
  | t, e :: r => Fit ls k t e ∧ Fits ls k (t + 1) r
/-- a pair of a head and its end at k -/
structure Mat (ls : List Cd) (k : Nat) (e : En) : Prop where
  fit : Fit ls k 0 e
  en : ls[k]? = some .en
  kd : e.kd = .ag ∨ e.kd = .oo
theorem fit_next {ls : List Cd} {k t t' : Nat} {c : Cd} {e : En} (hc : ls[k]? = some c) (h : Fit ls k t e) (ht : (t' : Int) = t + ch c) (ho : c = .oo → 0 < t) : Fit ls (k + 1) t' e := by
  have hl := lev_succ hc
  have hlv := h.lv
  have hlt := h.lt
  refine ⟨by omega, h.at_, by omega, fun j h1 h2 => ?_, h.kd, fun q j h1 h2 h3 => ?_, fun q => ?_⟩
  · by_cases z : j ≤ k
    · exact h.ge j h1 z
    · have : j = k + 1 := by omega
      subst this; omega
  · by_cases z : j < k
    · exact h.ei q j h1 z h3
    · have : j = k := by omega
      subst this
      rw [hc]
      intro w
      have w' : c = .oo := by simpa using w
      have := ho w'
      omega
  · obtain ⟨a, b, cc, d, f⟩ := h.oo q
    exact ⟨a, by omega, cc, d, f⟩
theorem fits_next {ls : List Cd} {k : Nat} {c : Cd} (hc : ls[k]? = some c) : ∀ (r : List En) (t t' : Nat), Fits ls k t r → (t' : Int) = t + ch c → (c = .oo → 0 < t) → Fits ls (k + 1) t' r
  | [], _, _, _, _, _ => True.intro
  | e :: r, t, t', h, ht, ho => ⟨fit_next hc h.1 ht ho, fits_next hc r (t + 1) (t' + 1) h.2 (by push_cast; omega) fun _ => by omega⟩
theorem stp_fits {ls : List Cd} {k : Nat} {c : Cd} {st st' : List En} (hc : ls[k]? = some c) (h : Fits ls k 0 st) (e : stp k c st = some st') : Fits ls (k + 1) 0 st' := by
  have hl := lev_succ hc
  have new : ∀ kd : Cd, (kd = .ei ∨ kd = .ag) → c = kd → Fit ls (k + 1) 0 ⟨kd, k, 0⟩ := fun kd hk e => by
    refine ⟨by simp, ?_, by simp, fun j h1 h2 => ?_, by rcases hk with z | z <;> simp [z], fun q j h1 h2 => ?_, fun q => ?_⟩
    · rw [hc, e]; rcases hk with z | z <;> simp [z]
    · have h1' : k < j := h1
      have : j = k + 1 := by omega
      subst this; exact Int.le_refl _
    · have h1' : k < j := h1
      omega
    · have q' : kd = .oo := q
      rcases hk with z | z <;> rw [z] at q' <;> cases q'
  cases c with
  | ei => cases e; exact ⟨new _ (.inl rfl) rfl, fits_next hc st 0 1 h (by simp [ch]) (by simp)⟩
  | ag => cases e; exact ⟨new _ (.inr rfl) rfl, fits_next hc st 0 1 h (by simp [ch]) (by simp)⟩
  | ot => cases e; exact fits_next hc st 0 0 h (by simp [ch]) (by simp)
  | oo =>
    cases st with
    | nil => cases e
    | cons a r =>
      simp only [stp] at e
      split at e
      · rename_i ha
        cases e
        have hf := h.1
        have hlv := hf.lv
        have hlt := hf.lt
        refine ⟨⟨by show a.fs < k + 1; omega, hf.at_, ?_, fun j h1 h2 => ?_, .inr (.inr rfl), fun q => (by cases q), fun _ => ⟨hlt, Nat.lt_succ_self _, hc, ?_, hf.ei ha⟩⟩, fits_next hc r 1 1 h.2 (by simp [ch]) (by simp)⟩
        · show lev ls (a.fs + 1) + ((0 : Nat) : Int) = lev ls (k + 1)
          rw [hl]; simp [ch]; simp at hlv; exact hlv
        · by_cases z : j ≤ k
          · exact hf.ge j h1 z
          · have : j = k + 1 := by omega
            subst this
            show lev ls (a.fs + 1) ≤ _
            rw [hl]; simp [ch]; simp at hlv; omega
        · show lev ls k = lev ls (a.fs + 1)
          simp at hlv; exact hlv.symm
      · cases e
  | en =>
    cases st with
    | nil => cases e
    | cons a r =>
      simp only [stp] at e
      split at e
      · cases e
      · cases e
        exact fits_next hc _ 1 0 h.2 (by simp [ch]) (by simp)
theorem stp_mat {ls : List Cd} {k : Nat} {a : En} {r st' : List En} (hc : ls[k]? = some .en) (h : Fits ls k 0 (a :: r)) (e : stp k .en (a :: r) = some st') : Mat ls k a := by
  simp only [stp] at e
  split at e
  · cases e
  · rename_i ha
    refine ⟨h.1, hc, ?_⟩
    rcases h.1.kd with z | z | z
    · exact absurd z ha
    · exact .inl z
    · exact .inr z
/-- what is looked for behind a line -/
structure Beh (ls : List Cd) (k : Nat) (c : Cd) (j : Nat) : Prop where
  lt : k < j
  at_ : ls[j]? = some c
  lv : lev ls j = lev ls (k + 1)
  no : ∀ i, k < i → i < j → lev ls i = lev ls (k + 1) → ls[i]? ≠ some c
structure Ahd (ls : List Cd) (k j : Nat) : Prop where
  lt : j < k
  lv : lev ls k = lev ls j + 1
  no : ∀ i, j < i → i < k → lev ls k ≠ lev ls i + 1
theorem mat_end {ls : List Cd} {k : Nat} {e : En} (m : Mat ls k e) : Beh ls e.fs .en k := by
  have h := m.fit
  refine ⟨h.lt, m.en, by have := h.lv; simp at this; omega, fun i h1 h2 h3 q => ?_⟩
  have := lev_succ q
  have g := h.ge (i + 1) (by omega) (by omega)
  simp [ch] at this
  omega
theorem mat_head {ls : List Cd} {k : Nat} {e : En} (m : Mat ls k e) : Ahd ls k e.fs := by
  have h := m.fit
  have hlv := h.lv
  have e1 : lev ls (e.fs + 1) = lev ls e.fs + 1 := by
    rcases h.at_ with q | q <;> exact lev_succ q
  refine ⟨h.lt, by simp at hlv; omega, fun i h1 h2 h3 => ?_⟩
  have g := h.ge i h1 (by omega)
  simp at hlv
  omega
theorem mat_or {ls : List Cd} {k : Nat} {e : En} (m : Mat ls k e) (ho : e.kd = .oo) : Beh ls e.fs .oo e.md := by
  obtain ⟨a, b, c, d, f⟩ := m.fit.oo ho
  exact ⟨a, c, d, f⟩
theorem mat_orHead {ls : List Cd} {k : Nat} {e : En} (m : Mat ls k e) (ho : e.kd = .oo) : Ahd ls e.md e.fs := by
  obtain ⟨a, b, c, d, f⟩ := m.fit.oo ho
  have h := m.fit
  have e1 : lev ls (e.fs + 1) = lev ls e.fs + 1 := by
    rcases h.at_ with q | q <;> exact lev_succ q
  refine ⟨a, by omega, fun i h1 h2 h3 => ?_⟩
  have g := h.ge i h1 (by omega)
  omega
theorem mat_orEnd {ls : List Cd} {k : Nat} {e : En} (m : Mat ls k e) (ho : e.kd = .oo) : Beh ls e.md .en k := by
  obtain ⟨a, b, c, d, f⟩ := m.fit.oo ho
  have h := m.fit
  have hlv := h.lv
  have e1 := lev_succ c
  simp [ch] at e1
  simp at hlv
  refine ⟨b, m.en, by omega, fun i h1 h2 h3 q => ?_⟩
  have e2 := lev_succ q
  have g := h.ge (i + 1) (by omega) (by omega)
  simp [ch] at e2
  omega
end My3

namespace My
open PySem PySem.Spec PyProof.Rows L2 Mi My3
/-! ### the program: levels, what stands behind, the head -/
def cd (x : Str) : Cd := if x = "either" then .ei else if x = "again" then .ag else if x = "or" then .oo else if x = "end" then .en else .ot
abbrev Lp := Str × List W
def lnW (p : Lp) : W := .tup (.str p.1 :: p.2)
def cds (ps : List Lp) : List Cd := ps.map fun p => cd p.1
theorem cds_at {ps : List Lp} {j : Nat} {p : Lp} (e : ps[j]? = some p) : (cds ps)[j]? = some (cd p.1) := by unfold cds; rw [List.getElem?_map, e]; rfl
theorem cds_of {ps : List Lp} {j : Nat} {c : Cd} (e : (cds ps)[j]? = some c) : ∃ p, ps[j]? = some p ∧ cd p.1 = c := by
  unfold cds at e
  rw [List.getElem?_map] at e
  exact Option.map_eq_some_iff.mp e
theorem cds_len (ps : List Lp) : (cds ps).length = ps.length := by unfold cds; simp
theorem cd_cases (x : Str) : (x = "either" ∧ cd x = .ei) ∨ (x = "again" ∧ cd x = .ag) ∨ (x = "or" ∧ cd x = .oo) ∨ (x = "end" ∧ cd x = .en) ∨ ((x ≠ "either" ∧ x ≠ "again" ∧ x ≠ "or" ∧ x ≠ "end") ∧ cd x = .ot) := by
  unfold cd
  by_cases h1 : x = "either"
  · exact .inl ⟨h1, if_pos h1⟩
  rw [if_neg h1]
  by_cases h2 : x = "again"
  · exact .inr (.inl ⟨h2, if_pos h2⟩)
  rw [if_neg h2]
  by_cases h3 : x = "or"
  · exact .inr (.inr (.inl ⟨h3, if_pos h3⟩))
  rw [if_neg h3]
  by_cases h4 : x = "end"
  · exact .inr (.inr (.inr (.inl ⟨h4, if_pos h4⟩)))
  rw [if_neg h4]
  exact .inr (.inr (.inr (.inr ⟨⟨h1, h2, h3, h4⟩, rfl⟩)))
theorem sq {a b : Str} (h : a = b) : (a == b) = true := by simp [h]
theorem sn {a b : Str} (h : a ≠ b) : (a == b) = false := by simp [h]
/-- a line's word against a text -/
theorem word_is {m mw : ME} {σ : MSt} {h : MH} {p : Lp} {y : Str} (e : m σ h = some (lnW p, h)) (ew : mw σ h = some (.str y, h)) : mTest (mBin wEq (mBin wIx m (mC (.int 0))) mw) σ h = some (p.1 == y, h) := by
  refine e_test ((e_bin ?_ ew).trans (wEq_str _ _ _))
  exact (e_bin e rfl).trans (wIx_tup (j := 0) rfl)
theorem word_T {m mw : ME} {σ : MSt} {h : MH} {p : Lp} {y : Str} (e : m σ h = some (lnW p, h)) (ew : mw σ h = some (.str y, h)) (hy : p.1 = y) : mTest (mBin wEq (mBin wIx m (mC (.int 0))) mw) σ h = some (true, h) := by rw [word_is e ew, sq hy]
theorem word_F {m mw : ME} {σ : MSt} {h : MH} {p : Lp} {y : Str} (e : m σ h = some (lnW p, h)) (ew : mw σ h = some (.str y, h)) (hy : p.1 ≠ y) : mTest (mBin wEq (mBin wIx m (mC (.int 0))) mw) σ h = some (false, h) := by rw [word_is e ew, sn hy]
theorem change_ok (p : Lp) (h : MH) : sem_level_change [lnW p] h = some (.int (ch (cd p.1)), h) := by
  refine e_def ?_
  show mSeq _ _ [some (lnW p)] h = _
  have v : mVar 0 [some (lnW p)] h = some (lnW p, h) := rfl
  rcases cd_cases p.1 with ⟨e, c⟩ | ⟨e, c⟩ | ⟨e, c⟩ | ⟨e, c⟩ | ⟨⟨n1, n2, n3, n4⟩, c⟩
  · rw [c]
    exact e_seqR (e_iteT (e_torT (word_T v rfl e)) (e_ret rfl))
  · rw [c]
    exact e_seqR (e_iteT (e_torF (word_F v rfl (by rw [e]; decide)) (word_T v rfl e)) (e_ret rfl))
  · rw [c]
    refine e_seq (e_iteF (e_torF (word_F v rfl (by rw [e]; decide)) (word_F v rfl (by rw [e]; decide))) e_skip) (e_ret ?_)
    exact e_ifF (word_F v rfl (by rw [e]; decide)) rfl
  · rw [c]
    refine e_seq (e_iteF (e_torF (word_F v rfl (by rw [e]; decide)) (word_F v rfl (by rw [e]; decide))) e_skip) (e_ret ?_)
    exact e_ifT (word_T v rfl e) rfl
  · rw [c]
    refine e_seq (e_iteF (e_torF (word_F v rfl n1) (word_F v rfl n2)) e_skip) (e_ret ?_)
    exact e_ifF (word_F v rfl n4) rfl
theorem ix_line {ps : List Lp} {j : Nat} {p : Lp} {ma mb : ME} {σ : MSt} {h : MH} (hp : ps[j]? = some p) (ea : ma σ h = some (.tup (ps.map lnW), h)) (eb : mb σ h = some (.int (j : Int), h)) : mBin wIx ma mb σ h = some (lnW p, h) :=
  (e_bin ea eb).trans (wIx_tup (by rw [List.getElem?_map, hp]; rfl))
theorem behind_ok (ps : List Lp) (hl : ps.length < 1000) (k j : Nat) (y : Str) (hy : ∀ x : Str, cd x = cd y ↔ x = y) (b : Beh (cds ps) k (cd y) j) (h : MH) : sem_found_behind [.tup (ps.map lnW), .int k, .str y] h = some (.int j, h) := by
  have hj : j < ps.length := by
    have := (List.getElem?_eq_some_iff.mp b.at_).1
    rw [cds_len] at this; exact this
  have hk := b.lt
  refine e_def ?_
  show mSeq _ _ [some (.tup (ps.map lnW)), some (.int k), some (.str y), none, none] h = _
  refine e_seq (e_set (a := .int 0) (h1 := h) rfl) ?_
  show mSeq _ _ [some (.tup (ps.map lnW)), some (.int k), some (.str y), some (.int 0), none] h = _
  have hit : miR2 (mCons (mBin wAdd (mVar 1) (mC (.int 1))) (mCons (mFn wLen (mCons (mVar 0) mNil)) mNil)) [some (.tup (ps.map lnW)), some (.int k), some (.str y), some (.int 0), none] h = some (rangeW ((k : Int) + 1) (ps.length - (k + 1)), none, h) := by
    refine (e_r2 (i := (k : Int) + 1) (j := (ps.length : Int)) rfl ?_ (by omega)).trans ?_
    · rw [e_fn (e_cons rfl e_nil)]
      show some (W.int ((ps.map lnW).length : Nat), h) = _
      rw [List.length_map]
    · rw [show ((ps.length : Int) - ((k : Int) + 1)).toNat = ps.length - (k + 1) by omega]
  have lp := loop_res (items := rangeW ((k : Int) + 1) (ps.length - (k + 1))) (b := gSet 4) (body := bd_found_behind_1)
    (fun n σ h' => ∃ a, σ = [some (.tup (ps.map lnW)), some (.int k), some (.str y), some (.int (lev (cds ps) (k + 1 + n) - lev (cds ps) (k + 1))), a] ∧ h' = h ∧ k + 1 + n ≤ j)
    (fun v h' => v = .int j ∧ h' = h) (rangeW ((k : Int) + 1) (ps.length - (k + 1))) 0 [some (.tup (ps.map lnW)), some (.int k), some (.str y), some (.int 0), none] h ⟨none, by simp, rfl, by omega⟩ ?_
  · rcases lp with ⟨σ', h', e, a, rfl, rfl, hle⟩ | ⟨v, h', e, rfl, rfl⟩
    · rw [rangeW_len] at hle; omega
    · exact e_seqR (e_for hit e)
  · rintro i w hw σ h' ⟨a, rfl, rfl, hle⟩
    obtain ⟨hi, rfl⟩ := rangeW_get hw
    rw [Nat.zero_add] at *
    have hlt : k + 1 + i < ps.length := by omega
    obtain ⟨p, hp⟩ : ∃ p, ps[k + 1 + i]? = some p := ⟨ps[k + 1 + i], List.getElem?_eq_getElem hlt⟩
    refine ⟨[some (.tup (ps.map lnW)), some (.int k), some (.str y), some (.int (lev (cds ps) (k + 1 + i) - lev (cds ps) (k + 1))), some (.int (k + 1 + i : Nat))], ?_, ?_⟩
    · show some _ = _
      rw [show ((k : Int) + 1 + (i : Int)) = ((k + 1 + i : Nat) : Int) by push_cast; rfl]; rfl
    have eix : mBin wIx (mVar 0) (mVar 4) [some (.tup (ps.map lnW)), some (.int k), some (.str y), some (.int (lev (cds ps) (k + 1 + i) - lev (cds ps) (k + 1))), some (.int (k + 1 + i : Nat))] h' = some (lnW p, h') := ix_line hp rfl rfl
    have t1 : mTest (mBin wEq (mVar 3) (mC (.int 0))) [some (.tup (ps.map lnW)), some (.int k), some (.str y), some (.int (lev (cds ps) (k + 1 + i) - lev (cds ps) (k + 1))), some (.int (k + 1 + i : Nat))] h' = some (lev (cds ps) (k + 1 + i) - lev (cds ps) (k + 1) == 0, h') := e_test ((e_bin rfl rfl).trans (wEq_int _ _ _))
    have t2 := word_is (m := mBin wIx (mVar 0) (mVar 4)) (mw := mVar 2) (y := y) eix rfl
    by_cases hij : k + 1 + i = j
    · refine .inr ⟨.int j, h', ?_, rfl, rfl⟩
      have hw : p.1 = y := by
        have e1 := cds_at hp
        rw [hij, b.at_] at e1
        exact (hy p.1).mp (Option.some.inj e1).symm
      refine e_seqR (e_iteT (h1 := h') ((e_tand t1 t2).trans ?_) (e_ret ?_))
      · rw [sq hw, hij, b.lv]; simp
      · rw [hij]; rfl
    · refine .inl ⟨[some (.tup (ps.map lnW)), some (.int k), some (.str y), some (.int (lev (cds ps) (k + 1 + (i + 1)) - lev (cds ps) (k + 1))), some (.int (k + 1 + i : Nat))], h', ?_, _, rfl, rfl, by omega⟩
      have hn := b.no (k + 1 + i) (by omega) (by omega)
      rw [cds_at hp] at hn
      refine e_seq (e_iteF (h1 := h') ((e_tand t1 t2).trans ?_) e_skip) ?_
      · by_cases z : lev (cds ps) (k + 1 + i) = lev (cds ps) (k + 1)
        · have : p.1 ≠ y := fun q => hn z (by rw [q])
          rw [sn this]; simp
        · have : (lev (cds ps) (k + 1 + i) - lev (cds ps) (k + 1) == 0) = false := by rw [beq_eq_false_iff_ne]; omega
          rw [this]; simp
      · have hs := lev_succ (cds_at hp)
        refine (e_aug (x := .int (lev (cds ps) (k + 1 + i) - lev (cds ps) (k + 1))) rfl ((e_call (n := 1) (e_cons eix e_nil) rfl).trans (change_ok p h')) (b := .int (lev (cds ps) (k + 1 + (i + 1)) - lev (cds ps) (k + 1))) (h2 := h') ?_).trans rfl
        rw [show k + 1 + (i + 1) = k + 1 + i + 1 by omega, hs]
        exact congrArg (fun z => some (W.int z, h')) (by omega)
theorem end_ok (ps : List Lp) (hl : ps.length < 1000) (k j : Nat) (b : Beh (cds ps) k .en j) (h : MH) : sem_end_of [.tup (ps.map lnW), .int k] h = some (.int j, h) := by
  refine e_def (e_ret ((e_call (n := 3) (e_cons rfl (e_cons rfl (e_cons rfl e_nil))) rfl).trans ?_))
  refine behind_ok ps hl k j "end" (fun x => ?_) (by exact b) h
  rcases cd_cases x with ⟨e, c⟩ | ⟨e, c⟩ | ⟨e, c⟩ | ⟨e, c⟩ | ⟨⟨n1, n2, n3, n4⟩, c⟩
  · rw [e]; decide
  · rw [e]; decide
  · rw [e]; decide
  · rw [e]; decide
  · rw [c]; exact ⟨fun z => (by cases z), fun z => absurd z n4⟩
theorem or_ok (ps : List Lp) (hl : ps.length < 1000) (k j : Nat) (b : Beh (cds ps) k .oo j) (h : MH) : sem_or_of [.tup (ps.map lnW), .int k] h = some (.int j, h) := by
  refine e_def (e_ret ((e_call (n := 3) (e_cons rfl (e_cons rfl (e_cons rfl e_nil))) rfl).trans ?_))
  refine behind_ok ps hl k j "or" (fun x => ?_) (by exact b) h
  rcases cd_cases x with ⟨e, c⟩ | ⟨e, c⟩ | ⟨e, c⟩ | ⟨e, c⟩ | ⟨⟨n1, n2, n3, n4⟩, c⟩
  · rw [e]; decide
  · rw [e]; decide
  · rw [e]; decide
  · rw [e]; decide
  · rw [c]; exact ⟨fun z => (by cases z), fun z => absurd z n3⟩
theorem head_ok (ps : List Lp) (hl : ps.length < 1000) (k j : Nat) (hk : k ≤ ps.length) (b : Ahd (cds ps) k j) (h : MH) : sem_head_of [.tup (ps.map lnW), .int k] h = some (.int j, h) := by
  have hj := b.lt
  refine e_def ?_
  show mSeq _ _ [some (.tup (ps.map lnW)), some (.int k), none, none] h = _
  refine e_seq (e_set (a := .int 0) (h1 := h) rfl) ?_
  show mSeq _ _ [some (.tup (ps.map lnW)), some (.int k), some (.int 0), none] h = _
  have hit : miR3 (mCons (mBin wSub (mVar 1) (mC (.int 1))) (mCons (mUn wNeg (mC (.int 1))) (mCons (mUn wNeg (mC (.int 1))) mNil))) [some (.tup (ps.map lnW)), some (.int k), some (.int 0), none] h = some (rangeS ((k : Int) - 1) (-1) k, none, h) :=
    e_r3d rfl rfl rfl (by omega)
  have lp := loop_res (items := rangeS ((k : Int) - 1) (-1) k) (b := gSet 3) (body := bd_head_of_1)
    (fun n σ h' => ∃ a, σ = [some (.tup (ps.map lnW)), some (.int k), some (.int (lev (cds ps) k - lev (cds ps) (k - n))), a] ∧ h' = h ∧ n + j < k)
    (fun v h' => v = .int j ∧ h' = h) (rangeS ((k : Int) - 1) (-1) k) 0 [some (.tup (ps.map lnW)), some (.int k), some (.int 0), none] h ⟨none, by simp, rfl, by omega⟩ ?_
  · rcases lp with ⟨σ', h', e, a, rfl, rfl, hle⟩ | ⟨v, h', e, rfl, rfl⟩
    · rw [rangeS_len] at hle; omega
    · exact e_seqR (e_for hit e)
  · rintro i w hw σ h' ⟨a, rfl, rfl, hle⟩
    obtain ⟨hi, rfl⟩ := rangeS_get hw
    rw [Nat.zero_add] at *
    have hlt : k - 1 - i < ps.length := by omega
    obtain ⟨p, hp⟩ : ∃ p, ps[k - 1 - i]? = some p := ⟨ps[k - 1 - i], List.getElem?_eq_getElem hlt⟩
    have hs := lev_succ (cds_at hp)
    rw [show k - 1 - i + 1 = k - i by omega] at hs
    refine ⟨[some (.tup (ps.map lnW)), some (.int k), some (.int (lev (cds ps) k - lev (cds ps) (k - i))), some (.int (k - 1 - i : Nat))], ?_, ?_⟩
    · show some _ = _
      rw [show ((k : Int) - 1 + (i : Int) * (-1)) = ((k - 1 - i : Nat) : Int) by omega]; rfl
    have eix : mBin wIx (mVar 0) (mVar 3) [some (.tup (ps.map lnW)), some (.int k), some (.int (lev (cds ps) k - lev (cds ps) (k - i))), some (.int (k - 1 - i : Nat))] h' = some (lnW p, h') := ix_line hp rfl rfl
    have ea : mAug 2 wAddI (mCall 1 sem_level_change (mCons (mBin wIx (mVar 0) (mVar 3)) mNil)) [some (.tup (ps.map lnW)), some (.int k), some (.int (lev (cds ps) k - lev (cds ps) (k - i))), some (.int (k - 1 - i : Nat))] h' = some (.nx [some (.tup (ps.map lnW)), some (.int k), some (.int (lev (cds ps) k - lev (cds ps) (k - (i + 1)))), some (.int (k - 1 - i : Nat))] h') := by
      refine (e_aug (x := .int (lev (cds ps) k - lev (cds ps) (k - i))) rfl ((e_call (n := 1) (e_cons eix e_nil) rfl).trans (change_ok p h')) (b := .int (lev (cds ps) k - lev (cds ps) (k - (i + 1)))) (h2 := h') ?_).trans rfl
      rw [show k - (i + 1) = k - 1 - i by omega, hs]
      exact congrArg (fun z => some (W.int z, h')) (by omega)
    have t1 : mTest (mBin wEq (mVar 2) (mC (.int 1))) [some (.tup (ps.map lnW)), some (.int k), some (.int (lev (cds ps) k - lev (cds ps) (k - (i + 1)))), some (.int (k - 1 - i : Nat))] h' = some (lev (cds ps) k - lev (cds ps) (k - (i + 1)) == 1, h') := e_test ((e_bin rfl rfl).trans (wEq_int _ _ _))
    by_cases hij : k - 1 - i = j
    · refine .inr ⟨.int j, h', ?_, rfl, rfl⟩
      refine e_seq ea (e_iteT (h1 := h') (t1.trans ?_) (e_ret ?_))
      · have : (lev (cds ps) k - lev (cds ps) (k - (i + 1)) == 1) = true := by
          rw [beq_iff_eq, show k - (i + 1) = k - 1 - i by omega, hij]
          have := b.lv
          omega
        rw [this]
      · rw [hij]; rfl
    · refine .inl ⟨[some (.tup (ps.map lnW)), some (.int k), some (.int (lev (cds ps) k - lev (cds ps) (k - (i + 1)))), some (.int (k - 1 - i : Nat))], h', ?_, _, rfl, rfl, by omega⟩
      refine e_seq ea (e_iteF (h1 := h') (t1.trans ?_) e_skip)
      have : (lev (cds ps) k - lev (cds ps) (k - (i + 1)) == 1) = false := by
        rw [beq_eq_false_iff_ne, show k - (i + 1) = k - 1 - i by omega]
        have := b.no (k - 1 - i) (by omega) (by omega)
        omega
      rw [this]
end My

namespace My
open PySem PySem.Spec PyProof.Rows L2 Mi My3
/-! ### the pile, line by line -/
def pile (ls : List Cd) : Nat → Option (List En)
  | 0 => some []
  | k + 1 => (pile ls k).bind fun st => match ls[k]? with | some c => stp k c st | none => some st
theorem pile_succ {ls : List Cd} {k : Nat} {st : List En} {c : Cd} (e : pile ls k = some st) (hc : ls[k]? = some c) : pile ls (k + 1) = stp k c st := by
  simp only [pile, e, hc, Option.bind_some]
theorem pile_none {ls : List Cd} {k : Nat} (e : pile ls k = none) : ∀ d, pile ls (k + d) = none
  | 0 => e
  | d + 1 => by
    show pile ls (k + d + 1) = none
    simp only [pile, pile_none e d, Option.bind_none]
theorem pile_noneL {ls : List Cd} {k n : Nat} (e : pile ls k = none) (h : k ≤ n) : pile ls n = none := by
  have := pile_none e (n - k)
  rw [show k + (n - k) = n by omega] at this; exact this
theorem pile_fits {ls : List Cd} : ∀ {k : Nat} {st : List En}, k ≤ ls.length → pile ls k = some st → Fits ls k 0 st
  | 0, st, _, e => by cases e; exact True.intro
  | k + 1, st, hk, e => by
    have hlt : k < ls.length := by omega
    have hc : ls[k]? = some ls[k] := List.getElem?_eq_getElem hlt
    cases q : pile ls k with
    | none => simp only [pile, q, Option.bind_none] at e; cases e
    | some st0 =>
      rw [pile_succ q hc] at e
      exact stp_fits hc (pile_fits (by omega) q) e
def okB (ps : List Lp) : Bool := match pile (cds ps) ps.length with | some [] => true | _ => false
def nm : Cd → Str
  | .ei => "either"
  | .ag => "again"
  | .oo => "or"
  | .en => "end"
  | .ot => "other"
theorem nm_ei {c : Cd} : (nm c == "either") = decide (c = .ei) := by cases c <;> decide
def kdW (e : En) : W := .str (nm e.kd)
def enW (e : En) : W := if e.kd = .oo then .lst [.str "or", .int e.fs, .int e.md] else .lst [.str (nm e.kd), .int e.fs]
theorem g1 (h : MH) (a : MO) : (h ++ [a])[h.length]? = some a := by simp
theorem s1 (h : MH) (a b : MO) : (h ++ [a]).set h.length b = h ++ [b] := by simp
theorem is_ok (ps : List Lp) (hl : ps.length < 1000) (h : MH) : ∃ L, sem_is_blocks [.tup (ps.map lnW)] h = some (.bl (okB ps), h ++ [.lst L]) := by
  have lp := loop_res (items := ps.map lnW) (b := gSet 2) (body := bd_is_blocks_1)
    (fun n σ h' => n ≤ ps.length ∧ ∃ a st, σ = [some (.tup (ps.map lnW)), some (.ref h.length), a] ∧ h' = h ++ [.lst (st.reverse.map kdW)] ∧ pile (cds ps) n = some st ∧ st.length ≤ n)
    (fun v h' => v = .bl false ∧ (∃ L, h' = h ++ [.lst L]) ∧ pile (cds ps) ps.length = none) (ps.map lnW) 0 [some (.tup (ps.map lnW)), some (.ref h.length), none] (h ++ [.lst []]) ⟨Nat.zero_le _, none, [], rfl, rfl, rfl, Nat.le_refl _⟩ ?_
  · have go : ∀ L v, mLoop (ps.map lnW) none (gSet 2) bd_is_blocks_1 (ps.map lnW) [some (.tup (ps.map lnW)), some (.ref h.length), none] (h ++ [.lst []]) = some (.rt v (h ++ [.lst L])) → sem_is_blocks [.tup (ps.map lnW)] h = some (v, h ++ [.lst L]) := fun L v e => by
      refine e_def ?_
      show mSeq _ _ [some (.tup (ps.map lnW)), none, none] h = _
      refine e_seq (e_set (a := .ref h.length) (h1 := h ++ [MO.lst []]) (by rw [e_fn e_nil]; rfl)) ?_
      exact e_seqR (e_for (items := ps.map lnW) (src := none) (h1 := h ++ [MO.lst []]) rfl e)
    rcases lp with ⟨σ', h', e, hn, a, st, rfl, rfl, hp, _⟩ | ⟨v, h', e, rfl, ⟨L, rfl⟩, hp⟩
    · rw [List.length_map, Nat.zero_add] at hp
      refine ⟨st.reverse.map kdW, e_def ?_⟩
      show mSeq _ _ [some (.tup (ps.map lnW)), none, none] h = _
      refine e_seq (e_set (a := .ref h.length) (h1 := h ++ [MO.lst []]) (by rw [e_fn e_nil]; rfl)) ?_
      refine e_seq (e_for (items := ps.map lnW) (src := none) (h1 := h ++ [MO.lst []]) rfl e) (e_ret ?_)
      refine (e_bin (a := .int (st.length : Nat)) (h1 := h ++ [.lst (st.reverse.map kdW)]) ?_ rfl).trans ?_
      · rw [e_fn (e_cons rfl e_nil)]
        show (lsW (h ++ [.lst (st.reverse.map kdW)]) (.ref h.length)).map _ = _
        rw [lsW_ref (g1 _ _)]
        simp
      · rw [wEq_int]
        unfold okB
        rw [hp]
        cases st with
        | nil => rfl
        | cons x r => simp; omega
    · refine ⟨L, ?_⟩
      have : okB ps = false := by unfold okB; rw [hp]
      rw [this]
      exact go L _ e
  · rintro n w hw σ h' ⟨hn, a, st, rfl, rfl, hpile, hsl⟩
    rw [Nat.zero_add] at *
    rw [List.getElem?_map] at hw
    obtain ⟨p, hp, rfl⟩ := Option.map_eq_some_iff.mp hw
    have hnl : n < ps.length := (List.getElem?_eq_some_iff.mp hp).1
    have hc := cds_at hp
    have hps := pile_succ hpile hc
    refine ⟨[some (.tup (ps.map lnW)), some (.ref h.length), some (lnW p)], rfl, ?_⟩
    have v : mVar 2 [some (.tup (ps.map lnW)), some (.ref h.length), some (lnW p)] (h ++ [.lst (st.reverse.map kdW)]) = some (lnW p, h ++ [.lst (st.reverse.map kdW)]) := rfl
    have vw : mBin wIx (mVar 2) (mC (.int 0)) [some (.tup (ps.map lnW)), some (.ref h.length), some (lnW p)] (h ++ [.lst (st.reverse.map kdW)]) = some (.str p.1, h ++ [.lst (st.reverse.map kdW)]) := (e_bin v rfl).trans (wIx_tup (j := 0) rfl)
    have hsz : (st.reverse.map kdW).length < sizeLine := by simp; exact Nat.lt_of_lt_of_le (show st.length < 1000 by omega) (by decide)
    have put : ∀ e : En, p.1 = nm e.kd → mDrop (mMt "list" wAppend (mVar 1) (mCons (mBin wIx (mVar 2) (mC (.int 0))) mNil)) [some (.tup (ps.map lnW)), some (.ref h.length), some (lnW p)] (h ++ [.lst (st.reverse.map kdW)]) = some (.nx [some (.tup (ps.map lnW)), some (.ref h.length), some (lnW p)] (h ++ [.lst ((e :: st).reverse.map kdW)])) := fun e he => by
      refine (e_append (n := h.length) rfl vw (g1 _ _) (g1 _ _) hsz).trans ?_
      rw [s1, List.reverse_cons, List.map_append, List.map_cons, List.map_nil, he]; rfl
    have lastN : ∀ (e : En) (r : List En), st = e :: r → mBin wIx (mVar 1) (mUn wNeg (mC (.int 1))) [some (.tup (ps.map lnW)), some (.ref h.length), some (lnW p)] (h ++ [.lst (st.reverse.map kdW)]) = some (kdW e, h ++ [.lst (st.reverse.map kdW)]) := fun e r he => by
      refine e_last (n := h.length) (xs := r.reverse.map kdW) rfl rfl ?_
      rw [g1, he, List.reverse_cons, List.map_append]; rfl
    have truN : ∀ (e : En) (r : List En), st = e :: r → mtNot (mTru (mVar 1)) [some (.tup (ps.map lnW)), some (.ref h.length), some (lnW p)] (h ++ [.lst (st.reverse.map kdW)]) = some (false, h ++ [.lst (st.reverse.map kdW)]) := fun e r he => by
      refine e_tnot (t := true) (e_tru (a := .ref h.length) rfl ?_)
      unfold truW
      simp only [g1]
      rw [he]; simp
    have truE : st = [] → mtNot (mTru (mVar 1)) [some (.tup (ps.map lnW)), some (.ref h.length), some (lnW p)] (h ++ [.lst (st.reverse.map kdW)]) = some (true, h ++ [.lst (st.reverse.map kdW)]) := fun he => by
      refine e_tnot (t := false) (e_tru (a := .ref h.length) rfl ?_)
      unfold truW
      simp only [g1]
      rw [he]; rfl
    rcases cd_cases p.1 with ⟨e, c⟩ | ⟨e, c⟩ | ⟨e, c⟩ | ⟨e, c⟩ | ⟨⟨n1, n2, n3, n4⟩, c⟩ <;> rw [c] at hc hps
    · refine .inl ⟨_, _, ?_, by omega, some (lnW p), ⟨.ei, n, 0⟩ :: st, rfl, rfl, hps, by simp; omega⟩
      exact e_iteT (e_torT (word_T v rfl e)) (put ⟨.ei, n, 0⟩ e)
    · refine .inl ⟨_, _, ?_, by omega, some (lnW p), ⟨.ag, n, 0⟩ :: st, rfl, rfl, hps, by simp; omega⟩
      exact e_iteT (e_torF (word_F v rfl (by rw [e]; decide)) (word_T v rfl e)) (put ⟨.ag, n, 0⟩ e)
    · have w1 : (mtOr (mTest (mBin wEq (mBin wIx (mVar 2) (mC (.int 0))) (mC (.str "either")))) (mTest (mBin wEq (mBin wIx (mVar 2) (mC (.int 0))) (mC (.str "again"))))) [some (.tup (ps.map lnW)), some (.ref h.length), some (lnW p)] (h ++ [.lst (st.reverse.map kdW)]) = some (false, h ++ [.lst (st.reverse.map kdW)]) := e_torF (word_F v rfl (by rw [e]; decide)) (word_F v rfl (by rw [e]; decide))
      cases st with
      | nil =>
        exact .inr ⟨.bl false, _, e_iteF w1 (e_iteT (word_T v rfl e) (e_seqR (e_iteT (e_torT (truE rfl)) (e_ret rfl)))), rfl, ⟨_, rfl⟩, pile_noneL hps (by omega)⟩
      | cons x r =>
        have t2 : mTest (mBin wNe (mBin wIx (mVar 1) (mUn wNeg (mC (.int 1)))) (mC (.str "either"))) [some (.tup (ps.map lnW)), some (.ref h.length), some (lnW p)] (h ++ [.lst ((x :: r).reverse.map kdW)]) = some (!decide (x.kd = .ei), h ++ [.lst ((x :: r).reverse.map kdW)]) := by
          refine e_test ((e_bin (lastN x r rfl) rfl).trans ?_)
          unfold kdW
          rw [wNe_str, nm_ei]
        by_cases hx : x.kd = .ei
        · rw [decide_eq_true hx] at t2
          have hps' : pile (cds ps) (n + 1) = some (⟨.oo, x.fs, n⟩ :: r) := by rw [hps]; exact if_pos hx
          refine .inl ⟨_, _, ?_, by omega, some (lnW p), ⟨.oo, x.fs, n⟩ :: r, rfl, rfl, hps', by simp at hsl ⊢; omega⟩
          refine e_iteF w1 (e_iteT (word_T v rfl e) (e_seq (e_iteF (e_torF (truN x r rfl) t2) e_skip) ?_))
          refine (e_putLast (n := h.length) (xs := r.reverse.map kdW) (w := kdW x) (v := .str "or") rfl rfl rfl ?_).trans ?_
          · rw [g1, List.reverse_cons, List.map_append]; rfl
          · rw [s1, List.reverse_cons, List.map_append]; rfl
        · rw [decide_eq_false hx] at t2
          have hps' : pile (cds ps) (n + 1) = none := by rw [hps]; exact if_neg hx
          exact .inr ⟨.bl false, _, e_iteF w1 (e_iteT (word_T v rfl e) (e_seqR (e_iteT (e_torF (truN x r rfl) t2) (e_ret rfl)))), rfl, ⟨_, rfl⟩, pile_noneL hps' (by omega)⟩
    · have w1 : (mtOr (mTest (mBin wEq (mBin wIx (mVar 2) (mC (.int 0))) (mC (.str "either")))) (mTest (mBin wEq (mBin wIx (mVar 2) (mC (.int 0))) (mC (.str "again"))))) [some (.tup (ps.map lnW)), some (.ref h.length), some (lnW p)] (h ++ [.lst (st.reverse.map kdW)]) = some (false, h ++ [.lst (st.reverse.map kdW)]) := e_torF (word_F v rfl (by rw [e]; decide)) (word_F v rfl (by rw [e]; decide))
      have w2 : (mTest (mBin wEq (mBin wIx (mVar 2) (mC (.int 0))) (mC (.str "or")))) [some (.tup (ps.map lnW)), some (.ref h.length), some (lnW p)] (h ++ [.lst (st.reverse.map kdW)]) = some (false, h ++ [.lst (st.reverse.map kdW)]) := word_F v rfl (by rw [e]; decide)
      cases st with
      | nil =>
        exact .inr ⟨.bl false, _, e_iteF w1 (e_iteF w2 (e_iteT (word_T v rfl e) (e_seqR (e_iteT (e_torT (truE rfl)) (e_ret rfl))))), rfl, ⟨_, rfl⟩, pile_noneL hps (by omega)⟩
      | cons x r =>
        have t2 : mTest (mBin wEq (mBin wIx (mVar 1) (mUn wNeg (mC (.int 1)))) (mC (.str "either"))) [some (.tup (ps.map lnW)), some (.ref h.length), some (lnW p)] (h ++ [.lst ((x :: r).reverse.map kdW)]) = some (decide (x.kd = .ei), h ++ [.lst ((x :: r).reverse.map kdW)]) := by
          refine e_test ((e_bin (lastN x r rfl) rfl).trans ?_)
          unfold kdW
          rw [wEq_str, nm_ei]
        by_cases hx : x.kd = .ei
        · rw [decide_eq_true hx] at t2
          have hps' : pile (cds ps) (n + 1) = none := by rw [hps]; exact if_pos hx
          exact .inr ⟨.bl false, _, e_iteF w1 (e_iteF w2 (e_iteT (word_T v rfl e) (e_seqR (e_iteT (e_torF (truN x r rfl) t2) (e_ret rfl))))), rfl, ⟨_, rfl⟩, pile_noneL hps' (by omega)⟩
        · rw [decide_eq_false hx] at t2
          have hps' : pile (cds ps) (n + 1) = some r := by rw [hps]; exact if_neg hx
          refine .inl ⟨_, _, ?_, by omega, some (lnW p), r, rfl, rfl, hps', by simp at hsl; omega⟩
          refine e_iteF w1 (e_iteF w2 (e_iteT (word_T v rfl e) (e_seq (e_iteF (e_torF (truN x r rfl) t2) e_skip) ?_)))
          refine (e_drop (e_pop (n := h.length) (xs := r.reverse.map kdW) (w := kdW x) rfl ?_)).trans ?_
          · rw [g1, List.reverse_cons, List.map_append]; rfl
          · rw [s1]
    · refine .inl ⟨_, _, ?_, by omega, some (lnW p), st, rfl, rfl, hps, by omega⟩
      exact e_iteF (e_torF (word_F v rfl n1) (word_F v rfl n2)) (e_iteF (word_F v rfl n3) (e_iteF (word_F v rfl n4) e_skip))
end My

namespace My
open PySem PySem.Spec PyProof.Rows L2 Mi My3
/-! ### the law's own pile -/
/-- the lines as a list, wherever it stands -/
def LnV (h : MH) (v : W) (ps : List Lp) : Prop := v = .lst (ps.map lnW) ∨ ∃ n, v = .ref n ∧ h[n]? = some (.lst (ps.map lnW))
theorem LnV.ls {h : MH} {v : W} {ps : List Lp} (l : LnV h v ps) : lsW h v = some (ps.map lnW) := by
  rcases l with rfl | ⟨n, rfl, e⟩
  · rfl
  · exact lsW_ref e
theorem LnV.app {h : MH} {v : W} {ps : List Lp} (l : LnV h v ps) (x : MH) : LnV (h ++ x) v ps := by
  rcases l with rfl | ⟨n, rfl, e⟩
  · exact .inl rfl
  · have hn : n < h.length := (List.getElem?_eq_some_iff.mp e).1
    exact .inr ⟨n, rfl, by rw [List.getElem?_append_left hn]; exact e⟩
theorem LnV.tup {h : MH} {v : W} {ps : List Lp} (l : LnV h v ps) : (∀ x, v ≠ .tup x) ∧ ∀ x, v ≠ .str x := by
  rcases l with rfl | ⟨n, rfl, e⟩
  · exact ⟨by intro x; simp, by intro x; simp⟩
  · exact ⟨by intro x; simp, by intro x; simp⟩
theorem LnV.len {h : MH} {v : W} {ps : List Lp} {m : ME} {σ : MSt} (l : LnV h v ps) (e : m σ h = some (v, h)) : mFn wLen (mCons m mNil) σ h = some (.int (ps.length : Nat), h) := by
  rw [e_fn (e_cons e e_nil)]
  rcases l with rfl | ⟨n, rfl, en⟩
  · show some (W.int ((ps.map lnW).length : Nat), h) = _
    rw [List.length_map]
  · show (lsW h (.ref n)).map _ = _
    rw [lsW_ref en]; simp
theorem LnV.ix {h : MH} {v : W} {ps : List Lp} {ma mb : ME} {σ : MSt} {j : Nat} {p : Lp} (l : LnV h v ps) (hp : ps[j]? = some p) (ea : ma σ h = some (v, h)) (eb : mb σ h = some (.int (j : Int), h)) : mBin wIx ma mb σ h = some (lnW p, h) :=
  (e_bin ea eb).trans (wIx_ls l.tup.1 l.tup.2 l.ls (atI_nat (by rw [List.getElem?_map, hp]; rfl)))
theorem h0 (h : MH) (a b : MO) : (h ++ [a, b])[h.length]? = some a := by simp
theorem h1 (h : MH) (a b : MO) : (h ++ [a, b])[h.length + 1]? = some b := by simp
theorem p0 (h : MH) (a b c : MO) : (h ++ [a, b]).set h.length c = h ++ [c, b] := by simp
theorem p1 (h : MH) (a b c : MO) : (h ++ [a, b]).set (h.length + 1) c = h ++ [a, c] := by simp
theorem en_drf (h : MH) (n : Nat) (e : En) : drf h (n + 2) (enW e) = some (enW e) := by
  unfold enW
  split
  · rfl
  · rfl
theorem ref_nil {h : MH} {n : Nat} {L : List W} (hn : h[n]? = some (.lst L)) (hd : ∀ w ∈ L, drf h 39 w = some w) : wEq (.ref n) (.lst []) h = some (.bl L.isEmpty, h) ∧ wNe (.ref n) (.lst []) h = some (.bl (!L.isEmpty), h) := by
  have e1 : drf h 40 (.ref n) = some (.lst L) := by
    unfold drf
    simp only [hn]
    rw [mapO_all h 39 L hd]; rfl
  have e2 : eqW (.lst L) (.lst []) = L.isEmpty := by cases L <;> rfl
  constructor
  · unfold wEq
    rw [e1, Option.bind_some]
    show some (W.bl (eqW (.lst L) (.lst [])), h) = _
    rw [e2]
  · unfold wNe
    rw [e1, Option.bind_some]
    show some (W.bl (!eqW (.lst L) (.lst [])), h) = _
    rw [e2]
theorem en_0 (e : En) (h : MH) : wIx (enW e) (.int 0) h = some (.str (nm e.kd), h) := by
  unfold enW
  split
  · rename_i q; rw [q]; rfl
  · rfl
theorem en_1 (e : En) (h : MH) : wIx (enW e) (.int 1) h = some (.int e.fs, h) := by
  unfold enW
  split
  · rfl
  · rfl
def Dp (ps : List Lp) (n : Nat) (kvs : List (Key × W)) : Prop := kvs.length ≤ n ∧ ∀ j, j < n → (cds ps)[j]? = some .en → ∃ e, Mat (cds ps) j e ∧ valW kvs (.inl (j : Int)) = some (enW e)
theorem dp_keep {ps : List Lp} {n : Nat} {kvs : List (Key × W)} {c : Cd} (d : Dp ps n kvs) (hc : (cds ps)[n]? = some c) (hn : c ≠ .en) : Dp ps (n + 1) kvs := by
  refine ⟨Nat.le_succ_of_le d.1, fun j hj he => ?_⟩
  by_cases z : j = n
  · subst z; rw [hc] at he; cases he; exact absurd rfl hn
  · exact d.2 j (by omega) he
abbrev stP (v : W) (m : Nat) (k w : Option W) : MSt := [some v, some (.ref m), some (.ref (m + 1)), k, w]
theorem partners_ok (ps : List Lp) (hl : ps.length < 1000) (h : MH) (v : W) (lv : LnV h v ps) : ∃ L kvs r, sem__law_partners [v] h = some (r, h ++ [.lst L, .dic kvs]) ∧ ((okB ps = false ∧ r = .non) ∨ (okB ps = true ∧ r = .ref (h.length + 1) ∧ Dp ps ps.length kvs)) := by
  have lp := loop_res (items := rangeW 0 ps.length) (b := gSet 3) (body := bd__law_partners_1)
    (fun n σ h' => n ≤ ps.length ∧ ∃ a b st kvs, σ = stP v h.length a b ∧ h' = h ++ [.lst (st.reverse.map enW), .dic kvs] ∧ pile (cds ps) n = some st ∧ st.length ≤ n ∧ Dp ps n kvs)
    (fun r h' => r = .non ∧ (∃ L kvs, h' = h ++ [.lst L, .dic kvs]) ∧ pile (cds ps) ps.length = none) (rangeW 0 ps.length) 0 (stP v h.length none none) (h ++ [.lst [], .dic []]) ⟨Nat.zero_le _, none, none, [], [], rfl, rfl, rfl, Nat.le_refl _, Nat.le_refl _, fun j hj => by omega⟩ ?_
  · have start : ∀ r, (mSeq (mFor (miR1 (mCons (mFn wLen (mCons (mVar 0) mNil)) mNil)) (gSet 3) bd__law_partners_1) (mSeq (mIte (mTest (mBin wNe (mVar 1) (mFn wLst mNil))) (mRet (mC .non)) mSkip) (mRet (mVar 2)))) (stP v h.length none none) (h ++ [.lst [], .dic []]) = some (.rt r.1 r.2) → sem__law_partners [v] h = some r := fun r e => by
      refine e_def ?_
      show mSeq _ _ [some v, none, none, none, none] h = _
      refine e_seq (e_set (a := .ref h.length) (h1 := h ++ [MO.lst []]) (by rw [e_fn e_nil]; rfl)) ?_
      refine e_seq (e_set (a := .ref (h.length + 1)) (h1 := h ++ [MO.lst [], MO.dic []]) ?_) e
      show some (W.ref (h ++ [MO.lst []]).length, (h ++ [MO.lst []]) ++ [MO.dic []]) = _
      simp
    have hit : miR1 (mCons (mFn wLen (mCons (mVar 0) mNil)) mNil) (stP v h.length none none) (h ++ [.lst [], .dic []]) = some (rangeW 0 ps.length, none, h ++ [.lst [], .dic []]) :=
      e_r1 (j := (ps.length : Int)) ((lv.app _).len rfl) (by omega) (by omega)
    rcases lp with ⟨σ', h', e, hn, a, b, st, kvs, rfl, rfl, hp, _, hd⟩ | ⟨r, h', e, rfl, ⟨L, kvs, rfl⟩, hp⟩
    · rw [rangeW_len, Nat.zero_add] at hp hd
      have t := ref_nil (h0 h (.lst (st.reverse.map enW)) (.dic kvs)) fun w hw => by
        obtain ⟨x, _, rfl⟩ := List.mem_map.mp hw
        exact en_drf _ 37 x
      have t' : mTest (mBin wNe (mVar 1) (mFn wLst mNil)) (stP v h.length a b) (h ++ [.lst (st.reverse.map enW), .dic kvs]) = some (!(st.reverse.map enW).isEmpty, h ++ [.lst (st.reverse.map enW), .dic kvs]) := e_test ((e_bin rfl (e_lst e_nil (Nat.zero_le _))).trans t.2)
      cases st with
      | nil =>
        refine ⟨_, _, _, start (_, _) (e_seq (e_for hit e) (e_seq (e_iteF t' e_skip) (e_ret rfl))), .inr ⟨?_, rfl, hd⟩⟩
        unfold okB; rw [hp]
      | cons x r =>
        have : (!((x :: r).reverse.map enW).isEmpty) = true := by simp
        rw [this] at t'
        refine ⟨_, _, _, start (_, _) (e_seq (e_for hit e) (e_seqR (e_iteT t' (e_ret rfl)))), .inl ⟨?_, rfl⟩⟩
        unfold okB; rw [hp]
    · refine ⟨_, _, _, start (_, _) (e_seqR (e_for hit e)), .inl ⟨?_, rfl⟩⟩
      unfold okB; rw [hp]
  · rintro n w hw σ h' ⟨hn, a, b, st, kvs, rfl, rfl, hpile, hsl, hd⟩
    rw [Nat.zero_add] at *
    obtain ⟨hnl, rfl⟩ := rangeW_get hw
    rw [Int.zero_add]
    obtain ⟨p, hp⟩ : ∃ p, ps[n]? = some p := ⟨ps[n], List.getElem?_eq_getElem hnl⟩
    have hc := cds_at hp
    have hps := pile_succ hpile hc
    have hfit := pile_fits (by rw [cds_len]; omega) hpile
    refine ⟨stP v h.length (some (.int (n : Int))) b, rfl, ?_⟩
    -- the word
    have sw : mSet 4 (mBin wIx (mBin wIx (mVar 0) (mVar 3)) (mC (.int 0))) (stP v h.length (some (.int (n : Int))) b) (h ++ [.lst (st.reverse.map enW), .dic kvs]) = some (.nx (stP v h.length (some (.int (n : Int))) (some (.str p.1))) (h ++ [.lst (st.reverse.map enW), .dic kvs])) :=
      e_set ((e_bin ((lv.app _).ix hp rfl rfl) rfl).trans (wIx_tup (j := 0) rfl))
    have tst : ∀ y : Str, mTest (mBin wEq (mVar 4) (mC (.str y))) (stP v h.length (some (.int (n : Int))) (some (.str p.1))) (h ++ [.lst (st.reverse.map enW), .dic kvs]) = some (p.1 == y, h ++ [.lst (st.reverse.map enW), .dic kvs]) := fun y => e_test ((e_bin rfl rfl).trans (wEq_str _ _ _))
    have tT : ∀ y : Str, p.1 = y → mTest (mBin wEq (mVar 4) (mC (.str y))) (stP v h.length (some (.int (n : Int))) (some (.str p.1))) (h ++ [.lst (st.reverse.map enW), .dic kvs]) = some (true, h ++ [.lst (st.reverse.map enW), .dic kvs]) := fun y hy => by rw [tst, sq hy]
    have tF : ∀ y : Str, p.1 ≠ y → mTest (mBin wEq (mVar 4) (mC (.str y))) (stP v h.length (some (.int (n : Int))) (some (.str p.1))) (h ++ [.lst (st.reverse.map enW), .dic kvs]) = some (false, h ++ [.lst (st.reverse.map enW), .dic kvs]) := fun y hy => by rw [tst, sn hy]
    have hsz : (st.reverse.map enW).length < sizeLine := by simp; exact Nat.lt_of_lt_of_le (show st.length < 1000 by omega) (by decide)
    have hkz : kvs.length < sizeLine := Nat.lt_of_lt_of_le (show kvs.length < 1000 by have := hd.1; omega) (by decide)
    have put : ∀ e : En, enW e = .lst [.str p.1, .int (n : Int)] → mDrop (mMt "list" wAppend (mVar 1) (mCons (mFn wLst (mCons (mVar 4) (mCons (mVar 3) mNil))) mNil)) (stP v h.length (some (.int (n : Int))) (some (.str p.1))) (h ++ [.lst (st.reverse.map enW), .dic kvs]) = some (.nx (stP v h.length (some (.int (n : Int))) (some (.str p.1))) (h ++ [.lst ((e :: st).reverse.map enW), .dic kvs])) := fun e he => by
      refine (e_append (n := h.length) (w := .lst [.str p.1, .int (n : Int)]) rfl (e_lst (e_cons rfl (e_cons rfl e_nil)) (by show 2 ≤ sizeLine; decide)) (h0 _ _ _) (h0 _ _ _) hsz).trans ?_
      rw [p0, List.reverse_cons, List.map_append, List.map_cons, List.map_nil, he]
    have nilT : mTest (mBin wEq (mVar 1) (mFn wLst mNil)) (stP v h.length (some (.int (n : Int))) (some (.str p.1))) (h ++ [.lst (st.reverse.map enW), .dic kvs]) = some ((st.reverse.map enW).isEmpty, h ++ [.lst (st.reverse.map enW), .dic kvs]) := by
      refine e_test ((e_bin rfl (e_lst e_nil (Nat.zero_le _))).trans (ref_nil (h0 _ _ _) fun w hw => ?_).1)
      obtain ⟨x, _, rfl⟩ := List.mem_map.mp hw
      exact en_drf _ 37 x
    rcases cd_cases p.1 with ⟨e, c⟩ | ⟨e, c⟩ | ⟨e, c⟩ | ⟨e, c⟩ | ⟨⟨n1, n2, n3, n4⟩, c⟩ <;> rw [c] at hc hps
    · refine .inl ⟨_, _, e_seq sw (e_iteT (e_torT (tT _ e)) (put ⟨.ei, n, 0⟩ (by rw [e]; rfl))), by omega, _, _, ⟨.ei, n, 0⟩ :: st, kvs, rfl, rfl, hps, by simp; omega, dp_keep hd hc (by decide)⟩
    · refine .inl ⟨_, _, e_seq sw (e_iteT (e_torF (tF _ (by rw [e]; decide)) (tT _ e)) (put ⟨.ag, n, 0⟩ (by rw [e]; rfl))), by omega, _, _, ⟨.ag, n, 0⟩ :: st, kvs, rfl, rfl, hps, by simp; omega, dp_keep hd hc (by decide)⟩
    · have w1 := e_torF (tF "either" (by rw [e]; decide)) (tF "again" (by rw [e]; decide))
      cases st with
      | nil =>
        exact .inr ⟨.non, _, e_seq sw (e_iteF w1 (e_iteT (tT _ e) (e_seqR (e_iteT (e_torT nilT) (e_ret rfl))))), rfl, ⟨_, _, rfl⟩, pile_noneL hps (by omega)⟩
      | cons x r =>
        have hlast : (h ++ [MO.lst ((x :: r).reverse.map enW), .dic kvs])[h.length]? = some (.lst (r.reverse.map enW ++ [enW x])) := by rw [h0, List.reverse_cons, List.map_append]; rfl
        have el : mBin wIx (mVar 1) (mUn wNeg (mC (.int 1))) (stP v h.length (some (.int (n : Int))) (some (.str p.1))) (h ++ [.lst ((x :: r).reverse.map enW), .dic kvs]) = some (enW x, h ++ [.lst ((x :: r).reverse.map enW), .dic kvs]) := e_last (n := h.length) rfl rfl hlast
        have t2 : mTest (mBin wNe (mBin wIx (mBin wIx (mVar 1) (mUn wNeg (mC (.int 1)))) (mC (.int 0))) (mC (.str "either"))) (stP v h.length (some (.int (n : Int))) (some (.str p.1))) (h ++ [.lst ((x :: r).reverse.map enW), .dic kvs]) = some (!decide (x.kd = .ei), h ++ [.lst ((x :: r).reverse.map enW), .dic kvs]) := by
          refine e_test ((e_bin ((e_bin el rfl).trans (en_0 x _)) rfl).trans ?_)
          rw [wNe_str, nm_ei]
        have nilF : mTest (mBin wEq (mVar 1) (mFn wLst mNil)) (stP v h.length (some (.int (n : Int))) (some (.str p.1))) (h ++ [.lst ((x :: r).reverse.map enW), .dic kvs]) = some (false, h ++ [.lst ((x :: r).reverse.map enW), .dic kvs]) := by rw [nilT]; simp
        by_cases hx : x.kd = .ei
        · rw [decide_eq_true hx] at t2
          have hps' : pile (cds ps) (n + 1) = some (⟨.oo, x.fs, n⟩ :: r) := by rw [hps]; exact if_pos hx
          have f1 : mPutD (mVar 2) (mBin wIx (mBin wIx (mVar 1) (mUn wNeg (mC (.int 1)))) (mC (.int 1))) (mVar 3) (stP v h.length (some (.int (n : Int))) (some (.str p.1))) (h ++ [.lst ((x :: r).reverse.map enW), .dic kvs]) = some (.nx (stP v h.length (some (.int (n : Int))) (some (.str p.1))) (h ++ [.lst ((x :: r).reverse.map enW), .dic (putW kvs (.inl (x.fs : Int)) (.int (n : Int)))])) := by
            refine (e_putD (n := h.length + 1) (i := .int (x.fs : Int)) (k := .inl (x.fs : Int)) rfl rfl ((e_bin el rfl).trans (en_1 x _)) rfl (h1 _ _ _) hkz).trans ?_
            rw [p1]
          have hlast' : (h ++ [MO.lst ((x :: r).reverse.map enW), .dic (putW kvs (.inl (x.fs : Int)) (.int (n : Int)))])[h.length]? = some (.lst (r.reverse.map enW ++ [enW x])) := by rw [h0, List.reverse_cons, List.map_append]; rfl
          have el' : mBin wIx (mVar 1) (mUn wNeg (mC (.int 1))) (stP v h.length (some (.int (n : Int))) (some (.str p.1))) (h ++ [.lst ((x :: r).reverse.map enW), .dic (putW kvs (.inl (x.fs : Int)) (.int (n : Int)))]) = some (enW x, h ++ [.lst ((x :: r).reverse.map enW), .dic (putW kvs (.inl (x.fs : Int)) (.int (n : Int)))]) := e_last (n := h.length) rfl rfl hlast'
          have f2 : mPut (mVar 1) (mUn wNeg (mC (.int 1))) (mFn wLst (mCons (mC (.str "or")) (mCons (mBin wIx (mBin wIx (mVar 1) (mUn wNeg (mC (.int 1)))) (mC (.int 1))) (mCons (mVar 3) mNil)))) (stP v h.length (some (.int (n : Int))) (some (.str p.1))) (h ++ [.lst ((x :: r).reverse.map enW), .dic (putW kvs (.inl (x.fs : Int)) (.int (n : Int)))]) = some (.nx (stP v h.length (some (.int (n : Int))) (some (.str p.1))) (h ++ [.lst ((⟨.oo, x.fs, n⟩ :: r : List En).reverse.map enW), .dic (putW kvs (.inl (x.fs : Int)) (.int (n : Int)))])) := by
            refine (e_putLast (n := h.length) (v := .lst [.str "or", .int (x.fs : Int), .int (n : Int)]) (e_lst (e_cons rfl (e_cons ((e_bin el' rfl).trans (en_1 x _)) (e_cons rfl e_nil))) (by show 3 ≤ sizeLine; decide)) rfl rfl hlast').trans ?_
            rw [p0, List.reverse_cons, List.map_append]; rfl
          refine .inl ⟨_, _, e_seq sw (e_iteF w1 (e_iteT (tT _ e) (e_seq (e_iteF (e_torF nilF t2) e_skip) (e_seq f1 f2)))), by omega, _, _, ⟨.oo, x.fs, n⟩ :: r, _, rfl, rfl, hps', by simp at hsl ⊢; omega, ?_⟩
          have d1 := dp_keep hd hc (by decide)
          refine ⟨by have := putW_len kvs (.inl (x.fs : Int)) (.int (n : Int)); have := hd.1; omega, fun j hj he => ?_⟩
          obtain ⟨e', m', val⟩ := d1.2 j hj he
          refine ⟨e', m', ?_⟩
          rw [valW_put_ne _ _ ?_]
          · exact val
          · intro q
            have q' : (j : Int) = (x.fs : Int) := Sum.inl.inj q
            have q2 : j = x.fs := by omega
            rcases hfit.1.at_ with z | z <;> rw [← q2, he] at z <;> cases z
        · rw [decide_eq_false hx] at t2
          have hps' : pile (cds ps) (n + 1) = none := by rw [hps]; exact if_neg hx
          exact .inr ⟨.non, _, e_seq sw (e_iteF w1 (e_iteT (tT _ e) (e_seqR (e_iteT (e_torF nilF t2) (e_ret rfl))))), rfl, ⟨_, _, rfl⟩, pile_noneL hps' (by omega)⟩
    · have w1 := e_torF (tF "either" (by rw [e]; decide)) (tF "again" (by rw [e]; decide))
      have w2 := tF "or" (by rw [e]; decide)
      cases st with
      | nil =>
        exact .inr ⟨.non, _, e_seq sw (e_iteF w1 (e_iteF w2 (e_iteT (tT _ e) (e_seqR (e_iteT (e_torT nilT) (e_ret rfl)))))), rfl, ⟨_, _, rfl⟩, pile_noneL hps (by omega)⟩
      | cons x r =>
        have hlast : (h ++ [MO.lst ((x :: r).reverse.map enW), .dic kvs])[h.length]? = some (.lst (r.reverse.map enW ++ [enW x])) := by rw [h0, List.reverse_cons, List.map_append]; rfl
        have el : mBin wIx (mVar 1) (mUn wNeg (mC (.int 1))) (stP v h.length (some (.int (n : Int))) (some (.str p.1))) (h ++ [.lst ((x :: r).reverse.map enW), .dic kvs]) = some (enW x, h ++ [.lst ((x :: r).reverse.map enW), .dic kvs]) := e_last (n := h.length) rfl rfl hlast
        have t2 : mTest (mBin wEq (mBin wIx (mBin wIx (mVar 1) (mUn wNeg (mC (.int 1)))) (mC (.int 0))) (mC (.str "either"))) (stP v h.length (some (.int (n : Int))) (some (.str p.1))) (h ++ [.lst ((x :: r).reverse.map enW), .dic kvs]) = some (decide (x.kd = .ei), h ++ [.lst ((x :: r).reverse.map enW), .dic kvs]) := by
          refine e_test ((e_bin ((e_bin el rfl).trans (en_0 x _)) rfl).trans ?_)
          rw [wEq_str, nm_ei]
        have nilF : mTest (mBin wEq (mVar 1) (mFn wLst mNil)) (stP v h.length (some (.int (n : Int))) (some (.str p.1))) (h ++ [.lst ((x :: r).reverse.map enW), .dic kvs]) = some (false, h ++ [.lst ((x :: r).reverse.map enW), .dic kvs]) := by rw [nilT]; simp
        by_cases hx : x.kd = .ei
        · rw [decide_eq_true hx] at t2
          have hps' : pile (cds ps) (n + 1) = none := by rw [hps]; exact if_pos hx
          exact .inr ⟨.non, _, e_seq sw (e_iteF w1 (e_iteF w2 (e_iteT (tT _ e) (e_seqR (e_iteT (e_torF nilF t2) (e_ret rfl)))))), rfl, ⟨_, _, rfl⟩, pile_noneL hps' (by omega)⟩
        · rw [decide_eq_false hx] at t2
          have hst : stp n .en (x :: r) = some r := if_neg hx
          have hps' : pile (cds ps) (n + 1) = some r := by rw [hps]; exact hst
          have f1 : mPutD (mVar 2) (mVar 3) (mMt "list" wPop (mVar 1) mNil) (stP v h.length (some (.int (n : Int))) (some (.str p.1))) (h ++ [.lst ((x :: r).reverse.map enW), .dic kvs]) = some (.nx (stP v h.length (some (.int (n : Int))) (some (.str p.1))) (h ++ [.lst (r.reverse.map enW), .dic (putW kvs (.inl (n : Int)) (enW x))])) := by
            refine (e_putD (n := h.length + 1) (v := enW x) (i := .int (n : Int)) (k := .inl (n : Int)) (h1 := h ++ [MO.lst (r.reverse.map enW), MO.dic kvs]) ((e_pop (n := h.length) rfl hlast).trans ?_) rfl rfl rfl (h1 _ _ _) hkz).trans ?_
            · rw [p0]
            · rw [p1]
          refine .inl ⟨_, _, e_seq sw (e_iteF w1 (e_iteF w2 (e_iteT (tT _ e) (e_seq (e_iteF (e_torF nilF t2) e_skip) f1)))), by omega, _, _, r, _, rfl, rfl, hps', by simp at hsl; omega, ?_⟩
          refine ⟨by have := putW_len kvs (.inl (n : Int)) (enW x); have := hd.1; omega, fun j hj he => ?_⟩
          by_cases hjn : j = n
          · subst hjn
            exact ⟨x, stp_mat he hfit hst, valW_put_same _ _ _⟩
          · obtain ⟨e', m', val⟩ := hd.2 j (by omega) he
            refine ⟨e', m', ?_⟩
            rw [valW_put_ne _ _ ?_]
            · exact val
            · intro q
              have q' : (j : Int) = (n : Int) := Sum.inl.inj q
              omega
    · refine .inl ⟨_, _, e_seq sw (e_iteF (e_torF (tF _ n1) (tF _ n2)) (e_iteF (tF _ n3) (e_iteF (tF _ n4) e_skip))), by omega, _, _, st, kvs, rfl, rfl, hps, by omega, dp_keep hd hc (by decide)⟩
end My

namespace My
open PySem PySem.Spec PyProof.Rows L2 Mi My3
/-! ### the lines that the law makes -/
theorem cell_ok (ns : List Int) (k : Nat) (hk : k ≤ 40) (h : MH) : ∃ c : Int, sem__law_cell [.frz (ns.map W.int), .int k] h = some (.int c, h) := by
  have el : (mFn wLen (mCons (mVar 0) mNil)) [some (.frz (ns.map W.int)), some (.int k)] h = some (.int (ns.length : Nat), h) := by
    rw [e_fn (e_cons rfl e_nil)]
    show some (W.int ((ns.map W.int).length : Nat), h) = _
    rw [List.length_map]
  have et : (mTest (mBin wLt (mVar 1) (mFn wLen (mCons (mVar 0) mNil)))) [some (.frz (ns.map W.int)), some (.int k)] h = some (decide ((k : Int) < (ns.length : Nat)), h) := e_test (by rw [e_bin rfl el]; rfl)
  by_cases hc : (k : Int) < (ns.length : Nat)
  · rw [decide_eq_true hc] at et
    obtain ⟨x, hx, ex⟩ := atI_ex (xs := ns.map W.int) (i := (k : Int)) (by omega) (by rw [List.length_map]; exact hc)
    obtain ⟨n, _, rfl⟩ := List.mem_map.mp hx
    refine ⟨n % 10 ^ 40, e_def ?_⟩
    show mSeq _ _ [some (.frz (ns.map W.int)), some (.int k)] h = _
    refine e_seqR (e_iteT et (e_ret ?_))
    have e1 : mBin wIx (mVar 0) (mVar 1) [some (.frz (ns.map W.int)), some (.int k)] h = some (.int n, h) := by
      rw [e_bin rfl rfl]
      show ((atI (ns.map W.int) (k : Int)).map fun w => (w, h)) = _
      rw [ex]; rfl
    have e2 : mBin wPow (mC (.int 10)) (mC (.int 40)) [some (.frz (ns.map W.int)), some (.int k)] h = some (.int (10 ^ 40), h) := by
      exact (e_bin rfl rfl).trans (wPow_eq (by decide))
    exact (e_bin e1 e2).trans (wMod_eq (by decide))
  · rw [decide_eq_false hc] at et
    refine ⟨((k : Int) + 7) * 15485863 * ((k : Int) + 1) / 3, e_def ?_⟩
    show mSeq _ _ [some (.frz (ns.map W.int)), some (.int k)] h = _
    refine e_seq (e_iteF et e_skip) (e_ret ?_)
    have m1 : mBin wMul (mBin wAdd (mVar 1) (mC (.int 7))) (mC (.int 15485863)) [some (.frz (ns.map W.int)), some (.int k)] h = some (.int (((k : Int) + 7) * 15485863), h) := (e_bin rfl rfl).trans (wMul_eq (.inr (by decide)))
    have m2 : mBin wMul (mBin wMul (mBin wAdd (mVar 1) (mC (.int 7))) (mC (.int 15485863))) (mBin wAdd (mVar 1) (mC (.int 1))) [some (.frz (ns.map W.int)), some (.int k)] h = some (.int (((k : Int) + 7) * 15485863 * ((k : Int) + 1)), h) := (e_bin m1 rfl).trans (wMul_eq (.inr (by constructor <;> omega)))
    exact (e_bin m2 rfl).trans (wDiv_eq (by decide))
/-- one of some lines -/
theorem pick {ps : List Lp} {m n : ME} {σ : MSt} {h : MH} {i : Int} (e1 : m σ h = some (.lst (ps.map lnW), h)) (e2 : n σ h = some (.int i, h)) (h0 : 0 ≤ i) (h1 : i < ps.length) : ∃ p, mBin wIx m n σ h = some (lnW p, h) := by
  obtain ⟨x, hx, ex⟩ := atI_ex (xs := ps.map lnW) (i := i) h0 (by rw [List.length_map]; exact h1)
  obtain ⟨p, _, rfl⟩ := List.mem_map.mp hx
  exact ⟨p, e_ix e1 e2 ex⟩
theorem some_ok (c : Int) (h : MH) : ∃ p, sem__law_some [.int c] h = some (lnW p, h) := by
  obtain ⟨p, e⟩ := pick (ps := [("either", []), ("or", []), ("again", []), ("end", []), ("tell", [.str "a"]), ("do", [.str "ora"])]) (m := mFn wLst (mCons (mFn wTup (mCons (mC (.str "either")) mNil)) (mCons (mFn wTup (mCons (mC (.str "or")) mNil)) (mCons (mFn wTup (mCons (mC (.str "again")) mNil)) (mCons (mFn wTup (mCons (mC (.str "end")) mNil)) (mCons (mFn wTup (mCons (mC (.str "tell")) (mCons (mC (.str "a")) mNil))) (mCons (mFn wTup (mCons (mC (.str "do")) (mCons (mC (.str "ora")) mNil))) mNil))))))) (n := mBin wMod (mVar 0) (mC (.int 6))) (σ := [some (.int c)]) (h := h) (i := c % 6) rfl ((e_bin rfl rfl).trans (wMod_eq (by decide))) (Int.emod_nonneg _ (by decide)) (Int.emod_lt_of_pos _ (by decide))
  exact ⟨p, e_def (e_ret e)⟩
abbrev stR (ns : List Int) (m : Nat) (a b c : Option W) : MSt := [some (.frz (ns.map W.int)), some (.int (m : Int)), some (.ref 0), some (.ref 1), a, b, c]
abbrev hpR (ps : List Lp) (ks : List Str) : MH := [.lst (ps.map lnW), .lst (ks.map W.str)]
theorem sz {n : Nat} (h : n < 1000) : n < sizeLine := Nat.lt_of_lt_of_le h (by decide)
/-- lines.append(..) -/
theorem addL {ns : List Int} {m : Nat} {a b c : Option W} {ps : List Lp} {ks : List Str} {me : ME} {p : Lp} (e : me (stR ns m a b c) (hpR ps ks) = some (lnW p, hpR ps ks)) (hl : ps.length < 1000) : mDrop (mMt "list" wAppend (mVar 2) (mCons me mNil)) (stR ns m a b c) (hpR ps ks) = some (.nx (stR ns m a b c) (hpR (ps ++ [p]) ks)) := by
  refine (e_append (n := 0) (xs := ps.map lnW) rfl e rfl rfl (by rw [List.length_map]; exact sz hl)).trans ?_
  show some (MF.nx _ [MO.lst (ps.map lnW ++ [lnW p]), _]) = _
  unfold hpR
  rw [List.map_append]; rfl
theorem addW {ns : List Int} {m : Nat} {a b c : Option W} {ps : List Lp} {ks : List Str} {me : ME} {x : Str} (e : me (stR ns m a b c) (hpR ps ks) = some (.str x, hpR ps ks)) (hl : ks.length < 1000) : mDrop (mMt "list" wAppend (mVar 3) (mCons me mNil)) (stR ns m a b c) (hpR ps ks) = some (.nx (stR ns m a b c) (hpR ps (ks ++ [x]))) := by
  refine (e_append (n := 1) (xs := ks.map W.str) rfl e rfl rfl (by rw [List.length_map]; exact sz hl)).trans ?_
  show some (MF.nx _ [_, MO.lst (ks.map W.str ++ [.str x])]) = _
  unfold hpR
  rw [List.map_append]; rfl
theorem popW {ns : List Int} {m : Nat} {a b c : Option W} {ps : List Lp} {ks : List Str} {x : Str} : mMt "list" wPop (mVar 3) mNil (stR ns m a b c) (hpR ps (ks ++ [x])) = some (.str x, hpR ps ks) := by
  refine (e_pop (n := 1) (xs := ks.map W.str) (w := .str x) rfl ?_).trans rfl
  show some (MO.lst ((ks ++ [x]).map W.str)) = _
  rw [List.map_append]; rfl
theorem nilW {ns : List Int} {m : Nat} {a b c : Option W} {ps : List Lp} {ks : List Str} : mTest (mBin wNe (mVar 3) (mFn wLst mNil)) (stR ns m a b c) (hpR ps ks) = some (!ks.isEmpty, hpR ps ks) := by
  refine e_test ((e_bin rfl (e_lst e_nil (Nat.zero_le _))).trans ((ref_nil (n := 1) (L := ks.map W.str) rfl fun w hw => ?_).2.trans ?_))
  · obtain ⟨x, _, rfl⟩ := List.mem_map.mp hw
    rfl
  · cases ks <;> rfl
theorem snoc_of {α : Type} : ∀ (l : List α), l ≠ [] → ∃ r x, l = r ++ [x] := fun l h => ⟨l.dropLast, l.getLast h, (List.dropLast_concat_getLast h).symm⟩
abbrev orL : Lp := ("or", [])
abbrev endL : Lp := ("end", [])
abbrev orS : Str := "or"
theorem while_ok (ns : List Int) (m : Nat) (a b c : Option W) : ∀ (n : Nat) (ks : List Str) (ps : List Lp) (f : Nat), ks.length = n → n < f → ps.length + 2 * n < 900 → ∃ qs, qs.length ≤ ps.length + 2 * n ∧ mWhileN (mTest (mBin wNe (mVar 3) (mFn wLst mNil))) bd__law_right_2 f (stR ns m a b c) (hpR ps ks) = some (.nx (stR ns m a b c) (hpR qs []))
  | 0, ks, ps, f + 1, hk, _, _ => by
    have : ks = [] := List.length_eq_zero_iff.mp hk
    subst this
    refine ⟨ps, by omega, ?_⟩
    rw [mWhileN, nilW]; rfl
  | n + 1, ks, ps, f + 1, hk, hf, hl => by
    obtain ⟨r, x, rfl⟩ := snoc_of ks (fun z => by subst z; simp at hk)
    have hr : r.length = n := by simpa using hk
    have t : mTest (mBin wNe (mVar 3) (mFn wLst mNil)) (stR ns m a b c) (hpR ps (r ++ [x])) = some (true, hpR ps (r ++ [x])) := by rw [nilW]; simp
    have t2 : mTest (mBin wEq (mMt "list" wPop (mVar 3) mNil) (mC (.str "either"))) (stR ns m a b c) (hpR ps (r ++ [x])) = some (x == "either", hpR ps r) := e_test ((e_bin popW rfl).trans (wEq_str _ _ _))
    have body : ∃ qs : List Lp, qs.length ≤ ps.length + 2 ∧ bd__law_right_2 (stR ns m a b c) (hpR ps (r ++ [x])) = some (.nx (stR ns m a b c) (hpR qs r)) := by
      by_cases hx : x = "either"
      · refine ⟨(ps ++ [orL]) ++ [endL], by simp, e_seq (e_iteT (t2.trans (by rw [sq hx])) (addL (p := orL) rfl (by omega))) (addL (p := endL) rfl (by simp; omega))⟩
      · refine ⟨ps ++ [endL], by simp, e_seq (e_iteF (t2.trans (by rw [sn hx])) e_skip) (addL (p := endL) rfl (by omega))⟩
    obtain ⟨qs, hq, eb⟩ := body
    obtain ⟨zs, hz, ez⟩ := while_ok ns m a b c n r qs f hr (by omega) (by omega)
    refine ⟨zs, by omega, ?_⟩
    rw [mWhileN, t, Option.bind_some]
    simp only
    rw [eb, Option.bind_some]
    simp only
    exact ez
theorem right_ok (ns : List Int) (m : Nat) (hm : m ≤ 40) : ∃ ps ks, ps.length < 200 ∧ sem__law_right [.frz (ns.map W.int), .int (m : Int)] [] = some (.ref 0, hpR ps ks) := by
  have lp := loop_count (items := rangeW 0 m) (b := gSet 4) (body := bd__law_right_1)
    (fun j σ hh => ∃ a b c ps ks, σ = stR ns m a b c ∧ hh = hpR ps ks ∧ ps.length ≤ j ∧ ks.length ≤ 8) (rangeW 0 m) 0 (stR ns m none none none) (hpR [] []) ⟨none, none, none, [], [], rfl, rfl, Nat.le_refl _, Nat.zero_le _⟩ ?_
  · obtain ⟨σ', h', e1, a, b, c, ps, ks, rfl, rfl, hp, hk⟩ := lp
    rw [rangeW_len, Nat.zero_add] at hp
    obtain ⟨qs, hq, ew⟩ := while_ok ns m a b c ks.length ks ps 1000000 rfl (by omega) (by omega)
    refine ⟨qs, [], by omega, e_def ?_⟩
    show mSeq _ _ [some (.frz (ns.map W.int)), some (.int (m : Int)), none, none, none, none, none] [] = _
    refine e_seq (σ1 := [some (.frz (ns.map W.int)), some (.int (m : Int)), some (.ref 0), none, none, none, none]) (h1 := [.lst []]) rfl ?_
    refine e_seq (σ1 := stR ns m none none none) (h1 := hpR [] []) rfl ?_
    refine e_seq (e_for (e_r1 (j := (m : Int)) rfl (by omega) (by omega)) ?_) (e_seq ew (e_ret rfl))
    rw [Int.toNat_natCast]
    exact e1
  · rintro j w hw σ hh ⟨a, b, c, ps, ks, rfl, rfl, hp, hk⟩
    obtain ⟨hj, rfl⟩ := rangeW_get hw
    rw [Nat.zero_add] at *
    rw [Int.zero_add]
    obtain ⟨ce, ec⟩ := cell_ok ns (1 + j % 20) (by omega) (hpR ps ks)
    have ek : mBin wAdd (mC (.int 1)) (mBin wMod (mVar 4) (mC (.int 20))) (stR ns m (some (.int (j : Int))) b c) (hpR ps ks) = some (.int ((1 + j % 20 : Nat) : Int), hpR ps ks) := by
      refine (e_bin rfl ((e_bin rfl rfl).trans (wMod_eq (by decide)))).trans ?_
      show some (W.int (1 + (j : Int) % 20), _) = _
      rw [show (1 : Int) + (j : Int) % 20 = ((1 + j % 20 : Nat) : Int) by omega]
    have ed : mBin wAdd (mC (.int 1)) (mBin wMul (mBin wDiv (mVar 4) (mC (.int 20))) (mC (.int 7))) (stR ns m (some (.int (j : Int))) b c) (hpR ps ks) = some (.int (1 + (j : Int) / 20 * 7), hpR ps ks) := by
      refine (e_bin rfl ((e_bin ((e_bin rfl rfl).trans (wDiv_eq (by decide))) rfl).trans (wMul_eq (.inr (by decide))))).trans ?_
      rfl
    refine ⟨stR ns m (some (.int (j : Int))) b c, ?_⟩
    have s5 : mSet 5 (mBin wDiv (mCall 2 sem__law_cell (mCons (mVar 0) (mCons (mBin wAdd (mC (.int 1)) (mBin wMod (mVar 4) (mC (.int 20)))) mNil))) (mBin wAdd (mC (.int 1)) (mBin wMul (mBin wDiv (mVar 4) (mC (.int 20))) (mC (.int 7))))) (stR ns m (some (.int (j : Int))) b c) (hpR ps ks) = some (.nx (stR ns m (some (.int (j : Int))) (some (.int (ce / (1 + (j : Int) / 20 * 7)))) c) (hpR ps ks)) :=
      e_set ((e_bin ((e_call (n := 2) (e_cons rfl (e_cons ek e_nil)) rfl).trans ec) ed).trans (wDiv_eq (by omega)))
    generalize ce / (1 + (j : Int) / 20 * 7) = q at s5
    have hq : 0 ≤ q % 7 ∧ q % 7 < 7 := ⟨Int.emod_nonneg _ (by decide), Int.emod_lt_of_pos _ (by decide)⟩
    have m7 : ∀ (k : Int) (d : Option W) (ps : List Lp) (ks : List Str), mTest (mBin wLt (mBin wMod (mVar 5) (mC (.int 7))) (mC (.int k))) (stR ns m (some (.int (j : Int))) (some (.int q)) d) (hpR ps ks) = some (decide (q % 7 < k), hpR ps ks) := fun k d ps ks => e_test ((e_bin ((e_bin rfl rfl).trans (wMod_eq (by decide))) rfl).trans rfl)
    have l8 : mTest (mBin wLt (mFn wLen (mCons (mVar 3) mNil)) (mC (.int 8))) (stR ns m (some (.int (j : Int))) (some (.int q)) c) (hpR ps ks) = some (decide ((ks.length : Int) < 8), hpR ps ks) := by
      refine e_test ((e_bin (a := .int (ks.length : Nat)) (h1 := hpR ps ks) ?_ rfl).trans rfl)
      rw [e_fn (e_cons rfl e_nil)]
      show some (W.int ((ks.map W.str).length : Nat), _) = _
      rw [List.length_map]
    by_cases c1 : q % 7 < 2 ∧ (ks.length : Int) < 8
    · obtain ⟨x, ex⟩ : ∃ x : Str, mBin wIx (mFn wLst (mCons (mC (.str "either")) (mCons (mC (.str "again")) mNil))) (mBin wMod (mVar 5) (mC (.int 7))) (stR ns m (some (.int (j : Int))) (some (.int q)) c) (hpR ps ks) = some (.str x, hpR ps ks) := by
        obtain ⟨w, hw, ew⟩ := atI_ex (xs := [W.str "either", W.str "again"]) (i := q % 7) hq.1 (by show q % 7 < 2; exact c1.1)
        have e2 := e_ix (ma := mFn wLst (mCons (mC (.str "either")) (mCons (mC (.str "again")) mNil))) (mb := mBin wMod (mVar 5) (mC (.int 7))) (σ := stR ns m (some (.int (j : Int))) (some (.int q)) c) (h := hpR ps ks) (h1 := hpR ps ks) (h2 := hpR ps ks) (ws := [W.str "either", W.str "again"]) (i := q % 7) rfl ((e_bin rfl rfl).trans (wMod_eq (by decide))) ew
        simp only [List.mem_cons, List.not_mem_nil, or_false] at hw
        rcases hw with rfl | rfl
        · exact ⟨_, e2⟩
        · exact ⟨_, e2⟩
      refine ⟨_, _, rfl, e_seq s5 (e_iteT ((e_tand (m7 2 c ps ks) l8).trans ?_) (e_seq (addW ex (by omega)) (addL (p := (x, [])) ?_ (by omega)))), _, _, _, ps ++ [(x, [])], ks ++ [x], rfl, rfl, by simp; omega, by simp; omega⟩
      · rw [decide_eq_true c1.1, decide_eq_true c1.2]; rfl
      · rw [e_fn (e_cons (a := .str x) (h1 := hpR ps (ks ++ [x])) ?_ e_nil)]
        · exact if_pos (by show 1 ≤ sizeLine; decide)
        · refine e_last (n := 1) (xs := ks.map W.str) rfl rfl ?_
          show some (MO.lst ((ks ++ [x]).map W.str)) = _
          rw [List.map_append]; rfl
    · have f1 : (mtAnd (mTest (mBin wLt (mBin wMod (mVar 5) (mC (.int 7))) (mC (.int 2)))) (mTest (mBin wLt (mFn wLen (mCons (mVar 3) mNil)) (mC (.int 8))))) (stR ns m (some (.int (j : Int))) (some (.int q)) c) (hpR ps ks) = some (false, hpR ps ks) := by
        refine (e_tand (m7 2 c ps ks) l8).trans ?_
        by_cases z : q % 7 < 2
        · have : ¬ (ks.length : Int) < 8 := fun y => c1 ⟨z, y⟩
          rw [decide_eq_false this]; simp
        · rw [decide_eq_false z]; simp
      by_cases c2 : q % 7 < 5 ∧ ks ≠ []
      · obtain ⟨r, x, rfl⟩ := snoc_of ks c2.2
        have f2 : (mtAnd (mTest (mBin wLt (mBin wMod (mVar 5) (mC (.int 7))) (mC (.int 5)))) (mTest (mBin wNe (mVar 3) (mFn wLst mNil)))) (stR ns m (some (.int (j : Int))) (some (.int q)) c) (hpR ps (r ++ [x])) = some (true, hpR ps (r ++ [x])) := by
          refine (e_tand (m7 5 c ps (r ++ [x])) nilW).trans ?_
          rw [decide_eq_true c2.1]; simp
        have s6 : mSet 6 (mMt "list" wPop (mVar 3) mNil) (stR ns m (some (.int (j : Int))) (some (.int q)) c) (hpR ps (r ++ [x])) = some (.nx (stR ns m (some (.int (j : Int))) (some (.int q)) (some (.str x))) (hpR ps r)) := e_set popW
        have t6 : mTest (mBin wEq (mVar 6) (mC (.str "either"))) (stR ns m (some (.int (j : Int))) (some (.int q)) (some (.str x))) (hpR ps r) = some (x == "either", hpR ps r) := e_test ((e_bin rfl rfl).trans (wEq_str _ _ _))
        have hr : r.length < 8 := by simp at hk; omega
        by_cases hx : x = "either"
        · exact ⟨_, _, rfl, e_seq s5 (e_iteF f1 (e_iteT f2 (e_seq s6 (e_iteT (t6.trans (by rw [sq hx])) (e_seq (addW (x := orS) rfl (by omega)) (addL (p := orL) rfl (by omega))))))), _, _, _, ps ++ [orL], r ++ [orS], rfl, rfl, by simp; omega, by simp; omega⟩
        · exact ⟨_, _, rfl, e_seq s5 (e_iteF f1 (e_iteT f2 (e_seq s6 (e_iteF (t6.trans (by rw [sn hx])) (addL (p := endL) rfl (by omega)))))), _, _, _, ps ++ [endL], r, rfl, rfl, by simp; omega, by omega⟩
      · have f2 : (mtAnd (mTest (mBin wLt (mBin wMod (mVar 5) (mC (.int 7))) (mC (.int 5)))) (mTest (mBin wNe (mVar 3) (mFn wLst mNil)))) (stR ns m (some (.int (j : Int))) (some (.int q)) c) (hpR ps ks) = some (false, hpR ps ks) := by
          refine (e_tand (m7 5 c ps ks) nilW).trans ?_
          by_cases z : q % 7 < 5
          · have : ks = [] := Classical.byContradiction fun y => c2 ⟨z, y⟩
            subst this; simp
          · rw [decide_eq_false z]; simp
        obtain ⟨p, ep⟩ := pick (ps := [("tell", [.str "a"]), ("none", [.str "b"]), ("back", [.str "endx"])]) (m := mFn wLst (mCons (mFn wTup (mCons (mC (.str "tell")) (mCons (mC (.str "a")) mNil))) (mCons (mFn wTup (mCons (mC (.str "none")) (mCons (mC (.str "b")) mNil))) (mCons (mFn wTup (mCons (mC (.str "back")) (mCons (mC (.str "endx")) mNil))) mNil)))) (n := mBin wMod (mBin wDiv (mVar 5) (mC (.int 7))) (mC (.int 3))) (σ := stR ns m (some (.int (j : Int))) (some (.int q)) c) (h := hpR ps ks) (i := q / 7 % 3) rfl ((e_bin ((e_bin rfl rfl).trans (wDiv_eq (by decide))) rfl).trans (wMod_eq (by decide))) (Int.emod_nonneg _ (by decide)) (Int.emod_lt_of_pos _ (by decide))
        exact ⟨_, _, rfl, e_seq s5 (e_iteF f1 (e_iteF f2 (addL ep (by omega)))), _, _, _, ps ++ [p], ks, rfl, rfl, by simp; omega, hk⟩
end My

namespace My
open PySem PySem.Spec PyProof.Rows L2 Mi My3
theorem cut_map {α β : Type} (f : α → β) (xs : List α) (lo hi : Option Int) : cutW (xs.map f) lo hi = (cutW xs lo hi).map f := by
  unfold cutW
  rw [List.length_map, List.map_take, List.map_drop]
theorem LnV.cut {h : MH} {v : W} {ps : List Lp} (l : LnV h v ps) (lo hi : Option Int) : wSl v lo hi h = some (.lst ((cutW ps lo hi).map lnW), h) := by
  rcases l with rfl | ⟨n, rfl, e⟩
  · show some (W.lst (cutW (ps.map lnW) lo hi), h) = _
    rw [cut_map]
  · show ((lsW h (.ref n)).map fun ws => (W.lst (cutW ws lo hi), h)) = _
    rw [lsW_ref e, Option.map_some, cut_map]
theorem add_lns {ps qs : List Lp} {h : MH} (hl : ps.length + qs.length < 1000) : wAdd (.lst (ps.map lnW)) (.lst (qs.map lnW)) h = some (.lst ((ps ++ qs).map lnW), h) := by
  show (if (ps.map lnW).length + (qs.map lnW).length ≤ sizeLine then some (W.lst (ps.map lnW ++ qs.map lnW), h) else none) = _
  rw [if_pos (by rw [List.length_map, List.length_map]; exact Nat.le_of_lt (sz hl)), List.map_append]
theorem bent_ok (ps : List Lp) (hl : ps.length < 200) (h : MH) (v : W) (lv : LnV h v ps) (c : Int) : ∃ qs : List Lp, qs.length < 800 ∧ sem__law_bent [v, .int c] h = some (.lst (qs.map lnW), h) := by
  have hlen : mBin wAdd (mFn wLen (mCons (mVar 0) mNil)) (mC (.int 1)) [some v, some (.int c), none] h = some (.int ((ps.length : Int) + 1), h) := (e_bin (lv.len rfl) rfl).trans rfl
  have s2 : mSet 2 (mBin wMod (mBin wDiv (mVar 1) (mC (.int 3))) (mBin wAdd (mFn wLen (mCons (mVar 0) mNil)) (mC (.int 1)))) [some v, some (.int c), none] h = some (.nx [some v, some (.int c), some (.int (c / 3 % ((ps.length : Int) + 1)))] h) :=
    e_set ((e_bin ((e_bin rfl rfl).trans (wDiv_eq (by decide))) hlen).trans (wMod_eq (by omega)))
  generalize c / 3 % ((ps.length : Int) + 1) = at_ at s2
  have cl : ∀ lo hi, (cutW ps lo hi).length ≤ ps.length := fun lo hi => cutW_length ps lo hi
  have lo : mSl (mVar 0) oNone (oSome (mVar 2)) [some v, some (.int c), some (.int at_)] h = some (.lst ((cutW ps none (some at_)).map lnW), h) := lv.cut none (some at_)
  have hi0 : mSl (mVar 0) (oSome (mVar 2)) oNone [some v, some (.int c), some (.int at_)] h = some (.lst ((cutW ps (some at_) none).map lnW), h) := lv.cut (some at_) none
  have hi1 : mSl (mVar 0) (oSome (mBin wAdd (mVar 2) (mC (.int 1)))) oNone [some v, some (.int c), some (.int at_)] h = some (.lst ((cutW ps (some (at_ + 1)) none).map lnW), h) := lv.cut (some (at_ + 1)) none
  obtain ⟨p, ep⟩ := some_ok (c / 123) h
  have one : mFn wLst (mCons (mCall 1 sem__law_some (mCons (mBin wDiv (mVar 1) (mC (.int 123))) mNil)) mNil) [some v, some (.int c), some (.int at_)] h = some (.lst ([p].map lnW), h) :=
    e_lst (e_cons ((e_call (n := 1) (e_cons ((e_bin rfl rfl).trans (wDiv_eq (by decide))) e_nil) rfl).trans ep) e_nil) (by show 1 ≤ sizeLine; decide)
  have m3 : ∀ k : Int, mTest (mBin wEq (mBin wMod (mVar 1) (mC (.int 3))) (mC (.int k))) [some v, some (.int c), some (.int at_)] h = some (c % 3 == k, h) := fun k => e_test ((e_bin ((e_bin rfl rfl).trans (wMod_eq (by decide))) rfl).trans (wEq_int _ _ _))
  have a1 := cl none (some at_)
  have a2 := cl (some at_) none
  have a3 := cl (some (at_ + 1)) none
  have l1 := (e_bin (f := wAdd) lo one).trans (add_lns (by show _ + 1 < 1000; omega))
  by_cases c0 : c % 3 = 0
  · refine ⟨(cutW ps none (some at_) ++ [p]) ++ cutW ps (some at_) none, by simp; omega, e_def ?_⟩
    show mSeq _ _ [some v, some (.int c), none] h = _
    refine e_seq s2 (e_seqR (e_iteT ((m3 0).trans (by rw [beq_iff_eq.mpr c0])) (e_ret ((e_bin l1 hi0).trans (add_lns (by simp; omega))))))
  · have f0 := (m3 0).trans (show some (c % 3 == 0, h) = some (false, h) by rw [beq_eq_false_iff_ne.mpr c0])
    by_cases c1 : c % 3 = 1
    · refine ⟨cutW ps none (some at_) ++ cutW ps (some (at_ + 1)) none, by simp; omega, e_def ?_⟩
      show mSeq _ _ [some v, some (.int c), none] h = _
      refine e_seq s2 (e_seq (e_iteF f0 e_skip) (e_seqR (e_iteT ((m3 1).trans (by rw [beq_iff_eq.mpr c1])) (e_ret ((e_bin lo hi1).trans (add_lns (by omega)))))))
    · have f1 := (m3 1).trans (show some (c % 3 == 1, h) = some (false, h) by rw [beq_eq_false_iff_ne.mpr c1])
      refine ⟨(cutW ps none (some at_) ++ [p]) ++ cutW ps (some (at_ + 1)) none, by simp; omega, e_def ?_⟩
      show mSeq _ _ [some v, some (.int c), none] h = _
      exact e_seq s2 (e_seq (e_iteF f0 e_skip) (e_seq (e_iteF f1 e_skip) (e_ret ((e_bin l1 hi1).trans (add_lns (by simp; omega))))))
theorem lines_ex : ∀ vs : List W, (∀ v ∈ vs, ∃ p, v = lnW p) → ∃ ps : List Lp, vs = ps.map lnW
  | [], _ => ⟨[], rfl⟩
  | v :: vs, h => by
    obtain ⟨p, rfl⟩ := h v List.mem_cons_self
    obtain ⟨ps, rfl⟩ := lines_ex vs fun x hx => h x (List.mem_cons_of_mem _ hx)
    exact ⟨p :: ps, rfl⟩
theorem lines_ok (ns : List Int) : ∃ (ps : List Lp) (v : W) (h : MH), ps.length < 800 ∧ LnV h v ps ∧ sem__law_lines [.frz (ns.map W.int)] [] = some (v, h) := by
  obtain ⟨c, ec⟩ := cell_ok ns 0 (by omega) []
  have q1 : 0 ≤ c / 8 % 34 ∧ c / 8 % 34 < 34 := ⟨Int.emod_nonneg _ (by decide), Int.emod_lt_of_pos _ (by decide)⟩
  have e1 : mSet 1 (mCall 2 sem__law_cell (mCons (mVar 0) (mCons (mC (.int 0)) mNil))) [some (.frz (ns.map W.int)), none, none, none] [] = some (.nx [some (.frz (ns.map W.int)), some (.int c), none, none] []) := e_set ((e_call (n := 2) (e_cons rfl (e_cons rfl e_nil)) rfl).trans ec)
  have e2 : mSet 2 (mBin wMod (mBin wDiv (mVar 1) (mC (.int 8))) (mC (.int 34))) [some (.frz (ns.map W.int)), some (.int c), none, none] [] = some (.nx [some (.frz (ns.map W.int)), some (.int c), some (.int (c / 8 % 34)), none] []) := e_set ((e_bin ((e_bin rfl rfl).trans (wDiv_eq (by decide))) rfl).trans (wMod_eq (by decide)))
  obtain ⟨m, hm⟩ : ∃ m : Nat, c / 8 % 34 = (m : Int) := ⟨(c / 8 % 34).toNat, by omega⟩
  rw [hm] at e2 q1
  have m4 : ∀ (k : Int) (d : Option W) (h : MH), mTest (mBin wEq (mBin wMod (mVar 1) (mC (.int 4))) (mC (.int k))) [some (.frz (ns.map W.int)), some (.int c), some (.int (m : Int)), d] h = some (c % 4 == k, h) := fun k d h => e_test ((e_bin ((e_bin rfl rfl).trans (wMod_eq (by decide))) rfl).trans (wEq_int _ _ _))
  by_cases c3 : c % 4 = 3
  · have q2 : 0 ≤ (m : Int) % 12 ∧ (m : Int) % 12 < 12 := ⟨Int.emod_nonneg _ (by decide), Int.emod_lt_of_pos _ (by decide)⟩
    have hit : miR1 (mCons (mBin wMod (mVar 2) (mC (.int 12))) mNil) [some (.frz (ns.map W.int)), some (.int c), some (.int (m : Int)), none] [] = some (rangeW 0 ((m : Int) % 12).toNat, none, []) := e_r1 ((e_bin rfl rfl).trans (wMod_eq (by decide))) (by omega) (by omega)
    obtain ⟨vs, l1, qv, ev⟩ := compL_ex (fin := fLst) (items := rangeW 0 ((m : Int) % 12).toNat) (me := mCall 1 sem__law_some (mCons (mCall 2 sem__law_cell (mCons (mVar 1) (mCons (mBin wAdd (mC (.int 1)) (mVar 0)) mNil))) mNil)) (caps := [some (.frz (ns.map W.int))]) (h := []) (fun v => ∃ p, v = lnW p) (rangeW 0 ((m : Int) % 12).toNat) [] none (fun w hw => by
      obtain ⟨i, hi, rfl⟩ := List.mem_map.mp hw
      rw [List.mem_range] at hi
      obtain ⟨d, ed⟩ := cell_ok ns (1 + i) (by omega) []
      obtain ⟨p, ep⟩ := some_ok d []
      refine ⟨lnW p, ⟨p, rfl⟩, (e_call (n := 1) (e_cons ((e_call (n := 2) (e_cons rfl (e_cons ?_ e_nil)) rfl).trans ed) e_nil) rfl).trans ep⟩
      show some (W.int (1 + (0 + (i : Int))), _) = _
      rw [show (1 : Int) + (0 + (i : Int)) = ((1 + i : Nat) : Int) by omega]) (by rw [rangeW_len]; exact Nat.le_trans (show ([] : List W).length + ((m : Int) % 12).toNat ≤ 1000 by simp; omega) (by decide))
    obtain ⟨ps, rfl⟩ := lines_ex vs qv
    rw [List.length_map, rangeW_len] at l1
    refine ⟨ps, .lst (ps.map lnW), [], by omega, .inl rfl, e_def ?_⟩
    show mSeq _ _ [some (.frz (ns.map W.int)), none, none, none] [] = _
    refine e_seq e1 (e_seq e2 (e_seqR (e_iteT ((m4 3 none []).trans (by rw [beq_iff_eq.mpr c3])) (e_ret ?_))))
    unfold mComp
    rw [hit, Option.bind_some]
    exact ev
  · have f3 := (m4 3 none []).trans (show some (c % 4 == 3, ([] : MH)) = some (false, []) by rw [beq_eq_false_iff_ne.mpr c3])
    obtain ⟨ps, ks, hl, er⟩ := right_ok ns m (by omega)
    have e3 : mSet 3 (mCall 2 sem__law_right (mCons (mVar 0) (mCons (mVar 2) mNil))) [some (.frz (ns.map W.int)), some (.int c), some (.int (m : Int)), none] [] = some (.nx [some (.frz (ns.map W.int)), some (.int c), some (.int (m : Int)), some (.ref 0)] (hpR ps ks)) := e_set ((e_call (n := 2) (e_cons rfl (e_cons rfl e_nil)) rfl).trans er)
    have lv : LnV (hpR ps ks) (.ref 0) ps := .inr ⟨0, rfl, rfl⟩
    by_cases c2 : c % 4 = 2
    · obtain ⟨qs, hq, eb⟩ := bent_ok ps hl (hpR ps ks) (.ref 0) lv (c / 272)
      refine ⟨qs, .lst (qs.map lnW), hpR ps ks, by omega, .inl rfl, e_def ?_⟩
      show mSeq _ _ [some (.frz (ns.map W.int)), none, none, none] [] = _
      refine e_seq e1 (e_seq e2 (e_seq (e_iteF f3 e_skip) (e_seq e3 (e_seq (σ1 := [some (.frz (ns.map W.int)), some (.int c), some (.int (m : Int)), some (.lst (qs.map lnW))]) (h1 := hpR ps ks) (e_iteT ((m4 2 _ _).trans (by rw [beq_iff_eq.mpr c2])) ?_) (e_ret rfl)))))
      exact e_set ((e_call (n := 2) (e_cons rfl (e_cons ((e_bin rfl rfl).trans (wDiv_eq (by decide))) e_nil)) rfl).trans eb)
    · have f2 := (m4 2 (some (.ref 0)) (hpR ps ks)).trans (show some (c % 4 == 2, hpR ps ks) = some (false, hpR ps ks) by rw [beq_eq_false_iff_ne.mpr c2])
      refine ⟨ps, .ref 0, hpR ps ks, by omega, lv, e_def ?_⟩
      show mSeq _ _ [some (.frz (ns.map W.int)), none, none, none] [] = _
      exact e_seq e1 (e_seq e2 (e_seq (e_iteF f3 e_skip) (e_seq e3 (e_seq (e_iteF f2 e_skip) (e_ret rfl)))))
theorem middle_ok (ps : List Lp) (hl : ps.length < 1000) (k : Nat) (hk : k < ps.length) (e : En) (m : Mat (cds ps) k e) (ho : e.kd = .oo) (h : MH) : sem__law_middle [.tup (ps.map lnW), .int e.fs, .int e.md, .int k] h = some (.bl true, h) := by
  have hmd : e.md < k := (m.fit.oo ho).2.1
  refine e_def (e_ret ?_)
  show mAnd _ _ [some (.tup (ps.map lnW)), some (.int e.fs), some (.int e.md), some (.int k)] h = _
  have t1 : mBin wEq (mCall 2 sem_or_of (mCons (mVar 0) (mCons (mVar 1) mNil))) (mVar 2) [some (.tup (ps.map lnW)), some (.int e.fs), some (.int e.md), some (.int k)] h = some (.bl true, h) := by
    refine (e_bin ((e_call (n := 2) (e_cons rfl (e_cons rfl e_nil)) rfl).trans (or_ok ps hl e.fs e.md (mat_or m ho) h)) rfl).trans ?_
    rw [wEq_int]; simp
  have t2 : mBin wEq (mCall 2 sem_head_of (mCons (mVar 0) (mCons (mVar 2) mNil))) (mVar 1) [some (.tup (ps.map lnW)), some (.int e.fs), some (.int e.md), some (.int k)] h = some (.bl true, h) := by
    refine (e_bin ((e_call (n := 2) (e_cons rfl (e_cons rfl e_nil)) rfl).trans (head_ok ps hl e.md e.fs (by omega) (mat_orHead m ho) h)) rfl).trans ?_
    rw [wEq_int]; simp
  have t3 : mBin wEq (mCall 2 sem_end_of (mCons (mVar 0) (mCons (mVar 2) mNil))) (mVar 3) [some (.tup (ps.map lnW)), some (.int e.fs), some (.int e.md), some (.int k)] h = some (.bl true, h) := by
    refine (e_bin ((e_call (n := 2) (e_cons rfl (e_cons rfl e_nil)) rfl).trans (end_ok ps hl e.md k (mat_orEnd m ho) h)) rfl).trans ?_
    rw [wEq_int]; simp
  exact e_and t1 (e_and t2 t3)
theorem main : ∀ ns : List Int, ns.length ≤ 63 → ∃ h', sem_law [.frz (ns.map W.int)] [] = some (.bl true, h') := by
  intro ns _
  obtain ⟨ps, v, h, hl0, lv, el⟩ := lines_ok ns
  have hl : ps.length < 1000 := by omega
  obtain ⟨L, kvs, r, ep, er⟩ := partners_ok ps hl h v lv
  obtain ⟨L2, ei⟩ := is_ok ps hl (h ++ [.lst L, .dic kvs])
  have lv1 := lv.app [.lst L, .dic kvs]
  have lv2 := lv1.app [.lst L2]
  have e1 : mSet 1 (mCall 1 sem__law_lines (mCons (mVar 0) mNil)) [some (.frz (ns.map W.int)), none, none, none, none, none, none] [] = some (.nx [some (.frz (ns.map W.int)), some v, none, none, none, none, none] h) := e_set ((e_call (n := 1) (e_cons rfl e_nil) rfl).trans el)
  have e2 : mSet 2 (mFn wTuple (mCons (mVar 1) mNil)) [some (.frz (ns.map W.int)), some v, none, none, none, none, none] h = some (.nx [some (.frz (ns.map W.int)), some v, some (.tup (ps.map lnW)), none, none, none, none] h) := by
    refine e_set (a := .tup (ps.map lnW)) ?_
    rw [e_fn (e_cons rfl e_nil)]
    rcases lv with rfl | ⟨n, rfl, en⟩
    · rfl
    · show ((lsW h (.ref n)).map fun ws => (W.tup ws, h)) = _
      rw [lsW_ref en]; rfl
  have e3 : mSet 3 (mCall 1 sem__law_partners (mCons (mVar 1) mNil)) [some (.frz (ns.map W.int)), some v, some (.tup (ps.map lnW)), none, none, none, none] h = some (.nx [some (.frz (ns.map W.int)), some v, some (.tup (ps.map lnW)), some r, none, none, none] (h ++ [.lst L, .dic kvs])) := e_set ((e_call (n := 1) (e_cons rfl e_nil) rfl).trans ep)
  have e4 : mSet 4 (mCall 1 sem_is_blocks (mCons (mVar 2) mNil)) [some (.frz (ns.map W.int)), some v, some (.tup (ps.map lnW)), some r, none, none, none] (h ++ [.lst L, .dic kvs]) = some (.nx [some (.frz (ns.map W.int)), some v, some (.tup (ps.map lnW)), some r, some (.bl (okB ps)), none, none] (h ++ [.lst L, .dic kvs] ++ [.lst L2])) := e_set ((e_call (n := 1) (e_cons rfl e_nil) rfl).trans ei)
  have hdic : (h ++ [MO.lst L, .dic kvs] ++ [MO.lst L2])[h.length + 1]? = some (.dic kvs) := by
    rw [List.getElem?_append_left (by simp), h1]
  generalize hH : h ++ [MO.lst L, .dic kvs] ++ [MO.lst L2] = H at e4 lv2 hdic
  have t5 : (mtOr (mtNot (mTru (mFn wIsi (mCons (mVar 4) (mCons (mC (.ty "bool")) mNil))))) (mTest (mBin wNe (mVar 4) (mBin wIsNot (mVar 3) (mC .non))))) [some (.frz (ns.map W.int)), some v, some (.tup (ps.map lnW)), some r, some (.bl (okB ps)), none, none] H = some (false, H) := by
    refine e_torF (e_tnot (t := true) (e_isi (k := "bool") rfl rfl rfl)) ?_
    rcases er with ⟨e, rfl⟩ | ⟨e, rfl, _⟩
    · rw [e]; exact e_test rfl
    · rw [e]; exact e_test rfl
  refine ⟨H, e_def ?_⟩
  show mSeq _ _ [some (.frz (ns.map W.int)), none, none, none, none, none, none] [] = _
  refine e_seq e1 (e_seq e2 (e_seq e3 (e_seq e4 (e_seq (e_iteF t5 e_skip) ?_))))
  rcases er with ⟨e, rfl⟩ | ⟨e, rfl, dp⟩
  · exact e_seqR (e_iteT (e_test rfl) (e_ret rfl))
  · refine e_seq (e_iteF (e_test rfl) e_skip) ?_
    have lp := loop_keep (items := rangeW 0 ps.length) (b := gSet 5) (body := bd_law_1) (h := H)
      (fun σ => ∃ a b, σ = [some (.frz (ns.map W.int)), some v, some (.tup (ps.map lnW)), some (.ref (h.length + 1)), some (.bl (okB ps)), a, b]) (rangeW 0 ps.length) [some (.frz (ns.map W.int)), some v, some (.tup (ps.map lnW)), some (.ref (h.length + 1)), some (.bl (okB ps)), none, none] ⟨none, none, rfl⟩ ?_
    · obtain ⟨σ', e6, a, b, rfl⟩ := lp
      exact e_seq (e_for (e_r1 (j := (ps.length : Int)) (lv2.len rfl) (by omega) (by omega)) e6) (e_ret rfl)
    · rintro w hw σ ⟨a, b, rfl⟩
      obtain ⟨k, hk, rfl⟩ := List.mem_map.mp hw
      rw [List.mem_range] at hk
      rw [Int.zero_add]
      obtain ⟨p, hp⟩ : ∃ p, ps[k]? = some p := ⟨ps[k], List.getElem?_eq_getElem hk⟩
      refine ⟨[some (.frz (ns.map W.int)), some v, some (.tup (ps.map lnW)), some (.ref (h.length + 1)), some (.bl (okB ps)), some (.int (k : Int)), b], ?_⟩
      have ev : mBin wIx (mVar 1) (mVar 5) [some (.frz (ns.map W.int)), some v, some (.tup (ps.map lnW)), some (.ref (h.length + 1)), some (.bl (okB ps)), some (.int (k : Int)), b] H = some (lnW p, H) := lv2.ix hp rfl rfl
      by_cases hx : p.1 = "end"
      · have hc : (cds ps)[k]? = some .en := by rw [cds_at hp, hx]; rfl
        obtain ⟨en, m, val⟩ := dp.2 k hk hc
        have s6 : mSet 6 (mBin wIxD (mVar 3) (mVar 5)) [some (.frz (ns.map W.int)), some v, some (.tup (ps.map lnW)), some (.ref (h.length + 1)), some (.bl (okB ps)), some (.int (k : Int)), b] H = some (.nx [some (.frz (ns.map W.int)), some v, some (.tup (ps.map lnW)), some (.ref (h.length + 1)), some (.bl (okB ps)), some (.int (k : Int)), some (enW en)] H) := e_set (e_ixD (n := h.length + 1) (k := .inl (k : Int)) rfl rfl rfl hdic val)
        have g1 : ∀ i, mBin wIx (mVar 6) (mC (.int i)) [some (.frz (ns.map W.int)), some v, some (.tup (ps.map lnW)), some (.ref (h.length + 1)), some (.bl (okB ps)), some (.int (k : Int)), some (enW en)] H = wIx (enW en) (.int i) H := fun i => e_bin rfl rfl
        have t7 : mTest (mBin wNe (mCall 2 sem_head_of (mCons (mVar 2) (mCons (mVar 5) mNil))) (mBin wIx (mVar 6) (mC (.int 1)))) [some (.frz (ns.map W.int)), some v, some (.tup (ps.map lnW)), some (.ref (h.length + 1)), some (.bl (okB ps)), some (.int (k : Int)), some (enW en)] H = some (false, H) := by
          refine e_test ((e_bin ((e_call (n := 2) (e_cons rfl (e_cons rfl e_nil)) rfl).trans (head_ok ps hl k en.fs (by omega) (mat_head m) H)) ((g1 1).trans (en_1 en H))).trans ?_)
          rw [wNe_int]; simp
        have t8 : mTest (mBin wNe (mCall 2 sem_end_of (mCons (mVar 2) (mCons (mBin wIx (mVar 6) (mC (.int 1))) mNil))) (mVar 5)) [some (.frz (ns.map W.int)), some v, some (.tup (ps.map lnW)), some (.ref (h.length + 1)), some (.bl (okB ps)), some (.int (k : Int)), some (enW en)] H = some (false, H) := by
          refine e_test ((e_bin ((e_call (n := 2) (e_cons rfl (e_cons ((g1 1).trans (en_1 en H)) e_nil)) rfl).trans (end_ok ps hl en.fs k (mat_end m) H)) rfl).trans ?_)
          rw [wNe_int]; simp
        refine ⟨[some (.frz (ns.map W.int)), some v, some (.tup (ps.map lnW)), some (.ref (h.length + 1)), some (.bl (okB ps)), some (.int (k : Int)), some (enW en)], rfl, e_iteT (word_T ev rfl hx) (e_seq s6 (e_seq (e_iteF (e_torF t7 t8) e_skip) ?_)), _, _, rfl⟩
        by_cases ho : en.kd = .oo
        · have hen : enW en = .lst [.str "or", .int en.fs, .int en.md] := if_pos ho
          have t9 : mTest (mBin wEq (mFn wLen (mCons (mVar 6) mNil)) (mC (.int 3))) [some (.frz (ns.map W.int)), some v, some (.tup (ps.map lnW)), some (.ref (h.length + 1)), some (.bl (okB ps)), some (.int (k : Int)), some (enW en)] H = some (true, H) := by rw [hen]; exact e_test rfl
          have e2' : wIx (enW en) (.int 2) H = some (.int en.md, H) := by rw [hen]; rfl
          refine e_iteF (e_tandT t9 (e_tnot (t := true) (e_tru (a := .bl true) ?_ rfl))) e_skip
          exact (e_call (n := 4) (e_cons rfl (e_cons ((g1 1).trans (en_1 en H)) (e_cons ((g1 2).trans e2') (e_cons rfl e_nil)))) rfl).trans (middle_ok ps hl k hk en m ho H)
        · have hen : enW en = .lst [.str (nm en.kd), .int en.fs] := if_neg ho
          have t9 : mTest (mBin wEq (mFn wLen (mCons (mVar 6) mNil)) (mC (.int 3))) [some (.frz (ns.map W.int)), some v, some (.tup (ps.map lnW)), some (.ref (h.length + 1)), some (.bl (okB ps)), some (.int (k : Int)), some (enW en)] H = some (false, H) := by rw [hen]; exact e_test rfl
          exact e_iteF (e_tandF t9) e_skip
      · exact ⟨_, rfl, e_iteF (word_F ev rfl hx) e_skip, _, _, rfl⟩
end My

open PySem PySem.W PyProof.Rows
set_option maxRecDepth 100000 in
set_option maxHeartbeats 0 in
theorem PySem.Challenge.cw_doneroom_k03_blocks_holds : PySem.Challenge.rw_doneroom_k03_blocks.Holds := by
  w_on; o_law; k_head; (case hw => w_witness2)
  k_fill
  refine Mi.walkM (l := PySem.Challenge.rw_doneroom_k03_blocks) (st := My.st_law) (sem := My.sem_law) (k := 5) rfl rfl ⟨rfl, by decide, by decide⟩ rfl (fun w h Y => PySem.W.kIn_of Y) (fun _ _ _ _ _ _ _ _ => .of_eq rfl) ?F My.main
  case F =>
    intro w mg h KX G
    have d__law_cell : Mi.DefAt (L2.KOf KX) mg "_law_cell" My.st__law_cell ["script", "k"] := by
      dsimp only [L2.KOf]
      refine' Mi.defAt_mk KX G ?a ?l ?c ?k ?b
      (case a => k_is); (case l => k_is); (case c => k_is); (case k => k_is)
      (case b => exact fun _ _ _ _ _ _ us hl => match us, hl with | [_, _], _ => rfl)
    have d__law_right : Mi.DefAt (L2.KOf KX) mg "_law_right" My.st__law_right ["script", "many"] := by
      dsimp only [L2.KOf]
      refine' Mi.defAt_mk KX G ?a ?l ?c ?k ?b
      (case a => k_is); (case l => k_is); (case c => k_is); (case k => k_is)
      (case b => exact fun _ _ _ _ _ _ us hl => match us, hl with | [_, _], _ => rfl)
    have d__law_some : Mi.DefAt (L2.KOf KX) mg "_law_some" My.st__law_some ["cell"] := by
      dsimp only [L2.KOf]
      refine' Mi.defAt_mk KX G ?a ?l ?c ?k ?b
      (case a => k_is); (case l => k_is); (case c => k_is); (case k => k_is)
      (case b => exact fun _ _ _ _ _ _ us hl => match us, hl with | [_], _ => rfl)
    have d__law_bent : Mi.DefAt (L2.KOf KX) mg "_law_bent" My.st__law_bent ["lines", "cell"] := by
      dsimp only [L2.KOf]
      refine' Mi.defAt_mk KX G ?a ?l ?c ?k ?b
      (case a => k_is); (case l => k_is); (case c => k_is); (case k => k_is)
      (case b => exact fun _ _ _ _ _ _ us hl => match us, hl with | [_, _], _ => rfl)
    have d__law_lines : Mi.DefAt (L2.KOf KX) mg "_law_lines" My.st__law_lines ["script"] := by
      dsimp only [L2.KOf]
      refine' Mi.defAt_mk KX G ?a ?l ?c ?k ?b
      (case a => k_is); (case l => k_is); (case c => k_is); (case k => k_is)
      (case b => exact fun _ _ _ _ _ _ us hl => match us, hl with | [_], _ => rfl)
    have d__law_partners : Mi.DefAt (L2.KOf KX) mg "_law_partners" My.st__law_partners ["lines"] := by
      dsimp only [L2.KOf]
      refine' Mi.defAt_mk KX G ?a ?l ?c ?k ?b
      (case a => k_is); (case l => k_is); (case c => k_is); (case k => k_is)
      (case b => exact fun _ _ _ _ _ _ us hl => match us, hl with | [_], _ => rfl)
    have d_is_blocks : Mi.DefAt (L2.KOf KX) mg "is_blocks" My.st_is_blocks ["lines"] := by
      dsimp only [L2.KOf]
      refine' Mi.defAt_mk KX G ?a ?l ?c ?k ?b
      (case a => k_is); (case l => k_is); (case c => k_is); (case k => k_is)
      (case b => exact fun _ _ _ _ _ _ us hl => match us, hl with | [_], _ => rfl)
    have d_level_change : Mi.DefAt (L2.KOf KX) mg "level_change" My.st_level_change ["line"] := by
      dsimp only [L2.KOf]
      refine' Mi.defAt_mk KX G ?a ?l ?c ?k ?b
      (case a => k_is); (case l => k_is); (case c => k_is); (case k => k_is)
      (case b => exact fun _ _ _ _ _ _ us hl => match us, hl with | [_], _ => rfl)
    have d_head_of : Mi.DefAt (L2.KOf KX) mg "head_of" My.st_head_of ["lines", "k"] := by
      dsimp only [L2.KOf]
      refine' Mi.defAt_mk KX G ?a ?l ?c ?k ?b
      (case a => k_is); (case l => k_is); (case c => k_is); (case k => k_is)
      (case b => exact fun _ _ _ _ _ _ us hl => match us, hl with | [_, _], _ => rfl)
    have d_found_behind : Mi.DefAt (L2.KOf KX) mg "found_behind" My.st_found_behind ["lines", "k", "kind"] := by
      dsimp only [L2.KOf]
      refine' Mi.defAt_mk KX G ?a ?l ?c ?k ?b
      (case a => k_is); (case l => k_is); (case c => k_is); (case k => k_is)
      (case b => exact fun _ _ _ _ _ _ us hl => match us, hl with | [_, _, _], _ => rfl)
    have d_end_of : Mi.DefAt (L2.KOf KX) mg "end_of" My.st_end_of ["lines", "k"] := by
      dsimp only [L2.KOf]
      refine' Mi.defAt_mk KX G ?a ?l ?c ?k ?b
      (case a => k_is); (case l => k_is); (case c => k_is); (case k => k_is)
      (case b => exact fun _ _ _ _ _ _ us hl => match us, hl with | [_, _], _ => rfl)
    have d_or_of : Mi.DefAt (L2.KOf KX) mg "or_of" My.st_or_of ["lines", "k"] := by
      dsimp only [L2.KOf]
      refine' Mi.defAt_mk KX G ?a ?l ?c ?k ?b
      (case a => k_is); (case l => k_is); (case c => k_is); (case k => k_is)
      (case b => exact fun _ _ _ _ _ _ us hl => match us, hl with | [_, _], _ => rfl)
    have d__law_middle : Mi.DefAt (L2.KOf KX) mg "_law_middle" My.st__law_middle ["lines", "first", "middle", "last"] := by
      dsimp only [L2.KOf]
      refine' Mi.defAt_mk KX G ?a ?l ?c ?k ?b
      (case a => k_is); (case l => k_is); (case c => k_is); (case k => k_is)
      (case b => exact fun _ _ _ _ _ _ us hl => match us, hl with | [_, _, _, _], _ => rfl)
    have d_law : Mi.DefAt (L2.KOf KX) mg "law" My.st_law ["script"] := by
      dsimp only [L2.KOf]
      refine' Mi.defAt_mk KX G ?a ?l ?c ?k ?b
      (case a => k_is); (case l => k_is); (case c => k_is); (case k => k_is)
      (case b => exact fun _ _ _ _ _ _ us hl => match us, hl with | [_], _ => rfl)
    have b_bool : mg "bool" = none := by
      refine' PySem.W.mg_none_of KX G ?a
      (case a => k_is)
    have b_isinstance : mg "isinstance" = none := by
      refine' PySem.W.mg_none_of KX G ?a
      (case a => k_is)
    have b_len : mg "len" = none := by
      refine' PySem.W.mg_none_of KX G ?a
      (case a => k_is)
    have b_range : mg "range" = none := by
      refine' PySem.W.mg_none_of KX G ?a
      (case a => k_is)
    have b_tuple : mg "tuple" = none := by
      refine' PySem.W.mg_none_of KX G ?a
      (case a => k_is)
    exact ⟨d_law, fun base kb nb => My.all_law d__law_cell d__law_right d__law_some d__law_bent d__law_lines d__law_partners d_is_blocks d_level_change d_head_of d_found_behind d_end_of d_or_of d__law_middle d_law b_bool b_isinstance b_len b_range b_tuple⟩
