import PyProof.Rows.All
import Wide.All
import OpenK.AllK
import Wide.FinOn
import Lean
import PyProof.EqAt
import PyProof.EqKinds
import PyProof.TupleCall
import KE.KDictList
import KE.KRevIter
import KE.KTurns
import PySem.Challenge.RW_doneroom_k14_what_is_a_run
set_option Elab.async false
set_option bootstrap.genMatcherCode false
set_option linter.all false
set_option maxRecDepth 100000
noncomputable section
/-! THE HAND LAYER, for ints, bools, texts, own classes, LISTS and tuples (index, slices, in, append, pop ..), calls, loops. Paste it whole ahead of your own text; what your proof does not reach may be deleted. -/
namespace L2
open PySem PySem.Spec PyProof.Rows

noncomputable abbrev Key := Sum Int Str
noncomputable def Qgi : Key → Value → Bool
 | .inl k, v => Value.isInt k v
 | .inr x, v => Value.isStrOf x v
noncomputable def Qkt (w : World) : Key → Int
 | .inl k => hashInt k
 | .inr x => hashStr w x
theorem Zr : ∀ {k : Key} {v : Value}, Qgi k v = true → (∃ i t, k = Sum.inl i ∧ v = Value.int i t) ∨ (∃ x t, k = Sum.inr x ∧ v = Value.str x t)
 | .inl i, v, h => by
  obtain ⟨t, e⟩ := Value.isInt_shape (k := i) (v := v) h
  exact .inl ⟨i, t, rfl, e⟩
 | .inr x, v, h => by
  obtain ⟨t, e⟩ := Value.isStrOf_shape (x := x) (v := v) h
  exact .inr ⟨x, t, rfl, e⟩
theorem Qfc (a b : Int) : decide ((Sum.inl a : Key) = Sum.inl b) = (a == b) := by
 by_cases e : a = b
 ·subst e; simp
 ·have h : ¬ (Sum.inl a : Key) = Sum.inl b := fun q => e (Sum.inl.inj q)
  rw [decide_eq_false h]
  exact (beq_eq_false_iff_ne.mpr e).symm
theorem Qgj (a b : Str) : decide ((Sum.inr a : Key) = Sum.inr b) = decide (a = b) := by
 by_cases e : a = b
 ·subst e; simp
 ·have h : ¬ (Sum.inr a : Key) = Sum.inr b := fun q => e (Sum.inr.inj q)
  rw [decide_eq_false h, decide_eq_false e]
theorem Qfx (a : Int) (b : Str) : decide ((Sum.inl a : Key) = Sum.inr b) = false := decide_eq_false (fun q => nomatch q)
theorem Qfo (a : Str) (b : Int) : decide ((Sum.inr a : Key) = Sum.inl b) = false := decide_eq_false (fun q => nomatch q)

noncomputable def Qa4 (prog : Program) (w : World) : PySem.KeyKind prog w Key where
 is := Qgi
 hash := Qkt w
 inj := fun v a b ha hb => by
  rcases Zr ha with ⟨i, t, rfl, rfl⟩ | ⟨x, t, rfl, rfl⟩
  ·rcases Zr hb with ⟨j, u, rfl, e⟩ | ⟨y, u, rfl, e⟩
   ·injection e with e1 _; rw [e1]
   ·exact nomatch e
  ·rcases Zr hb with ⟨j, u, rfl, e⟩ | ⟨y, u, rfl, e⟩
   ·exact nomatch e
   ·injection e with e1 _; rw [e1]
 byValue := fun k v h => by
  rcases Zr h with ⟨i, t, rfl, rfl⟩ | ⟨x, t, rfl, rfl⟩ <;> rfl
 pyHash := fun hv h => by
  rcases Zr hv with ⟨i, t, rfl, rfl⟩ | ⟨x, t, rfl, rfl⟩
  ·exact wpAny_pyHash_int h
  ·exact wpAny_pyHash_str h
 eqBool := fun hu hv h => by
  rcases Zr hu with ⟨i, t, rfl, rfl⟩ | ⟨x, t, rfl, rfl⟩
  ·rcases Zr hv with ⟨j, u, rfl, rfl⟩ | ⟨y, u, rfl, rfl⟩
   ·rw [Qfc] at h; exact wpAny_eqBool_int h
   ·rw [Qfx] at h; exact SeqAt.EqAt.int_str i t y u _ _ _ _ h
  ·rcases Zr hv with ⟨j, u, rfl, rfl⟩ | ⟨y, u, rfl, rfl⟩
   ·rw [Qfo] at h; exact SeqAt.EqAt.str_int x t j u _ _ _ _ h
   ·rw [Qgj] at h; exact wpAny_eqBool_str h
 «strs» := fun k x t v h => by
  rcases Zr h with ⟨i, u, rfl, e⟩ | ⟨y, u, rfl, e⟩
  ·exact nomatch e
  ·injection e with e1 _
   subst e1
   cases v <;> rfl

end L2

namespace L2
open PySem PySem.Spec PyProof.Rows

inductive V where
 | non | bl (b : Bool) | int (i : Int) | str (x : Str) | byt (b : Array UInt8) | flt (b : UInt64) | ref (a : Addr) | ty (n : String)
 deriving DecidableEq

noncomputable def RelV : V → Value → Prop
 | .non, u => u = Value.none
 | .bl b, u => u = Value.bool b
 | .int i, u => ∃ t, u = Value.int i t
 | .str x, u => ∃ t, u = Value.str x t
 | .byt b, u => ∃ t, u = Value.bytes b t
 | .flt b, u => ∃ t, u = Value.float b t
 | .ref a, u => u = Value.ref a
 | .ty n, u => u = Value.type n

noncomputable abbrev Vals : List V → List Value → Prop := Paired RelV
theorem Vals.length {xs : List V} {us : List Value} (r : Vals xs us) : xs.length = us.length := Paired.length r
theorem Vals.get : ∀ {xs : List V} {us : List Value} {i : Nat} {x : V}, Vals xs us → xs[i]? = some x → ∃ u, us[i]? = some u ∧ RelV x u
 | _, _, _, _, .nil, e => by simp at e
 | _, _, 0, _, .cons r _, e => by simp at e; subst e; exact ⟨_, rfl, r⟩
 | _, _, i + 1, x, .cons _ t, e => by
  obtain ⟨u, h1, h2⟩ := Vals.get (i := i) (x := x) t (by simpa using e)
  exact ⟨u, by simpa using h1, h2⟩
theorem Vals.set {x : V} {u : Value} (r : RelV x u) : ∀ {xs : List V} {us : List Value} (i : Nat), Vals xs us → Vals (xs.set i x) (us.set i u)
 | _, _, _, .nil => .nil
 | _, _, 0, .cons _ t => .cons r t
 | _, _, i + 1, .cons q t => .cons q (Vals.set r i t)
theorem Vals.append : ∀ {xs ys : List V} {us ws : List Value}, Vals xs us → Vals ys ws → Vals (xs ++ ys) (us ++ ws)
 | _, _, _, _, .nil, s => s
 | _, _, _, _, .cons r t, s => .cons r (Vals.append t s)
theorem Vals.take : ∀ {xs : List V} {us : List Value} (n : Nat), Vals xs us → Vals (xs.take n) (us.take n)
 | _, _, 0, _ => .nil
 | _, _, _ + 1, .nil => .nil
 | _, _, n + 1, .cons r t => .cons r (Vals.take n t)
theorem Vals.drop : ∀ {xs : List V} {us : List Value} (n : Nat), Vals xs us → Vals (xs.drop n) (us.drop n)
 | _, _, 0, r => r
 | _, _, _ + 1, .nil => .nil
 | _, _, n + 1, .cons _ t => Vals.drop n t
noncomputable def RelO : Option V → Option Value → Prop
 | some v, some u => RelV v u
 | none, none => True
 | _, _ => False
noncomputable def KV {κ : Type} : List (κ × V) → List (κ × Value) → Prop := Paired fun (p : κ × V) (q : κ × Value) => p.1 = q.1 ∧ RelV p.2 q.2

inductive Tr where
 | i (n : Int)
 | s (x : Str)
 | t (ks : List Tr)
noncomputable instance trDec : DecidableEq Tr := fun _ _ => Classical.propDecidable _
noncomputable def IsT (h : Heap) : Nat → Tr → Value → Prop
 | 0, _, _ => False
 | _ + 1, .i k, v => (∃ t, v = .int k t) ∨ ∃ b : Bool, v = .bool b ∧ k = if b then 1 else 0
 | _ + 1, .s x, v => ∃ t, v = .str x t
 | n + 1, .t ks, v => ∃ a its, v = .ref a ∧ h.IsTuple a its ∧ Paired (IsT h n) ks its.toList
theorem UP {α β : Type} {F : α → β → Prop} (hi : ∀ x y v, F x v → F y v → x = y) : ∀ {xs ys : List α} {vs : List β}, Paired F xs vs → Paired F ys vs → xs = ys
 | _, _, _, .nil, .nil => rfl
 | _, _, _, .cons a s, .cons b t => by rw [hi _ _ _ a b, UP hi s t]
theorem Qa1 {h : Heap} {n : Nat} {x : Tr} {a : Addr} (hx : IsT h n x (.ref a)) : ∃ m ks its, n = m + 1 ∧ x = .t ks ∧ h.IsTuple a its ∧ Paired (IsT h m) ks its.toList := by
 cases n with
 | zero => exact hx.elim
 | succ n =>
  cases x with
  | i k => rcases hx with ⟨t, e⟩ | ⟨b, e, _⟩ <;> cases e
  | s y => obtain ⟨t, e⟩ := hx; cases e
  | t ks => obtain ⟨a', its, e, p, q⟩ := hx; cases e; exact ⟨n, ks, its, rfl, rfl, p, q⟩
theorem Us {h : Heap} {a : Addr} {x y : Array Value} (hx : h.IsTuple a x) (hy : h.IsTuple a y) : x = y := by
 obtain ⟨o, h1, _, n, h2⟩ := hx
 obtain ⟨o', h1', _, n', h2'⟩ := hy
 rw [h1] at h1'; cases h1'
 rw [h2] at h2'; injection h2'
theorem Uf {h : Heap} : ∀ {n : Nat} (x y : Tr) (v : Value), IsT h n x v → IsT h n y v → x = y
 | 0, _, _, _, hx, _ => hx.elim
 | n + 1, x, y, v, hx, hy => by
  cases v with
  | ref a =>
   obtain ⟨m, ks, its, e, rfl, p, q⟩ := Qa1 hx
   obtain ⟨m', ls, its', e', rfl, p', q'⟩ := Qa1 hy
   cases e; cases e'
   cases Us p p'
   rw [UP (fun x y v => Uf (n := n) x y v) q q']
  | _ =>
   cases x with
   | i k =>
    cases y with
    | i k' =>
     rcases hx with ⟨t, e⟩ | ⟨b, e, rfl⟩ <;> cases e <;> rcases hy with ⟨t, e⟩ | ⟨b, e, rfl⟩ <;> cases e <;> rfl
    | s y => obtain ⟨t, e⟩ := hy; rcases hx with ⟨t, e'⟩ | ⟨b, e', _⟩ <;> (rw [e] at e'; cases e')
    | t ls => obtain ⟨a, its, e, _⟩ := hy; cases e
   | s z =>
    obtain ⟨t, e'⟩ := hx
    cases y with
    | i k => rcases hy with ⟨t, e⟩ | ⟨b, e, _⟩ <;> (rw [e] at e'; cases e')
    | s y => obtain ⟨t, e⟩ := hy; rw [e] at e'; cases e'; rfl
    | t ls => obtain ⟨a, its, e, _⟩ := hy; cases e
   | t ks => obtain ⟨a, its, e, _⟩ := hx; cases e
theorem Yc {α β : Type} {F G : α → β → Prop} (f : ∀ a b, F a b → G a b) : ∀ {l₁ : List α} {l₂ : List β}, Paired F l₁ l₂ → Paired G l₁ l₂
 | _, _, .nil => .nil
 | _, _, .cons r t => .cons (f _ _ r) (Yc f t)
theorem WF {h h' : Heap} {d : Addr} {o : Obj} {es ep} (ho : h.get? d = some o) (hd : o.data = .dict es ep) (hs : Heap.SameBut d h h') : ∀ {n : Nat} (k : Tr) (v : Value), IsT h n k v → IsT h' n k v
 | 0, _, _, x => x.elim
 | n + 1, .i k, v, x => x
 | n + 1, .s k, v, x => x
 | n + 1, .t ks, v, ⟨a, its, e, ⟨o', ho', hc, m, hd'⟩, q⟩ => by
  have hne : a ≠ d := by
   rintro rfl
   rw [ho'] at ho; cases ho
   rw [hd] at hd'; exact nomatch hd'
  exact ⟨a, its, e, ⟨o', (hs.2 a hne).trans ho', hc, m, hd'⟩, Yc (fun k v => WF ho hd hs k v) q⟩
noncomputable def hN (w : World) : Nat → Tr → Int
 | 0, _ => 0
 | _ + 1, .i k => hashInt k
 | _ + 1, .s x => hashStr w x
 | n + 1, .t ks => reduceHash (Builtin.Tuple.tupleHashOf (ks.map (hN w n)))
noncomputable def dN : Nat → Tr → Nat
 | 0, _ => 0
 | _ + 1, .i _ => 1
 | _ + 1, .s _ => 1
 | n + 1, .t ks => (ks.map (dN n)).sum + 1
section
variable {prog : Program} {w : World} {E : Value → Shared → Prop}
theorem Ww {n : Nat} {A : Around} (ih : ∀ (k : Tr) (v : Value) (s : Shared) (Q : Int → Shared → Prop), IsT s.heap n k v → Q (hN w n k) { s with toks := s.toks + dN n k } → wpAny (model prog w) A (pyHash v) Q E s) :
  ∀ (ks : List Tr) (vs : List Value) (s : Shared) (b : Array Int) (Q : Array Int → Shared → Prop), Paired (IsT s.heap n) ks vs →
  (∀ b', b'.toList = b.toList ++ ks.map (hN w n) → Q b' { s with toks := s.toks + (ks.map (dN n)).sum }) →
  wpAny (model prog w) A (forIn vs b fun x r => do let h ← pyHash x; pure PUnit.unit; pure (ForInStep.yield (r.push h))) Q E s
 | [], _, s, b, Q, x, h => by cases x; exact wpAny_pure (h b (by simp))
 | k :: ks, _, s, b, Q, x, h => by
  cases x with
  | cons x1 x2 =>
   rw [List.forIn_cons]
   refine wpAny_bind (wpAny_bind (ih k _ s _ x1 ?_))
   refine wpAny_bind (wpAny_pure (wpAny_pure ?_))
   refine Ww ih ks _ _ _ Q x2 fun b' hb => ?_
   have := h b' (by simp [hb])
   simpa [Nat.add_assoc] using this
theorem QcT : ∀ (n : Nat) (A : Around), A.units + n < cLine → ∀ (k : Tr) (v : Value) (s : Shared) (Q : Int → Shared → Prop), IsT s.heap n k v → Q (hN w n k) { s with toks := s.toks + dN n k } → wpAny (model prog w) A (pyHash v) Q E s
 | 0, _, _, _, _, _, _, x, _ => x.elim
 | n + 1, A, hu, .i k, v, s, Q, x, h => by
  rcases x with ⟨t, rfl⟩ | ⟨b, rfl, rfl⟩
  ·exact wpAny_pyHash_int h
  ·refine PySem.W.pyHash_slot (T := "bool") rfl F.slot_bool_hash entry_int_hash (args_int_hash _) (beq_builtin_none _) (.inr (by omega)) ?_
   cases b
   ·exact (show wpAny _ _ (do ret (← mkInt 0)) _ _ s from wpAny_bind (wpAny_mkInt (wpAny_pure ⟨_, _, rfl, h⟩)))
   ·exact (show wpAny _ _ (do ret (← mkInt 1)) _ _ s from wpAny_bind (wpAny_mkInt (wpAny_pure ⟨_, _, rfl, h⟩)))
 | n + 1, A, hu, .s y, v, s, Q, x, h => by
  obtain ⟨t, rfl⟩ := x
  exact wpAny_pyHash_str h
 | n + 1, A, hu, .t ks, v, s, Q, x, h => by
  obtain ⟨a, its, rfl, ⟨o, ho, hc, m, hd⟩, q⟩ := x
  refine PySem.W.pyHash_slot (T := "tuple") ⟨_, ho, hc⟩ F.slot_tuple_hash F.entry_tuple_hash (F.args_tuple_hash_1 _) (beq_builtin_none _) (.inr (by omega)) ?_
  show wpAny _ _ (Builtin.Tuple.tupleItemsOf (.ref a) >>= _) _ _ s
  refine wpAny_bind (wpAny_tupleItemsOf ho hd ?_)
  refine wpAny_bind ?_
  rw [← Array.forIn_toList]
  refine Ww (n := n) (fun k v s Q => QcT n A.in1 (by show A.units + 1 + n < cLine; omega) k v s Q) ks _ s #[] _ q fun b hb => ?_
  show wpAny _ _ (retInt (Builtin.Tuple.tupleHashOf b.toList)) _ _ _
  rw [hb]
  refine wpAny_bind (wpAny_mkInt (wpAny_pure ⟨_, _, rfl, ?_⟩))
  simpa [hN, dN, Nat.add_assoc] using h
theorem QeL {n : Nat} {h : Heap} {e : Nat → Bool} : ∀ {ks ls : List Tr} {us vs : List Value}, Paired (IsT h n) ks us → Paired (IsT h n) ls vs → (∀ (j : Nat) (x y : Tr), ks[j]? = some x → ls[j]? = some y → e j = decide (x = y)) →
  ((List.range (min us.length vs.length)).all e && us.length == vs.length) = decide (Tr.t ks = Tr.t ls) := by
 intro ks ls us vs p q he
 have l1 := Paired.length p
 have l2 := Paired.length q
 rw [← l1, ← l2]
 by_cases hl : ks.length = ls.length
 ·by_cases hk : ks = ls
  ·subst hk
   simp only [Nat.min_self, beq_self_eq_true, Bool.and_true, decide_true]
   rw [List.all_eq_true]
   intro j hj
   rw [List.mem_range] at hj
   rw [he j ks[j] ks[j] (List.getElem?_eq_getElem hj) (List.getElem?_eq_getElem hj)]
   simp
  ·have : decide (Tr.t ks = Tr.t ls) = false := decide_eq_false fun z => hk (Tr.t.inj z)
   rw [this, Bool.and_eq_false_iff]
   left
   have : ∃ j, ks[j]? ≠ ls[j]? := Classical.byContradiction fun z => hk (List.ext_getElem? fun j => Classical.byContradiction fun y => z ⟨j, y⟩)
   obtain ⟨j, hj⟩ := this
   have hjl : j < ks.length := Classical.byContradiction fun z => hj (by rw [List.getElem?_eq_none (by omega), List.getElem?_eq_none (by omega)])
   rw [List.all_eq_false]
   refine ⟨j, List.mem_range.mpr (by omega), ?_⟩
   rw [he j ks[j] ls[j] (List.getElem?_eq_getElem hjl) (List.getElem?_eq_getElem (by omega))]
   intro z
   rw [decide_eq_true_eq] at z
   exact hj (by rw [List.getElem?_eq_getElem hjl, List.getElem?_eq_getElem (by omega), z])
 ·have h1 : (ks.length == ls.length) = false := beq_eq_false_iff_ne.mpr hl
  rw [h1, Bool.and_false]
  exact (decide_eq_false fun z => hl (by rw [Tr.t.inj z])).symm
theorem XI {α β : Type} {F : α → β → Prop} : ∀ {l₁ : List α} {l₂ : List β} {j : Nat} {x : α}, Paired F l₁ l₂ → l₁[j]? = some x → ∃ v, l₂[j]? = some v ∧ F x v
 | _, _, 0, x, .cons r t, e => by simp at e; subst e; exact ⟨_, rfl, r⟩
 | _, _, j + 1, x, .cons r t, e => by
  obtain ⟨v, h1, h2⟩ := XI (j := j) (x := x) t (by simpa using e)
  exact ⟨v, by simpa using h1, h2⟩
open SeqAt in
theorem Qi5 {s : Shared} : ∀ (n : Nat) (A : Around), A.units + n < cLine → ∀ (x y : Tr) (u v : Value), IsT s.heap n x u → IsT s.heap n y v → EqAt A s u v (decide (x = y))
 | 0, _, _, _, _, _, _, hx, _ => hx.elim
 | n + 1, A, hu, .i a, .i b, u, v, hx, hy => by
  have hd : decide (Tr.i a = Tr.i b) = (a == b) := by
   by_cases z : a = b
   ·subst z; simp
   ·rw [decide_eq_false fun q => z (Tr.i.inj q)]; exact (beq_eq_false_iff_ne.mpr z).symm
  rw [hd]
  rcases hx with ⟨t, rfl⟩ | ⟨p, rfl, rfl⟩ <;> rcases hy with ⟨t', rfl⟩ | ⟨q, rfl, rfl⟩
  ·exact EqAt.int_int a t b t'
  ·exact EqAt.int_bool a t q
  ·exact EqAt.bool_int p b t'
  ·have := EqAt.bool_bool (A := A) (s := s) p q
   cases p <;> cases q <;> exact this
 | n + 1, A, hu, .i a, .s b, u, v, hx, hy => by
  obtain ⟨t', rfl⟩ := hy
  rw [decide_eq_false (fun z => nomatch z)]
  rcases hx with ⟨t, rfl⟩ | ⟨p, rfl, rfl⟩
  ·exact EqAt.int_str a t b t'
  ·exact EqAt.bool_str p b t'
 | n + 1, A, hu, .i a, .t ks, u, v, hx, hy => by
  obtain ⟨ad, its, rfl, p, _⟩ := hy
  rw [decide_eq_false (fun z => nomatch z)]
  rcases hx with ⟨t, rfl⟩ | ⟨q, rfl, rfl⟩
  ·exact EqAt.int_tuple a t p (by omega)
  ·exact EqAt.bool_tuple q p (by omega)
 | n + 1, A, hu, .s b, .i a, u, v, hx, hy => by
  obtain ⟨t', rfl⟩ := hx
  rw [decide_eq_false (fun z => nomatch z)]
  rcases hy with ⟨t, rfl⟩ | ⟨p, rfl, rfl⟩
  ·exact EqAt.str_int b t' a t
  ·exact EqAt.str_bool b t' p
 | n + 1, A, hu, .s a, .s b, u, v, hx, hy => by
  obtain ⟨t, rfl⟩ := hx
  obtain ⟨t', rfl⟩ := hy
  have hd : decide (Tr.s a = Tr.s b) = (a == b) := by
   by_cases z : a = b
   ·subst z; simp
   ·rw [decide_eq_false fun q => z (Tr.s.inj q)]; exact (beq_eq_false_iff_ne.mpr z).symm
  rw [hd]
  exact EqAt.str_str a t b t'
 | n + 1, A, hu, .s b, .t ks, u, v, hx, hy => by
  obtain ⟨ad, its, rfl, p, _⟩ := hy
  obtain ⟨t, rfl⟩ := hx
  rw [decide_eq_false (fun z => nomatch z)]
  exact EqAt.str_tuple b t p (by omega)
 | n + 1, A, hu, .t ks, .i a, u, v, hx, hy => by
  obtain ⟨ad, its, rfl, p, _⟩ := hx
  rw [decide_eq_false (fun z => nomatch z)]
  rcases hy with ⟨t, rfl⟩ | ⟨q, rfl, rfl⟩
  ·exact EqAt.tuple_int a t p (by omega)
  ·exact EqAt.tuple_bool q p (by omega)
 | n + 1, A, hu, .t ks, .s b, u, v, hx, hy => by
  obtain ⟨ad, its, rfl, p, _⟩ := hx
  obtain ⟨t, rfl⟩ := hy
  rw [decide_eq_false (fun z => nomatch z)]
  exact EqAt.tuple_str b t p (by omega)
 | n + 1, A, hu, .t ks, .t ls, u, v, hx, hy => by
  obtain ⟨ad, its, rfl, p, q⟩ := id hx
  obtain ⟨bd, its', rfl, p', q'⟩ := id hy
  by_cases hab : ad = bd
  ·subst hab
   have := Uf _ _ _ hx hy
   rw [this, decide_eq_true rfl]
   exact EqAt.same _
  ·refine EqAt.of_refs hab ?_
   have ih := Qi5 (s := s) n A.in1 (by show A.units + 1 + n < cLine; omega)
   have hz := RcAt.tuples (A := A) (s := s) (e := fun j => match ks[j]?, ls[j]? with | some x, some y => decide (x = y) | _, _ => false) p p' (by omega) (fun j h1 h2 => by
    have l1 := Paired.length q
    have l2 := Paired.length q'
    have j1 : j < ks.length := by rw [l1]; exact h1
    have j2 : j < ls.length := by rw [l2]; exact h2
    obtain ⟨x, hx⟩ : ∃ x, ks[j]? = some x := ⟨ks[j], List.getElem?_eq_getElem j1⟩
    obtain ⟨y, hy⟩ : ∃ y, ls[j]? = some y := ⟨ls[j], List.getElem?_eq_getElem j2⟩
    obtain ⟨u, hu1, hu2⟩ := XI q hx
    obtain ⟨t, ht1, ht2⟩ := XI q' hy
    rw [hx, hy]
    have e1 : its[j] = u := by
     rw [Array.getElem?_toList, Array.getElem?_eq_getElem h1] at hu1; exact Option.some.inj hu1
    have e2 : its'[j] = t := by
     rw [Array.getElem?_toList, Array.getElem?_eq_getElem h2] at ht1; exact Option.some.inj ht1
    rw [e1, e2]
    exact ih x y u t hu2 ht2)
   have := QeL (e := fun j => match ks[j]?, ls[j]? with | some x, some y => decide (x = y) | _, _ => false) q q' (fun j x y h1 h2 => by simp only [h1, h2])
   rw [Array.length_toList, Array.length_toList] at this
   rw [this] at hz
   exact hz
theorem QaN {A : Around} {s : Shared} : ∀ (n m : Nat) (k : Tr) (v : Value) (Q : Bool → Shared → Prop), IsT s.heap n k v → n ≤ m → Q true s → wpAny (model prog w) A (eqIsQuiet m v) Q E s
 | 0, _, _, _, _, x, _, _ => x.elim
 | n + 1, m, .i k, v, Q, x, _, h => by
  rcases x with ⟨t, rfl⟩ | ⟨b, rfl, rfl⟩
  ·rw [eqIsQuiet_byValue _ rfl]; exact wpAny_pure h
  ·rw [eqIsQuiet_byValue _ rfl]; exact wpAny_pure h
 | n + 1, m, .s k, v, Q, x, _, h => by
  obtain ⟨t, rfl⟩ := x
  rw [eqIsQuiet_byValue _ rfl]; exact wpAny_pure h
 | n + 1, 0, .t ks, v, Q, x, hm, h => by omega
 | n + 1, m + 1, .t ks, v, Q, x, hm, h => by
  obtain ⟨a, its, rfl, ⟨o, ho, hc, l, hd⟩, q⟩ := x
  have hT : s.TypeIs (.ref a) "tuple" := ⟨o, ho, hc⟩
  unfold eqIsQuiet
  refine wpAny_bind (wpAny_specialOf hT F.slot_tuple_eq.lookup ?_)
  show wpAny _ _ (isInstance (.ref a) (.type "tuple") >>= _) _ _ s
  refine wpAny_bind (wpAny_isInstance hT isSubtype_tuple_tuple ?_)
  simp only [Bool.not_true, Bool.false_eq_true, if_false]
  refine wpAny_bind (wpAny_seqItems ho hd ?_)
  refine wpAny_bind ?_
  show wpAny _ _ (forIn its _ _) _ _ s
  rw [← Array.forIn_toList]
  refine wpAny_forIn_list _ (fun rest r s' => r.1 = none ∧ s' = s ∧ ∃ ks', Paired (IsT s.heap n) ks' rest) _ ?_ ?_ _ _ ⟨rfl, rfl, ks, q⟩
  ·rintro v rest r s' ⟨hr, rfl, ks', q'⟩
   cases q' with
   | cons q1 q2 =>
    refine wpAny_bind (QaN n m _ _ _ q1 (by omega) ?_)
    simp only [Bool.not_true, Bool.false_eq_true, if_false]
    exact wpAny_pure ⟨rfl, rfl, _, q2⟩
  ·rintro ⟨r1, r2⟩ s' ⟨hr, rfl, _⟩
   simp only at hr
   subst hr
   exact wpAny_pure h
end
noncomputable def V2 (prog : Program) (w : World) : HeapKind prog w Tr where
 is := fun h k a => IsT h 8 k (.ref a)
 hash := hN w 8
 draws := dN 8
 room := fun A => A.units + 8 < cLine
 inj := fun hx hy => Uf _ _ _ hx hy
 keeps := fun x ho hd hs => WF ho hd hs _ _ x
 pyHash := fun hu hk h => QcT 8 _ hu _ _ _ _ hk h
 eqBool := fun hu hx hy h => Qi5 8 _ hu _ _ _ _ hx hy _ _ _ _ h
 quiet := fun hk h => QaN 8 8 _ _ _ hk (Nat.le_refl _) h

inductive HO where
 /-- a list -/
 | lst (xs : List V)
 /-- a tuple (never changes) -/
 | tup (xs : List V)
 /-- a dict whose keys are ints and texts; one whose keys are tuples of ints and texts (the empty one is both) -/
 | dK (kvs : List (Key × V)) | dT (kvs : List (Tr × Addr × V))
 /-- a set of ints: its members, its size -/
 | set (S : Int → Bool) (n : Nat)
 /-- an instance of the class at C, its dict at dx, its attributes -/
 | ins (C dx : Addr) (fs : List (Str × V))
 /-- the dict of the instance at x -/
 | own (x : Addr)
 /-- the dict of an exception -/
 | xd (fs : List (Str × V))
 /-- a bound method, f of x -/
 | met (f x : Addr)
 /-- a range object lo, lo + 1, .. below hi -/
 | rng (lo hi : Int)
 /-- a thing that is known to the object (the script; a dict while a loop walks it): read, never written while it is so -/
 | frz (o : Obj) (u : HO)
 /-- a Qex object's table -/
 | tbl (ps : Array Value)
 /-- any other thing, by what is true of its one object (a def of one's own: SetO a S n := HO.ext fun h => ..) -/
 | ext (φ : Heap → Prop)

noncomputable abbrev Hp := Addr → Option HO
noncomputable def upd (H : Hp) (a : Addr) (o : HO) : Hp := fun b => if b = a then some o else H b
theorem Va {H : Hp} {a : Addr} {o : HO} : upd H a o a = some o := by unfold upd; rw [if_pos rfl]
theorem QW {H : Hp} {a b : Addr} {o : HO} (h : b ≠ a) : upd H a o b = H b := by unfold upd; rw [if_neg h]
theorem Vx {H : Hp} {a b : Addr} {o : HO} (h : H a = some o) (h' : H b = none) : a ≠ b := by
 intro e; subst e; rw [h] at h'; cases h'

section
variable (P : Program) (w : World)
noncomputable def ObjOk (H : Hp) (h : Heap) (a : Addr) : HO → Prop
 | .lst xs => xs.length ≤ sizeLine ∧ ∃ (its : List Value) (n : Nat), Vals xs its ∧ h.get? a = some { cls := .type "list", data := .seq its.toArray n }
 | .tup xs => xs.length ≤ sizeLine ∧ ∃ its : List Value, Vals xs its ∧ IsTup h a its.toArray
 | .dK kvs => kvs.length ≤ sizeLine ∧ (a == sysModules) = false ∧ ∃ vs, KV kvs vs ∧ h.DictOf (Qa4 P w) a vs
 | .dT kvs => kvs.length ≤ sizeLine ∧ (a == sysModules) = false ∧ ∃ xs : List (Tr × Addr × Value),
   Paired (fun (p : Tr × Addr × V) (q : Tr × Addr × Value) => p.1 = q.1 ∧ p.2.1 = q.2.1 ∧ RelV p.2.2 q.2.2) kvs xs ∧
   ∃ o es ep, h.get? a = some o ∧ o.ExactDict ∧ o.data = .dict es ep ∧ es.toList = xs.map (entryOfKey (V2 P w)) ∧ (xs.map (·.1)).Nodup
 | .set S n => h.SetOf (intKind P w) a S n
 | .ins C dx fs => H dx = some (.own a) ∧ fs.length ≤ 1000 ∧ dx ≠ a ∧ h.get? a = some (PySem.W.instObj C dx) ∧
   ∃ mA, h.Ns1 dx mA ∧ (∀ f, RelO (fs.lookup f) (mA f)) ∧ PySem.Within mA (fs.map (·.1))
 | .own _ => ∃ o, h.get? a = some o
 | .xd fs => ∃ mA, h.Ns1 a mA ∧ ∀ f, RelO (fs.lookup f) (mA f)
 | .rng lo hi => ∃ t u v, h.get? a = some { cls := .type "range", data := .fields #[.int lo t, .int hi u, .int 1 v] }
 | .frz o u => h.get? a = some o ∧ ObjOk H h a u
 | .tbl ps => h.get? a = some { cls := .none, data := .fields ps }
 | .met f x => h.get? a = some (PySem.W.methodObj (.ref f) (.ref x))
 | .ext φ => φ h ∧ (∃ o, h.get? a = some o) ∧ ∀ h1 h2 : Heap, φ h1 → (∀ o, h1.get? a = some o → h2.get? a = some o) → φ h2
noncomputable def HOk (H : Hp) (h : Heap) : Prop := ∀ a o, H a = some o → ObjOk P w H h a o
end

section
variable {P : Program} {w : World} {H H' : Hp} {h h' : Heap} {a : Addr} {o : HO}
theorem ObjOk.lt (x : ObjOk P w H h a o) : a < h.objs.size := by
 cases o with
 | lst xs => obtain ⟨_, _, _, _, e⟩ := x; exact Heap.lt_size e
 | tup xs => obtain ⟨_, _, _, p⟩ := x; exact p.lt
 | dK kvs => obtain ⟨_, _, _, _, o, _, _, e, _⟩ := x; exact Heap.lt_size e
 | dT kvs => obtain ⟨_, _, _, _, o, _, _, e, _⟩ := x; exact Heap.lt_size e
 | set S n => obtain ⟨o, _, _, _, e, _⟩ := x; exact Heap.lt_size e
 | ins C dx fs => obtain ⟨_, _, _, e, _⟩ := x; exact Heap.lt_size e
 | own y => obtain ⟨_, e⟩ := x; exact Heap.lt_size e
 | xd fs => obtain ⟨_, ⟨_, _, _, e, _⟩, _⟩ := x; exact Heap.lt_size e
 | rng lo hi => obtain ⟨_, _, _, e⟩ := x; exact Heap.lt_size e
 | frz ob u => obtain ⟨e, _⟩ := x; exact Heap.lt_size e
 | tbl ps => exact Heap.lt_size (show h.get? a = some _ from x)
 | met f y => exact Heap.lt_size (show h.get? a = some _ from x)
 | ext φ => obtain ⟨_, ⟨_, e⟩, _⟩ := x; exact Heap.lt_size e
theorem Paired.mapP {α β : Type} {F G : α → β → Prop} : ∀ {l₁ : List α} {l₂ : List β}, Paired F l₁ l₂ → (∀ a b, F a b → G a b) → Paired G l₁ l₂
 | _, _, .nil, _ => .nil
 | _, _, .cons r t, f => .cons (f _ _ r) (Paired.mapP t f)
theorem ObjOk.stay (x : ObjOk P w H h a o) (k : ∀ b u, (b = a ∨ H b = some (.own a)) → h.get? b = some u → h'.get? b = some u)
  (ho : ∀ b, H b = some (.own a) → H' b = some (.own a)) (ht : ∀ b xs, H b = some (.tup xs) → H' b = some (.tup xs)) : ObjOk P w H' h' a o := by
 induction o with
 | lst xs => obtain ⟨z, its, n, r, e⟩ := x; exact ⟨z, its, n, r, k _ _ (.inl rfl) e⟩
 | tup xs => obtain ⟨z, its, r, ob, e, c⟩ := x; exact ⟨z, its, r, ob, k _ _ (.inl rfl) e, c⟩
 | dK kvs => obtain ⟨z, y, vs, r, ob, es, ep, e, c⟩ := x; exact ⟨z, y, vs, r, ob, es, ep, k _ _ (.inl rfl) e, c⟩
 | dT kvs =>
  obtain ⟨z, y, xs, r, ob, es, ep, e, c⟩ := x
  exact ⟨z, y, xs, r, ob, es, ep, k _ _ (.inl rfl) e, c⟩
 | set S n => obtain ⟨ob, es, ep, t, e, c⟩ := x; exact ⟨ob, es, ep, t, k _ _ (.inl rfl) e, c⟩
 | ins C dx fs =>
  obtain ⟨d, z, ne, e, mA, ⟨od, es, ep, e2, c⟩, r⟩ := x
  exact ⟨ho _ d, z, ne, k _ _ (.inl rfl) e, mA, ⟨od, es, ep, k _ _ (.inr d) e2, c⟩, r⟩
 | own y => obtain ⟨ob, e⟩ := x; exact ⟨ob, k _ _ (.inl rfl) e⟩
 | xd fs => obtain ⟨mA, ⟨od, es, ep, e, c⟩, r⟩ := x; exact ⟨mA, ⟨od, es, ep, k _ _ (.inl rfl) e, c⟩, r⟩
 | rng lo hi => obtain ⟨t, u, v, e⟩ := x; exact ⟨t, u, v, k _ _ (.inl rfl) e⟩
 | frz ob u ih => obtain ⟨e, q⟩ := x; exact ⟨k _ _ (.inl rfl) e, ih q⟩
 | tbl ps =>
  have e : h.get? a = some { cls := .none, data := .fields ps } := x
  show h'.get? a = some { cls := .none, data := .fields ps }
  exact k a _ (.inl rfl) e
 | met f y =>
  have e : h.get? a = some (PySem.W.methodObj (.ref f) (.ref y)) := x
  show h'.get? a = some (PySem.W.methodObj (.ref f) (.ref y))
  exact k a _ (.inl rfl) e
 | ext φ => obtain ⟨p, ⟨o, e⟩, st⟩ := x; exact ⟨st _ _ p fun o q => k _ _ (.inl rfl) q, ⟨o, k _ _ (.inl rfl) e⟩, st⟩
theorem HOk.lt (x : HOk P w H h) (e : H a = some o) : a < h.objs.size := (x a o e).lt
theorem HOk.fresh (x : HOk P w H h) (e : h.objs.size ≤ a) : H a = none := by
 cases q : H a with
 | none => rfl
 | some u => exact absurd (Nat.lt_of_lt_of_le (x.lt q) e) (Nat.lt_irrefl _)
theorem HOk.kept (x : HOk P w H h) (k : ∀ b u, h.get? b = some u → h'.get? b = some u) : HOk P w H h' := fun a o e =>
 (x a o e).stay (fun b u _ q => k b u q) (fun _ q => q) fun _ _ q => q
theorem HOk.laid (x : HOk P w H h) (k : ∀ b u, h.get? b = some u → h'.get? b = some u) (hp : h.objs.size ≤ a) (new : ObjOk P w (upd H a o) h' a o) : HOk P w (upd H a o) h' := fun b u e => by
 have hn := x.fresh hp
 by_cases hb : b = a
 ·subst hb; rw [Va] at e; cases e; exact new
 ·rw [QW hb] at e
  exact (x b u e).stay (fun c v _ q => k c v q) (fun c q => by rw [QW (Vx q hn)]; exact q) fun c xs q => by rw [QW (Vx q hn)]; exact q
end

noncomputable def Rd (H : Hp) (a : Addr) (u : HO) : Prop := H a = some u ∨ ∃ o, H a = some (.frz o u)
theorem Rd.ok {P : Program} {w : World} {H : Hp} {h : Heap} {a : Addr} {u : HO} (r : Rd H a u) (x : HOk P w H h) : ObjOk P w H h a u := by
 rcases r with r | ⟨o, r⟩
 ·exact x a u r
 ·obtain ⟨_, q⟩ := x a _ r
  exact q
noncomputable def Mut : Option HO → Prop
 | some (.lst _) => True
 | some (.dK _) => True
 | some (.dT _) => True
 | some (.set _ _) => True
 | some (.ins _ _ _) => True
 | some (.ext _) => True
 | _ => False
section
variable {P : Program} {w : World} {H : Hp} {h h' : Heap} {x e : Addr} {o' : HO}
theorem HOk.write (ok : HOk P w H h) (mu : Mut (H x)) (he : e = x ∨ H e = some (.own x)) (k : ∀ b u, b ≠ e → h.get? b = some u → h'.get? b = some u) (heo : ∃ u, h'.get? e = some u)
  (new : ObjOk P w (upd H x o') h' x o') : HOk P w (upd H x o') h' := fun b u q => by
 have nown : ∀ c y, H c = some (.own y) → c ≠ x := fun c y r z => by subst z; rw [r] at mu; exact mu
 have ntup : ∀ c xs, H c = some (.tup xs) → c ≠ x := fun c xs r z => by subst z; rw [r] at mu; exact mu
 by_cases hb : b = x
 ·subst hb; rw [Va] at q; cases q; exact new
 ·rw [QW hb] at q
  by_cases hbe : b = e
  ·have q' : H b = some (.own x) := by
    rcases he with z | z
    ·exact absurd (hbe.trans z) hb
    ·rw [hbe]; exact z
   rw [q] at q'; cases q'
   obtain ⟨v, hv⟩ := heo
   exact ⟨v, by rw [hbe]; exact hv⟩
  ·refine (ok b u q).stay (fun c v hc r => k c v ?_ r) (fun c r => by rw [QW (nown c b r)]; exact r) fun c xs r => by rw [QW (ntup c xs r)]; exact r
   rcases hc with rfl | hc
   ·exact hbe
   ·rintro rfl
    rcases he with z | z
    ·exact nown c b hc z
    ·rw [hc] at z; cases z; exact hb rfl
end

structure Un (fs ex : List Addr) (H H' : Hp) (h h' : Heap) : Prop where
 keep : ∀ b o, h.get? b = some o → H b = none → b ∉ fs → b ∉ ex → h'.get? b = some o
 slot : ∀ b o, h.get? b = some o → H b = none → b ∈ fs → b ∉ ex → ∃ sl, h'.get? b = some { o with slots := sl }
 free : ∀ b o, h.get? b = some o → H b = none → b ∉ ex → H' b = none
 there : ∀ b o, h.get? b = some o → b ∉ ex → ∃ o', h'.get? b = some o'
 tups : ∀ b xs, H b = some (.tup xs) → H' b = some (.tup xs)
 frzs : ∀ b o u, H b = some (.frz o u) → H' b = some (.frz o u)
 tbls : ∀ b ps, H b = some (.tbl ps) → ∃ more, H' b = some (.tbl (ps ++ more))
section
variable {fs fs' ex ex' : List Addr} {H H1 H2 : Hp} {h h1 h2 h' : Heap} {a x e : Addr} {o : HO}
theorem Un.any (u : Un fs ex H H1 h h1) {b : Addr} {ob : Obj} (q : h.get? b = some ob) (n : H b = none) (hx : b ∉ ex) : ∃ sl, h1.get? b = some { ob with slots := sl } := by
 by_cases hb : b ∈ fs
 ·exact u.slot b ob q n hb hx
 ·exact ⟨ob.slots, u.keep b ob q n hb hx⟩
theorem Un.kept (k : ∀ b u, h.get? b = some u → h'.get? b = some u) : Un fs ex H H h h' :=
 ⟨fun b ob q _ _ _ => k b ob q, fun b ob q _ _ _ => ⟨ob.slots, k b ob q⟩, fun _ _ _ n _ => n, fun b ob q _ => ⟨ob, k b ob q⟩, fun _ _ q => q, fun _ _ _ q => q, fun _ ps q => ⟨#[], by rw [q]; simp⟩⟩
theorem Un.refl : Un fs ex H H h h := Un.kept fun _ _ q => q
theorem Un.laid (k : ∀ b u, h.get? b = some u → h'.get? b = some u) (hp : h.objs.size ≤ a) (hn : H a = none) : Un fs ex H (upd H a o) h h' where
 keep := fun b u q _ _ _ => k b u q
 slot := fun b u q _ _ _ => ⟨u.slots, k b u q⟩
 free := fun b u q n _ => by rw [QW (Nat.ne_of_lt (Nat.lt_of_lt_of_le (Heap.lt_size q) hp))]; exact n
 there := fun b u q _ => ⟨u, k b u q⟩
 tups := fun b xs q => by rw [QW (Vx q hn)]; exact q
 frzs := fun b u xs q => by rw [QW (Vx q hn)]; exact q
 tbls := fun b ps q => ⟨#[], by rw [QW (Vx q hn), q]; simp⟩
theorem Un.write (mu : Mut (H x)) (he : e = x ∨ H e = some (.own x)) (k : ∀ b u, b ≠ e → h.get? b = some u → h'.get? b = some u) (heo : ∃ u, h'.get? e = some u) : Un fs ex H (upd H x o) h h' := by
 have hx : ∀ b, H b = none → b ≠ x := fun b n z => by subst z; rw [n] at mu; exact mu
 have hb : ∀ b, H b = none → b ≠ e := fun b n z => by
  subst z
  rcases he with r | r
  ·exact hx b n r
  ·rw [n] at r; cases r
 have hm : ∀ b u, H b = some u → ¬ Mut (some u) → b ≠ x := fun b u q nm z => by subst z; rw [q] at mu; exact nm mu
 refine ⟨fun b u q n _ _ => k b u (hb b n) q, fun b u q n _ _ => ⟨u.slots, k b u (hb b n) q⟩, fun b u q n _ => by rw [QW (hx b n)]; exact n, fun b u q _ => ?_,
  fun b xs q => by rw [QW (hm b _ q fun z => z)]; exact q, fun b u xs q => by rw [QW (hm b _ q fun z => z)]; exact q, fun b ps q => ⟨#[], by rw [QW (hm b _ q fun z => z), q]; simp⟩⟩
 by_cases hbe : b = e
 ·subst hbe; exact heo
 ·exact ⟨u, k b u hbe q⟩
end

noncomputable def trk (h : Heap) (H : Hp) : List Addr := (List.range h.objs.size).filter fun a => (H a).isSome
noncomputable def Qcj (h : Heap) (H : Hp) : Heap := PySem.W.hideAll h (trk h H)
theorem QaC (h : Heap) (H : Hp) : (Qcj h H).objs.size = h.objs.size := PySem.W.hideAll_size _ _
theorem QcI {h : Heap} {H : Hp} {b : Addr} {o : Obj} (e : h.get? b = some o) (n : H b = none) : (Qcj h H).get? b = some o :=
 PySem.W.hideAll_get _ e fun hm => by
  have q : (H b).isSome = true := (List.mem_filter.mp hm).2
  rw [n] at q; simp at q
theorem Qel {h : Heap} {H : Hp} {b : Addr} {o : Obj} (e : (Qcj h H).get? b = some o) : h.get? b = some o ∧ H b = none := by
 have e' : h.get? b = some o := PySem.W.of_hideAll (trk h H) e
 refine ⟨e', ?_⟩
 cases q : H b with
 | none => rfl
 | some x =>
  have hm : b ∈ trk h H := List.mem_filter.mpr ⟨List.mem_range.mpr (Heap.lt_size e'), by simp [q]⟩
  have z : (Qcj h H).get? b = none := PySem.W.hideAll_none (trk h H) hm
  rw [z] at e; cases e

end L2

namespace L2
open PySem PySem.Spec PyProof.Rows

structure Mod (K : PySem.W.Frag) (mg : Str → Option Value) (base : Heap) : Prop where
 kin : K.In base
 glob : base.Ns mainGlobals mg
 blt : ∃ mb, base.Ns builtinsNs mb ∧ ∀ x : Str, x ≠ "__name__" → mb x = bootBuiltins x
 nolimit : base.NoLimit

structure Cx where
 prog : Program
 w : World
 K : PySem.W.Frag
 mg : Str → Option Value
 base : Heap
 A : Around
 N : List Str
 s₀ : Shared
 H₀ : Hp
 env : Env
 outer : List Env
 stack : List Env
 ex : List Addr
 fn : Str → Bool
 calm : Bool
 pn : List (Addr × Obj)
 xe : Value → Shared → Prop
noncomputable def frs (l : List Env) : List Addr := l.filterMap (·.frame)
noncomputable abbrev Cx.fs (X : Cx) : List Addr := frs X.outer

noncomputable def Vis (sc : Scope) (x : Str) : Prop := sc.names.lookup x = some .local ∨ sc.names.lookup x = some .cell ∨ sc.names.lookup x = some .free
noncomputable def Loc (sc : Scope) (x : Str) : Prop := sc.names.lookup x = some .local ∨ sc.names.lookup x = some .cell
noncomputable def Qkq (env : Env) (h : Heap) (m : Str → Option Value) (x : Str) (u : Value) : Prop :=
 (env.kindOf x = some .local ∧ m x = some u) ∨ ((env.kindOf x = some .cell ∨ env.kindOf x = some .free) ∧ ∃ c, env.cells.lookup x = some c ∧ h.IsCell c (some u))

structure Cx.Ok (X : Cx) : Prop where
 mod : Mod X.K X.mg X.base
 kind : X.env.scope.kind = .function
 glob : X.env.globals = mainGlobals
 blt : X.env.builtins = builtinsNs
 above : X.s₀.heap.objs.size ≤ X.env.locals
 inj : ∀ x y c, X.env.cells.lookup x = some c → X.env.cells.lookup y = some c → x = y
 has : ∀ x, (X.env.kindOf x = some .cell ∨ X.env.kindOf x = some .free) → ∃ c, X.env.cells.lookup x = some c
 cab : ∀ x c, X.fn x = true → X.env.cells.lookup x = some c → X.s₀.heap.objs.size ≤ c
 hd : X.calm = true → X.A.handled = none
 frames : X.A.frames = some X.stack
 stk : X.stack = X.outer ∨ (X.stack = X.env :: X.outer ∧ X.env.frame = some X.env.locals)
 exf : ∀ b ∈ X.ex, b ≠ X.env.locals ∧ ∀ x c, X.env.cells.lookup x = some c → c ≠ b
 bs : ∀ b o, X.base.get? b = some o → X.s₀.heap.get? b = some o ∧ X.H₀ b = none
 bsz : X.base.objs.size ≤ X.s₀.heap.objs.size
 noex : ∀ b o, X.base.get? b = some o → b ∉ X.ex
 exfs : ∀ b ∈ X.ex, b ∉ X.fs
 funs : X.s₀.heap.FunFrames X.base X.outer
 frf : ∀ b ∈ X.fs, X.H₀ b = none

structure Inv (X : Cx) (pins : List (Addr × Obj)) (σ : List (Option V)) (H : Hp) (s : Shared) : Prop where
 ok : X.Ok
 os : s.os = X.s₀.os
 bare : AllBare s.gens
 base : Un X.fs X.ex X.H₀ H X.s₀.heap s.heap
 loc : ∃ m, s.heap.Ns X.env.locals m ∧ ∀ (i : Nat) (x : Str) (v : V), X.N[i]? = some x → σ[i]? = some (some v) → Vis X.env.scope x → ∃ u, RelV v u ∧ Qkq X.env s.heap m x u
 cell : ∀ x c, X.env.cells.lookup x = some c → ∃ v, s.heap.IsCell c v
 free : H X.env.locals = none
 freeC : ∀ x c, X.env.cells.lookup x = some c → H c = none
 pin : ∀ p ∈ X.pn ++ pins, s.heap.get? p.1 = some p.2 ∧ H p.1 = none ∧ p.1 ≠ X.env.locals ∧ p.1 ∉ X.fs ∧ ∀ v, p.2.data ≠ .cell v
 hok : HOk X.prog X.w H s.heap
 len : σ.length = X.N.length

section
variable {X : Cx} {pins : List (Addr × Obj)} {σ : List (Option V)} {H H' : Hp} {s : Shared} {h' : Heap}

theorem Cx.Ok.nofr (ok : X.Ok) {b : Addr} {o : Obj} (e : X.base.get? b = some o) : b ∉ X.fs := fun hb => by
 have := (ok.funs.mem hb).1
 rw [e] at this; cases this
theorem Inv.bs (I : Inv X pins σ H s) : ∀ b o, X.base.get? b = some o → s.heap.get? b = some o ∧ H b = none := fun b o e =>
 ⟨I.base.keep b o (I.ok.bs b o e).1 (I.ok.bs b o e).2 (I.ok.nofr e) (I.ok.noex b o e), I.base.free b o (I.ok.bs b o e).1 (I.ok.bs b o e).2 (I.ok.noex b o e)⟩
theorem Inv.bk (I : Inv X pins σ H s) : ∀ b o, X.base.get? b = some o → s.heap.get? b = some o := fun b o e => (I.bs b o e).1
theorem Inv.mod (I : Inv X pins σ H s) : Mod X.K X.mg X.base := I.ok.mod
theorem Inv.kIn (I : Inv X pins σ H s) : X.K.In s.heap := I.ok.mod.kin.keeps I.bk
theorem Inv.lt (I : Inv X pins σ H s) : X.env.locals < s.heap.objs.size := let ⟨_, hn, _⟩ := I.loc; hn.lt
theorem Inv.sz (I : Inv X pins σ H s) : X.s₀.heap.objs.size ≤ s.heap.objs.size := Nat.le_trans I.ok.above (Nat.le_of_lt I.lt)
theorem Inv.nofs (I : Inv X pins σ H s) {a : Addr} (h : s.heap.objs.size ≤ a) : a ∉ X.fs := fun hb => by
 obtain ⟨_, o, ho, _⟩ := I.ok.funs.mem hb
 exact absurd (Nat.lt_of_lt_of_le (Heap.lt_size ho) (Nat.le_trans I.sz h)) (Nat.lt_irrefl _)
theorem Inv.cne (I : Inv X pins σ H s) : ∀ x c, X.env.cells.lookup x = some c → c ≠ X.env.locals := fun x c e z => by
 obtain ⟨v, o, ho, hd⟩ := I.cell x c e
 obtain ⟨m, ⟨o', es, ep, ho', hd', _⟩, _⟩ := I.loc
 rw [z, ho'] at ho; cases ho; rw [hd'] at hd; cases hd
theorem Inv.funs (I : Inv X pins σ H s) : s.heap.FunFrames X.base X.outer := by
 have all : ∀ (l : List Env), (∀ b ∈ frs l, b ∈ X.fs) → X.s₀.heap.FunFrames X.base l → s.heap.FunFrames X.base l := by
  intro l
  induction l with
  | nil => intro _ _; trivial
  | cons env r ih =>
   intro hs hl
   obtain ⟨hk, ⟨L, o, hf, hn, ho, hd⟩, hr⟩ := hl
   have hL : L ∈ X.fs := hs L (by unfold frs; rw [List.filterMap_cons, hf]; exact List.mem_cons_self)
   obtain ⟨sl, e⟩ := I.base.slot L o ho (I.ok.frf L hL) hL fun z => I.ok.exfs L z hL
   exact ⟨hk, ⟨L, _, hf, hn, e, hd⟩, ih (fun b hb => hs b (by unfold frs; rw [List.filterMap_cons, hf]; exact List.mem_cons_of_mem _ hb)) hr⟩
 exact all X.outer (fun _ hb => hb) I.ok.funs

theorem Inv.stack (I : Inv X pins σ H s) : s.heap.FunFrames X.base X.stack := by
 rcases I.ok.stk with e | ⟨e, hf⟩
 ·rw [e]; exact I.funs
 ·rw [e]
  obtain ⟨m, hn, _⟩ := I.loc
  refine .cons (by rw [I.ok.kind]; decide) hf hn ?_ I.funs
  exact Heap.get?_none_of_le (Nat.le_trans I.ok.bsz I.ok.above)
theorem Inv.stkSub (I : Inv X pins σ H s) : ∀ b ∈ frs X.stack, b ∈ X.env.locals :: X.fs := fun b hb => by
 rcases I.ok.stk with e | ⟨e, hf⟩
 ·rw [e] at hb; exact List.mem_cons_of_mem _ hb
 ·rw [e] at hb
  unfold frs at hb
  rw [List.filterMap_cons, hf] at hb
  exact hb
theorem Inv.stkFree (I : Inv X pins σ H s) : ∀ b ∈ frs X.stack, H b = none := fun b hb => by
 rcases List.mem_cons.mp (I.stkSub b hb) with e | hb
 ·rw [e]; exact I.free
 ·obtain ⟨_, o, ho, _⟩ := I.ok.funs.mem hb
  exact I.base.free b o ho (I.ok.frf b hb) fun z => I.ok.exfs b z hb

theorem Inv.step {g' : Array GenState} {t' : Nat} {d' : Drawn} {ch : List Addr} (I : Inv X pins σ H s)
  (hch : ∀ b ∈ ch, (b ∈ X.ex ∨ X.s₀.heap.objs.size ≤ b) ∧ b ≠ X.env.locals ∧ (∀ x c, X.env.cells.lookup x = some c → c ≠ b) ∧ ∀ p ∈ X.pn ++ pins, p.1 ≠ b)
  (keep : ∀ b o, b ≠ X.env.locals → b ∉ X.fs → b ∉ ch → s.heap.get? b = some o → H b = none → h'.get? b = some o)
  (slot : ∀ b o, b ≠ X.env.locals → b ∈ X.fs → b ∉ ch → s.heap.get? b = some o → H b = none → ∃ sl, h'.get? b = some { o with slots := sl }) (free : ∀ b o, b ∉ ch → s.heap.get? b = some o → H b = none → H' b = none)
  (there : ∀ b o, b ∉ ch → s.heap.get? b = some o → ∃ o', h'.get? b = some o')
  (tups : ∀ b xs, H b = some (.tup xs) → H' b = some (.tup xs)) (frzs : ∀ b o u, H b = some (.frz o u) → H' b = some (.frz o u)) (tbls : ∀ b ps, H b = some (.tbl ps) → ∃ more, H' b = some (.tbl (ps ++ more)))
  (ns : ∀ m, s.heap.Ns X.env.locals m → h'.Ns X.env.locals m) (hok : HOk X.prog X.w H' h') (hg : AllBare g') :
  Inv X pins σ H' { s with heap := h', gens := g', drawn := d', toks := t' } := by
 have neL : ∀ b o, X.s₀.heap.get? b = some o → b ≠ X.env.locals := fun b o e => Nat.ne_of_lt (Nat.lt_of_lt_of_le (Heap.lt_size e) I.ok.above)
 have neC : ∀ b o, X.s₀.heap.get? b = some o → b ∉ X.ex → b ∉ ch := fun b o e hx hb => by
  rcases (hch b hb).1 with z | z
  ·exact hx z
  ·exact absurd (Nat.lt_of_lt_of_le (Heap.lt_size e) z) (Nat.lt_irrefl _)
 have cellK : ∀ x c, X.env.cells.lookup x = some c → ∀ v, s.heap.IsCell c v → h'.IsCell c v := fun x c e v ⟨o, ho, hd⟩ => by
  have nch : c ∉ ch := fun z => (hch c z).2.2.1 x c e rfl
  by_cases hc : c ∈ X.fs
  ·obtain ⟨sl, q⟩ := slot c o (I.cne x c e) hc nch ho (I.freeC x c e)
   exact ⟨_, q, hd⟩
  ·exact ⟨o, keep c o (I.cne x c e) hc nch ho (I.freeC x c e), hd⟩
 refine ⟨I.ok, I.os, hg, ⟨fun b o e n hb hx => ?_, fun b o e n hb hx => ?_, fun b o e n hx => ?_, fun b o e hx => ?_, fun b xs e => tups b xs (I.base.tups b xs e), fun b o xs e => frzs b o xs (I.base.frzs b o xs e), fun b ps e => ?_⟩, ?_, fun x c e => ?_, ?_, fun x c e => ?_, fun p hp => ?_, hok, I.len⟩
 ·exact keep b o (neL b o e) hb (neC b o e hx) (I.base.keep b o e n hb hx) (I.base.free b o e n hx)
 ·obtain ⟨sl, e1⟩ := I.base.slot b o e n hb hx
  obtain ⟨sl', e2⟩ := slot b _ (neL b o e) hb (neC b o e hx) e1 (I.base.free b o e n hx)
  exact ⟨sl', e2⟩
 ·obtain ⟨o', e1⟩ := I.base.there b o e hx
  exact free b o' (neC b o e hx) e1 (I.base.free b o e n hx)
 ·obtain ⟨o', e1⟩ := I.base.there b o e hx
  exact there b o' (neC b o e hx) e1
 ·obtain ⟨m1, e1⟩ := I.base.tbls b ps e
  obtain ⟨m2, e2⟩ := tbls b _ e1
  exact ⟨m1 ++ m2, by rw [e2, Array.append_assoc]⟩
 ·obtain ⟨m, hn, hl⟩ := I.loc
  refine ⟨m, ns m hn, fun i x v e1 e2 e3 => ?_⟩
  obtain ⟨u, r, l⟩ := hl i x v e1 e2 e3
  refine ⟨u, r, ?_⟩
  rcases l with l | ⟨k, c, e, z⟩
  ·exact .inl l
  ·exact .inr ⟨k, c, e, cellK x c e _ z⟩
 ·obtain ⟨v, z⟩ := I.cell x c e
  exact ⟨v, cellK x c e v z⟩
 ·obtain ⟨m, ⟨o, _, _, ho, _⟩, _⟩ := I.loc
  exact free _ o (fun z => (hch _ z).2.1 rfl) ho I.free
 ·obtain ⟨v, o, ho, hd⟩ := I.cell x c e
  exact free c o (fun z => (hch c z).2.2.1 x c e rfl) ho (I.freeC x c e)
 ·obtain ⟨e, n, ne, nf, d⟩ := I.pin p hp
  have nch : p.1 ∉ ch := fun z => (hch p.1 z).2.2.2 p hp rfl
  exact ⟨keep p.1 p.2 ne nf nch e n, free p.1 p.2 nch e n, ne, nf, d⟩
theorem Inv.un {t' : Nat} (I : Inv X pins σ H s) (u : Un X.fs [] H H' s.heap h') (hok : HOk X.prog X.w H' h') : Inv X pins σ H' { s with heap := h', toks := t' } := by
 obtain ⟨m, ⟨o, es, ep, ho, r⟩, _⟩ := id I.loc
 obtain ⟨sl, hL⟩ := u.any ho I.free (by simp)
 exact I.step (g' := s.gens) (d' := s.drawn) (ch := []) (fun _ z => nomatch z) (fun b o _ hb _ e n => u.keep b o e n hb (by simp)) (fun b o _ hb _ e n => u.slot b o e n hb (by simp)) (fun b o _ e n => u.free b o e n (by simp)) (fun b o _ e => u.there b o e (by simp)) u.tups u.frzs u.tbls (fun m' hm => by
  obtain ⟨o', es', ep', ho', r'⟩ := hm
  rw [ho] at ho'; cases ho'
  exact ⟨_, es', ep', hL, r'⟩) hok I.bare
theorem Inv.call {g' : Array GenState} {t' : Nat} {d' : Drawn} {ch : List Addr} (I : Inv X pins σ H s) (u : Un (frs X.stack) ch H H' s.heap h') (hok : HOk X.prog X.w H' h') (hg : AllBare g')
  (hch : ∀ b ∈ ch, (b ∈ X.ex ∨ X.s₀.heap.objs.size ≤ b) ∧ b ≠ X.env.locals ∧ (∀ x c, X.env.cells.lookup x = some c → c ≠ b) ∧ ∀ p ∈ X.pn ++ pins, p.1 ≠ b) :
  Inv X pins σ H' { s with heap := h', gens := g', drawn := d', toks := t' } := by
 obtain ⟨m, ⟨o, es, ep, ho, r⟩, _⟩ := id I.loc
 obtain ⟨sl, hL⟩ := u.any ho I.free fun z => (hch _ z).2.1 rfl
 exact I.step (ch := ch) hch (fun b o hL hb hc e n => u.keep b o e n (fun z => (List.mem_cons.mp (I.stkSub b z)).elim hL hb) hc) (fun b o _ _ hc e n => u.any e n hc) (fun b o hc e n => u.free b o e n hc) (fun b o hc e => u.there b o e hc) u.tups u.frzs u.tbls (fun m' hm => by
  obtain ⟨o', es', ep', ho', r'⟩ := hm
  rw [ho] at ho'; cases ho'
  exact ⟨_, es', ep', hL, r'⟩) hok hg
theorem Inv.turned {t' : Nat} {it : Addr} (I : Inv X pins σ H s) (k : ∀ b o, b ≠ it → s.heap.get? b = some o → h'.get? b = some o) (hn : H it = none) (hL : it ≠ X.env.locals)
  (h1 : it ∈ X.ex ∨ X.s₀.heap.objs.size ≤ it) (h2 : ∀ x c, X.env.cells.lookup x = some c → c ≠ it) (h3 : ∀ p ∈ X.pn ++ pins, p.1 ≠ it) : Inv X pins σ H { s with heap := h', toks := t' } := by
 have nit : ∀ b u, H b = some u → b ≠ it := fun b u e z => by rw [z, hn] at e; cases e
 refine I.step (g' := s.gens) (d' := s.drawn) (ch := [it]) (fun b hb => ?_) (fun b o _ _ hc e _ => k b o (fun z => hc (by simp [z])) e) (fun b o _ _ hc e _ => ⟨o.slots, k b o (fun z => hc (by simp [z])) e⟩) (fun _ _ _ _ n => n)
  (fun b o hc e => ⟨o, k b o (fun z => hc (by simp [z])) e⟩) (fun _ _ e => e) (fun _ _ _ e => e) (fun b ps e => ⟨#[], by rw [e]; simp⟩) (fun m hm => ?_) (fun b u e => ?_) I.bare
 ·have e : b = it := by simpa using hb
  subst e
  exact ⟨h1, hL, h2, h3⟩
 ·obtain ⟨o, es, ep, ho, r⟩ := hm
  exact ⟨o, es, ep, k _ o (Ne.symm hL) ho, r⟩
 ·refine (I.hok b u e).stay (fun c v hc q => k c v ?_ q) (fun _ q => q) fun _ _ q => q
  rcases hc with z | z
  ·rw [z]; exact nit b u e
  ·exact nit c _ z
theorem Inv.tok (I : Inv X pins σ H s) (t : Nat) : Inv X pins σ H { s with toks := t } := I.un (h' := s.heap) (t' := t) Un.refl I.hok
theorem Inv.kept {t' : Nat} (I : Inv X pins σ H s) (k : ∀ b u, s.heap.get? b = some u → h'.get? b = some u) : Inv X pins σ H { s with heap := h', toks := t' } := I.un (Un.kept k) (I.hok.kept k)
theorem Inv.laid {a : Addr} {o : HO} {t' : Nat} (I : Inv X pins σ H s) (k : ∀ b u, s.heap.get? b = some u → h'.get? b = some u) (hp : s.heap.objs.size ≤ a) (new : ObjOk X.prog X.w (upd H a o) h' a o) :
  Inv X pins σ (upd H a o) { s with heap := h', toks := t' } := I.un (Un.laid k hp (I.hok.fresh hp)) (I.hok.laid k hp new)
theorem Inv.write {x e : Addr} {o : HO} {t' : Nat} (I : Inv X pins σ H s) (mu : Mut (H x)) (he : e = x ∨ H e = some (.own x)) (k : ∀ b u, b ≠ e → s.heap.get? b = some u → h'.get? b = some u) (heo : ∃ u, h'.get? e = some u)
  (new : ObjOk X.prog X.w (upd H x o) h' x o) : Inv X pins σ (upd H x o) { s with heap := h', toks := t' } := I.un (Un.write mu he k heo) (I.hok.write mu he k heo new)
theorem Inv.pins_of {pins' : List (Addr × Obj)} (I : Inv X pins σ H s) (h : ∀ p ∈ pins', s.heap.get? p.1 = some p.2 ∧ H p.1 = none ∧ p.1 ≠ X.env.locals ∧ p.1 ∉ X.fs ∧ ∀ v, p.2.data ≠ .cell v) : Inv X pins' σ H s :=
 ⟨I.ok, I.os, I.bare, I.base, I.loc, I.cell, I.free, I.freeC, fun p hp => (List.mem_append.mp hp).elim (fun z => I.pin p (List.mem_append_left _ z)) (h p), I.hok, I.len⟩

theorem UY {N : List Str} (hN : N.Nodup) {i j : Nat} {x : Str} (a : N[i]? = some x) (b : N[j]? = some x) : i = j := by
 obtain ⟨h1, e1⟩ := List.getElem?_eq_some_iff.mp a
 obtain ⟨h2, e2⟩ := List.getElem?_eq_some_iff.mp b
 exact (List.getElem_inj hN).mp (e1.trans e2.symm)

theorem WR {M : Model} {A : Around} {E : Value → Shared → Prop} {i : Nat} {x : Str} {v : V} {u : Value} {Q : Unit → Shared → Prop} (I : Inv X pins σ H s) (hN : X.N.Nodup) (hi : X.N[i]? = some x) (hx : Loc X.env.scope x) (r : RelV v u)
  (h : ∀ s', Inv X pins (σ.set i (some v)) H s' → (∃ a, Heap.SameBut a s.heap s'.heap ∧ (a = X.env.locals ∨ X.env.cells.lookup x = some a)) → Q () s') (hf : X.fn x = true ∨ X.env.scope.names.lookup x = some .local := by first | exact .inl rfl | exact .inr rfl | assumption) : wpAny M A (storeName X.env x u) Q E s := by
 obtain ⟨m, hn, hl⟩ := id I.loc
 have hcls : (X.env.scope.kind == .class || (X.env.scope.kind == .module && X.env.locals != X.env.globals)) = false := by rw [I.ok.kind]; rfl
 have hiσ : i < σ.length := by rw [I.len]; exact (List.getElem?_eq_some_iff.mp hi).1
 have cne := I.cne
 have tracked : ∀ {a : Addr} {h' : Heap}, (∃ o, s.heap.get? a = some o ∧ H a = none) → Heap.SameBut a s.heap h' → HOk X.prog X.w H h' := fun {a h'} ha hs b ob e => by
  obtain ⟨_, _, hfree⟩ := ha
  refine (I.hok b ob e).stay (fun c w' hc q => (hs.2 c ?_).trans q) (fun _ q => q) fun _ _ q => q
  rintro rfl
  rcases hc with rfl | hc
  ·rw [hfree] at e; cases e
  ·rw [hfree] at hc; cases hc
 rcases hx with hk | hk
 ·refine wpAny_storeName_local hk hn (fun h' hn' hs => ?_) hcls
  obtain ⟨oL, _, _, hoL, _⟩ := id hn
  refine h _ ⟨I.ok, I.os, I.bare, ⟨fun b o e n hb hx => ?_, fun b o e n hb hx => ?_, I.base.free, fun b o e hx => ?_, I.base.tups, I.base.frzs, I.base.tbls⟩, ⟨_, hn', fun j y v' e1 e2 e3 => ?_⟩, fun y c e => ?_, I.free, I.freeC, fun p hp => ?_, tracked ⟨oL, hoL, I.free⟩ hs, by simpa using I.len⟩ ⟨_, hs, .inl rfl⟩
  ·exact (hs.2 b (Nat.ne_of_lt (Nat.lt_of_lt_of_le (Heap.lt_size e) I.ok.above))).trans (I.base.keep b o e n hb hx)
  ·obtain ⟨sl, e1⟩ := I.base.slot b o e n hb hx
   exact ⟨sl, (hs.2 b (Nat.ne_of_lt (Nat.lt_of_lt_of_le (Heap.lt_size e) I.ok.above))).trans e1⟩
  ·obtain ⟨o', e1⟩ := I.base.there b o e hx
   exact ⟨o', (hs.2 b (Nat.ne_of_lt (Nat.lt_of_lt_of_le (Heap.lt_size e) I.ok.above))).trans e1⟩
  ·by_cases hj : j = i
   ·subst hj
    rw [hi] at e1; cases e1
    rw [List.getElem?_set_self hiσ] at e2
    cases e2
    exact ⟨u, r, .inl ⟨hk, by simp⟩⟩
   ·rw [List.getElem?_set_ne (Ne.symm hj)] at e2
    obtain ⟨u', r', q⟩ := hl j y v' e1 e2 e3
    refine ⟨u', r', ?_⟩
    rcases q with ⟨k, e⟩ | ⟨k, c, e, z⟩
    ·refine .inl ⟨k, ?_⟩
     have : y ≠ x := fun e => hj (UY hN e1 (e ▸ hi))
     simp [this, e]
    ·exact .inr ⟨k, c, e, z.sameBut hs (cne y c e)⟩
  ·obtain ⟨w', z⟩ := I.cell y c e
   exact ⟨w', z.sameBut hs (cne y c e)⟩
  ·obtain ⟨e, n, ne, nf, d⟩ := I.pin p hp
   exact ⟨(hs.2 p.1 ne).trans e, n, ne, nf, d⟩
 ·have hfn : X.fn x = true := by
   rcases hf with z | z
   ·exact z
   ·rw [z] at hk; cases hk
  obtain ⟨c, hc⟩ := I.ok.has x (.inl hk)
  obtain ⟨w', z⟩ := I.cell x c hc
  refine wpAny_storeName_cell I.ok.kind hk hc z (fun h' hc' hs => ?_)
  obtain ⟨oc, hoc, hocd⟩ := id z
  refine h { s with heap := h' } ⟨I.ok, I.os, I.bare, ⟨fun b o e n hb hx => ?_, fun b o e n hb hx => ?_, I.base.free, fun b o e hx => ?_, I.base.tups, I.base.frzs, I.base.tbls⟩, ⟨m, hn.sameBut hs (Ne.symm (cne x c hc)), fun j y v' e1 e2 e3 => ?_⟩, fun y c' e => ?_, I.free, I.freeC, fun p hp => ?_, tracked ⟨oc, hoc, I.freeC x c hc⟩ hs, by simpa using I.len⟩ ⟨c, hs, .inr hc⟩
  ·exact (hs.2 b (Nat.ne_of_lt (Nat.lt_of_lt_of_le (Heap.lt_size e) (I.ok.cab x c hfn hc)))).trans (I.base.keep b o e n hb hx)
  ·obtain ⟨sl, e1⟩ := I.base.slot b o e n hb hx
   exact ⟨sl, (hs.2 b (Nat.ne_of_lt (Nat.lt_of_lt_of_le (Heap.lt_size e) (I.ok.cab x c hfn hc)))).trans e1⟩
  ·obtain ⟨o', e1⟩ := I.base.there b o e hx
   exact ⟨o', (hs.2 b (Nat.ne_of_lt (Nat.lt_of_lt_of_le (Heap.lt_size e) (I.ok.cab x c hfn hc)))).trans e1⟩
  ·by_cases hj : j = i
   ·subst hj
    rw [hi] at e1; cases e1
    rw [List.getElem?_set_self hiσ] at e2
    cases e2
    exact ⟨u, r, .inr ⟨.inl hk, c, hc, hc'⟩⟩
   ·rw [List.getElem?_set_ne (Ne.symm hj)] at e2
    obtain ⟨u', r', q⟩ := hl j y v' e1 e2 e3
    refine ⟨u', r', ?_⟩
    rcases q with q | ⟨k, c', e, z'⟩
    ·exact .inl q
    ·refine .inr ⟨k, c', e, z'.sameBut hs ?_⟩
     rintro rfl
     exact hj (UY hN e1 (I.ok.inj _ _ _ e hc ▸ hi))
  ·by_cases hcc : c' = c
   ·subst hcc; exact ⟨_, hc'⟩
   ·obtain ⟨w2, z2⟩ := I.cell y c' e
    exact ⟨w2, z2.sameBut hs hcc⟩
  ·obtain ⟨e, n, ne, nf, d⟩ := I.pin p hp
   refine ⟨(hs.2 p.1 ?_).trans e, n, ne, nf, d⟩
   intro q
   rw [q, hoc] at e
   have q' : oc = p.2 := Option.some.inj e
   exact d w' (by rw [← q']; exact hocd)
theorem Yp {M : Model} {A : Around} {E : Value → Shared → Prop} {i : Nat} {x : Str} {v : V} {u : Value} {Q : Unit → Shared → Prop} (I : Inv X pins σ H s) (hN : X.N.Nodup) (hi : X.N[i]? = some x) (hx : Loc X.env.scope x) (r : RelV v u)
  (h : ∀ s', Inv X pins (σ.set i (some v)) H s' → Q () s') (hf : X.fn x = true ∨ X.env.scope.names.lookup x = some .local := by first | exact .inl rfl | exact .inr rfl | assumption) : wpAny M A (storeName X.env x u) Q E s :=
 WR I hN hi hx r (fun s' I' _ => h s' I') hf
theorem Inv.call' {s' : Shared} {ch : List Addr} (I : Inv X pins σ H s) (ho : s'.os = s.os) (u : Un (frs X.stack) ch H H' s.heap s'.heap) (hok : HOk X.prog X.w H' s'.heap) (hg : AllBare s'.gens)
  (hch : ∀ b ∈ ch, (b ∈ X.ex ∨ X.s₀.heap.objs.size ≤ b) ∧ b ≠ X.env.locals ∧ (∀ x c, X.env.cells.lookup x = some c → c ≠ b) ∧ ∀ p ∈ X.pn ++ pins, p.1 ≠ b) : Inv X pins σ H' s' := by
 obtain ⟨h', g', d', t', o'⟩ := s'
 have e : o' = s.os := ho
 subst e
 exact I.call (g' := g') (t' := t') (d' := d') u hok hg hch
end

noncomputable abbrev XK := Value → Option Addr → Hp → Prop
noncomputable abbrev St := List (Option V)
noncomputable abbrev VK := V → Hp → Prop
noncomputable abbrev TE := St → Hp → VK → Prop
noncomputable abbrev TT := St → Hp → (Bool → Hp → Prop) → Prop
noncomputable abbrev TA := St → Hp → (List V → Hp → Prop) → Prop
structure Ends where
 nx : St → Hp → Prop
 rt : VK
 bk : St → Hp → Prop := fun _ _ => False
 ct : St → Hp → Prop := fun _ _ => False
noncomputable abbrev TS := Ends → St → Hp → Prop

noncomputable def EP (X : Cx) (pins : List (Addr × Obj)) (σ : St) (Q : VK) (u : Value) (s' : Shared) : Prop := ∃ v H', Inv X pins σ H' s' ∧ RelV v u ∧ Q v H'
noncomputable def TP (X : Cx) (pins : List (Addr × Obj)) (σ : St) (Q : Bool → Hp → Prop) (b : Bool) (s' : Shared) : Prop := ∃ H', Inv X pins σ H' s' ∧ Q b H'
noncomputable def AP (X : Cx) (pins : List (Addr × Obj)) (σ : St) (Q : List V → Hp → Prop) (us : List Value) (s' : Shared) : Prop := ∃ vs H', Inv X pins σ H' s' ∧ Vals vs us ∧ Q vs H'
noncomputable def SP (X : Cx) (pins : List (Addr × Obj)) (D : Ends) (f : Flow) (s' : Shared) : Prop :=
 match f with
 | .next => ∃ σ' H', Inv X pins σ' H' s' ∧ D.nx σ' H'
 | .brk => ∃ σ' H', Inv X pins σ' H' s' ∧ D.bk σ' H'
 | .cont => ∃ σ' H', Inv X pins σ' H' s' ∧ D.ct σ' H'
 | .ret u => ∃ v σ' H', Inv X pins σ' H' s' ∧ RelV v u ∧ D.rt v H'

noncomputable def PE (X : Cx) (e : Expr) (t : TE) : Prop :=
 ∀ (pins : List (Addr × Obj)) (s : Shared) (σ : St) (H : Hp) (Q : VK), Inv X pins σ H s → t σ H Q → wpAny (model X.prog X.w) X.A (eval e X.env) (EP X pins σ Q) X.xe s
noncomputable def PT (X : Cx) (e : Expr) (t : TT) : Prop :=
 ∀ (pins : List (Addr × Obj)) (s : Shared) (σ : St) (H : Hp) (Q : Bool → Hp → Prop), Inv X pins σ H s → t σ H Q → wpAny (model X.prog X.w) X.A (isTrue e X.env (eval e X.env)) (TP X pins σ Q) X.xe s
noncomputable def PW (X : Cx) (e : Expr) (t : TT) : Prop :=
 ∀ (whole : Sem Value) (pins : List (Addr × Obj)) (s : Shared) (σ : St) (H : Hp) (Q : Bool → Hp → Prop), Inv X pins σ H s → t σ H Q → wpAny (model X.prog X.w) X.A (isTrue e X.env whole) (TP X pins σ Q) X.xe s
theorem PW.pt {X : Cx} {e : Expr} {t : TT} (h : PW X e t) : PT X e t := h _
noncomputable def PA (X : Cx) (es : List Expr) (t : TA) : Prop :=
 ∀ (pos : Pos) (pins : List (Addr × Obj)) (s : Shared) (σ : St) (H : Hp) (Q : List V → Hp → Prop), Inv X pins σ H s → t σ H Q → wpAny (model X.prog X.w) X.A (spliced (backTo pos (starEach es X.env))) (AP X pins σ Q) X.xe s
noncomputable def PS (X : Cx) (st : Stmt) (t : TS) : Prop :=
 ∀ (pins : List (Addr × Obj)) (s : Shared) (σ : St) (H : Hp) (D : Ends), Inv X pins σ H s → t D σ H → wpAny (model X.prog X.w) X.A (exec st X.env) (SP X pins D) X.xe s
noncomputable def PSs (X : Cx) (st : List Stmt) (t : TS) : Prop :=
 ∀ (pins : List (Addr × Obj)) (s : Shared) (σ : St) (H : Hp) (D : Ends), Inv X pins σ H s → t D σ H → wpAny (model X.prog X.w) X.A (execs st X.env) (SP X pins D) X.xe s
theorem thn {α : Type} {t : Sem α} {Q Q' : α → Shared → Prop} {M : Model} {A : Around} {E : Value → Shared → Prop} {s : Shared} (h : wpAny M A t Q E s) (hQ : ∀ a s, Q a s → Q' a s) : wpAny M A t Q' E s := wpAny_mono h hQ fun _ _ x => x
end L2

namespace L2
open PySem PySem.Spec PyProof.Rows
section
variable {X : Cx}

theorem bin {a b : Expr} {ta tb : TE} (ha : PE X a ta) (hb : PE X b tb) {pins : List (Addr × Obj)} {s : Shared} {σ : St} {H : Hp} {R : V → V → Hp → Prop} (I : Inv X pins σ H s) (h : ta σ H fun x H1 => tb σ H1 fun y H2 => R x y H2)
  {α : Type} {Q : α → Shared → Prop} {f : Value → Value → Sem α}
  (hf : ∀ v u s2 x y H2, Inv X pins σ H2 s2 → RelV x v → RelV y u → R x y H2 → wpAny (model X.prog X.w) X.A (f v u) Q X.xe s2) :
  wpAny (model X.prog X.w) X.A (eval a X.env) (fun v s₁ => wpAny (model X.prog X.w) X.A (eval b X.env) (fun u s₂ => wpAny (model X.prog X.w) X.A (f v u) Q X.xe s₂) X.xe s₁) X.xe s := by
 refine thn (ha pins s σ H _ I h) fun v s1 ⟨x, H1, I1, r1, q1⟩ => ?_
 refine thn (hb pins s1 σ H1 _ I1 q1) fun u s2 ⟨y, H2, I2, r2, q2⟩ => ?_
 exact hf v u s2 x y H2 I2 r1 r2 q2

noncomputable def QjP (i : Nat) : TE := fun σ H Q => ∃ v, σ[i]? = some (some v) ∧ Q v H
noncomputable def tC (v : V) : TE := fun _ H Q => Q v H
theorem Qe4 {i : Nat} {x : Str} {pos : Pos} (hN : X.N[i]? = some x) (hv : Vis X.env.scope x) (hd : (x == ("__debug__" : Str)) = false := by decide) (hcd : (x == ("__classdict__" : Str)) = false := by decide) : PE X (.Name x pos) (QjP i) := by
 intro pins s σ H Q I h
 obtain ⟨v, e, h⟩ := h
 obtain ⟨m, hn, hl⟩ := I.loc
 obtain ⟨u, r, l⟩ := hl i x v hN e hv
 have fin : EP X pins σ Q u s := ⟨v, H, I, r, h⟩
 rcases l with ⟨hk, hm⟩ | ⟨hk, c, hc, hcell⟩
 ·exact wpAny_Name (wpAny_loadName_local I.ok.kind hk hn hm fin) hd
 ·rcases hk with hk | hk
  ·exact wpAny_Name (wpAny_loadName_cell I.ok.kind hk hc hcell fin) hd
  ·exact wpAny_Name (wpAny_loadName_free I.ok.kind hk hc hcell fin hcd) hd
theorem Qgp {i j pos} : PE X (.Constant (.int i) j pos) (tC (.int i)) := fun _ _ _ H _ I h => wpAny_Constant_int ⟨.int i, H, I.tok _, ⟨_, rfl⟩, h⟩
theorem Qhj {b j pos} : PE X (.Constant (.bool b) j pos) (tC (.bl b)) := fun _ _ _ H _ I h => Constant_bool ⟨.bl b, H, I, rfl, h⟩
theorem Qgf {j pos} : PE X (.Constant .none j pos) (tC .non) := fun _ _ _ H _ I h => Constant_none ⟨.non, H, I, rfl, h⟩
theorem Qge {x j pos} : PE X (.Constant (.str x) j pos) (tC (.str x)) := fun _ _ _ H _ I h => Calls.Constant_str ⟨.str x, H, I.tok _, ⟨_, rfl⟩, h⟩

noncomputable def Gl (X : Cx) (x : Str) : Prop := X.env.kindOf x = some .globalImplicit
theorem G6 {E : Value → Shared → Prop} {pins : List (Addr × Obj)} {s : Shared} {σ : St} {H : Hp} {x : Str} {u : Value} {pos : Pos} {Q : Value → Shared → Prop} (I : Inv X pins σ H s) (hg : Gl X x) (hm : X.mg x = some u) (h : Q u s)
  (hd : (x == ("__debug__" : Str)) = false := by decide) : wpAny (model X.prog X.w) X.A (eval (.Name x pos) X.env) Q E s :=
 Calls.Name_function_global I.ok.kind hg (Calls.loadGlobal_global (by rw [I.ok.glob]; exact I.mod.glob.keeps I.bk) hm h) hd
theorem Ym {E : Value → Shared → Prop} {pins : List (Addr × Obj)} {s : Shared} {σ : St} {H : Hp} {x : Str} {u : Value} {pos : Pos} {Q : Value → Shared → Prop} (I : Inv X pins σ H s) (hg : Gl X x) (hm : X.mg x = none) (hv : bootBuiltins x = some u) (h : Q u s)
  (hn : x ≠ "__name__" := by decide) (hd : (x == ("__debug__" : Str)) = false := by decide) : wpAny (model X.prog X.w) X.A (eval (.Name x pos) X.env) Q E s := by
 obtain ⟨mb, h1, h2⟩ := I.mod.blt
 exact Calls.Name_function_global I.ok.kind hg (Calls.loadGlobal_builtin (by rw [I.ok.glob]; exact I.mod.glob.keeps I.bk) hm (by rw [I.ok.blt]; exact h1.keeps I.bk) ((h2 x hn).trans hv) h) hd
theorem Qee {x : Str} {v : V} {u : Value} {pos : Pos} (hg : Gl X x) (hm : X.mg x = none) (hv : bootBuiltins x = some u) (r : RelV v u) (hn : x ≠ "__name__" := by decide) (hd : (x == ("__debug__" : Str)) = false := by decide) : PE X (.Name x pos) (tC v) :=
 fun _ _ _ H _ I h => Ym I hg hm hv ⟨v, H, I, r, h⟩ hn hd

variable {a b : Expr} {ta tb : TE} {pos : Pos}
variable {tA tB' : TT} {rest : List Expr}
noncomputable def QiF (t u : TT) : TT := fun σ H Q => t σ H fun c H1 => if c = true then u σ H1 Q else Q false H1
noncomputable def tOr (t u : TT) : TT := fun σ H Q => t σ H fun c H1 => if c = true then Q true H1 else u σ H1 Q
noncomputable def QjL (t : TT) : TT := fun σ H Q => t σ H fun c H1 => Q (!c) H1
theorem QeN (ha : PT X a tA) : PW X (.BoolOp .And [a] pos) tA := by
 intro wh pins s σ H Q I h
 refine isTrue_and (thn (ha pins s σ H Q I h) fun c s1 e => ?_)
 cases c with
 | true => exact isTrue_and_nil e
 | false => exact e
theorem Qf2 (ha : PT X a tA) : PW X (.BoolOp .Or [a] pos) tA := by
 intro wh pins s σ H Q I h
 refine isTrue_or (thn (ha pins s σ H Q I h) fun c s1 e => ?_)
 cases c with
 | false => exact isTrue_or_nil e
 | true => exact e
theorem Qfr (ha : PT X a tA) (hb : PW X (.BoolOp .And (b :: rest) pos) tB') : PW X (.BoolOp .And (a :: b :: rest) pos) (QiF tA tB') := by
 intro wh pins s σ H Q I h
 refine isTrue_and (thn (ha pins s σ H _ I h) fun c s1 ⟨H1, I1, q1⟩ => ?_)
 cases c with
 | true => exact hb wh pins s1 σ H1 Q I1 q1
 | false => exact ⟨H1, I1, q1⟩
theorem Qhi (ha : PT X a tA) (hb : PW X (.BoolOp .Or (b :: rest) pos) tB') : PW X (.BoolOp .Or (a :: b :: rest) pos) (tOr tA tB') := by
 intro wh pins s σ H Q I h
 refine isTrue_or (thn (ha pins s σ H _ I h) fun c s1 ⟨H1, I1, q1⟩ => ?_)
 cases c with
 | true => exact ⟨H1, I1, q1⟩
 | false => exact hb wh pins s1 σ H1 Q I1 q1
theorem QfM (ha : PT X a tA) : PT X (.UnaryOp .Not a pos) (QjL tA) := by
 intro pins s σ H Q I h
 exact isTrue_not (ha pins s σ H (fun c H1 => Q (!c) H1) I h)
noncomputable def tIf (t : TT) (ta tb : TE) : TE := fun σ H Q => t σ H fun c H1 => if c = true then ta σ H1 Q else tb σ H1 Q
theorem Qcy {c : Expr} (hc : PT X c tA) (ha : PE X a ta) (hb : PE X b tb) : PE X (.IfExp c a b pos) (tIf tA ta tb) := by
 intro pins s σ H Q I h
 refine wpAny_IfExp (thn (hc pins s σ H _ I h) fun d s1 ⟨H1, I1, q1⟩ => ?_)
 cases d with
 | true => exact ha pins s1 σ H1 Q I1 q1
 | false => exact hb pins s1 σ H1 Q I1 q1
end
end L2

namespace L2
open PySem PySem.Spec PyProof.Rows

noncomputable def SqL (K : PySem.W.Frag) (H : Hp) (a : Addr) (xs : List V) : Prop :=
 Rd H a (.lst xs) ∨
  ∃ (o : Obj) (its : Array Value) (n : Nat), K.lookup a = some o ∧ o.cls = .type "list" ∧ o.dict = none ∧ o.data = .seq its n ∧ its.size ≤ sizeLine ∧ Vals xs its.toList
noncomputable def SqT (K : PySem.W.Frag) (H : Hp) (a : Addr) (xs : List V) : Prop :=
 Rd H a (.tup xs) ∨
  ∃ (o : Obj) (its : Array Value) (n : Nat), K.lookup a = some o ∧ o.cls = .type "tuple" ∧ o.data = .seq its n ∧ its.size ≤ sizeLine ∧ Vals xs its.toList
noncomputable def Qks : Value → Option V
 | .none => some .non
 | .bool b => some (.bl b)
 | .int i _ => some (.int i)
 | .str x _ => some (.str x)
 | .bytes b _ => some (.byt b)
 | .float b _ => some (.flt b)
 | .ref a => some (.ref a)
 | .type n => some (.ty n)
 | _ => none
theorem RelV.abs {x : V} {u : Value} (r : RelV x u) : Qks u = some x := by
 cases x with
 | non => cases r; rfl
 | bl _ => cases r; rfl
 | int _ => obtain ⟨t, rfl⟩ := r; rfl
 | str _ => obtain ⟨t, rfl⟩ := r; rfl
 | byt _ => obtain ⟨t, rfl⟩ := r; rfl
 | flt _ => obtain ⟨t, rfl⟩ := r; rfl
 | ref _ => cases r; rfl
 | ty _ => cases r; rfl
theorem RelV.inj {x y : V} {u : Value} (r : RelV x u) (q : RelV y u) : x = y := Option.some.inj (r.abs.symm.trans q.abs)
theorem Vals.inj : ∀ {xs ys : List V} {us : List Value}, Vals xs us → Vals ys us → xs = ys
 | _, _, _, .nil, .nil => rfl
 | _, _, _, .cons r t, .cons r' t' => by rw [r.inj r', Vals.inj t t']
section
variable {X : Cx} {pins : List (Addr × Obj)} {σ : St} {H : Hp} {s : Shared} {a : Addr} {xs ys : List V}
theorem SqL.of {K : PySem.W.Frag} (h : H a = some (.lst xs)) : SqL K H a xs := .inl (.inl h)
theorem SqT.of {K : PySem.W.Frag} (h : H a = some (.tup xs)) : SqT K H a xs := .inl (.inl h)
theorem Inv.list (I : Inv X pins σ H s) (h : SqL X.K H a xs) : ∃ its : List Value, Vals xs its ∧ PlainL s.heap a its.toArray ∧ xs.length ≤ sizeLine := by
 rcases h with h | ⟨o, its, n, hk, hc, hd, hs, hz, r⟩
 ·obtain ⟨z, its, n, r, e⟩ := h.ok I.hok
  exact ⟨its, r, ⟨_, n, e, rfl, rfl, rfl⟩, z⟩
 ·refine ⟨its.toList, r, ⟨o, n, I.kIn a o hk, hc, hd, by simpa using hs⟩, ?_⟩
  have e := r.length
  simp only [Array.length_toList] at e
  omega
theorem Inv.tuple (I : Inv X pins σ H s) (h : SqT X.K H a xs) : ∃ its : List Value, Vals xs its ∧ IsTup s.heap a its.toArray ∧ xs.length ≤ sizeLine := by
 rcases h with h | ⟨o, its, n, hk, hc, hs, hz, r⟩
 ·obtain ⟨z, its, r, p⟩ := h.ok I.hok
  exact ⟨its, r, p, z⟩
 ·refine ⟨its.toList, r, ⟨o, I.kIn a o hk, hc, n, by simpa using hs⟩, ?_⟩
  have e := r.length
  simp only [Array.length_toList] at e
  omega
theorem Inv.list_inj (I : Inv X pins σ H s) (h : SqL X.K H a xs) (h' : SqL X.K H a ys) : xs = ys := by
 obtain ⟨its, r, ⟨o, n, e, _, _, d⟩, _⟩ := I.list h
 obtain ⟨its', r', ⟨o', n', e', _, _, d'⟩, _⟩ := I.list h'
 rw [e] at e'; cases e'
 rw [d] at d'
 injection d' with d1 _
 have : its = its' := by simpa using congrArg Array.toList d1
 subst this
 exact r.inj r'
theorem Inv.tuple_inj (I : Inv X pins σ H s) (h : SqT X.K H a xs) (h' : SqT X.K H a ys) : xs = ys := by
 obtain ⟨its, r, ⟨o, e, _, n, d⟩, _⟩ := I.tuple h
 obtain ⟨its', r', ⟨o', e', _, n', d'⟩, _⟩ := I.tuple h'
 rw [e] at e'; cases e'
 rw [d] at d'
 injection d' with d1 _
 have : its = its' := by simpa using congrArg Array.toList d1
 subst this
 exact r.inj r'
end

noncomputable abbrev Cx.wish (X : Cx) (E : Value → Shared → Prop) : Cx := { X with xe := E }
noncomputable abbrev Cx.nox (X : Cx) : Cx := X.wish fun _ _ => False
theorem Cx.Ok.wish {X : Cx} (ok : X.Ok) (E : Value → Shared → Prop) : (X.wish E).Ok :=
 ⟨ok.mod, ok.kind, ok.glob, ok.blt, ok.above, ok.inj, ok.has, ok.cab, ok.hd, ok.frames, ok.stk, ok.exf, ok.bs, ok.bsz, ok.noex, ok.exfs, ok.funs, ok.frf⟩
theorem Cx.Ok.unwish {X : Cx} {E : Value → Shared → Prop} (ok : (X.wish E).Ok) : X.Ok :=
 ⟨ok.mod, ok.kind, ok.glob, ok.blt, ok.above, ok.inj, ok.has, ok.cab, ok.hd, ok.frames, ok.stk, ok.exf, ok.bs, ok.bsz, ok.noex, ok.exfs, ok.funs, ok.frf⟩
section
variable {X : Cx} {pins : List (Addr × Obj)} {σ : St} {H : Hp} {s : Shared} {E : Value → Shared → Prop}
theorem Inv.wish (I : Inv X pins σ H s) (E : Value → Shared → Prop) : Inv (X.wish E) pins σ H s := ⟨I.ok.wish E, I.os, I.bare, I.base, I.loc, I.cell, I.free, I.freeC, I.pin, I.hok, I.len⟩
theorem Inv.unwish (I : Inv (X.wish E) pins σ H s) : Inv X pins σ H s := ⟨I.ok.unwish, I.os, I.bare, I.base, I.loc, I.cell, I.free, I.freeC, I.pin, I.hok, I.len⟩
theorem SP.unwish {D : Ends} {f : Flow} {s' : Shared} (h : SP (X.wish E) pins D f s') : SP X pins D f s' := by
 cases f with
 | next => obtain ⟨σ', H', I, q⟩ := h; exact ⟨σ', H', I.unwish, q⟩
 | brk => obtain ⟨σ', H', I, q⟩ := h; exact ⟨σ', H', I.unwish, q⟩
 | cont => obtain ⟨σ', H', I, q⟩ := h; exact ⟨σ', H', I.unwish, q⟩
 | ret u => obtain ⟨v, σ', H', I, r, q⟩ := h; exact ⟨v, σ', H', I.unwish, r, q⟩
theorem PSs.nox {st : List Stmt} {t : TS} (h : PSs X.nox st t) : PSs X st t := fun pins s σ H D I hw =>
 wpAny_mono (h pins s σ H D (I.wish _) hw) (fun _ _ q => q.unwish) fun _ _ z => False.elim z
end

section
variable {X : Cx} {st : Stmt} {rest : List Stmt} {t u : TS} {e : Expr} {te : TE} {pos : Pos}
noncomputable def Qho : TS := fun D σ H => D.nx σ H
noncomputable def Qig (t u : TS) : TS := fun D σ H => t { D with nx := u D } σ H
theorem Qez : PSs X [] Qho := fun _ _ σ H _ I h => wpAny_execs_nil ⟨σ, H, I, h⟩
theorem QcK (h1 : PS X st t) (h2 : PSs X rest u) : PSs X (st :: rest) (Qig t u) := by
 intro pins s σ H D I h
 refine wpAny_execs_cons (thn (h1 pins s σ H { D with nx := u D } I h) fun f s1 q => ?_)
 cases f with
 | next =>
  obtain ⟨σ', H', I', q⟩ := q
  exact h2 pins s1 σ' H' D I' q
 | ret v => exact q
 | brk => exact q
 | cont => exact q
theorem Qek (h1 : PS X st t) : PSs X [st] t := by
 intro pins s σ H D I h
 refine wpAny_execs_cons (thn (h1 pins s σ H D I h) fun f s1 q => ?_)
 cases f with
 | next => exact wpAny_execs_nil q
 | ret v => exact q
 | brk => exact q
 | cont => exact q
theorem Inv.quiet {pins : List (Addr × Obj)} {σ : St} {H : Hp} {s : Shared} (I : Inv X pins σ H s) : interactive X.env = false := by simp [interactive, I.ok.kind]
noncomputable def QhZ (te : TE) : TS := fun D σ H => te σ H fun _ H1 => D.nx σ H1
theorem QdF (he : PE X e te) (hs : swapsWith e none pos.line X.env = pure false := by rfl) : PS X (.Expr e pos) (QhZ te) := by
 intro pins s σ H D I h
 exact wpAny_Expr_any (thn (he pins s σ H _ I h) fun v s1 ⟨x, H1, I1, r1, q1⟩ => ⟨σ, H1, I1, q1⟩) I.quiet hs
noncomputable def Qjp (te : TE) : TS := fun D σ H => te σ H D.rt
theorem Qfz (he : PE X e te) : PS X (.Return (some e) pos) (Qjp te) := by
 intro pins s σ H D I h
 exact wpAny_Return_some (thn (he pins s σ H _ I h) fun v s1 ⟨x, H1, I1, r1, q1⟩ => ⟨x, σ, H1, I1, r1, q1⟩)
noncomputable def Qjo (c : TT) (t u : TS) : TS := fun D σ H => c σ H fun b H1 => if b = true then t D σ H1 else u D σ H1
theorem QgR {c : Expr} {a b : List Stmt} {tc : TT} (hc : PT X c tc) (ha : PSs X a t) (hb : PSs X b u) : PS X (.If c a b pos) (Qjo tc t u) := by
 intro pins s σ H D I h
 refine wpAny_If (thn (hc pins s σ H _ I h) fun d s1 ⟨H1, I1, q1⟩ => ?_)
 cases d with
 | true => exact ha pins s1 σ H1 D I1 q1
 | false => exact hb pins s1 σ H1 D I1 q1
end

noncomputable abbrev TG := V → St → Hp → (St → Hp → Prop) → Prop
noncomputable abbrev TGs := List V → St → Hp → (St → Hp → Prop) → Prop
noncomputable def PG (X : Cx) (target : Expr) (t : TG) : Prop :=
 ∀ (pins : List (Addr × Obj)) (s : Shared) (σ : St) (H : Hp) (v : V) (u : Value) (Q : St → Hp → Prop), Inv X pins σ H s → RelV v u → t v σ H Q →
  wpAny (model X.prog X.w) X.A (assign target X.env u) (fun _ s' => ∃ σ' H', Inv X pins σ' H' s' ∧ Q σ' H') X.xe s
noncomputable def PGs (X : Cx) (ts : List Expr) (t : TGs) : Prop :=
 ∀ (pins : List (Addr × Obj)) (s : Shared) (σ : St) (H : Hp) (vs : List V) (us : List Value) (Q : St → Hp → Prop), Inv X pins σ H s → Vals vs us → t vs σ H Q →
  wpAny (model X.prog X.w) X.A (assignInOrder ((assignEach ts X.env).map (·.2)) us) (fun _ s' => ∃ σ' H', Inv X pins σ' H' s' ∧ Q σ' H') X.xe s
noncomputable abbrev Qhb := V → V → V → Hp → (Hp → Prop) → Prop
noncomputable def Qi6 (X : Cx) (t : Qhb) : Prop :=
 ∀ (pins : List (Addr × Obj)) (s : Shared) (σ : St) (H : Hp) (o i v : V) (ov iv u : Value) (Q : Hp → Prop), Inv X pins σ H s → RelV o ov → RelV i iv → RelV v u → t o i v H Q →
  wpAny (model X.prog X.w) X.A (setItem ov iv u) (fun _ s' => ∃ H', Inv X pins σ H' s' ∧ Q H') X.xe s
noncomputable abbrev TIp := V → V → Hp → VK → Prop
noncomputable def PIp (X : Cx) (op : Operator) (t : TIp) : Prop :=
 ∀ (pins : List (Addr × Obj)) (s : Shared) (σ : St) (H : Hp) (x y : V) (v u : Value) (Q : VK), Inv X pins σ H s → RelV x v → RelV y u → t x y H Q →
  wpAny (model X.prog X.w) X.A (inplaceOp op v u) (EP X pins σ Q) X.xe s
section
variable {X : Cx} {pos : Pos}
noncomputable def QaR (i : Nat) : TG := fun v σ H Q => Q (σ.set i (some v)) H
theorem Qa2 {i : Nat} {x : Str} (hN : X.N.Nodup) (hi : X.N[i]? = some x) (hx : Loc X.env.scope x) (hf : X.fn x = true ∨ X.env.scope.names.lookup x = some .local := by first | exact .inl rfl | exact .inr rfl | assumption) : PG X (.Name x pos) (QaR i) := by
 intro pins s σ H v u Q I r h
 exact wpAny_assign_Name (Yp I hN hi hx r (fun s' I' => ⟨_, H, I', h⟩) hf)
noncomputable def Qiw : TGs := fun vs σ H Q => vs = [] ∧ Q σ H
noncomputable def QfS (t : TG) (u : TGs) : TGs := fun vs σ H Q => ∃ v r, vs = v :: r ∧ t v σ H fun σ' H' => u r σ' H' Q
theorem QdU : PGs X [] Qiw := by
 intro pins s σ H vs us Q I r h
 obtain ⟨e, h⟩ := h
 subst e
 cases r
 exact assignInOrder_nil ⟨σ, H, I, h⟩
theorem Qcc {e : Expr} {es : List Expr} {t : TG} {u : TGs} (h1 : PG X e t) (h2 : PGs X es u)
  (hs : (assignEach (e :: es) X.env).map (·.2) = assign e X.env :: (assignEach es X.env).map (·.2) := by rfl) : PGs X (e :: es) (QfS t u) := by
 intro pins s σ H vs us Q I r h
 obtain ⟨v, vr, e1, h⟩ := h
 subst e1
 cases r with
 | cons r rr =>
  rw [hs]
  refine assignInOrder_cons (thn (h1 pins s σ H _ _ _ I r h) fun _ s1 ⟨σ1, H1, I1, q1⟩ => ?_)
  exact h2 pins s1 σ1 H1 _ _ Q I1 rr q1
noncomputable def Qjq (K : PySem.W.Frag) (n : Nat) (t : TGs) : TG := fun v σ H Q => ∃ a xs, v = .ref a ∧ SqT K H a xs ∧ xs.length = n ∧ t xs σ H Q
theorem Qf8 {es : List Expr} {k : Nat} {t : TGs} {n : Nat} (hc : X.calm = true) (h : PGs X es t)
  (hn : (assignEach es X.env).length = n := by rfl) (hst : (assignEach es X.env).findIdx? (·.1) = none := by rfl) : PG X (.Tuple es k pos) (Qjq X.K n t) := by
 intro pins s σ H v u Q I r hw
 obtain ⟨a, xs, e1, hq, hl, hw⟩ := hw
 subst e1
 cases r
 obtain ⟨its, rv, ht, hz⟩ := I.tuple hq
 refine assign_Tuple_tuple (I.ok.hd hc) ht (by simp [hn, ← hl, rv.length]) hst fun h' hx => ?_
 have I1 : Inv X pins σ H { s with heap := h' } := I.kept (t' := s.toks) fun b o e => hx b o (Nat.ne_of_lt (Heap.lt_size e)) e
 exact h pins _ σ H xs _ Q I1 (by simpa using rv) hw
noncomputable def Qjk (to ti : TE) (t : Qhb) : TG := fun v σ H Q => to σ H fun o H1 => ti σ H1 fun i H2 => t o i v H2 fun H3 => Q σ H3
theorem Qf3 {o i : Expr} {to ti : TE} {t : Qhb} (ho : PE X o to) (hi : PE X i ti) (hs : Qi6 X t)
  (ha : ∀ v, assign (.Subscript o i pos) X.env v = (do
   let ov ← holding [v] (eval o X.env)
   let iv ← holding [v, ov] (eval i X.env)
   standAt pos
   holding [v, ov, iv] (setItem ov iv v)
   release [v, ov, iv] []) := by intro _; rfl) : PG X (.Subscript o i pos) (Qjk to ti t) := by
 intro pins s σ H v u Q I r h
 rw [ha]
 refine wpAny_bind (wpAny_holding (thn (ho pins s σ H _ I h) fun ov s1 ⟨x, H1, I1, r1, q1⟩ => ?_))
 refine wpAny_bind (wpAny_holding (thn (hi pins s1 σ H1 _ I1 q1) fun iv s2 ⟨y, H2, I2, r2, q2⟩ => ?_))
 refine wpAny_bind (wpAny_standAt (wpAny_bind (wpAny_holding (thn (hs pins s2 σ H2 x y v ov iv u _ I2 r1 r2 r q2) fun _ s3 ⟨H3, I3, q3⟩ => ?_))))
 exact wpAny_release ⟨σ, H3, I3, q3⟩
noncomputable def QgH (te : TE) (g : TG) : TS := fun D σ H => te σ H fun x H1 => g x σ H1 D.nx
theorem QcZ {tg e : Expr} {te : TE} {g : TG} (he : PE X e te) (hg : PG X tg g) (hs : swapsWithSole [tg] e pos.line X.env = pure false := by rfl) (hw : swappedStores [tg] e X.env = pure none := by rfl)
  (h1 : (assignEach [tg] X.env).map (·.2) = [assign tg X.env] := by rfl) : PS X (.Assign [tg] e pos) (QgH te g) := by
 intro pins s σ H D I h
 refine wpAny_Assign_stores (thn (he pins s σ H _ I h) fun v s1 ⟨x, H1, I1, r1, q1⟩ => ?_) hs hw
 rw [h1]
 exact thn (hg pins s1 σ H1 x v _ I1 r1 q1) fun _ s2 q => q
theorem Qgh {i : Nat} {x : Str} {e : Expr} {te : TE} {pos' : Pos} (hN : X.N.Nodup) (hi : X.N[i]? = some x) (hx : Loc X.env.scope x) (he : PE X e te) (hs : swapsWith e (some (.Name x pos')) pos.line X.env = pure false := by rfl) (hf : X.fn x = true ∨ X.env.scope.names.lookup x = some .local := by first | exact .inl rfl | exact .inr rfl | assumption) :
  PS X (.Assign [.Name x pos'] e pos) (QgH te (QaR i)) := by
 intro pins s σ H D I h
 refine wpAny_Assign_Name (thn (he pins s σ H _ I h) fun v s1 ⟨y, H1, I1, r1, q1⟩ => ?_) hs
 exact Yp I1 hN hi hx r1 (fun s2 I2 => ⟨_, H1, I2, q1⟩) hf
noncomputable def Qj6 (i : Nat) (te : TE) (ti : TIp) : TS := fun D σ H => ∃ x, σ[i]? = some (some x) ∧ te σ H fun y H1 => ti x y H1 fun z H2 => D.nx (σ.set i (some z)) H2
theorem Qfy {i : Nat} {x : Str} {e : Expr} {te : TE} {op : Operator} {ti : TIp} {pos' : Pos} (hN : X.N.Nodup) (hi : X.N[i]? = some x) (hx : Loc X.env.scope x) (he : PE X e te) (ho : PIp X op ti) (hf : X.fn x = true ∨ X.env.scope.names.lookup x = some .local := by first | exact .inl rfl | exact .inr rfl | assumption) :
  PS X (.AugAssign (.Name x pos') op e pos) (Qj6 i te ti) := by
 intro pins s σ H D I h
 obtain ⟨v, e1, h⟩ := h
 obtain ⟨m, hn, hl⟩ := I.loc
 have vis : Vis X.env.scope x := by rcases hx with k | k; exact .inl k; exact .inr (.inl k)
 obtain ⟨u, r, l⟩ := hl i x v hi e1 vis
 refine wpAny_AugAssign_Name ?_
 have go : wpAny (model X.prog X.w) X.A (eval e X.env) (fun w s₂ => wpAny (model X.prog X.w) X.A (inplaceOp op u w) (fun r s₃ => wpAny (model X.prog X.w) X.A (storeName X.env x r) (fun _ => SP X pins D .next) X.xe s₃) X.xe s₂) X.xe s := by
  refine thn (he pins s σ H _ I h) fun w s1 ⟨y, H1, I1, r1, q1⟩ => ?_
  refine thn (ho pins s1 σ H1 v y u w _ I1 r r1 q1) fun z s2 ⟨zv, H2, I2, r2, q2⟩ => ?_
  exact Yp I2 hN hi hx r2 (fun s3 I3 => ⟨_, H2, I3, q2⟩) hf
 rcases l with ⟨hk, hm⟩ | ⟨hk, c, hc, hcell⟩
 ·exact wpAny_loadName_local I.ok.kind hk hn hm go
 ·rcases hk with hk | hk
  ·exact wpAny_loadName_cell I.ok.kind hk hc hcell go
  ·rcases hx with k | k
   ·have : X.env.scope.names.lookup x = some .free := hk
    rw [k] at this; cases this
   ·have : X.env.scope.names.lookup x = some .free := hk
    rw [k] at this; cases this
end

section
variable {X : Cx} {pos : Pos}
noncomputable def Qds (c : TT) (tb : TS) : TS := fun D σ H => ∃ W : Nat → St → Hp → Prop, (∃ m, W m σ H) ∧ ∀ m σ H, W m σ H →
 c σ H fun b H1 => if b = true then ∃ N : St → Hp → Prop, (∀ σ' H', N σ' H' → ∃ m', m' < m ∧ W m' σ' H') ∧ tb { D with nx := N, ct := N, bk := D.nx } σ H1 else D.nx σ H1
theorem QbR {c : Expr} {body : List Stmt} {tc : TT} {tb : TS} (hp : PassesOwn (model X.prog X.w) X.A X.env X.xe) (hc : PT X c tc) (hb : PSs X body tb) : PS X (.While c body [] pos) (Qds tc tb) := by
 intro pins s σ H D I h
 obtain ⟨W, ⟨m0, w0⟩, turn⟩ := h
 refine wpAny_While (codeAny_whileLoop (fun n s' => ∃ σ' H', Inv X pins σ' H' s' ∧ W n σ' H') ?_ m0 ⟨σ, H, I, w0⟩)
 rintro n s1 ⟨σ1, H1, I1, w1⟩
 refine wpAny_passesOwn hp (thn (hc pins s1 σ1 H1 _ I1 (turn n σ1 H1 w1)) fun b s2 ⟨H2, I2, q2⟩ => ?_)
 cases b with
 | true =>
  obtain ⟨N, hN, q2⟩ := q2
  rw [if_pos rfl]
  refine wpAny_passesOwn hp (thn (hb pins s2 σ1 H2 _ I2 q2) fun f s3 q3 => ?_)
  cases f with
  | next =>
   obtain ⟨σ3, H3, I3, n3⟩ := q3
   obtain ⟨m', hm, w3⟩ := hN σ3 H3 n3
   exact ⟨m', hm, σ3, H3, I3, w3⟩
  | cont =>
   obtain ⟨σ3, H3, I3, n3⟩ := q3
   obtain ⟨m', hm, w3⟩ := hN σ3 H3 n3
   exact ⟨m', hm, σ3, H3, I3, w3⟩
  | brk => exact q3
  | ret v => exact q3
 | false =>
  rw [if_neg Bool.false_ne_true]
  exact wpAny_execs_nil ⟨σ1, H2, I2, q2⟩
end

structure It where
 go : Nat → Hp → Prop
 yld : Nat → Hp → V → Hp → Prop
 stop : Nat → Hp → Prop
noncomputable def QbK (X : Cx) (pins : List (Addr × Obj)) (H : Hp) (b : Addr) : Prop :=
 H b = none ∧ b ≠ X.env.locals ∧ b ∉ X.fs ∧ (b ∈ X.ex ∨ X.s₀.heap.objs.size ≤ b) ∧ (∀ x c, X.env.cells.lookup x = some c → c ≠ b) ∧ ∀ p ∈ X.pn ++ pins, p.1 ≠ b
theorem Inv.fpOk {X : Cx} {pins : List (Addr × Obj)} {σ : St} {H H' : Hp} {s : Shared} {b : Addr} (I : Inv X pins σ H s) (hb : s.heap.objs.size ≤ b) (hn : H' b = none) : QbK X pins H' b := by
 refine ⟨hn, Nat.ne_of_gt (Nat.lt_of_lt_of_le I.lt hb), I.nofs hb, .inr (Nat.le_trans I.sz hb), fun x c e z => ?_, fun p hp z => ?_⟩
 ·obtain ⟨v, q⟩ := I.cell x c e
  exact absurd (Nat.lt_of_lt_of_le q.lt (by rw [z]; exact hb)) (Nat.lt_irrefl _)
 ·exact absurd (Nat.lt_of_lt_of_le (Heap.lt_size (I.pin p hp).1) (by rw [z]; exact hb)) (Nat.lt_irrefl _)
structure Turn (P : Program) (w : World) (K : PySem.W.Frag) (tg : Expr) (J : It) (fp : List Addr) (it : Addr) (tn : Nat → Heap → Prop) : Prop where
 mem : it ∈ fp
 obj : ∀ i h, tn i h → ∀ b ∈ fp, ∃ o, h.get? b = some o ∧ ∀ v, o.data ≠ .cell v
 keep : ∀ i h h', tn i h → (∀ b ∈ fp, ∀ o, h.get? b = some o → h'.get? b = some o) → tn i h'
 item : ∀ (X : Cx), X.prog = P → X.w = w → X.K = K → X.calm = true → ∀ (i : Nat) (pins : List (Addr × Obj)) (s : Shared) (σ : St) (H : Hp) (E : Value → Shared → Prop), Inv X pins σ H s → (∀ b ∈ fp, QbK X pins H b) → tn i s.heap → J.go i H →
  wpAny (model P w) X.A (pyNext (.ref it)) (fun r s1 => ∃ u, r = some u ∧
   wpAny (model P w) X.A (letOwnedTupleGo tg (.ref it) u) (fun _ s2 => ∃ x H', Inv X pins σ H' s2 ∧ RelV x u ∧ J.yld i H x H' ∧ tn (i + 1) s2.heap ∧ ∀ b ∈ fp, H' b = none) E s1) E s
 done : ∀ (X : Cx), X.prog = P → X.w = w → X.K = K → X.calm = true → ∀ (i : Nat) (pins : List (Addr × Obj)) (s : Shared) (σ : St) (H : Hp) (E : Value → Shared → Prop), Inv X pins σ H s → (∀ b ∈ fp, QbK X pins H b) → tn i s.heap → J.stop i H →
  wpAny (model P w) X.A (pyNext (.ref it)) (fun r s1 => r = none ∧ Inv X pins σ H s1) E s
 self : ∀ (A : Around) (i : Nat) (s : Shared) (Q : Value → Shared → Prop) (E : Value → Shared → Prop), tn i s.heap → Q (.ref it) s → wpAny (model P w) A (pyIter (.ref it)) Q E s
noncomputable abbrev TI := St → Hp → (It → Hp → Prop) → Prop
noncomputable def PIE (X : Cx) (pins : List (Addr × Obj)) (σ : St) (tg : Expr) (R : It → Hp → Prop) (itv : Value) (s2 : Shared) : Prop :=
 ∃ (it : Addr) (fp : List Addr) (tn : Nat → Heap → Prop) (J : It) (H' : Hp), itv = .ref it ∧ Inv X pins σ H' s2 ∧ Turn X.prog X.w X.K tg J fp it tn ∧ tn 0 s2.heap ∧ (∀ b ∈ fp, QbK X pins H' b) ∧ R J H'
noncomputable def PI (X : Cx) (tg iter : Expr) (wi : TI) : Prop :=
 ∀ (pins : List (Addr × Obj)) (s : Shared) (σ : St) (H : Hp) (R : It → Hp → Prop), Inv X pins σ H s → wi σ H R →
  wpAny (model X.prog X.w) X.A (eval iter X.env) (fun v s1 => wpAny (model X.prog X.w) X.A (pyIter v) (PIE X pins σ tg R) X.xe s1) X.xe s

theorem Qbw {M : Model} {A : Around} {E : Value → Shared → Prop} {s : Shared} {tg : Expr} {it : Addr} {u : Value} {o : Obj} {n : String} {vs : Array Value} {Q : Unit → Shared → Prop} (ho : s.heap.get? it = some o) (hc : o.cls = .type n) (hd : o.data = .fields vs)
    (hn : ["enumerate", "zip", "dict_itemiterator", "dict_reverseitemiterator", "odict_iterator", "itertools.zip_longest", "itertools.pairwise"].contains n = false) (hQ : Q () s) : wpAny M A (letOwnedTupleGo tg (.ref it) u) Q E s := by
  unfold letOwnedTupleGo
  cases tg <;> first
    | exact wpAny_pure hQ
    | (cases u <;> first
        | exact wpAny_pure hQ
        | (refine wpAny_bind (wpAny_load ho ?_)
           rw [hc, hd]
           show wpAny M A (if (["enumerate", "zip", "dict_itemiterator", "dict_reverseitemiterator", "odict_iterator", "itertools.zip_longest", "itertools.pairwise"].contains n && vs[0]? == some (rawInt _)) = true then _ else _) Q E s
           rw [if_neg (by intro h; rw [hn, Bool.false_and] at h; cases h)]
           exact wpAny_pure hQ))

noncomputable def Itl (K : PySem.W.Frag) (a : Addr) : It :=
 ⟨fun i H => ∃ xs x, SqL K H a xs ∧ xs[i]? = some x, fun i H x H' => H' = H ∧ ∀ xs, SqL K H a xs → xs[i]? = some x, fun i H => ∃ xs, SqL K H a xs ∧ xs.length ≤ i⟩
noncomputable def Itt (K : PySem.W.Frag) (a : Addr) : It :=
 ⟨fun i H => ∃ xs x, SqT K H a xs ∧ xs[i]? = some x, fun i H x H' => H' = H ∧ ∀ xs, SqT K H a xs → xs[i]? = some x, fun i H => ∃ xs, SqT K H a xs ∧ xs.length ≤ i⟩
noncomputable def Itr (lo : Int) (n : Nat) : It := ⟨fun i _ => i < n, fun i H x H' => H' = H ∧ x = .int (lo + i), fun i _ => n ≤ i⟩
theorem Qbd {P : Program} {w : World} {K : PySem.W.Frag} {tg : Expr} (a it : Addr) : Turn P w K tg (Itl K a) [it] it (fun i h => h.IsListIter it a i) where
 mem := by simp
 obj := fun i h st b hb => by
  have e : b = it := by simpa using hb
  subst e
  obtain ⟨o, e, c, d⟩ := st
  exact ⟨o, e, fun v z => by rw [d] at z; cases z⟩
 keep := fun i h h' st k => st.at fun o e => k it (by simp) o e
 item := by
  intro X hP hw hK hc i pins s σ H E I hf st hg
  subst hP hw hK
  obtain ⟨xs, x, hq, hx⟩ := hg
  obtain ⟨its, rv, p, hz⟩ := I.list hq
  obtain ⟨u, hu, ru⟩ := rv.get hx
  obtain ⟨f0, f1, f2, f3, f4, f5⟩ := hf it (by simp)
  refine wpAny_pyNext_list_item st p.isList (x := u) (by simpa using hu) fun h' st' sb => ?_
  have I1 : Inv X pins σ H { s with heap := h' } := I.turned (t' := s.toks) (fun b o hb e => (sb.2 b hb).trans e) f0 f1 f3 f4 f5
  obtain ⟨o, e, c, d⟩ := id st'
  exact ⟨u, rfl, Qbw (s := { s with heap := h' }) e c d (by decide) ⟨x, H, I1, ru, ⟨rfl, fun ys hy => by rw [I.list_inj hy hq]; exact hx⟩, st', fun b hb => (hf b hb).1⟩⟩
 done := by
  intro X hP hw hK hc i pins s σ H E I hf st hg
  subst hP hw hK
  obtain ⟨xs, hq, hx⟩ := hg
  obtain ⟨its, rv, p, hz⟩ := I.list hq
  obtain ⟨f0, f1, f2, f3, f4, f5⟩ := hf it (by simp)
  have hl := rv.length
  exact wpAny_pyNext_list_end (I.ok.hd hc) st p.isList (by simp; omega) fun h' eb => ⟨rfl, I.turned (t' := s.toks) (fun b o hb e => eb b o hb e) f0 f1 f3 f4 f5⟩
 self := fun _ _ _ _ _ st h => wpAny_pyIter_listiter st h
theorem Gp {P : Program} {w : World} {K : PySem.W.Frag} {tg : Expr} (a it : Addr) : Turn P w K tg (Itt K a) [it] it (fun i h => h.IsTupleIter it a i) where
 mem := by simp
 obj := fun i h st b hb => by
  have e : b = it := by simpa using hb
  subst e
  obtain ⟨o, e, c, d⟩ := st
  exact ⟨o, e, fun v z => by rw [d] at z; cases z⟩
 keep := fun i h h' st k => st.at fun o e => k it (by simp) o e
 item := by
  intro X hP hw hK hc i pins s σ H E I hf st hg
  subst hP hw hK
  obtain ⟨xs, x, hq, hx⟩ := hg
  obtain ⟨its, rv, p, hz⟩ := I.tuple hq
  obtain ⟨u, hu, ru⟩ := rv.get hx
  obtain ⟨f0, f1, f2, f3, f4, f5⟩ := hf it (by simp)
  refine wpAny_pyNext_tuple_item st (show s.heap.IsTuple a its.toArray from p) (x := u) (by simpa using hu) fun h' st' sb => ?_
  have I1 : Inv X pins σ H { s with heap := h' } := I.turned (t' := s.toks) (fun b o hb e => (sb.2 b hb).trans e) f0 f1 f3 f4 f5
  obtain ⟨o, e, c, d⟩ := id st'
  exact ⟨u, rfl, Qbw (s := { s with heap := h' }) e c d (by decide) ⟨x, H, I1, ru, ⟨rfl, fun ys hy => by rw [I.tuple_inj hy hq]; exact hx⟩, st', fun b hb => (hf b hb).1⟩⟩
 done := by
  intro X hP hw hK hc i pins s σ H E I hf st hg
  subst hP hw hK
  obtain ⟨xs, hq, hx⟩ := hg
  obtain ⟨its, rv, p, hz⟩ := I.tuple hq
  obtain ⟨f0, f1, f2, f3, f4, f5⟩ := hf it (by simp)
  have hl := rv.length
  exact wpAny_pyNext_tuple_end (I.ok.hd hc) st (show s.heap.IsTuple a its.toArray from p) (by simp; omega) fun h' eb => ⟨rfl, I.turned (t' := s.toks) (fun b o hb e => eb b o hb e) f0 f1 f3 f4 f5⟩
 self := fun _ _ _ _ _ st h => wpAny_pyIter_tupleiter st h
theorem Gm {P : Program} {w : World} {K : PySem.W.Frag} {tg : Expr} (it : Addr) (lo : Int) (n : Nat) : Turn P w K tg (Itr lo n) [it] it (fun i h => IsRangeIter h it (lo + (i : Nat) * 1) ((n : Int) - (i : Nat)) 1) where
 mem := by simp
 obj := fun i h st b hb => by
  have e : b = it := by simpa using hb
  subst e
  exact ⟨_, st, fun v z => by
   have z' : Data.fields _ = Data.cell v := z
   cases z'⟩
 keep := fun i h h' st k => k it (by simp) _ st
 item := by
  intro X hP hw hK hc i pins s σ H E I hf st hg
  subst hP hw hK
  obtain ⟨f0, f1, f2, f3, f4, f5⟩ := hf it (by simp)
  have W := Walks.range (prog := X.prog) (w := X.w) (I.ok.hd hc) it lo 1 n
  refine W.item i s _ _ hg st fun v h' tk hv st' kk => ?_
  obtain ⟨t, rfl⟩ := hv
  have I1 : Inv X pins σ H { s with heap := h', toks := tk } := I.turned (fun b o hb e => kk b o (by simpa using hb) e) f0 f1 f3 f4 f5
  refine ⟨_, rfl, Qbw (s := { s with heap := h', toks := tk }) (n := "range_iterator") st' rfl rfl (by decide) ⟨.int (lo + i), H, I1, ⟨t, ?_⟩, ⟨rfl, rfl⟩, st', fun b hb => (hf b hb).1⟩⟩
  rw [Int.mul_one]
 done := by
  intro X hP hw hK hc i pins s σ H E I hf st hg
  subst hP hw hK
  obtain ⟨f0, f1, f2, f3, f4, f5⟩ := hf it (by simp)
  exact wpAny_pyNext_range_end (I.ok.hd hc) st (by have : n ≤ i := hg; omega) fun h' eb => ⟨rfl, I.turned (t' := s.toks) (fun b o hb e => eb b o hb e) f0 f1 f3 f4 f5⟩
 self := fun _ _ _ _ _ st h => wpAny_pyIter_rangeiter st h
end L2

namespace L2
open PySem PySem.Spec PyProof.Rows
section
variable {X : Cx} {tg : Expr}
theorem U2 {pins : List (Addr × Obj)} {σ : St} {H : Hp} {s : Shared} {R : It → Hp → Prop} {E : Value → Shared → Prop} {lo hi : Int} {t u v : Tok} {tk : Nat} (I : Inv X pins σ H s) (h1 : -(2 ^ 62) ≤ lo) (h2 : lo < 2 ^ 62) (h3 : -(2 ^ 62) ≤ hi) (h4 : hi < 2 ^ 62)
  (q : R (Itr lo (hi - lo).toNat) H) : wpAny (model X.prog X.w) X.A (pyIter (.ref s.heap.objs.size)) (PIE X pins σ tg R) E { s with heap := s.heap.push { cls := .type "range", data := .fields #[.int lo t, .int hi u, .int 1 v] }, toks := tk } := by
 refine wpAny_pyIter_range (IsRange.new ..) (small_one h1 h2 h3 h4) ?_
 have I1 : Inv X pins σ H { s with heap := s.heap.push { cls := .type "range", data := .fields #[.int lo t, .int hi u, .int 1 v] }, toks := tk } := I.kept fun b o e => Heap.get?_push_of_some _ e
 refine ⟨(s.heap.push { cls := .type "range", data := .fields #[.int lo t, .int hi u, .int 1 v] }).objs.size, [(s.heap.push { cls := .type "range", data := .fields #[.int lo t, .int hi u, .int 1 v] }).objs.size], _, _, H, rfl,
  I1.kept (t' := tk) fun b o e => Heap.get?_push_of_some _ e, Gm _ lo (hi - lo).toNat, ?_, fun b hb => ?_, q⟩
 ·have e1 : lo + ((0 : Nat) : Int) * 1 = lo := by simp
  have e2 : (((hi - lo).toNat : Nat) : Int) - ((0 : Nat) : Int) = Builtin.Range.rangeSize lo hi 1 := by rw [rangeSize_one]; split <;> omega
  show IsRangeIter _ _ (lo + ((0 : Nat) : Int) * 1) ((((hi - lo).toNat : Nat) : Int) - ((0 : Nat) : Int)) 1
  rw [e1, e2]
  exact Heap.get?_push_size _ rfl
 ·have e : b = (s.heap.push { cls := .type "range", data := .fields #[.int lo t, .int hi u, .int 1 v] }).objs.size := by simpa using hb
  subst e
  exact I1.fpOk (Nat.le_refl _) (I1.hok.fresh (Nat.le_refl _))
noncomputable def Qht (ta : TA) : TI := fun σ H R => ta σ H fun vs H1 => ∃ j : Int, vs = [.int j] ∧ -(2 ^ 62) ≤ j ∧ j < 2 ^ 62 ∧ R (Itr 0 j.toNat) H1
noncomputable def Qhf (ta : TA) : TI := fun σ H R => ta σ H fun vs H1 => ∃ i j : Int, vs = [.int i, .int j] ∧ (-(2 ^ 62) ≤ i ∧ i < 2 ^ 62 ∧ -(2 ^ 62) ≤ j ∧ j < 2 ^ 62) ∧ R (Itr i (j - i).toNat) H1
theorem G0 {a : Expr} {ta : TA} {p pos : Pos} (hg : Gl X "range") (hm : X.mg "range" = none) (ha : PA X [a] ta) (hs : starEach [a] X.env = [(false, eval a X.env)] := by rfl) : PI X tg (.Call (.Name "range" p) [a] [] pos) (Qht ta) := by
 intro pins s σ H R I h
 refine Call_ (Ym I hg hm boot_range (PyProof.Rows.callWith_type1 (thn (ha pos pins s σ H _ I h) fun us s1 ⟨vs, H1, I1, r1, q1⟩ => ?_) hs rfl))
 obtain ⟨j, e, q1, q2, q⟩ := q1
 subst e
 cases r1 with
 | cons r rr =>
  cases rr
  obtain ⟨t, rfl⟩ := r
  exact call_range_1 (U2 I1 (by omega) (by omega) q1 q2 (by simpa using q))
theorem GW {a b : Expr} {ta : TA} {p pos : Pos} (hg : Gl X "range") (hm : X.mg "range" = none) (ha : PA X [a, b] ta) (hs : starEach [a, b] X.env = [(false, eval a X.env), (false, eval b X.env)] := by rfl) (hs2 : starEach [b] X.env = [(false, eval b X.env)] := by rfl) :
  PI X tg (.Call (.Name "range" p) [a, b] [] pos) (Qhf ta) := by
 intro pins s σ H R I h
 refine Call_ (Ym I hg hm boot_range (PyProof.Rows.callWith_type1 (thn (ha pos pins s σ H _ I h) fun us s1 ⟨vs, H1, I1, r1, q1⟩ => ?_) (by rw [hs, hs2]) (by rw [hs2]; rfl)))
 obtain ⟨i, j, e, ⟨q1, q2, q3, q4⟩, q⟩ := q1
 subst e
 cases r1 with
 | cons r rr =>
  cases rr with
  | cons r' rr =>
   cases rr
   obtain ⟨t, rfl⟩ := r
   obtain ⟨t', rfl⟩ := r'
   exact call_range_2 (U2 I1 q1 q2 q3 q4 q)

noncomputable def QiZ (wi : TI) (g : TG) (tb : TS) : TS := fun D σ H => wi σ H fun J H1 => ∃ W : Nat → Nat → St → Hp → Prop, (∃ m, W 0 m σ H1) ∧ ∀ i m σ H, W i m σ H →
 (J.stop i H ∧ D.nx σ H) ∨ (J.go i H ∧ ∃ N : St → Hp → Prop, (∀ σ' H', N σ' H' → ∃ m', m' < m ∧ W (i + 1) m' σ' H') ∧ ∀ x H', J.yld i H x H' → g x σ H' fun σ2 H2 => tb { D with nx := N, ct := N, bk := D.nx } σ2 H2)
noncomputable def Wm (fp : List Addr) (h : Heap) : List (Addr × Obj) := fp.filterMap fun b => (h.get? b).map fun o => (b, o)
theorem Xa {fp : List Addr} {h : Heap} {b : Addr} {o : Obj} (hb : b ∈ fp) (e : h.get? b = some o) : (b, o) ∈ Wm fp h := List.mem_filterMap.mpr ⟨b, hb, by rw [e]; rfl⟩
theorem Qbx {fp : List Addr} {h : Heap} {p : Addr × Obj} (hp : p ∈ Wm fp h) : p.1 ∈ fp ∧ h.get? p.1 = some p.2 := by
 obtain ⟨b, hb, e⟩ := List.mem_filterMap.mp hp
 cases q : h.get? b with
 | none => rw [q] at e; cases e
 | some o =>
  rw [q] at e
  have e' : (b, o) = p := Option.some.inj e
  subst e'
  exact ⟨hb, q⟩
theorem Inv.pinned {pins : List (Addr × Obj)} {σ : St} {H : Hp} {s : Shared} {fp : List Addr} (I : Inv X pins σ H s) (hf : ∀ b ∈ fp, QbK X pins H b) (ho : ∀ b ∈ fp, ∃ o, s.heap.get? b = some o ∧ ∀ v, o.data ≠ .cell v) : Inv X (pins ++ Wm fp s.heap) σ H s :=
 I.pins_of fun p hp => (List.mem_append.mp hp).elim (fun z => I.pin p (List.mem_append_right _ z)) fun z => by
  obtain ⟨hb, e⟩ := Qbx z
  obtain ⟨f0, f1, f2, _⟩ := hf p.1 hb
  obtain ⟨o, e', d⟩ := ho p.1 hb
  rw [e] at e'; cases e'
  exact ⟨e, f0, f1, f2, d⟩
theorem Inv.unpinned {pins pl : List (Addr × Obj)} {σ : St} {H : Hp} {s : Shared} (I : Inv X (pins ++ pl) σ H s) : Inv X pins σ H s := I.pins_of fun p hp => I.pin p (List.mem_append_right _ (List.mem_append_left _ hp))
theorem QfW {iter : Expr} {body : List Stmt} {wi : TI} {g : TG} {tb : TS} {pos : Pos} (hp : PassesOwn (model X.prog X.w) X.A X.env X.xe) (hc : X.calm = true) (hi : PI X tg iter wi) (hg : PG X tg g) (hb : PSs X body tb)
  (hs : ∀ x, foldedSetIterable iter X.env x = pure x := by intro _; rfl) : PS X (.For tg iter body [] pos) (QiZ wi g tb) := by
 intro pins s σ H D I h
 refine wpAny_For (thn (hi pins s σ H _ I h) fun v s1 h1 => thn h1 fun itv s2 h2 => ?_) hs
 obtain ⟨it, fp, tn, J, H2, e, I2, T, st2, f2, W, ⟨m0, w0⟩, turn⟩ := h2
 subst e
 -- what stays true of the iterator's objects through the loop
 have stat : ∀ {H' : Hp}, (∀ b ∈ fp, H' b = none) → ∀ b ∈ fp, QbK X pins H' b := fun hn b hb => ⟨hn b hb, (f2 b hb).2⟩
 refine codeAny_forLoop_any (fun n s' => ∃ i σ' H', Inv X pins σ' H' s' ∧ tn i s'.heap ∧ (∀ b ∈ fp, H' b = none) ∧ W i n σ' H') ?_ m0 ⟨0, σ, H2, I2, st2, fun b hb => (f2 b hb).1, w0⟩
 rintro n s3 ⟨i, σ3, H3, I3, st3, fr3, w3⟩
 rcases turn i n σ3 H3 w3 with ⟨stop, qn⟩ | ⟨go, N, hN, step⟩
 ·refine wpAny_passesOwn hp (thn (T.done X rfl rfl rfl hc i pins s3 σ3 H3 X.xe I3 (stat fr3) st3 stop) fun r s4 ⟨hr, I4⟩ => ?_)
  subst hr
  exact wpAny_execs_nil ⟨σ3, H3, I4, qn⟩
 ·refine wpAny_passesOwn hp (thn (T.item X rfl rfl rfl hc i pins s3 σ3 H3 X.xe I3 (stat fr3) st3 go) fun r s4 ⟨u, hr, h4⟩ => ?_)
  subst hr
  refine wpAny_passesOwn hp (thn h4 fun _ s5 ⟨x, H5, I5, r5, y5, st5, fr5⟩ => ?_)
  have I5' := I5.pinned (stat fr5) (T.obj _ _ st5)
  refine wpAny_passesOwn hp (thn (hg _ s5 σ3 H5 x u _ I5' r5 (step x H5 y5)) fun _ s6 ⟨σ6, H6, I6, q6⟩ => ?_)
  refine wpAny_passesOwn hp (thn (hb _ s6 σ6 H6 _ I6 q6) fun f s7 q7 => ?_)
  have again : ∀ {σ7 : St} {H7 : Hp}, Inv X (pins ++ Wm fp s5.heap) σ7 H7 s7 → N σ7 H7 → ∃ m, m < n ∧ ∃ i σ' H', Inv X pins σ' H' s7 ∧ tn i s7.heap ∧ (∀ b ∈ fp, H' b = none) ∧ W i m σ' H' := fun {σ7 H7} I7 n7 => by
   obtain ⟨m', hm, w7⟩ := hN σ7 H7 n7
   refine ⟨m', hm, i + 1, σ7, H7, I7.unpinned, T.keep _ _ _ st5 fun b hb o e => (I7.pin (b, o) (List.mem_append_right _ (List.mem_append_right _ (Xa hb e)))).1, fun b hb => ?_, w7⟩
   obtain ⟨o, e, d⟩ := T.obj _ _ st5 b hb
   exact (I7.pin (b, o) (List.mem_append_right _ (List.mem_append_right _ (Xa hb e)))).2.1
  cases f with
  | next => obtain ⟨σ7, H7, I7, n7⟩ := q7; exact again I7 n7
  | cont => obtain ⟨σ7, H7, I7, n7⟩ := q7; exact again I7 n7
  | brk => obtain ⟨σ7, H7, I7, q7⟩ := q7; exact ⟨σ7, H7, I7.unpinned, q7⟩
  | ret v => obtain ⟨x7, σ7, H7, I7, r7, q7⟩ := q7; exact ⟨x7, σ7, H7, I7.unpinned, r7, q7⟩
end

end L2

namespace L2
open PySem PySem.Spec PyProof.Rows

noncomputable abbrev R2 := V → V → Hp → VK → Prop
noncomputable def OpR (X : Cx) (f : Value → Value → Sem Value) (r : R2) : Prop :=
 ∀ (pins : List (Addr × Obj)) (s : Shared) (σ : St) (H : Hp) (x y : V) (v u : Value) (Q : VK), Inv X pins σ H s → RelV x v → RelV y u → r x y H Q →
  wpAny (model X.prog X.w) X.A (f v u) (EP X pins σ Q) X.xe s
noncomputable def UnR (X : Cx) (f : Value → Sem Value) (r : V → Hp → VK → Prop) : Prop :=
 ∀ (pins : List (Addr × Obj)) (s : Shared) (σ : St) (H : Hp) (x : V) (v : Value) (Q : VK), Inv X pins σ H s → RelV x v → r x H Q →
  wpAny (model X.prog X.w) X.A (f v) (EP X pins σ Q) X.xe s
noncomputable def CallR (X : Cx) (f : Value) (r : List V → Hp → VK → Prop) : Prop :=
 ∀ (pins : List (Addr × Obj)) (s : Shared) (σ : St) (H : Hp) (xs : List V) (us : List Value) (Q : VK), Inv X pins σ H s → Vals xs us → r xs H Q →
  wpAny (model X.prog X.w) X.A (call f us) (EP X pins σ Q) X.xe s
noncomputable def QjZ (X : Cx) (r : V → Hp → (Bool → Hp → Prop) → Prop) : Prop :=
 ∀ (pins : List (Addr × Obj)) (s : Shared) (σ : St) (H : Hp) (x : V) (v : Value) (Q : Bool → Hp → Prop), Inv X pins σ H s → RelV x v → r x H Q →
  wpAny (model X.prog X.w) X.A (truthy v) (TP X pins σ Q) X.xe s

noncomputable def tOp (r : R2) (ta tb : TE) : TE := fun σ H Q => ta σ H fun x H1 => tb σ H1 fun y H2 => r x y H2 Q
noncomputable def tUn (r : V → Hp → VK → Prop) (ta : TE) : TE := fun σ H Q => ta σ H fun x H1 => r x H1 Q
noncomputable def rI (C : Int → Int → Prop) (g : Int → Int → V) : R2 := fun x y H Q => ∃ i j, x = .int i ∧ y = .int j ∧ C i j ∧ Q (g i j) H
noncomputable def rI0 (g : Int → Int → V) : R2 := fun x y H Q => ∃ i j, x = .int i ∧ y = .int j ∧ Q (g i j) H
noncomputable def rU (g : Int → V) : V → Hp → VK → Prop := fun x H Q => ∃ i, x = .int i ∧ Q (g i) H

section
variable {X : Cx} {a b c : Expr} {ta tb tc : TE} {pos : Pos}

theorem Qg3 (ha : PE X a ta) (hb : PE X b tb) {pins : List (Addr × Obj)} {s : Shared} {σ : St} {H : Hp} {R : V → V → Hp → Prop} (I : Inv X pins σ H s)
  (h : ta σ H fun x H1 => tb σ H1 fun y H2 => R x y H2) {Q : Value → Shared → Prop} {f : Value → Value → Sem Value}
  (hf : ∀ v u s2 x y H2, Inv X pins σ H2 s2 → RelV x v → RelV y u → R x y H2 → wpAny (model X.prog X.w) X.A (f v u) Q X.xe s2) :
  wpAny (model X.prog X.w) X.A (eval a X.env) (fun v s₁ => wpAny (model X.prog X.w) X.A (eval b X.env) (fun u s₂ => wpAny (model X.prog X.w) X.A (f v u) Q X.xe s₂) X.xe s₁) X.xe s := by
 refine thn (ha pins s σ H _ I h) fun v s1 ⟨x, H1, I1, r1, q1⟩ => ?_
 refine thn (hb pins s1 σ H1 _ I1 q1) fun u s2 ⟨y, H2, I2, r2, q2⟩ => ?_
 exact hf v u s2 x y H2 I2 r1 r2 q2

theorem QhO {op : Operator} {r : R2} (ho : OpR X (binaryOp op) r) (ha : PE X a ta) (hb : PE X b tb) : PE X (.BinOp a op b pos) (tOp r ta tb) := by
 intro pins s σ H Q I h
 exact wpAny_BinOp (Qg3 ha hb I h fun v u s2 x y H2 I2 rx ry q => ho pins s2 σ H2 x y v u Q I2 rx ry q)
theorem Qg7 {op : UnaryOp} {r : V → Hp → VK → Prop} (ho : UnR X (unaryOp op) r) (ha : PE X a ta) : PE X (.UnaryOp op a pos) (tUn r ta) := by
 intro pins s σ H Q I h
 exact UnaryOp_ (thn (ha pins s σ H _ I h) fun v s1 ⟨x, H1, I1, r1, q1⟩ => ho pins s1 σ H1 x v Q I1 r1 q1)
theorem opI {f : Value → Value → Sem Value} {C : Int → Int → Prop} {g : Int → Int → Int}
  (rule : ∀ (i j : Int) (t u : Tok) (s : Shared) (Q : Value → Shared → Prop) (E : Value → Shared → Prop), C i j → Q (.int (g i j) s.toks) { s with toks := s.toks + 1 } → wpAny (model X.prog X.w) X.A (f (.int i t) (.int j u)) Q E s) :
  OpR X f (rI C fun i j => .int (g i j)) := by
 intro pins s σ H x y v u Q I rx ry h
 obtain ⟨i, j, rfl, rfl, hc, q⟩ := h
 obtain ⟨t, rfl⟩ := rx
 obtain ⟨t', rfl⟩ := ry
 exact rule i j t t' s _ _ hc ⟨.int (g i j), H, I.tok _, ⟨_, rfl⟩, q⟩
theorem Qhn {f : Value → Value → Sem Value} {g : Int → Int → Int}
  (rule : ∀ (i j : Int) (t u : Tok) (s : Shared) (Q : Value → Shared → Prop) (E : Value → Shared → Prop), Q (.int (g i j) s.toks) { s with toks := s.toks + 1 } → wpAny (model X.prog X.w) X.A (f (.int i t) (.int j u)) Q E s) :
  OpR X f (rI0 fun i j => .int (g i j)) := by
 intro pins s σ H x y v u Q I rx ry h
 obtain ⟨i, j, rfl, rfl, q⟩ := h
 obtain ⟨t, rfl⟩ := rx
 obtain ⟨t', rfl⟩ := ry
 exact rule i j t t' s _ _ ⟨.int (g i j), H, I.tok _, ⟨_, rfl⟩, q⟩
theorem QhG {f : Value → Value → Sem Value} {g : Int → Int → Bool}
  (rule : ∀ (i j : Int) (t u : Tok) (s : Shared) (Q : Value → Shared → Prop) (E : Value → Shared → Prop), Q (.bool (g i j)) s → wpAny (model X.prog X.w) X.A (f (.int i t) (.int j u)) Q E s) :
  OpR X f (rI0 fun i j => .bl (g i j)) := by
 intro pins s σ H x y v u Q I rx ry h
 obtain ⟨i, j, rfl, rfl, q⟩ := h
 obtain ⟨t, rfl⟩ := rx
 obtain ⟨t', rfl⟩ := ry
 exact rule i j t t' s _ _ ⟨.bl (g i j), H, I, rfl, q⟩

noncomputable def Qkh (i j : Int) : Prop := 0 < j ∧ j < 1073741824
noncomputable def QjJ (i j : Int) : Prop := 0 ≤ j ∧ j ≤ 1000000 ∧ i.natAbs < 2 ^ 64
noncomputable def CMul (i j : Int) : Prop := (-(2 ^ 64) < i ∧ i < 2 ^ 64) ∨ (-(2 ^ 64) < j ∧ j < 2 ^ 64)
theorem CMul.ok {i j : Int} (h : CMul i j) : IntMulOk i j := by
 rcases h with ⟨h1, h2⟩ | ⟨h1, h2⟩
 ·exact .of_left (intBits_le_64 h1 h2)
 ·exact .of_right (intBits_le_64 h1 h2)
theorem op_add : OpR X (binaryOp .Add) (rI0 fun i j => .int (i + j)) := Qhn fun _ _ _ _ _ _ _ q => add_int q
theorem QfV : OpR X (binaryOp .Sub) (rI0 fun i j => .int (i - j)) := Qhn fun _ _ _ _ _ _ _ q => sub_int q
theorem Qfm : OpR X (binaryOp .Mult) (rI CMul fun i j => .int (i * j)) := opI fun _ _ _ _ _ _ _ hc q => mul_int q hc.ok
theorem QdY : OpR X (binaryOp .FloorDiv) (rI Qkh fun i j => .int (i / j)) := opI fun i j _ _ _ _ _ hc q => by
 have h1 : (0 : Int) < j := hc.1
 have h2 : j < 1073741824 := hc.2
 exact floordiv_int (by omega) (by rw [Int.fdiv_eq_ediv_of_nonneg i (by omega)]; exact q) (.inl (PyProof.noPylong_small (by omega)))
theorem Qfu : OpR X (binaryOp .Mod) (rI (fun _ j => 0 < j) fun i j => .int (i % j)) := opI fun i j _ _ _ _ _ hc q => by
 have h1 : (0 : Int) < j := hc
 exact mod_int' (by omega) (by rw [Int.fmod_eq_emod_of_nonneg i (by omega)]; exact q)
theorem QfK : OpR X (binaryOp .Pow) (rI QjJ fun i j => .int (i ^ j.toNat)) := opI fun _ _ _ _ _ _ _ hc q => pow_int_small hc.1 hc.2.1 hc.2.2 q
theorem Qd0 : OpR X (inplaceOp .Add) (rI0 fun i j => .int (i + j)) := Qhn fun _ _ _ _ _ _ _ q => iadd_int q
theorem unI {f : Value → Sem Value} {g : Int → Int}
  (rule : ∀ (i : Int) (t : Tok) (s : Shared) (Q : Value → Shared → Prop) (E : Value → Shared → Prop), Q (.int (g i) s.toks) { s with toks := s.toks + 1 } → wpAny (model X.prog X.w) X.A (f (.int i t)) Q E s) :
  UnR X f (rU fun i => .int (g i)) := by
 intro pins s σ H x v Q I rx h
 obtain ⟨i, rfl, q⟩ := h
 obtain ⟨t, rfl⟩ := rx
 exact rule i t s _ _ ⟨.int (g i), H, I.tok _, ⟨_, rfl⟩, q⟩
theorem Qfq : UnR X (unaryOp .USub) (rU fun i => .int (-i)) := unI fun _ _ _ _ _ q => neg_int q
end

section
variable {X : Cx} {a b c : Expr} {ta tb tc : TE} {pos : Pos}
theorem Qc9 {pins : List (Addr × Obj)} {σ : St} {H : Hp} {s : Shared} {Q : VK} {k k' : Bool} (I : Inv X pins σ H s) (q : Q (.bl k) H) (e : k = k') : EP X pins σ Q (.bool k') s := by
 subst e
 exact ⟨.bl k, H, I, rfl, q⟩
theorem op_lt : OpR X (compareOp .Lt) (rI0 fun i j => .bl (decide (i < j))) := QhG fun _ _ _ _ _ _ _ q => lt_int q
theorem Qhh : OpR X (compareOp .Gt) (rI0 fun i j => .bl (decide (j < i))) := QhG fun _ _ _ _ _ _ _ q => gt_int q
theorem QhI : OpR X (compareOp .GtE) (rI0 fun i j => .bl (decide (j ≤ i))) := QhG fun _ _ _ _ _ _ _ q => ge_int q
theorem G7 : OpR X (compareOp .Lt) (fun x y H Q => ∃ i j, x = .str i ∧ y = .str j ∧ Q (.bl (decide (i.cps.toList < j.cps.toList))) H) := by
 intro pins s σ H x y v u Q I rx ry h
 obtain ⟨i, j, rfl, rfl, q⟩ := h
 obtain ⟨t, rfl⟩ := rx
 obtain ⟨t', rfl⟩ := ry
 exact lt_str (Qc9 I q rfl)
theorem op_isN : OpR X (compareOp .Is) (fun x y H Q => y = .non ∧ Q (.bl (decide (x = .non))) H) := by
 intro pins s σ H x y v u Q I rx ry h
 obtain ⟨rfl, q⟩ := h
 cases ry
 refine is_none_gen (Qc9 I q ?_)
 cases x <;> first
  | (cases rx; rfl)
  | (obtain ⟨t, rfl⟩ := rx; rfl)
theorem OpR.or {f : Value → Value → Sem Value} {r r' : R2} (h : OpR X f r) (h' : OpR X f r') : OpR X f (fun x y H Q => r x y H Q ∨ r' x y H Q) := by
 intro pins s σ H x y v u Q I rx ry q
 rcases q with q | q
 ·exact h pins s σ H x y v u Q I rx ry q
 ·exact h' pins s σ H x y v u Q I rx ry q

theorem Qev {op : CmpOp} {r : R2} (ho : OpR X (compareOp op) r) (ha : PE X a ta) (hb : PE X b tb) (hm : behindInMarks op b = false) : PE X (.Compare a [op] [b] pos) (tOp r ta tb) := by
 intro pins s σ H Q I h
 exact wpAny_Compare1 (Qg3 ha hb I h fun v u s2 x y H2 I2 rx ry q => ho pins s2 σ H2 x y v u Q I2 rx ry q) hm
noncomputable def Qg8 (t : TE) : TT := fun σ H Q => t σ H fun x H' => ∃ k, x = .bl k ∧ Q k H'
theorem QdR {op : CmpOp} {r : R2} (ho : OpR X (compareOp op) r) (ha : PE X a ta) (hb : PE X b tb) (hm : behindInMarks op b = false) : PT X (.Compare a [op] [b] pos) (Qg8 (tOp r ta tb)) := by
 intro pins s σ H Q I h
 refine wpAny_isTrue_Compare1 (thn (ha pins s σ H _ I h) fun v s1 ⟨x, H1, I1, r1, q1⟩ => thn (hb pins s1 σ H1 _ I1 q1) fun u s2 ⟨y, H2, I2, r2, q2⟩ =>
  thn (ho pins s2 σ H2 x y v u _ I2 r1 r2 q2) fun c s3 ⟨z, H3, I3, r3, k, e, q3⟩ => ?_) hm
 subst e
 cases r3
 exact wpAny_truthy_bool ⟨H3, I3, q3⟩
noncomputable def QhL (K : PySem.W.Frag) (x : V) (H : Hp) (k : Bool) : Prop :=
 match x with
 | .non => k = false
 | .bl b => k = b
 | .int i => k = (i != 0)
 | .str y => y.length ≤ sizeLine ∧ k = ((y.length : Int) != 0)
 | .byt y => y.size ≤ sizeLine ∧ k = ((y.size : Int) != 0)
 | .ref p => (∃ xs, SqL K H p xs ∧ k = !xs.isEmpty) ∨ (∃ xs, SqT K H p xs ∧ k = !xs.isEmpty) ∨ ∃ kvs, H p = some (.dK kvs) ∧ k = !kvs.isEmpty
 | _ => False
theorem GA {κ : Type} {kvs : List (κ × V)} {vs : List (κ × Value)} (r : KV kvs vs) : (!vs.isEmpty) = !kvs.isEmpty := by
 cases r <;> rfl
theorem Yf {xs : List V} {its : List Value} (r : Vals xs its) : (!its.toArray.isEmpty) = !xs.isEmpty := by
 cases r <;> simp
theorem KK : (sizeLine : Nat) < 2 ^ 63 := by rw [sizeLine_eq]; decide
theorem QfJ : QjZ X (fun x H Q => ∃ k, QhL X.K x H k ∧ Q k H) := by
 intro pins s σ H x v Q I rx h
 obtain ⟨k, e, q⟩ := h
 have hl := KK
 have hs : sizeLine = 16777216 := sizeLine_eq
 cases x with
 | non =>
  cases rx
  have e' : k = false := e
  subst e'
  exact truthy_none ⟨H, I, q⟩
 | bl b =>
  cases rx
  have e' : k = b := e
  subst e'
  exact wpAny_truthy_bool ⟨H, I, q⟩
 | int i =>
  obtain ⟨t, rfl⟩ := rx
  have e' : k = (i != 0) := e
  subst e'
  exact PySem.P.truthy_int ⟨H, I, q⟩
 | str y =>
  obtain ⟨t, rfl⟩ := rx
  obtain ⟨hy, e'⟩ : y.length ≤ sizeLine ∧ k = ((y.length : Int) != 0) := e
  subst e'
  exact PySem.P.truthy_str (by omega) ⟨H, I.tok _, q⟩
 | byt y =>
  obtain ⟨t, rfl⟩ := rx
  obtain ⟨hy, e'⟩ : y.size ≤ sizeLine ∧ k = ((y.size : Int) != 0) := e
  subst e'
  exact PySem.W.truthy_bytes (by omega) ⟨H, I.tok _, q⟩
 | ref p =>
  cases rx
  have e' : (∃ xs, SqL X.K H p xs ∧ k = !xs.isEmpty) ∨ (∃ xs, SqT X.K H p xs ∧ k = !xs.isEmpty) ∨ ∃ kvs, H p = some (.dK kvs) ∧ k = !kvs.isEmpty := e
  rcases e' with ⟨xs, hx, e'⟩ | ⟨xs, hx, e'⟩ | ⟨kvs, hx, e'⟩
  ·subst e'
   obtain ⟨its, r, pl, hz⟩ := I.list hx
   have hlen := r.length
   exact wpAny_truthy_list pl.isList (by simp only [List.size_toArray]; omega) ⟨H, I.tok _, by rw [Yf r]; exact q⟩
  ·subst e'
   obtain ⟨its, r, pl, hz⟩ := I.tuple hx
   have hlen := r.length
   exact truthy_tuple pl (by simp only [List.size_toArray]; omega) ⟨H, I.tok _, by rw [Yf r]; exact q⟩
  ·subst e'
   obtain ⟨hz, hS, vs, r, m⟩ : kvs.length ≤ sizeLine ∧ (p == sysModules) = false ∧ ∃ vs, KV kvs vs ∧ s.heap.DictOf (Qa4 X.prog X.w) p vs := I.hok p _ hx
   have hlen : kvs.length = vs.length := Paired.length r
   exact wpAny_truthy_dict hS m (by omega) ⟨H, I.tok _, by rw [GA r]; exact q⟩
 | _ => exact (show False from e).elim
theorem QcE (ha : PE X a ta) (he : ∀ whole, isTrue a X.env whole = (do let v ← whole; standAt a.pos; holding [v] (truthy v))) :
  PT X a (fun σ H Q => ta σ H fun x H' => ∃ k, QhL X.K x H' k ∧ Q k H') := by
 intro pins s σ H Q I h
 exact isTrue_plain (thn (ha pins s σ H _ I h) fun v s1 ⟨x, H1, I1, r1, q1⟩ => QfJ pins s1 σ H1 x v Q I1 r1 q1) (he _)

theorem op_add_str : OpR X (binaryOp .Add) (fun x y H Q => ∃ i j, x = .str i ∧ y = .str j ∧ i.length + j.length ≤ sizeLine ∧ Q (.str (i ++ j)) H) := by
 intro pins s σ H x y v u Q I rx ry h
 obtain ⟨i, j, rfl, rfl, hz, q⟩ := h
 obtain ⟨t, rfl⟩ := rx
 obtain ⟨t', rfl⟩ := ry
 exact add_str (fun t' tk => ⟨.str (i ++ j), H, I.tok _, ⟨_, rfl⟩, q⟩) hz
theorem Gd {x : V} {us : List Value} (r : Vals [x] us) : ∃ u, us = [u] ∧ RelV x u := by
 cases r with
 | cons r1 r2 => cases r2; exact ⟨_, rfl, r1⟩
theorem Qew {x y : V} {us : List Value} (r : Vals [x, y] us) : ∃ u w', us = [u, w'] ∧ RelV x u ∧ RelV y w' := by
 cases r with
 | cons r1 r2 =>
  cases r2 with
  | cons r3 r4 => cases r4; exact ⟨_, _, rfl, r1, r3⟩
theorem Qam (hc : X.calm = true) : CallR X (.builtin "max") (fun xs H Q => ∃ i j, xs = [.int i, .int j] ∧ Q (.int (if j > i then j else i)) H) := by
 intro pins s σ H xs us Q I r h
 obtain ⟨i, j, rfl, q⟩ := h
 obtain ⟨u, w', rfl, ⟨t, rfl⟩, ⟨t', rfl⟩⟩ := Qew r
 refine max_two_ints (I.ok.hd hc) fun h' tk k => ⟨_, H, I.kept k, ?_, q⟩
 by_cases hj : j > i
 ·rw [if_pos hj, if_pos hj]; exact ⟨_, rfl⟩
 ·rw [if_neg hj, if_neg hj]; exact ⟨_, rfl⟩
theorem Qbu (hc : X.calm = true) : CallR X (.builtin "min") (fun xs H Q => ∃ i j, xs = [.int i, .int j] ∧ Q (.int (if j < i then j else i)) H) := by
 intro pins s σ H xs us Q I r h
 obtain ⟨i, j, rfl, q⟩ := h
 obtain ⟨u, w', rfl, ⟨t, rfl⟩, ⟨t', rfl⟩⟩ := Qew r
 refine min_two_ints (I.ok.hd hc) fun h' tk k => ⟨_, H, I.kept k, ?_, q⟩
 by_cases hj : j < i
 ·rw [if_pos hj, if_pos hj]; exact ⟨_, rfl⟩
 ·rw [if_neg hj, if_neg hj]; exact ⟨_, rfl⟩
end
end L2

namespace L2
open PySem PySem.Spec PyProof.Rows

structure ObjM (h : Heap) (x dx C : Addr) (mA : Str → Option Value) : Prop where
 obj : h.get? x = some (PySem.W.instObj C dx)
 ns : h.Ns1 dx mA
 ne : dx ≠ x

theorem QaT {h : Heap} {dx : Addr} {mA : Str → Option Value} (n : h.Ns1 dx mA) : ∃ od, h.get? dx = some od ∧ ∀ name, PySem.W.lookIn name od = some (mA name) := by
 obtain ⟨o, es, ep, ho, hd, hk, _, hm⟩ := n
 refine ⟨o, ho, fun name => ?_⟩
 have e := hm name
 unfold nsFind findBy at e
 rw [← Array.find?_toList] at e
 unfold PySem.W.lookIn
 rw [hd]
 dsimp only
 split
 ·rename_i y q
  rw [q] at e
  exact congrArg some e
 ·rename_i q
  rw [q] at e
  have a : es.toList.any (·.refKey) = false := by
   rw [List.any_eq_false]
   intro y hy
   obtain ⟨z, t, hkey⟩ := hk y (Array.mem_toList_iff.mp hy)
   simp [DictEntry.refKey, hkey]
  have a' : ¬ es.toList.any (·.refKey) = true := by rw [a]; exact Bool.false_ne_true
  rw [if_neg a']
  exact congrArg some e

theorem ObjM.look {h : Heap} {x dx C : Addr} {mA : Str → Option Value} (I : ObjM h x dx C mA) : ∃ od, PySem.W.InstAt h x (PySem.W.instObj C dx) C (some od) ∧ ∀ name, PySem.W.lookIn name od = some (mA name) :=
 let ⟨od, ho, hl⟩ := QaT I.ns
 ⟨od, ⟨I.obj, rfl, rfl, ho⟩, hl⟩

section
variable {prog : Program} {w : World} {A : Around} {E : Value → Shared → Prop} {s : Shared} {K : PySem.W.Frag} {x dx C f : Addr} {mA : Str → Option Value} {name : Str} {v : Value}

end

section
variable {P : Program} {w : World} {H H' : Hp} {h h' : Heap} {a C dx : Addr} {fs fs' : List (Str × V)}
theorem QeK (hok : HOk P w H h) (e : H a = some (.ins C dx fs)) : ∃ mA, ObjM h a dx C mA ∧ (∀ f, RelO (fs.lookup f) (mA f)) ∧ PySem.Within mA (fs.map (·.1)) ∧ fs.length ≤ 1000 ∧ H dx = some (.own a) := by
 obtain ⟨d, z, ne, ob, mA, n, r, q⟩ := (show ObjOk P w H h a (.ins C dx fs) from hok a _ e)
 exact ⟨mA, ⟨ob, n, ne⟩, r, q, z, d⟩
end

structure Cls (K : PySem.W.Frag) (C : Addr) : Prop where
 pg : PySem.W.plainGet K C Str.empty = true
 hd : PySem.W.hasDictIn K C = true
 po : PySem.W.plainOver K C = true
 sa : PySem.W.findIn K (.ref C) "__setattr__" = some (some (.builtin "object.__setattr__"))
theorem Cls.get {K : PySem.W.Frag} {C : Addr} (c : Cls K C) (f : Str) : PySem.W.plainGet K C f = true := c.pg
section
variable {X : Cx} {pins : List (Addr × Obj)} {σ : St} {H : Hp} {s : Shared} {a C dx : Addr} {fs : List (Str × V)} {f : Str} {v : V} {A : Around} {E : Value → Shared → Prop}

end

section
variable {X : Cx} {o e value : Expr} {f : Str} {pos pos' tpos : Pos} {ta tv : TE}
end

section
variable {X : Cx} {pins : List (Addr × Obj)} {σ : St} {H : Hp} {s : Shared} {A : Around} {E : Value → Shared → Prop} {Q : Value → Shared → Prop} {c : Value} {b : Bool}
inductive TyOf (K : PySem.W.Frag) (H : Hp) : V → Value → Prop where
 | non : TyOf K H .non (.type "NoneType")
 | bl (x : Bool) : TyOf K H (.bl x) (.type "bool")
 | int (i : Int) : TyOf K H (.int i) (.type "int")
 | str (x : Str) : TyOf K H (.str x) (.type "str")
 | flt (x : UInt64) : TyOf K H (.flt x) (.type "float")
 | lst {a : Addr} {xs : List V} (e : H a = some (.lst xs)) : TyOf K H (.ref a) (.type "list")
 | frz {a : Addr} {o : Obj} {xs : List V} (e : H a = some (.frz o (.lst xs))) : TyOf K H (.ref a) (.type "list")
 | tup {a : Addr} {xs : List V} (e : H a = some (.tup xs)) : TyOf K H (.ref a) (.type "tuple")
 | dK {a : Addr} {kvs : List (Key × V)} (e : H a = some (.dK kvs)) : TyOf K H (.ref a) (.type "dict")
 | dT {a : Addr} {kvs : List (Tr × Addr × V)} (e : H a = some (.dT kvs)) : TyOf K H (.ref a) (.type "dict")
 | ins {a C dx : Addr} {fs : List (Str × V)} (e : H a = some (.ins C dx fs)) (cl : Cls K C) (ha : PySem.W.findIn K (.ref C) "__class__" = some (some (.builtin "object.__class__")))
   (hn : PySem.W.specialIn K (.builtin "object.__class__") "__get__" = some (some (.builtin "getset_descriptor.__get__"))) (htk : PySem.W.takesIn K (.builtin "object.__class__") = some true)
   (hm : PySem.W.mroIn K C (.type "object") = some true) : TyOf K H (.ref a) (.ref C)
theorem Qad {x : V} {u t : Value} (I : Inv X pins σ H s) (rx : RelV x u) (ty : TyOf X.K H x t) (e : PySem.W.kitOne X.K t c = some b) (h : ∀ tk, Q (.bool b) { s with toks := tk }) :
  wpAny (model X.prog X.w) A (call (.builtin "isinstance") [u, c]) Q E s := by
 cases ty with
 | non => cases (show u = Value.none from rx); exact PySem.W.kia_one PySem.W.kitx_none I.kIn True.intro e (fun z => nomatch z) h
 | bl y => cases (show u = Value.bool y from rx); exact PySem.W.kia_one PySem.W.kitx_bool I.kIn True.intro e (fun z => nomatch z) h
 | int i => obtain ⟨t, q⟩ := (show ∃ t, u = Value.int i t from rx); cases q; exact PySem.W.kia_one PySem.W.kitx_int I.kIn True.intro e (fun z => nomatch z) h
 | str y => obtain ⟨t, q⟩ := (show ∃ t, u = Value.str y t from rx); cases q; exact PySem.W.kia_one PySem.W.kitx_str I.kIn True.intro e (fun z => nomatch z) h
 | flt y => obtain ⟨t, q⟩ := (show ∃ t, u = Value.float y t from rx); cases q; exact PySem.W.kia_one PySem.W.kitx_float I.kIn True.intro e (fun z => nomatch z) h
 | @lst a xs ea =>
  cases (show u = Value.ref a from rx)
  obtain ⟨_, _, n, _, h1⟩ := (show ObjOk X.prog X.w H s.heap a (.lst xs) from I.hok a _ ea)
  exact PySem.W.kia_one PySem.W.kitx_list I.kIn ⟨_, h1, rfl⟩ e (fun z => nomatch z) h
 | @frz a ob xs ea =>
  cases (show u = Value.ref a from rx)
  obtain ⟨_, _, _, n, _, h1⟩ := (show ObjOk X.prog X.w H s.heap a (.frz ob (.lst xs)) from I.hok a _ ea)
  exact PySem.W.kia_one PySem.W.kitx_list I.kIn ⟨_, h1, rfl⟩ e (fun z => nomatch z) h
 | @tup a xs ea =>
  cases (show u = Value.ref a from rx)
  obtain ⟨_, _, _, p⟩ := (show ObjOk X.prog X.w H s.heap a (.tup xs) from I.hok a _ ea)
  obtain ⟨o, h1, h2, _⟩ := p
  exact PySem.W.kia_one PySem.W.kitx_tuple I.kIn ⟨o, h1, h2⟩ e (fun z => nomatch z) h
 | @dK a kvs ea =>
  cases (show u = Value.ref a from rx)
  obtain ⟨_, _, vs, _, p⟩ := (show ObjOk X.prog X.w H s.heap a (.dK kvs) from I.hok a _ ea)
  obtain ⟨o, es, ep, h1, h2, _⟩ := p
  exact PySem.W.kia_one PySem.W.kitx_dict I.kIn ⟨o, h1, h2.1⟩ e (fun z => nomatch z) h
 | @dT a kvs ea =>
  cases (show u = Value.ref a from rx)
  obtain ⟨_, _, xs, _, o, es, ep, h1, h2, _⟩ := (show ObjOk X.prog X.w H s.heap a (.dT kvs) from I.hok a _ ea)
  exact PySem.W.kia_one PySem.W.kitx_dict I.kIn ⟨o, h1, h2.1⟩ e (fun z => nomatch z) h
 | @ins a C dx fs ea cl ha hn htk hm =>
  cases (show u = Value.ref a from rx)
  obtain ⟨mA, O, _⟩ := QeK I.hok ea
  obtain ⟨od, J, _⟩ := O.look
  exact PySem.W.kia_one (PySem.W.kitx_own (cl.get _) cl.hd ha hn htk hm) I.kIn J e (fun z => nomatch z) h
end
end L2

namespace L2
open PySem PySem.Spec PyProof.Rows

structure Room (k : Nat) (A : Around) : Prop where
 hd : A.handled = none
 dp : A.depth + 3 * k + 5 < recursionLimit
 un : A.units + 16 * k + 200 < cLine
theorem Room.mono {j k : Nat} {A : Around} (r : Room k A) (h : j ≤ k) : Room j A := ⟨r.hd, by have := r.dp; omega, by have := r.un; omega⟩
theorem Room.deeper {k : Nat} {A : Around} (r : Room (k + 1) A) (env : Env) : Room k (A.deeper env) :=
 ⟨r.hd, by have := r.dp; show A.depth + 1 + 3 * k + 5 < _; omega, by have := r.un; show A.units + 3 + 16 * k + 200 < _; omega⟩
theorem Room.depth {k : Nat} {A : Around} (r : Room k A) : A.depth < recursionLimit := by have := r.dp; omega
theorem Room.units {k : Nat} {A : Around} (r : Room k A) : A.units + 64 < cLine := by have := r.un; omega
noncomputable def Qi8 : TA := fun _ H Q => Q [] H
noncomputable def Qg0 (ta : TE) (tr : TA) : TA := fun σ H Q => ta σ H fun x H1 => tr σ H1 fun xs H2 => Q (x :: xs) H2
section
variable {X : Cx} {e : Expr} {es : List Expr} {te : TE} {t : TA} {pos : Pos}
theorem QfH : PA X [] Qi8 := fun _ _ _ _ H Q I h => Calls.spliced_nil ⟨[], H, I, .nil, h⟩
theorem Qey (ha : PE X e te) (hr : PA X es t) (hs : starEach (e :: es) X.env = (false, eval e X.env) :: starEach es X.env := by rfl) : PA X (e :: es) (Qg0 te t) := by
 intro pos pins s σ H Q I h
 rw [hs]
 show wpAny _ _ (spliced ((false, eval e X.env) :: backTo pos (starEach es X.env))) _ _ s
 refine Calls.spliced_cons (thn (ha pins s σ H _ I h) fun u s1 ⟨x, H1, I1, r1, q1⟩ => ?_)
 exact thn (hr pos pins s1 σ H1 _ I1 q1) fun us s2 ⟨xs, H2, I2, r2, q2⟩ => ⟨x :: xs, H2, I2, .cons r1 r2, q2⟩

noncomputable def QkA (t : TA) : TE := fun σ H Q => t σ H fun xs H1 => xs.length ≤ sizeLine ∧ ∀ p, H1 p = none → Q (.ref p) (upd H1 p (.tup xs))
noncomputable def QjS (t : TA) : TE := fun σ H Q => t σ H fun xs H1 => xs.length ≤ sizeLine ∧ ∀ p, H1 p = none → Q (.ref p) (upd H1 p (.lst xs))
theorem QfY {x1} (h : PA X es t) : PE X (.Tuple es x1 pos) (QkA t) := by
 intro pins s σ H Q I hq
 refine wpAny_Tuple_spliced (thn (h pos pins s σ H _ I hq) fun us s1 ⟨xs, H1, I1, r, z, q⟩ => ⟨by rw [← r.length]; exact z, ?_⟩)
 have hf : H1 s1.heap.objs.size = none := I1.hok.fresh (Nat.le_refl _)
 refine ⟨.ref s1.heap.objs.size, upd H1 s1.heap.objs.size (.tup xs), I1.laid (t' := s1.toks) (fun b u e => Heap.get?_push_of_some _ e) (Nat.le_refl _) ?_, rfl, q _ hf⟩
 exact ⟨z, us, r, ⟨_, Heap.get?_push_size _ rfl, rfl, _, rfl⟩⟩
theorem Qc8 (h : PA X es t) : PE X (.List es pos) (QjS t) := by
 intro pins s σ H Q I hq
 refine wpAny_List_spliced (thn (h pos pins s σ H _ I hq) fun us s1 ⟨xs, H1, I1, r, z, q⟩ => ⟨by rw [← r.length]; exact z, ?_⟩)
 have hf : H1 s1.heap.objs.size = none := I1.hok.fresh (Nat.le_refl _)
 refine ⟨.ref s1.heap.objs.size, upd H1 s1.heap.objs.size (.lst xs), I1.laid (t' := s1.toks) (fun b u e => Heap.get?_push_of_some _ e) (Nat.le_refl _) ?_, rfl, q _ hf⟩
 exact ⟨z, us, 0, r, Heap.get?_push_size _ rfl⟩
end

noncomputable abbrev Sp := List V → Hp → VK → XK → Prop
noncomputable abbrev CXT := List Env → Hp → Shared → XK → Value → Shared → Prop

structure Env0 (P : Program) (w : World) (K : PySem.W.Frag) (mg : Str → Option Value) (base : Heap) (A : Around) (outer : List Env) (s : Shared) (H : Hp) : Prop where
 frames : A.frames = some outer
 mod : Mod K mg base
 bs : ∀ b o, base.get? b = some o → s.heap.get? b = some o ∧ H b = none
 bsz : base.objs.size ≤ s.heap.objs.size
 funs : s.heap.FunFrames base outer
 frf : ∀ b ∈ frs outer, H b = none
 hok : HOk P w H s.heap
 bare : AllBare s.gens
noncomputable def CE (outer : List Env) (P : Program) (w : World) (H : Hp) (s : Shared) (Q : VK) (u : Value) (s' : Shared) : Prop :=
 ∃ v H', s'.os = s.os ∧ AllBare s'.gens ∧ Un (frs outer) [] H H' s.heap s'.heap ∧ HOk P w H' s'.heap ∧ RelV v u ∧ Q v H'
noncomputable def CR (CX : CXT) (outer : List Env) (P : Program) (w : World) (H : Hp) (s : Shared) (Q : VK) (E : XK) (r : Result) (s' : Shared) : Prop :=
 match r with
 | .ok (.ret u) => CE outer P w H s Q u s'
 | .ok _ => False
 | .error e => CX outer H s E e s'
structure FnOk (P : Program) (w : World) (K : PySem.W.Frag) (mg : Str → Option Value) (base : Heap) (CX : CXT) (k : Nat) (f : Addr) (fd : FuncData) (ps : List Str) (sp : Sp) : Prop where
 len : ∀ vs H Q E, sp vs H Q E → vs.length = ps.length
 run : ∀ (A : Around) (outer : List Env) (s : Shared) (H : Hp) (args : Args) (us : List Value) (vs : List V) (Q : VK) (E : XK), Room k A → Env0 P w K mg base A outer s H → BindsTo s fd args (ps.zip us) → Vals vs us → sp vs H Q E →
  codeAny (model P w) A (.call (.ref f) args) (CR CX outer P w H s Q E) s
theorem FnOk.imp {P : Program} {w : World} {K : PySem.W.Frag} {mg : Str → Option Value} {base : Heap} {CX : CXT} {k : Nat} {f : Addr} {fd : FuncData} {ps : List Str} {sp sp' : Sp} (F : FnOk P w K mg base CX k f fd ps sp)
  (h : ∀ vs H Q E, sp' vs H Q E → sp vs H Q E) : FnOk P w K mg base CX k f fd ps sp' :=
 ⟨fun vs H Q E q => F.len vs H Q E (h _ _ _ _ q), fun A outer s H args us vs Q E hr he hb hv hs => F.run A outer s H args us vs Q E hr he hb hv (h _ _ _ _ hs)⟩

section
variable {X : Cx} {pins : List (Addr × Obj)} {σ : St} {H : Hp} {s s' : Shared}
theorem Inv.env0 (I : Inv X pins σ H s) : Env0 X.prog X.w X.K X.mg X.base X.A X.stack s H :=
 ⟨I.ok.frames, I.ok.mod, I.bs, Nat.le_trans I.ok.bsz I.sz, I.stack, I.stkFree, I.hok, I.bare⟩
theorem Inv.after {Q : VK} {u : Value} (I : Inv X pins σ H s) (h : CE X.stack X.prog X.w H s Q u s') : EP X pins σ Q u s' := by
 obtain ⟨v, H', os, bare, un, hok, r, q⟩ := h
 obtain ⟨hh, g, d, t, os'⟩ := s'
 obtain rfl : os' = s.os := os
 exact ⟨v, H', I.call (h' := hh) (g' := g) (d' := d) (t' := t) (ch := []) un hok bare (fun b z => absurd z (by simp)), r, q⟩
end

noncomputable def QdZ (sp : Sp) (dvs : List V) (E : XK) (t : TA) : TE := fun σ H Q => t σ H fun vs H1 => sp (vs ++ dvs) H1 Q E
noncomputable def Binds (K : PySem.W.Frag) (fd : FuncData) (ps : List Str) (ds : List Value) : Prop :=
 ∀ (s : Shared) (us : List Value), K.In s.heap → (us ++ ds).length = ps.length → BindsTo s fd ⟨us, []⟩ (ps.zip (us ++ ds))
theorem Binds.all {K : PySem.W.Frag} {fd : FuncData} {ps : List Str} (h : ∀ us : List Value, us.length = ps.length → bindArgs fd ⟨us, []⟩ = pure (ps.zip us)) : Binds K fd ps [] := fun s us _ hl => by
 rw [List.append_nil] at hl ⊢
 exact .of_eq (h us hl)

noncomputable def Yl (CX : CXT) (X : Cx) (E : XK) : Prop := ∀ (pins : List (Addr × Obj)) (σ : St) (H : Hp) (s : Shared) (e : Value) (s' : Shared), Inv X pins σ H s → CX X.stack H s E e s' → X.xe e s'

section
variable {X : Cx} {CX : CXT} {k : Nat} {f C : Addr} {fd : FuncData} {ps : List Str} {sp : Sp} {dvs : List V} {ds : List Value} {E : XK} {x m : Str} {p pos apos : Pos} {e o : Expr} {es : List Expr} {ta : TE} {t : TA}

theorem Qdh {pins : List (Addr × Obj)} {σ : St} {H : Hp} {s : Shared} {Q : VK} {us : List Value} {vs : List V} (F : FnOk X.prog X.w X.K X.mg X.base CX k f fd ps sp) (hr : Room k X.A) (hb : Binds X.K fd ps ds) (hd : Vals dvs ds) (hx : Yl CX X E)
  (I : Inv X pins σ H s) (r : Vals vs us) (h : sp (vs ++ dvs) H Q E) : wpAny (model X.prog X.w) X.A (call (.ref f) us) (EP X pins σ Q) X.xe s := by
 have r2 : Vals (vs ++ dvs) (us ++ ds) := r.append hd
 have hl : (us ++ ds).length = ps.length := by rw [← r2.length]; exact F.len _ _ _ _ h
 refine wpAny_call (codeAny_mono (F.run X.A X.stack s H ⟨us, []⟩ (us ++ ds) (vs ++ dvs) Q E hr I.env0 (hb s us I.kIn hl) r2 h) fun r s' hq => ?_)
 cases r with
 | error e => exact hx pins σ H s e s' I hq
 | ok fl =>
  cases fl with
  | ret u => exact I.after hq
  | next => exact False.elim hq
  | brk => exact False.elim hq
  | cont => exact False.elim hq

theorem QdS (F : FnOk X.prog X.w X.K X.mg X.base CX k f fd ps sp) (hr : Room k X.A) (hg : Gl X x) (hm : X.mg x = some (.ref f)) (hk : PySem.W.keepIn X.K (.ref f) = true) (hb : Binds X.K fd ps ds) (hd : Vals dvs ds) (hx : Yl CX X E)
  (ha : PA X (e :: es) t) (hdb : (x == ("__debug__" : Str)) = false := by decide) (he : starEach (e :: es) X.env = (false, eval e X.env) :: starEach es X.env := by rfl) (hpl : (backTo pos (starEach es X.env)).any (·.1) = false := by rfl) :
  PE X (.Call (.Name x p) (e :: es) [] pos) (QdZ sp dvs E t) := by
 intro pins s σ H Q I h
 refine wpAny_Call_Name_kw (G6 I hg hm ?_ hdb)
 refine PySem.W.callWith_K (h₀ := X.base) I.ok.mod.kin hk (thn (ha pos pins s σ H _ I h) fun us s1 ⟨vs, H1, I1, r, q⟩ => ⟨I1.kIn, ?_⟩) he hpl
 exact Qdh F hr hb hd hx I1 r q
theorem Qb1 (F : FnOk X.prog X.w X.K X.mg X.base CX k f fd ps sp) (hr : Room k X.A) (hg : Gl X x) (hm : X.mg x = some (.ref f)) (hk : PySem.W.keepIn X.K (.ref f) = true) (hb : Binds X.K fd ps ds) (hd : Vals dvs ds) (hx : Yl CX X E)
  (hdb : (x == ("__debug__" : Str)) = false := by decide) : PE X (.Call (.Name x p) [] [] pos) (QdZ sp dvs E Qi8) := by
 intro pins s σ H Q I h
 refine wpAny_Call_Name_kw (G6 I hg hm ?_ hdb)
 exact PySem.W.callWith_K0 I.kIn hk (Qdh (us := []) F hr hb hd hx I .nil h)

end

section
variable {X : Cx} {CX : CXT} {k : Nat} {f C : Addr} {fd : FuncData} {ps ks : List Str} {sp : Sp} {E : XK} {x m : Str} {p pos apos kpos : Pos} {e o : Expr} {es : List Expr} {kws : List Keyword} {te ta : TE} {t tk : TA} {nm : Option Str}
variable {g : List Value → List Value → List Value} {gV : List V → List V → List V}
end

structure FnScope (N P : List Str) (sc : Scope) : Prop where
 kind : sc.kind = .function
 co : sc.isCoroutine = false
 gen : sc.isGenerator = false
 nd : N.Nodup
 pre : N.take P.length = P
 par : ∀ x ∈ P, sc.names.lookup x = some .local ∨ sc.names.lookup x = some .cell
 nofree : ∀ y ∈ sc.names, y.2 ≠ .free

theorem Y5 {kindOf : Str → Option NameKind} {x : Str} : ∀ {binds : List (Str × Value)} {m : Str → Option Value}, (∀ v, (x, v) ∉ binds) → bindL kindOf binds m x = m x
 | [], _, _ => rfl
 | (n, v) :: r, m, h => by
  unfold bindL
  rw [Y5 fun w hw => h w (List.mem_cons_of_mem _ hw)]
  split
  ·have : x ≠ n := by rintro rfl; exact h v List.mem_cons_self
   simp [this]
  ·rfl
theorem WI {kindOf : Str → Option NameKind} {x : Str} : ∀ {binds : List (Str × Value)} {m : Str → Option Value}, (∀ v, (x, v) ∉ binds) → bindC kindOf binds m x = m x
 | [], _, _ => rfl
 | (n, v) :: r, m, h => by
  unfold bindC
  rw [WI fun w hw => h w (List.mem_cons_of_mem _ hw)]
  split
  ·rfl
  ·have : x ≠ n := by rintro rfl; exact h v List.mem_cons_self
   simp [this]
theorem We {kindOf : Str → Option NameKind} {x : Str} {v : Value} : ∀ {P : List Str} {vs : List Value} {i : Nat} {m : Str → Option Value}, P.Nodup → P[i]? = some x → vs[i]? = some v → kindOf x = some .local →
  bindL kindOf (P.zip vs) m x = some v
 | [], _, _, _, _, h, _, _ => by simp at h
 | _ :: _, [], _, _, _, _, h, _ => by simp at h
 | p :: P, w :: vs, 0, m, nd, h1, h2, hk => by
  simp at h1 h2; subst h1; subst h2
  show bindL kindOf ((p, w) :: P.zip vs) m p = _
  unfold bindL
  rw [Y5 fun v hv => (List.nodup_cons.mp nd).1 (List.of_mem_zip hv).1, if_pos hk]
  simp
 | p :: P, w :: vs, i + 1, m, nd, h1, h2, hk => by
  show bindL kindOf ((p, w) :: P.zip vs) m x = _
  unfold bindL
  exact We (i := i) (List.nodup_cons.mp nd).2 (by simpa using h1) (by simpa using h2) hk
theorem YX {kindOf : Str → Option NameKind} {x : Str} {v : Value} : ∀ {P : List Str} {vs : List Value} {i : Nat} {m : Str → Option Value}, P.Nodup → P[i]? = some x → vs[i]? = some v → kindOf x ≠ some .local →
  bindC kindOf (P.zip vs) m x = some v
 | [], _, _, _, _, h, _, _ => by simp at h
 | _ :: _, [], _, _, _, _, h, _ => by simp at h
 | p :: P, w :: vs, 0, m, nd, h1, h2, hk => by
  simp at h1 h2; subst h1; subst h2
  show bindC kindOf ((p, w) :: P.zip vs) m p = _
  unfold bindC
  rw [WI fun v hv => (List.nodup_cons.mp nd).1 (List.of_mem_zip hv).1, if_neg hk]
  simp
 | p :: P, w :: vs, i + 1, m, nd, h1, h2, hk => by
  show bindC kindOf ((p, w) :: P.zip vs) m x = _
  unfold bindC
  exact YX (i := i) (List.nodup_cons.mp nd).2 (by simpa using h1) (by simpa using h2) hk

noncomputable def start (N : List Str) (vs : List V) : St := vs.map some ++ List.replicate (N.length - vs.length) none

noncomputable def QcW (CX : CXT) (P : Program) (w : World) (K : PySem.W.Frag) (mg : Str → Option Value) (base : Heap) (N : List Str) (qual : Str) (scope : Scope) (f : Addr) (cd : Value) (A : Around) (outer : List Env) (s : Shared) (H : Hp) (E : XK) : Cx where
 prog := P
 w := w
 K := K
 mg := mg
 base := base
 A := A.deeper (envOfC qual scope s.heap.objs.size f cd)
 N := N
 s₀ := s
 H₀ := H
 env := envOfC qual scope s.heap.objs.size f cd
 outer := outer
 stack := envOfC qual scope s.heap.objs.size f cd :: outer
 ex := []
 calm := true
 fn := fun _ => true
 pn := []
 xe := fun e s' => wpAny (model P w) (A.deeper (envOfC qual scope s.heap.objs.size f cd)) (leaving (envOfC qual scope s.heap.objs.size f cd) e) (fun _ s'' => CX outer H s E e s'') (fun e' s'' => CX outer H s E e' s'') s'

theorem UG {sc : Scope} {n : Nat} {x : Str} (h : sc.names.lookup x = some .cell) : ∃ c, (cellsFrom n sc.names []).lookup x = some c := by
 have q := PySem.W.cellsFrom_some sc.names n [] (.inl h)
 exact Option.isSome_iff_exists.mp q

theorem GS {CX : CXT} {P : Program} {w : World} {K : PySem.W.Frag} {mg : Str → Option Value} {base : Heap} {N ps : List Str} {qual : Str} {scope : Scope} {f : Addr} {cd : Value} {A : Around} {outer : List Env} {s s1 : Shared} {H : Hp} {E : XK} {us : List Value} {vs : List V}
  (S : FnScope N ps scope) (hd : A.handled = none) (e0 : Env0 P w K mg base A outer s H) (hl : vs.length = ps.length) (r : Vals vs us)
  (x : InCallC s s.heap.objs.size (bindL (envOfC qual scope s.heap.objs.size f cd).kindOf (ps.zip us) fun _ => none) (cellsFrom (s.heap.objs.size + 1) scope.names []) (bindC (envOfC qual scope s.heap.objs.size f cd).kindOf (ps.zip us) fun _ => none) s1) :
  Inv (QcW CX P w K mg base N qual scope f cd A outer s H E) [] (start N vs) H s1 := by
 have hpl : ps.length ≤ N.length := by have := congrArg List.length S.pre; rw [List.length_take] at this; omega
 obtain ⟨h1, tk, rfl, hk⟩ := x.done
 have noA : ∀ b : Addr, b ∉ (QcW CX P w K mg base N qual scope f cd A outer s H E).ex := fun b z => absurd (show b ∈ ([] : List Addr) from z) (by simp)
 refine ⟨⟨e0.mod, S.kind, rfl, rfl, Nat.le_refl _, fun y z c h1 h2 => ?_, fun y hy => ?_, fun y c _ h => ?_, fun _ => hd, Around.frames_deeper e0.frames, .inr ⟨rfl, rfl⟩, fun b z => absurd z (noA b), e0.bs, e0.bsz, fun b _ _ => noA b, fun b z => absurd z (noA b), e0.funs, e0.frf⟩,
  rfl, e0.bare, Un.kept hk, ⟨_, x.toInCall.ns, fun i y v h1 h2 h3 => ?_⟩, fun y c h => ⟨_, x.cell y c h⟩, e0.hok.fresh (Nat.le_refl _), fun y c h => ?_, fun p hp => absurd (show p ∈ ([] : List (Addr × Obj)) from hp) (by simp), e0.hok.kept hk, ?_⟩
 ·exact name_of_addr x.apart (PySem.mem_of_lookup h1) (PySem.mem_of_lookup h2)
 ·have hy : scope.names.lookup y = some .cell ∨ scope.names.lookup y = some .free := hy
  rcases hy with hy | hy
  ·exact UG hy
  ·exact absurd rfl (S.nofree _ (PySem.mem_of_lookup hy))
 ·exact Nat.le_of_lt (x.above y c (PySem.mem_of_lookup h))
 ·have hi : i < vs.length := by
   unfold start at h2
   by_cases hi : i < vs.length
   ·exact hi
   ·rw [List.getElem?_append_right (by simpa using hi)] at h2
    rw [List.getElem?_replicate] at h2
    split at h2 <;> cases h2
  have ha : vs[i]? = some v := by
   unfold start at h2
   rw [List.getElem?_append_left (by simpa using hi), List.getElem?_map] at h2
   cases e : vs[i]? with
   | none => rw [e] at h2; cases h2
   | some a => rw [e] at h2; cases h2; rfl
  obtain ⟨u, hu, rv⟩ := r.get ha
  have hp : ps[i]? = some y := by
   rw [← S.pre, List.getElem?_take_of_lt (by omega)]; exact h1
  have ndP : ps.Nodup := by rw [← S.pre]; exact S.nd.sublist (List.take_sublist _ _)
  refine ⟨u, rv, ?_⟩
  rcases S.par y (List.mem_of_getElem? hp) with k | k
  ·exact .inl ⟨k, We ndP hp hu k⟩
  ·obtain ⟨c, e⟩ := UG (n := s.heap.objs.size + 1) k
   refine .inr ⟨.inl k, c, e, ?_⟩
   have q := x.cell y c e
   rw [YX ndP hp hu (by show scope.names.lookup y ≠ _; rw [k]; decide)] at q
   exact q
 ·exact e0.hok.fresh (Nat.le_of_lt (x.above y c (PySem.mem_of_lookup h)))
 ·unfold start
  show _ = N.length
  rw [List.length_append, List.length_map, List.length_replicate]
  omega

theorem Qhr {CX : CXT} {P : Program} {w : World} {K : PySem.W.Frag} {mg : Str → Option Value} {base : Heap} {k : Nat} {f : Addr} {name qual : Str} {params : Arguments} {body : List Stmt} {scope : Scope} {dV kV doc pm cdv ct oc : Value} {an od : Option Addr}
  {osl : Array (Option Value)} {N ps : List Str} {sp : Sp} (lk : K.lookup f = some ⟨oc, od, .func (PySem.W.fnOf name qual params body scope dV kV doc pm an cdv ct), osl⟩) (hcd : PySem.W.codeIn K cdv qual = true) (S : FnScope N ps scope)
  (len : ∀ vs H Q E, sp vs H Q E → vs.length = ps.length)
  (hbody : ∀ (A : Around) (outer : List Env) (s : Shared) (H : Hp) (vs : List V) (Q : VK) (E : XK), Room k (A.deeper (envOfC qual scope s.heap.objs.size f cdv)) → sp vs H Q E →
   ∃ t, PSs (QcW CX P w K mg base N qual scope f cdv A outer s H E) body t ∧ t { nx := fun _ H' => Q .non H', rt := Q } (start N vs) H) :
  FnOk P w K mg base CX (k + 1) f (PySem.W.fnOf name qual params body scope dV kV doc pm an cdv ct) ps sp := by
 refine ⟨len, fun A outer s H args us vs Q E hr e0 hb r hsp => ?_⟩
 have hl := len _ _ _ _ hsp
 have KX : K.In s.heap := e0.mod.kin.keeps fun b o e => (e0.bs b o e).1
 have lim : s.heap.NoLimit := e0.mod.nolimit.keeps fun b o e => (e0.bs b o e).1
 have hkind : ∀ y ∈ ps.zip us, scope.names.lookup y.1 = some .local ∨ (scope.names.lookup y.1 = some .cell ∧ ((cellsFrom (s.heap.objs.size + 1) scope.names []).lookup y.1).isSome = true) := fun ⟨n, v⟩ hy => by
  rcases S.par n (List.of_mem_zip hy).1 with q | q
  ·exact .inl q
  ·exact .inr ⟨q, PySem.W.cellsFrom_some _ _ _ (.inl q)⟩
 refine codeAny_call_function hr.depth (KX _ _ lk) rfl S.co S.gen rfl (PySem.W.codeRec_of KX hcd) (hb _ _ _ _ ?_)
 refine wpAny_newFunctionEnv_cells S.kind hkind fun env he s1 x => ?_
 subst he
 refine ⟨lim.keeps x.toInCall.keep, codeAny_func ?_⟩
 obtain ⟨t, ht, hq⟩ := hbody A outer s H vs Q E (hr.deeper _) hsp
 have I : Inv (QcW CX P w K mg base N qual scope f cdv A outer s H E) [] (start N vs) H s1 := GS S hr.hd e0 hl r x
 refine wpAny_mono (ht [] s1 (start N vs) H _ I hq) (fun fl s' hs => ?_) fun e s' hs => hs
 have fin : ∀ {σ' : St} {H' : Hp} {v : V} {u : Value}, Inv (QcW CX P w K mg base N qual scope f cdv A outer s H E) [] σ' H' s' → RelV v u → Q v H' → CE outer P w H s Q u s' :=
  fun {σ' H' v u} J rv q => ⟨v, H', J.os, J.bare, J.base, J.hok, rv, q⟩
 cases fl with
 | ret u =>
  obtain ⟨v, σ', H', J, rv, q⟩ := hs
  exact fin J rv q
 | next =>
  obtain ⟨σ', H', J, q⟩ := hs
  exact fin (v := V.non) (u := Value.none) J rfl q
 | brk =>
  obtain ⟨_, _, _, q⟩ := hs
  exact False.elim q
 | cont =>
  obtain ⟨_, _, _, q⟩ := hs
  exact False.elim q
end L2

namespace L2
open PySem PySem.Spec PyProof.Rows
section
variable {X : Cx} {x : Str} {p pos : Pos} {e : Expr} {es : List Expr} {t : TA} {id T : String} {r : List V → Hp → VK → Prop}

noncomputable def tCB (r : List V → Hp → VK → Prop) (t : TA) : TE := fun σ H Q => t σ H fun vs H1 => r vs H1 Q
theorem Qcl (hc : CallR X (.builtin id) r) (hg : Gl X x) (hm : X.mg x = none) (hv : bootBuiltins x = some (.builtin id)) (ha : PA X (e :: es) t) (hn : x ≠ "__name__" := by decide) (hdb : (x == ("__debug__" : Str)) = false := by decide)
  (he : starEach (e :: es) X.env = (false, eval e X.env) :: starEach es X.env := by rfl) (hpl : (backTo pos (starEach es X.env)).any (·.1) = false := by rfl) : PE X (.Call (.Name x p) (e :: es) [] pos) (tCB r t) := by
 intro pins s σ H Q I h
 refine wpAny_Call_Name_kw (Ym I hg hm hv ?_ hn hdb)
 exact PyProof.Rows.callWith_builtin1 (thn (ha pos pins s σ H _ I h) fun us s1 ⟨vs, H1, I1, r1, q1⟩ => hc pins s1 σ H1 vs us Q I1 r1 q1) he hpl
theorem G8 (hc : CallR X (.type T) r) (hg : Gl X x) (hm : X.mg x = none) (hv : bootBuiltins x = some (.type T)) (ha : PA X (e :: es) t) (hn : x ≠ "__name__" := by decide) (hdb : (x == ("__debug__" : Str)) = false := by decide)
  (he : starEach (e :: es) X.env = (false, eval e X.env) :: starEach es X.env := by rfl) (hpl : (backTo pos (starEach es X.env)).any (·.1) = false := by rfl) : PE X (.Call (.Name x p) (e :: es) [] pos) (tCB r t) := by
 intro pins s σ H Q I h
 refine wpAny_Call_Name_kw (Ym I hg hm hv ?_ hn hdb)
 exact PyProof.Rows.callWith_type1 (thn (ha pos pins s σ H _ I h) fun us s1 ⟨vs, H1, I1, r1, q1⟩ => hc pins s1 σ H1 vs us Q I1 r1 q1) he hpl
end
end L2

namespace HT
open PySem PyProof.Rows

section
open PySem.SeqAt
open PySem.AutoSeq1 (wpAny_loadPart')
open PySem.MeetsSeq PySem.MeetsSeq2 PySem.MeetsSeq3

end

section
variable {prog : Program} {w : World} {A : Around} {E : Value → Shared → Prop} {s : Shared}

theorem cat_tup {t b : Addr} {vs ws : List Value} {Q : Value → Shared → Prop} (ht : IsTup s.heap t vs.toArray) (hb : IsTup s.heap b ws.toArray) (hv : vs ≠ [])
  (h1 : ws = [] → Q (.ref t) s) (h2 : ws ≠ [] → Q (.ref s.heap.objs.size) { s with heap := s.heap.push { cls := .type "tuple", data := .seq (vs ++ ws).toArray } })
  (hsz : vs.length + ws.length ≤ sizeLine) : wpAny (model prog w) A (binaryOp .Add (.ref t) (.ref b)) Q E s := by
 obtain ⟨⟨cls, dd, data, sl⟩, ho, hc, n, hd⟩ := id ht
 obtain ⟨⟨cls2, dd2, data2, sl2⟩, ho2, hc2, n2, hd2⟩ := id hb
 simp only at hc hd hc2 hd2
 subst hc hd hc2 hd2
 have e : vs.toArray ++ ws.toArray = (vs ++ ws).toArray := by simp
 by_cases hw : ws = []
 ·exact concat_meets ⟨_, ho, rfl⟩ ⟨_, ho2, rfl⟩ noFill_tuple_add seq_tuple_add PySem.F.slot_tuple_add PySem.F.entry_tuple_add (PySem.F.args_tuple_add_2 _ _)
   (tuple_addW1 t b vs.toArray ws.toArray n n2 dd dd2 sl sl2 (by simpa using hv) (by simp [hw])) ⟨ho, ho2, h1 hw⟩
 ·refine concat_meets ⟨_, ho, rfl⟩ ⟨_, ho2, rfl⟩ noFill_tuple_add seq_tuple_add PySem.F.slot_tuple_add PySem.F.entry_tuple_add (PySem.F.args_tuple_add_2 _ _)
   (tuple_addW2 t b vs.toArray ws.toArray n n2 dd dd2 sl sl2 (by simpa using hv) (by simpa using hw) (by rw [List.size_toArray, List.size_toArray]; exact hsz)) ⟨ho, ho2, ?_⟩
  rw [e]
  exact h2 hw

noncomputable def sIx (n d : Nat) : Option Int → Nat
 | none => d
 | some v => if v < 0 then (v + (n : Int)).toNat else min v.toNat n
theorem sIx_none (n d : Nat) : sIx n d none = d := rfl
theorem sIx_nat (n d k : Nat) : sIx n d (some (k : Int)) = min k n := by
 show (if (k : Int) < 0 then ((k : Int) + (n : Int)).toNat else min (k : Int).toNat n) = min k n
 rw [if_neg (by omega), Int.toNat_natCast]
theorem QfT (n d : Nat) (hd : d ≤ n) (o : Option Int) : sIx n d o ≤ n := by
 cases o with
 | none => exact hd
 | some v =>
  show (if v < 0 then (v + (n : Int)).toNat else min v.toNat n) ≤ n
  by_cases hv : v < 0
  ·rw [if_pos hv]; omega
  ·rw [if_neg hv]; exact Nat.min_le_right _ _
theorem QaW (v : Int) (n d : Nat) : (if v < 0 then max (v + (n : Int)) 0 else min v (n : Int)) = ((sIx n d (some v) : Nat) : Int) := by
 show (if v < 0 then max (v + (n : Int)) 0 else min v (n : Int)) = (((if v < 0 then (v + (n : Int)).toNat else min v.toNat n) : Nat) : Int)
 by_cases hv : v < 0
 ·simp only [if_pos hv]; omega
 ·simp only [if_neg hv]; omega
theorem Gj (lo hi : Option Int) (n : Nat) : Builtin.Slice.sliceAdjust lo hi 1 (n : Int) = (((sIx n 0 lo : Nat) : Int), ((sIx n n hi : Nat) : Int)) := by
 have h1 : ¬ ((1 : Int) < 0) := by omega
 unfold Builtin.Slice.sliceAdjust
 simp only [h1, if_false]
 refine Prod.ext ?_ ?_
 ·cases lo with
  | none => rfl
  | some v => exact QaW v n 0
 ·cases hi with
  | none => rfl
  | some v => exact QaW v n n
theorem Gw (i j : Nat) : Builtin.Slice.slicePlaces (i : Int) (j : Int) 1 = j - i := by
 unfold Builtin.Slice.slicePlaces
 have h1 : (1 : Int) > 0 := by omega
 simp only [h1, if_true, Int.ediv_one]
 split <;> omega
theorem Yb {v : Value} {o : Option Int} {Q : Option Int → Shared → Prop} (p : IsPart v o) (h : Q o s) : wpAny (model prog w) A (Builtin.Slice.slicePartIndex v) Q E s := by
 cases p with
 | none => exact slicePart_none h
 | int i t => exact slicePart_int h
theorem sliceApplied_gen {sl : Addr} {vl vu : Value} {lo hi : Option Int} {n : Nat} {Q : Int × Int × Nat → Shared → Prop} (hs : s.heap.IsSliceOf sl vl vu .none) (pl : IsPart vl lo) (pu : IsPart vu hi)
  (h : Q (((sIx n 0 lo : Nat) : Int), 1, sIx n n hi - sIx n 0 lo) s) : wpAny (model prog w) A (Builtin.Slice.sliceApplied (.ref sl) (pure (n : Int))) Q E s := by
 obtain ⟨os, hos, hcs, hds⟩ := id hs
 unfold Builtin.Slice.sliceApplied Builtin.Slice.sliceFields
 refine wpAny_bind (wpAny_bind (wpAny_field hos hds (x := vl) rfl (wpAny_bind (wpAny_field hos hds (x := vu) rfl (wpAny_bind (wpAny_field hos hds (x := .none) rfl (wpAny_pure ?_)))))))
 refine wpAny_bind (slicePart_none ?_)
 show wpAny _ _ (if ((1 : Int) == 0) = true then _ else _) _ _ s
 rw [if_neg (by decide)]
 refine wpAny_bind (Yb pl (wpAny_bind (Yb pu (wpAny_bind (wpAny_pure ?_)))))
 show wpAny _ _ (match Builtin.Slice.sliceAdjust lo hi 1 (n : Int) with | (lo, hi) => pure (lo, (1 : Int), Builtin.Slice.slicePlaces lo hi 1)) _ _ s
 rw [Gj lo hi n]
 show wpAny _ _ (pure (((sIx n 0 lo : Nat) : Int), (1 : Int), Builtin.Slice.slicePlaces ((sIx n 0 lo : Nat) : Int) ((sIx n n hi : Nat) : Int) 1)) _ _ s
 rw [Gw]
 exact wpAny_pure h
theorem QbO (xs : Array Value) (i k : Nat) : ((List.range k).filterMap fun (m : Nat) => xs[((i : Int) + (m : Int) * 1).toNat]?).toArray = ((xs.toList.drop i).take k).toArray := by
 have e : (fun (m : Nat) => xs[((i : Int) + (m : Int) * 1).toNat]?) = fun m => xs[i + m]? := by
  funext m
  have : ((i : Int) + (m : Int) * 1).toNat = i + m := by omega
  rw [this]
 rw [e]
 have := pick_run xs i k
 rw [List.filterMap_map] at this
 have e2 : ((fun x => xs[x]?) ∘ fun x => i + x) = fun m => xs[i + m]? := rfl
 rw [e2] at this
 rw [this]

theorem getItem_tuple_cut {t sl : Addr} {items : Array Value} {vl vu : Value} {lo hi : Option Int} {Q : Value → Shared → Prop} (ht : IsTup s.heap t items) (hs : s.heap.IsSliceOf sl vl vu .none) (pl : IsPart vl lo) (pu : IsPart vu hi)
  (hw : ¬ (sIx items.size 0 lo = 0 ∧ sIx items.size items.size hi = items.size))
  (h : Q (.ref s.heap.objs.size) { s with heap := s.heap.push { cls := .type "tuple", data := .seq ((items.toList.drop (sIx items.size 0 lo)).take (sIx items.size items.size hi - sIx items.size 0 lo)).toArray } })
  (hsz : items.size ≤ sizeLine) : wpAny (model prog w) A (getItem (.ref t) (.ref sl)) Q E s := by
 have htake : sizeOk (.seq ((items.toList.drop (sIx items.size 0 lo)).take (sIx items.size items.size hi - sIx items.size 0 lo)).toArray) := by
  show ((items.toList.drop (sIx items.size 0 lo)).take (sIx items.size items.size hi - sIx items.size 0 lo)).toArray.size ≤ sizeLine
  rw [List.size_toArray, List.length_take, List.length_drop, Array.length_toList]
  omega
 have hj : sIx items.size items.size hi ≤ items.size := QfT _ _ (Nat.le_refl _) hi
 obtain ⟨os, hos, hcs, hds⟩ := id hs
 have hTs : s.TypeIs (.ref sl) "slice" := ⟨os, hos, hcs⟩
 unfold getItem
 try with_reducible refine wpAny_holding ?_
 first | refine wpAny_bind (wpAny_pure ?_) | skip
 refine wpAny_bind (wpAny_sequenceKey ht.typeIs (by decide) ?_)
 refine wpAny_bind (wpAny_callSpecial?_slot (name := Str.ofString "__getitem__") ht.typeIs PyProof.Rows.slot_tuple_getitem
  (wpAny_call_entry PyProof.Rows.slot_tuple_getitem ht.typeIs entry_tuple_getitem ?_ (args_tuple_getitem _ _)))
 show wpAny _ _ (Builtin.Tuple.tupleItemsOf (.ref t) >>= _) _ _ s
 refine wpAny_bind (tupleItemsOf_ ht ?_)
 refine wpAny_bind (wpAny_typeOf hTs ?_)
 rw [if_pos (by decide)]
 refine wpAny_bind (sliceApplied_gen hs pl pu ?_)
 have hno : ¬ ((((sIx items.size 0 lo : Nat) : Int) == 0 && (1 : Int) == 1 && (sIx items.size items.size hi - sIx items.size 0 lo) == items.size) = true) := by
  intro q
  rw [Bool.and_eq_true, Bool.and_eq_true] at q
  have q1 : ((sIx items.size 0 lo : Nat) : Int) = 0 := eq_of_beq q.1.1
  have q2 : sIx items.size items.size hi - sIx items.size 0 lo = items.size := eq_of_beq q.2
  exact hw ⟨by omega, by omega⟩
 show wpAny _ _ (if (((sIx items.size 0 lo : Nat) : Int) == 0 && (1 : Int) == 1 && (sIx items.size items.size hi - sIx items.size 0 lo) == items.size) = true then _ else _) _ _ s
 rw [if_neg hno, QbO]
 first
  | exact wpAny_bind (m := Builtin.Tuple.tupleExact _) (wpAny_newObj_type (wpAny_pure ⟨_, rfl, wpAny_pure h⟩) htake)
  | exact wpAny_bind (m := Builtin.Tuple.tupleExact _) (wpAny_newObj_type (wpAny_bind (wpAny_pure (wpAny_pure ⟨_, rfl, wpAny_pure h⟩))) htake)
  | exact wpAny_bind (wpAny_bind (m := Builtin.Tuple.tupleExact _) (wpAny_newObj_type (wpAny_pure (wpAny_pure ⟨_, rfl, wpAny_pure h⟩)) htake))
  | exact wpAny_bind (wpAny_bind (m := Builtin.Tuple.tupleExact _) (wpAny_newObj_type (wpAny_pure ⟨_, rfl, wpAny_pure h⟩) htake))
end
end HT

namespace L2
open PySem PySem.Spec PyProof.Rows

noncomputable abbrev TO := St → Hp → (Option Int → Hp → Prop) → Prop
noncomputable def PO (X : Cx) (e : Option Expr) (t : TO) : Prop :=
 ∀ (pins : List (Addr × Obj)) (s : Shared) (σ : St) (H : Hp) (Q : Option Int → Hp → Prop), Inv X pins σ H s → t σ H Q →
  wpAny (model X.prog X.w) X.A (evalPart e X.env) (fun u s' => ∃ o H', Inv X pins σ H' s' ∧ IsPart u o ∧ Q o H') X.xe s
noncomputable def Qeq : TO := fun _ H Q => Q none H
noncomputable def Qh4 (t : TE) : TO := fun σ H Q => t σ H fun x H1 => ∃ i, x = .int i ∧ Q (some i) H1

section
variable {X : Cx} {e : Expr} {te : TE} {lo hi : Option Expr} {tl th : TO} {pos p2 : Pos}

theorem QdH : PO X none Qeq := by
 intro pins s σ H Q I h
 rw [evalPart_none]
 exact wpAny_pure ⟨none, H, I, .none, h⟩
theorem QeB (h : PE X e te) : PO X (some e) (Qh4 te) := by
 intro pins s σ H Q I hw
 rw [evalPart_some]
 refine thn (h pins s σ H _ I hw) fun u s1 ⟨x, H1, I1, r1, q1⟩ => ?_
 obtain ⟨i, rfl, q⟩ := q1
 obtain ⟨t, rfl⟩ := r1
 exact ⟨some i, H1, I1, .int i t, q⟩

noncomputable def SlR (X : Cx) (r : V → Option Int → Option Int → Hp → VK → Prop) : Prop :=
 ∀ (pins : List (Addr × Obj)) (s : Shared) (σ : St) (H : Hp) (x : V) (v vl vu : Value) (lo hi : Option Int) (sl : Addr) (Q : VK), Inv X pins σ H s → RelV x v → s.heap.IsSliceOf sl vl vu .none → IsPart vl lo → IsPart vu hi → r x lo hi H Q →
  ∃ T id, typeLookup (.type T) "__getitem__" = pure (some (.builtin id)) ∧ s.TypeIs v T ∧ wpAny (model X.prog X.w) X.A (getItem v (.ref sl)) (EP X pins σ Q) X.xe s
theorem SlR.or {r r' : V → Option Int → Option Int → Hp → VK → Prop} (h : SlR X r) (h' : SlR X r') : SlR X (fun x lo hi H Q => r x lo hi H Q ∨ r' x lo hi H Q) := by
 intro pins s σ H x v vl vu lo hi sl Q I rx hs pl pu q
 rcases q with q | q
 ·exact h pins s σ H x v vl vu lo hi sl Q I rx hs pl pu q
 ·exact h' pins s σ H x v vl vu lo hi sl Q I rx hs pl pu q
noncomputable def tSl (r : V → Option Int → Option Int → Hp → VK → Prop) (te : TE) (tl th : TO) : TE := fun σ H Q => te σ H fun x H1 => tl σ H1 fun l H2 => th σ H2 fun u H3 => r x l u H3 Q
theorem QbP {r : V → Option Int → Option Int → Hp → VK → Prop} (hr : SlR X r) (he : PE X e te) (hl : PO X lo tl) (hu : PO X hi th) : PE X (.Subscript e (.Slice lo hi none p2) pos) (tSl r te tl th) := by
 intro pins s σ H Q I h
 refine Subscript_ (thn (he pins s σ H _ I h) fun v s1 ⟨x, H1, I1, r1, q1⟩ => ?_)
 refine wpAny_Slice (thn (hl pins s1 σ H1 _ I1 q1) fun vl s2 ⟨l, H2, I2, pl, q2⟩ => thn (hu pins s2 σ H2 _ I2 q2) fun vu s3 ⟨u, H3, I3, pu, q3⟩ => ?_)
 rw [evalPart_none]
 refine wpAny_pure ?_
 have I4 : Inv X pins σ H3 { s3 with heap := s3.heap.push { cls := .type "slice", data := .fields #[vl, vu, .none] } } := I3.kept (t' := s3.toks) fun b ob q => Heap.get?_push_of_some _ q
 obtain ⟨T, id, hT, ht, hg⟩ := hr pins { s3 with heap := s3.heap.push { cls := .type "slice", data := .fields #[vl, vu, .none] } } σ H3 x v vl vu l u s3.heap.objs.size Q I4 r1 (Heap.IsSliceOf.new ..) pl pu q3
 show wpAny (model X.prog X.w) X.A (subscriptTail e (.Slice lo hi none p2) v (.ref s3.heap.objs.size)) (EP X pins σ Q) X.xe { s3 with heap := s3.heap.push { cls := .type "slice", data := .fields #[vl, vu, .none] } }
 exact tail_any (ops := [.ref s3.heap.objs.size, v]) ht hT hg (by with_unfolding_all rfl)

noncomputable def QbX (xs : List V) (lo hi : Option Int) : List V := (xs.drop (HT.sIx xs.length 0 lo)).take (HT.sIx xs.length xs.length hi - HT.sIx xs.length 0 lo)
theorem Kt (xs : List V) (lo hi : Option Int) : (QbX xs lo hi).length ≤ xs.length := by
 unfold QbX
 rw [List.length_take, List.length_drop]
 omega
noncomputable def Qjn (K : PySem.W.Frag) : V → Option Int → Option Int → Hp → VK → Prop := fun x lo hi H Q => ∃ a xs, x = .ref a ∧ SqT K H a xs ∧
 ¬ (HT.sIx xs.length 0 lo = 0 ∧ HT.sIx xs.length xs.length hi = xs.length) ∧ ∀ p, H p = none → Q (.ref p) (upd H p (.tup (QbX xs lo hi)))
theorem Qfa : SlR X (Qjn X.K) := by
 intro pins s σ H x v vl vu lo hi sl Q I rx hs pl pu h
 obtain ⟨a, xs, rfl, hx, hw, q⟩ := h
 cases rx
 obtain ⟨its, r, ht, hz⟩ := I.tuple hx
 have hlen : its.toArray.size = xs.length := by rw [List.size_toArray]; exact r.length.symm
 refine ⟨"tuple", _, PyProof.Rows.slot_tuple_getitem.lookup, ht.typeIs, ?_⟩
 refine HT.getItem_tuple_cut ht hs pl pu (by rw [hlen]; exact hw) ?_ (by rw [hlen]; exact hz)
 rw [hlen]
 refine ⟨.ref s.heap.objs.size, _, I.laid (t' := s.toks) (o := .tup (QbX xs lo hi)) (fun b ob q => Heap.get?_push_of_some _ q) (Nat.le_refl _) ?_, rfl, q _ (I.hok.fresh (Nat.le_refl _))⟩
 exact ⟨Nat.le_trans (Kt xs lo hi) hz, _, (r.drop (HT.sIx xs.length 0 lo)).take (HT.sIx xs.length xs.length hi - HT.sIx xs.length 0 lo), IsTup.new _ _⟩

noncomputable def QhV (K : PySem.W.Frag) : R2 := fun x y H Q => ∃ a b xs ys, x = .ref a ∧ y = .ref b ∧ SqT K H a xs ∧ SqT K H b ys ∧ xs ≠ [] ∧ xs.length + ys.length ≤ sizeLine ∧
 (ys = [] → Q (.ref a) H) ∧ (ys ≠ [] → ∀ p, H p = none → Q (.ref p) (upd H p (.tup (xs ++ ys))))
theorem Vals.nil_iff {xs : List V} {us : List Value} (r : Vals xs us) : us = [] ↔ xs = [] := by
 cases r with
 | nil => simp
 | cons _ _ => simp
theorem QdD : OpR X (binaryOp .Add) (QhV X.K) := by
 intro pins s σ H x y v u Q I rx ry h
 obtain ⟨a, b, xs, ys, rfl, rfl, ha, hb, hx, hz, q1, q2⟩ := h
 cases rx
 cases ry
 obtain ⟨its, r1, p1, _⟩ := I.tuple ha
 obtain ⟨its2, r2, p2, _⟩ := I.tuple hb
 refine HT.cat_tup p1 p2 (fun z => hx (r1.nil_iff.mp z)) (fun z => ⟨.ref a, H, I, rfl, q1 (r2.nil_iff.mp z)⟩) (fun z => ?_) (by rw [← r1.length, ← r2.length]; exact hz)
 refine ⟨.ref s.heap.objs.size, _, I.laid (t' := s.toks) (o := .tup (xs ++ ys)) (fun b ob q => Heap.get?_push_of_some _ q) (Nat.le_refl _) ?_, rfl, q2 (fun w => z (r2.nil_iff.mpr w)) _ (I.hok.fresh (Nat.le_refl _))⟩
 exact ⟨by rw [List.length_append]; exact hz, _, r1.append r2, IsTup.new _ _⟩
end
end L2

namespace L2
open PySem PySem.Spec PyProof.Rows

noncomputable def ixN (n : Nat) (i : Int) : Option Nat := if 0 ≤ i then (if i < n then some i.toNat else none) else if -(n : Int) ≤ i then some (i + n).toNat else none
noncomputable def atI {α : Type} (xs : List α) (i : Int) : Option α := (ixN xs.length i).bind fun j => xs[j]?
theorem QaL {n : Nat} {i : Int} {j : Nat} (h : ixN n i = some j) : seqIndex? i n = some j ∧ j < n ∧ -(n : Int) ≤ i ∧ i < n := by
 unfold ixN at h
 by_cases h0 : 0 ≤ i
 ·rw [if_pos h0] at h
  by_cases h1 : i < n
  ·rw [if_pos h1] at h
   have e : i.toNat = j := Option.some.inj h
   exact ⟨by rw [seqIndex_of h0 h1, e], by omega, by omega, h1⟩
  ·rw [if_neg h1] at h; cases h
 ·rw [if_neg h0] at h
  by_cases h1 : -(n : Int) ≤ i
  ·rw [if_pos h1] at h
   have e : (i + n).toNat = j := Option.some.inj h
   exact ⟨by rw [seqIndex_neg (by omega) h1, e], by omega, h1, by omega⟩
  ·rw [if_neg h1] at h; cases h
theorem Ud {α : Type} {xs : List α} {i : Int} {v : α} (h : atI xs i = some v) : ∃ j, seqIndex? i xs.length = some j ∧ xs[j]? = some v ∧ j < xs.length ∧ -(xs.length : Int) ≤ i ∧ i < xs.length := by
 unfold atI at h
 cases e : ixN xs.length i with
 | none => rw [e] at h; cases h
 | some j =>
  rw [e] at h
  obtain ⟨h1, h2, h3, h4⟩ := QaL e
  exact ⟨j, h1, h, h2, h3, h4⟩
theorem Qdx {α : Type} {xs : List α} {j : Nat} {v : α} (h : xs[j]? = some v) : atI xs (j : Int) = some v := by
 have hj : j < xs.length := (List.getElem?_eq_some_iff.mp h).1
 have e : ixN xs.length (j : Int) = some j := by
  unfold ixN
  rw [if_pos (by omega), if_pos (by omega)]; simp
 unfold atI; rw [e]; exact h
noncomputable def Qbs (b : Expr) : Prop := ∀ o i, subscripted b false o i = operate [o, i] (getItem o i)
noncomputable def IxR (X : Cx) (r : R2) : Prop :=
 ∀ (value slice : Expr) (pins : List (Addr × Obj)) (s : Shared) (σ : St) (H : Hp) (x y : V) (v u : Value) (Q : VK), Inv X pins σ H s → RelV x v → RelV y u → r x y H Q →
  subscripted slice false v u = operate [v, u] (getItem v u) → wpAny (model X.prog X.w) X.A (subscriptTail value slice v u) (EP X pins σ Q) X.xe s
noncomputable def MtR (X : Cx) (id : String) (r : V → List V → Hp → VK → Prop) : Prop :=
 ∀ (pins : List (Addr × Obj)) (s : Shared) (σ : St) (H : Hp) (x : V) (xs : List V) (v : Value) (us : List Value) (Q : VK), Inv X pins σ H s → RelV x v → Vals xs us → r x xs H Q →
  wpAny (model X.prog X.w) X.A (call (.builtin id) (v :: us)) (EP X pins σ Q) X.xe s
section
variable {X : Cx} {a b : Expr} {ta tb : TE} {pos : Pos}
theorem IxR.or {r r' : R2} (h : IxR X r) (h' : IxR X r') : IxR X (fun x y H Q => r x y H Q ∨ r' x y H Q) := by
 intro value slice pins s σ H x y v u Q I rx ry q hs
 rcases q with q | q
 ·exact h value slice pins s σ H x y v u Q I rx ry q hs
 ·exact h' value slice pins s σ H x y v u Q I rx ry q hs
theorem Qh3 {r : R2} (hr : IxR X r) (ha : PE X a ta) (hb : PE X b tb) (hs : Qbs b) : PE X (.Subscript a b pos) (tOp r ta tb) := by
 intro pins s σ H Q I h
 exact Subscript_ (Qg3 ha hb I h fun v u s2 x y H2 I2 rx ry q => hr a b pins s2 σ H2 x y v u Q I2 rx ry q (hs _ _))

noncomputable def QiI (K : PySem.W.Frag) : R2 := fun x y H Q => ∃ p xs i v, x = .ref p ∧ y = .int i ∧ SqL K H p xs ∧ atI xs i = some v ∧ Q v H
noncomputable def Qjm (K : PySem.W.Frag) : R2 := fun x y H Q => ∃ p xs i v, x = .ref p ∧ y = .int i ∧ SqT K H p xs ∧ atI xs i = some v ∧ Q v H
noncomputable def QiA : R2 := fun x y H Q => ∃ z i c, x = .str z ∧ y = .int i ∧ z.length ≤ sizeLine ∧ atI z.cps.toList i = some c ∧ Q (.str ⟨#[c]⟩) H
theorem ix_list : IxR X (QiI X.K) := by
 intro value slice pins s σ H x y v u Q I rx ry h hs
 obtain ⟨p, xs, i, z, rfl, rfl, hq, he, q⟩ := h
 cases rx
 obtain ⟨t, rfl⟩ := ry
 obtain ⟨its, r, pl, hz⟩ := I.list hq
 obtain ⟨j, h1, h2, h3, h4, h5⟩ := Ud he
 obtain ⟨w, ew, rw'⟩ := r.get h2
 have hl := r.length
 have hn := KK
 have fin : EP X pins σ Q w s := ⟨z, H, I, rw', q⟩
 by_cases h0 : 0 ≤ i
 ·have hj : i.toNat = j := by
   rw [seqIndex_of h0 h5] at h1
   exact Option.some.inj h1
  exact item_listR pl.isList h0 (by omega) (by rw [hj]; simpa using ew) fin hs
 ·have hj : (i + (its.toArray.size : Int)).toNat = j := by
   rw [seqIndex_neg (by omega) h4] at h1
   rw [List.size_toArray, ← hl]
   exact Option.some.inj h1
  exact subscriptTail_builtinR (x := w) pl.isList.typeIs slot_list_getitem.lookup
   (wpAny_getItem_list_neg (Q := fun r s' => r = w ∧ EP X pins σ Q r s') pl.isList (by omega) (by rw [List.size_toArray] <;> omega) (by omega) (by rw [hj]; simpa using ew) ⟨rfl, fin⟩) hs
theorem ix_tup : IxR X (Qjm X.K) := by
 intro value slice pins s σ H x y v u Q I rx ry h hs
 obtain ⟨p, xs, i, z, rfl, rfl, hq, he, q⟩ := h
 cases rx
 obtain ⟨t, rfl⟩ := ry
 obtain ⟨its, r, pl, hz⟩ := I.tuple hq
 obtain ⟨j, h1, h2, h3, h4, h5⟩ := Ud he
 obtain ⟨w, ew, rw'⟩ := r.get h2
 have hl := r.length
 have hn := KK
 have fin : EP X pins σ Q w s := ⟨z, H, I, rw', q⟩
 exact subscriptTail_builtinR (x := w) pl.typeIs slot_tuple_getitem.lookup
  (getItem_tuple (j := j) (Q := fun r s' => r = w ∧ EP X pins σ Q r s') pl (by omega) (by omega) (by rw [List.size_toArray, ← hl]; exact h1) (by simpa using ew) ⟨rfl, fin⟩) hs
theorem Qgg : IxR X QiA := by
 intro value slice pins s σ H x y v u Q I rx ry h hs
 obtain ⟨z, i, c, rfl, rfl, hz, he, q⟩ := h
 obtain ⟨t, rfl⟩ := rx
 obtain ⟨t', rfl⟩ := ry
 obtain ⟨j, h1, h2, h3, h4, h5⟩ := Ud he
 have hl : z.cps.toList.length = z.length := by simp [Str.length]
 rw [hl] at h1 h4 h5
 have hn := KK
 exact tail_any (typeIs_str s z t) slot_str_getitem.lookup (getItem_str (c := c) (by
  have e1 : decide (i < -(2 ^ 63 : Int)) = false := decide_eq_false (by omega)
  have e2 : decide (i ≥ 2 ^ 63) = false := decide_eq_false (by omega)
  rw [e1, e2, Bool.or_false]) (by rw [h1]; simpa using h2) ⟨.str ⟨#[c]⟩, H, I.tok _, ⟨_, rfl⟩, q⟩) hs
noncomputable def rIx (K : PySem.W.Frag) : R2 := fun x y H Q => QiI K x y H Q ∨ Qjm K x y H Q ∨ QiA x y H Q
theorem Qf6 : IxR X (rIx X.K) := ix_list.or (ix_tup.or Qgg)

theorem GG (its : List Value) (n j : Nat) (u : Value) : Obj.mapSeq (·.setIfInBounds j u) { cls := .type "list", data := .seq its.toArray n } = { cls := .type "list", data := .seq (its.set j u).toArray n } := by
 simp [Obj.mapSeq]
theorem Inv.lst {pins : List (Addr × Obj)} {σ : St} {H : Hp} {s : Shared} {p : Addr} {xs : List V} (I : Inv X pins σ H s) (h : H p = some (.lst xs)) :
  ∃ (its : List Value) (n : Nat), Vals xs its ∧ s.heap.get? p = some { cls := .type "list", data := .seq its.toArray n } ∧ xs.length ≤ sizeLine := by
 obtain ⟨z, its, n, r, e⟩ := I.hok p _ h
 exact ⟨its, n, r, e, z⟩
theorem Inv.lstUpd {pins : List (Addr × Obj)} {σ : St} {H : Hp} {s : Shared} {p : Addr} {xs ys : List V} {its its' : List Value} {n n' : Nat} {f : Obj → Obj} (I : Inv X pins σ H s) (h : H p = some (.lst xs))
  (ho : s.heap.get? p = some { cls := .type "list", data := .seq its.toArray n }) (hf : f { cls := .type "list", data := .seq its.toArray n } = { cls := .type "list", data := .seq its'.toArray n' }) (r : Vals ys its') (hz : ys.length ≤ sizeLine) (t : Nat) :
  Inv X pins σ (upd H p (.lst ys)) { s with heap := s.heap.update p f, toks := t } := by
 have e : (s.heap.update p f).get? p = some { cls := .type "list", data := .seq its'.toArray n' } := by
  rw [Heap.get?_update_self f ho (by rw [hf] <;> rfl), hf]
 refine I.write (x := p) (e := p) (by rw [h]; trivial) (.inl rfl) (fun b u hb q => (Heap.get?_update_other _ _ (Ne.symm hb)).trans q) ⟨_, e⟩ ?_
 exact ⟨hz, its', n', r, e⟩
noncomputable def QfU : V → V → V → Hp → (Hp → Prop) → Prop := fun o i v H Q => ∃ p xs k j, o = .ref p ∧ i = .int k ∧ H p = some (.lst xs) ∧ ixN xs.length k = some j ∧ Q (upd H p (.lst (xs.set j v)))
theorem Qcd : Qi6 X QfU := by
 intro pins s σ H o i v ov iv u Q I ro ri rv h
 obtain ⟨p, xs, k, j, rfl, rfl, hp, hj, q⟩ := h
 cases ro
 obtain ⟨t, rfl⟩ := ri
 obtain ⟨its, n, r, ho, hz⟩ := I.lst hp
 obtain ⟨h1, h2, h3, h4⟩ := QaL hj
 have hl := r.length
 have hn := KK
 have I' : Inv X pins σ (upd H p (.lst (xs.set j v))) { s with heap := s.heap.update p (Obj.mapSeq (·.setIfInBounds j u)) } :=
  I.lstUpd hp ho (GG its n j u) (r.set rv j) (by rw [List.length_set]; exact hz) s.toks
 by_cases h0 : 0 ≤ k
 ·have hk : k.toNat = j := by
   rw [seqIndex_of h0 h4] at h1
   exact Option.some.inj h1
  exact PySem.W.ki_setAt ho h0 (by omega) (by rw [List.size_toArray, ← hl]; exact h4) (by rw [hk]; exact ⟨_, I', q⟩)
 ·have hk : (k + (its.toArray.size : Int)).toNat = j := by
   rw [seqIndex_neg (by omega) h3] at h1
   rw [List.size_toArray, ← hl]
   exact Option.some.inj h1
  exact PySem.W.ki_setBack ho (by omega) (by rw [List.size_toArray, ← hl]; exact h3) (by omega) (by rw [hk]; exact ⟨_, I', q⟩)

theorem Wq (lo hi : Option Int) (n : Nat) : (sliceBounds lo hi none n).1 = ((HT.sIx n 0 lo : Nat) : Int) ∧ (sliceBounds lo hi none n).2.1 = ((HT.sIx n n hi : Nat) : Int) ∧ (sliceBounds lo hi none n).2.2 = 1 := by
 refine ⟨?_, ?_, rfl⟩
 ·cases lo with
  | none => simp [sliceBounds, HT.sIx]
  | some i =>
   simp only [sliceBounds, HT.sIx, Option.getD_none, show (1 : Int) > 0 by decide, if_true]
   by_cases h : i < 0
   ·simp only [h, if_true] <;> omega
   ·simp only [h, if_false] <;> omega
 ·cases hi with
  | none => simp [sliceBounds, HT.sIx]
  | some i =>
   simp only [sliceBounds, HT.sIx, Option.getD_none, show (1 : Int) > 0 by decide, if_true]
   by_cases h : i < 0
   ·simp only [h, if_true] <;> omega
   ·simp only [h, if_false] <;> omega
theorem Yv (its : List Value) (lo hi : Option Int) : slicePick its.toArray lo hi none = ((its.drop (HT.sIx its.length 0 lo)).take (HT.sIx its.length its.length hi - HT.sIx its.length 0 lo)).toArray := by
 obtain ⟨h1, h2, h3⟩ := Wq lo hi its.toArray.size
 unfold slicePick
 rw [h1, h2, h3]
 simp only [sliceRange_one, pick_run, List.size_toArray] <;> rfl
noncomputable def QjF (K : PySem.W.Frag) : V → Option Int → Option Int → Hp → VK → Prop := fun x lo hi H Q => ∃ a xs, x = .ref a ∧ SqL K H a xs ∧ ∀ p, H p = none → Q (.ref p) (upd H p (.lst (QbX xs lo hi)))
theorem sl_list : SlR X (QjF X.K) := by
 intro pins s σ H x v vl vu lo hi sl Q I rx hs pl pu h
 obtain ⟨a, xs, rfl, hx, q⟩ := h
 cases rx
 obtain ⟨its, r, ht, hz⟩ := I.list hx
 have hlen := r.length
 refine ⟨"list", _, slot_list_getitem.lookup, ht.isList.typeIs, ?_⟩
 refine wpAny_getItem_list_slice ht.isList hs pl pu .none (by simp) ?_ (by rw [List.size_toArray] <;> omega)
 rw [Yv, ← hlen]
 refine ⟨.ref s.heap.objs.size, _, I.laid (t' := s.toks) (o := .lst (QbX xs lo hi)) (fun b ob q => Heap.get?_push_of_some _ q) (Nat.le_refl _) ?_, rfl, q _ (I.hok.fresh (Nat.le_refl _))⟩
 exact ⟨Nat.le_trans (Kt xs lo hi) hz, _, 0, (r.drop (HT.sIx xs.length 0 lo)).take (HT.sIx xs.length xs.length hi - HT.sIx xs.length 0 lo), Heap.get?_push_size _ rfl⟩

noncomputable def QeU : V → Bool
 | .non => true
 | .bl _ => true
 | .int _ => true
 | .str _ => true
 | _ => false
noncomputable def eqV : V → V → Bool
 | .non, .non => true
 | .bl a, .bl b => a == b
 | .bl a, .int b => (if a then 1 else 0) == b
 | .int a, .bl b => a == (if b then 1 else 0)
 | .int a, .int b => a == b
 | .str a, .str b => a == b
 | _, _ => false
theorem Qe7 {A : Around} {s : Shared} {y x : V} {u v : Value} (ry : RelV y u) (rx : RelV x v) (fy : QeU y = true) (fx : QeU x = true) : SeqAt.EqAt A s u v (eqV y x) := by
 cases y with
 | non =>
  cases ry
  cases x with
  | non => cases rx; exact SeqAt.EqAt.same _
  | bl b => cases rx; exact SeqAt.EqAt.none_bool b
  | int b => obtain ⟨t, rfl⟩ := rx; exact SeqAt.EqAt.none_int b t
  | str b => obtain ⟨t, rfl⟩ := rx; exact SeqAt.EqAt.none_str b t
  | _ => exact absurd (show false = true from fx) Bool.false_ne_true
 | bl a =>
  cases ry
  cases x with
  | non => cases rx; exact SeqAt.EqAt.bool_none a
  | bl b => cases rx; exact SeqAt.EqAt.bool_bool a b
  | int b => obtain ⟨t, rfl⟩ := rx; exact SeqAt.EqAt.bool_int a b t
  | str b => obtain ⟨t, rfl⟩ := rx; exact SeqAt.EqAt.bool_str a b t
  | _ => exact absurd (show false = true from fx) Bool.false_ne_true
 | int a =>
  obtain ⟨t', rfl⟩ := ry
  cases x with
  | non => cases rx; exact SeqAt.EqAt.int_none a t'
  | bl b => cases rx; exact SeqAt.EqAt.int_bool a t' b
  | int b => obtain ⟨t, rfl⟩ := rx; exact SeqAt.EqAt.int_int a t' b t
  | str b => obtain ⟨t, rfl⟩ := rx; exact SeqAt.EqAt.int_str a t' b t
  | _ => exact absurd (show false = true from fx) Bool.false_ne_true
 | str a =>
  obtain ⟨t', rfl⟩ := ry
  cases x with
  | non => cases rx; exact SeqAt.EqAt.str_none a t'
  | bl b => cases rx; exact SeqAt.EqAt.str_bool a t' b
  | int b => obtain ⟨t, rfl⟩ := rx; exact SeqAt.EqAt.str_int a t' b t
  | str b => obtain ⟨t, rfl⟩ := rx; exact SeqAt.EqAt.str_str a t' b t
  | _ => exact absurd (show false = true from fx) Bool.false_ne_true
 | _ => exact absurd (show false = true from fy) Bool.false_ne_true
theorem call_len_seq : CallR X (.builtin "len") (fun xs H Q => ∃ p ys, xs = [.ref p] ∧ (SqL X.K H p ys ∨ SqT X.K H p ys) ∧ Q (.int ys.length) H) := by
 intro pins s σ H xs us Q I r h
 obtain ⟨p, ys, rfl, hq, q⟩ := h
 obtain ⟨u, rfl, rx⟩ := Gd r
 cases rx
 have hn := KK
 rcases hq with hq | hq
 ·obtain ⟨its, r', pl, hz⟩ := I.list hq
  have hlen := r'.length
  exact Calls.call_len_list pl.isList (by simp only [List.size_toArray] <;> omega) ⟨.int ys.length, H, I.tok _, ⟨s.toks + 1, by rw [List.size_toArray, hlen]⟩, q⟩
 ·obtain ⟨its, r', pl, hz⟩ := I.tuple hq
  have hlen := r'.length
  exact len_tuple pl (by simp only [List.size_toArray] <;> omega) ⟨.int ys.length, H, I.tok _, ⟨s.toks + 1, by rw [List.size_toArray, hlen]⟩, q⟩
theorem Wl : CallR X (.builtin "len") (fun xs H Q => ∃ z, xs = [.str z] ∧ z.length ≤ sizeLine ∧ Q (.int z.length) H) := by
 intro pins s σ H xs us Q I r h
 obtain ⟨z, rfl, hz, q⟩ := h
 obtain ⟨u, rfl, t, rfl⟩ := Gd r
 have hn := KK
 exact len_str (by omega) ⟨.int z.length, H, I.tok _, ⟨_, rfl⟩, q⟩
theorem CallR.or {f : Value} {r r' : List V → Hp → VK → Prop} (h : CallR X f r) (h' : CallR X f r') : CallR X f (fun xs H Q => r xs H Q ∨ r' xs H Q) := by
 intro pins s σ H xs us Q I rs q
 rcases q with q | q
 ·exact h pins s σ H xs us Q I rs q
 ·exact h' pins s σ H xs us Q I rs q
theorem XQ : CallR X (.type "list") (fun xs H Q => ∃ p ys, xs = [.ref p] ∧ (SqL X.K H p ys ∨ SqT X.K H p ys) ∧ ∀ l, H l = none → Q (.ref l) (upd H l (.lst ys))) := by
 intro pins s σ H xs us Q I r h
 obtain ⟨p, ys, rfl, hq, q⟩ := h
 obtain ⟨u, rfl, rx⟩ := Gd r
 cases rx
 have fin : ∀ (its : List Value), Vals ys its → ys.length ≤ sizeLine → ∀ (h' : Heap) (c' : Nat), (∀ b o', s.heap.get? b = some o' → h'.get? b = some o') →
   h'.get? s.heap.objs.size = some { cls := .type "list", dict := none, data := .seq its.toArray c', slots := #[] } → EP X pins σ Q (.ref s.heap.objs.size) { s with heap := h' } := fun its r' hz h' c' kp e =>
  ⟨.ref s.heap.objs.size, _, I.laid (t' := s.toks) kp (Nat.le_refl _) (show ObjOk X.prog X.w _ h' _ (.lst ys) from ⟨hz, its, c', r', e⟩), rfl, q _ (I.hok.fresh (Nat.le_refl _))⟩
 rcases hq with hq | hq
 ·obtain ⟨its, r', pl, hz⟩ := I.list hq
  have hlen := r'.length
  obtain ⟨o, ho, hc, n, hd⟩ := pl.isList
  exact call_list_seq p (.inl rfl) ho hc hd (fun h' c' kp e => fin its r' hz h' c' kp e) (by simp only [List.size_toArray] <;> omega)
 ·obtain ⟨its, r', pl, hz⟩ := I.tuple hq
  have hlen := r'.length
  obtain ⟨o, ho, hc, n, hd⟩ := pl
  exact call_list_seq p (.inr rfl) ho hc hd (fun h' c' kp e => fin its r' hz h' c' kp e) (by simp only [List.size_toArray] <;> omega)
theorem YD : CallR X (.type "tuple") (fun xs H Q => ∃ p ys, xs = [.ref p] ∧ ((SqL X.K H p ys ∧ ∀ l, H l = none → Q (.ref l) (upd H l (.tup ys))) ∨ (SqT X.K H p ys ∧ Q (.ref p) H))) := by
 intro pins s σ H xs us Q I r h
 obtain ⟨p, ys, rfl, h⟩ := h
 obtain ⟨u, rfl, rx⟩ := Gd r
 cases rx
 rcases h with ⟨hq, q⟩ | ⟨hq, q⟩
 ·obtain ⟨its, r', pl, hz⟩ := I.list hq
  have hlen := r'.length
  refine call_tuple_list pl.isList (fun h' kp => ?_) (by simp only [List.size_toArray] <;> omega)
  have I1 : Inv X pins σ H { s with heap := h' } := I.kept (t' := s.toks) kp
  have I2 : Inv X pins σ (upd H h'.objs.size (.tup ys)) { s with heap := h'.push { cls := .type "tuple", data := .seq its.toArray } } :=
   I1.laid (t' := s.toks) (fun b o e => Heap.get?_push_of_some _ e) (Nat.le_refl _) (show ObjOk X.prog X.w _ _ _ (.tup ys) from ⟨hz, its, r', IsTup.new _ _⟩)
  exact ⟨.ref h'.objs.size, _, I2, rfl, q _ (I1.hok.fresh (Nat.le_refl _))⟩
 ·obtain ⟨its, r', pl, hz⟩ := I.tuple hq
  exact call_tuple_same pl ⟨.ref p, H, I, rfl, q⟩

noncomputable def tyV (K : PySem.W.Frag) (T : String) (x : V) (H : Hp) : Prop := match x with
 | .str _ => T = "str"
 | .int _ => T = "int"
 | .ref p => (T = "list" ∧ ∃ xs, SqL K H p xs) ∨ (T = "tuple" ∧ ∃ o, K.lookup p = some o ∧ o.cls = .type "tuple" ∧ o.dict = none) ∨
   (T = "dict" ∧ ((∃ kvs, H p = some (.dK kvs)) ∨ ∃ kvs, H p = some (.dT kvs))) ∨ (T = "set" ∧ ∃ S n, H p = some (.set S n))
 | _ => False
theorem Qc5 {pins : List (Addr × Obj)} {σ : St} {H : Hp} {s : Shared} {T : String} {x : V} {v : Value} (I : Inv X pins σ H s) (r : RelV x v) (ty : tyV X.K T x H) :
  s.TypeIs v T ∧ ∀ a, v = .ref a → ∃ ob, s.heap.get? a = some ob ∧ ob.dict = none := by
 cases x with
 | str z =>
  obtain ⟨t, rfl⟩ := r
  cases (show T = "str" from ty)
  exact ⟨typeIs_str s z t, fun _ e => nomatch e⟩
 | int i =>
  obtain ⟨t, rfl⟩ := r
  cases (show T = "int" from ty)
  exact ⟨typeIs_int s i t, fun _ e => nomatch e⟩
 | ref p =>
  cases r
  rcases ty with ⟨rfl, xs, hq⟩ | ⟨rfl, o, hk, hc, hd⟩ | ⟨rfl, hk⟩ | ⟨rfl, S, n, hk⟩
  ·obtain ⟨its, _, pl, _⟩ := I.list hq
   refine ⟨pl.isList.typeIs, fun a e => ?_⟩
   cases e
   obtain ⟨o, n, e, c, hd, _⟩ := pl
   exact ⟨o, e, hd⟩
  ·refine ⟨⟨o, I.kIn p o hk, hc⟩, fun a e => ?_⟩
   cases e
   exact ⟨o, I.kIn _ o hk, hd⟩
  ·have z : ∃ o, s.heap.get? p = some o ∧ o.ExactDict := by
    rcases hk with ⟨kvs, hk⟩ | ⟨kvs, hk⟩
    ·obtain ⟨_, _, _, _, o, _, _, e, ex, _⟩ := I.hok p _ hk
     exact ⟨o, e, ex⟩
    ·obtain ⟨_, _, _, _, o, _, _, e, ex, _⟩ := I.hok p _ hk
     exact ⟨o, e, ex⟩
   obtain ⟨o, e, ex⟩ := z
   refine ⟨⟨o, e, ex.1⟩, fun a e2 => ?_⟩
   cases e2
   exact ⟨o, e, ex.2.1⟩
  ·obtain ⟨o, _, _, _, e, ex, _⟩ := I.hok p _ hk
   refine ⟨⟨o, e, ex.1⟩, fun a e2 => ?_⟩
   cases e2
   exact ⟨o, e, ex.2.1⟩
 | _ => exact False.elim ty
noncomputable def QjK (K : PySem.W.Frag) (T : String) (r : V → List V → Hp → VK → Prop) (to : TE) : TE := fun σ H Q => to σ H fun x H1 => tyV K T x H1 ∧ r x [] H1 Q
noncomputable def tBM (K : PySem.W.Frag) (T : String) (r : V → List V → Hp → VK → Prop) (to : TE) (t : TA) : TE := fun σ H Q => to σ H fun x H1 => tyV K T x H1 ∧ t σ H1 fun xs H2 => r x xs H2 Q
variable {o e : Expr} {es : List Expr} {to : TE} {t : TA} {name : Str} {apos cpos : Pos} {T id : String} {r : V → List V → Hp → VK → Prop}
theorem QfN (pa : PlainAttrs T) (slot : Slot T name id) (hty : typeOf (.builtin id) = pure (.type "method_descriptor")) (hm : MtR X id r) (ho : PE X o to)
  (hbase : attributeBase o name X.env (eval o X.env) = eval o X.env := by rfl) (hline : (apos.endLine == cpos.line) = true := by rfl) : PE X (.Call (.Attribute o name apos) [] [] cpos) (QjK X.K T r to) := by
 intro pins s σ H Q I h
 refine wpAny_Call_method0_late hbase hline (thn (ho pins s σ H _ I h) fun v s1 ⟨x, H1, I1, r1, ty, q1⟩ => ?_)
 obtain ⟨h1, h2⟩ := Qc5 I1 r1 ty
 exact ⟨T, id, pa, slot, hty, h1, h2, Calls.callWith_builtin rfl (PySem.evalArgs_none (hm pins s1 σ H1 x [] v [] Q I1 r1 .nil q1))⟩
theorem Qib (pa : PlainAttrs T) (slot : Slot T name id) (hty : typeOf (.builtin id) = pure (.type "method_descriptor")) (hm : MtR X id r) (ho : PE X o to) (ha : PA X (e :: es) t)
  (hbase : attributeBase o name X.env (eval o X.env) = eval o X.env := by rfl)
  (hfew : ((backTo cpos (starEach (e :: es) X.env)).all (fun x => !x.1) && (backToKw cpos (keywordEach [] X.env)).all (fun x => x.1.isSome)
   && decide ((e :: es).length + ([] : List Keyword).length + (if ([] : List Keyword).isEmpty then 0 else 1) < 30)) = true := by rfl)
  (hline : (apos.endLine == cpos.line) = true := by rfl) (hs : starEach (e :: es) X.env = (false, eval e X.env) :: starEach es X.env := by rfl) (hplain : (backTo cpos (starEach es X.env)).any (·.1) = false := by rfl) :
  PE X (.Call (.Attribute o name apos) (e :: es) [] cpos) (tBM X.K T r to t) := by
 intro pins s σ H Q I h
 refine wpAny_Call_method_late hbase hfew hline rfl (thn (ho pins s σ H _ I h) fun v s1 ⟨x, H1, I1, r1, ty, q1⟩ => ?_)
 obtain ⟨h1, h2⟩ := Qc5 I1 r1 ty
 refine ⟨T, id, pa, slot, hty, h1, h2, ?_⟩
 have hA := ha cpos pins s1 σ H1 _ I1 q1
 rw [hs] at hA ⊢
 refine Calls.callWith_builtin (by show (false || (backTo cpos (starEach es X.env)).any (·.1)) = false; rw [hplain] <;> rfl) (Calls.evalArgs_plain ?_)
 exact thn hA fun us s2 ⟨vs, H2, I2, r2, q2⟩ => hm pins s2 σ H2 x vs v us Q I2 r1 r2 q2
end
end L2

namespace L2
open PySem PySem.Spec PyProof.Rows

noncomputable def MtM (X : Cx) (id : String) (r : V → List V → Hp → VK → Prop) : Prop :=
 ∀ (pins : List (Addr × Obj)) (s : Shared) (σ : St) (H : Hp) (x : V) (xs : List V) (v : Value) (us : List Value) (Q : VK), Inv X pins σ H s → RelV x v → Vals xs us → r x xs H Q →
  wpAny (model X.prog X.w) X.A (call (.builtin id) (v :: us)) (EP X pins σ Q) X.xe s

theorem Vals.one : ∀ {x : V} {us : List Value}, Vals [x] us → ∃ u, us = [u] ∧ RelV x u
 | _, _, .cons r .nil => ⟨_, rfl, r⟩
theorem Vals.zero : ∀ {us : List Value}, Vals [] us → us = []
 | _, .nil => rfl
theorem Vals.dropLast {xs : List V} {us : List Value} (h : Vals xs us) : Vals xs.dropLast us.dropLast := by
 induction h with
 | nil => exact .nil
 | cons r t ih =>
  cases t with
  | nil => exact .nil
  | cons q t' => exact .cons r ih
theorem Vals.eraseIdx : ∀ {xs : List V} {us : List Value} (i : Nat), Vals xs us → Vals (xs.eraseIdx i) (us.eraseIdx i)
 | _, _, _, .nil => .nil
 | _, _, 0, .cons _ t => t
 | _, _, i + 1, .cons r t => .cons r (Vals.eraseIdx i t)
theorem Gv {α : Type} (l : List α) : l.eraseIdx (l.length - 1) = l.dropLast := by
 induction l with
 | nil => rfl
 | cons a r ih =>
  cases r with
  | nil => rfl
  | cons b r =>
   have e : (a :: b :: r).length - 1 = ((b :: r).length - 1) + 1 := by
    have h1 : (a :: b :: r).length = r.length + 2 := rfl
    have h2 : (b :: r).length = r.length + 1 := rfl
    omega
   rw [e, List.eraseIdx_cons_succ, ih]
   all_goals rfl
section
variable {X : Cx} {pins : List (Addr × Obj)} {σ : St} {H : Hp} {s : Shared} {l b : Addr} {xs ys zs : List V}

theorem Inv.lset {its its' : List Value} {n : Nat} {f : Array Value → Array Value} {t' : Nat} (I : Inv X pins σ H s) (hH : H l = some (.lst xs))
  (e : s.heap.get? l = some { cls := .type "list", data := .seq its.toArray n }) (hf : f its.toArray = its'.toArray) (hv : Vals ys its') (hz : ys.length ≤ sizeLine) :
  Inv X pins σ (upd H l (.lst ys)) { s with heap := s.heap.update l (Obj.mapSeq f), toks := t' } := by
 have q := PySem.IsL.update e f
 rw [hf] at q
 refine I.write (x := l) (e := l) (by rw [hH]; exact trivial) (.inl rfl) (fun b' u hb hu => (Heap.get?_update_other s.heap (Obj.mapSeq f) (Ne.symm hb)).trans hu) ⟨_, q⟩ ?_
 exact ⟨hz, its', _, hv, q⟩
theorem Inv.lnew {its : List Value} {t' : Nat} (I : Inv X pins σ H s) (hv : Vals ys its) (hz : ys.length ≤ sizeLine) :
  Inv X pins σ (upd H s.heap.objs.size (.lst ys)) { s with heap := s.heap.push { cls := .type "list", data := .seq its.toArray }, toks := t' } :=
 I.laid (fun _ _ q => Heap.get?_push_of_some _ q) (Nat.le_refl _) ⟨hz, its, 0, hv, Heap.get?_push_size _ rfl⟩
theorem Inv.fresh (I : Inv X pins σ H s) : H s.heap.objs.size = none := I.hok.fresh (Nat.le_refl _)
theorem Inv.lstM (I : Inv X pins σ H s) (hH : H l = some (.lst xs)) : xs.length ≤ sizeLine ∧ ∃ (its : List Value) (n : Nat), Vals xs its ∧ xs.length = its.length ∧ s.heap.get? l = some { cls := .type "list", data := .seq its.toArray n } := by
 obtain ⟨z, its, n, r, e⟩ := I.hok l _ hH
 exact ⟨z, its, n, r, r.length, e⟩

theorem QbY {n : Nat} (h : n ≤ sizeLine) : Builtin.List.listTooLong n = false := by
 unfold Builtin.List.listTooLong
 exact decide_eq_false (by omega)
end

section
variable {X : Cx}

noncomputable def Qej : V → List V → Hp → VK → Prop := fun x vs H Q => ∃ l xs y, x = .ref l ∧ vs = [y] ∧ H l = some (.lst xs) ∧ xs.length < sizeLine ∧ Q .non (upd H l (.lst (xs ++ [y])))
theorem Qac : MtM X "list.append" Qej := by
 intro pins s σ H x vs v us Q I rx rv h
 obtain ⟨l, xs, y, rfl, rfl, hH, hz, q⟩ := h
 cases rx
 obtain ⟨u, rfl, ru⟩ := rv.one
 obtain ⟨z, its, n, r, hl, e⟩ := I.lstM hH
 refine call_meets F.slot_list_append ⟨_, e, rfl⟩ F.entry_list_append (F.args_list_append_2 _ _) (PySem.list_append l its.toArray n u (by rw [List.size_toArray]; omega)) ⟨e, ?_⟩
 refine ⟨.non, _, I.lset (its' := its ++ [u]) hH e (by simp) (r.append (.cons ru .nil)) ?_, rfl, q⟩
 rw [List.length_append, List.length_singleton]
 omega

noncomputable def Qeu : V → List V → Hp → VK → Prop := fun x vs H Q => ∃ l b xs zs, x = .ref l ∧ vs = [.ref b] ∧ H l = some (.lst xs) ∧ H b = some (.lst zs) ∧ xs.length + zs.length ≤ sizeLine ∧ Q .non (upd H l (.lst (xs ++ zs)))
theorem QaG : MtM X "list.extend" Qeu := by
 intro pins s σ H x vs v us Q I rx rv h
 obtain ⟨l, b, xs, zs, rfl, rfl, hH, hB, hz, q⟩ := h
 cases rx
 obtain ⟨u, rfl, ru⟩ := rv.one
 cases ru
 obtain ⟨z, its, n, r, hl, e⟩ := I.lstM hH
 obtain ⟨z2, its2, n2, r2, hl2, e2⟩ := I.lstM hB
 have hsz : its.toArray.size + its2.toArray.size ≤ sizeLine := by rw [List.size_toArray, List.size_toArray]; omega
 have hlong : ¬ (!its.toArray.isEmpty && Builtin.List.listTooLong (its.toArray.size + its2.toArray.size)) = true := by
  rw [QbY hsz, Bool.and_false]
  exact Bool.false_ne_true
 refine call_meets F.slot_list_extend ⟨_, e, rfl⟩ F.entry_list_extend (F.args_list_extend_2 _ _)
  (AutoSeq1.list_extend_list_list_0 l its.toArray n b its2.toArray n2 hlong (by rw [List.size_toArray]; omega) (by omega)) ⟨e, e2, ?_⟩
 refine ⟨.non, _, I.lset (its' := its ++ its2) hH e (by simp) (r.append r2) ?_, rfl, q⟩
 rw [List.length_append]
 omega

noncomputable def QjO : V → List V → Hp → VK → Prop := fun x vs H Q => ∃ l xs y, x = .ref l ∧ vs = [] ∧ H l = some (.lst xs) ∧ xs[xs.length - 1]? = some y ∧ Q y (upd H l (.lst xs.dropLast))
theorem Qfh : MtM X "list.pop" QjO := by
 intro pins s σ H x vs v us Q I rx rv h
 obtain ⟨l, xs, y, rfl, rfl, hH, hy, q⟩ := h
 cases rx
 have hus := rv.zero
 subst hus
 obtain ⟨z, its, n, r, hl, e⟩ := I.lstM hH
 obtain ⟨u, hu, ru⟩ := r.get hy
 have hy' : its.toArray[its.toArray.size - 1]? = some u := by
  show its.toArray[its.length - 1]? = some u
  rw [← Array.getElem?_toList, ← hl]
  exact hu
 refine call_meets F.slot_list_pop ⟨_, e, rfl⟩ F.entry_list_pop (F.args_list_pop_1 _) (MeetsSeq.list_pop_last l its.toArray n u hy' (by rw [List.size_toArray]; omega)) ⟨e, ?_⟩
 refine ⟨y, _, I.lset (its' := its.dropLast) hH e ?_ r.dropLast ?_, ru, q⟩
 ·show its.toArray.eraseIdxIfInBounds (its.toArray.size - 1) = its.dropLast.toArray
  rw [List.size_toArray, List.eraseIdxIfInBounds_toArray, Gv]
 ·rw [List.length_dropLast]
  omega

noncomputable def Qj3 : R2 := fun x y H Q => ∃ l b xs zs, x = .ref l ∧ y = .ref b ∧ H l = some (.lst xs) ∧ H b = some (.lst zs) ∧ xs.length + zs.length ≤ sizeLine ∧ ∀ p, H p = none → Q (.ref p) (upd H p (.lst (xs ++ zs)))
theorem Qgd : OpR X (binaryOp .Add) Qj3 := by
 intro pins s σ H x y v u Q I rx ry h
 obtain ⟨l, b, xs, zs, rfl, rfl, hH, hB, hz, q⟩ := h
 cases rx
 cases ry
 obtain ⟨z, its, n, r, hl, e⟩ := I.lstM hH
 obtain ⟨z2, its2, n2, r2, hl2, e2⟩ := I.lstM hB
 refine PySem.P.add_list e e2 ?_ (by rw [List.size_toArray, List.size_toArray]; omega)
 have ea : its.toArray ++ its2.toArray = (its ++ its2).toArray := by simp
 rw [ea]
 exact ⟨.ref _, _, I.lnew (t' := s.toks) (r.append r2) (by rw [List.length_append]; omega), rfl, q _ I.fresh⟩
end

section
variable {prog : Program} {w : World} {A : Around} {E : Value → Shared → Prop} {s : Shared}
end

section
variable {X : Cx}
end
end L2

namespace Att
open PySem PySem.W PySem.Calls PyProof.Rows

theorem KM {P : Params} {h : Heap} : ∀ (ns : List Int) (vs : List Value), WellAll P h vs (ns.map WData.int) → IntsAre vs ns := by
 intro ns
 induction ns with
 | nil =>
  intro vs w
  rw [List.map_nil] at w
  cases w
  exact .nil
 | cons n ns ih =>
  intro vs w
  rw [List.map_cons] at w
  cases w with
  | cons a b =>
   cases a
   exact .cons _ _ (ih _ b)

theorem QbD {l : OpenLaw} {n : Nat} (hn : l.most = some n) {P : Params} {h : Heap} {args : List WData} {vals : List Value}
  (hpre : l.row.toRowW.claim.pre args = true) (hwl : WellAll P h vals args) :
  ∃ a vs ns, vals = [Value.ref a] ∧ args = [WData.list (ns.map WData.int)] ∧ h.get? a = some { cls := .type "list", data := .seq vs.toArray } ∧ IntsAre vs ns ∧ ns.length ≤ n := by
 have hsh : WShape.hasAll [] args [.list .int] = true := (pre_splitW hpre).1
 have hc : l.pre.holds [] { args := args } = true := (pre_splitW hpre).2
 obtain ⟨d, r, rfl, h1, h2⟩ := hasAllW_cons hsh
 obtain rfl := hasAllW_nil h2
 obtain ⟨xs, rfl, h3⟩ := hasW_list h1
 obtain ⟨ns, rfl⟩ := items_int h3
 have hlen : ns.length ≤ n := by
  unfold OpenLaw.pre at hc
  have h4 : (WTm.not (.lt (.lit (.int (n : Int))) (.len (.arg 0)))).holds [] { args := [.list (ns.map .int)] } = true := by
   have h4 := (holds_andW hc).1
   rw [hn] at h4
   exact h4
  have h5 := condW_of h4 (w_not (w_lt w_lit (w_len_list (w_arg rfl))))
  rw [List.length_map] at h5
  refine Nat.le_of_not_lt fun q => ?_
  have q' : (n : Int) < ((ns.length : Nat) : Int) := by omega
  first
   | (rw [decide_eq_true q'] at h5; exact absurd h5 (by decide))
   | (simp at h5; omega)
 cases hwl with
 | cons w1 w2 =>
  cases w2
  cases w1 with
  | list ho hall => exact ⟨_, _, ns, rfl, rfl, ho, KM ns _ hall, hlen⟩

theorem QbB (l : OpenLaw) (args : List WData) : l.row.toRowW.claim.post args (.bool true) args = true :=
 postW_of (r := l.row.toRowW) (X := (true == true))
  (show WShape.has [] (.bool true) .bool = true by first | rfl | decide | simp [WShape.has, WShape.arms, WShape.armsAll])
  (show (WTm.eq .res (.lit (.bool true))).value [] { args := args, res := some (.bool true), after := args } = some (.bool (true == true)) from w_eq_bool (w_res rfl) w_lit) rfl

theorem attach_call {l : OpenLaw} {n : Nat} {q : Program} {loose : List Str} {XP : (Str → Option Value) → Heap → Prop} {YP : World → Heap → Prop} {d : DefRec}
  (hn : l.most = some n) (hdf : d.params.defaults = [])
  (call : ∀ (w : World) (s₀ s₁ : Shared) (mg mb : Str → Option Value) (fa : Addr) (o : Obj) (pm cd doc : Value) (a : Addr) (vs : List Value) (ns : List Int),
   Ground q loose [] XP w s₀ mg mb s₁.heap → YP w s₁.heap →
   s₁.heap.get? fa = some o → o.data = .func (docDef d.name d.params d.body d.scope pm cd doc) → s₁.heap.CodeRec cd d.name → mg d.name = some (.ref fa) →
   s₁.heap.get? a = some { cls := .type "list", data := .seq vs.toArray } → IntsAre vs ns → ns.length ≤ n → s₁.gens = #[] →
   codeAny (model l.prog w) callerA (.call (.ref fa) ⟨[.ref a], []⟩) (fun r s' => r = .ok (.ret (.bool true)) ∧ OldK s₁.heap s'.heap ∧ s'.os = s₁.os ∧ AllBare s'.gens) s₁) :
  WalkO q loose XP YP l.row.toRowW d [] (fun f vs => PySem.call f vs) := by
 intro w s₀ s₁ mg mb G Y fa o pm cd doc dV kV ho hd hcd hD hmg hg args vals as hpre hlay hrd hwl hlo
 obtain rfl : dV = .none := Dflts.none hD hdf
 obtain rfl : kV = .none := Dflts.noKw hD
 obtain ⟨a, vs, ns, rfl, rfl, hobj, hints, hlen⟩ := QbD hn hpre hwl
 refine enter_call (codeAny_mono (call w s₀ s₁ mg mb fa o pm cd doc a vs ns G Y ho (fd_plain hd) hcd hmg hobj hints hlen hg) fun r s' hq => ?_)
 obtain ⟨rfl, h2, h3, h4⟩ := hq
 exact ⟨.inl ⟨.bool true, .bool true, [], rfl, fun _ => rfl, .bool true, QbB l _, fun _ => ⟨List.Pairwise.nil, fun _ hm => (nomatch hm)⟩⟩, h2, h3, h4⟩

section
variable {prog : Program} {w : World} {A : Around} {E : Value → Shared → Prop} {s : Shared} {K : Frag}

end
end Att

namespace L2
open PySem PySem.Spec PyProof.Rows

theorem WM : ∀ {vs : List Value} {ns : List Int}, IntsAre vs ns → Vals (ns.map V.int) vs
 | _, _, .nil => .nil
 | _, _, .cons n t h => .cons ⟨t, rfl⟩ (WM h)

noncomputable def Qhu (H : Hp) : Prop := ∀ b, H b = none ∨ ∃ o xs, H b = some (.frz o (.lst xs))

theorem Qcm {P : Program} {w : World} {K : PySem.W.Frag} {mg mb : Str → Option Value} {CX : CXT} {k : Nat} {fa a : Addr} {fd : FuncData} {x : Str} {sp : Sp} {s₁ : Shared} {vs : List Value} {ns : List Int}
  (KX : K.In s₁.heap) (hns : s₁.heap.Ns mainGlobals mg) (hb : s₁.heap.Ns builtinsNs mb) (hbb : ∀ x : Str, x ≠ "__name__" → mb x = bootBuiltins x) (hlim : s₁.heap.NoLimit) (hg : s₁.gens = #[])
  (ha : s₁.heap.get? a = some { cls := .type "list", data := .seq vs.toArray }) (hi : IntsAre vs ns) (hl : ns.length ≤ sizeLine) (hr : Room k callerA)
  (F : ∀ base : Heap, K.In base → base.Ns mainGlobals mg → FnOk P w K mg base CX k fa fd [x] sp) (hbind : ∀ (s : Shared) (u : Value), BindsTo s fd ⟨[u], []⟩ [(x, u)])
  (hsp : ∀ H : Hp, Qhu H → SqL K H a (ns.map V.int) → sp [.ref a] H (fun v _ => v = .bl true) fun _ _ _ => False)
  (hCX : ∀ H e s', CX [] H s₁ (fun _ _ _ => False) e s' → False) :
  codeAny (model P w) callerA (.call (.ref fa) ⟨[.ref a], []⟩) (fun r s' => r = .ok (.ret (.bool true)) ∧ OldK s₁.heap s'.heap ∧ s'.os = s₁.os ∧ AllBare s'.gens) s₁ := by
 have rv := WM hi
 have lenV := hi.length
 -- from an abstract heap in which nothing but the script may be tracked
 have core : ∀ H : Hp, Qhu H → SqL K H a (ns.map V.int) → HOk P w H s₁.heap → (∀ b, H b ≠ none → b = a) → (H a ≠ none → K.lookup a = none) →
   codeAny (model P w) callerA (.call (.ref fa) ⟨[.ref a], []⟩) (fun r s' => r = .ok (.ret (.bool true)) ∧ OldK s₁.heap s'.heap ∧ s'.os = s₁.os ∧ AllBare s'.gens) s₁ := by
  intro H hO hS hok hA hK
  have base_of : ∀ {b : Addr} {o : Obj}, s₁.heap.get? b = some o → H b = none → (Qcj s₁.heap H).get? b = some o := fun e n => QcI e n
  have noA : ∀ {b : Addr} {o : Obj} {es : Array DictEntry} {ep : Nat}, s₁.heap.get? b = some o → o.data = .dict es ep → H b = none := fun {b o es ep} e d => by
   cases q : H b with
   | none => rfl
   | some u =>
    have e' : b = a := hA b (by rw [q]; simp)
    subst e'
    rw [ha] at e; cases e
    have d' : Data.seq vs.toArray _ = Data.dict es ep := d
    cases d'
  have nsK : ∀ {b : Addr} {m : Str → Option Value}, s₁.heap.Ns b m → (Qcj s₁.heap H).Ns b m := fun {b m} ⟨o, es, ep, e, d, r⟩ => ⟨o, es, ep, base_of e (noA e d), d, r⟩
  have hKb : K.In (Qcj s₁.heap H) := fun b o e => base_of (KX b o e) (by
   cases q : H b with
   | none => rfl
   | some u =>
    have e' : b = a := hA b (by rw [q]; simp)
    subst e'
    rw [hK (by rw [q]; simp)] at e; cases e)
  have hM : Mod K mg (Qcj s₁.heap H) := ⟨hKb, nsK hns, ⟨mb, nsK hb, hbb⟩, let ⟨mc, h1, h2⟩ := hlim; ⟨mc, nsK h1, h2⟩⟩
  have e0 : Env0 P w K mg (Qcj s₁.heap H) callerA [] s₁ H := ⟨rfl, hM, fun b o e => Qel e, Nat.le_of_eq (QaC _ _), trivial, fun b hb => absurd (show b ∈ ([] : List Addr) from hb) (by simp), hok, .of_eq hg⟩
  refine codeAny_mono ((F _ hKb (nsK hns)).run callerA [] s₁ H ⟨[.ref a], []⟩ [.ref a] [.ref a] _ _ hr e0 (hbind s₁ (.ref a)) (.cons rfl .nil) (hsp H hO hS)) fun r s' h => ?_
  cases r with
  | error e => exact (hCX H e s' h).elim
  | ok fl =>
   cases fl with
   | next => exact False.elim h
   | brk => exact False.elim h
   | cont => exact False.elim h
   | ret u =>
    obtain ⟨v, H', os, bare, un, hok', r', q⟩ := h
    have q' : v = .bl true := q
    subst q'
    obtain rfl : u = Value.bool true := r'
    refine ⟨rfl, OldK.of_keep fun b o e => ?_, os, bare⟩
    cases q : H b with
    | none => exact un.keep b o e q (by intro z; exact absurd (show b ∈ ([] : List Addr) from z) (by simp)) (by simp)
    | some u =>
     rcases hO b with z | ⟨ob, xs, z⟩
     ·rw [q] at z; cases z
     ·have z2 := un.frzs b ob _ z
      obtain ⟨e1, _⟩ := hok b _ z
      obtain ⟨e2, _⟩ := hok' b _ z2
      rw [e] at e1; cases e1
      exact e2
 cases hk : K.lookup a with
 | some o =>
  -- the script is one of the module's own objects
  have e := KX a o hk
  rw [ha] at e
  cases e
  refine core (fun _ => none) (fun _ => .inl rfl) (.inr ⟨_, vs.toArray, _, hk, rfl, rfl, rfl, by rw [List.size_toArray, lenV]; exact hl, by simpa using rv⟩) (fun b u z => by have z' : (none : Option HO) = some u := z; cases z') (fun b z => absurd rfl z) fun z => absurd rfl z
 | none =>
  refine core (fun b => if b = a then some (.frz { cls := .type "list", data := .seq vs.toArray } (.lst (ns.map V.int))) else none) (fun b => ?_) (.inl (.inr ⟨{ cls := .type "list", data := .seq vs.toArray }, if_pos rfl⟩)) (fun b u z => ?_) (fun b z => ?_) fun _ => hk
  ·by_cases hb : b = a
   ·exact .inr ⟨_, _, if_pos hb⟩
   ·exact .inl (if_neg hb)
  ·by_cases hb : b = a
   ·have z' := (if_pos hb).symm.trans z
    cases z'
    subst hb
    exact ⟨ha, by rw [List.length_map]; exact hl, vs, _, rv, ha⟩
   ·have z' := (if_neg hb).symm.trans z
    cases z'
  ·by_cases hb : b = a
   ·exact hb
   ·exact absurd (if_neg hb) z
end L2

namespace L2
open PySem PySem.Spec PyProof.Rows

noncomputable abbrev KOf {K : PySem.W.Frag} {h : Heap} (_ : K.In h) : PySem.W.Frag := K

theorem QdK {l : PySem.W.OpenLaw} {n k : Nat} {q : Program} {loose : List Str} {XP : (Str → Option Value) → Heap → Prop} {YP : World → Heap → Prop} {d : DefRec} {K : Params → PySem.W.Frag} {CX : World → CXT} {sp : World → Sp} {x : Str}
  (hn : l.most = some n) (hn2 : n ≤ sizeLine) (hdf : d.params.defaults = []) (hr : Room k callerA)
  (hY : ∀ (w : World) (h : Heap), YP w h → (K w.params).In h)
  (F : ∀ (w : World) (mg : Str → Option Value) (fa : Addr) (h : Heap), (K w.params).In h → h.Ns mainGlobals mg → mg d.name = some (.ref fa) →
   ∃ fd : FuncData, (∀ (s : Shared) (u : Value), BindsTo s fd ⟨[u], []⟩ [(x, u)]) ∧
    ∀ base : Heap, (K w.params).In base → base.Ns mainGlobals mg → FnOk l.prog w (K w.params) mg base (CX w) k fa fd [x] (sp w))
  (hsp : ∀ (w : World) (H : Hp) (a : Addr) (ns : List Int), ns.length ≤ n → Qhu H → SqL (K w.params) H a (ns.map V.int) → sp w [.ref a] H (fun v _ => v = .bl true) fun _ _ _ => False)
  (hCX : ∀ (w : World) (H : Hp) (s : Shared) (e : Value) (s' : Shared), CX w [] H s (fun _ _ _ => False) e s' → False) :
  PySem.W.WalkO q loose XP YP l.row.toRowW d [] (fun f vs => PySem.call f vs) := by
 refine Att.attach_call hn hdf fun w s₀ s₁ mg mb fa o pm cd doc a vs ns G Y ho hd hcd hmg hobj hints hlen hg => ?_
 have KX := hY w _ Y
 obtain ⟨fd, hb, hF⟩ := F w mg fa _ KX G.T.g hmg
 exact Qcm KX G.T.g G.T.b G.T.builtins G.T.nolimit hg hobj hints (Nat.le_trans hlen hn2) hr hF hb (fun H hO hS => hsp w H a ns hlen hO hS) fun H e s' => hCX w H s₁ e s'
end L2


namespace L2
open PySem PySem.Spec PyProof.Rows

noncomputable def Xk (s : Stmt) : Arguments := match s with
 | .FunctionDef _ a _ _ _ _ _ _ _ _ => a
 | _ => { posonlyargs := [], args := [], vararg := none, kwonlyargs := [], kw_defaults := [], kwarg := none, defaults := [] }
noncomputable def Vg (s : Stmt) : List Stmt := match s with
 | .FunctionDef _ _ b _ _ _ _ _ _ _ => b
 | _ => []
noncomputable def Qs (s : Stmt) : Scope := match s with
 | .FunctionDef _ _ _ _ _ _ sc _ _ _ => sc
 | _ => { kind := .function, names := [], isGenerator := false, isCoroutine := false }

noncomputable abbrev CX0 : CXT := fun _ _ _ _ _ _ => False
noncomputable abbrev E0 : XK := fun _ _ _ => False
theorem Qgt {X : Cx} : Yl CX0 X E0 := fun _ _ _ _ _ _ _ h => h.elim

structure Fun (K : PySem.W.Frag) (x qual : Str) (st : Stmt) (f : Addr) (fd : FuncData) : Prop where
 ex : ∃ (oc : Value) (od : Option Addr) (kV doc pm : Value) (an : Option Addr) (cdv ct : Value) (osl : Array (Option Value)),
  fd = PySem.W.fnOf x qual (Xk st) (Vg st) (Qs st) .none kV doc pm an cdv ct ∧ K.lookup f = some ⟨oc, od, .func fd, osl⟩ ∧ PySem.W.codeIn K cdv qual = true
 kp : PySem.W.keepIn K (.ref f) = true
section
variable {P : Program} {w : World} {K : PySem.W.Frag} {mg : Str → Option Value} {base : Heap}
theorem Fun.ok {x qual : Str} {st : Stmt} {f : Addr} {fd : FuncData} {N ps : List Str} {k : Nat} {sp : Sp} (F : Fun K x qual st f fd) (S : FnScope N ps (Qs st)) (len : ∀ vs H Q E, sp vs H Q E → vs.length = ps.length)
  (hbody : ∀ (cdv : Value) (A : Around) (outer : List Env) (s : Shared) (H : Hp) (vs : List V) (Q : VK) (E : XK), Room k (A.deeper (envOfC qual (Qs st) s.heap.objs.size f cdv)) → sp vs H Q E →
   ∃ t, PSs (QcW CX0 P w K mg base N qual (Qs st) f cdv A outer s H E).nox (Vg st) t ∧ t { nx := fun _ H' => Q .non H', rt := Q } (start N vs) H) : FnOk P w K mg base CX0 (k + 1) f fd ps sp := by
 obtain ⟨oc, od, kV, doc, pm, an, cdv, ct, osl, rfl, lk, hcd⟩ := F.ex
 refine Qhr lk hcd S len fun A outer s H vs Q E hr hsp => ?_
 obtain ⟨t, h, q⟩ := hbody cdv A outer s H vs Q E hr hsp
 exact ⟨t, h.nox, q⟩
theorem Fun.binds {x qual : Str} {st : Stmt} {f : Addr} {fd : FuncData} {ps : List Str} (F : Fun K x qual st f fd)
  (h : ∀ (kV doc pm : Value) (an : Option Addr) (cdv ct : Value) (us : List Value), us.length = ps.length → bindArgs (PySem.W.fnOf x qual (Xk st) (Vg st) (Qs st) .none kV doc pm an cdv ct) ⟨us, []⟩ = pure (ps.zip us)) : Binds K fd ps [] := by
 obtain ⟨oc, od, kV, doc, pm, an, cdv, ct, osl, rfl, lk, hcd⟩ := F.ex
 exact .all (h kV doc pm an cdv ct)
theorem Qdm {x qual : Str} {st : Stmt} {f : Addr} {oc : Value} {od an : Option Addr} {osl : Array (Option Value)} {kV doc pm cdv ct : Value} (l : K.lookup f = some ⟨oc, od, .func (PySem.W.fnOf x qual (Xk st) (Vg st) (Qs st) .none kV doc pm an cdv ct), osl⟩)
  (c : PySem.W.codeIn K cdv qual = true) (k : PySem.W.keepIn K (.ref f) = true) : Fun K x qual st f (PySem.W.fnOf x qual (Xk st) (Vg st) (Qs st) .none kV doc pm an cdv ct) := ⟨⟨oc, od, kV, doc, pm, an, cdv, ct, osl, rfl, l, c⟩, k⟩
end
section
variable {X : Cx}
end

theorem QeZ {A B : Prop} (h : B) : if false = true then A else B := by
 rw [if_neg Bool.false_ne_true]
 exact h
theorem Qe2 {A B : Prop} (h : A) : if true = true then A else B := by
 rw [if_pos rfl]
 exact h
end L2

namespace L2
open PySem PySem.Spec PyProof.Rows

section
variable {κ : Type} [DecidableEq κ]
theorem RelO.isSome_eq {o : Option V} {u : Option Value} (r : RelO o u) : o.isSome = u.isSome := by
 cases o with
 | none => cases u with
  | none => rfl
  | some _ => exact (show False from r).elim
 | some _ => cases u with
  | none => exact (show False from r).elim
  | some _ => rfl
end


section
variable {P : Program} {w : World} {H : Hp} {h : Heap} {a : Addr}
end

section
variable {X : Cx} {pins : List (Addr × Obj)} {σ : St} {H : Hp} {s : Shared} {a : Addr} {y v : V} {u r : Value} {o : Option V} {A : Around} {E : Value → Shared → Prop}

theorem Inv.big (I : Inv X pins σ H s) : sysModules < s.heap.objs.size := by
 have h : mainGlobals < s.heap.objs.size := (I.mod.glob.keeps I.bk).lt
 exact Nat.lt_trans (by decide) h

theorem QeM {h' : Heap} {t' : Nat} {ob : HO} (I : Inv X pins σ H s) (mu : Mut (H a)) (hs : Heap.SameBut a s.heap h') (he : ∃ q, h'.get? a = some q) (new : ObjOk X.prog X.w (upd H a ob) h' a ob) :
  Inv X pins σ (upd H a ob) { s with heap := h', toks := t' } :=
 I.write (x := a) (e := a) mu (.inl rfl) (fun b q hb z => (hs.2 b hb).trans z) he new
end

section
variable {X : Cx} {pins : List (Addr × Obj)} {σ : St} {H : Hp} {s : Shared} {a : Addr} {kvs : List (Key × V)} {k : Key} {u : Value} {A : Around} {E : Value → Shared → Prop}
end


section
variable {X : Cx} {o i e value : Expr} {pos pos' tpos : Pos} {td ty tv : TE}
end


theorem QbT {P : Program} {w : World} {H : Hp} (h : Heap) (hb : sysModules < h.objs.size) : ObjOk P w H (h.push { cls := .type "dict", data := .dict #[] }) h.objs.size (.dT []) :=
 ⟨Nat.zero_le _, beq_eq_false_iff_ne.mpr (Ne.symm (Nat.ne_of_lt hb)), [], .nil, _, #[], 0, Heap.get?_push_size _ rfl, ⟨rfl, rfl, rfl⟩, rfl, rfl, List.nodup_nil⟩
section
variable {X : Cx} {pos : Pos}
end

section
variable {X : Cx} {pins : List (Addr × Obj)} {σ : St} {H : Hp} {s : Shared} {a : Addr} {y d : V} {u r : Value} {o : Option V} {A : Around} {E : Value → Shared → Prop}
end

section
variable {X : Cx} {o e f : Expr} {apos cpos : Pos} {td ty tx : TE}
end

section
variable {X : Cx} {pins : List (Addr × Obj)} {σ : St} {H : Hp} {s : Shared} {a : Addr} {kvs : List (Key × V)} {A : Around} {E : Value → Shared → Prop}
end


section
variable {X : Cx} {pins : List (Addr × Obj)} {σ : St} {H : Hp} {s : Shared} {a : Addr} {y : V} {u : Value} {A : Around} {E : Value → Shared → Prop}
end
end L2

namespace L2
open PySem PySem.Spec PyProof.Rows
section
variable {X : Cx}
end
section
variable {κ : Type} [DecidableEq κ]
end
end L2

namespace Mi
open PySem PySem.Spec PyProof.Rows L2

inductive W where
 | non | bl (b : Bool) | int (i : Int) | str (x : Str) | tup (ws : List W) | lst (ws : List W) | frz (ws : List W) | ref (n : Nat) | ty (n : String)
inductive MO where
 | lst (ws : List W)
 | dic (kvs : List (Key × W))
 | dct (kvs : List (W × W))
noncomputable abbrev MH := List MO
noncomputable abbrev MSt := List (Option W)

structure Rn where
 ρ : Nat → Addr
 N : Nat
 F : Hp
 G : Hp
structure Ext (R R' : Rn) : Prop where
 n : R.N ≤ R'.N
 ρ : ∀ n, n < R.N → R'.ρ n = R.ρ n
 f : ∀ a o, R.F a = some o → R'.F a = some o
 g : R'.G = R.G
theorem Ext.refl (R : Rn) : Ext R R := ⟨Nat.le_refl _, fun _ _ => rfl, fun _ _ h => h, rfl⟩
theorem Ext.trans {R R1 R2 : Rn} (a : Ext R R1) (b : Ext R1 R2) : Ext R R2 :=
 ⟨Nat.le_trans a.n b.n, fun n h => (b.ρ n (Nat.lt_of_lt_of_le h a.n)).trans (a.ρ n h), fun x o h => b.f x o (a.f x o h), b.g.trans a.g⟩

theorem VL {K : PySem.W.Frag} {F F' : Hp} (e : ∀ a o, F a = some o → F' a = some o) {a : Addr} {xs : List V} (h : SqT K F a xs) : SqT K F' a xs := by
 rcases h with (h | ⟨o, h⟩) | h
 ·exact .inl (.inl (e _ _ h))
 ·exact .inl (.inr ⟨o, e _ _ h⟩)
 ·exact .inr h
theorem Vc {K : PySem.W.Frag} {F F' : Hp} (e : ∀ a o, F a = some o → F' a = some o) {a : Addr} {xs : List V} (h : SqL K F a xs) : SqL K F' a xs := by
 rcases h with (h | ⟨o, h⟩) | h
 ·exact .inl (.inl (e _ _ h))
 ·exact .inl (.inr ⟨o, e _ _ h⟩)
 ·exact .inr h

section
variable (K : PySem.W.Frag)
mutual
noncomputable def Rw (R : Rn) : W → V → Prop
 | .non, v => v = .non
 | .bl b, v => v = .bl b
 | .int i, v => v = .int i
 | .str x, v => v = .str x
 | .tup ws, v => ∃ a xs, v = .ref a ∧ SqT K R.F a xs ∧ Rws R ws xs
 | .lst ws, v => ∃ a xs, v = .ref a ∧ R.F a = some (.lst xs) ∧ Rws R ws xs
 | .frz ws, v => ∃ a xs, v = .ref a ∧ SqL K R.F a xs ∧ Rws R ws xs
 | .ref n, v => n < R.N ∧ v = .ref (R.ρ n)
 | .ty n, v => v = .ty n
noncomputable def Rws (R : Rn) : List W → List V → Prop
 | [], vs => vs = []
 | w :: ws, vs => ∃ v vs', vs = v :: vs' ∧ Rw R w v ∧ Rws R ws vs'
end
end
section
variable {K : PySem.W.Frag} {R R' : Rn}
mutual
theorem Rw.mono (e : Ext R R') : ∀ (w : W) (v : V), Rw K R w v → Rw K R' w v
 | .non, _, h => by unfold Rw at h ⊢; exact h
 | .bl _, _, h => by unfold Rw at h ⊢; exact h
 | .int _, _, h => by unfold Rw at h ⊢; exact h
 | .str _, _, h => by unfold Rw at h ⊢; exact h
 | .ty _, _, h => by unfold Rw at h ⊢; exact h
 | .tup ws, _, h => by
  unfold Rw at h ⊢
  obtain ⟨a, xs, e1, e2, e3⟩ := h
  exact ⟨a, xs, e1, VL e.f e2, Rws.mono e ws xs e3⟩
 | .lst ws, _, h => by
  unfold Rw at h ⊢
  obtain ⟨a, xs, e1, e2, e3⟩ := h
  exact ⟨a, xs, e1, e.f a _ e2, Rws.mono e ws xs e3⟩
 | .frz ws, _, h => by
  unfold Rw at h ⊢
  obtain ⟨a, xs, e1, e2, e3⟩ := h
  exact ⟨a, xs, e1, Vc e.f e2, Rws.mono e ws xs e3⟩
 | .ref n, _, h => by
  unfold Rw at h ⊢
  obtain ⟨e1, e2⟩ := h
  exact ⟨Nat.lt_of_lt_of_le e1 e.n, by rw [e.ρ n e1]; exact e2⟩
theorem Rws.mono (e : Ext R R') : ∀ (ws : List W) (vs : List V), Rws K R ws vs → Rws K R' ws vs
 | [], _, h => by unfold Rws at h ⊢; exact h
 | w :: ws, _, h => by
  unfold Rws at h ⊢
  obtain ⟨v, vs', e1, e2, e3⟩ := h
  exact ⟨v, vs', e1, Rw.mono e w v e2, Rws.mono e ws vs' e3⟩
end
theorem Rws.nil_iff {vs : List V} : Rws K R [] vs ↔ vs = [] := by unfold Rws; exact Iff.rfl
theorem Rws.cons_iff {w : W} {ws : List W} {vs : List V} : Rws K R (w :: ws) vs ↔ ∃ v vs', vs = v :: vs' ∧ Rw K R w v ∧ Rws K R ws vs' := by
 constructor
 ·intro h; unfold Rws at h; exact h
 ·intro h; unfold Rws; exact h
theorem Rws.nil : Rws K R [] [] := Rws.nil_iff.mpr rfl
theorem Rws.cons {w : W} {ws : List W} {v : V} {vs : List V} (a : Rw K R w v) (b : Rws K R ws vs) : Rws K R (w :: ws) (v :: vs) := Rws.cons_iff.mpr ⟨v, vs, rfl, a, b⟩
theorem Rws.paired : ∀ {ws : List W} {vs : List V}, Rws K R ws vs → Paired (Rw K R) ws vs
 | [], vs, h => by rw [Rws.nil_iff] at h; subst h; exact .nil
 | w :: ws, vs, h => by
  rw [Rws.cons_iff] at h
  obtain ⟨v, vs', rfl, a, b⟩ := h
  exact .cons a (Rws.paired b)
theorem Rws.of : ∀ {ws : List W} {vs : List V}, Paired (Rw K R) ws vs → Rws K R ws vs
 | _, _, .nil => Rws.nil
 | _, _, .cons a b => Rws.cons a (Rws.of b)
theorem Rws.length {ws : List W} {vs : List V} (h : Rws K R ws vs) : ws.length = vs.length := Paired.length h.paired
theorem Rws.get : ∀ {ws : List W} {vs : List V} {i : Nat} {w : W}, Rws K R ws vs → ws[i]? = some w → ∃ v, vs[i]? = some v ∧ Rw K R w v
 | [], _, _, _, _, e => by simp at e
 | w :: ws, vs, 0, x, h, e => by
  rw [Rws.cons_iff] at h
  obtain ⟨v, vs', rfl, a, b⟩ := h
  simp at e; subst e
  exact ⟨v, by simp, a⟩
 | w :: ws, vs, i + 1, x, h, e => by
  rw [Rws.cons_iff] at h
  obtain ⟨v, vs', rfl, a, b⟩ := h
  obtain ⟨y, h1, h2⟩ := Rws.get (i := i) b (by simpa using e)
  exact ⟨y, by simpa using h1, h2⟩
theorem Rws.append : ∀ {ws us : List W} {vs xs : List V}, Rws K R ws vs → Rws K R us xs → Rws K R (ws ++ us) (vs ++ xs)
 | [], us, vs, xs, h, q => by rw [Rws.nil_iff] at h; subst h; exact q
 | w :: ws, us, vs, xs, h, q => by
  rw [Rws.cons_iff] at h
  obtain ⟨v, vs', rfl, a, b⟩ := h
  exact Rws.cons a (Rws.append b q)
theorem Rws.take : ∀ {ws : List W} {vs : List V} (n : Nat), Rws K R ws vs → Rws K R (ws.take n) (vs.take n)
 | _, _, 0, _ => by simp; exact Rws.nil
 | [], vs, n + 1, h => by rw [Rws.nil_iff] at h; subst h; simp; exact Rws.nil
 | w :: ws, vs, n + 1, h => by
  rw [Rws.cons_iff] at h
  obtain ⟨v, vs', rfl, a, b⟩ := h
  exact Rws.cons a (Rws.take n b)
theorem Rws.drop : ∀ {ws : List W} {vs : List V} (n : Nat), Rws K R ws vs → Rws K R (ws.drop n) (vs.drop n)
 | _, _, 0, h => by simpa using h
 | [], vs, n + 1, h => by rw [Rws.nil_iff] at h; subst h; simp; exact Rws.nil
 | w :: ws, vs, n + 1, h => by
  rw [Rws.cons_iff] at h
  obtain ⟨v, vs', rfl, a, b⟩ := h
  exact Rws.drop n b
theorem Rws.set : ∀ {ws : List W} {vs : List V} {w : W} {v : V} (n : Nat), Rws K R ws vs → Rw K R w v → Rws K R (ws.set n w) (vs.set n v)
 | [], vs, _, _, n, h, _ => by rw [Rws.nil_iff] at h; subst h; simp; exact Rws.nil
 | x :: ws, vs, w, v, 0, h, q => by
  rw [Rws.cons_iff] at h
  obtain ⟨y, vs', rfl, a, b⟩ := h
  exact Rws.cons q b
 | x :: ws, vs, w, v, n + 1, h, q => by
  rw [Rws.cons_iff] at h
  obtain ⟨y, vs', rfl, a, b⟩ := h
  exact Rws.cons a (Rws.set n b q)
end

noncomputable def YV : Nat → W → Option Tr
 | 0, _ => none
 | _ + 1, .int i => some (.i i)
 | _ + 1, .bl b => some (.i (if b then 1 else 0))
 | _ + 1, .str x => some (.s x)
 | n + 1, .tup ws => (ws.mapM (YV n)).map .t
 | _ + 1, _ => none
noncomputable def nrm : W → Option Tr
 | .tup ws => YV 8 (.tup ws)
 | _ => none
section
variable (K : PySem.W.Frag)
noncomputable def Ro (R : Rn) : MO → Option HO → Prop
 | .lst ws, o => ∃ xs, o = some (.lst xs) ∧ Rws K R ws xs
 | .dic kvs, o => ∃ kx : List (Key × V), o = some (.dK kx) ∧ Paired (fun p q => p.1 = q.1 ∧ Rw K R p.2 q.2) kvs kx
 | .dct kvs, o => ∃ kx : List (Tr × Addr × V), o = some (.dT kx) ∧ Paired (fun p q => Rw K R p.1 (.ref q.2.1) ∧ nrm p.1 = some q.1 ∧ Rw K R p.2 q.2.2) kvs kx
structure Rh (R : Rn) (h : MH) (H : Hp) : Prop where
 len : R.N = h.length
 sub : ∀ a o, R.F a = some o → H a = some o
 sep : ∀ n, n < R.N → R.F (R.ρ n) = none
 inj : ∀ m n, m < R.N → n < R.N → R.ρ m = R.ρ n → m = n
 obj : ∀ n o, h[n]? = some o → Ro K R o (H (R.ρ n))
 gsub : ∀ a o, R.G a = some o → H a = some o
 gsep : ∀ n, n < R.N → R.G (R.ρ n) = none
 gf : ∀ a o, R.G a = some o → R.F a = none
noncomputable def Rst (R : Rn) (σi : MSt) (σ : L2.St) : Prop := σi.length = σ.length ∧ ∀ (i : Nat) (w : W), σi[i]? = some (some w) → ∃ v, σ[i]? = some (some v) ∧ Rw K R w v
end
section
variable {K : PySem.W.Frag} {R R' : Rn} {h : MH} {H : Hp} {σi : MSt} {σ : L2.St}
theorem Ro.mono (e : Ext R R') {o : MO} {u : Option HO} (q : Ro K R o u) : Ro K R' o u := by
 cases o with
 | lst ws => obtain ⟨xs, e1, e2⟩ := q; exact ⟨xs, e1, Rws.mono e ws xs e2⟩
 | dic kvs => obtain ⟨kx, e1, e2⟩ := q; exact ⟨kx, e1, Paired.mapP e2 fun a b z => ⟨z.1, Rw.mono e _ _ z.2⟩⟩
 | dct kvs => obtain ⟨kx, e1, e2⟩ := q; exact ⟨kx, e1, Paired.mapP e2 fun a b z => ⟨Rw.mono e _ _ z.1, z.2.1, Rw.mono e _ _ z.2.2⟩⟩
theorem Ro.some {o : MO} {u : Option HO} (q : Ro K R o u) : ∃ x, u = some x := by
 cases o with
 | lst ws => obtain ⟨xs, e1, e2⟩ := q; exact ⟨_, e1⟩
 | dic kvs => obtain ⟨kx, e1, e2⟩ := q; exact ⟨_, e1⟩
 | dct kvs => obtain ⟨kx, e1, e2⟩ := q; exact ⟨_, e1⟩
theorem Rst.mono (e : Ext R R') (q : Rst K R σi σ) : Rst K R' σi σ := ⟨q.1, fun i w h => by
 obtain ⟨v, h1, h2⟩ := q.2 i w h
 exact ⟨v, h1, Rw.mono e _ _ h2⟩⟩
theorem Rst.set {i : Nat} {w : W} {v : V} (q : Rst K R σi σ) (r : Rw K R w v) : Rst K R (σi.set i (some w)) (σ.set i (some v)) := by
 refine ⟨by rw [List.length_set, List.length_set]; exact q.1, fun j u e => ?_⟩
 rw [List.getElem?_set] at e ⊢
 by_cases hij : i = j
 ·subst hij
  rw [if_pos rfl] at e ⊢
  by_cases hl : i < σi.length
  ·rw [if_pos hl] at e
   rw [if_pos (q.1 ▸ hl)]
   cases e
   exact ⟨v, rfl, r⟩
  ·rw [if_neg hl] at e; cases e
 ·rw [if_neg hij] at e ⊢
  exact q.2 j u e
theorem Rh.there (q : Rh K R h H) {n : Nat} (hn : n < R.N) : ∃ o u, h[n]? = some o ∧ H (R.ρ n) = some u := by
 have hl : n < h.length := q.len ▸ hn
 obtain ⟨u, hu⟩ := (q.obj n h[n] (List.getElem?_eq_getElem hl)).some
 exact ⟨h[n], u, List.getElem?_eq_getElem hl, hu⟩
theorem Rh.ne (q : Rh K R h H) {p : Addr} (hp : H p = none) {n : Nat} (hn : n < R.N) : R.ρ n ≠ p := fun e => by
 obtain ⟨o, u, _, hu⟩ := q.there hn
 rw [e, hp] at hu; cases hu
theorem Rh.fix (q : Rh K R h H) {p : Addr} {o : HO} (hp : H p = none) :
  Ext R { R with F := upd R.F p o } ∧ Rh K { R with F := upd R.F p o } h (upd H p o) := by
 have hF : R.F p = none := by
  cases e : R.F p with
  | none => rfl
  | some u => have := q.sub p u e; rw [hp] at this; cases this
 have x : Ext R { R with F := upd R.F p o } := ⟨Nat.le_refl _, fun _ _ => rfl, fun a u e => by
  show upd R.F p o a = some u
  rw [QW (fun z => by rw [z, hF] at e; cases e)]; exact e, rfl⟩
 have hG : ∀ a u, R.G a = some u → a ≠ p := fun a u e z => by have := q.gsub a u e; rw [z, hp] at this; cases this
 refine ⟨x, q.len, fun a u e => ?_, fun n hn => ?_, q.inj, fun n u e => ?_, fun a u e => ?_, q.gsep, fun a u e => ?_⟩
 rotate_right 2
 ·rw [QW (hG a u e)]; exact q.gsub a u e
 ·show upd R.F p o a = none
  rw [QW (hG a u e)]; exact q.gf a u e
 ·by_cases z : a = p
  ·subst z
   have e' : upd R.F a o a = some u := e
   rw [Va] at e' ⊢; exact e'
  ·have e' : upd R.F p o a = some u := e
   rw [QW z] at e' ⊢; exact q.sub a u e'
 ·show upd R.F p o (R.ρ n) = none
  rw [QW (q.ne hp hn)]; exact q.sep n hn
 ·have hn : n < R.N := by rw [q.len]; exact (List.getElem?_eq_some_iff.mp e).1
  show Ro K _ u (upd H p o (R.ρ n))
  rw [QW (q.ne hp hn)]
  exact (q.obj n u e).mono x
theorem Rh.tup (q : Rh K R h H) {p : Addr} {ws : List W} {xs : List V} (hp : H p = none) (r : Rws K R ws xs) :
  ∃ R', Ext R R' ∧ Rh K R' h (upd H p (.tup xs)) ∧ Rw K R' (.tup ws) (.ref p) := by
 obtain ⟨x, y⟩ := q.fix (o := .tup xs) hp
 refine ⟨_, x, y, ?_⟩
 unfold Rw
 exact ⟨p, xs, rfl, SqT.of Va, Rws.mono x _ _ r⟩
theorem Rh.lstI (q : Rh K R h H) {p : Addr} {ws : List W} {xs : List V} (hp : H p = none) (r : Rws K R ws xs) :
  ∃ R', Ext R R' ∧ Rh K R' h (upd H p (.lst xs)) ∧ Rw K R' (.lst ws) (.ref p) := by
 obtain ⟨x, y⟩ := q.fix (o := .lst xs) hp
 refine ⟨_, x, y, ?_⟩
 unfold Rw
 exact ⟨p, xs, rfl, Va, Rws.mono x _ _ r⟩
theorem Rh.new (q : Rh K R h H) {p : Addr} {o : HO} {mo : MO} (hp : H p = none) (r : ∀ R', Ext R R' → Ro K R' mo (some o)) :
  ∃ R', Ext R R' ∧ Rh K R' (h ++ [mo]) (upd H p o) ∧ Rw K R' (.ref h.length) (.ref p) := by
 let R' : Rn := { ρ := fun n => if n = R.N then p else R.ρ n, N := R.N + 1, F := R.F, G := R.G }
 have hr : ∀ n, n < R.N → R'.ρ n = R.ρ n := fun n hn => if_neg (Nat.ne_of_lt hn)
 have hq : R'.ρ R.N = p := if_pos rfl
 have x : Ext R R' := ⟨Nat.le_succ _, hr, fun _ _ e => e, rfl⟩
 have hG : ∀ a u, R.G a = some u → a ≠ p := fun a u e z => by have := q.gsub a u e; rw [z, hp] at this; cases this
 have hF : R.F p = none := by
  cases e : R.F p with
  | none => rfl
  | some u => have := q.sub p u e; rw [hp] at this; cases this
 have below : ∀ n, n < R.N + 1 → n < R.N ∨ n = R.N := fun n hn => Nat.lt_or_eq_of_le (Nat.le_of_lt_succ hn)
 have hgs : ∀ n, n < R.N + 1 → R.G (R'.ρ n) = none := fun n hn => by
  rcases below n hn with hn | hn
  ·rw [hr n hn]; exact q.gsep n hn
  ·subst hn
   rw [hq]
   cases e : R.G p with
   | none => rfl
   | some u => exact absurd rfl (hG p u e)
 refine ⟨R', x, ⟨?_, fun a u e => ?_, fun n hn => ?_, fun m n hm hn e => ?_, fun n u e => ?_, fun a u e => by rw [QW (hG a u e)]; exact q.gsub a u e, hgs, q.gf⟩, ?_⟩
 ·show R.N + 1 = _
  rw [List.length_append, q.len]; rfl
 ·have z : a ≠ p := fun z => by have e' : R.F a = some u := e; rw [z, hF] at e'; cases e'
  rw [QW z]; exact q.sub a u e
 ·rcases below n hn with hn | hn
  ·rw [hr n hn]; exact q.sep n hn
  ·subst hn; rw [hq]; exact hF
 ·rcases below m hm with hm | hm <;> rcases below n hn with hn | hn
  ·rw [hr m hm, hr n hn] at e; exact q.inj m n hm hn e
  ·subst hn; rw [hr m hm, hq] at e; exact absurd e (q.ne hp hm)
  ·subst hm; rw [hr n hn, hq] at e; exact absurd e.symm (q.ne hp hn)
  ·rw [hm, hn]
 ·have hn : n < R.N + 1 := by
   have := (List.getElem?_eq_some_iff.mp e).1
   rw [List.length_append, ← q.len] at this; exact this
  rcases below n hn with hn | hn
  ·rw [hr n hn, QW (q.ne hp hn)]
   rw [List.getElem?_append_left (by rw [← q.len]; exact hn)] at e
   exact (q.obj n u e).mono x
  ·subst hn
   rw [hq, Va]
   rw [List.getElem?_append_right (by rw [q.len]; exact Nat.le_refl _), q.len, Nat.sub_self] at e
   cases e
   exact r R' x
 ·unfold Rw
  refine ⟨by rw [← q.len]; exact Nat.lt_succ_self _, ?_⟩
  rw [← q.len, hq]
theorem Rh.put (q : Rh K R h H) {n : Nat} {o : HO} {mo : MO} (hn : n < R.N) (r : Ro K R mo (some o)) : Rh K R (h.set n mo) (upd H (R.ρ n) o) := by
 refine ⟨by rw [List.length_set]; exact q.len, fun a u e => ?_, q.sep, q.inj, fun m u e => ?_, fun a u e => ?_, q.gsep, q.gf⟩
 rotate_right
 ·have z : a ≠ R.ρ n := fun z => by rw [z, q.gsep n hn] at e; cases e
  rw [QW z]; exact q.gsub a u e
 ·have z : a ≠ R.ρ n := fun z => by rw [z, q.sep n hn] at e; cases e
  rw [QW z]; exact q.sub a u e
 ·by_cases z : n = m
  ·subst z
   rw [Va]
   rw [List.getElem?_set_self (by rw [← q.len]; exact hn)] at e
   cases e
   exact r
  ·have hm : m < R.N := by
    have := (List.getElem?_eq_some_iff.mp e).1
    rw [List.length_set, ← q.len] at this; exact this
   rw [List.getElem?_set_ne z] at e
   rw [QW (fun w => z (q.inj m n hm hn w).symm)]
   exact q.obj m u e
theorem Rh.tupAt (q : Rh K R h H) {ws : List W} {v : V} (r : Rw K R (.tup ws) v) : ∃ a xs, v = .ref a ∧ SqT K H a xs ∧ Rws K R ws xs := by
 unfold Rw at r
 obtain ⟨a, xs, e1, e2, e3⟩ := r
 exact ⟨a, xs, e1, VL q.sub e2, e3⟩
theorem Rh.lstAt (q : Rh K R h H) {ws : List W} {v : V} (r : Rw K R (.lst ws) v) : ∃ a xs, v = .ref a ∧ H a = some (.lst xs) ∧ Rws K R ws xs := by
 unfold Rw at r
 obtain ⟨a, xs, e1, e2, e3⟩ := r
 exact ⟨a, xs, e1, q.sub a _ e2, e3⟩
theorem Rh.frzAt (q : Rh K R h H) {ws : List W} {v : V} (r : Rw K R (.frz ws) v) : ∃ a xs, v = .ref a ∧ SqL K H a xs ∧ Rws K R ws xs := by
 unfold Rw at r
 obtain ⟨a, xs, e1, e2, e3⟩ := r
 exact ⟨a, xs, e1, Vc q.sub e2, e3⟩
noncomputable def lsW (h : MH) : W → Option (List W)
 | .lst ws => some ws
 | .frz ws => some ws
 | .ref n => match h[n]? with | some (.lst ws) => some ws | _ => none
 | _ => none
noncomputable def loW (h : MH) : W → Option (List W)
 | .lst ws => some ws
 | .ref n => match h[n]? with | some (.lst ws) => some ws | _ => none
 | _ => none
theorem Rh.loAt (q : Rh K R h H) {w : W} {v : V} {ws : List W} (r : Rw K R w v) (e : loW h w = some ws) : ∃ a xs, v = .ref a ∧ H a = some (.lst xs) ∧ Rws K R ws xs := by
 cases w with
 | lst us => cases e; exact q.lstAt r
 | ref n =>
  simp only [loW] at e
  split at e
  ·rename_i us hn
   cases e
   unfold Rw at r
   obtain ⟨xs, h1, h2⟩ := q.obj n _ hn
   exact ⟨_, xs, r.2, h1, h2⟩
  ·cases e
 | _ => cases e
theorem Rh.lsAt (q : Rh K R h H) {w : W} {v : V} {ws : List W} (r : Rw K R w v) (e : lsW h w = some ws) : ∃ a xs, v = .ref a ∧ SqL K H a xs ∧ Rws K R ws xs := by
 cases w with
 | lst us => cases e; obtain ⟨a, xs, e1, e2, e3⟩ := q.lstAt r; exact ⟨a, xs, e1, SqL.of e2, e3⟩
 | frz us => cases e; exact q.frzAt r
 | ref n =>
  simp only [lsW] at e
  split at e
  ·rename_i us hn
   cases e
   unfold Rw at r
   obtain ⟨xs, h1, h2⟩ := q.obj n _ hn
   exact ⟨_, xs, r.2, SqL.of h1, h2⟩
  ·cases e
 | _ => cases e
theorem Rh.refAt (q : Rh K R h H) {n : Nat} {v : V} {ws : List W} (r : Rw K R (.ref n) v) (e : h[n]? = some (.lst ws)) :
  n < R.N ∧ v = .ref (R.ρ n) ∧ ∃ xs, H (R.ρ n) = some (.lst xs) ∧ Rws K R ws xs := by
 unfold Rw at r
 exact ⟨r.1, r.2, q.obj n _ e⟩
end
theorem Rw.non_eq {K : PySem.W.Frag} {R : Rn} {v : V} (r : Rw K R .non v) : v = .non := by unfold Rw at r; exact r
theorem Rw.bl_eq {K : PySem.W.Frag} {R : Rn} {v : V} {b : Bool} (r : Rw K R (.bl b) v) : v = .bl b := by unfold Rw at r; exact r
theorem Rw.int_eq {K : PySem.W.Frag} {R : Rn} {v : V} {i : Int} (r : Rw K R (.int i) v) : v = .int i := by unfold Rw at r; exact r
theorem Rw.str_eq {K : PySem.W.Frag} {R : Rn} {v : V} {x : Str} (r : Rw K R (.str x) v) : v = .str x := by unfold Rw at r; exact r
theorem Rw.ty_eq {K : PySem.W.Frag} {R : Rn} {v : V} {n : String} (r : Rw K R (.ty n) v) : v = .ty n := by unfold Rw at r; exact r
theorem Rw.ty {K : PySem.W.Frag} {R : Rn} (n : String) : Rw K R (.ty n) (.ty n) := by unfold Rw; rfl
theorem Rw.non {K : PySem.W.Frag} {R : Rn} : Rw K R .non .non := by unfold Rw; rfl
theorem Rw.bl {K : PySem.W.Frag} {R : Rn} (b : Bool) : Rw K R (.bl b) (.bl b) := by unfold Rw; rfl
theorem Rw.int {K : PySem.W.Frag} {R : Rn} (i : Int) : Rw K R (.int i) (.int i) := by unfold Rw; rfl
theorem Rw.str {K : PySem.W.Frag} {R : Rn} (x : Str) : Rw K R (.str x) (.str x) := by unfold Rw; rfl
end Mi

namespace Mi
open PySem PySem.Spec PyProof.Rows L2

noncomputable abbrev ME := MSt → MH → Option (W × MH)
noncomputable abbrev MT := MSt → MH → Option (Bool × MH)
noncomputable abbrev MA := MSt → MH → Option (List W × MH)
inductive MF where
 | nx (σ : MSt) (h : MH) | rt (w : W) (h : MH) | bk (σ : MSt) (h : MH) | ct (σ : MSt) (h : MH)
noncomputable abbrev SM := MSt → MH → Option MF
noncomputable abbrev FM := List W → MH → Option (W × MH)

section
variable (K : PySem.W.Frag)
noncomputable def After (R : Rn) (w : W) (h' : MH) (Q : VK) : Prop := ∀ R' H' v, Ext R R' → Rh K R' h' H' → Rw K R' w v → Q v H'
noncomputable def tI (m : ME) : TE := fun σ H Q => ∃ R σi h w h', Rh K R h H ∧ Rst K R σi σ ∧ m σi h = some (w, h') ∧ After K R w h' Q
noncomputable def tIT (m : MT) : TT := fun σ H Q => ∃ R σi h b h', Rh K R h H ∧ Rst K R σi σ ∧ m σi h = some (b, h') ∧ ∀ R' H', Ext R R' → Rh K R' h' H' → Q b H'
noncomputable def tIA (m : MA) : TA := fun σ H Q => ∃ R σi h ws h', Rh K R h H ∧ Rst K R σi σ ∧ m σi h = some (ws, h') ∧ ∀ R' H' vs, Ext R R' → Rh K R' h' H' → Rws K R' ws vs → Q vs H'
noncomputable def Ends (R : Rn) (D : L2.Ends) : MF → Prop
 | .nx σi h => ∀ R' H' σ, Ext R R' → Rh K R' h H' → Rst K R' σi σ → D.nx σ H'
 | .bk σi h => ∀ R' H' σ, Ext R R' → Rh K R' h H' → Rst K R' σi σ → D.bk σ H'
 | .ct σi h => ∀ R' H' σ, Ext R R' → Rh K R' h H' → Rst K R' σi σ → D.ct σ H'
 | .rt w h => After K R w h D.rt
noncomputable def tS (m : SM) : TS := fun D σ H => ∃ R σi h r, Rh K R h H ∧ Rst K R σi σ ∧ m σi h = some r ∧ Ends K R D r
noncomputable def spM (n : Nat) (m : FM) : Sp := fun vs H Q _ => ∃ R ws h w h', ws.length = n ∧ Rh K R h H ∧ Rws K R ws vs ∧ m ws h = some (w, h') ∧ After K R w h' Q
end
noncomputable def PM (X : Cx) (e : Expr) (m : ME) : Prop := PE X e (tI X.K m)
noncomputable def PMT (X : Cx) (e : Expr) (m : MT) : Prop := PT X e (tIT X.K m)
noncomputable def PMA (X : Cx) (es : List Expr) (m : MA) : Prop := PA X es (tIA X.K m)
noncomputable def PMS (X : Cx) (st : Stmt) (m : SM) : Prop := PS X st (tS X.K m)
noncomputable def QbL (X : Cx) (st : List Stmt) (m : SM) : Prop := PSs X st (tS X.K m)

section
variable {K : PySem.W.Frag} {R R1 R2 : Rn}
theorem After.ext {w : W} {h' : MH} {Q : VK} (a : After K R w h' Q) (x : Ext R R1) : After K R1 w h' Q := fun R' H' v e => a R' H' v (x.trans e)
theorem Ends.ext {D : L2.Ends} {r : MF} (a : Ends K R D r) (x : Ext R R1) : Ends K R1 D r := by
 cases r with
 | nx σ h => exact fun R' H' v e => a R' H' v (x.trans e)
 | bk σ h => exact fun R' H' v e => a R' H' v (x.trans e)
 | ct σ h => exact fun R' H' v e => a R' H' v (x.trans e)
 | rt w h => exact After.ext a x
end
theorem ZD {X : Cx} {e : Expr} {t t' : TE} (h : PE X e t) (i : ∀ σ H Q, t' σ H Q → t σ H Q) : PE X e t' := fun pins s σ H Q I q => h pins s σ H Q I (i _ _ _ q)
theorem QbJ {X : Cx} {e : Expr} {t t' : TT} (h : PT X e t) (i : ∀ σ H Q, t' σ H Q → t σ H Q) : PT X e t' := fun pins s σ H Q I q => h pins s σ H Q I (i _ _ _ q)
theorem Qdt {X : Cx} {e : Expr} {t t' : TT} (h : PW X e t) (i : ∀ σ H Q, t' σ H Q → t σ H Q) : PW X e t' := fun wh pins s σ H Q I q => h wh pins s σ H Q I (i _ _ _ q)
theorem Qc4 {X : Cx} {es : List Expr} {t t' : TA} (h : PA X es t) (i : ∀ σ H Q, t' σ H Q → t σ H Q) : PA X es t' := fun pos pins s σ H Q I q => h pos pins s σ H Q I (i _ _ _ q)
theorem VN {X : Cx} {st : Stmt} {t t' : TS} (h : PS X st t) (i : ∀ D σ H, t' D σ H → t D σ H) : PS X st t' := fun pins s σ H D I q => h pins s σ H D I (i _ _ _ q)
theorem QbA {X : Cx} {st : List Stmt} {t t' : TS} (h : PSs X st t) (i : ∀ D σ H, t' D σ H → t D σ H) : PSs X st t' := fun pins s σ H D I q => h pins s σ H D I (i _ _ _ q)

noncomputable def Qg (i : Nat) : ME := fun σ h => match σ[i]? with | some (some w) => some (w, h) | _ => none
noncomputable def mC (w : W) : ME := fun _ h => some (w, h)
section
variable {X : Cx}
theorem Qb (i : Nat) {x : Str} {pos : Pos} (hN : X.N[i]? = some x := by rfl) (hv : Vis X.env.scope x := by first | exact Or.inl rfl | exact Or.inr (Or.inl rfl) | exact Or.inr (Or.inr rfl)) (hd : (x == ("__debug__" : Str)) = false := by decide)
  (hcd : (x == ("__classdict__" : Str)) = false := by decide) : PM X (.Name x pos) (Qg i) := ZD (Qe4 hN hv hd hcd) <| by
 rintro σ H Q ⟨R, σi, h, w, h', rh, st, e, k⟩
 unfold Qg at e
 split at e
 ·rename_i w' e'
  cases e
  obtain ⟨v, h1, h2⟩ := st.2 i _ e'
  exact ⟨v, h1, k R H v (Ext.refl _) rh h2⟩
 ·cases e
theorem Qax {w : W} {v : V} (r : ∀ R, Rw X.K R w v) {σ : L2.St} {H : Hp} {Q : VK} (q : tI X.K (mC w) σ H Q) : tC v σ H Q := by
 obtain ⟨R, σi, h, w', h', rh, st, e, k⟩ := q
 cases e
 exact k R H v (Ext.refl _) rh (r R)
theorem Qe {i j pos} : PM X (.Constant (.int i) j pos) (mC (.int i)) := ZD Qgp fun _ _ _ => Qax fun _ => Rw.int _
theorem Jo {b j pos} : PM X (.Constant (.bool b) j pos) (mC (.bl b)) := ZD Qhj fun _ _ _ => Qax fun _ => Rw.bl _
theorem WE {j pos} : PM X (.Constant .none j pos) (mC .non) := ZD Qgf fun _ _ _ => Qax fun _ => Rw.non
theorem QeD {x : Str} {w : W} {v : V} {u : Value} {pos : Pos} (hg : Gl X x) (hm : X.mg x = none) (hv : bootBuiltins x = some u) (r : RelV v u) (rw : ∀ R, Rw X.K R w v) (hn : x ≠ "__name__" := by decide) (hd : (x == ("__debug__" : Str)) = false := by decide) : PM X (.Name x pos) (mC w) :=
 ZD (Qee hg hm hv r hn hd) fun _ _ _ => Qax rw
theorem QP {x j pos} : PM X (.Constant (.str x) j pos) (mC (.str x)) := ZD Qge fun _ _ _ => Qax fun _ => Rw.str _
end

noncomputable def Ql (f : W → W → MH → Option (W × MH)) (ma mb : ME) : ME := fun σ h => (ma σ h).bind fun p => (mb σ p.2).bind fun q => f p.1 q.1 q.2
noncomputable def F1 (K : PySem.W.Frag) (f : W → MH → Option (W × MH)) (x : V) (H : Hp) (Q : VK) : Prop := ∃ R h a w h', Rh K R h H ∧ Rw K R a x ∧ f a h = some (w, h') ∧ After K R w h' Q
noncomputable def F2 (K : PySem.W.Frag) (f : W → W → MH → Option (W × MH)) (x y : V) (H : Hp) (Q : VK) : Prop := ∃ R h a b w h', Rh K R h H ∧ Rw K R a x ∧ Rw K R b y ∧ f a b h = some (w, h') ∧ After K R w h' Q
noncomputable def Fs (K : PySem.W.Frag) (f : List W → MH → Option (W × MH)) (xs : List V) (H : Hp) (Q : VK) : Prop := ∃ R h ws w h', Rh K R h H ∧ Rws K R ws xs ∧ f ws h = some (w, h') ∧ After K R w h' Q
noncomputable def mUn (f : W → MH → Option (W × MH)) (ma : ME) : ME := fun σ h => (ma σ h).bind fun p => f p.1 p.2
noncomputable def mFn (f : List W → MH → Option (W × MH)) (ma : MA) : ME := fun σ h => (ma σ h).bind fun p => f p.1 p.2
section
variable {K : PySem.W.Frag} {σ : L2.St} {H : Hp} {Q : VK}
theorem un1 {f : W → MH → Option (W × MH)} {ma : ME} (q : tI K (mUn f ma) σ H Q) : tI K ma σ H fun x H1 => F1 K f x H1 Q := by
 obtain ⟨R, σi, h, w, h', rh, st, e, k⟩ := q
 obtain ⟨⟨a, h1⟩, ea, e2⟩ := Option.bind_eq_some_iff.mp e
 exact ⟨R, σi, h, a, h1, rh, st, ea, fun R1 H1 x x1 rh1 rx => ⟨R1, h1, a, w, h', rh1, rx, e2, k.ext x1⟩⟩
theorem QgN {f : W → W → MH → Option (W × MH)} {ma mb : ME} (q : tI K (Ql f ma mb) σ H Q) : tI K ma σ H fun x H1 => tI K mb σ H1 fun y H2 => F2 K f x y H2 Q := by
 obtain ⟨R, σi, h, w, h', rh, st, e, k⟩ := q
 obtain ⟨⟨a, h1⟩, ea, e2⟩ := Option.bind_eq_some_iff.mp e
 obtain ⟨⟨b, h2⟩, eb, e3⟩ := Option.bind_eq_some_iff.mp e2
 exact ⟨R, σi, h, a, h1, rh, st, ea, fun R1 H1 x x1 rh1 rx => ⟨R1, σi, h1, b, h2, rh1, st.mono x1, eb, fun R2 H2 y x2 rh2 ry =>
  ⟨R2, h2, a, b, w, h', rh2, Rw.mono x2 _ _ rx, ry, e3, k.ext (x1.trans x2)⟩⟩⟩
theorem Gk {f : List W → MH → Option (W × MH)} {ma : MA} (q : tI K (mFn f ma) σ H Q) : tIA K ma σ H fun xs H1 => Fs K f xs H1 Q := by
 obtain ⟨R, σi, h, w, h', rh, st, e, k⟩ := q
 obtain ⟨⟨a, h1⟩, ea, e2⟩ := Option.bind_eq_some_iff.mp e
 exact ⟨R, σi, h, a, h1, rh, st, ea, fun R1 H1 x x1 rh1 rx => ⟨R1, h1, a, w, h', rh1, rx, e2, k.ext x1⟩⟩
end
noncomputable def Xe : Expr → Bool
 | .Starred .. => true
 | _ => false
noncomputable def Xc (es : List Expr) : Bool := es.all fun e => !Xe e
theorem Vn {e : Expr} {es : List Expr} {env : Env} (h : Xe e = false) : starEach (e :: es) env = (false, eval e env) :: starEach es env := by
 cases e <;> first | rfl | cases h
theorem Xw {es : List Expr} {env : Env} {pos : Pos} (h : Xc es = true) : (backTo pos (starEach es env)).any (·.1) = false := by
 induction es with
 | nil => rfl
 | cons e es ih =>
  unfold Xc at h ih
  rw [List.all_cons, Bool.and_eq_true] at h
  have he : Xe e = false := by simpa using h.1
  rw [Vn he]
  have := ih h.2
  unfold backTo at this ⊢
  rw [List.map_cons, List.any_cons, this]; rfl
theorem QcB {es : List Expr} {env : Env} {pos : Pos} (h : Xc es = true) : (backTo pos (starEach es env)).all (fun x => !x.1) = true := by
 have := Xw (env := env) (pos := pos) h
 rw [List.all_eq_not_any_not]
 simp only [Bool.not_not]
 rw [this]; rfl
noncomputable def Qm : MA := fun _ h => some ([], h)
noncomputable def Qc (ma : ME) (mr : MA) : MA := fun σ h => (ma σ h).bind fun p => (mr σ p.2).bind fun q => some (p.1 :: q.1, q.2)
section
variable {X : Cx} {e : Expr} {es : List Expr} {m : ME} {ms : MA} {pos : Pos}
theorem Qd : PMA X [] Qm := Qc4 QfH <| by
 rintro σ H Q ⟨R, σi, h, ws, h', rh, st, e, k⟩
 cases e
 exact k R H [] (Ext.refl _) rh Rws.nil
theorem Qa (ha : PM X e m) (hr : PMA X es ms) (hs : Xe e = false := by rfl) : PMA X (e :: es) (Qc m ms) :=
 Qc4 (Qey ha hr (Vn hs)) fun σ H Q ⟨R, σi, h, ws, h', rh, st, e, k⟩ => by
  obtain ⟨⟨a, h1⟩, ea, e2⟩ := Option.bind_eq_some_iff.mp e
  obtain ⟨⟨b, h2⟩, eb, e3⟩ := Option.bind_eq_some_iff.mp e2
  cases e3
  exact ⟨R, σi, h, a, h1, rh, st, ea, fun R1 H1 x x1 rh1 rx => ⟨R1, σi, h1, b, h2, rh1, st.mono x1, eb, fun R2 H2 ys x2 rh2 ry =>
   k R2 H2 (x :: ys) (x1.trans x2) rh2 (Rws.cons (Rw.mono x2 _ _ rx) ry)⟩⟩
noncomputable def ZW (ws : List W) (h : MH) : Option (W × MH) := if ws.length ≤ sizeLine then some (.tup ws, h) else none
noncomputable def Vf (ws : List W) (h : MH) : Option (W × MH) := if ws.length ≤ sizeLine then some (.lst ws, h) else none
noncomputable def K3 (ws : List W) (h : MH) : Option (W × MH) := if ws.length ≤ sizeLine then some (.ref h.length, h ++ [.lst ws]) else none
theorem QC {x1} (h : PMA X es ms) : PM X (.Tuple es x1 pos) (mFn ZW ms) := ZD (QfY h) fun σ H Q q => by
 obtain ⟨R, σi, h0, ws, h1, rh, st, e, k⟩ := Gk q
 refine ⟨R, σi, h0, ws, h1, rh, st, e, fun R1 H1 vs x1 rh1 rx => ?_⟩
 obtain ⟨R2, h2, ws2, w, h3, rh2, rx2, e2, k2⟩ := k R1 H1 vs x1 rh1 rx
 unfold ZW at e2
 split at e2
 ·rename_i hl
  cases e2
  refine ⟨by rw [← rx2.length]; exact hl, fun p hp => ?_⟩
  obtain ⟨R3, x3, rh3, rw3⟩ := rh2.tup hp rx2
  exact k2 R3 _ _ x3 rh3 rw3
 ·cases e2
theorem Q1 (h : PMA X es ms) : PM X (.List es pos) (mFn Vf ms) := ZD (Qc8 h) fun σ H Q q => by
 obtain ⟨R, σi, h0, ws, h1, rh, st, e, k⟩ := Gk q
 refine ⟨R, σi, h0, ws, h1, rh, st, e, fun R1 H1 vs x1 rh1 rx => ?_⟩
 obtain ⟨R2, h2, ws2, w, h3, rh2, rx2, e2, k2⟩ := k R1 H1 vs x1 rh1 rx
 unfold Vf at e2
 split at e2
 ·rename_i hl
  cases e2
  refine ⟨by rw [← rx2.length]; exact hl, fun p hp => ?_⟩
  obtain ⟨R3, x3, rh3, rw3⟩ := rh2.lstI hp rx2
  exact k2 R3 _ _ x3 rh3 rw3
 ·cases e2
theorem JQ (h : PMA X es ms) : PM X (.List es pos) (mFn K3 ms) := ZD (Qc8 h) fun σ H Q q => by
 obtain ⟨R, σi, h0, ws, h1, rh, st, e, k⟩ := Gk q
 refine ⟨R, σi, h0, ws, h1, rh, st, e, fun R1 H1 vs x1 rh1 rx => ?_⟩
 obtain ⟨R2, h2, ws2, w, h3, rh2, rx2, e2, k2⟩ := k R1 H1 vs x1 rh1 rx
 unfold K3 at e2
 split at e2
 ·rename_i hl
  cases e2
  refine ⟨by rw [← rx2.length]; exact hl, fun p hp => ?_⟩
  obtain ⟨R3, x3, rh3, rw3⟩ := rh2.new (mo := .lst ws2) (o := .lst vs) hp fun R' x' => ⟨vs, rfl, Rws.mono x' _ _ rx2⟩
  exact k2 R3 _ _ x3 rh3 rw3
 ·cases e2
end
noncomputable def OpM (K : PySem.W.Frag) (r : R2) (f : W → W → MH → Option (W × MH)) : Prop := ∀ x y H Q, F2 K f x y H Q → r x y H Q
noncomputable def QeO (K : PySem.W.Frag) (r : List V → Hp → VK → Prop) (f : List W → MH → Option (W × MH)) : Prop := ∀ xs H Q, Fs K f xs H Q → r xs H Q
section
variable {X : Cx} {a b c : Expr} {ma mb mc : ME} {pos : Pos}
theorem VJ {K : PySem.W.Frag} {m : ME} {σ : L2.St} {H : Hp} {Q Q' : VK} (h : tI K m σ H Q) (i : ∀ v H, Q v H → Q' v H) : tI K m σ H Q' := by
 obtain ⟨R, σi, h, w, h', rh, st, e, k⟩ := h
 exact ⟨R, σi, h, w, h', rh, st, e, fun R' H' v a b c => i _ _ (k R' H' v a b c)⟩
theorem Yq {K : PySem.W.Frag} {m : MA} {σ : L2.St} {H : Hp} {Q Q' : List V → Hp → Prop} (h : tIA K m σ H Q) (i : ∀ v H, Q v H → Q' v H) : tIA K m σ H Q' := by
 obtain ⟨R, σi, h, w, h', rh, st, e, k⟩ := h
 exact ⟨R, σi, h, w, h', rh, st, e, fun R' H' v a b c => i _ _ (k R' H' v a b c)⟩
theorem QH {op : Operator} {r : R2} {f : W → W → MH → Option (W × MH)} (ho : OpR X (binaryOp op) r) (hf : OpM X.K r f) (ha : PM X a ma) (hb : PM X b mb) : PM X (.BinOp a op b pos) (Ql f ma mb) :=
 ZD (QhO ho ha hb) fun _ _ _ q => VJ (QgN q) fun _ _ q1 => VJ q1 fun _ _ q2 => hf _ _ _ _ q2
theorem Qdc {op : CmpOp} {r : R2} {f : W → W → MH → Option (W × MH)} (ho : OpR X (compareOp op) r) (hf : OpM X.K r f) (ha : PM X a ma) (hb : PM X b mb) (hm : behindInMarks op b = false := by rfl) : PM X (.Compare a [op] [b] pos) (Ql f ma mb) :=
 ZD (Qev ho ha hb hm) fun _ _ _ q => VJ (QgN q) fun _ _ q1 => VJ q1 fun _ _ q2 => hf _ _ _ _ q2
noncomputable def Qy (m : ME) : MT := fun σ h => (m σ h).bind fun p => match p.1 with | .bl b => some (b, p.2) | _ => none
theorem QcF {K : PySem.W.Frag} {m : ME} {σ : L2.St} {H : Hp} {Q : Bool → Hp → Prop} (q : tIT K (Qy m) σ H Q) : tI K m σ H fun x H' => ∃ k, x = .bl k ∧ Q k H' := by
 obtain ⟨R, σi, h, b, h', rh, st, e, k⟩ := q
 obtain ⟨⟨w, h1⟩, ew, e2⟩ := Option.bind_eq_some_iff.mp e
 cases w <;> simp only at e2 <;> first | (cases e2; exact ⟨R, σi, h, _, _, rh, st, ew, fun R' H' v x rh' rv => ⟨_, rv.bl_eq, k R' H' x rh'⟩⟩) | (cases e2)
theorem Qr {op : CmpOp} {r : R2} {f : W → W → MH → Option (W × MH)} (ho : OpR X (compareOp op) r) (hf : OpM X.K r f) (ha : PM X a ma) (hb : PM X b mb) (hm : behindInMarks op b = false := by rfl) : PMT X (.Compare a [op] [b] pos) (Qy (Ql f ma mb)) :=
 QbJ (QdR ho ha hb hm) fun _ _ _ q => VJ (QgN (QcF q)) fun _ _ q1 => VJ q1 fun _ _ q2 => hf _ _ _ _ q2
noncomputable def J1 (ma mb : MT) : MT := fun σ h => (ma σ h).bind fun p => match p.1 with | true => mb σ p.2 | false => some (false, p.2)
noncomputable def Uw (ma mb : MT) : MT := fun σ h => (ma σ h).bind fun p => match p.1 with | true => some (true, p.2) | false => mb σ p.2
noncomputable def GJ (ma : MT) : MT := fun σ h => (ma σ h).bind fun p => some (!p.1, p.2)
noncomputable def mIf (t : MT) (ma mb : ME) : ME := fun σ h => (t σ h).bind fun p => match p.1 with | true => ma σ p.2 | false => mb σ p.2
variable {rest : List Expr} {ta tb : MT}
noncomputable def PMW (X : Cx) (e : Expr) (m : MT) : Prop := PW X e (tIT X.K m)
theorem PMW.pt {e : Expr} {m : MT} (h : PMW X e m) : PMT X e m := PW.pt h
theorem Qdw {K : PySem.W.Frag} {σ : L2.St} {H : Hp} {Q : Bool → Hp → Prop} (q : tIT K (J1 ta tb) σ H Q) : QiF (tIT K ta) (tIT K tb) σ H Q := by
 obtain ⟨R, σi, h, w, h', rh, st, e, k⟩ := q
 obtain ⟨⟨a, h1⟩, ea, e2⟩ := Option.bind_eq_some_iff.mp e
 refine ⟨R, σi, h, a, h1, rh, st, ea, fun R1 H1 x1 rh1 => ?_⟩
 cases a with
 | true => exact Qe2 ⟨R1, σi, h1, w, h', rh1, st.mono x1, e2, fun R2 H2 x2 => k R2 H2 (x1.trans x2)⟩
 | false => cases e2; exact QeZ (k R1 H1 x1 rh1)
theorem QfP {K : PySem.W.Frag} {σ : L2.St} {H : Hp} {Q : Bool → Hp → Prop} (q : tIT K (Uw ta tb) σ H Q) : tOr (tIT K ta) (tIT K tb) σ H Q := by
 obtain ⟨R, σi, h, w, h', rh, st, e, k⟩ := q
 obtain ⟨⟨a, h1⟩, ea, e2⟩ := Option.bind_eq_some_iff.mp e
 refine ⟨R, σi, h, a, h1, rh, st, ea, fun R1 H1 x1 rh1 => ?_⟩
 cases a with
 | true => cases e2; exact Qe2 (k R1 H1 x1 rh1)
 | false => exact QeZ ⟨R1, σi, h1, w, h', rh1, st.mono x1, e2, fun R2 H2 x2 => k R2 H2 (x1.trans x2)⟩
theorem JR (ha : PMT X a ta) : PMW X (.BoolOp .And [a] pos) ta := QeN ha
theorem VT (ha : PMT X a ta) : PMW X (.BoolOp .Or [a] pos) ta := Qf2 ha
theorem Ve (ha : PMT X a ta) (hb : PMW X (.BoolOp .And (b :: rest) pos) tb) : PMW X (.BoolOp .And (a :: b :: rest) pos) (J1 ta tb) := Qdt (Qfr ha hb) fun _ _ _ => Qdw
theorem Xv (ha : PMT X a ta) (hb : PMW X (.BoolOp .Or (b :: rest) pos) tb) : PMW X (.BoolOp .Or (a :: b :: rest) pos) (Uw ta tb) := Qdt (Qhi ha hb) fun _ _ _ => QfP
theorem Uc (ha : PMT X a ta) : PMT X (.UnaryOp .Not a pos) (GJ ta) := QbJ (QfM ha) <| by
 rintro σ H Q ⟨R, σi, h, w, h', rh, st, e, k⟩
 obtain ⟨⟨a, h1⟩, ea, e2⟩ := Option.bind_eq_some_iff.mp e
 cases e2
 exact ⟨R, σi, h, a, h1, rh, st, ea, fun R1 H1 x1 rh1 => k R1 H1 x1 rh1⟩
theorem Qh5 (ht : PMT X c ta) (ha : PM X a ma) (hb : PM X b mb) : PM X (.IfExp c a b pos) (mIf ta ma mb) := ZD (Qcy ht ha hb) <| by
 rintro σ H Q ⟨R, σi, h, w, h', rh, st, e, k⟩
 obtain ⟨⟨t, h1⟩, ea, e2⟩ := Option.bind_eq_some_iff.mp e
 refine ⟨R, σi, h, t, h1, rh, st, ea, fun R1 H1 x1 rh1 => ?_⟩
 cases t with
 | true => exact Qe2 ⟨R1, σi, h1, w, h', rh1, st.mono x1, e2, k.ext x1⟩
 | false => exact QeZ ⟨R1, σi, h1, w, h', rh1, st.mono x1, e2, k.ext x1⟩
noncomputable def Qdq (h : MH) : W → Option Bool
 | .non => some false
 | .bl b => some b
 | .int i => some (i != 0)
 | .str x => if x.length ≤ sizeLine then some ((x.length : Int) != 0) else none
 | .tup ws => some (!ws.isEmpty)
 | .lst ws => some (!ws.isEmpty)
 | .frz ws => some (!ws.isEmpty)
 | .ref n => match h[n]? with | some (.lst ws) => some (!ws.isEmpty) | some (.dic kvs) => some (!kvs.isEmpty) | _ => none
 | .ty _ => none
noncomputable def QcL (m : ME) : MT := fun σ h => (m σ h).bind fun p => (Qdq p.2 p.1).map fun b => (b, p.2)
theorem Rws.isEmpty {K : PySem.W.Frag} {R : Rn} {ws : List W} {vs : List V} (r : Rws K R ws vs) : ws.isEmpty = vs.isEmpty := by
 have := r.length
 cases ws <;> cases vs <;> simp at this ⊢
theorem Qft {K : PySem.W.Frag} {R : Rn} {h : MH} {H : Hp} {w : W} {v : V} {b : Bool} (rh : Rh K R h H) (r : Rw K R w v) (e : Qdq h w = some b) : QhL K v H b := by
 cases w with
 | non => rw [r.non_eq]; cases e; rfl
 | bl b => rw [r.bl_eq]; cases e; rfl
 | int i => rw [r.int_eq]; cases e; rfl
 | str x =>
  rw [r.str_eq]
  simp only [Qdq] at e
  split at e
  ·rename_i hl; cases e; exact ⟨hl, rfl⟩
  ·cases e
 | tup ws =>
  obtain ⟨a, xs, rfl, h1, h2⟩ := rh.tupAt r
  cases e
  exact .inr (.inl ⟨xs, h1, by rw [h2.isEmpty]⟩)
 | lst ws =>
  obtain ⟨a, xs, rfl, h1, h2⟩ := rh.lstAt r
  cases e
  exact .inl ⟨xs, SqL.of h1, by rw [h2.isEmpty]⟩
 | frz ws =>
  obtain ⟨a, xs, rfl, h1, h2⟩ := rh.frzAt r
  cases e
  exact .inl ⟨xs, h1, by rw [h2.isEmpty]⟩
 | ref n =>
  simp only [Qdq] at e
  split at e
  ·rename_i ws hn
   cases e
   obtain ⟨_, rfl, xs, h1, h2⟩ := rh.refAt r hn
   exact .inl ⟨xs, SqL.of h1, by rw [h2.isEmpty]⟩
  ·rename_i kvs hn
   cases e
   unfold Rw at r
   obtain ⟨kx, h1, h2⟩ := rh.obj n _ hn
   rw [r.2]
   refine .inr (.inr ⟨kx, h1, ?_⟩)
   have := Paired.length h2
   cases kvs <;> cases kx <;> simp at this ⊢
  ·cases e
 | ty _ => cases e
theorem XN (ha : PM X a ma) (he : ∀ whole, isTrue a X.env whole = (do let v ← whole; standAt a.pos; holding [v] (truthy v)) := by intro _; rfl) : PMT X a (QcL ma) :=
 QbJ (QcE ha he) fun σ H Q ⟨R, σi, h, w, h', rh, st, e, k⟩ => by
  obtain ⟨⟨a, h1⟩, ea, e2⟩ := Option.bind_eq_some_iff.mp e
  obtain ⟨b, eb, e3⟩ := Option.map_eq_some_iff.mp e2
  cases e3
  exact ⟨R, σi, h, a, _, rh, st, ea, fun R1 H1 x x1 rh1 rx => ⟨_, Qft rh1 rx eb, k R1 H1 x1 rh1⟩⟩
end
end Mi

namespace Mi
open PySem PySem.Spec PyProof.Rows L2

noncomputable def Wp : Expr → Bool
 | .ListComp .. => true
 | .SetComp .. => true
 | .DictComp .. => true
 | _ => false
theorem Kc {e : Expr} {t : Option Expr} {l : Nat} {env : Env} (h : Wp e = false) : swapsWith e t l env = pure false := by
 cases e <;> first | rfl | cases h
noncomputable def Ze : SM := fun σ h => some (.nx σ h)
noncomputable def QI (a b : SM) : SM := fun σ h => (a σ h).bind fun r => match r with | .nx σ' h' => b σ' h' | r => some r
noncomputable def Z9 (m : ME) : SM := fun σ h => (m σ h).map fun p => .rt p.1 p.2
noncomputable def JL (t : MT) (a b : SM) : SM := fun σ h => (t σ h).bind fun p => match p.1 with | true => a σ p.2 | false => b σ p.2
noncomputable def ZL (m : ME) : SM := fun σ h => (m σ h).map fun p => .nx σ p.2
noncomputable def Zo (i : Nat) (m : ME) : SM := fun σ h => (m σ h).map fun p => .nx (σ.set i (some p.1)) p.2
noncomputable def QeV (i : Nat) (f : W → W → MH → Option (W × MH)) (m : ME) : SM := fun σ h => match σ[i]? with
 | some (some x) => (m σ h).bind fun p => (f x p.1 p.2).map fun q => .nx (σ.set i (some q.1)) q.2
 | _ => none
section
variable {X : Cx} {st : Stmt} {rest : List Stmt} {a b : SM} {e : Expr} {m : ME} {pos : Pos}
theorem QE : QbL X [] Ze := QbA Qez <| by
 rintro D σ H ⟨R, σi, h, r, rh, s, e, k⟩
 cases e
 exact k R H σ (Ext.refl _) rh s
theorem Qgu {K : PySem.W.Frag} {D : L2.Ends} {σ : L2.St} {H : Hp} (q : tS K (QI a b) D σ H) : Qig (tS K a) (tS K b) D σ H := by
 obtain ⟨R, σi, h, r, rh, s, e, k⟩ := q
 obtain ⟨r1, e1, e2⟩ := Option.bind_eq_some_iff.mp e
 refine ⟨R, σi, h, r1, rh, s, e1, ?_⟩
 cases r1 with
 | nx σ1 h1 => exact fun R1 H1 σ' x1 rh1 s1 => ⟨R1, σ1, h1, r, rh1, s1, e2, Ends.ext k x1⟩
 | rt w h1 => cases e2; exact k
 | bk σ1 h1 => cases e2; exact k
 | ct σ1 h1 => cases e2; exact k
theorem Qf (h1 : PMS X st a) (h2 : QbL X rest b) : QbL X (st :: rest) (QI a b) := QbA (QcK h1 h2) fun _ _ _ => Qgu
theorem Qk (h1 : PMS X st a) : QbL X [st] a := Qek h1
theorem QG (he : PM X e m) (hs : Wp e = false := by rfl) : PMS X (.Expr e pos) (ZL m) := VN (QdF he (Kc hs)) <| by
 rintro D σ H ⟨R, σi, h, r, rh, s, e, k⟩
 obtain ⟨⟨w, h1⟩, e1, e2⟩ := Option.map_eq_some_iff.mp e
 cases e2
 exact ⟨R, σi, h, w, h1, rh, s, e1, fun R1 H1 v x1 rh1 _ => k R1 H1 σ x1 rh1 (s.mono x1)⟩
theorem Qt (he : PM X e m) : PMS X (.Return (some e) pos) (Z9 m) := VN (Qfz he) <| by
 rintro D σ H ⟨R, σi, h, r, rh, s, e, k⟩
 obtain ⟨⟨w, h1⟩, e1, e2⟩ := Option.map_eq_some_iff.mp e
 cases e2
 exact ⟨R, σi, h, w, h1, rh, s, e1, k⟩
theorem QJ {c : Expr} {sa sb : List Stmt} {t : MT} (hc : PMT X c t) (ha : QbL X sa a) (hb : QbL X sb b) : PMS X (.If c sa sb pos) (JL t a b) := VN (QgR hc ha hb) <| by
 rintro D σ H ⟨R, σi, h, r, rh, s, e, k⟩
 obtain ⟨⟨z, h1⟩, e1, e2⟩ := Option.bind_eq_some_iff.mp e
 refine ⟨R, σi, h, z, h1, rh, s, e1, fun R1 H1 x1 rh1 => ?_⟩
 cases z with
 | true => exact Qe2 ⟨R1, σi, h1, r, rh1, s.mono x1, e2, Ends.ext k x1⟩
 | false => exact QeZ ⟨R1, σi, h1, r, rh1, s.mono x1, e2, Ends.ext k x1⟩
theorem Qo {i : Nat} {x : Str} {pos' : Pos} (hN : X.N.Nodup) (hi : X.N[i]? = some x) (hx : Loc X.env.scope x) (he : PM X e m) (hs : Wp e = false := by rfl) (hf : X.fn x = true ∨ X.env.scope.names.lookup x = some .local := by first | exact .inl rfl | exact .inr rfl | assumption) :
  PMS X (.Assign [.Name x pos'] e pos) (Zo i m) := VN (Qgh hN hi hx he (Kc hs) hf) <| by
 rintro D σ H ⟨R, σi, h, r, rh, s, e, k⟩
 obtain ⟨⟨w, h1⟩, e1, e2⟩ := Option.map_eq_some_iff.mp e
 cases e2
 exact ⟨R, σi, h, w, h1, rh, s, e1, fun R1 H1 v x1 rh1 rv => k R1 H1 _ x1 rh1 ((s.mono x1).set rv)⟩
theorem Qfd {op : Operator} {r : R2} (ho : OpR X (inplaceOp op) r) : PIp X op r := ho
theorem QaA {i : Nat} {x : Str} {op : Operator} {r : R2} {f : W → W → MH → Option (W × MH)} {pos' : Pos} (hN : X.N.Nodup) (hi : X.N[i]? = some x) (hx : Loc X.env.scope x) (ho : OpR X (inplaceOp op) r) (hf : OpM X.K r f) (he : PM X e m)
  (hfn : X.fn x = true ∨ X.env.scope.names.lookup x = some .local := by first | exact .inl rfl | exact .inr rfl | assumption) : PMS X (.AugAssign (.Name x pos') op e pos) (QeV i f m) :=
 VN (Qfy hN hi hx he (Qfd ho) hfn) fun D σ H ⟨R, σi, h, r, rh, s, e, k⟩ => by
  unfold QeV at e
  split at e
  ·rename_i w0 hw0
   obtain ⟨⟨w, h1⟩, e1, e2⟩ := Option.bind_eq_some_iff.mp e
   obtain ⟨⟨z, h2⟩, e3, e4⟩ := Option.map_eq_some_iff.mp e2
   cases e4
   obtain ⟨v0, hv0, rv0⟩ := s.2 i _ hw0
   refine ⟨v0, hv0, R, σi, h, w, h1, rh, s, e1, fun R1 H1 v x1 rh1 rv => ?_⟩
   exact hf _ _ _ _ ⟨R1, h1, w0, w, z, h2, rh1, Rw.mono x1 _ _ rv0, rv, e3, fun R2 H2 y x2 rh2 ry => k R2 H2 _ (x1.trans x2) rh2 ((s.mono (x1.trans x2)).set ry)⟩
  ·cases e
end

noncomputable def Qen (r : Option MF) : Option (W × MH) := match r with | some (.rt w h) => some (w, h) | some (.nx _ h) => some (.non, h) | _ => none
noncomputable def Zd (more : Nat) (m : SM) : FM := fun ws h => Qen (m (ws.map some ++ List.replicate more none) h)
theorem Rst.start {K : PySem.W.Frag} {R : Rn} {ws : List W} {vs : List V} {N : List Str} (r : Rws K R ws vs) (k : Nat) (hk : N.length = ws.length + k) : Rst K R (ws.map some ++ List.replicate k none) (start N vs) := by
 have hl := r.length
 unfold L2.start
 refine ⟨by simp [hk, hl], fun i w e => ?_⟩
 by_cases hi : i < ws.length
 ·rw [List.getElem?_append_left (by simpa using hi)] at e
  rw [List.getElem?_append_left (by simpa [← hl] using hi)]
  rw [List.getElem?_map] at e ⊢
  obtain ⟨w', hw', e'⟩ := Option.map_eq_some_iff.mp e
  cases e'
  obtain ⟨v, h1, h2⟩ := r.get hw'
  exact ⟨v, by rw [h1]; rfl, h2⟩
 ·rw [List.getElem?_append_right (by simpa using hi)] at e
  rw [List.getElem?_replicate] at e
  split at e <;> cases e
section
variable {P : Program} {w : World} {K : PySem.W.Frag} {mg : Str → Option Value} {base : Heap}
theorem Qg9 {x qual : Str} {st : Stmt} {f : Addr} {fd : FuncData} {N ps : List Str} {k more : Nat} {m : SM} (F : Fun K x qual st f fd) (S : FnScope N ps (Qs st)) (hN : N.length = ps.length + more)
  (hbody : ∀ (cdv : Value) (A : Around) (outer : List Env) (s : Shared) (H : Hp) (E : XK), Room k (A.deeper (envOfC qual (Qs st) s.heap.objs.size f cdv)) → QbL (QcW CX0 P w K mg base N qual (Qs st) f cdv A outer s H E).nox (Vg st) m) :
  FnOk P w K mg base CX0 (k + 1) f fd ps (spM K ps.length (Zd more m)) := by
 refine F.ok S (fun vs H Q E q => ?_) (fun cdv A outer s H vs Q E hr q => ?_)
 ·obtain ⟨R, ws, h, w, h', hl, rh, rws, _⟩ := q
  rw [← rws.length]; exact hl
 ·refine ⟨_, hbody cdv A outer s H E hr, ?_⟩
  obtain ⟨R, ws, h, w, h', hl, rh, rws, e, kk⟩ := q
  have st := Rst.start (N := N) rws more (by rw [hN, hl])
  unfold Zd Qen at e
  split at e
  ·rename_i w' h1 e1
   cases e
   exact ⟨R, _, h, _, rh, st, e1, kk⟩
  ·rename_i σ1 h1 e1
   cases e
   exact ⟨R, _, h, _, rh, st, e1, fun R1 H1 σ' x1 rh1 _ => kk R1 H1 .non x1 rh1 Rw.non⟩
  ·cases e
end
section
variable {X : Cx} {CX : CXT} {k : Nat} {f : Addr} {fd : FuncData} {ps : List Str} {g : FM} {E : XK} {x : Str} {p pos : Pos} {e : Expr} {es : List Expr} {ms : MA}
noncomputable def Qv (n : Nat) (g : FM) (ms : MA) : ME := mFn (fun ws h => if ws.length = n then g ws h else none) ms
theorem Qby {K : PySem.W.Frag} {n : Nat} {σ : L2.St} {H : Hp} {Q : VK} (q : tI K (Qv n g ms) σ H Q) : QdZ (spM K n g) [] E (tIA K ms) σ H Q := by
 refine Yq (Gk q) fun vs H1 ⟨R, h, ws, w, h', rh, rws, e, k⟩ => ?_
 dsimp only at e
 split at e
 ·rename_i hl
  exact ⟨R, ws, h, w, h', hl, rh, by rw [List.append_nil]; exact rws, e, k⟩
 ·cases e
theorem Qei (F : FnOk X.prog X.w X.K X.mg X.base CX k f fd ps (spM X.K ps.length g)) (hr : Room k X.A) (hg : Gl X x) (hm : X.mg x = some (.ref f)) (hk : PySem.W.keepIn X.K (.ref f) = true) (hb : Binds X.K fd ps []) (hx : Yl CX X E)
  (ha : PMA X (e :: es) ms) (hdb : (x == ("__debug__" : Str)) = false := by decide) (he : Xe e = false := by rfl) (hpl : Xc es = true := by rfl) :
  PM X (.Call (.Name x p) (e :: es) [] pos) (Qv ps.length g ms) := ZD (QdS F hr hg hm hk hb .nil hx ha hdb (Vn he) (Xw hpl)) fun _ _ _ => Qby
theorem Qb3 (F : FnOk X.prog X.w X.K X.mg X.base CX k f fd ps (spM X.K ps.length g)) (hr : Room k X.A) (hg : Gl X x) (hm : X.mg x = some (.ref f)) (hk : PySem.W.keepIn X.K (.ref f) = true) (hb : Binds X.K fd ps []) (hx : Yl CX X E)
  (hdb : (x == ("__debug__" : Str)) = false := by decide) : PM X (.Call (.Name x p) [] [] pos) (Qv ps.length g Qm) := ZD (Qb1 F hr hg hm hk hb .nil hx hdb) fun σ H Q q => by
 obtain ⟨R, σi, h, ws, h', rh, st, e, k⟩ := Qby (E := E) q
 cases e
 exact k R H [] (Ext.refl _) rh Rws.nil
end
section
variable {X : Cx} {x : Str} {p pos : Pos} {e : Expr} {es : List Expr} {ms : MA} {id T : String} {r : List V → Hp → VK → Prop} {f : List W → MH → Option (W × MH)}
theorem Qz (hc : CallR X (.builtin id) r) (hf : QeO X.K r f) (hg : Gl X x) (hm : X.mg x = none) (hv : bootBuiltins x = some (.builtin id)) (ha : PMA X (e :: es) ms) (hn : x ≠ "__name__" := by decide) (hdb : (x == ("__debug__" : Str)) = false := by decide)
  (he : Xe e = false := by rfl) (hpl : Xc es = true := by rfl) : PM X (.Call (.Name x p) (e :: es) [] pos) (mFn f ms) :=
 ZD (Qcl hc hg hm hv ha hn hdb (Vn he) (Xw hpl)) fun _ _ _ q => Yq (Gk q) fun _ _ q1 => hf _ _ _ q1
theorem ZC (hc : CallR X (.type T) r) (hf : QeO X.K r f) (hg : Gl X x) (hm : X.mg x = none) (hv : bootBuiltins x = some (.type T)) (ha : PMA X (e :: es) ms) (hn : x ≠ "__name__" := by decide) (hdb : (x == ("__debug__" : Str)) = false := by decide)
  (he : Xe e = false := by rfl) (hpl : Xc es = true := by rfl) : PM X (.Call (.Name x p) (e :: es) [] pos) (mFn f ms) :=
 ZD (G8 hc hg hm hv ha hn hdb (Vn he) (Xw hpl)) fun _ _ _ q => Yq (Gk q) fun _ _ q1 => hf _ _ _ q1
end
noncomputable def Qc6 (src : Option Nat) (items : List W) (h : MH) : Prop := ∀ n, src = some n → h[n]? = some (.lst items)
noncomputable abbrev MI := MSt → MH → Option (List W × Option Nat × MH)
structure ItOk (K : PySem.W.Frag) (R : Rn) (J : It) (items : List W) (src : Option Nat) : Prop where
 go : ∀ i w R' h H, Ext R R' → Rh K R' h H → Qc6 src items h → items[i]? = some w → J.go i H
 yld : ∀ i w R' h H x H', Ext R R' → Rh K R' h H → Qc6 src items h → items[i]? = some w → J.yld i H x H' → ∃ R'', Ext R' R'' ∧ Rh K R'' h H' ∧ Rw K R'' w x
 stop : ∀ i R' h H, Ext R R' → Rh K R' h H → Qc6 src items h → items.length ≤ i → J.stop i H
noncomputable def tII (K : PySem.W.Frag) (m : MI) : TI := fun σ H C => ∃ R σi h items src h', Rh K R h H ∧ Rst K R σi σ ∧ m σi h = some (items, src, h') ∧ ∀ R' H' J, Ext R R' → Rh K R' h' H' → ItOk K R' J items src → C J H'
noncomputable def PMI (X : Cx) (tg iter : Expr) (m : MI) : Prop := PI X tg iter (tII X.K m)
theorem Qa8 {X : Cx} {tg iter : Expr} {t t' : TI} (h : PI X tg iter t) (i : ∀ σ H C, t' σ H C → t σ H C) : PI X tg iter t' := fun pins s σ H C I q => h pins s σ H C I (i _ _ _ q)
noncomputable abbrev MG := W → MSt → MH → Option MSt
noncomputable def tIG (K : PySem.W.Frag) (b : MG) : TG := fun v σ H C => ∃ R σi h w σ1, Rh K R h H ∧ Rst K R σi σ ∧ Rw K R w v ∧ b w σi h = some σ1 ∧ ∀ R' H' σ', Ext R R' → Rh K R' h H' → Rst K R' σ1 σ' → C σ' H'
noncomputable def PMG (X : Cx) (tg : Expr) (b : MG) : Prop := PG X tg (tIG X.K b)
theorem QcX {X : Cx} {tg : Expr} {t t' : TG} (h : PG X tg t) (i : ∀ v σ H C, t' v σ H C → t v σ H C) : PG X tg t' := fun pins s σ H v u C I r q => h pins s σ H v u C I r (i _ _ _ _ q)
noncomputable def J2 (i : Nat) : MG := fun w σ _ => some (σ.set i (some w))
theorem QZ {X : Cx} {i : Nat} {x : Str} {pos : Pos} (hN : X.N.Nodup) (hi : X.N[i]? = some x) (hx : Loc X.env.scope x) (hf : X.fn x = true ∨ X.env.scope.names.lookup x = some .local := by first | exact .inl rfl | exact .inr rfl | assumption) :
  PMG X (.Name x pos) (J2 i) := QcX (Qa2 hN hi hx hf) <| by
 rintro v σ H C ⟨R, σi, h, w, σ1, rh, st, rw, e, k⟩
 cases e
 exact k R H _ (Ext.refl _) rh (st.set rw)
open Classical in
noncomputable def Vk (items : List W) (src : Option Nat) (b : MG) (body : SM) : List W → SM
 | [], σ, h => if Qc6 src items h then some (.nx σ h) else none
 | w :: r, σ, h => if Qc6 src items h then (b w σ h).bind fun σ1 => (body σ1 h).bind fun z => match z with
   | .nx σ2 h2 => Vk items src b body r σ2 h2
   | .ct σ2 h2 => Vk items src b body r σ2 h2
   | .bk σ2 h2 => some (.nx σ2 h2)
   | .rt v h2 => some (.rt v h2)
  else none
noncomputable def XG (mi : MI) (b : MG) (body : SM) : SM := fun σ h => (mi σ h).bind fun p => Vk p.1 p.2.1 b body p.1 σ p.2.2
section
variable {X : Cx} {tg iter : Expr} {body : List Stmt} {mi : MI} {b : MG} {m : SM} {pos : Pos}
theorem QfQ {K : PySem.W.Frag} {D : L2.Ends} {σ : L2.St} {H : Hp} (q : tS K (XG mi b m) D σ H) : QiZ (tII K mi) (tIG K b) (tS K m) D σ H := by
 obtain ⟨R, σi, h, r, rh, s, e, k⟩ := q
 obtain ⟨⟨items, src, h1⟩, e1, e2⟩ := Option.bind_eq_some_iff.mp e
 refine ⟨R, σi, h, items, src, h1, rh, s, e1, fun R1 H1 J x1 rh1 it => ?_⟩
 refine ⟨fun i n σ H => i + n = items.length ∧ ∃ R2 σ2 h2, Ext R1 R2 ∧ Rh K R2 h2 H ∧ Rst K R2 σ2 σ ∧ ∃ r, Vk items src b m (items.drop i) σ2 h2 = some r ∧ Ends K R2 D r, ⟨items.length, by simp, R1, σi, h1, Ext.refl _, rh1, s.mono x1, r, by simpa using e2, Ends.ext k x1⟩, ?_⟩
 rintro i n σ2' H2 ⟨hin, R2, σ2, h2, x2, rh2, s2, r2, e3, k2⟩
 by_cases hi : i < items.length
 ·obtain ⟨w, hw⟩ : ∃ w, items[i]? = some w := ⟨items[i], List.getElem?_eq_getElem hi⟩
  have hd : items.drop i = w :: items.drop (i + 1) := by
   rw [List.drop_eq_getElem_cons hi]
   rw [List.getElem?_eq_getElem hi] at hw
   cases hw; rfl
  rw [hd] at e3
  unfold Vk at e3
  split at e3
  ·rename_i hl
   obtain ⟨σ3, e4, e5⟩ := Option.bind_eq_some_iff.mp e3
   obtain ⟨z, e6, e7⟩ := Option.bind_eq_some_iff.mp e5
   refine .inr ⟨it.go i w R2 h2 H2 x2 rh2 hl hw, fun σ' H' => ∃ R3 σ4 h4, Ext R1 R3 ∧ Rh K R3 h4 H' ∧ Rst K R3 σ4 σ' ∧ ∃ r, Vk items src b m (items.drop (i + 1)) σ4 h4 = some r ∧ Ends K R3 D r, fun σ' H' hn => ⟨n - 1, by omega, by omega, hn⟩, fun x H' hy => ?_⟩
   obtain ⟨R3, x3, rh3, rw3⟩ := it.yld i w R2 h2 H2 x H' x2 rh2 hl hw hy
   refine ⟨R3, σ2, h2, w, σ3, rh3, s2.mono x3, rw3, e4, fun R4 H4 σ4' x4 rh4 s4 => ?_⟩
   refine ⟨R4, σ3, h2, z, rh4, s4, e6, ?_⟩
   cases z with
   | nx σ5 h5 => exact fun R5 H5 σ5' x5 rh5 s5 => ⟨R5, σ5, h5, x2.trans (x3.trans (x4.trans x5)), rh5, s5, r2, e7, Ends.ext k2 (x3.trans (x4.trans x5))⟩
   | ct σ5 h5 => exact fun R5 H5 σ5' x5 rh5 s5 => ⟨R5, σ5, h5, x2.trans (x3.trans (x4.trans x5)), rh5, s5, r2, e7, Ends.ext k2 (x3.trans (x4.trans x5))⟩
   | bk σ5 h5 => cases e7; exact fun R5 H5 σ5' x5 rh5 s5 => k2 R5 H5 σ5' (x3.trans (x4.trans x5)) rh5 s5
   | rt v h5 => cases e7; exact After.ext k2 (x3.trans x4)
  ·cases e3
 ·have hd : items.drop i = [] := List.drop_eq_nil_of_le (by omega)
  rw [hd] at e3
  unfold Vk at e3
  split at e3
  ·rename_i hl
   cases e3
   exact .inl ⟨it.stop i R2 h2 H2 x2 rh2 hl (by omega), k2 R2 H2 σ2' (Ext.refl _) rh2 s2⟩
  ·cases e3
theorem JP (hp : PassesOwn (model X.prog X.w) X.A X.env X.xe) (hc : X.calm = true) (hi : PMI X tg iter mi) (hg : PMG X tg b) (hb : QbL X body m)
  (hs : ∀ x, foldedSetIterable iter X.env x = pure x := by intro _; rfl) : PMS X (.For tg iter body [] pos) (XG mi b m) := VN (QfW hp hc hi hg hb hs) fun _ _ _ => QfQ
end
noncomputable def QX (t : MT) (body : SM) : Nat → SM
 | 0, _, _ => none
 | n + 1, σ, h => (t σ h).bind fun p => match p.1 with
  | false => some (.nx σ p.2)
  | true => (body σ p.2).bind fun z => match z with
   | .nx σ2 h2 => QX t body n σ2 h2
   | .ct σ2 h2 => QX t body n σ2 h2
   | .bk σ2 h2 => some (.nx σ2 h2)
   | .rt v h2 => some (.rt v h2)
section
variable {X : Cx} {c : Expr} {body : List Stmt} {t : MT} {m : SM} {pos : Pos}
theorem QcS {K : PySem.W.Frag} {n : Nat} {D : L2.Ends} {σ : L2.St} {H : Hp} (q : tS K (QX t m n) D σ H) : Qds (tIT K t) (tS K m) D σ H := by
 obtain ⟨R, σi, h, r, rh, s, e, k⟩ := q
 refine ⟨fun n σ H => ∃ R2 σ2 h2, Rh K R2 h2 H ∧ Rst K R2 σ2 σ ∧ ∃ r, QX t m n σ2 h2 = some r ∧ Ends K R2 D r, ⟨n, R, σi, h, rh, s, r, e, k⟩, ?_⟩
 rintro n σ2' H2 ⟨R2, σ2, h2, rh2, s2, r2, e2, k2⟩
 cases n with
 | zero => cases e2
 | succ n =>
  unfold QX at e2
  obtain ⟨⟨z, h3⟩, e3, e4⟩ := Option.bind_eq_some_iff.mp e2
  refine ⟨R2, σ2, h2, z, h3, rh2, s2, e3, fun R3 H3 x3 rh3 => ?_⟩
  cases z with
  | false =>
   cases e4
   exact QeZ (k2 R3 H3 σ2' x3 rh3 (s2.mono x3))
  | true =>
   obtain ⟨y, e5, e6⟩ := Option.bind_eq_some_iff.mp e4
   refine Qe2 ⟨fun σ' H' => ∃ R4 σ4 h4, Rh K R4 h4 H' ∧ Rst K R4 σ4 σ' ∧ ∃ r, QX t m n σ4 h4 = some r ∧ Ends K R4 D r, fun σ' H' hn => ⟨n, Nat.lt_succ_self _, hn⟩, ?_⟩
   refine ⟨R3, σ2, h3, y, rh3, s2.mono x3, e5, ?_⟩
   cases y with
   | nx σ5 h5 => exact fun R5 H5 σ5' x5 rh5 s5 => ⟨R5, σ5, h5, rh5, s5, r2, e6, Ends.ext k2 (x3.trans x5)⟩
   | ct σ5 h5 => exact fun R5 H5 σ5' x5 rh5 s5 => ⟨R5, σ5, h5, rh5, s5, r2, e6, Ends.ext k2 (x3.trans x5)⟩
   | bk σ5 h5 => cases e6; exact fun R5 H5 σ5' x5 rh5 s5 => k2 R5 H5 σ5' (x3.trans x5) rh5 s5
   | rt v h5 => cases e6; exact After.ext k2 x3
theorem Xq (n : Nat) (hp : PassesOwn (model X.prog X.w) X.A X.env X.xe) (hc : PMT X c t) (hb : QbL X body m) : PMS X (.While c body [] pos) (QX t m n) := VN (QbR hp hc hb) fun _ _ _ => QcS
end
end Mi

namespace Mi
open PySem PySem.Spec PyProof.Rows L2

section
variable {prog : Program} {w : World} {A : Around} {E : Value → Shared → Prop} {R : Result → Shared → Prop} {s : Shared}
theorem Ug {elt target iter : Expr} {ifs : List Expr} {scope : Scope} {pos : Pos} {it acc : Value} {env : Env} (I : Nat → Shared → Prop)
  (turn : ∀ n s, I n s → wpAny (model prog w) A (pyNext it) (fun r s₁ => match r with
   | none => R (.ok .next) s₁
   | some v => wpAny (model prog w) A (letOwnedTupleGo target it v) (fun _ s₁' => wpAny (model prog w) A (assign target env v) (fun _ s₂ =>
     wpAny (model prog w) A (forIn ifs true fun c r => if r = true then do let ok ← isTrue c env (eval c env); pure (ForInStep.yield ok) else pure (ForInStep.yield r)) (fun ok s₃ =>
      if ok = true then wpAny (model prog w) A (eval elt env) (fun x s₄ =>
       wpAny (model prog w) A (call (.builtin "list.append") [acc, x]) (fun _ s₅ => ∃ m, m < n ∧ I m s₅) (fun _ _ => False) s₄) (fun _ _ => False) s₃
      else ∃ m, m < n ∧ I m s₃) (fun _ _ => False) s₂) (fun _ _ => False) s₁') (fun _ _ => False) s₁) (fun _ _ => False) s)
  (n : Nat) (h : I n s) :
  codeAny (model prog w) A (.compLoop (.ListComp elt [⟨target, iter, ifs, 0⟩] scope pos) 0 it acc env) R s := by
 refine codeAny_loop rfl I (fun n s hI => ?_) n h
 show wpAny _ A ((compTurn (.ListComp elt [⟨target, iter, ifs, 0⟩] scope pos) 0 it acc env).onRaise (fun x => do noteFrame x env; theTreesLotGoes x)) _ _ s
 refine wpAny_noted ?_
 rw [compTurn_list]
 refine wpAny_bind (wpAny_standAt (wpAny_bind (wpAny_mono (turn n s hI) (fun r s₁ h₁ => ?_) fun _ _ h' => h'.elim)))
 cases r with
 | none => exact wpAny_pure h₁
 | some v =>
  refine wpAny_bind (wpAny_mono h₁ (fun _ s₁' h₁' => ?_) fun _ _ h' => h'.elim)
  refine wpAny_bind (wpAny_mono h₁' (fun _ s₂ h₂ => wpAny_bind (wpAny_mono h₂ (fun ok s₃ h₃ => ?_) fun _ _ h' => h'.elim)) fun _ _ h' => h'.elim)
  cases ok with
  | false => exact wpAny_pure ⟨rfl, h₃⟩
  | true =>
   exact wpAny_bind (wpAny_bind (wpAny_mono h₃ (fun x s₄ h₄ => wpAny_bind (wpAny_mono h₄ (fun _ s₅ h₅ => wpAny_pure (wpAny_pure ⟨rfl, h₅⟩)) fun _ _ h' => h'.elim)) fun _ _ h' => h'.elim))
end

theorem sz {h : Heap} {b : Addr} {o : Obj} {n : Nat} (e : h.get? b = some o) (hn : h.objs.size ≤ n) : ¬ b = n := fun z => by
 have h1 : @LT.lt Nat instLTNat b h.objs.size := Heap.lt_size e
 subst z
 exact Nat.lt_irrefl _ (Nat.lt_of_lt_of_le h1 hn)
noncomputable abbrev blk (X : Cx) (scope : Scope) (cl : List (Str × Addr)) (Nb : List Str) (s₀ : Shared) (H₀ : Hp) (C : Addr) (ex : List Addr) (pn : List (Addr × Obj)) : Cx :=
 { X with N := Nb, s₀ := s₀, H₀ := H₀, env := compEnvC scope cl C X.env, outer := X.stack, stack := X.stack, ex := ex, fn := fun _ => false, pn := pn, xe := fun _ _ => False }

structure BlkOk (X : Cx) (scope : Scope) (cl : List (Str × Addr)) (Nb : List Str) (cp : List (Option Nat)) : Prop where
 clos : closureFor scope X.env = pure cl
 cell : ∀ y ∈ scope.names, y.2 ≠ .cell
 kind : scope.kind = .function
 names : ∀ y ∈ scope.names, y.2 = .local → scope.names.lookup y.1 = some .local
 sub : ∀ x c, cl.lookup x = some c → X.env.cells.lookup x = some c
 has : ∀ x, ((relabel scope X.env).names.lookup x = some .cell ∨ (relabel scope X.env).names.lookup x = some .free) → ∃ c, cl.lookup x = some c
 len : cp.length = Nb.length
 cap : ∀ (i j : Nat) (x : Str), cp[i]? = some (some j) → Nb[i]? = some x → X.N[j]? = some x ∧ Vis X.env.scope x ∧ (X.env.kindOf x = some .cell ∨ X.env.kindOf x = some .free) ∧ ((relabel scope X.env).names.lookup x = some .cell ∨ (relabel scope X.env).names.lookup x = some .free)

noncomputable def Wo (cp : List (Option Nat)) (σ : L2.St) : L2.St := cp.map fun o => match o with | none => none | some j => match σ[j]? with | some v => v | none => none

noncomputable def Qcz (wi : TI) (cp : List (Option Nat)) (g : TG) (tt : TT) (te : TE) : TE := fun σ H Q => wi σ H fun J H1 => ∃ W : Nat → Nat → List V → L2.St → Hp → Prop, (∃ m, W 0 m [] (Wo cp σ) H1) ∧ ∀ i m acc τ H, W i m acc τ H →
 (J.stop i H ∧ ∀ D, H D = none → Q (.ref D) (upd H D (.lst acc))) ∨
 (J.go i H ∧ ∀ x H', J.yld i H x H' → g x τ H' fun τ2 H2 => tt τ2 H2 fun b H3 => if b = true then te τ2 H3 fun v H4 => acc.length < sizeLine ∧ ∃ m', m' < m ∧ W (i + 1) m' (acc ++ [v]) τ2 H4 else ∃ m', m' < m ∧ W (i + 1) m' acc τ2 H3)

theorem Inv.track {X : Cx} {pins : List (Addr × Obj)} {σ : L2.St} {H : Hp} {s : Shared} {D : Addr} {o : HO} (I : Inv X pins σ H s) (hn : H D = none) (h0 : X.s₀.heap.objs.size ≤ D) (hL : X.env.locals ≠ D) (hc : ∀ x c, X.env.cells.lookup x = some c → c ≠ D)
  (hp : ∀ p ∈ X.pn ++ pins, p.1 ≠ D) (ob : ObjOk X.prog X.w (upd H D o) s.heap D o) : Inv X pins σ (upd H D o) s where
 ok := I.ok
 os := I.os
 bare := I.bare
 base := {
  keep := I.base.keep
  slot := I.base.slot
  free := fun b q e n nx => by
   have : b ≠ D := sz e h0
   rw [QW this]; exact I.base.free b q e n nx
  there := I.base.there
  tups := fun b xs e => by
   have q := I.base.tups b xs e
   rw [QW (fun z => by rw [z, hn] at q; cases q)]; exact q
  frzs := fun b q u e => by
   have z := I.base.frzs b q u e
   rw [QW (fun y => by rw [y, hn] at z; cases z)]; exact z
  tbls := fun b ps e => by
   obtain ⟨more, q⟩ := I.base.tbls b ps e
   exact ⟨more, by rw [QW (fun z => by rw [z, hn] at q; cases q)]; exact q⟩ }
 loc := I.loc
 cell := I.cell
 free := by rw [QW hL]; exact I.free
 freeC := fun x c e => by rw [QW (hc x c e)]; exact I.freeC x c e
 pin := fun p hp' => by
  obtain ⟨a, b, c⟩ := I.pin p hp'
  exact ⟨a, by rw [QW (hp p hp')]; exact b, c⟩
 hok := fun a u e => by
  by_cases z : a = D
  ·subst z
   rw [Va] at e; cases e
   exact ob
  ·rw [QW z] at e
   refine (I.hok a u e).stay (fun _ _ _ q => q) (fun b q => ?_) (fun b xs q => ?_)
   ·rw [QW (fun y => by rw [y, hn] at q; cases q)]; exact q
   ·rw [QW (fun y => by rw [y, hn] at q; cases q)]; exact q
 len := I.len

section
variable {X : Cx} {elt tg iter : Expr} {ifs : List Expr} {scope : Scope} {pos : Pos} {cl : List (Str × Addr)} {Nb : List Str} {cp : List (Option Nat)} {wi : TI} {g : TG} {tt : TT} {te : TE}

theorem Cx.Ok.blk {pins : List (Addr × Obj)} {σ : L2.St} {H : Hp} {s : Shared} {C : Addr} {fp : List Addr} {pn : List (Addr × Obj)} (B : BlkOk X scope cl Nb cp) (I : Inv X pins σ H s) (hf : ∀ b ∈ fp, QbK X pins H b) (hfs : ∀ b ∈ fp, b < s.heap.objs.size) (hC : s.heap.objs.size ≤ C) :
  (blk X scope cl Nb s H C fp pn).Ok where
 mod := I.ok.mod
 kind := B.kind
 glob := I.ok.glob
 blt := I.ok.blt
 above := hC
 inj := fun x y c h1 h2 => I.ok.inj x y c (B.sub x c h1) (B.sub y c h2)
 has := fun x h => B.has x h
 cab := fun x c h => absurd h (by simp)
 hd := I.ok.hd
 frames := I.ok.frames
 stk := .inl rfl
 exf := fun b hb => ⟨fun z => by have := hfs b hb; rw [z] at this; exact absurd hC (Nat.not_le.mpr this), fun x c e => (hf b hb).2.2.2.2.1 x c (B.sub x c e)⟩
 bs := I.bs
 bsz := Nat.le_trans I.ok.bsz I.sz
 noex := fun b o e hb => by
  rcases (hf b hb).2.2.2.1 with z | z
  ·exact I.ok.noex b o e z
  ·exact sz e (Nat.le_trans I.ok.bsz z) rfl
 exfs := fun b hb z => by
  have := I.stkSub b z
  rcases List.mem_cons.mp this with q | q
  ·exact (hf b hb).2.1 q
  ·exact (hf b hb).2.2.1 q
 funs := I.stack
 frf := fun b hb => I.stkFree b hb

theorem Qap {cp : List (Option Nat)} {σ : L2.St} {i : Nat} {v : V} (e : (Wo cp σ)[i]? = some (some v)) : ∃ j, cp[i]? = some (some j) ∧ σ[j]? = some (some v) := by
 unfold Wo at e
 rw [List.getElem?_map] at e
 obtain ⟨o, h1, h2⟩ := Option.map_eq_some_iff.mp e
 cases o with
 | none => cases h2
 | some j =>
  refine ⟨j, h1, ?_⟩
  simp only at h2
  split at h2
  ·rename_i u hu; rw [hu, h2]
  ·cases h2

theorem Inv.blk {pins : List (Addr × Obj)} {σ : L2.St} {H : Hp} {s : Shared} {C : Addr} {fp : List Addr} {h' : Heap} {m : Str → Option Value} {tk : Nat} (B : BlkOk X scope cl Nb cp) (I : Inv X pins σ H s) (hf : ∀ b ∈ fp, QbK X pins H b) (hfs : ∀ b ∈ fp, b < s.heap.objs.size)
  (hC : s.heap.objs.size ≤ C) (hns : h'.Ns C m) (hk : ∀ b o, s.heap.get? b = some o → h'.get? b = some o) : Inv (Mi.blk X scope cl Nb s H C fp (X.pn ++ pins)) [] (Wo cp σ) H { s with heap := h', toks := tk } where
 ok := Cx.Ok.blk B I hf hfs hC
 os := rfl
 bare := I.bare
 base := Un.kept hk
 loc := by
  refine ⟨m, hns, fun i x v hN e hv => ?_⟩
  obtain ⟨j, h1, h2⟩ := Qap e
  obtain ⟨hX, hvis, hkd, hkb⟩ := B.cap i j x h1 hN
  obtain ⟨m0, n0, lk⟩ := I.loc
  obtain ⟨u, r, l⟩ := lk j x v hX h2 hvis
  refine ⟨u, r, ?_⟩
  rcases l with ⟨h, _⟩ | ⟨_, c, hc, hcell⟩
  ·rcases hkd with z | z <;> rw [z] at h <;> cases h
  ·refine .inr ⟨hkb, ?_⟩
   obtain ⟨c', hc'⟩ := B.has x hkb
   have := B.sub x c' hc'
   rw [hc] at this; cases this
   exact ⟨c, hc', by
    obtain ⟨o, h3, h4⟩ := hcell
    exact ⟨o, hk _ _ h3, h4⟩⟩
 cell := fun x c e => by
  obtain ⟨v, o, h3, h4⟩ := I.cell x c (B.sub x c e)
  exact ⟨v, o, hk _ _ h3, h4⟩
 free := I.hok.fresh hC
 freeC := fun x c e => I.freeC x c (B.sub x c e)
 pin := fun p hp => by
  rw [List.append_nil] at hp
  obtain ⟨a, b, c, d, e⟩ := I.pin p hp
  refine ⟨hk _ _ a, b, fun z => ?_, fun z => ?_, e⟩
  ·have := Heap.lt_size a; rw [z] at this; exact absurd hC (Nat.not_le.mpr this)
  ·rcases List.mem_cons.mp (I.stkSub _ z) with q | q
   ·exact c q
   ·exact d q
 hok := I.hok.kept hk
 len := by unfold Wo; rw [List.length_map]; exact B.len

noncomputable def Qg1 (X : Cx) (pins : List (Addr × Obj)) (σ : L2.St) (use : Option (Value → Sem Unit)) (Q : VK) (Q' : Value → Shared → Prop) : Prop :=
 ∀ (D C : Addr) (H' : Hp) (s' : Shared) (m : Str → Option Value), Inv X pins σ H' s' → s'.heap.Ns C m → H' C = none → ¬ C = X.env.locals → X.s₀.heap.objs.size ≤ C → (∀ x c, X.env.cells.lookup x = some c → c ≠ C) → (∀ p ∈ X.pn ++ pins, p.1 ≠ C) → Q (.ref D) H' →
  compPost (model X.prog X.w) X.A X.xe use Q' (.ref D) C (.ok .next) s'
theorem UX {use : Option (Value → Sem Unit)} {Q' : Value → Shared → Prop} {pins : List (Addr × Obj)} {s : Shared} {σ : L2.St} {H : Hp} {Q : VK} {newp : Pos} (hc : X.calm = true) (B : BlkOk X scope cl Nb cp) (hi : PI X tg iter wi) (hg : ∀ s₀ H₀ C ex pn, PG (Mi.blk X scope cl Nb s₀ H₀ C ex pn) tg g)
  (ht : ∀ s₀ H₀ C ex pn, ∀ (pins : List (Addr × Obj)) (s : Shared) (τ : L2.St) (H : Hp) (Q : Bool → Hp → Prop), Inv (Mi.blk X scope cl Nb s₀ H₀ C ex pn) pins τ H s → tt τ H Q →
   wpAny (model X.prog X.w) X.A (forIn ifs true fun c r => if r = true then do let ok ← isTrue c (compEnvC scope cl C X.env) (eval c (compEnvC scope cl C X.env)); pure (ForInStep.yield ok) else pure (ForInStep.yield r)) (TP (Mi.blk X scope cl Nb s₀ H₀ C ex pn) pins τ Q) (fun _ _ => False) s)
  (he : ∀ s₀ H₀ C ex pn, PE (Mi.blk X scope cl Nb s₀ H₀ C ex pn) elt te) (hs : ∀ x, foldedSetIterable iter X.env x = pure x)
  (I : Inv X pins σ H s) (h : Qcz wi cp g tt te σ H Q) (hfin : Qg1 X pins σ use Q Q') :
  wpAny (model X.prog X.w) X.A (comprehension (.ListComp elt [⟨tg, iter, ifs, 0⟩] scope pos) scope X.env newp (newList []) false (eval iter X.env) use) Q' X.xe s := by
 refine wpAny_comprehension_free (use := use) rfl hs B.clos B.kind B.names (wpAny_mono (hi pins s σ H _ I h) (fun xv s₁ h₁ => wpAny_mono h₁ (fun itv s₂ h₂ => ?_) fun _ _ e => e) fun _ _ e => e)
 obtain ⟨it, fp, tn, J, H2, rfl, I2, T, st2, f2, W, ⟨m0, w0⟩, turn⟩ := h₂
 have hfs : ∀ b ∈ fp, b < s₂.heap.objs.size := fun b hb => by
  obtain ⟨o, e, _⟩ := T.obj _ _ st2 b hb
  exact Heap.lt_size e
 refine wpAny_newObj_type (wpAny_newFunctionEnv B.cell (by intro y hy; simp at hy) (fun h₁ hns₁ hsb₁ => ?_) B.kind)
 dsimp only at hns₁ hsb₁ ⊢
 generalize hH2 : s₂.heap.push { cls := .type "list", dict := none, data := .seq ([] : List Value).toArray } = G2 at hns₁ hsb₁ ⊢
 have hCz : G2.objs.size = s₂.heap.objs.size + 1 := by rw [← hH2, Heap.size_push]
 generalize hCC : G2.objs.size = C at hns₁ hsb₁ ⊢
 rw [hCC] at hCz
 have hCle : s₂.heap.objs.size ≤ C := by omega
 have hDC : s₂.heap.objs.size ≠ C := by omega
 have old : ∀ b o, s₂.heap.get? b = some o → h₁.get? b = some o := fun b o e => hsb₁.extBut b o (sz e hCle) (Heap.get?_push_of_some _ (hH2 ▸ Heap.get?_push_of_some _ e))
 have hacc : h₁.get? s₂.heap.objs.size = some { cls := .type "list", data := .seq ([] : List Value).toArray } := hsb₁.extBut _ _ hDC (Heap.get?_push_of_some _ (hH2 ▸ Heap.get?_push_size _ rfl))
 generalize hD : s₂.heap.objs.size = D at hacc hDC hCle hCz ⊢
 have hDle : s₂.heap.objs.size ≤ D := Nat.le_of_eq hD
 have hCle2 : s₂.heap.objs.size ≤ C := Nat.le_trans hDle hCle
 -- the block's context
 have I3 := Inv.blk (tk := s₂.toks + ([] : List (Str × Value)).length) B I2 f2 hfs (C := C) (Nat.le_trans (Nat.le_of_eq hD) hCle) hns₁ old
 have hDfp : D ∉ fp := fun z => Nat.lt_irrefl _ (Nat.lt_of_lt_of_le (hfs D z) hDle)
 have hCfp : C ∉ fp := fun z => Nat.lt_irrefl _ (Nat.lt_of_lt_of_le (hfs C z) hCle2)
 -- D in the block: not a frame's, not a cell's, not pinned
 have dcell : ∀ x c, cl.lookup x = some c → c ≠ D := fun x c e z => by
  obtain ⟨v, o, h3, _⟩ := I2.cell x c (B.sub x c e)
  exact sz h3 hDle z
 have dpin : ∀ p ∈ X.pn ++ pins, p.1 ≠ D := fun p hp z => sz (I2.pin p hp).1 hDle z
 have cpin : ∀ p ∈ X.pn ++ pins, p.1 ≠ C := fun p hp z => sz (I2.pin p hp).1 hCle2 z
 have dfs : D ∉ frs X.stack := fun z => by
  rcases List.mem_cons.mp (I2.stkSub _ z) with q | q
  ·exact Nat.lt_irrefl _ (Nat.lt_of_lt_of_le (q ▸ I2.lt : D < s₂.heap.objs.size) hDle)
  ·exact I2.nofs hDle q
 have fpst : ∀ {H' : Hp} {pl : List (Addr × Obj)}, (∀ b ∈ fp, H' b = none) → (∀ p ∈ pl, p.1 = D) → ∀ b ∈ fp, QbK (Mi.blk X scope cl Nb s₂ H2 C fp (X.pn ++ pins)) pl H' b := fun {H' pl} hn hpl b hb =>
  ⟨hn b hb, fun (z : b = C) => hCfp (z ▸ hb), fun z => by
   rcases List.mem_cons.mp (I2.stkSub _ z) with q | q
   ·exact (f2 b hb).2.1 q
   ·exact (f2 b hb).2.2.1 q, .inl hb, fun x c e => (f2 b hb).2.2.2.2.1 x c (B.sub x c e), fun p hp z => by
   rcases List.mem_append.mp hp with q | q
   ·exact (f2 b hb).2.2.2.2.2 p q z
   ·rw [hpl p q] at z; exact hDfp (z ▸ hb)⟩
 have fp0 : ∀ {H' : Hp}, (∀ b ∈ fp, H' b = none) → ∀ b ∈ fp, QbK X pins H' b := fun hn b hb => ⟨hn b hb, (f2 b hb).2⟩
 -- the end
 have fin : ∀ {τ : L2.St} {H' : Hp} {s' : Shared} {acc : List V} {its : List Value} {n : Nat} {mC : Str → Option Value}, Inv (Mi.blk X scope cl Nb s₂ H2 C fp (X.pn ++ pins)) [] τ H' s' → H' D = none → s'.heap.get? D = some { cls := .type "list", data := .seq its.toArray n } → Vals acc its → acc.length ≤ sizeLine → s'.heap.Ns C mC →
   (∀ D, H' D = none → Q (.ref D) (upd H' D (.lst acc))) → compPost (model X.prog X.w) X.A X.xe use Q' (.ref D) C (.ok .next) s' := by
  intro τ H' s' acc its n mC Ib hDH hDo r hz hns q
  have Ie : Inv X pins σ H' s' := I2.call' (ch := fp) (Ib.os) Ib.base Ib.hok Ib.bare fun b hb => ⟨(f2 b hb).2.2.2.1, (f2 b hb).2.1, (f2 b hb).2.2.2.2.1, (f2 b hb).2.2.2.2.2⟩
  have hsz : X.s₀.heap.objs.size ≤ s₂.heap.objs.size := I2.sz
  have It : Inv X pins σ (upd H' D (.lst acc)) s' := Inv.track Ie hDH (Nat.le_trans hsz hDle) (fun z => Nat.lt_irrefl _ (Nat.lt_of_lt_of_le (z ▸ I2.lt : D < s₂.heap.objs.size) hDle)) (fun x c e z => by
   obtain ⟨v, o, h3, _⟩ := I2.cell x c e
   exact sz h3 hDle z) dpin ⟨hz, its, n, r, hDo⟩
  exact hfin D C _ s' mC It hns (by rw [QW (Ne.symm hDC)]; exact Ib.free) (fun z => Nat.lt_irrefl _ (Nat.lt_of_lt_of_le (z ▸ I2.lt : C < s₂.heap.objs.size) hCle2)) (Nat.le_trans hsz hCle2) (fun x c e z => by
   obtain ⟨v, o, h3, _⟩ := I2.cell x c e
   exact sz h3 hCle2 z) cpin (q D hDH)
 have loop : ∀ s₃ : Shared, s₃ = { s₂ with heap := h₁, toks := s₂.toks + ([] : List (Str × Value)).length } →
   codeAny (model X.prog X.w) X.A (.compLoop (.ListComp elt [⟨tg, iter, ifs, 0⟩] scope pos) 0 (.ref it) (.ref D) (compEnvC scope cl C X.env))
    (compPost (model X.prog X.w) X.A X.xe use Q' (.ref D) C) s₃ := by
  rintro s₃ rfl
  refine Ug (fun n s' => ∃ i τ H' acc its k, Inv (Mi.blk X scope cl Nb s₂ H2 C fp (X.pn ++ pins)) [] τ H' s' ∧ tn i s'.heap ∧ (∀ b ∈ fp, H' b = none) ∧ H' D = none ∧ s'.heap.get? D = some { cls := .type "list", data := .seq (its : List Value).toArray k } ∧ Vals acc its ∧ acc.length ≤ sizeLine ∧ W i n acc τ H') ?_ m0
   ⟨0, Wo cp σ, H2, [], [], _, I3, T.keep _ _ _ st2 (fun b hb o e => old b o e), fun b hb => (f2 b hb).1, I2.hok.fresh hDle, hacc, .nil, Nat.zero_le _, w0⟩
  rintro n s3 ⟨i, τ, H3, acc, its, k, Ib, st3, fr3, hDH, hDo, r3, hz3, w3⟩
  have pinD : ∀ {τ' : L2.St} {H' : Hp} {s' : Shared}, Inv (Mi.blk X scope cl Nb s₂ H2 C fp (X.pn ++ pins)) [] τ' H' s' → H' D = none → s'.heap.get? D = some { cls := .type "list", data := .seq its.toArray k } →
    Inv (Mi.blk X scope cl Nb s₂ H2 C fp (X.pn ++ pins)) [(D, { cls := .type "list", data := .seq its.toArray k })] τ' H' s' := fun {τ' H' s'} I' hn ho => I'.pins_of fun p hp => by
   rw [List.mem_singleton] at hp; subst hp
   exact ⟨ho, hn, hDC, dfs, by intro v; simp⟩
  have IbD := pinD Ib hDH hDo
  have onlyD : ∀ p ∈ [(D, ({ cls := .type "list", data := .seq its.toArray k } : Obj))], p.1 = D := fun p hp => by rw [List.mem_singleton] at hp; subst hp; rfl
  have ofD : ∀ {τ' : L2.St} {H' : Hp} {s' : Shared}, Inv (Mi.blk X scope cl Nb s₂ H2 C fp (X.pn ++ pins)) [(D, { cls := .type "list", data := .seq its.toArray k })] τ' H' s' → s'.heap.get? D = some { cls := .type "list", data := .seq its.toArray k } ∧ H' D = none := fun I' => by
   obtain ⟨a, b, _⟩ := I'.pin (D, _) (List.mem_append_right _ (List.mem_singleton.mpr rfl))
   exact ⟨a, b⟩
  rcases turn i n acc τ H3 w3 with ⟨stop, qn⟩ | ⟨go, step⟩
  ·refine wpAny_mono (T.done (Mi.blk X scope cl Nb s₂ H2 C fp (X.pn ++ pins)) rfl rfl rfl hc i _ s3 τ H3 (fun _ _ => False) IbD (fpst fr3 onlyD) st3 stop) (fun r s4 ⟨hr, I4⟩ => ?_) fun _ _ z => z.elim
   subst hr
   obtain ⟨o4, n4⟩ := ofD I4
   obtain ⟨m4, ns4, _⟩ := I4.loc
   have I4' : Inv (Mi.blk X scope cl Nb s₂ H2 C fp (X.pn ++ pins)) [] τ H3 s4 := I4.pins_of fun p hp => by cases hp
   exact fin I4' n4 o4 r3 hz3 ns4 qn
  ·refine wpAny_mono (T.item (Mi.blk X scope cl Nb s₂ H2 C fp (X.pn ++ pins)) rfl rfl rfl hc i _ s3 τ H3 (fun _ _ => False) IbD (fpst fr3 onlyD) st3 go) (fun r s4 ⟨u, hr, h4⟩ => ?_) fun _ _ z => z.elim
   subst hr
   refine wpAny_mono h4 (fun _ s5 ⟨x, H5, I5, r5, y5, st5, fr5⟩ => ?_) fun _ _ z => z.elim
   have I5' := I5.pinned (fpst fr5 onlyD) (T.obj _ _ st5)
   refine wpAny_mono (hg s₂ H2 C fp (X.pn ++ pins) _ s5 τ H5 x u _ I5' r5 (step x H5 y5)) (fun _ s6 ⟨τ6, H6, I6, q6⟩ => ?_) fun _ _ z => z.elim
   refine wpAny_mono (ht s₂ H2 C fp (X.pn ++ pins) _ s6 τ6 H6 _ I6 q6) (fun ok s7 ⟨H7, I7, q7⟩ => ?_) fun _ _ z => z.elim
   have keepT : ∀ {τ' : L2.St} {H' : Hp} {s' : Shared}, Inv (Mi.blk X scope cl Nb s₂ H2 C fp (X.pn ++ pins)) ([(D, { cls := .type "list", data := .seq its.toArray k })] ++ Wm fp s5.heap) τ' H' s' → tn (i + 1) s'.heap ∧ (∀ b ∈ fp, H' b = none) ∧ s'.heap.get? D = some { cls := .type "list", data := .seq its.toArray k } ∧ H' D = none := fun {τ' H' s'} I' => by
    refine ⟨T.keep _ _ _ st5 fun b hb o e => (I'.pin (b, o) (List.mem_append_right _ (List.mem_append_right _ (Xa hb e)))).1, fun b hb => ?_, ?_⟩
    ·obtain ⟨o, e, d⟩ := T.obj _ _ st5 b hb
     exact (I'.pin (b, o) (List.mem_append_right _ (List.mem_append_right _ (Xa hb e)))).2.1
    ·obtain ⟨a, b, _⟩ := I'.pin (D, { cls := .type "list", data := .seq its.toArray k }) (List.mem_append_right _ (List.mem_append_left _ (List.mem_singleton.mpr rfl)))
     exact ⟨a, b⟩
   cases ok with
   | false =>
    rw [if_neg Bool.false_ne_true] at q7 ⊢
    obtain ⟨m', hm, w7⟩ := q7
    obtain ⟨t7, f7, o7, n7⟩ := keepT I7
    exact ⟨m', hm, i + 1, τ6, H7, acc, its, k, I7.pins_of (fun p hp => by cases hp), t7, f7, n7, o7, r3, hz3, w7⟩
   | true =>
    rw [if_pos rfl] at q7 ⊢
    refine wpAny_mono (he s₂ H2 C fp (X.pn ++ pins) _ s7 τ6 H7 _ I7 q7) (fun y s8 ⟨v8, H8, I8, r8, hlt, m', hm, w8⟩ => ?_) fun _ _ z => z.elim
    obtain ⟨t8, f8, o8, n8⟩ := keepT I8
    have hlen := r3.length
    refine call_meets F.slot_list_append ⟨_, o8, rfl⟩ F.entry_list_append (F.args_list_append_2 _ _) (PySem.list_append D its.toArray k y (by rw [List.size_toArray]; omega)) ⟨o8, ?_⟩
    have q := PySem.IsL.update o8 (·.push y)
    have hf : its.toArray.push y = (its ++ [y]).toArray := by simp
    rw [hf] at q
    have I8' : Inv (Mi.blk X scope cl Nb s₂ H2 C fp (X.pn ++ pins)) [] τ6 H8 s8 := I8.pins_of fun p hp => by cases hp
    have I9 : Inv (Mi.blk X scope cl Nb s₂ H2 C fp (X.pn ++ pins)) [] τ6 H8 { s8 with heap := s8.heap.update D (Obj.mapSeq (·.push y)), toks := s8.toks } :=
     I8'.turned (it := D) (fun b o hb e => (Heap.get?_update_other s8.heap (Obj.mapSeq (·.push y)) (Ne.symm hb)).trans e) n8 hDC (.inr hDle) (fun x c e => dcell x c e) fun p hp => by
      rw [List.append_nil] at hp; exact dpin p hp
    refine ⟨m', hm, i + 1, τ6, H8, acc ++ [v8], its ++ [y], _, I9, T.keep _ _ _ t8 (fun b hb o e => (Heap.get?_update_other s8.heap (Obj.mapSeq (·.push y)) (fun (z : D = b) => hDfp (z ▸ hb))).trans e), f8, n8, q, r3.append (.cons r8 .nil), by rw [List.length_append, List.length_singleton]; omega, w8⟩
 exact codeAny_compStart_list (loop _ rfl) (T.self _ 0 _ _ _ (T.keep _ _ _ st2 (fun b hb o e => old b o e)) (loop _ rfl))
theorem Qaf (hc : X.calm = true) (B : BlkOk X scope cl Nb cp) (hi : PI X tg iter wi) (hg : ∀ s₀ H₀ C ex pn, PG (Mi.blk X scope cl Nb s₀ H₀ C ex pn) tg g)
  (ht : ∀ s₀ H₀ C ex pn, ∀ (pins : List (Addr × Obj)) (s : Shared) (τ : L2.St) (H : Hp) (Q : Bool → Hp → Prop), Inv (Mi.blk X scope cl Nb s₀ H₀ C ex pn) pins τ H s → tt τ H Q →
   wpAny (model X.prog X.w) X.A (forIn ifs true fun c r => if r = true then do let ok ← isTrue c (compEnvC scope cl C X.env) (eval c (compEnvC scope cl C X.env)); pure (ForInStep.yield ok) else pure (ForInStep.yield r)) (TP (Mi.blk X scope cl Nb s₀ H₀ C ex pn) pins τ Q) (fun _ _ => False) s)
  (he : ∀ s₀ H₀ C ex pn, PE (Mi.blk X scope cl Nb s₀ H₀ C ex pn) elt te) (hs : ∀ x, foldedSetIterable iter X.env x = pure x := by intro _; rfl) :
  PE X (.ListComp elt [⟨tg, iter, ifs, 0⟩] scope pos) (Qcz wi cp g tt te) := by
 intro pins s σ H Q I h
 rw [eval_ListComp]
 refine UX hc B hi hg ht he hs I h fun D C H' s' m I' hns hn hL h0 hcell hp q => ⟨m, hns, fun h'' sb => ?_⟩
 exact ⟨.ref D, H', I'.turned (t' := s'.toks) (it := C) (fun b o hb e => sb.extBut b o hb e) hn hL (.inr h0) hcell hp, rfl, q⟩
theorem Qbo {i : Nat} {x : Str} {pos' spos : Pos} (hN : X.N.Nodup) (hix : X.N[i]? = some x) (hx : Loc X.env.scope x) (hf : X.fn x = true ∨ X.env.scope.names.lookup x = some .local) (hsw : swapsWith (.ListComp elt [⟨tg, iter, ifs, 0⟩] scope pos) (some (.Name x pos')) spos.line X.env = pure true)
  (hc : X.calm = true) (B : BlkOk X scope cl Nb cp) (hi : PI X tg iter wi) (hg : ∀ s₀ H₀ C ex pn, PG (Mi.blk X scope cl Nb s₀ H₀ C ex pn) tg g)
  (ht : ∀ s₀ H₀ C ex pn, ∀ (pins : List (Addr × Obj)) (s : Shared) (τ : L2.St) (H : Hp) (Q : Bool → Hp → Prop), Inv (Mi.blk X scope cl Nb s₀ H₀ C ex pn) pins τ H s → tt τ H Q →
   wpAny (model X.prog X.w) X.A (forIn ifs true fun c r => if r = true then do let ok ← isTrue c (compEnvC scope cl C X.env) (eval c (compEnvC scope cl C X.env)); pure (ForInStep.yield ok) else pure (ForInStep.yield r)) (TP (Mi.blk X scope cl Nb s₀ H₀ C ex pn) pins τ Q) (fun _ _ => False) s)
  (he : ∀ s₀ H₀ C ex pn, PE (Mi.blk X scope cl Nb s₀ H₀ C ex pn) elt te) (hs : ∀ x, foldedSetIterable iter X.env x = pure x := by intro _; rfl) :
  PS X (.Assign [.Name x pos'] (.ListComp elt [⟨tg, iter, ifs, 0⟩] scope pos) spos) (QgH (Qcz wi cp g tt te) (QaR i)) := by
 intro pins s σ H D I h
 rw [exec_Assign_Name_used _ _ _ _ hsw]
 refine wpAny_bind (wpAny_standAt (wpAny_bind ?_))
 show wpAny _ X.A (do let _ ← comprehension (.ListComp elt [⟨tg, iter, ifs, 0⟩] scope pos) scope X.env _ (newList []) false (eval iter X.env) (some (assign (.Name x pos') X.env))) _ _ s
 refine wpAny_bind (wpAny_mono (UX (use := some (assign (.Name x pos') X.env)) (Q' := fun _ s' => SP X pins D .next s') hc B hi hg ht he hs I h fun D' C H' s' m I' hns hn hL h0 hcell hp q => ?_) (fun _ s' hq => wpAny_pure (wpAny_pure hq)) fun _ _ e => e)
 show wpAny _ X.A (assign (.Name x pos') X.env (.ref D')) _ _ s'
 refine wpAny_assign_Name (WR (v := .ref D') I' hN hix hx rfl (fun s5 I5 ⟨a, sb, ha⟩ => ?_) hf)
 have hne : C ≠ a := fun z => by
  rcases ha with ha | ha
  ·exact hL (z.trans ha)
  ·exact hcell x a ha z.symm
 exact ⟨m, hns.sameBut sb hne, fun h'' sb2 => ⟨_, H', I5.turned (t' := s5.toks) (it := C) (fun b o hb e => sb2.extBut b o hb e) hn hL (.inr h0) hcell hp, q⟩⟩
end
end Mi

namespace Mi
open PySem PySem.Spec PyProof.Rows L2

noncomputable def IterR (X : Cx) (tg : Expr) (r : V → Hp → (It → Hp → Prop) → Prop) : Prop :=
 ∀ (pins : List (Addr × Obj)) (s : Shared) (σ : L2.St) (H : Hp) (x : V) (v : Value) (C : It → Hp → Prop), Inv X pins σ H s → RelV x v → r x H C → wpAny (model X.prog X.w) X.A (pyIter v) (PIE X pins σ tg C) X.xe s
section
variable {X : Cx} {tg : Expr}
theorem IterR.or {r r' : V → Hp → (It → Hp → Prop) → Prop} (h : IterR X tg r) (h' : IterR X tg r') : IterR X tg (fun x H C => r x H C ∨ r' x H C) := fun pins s σ H x v C I rx q => by
 rcases q with q | q
 ·exact h pins s σ H x v C I rx q
 ·exact h' pins s σ H x v C I rx q
theorem it_list : IterR X tg (fun x H C => ∃ a, x = .ref a ∧ (∃ xs, SqL X.K H a xs) ∧ C (Itl X.K a) H) := by
 intro pins s1 σ H1 x v C I1 r1 q1
 obtain ⟨a, e, ⟨xs, hq⟩, q⟩ := q1
 subst e
 cases r1
 obtain ⟨its, rv, p, hz⟩ := I1.list hq
 refine wpAny_pyIter_list p.isList ?_
 refine ⟨s1.heap.objs.size, [s1.heap.objs.size], _, _, H1, rfl, I1.kept (t' := s1.toks) fun b o e => Heap.get?_push_of_some _ e, Qbd a _, ⟨_, Heap.get?_push_size _ rfl, rfl, rfl⟩, fun b hb => ?_, q⟩
 have e : b = s1.heap.objs.size := by simpa using hb
 subst e
 exact I1.fpOk (Nat.le_refl _) (I1.hok.fresh (Nat.le_refl _))
theorem Qgq : IterR X tg (fun x H C => ∃ a, x = .ref a ∧ (∃ xs, SqT X.K H a xs) ∧ C (Itt X.K a) H) := by
 intro pins s1 σ H1 x v C I1 r1 q1
 obtain ⟨a, e, ⟨xs, hq⟩, q⟩ := q1
 subst e
 cases r1
 obtain ⟨its, rv, p, hz⟩ := I1.tuple hq
 refine wpAny_pyIter_tuple (show s1.heap.IsTuple a its.toArray from p) ?_
 refine ⟨s1.heap.objs.size, [s1.heap.objs.size], _, _, H1, rfl, I1.kept (t' := s1.toks) fun b o e => Heap.get?_push_of_some _ e, Gp a _, ⟨_, Heap.get?_push_size _ rfl, rfl, rfl⟩, fun b hb => ?_, q⟩
 have e : b = s1.heap.objs.size := by simpa using hb
 subst e
 exact I1.fpOk (Nat.le_refl _) (I1.hok.fresh (Nat.le_refl _))
noncomputable def Its (x : Str) : It := ⟨fun i _ => i < x.cps.size, fun i H v H' => H' = H ∧ ∃ c, x.cps[i]? = some c ∧ v = .str ⟨#[c]⟩, fun i _ => x.cps.size ≤ i⟩
noncomputable def YZ (x : Str) : List W := x.cps.toList.map fun c => .str ⟨#[c]⟩
theorem Qcr {P : Program} {w : World} {K : PySem.W.Frag} {tg : Expr} (it : Addr) (x : Str) (ty : String) (t : Tok) (hty : ty = "str_ascii_iterator" ∨ ty = "str_iterator") :
  Turn P w K tg (Its x) [it] it (fun i h => i ≤ x.cps.size ∧ h.IsStrIter it ty x t i) where
 mem := by simp
 obj := fun i h st b hb => by
  have e : b = it := by simpa using hb
  subst e
  obtain ⟨_, o, e, c, d⟩ := st
  exact ⟨o, e, fun v z => by rw [d] at z; cases z⟩
 keep := fun i h h' st k => ⟨st.1, let ⟨o, ho, r⟩ := st.2; ⟨o, k it (by simp) o ho, r⟩⟩
 item := by
  intro X hP hw hK hc i pins s σ H E I hf st hg
  subst hP hw hK
  obtain ⟨hi, st⟩ := st
  obtain ⟨f0, f1, f2, f3, f4, f5⟩ := hf it (by simp)
  have hg' : i < x.cps.size := hg
  have hx : x.cps[i]? = some (x.cps[i]'hg') := Array.getElem?_eq_getElem hg'
  have fin : ∀ h' : Heap, h'.IsStrIter it ty x t (i + 1) → Heap.SameBut it s.heap h' → ∃ u, some (Value.str ⟨#[x.cps[i]'hg']⟩ s.toks) = some u ∧ wpAny (model X.prog X.w) X.A (letOwnedTupleGo tg (.ref it) u) (fun _ s2 => ∃ y H', Inv X pins σ H' s2 ∧ RelV y u ∧ (Its x).yld i H y H' ∧ (i + 1 ≤ x.cps.size ∧ s2.heap.IsStrIter it ty x t (i + 1)) ∧ ∀ b ∈ [it], H' b = none) E { s with heap := h', toks := s.toks + 1 } := fun h' st' sb => by
   have I1 : Inv X pins σ H { s with heap := h', toks := s.toks + 1 } := I.turned (fun b o hb e => (sb.2 b hb).trans e) f0 f1 f3 f4 f5
   obtain ⟨o, e, c, d⟩ := id st'
   refine ⟨_, rfl, Qbw (s := { s with heap := h', toks := s.toks + 1 }) e c d (by rcases hty with z | z <;> rw [z] <;> decide) ⟨.str ⟨#[x.cps[i]'hg']⟩, H, I1, ⟨_, rfl⟩, ⟨rfl, _, hx, rfl⟩, ⟨hg, st'⟩, fun b hb => (hf b hb).1⟩⟩
  rcases hty with z | z
  ·subst z
   exact wpAny_pyNext_ascii_item st hx fin
  ·subst z
   exact wpAny_pyNext_wide_item st hx fin
 done := by
  intro X hP hw hK hc i pins s σ H E I hf st hg
  subst hP hw hK
  obtain ⟨hi, st⟩ := st
  obtain ⟨f0, f1, f2, f3, f4, f5⟩ := hf it (by simp)
  have hx : x.cps[i]? = none := by have : x.cps.size ≤ i := hg; simp; omega
  rcases hty with z | z
  ·subst z
   exact wpAny_pyNext_ascii_end (I.ok.hd hc) st hx fun h' eb => ⟨rfl, I.turned (t' := s.toks) (fun b o hb e => eb b o hb e) f0 f1 f3 f4 f5⟩
  ·subst z
   exact wpAny_pyNext_wide_end (I.ok.hd hc) st hx fun h' eb => ⟨rfl, I.turned (t' := s.toks) (fun b o hb e => eb b o hb e) f0 f1 f3 f4 f5⟩
 self := fun _ _ _ _ _ st h => by
  rcases hty with z | z
  ·subst z; exact wpAny_pyIter_striter_ascii st.2 h
  ·subst z; exact wpAny_pyIter_striter_wide st.2 h
theorem Qga : IterR X tg (fun x H C => ∃ y, x = .str y ∧ C (Its y) H) := by
 intro pins s1 σ H1 x v C I1 r1 q1
 obtain ⟨y, rfl, q⟩ := q1
 obtain ⟨t, rfl⟩ := r1
 have fin : ∀ ty, (ty = "str_ascii_iterator" ∨ ty = "str_iterator") → PIE X pins σ tg C (.ref s1.heap.objs.size) { s1 with heap := s1.heap.push { cls := .type ty, data := .fields #[.str y t, .int 0 0] } } := fun ty hty => by
  refine ⟨s1.heap.objs.size, [s1.heap.objs.size], _, _, H1, rfl, I1.kept (t' := s1.toks) fun b o e => Heap.get?_push_of_some _ e, Qcr _ y ty t hty, ⟨Nat.zero_le _, _, Heap.get?_push_size _ rfl, rfl, rfl⟩, fun b hb => ?_, q⟩
  have e : b = s1.heap.objs.size := by simpa using hb
  subst e
  exact I1.fpOk (Nat.le_refl _) (I1.hok.fresh (Nat.le_refl _))
 cases ha : y.cps.all (· < 128)
 ·exact wpAny_pyIter_wide ha (fin _ (.inr rfl))
 ·exact wpAny_pyIter_ascii ha (fin _ (.inl rfl))
end
noncomputable def GX (h : MH) : W → Option (List W × Option Nat)
 | .tup ws => some (ws, none)
 | .lst ws => some (ws, none)
 | .frz ws => some (ws, none)
 | .str x => some (YZ x, none)
 | .ref n => match h[n]? with | some (.lst ws) => some (ws, some n) | _ => none
 | _ => none
noncomputable def Ja (m : ME) : MI := fun σ h => (m σ h).bind fun p => (GX p.2 p.1).map fun q => (q.1, q.2, p.2)
section
variable {K : PySem.W.Frag} {R : Rn}
theorem WG {a : Addr} {xs : List V} {ws : List W} (hq : SqL K R.F a xs) (r : Rws K R ws xs) : ItOk K R (Itl K a) ws none where
 go := fun i w R' h H x rh _ e => by
  obtain ⟨v, h1, _⟩ := r.get e
  exact ⟨xs, v, Vc (fun b o z => rh.sub b o (x.f b o z)) hq, h1⟩
 yld := fun i w R' h H x H' e rh _ ew hy => by
  obtain ⟨rfl, hx⟩ := hy
  obtain ⟨v, h1, h2⟩ := r.get ew
  have := hx xs (Vc (fun b o z => rh.sub b o (e.f b o z)) hq)
  rw [h1] at this; cases this
  exact ⟨R', Ext.refl _, rh, Rw.mono e _ _ h2⟩
 stop := fun i R' h H x rh _ hl => ⟨xs, Vc (fun b o z => rh.sub b o (x.f b o z)) hq, by rw [← r.length]; exact hl⟩
theorem Qb7 {a : Addr} {xs : List V} {ws : List W} (hq : SqT K R.F a xs) (r : Rws K R ws xs) : ItOk K R (Itt K a) ws none where
 go := fun i w R' h H x rh _ e => by
  obtain ⟨v, h1, _⟩ := r.get e
  exact ⟨xs, v, VL (fun b o z => rh.sub b o (x.f b o z)) hq, h1⟩
 yld := fun i w R' h H x H' e rh _ ew hy => by
  obtain ⟨rfl, hx⟩ := hy
  obtain ⟨v, h1, h2⟩ := r.get ew
  have := hx xs (VL (fun b o z => rh.sub b o (e.f b o z)) hq)
  rw [h1] at this; cases this
  exact ⟨R', Ext.refl _, rh, Rw.mono e _ _ h2⟩
 stop := fun i R' h H x rh _ hl => ⟨xs, VL (fun b o z => rh.sub b o (x.f b o z)) hq, by rw [← r.length]; exact hl⟩
theorem Qb5 {n : Nat} {ws : List W} (hn : n < R.N) : ItOk K R (Itl K (R.ρ n)) ws (some n) where
 go := fun i w R' h H x rh hl e => by
  obtain ⟨xs, h1, h2⟩ := rh.obj n _ (hl n rfl)
  obtain ⟨v, h3, _⟩ := h2.get e
  rw [x.ρ n hn] at h1
  exact ⟨xs, v, SqL.of h1, h3⟩
 yld := fun i w R' h H x H' e rh hl ew hy => by
  obtain ⟨rfl, hx⟩ := hy
  obtain ⟨xs, h1, h2⟩ := rh.obj n _ (hl n rfl)
  obtain ⟨v, h3, h4⟩ := h2.get ew
  rw [e.ρ n hn] at h1
  have := hx xs (SqL.of h1)
  rw [h3] at this; cases this
  exact ⟨R', Ext.refl _, rh, h4⟩
 stop := fun i R' h H x rh hl hle => by
  obtain ⟨xs, h1, h2⟩ := rh.obj n _ (hl n rfl)
  rw [x.ρ n hn] at h1
  exact ⟨xs, SqL.of h1, by rw [← h2.length]; exact hle⟩
theorem QcQ {x : Str} : ItOk K R (Its x) (YZ x) none where
 go := fun i w R' h H _ _ _ e => by
  have := (List.getElem?_eq_some_iff.mp e).1
  show i < x.cps.size
  simpa [YZ] using this
 yld := fun i w R' h H v H' e rh _ ew hy => by
  obtain ⟨rfl, c, hc, rfl⟩ := hy
  unfold YZ at ew
  rw [List.getElem?_map, Array.getElem?_toList, hc] at ew
  cases ew
  exact ⟨R', Ext.refl _, rh, Rw.str _⟩
 stop := fun i R' h H _ _ _ hl => by
  show x.cps.size ≤ i
  simpa [YZ] using hl
theorem Yn {lo : Int} {n : Nat} : ItOk K R (Itr lo n) ((List.range n).map fun (i : Nat) => W.int (lo + (i : Int))) none where
 go := fun i w R' h H _ _ _ e => by
  have := (List.getElem?_eq_some_iff.mp e).1
  show i < n
  simpa using this
 yld := fun i w R' h H v H' e rh _ ew hy => by
  obtain ⟨rfl, rfl⟩ := hy
  rw [List.getElem?_map] at ew
  obtain ⟨j, hj, e2⟩ := Option.map_eq_some_iff.mp ew
  rw [List.getElem?_range (by have := (List.getElem?_eq_some_iff.mp hj).1; simpa using this)] at hj
  cases hj
  cases e2
  exact ⟨R', Ext.refl _, rh, Rw.int _⟩
 stop := fun i R' h H _ _ _ hl => by
  show n ≤ i
  simpa using hl
end
section
variable {X : Cx} {tg a b c : Expr} {ma : ME} {ms : MA} {pos p : Pos}
theorem J9 (ha : PM X a ma) : PMI X tg a (Ja ma) := by
 intro pins s σ H C I q
 obtain ⟨R, σi, h, items, src, h', rh, st, e, k⟩ := q
 obtain ⟨⟨w, h1⟩, e1, e2⟩ := Option.bind_eq_some_iff.mp e
 obtain ⟨⟨its, sr⟩, e3, e4⟩ := Option.map_eq_some_iff.mp e2
 cases e4
 refine thn (ha pins s σ H _ I ⟨R, σi, h, w, h1, rh, st, e1, fun R1 H1 v x1 rh1 rv => ?_⟩) fun v s1 ⟨x, H1, I1, r1, q1⟩ => ((it_list.or Qgq).or Qga) pins s1 σ H1 x v C I1 r1 q1
 cases w with
 | tup ws =>
  cases e3
  obtain ⟨ad, xs, rfl, h2, h3⟩ := rh1.tupAt rv
  unfold Rw at rv
  obtain ⟨ad', xs', e5, e6, e7⟩ := rv
  cases e5
  exact .inl (.inr ⟨_, rfl, ⟨xs, h2⟩, k R1 H1 _ x1 rh1 (Qb7 e6 e7)⟩)
 | lst ws =>
  cases e3
  unfold Rw at rv
  obtain ⟨ad', xs', rfl, e6, e7⟩ := rv
  exact .inl (.inl ⟨_, rfl, ⟨xs', SqL.of (rh1.sub _ _ e6)⟩, k R1 H1 _ x1 rh1 (WG (SqL.of e6) e7)⟩)
 | frz ws =>
  cases e3
  unfold Rw at rv
  obtain ⟨ad', xs', rfl, e6, e7⟩ := rv
  exact .inl (.inl ⟨_, rfl, ⟨xs', Vc rh1.sub e6⟩, k R1 H1 _ x1 rh1 (WG e6 e7)⟩)
 | str y =>
  cases e3
  rw [rv.str_eq]
  exact .inr ⟨y, rfl, k R1 H1 _ x1 rh1 QcQ⟩
 | ref n =>
  simp only [GX] at e3
  split at e3
  ·rename_i ws hn
   cases e3
   obtain ⟨hlt, rfl, xs, h2, h3⟩ := rh1.refAt rv hn
   exact .inl (.inl ⟨_, rfl, ⟨xs, SqL.of h2⟩, k R1 H1 _ x1 rh1 (Qb5 hlt)⟩)
  ·cases e3
 | _ => cases e3
noncomputable def QR (lo : Int) (n : Nat) : List W := (List.range n).map fun (i : Nat) => W.int (lo + (i : Int))
noncomputable def Ya (ms : MA) : MI := fun σ h => (ms σ h).bind fun p => match p.1 with
 | [.int j] => if -(2 ^ 62) ≤ j ∧ j < 2 ^ 62 then some (QR 0 j.toNat, none, p.2) else none
 | _ => none
noncomputable def Gq (ms : MA) : MI := fun σ h => (ms σ h).bind fun p => match p.1 with
 | [.int i, .int j] => if -(2 ^ 62) ≤ i ∧ i < 2 ^ 62 ∧ -(2 ^ 62) ≤ j ∧ j < 2 ^ 62 then some (QR i (j - i).toNat, none, p.2) else none
 | _ => none
theorem XU (hg : Gl X "range") (hm : X.mg "range" = none) (ha : PMA X [a] ms) (hs : starEach [a] X.env = [(false, eval a X.env)] := by rfl) : PMI X tg (.Call (.Name "range" p) [a] [] pos) (Ya ms) :=
 Qa8 (G0 hg hm ha hs) fun σ H C ⟨R, σi, h, items, src, h', rh, st, e, k⟩ => by
  obtain ⟨⟨ws, h1⟩, e1, e2⟩ := Option.bind_eq_some_iff.mp e
  refine ⟨R, σi, h, ws, h1, rh, st, e1, fun R1 H1 vs x1 rh1 rv => ?_⟩
  split at e2
  ·rename_i j hj
   simp only at hj
   subst hj
   split at e2
   ·rename_i hb
    cases e2
    rw [Rws.cons_iff] at rv
    obtain ⟨v, vs', rfl, r1, r2⟩ := rv
    rw [Rws.nil_iff] at r2
    subst r2
    rw [r1.int_eq]
    exact ⟨j, rfl, hb.1, hb.2, k R1 H1 _ x1 rh1 Yn⟩
   ·cases e2
  ·cases e2
theorem Qak (hg : Gl X "range") (hm : X.mg "range" = none) (ha : PMA X [a, b] ms) (hs : starEach [a, b] X.env = [(false, eval a X.env), (false, eval b X.env)] := by rfl) (hs2 : starEach [b] X.env = [(false, eval b X.env)] := by rfl) : PMI X tg (.Call (.Name "range" p) [a, b] [] pos) (Gq ms) :=
 Qa8 (GW hg hm ha hs hs2) fun σ H C ⟨R, σi, h, items, src, h', rh, st, e, k⟩ => by
  obtain ⟨⟨ws, h1⟩, e1, e2⟩ := Option.bind_eq_some_iff.mp e
  refine ⟨R, σi, h, ws, h1, rh, st, e1, fun R1 H1 vs x1 rh1 rv => ?_⟩
  split at e2
  ·rename_i i j hj
   simp only at hj
   subst hj
   split at e2
   ·rename_i hb
    cases e2
    rw [Rws.cons_iff] at rv
    obtain ⟨v, vs', rfl, r1, r2⟩ := rv
    rw [Rws.cons_iff] at r2
    obtain ⟨v2, vs2, rfl, r3, r4⟩ := r2
    rw [Rws.nil_iff] at r4
    subst r4
    rw [r1.int_eq, r3.int_eq]
    exact ⟨i, j, rfl, hb, k R1 H1 _ x1 rh1 Yn⟩
   ·cases e2
  ·cases e2
end
noncomputable def QaQ (cp : List (Option Nat)) (σ : MSt) : MSt := cp.map fun o => match o with | none => none | some j => match σ[j]? with | some v => v | none => none
theorem Rst.cap {K : PySem.W.Frag} {R : Rn} {σi : MSt} {σ : L2.St} (s : Rst K R σi σ) (cp : List (Option Nat)) : Rst K R (QaQ cp σi) (Wo cp σ) := by
 unfold QaQ Wo
 refine ⟨by simp, fun i w e => ?_⟩
 rw [List.getElem?_map] at e ⊢
 obtain ⟨o, h1, h2⟩ := Option.map_eq_some_iff.mp e
 rw [h1]
 cases o with
 | none => cases h2
 | some j =>
  simp only at h2
  split at h2
  ·rename_i u hu
   subst h2
   obtain ⟨v, h3, h4⟩ := s.2 j w hu
   exact ⟨v, by simp [h3], h4⟩
  ·cases h2
open Classical in
noncomputable def ZU (fin : List W → MH → Option (W × MH)) (items : List W) (src : Option Nat) (b : MG) (mt : MT) (me : ME) : List W → List W → MSt → MH → Option (W × MH)
 | [], acc, _, h => if Qc6 src items h then fin acc h else none
 | w :: r, acc, τ, h => if Qc6 src items h then (b w τ h).bind fun τ1 => (mt τ1 h).bind fun q => match q.1 with
   | true => (me τ1 q.2).bind fun v => if acc.length < sizeLine then ZU fin items src b mt me r (acc ++ [v.1]) τ1 v.2 else none
   | false => ZU fin items src b mt me r acc τ1 q.2
  else none
noncomputable def Jd (fin : List W → MH → Option (W × MH)) (mi : MI) (cp : List (Option Nat)) (b : MG) (mt : MT) (me : ME) : ME := fun σ h => (mi σ h).bind fun p => ZU fin p.1 p.2.1 b mt me p.1 [] (QaQ cp σ) p.2.2
noncomputable def Ku : MT := fun _ h => some (true, h)
noncomputable def V4 (acc : List W) (h : MH) : Option (W × MH) := some (.lst acc, h)
noncomputable def QdI (acc : List W) (h : MH) : Option (W × MH) := some (.ref h.length, h ++ [.lst acc])
noncomputable def Uh (K : PySem.W.Frag) (fin : List W → MH → Option (W × MH)) : Prop := ∀ R h H acc accV w h' D, Rh K R h H → Rws K R acc accV → fin acc h = some (w, h') → H D = none → ∃ R', Ext R R' ∧ Rh K R' h' (upd H D (.lst accV)) ∧ Rw K R' w (.ref D)
theorem Vj {K : PySem.W.Frag} : Uh K V4 := fun R h H acc accV w h' D rh r e hD => by
 cases e
 exact rh.lstI hD r
theorem QaB {K : PySem.W.Frag} : Uh K QdI := fun R h H acc accV w h' D rh r e hD => by
 cases e
 exact rh.new hD fun R' x' => ⟨accV, rfl, Rws.mono x' _ _ r⟩
section
variable {X : Cx} {elt tg iter c : Expr} {scope : Scope} {pos : Pos} {cl : List (Str × Addr)} {Nb : List Str} {cp : List (Option Nat)} {mi : MI} {b : MG} {mt : MT} {me : ME} {fin : List W → MH → Option (W × MH)}
theorem Yw {K : PySem.W.Frag} (hf : Uh K fin) {σ : L2.St} {H : Hp} {Q : VK} (q : tI K (Jd fin mi cp b mt me) σ H Q) : Qcz (tII K mi) cp (tIG K b) (tIT K mt) (tI K me) σ H Q := by
 obtain ⟨R, σi, h, w, h', rh, s, e, k⟩ := q
 obtain ⟨⟨items, src, h1⟩, e1, e2⟩ := Option.bind_eq_some_iff.mp e
 refine ⟨R, σi, h, items, src, h1, rh, s, e1, fun R1 H1 J x1 rh1 it => ?_⟩
 refine ⟨fun i n acc τ H => i + n = items.length ∧ ∃ R2 σ2 h2 accW, Ext R1 R2 ∧ Rh K R2 h2 H ∧ Rst K R2 σ2 τ ∧ Rws K R2 accW acc ∧ ZU fin items src b mt me (items.drop i) accW σ2 h2 = some (w, h') ∧ After K R2 w h' Q, ⟨items.length, by simp, R1, QaQ cp σi, h1, [], Ext.refl _, rh1, (s.mono x1).cap cp, Rws.nil, by simpa using e2, k.ext x1⟩, ?_⟩
 rintro i n acc τ H2 ⟨hin, R2, σ2, h2, accW, x2, rh2, s2, ra, e3, k2⟩
 by_cases hi : i < items.length
 ·obtain ⟨y, hy⟩ : ∃ y, items[i]? = some y := ⟨items[i], List.getElem?_eq_getElem hi⟩
  have hd : items.drop i = y :: items.drop (i + 1) := by
   rw [List.drop_eq_getElem_cons hi]
   rw [List.getElem?_eq_getElem hi] at hy
   cases hy; rfl
  rw [hd] at e3
  unfold ZU at e3
  split at e3
  ·rename_i hl
   obtain ⟨σ3, e4, e5⟩ := Option.bind_eq_some_iff.mp e3
   obtain ⟨⟨t, h3⟩, e6, e7⟩ := Option.bind_eq_some_iff.mp e5
   refine .inr ⟨it.go i y R2 h2 H2 x2 rh2 hl hy, fun x H' hyl => ?_⟩
   obtain ⟨R3, x3, rh3, rw3⟩ := it.yld i y R2 h2 H2 x H' x2 rh2 hl hy hyl
   refine ⟨R3, σ2, h2, y, σ3, rh3, s2.mono x3, rw3, e4, fun R4 H4 τ4 x4 rh4 s4 => ?_⟩
   refine ⟨R4, σ3, h2, t, h3, rh4, s4, e6, fun R5 H5 x5 rh5 => ?_⟩
   cases t with
   | true =>
    obtain ⟨⟨v, h4⟩, e8, e9⟩ := Option.bind_eq_some_iff.mp e7
    dsimp only at e9
    split at e9
    ·rename_i hz
     refine Qe2 ⟨R5, σ3, h3, v, h4, rh5, s4.mono x5, e8, fun R6 H6 u x6 rh6 rv => ⟨by rw [← ra.length]; exact hz, n - 1, by omega, by omega, R6, σ3, h4, accW ++ [v], x2.trans (x3.trans (x4.trans (x5.trans x6))), rh6, s4.mono (x5.trans x6), ?_, e9, k2.ext (x3.trans (x4.trans (x5.trans x6)))⟩⟩
     exact Rws.append (Rws.mono (x3.trans (x4.trans (x5.trans x6))) _ _ ra) (Rws.cons rv Rws.nil)
    ·cases e9
   | false =>
    exact QeZ ⟨n - 1, by omega, by omega, R5, σ3, h3, accW, x2.trans (x3.trans (x4.trans x5)), rh5, s4.mono x5, Rws.mono (x3.trans (x4.trans x5)) _ _ ra, e7, k2.ext (x3.trans (x4.trans x5))⟩
  ·cases e3
 ·have hd : items.drop i = [] := List.drop_eq_nil_of_le (by omega)
  rw [hd] at e3
  unfold ZU at e3
  split at e3
  ·rename_i hl
   refine .inl ⟨it.stop i R2 h2 H2 x2 rh2 hl (by omega), fun D hD => ?_⟩
   obtain ⟨R3, x3, rh3, rw3⟩ := hf R2 h2 H2 accW acc w h' D rh2 ra e3 hD
   exact k2 R3 _ _ x3 rh3 rw3
  ·cases e3
theorem Vz (hf : Uh X.K fin) (hc : X.calm = true) (B : BlkOk X scope cl Nb cp) (hi : PMI X tg iter mi) (hg : ∀ s₀ H₀ C ex pn, PMG (Mi.blk X scope cl Nb s₀ H₀ C ex pn) tg b)
  (he : ∀ s₀ H₀ C ex pn, PM (Mi.blk X scope cl Nb s₀ H₀ C ex pn) elt me) (hs : ∀ x, foldedSetIterable iter X.env x = pure x := by intro _; rfl) :
  PM X (.ListComp elt [⟨tg, iter, [], 0⟩] scope pos) (Jd fin mi cp b Ku me) :=
 ZD (Qaf (g := tIG X.K b) (te := tI X.K me) (tt := tIT X.K Ku) hc B hi hg (fun s₀ H₀ C ex pn pins s τ H Q I q => wpAny_tests_nil (by
  obtain ⟨R, σi, h, t, h', rh, st, e, k⟩ := q
  cases e
  exact ⟨H, I, k R H (Ext.refl _) rh⟩)) he hs) fun _ _ _ q => Yw hf q
theorem QbM (hf : Uh X.K fin) (hc : X.calm = true) (B : BlkOk X scope cl Nb cp) (hi : PMI X tg iter mi) (hg : ∀ s₀ H₀ C ex pn, PMG (Mi.blk X scope cl Nb s₀ H₀ C ex pn) tg b)
  (ht : ∀ s₀ H₀ C ex pn, PMT (Mi.blk X scope cl Nb s₀ H₀ C ex pn) c mt)
  (he : ∀ s₀ H₀ C ex pn, PM (Mi.blk X scope cl Nb s₀ H₀ C ex pn) elt me) (hs : ∀ x, foldedSetIterable iter X.env x = pure x := by intro _; rfl) :
  PM X (.ListComp elt [⟨tg, iter, [c], 0⟩] scope pos) (Jd fin mi cp b mt me) :=
 ZD (Qaf (g := tIG X.K b) (te := tI X.K me) (tt := tIT X.K mt) hc B hi hg (fun s₀ H₀ C ex pn pins s τ H Q I q => wpAny_tests_one (ht s₀ H₀ C ex pn pins s τ H Q I q)) he hs) fun _ _ _ q => Yw hf q
end
end Mi

namespace Mi
open PySem PySem.Spec PyProof.Rows L2 PySem.SeqAt

mutual
noncomputable def eqW : W → W → Bool
 | .non, .non => true
 | .bl a, .bl b => a == b
 | .bl a, .int b => (if a then 1 else 0) == b
 | .int a, .bl b => a == (if b then 1 else 0)
 | .int a, .int b => a == b
 | .str a, .str b => a == b
 | .tup a, .tup b => XO a b
 | .lst a, .lst b => XO a b
 | _, _ => false
noncomputable def XO : List W → List W → Bool
 | [], [] => true
 | x :: xs, y :: ys => eqW x y && XO xs ys
 | _, _ => false
end
noncomputable def Jp {α β : Type} (f : α → Option β) : List α → Option (List β)
 | [] => some []
 | x :: xs => (f x).bind fun y => (Jp f xs).map (y :: ·)
noncomputable def drf (h : MH) : Nat → W → Option W
 | 0, _ => none
 | n + 1, w => match w with
  | .tup ws => (Jp (drf h n) ws).map .tup
  | .lst ws => (Jp (drf h n) ws).map .lst
  | .frz ws => (Jp (drf h n) ws).map .lst
  | .ref k => match h[k]? with | some (.lst ws) => (Jp (drf h n) ws).map .lst | _ => none
  | .ty _ => none
  | .non => some .non
  | .bl b => some (.bl b)
  | .int i => some (.int i)
  | .str x => some (.str x)
theorem QV {α β : Type} {f : α → Option β} : ∀ {xs : List α} {ys : List β}, Jp f xs = some ys → xs.length = ys.length ∧ ∀ (i : Nat) x, xs[i]? = some x → ∃ y, ys[i]? = some y ∧ f x = some y
 | [], ys, e => by cases e; exact ⟨rfl, fun i x h => by simp at h⟩
 | x :: xs, ys, e => by
  obtain ⟨y, h1, h2⟩ := Option.bind_eq_some_iff.mp e
  obtain ⟨zs, h3, h4⟩ := Option.map_eq_some_iff.mp h2
  subst h4
  obtain ⟨l, q⟩ := QV h3
  refine ⟨by simp [l], fun i z hz => ?_⟩
  cases i with
  | zero => simp at hz; subst hz; exact ⟨y, by simp, h1⟩
  | succ i => simp at hz; obtain ⟨u, h5, h6⟩ := q i z hz; exact ⟨u, by simp [h5], h6⟩
theorem XF : ∀ {a b : List W}, a.length ≠ b.length → XO a b = false
 | [], [], h => absurd rfl h
 | [], _ :: _, _ => by unfold XO; rfl
 | _ :: _, [], _ => by unfold XO; rfl
 | x :: xs, y :: ys, h => by
  unfold XO
  rw [XF (a := xs) (b := ys) (fun z => h (by simp [z])), Bool.and_false]
theorem XE : ∀ {a b : List W}, a.length = b.length → XO a b = (List.range a.length).all fun j => match a[j]?, b[j]? with | some x, some y => eqW x y | _, _ => false
 | [], [], _ => by unfold XO; rfl
 | x :: xs, y :: ys, h => by
  have ih := XE (a := xs) (b := ys) (by simpa using h)
  unfold XO
  rw [ih, List.length_cons, List.range_succ_eq_map, List.all_cons, List.all_map]
  simp [Function.comp_def]
inductive Kd (K : PySem.W.Frag) (R : Rn) (h : MH) (H : Hp) (n : Nat) (v : V) : W → Prop where
 | flat {a : W} (f : QeU v = true) (e : (v = .non ∧ a = .non) ∨ (∃ b, v = .bl b ∧ a = .bl b) ∨ (∃ i, v = .int i ∧ a = .int i) ∨ ∃ x, v = .str x ∧ a = .str x) : Kd K R h H n v a
 | lst {ad : Addr} {xs : List V} {ws as : List W} (e : v = .ref ad) (q : SqL K H ad xs) (r : Rws K R ws xs) (m : Jp (drf h n) ws = some as) : Kd K R h H n v (.lst as)
 | tup {ad : Addr} {xs : List V} {ws as : List W} (e : v = .ref ad) (q : SqT K H ad xs) (r : Rws K R ws xs) (m : Jp (drf h n) ws = some as) : Kd K R h H n v (.tup as)
theorem Xb {K : PySem.W.Frag} {R : Rn} {h : MH} {H : Hp} {n : Nat} {w a : W} {v : V} (rh : Rh K R h H) (r : Rw K R w v) (e : drf h (n + 1) w = some a) : Kd K R h H n v a := by
 cases w with
 | non => rw [r.non_eq]; cases e; exact .flat rfl (.inl ⟨rfl, rfl⟩)
 | bl b => rw [r.bl_eq]; cases e; exact .flat rfl (.inr (.inl ⟨b, rfl, rfl⟩))
 | int i => rw [r.int_eq]; cases e; exact .flat rfl (.inr (.inr (.inl ⟨i, rfl, rfl⟩)))
 | str x => rw [r.str_eq]; cases e; exact .flat rfl (.inr (.inr (.inr ⟨x, rfl, rfl⟩)))
 | tup ws =>
  obtain ⟨ad, xs, e1, q, r1⟩ := rh.tupAt r
  obtain ⟨as, m, e2⟩ := Option.map_eq_some_iff.mp e
  subst e2
  exact .tup e1 q r1 m
 | lst ws =>
  obtain ⟨ad, xs, e1, q, r1⟩ := rh.lstAt r
  obtain ⟨as, m, e2⟩ := Option.map_eq_some_iff.mp e
  subst e2
  exact .lst e1 (SqL.of q) r1 m
 | frz ws =>
  obtain ⟨ad, xs, e1, q, r1⟩ := rh.frzAt r
  obtain ⟨as, m, e2⟩ := Option.map_eq_some_iff.mp e
  subst e2
  exact .lst e1 q r1 m
 | ref k =>
  simp only [drf] at e
  split at e
  ·rename_i ws hk
   obtain ⟨as, m, e2⟩ := Option.map_eq_some_iff.mp e
   subst e2
   obtain ⟨_, e1, xs, q, r1⟩ := rh.refAt r hk
   exact .lst e1 (SqL.of q) r1 m
  ·cases e
 | ty _ => cases e
section
variable {X : Cx} {pins : List (Addr × Obj)} {σ : L2.St} {H : Hp} {s : Shared} {R : Rn} {h : MH}
theorem KH {K : PySem.W.Frag} {n : Nat} (ih : ∀ w1 w2 v a b, Rw K R w1 v → Rw K R w2 v → drf h n w1 = some a → drf h n w2 = some b → a = b) :
  ∀ {ws1 ws2 : List W} {xs : List V} {a b : List W}, Rws K R ws1 xs → Rws K R ws2 xs → Jp (drf h n) ws1 = some a → Jp (drf h n) ws2 = some b → a = b
 | [], ws2, xs, a, b, r1, r2, m1, m2 => by
  rw [Rws.nil_iff] at r1; subst r1
  cases ws2 with
  | nil => cases m1; cases m2; rfl
  | cons w ws => rw [Rws.cons_iff] at r2; obtain ⟨_, _, z, _⟩ := r2; cases z
 | w :: ws1, ws2, xs, a, b, r1, r2, m1, m2 => by
  rw [Rws.cons_iff] at r1
  obtain ⟨v, xs', rfl, p1, p2⟩ := r1
  cases ws2 with
  | nil => rw [Rws.nil_iff] at r2; cases r2
  | cons w' ws2 =>
   rw [Rws.cons_iff] at r2
   obtain ⟨_, _, z, q1, q2⟩ := r2
   cases z
   obtain ⟨y, h1, h2⟩ := Option.bind_eq_some_iff.mp m1
   obtain ⟨zs, h3, h4⟩ := Option.map_eq_some_iff.mp h2
   obtain ⟨y', h1', h2'⟩ := Option.bind_eq_some_iff.mp m2
   obtain ⟨zs', h3', h4'⟩ := Option.map_eq_some_iff.mp h2'
   subst h4 h4'
   rw [ih w w' v y y' p1 q1 h1 h1', KH ih p2 q2 h3 h3']
theorem XW (I : Inv X pins σ H s) {a : Addr} {xs ys : List V} (q : SqL X.K H a xs) (q' : SqT X.K H a ys) : False := by
 obtain ⟨its, _, p, _⟩ := I.list q
 obtain ⟨its', _, p', _⟩ := I.tuple q'
 obtain ⟨o, n, h1, h2, _⟩ := p
 obtain ⟨o', h1', h2', _⟩ := p'
 rw [h1] at h1'; cases h1'
 rw [h2] at h2'
 exact absurd h2' (by simp)
theorem Kq (I : Inv X pins σ H s) (rh : Rh X.K R h H) : ∀ (n : Nat) (w1 w2 : W) (v : V) (a b : W), Rw X.K R w1 v → Rw X.K R w2 v → drf h n w1 = some a → drf h n w2 = some b → a = b
 | 0, _, _, _, _, _, _, _, e, _ => by cases e
 | n + 1, w1, w2, v, a, b, r1, r2, e1, e2 => by
  have ih := Kq I rh n
  cases Xb rh r1 e1 with
  | flat f z =>
   cases Xb rh r2 e2 with
   | flat f' z' =>
    rcases z with ⟨rfl, rfl⟩ | ⟨_, rfl, rfl⟩ | ⟨_, rfl, rfl⟩ | ⟨_, rfl, rfl⟩ <;> rcases z' with ⟨z1, rfl⟩ | ⟨_, z1, rfl⟩ | ⟨_, z1, rfl⟩ | ⟨_, z1, rfl⟩ <;> cases z1 <;> rfl
   | lst e => subst e; cases f
   | tup e => subst e; cases f
  | lst e q r m =>
   subst e
   cases Xb rh r2 e2 with
   | flat f => cases f
   | lst e' q' r' m' => cases e'; have := I.list_inj q q'; subst this; rw [KH ih r r' m m']
   | tup e' q' => cases e'; exact (XW I q q').elim
  | tup e q r m =>
   subst e
   cases Xb rh r2 e2 with
   | flat f => cases f
   | lst e' q' => cases e'; exact (XW I q' q).elim
   | tup e' q' r' m' => cases e'; have := I.tuple_inj q q'; subst this; rw [KH ih r r' m m']
mutual
theorem YK : ∀ (n : Nat) (w a : W), drf h n w = some a → eqW a a = true
 | 0, _, _, e => by cases e
 | n + 1, w, a, e => by
  cases w with
  | non => cases e; unfold eqW; rfl
  | bl b => cases e; unfold eqW; simp
  | int i => cases e; unfold eqW; simp
  | str x => cases e; unfold eqW; simp
  | tup ws => obtain ⟨as, m, e2⟩ := Option.map_eq_some_iff.mp e; subst e2; unfold eqW; exact VU n ws as m
  | lst ws => obtain ⟨as, m, e2⟩ := Option.map_eq_some_iff.mp e; subst e2; unfold eqW; exact VU n ws as m
  | frz ws => obtain ⟨as, m, e2⟩ := Option.map_eq_some_iff.mp e; subst e2; unfold eqW; exact VU n ws as m
  | ref k =>
   simp only [drf] at e
   split at e
   ·rename_i ws hk
    obtain ⟨as, m, e2⟩ := Option.map_eq_some_iff.mp e; subst e2; unfold eqW; exact VU n ws as m
   ·cases e
  | ty _ => cases e
theorem VU : ∀ (n : Nat) (ws as : List W), Jp (drf h n) ws = some as → XO as as = true
 | n, [], _, m => by cases m; unfold XO; rfl
 | n, w :: ws, _, m => by
  obtain ⟨y, h1, h2⟩ := Option.bind_eq_some_iff.mp m
  obtain ⟨zs, h3, h4⟩ := Option.map_eq_some_iff.mp h2
  subst h4
  unfold XO
  rw [YK n w y h1, VU n ws zs h3]; rfl
end
theorem V7 {n : Nat} {A : Around} (ih : ∀ w1 w2 v1 v2 u1 u2 a b, Rw X.K R w1 v1 → Rw X.K R w2 v2 → RelV v1 u1 → RelV v2 u2 → drf h n w1 = some a → drf h n w2 = some b → EqAt A s u1 u2 (eqW a b))
  {ws1 ws2 as bs : List W} {xs ys : List V} {its its2 : List Value} (r1 : Rws X.K R ws1 xs) (r2 : Rws X.K R ws2 ys) (v1 : Vals xs its) (v2 : Vals ys its2) (m1 : Jp (drf h n) ws1 = some as) (m2 : Jp (drf h n) ws2 = some bs)
  (j : Nat) (h1 : j < its.toArray.size) (h2 : j < its2.toArray.size) : EqAt A s its.toArray[j] its2.toArray[j] (match as[j]?, bs[j]? with | some x, some y => eqW x y | _, _ => false) := by
 have l1 := r1.length; have l2 := v1.length; have l3 := r2.length; have l4 := v2.length
 rw [List.size_toArray] at h1 h2
 obtain ⟨w1, hw1⟩ : ∃ w, ws1[j]? = some w := ⟨ws1[j]'(by omega), List.getElem?_eq_getElem _⟩
 obtain ⟨w2, hw2⟩ : ∃ w, ws2[j]? = some w := ⟨ws2[j]'(by omega), List.getElem?_eq_getElem _⟩
 obtain ⟨x, hx, rx⟩ := r1.get hw1
 obtain ⟨y, hy, ry⟩ := r2.get hw2
 obtain ⟨u, hu, ru⟩ := v1.get hx
 obtain ⟨t, ht, rt⟩ := v2.get hy
 obtain ⟨a, ha, ea⟩ := (QV m1).2 j w1 hw1
 obtain ⟨b, hb, eb⟩ := (QV m2).2 j w2 hw2
 rw [ha, hb]
 have e1 : its.toArray[j] = u := by
  have := hu; rw [List.getElem?_eq_getElem h1] at this; simpa using this
 have e2 : its2.toArray[j] = t := by
  have := ht; rw [List.getElem?_eq_getElem h2] at this; simpa using this
 rw [e1, e2]
 exact ih w1 w2 x y u t a b rx ry ru rt ea eb
theorem U7 (I : Inv X pins σ H s) {n : Nat} {A : Around} (hu : A.units < cLine) (ih : ∀ w1 w2 v1 v2 u1 u2 a b, Rw X.K R w1 v1 → Rw X.K R w2 v2 → RelV v1 u1 → RelV v2 u2 → drf h n w1 = some a → drf h n w2 = some b → EqAt A.in1 s u1 u2 (eqW a b))
  {ad bd : Addr} {ws1 ws2 as bs : List W} {xs ys : List V} (q1 : SqL X.K H ad xs) (q2 : SqL X.K H bd ys) (r1 : Rws X.K R ws1 xs) (r2 : Rws X.K R ws2 ys) (m1 : Jp (drf h n) ws1 = some as) (m2 : Jp (drf h n) ws2 = some bs) : RcAt A s (.ref ad) (.ref bd) (XO as bs) := by
 obtain ⟨its, v1, p1, _⟩ := I.list q1
 obtain ⟨its2, v2, p2, _⟩ := I.list q2
 have l1 := r1.length; have l2 := v1.length; have l3 := r2.length; have l4 := v2.length
 have l5 := (QV m1).1; have l6 := (QV m2).1
 by_cases hl : as.length = bs.length
 ·rw [XE hl]
  have := RcAt.lists (A := A) p1.isList p2.isList (by rw [List.size_toArray, List.size_toArray]; omega) hu (fun j h1 h2 => V7 ih r1 r2 v1 v2 m1 m2 j h1 h2)
  rw [List.size_toArray] at this
  rw [show as.length = its.length by omega]
  exact this
 ·rw [XF hl]
  exact RcAt.lists_lengths p1.isList p2.isList (by rw [List.size_toArray, List.size_toArray]; simp; omega) hu
theorem QbI (I : Inv X pins σ H s) {n : Nat} {A : Around} (hu : A.units < cLine) (ih : ∀ w1 w2 v1 v2 u1 u2 a b, Rw X.K R w1 v1 → Rw X.K R w2 v2 → RelV v1 u1 → RelV v2 u2 → drf h n w1 = some a → drf h n w2 = some b → EqAt A.in1 s u1 u2 (eqW a b))
  {ad bd : Addr} {ws1 ws2 as bs : List W} {xs ys : List V} (q1 : SqT X.K H ad xs) (q2 : SqT X.K H bd ys) (r1 : Rws X.K R ws1 xs) (r2 : Rws X.K R ws2 ys) (m1 : Jp (drf h n) ws1 = some as) (m2 : Jp (drf h n) ws2 = some bs) : RcAt A s (.ref ad) (.ref bd) (XO as bs) := by
 obtain ⟨its, v1, p1, _⟩ := I.tuple q1
 obtain ⟨its2, v2, p2, _⟩ := I.tuple q2
 have l1 := r1.length; have l2 := v1.length; have l3 := r2.length; have l4 := v2.length
 have l5 := (QV m1).1; have l6 := (QV m2).1
 have := RcAt.tuples (A := A) (show s.heap.IsTuple ad its.toArray from p1) (show s.heap.IsTuple bd its2.toArray from p2) hu (fun j h1 h2 => V7 ih r1 r2 v1 v2 m1 m2 j h1 h2)
 rw [List.size_toArray, List.size_toArray] at this
 by_cases hl : as.length = bs.length
 ·rw [XE hl]
  rw [show min its.length its2.length = as.length by omega, show (its.length == its2.length) = true by simp; omega, Bool.and_true] at this
  exact this
 ·rw [XF hl]
  rw [show (its.length == its2.length) = false by simp; omega, Bool.and_false] at this
  exact this
theorem UZ (I : Inv X pins σ H s) (rh : Rh X.K R h H) : ∀ (n : Nat) (A : Around), A.units + n < cLine → ∀ (w1 w2 : W) (v1 v2 : V) (u1 u2 : Value) (a b : W), Rw X.K R w1 v1 → Rw X.K R w2 v2 → RelV v1 u1 → RelV v2 u2 → drf h n w1 = some a → drf h n w2 = some b → EqAt A s u1 u2 (eqW a b)
 | 0, _, _, _, _, _, _, _, _, _, _, _, _, _, _, e, _ => by cases e
 | n + 1, A, hu, w1, w2, v1, v2, u1, u2, a, b, r1, r2, t1, t2, e1, e2 => by
  have hu0 : A.units < cLine := by omega
  have ih := UZ I rh n A.in1 (by show A.units + 1 + n < cLine; omega)
  have isl : ∀ {ad : Addr} {xs : List V}, SqL X.K H ad xs → ∃ its : Array Value, s.heap.IsList ad its := fun q => by
   obtain ⟨its, _, p, _⟩ := I.list q; exact ⟨_, p.isList⟩
  have ist : ∀ {ad : Addr} {xs : List V}, SqT X.K H ad xs → ∃ its : Array Value, s.heap.IsTuple ad its := fun q => by
   obtain ⟨its, _, p, _⟩ := I.tuple q; exact ⟨_, p⟩
  cases Xb rh r1 e1 with
  | flat f z =>
   cases Xb rh r2 e2 with
   | flat f' z' =>
    have := Qe7 (A := A) (s := s) t1 t2 f f'
    rcases z with ⟨rfl, rfl⟩ | ⟨_, rfl, rfl⟩ | ⟨_, rfl, rfl⟩ | ⟨_, rfl, rfl⟩ <;> rcases z' with ⟨rfl, rfl⟩ | ⟨_, rfl, rfl⟩ | ⟨_, rfl, rfl⟩ | ⟨_, rfl, rfl⟩ <;> (unfold eqW; exact this)
   | lst e q =>
    subst e
    cases t2
    obtain ⟨its, p⟩ := isl q
    rcases z with ⟨rfl, rfl⟩ | ⟨_, rfl, rfl⟩ | ⟨_, rfl, rfl⟩ | ⟨_, rfl, rfl⟩
    ·cases t1; unfold eqW; exact EqAt.none_list p hu0
    ·cases t1; unfold eqW; exact EqAt.bool_list _ p hu0
    ·obtain ⟨t, rfl⟩ := t1; unfold eqW; exact EqAt.int_list _ t p hu0
    ·obtain ⟨t, rfl⟩ := t1; unfold eqW; exact EqAt.str_list _ t p hu0
   | tup e q =>
    subst e
    cases t2
    obtain ⟨its, p⟩ := ist q
    rcases z with ⟨rfl, rfl⟩ | ⟨_, rfl, rfl⟩ | ⟨_, rfl, rfl⟩ | ⟨_, rfl, rfl⟩
    ·cases t1; unfold eqW; exact EqAt.none_tuple p hu0
    ·cases t1; unfold eqW; exact EqAt.bool_tuple _ p hu0
    ·obtain ⟨t, rfl⟩ := t1; unfold eqW; exact EqAt.int_tuple _ t p hu0
    ·obtain ⟨t, rfl⟩ := t1; unfold eqW; exact EqAt.str_tuple _ t p hu0
  | @lst ad1 _ _ _ e q r m =>
   subst e
   cases t1
   obtain ⟨its, p⟩ := isl q
   have k2 := Xb rh r2 e2
   cases k2 with
   | flat f' z' =>
    rcases z' with ⟨rfl, rfl⟩ | ⟨_, rfl, rfl⟩ | ⟨_, rfl, rfl⟩ | ⟨_, rfl, rfl⟩
    ·cases t2; unfold eqW; exact EqAt.list_none p hu0
    ·cases t2; unfold eqW; exact EqAt.list_bool _ p hu0
    ·obtain ⟨t, rfl⟩ := t2; unfold eqW; exact EqAt.list_int _ t p hu0
    ·obtain ⟨t, rfl⟩ := t2; unfold eqW; exact EqAt.list_str _ t p hu0
   | @lst ad2 _ _ _ e' q' r' m' =>
    subst e'
    cases t2
    by_cases hab : ad1 = ad2
    ·subst hab
     have := Kq I rh (n + 1) w1 w2 _ _ _ r1 r2 e1 e2
     rw [this, YK (n + 1) w2 _ e2]
     exact EqAt.same _
    ·unfold eqW
     exact EqAt.of_refs hab (U7 I hu0 ih q q' r r' m m')
   | tup e' q' =>
    subst e'
    cases t2
    obtain ⟨its', p'⟩ := ist q'
    unfold eqW; exact EqAt.list_tuple p p' hu0
  | @tup ad1 _ _ _ e q r m =>
   subst e
   cases t1
   obtain ⟨its, p⟩ := ist q
   have k2 := Xb rh r2 e2
   cases k2 with
   | flat f' z' =>
    rcases z' with ⟨rfl, rfl⟩ | ⟨_, rfl, rfl⟩ | ⟨_, rfl, rfl⟩ | ⟨_, rfl, rfl⟩
    ·cases t2; unfold eqW; exact EqAt.tuple_none p hu0
    ·cases t2; unfold eqW; exact EqAt.tuple_bool _ p hu0
    ·obtain ⟨t, rfl⟩ := t2; unfold eqW; exact EqAt.tuple_int _ t p hu0
    ·obtain ⟨t, rfl⟩ := t2; unfold eqW; exact EqAt.tuple_str _ t p hu0
   | lst e' q' =>
    subst e'
    cases t2
    obtain ⟨its', p'⟩ := isl q'
    unfold eqW; exact EqAt.tuple_list p p' hu0
   | @tup ad2 _ _ _ e' q' r' m' =>
    subst e'
    cases t2
    by_cases hab : ad1 = ad2
    ·subst hab
     have := Kq I rh (n + 1) w1 w2 _ _ _ r1 r2 e1 e2
     rw [this, YK (n + 1) w2 _ e2]
     exact EqAt.same _
    ·unfold eqW
     exact EqAt.of_refs hab (QbI I hu0 ih q q' r r' m m')
end
end Mi

namespace Mi
open PySem PySem.Spec PyProof.Rows L2 PySem.SeqAt
section
variable {X : Cx} {pins : List (Addr × Obj)} {σ : L2.St} {H : Hp} {s : Shared} {R : Rn} {h : MH}
theorem GN (I : Inv X pins σ H s) {n : Nat} {A : Around} (hu : A.units < cLine) (ih : ∀ w1 w2 v1 v2 u1 u2 a b, Rw X.K R w1 v1 → Rw X.K R w2 v2 → RelV v1 u1 → RelV v2 u2 → drf h n w1 = some a → drf h n w2 = some b → EqAt A.in1 s u1 u2 (eqW a b))
  {ad bd : Addr} {ws1 ws2 as bs : List W} {xs ys : List V} (q1 : SqL X.K H ad xs) (q2 : SqL X.K H bd ys) (r1 : Rws X.K R ws1 xs) (r2 : Rws X.K R ws2 ys) (m1 : Jp (drf h n) ws1 = some as) (m2 : Jp (drf h n) ws2 = some bs) : RcNeAt A s (.ref ad) (.ref bd) (!XO as bs) := by
 obtain ⟨its, v1, p1, _⟩ := I.list q1
 obtain ⟨its2, v2, p2, _⟩ := I.list q2
 have l1 := r1.length; have l2 := v1.length; have l3 := r2.length; have l4 := v2.length
 have l5 := (QV m1).1; have l6 := (QV m2).1
 by_cases hl : as.length = bs.length
 ·rw [XE hl]
  have := RcNeAt.lists (A := A) p1.isList p2.isList (by rw [List.size_toArray, List.size_toArray]; omega) hu (fun j h1 h2 => V7 ih r1 r2 v1 v2 m1 m2 j h1 h2)
  rw [List.size_toArray] at this
  rw [show as.length = its.length by omega]
  exact this
 ·rw [XF hl]
  exact RcNeAt.lists_lengths p1.isList p2.isList (by rw [List.size_toArray, List.size_toArray]; simp; omega) hu
theorem Qas (I : Inv X pins σ H s) {n : Nat} {A : Around} (hu : A.units < cLine) (ih : ∀ w1 w2 v1 v2 u1 u2 a b, Rw X.K R w1 v1 → Rw X.K R w2 v2 → RelV v1 u1 → RelV v2 u2 → drf h n w1 = some a → drf h n w2 = some b → EqAt A.in1 s u1 u2 (eqW a b))
  {ad bd : Addr} {ws1 ws2 as bs : List W} {xs ys : List V} (q1 : SqT X.K H ad xs) (q2 : SqT X.K H bd ys) (r1 : Rws X.K R ws1 xs) (r2 : Rws X.K R ws2 ys) (m1 : Jp (drf h n) ws1 = some as) (m2 : Jp (drf h n) ws2 = some bs) : RcNeAt A s (.ref ad) (.ref bd) (!XO as bs) := by
 obtain ⟨its, v1, p1, _⟩ := I.tuple q1
 obtain ⟨its2, v2, p2, _⟩ := I.tuple q2
 have l1 := r1.length; have l2 := v1.length; have l3 := r2.length; have l4 := v2.length
 have l5 := (QV m1).1; have l6 := (QV m2).1
 have := RcNeAt.tuples (A := A) (show s.heap.IsTuple ad its.toArray from p1) (show s.heap.IsTuple bd its2.toArray from p2) hu (fun j h1 h2 => V7 ih r1 r2 v1 v2 m1 m2 j h1 h2)
 rw [List.size_toArray, List.size_toArray] at this
 by_cases hl : as.length = bs.length
 ·rw [XE hl]
  rw [show min its.length its2.length = as.length by omega, show (its.length == its2.length) = true by simp; omega, Bool.and_true] at this
  exact this
 ·rw [XF hl]
  rw [show (its.length == its2.length) = false by simp; omega, Bool.and_false] at this
  exact this
theorem Qgb (I : Inv X pins σ H s) (rh : Rh X.K R h H) (n : Nat) (A : Around) (hu : A.units + n < cLine) (w1 w2 : W) (v1 v2 : V) (u1 u2 : Value) (a b : W) (r1 : Rw X.K R w1 v1) (r2 : Rw X.K R w2 v2) (t1 : RelV v1 u1) (t2 : RelV v2 u2) (e1 : drf h n w1 = some a) (e2 : drf h n w2 = some b) : RcAt A s u1 u2 (eqW a b) := by
 cases n with
 | zero => cases e1
 | succ n =>
  have hu0 : A.units < cLine := by omega
  have ih := UZ I rh n A.in1 (by show A.units + 1 + n < cLine; omega)
  have isl : ∀ {ad : Addr} {xs : List V}, SqL X.K H ad xs → ∃ its : Array Value, s.heap.IsList ad its := fun q => by
   obtain ⟨its, _, p, _⟩ := I.list q; exact ⟨_, p.isList⟩
  have ist : ∀ {ad : Addr} {xs : List V}, SqT X.K H ad xs → ∃ its : Array Value, s.heap.IsTuple ad its := fun q => by
   obtain ⟨its, _, p, _⟩ := I.tuple q; exact ⟨_, p⟩
  cases Xb rh r1 e1 with
  | flat f z =>
   cases Xb rh r2 e2 with
   | flat f' z' =>
    rcases z with ⟨rfl, rfl⟩ | ⟨_, rfl, rfl⟩ | ⟨_, rfl, rfl⟩ | ⟨_, rfl, rfl⟩ <;> rcases z' with ⟨rfl, rfl⟩ | ⟨_, rfl, rfl⟩ | ⟨_, rfl, rfl⟩ | ⟨_, rfl, rfl⟩ <;> first | (obtain ⟨t1', rfl⟩ := t1) | cases t1
    ·first | (obtain ⟨t2', rfl⟩ := t2) | cases t2
     unfold eqW; exact RcAt.none_none
    ·first | (obtain ⟨t2', rfl⟩ := t2) | cases t2
     unfold eqW; exact RcAt.none_bool _
    ·first | (obtain ⟨t2', rfl⟩ := t2) | cases t2
     unfold eqW; exact RcAt.none_int _ _
    ·first | (obtain ⟨t2', rfl⟩ := t2) | cases t2
     unfold eqW; exact RcAt.none_str _ _
    ·first | (obtain ⟨t2', rfl⟩ := t2) | cases t2
     unfold eqW; exact RcAt.bool_none _
    ·first | (obtain ⟨t2', rfl⟩ := t2) | cases t2
     unfold eqW; exact RcAt.bool_bool _ _
    ·first | (obtain ⟨t2', rfl⟩ := t2) | cases t2
     unfold eqW; exact RcAt.bool_int _ _ _
    ·first | (obtain ⟨t2', rfl⟩ := t2) | cases t2
     unfold eqW; exact RcAt.bool_str _ _ _
    ·first | (obtain ⟨t2', rfl⟩ := t2) | cases t2
     unfold eqW; exact RcAt.int_none _ _
    ·first | (obtain ⟨t2', rfl⟩ := t2) | cases t2
     unfold eqW; exact RcAt.int_bool _ _ _
    ·first | (obtain ⟨t2', rfl⟩ := t2) | cases t2
     unfold eqW; exact RcAt.int_int _ _ _ _
    ·first | (obtain ⟨t2', rfl⟩ := t2) | cases t2
     unfold eqW; exact RcAt.int_str _ _ _ _
    ·first | (obtain ⟨t2', rfl⟩ := t2) | cases t2
     unfold eqW; exact RcAt.str_none _ _
    ·first | (obtain ⟨t2', rfl⟩ := t2) | cases t2
     unfold eqW; exact RcAt.str_bool _ _ _
    ·first | (obtain ⟨t2', rfl⟩ := t2) | cases t2
     unfold eqW; exact RcAt.str_int _ _ _ _
    ·first | (obtain ⟨t2', rfl⟩ := t2) | cases t2
     unfold eqW; exact RcAt.str_str _ _ _ _
   | lst e q =>
    subst e
    cases t2
    obtain ⟨its, p⟩ := isl q
    rcases z with ⟨rfl, rfl⟩ | ⟨_, rfl, rfl⟩ | ⟨_, rfl, rfl⟩ | ⟨_, rfl, rfl⟩
    ·cases t1; unfold eqW; exact RcAt.none_list p hu0
    ·cases t1; unfold eqW; exact RcAt.bool_list _ p hu0
    ·obtain ⟨t, rfl⟩ := t1; unfold eqW; exact RcAt.int_list _ t p hu0
    ·obtain ⟨t, rfl⟩ := t1; unfold eqW; exact RcAt.str_list _ t p hu0
   | tup e q =>
    subst e
    cases t2
    obtain ⟨its, p⟩ := ist q
    rcases z with ⟨rfl, rfl⟩ | ⟨_, rfl, rfl⟩ | ⟨_, rfl, rfl⟩ | ⟨_, rfl, rfl⟩
    ·cases t1; unfold eqW; exact RcAt.none_tuple p hu0
    ·cases t1; unfold eqW; exact RcAt.bool_tuple _ p hu0
    ·obtain ⟨t, rfl⟩ := t1; unfold eqW; exact RcAt.int_tuple _ t p hu0
    ·obtain ⟨t, rfl⟩ := t1; unfold eqW; exact RcAt.str_tuple _ t p hu0
  | @lst ad1 _ _ _ e q r m =>
   subst e
   cases t1
   obtain ⟨its, p⟩ := isl q
   have k2 := Xb rh r2 e2
   cases k2 with
   | flat f' z' =>
    rcases z' with ⟨rfl, rfl⟩ | ⟨_, rfl, rfl⟩ | ⟨_, rfl, rfl⟩ | ⟨_, rfl, rfl⟩
    ·cases t2; unfold eqW; exact RcAt.list_none p hu0
    ·cases t2; unfold eqW; exact RcAt.list_bool _ p hu0
    ·obtain ⟨t, rfl⟩ := t2; unfold eqW; exact RcAt.list_int _ t p hu0
    ·obtain ⟨t, rfl⟩ := t2; unfold eqW; exact RcAt.list_str _ t p hu0
   | tup e' q' =>
    subst e'
    cases t2
    obtain ⟨its', p'⟩ := ist q'
    unfold eqW; exact RcAt.list_tuple p p' hu0
   | lst e' q' r' m' =>
    subst e'
    cases t2
    unfold eqW
    exact U7 I hu0 ih q q' r r' m m'
  | @tup ad1 _ _ _ e q r m =>
   subst e
   cases t1
   obtain ⟨its, p⟩ := ist q
   have k2 := Xb rh r2 e2
   cases k2 with
   | flat f' z' =>
    rcases z' with ⟨rfl, rfl⟩ | ⟨_, rfl, rfl⟩ | ⟨_, rfl, rfl⟩ | ⟨_, rfl, rfl⟩
    ·cases t2; unfold eqW; exact RcAt.tuple_none p hu0
    ·cases t2; unfold eqW; exact RcAt.tuple_bool _ p hu0
    ·obtain ⟨t, rfl⟩ := t2; unfold eqW; exact RcAt.tuple_int _ t p hu0
    ·obtain ⟨t, rfl⟩ := t2; unfold eqW; exact RcAt.tuple_str _ t p hu0
   | lst e' q' =>
    subst e'
    cases t2
    obtain ⟨its', p'⟩ := isl q'
    unfold eqW; exact RcAt.tuple_list p p' hu0
   | tup e' q' r' m' =>
    subst e'
    cases t2
    unfold eqW
    exact QbI I hu0 ih q q' r r' m m'
theorem Qcv (I : Inv X pins σ H s) (rh : Rh X.K R h H) (n : Nat) (A : Around) (hu : A.units + n < cLine) (w1 w2 : W) (v1 v2 : V) (u1 u2 : Value) (a b : W) (r1 : Rw X.K R w1 v1) (r2 : Rw X.K R w2 v2) (t1 : RelV v1 u1) (t2 : RelV v2 u2) (e1 : drf h n w1 = some a) (e2 : drf h n w2 = some b) : RcNeAt A s u1 u2 (!eqW a b) := by
 cases n with
 | zero => cases e1
 | succ n =>
  have hu0 : A.units < cLine := by omega
  have ih := UZ I rh n A.in1 (by show A.units + 1 + n < cLine; omega)
  have isl : ∀ {ad : Addr} {xs : List V}, SqL X.K H ad xs → ∃ its : Array Value, s.heap.IsList ad its := fun q => by
   obtain ⟨its, _, p, _⟩ := I.list q; exact ⟨_, p.isList⟩
  have ist : ∀ {ad : Addr} {xs : List V}, SqT X.K H ad xs → ∃ its : Array Value, s.heap.IsTuple ad its := fun q => by
   obtain ⟨its, _, p, _⟩ := I.tuple q; exact ⟨_, p⟩
  cases Xb rh r1 e1 with
  | flat f z =>
   cases Xb rh r2 e2 with
   | flat f' z' =>
    rcases z with ⟨rfl, rfl⟩ | ⟨_, rfl, rfl⟩ | ⟨_, rfl, rfl⟩ | ⟨_, rfl, rfl⟩ <;> rcases z' with ⟨rfl, rfl⟩ | ⟨_, rfl, rfl⟩ | ⟨_, rfl, rfl⟩ | ⟨_, rfl, rfl⟩ <;> first | (obtain ⟨t1', rfl⟩ := t1) | cases t1
    ·first | (obtain ⟨t2', rfl⟩ := t2) | cases t2
     unfold eqW; exact RcNeAt.none_none
    ·first | (obtain ⟨t2', rfl⟩ := t2) | cases t2
     unfold eqW; exact RcNeAt.none_bool _
    ·first | (obtain ⟨t2', rfl⟩ := t2) | cases t2
     unfold eqW; exact RcNeAt.none_int _ _
    ·first | (obtain ⟨t2', rfl⟩ := t2) | cases t2
     unfold eqW; exact RcNeAt.none_str _ _
    ·first | (obtain ⟨t2', rfl⟩ := t2) | cases t2
     unfold eqW; exact RcNeAt.bool_none _
    ·first | (obtain ⟨t2', rfl⟩ := t2) | cases t2
     unfold eqW; exact RcNeAt.bool_bool _ _
    ·first | (obtain ⟨t2', rfl⟩ := t2) | cases t2
     unfold eqW; exact RcNeAt.bool_int _ _ _
    ·first | (obtain ⟨t2', rfl⟩ := t2) | cases t2
     unfold eqW; exact RcNeAt.bool_str _ _ _
    ·first | (obtain ⟨t2', rfl⟩ := t2) | cases t2
     unfold eqW; exact RcNeAt.int_none _ _
    ·first | (obtain ⟨t2', rfl⟩ := t2) | cases t2
     unfold eqW; exact RcNeAt.int_bool _ _ _
    ·first | (obtain ⟨t2', rfl⟩ := t2) | cases t2
     unfold eqW; exact RcNeAt.int_int _ _ _ _
    ·first | (obtain ⟨t2', rfl⟩ := t2) | cases t2
     unfold eqW; exact RcNeAt.int_str _ _ _ _
    ·first | (obtain ⟨t2', rfl⟩ := t2) | cases t2
     unfold eqW; exact RcNeAt.str_none _ _
    ·first | (obtain ⟨t2', rfl⟩ := t2) | cases t2
     unfold eqW; exact RcNeAt.str_bool _ _ _
    ·first | (obtain ⟨t2', rfl⟩ := t2) | cases t2
     unfold eqW; exact RcNeAt.str_int _ _ _ _
    ·first | (obtain ⟨t2', rfl⟩ := t2) | cases t2
     unfold eqW; exact RcNeAt.str_str _ _ _ _
   | lst e q =>
    subst e
    cases t2
    obtain ⟨its, p⟩ := isl q
    rcases z with ⟨rfl, rfl⟩ | ⟨_, rfl, rfl⟩ | ⟨_, rfl, rfl⟩ | ⟨_, rfl, rfl⟩
    ·cases t1; unfold eqW; exact RcNeAt.none_list p hu0
    ·cases t1; unfold eqW; exact RcNeAt.bool_list _ p hu0
    ·obtain ⟨t, rfl⟩ := t1; unfold eqW; exact RcNeAt.int_list _ t p hu0
    ·obtain ⟨t, rfl⟩ := t1; unfold eqW; exact RcNeAt.str_list _ t p hu0
   | tup e q =>
    subst e
    cases t2
    obtain ⟨its, p⟩ := ist q
    rcases z with ⟨rfl, rfl⟩ | ⟨_, rfl, rfl⟩ | ⟨_, rfl, rfl⟩ | ⟨_, rfl, rfl⟩
    ·cases t1; unfold eqW; exact RcNeAt.none_tuple p hu0
    ·cases t1; unfold eqW; exact RcNeAt.bool_tuple _ p hu0
    ·obtain ⟨t, rfl⟩ := t1; unfold eqW; exact RcNeAt.int_tuple _ t p hu0
    ·obtain ⟨t, rfl⟩ := t1; unfold eqW; exact RcNeAt.str_tuple _ t p hu0
  | @lst ad1 _ _ _ e q r m =>
   subst e
   cases t1
   obtain ⟨its, p⟩ := isl q
   have k2 := Xb rh r2 e2
   cases k2 with
   | flat f' z' =>
    rcases z' with ⟨rfl, rfl⟩ | ⟨_, rfl, rfl⟩ | ⟨_, rfl, rfl⟩ | ⟨_, rfl, rfl⟩
    ·cases t2; unfold eqW; exact RcNeAt.list_none p hu0
    ·cases t2; unfold eqW; exact RcNeAt.list_bool _ p hu0
    ·obtain ⟨t, rfl⟩ := t2; unfold eqW; exact RcNeAt.list_int _ t p hu0
    ·obtain ⟨t, rfl⟩ := t2; unfold eqW; exact RcNeAt.list_str _ t p hu0
   | tup e' q' =>
    subst e'
    cases t2
    obtain ⟨its', p'⟩ := ist q'
    unfold eqW; exact RcNeAt.list_tuple p p' hu0
   | lst e' q' r' m' =>
    subst e'
    cases t2
    unfold eqW
    exact GN I hu0 ih q q' r r' m m'
  | @tup ad1 _ _ _ e q r m =>
   subst e
   cases t1
   obtain ⟨its, p⟩ := ist q
   have k2 := Xb rh r2 e2
   cases k2 with
   | flat f' z' =>
    rcases z' with ⟨rfl, rfl⟩ | ⟨_, rfl, rfl⟩ | ⟨_, rfl, rfl⟩ | ⟨_, rfl, rfl⟩
    ·cases t2; unfold eqW; exact RcNeAt.tuple_none p hu0
    ·cases t2; unfold eqW; exact RcNeAt.tuple_bool _ p hu0
    ·obtain ⟨t, rfl⟩ := t2; unfold eqW; exact RcNeAt.tuple_int _ t p hu0
    ·obtain ⟨t, rfl⟩ := t2; unfold eqW; exact RcNeAt.tuple_str _ t p hu0
   | lst e' q' =>
    subst e'
    cases t2
    obtain ⟨its', p'⟩ := isl q'
    unfold eqW; exact RcNeAt.tuple_list p p' hu0
   | tup e' q' r' m' =>
    subst e'
    cases t2
    unfold eqW
    exact Qas I hu0 ih q q' r r' m m'
end
noncomputable def wEq (a b : W) (h : MH) : Option (W × MH) := (drf h 40 a).bind fun x => (drf h 40 b).map fun y => (.bl (eqW x y), h)
noncomputable def wNe (a b : W) (h : MH) : Option (W × MH) := (drf h 40 a).bind fun x => (drf h 40 b).map fun y => (.bl (!eqW x y), h)
theorem Qj {K : PySem.W.Frag} {f : W → W → MH → Option (W × MH)} : OpM K (F2 K f) f := fun _ _ _ _ q => q
section
variable {X : Cx}
theorem QQ (hu : X.A.units + 64 < cLine) : OpR X (compareOp .Eq) (F2 X.K wEq) := by
 intro pins s σ H x y v u Q I rx ry q
 obtain ⟨R, h, a, b, w, h', rh, ra, rb, e, k⟩ := q
 obtain ⟨a', e1, e2⟩ := Option.bind_eq_some_iff.mp e
 obtain ⟨b', e3, e4⟩ := Option.map_eq_some_iff.mp e2
 cases e4
 exact Qgb I rh 40 X.A (by omega) a b x y v u a' b' ra rb rx ry e1 e3 _ _ _ _ ⟨.bl _, H, I, rfl, k R H _ (Ext.refl _) rh (Rw.bl _)⟩
theorem Wy (hu : X.A.units + 64 < cLine) : OpR X (compareOp .NotEq) (F2 X.K wNe) := by
 intro pins s σ H x y v u Q I rx ry q
 obtain ⟨R, h, a, b, w, h', rh, ra, rb, e, k⟩ := q
 obtain ⟨a', e1, e2⟩ := Option.bind_eq_some_iff.mp e
 obtain ⟨b', e3, e4⟩ := Option.map_eq_some_iff.mp e2
 cases e4
 exact Qcv I rh 40 X.A (by omega) a b x y v u a' b' ra rb rx ry e1 e3 _ _ _ _ ⟨.bl _, H, I, rfl, k R H _ (Ext.refl _) rh (Rw.bl _)⟩
noncomputable def inW (x : W) (xs : List W) : Bool := xs.any fun y => eqW y x
noncomputable def wIn (neg : Bool) (a b : W) (h : MH) : Option (W × MH) := match b with
 | .tup ys => (drf h 40 a).bind fun x => (Jp (drf h 40) ys).map fun zs => (.bl (if neg then !inW x zs else inW x zs), h)
 | b => (lsW h b).bind fun ys => (drf h 40 a).bind fun x => (Jp (drf h 40) ys).map fun zs => (.bl (if neg then !inW x zs else inW x zs), h)
open Classical in
noncomputable def GP (K : PySem.W.Frag) (R : Rn) (h : MH) (x : W) (u : Value) : Bool := decide (∃ w v a, Rw K R w v ∧ RelV v u ∧ drf h 40 w = some a ∧ eqW a x = true)
open Classical in
theorem Ui {pins : List (Addr × Obj)} {σ : L2.St} {H : Hp} {s : Shared} {R : Rn} {h : MH} (I : Inv X pins σ H s) (rh : Rh X.K R h H) {x w a : W} {v : V} {u : Value} (r : Rw X.K R w v) (t : RelV v u) (e : drf h 40 w = some a) : GP X.K R h x u = eqW a x := by
 unfold GP
 by_cases q : eqW a x = true
 ·rw [q]; exact decide_eq_true ⟨w, v, a, r, t, e, q⟩
 ·have q' : eqW a x = false := by simpa using q
  rw [q']
  refine decide_eq_false fun ⟨w', v', a', r', t', e', z⟩ => ?_
  have := t.inj t'
  subst this
  rw [Kq I rh 40 w w' v a a' r r' e e', z] at q'
  cases q'
theorem W3 {pins : List (Addr × Obj)} {σ : L2.St} {H : Hp} {s : Shared} {R : Rn} {h : MH} (I : Inv X pins σ H s) (rh : Rh X.K R h H) {x : W} : ∀ {ws as : List W} {xs : List V} {us : List Value}, Rws X.K R ws xs → Vals xs us → Jp (drf h 40) ws = some as → us.any (GP X.K R h x) = inW x as
 | [], _, _, _, r, t, m => by
  rw [Rws.nil_iff] at r; subst r; cases t; cases m; rfl
 | w :: ws, _, _, _, r, t, m => by
  rw [Rws.cons_iff] at r
  obtain ⟨v, xs', rfl, r1, r2⟩ := r
  cases t with
  | cons t1 t2 =>
   obtain ⟨y, h1, h2⟩ := Option.bind_eq_some_iff.mp m
   obtain ⟨zs, h3, h4⟩ := Option.map_eq_some_iff.mp h2
   subst h4
   have ih := W3 I rh (x := x) r2 t2 h3
   unfold inW at ih ⊢
   rw [List.any_cons, List.any_cons, Ui I rh r1 t1 h1, ih]
theorem Xt {pins : List (Addr × Obj)} {σ : L2.St} {H : Hp} {s : Shared} {R : Rn} {h : MH} (I : Inv X pins σ H s) (rh : Rh X.K R h H) {A : Around} (hu : A.units + 40 < cLine) {a x : W} {v : V} {u : Value} (ra : Rw X.K R a v) (ta : RelV v u) (ea : drf h 40 a = some x) {ws as : List W} {xs : List V} {us : List Value}
  (r : Rws X.K R ws xs) (t : Vals xs us) (m : Jp (drf h 40) ws = some as) : ∀ y ∈ us, EqAt A s y u (GP X.K R h x y) := by
 intro y hy
 obtain ⟨i, hi, e⟩ := List.mem_iff_getElem.mp hy
 have l1 := r.length; have l2 := t.length
 obtain ⟨w, hw⟩ : ∃ w, ws[i]? = some w := ⟨ws[i]'(by omega), List.getElem?_eq_getElem _⟩
 obtain ⟨v', hv, rv⟩ := r.get hw
 obtain ⟨u', hu', ru⟩ := t.get hv
 rw [List.getElem?_eq_getElem hi, e] at hu'
 cases hu'
 obtain ⟨b, hb, eb⟩ := (QV m).2 i w hw
 rw [Ui I rh rv ru eb]
 exact UZ I rh 40 A hu w a v' v y u b x rv ra ru ta eb ea
theorem QcY (hu : X.A.units + 64 < cLine) : OpR X (compareOp .In) (F2 X.K (wIn false)) := by
 intro pins s σ H x y v u Q I rx ry q
 obtain ⟨R, h, a, b, w, h', rh, ra, rb, e, k⟩ := q
 have hu' : X.A.in1.units + 40 < cLine := by show X.A.units + 1 + 40 < cLine; omega
 have main : ∀ ys, ((drf h 40 a).bind fun x => (Jp (drf h 40) ys).map fun zs => ((W.bl (if false then !inW x zs else inW x zs), h) : W × MH)) = some (w, h') → ∃ x' zs, drf h 40 a = some x' ∧ Jp (drf h 40) ys = some zs ∧ w = .bl (inW x' zs) ∧ h' = h := fun ys e => by
  obtain ⟨x', e1, e2⟩ := Option.bind_eq_some_iff.mp e
  obtain ⟨zs, e3, e4⟩ := Option.map_eq_some_iff.mp e2
  cases e4
  exact ⟨x', zs, e1, e3, rfl, rfl⟩
 have fin : ∀ {x' : W} {zs ws : List W} {xs : List V} {its : List Value}, Rws X.K R ws xs → Vals xs its → drf h 40 a = some x' → Jp (drf h 40) ws = some zs → w = .bl (inW x' zs) → h' = h → EP X pins σ Q (.bool (its.toArray.any (GP X.K R h x'))) s := fun {x' zs ws xs its} r t ea em ew eh => by
  subst ew eh
  rw [List.any_toArray, W3 I rh r t em]
  exact ⟨.bl _, H, I, rfl, k R H _ (Ext.refl _) rh (Rw.bl _)⟩
 unfold wIn at e
 split at e
 ·rename_i ys
  obtain ⟨x', zs, e1, e3, ew, eh⟩ := main ys e
  obtain ⟨ad, xs, rfl, q1, r1⟩ := rh.tupAt rb
  cases ry
  obtain ⟨its, t1, p1, _⟩ := I.tuple q1
  exact in_tupleAt (GP X.K R h x') (show s.heap.IsTuple ad its.toArray from p1) (fun z hz => Xt I rh hu' ra rx e1 r1 t1 e3 z (by simpa using hz)) (fin r1 t1 e1 e3 ew eh)
 ·obtain ⟨ys, e0, e⟩ := Option.bind_eq_some_iff.mp e
  obtain ⟨x', zs, e1, e3, ew, eh⟩ := main ys e
  obtain ⟨ad, xs, rfl, q1, r1⟩ := rh.lsAt rb e0
  cases ry
  obtain ⟨its, t1, p1, _⟩ := I.list q1
  exact in_listAt (GP X.K R h x') p1.isList (fun z hz => Xt I rh hu' ra rx e1 r1 t1 e3 z (by simpa using hz)) (fin r1 t1 e1 e3 ew eh)
theorem Wn (hu : X.A.units + 64 < cLine) : OpR X (compareOp .NotIn) (F2 X.K (wIn true)) := by
 intro pins s σ H x y v u Q I rx ry q
 obtain ⟨R, h, a, b, w, h', rh, ra, rb, e, k⟩ := q
 have hu' : X.A.in1.units + 40 < cLine := by show X.A.units + 1 + 40 < cLine; omega
 have main : ∀ ys, ((drf h 40 a).bind fun x => (Jp (drf h 40) ys).map fun zs => ((W.bl (if true then !inW x zs else inW x zs), h) : W × MH)) = some (w, h') → ∃ x' zs, drf h 40 a = some x' ∧ Jp (drf h 40) ys = some zs ∧ w = .bl (!inW x' zs) ∧ h' = h := fun ys e => by
  obtain ⟨x', e1, e2⟩ := Option.bind_eq_some_iff.mp e
  obtain ⟨zs, e3, e4⟩ := Option.map_eq_some_iff.mp e2
  cases e4
  exact ⟨x', zs, e1, e3, rfl, rfl⟩
 have fin : ∀ {x' : W} {zs ws : List W} {xs : List V} {its : List Value}, Rws X.K R ws xs → Vals xs its → drf h 40 a = some x' → Jp (drf h 40) ws = some zs → w = .bl (!inW x' zs) → h' = h → EP X pins σ Q (.bool (!its.toArray.any (GP X.K R h x'))) s := fun {x' zs ws xs its} r t ea em ew eh => by
  subst ew eh
  rw [List.any_toArray, W3 I rh r t em]
  exact ⟨.bl _, H, I, rfl, k R H _ (Ext.refl _) rh (Rw.bl _)⟩
 unfold wIn at e
 split at e
 ·rename_i ys
  obtain ⟨x', zs, e1, e3, ew, eh⟩ := main ys e
  obtain ⟨ad, xs, rfl, q1, r1⟩ := rh.tupAt rb
  cases ry
  obtain ⟨its, t1, p1, _⟩ := I.tuple q1
  exact notIn_tupleAt (GP X.K R h x') (show s.heap.IsTuple ad its.toArray from p1) (fun z hz => Xt I rh hu' ra rx e1 r1 t1 e3 z (by simpa using hz)) (fin r1 t1 e1 e3 ew eh)
 ·obtain ⟨ys, e0, e⟩ := Option.bind_eq_some_iff.mp e
  obtain ⟨x', zs, e1, e3, ew, eh⟩ := main ys e
  obtain ⟨ad, xs, rfl, q1, r1⟩ := rh.lsAt rb e0
  cases ry
  obtain ⟨its, t1, p1, _⟩ := I.list q1
  exact notIn_listAt (GP X.K R h x') p1.isList (fun z hz => Xt I rh hu' ra rx e1 r1 t1 e3 z (by simpa using hz)) (fin r1 t1 e1 e3 ew eh)
end
end Mi

namespace Mi
open PySem PySem.Spec PyProof.Rows L2

noncomputable def ZV (a b : W) (h : MH) : Option (W × MH) := match a, b with
 | .int i, .int j => some (.int (i + j), h)
 | .str x, .str y => if x.length + y.length ≤ sizeLine then some (.str (x ++ y), h) else none
 | .tup xs, .tup ys => if xs.length + ys.length ≤ sizeLine then some (.tup (xs ++ ys), h) else none
 | a, b => (loW h a).bind fun xs => (loW h b).bind fun ys => if xs.length + ys.length ≤ sizeLine then some (.lst (xs ++ ys), h) else none
noncomputable def Ws (a b : W) (h : MH) : Option (W × MH) := match a, b with | .int i, .int j => some (.int (i - j), h) | _, _ => none
noncomputable def QfI (a b : W) (h : MH) : Option (W × MH) := match a, b with | .int i, .int j => if (-(2 ^ 64) < i ∧ i < 2 ^ 64) ∨ (-(2 ^ 64) < j ∧ j < 2 ^ 64) then some (.int (i * j), h) else none | _, _ => none
noncomputable def Qeb (a b : W) (h : MH) : Option (W × MH) := match a, b with | .int i, .int j => if 0 < j ∧ j < 1073741824 then some (.int (i / j), h) else none | _, _ => none
noncomputable def Qbh (a b : W) (h : MH) : Option (W × MH) := match a, b with | .int i, .int j => if 0 < j then some (.int (i % j), h) else none | _, _ => none
noncomputable def QeS (a b : W) (h : MH) : Option (W × MH) := match a, b with | .int i, .int j => if 0 ≤ j ∧ j ≤ 1000000 ∧ i.natAbs < 2 ^ 64 then some (.int (i ^ j.toNat), h) else none | _, _ => none
noncomputable def wLt (a b : W) (h : MH) : Option (W × MH) := match a, b with | .int i, .int j => some (.bl (decide (i < j)), h) | .str x, .str y => some (.bl (decide (x.cps.toList < y.cps.toList)), h) | _, _ => none
noncomputable def wGt (a b : W) (h : MH) : Option (W × MH) := match a, b with | .int i, .int j => some (.bl (decide (j < i)), h) | _, _ => none
noncomputable def wGe (a b : W) (h : MH) : Option (W × MH) := match a, b with | .int i, .int j => some (.bl (decide (j ≤ i)), h) | _, _ => none
noncomputable def Wg : W → Bool
 | .non => true
 | _ => false
noncomputable def wIs (a b : W) (h : MH) : Option (W × MH) := match b with
 | .non => some (.bl (Wg a), h)
 | .bl y => match a with | .bl x => some (.bl (x == y), h) | _ => none
 | _ => none
theorem Qe6 {K : PySem.W.Frag} {R : Rn} {a : W} {v : V} (r : Rw K R a v) : decide (v = .non) = Wg a := by
 cases a with
 | non => rw [r.non_eq]; rfl
 | bl _ => rw [r.bl_eq]; rfl
 | int _ => rw [r.int_eq]; rfl
 | str _ => rw [r.str_eq]; rfl
 | ty _ => rw [r.ty_eq]; rfl
 | tup _ => unfold Rw at r; obtain ⟨_, _, rfl, _⟩ := r; rfl
 | lst _ => unfold Rw at r; obtain ⟨_, _, rfl, _⟩ := r; rfl
 | frz _ => unfold Rw at r; obtain ⟨_, _, rfl, _⟩ := r; rfl
 | ref _ => unfold Rw at r; obtain ⟨_, rfl⟩ := r; rfl
section
variable {X : Cx}
noncomputable def Qhg (K : PySem.W.Frag) : R2 := fun x y H Q => ∃ a b xs ys, x = .ref a ∧ y = .ref b ∧ SqT K H a xs ∧ SqT K H b ys ∧ xs.length + ys.length ≤ sizeLine ∧
 (xs = [] → Q (.ref b) H) ∧ (xs ≠ [] → ys = [] → Q (.ref a) H) ∧ (xs ≠ [] → ys ≠ [] → ∀ p, H p = none → Q (.ref p) (upd H p (.tup (xs ++ ys))))
theorem op_catA : OpR X (binaryOp .Add) (Qhg X.K) := by
 intro pins s σ H x y v u Q I rx ry h
 obtain ⟨a, b, xs, ys, rfl, rfl, ha, hb, hz, q0, q1, q2⟩ := h
 by_cases hx : xs = []
 ·subst hx
  cases rx
  cases ry
  obtain ⟨its, r1, p1, _⟩ := I.tuple ha
  obtain ⟨its2, r2, p2, _⟩ := I.tuple hb
  cases r1
  obtain ⟨⟨cls, dd, data, sl⟩, ho, hc, n, hd⟩ := id p1
  obtain ⟨⟨cls2, dd2, data2, sl2⟩, ho2, hc2, n2, hd2⟩ := id p2
  simp only at hc hd hc2 hd2
  subst hc hd hc2 hd2
  exact concat_meets ⟨_, ho, rfl⟩ ⟨_, ho2, rfl⟩ noFill_tuple_add seq_tuple_add PySem.F.slot_tuple_add PySem.F.entry_tuple_add (PySem.F.args_tuple_add_2 _ _)
   (tuple_addW0 a b #[] its2.toArray n n2 dd dd2 sl sl2 (by simp)) ⟨ho, ho2, ⟨.ref b, H, I, rfl, q0 rfl⟩⟩
 ·exact QdD pins s σ H _ _ v u Q I rx ry ⟨a, b, xs, ys, rfl, rfl, ha, hb, hx, hz, q1 hx, q2 hx⟩
theorem Qgc : OpR X (compareOp .Is) (fun x y H Q => ∃ i j, x = .bl i ∧ y = .bl j ∧ Q (.bl (i == j)) H) := by
 intro pins s σ H x y v u Q I rx ry h
 obtain ⟨i, j, rfl, rfl, q⟩ := h
 cases rx
 cases ry
 exact is_bool ⟨.bl _, H, I, rfl, q⟩
theorem Qx : OpR X (binaryOp .Add) (F2 X.K ZV) := by
 intro pins s σ H x y v u Q I rx ry q
 refine (op_add.or (op_add_str.or (op_catA.or Qgd))) pins s σ H x y v u Q I rx ry ?_
 obtain ⟨R, h, a, b, w, h', rh, ra, rb, e, k⟩ := q
 unfold ZV at e
 split at e
 ·cases e
  exact .inl ⟨_, _, ra.int_eq, rb.int_eq, k R H _ (Ext.refl _) rh (Rw.int _)⟩
 ·split at e
  ·rename_i hl
   cases e
   exact .inr (.inl ⟨_, _, ra.str_eq, rb.str_eq, hl, k R H _ (Ext.refl _) rh (Rw.str _)⟩)
  ·cases e
 ·split at e
  ·rename_i xs ys hl
   cases e
   obtain ⟨ad, xv, e1, q1, r1⟩ := rh.tupAt ra
   obtain ⟨bd, yv, e2, q2, r2⟩ := rh.tupAt rb
   have l1 := r1.length; have l2 := r2.length
   refine .inr (.inr (.inl ⟨ad, bd, xv, yv, e1, e2, q1, q2, by omega, fun z => ?_, fun _ z => ?_, fun _ _ p hp => ?_⟩))
   ·subst z
    have : xs = [] := List.length_eq_zero_iff.mp l1
    subst this
    exact k R H _ (Ext.refl _) rh (e2 ▸ rb)
   ·subst z
    have : ys = [] := List.length_eq_zero_iff.mp l2
    subst this
    rw [List.append_nil] at k
    exact k R H _ (Ext.refl _) rh (e1 ▸ ra)
   ·obtain ⟨R3, x3, rh3, rw3⟩ := rh.tup hp (Rws.append r1 r2)
    exact k R3 _ _ x3 rh3 rw3
  ·cases e
 ·obtain ⟨xs, e1, e⟩ := Option.bind_eq_some_iff.mp e
  obtain ⟨ys, e2, e⟩ := Option.bind_eq_some_iff.mp e
  split at e
  ·rename_i hl
   cases e
   obtain ⟨ad, xv, f1, q1, r1⟩ := rh.loAt ra e1
   obtain ⟨bd, yv, f2, q2, r2⟩ := rh.loAt rb e2
   have l1 := r1.length; have l2 := r2.length
   refine .inr (.inr (.inr ⟨ad, bd, xv, yv, f1, f2, q1, q2, by omega, fun p hp => ?_⟩))
   obtain ⟨R3, x3, rh3, rw3⟩ := rh.lstI hp (Rws.append r1 r2)
   exact k R3 _ _ x3 rh3 rw3
  ·cases e
theorem J4 : OpR X (binaryOp .Sub) (F2 X.K Ws) := by
 intro pins s σ H x y v u Q I rx ry q
 refine QfV pins s σ H x y v u Q I rx ry ?_
 obtain ⟨R, h, a, b, w, h', rh, ra, rb, e, k⟩ := q
 unfold Ws at e
 split at e
 ·cases e
  exact ⟨_, _, ra.int_eq, rb.int_eq, k R H _ (Ext.refl _) rh (Rw.int _)⟩
 ·cases e
theorem Qea : OpR X (binaryOp .Mult) (F2 X.K QfI) := by
 intro pins s σ H x y v u Q I rx ry q
 refine Qfm pins s σ H x y v u Q I rx ry ?_
 obtain ⟨R, h, a, b, w, h', rh, ra, rb, e, k⟩ := q
 unfold QfI at e
 split at e
 ·split at e
  ·rename_i hl
   cases e
   exact ⟨_, _, ra.int_eq, rb.int_eq, hl, k R H _ (Ext.refl _) rh (Rw.int _)⟩
  ·cases e
 ·cases e
theorem QaY : OpR X (binaryOp .FloorDiv) (F2 X.K Qeb) := by
 intro pins s σ H x y v u Q I rx ry q
 refine QdY pins s σ H x y v u Q I rx ry ?_
 obtain ⟨R, h, a, b, w, h', rh, ra, rb, e, k⟩ := q
 unfold Qeb at e
 split at e
 ·split at e
  ·rename_i hl
   cases e
   exact ⟨_, _, ra.int_eq, rb.int_eq, hl, k R H _ (Ext.refl _) rh (Rw.int _)⟩
  ·cases e
 ·cases e
theorem XH : OpR X (binaryOp .Mod) (F2 X.K Qbh) := by
 intro pins s σ H x y v u Q I rx ry q
 refine Qfu pins s σ H x y v u Q I rx ry ?_
 obtain ⟨R, h, a, b, w, h', rh, ra, rb, e, k⟩ := q
 unfold Qbh at e
 split at e
 ·split at e
  ·rename_i hl
   cases e
   exact ⟨_, _, ra.int_eq, rb.int_eq, hl, k R H _ (Ext.refl _) rh (Rw.int _)⟩
  ·cases e
 ·cases e
theorem Qbb : OpR X (binaryOp .Pow) (F2 X.K QeS) := by
 intro pins s σ H x y v u Q I rx ry q
 refine QfK pins s σ H x y v u Q I rx ry ?_
 obtain ⟨R, h, a, b, w, h', rh, ra, rb, e, k⟩ := q
 unfold QeS at e
 split at e
 ·split at e
  ·rename_i hl
   cases e
   exact ⟨_, _, ra.int_eq, rb.int_eq, hl, k R H _ (Ext.refl _) rh (Rw.int _)⟩
  ·cases e
 ·cases e
theorem Gc : OpR X (compareOp .Lt) (F2 X.K wLt) := by
 intro pins s σ H x y v u Q I rx ry q
 refine (op_lt.or G7) pins s σ H x y v u Q I rx ry ?_
 obtain ⟨R, h, a, b, w, h', rh, ra, rb, e, k⟩ := q
 unfold wLt at e
 split at e
 ·cases e
  exact .inl ⟨_, _, ra.int_eq, rb.int_eq, k R H _ (Ext.refl _) rh (Rw.bl _)⟩
 ·cases e
  exact .inr ⟨_, _, ra.str_eq, rb.str_eq, k R H _ (Ext.refl _) rh (Rw.bl _)⟩
 ·cases e
theorem VM : OpR X (compareOp .Gt) (F2 X.K wGt) := by
 intro pins s σ H x y v u Q I rx ry q
 refine Qhh pins s σ H x y v u Q I rx ry ?_
 obtain ⟨R, h, a, b, w, h', rh, ra, rb, e, k⟩ := q
 unfold wGt at e
 split at e
 ·cases e
  exact ⟨_, _, ra.int_eq, rb.int_eq, k R H _ (Ext.refl _) rh (Rw.bl _)⟩
 ·cases e
theorem Qfk : OpR X (compareOp .GtE) (F2 X.K wGe) := by
 intro pins s σ H x y v u Q I rx ry q
 refine QhI pins s σ H x y v u Q I rx ry ?_
 obtain ⟨R, h, a, b, w, h', rh, ra, rb, e, k⟩ := q
 unfold wGe at e
 split at e
 ·cases e
  exact ⟨_, _, ra.int_eq, rb.int_eq, k R H _ (Ext.refl _) rh (Rw.bl _)⟩
 ·cases e
theorem Qf4 : OpR X (compareOp .Is) (F2 X.K wIs) := by
 intro pins s σ H x y v u Q I rx ry q
 refine (op_isN.or Qgc) pins s σ H x y v u Q I rx ry ?_
 obtain ⟨R, h, a, b, w, h', rh, ra, rb, e, k⟩ := q
 unfold wIs at e
 split at e
 ·cases e
  exact .inl ⟨rb.non_eq, by rw [Qe6 ra]; exact k R H _ (Ext.refl _) rh (Rw.bl _)⟩
 ·split at e
  ·cases e
   exact .inr ⟨_, _, ra.bl_eq, rb.bl_eq, k R H _ (Ext.refl _) rh (Rw.bl _)⟩
  ·cases e
 ·cases e
noncomputable def XD (a : W) (h : MH) : Option (W × MH) := match a with | .int i => some (.int (-i), h) | _ => none
theorem Zx {a : Expr} {ma : ME} {pos : Pos} (ha : PM X a ma) : PM X (.UnaryOp .USub a pos) (mUn XD ma) := ZD (Qg7 Qfq ha) fun σ H Q q => VJ (un1 q) <| by
 rintro x H1 ⟨R, h, a, w, h', rh, ra, e, k⟩
 unfold XD at e
 split at e
 ·cases e
  exact ⟨_, ra.int_eq, k R H1 _ (Ext.refl _) rh (Rw.int _)⟩
 ·cases e
noncomputable def wIx (a b : W) (h : MH) : Option (W × MH) := match b with
 | .int i => match a with
  | .tup ws => (atI ws i).map fun w => (w, h)
  | .str x => if x.length ≤ sizeLine then (atI x.cps.toList i).map fun c => (.str ⟨#[c]⟩, h) else none
  | a => (lsW h a).bind fun ws => (atI ws i).map fun w => (w, h)
 | _ => none
theorem Qbr {K : PySem.W.Frag} {R : Rn} {ws : List W} {xs : List V} (r : Rws K R ws xs) {i : Int} {w : W} (e : atI ws i = some w) : ∃ v, atI xs i = some v ∧ Rw K R w v := by
 unfold atI at e ⊢
 rw [← r.length]
 obtain ⟨j, e1, e2⟩ := Option.bind_eq_some_iff.mp e
 obtain ⟨v, e3, e4⟩ := r.get e2
 exact ⟨v, by rw [e1]; exact e3, e4⟩
theorem QeJ : IxR X (F2 X.K wIx) := by
 intro value slice pins s σ H x y v u Q I rx ry q hs
 refine Qf6 value slice pins s σ H x y v u Q I rx ry ?_ hs
 obtain ⟨R, h, a, b, w, h', rh, ra, rb, e, k⟩ := q
 unfold wIx at e
 split at e
 ·rename_i i
  split at e
  ·rename_i ws
   obtain ⟨w1, e1, e2⟩ := Option.map_eq_some_iff.mp e
   cases e2
   obtain ⟨ad, xs, rfl, q1, r1⟩ := rh.tupAt ra
   obtain ⟨v1, e3, r3⟩ := Qbr r1 e1
   exact .inr (.inl ⟨ad, xs, i, v1, rfl, rb.int_eq, q1, e3, k R H _ (Ext.refl _) rh r3⟩)
  ·split at e
   ·rename_i hl
    obtain ⟨c, e1, e2⟩ := Option.map_eq_some_iff.mp e
    cases e2
    exact .inr (.inr ⟨_, i, c, ra.str_eq, rb.int_eq, hl, e1, k R H _ (Ext.refl _) rh (Rw.str _)⟩)
   ·cases e
  ·obtain ⟨ws, e0, e⟩ := Option.bind_eq_some_iff.mp e
   obtain ⟨w1, e1, e2⟩ := Option.map_eq_some_iff.mp e
   cases e2
   obtain ⟨ad, xs, rfl, q1, r1⟩ := rh.lsAt ra e0
   obtain ⟨v1, e3, r3⟩ := Qbr r1 e1
   exact .inl ⟨ad, xs, i, v1, rfl, rb.int_eq, q1, e3, k R H _ (Ext.refl _) rh r3⟩
 ·cases e
theorem Qn {a b : Expr} {ma mb : ME} {pos : Pos} (ha : PM X a ma) (hb : PM X b mb) (hs : Qbs b := by intro _ _; rfl) : PM X (.Subscript a b pos) (Ql wIx ma mb) :=
 ZD (Qh3 QeJ ha hb hs) fun _ _ _ q => VJ (QgN q) fun _ _ q1 => VJ q1 fun _ _ q2 => q2
noncomputable def Js (ws : List W) (h : MH) : Option (W × MH) := match ws with
 | [.str x] => if x.length ≤ sizeLine then some (.int x.length, h) else none
 | [.tup ws] => some (.int ws.length, h)
 | [a] => (lsW h a).map fun ws => (.int ws.length, h)
 | _ => none
theorem Qu {K : PySem.W.Frag} {f : List W → MH → Option (W × MH)} : QeO K (Fs K f) f := fun _ _ _ q => q
theorem UA {K : PySem.W.Frag} {R : Rn} {a : W} {xs : List V} (r : Rws K R [a] xs) : ∃ v, xs = [v] ∧ Rw K R a v := by
 rw [Rws.cons_iff] at r
 obtain ⟨v, vs, rfl, r1, r2⟩ := r
 rw [Rws.nil_iff] at r2
 subst r2
 exact ⟨v, rfl, r1⟩
theorem Qhe {K : PySem.W.Frag} {R : Rn} {a b : W} {xs : List V} (r : Rws K R [a, b] xs) : ∃ v u, xs = [v, u] ∧ Rw K R a v ∧ Rw K R b u := by
 rw [Rws.cons_iff] at r
 obtain ⟨v, vs, rfl, r1, r2⟩ := r
 obtain ⟨u, rfl, r3⟩ := UA r2
 exact ⟨v, u, rfl, r1, r3⟩
theorem Qw : CallR X (.builtin "len") (Fs X.K Js) := by
 intro pins s σ H xs us Q I r q
 refine (call_len_seq.or Wl) pins s σ H xs us Q I r ?_
 obtain ⟨R, h, ws, w, h', rh, rw, e, k⟩ := q
 unfold Js at e
 split at e
 ·split at e
  ·rename_i hl
   cases e
   obtain ⟨v, rfl, r1⟩ := UA rw
   exact .inr ⟨_, by rw [r1.str_eq], hl, k R H _ (Ext.refl _) rh (Rw.int _)⟩
  ·cases e
 ·cases e
  obtain ⟨v, rfl, r1⟩ := UA rw
  obtain ⟨ad, xs, rfl, q1, r2⟩ := rh.tupAt r1
  exact .inl ⟨ad, xs, rfl, .inr q1, by rw [← r2.length]; exact k R H _ (Ext.refl _) rh (Rw.int _)⟩
 ·obtain ⟨ys, e1, e2⟩ := Option.map_eq_some_iff.mp e
  cases e2
  obtain ⟨v, rfl, r1⟩ := UA rw
  obtain ⟨ad, xs, rfl, q1, r2⟩ := rh.lsAt r1 e1
  exact .inl ⟨ad, xs, rfl, .inl q1, by rw [← r2.length]; exact k R H _ (Ext.refl _) rh (Rw.int _)⟩
 ·cases e
noncomputable def VO (ws : List W) (h : MH) : Option (W × MH) := match ws with
 | [.tup ws] => some (.tup ws, h)
 | [a] => (lsW h a).map fun ws => (.tup ws, h)
 | _ => none
noncomputable def Qct (ws : List W) (h : MH) : Option (W × MH) := match ws with
 | [.tup ws] => some (.lst ws, h)
 | [a] => (lsW h a).map fun ws => (.lst ws, h)
 | _ => none
theorem Zz : CallR X (.type "tuple") (Fs X.K VO) := by
 intro pins s σ H xs us Q I r q
 refine YD pins s σ H xs us Q I r ?_
 obtain ⟨R, h, ws, w, h', rh, rw, e, k⟩ := q
 unfold VO at e
 split at e
 ·cases e
  obtain ⟨v, rfl, r1⟩ := UA rw
  obtain ⟨ad, xs, rfl, q1, r2⟩ := rh.tupAt r1
  exact ⟨ad, xs, rfl, .inr ⟨q1, k R H _ (Ext.refl _) rh r1⟩⟩
 ·obtain ⟨ys, e1, e2⟩ := Option.map_eq_some_iff.mp e
  cases e2
  obtain ⟨v, rfl, r1⟩ := UA rw
  obtain ⟨ad, xs, rfl, q1, r2⟩ := rh.lsAt r1 e1
  refine ⟨ad, xs, rfl, .inl ⟨q1, fun p hp => ?_⟩⟩
  obtain ⟨R3, x3, rh3, rw3⟩ := rh.tup hp r2
  exact k R3 _ _ x3 rh3 rw3
 ·cases e
theorem Gi : CallR X (.type "list") (Fs X.K Qct) := by
 intro pins s σ H xs us Q I r q
 refine XQ pins s σ H xs us Q I r ?_
 obtain ⟨R, h, ws, w, h', rh, rw, e, k⟩ := q
 unfold Qct at e
 split at e
 ·cases e
  obtain ⟨v, rfl, r1⟩ := UA rw
  obtain ⟨ad, xs, rfl, q1, r2⟩ := rh.tupAt r1
  refine ⟨ad, xs, rfl, .inr q1, fun p hp => ?_⟩
  obtain ⟨R3, x3, rh3, rw3⟩ := rh.lstI hp r2
  exact k R3 _ _ x3 rh3 rw3
 ·obtain ⟨ys, e1, e2⟩ := Option.map_eq_some_iff.mp e
  cases e2
  obtain ⟨v, rfl, r1⟩ := UA rw
  obtain ⟨ad, xs, rfl, q1, r2⟩ := rh.lsAt r1 e1
  refine ⟨ad, xs, rfl, .inl q1, fun p hp => ?_⟩
  obtain ⟨R3, x3, rh3, rw3⟩ := rh.lstI hp r2
  exact k R3 _ _ x3 rh3 rw3
 ·cases e
end
end Mi

namespace Mi
open PySem PySem.Spec PyProof.Rows L2

section
variable {prog : Program} {w : World} {A : Around} {E : Value → Shared → Prop} {s : Shared}
theorem Xi {t sl : Addr} {items : Array Value} {vl vu : Value} {lo hi : Option Int} {Q : Value → Shared → Prop} (ht : IsTup s.heap t items) (hs : s.heap.IsSliceOf sl vl vu .none) (pl : IsPart vl lo) (pu : IsPart vu hi)
  (hw : HT.sIx items.size 0 lo = 0 ∧ HT.sIx items.size items.size hi = items.size) (h : Q (.ref t) s) : wpAny (model prog w) A (getItem (.ref t) (.ref sl)) Q E s := by
 obtain ⟨os, hos, hcs, hds⟩ := id hs
 have hTs : s.TypeIs (.ref sl) "slice" := ⟨os, hos, hcs⟩
 unfold getItem
 try with_reducible refine wpAny_holding ?_
 first | refine wpAny_bind (wpAny_pure ?_) | skip
 refine wpAny_bind (wpAny_sequenceKey ht.typeIs (by decide) ?_)
 refine wpAny_bind (wpAny_callSpecial?_slot (name := Str.ofString "__getitem__") ht.typeIs PyProof.Rows.slot_tuple_getitem
  (wpAny_call_entry PyProof.Rows.slot_tuple_getitem ht.typeIs entry_tuple_getitem ?_ (args_tuple_getitem _ _)))
 show wpAny _ _ (Builtin.Tuple.tupleItemsOf (.ref t) >>= _) _ _ s
 refine wpAny_bind (tupleItemsOf_ ht ?_)
 refine wpAny_bind (wpAny_typeOf hTs ?_)
 rw [if_pos (by decide)]
 refine wpAny_bind (HT.sliceApplied_gen hs pl pu ?_)
 have hno : ((((HT.sIx items.size 0 lo : Nat) : Int) == 0 && (1 : Int) == 1 && (HT.sIx items.size items.size hi - HT.sIx items.size 0 lo) == items.size) = true) := by
  rw [hw.1, hw.2]; simp
 show wpAny _ _ (if (((HT.sIx items.size 0 lo : Nat) : Int) == 0 && (1 : Int) == 1 && (HT.sIx items.size items.size hi - HT.sIx items.size 0 lo) == items.size) = true then _ else _) _ _ s
 rw [if_pos hno]
 refine wpAny_bind (m := Builtin.Tuple.tupleIsExact _) ?_
 unfold Builtin.Tuple.tupleIsExact
 refine wpAny_bind (wpAny_typeOf ht.typeIs (wpAny_pure ?_))
 rw [if_pos (by decide)]
 exact wpAny_bind (wpAny_rule (wpAny_pure ⟨_, rfl, wpAny_pure h⟩))
end
noncomputable def KY {α : Type} (xs : List α) (lo hi : Option Int) : List α := (xs.drop (HT.sIx xs.length 0 lo)).take (HT.sIx xs.length xs.length hi - HT.sIx xs.length 0 lo)
noncomputable def wSl (a : W) (lo hi : Option Int) (h : MH) : Option (W × MH) := match a with
 | .tup ws => some (.tup (KY ws lo hi), h)
 | .str x => if x.length ≤ sizeLine then some (.str (Txt.slice x lo hi), h) else none
 | a => (lsW h a).map fun ws => (.lst (KY ws lo hi), h)
theorem G1 {K : PySem.W.Frag} {R : Rn} {ws : List W} {xs : List V} (r : Rws K R ws xs) (lo hi : Option Int) : Rws K R (KY ws lo hi) (QbX xs lo hi) := by
 unfold KY QbX
 rw [r.length]
 exact (r.drop _).take _
theorem Gg {α : Type} {xs : List α} {lo hi : Option Int} (h : HT.sIx xs.length 0 lo = 0 ∧ HT.sIx xs.length xs.length hi = xs.length) : KY xs lo hi = xs := by
 unfold KY
 rw [h.1, h.2]; simp
noncomputable abbrev MOp := MSt → MH → Option (Option Int × MH)
noncomputable def tIO (K : PySem.W.Frag) (m : MOp) : TO := fun σ H Q => ∃ R σi h o h', Rh K R h H ∧ Rst K R σi σ ∧ m σi h = some (o, h') ∧ ∀ R' H', Ext R R' → Rh K R' h' H' → Q o H'
noncomputable def PMO (X : Cx) (e : Option Expr) (m : MOp) : Prop := PO X e (tIO X.K m)
noncomputable def Vr : MOp := fun _ h => some (none, h)
noncomputable def Zp (m : ME) : MOp := fun σ h => (m σ h).bind fun p => match p.1 with | .int i => some (some i, p.2) | _ => none
noncomputable def mSl (ma : ME) (ml mh : MOp) : ME := fun σ h => (ma σ h).bind fun p => (ml σ p.2).bind fun q => (mh σ q.2).bind fun r => wSl p.1 q.1 r.1 r.2
section
variable {X : Cx}
theorem sl_tupA : SlR X (fun x lo hi H Q => ∃ a xs, x = .ref a ∧ SqT X.K H a xs ∧ ((HT.sIx xs.length 0 lo = 0 ∧ HT.sIx xs.length xs.length hi = xs.length) → Q (.ref a) H) ∧
  (¬ (HT.sIx xs.length 0 lo = 0 ∧ HT.sIx xs.length xs.length hi = xs.length) → ∀ p, H p = none → Q (.ref p) (upd H p (.tup (QbX xs lo hi))))) := by
 intro pins s σ H x v vl vu lo hi sl Q I rx hs pl pu h
 obtain ⟨a, xs, rfl, hx, q1, q2⟩ := h
 by_cases hw : HT.sIx xs.length 0 lo = 0 ∧ HT.sIx xs.length xs.length hi = xs.length
 ·cases rx
  obtain ⟨its, r, ht, hz⟩ := I.tuple hx
  have hlen : its.toArray.size = xs.length := by rw [List.size_toArray]; exact r.length.symm
  refine ⟨"tuple", _, PyProof.Rows.slot_tuple_getitem.lookup, ht.typeIs, ?_⟩
  exact Xi ht hs pl pu (by rw [hlen]; exact hw) ⟨.ref a, H, I, rfl, q1 hw⟩
 ·exact Qfa pins s σ H (.ref a) v vl vu lo hi sl Q I rx hs pl pu ⟨a, xs, rfl, hx, hw, q2 hw⟩
theorem Qe8 : SlR X (fun x lo hi H Q => ∃ z, x = .str z ∧ z.length ≤ sizeLine ∧ Q (.str (Txt.slice z lo hi)) H) := by
 intro pins s σ H x v vl vu lo hi sl Q I rx hs pl pu h
 obtain ⟨z, rfl, hz, q⟩ := h
 obtain ⟨t, rfl⟩ := rx
 refine ⟨"str", _, PySem.F.slot_str_getitem.lookup, typeIs_str _ _ _, ?_⟩
 have fin : ∀ (t' : Tok) (k : Nat), EP X pins σ Q (.str (Txt.slice z lo hi) t') { s with toks := k } := fun t' k => ⟨.str _, H, I.tok _, ⟨t', rfl⟩, q⟩
 cases pl with
 | none =>
  cases pu with
  | none => exact wpAny_getItem_str_slice (l := none) (u := none) (st := none) hs rfl (post_val_or_str ⟨Nat.le_trans (Txt.slice_le z _ _) hz, fin⟩)
  | int j tj => exact wpAny_getItem_str_slice (l := none) (u := some (j, tj)) (st := none) hs rfl (post_val_or_str ⟨Nat.le_trans (Txt.slice_le z _ _) hz, fin⟩)
 | int i ti =>
  cases pu with
  | none => exact wpAny_getItem_str_slice (l := some (i, ti)) (u := none) (st := none) hs rfl (post_val_or_str ⟨Nat.le_trans (Txt.slice_le z _ _) hz, fin⟩)
  | int j tj => exact wpAny_getItem_str_slice (l := some (i, ti)) (u := some (j, tj)) (st := none) hs rfl (post_val_or_str ⟨Nat.le_trans (Txt.slice_le z _ _) hz, fin⟩)
theorem Zg : PMO X none Vr := fun pins s σ H Q I ⟨R, σi, h, o, h', rh, st, e, k⟩ => by
 cases e
 exact QdH pins s σ H Q I (k R H (Ext.refl _) rh)
theorem QY {e : Expr} {m : ME} (he : PM X e m) : PMO X (some e) (Zp m) := fun pins s σ H Q I ⟨R, σi, h, o, h', rh, st, e1, k⟩ => by
 refine QeB he pins s σ H Q I ?_
 obtain ⟨⟨w, h1⟩, e2, e3⟩ := Option.bind_eq_some_iff.mp e1
 refine ⟨R, σi, h, w, h1, rh, st, e2, fun R1 H1 v x1 rh1 rv => ?_⟩
 cases w <;> simp only at e3 <;> first | (cases e3; exact ⟨_, rv.int_eq, k R1 H1 x1 rh1⟩) | cases e3
theorem Q5 {a : Expr} {lo hi : Option Expr} {ma : ME} {ml mh : MOp} {pos p2 : Pos} (ha : PM X a ma) (hl : PMO X lo ml) (hh : PMO X hi mh) : PM X (.Subscript a (.Slice lo hi none p2) pos) (mSl ma ml mh) :=
 ZD (QbP (sl_list.or (sl_tupA.or Qe8)) ha hl hh) fun σ H Q ⟨R, σi, h, w, h', rh, st, e, k⟩ => by
  obtain ⟨⟨a, h1⟩, ea, e2⟩ := Option.bind_eq_some_iff.mp e
  obtain ⟨⟨l, h2⟩, el, e3⟩ := Option.bind_eq_some_iff.mp e2
  obtain ⟨⟨u, h3⟩, eu, e4⟩ := Option.bind_eq_some_iff.mp e3
  refine ⟨R, σi, h, a, h1, rh, st, ea, fun R1 H1 x x1 rh1 rx => ⟨R1, σi, h1, l, h2, rh1, st.mono x1, el, fun R2 H2 x2 rh2 => ⟨R2, σi, h2, u, h3, rh2, st.mono (x1.trans x2), eu, fun R3 H3 x3 rh3 => ?_⟩⟩⟩
  have rx3 := Rw.mono (x2.trans x3) _ _ rx
  have k3 := k.ext (x1.trans (x2.trans x3))
  dsimp only at e4
  unfold wSl at e4
  split at e4
  ·cases e4
   obtain ⟨ad, xs, rfl, q1, r1⟩ := rh3.tupAt rx3
   refine .inr (.inl ⟨ad, xs, rfl, q1, fun hw => ?_, fun _ p hp => ?_⟩)
   ·rw [Gg (by rw [r1.length]; exact hw)] at k3
    exact k3 R3 H3 _ (Ext.refl _) rh3 rx3
   ·obtain ⟨R4, x4, rh4, rw4⟩ := rh3.tup hp (G1 r1 l u)
    exact k3 R4 _ _ x4 rh4 rw4
  ·split at e4
   ·rename_i hz
    cases e4
    exact .inr (.inr ⟨_, rx3.str_eq, hz, k3 R3 H3 _ (Ext.refl _) rh3 (Rw.str _)⟩)
   ·cases e4
  ·obtain ⟨ys, e5, e6⟩ := Option.map_eq_some_iff.mp e4
   cases e6
   obtain ⟨ad, xs, rfl, q1, r1⟩ := rh3.lsAt rx3 e5
   refine .inl ⟨ad, xs, rfl, q1, fun p hp => ?_⟩
   obtain ⟨R4, x4, rh4, rw4⟩ := rh3.lstI hp (G1 r1 l u)
   exact k3 R4 _ _ x4 rh4 rw4
end
noncomputable def Qe0 (X : Cx) (id : String) (f : W → List W → MH → Option (W × MH)) : Prop :=
 MtR X id (fun x xs H Q => ∃ R h a ws w h', Rh X.K R h H ∧ Rw X.K R a x ∧ Rws X.K R ws xs ∧ f a ws h = some (w, h') ∧ After X.K R w h' Q)
noncomputable def tyW (h : MH) (T : String) : W → Bool
 | .str _ => T == "str"
 | .int _ => T == "int"
 | .lst _ => T == "list"
 | .frz _ => T == "list"
 | .ref n => match h[n]? with | some (.lst _) => T == "list" | some (.dic _) => T == "dict" | some (.dct _) => T == "dict" | none => false
 | _ => false
noncomputable def mMt (T : String) (f : W → List W → MH → Option (W × MH)) (mo : ME) (ms : MA) : ME := fun σ h => (mo σ h).bind fun p => if tyW p.2 T p.1 = true then (ms σ p.2).bind fun q => f p.1 q.1 q.2 else none
theorem Qdi {K : PySem.W.Frag} {R : Rn} {h : MH} {H : Hp} {T : String} {a : W} {x : V} (rh : Rh K R h H) (r : Rw K R a x) (e : tyW h T a = true) : tyV K T x H := by
 cases a with
 | str _ => rw [r.str_eq]; exact eq_of_beq e
 | int _ => rw [r.int_eq]; exact eq_of_beq e
 | lst _ =>
  obtain ⟨ad, xs, rfl, q, _⟩ := rh.lstAt r
  exact .inl ⟨eq_of_beq e, xs, SqL.of q⟩
 | frz _ =>
  obtain ⟨ad, xs, rfl, q, _⟩ := rh.frzAt r
  exact .inl ⟨eq_of_beq e, xs, q⟩
 | ref n =>
  simp only [tyW] at e
  split at e
  ·rename_i ws hn
   obtain ⟨_, rfl, xs, h1, _⟩ := rh.refAt r hn
   exact .inl ⟨eq_of_beq e, xs, SqL.of h1⟩
  ·rename_i kvs hn
   unfold Rw at r
   obtain ⟨kx, h1, _⟩ := rh.obj n _ hn
   rw [r.2]
   exact .inr (.inr (.inl ⟨eq_of_beq e, .inl ⟨kx, h1⟩⟩))
  ·rename_i kvs hn
   unfold Rw at r
   obtain ⟨kx, h1, _⟩ := rh.obj n _ hn
   rw [r.2]
   exact .inr (.inr (.inl ⟨eq_of_beq e, .inr ⟨kx, h1⟩⟩))
  ·cases e
 | _ => cases e
section
variable {X : Cx} {o e : Expr} {es : List Expr} {mo : ME} {ms : MA} {name : Str} {apos cpos : Pos} {T id : String} {f : W → List W → MH → Option (W × MH)}
theorem Qfs {X : Cx} {e : Expr} {es : List Expr} {cpos : Pos} (hfew : decide ((e :: es).length < 30) = true) (hs : Xe e = false) (hp : Xc es = true) :
  ((backTo cpos (starEach (e :: es) X.env)).all (fun x => !x.1) && (backToKw cpos (keywordEach [] X.env)).all (fun x => x.1.isSome)
   && decide ((e :: es).length + ([] : List Keyword).length + (if ([] : List Keyword).isEmpty then 0 else 1) < 30)) = true := by
 rw [QcB (by unfold Xc at hp ⊢; rw [List.all_cons, hs, hp]; rfl)]
 exact hfew
theorem Jt (pa : PlainAttrs T) (slot : Slot T name id) (hty : typeOf (.builtin id) = pure (.type "method_descriptor")) (hm : Qe0 X id f) (ho : PM X o mo) (ha : PMA X (e :: es) ms)
  (hbase : attributeBase o name X.env (eval o X.env) = eval o X.env := by rfl) (hfew : decide ((e :: es).length < 30) = true := by rfl)
  (hline : (apos.endLine == cpos.line) = true := by rfl) (hs : Xe e = false := by rfl) (hplain : Xc es = true := by rfl) :
  PM X (.Call (.Attribute o name apos) (e :: es) [] cpos) (mMt T f mo ms) :=
 ZD (Qib pa slot hty hm ho ha hbase (Qfs hfew hs hplain) hline (Vn hs) (Xw hplain)) fun σ H Q ⟨R, σi, h, w, h', rh, st, e, k⟩ => by
  obtain ⟨⟨a, h1⟩, ea, e2⟩ := Option.bind_eq_some_iff.mp e
  dsimp only at e2
  split at e2
  ·rename_i ht
   obtain ⟨⟨ws, h2⟩, es, e3⟩ := Option.bind_eq_some_iff.mp e2
   exact ⟨R, σi, h, a, h1, rh, st, ea, fun R1 H1 x x1 rh1 rx => ⟨Qdi rh1 rx ht, R1, σi, h1, ws, h2, rh1, st.mono x1, es, fun R2 H2 xs x2 rh2 rxs => ⟨R2, h2, a, ws, w, h', rh2, Rw.mono x2 _ _ rx, rxs, e3, k.ext (x1.trans x2)⟩⟩⟩
  ·cases e2
theorem QbG (pa : PlainAttrs T) (slot : Slot T name id) (hty : typeOf (.builtin id) = pure (.type "method_descriptor")) (hm : Qe0 X id f) (ho : PM X o mo)
  (hbase : attributeBase o name X.env (eval o X.env) = eval o X.env := by rfl) (hline : (apos.endLine == cpos.line) = true := by rfl) : PM X (.Call (.Attribute o name apos) [] [] cpos) (mMt T f mo Qm) :=
 ZD (QfN pa slot hty hm ho hbase hline) fun σ H Q ⟨R, σi, h, w, h', rh, st, e, k⟩ => by
  obtain ⟨⟨a, h1⟩, ea, e2⟩ := Option.bind_eq_some_iff.mp e
  dsimp only at e2
  split at e2
  ·rename_i ht
   obtain ⟨⟨ws, h2⟩, es, e3⟩ := Option.bind_eq_some_iff.mp e2
   cases es
   exact ⟨R, σi, h, a, h1, rh, st, ea, fun R1 H1 x x1 rh1 rx => ⟨Qdi rh1 rx ht, R1, h1, a, [], w, h', rh1, rx, Rws.nil, e3, k.ext x1⟩⟩
  ·cases e2
end
noncomputable def QU (a : W) (ws : List W) (h : MH) : Option (W × MH) := match a, ws with
 | .ref n, [w] => match h[n]? with | some (.lst xs) => if xs.length < sizeLine then some (.non, h.set n (.lst (xs ++ [w]))) else none | _ => none
 | _, _ => none
noncomputable def Ys (a : W) (ws : List W) (h : MH) : Option (W × MH) := match a, ws with
 | .ref n, [w] => match h[n]? with | some (.lst xs) => (loW h w).bind fun ys => if xs.length + ys.length ≤ sizeLine then some (.non, h.set n (.lst (xs ++ ys))) else none | _ => none
 | _, _ => none
noncomputable def QeY (a : W) (ws : List W) (h : MH) : Option (W × MH) := match a, ws with
 | .ref n, [] => match h[n]? with | some (.lst xs) => (xs[xs.length - 1]?).map fun w => (w, h.set n (.lst xs.dropLast)) | _ => none
 | _, _ => none
section
variable {X : Cx}
theorem Rws.dropLast {K : PySem.W.Frag} {R : Rn} {ws : List W} {vs : List V} (r : Rws K R ws vs) : Rws K R ws.dropLast vs.dropLast := by
 rw [List.dropLast_eq_take, List.dropLast_eq_take, r.length]
 exact r.take _
theorem QB : Qe0 X "list.append" QU := by
 intro pins s σ H x xs v us Q I rx rv q
 refine Qac pins s σ H x xs v us Q I rx rv ?_
 obtain ⟨R, h, a, ws, w, h', rh, ra, rws, e, k⟩ := q
 unfold QU at e
 split at e
 ·rename_i n w1
  split at e
  ·rename_i ys hn
   split at e
   ·rename_i hl
    cases e
    obtain ⟨hlt, rfl, xv, h1, r1⟩ := rh.refAt ra hn
    obtain ⟨y, rfl, ry⟩ := UA rws
    refine ⟨_, xv, y, rfl, rfl, h1, by rw [← r1.length]; exact hl, ?_⟩
    exact k R _ _ (Ext.refl _) (rh.put hlt ⟨_, rfl, Rws.append r1 (Rws.cons ry Rws.nil)⟩) Rw.non
   ·cases e
  ·cases e
 ·cases e
theorem GB : Qe0 X "list.extend" Ys := by
 intro pins s σ H x xs v us Q I rx rv q
 refine QaG pins s σ H x xs v us Q I rx rv ?_
 obtain ⟨R, h, a, ws, w, h', rh, ra, rws, e, k⟩ := q
 unfold Ys at e
 split at e
 ·rename_i n w1
  split at e
  ·rename_i ys hn
   obtain ⟨zs, e1, e⟩ := Option.bind_eq_some_iff.mp e
   split at e
   ·rename_i hl
    cases e
    obtain ⟨hlt, rfl, xv, h1, r1⟩ := rh.refAt ra hn
    obtain ⟨y, rfl, ry⟩ := UA rws
    obtain ⟨bd, yv, rfl, h2, r2⟩ := rh.loAt ry e1
    refine ⟨_, bd, xv, yv, rfl, rfl, h1, h2, by rw [← r1.length, ← r2.length]; exact hl, ?_⟩
    exact k R _ _ (Ext.refl _) (rh.put hlt ⟨_, rfl, Rws.append r1 r2⟩) Rw.non
   ·cases e
  ·cases e
 ·cases e
theorem Ur : Qe0 X "list.pop" QeY := by
 intro pins s σ H x xs v us Q I rx rv q
 refine Qfh pins s σ H x xs v us Q I rx rv ?_
 obtain ⟨R, h, a, ws, w, h', rh, ra, rws, e, k⟩ := q
 unfold QeY at e
 split at e
 ·rename_i n
  split at e
  ·rename_i ys hn
   obtain ⟨w1, e1, e2⟩ := Option.map_eq_some_iff.mp e
   cases e2
   obtain ⟨hlt, rfl, xv, h1, r1⟩ := rh.refAt ra hn
   rw [Rws.nil_iff] at rws
   subst rws
   obtain ⟨y, e3, ry⟩ := r1.get e1
   refine ⟨_, xv, y, rfl, rfl, h1, by rw [← r1.length]; exact e3, ?_⟩
   exact k R _ _ (Ext.refl _) (rh.put hlt ⟨_, rfl, r1.dropLast⟩) ry
  ·cases e
 ·cases e
end
noncomputable def Qcp (h : MH) : W → Option String
 | .non => some "NoneType"
 | .bl _ => some "bool"
 | .int _ => some "int"
 | .str _ => some "str"
 | .tup _ => some "tuple"
 | .lst _ => some "list"
 | .frz _ => some "list"
 | .ref n => match h[n]? with | some (.lst _) => some "list" | some (.dic _) => some "dict" | some (.dct _) => some "dict" | none => none
 | .ty _ => none
noncomputable def KL (k T : String) : Bool := k == T || (k == "bool" && T == "int")
noncomputable def Wx (T : String) : Bool := T == "str" || T == "int" || T == "bool" || T == "list" || T == "tuple" || T == "dict"
noncomputable def QgB (ws : List W) (h : MH) : Option (W × MH) := match ws with
 | [a, .ty T] => if Wx T = true then (Qcp h a).map fun k => (.bl (KL k T), h) else none
 | _ => none
theorem Ky {K : PySem.W.Frag} {k T : String} (hk : k = "NoneType" ∨ k = "bool" ∨ k = "int" ∨ k = "str" ∨ k = "tuple" ∨ k = "list" ∨ k = "dict") (hT : Wx T = true) : PySem.W.kitOne K (.type k) (.type T) = some (KL k T) := by
 have hT' : T = "str" ∨ T = "int" ∨ T = "bool" ∨ T = "list" ∨ T = "tuple" ∨ T = "dict" := by
  unfold Wx at hT
  simp only [Bool.or_eq_true, beq_iff_eq] at hT
  rcases hT with ((((h | h) | h) | h) | h) | h <;> simp [h]
 rcases hk with rfl | rfl | rfl | rfl | rfl | rfl | rfl <;> rcases hT' with rfl | rfl | rfl | rfl | rfl | rfl <;> first | rfl | decide +kernel
section
variable {X : Cx}
theorem Qa5 : CallR X (.builtin "isinstance") (Fs X.K QgB) := by
 intro pins s σ H xs us Q I r q
 obtain ⟨R, h, ws, w, h', rh, rws, e, k⟩ := q
 unfold QgB at e
 split at e
 ·rename_i a T
  split at e
  ·rename_i hT
   obtain ⟨kd, e1, e2⟩ := Option.map_eq_some_iff.mp e
   cases e2
   obtain ⟨x, y, rfl, ra, rb⟩ := Qhe rws
   obtain ⟨u, u2, rfl, ru, ru2⟩ := Qew r
   rw [rb.ty_eq] at ru2
   cases ru2
   have fin : ∀ tk, EP X pins σ Q (.bool (KL kd T)) { s with toks := tk } := fun tk => ⟨.bl _, H, I.tok _, rfl, k R H _ (Ext.refl _) rh (Rw.bl _)⟩
   have one : ∀ {t : String}, TyOf X.K H x (.type t) → kd = t → (t = "NoneType" ∨ t = "bool" ∨ t = "int" ∨ t = "str" ∨ t = "tuple" ∨ t = "list" ∨ t = "dict") → wpAny (model X.prog X.w) X.A (call (.builtin "isinstance") [u, .type T]) (EP X pins σ Q) X.xe s := fun {t} ty et ht => by
    subst et
    exact Qad I ru ty (Ky ht hT) fin
   cases a with
   | non => cases e1; rw [ra.non_eq] at one; exact one .non rfl (by simp)
   | bl b => cases e1; rw [ra.bl_eq] at one; exact one (.bl b) rfl (by simp)
   | int i => cases e1; rw [ra.int_eq] at one; exact one (.int i) rfl (by simp)
   | str z => cases e1; rw [ra.str_eq] at one; exact one (.str z) rfl (by simp)
   | tup ys =>
    cases e1
    obtain ⟨ad, yv, rfl, q1, _⟩ := rh.tupAt ra
    cases ru
    obtain ⟨its, _, p, _⟩ := I.tuple q1
    obtain ⟨o, h1, h2, _⟩ := p
    exact PySem.W.kia_one PySem.W.kitx_tuple I.kIn ⟨o, h1, h2⟩ (Ky (by simp) hT) (fun z => nomatch z) fin
   | lst ys =>
    cases e1
    obtain ⟨ad, yv, rfl, q1, _⟩ := rh.lstAt ra
    exact one (.lst q1) rfl (by simp)
   | frz ys =>
    cases e1
    obtain ⟨ad, yv, rfl, q1, _⟩ := rh.frzAt ra
    cases ru
    obtain ⟨its, _, p, _⟩ := I.list q1
    obtain ⟨o, n, h1, h2, _⟩ := p
    exact PySem.W.kia_one PySem.W.kitx_list I.kIn ⟨o, h1, h2⟩ (Ky (by simp) hT) (fun z => nomatch z) fin
   | ref n =>
    simp only [Qcp] at e1
    split at e1
    ·rename_i ys hn
     cases e1
     obtain ⟨_, rfl, yv, h1, _⟩ := rh.refAt ra hn
     exact one (.lst h1) rfl (by simp)
    ·rename_i kvs hn
     cases e1
     unfold Rw at ra
     obtain ⟨kx, h1, _⟩ := rh.obj n _ hn
     rw [ra.2] at one
     exact one (.dK h1) rfl (by simp)
    ·rename_i kvs hn
     cases e1
     unfold Rw at ra
     obtain ⟨kx, h1, _⟩ := rh.obj n _ hn
     rw [ra.2] at one
     exact one (.dT h1) rfl (by simp)
    ·cases e1
   | ty _ => cases e1
  ·cases e
 ·cases e
end
end Mi

namespace Mi
open PySem PySem.Spec PyProof.Rows L2

structure Cal (P : Program) (w : World) (K : PySem.W.Frag) (mg : Str → Option Value) (base : Heap) (k : Nat) (x : Str) (ps : List Str) (g : FM) : Prop where
 ex : ∃ (f : Addr) (fd : FuncData), FnOk P w K mg base CX0 k f fd ps (spM K ps.length g) ∧ mg x = some (.ref f) ∧ PySem.W.keepIn K (.ref f) = true ∧ Binds K fd ps [] ∧ ∃ (oc : Value) (od : Option Addr) (osl : Array (Option Value)), K.lookup f = some ⟨oc, od, .func fd, osl⟩
structure DefAt (K : PySem.W.Frag) (mg : Str → Option Value) (x : Str) (st : Stmt) (ps : List Str) : Prop where
 ex : ∃ (f : Addr) (fd : FuncData), Fun K x x st f fd ∧ mg x = some (.ref f) ∧ Binds K fd ps []
theorem QF {K : PySem.W.Frag} {h : Heap} {mg : Str → Option Value} {x : Str} {st : Stmt} {ps : List Str} {f : Addr} {oc : Value} {od an : Option Addr} {sl : Array (Option Value)} {kV doc pm cd ct : Value} (X : K.In h) (G : h.Ns mainGlobals mg)
  (a : PySem.W.nsIn K mainGlobals x = some (some (.ref f))) (l : K.lookup f = some ⟨oc, od, .func (PySem.W.fnOf x x (Xk st) (Vg st) (Qs st) .none kV doc pm an cd ct), sl⟩) (c : PySem.W.codeIn K cd x = true) (k : PySem.W.keepIn K (.ref f) = true)
  (b : ∀ (kV doc pm : Value) (an : Option Addr) (cdv ct : Value) (us : List Value), us.length = ps.length → bindArgs (PySem.W.fnOf x x (Xk st) (Vg st) (Qs st) .none kV doc pm an cdv ct) ⟨us, []⟩ = pure (ps.zip us)) : DefAt K mg x st ps :=
 ⟨f, _, Qdm l c k, PySem.W.mg_of X G a, (Qdm l c k).binds b⟩
structure Glob (K : PySem.W.Frag) (mg : Str → Option Value) (x : Str) (w : W) : Prop where
 ex : ∃ (v : V) (u : Value), mg x = some u ∧ RelV v u ∧ ∀ R, Rw K R w v
theorem QgJ {K : PySem.W.Frag} {h : Heap} {mg : Str → Option Value} {x : Str} {i : Int} {t : Tok} (X : K.In h) (G : h.Ns mainGlobals mg) (a : PySem.W.nsIn K mainGlobals x = some (some (.int i t))) : Glob K mg x (.int i) :=
 ⟨.int i, _, PySem.W.mg_of X G a, ⟨t, rfl⟩, fun _ => Rw.int i⟩
noncomputable def QfZ : List Str → List W := List.map W.str
theorem UK {K : PySem.W.Frag} {R : Rn} : ∀ (ys : List Str), Rws K R (QfZ ys) (ys.map V.str)
 | [] => Rws.nil
 | y :: ys => Rws.cons (Rw.str y) (UK ys)
theorem WH : ∀ {its : List Value} {ys : List Str}, StrsAre its ys → Vals (ys.map V.str) its
 | _, _, .nil => .nil
 | _, _, .cons y t r => .cons ⟨t, rfl⟩ (WH r)
theorem QfF {K : PySem.W.Frag} {h : Heap} {mg : Str → Option Value} {x : Str} {c : Addr} {dd : Option Addr} {its : Array Value} {n : Nat} {sl : Array (Option Value)} {ys : List Str} (X : K.In h) (G : h.Ns mainGlobals mg) (a : PySem.W.nsIn K mainGlobals x = some (some (.ref c)))
  (l : K.lookup c = some ⟨.type "tuple", dd, .seq its n, sl⟩) (hz : its.size ≤ sizeLine) (hs : StrsAre its.toList ys) : Glob K mg x (.tup (QfZ ys)) :=
 ⟨.ref c, _, PySem.W.mg_of X G a, rfl, fun R => by
  unfold Rw
  exact ⟨c, _, rfl, .inr ⟨_, its, n, l, rfl, rfl, hz, WH hs⟩, UK ys⟩⟩
section
variable {X : Cx} {k n : Nat} {g : FM} {x : Str} {ps : List Str} {p pos : Pos} {e : Expr} {es : List Expr} {ms : MA}
theorem Qi (C : Cal X.prog X.w X.K X.mg X.base k x ps g) (hr : Room k X.A) (hg : Gl X x) (ha : PMA X (e :: es) ms) (hn : ps.length = n := by rfl)
  (hdb : (x == ("__debug__" : Str)) = false := by decide) (he : Xe e = false := by rfl) (hpl : Xc es = true := by rfl) :
  PM X (.Call (.Name x p) (e :: es) [] pos) (Qv n g ms) := by
 obtain ⟨f, fd, F, hm, hk, hb, _⟩ := C.ex
 subst hn
 exact Qei F hr hg hm hk hb Qgt ha hdb he hpl
theorem Qbq (C : Cal X.prog X.w X.K X.mg X.base k x ps g) (hr : Room k X.A) (hg : Gl X x) (hn : ps.length = n := by rfl) (hdb : (x == ("__debug__" : Str)) = false := by decide) : PM X (.Call (.Name x p) [] [] pos) (Qv n g Qm) := by
 obtain ⟨f, fd, F, hm, hk, hb, _⟩ := C.ex
 subst hn
 exact Qb3 F hr hg hm hk hb Qgt hdb
theorem QgU {T : String} (hg : Gl X x) (hm : X.mg x = none) (hv : bootBuiltins x = some (.type T)) (hn : x ≠ "__name__" := by decide) (hd : (x == ("__debug__" : Str)) = false := by decide) : PM X (.Name x pos) (mC (.ty T)) :=
 QeD hg hm hv (v := .ty T) rfl (fun _ => Rw.ty _) hn hd
end
section
variable {P : Program} {w : World} {K : PySem.W.Frag} {mg : Str → Option Value} {base : Heap}
theorem Zb {x : Str} {st : Stmt} {N ps : List Str} {k more : Nat} {m : SM} (d : DefAt K mg x st ps) (S : FnScope N ps (Qs st)) (hN : N.length = ps.length + more)
  (hbody : ∀ (f : Addr) (cdv : Value) (A : Around) (outer : List Env) (s : Shared) (H : Hp) (E : XK), Room k (A.deeper (envOfC x (Qs st) s.heap.objs.size f cdv)) → QbL (QcW CX0 P w K mg base N x (Qs st) f cdv A outer s H E).nox (Vg st) m) :
  Cal P w K mg base (k + 1) x ps (Zd more m) := by
 obtain ⟨f, fd, F, hm, hb⟩ := d.ex
 obtain ⟨oc, od, kV, doc, pm, an, cdv, ct, osl, e, lk, hcd⟩ := F.ex
 exact ⟨f, fd, Qg9 F S hN (fun cdv A outer s H E hr => hbody f cdv A outer s H E hr), hm, F.kp, hb, oc, od, osl, lk⟩
theorem Cal.imp {x : Str} {ps : List Str} {k : Nat} {g g' : FM} (C : Cal P w K mg base k x ps g) (h : ∀ vs H Q E, spM K ps.length g' vs H Q E → spM K ps.length g vs H Q E) : Cal P w K mg base k x ps g' := by
 obtain ⟨f, fd, F, r⟩ := C.ex
 exact ⟨f, fd, F.imp h, r⟩
end
theorem U8 {K : PySem.W.Frag} {R : Rn} : ∀ (ns : List Int), Rws K R (ns.map W.int) (ns.map V.int)
 | [] => Rws.nil
 | n :: ns => Rws.cons (Rw.int n) (U8 ns)
theorem QgW {l : PySem.W.OpenLaw} {q : Program} {loose : List Str} {XP : (Str → Option Value) → Heap → Prop} {YP : World → Heap → Prop} {d : DefRec} {K : Params → PySem.W.Frag} {st : Stmt} {sem : FM} {k : Nat} (hn : l.most = some 63) (hdf : d.params.defaults = []) (hr : Room k callerA) (hdn : d.name = "law")
  (hY : ∀ (w : World) (h : Heap), YP w h → (K w.params).In h)
  (hb : ∀ (kV doc pm : Value) (an : Option Addr) (cdv ct : Value) (s : Shared) (u : Value), BindsTo s (PySem.W.fnOf "law" "law" (Xk st) (Vg st) (Qs st) .none kV doc pm an cdv ct) ⟨[u], []⟩ [("script", u)])
  (F : ∀ (w : World) (mg : Str → Option Value) (h : Heap), (K w.params).In h → h.Ns mainGlobals mg →
   DefAt (K w.params) mg "law" st ["script"] ∧ ∀ base : Heap, (K w.params).In base → base.Ns mainGlobals mg → Cal l.prog w (K w.params) mg base k "law" ["script"] sem)
  (main : ∀ ns : List Int, ns.length ≤ 63 → ∃ h', sem [.frz (ns.map W.int)] [] = some (.bl true, h')) :
  PySem.W.WalkO q loose XP YP l.row.toRowW d [] (fun f vs => PySem.call f vs) := by
 refine L2.QdK (n := 63) (k := k) (x := "script") (CX := fun _ => CX0) (sp := fun w => spM (K w.params) 1 sem) hn (by decide) hdf hr hY ?_ ?_ fun _ _ _ _ _ z => z
 ·intro w mg fa h KX G hmg
  obtain ⟨D, Fn⟩ := F w mg h KX G
  obtain ⟨f, fd, Fu, hm, _⟩ := D.ex
  rw [hdn] at hmg
  rw [hm] at hmg
  cases hmg
  obtain ⟨oc, od, kV, doc, pm, an, cdv, ct, osl, e, lk, hcd⟩ := Fu.ex
  refine ⟨fd, fun s u => ?_, fun base kb nb => ?_⟩
  rotate_left
  ·obtain ⟨f', fd', F', hm', _, _, oc', od', osl', lk'⟩ := (Fn base kb nb).ex
   rw [hm] at hm'
   cases hm'
   rw [lk] at lk'
   cases lk'
   exact F'
  rw [e]
  exact hb kV doc pm an cdv ct s u
 ·intro w H a ns hl hO hS
  obtain ⟨h', e⟩ := main ns hl
  refine ⟨⟨fun _ => 0, 0, H, fun _ => none⟩, [.frz (ns.map W.int)], [], .bl true, h', rfl, ⟨rfl, fun _ _ z => z, fun n hn => absurd hn (Nat.not_lt_zero _), fun m n hm => absurd hm (Nat.not_lt_zero _), (fun n o z => by simp at z), (fun _ _ z => by cases z), (fun _ _ => rfl), (fun _ _ z => by cases z)⟩, ?_, e, fun R' H' v _ _ rv => rv.bl_eq⟩
  refine Rws.cons ?_ Rws.nil
  unfold Rw
  exact ⟨a, _, rfl, hS, U8 ns⟩
end Mi

namespace Mi
open PySem PySem.Spec PyProof.Rows L2

noncomputable def Qbk (scope : Scope) : Bool := scope.names.all fun y => y.2 != .cell && (y.2 != .local || scope.names.lookup y.1 == some .local)
noncomputable def Qhc (N : List Str) (xs scope : Scope) (cp : List (Option Nat)) (Nb : List Str) : Bool := (cp.zip Nb).all fun p => match p.1 with
 | none => true
 | some j => N[j]? == some p.2 && (xs.names.lookup p.2 == some .cell || xs.names.lookup p.2 == some .free) && scope.names.lookup p.2 == some .free
noncomputable def Qdj (scope : Scope) (ks : List Str) : Bool := scope.names.all fun y => y.2 != .free || ks.contains y.1
theorem J0 {env : Env} : ∀ {names : List (Str × NameKind)} {x : Str}, names.lookup x = some .free →
  (names.map fun (n, k) => if (k == NameKind.free && env.scope.kind == .function && env.kindOf n == some .cell) then (n, NameKind.cell) else (n, k)).lookup x = some .cell ∨
  (names.map fun (n, k) => if (k == NameKind.free && env.scope.kind == .function && env.kindOf n == some .cell) then (n, NameKind.cell) else (n, k)).lookup x = some .free
 | [], _, h => by simp at h
 | (n, k) :: r, x, h => by
  have ih := @J0 env r x
  rw [List.map_cons]
  dsimp only
  cases hx : x == n with
  | true =>
   simp only [List.lookup_cons, hx] at h
   cases h
   by_cases hc : (NameKind.free == NameKind.free && env.scope.kind == .function && env.kindOf n == some .cell) = true
   ·rw [if_pos hc]; exact .inl (by simp [List.lookup_cons, hx])
   ·rw [if_neg hc]; exact .inr (by simp [List.lookup_cons, hx])
  | false =>
   simp only [List.lookup_cons, hx] at h
   by_cases hc : (k == NameKind.free && env.scope.kind == .function && env.kindOf n == some .cell) = true
   ·rw [if_pos hc]; simp only [List.lookup_cons, hx]; exact ih h
   ·rw [if_neg hc]; simp only [List.lookup_cons, hx]; exact ih h
theorem Z6 {env : Env} : ∀ {names : List (Str × NameKind)} {x : Str} {k' : NameKind}, (∀ y ∈ names, y.2 ≠ .cell) → (k' = .cell ∨ k' = .free) →
  (names.map fun (n, k) => if (k == NameKind.free && env.scope.kind == .function && env.kindOf n == some .cell) then (n, NameKind.cell) else (n, k)).lookup x = some k' → (x, NameKind.free) ∈ names
 | [], _, _, _, _, h => by simp at h
 | (n, k) :: r, x, k', hn, hk, h => by
  rw [List.map_cons] at h
  dsimp only at h
  have ih := @Z6 env r x k' (fun y hy => hn y (List.mem_cons_of_mem _ hy)) hk
  cases hx : x == n with
  | true =>
   have : x = n := eq_of_beq hx
   subst this
   by_cases hc : (k == NameKind.free && env.scope.kind == .function && env.kindOf x == some .cell) = true
   ·have : k = .free := by
     simp only [Bool.and_eq_true, beq_iff_eq] at hc; exact hc.1.1
    subst this
    exact List.mem_cons_self
   ·rw [if_neg hc] at h
    simp [List.lookup_cons] at h
    subst h
    rcases hk with z | z
    ·exact absurd z (hn (x, k) List.mem_cons_self)
    ·subst z; exact List.mem_cons_self
  | false =>
   refine List.mem_cons_of_mem _ (ih ?_)
   by_cases hc : (k == NameKind.free && env.scope.kind == .function && env.kindOf n == some .cell) = true
   ·rw [if_pos hc] at h; simpa only [List.lookup_cons, hx] using h
   ·rw [if_neg hc] at h; simpa only [List.lookup_cons, hx] using h
theorem GK {cl : List (Str × Addr)} {x : Str} {c : Addr} (h : cl.lookup x = some c) : (x, c) ∈ cl := by
 induction cl with
 | nil => simp at h
 | cons p r ih =>
  obtain ⟨n, a⟩ := p
  cases hx : x == n with
  | true =>
   simp only [List.lookup_cons, hx] at h
   cases h
   rw [eq_of_beq hx]; exact List.mem_cons_self
  | false =>
   simp only [List.lookup_cons, hx] at h
   exact List.mem_cons_of_mem _ (ih h)
theorem YB {cl : List (Str × Addr)} {x : Str} (h : x ∈ cl.map (·.1)) : ∃ c, cl.lookup x = some c := by
 induction cl with
 | nil => simp at h
 | cons p r ih =>
  obtain ⟨n, a⟩ := p
  cases hx : x == n with
  | true => exact ⟨a, by simp only [List.lookup_cons, hx]⟩
  | false =>
   rcases List.mem_cons.mp h with z | z
   ·dsimp only at z; rw [z, beq_self_eq_true] at hx; cases hx
   ·obtain ⟨c, hc⟩ := ih z
    exact ⟨c, by simp only [List.lookup_cons, hx]; exact hc⟩
theorem Yi {X : Cx} {scope xs : Scope} {cl : List (Str × Addr)} {N Nb ks : List Str} {cp : List (Option Nat)} (clos : closureFor scope X.env = pure cl) (kind : scope.kind = .function) (hs : Qbk scope = true) (hk : cl.map (·.1) = ks) (hks : Qdj scope ks = true)
  (hsub : ∀ p ∈ cl, X.env.cells.lookup p.1 = some p.2) (hN : X.N = N) (hx : X.env.scope = xs) (hl : cp.length = Nb.length) (hc : Qhc N xs scope cp Nb = true) : BlkOk X scope cl Nb cp := by
 have hcell : ∀ y ∈ scope.names, y.2 ≠ .cell := fun y hy => by
  have := List.all_eq_true.mp hs y hy
  simp only [Bool.and_eq_true, bne_iff_ne] at this
  exact this.1
 refine ⟨clos, hcell, kind, fun y hy hl => ?_, fun x c h => hsub _ (GK h), fun x h => ?_, hl, fun i j x h1 h2 => ?_⟩
 ·have := List.all_eq_true.mp hs y hy
  simp only [Bool.and_eq_true, Bool.or_eq_true, bne_iff_ne, beq_iff_eq] at this
  rcases this.2 with z | z
  ·exact absurd hl z
  ·exact z
 ·have hm : (x, NameKind.free) ∈ scope.names := by
   rcases h with h | h
   ·exact Z6 hcell (.inl rfl) h
   ·exact Z6 hcell (.inr rfl) h
  have := List.all_eq_true.mp hks _ hm
  simp only [Bool.or_eq_true, bne_iff_ne, ne_eq, not_true_eq_false, false_or, List.contains_iff_mem] at this
  exact YB (by rw [hk]; exact this)
 ·have hz : (cp.zip Nb)[i]? = some (some j, x) := by rw [List.getElem?_zip_eq_some]; exact ⟨h1, h2⟩
  have := List.all_eq_true.mp hc _ (List.mem_of_getElem? hz)
  simp only [Bool.and_eq_true, Bool.or_eq_true, beq_iff_eq] at this
  obtain ⟨⟨a, b⟩, c⟩ := this
  refine ⟨by rw [hN]; exact a, ?_, ?_, J0 c⟩
  ·rw [hx]
   rcases b with b | b
   ·exact .inr (.inl b)
   ·exact .inr (.inr b)
  ·unfold Env.kindOf
   rw [hx]; exact b
theorem Vs {X : Cx} {scope : Scope} {Nb : List Str} {cp : List (Option Nat)} (kind : scope.kind = .function) (hs : Qbk scope = true) (hks : Qdj scope [] = true) (hl : cp.length = Nb.length) (hc : cp.all (·.isNone) = true) : BlkOk X scope [] Nb cp := by
 have hfree : ∀ y ∈ scope.names, y.2 ≠ .free := fun y hy z => by
  have := List.all_eq_true.mp hks y hy
  simp [z] at this
 have hcell : ∀ y ∈ scope.names, y.2 ≠ .cell := fun y hy => by
  have := List.all_eq_true.mp hs y hy
  simp only [Bool.and_eq_true, bne_iff_ne] at this
  exact this.1
 refine ⟨closureFor_none hfree, hcell, kind, fun y hy hl => ?_, fun x c h => by simp at h, fun x h => ?_, hl, fun i j x h1 h2 => ?_⟩
 ·have := List.all_eq_true.mp hs y hy
  simp only [Bool.and_eq_true, Bool.or_eq_true, bne_iff_ne, beq_iff_eq] at this
  rcases this.2 with z | z
  ·exact absurd hl z
  ·exact z
 ·have hm : (x, NameKind.free) ∈ scope.names := by
   rcases h with h | h
   ·exact Z6 hcell (.inl rfl) h
   ·exact Z6 hcell (.inr rfl) h
  exact absurd rfl (hfree _ hm)
 ·have := List.all_eq_true.mp hc _ (List.mem_of_getElem? h1)
  simp at this
end Mi

namespace Mi
open PySem PySem.Spec PyProof.Rows L2
theorem Q4 (items : List W) (h : MH) : Qc6 none items h := fun _ z => by cases z
theorem V1 {fin : List W → MH → Option (W × MH)} {items : List W} {mt : MT} {me : ME} {caps : MSt} {h : MH} {f : W → W} {p : W → Bool} : ∀ (rest acc : List W) (o : Option W),
  (∀ w ∈ rest, mt (some w :: caps) h = some (p w, h)) → (∀ w ∈ rest, p w = true → me (some w :: caps) h = some (f w, h)) → acc.length + rest.length ≤ sizeLine →
  ZU fin items none (J2 0) mt me rest acc (o :: caps) h = fin (acc ++ (rest.filter p).map f) h
 | [], acc, o, _, _, _ => by
  unfold ZU
  rw [if_pos (Q4 _ _)]; simp
 | w :: rest, acc, o, ht, he, hl => by
  unfold ZU
  rw [if_pos (Q4 _ _)]
  have h1 : J2 0 w (o :: caps) h = some (some w :: caps) := rfl
  rw [h1, Option.bind_some, ht w List.mem_cons_self, Option.bind_some]
  have hl' : acc.length + (rest.length + 1) ≤ sizeLine := by simpa using hl
  cases hp : p w with
  | true =>
   simp only [hp]
   rw [he w List.mem_cons_self hp, Option.bind_some, if_pos (by omega)]
   rw [V1 rest (acc ++ [f w]) (some w) (fun x hx => ht x (List.mem_cons_of_mem _ hx)) (fun x hx => he x (List.mem_cons_of_mem _ hx)) (by simp; omega)]
   simp [List.filter_cons, hp]
  | false =>
   simp only [hp]
   rw [V1 rest acc (some w) (fun x hx => ht x (List.mem_cons_of_mem _ hx)) (fun x hx => he x (List.mem_cons_of_mem _ hx)) (by omega)]
   simp [List.filter_cons, hp]
theorem QaE {items : List W} {b : MG} {body : SM} {w : W} {r : List W} {σ σ1 σ2 : MSt} {h h2 : MH} (hb : b w σ h = some σ1) (hy : body σ1 h = some (.nx σ2 h2)) : Vk items none b body (w :: r) σ h = Vk items none b body r σ2 h2 := by
 rw [Vk, if_pos (Q4 _ _), hb, Option.bind_some, hy, Option.bind_some]
theorem U3 {items : List W} {b : MG} {body : SM} {σ : MSt} {h : MH} : Vk items none b body [] σ h = some (.nx σ h) := by
 rw [Vk, if_pos (Q4 _ _)]
end Mi

namespace Mi
open PySem PySem.Spec PyProof.Rows L2
section
variable {σ σ1 : MSt} {h h1 h2 h3 : MH} {a b c w : W} {ws : List W} {ma mb mc : ME} {ms : MA} {mt mu : MT} {s1 s2 : SM} {f f' : W → W → MH → Option (W × MH)} {g : List W → MH → Option (W × MH)} {z : MF}
theorem Qhv : Qm σ h = some ([], h) := rfl
theorem Qal (e1 : ma σ h = some (a, h1)) (e2 : ms σ h1 = some (ws, h2)) : Qc ma ms σ h = some (a :: ws, h2) := by unfold Qc; rw [e1, Option.bind_some, e2]; rfl
end
theorem QaV {i j : Int} {h : MH} (c : (-(2 ^ 64) < i ∧ i < 2 ^ 64) ∨ (-(2 ^ 64) < j ∧ j < 2 ^ 64)) : QfI (.int i) (.int j) h = some (.int (i * j), h) := by unfold QfI; exact if_pos c
theorem QdP {i j : Int} {h : MH} (c : 0 < j ∧ j < 1073741824) : Qeb (.int i) (.int j) h = some (.int (i / j), h) := by unfold Qeb; exact if_pos c
theorem Qer {i j : Int} {h : MH} (c : 0 < j) : Qbh (.int i) (.int j) h = some (.int (i % j), h) := by unfold Qbh; exact if_pos c
theorem Qdy {i j : Int} {h : MH} (c : 0 ≤ j ∧ j ≤ 1000000 ∧ i.natAbs < 2 ^ 64) : QeS (.int i) (.int j) h = some (.int (i ^ j.toNat), h) := by unfold QeS; exact if_pos c
theorem Qd9 {x : Str} {i : Int} {h : MH} {d : Nat} (hl : x.length ≤ sizeLine) (e : atI x.cps.toList i = some d) : wIx (.str x) (.int i) h = some (.str ⟨#[d]⟩, h) := by
 unfold wIx; simp only; rw [if_pos hl, e]; rfl
end Mi

namespace Mi
open PySem PySem.Spec PyProof.Rows L2
noncomputable def GO (mo mi mv : ME) : SM := fun σ h => (mv σ h).bind fun v => (mo σ v.2).bind fun o => (mi σ o.2).bind fun i => match o.1, i.1 with
 | .ref n, .int k => match i.2[n]? with
  | some (.lst xs) => (ixN xs.length k).map fun j => .nx σ (i.2.set n (.lst (xs.set j v.1)))
  | _ => none
 | _, _ => none
section
variable {X : Cx} {o i e : Expr} {mo mi mv : ME} {pos pos' : Pos}
theorem Qe9 {K : PySem.W.Frag} {D : L2.Ends} {σ : L2.St} {H : Hp} (q : tS K (GO mo mi mv) D σ H) : QgH (tI K mv) (Qjk (tI K mo) (tI K mi) QfU) D σ H := by
 obtain ⟨R, σi, h, r, rh, s, e, k⟩ := q
 obtain ⟨⟨v, h1⟩, e1, e2⟩ := Option.bind_eq_some_iff.mp e
 obtain ⟨⟨ob, h2⟩, e3, e4⟩ := Option.bind_eq_some_iff.mp e2
 obtain ⟨⟨ix, h3⟩, e5, e6⟩ := Option.bind_eq_some_iff.mp e4
 refine ⟨R, σi, h, v, h1, rh, s, e1, fun R1 H1 x x1 rh1 rx => ⟨R1, σi, h1, ob, h2, rh1, s.mono x1, e3, fun R2 H2 y x2 rh2 ry => ⟨R2, σi, h2, ix, h3, rh2, s.mono (x1.trans x2), e5, fun R3 H3 z x3 rh3 rz => ?_⟩⟩⟩
 dsimp only at e6
 split at e6
 ·rename_i n kk
  split at e6
  ·rename_i xs hn
   obtain ⟨j, e7, e8⟩ := Option.map_eq_some_iff.mp e6
   cases e8
   obtain ⟨hlt, ey, xv, h4, r4⟩ := rh3.refAt (Rw.mono x3 _ _ ry) hn
   refine ⟨_, xv, kk, j, ey, rz.int_eq, h4, by rw [← r4.length]; exact e7, ?_⟩
   exact k R3 _ σ (x1.trans (x2.trans x3)) (rh3.put hlt ⟨_, rfl, r4.set j (Rw.mono (x2.trans x3) _ _ rx)⟩) (s.mono (x1.trans (x2.trans x3)))
  ·cases e6
 ·cases e6
theorem VI (ho : PM X o mo) (hi : PM X i mi) (he : PM X e mv)
  (ha : ∀ v, assign (.Subscript o i pos') X.env v = (do
   let ov ← holding [v] (eval o X.env)
   let iv ← holding [v, ov] (eval i X.env)
   standAt pos'
   holding [v, ov, iv] (setItem ov iv v)
   release [v, ov, iv] []) := by intro _; rfl)
  (hs : Wp e = false := by rfl) (hw : swappedStores [.Subscript o i pos'] e X.env = pure none := by rfl) : PMS X (.Assign [.Subscript o i pos'] e pos) (GO mo mi mv) :=
 VN (QcZ he (Qf3 ho hi Qcd ha) (show swapsWith e (some (.Subscript o i pos')) pos.line X.env = pure false from Kc hs) hw rfl) fun _ _ _ => Qe9
end
noncomputable def QaP (a b : W) (h : MH) : Option (W × MH) := match a, b with | .int i, .int j => some (.int (i + j), h) | _, _ => none
section
variable {X : Cx} {o i e : Expr} {mo mi mv : ME} {pos pos' : Pos}
theorem UT : OpR X (inplaceOp .Add) (F2 X.K QaP) := by
 intro pins s σ H x y v u Q I rx ry q
 refine Qd0 pins s σ H x y v u Q I rx ry ?_
 obtain ⟨R, h, a, b, w, h', rh, ra, rb, e, k⟩ := q
 unfold QaP at e
 split at e
 ·cases e
  exact ⟨_, _, ra.int_eq, rb.int_eq, k R H _ (Ext.refl _) rh (Rw.int _)⟩
 ·cases e
end
end Mi

namespace Mi
open PySem PySem.Spec PyProof.Rows L2
end Mi

namespace Mi
open PySem PySem.Spec PyProof.Rows L2 PySem.SeqAt
noncomputable def XR (a : W) (ws : List W) (h : MH) : Option (W × MH) := match ws with
 | [w] => (lsW h a).bind fun ys => (drf h 40 w).bind fun x => (Jp (drf h 40) ys).bind fun zs => (zs.findIdx? fun y => eqW y x).map fun j => (.int (j : Nat), h)
 | _ => none
theorem WD {X : Cx} (hu : X.A.units + 64 < cLine) : Qe0 X "list.index" XR := by
 intro pins s σ H x xs v us Q I rx rv q
 obtain ⟨R, h, a, ws, w, h', rh, ra, rws, e, k⟩ := q
 unfold XR at e
 split at e
 ·rename_i w1
  obtain ⟨ys, e1, e⟩ := Option.bind_eq_some_iff.mp e
  obtain ⟨x', e2, e⟩ := Option.bind_eq_some_iff.mp e
  obtain ⟨zs, e3, e⟩ := Option.bind_eq_some_iff.mp e
  obtain ⟨j, e4, e5⟩ := Option.map_eq_some_iff.mp e
  cases e5
  obtain ⟨y, rfl, ry⟩ := UA rws
  obtain ⟨u, rfl, ru⟩ := Gd rv
  obtain ⟨ad, xv, rfl, q1, r1⟩ := rh.lsAt ra e1
  cases rx
  obtain ⟨its, t1, p1, hz⟩ := I.list q1
  have hu' : X.A.in1.units + 40 < cLine := by show X.A.units + 1 + 40 < cLine; omega
  have l1 := r1.length; have l2 := t1.length; have l3 := (QV e3).1
  obtain ⟨hj, hhit, hbefore⟩ := List.findIdx?_eq_some_iff_getElem.mp e4
  have at_ : ∀ m (hm : m < its.toArray.size), GP X.K R h x' its.toArray[m] = eqW (zs[m]'(by rw [List.size_toArray] at hm; omega)) x' := by
   intro m hm
   rw [List.size_toArray] at hm
   obtain ⟨w2, hw2⟩ : ∃ w2, ys[m]? = some w2 := ⟨ys[m]'(by omega), List.getElem?_eq_getElem _⟩
   obtain ⟨v2, hv2, rv2⟩ := r1.get hw2
   obtain ⟨u2, hu2, ru2⟩ := t1.get hv2
   obtain ⟨b, hb, eb⟩ := (QV e3).2 m w2 hw2
   have eu : its.toArray[m] = u2 := by have := hu2; rw [List.getElem?_eq_getElem hm] at this; simpa using this
   have ez : zs[m]'(by omega) = b := by have := hb; rw [List.getElem?_eq_getElem (by omega)] at this; simpa using this
   rw [eu, ez]
   exact Ui I rh rv2 ru2 eb
  obtain ⟨ob, n, ho, hc, hdd, hd⟩ := p1
  obtain ⟨cls, dd, data, sl⟩ := ob
  simp only at hc hd
  subst hc hd
  have hjs : j < its.toArray.size := by rw [List.size_toArray]; omega
  refine call_meets PySem.F.slot_list_index ⟨_, ho, rfl⟩ PySem.F.entry_list_index (PySem.F.args_list_index_2 _ _)
   (list_indexAt ad its.toArray n dd sl u (GP X.K R h x') j hjs ?_ ?_ ?_) ⟨ho, fun z hz' => Xt I rh hu' ry ru e2 r1 t1 e3 z (by simpa using hz'), ?_⟩
  ·have : (sizeLine : Nat) < 2 ^ 62 := by decide
   have hj2 : j < 2 ^ 62 := by omega
   omega
  ·rw [at_ j hjs]; exact hhit
  ·intro m hm hmj
   rw [at_ m hm]
   simpa using hbefore m hmj
  ·exact ⟨.int j, H, I.tok _, ⟨_, rfl⟩, k R H _ (Ext.refl _) rh (Rw.int _)⟩
 ·cases e
end Mi

namespace Mi
open PySem PySem.Spec PyProof.Rows L2
inductive TabIs : List DictEntry → List (Str × Int) → Prop where
 | nil : TabIs [] []
 | cons {e : DictEntry} {x : Str} {i : Int} {t t' : Tok} {es : List DictEntry} {tab : List (Str × Int)} (hk : e.key = .str x t) (hv : e.val = .int i t') (r : TabIs es tab) : TabIs (e :: es) ((x, i) :: tab)
structure GTab (w : World) (K : PySem.W.Frag) (mg : Str → Option Value) (x : Str) (tab : List (Str × Int)) : Prop where
 ex : ∃ (a : Addr) (es : List DictEntry) (n : Nat), mg x = some (.ref a) ∧ K.lookup a = some ⟨.type "dict", none, .dict es.toArray n, #[]⟩ ∧ PySem.W.KeysLit w.params es ∧ (a == sysModules) = false ∧ TabIs es tab
theorem QhK {w : World} {K : PySem.W.Frag} {h : Heap} {mg : Str → Option Value} {x : Str} {c : Addr} {es : List DictEntry} {n : Nat} {tab : List (Str × Int)} (X : K.In h) (G : h.Ns mainGlobals mg) (a : PySem.W.nsIn K mainGlobals x = some (some (.ref c)))
  (l : K.lookup c = some ⟨.type "dict", none, .dict es.toArray n, #[]⟩) (k : PySem.W.KeysLit w.params es) (s : (c == sysModules) = false) (t : TabIs es tab) : GTab w K mg x tab :=
 ⟨c, es, n, PySem.W.mg_of X G a, l, k, s, t⟩
section
variable {X : Cx} {c : Addr} {es : List DictEntry} {n : Nat} {tab : List (Str × Int)}
variable {a : Expr} {ma : ME} {x : Str} {pos pos' : Pos}
end
end Mi

namespace Mi
open PySem PySem.Spec PyProof.Rows L2
theorem QdO (a b : Int) (h : MH) : wEq (.int a) (.int b) h = some (.bl (a == b), h) := by unfold wEq; simp [drf, eqW]
theorem Qef (a b : Str) (h : MH) : wEq (.str a) (.str b) h = some (.bl (a == b), h) := by unfold wEq; simp [drf, eqW]
end Mi

namespace Mi
open PySem PySem.Spec PyProof.Rows L2
end Mi

namespace Mi
open PySem PySem.Spec PyProof.Rows L2
noncomputable def QgC (lo c : Int) (n : Nat) : It := ⟨fun i _ => i < n, fun i H x H' => H' = H ∧ x = .int (lo + i * c), fun i _ => n ≤ i⟩
theorem Qaz {P : Program} {w : World} {K : PySem.W.Frag} {tg : Expr} (it : Addr) (lo c : Int) (n : Nat) : Turn P w K tg (QgC lo c n) [it] it (fun i h => IsRangeIter h it (lo + (i : Nat) * c) ((n : Int) - (i : Nat)) c) where
 mem := by simp
 obj := fun i h st b hb => by
  have e : b = it := by simpa using hb
  subst e
  exact ⟨_, st, fun v z => by
   have z' : Data.fields _ = Data.cell v := z
   cases z'⟩
 keep := fun i h h' st k => k it (by simp) _ st
 item := by
  intro X hP hw hK hc i pins s σ H E I hf st hg
  subst hP hw hK
  obtain ⟨f0, f1, f2, f3, f4, f5⟩ := hf it (by simp)
  have W := Walks.range (prog := X.prog) (w := X.w) (I.ok.hd hc) it lo c n
  refine W.item i s _ _ hg st fun v h' tk hv st' kk => ?_
  obtain ⟨t, rfl⟩ := hv
  have I1 : Inv X pins σ H { s with heap := h', toks := tk } := I.turned (fun b o hb e => kk b o (by simpa using hb) e) f0 f1 f3 f4 f5
  exact ⟨_, rfl, Qbw (s := { s with heap := h', toks := tk }) (n := "range_iterator") st' rfl rfl (by decide) ⟨.int (lo + i * c), H, I1, ⟨t, rfl⟩, ⟨rfl, rfl⟩, st', fun b hb => (hf b hb).1⟩⟩
 done := by
  intro X hP hw hK hc i pins s σ H E I hf st hg
  subst hP hw hK
  obtain ⟨f0, f1, f2, f3, f4, f5⟩ := hf it (by simp)
  exact wpAny_pyNext_range_end (I.ok.hd hc) st (by have : n ≤ i := hg; omega) fun h' eb => ⟨rfl, I.turned (t' := s.toks) (fun b o hb e => eb b o hb e) f0 f1 f3 f4 f5⟩
 self := fun _ _ _ _ _ st h => wpAny_pyIter_rangeiter st h
theorem WQ {a b c : Int} (hc : c ≠ 0) : 0 ≤ Builtin.Range.rangeSize a b c := by
 unfold Builtin.Range.rangeSize
 split
 ·split
  ·have : 0 ≤ (b - a - 1) / c := Int.ediv_nonneg (by omega) (by omega)
   omega
  ·exact Int.le_refl _
 ·split
  ·have : 0 ≤ (a - b - 1) / (-c) := Int.ediv_nonneg (by omega) (by omega)
   omega
  ·exact Int.le_refl _
section
variable {X : Cx} {tg : Expr}
theorem Qdu {pins : List (Addr × Obj)} {σ : L2.St} {H : Hp} {s : Shared} {R : It → Hp → Prop} {E : Value → Shared → Prop} {lo hi c : Int} {t u v : Tok} {tk : Nat} (I : Inv X pins σ H s) (hc : c ≠ 0) (h1 : Builtin.Range.small lo hi c = true)
  (q : R (QgC lo c (Builtin.Range.rangeSize lo hi c).toNat) H) : wpAny (model X.prog X.w) X.A (pyIter (.ref s.heap.objs.size)) (PIE X pins σ tg R) E { s with heap := s.heap.push { cls := .type "range", data := .fields #[.int lo t, .int hi u, .int c v] }, toks := tk } := by
 refine wpAny_pyIter_range (IsRange.new ..) h1 ?_
 have I1 : Inv X pins σ H { s with heap := s.heap.push { cls := .type "range", data := .fields #[.int lo t, .int hi u, .int c v] }, toks := tk } := I.kept fun b o e => Heap.get?_push_of_some _ e
 refine ⟨(s.heap.push { cls := .type "range", data := .fields #[.int lo t, .int hi u, .int c v] }).objs.size, [(s.heap.push { cls := .type "range", data := .fields #[.int lo t, .int hi u, .int c v] }).objs.size], _, _, H, rfl,
  I1.kept (t' := tk) fun b o e => Heap.get?_push_of_some _ e, Qaz _ lo c (Builtin.Range.rangeSize lo hi c).toNat, ?_, fun b hb => ?_, q⟩
 ·have e1 : lo + ((0 : Nat) : Int) * c = lo := by simp
  have e2 : (((Builtin.Range.rangeSize lo hi c).toNat : Nat) : Int) - ((0 : Nat) : Int) = Builtin.Range.rangeSize lo hi c := by
   have := WQ (a := lo) (b := hi) hc
   omega
  show IsRangeIter _ _ (lo + ((0 : Nat) : Int) * c) ((((Builtin.Range.rangeSize lo hi c).toNat : Nat) : Int) - ((0 : Nat) : Int)) c
  rw [e1, e2]
  exact Heap.get?_push_size _ rfl
 ·have e : b = (s.heap.push { cls := .type "range", data := .fields #[.int lo t, .int hi u, .int c v] }).objs.size := by simpa using hb
  subst e
  exact I1.fpOk (Nat.le_refl _) (I1.hok.fresh (Nat.le_refl _))
noncomputable def QhB (ta : TA) : TI := fun σ H R => ta σ H fun vs H1 => ∃ i j c : Int, vs = [.int i, .int j, .int c] ∧ (c ≠ 0 ∧ c.natAbs < 1073741824 ∧ Builtin.Range.small i j c = true) ∧ R (QgC i c (Builtin.Range.rangeSize i j c).toNat) H1
theorem Qa0 {a b d : Expr} {ta : TA} {p pos : Pos} (hg : Gl X "range") (hm : X.mg "range" = none) (ha : PA X [a, b, d] ta) (hs : starEach [a, b, d] X.env = [(false, eval a X.env), (false, eval b X.env), (false, eval d X.env)] := by rfl) (hs2 : starEach [b, d] X.env = [(false, eval b X.env), (false, eval d X.env)] := by rfl) :
  PI X tg (.Call (.Name "range" p) [a, b, d] [] pos) (QhB ta) := by
 intro pins s σ H R I h
 refine Call_ (Ym I hg hm boot_range (PyProof.Rows.callWith_type1 (thn (ha pos pins s σ H _ I h) fun us s1 ⟨vs, H1, I1, r1, q1⟩ => ?_) (by rw [hs, hs2]) (by rw [hs2]; rfl)))
 obtain ⟨i, j, c, e, ⟨q1, q2, q3⟩, q⟩ := q1
 subst e
 cases r1 with
 | cons r rr =>
  cases rr with
  | cons r' rr =>
   cases rr with
   | cons r'' rr =>
    cases rr
    obtain ⟨t, rfl⟩ := r
    obtain ⟨t', rfl⟩ := r'
    obtain ⟨t'', rfl⟩ := r''
    exact call_range_3 q1 (Qdu I1 q1 q3 q) (.inl (PyProof.noPylong_small q2))
end
noncomputable def Jn (lo c : Int) (n : Nat) : List W := (List.range n).map fun (i : Nat) => W.int (lo + (i : Int) * c)
section
variable {K : PySem.W.Frag} {R : Rn}
theorem GZ {lo c : Int} {n : Nat} : ItOk K R (QgC lo c n) (Jn lo c n) none where
 go := fun i w R' h H _ _ _ e => by
  have := (List.getElem?_eq_some_iff.mp e).1
  show i < n
  simpa [Jn] using this
 yld := fun i w R' h H v H' e rh _ ew hy => by
  obtain ⟨rfl, rfl⟩ := hy
  unfold Jn at ew
  rw [List.getElem?_map] at ew
  obtain ⟨j, hj, e2⟩ := Option.map_eq_some_iff.mp ew
  rw [List.getElem?_range (by have := (List.getElem?_eq_some_iff.mp hj).1; simpa using this)] at hj
  cases hj
  cases e2
  exact ⟨R', Ext.refl _, rh, Rw.int _⟩
 stop := fun i R' h H _ _ _ hl => by
  show n ≤ i
  simpa [Jn] using hl
end
noncomputable def Qdn (ms : MA) : MI := fun σ h => (ms σ h).bind fun p => match p.1 with
 | [.int i, .int j, .int c] => if c ≠ 0 ∧ c.natAbs < 1073741824 ∧ Builtin.Range.small i j c = true then some (Jn i c (Builtin.Range.rangeSize i j c).toNat, none, p.2) else none
 | _ => none
section
variable {X : Cx} {tg a b d : Expr} {ms : MA} {p pos : Pos}
theorem Qde (hg : Gl X "range") (hm : X.mg "range" = none) (ha : PMA X [a, b, d] ms) (hs : starEach [a, b, d] X.env = [(false, eval a X.env), (false, eval b X.env), (false, eval d X.env)] := by rfl) (hs2 : starEach [b, d] X.env = [(false, eval b X.env), (false, eval d X.env)] := by rfl) : PMI X tg (.Call (.Name "range" p) [a, b, d] [] pos) (Qdn ms) :=
 Qa8 (Qa0 hg hm ha hs hs2) fun σ H C ⟨R, σi, h, items, src, h', rh, st, e, k⟩ => by
  obtain ⟨⟨ws, h1⟩, e1, e2⟩ := Option.bind_eq_some_iff.mp e
  refine ⟨R, σi, h, ws, h1, rh, st, e1, fun R1 H1 vs x1 rh1 rv => ?_⟩
  split at e2
  ·rename_i i j c hj
   simp only at hj
   subst hj
   split at e2
   ·rename_i hb
    cases e2
    rw [Rws.cons_iff] at rv
    obtain ⟨v, vs', rfl, r1, r2⟩ := rv
    rw [Rws.cons_iff] at r2
    obtain ⟨v2, vs2, rfl, r3, r4⟩ := r2
    rw [Rws.cons_iff] at r4
    obtain ⟨v3, vs3, rfl, r5, r6⟩ := r4
    rw [Rws.nil_iff] at r6
    subst r6
    rw [r1.int_eq, r3.int_eq, r5.int_eq]
    exact ⟨i, j, c, rfl, hb, k R1 H1 _ x1 rh1 GZ⟩
   ·cases e2
  ·cases e2
end
end Mi

namespace Mi
open PySem PySem.Spec PyProof.Rows L2
section
variable {K : PySem.W.Frag} {R : Rn}
noncomputable abbrev DicR (K : PySem.W.Frag) (R : Rn) : List (Key × W) → List (Key × V) → Prop := Paired fun p q => p.1 = q.1 ∧ Rw K R p.2 q.2
end
section
variable {X : Cx} {o i e a b : Expr} {mo mi mv ma mb : ME} {pos pos' : Pos}
end
end Mi

namespace Mi
open PySem PySem.Spec PyProof.Rows L2
theorem QbS {items : List W} {b : MG} {body : SM} {w v : W} {r : List W} {σ σ1 : MSt} {h h2 : MH} (hb : b w σ h = some σ1) (hy : body σ1 h = some (.rt v h2)) : Vk items none b body (w :: r) σ h = some (.rt v h2) := by
 rw [Vk, if_pos (Q4 _ _), hb, Option.bind_some, hy, Option.bind_some]
theorem Ke {α : Type} (xs : List α) (x : α) : atI (xs ++ [x]) (-1) = some x := by
 unfold atI ixN
 rw [if_neg (by decide), if_pos (by simp; omega), Option.bind_some]
 have : ((-1 : Int) + ((xs ++ [x]).length : Nat)).toNat = xs.length := by simp; omega
 rw [this]; simp
theorem Qcn {α : Type} (xs : List α) (x : α) : ixN (xs ++ [x]).length (-1) = some xs.length := by
 unfold ixN
 rw [if_neg (by decide), if_pos (by simp; omega)]
 congr 1
 simp; omega
theorem V9 {lo c : Int} {n j : Nat} {w : W} (e : (Jn lo c n)[j]? = some w) : j < n ∧ w = .int (lo + (j : Int) * c) := by
 unfold Jn at e
 rw [List.getElem?_map] at e
 obtain ⟨i, h1, rfl⟩ := Option.map_eq_some_iff.mp e
 obtain ⟨hl, h2⟩ := List.getElem?_eq_some_iff.mp h1
 rw [List.length_range] at hl
 rw [List.getElem_range] at h2
 subst h2
 exact ⟨hl, rfl⟩
theorem QcG {k : Nat} (hk : k < 1000000) : Builtin.Range.small ((k : Int) - 1) (-1) (-1) = true ∧ (Builtin.Range.rangeSize ((k : Int) - 1) (-1) (-1)).toNat = k := by
 have e : Builtin.Range.rangeSize ((k : Int) - 1) (-1) (-1) = k := by
  unfold Builtin.Range.rangeSize
  rw [if_neg (by decide)]
  by_cases z : k = 0
  ·subst z; rfl
  ·rw [if_pos (by omega)]
   simp
 refine ⟨?_, by rw [e]; simp⟩
 unfold Builtin.Range.small
 rw [e]
 simp only [Builtin.Range.rangeFitsLong, Bool.and_eq_true, Bool.or_eq_true, decide_eq_true_eq, beq_iff_eq]
 exact ⟨by omega, .inr (by decide)⟩
theorem Qg6 {ma mb mc : ME} {σ : MSt} {h : MH} {k : Nat} (e : ma σ h = some (.int ((k : Int) - 1), h)) (eb : mb σ h = some (.int (-1), h)) (ec : mc σ h = some (.int (-1), h)) (hk : k < 1000000) : Qdn (Qc ma (Qc mb (Qc mc Qm))) σ h = some (Jn ((k : Int) - 1) (-1) k, none, h) := by
 unfold Qdn
 rw [Qal e (Qal eb (Qal ec Qhv)), Option.bind_some]
 obtain ⟨h1, h2⟩ := QcG hk
 show (if _ then _ else _) = _
 rw [if_pos ⟨by decide, by decide, h1⟩, h2]
end Mi

namespace Mi
open PySem PySem.Spec PyProof.Rows L2
mutual
noncomputable def pur : W → Bool
 | .tup ws => JU ws
 | .lst ws => JU ws
 | .frz ws => JU ws
 | .ref _ => false
 | _ => true
noncomputable def JU : List W → Bool
 | [] => true
 | w :: ws => pur w && JU ws
end
noncomputable def Qdp : MO → Bool
 | .lst ws => JU ws
 | .dic kvs => JU (kvs.map (·.2))
 | .dct kvs => JU (kvs.map (·.2))
mutual
noncomputable def th (f : Nat → Option W) : W → Option W
 | .tup ws => (ths f ws).map .tup
 | .lst ws => (ths f ws).map .lst
 | .frz ws => (ths f ws).map .frz
 | .ref j => f j
 | w => some w
noncomputable def ths (f : Nat → Option W) : List W → Option (List W)
 | [] => some []
 | w :: ws => (th f w).bind fun x => (ths f ws).map (x :: ·)
end
noncomputable def thO (f : Nat → Option W) : MO → Option MO
 | .lst ws => (ths f ws).map .lst
 | .dic kvs => (ths f (kvs.map (·.2))).map fun vs => .dic ((kvs.map (·.1)).zip vs)
 | .dct kvs => (ths f (kvs.map (·.2))).map fun vs => .dct ((kvs.map (·.1)).zip vs)
noncomputable def res (kp : Nat → Option Nat) (g : MH) : Nat → Nat → Option W
 | 0, j => (kp j).map .ref
 | d + 1, j => match kp j with
  | some n => some (.ref n)
  | none => match g[j]? with
   | some (.lst ws) => (ths (res kp g d) ws).map .lst
   | _ => none
noncomputable def Yk (ns js : List Nat) (N j : Nat) : Option Nat := match ns[j]? with
 | some n => some n
 | none => (js.findIdx? (· == j)).map (N + ·)
noncomputable def Km : Nat → List W → Option (List W × List Nat)
 | _, [] => some ([], [])
 | k, .ref n :: ws => (Km (k + 1) ws).map fun p => (.ref k :: p.1, n :: p.2)
 | k, w :: ws => if pur w then (Km k ws).map fun p => (w :: p.1, p.2) else none
noncomputable def Za : List Nat → List MO → MH → MH
 | n :: ns, o :: os, h => Za ns os (h.set n o)
 | _, _, h => h
noncomputable def Qaq (h : MH) (n : Nat) : Option MO := match h[n]? with | some o => if Qdp o then some o else none | none => none
noncomputable def QeX (fr : W → List Nat) (m : FM) (as : List W) (ns : List Nat) (h : MH) : Option (W × MH) :=
 if ns.Nodup then (Jp (Qaq h) ns).bind fun h0 => (m as h0).bind fun p =>
  if (fr p.1).Nodup ∧ (∀ j ∈ fr p.1, ns.length ≤ j) then
   (th (res (Yk ns (fr p.1) h.length) p.2 3) p.1).bind fun w =>
   (Jp (fun j => (p.2[j]?).bind (thO (res (Yk ns (fr p.1) h.length) p.2 3))) (List.range ns.length)).bind fun os =>
   (Jp (fun j => (p.2[j]?).bind (thO (res (Yk ns (fr p.1) h.length) p.2 3))) (fr p.1)).map fun us =>
   (w, Za ns os h ++ us)
  else none
 else none
noncomputable def box (fr : W → List Nat) (m : FM) : FM := fun ws h => (Km 0 ws).bind fun a => QeX fr m a.1 a.2 h
section
variable {K : PySem.W.Frag} {R R' : Rn}
mutual
theorem Rw.pur_mono (hf : ∀ a o, R.F a = some o → R'.F a = some o) : ∀ (w : W) (v : V), pur w = true → Rw K R w v → Rw K R' w v
 | .non, _, _, h => by unfold Rw at h ⊢; exact h
 | .bl _, _, _, h => by unfold Rw at h ⊢; exact h
 | .int _, _, _, h => by unfold Rw at h ⊢; exact h
 | .str _, _, _, h => by unfold Rw at h ⊢; exact h
 | .ty _, _, _, h => by unfold Rw at h ⊢; exact h
 | .tup ws, _, p, h => by
  unfold Rw at h ⊢
  obtain ⟨a, xs, e1, e2, e3⟩ := h
  exact ⟨a, xs, e1, VL hf e2, Rws.pur_mono hf ws xs (by unfold pur at p; exact p) e3⟩
 | .lst ws, _, p, h => by
  unfold Rw at h ⊢
  obtain ⟨a, xs, e1, e2, e3⟩ := h
  exact ⟨a, xs, e1, hf a _ e2, Rws.pur_mono hf ws xs (by unfold pur at p; exact p) e3⟩
 | .frz ws, _, p, h => by
  unfold Rw at h ⊢
  obtain ⟨a, xs, e1, e2, e3⟩ := h
  exact ⟨a, xs, e1, Vc hf e2, Rws.pur_mono hf ws xs (by unfold pur at p; exact p) e3⟩
 | .ref n, _, p, h => by unfold pur at p; cases p
theorem Rws.pur_mono (hf : ∀ a o, R.F a = some o → R'.F a = some o) : ∀ (ws : List W) (vs : List V), JU ws = true → Rws K R ws vs → Rws K R' ws vs
 | [], _, _, h => by unfold Rws at h ⊢; exact h
 | w :: ws, _, p, h => by
  unfold Rws at h ⊢
  obtain ⟨v, vs', e1, e2, e3⟩ := h
  unfold JU at p
  rw [Bool.and_eq_true] at p
  exact ⟨v, vs', e1, Rw.pur_mono hf w v p.1 e2, Rws.pur_mono hf ws vs' p.2 e3⟩
end
mutual
theorem Rw.th_ok {f : Nat → Option W} (hf : ∀ a o, R.F a = some o → R'.F a = some o) (hr : ∀ j v w, Rw K R (.ref j) v → f j = some w → Rw K R' w v) : ∀ (w : W) (v : V) (w' : W), th f w = some w' → Rw K R w v → Rw K R' w' v
 | .non, _, _, e, h => by unfold th at e; cases e; unfold Rw at h ⊢; exact h
 | .bl _, _, _, e, h => by unfold th at e; cases e; unfold Rw at h ⊢; exact h
 | .int _, _, _, e, h => by unfold th at e; cases e; unfold Rw at h ⊢; exact h
 | .str _, _, _, e, h => by unfold th at e; cases e; unfold Rw at h ⊢; exact h
 | .ty _, _, _, e, h => by unfold th at e; cases e; unfold Rw at h ⊢; exact h
 | .tup ws, _, _, e, h => by
  unfold th at e
  obtain ⟨us, h1, h2⟩ := Option.map_eq_some_iff.mp e
  subst h2
  unfold Rw at h ⊢
  obtain ⟨a, xs, e1, e2, e3⟩ := h
  exact ⟨a, xs, e1, VL hf e2, Rws.th_ok hf hr ws xs us h1 e3⟩
 | .lst ws, _, _, e, h => by
  unfold th at e
  obtain ⟨us, h1, h2⟩ := Option.map_eq_some_iff.mp e
  subst h2
  unfold Rw at h ⊢
  obtain ⟨a, xs, e1, e2, e3⟩ := h
  exact ⟨a, xs, e1, hf a _ e2, Rws.th_ok hf hr ws xs us h1 e3⟩
 | .frz ws, _, _, e, h => by
  unfold th at e
  obtain ⟨us, h1, h2⟩ := Option.map_eq_some_iff.mp e
  subst h2
  unfold Rw at h ⊢
  obtain ⟨a, xs, e1, e2, e3⟩ := h
  exact ⟨a, xs, e1, Vc hf e2, Rws.th_ok hf hr ws xs us h1 e3⟩
 | .ref n, v, w', e, h => by unfold th at e; exact hr n v w' h e
theorem Rws.th_ok {f : Nat → Option W} (hf : ∀ a o, R.F a = some o → R'.F a = some o) (hr : ∀ j v w, Rw K R (.ref j) v → f j = some w → Rw K R' w v) : ∀ (ws : List W) (vs : List V) (ws' : List W), ths f ws = some ws' → Rws K R ws vs → Rws K R' ws' vs
 | [], _, _, e, h => by unfold ths at e; cases e; unfold Rws at h ⊢; exact h
 | w :: ws, _, _, e, h => by
  unfold ths at e
  obtain ⟨x, h1, h2⟩ := Option.bind_eq_some_iff.mp e
  obtain ⟨us, h3, h4⟩ := Option.map_eq_some_iff.mp h2
  subst h4
  unfold Rws at h
  obtain ⟨v, vs', e1, e2, e3⟩ := h
  subst e1
  exact Rws.cons (Rw.th_ok hf hr w v x h1 e2) (Rws.th_ok hf hr ws vs' us h3 e3)
end
theorem DicR.vals : ∀ {kvs : List (Key × W)} {kx : List (Key × V)}, Paired (fun p q => p.1 = q.1 ∧ Rw K R p.2 q.2) kvs kx → Rws K R (kvs.map (·.2)) (kx.map (·.2)) ∧ kvs.map (·.1) = kx.map (·.1)
 | _, _, .nil => ⟨Rws.nil, rfl⟩
 | _, _, .cons h t => by
  obtain ⟨a, b⟩ := DicR.vals t
  exact ⟨Rws.cons h.2 a, by rw [List.map_cons, List.map_cons, b, h.1]⟩
theorem DicR.zip : ∀ {ks : List Key} {kx : List (Key × V)} {us : List W}, ks = kx.map (·.1) → Rws K R us (kx.map (·.2)) → Paired (fun p q => p.1 = q.1 ∧ Rw K R p.2 q.2) (ks.zip us) kx
 | _, [], us, e, h => by
  subst e
  exact .nil
 | _, q :: kx, us, e, h => by
  subst e
  rw [List.map_cons] at h
  cases us with
  | nil => rw [Rws.nil_iff] at h; cases h
  | cons u us =>
   rw [Rws.cons_iff] at h
   obtain ⟨v, vs, e1, e2, e3⟩ := h
   cases e1
   exact .cons ⟨rfl, e2⟩ (DicR.zip rfl e3)
theorem U1 : ∀ (n : Nat) (w : W) (k : Tr), YV n w = some k → pur w = true
 | 0, _, _, e => by simp [YV] at e
 | n + 1, w, k, e => by
  cases w with
  | tup ws =>
   simp only [YV] at e
   obtain ⟨ks, e1, hk⟩ := Option.map_eq_some_iff.mp e
   unfold pur
   clear e hk
   induction ws generalizing ks with
   | nil => rfl
   | cons x ws ih =>
    rw [List.mapM_cons] at e1
    obtain ⟨k1, h1, e2⟩ := Option.bind_eq_some_iff.mp e1
    obtain ⟨ks1, h2, _⟩ := Option.bind_eq_some_iff.mp e2
    unfold JU
    rw [U1 n x k1 h1, ih ks1 h2]; rfl
  | lst ws => simp [YV] at e
  | frz ws => simp [YV] at e
  | ref j => simp [YV] at e
  | _ => rfl
theorem Qba {w : W} {k : Tr} (e : nrm w = some k) : pur w = true := by
 cases w with
 | tup ws => exact U1 8 _ k e
 | _ => cases e
theorem DctR.vals : ∀ {kvs : List (W × W)} {kx : List (Tr × Addr × V)}, Paired (fun p q => Rw K R p.1 (.ref q.2.1) ∧ nrm p.1 = some q.1 ∧ Rw K R p.2 q.2.2) kvs kx → Rws K R (kvs.map (·.2)) (kx.map (·.2.2)) ∧ Paired (fun p q => Rw K R p (.ref q.2.1) ∧ nrm p = some q.1) (kvs.map (·.1)) kx
 | _, _, .nil => ⟨Rws.nil, .nil⟩
 | _, _, .cons h t => by
  obtain ⟨a, b⟩ := DctR.vals t
  exact ⟨Rws.cons h.2.2 a, .cons ⟨h.1, h.2.1⟩ b⟩
theorem DctR.zip : ∀ {ks : List W} {kx : List (Tr × Addr × V)} {us : List W}, Paired (fun p q => Rw K R p (.ref q.2.1) ∧ nrm p = some q.1) ks kx → Rws K R us (kx.map (·.2.2)) → Paired (fun p q => Rw K R p.1 (.ref q.2.1) ∧ nrm p.1 = some q.1 ∧ Rw K R p.2 q.2.2) (ks.zip us) kx
 | _, [], us, .nil, h => .nil
 | _, q :: kx, us, .cons e t, h => by
  rw [List.map_cons] at h
  cases us with
  | nil => rw [Rws.nil_iff] at h; cases h
  | cons u us =>
   rw [Rws.cons_iff] at h
   obtain ⟨v, vs, e1, e2, e3⟩ := h
   cases e1
   exact .cons ⟨e.1, e.2, e2⟩ (DctR.zip t e3)
theorem US {f : Nat → Option W} (hf : ∀ a o, R.F a = some o → R'.F a = some o) (hr : ∀ j v w, Rw K R (.ref j) v → f j = some w → Rw K R' w v) {o o' : MO} {u : Option HO} (e : thO f o = some o') (h : Ro K R o u) : Ro K R' o' u := by
 cases o with
 | lst ws =>
  unfold thO at e
  obtain ⟨us, h1, h2⟩ := Option.map_eq_some_iff.mp e
  subst h2
  obtain ⟨xs, e1, e2⟩ := h
  exact ⟨xs, e1, Rws.th_ok hf hr ws xs us h1 e2⟩
 | dic kvs =>
  unfold thO at e
  obtain ⟨us, h1, h2⟩ := Option.map_eq_some_iff.mp e
  subst h2
  obtain ⟨kx, e1, e2⟩ := h
  obtain ⟨a, b⟩ := DicR.vals e2
  exact ⟨kx, e1, DicR.zip b (Rws.th_ok hf hr _ _ us h1 a)⟩
 | dct kvs =>
  unfold thO at e
  obtain ⟨us, h1, h2⟩ := Option.map_eq_some_iff.mp e
  subst h2
  obtain ⟨kx, e1, e2⟩ := h
  obtain ⟨a, b⟩ := DctR.vals e2
  exact ⟨kx, e1, DctR.zip (Paired.mapP b fun p q z => ⟨Rw.pur_mono hf _ _ (Qba z.2) z.1, z.2⟩) (Rws.th_ok hf hr _ _ us h1 a)⟩
theorem W8 (hf : ∀ a o, R.F a = some o → R'.F a = some o) {o : MO} {u : Option HO} (p : Qdp o = true) (h : Ro K R o u) : Ro K R' o u := by
 cases o with
 | lst ws =>
  obtain ⟨xs, e1, e2⟩ := h
  exact ⟨xs, e1, Rws.pur_mono hf ws xs p e2⟩
 | dic kvs =>
  obtain ⟨kx, e1, e2⟩ := h
  refine ⟨kx, e1, ?_⟩
  have p' : JU (kvs.map (·.2)) = true := p
  clear p e1
  revert p'
  induction e2 with
  | nil => exact fun _ => .nil
  | cons h t ih =>
   intro p'
   rw [List.map_cons] at p'
   unfold JU at p'
   rw [Bool.and_eq_true] at p'
   exact .cons ⟨h.1, Rw.pur_mono hf _ _ p'.1 h.2⟩ (ih p'.2)
 | dct kvs =>
  obtain ⟨kx, e1, e2⟩ := h
  refine ⟨kx, e1, ?_⟩
  have p' : JU (kvs.map (·.2)) = true := p
  clear p e1
  revert p'
  induction e2 with
  | nil => exact fun _ => .nil
  | cons h t ih =>
   intro p'
   rw [List.map_cons] at p'
   unfold JU at p'
   rw [Bool.and_eq_true] at p'
   exact .cons ⟨Rw.pur_mono hf _ _ (Qba h.2.1) h.1, h.2.1, Rw.pur_mono hf _ _ p'.1 h.2.2⟩ (ih p'.2)
theorem Uj {R0 : Rn} (hf : ∀ a o, R.F a = some o → R0.F a = some o) {all : List Nat} (hρ : ∀ (i n : Nat), all[i]? = some n → i < R0.N ∧ R0.ρ i = R.ρ n) : ∀ {ws : List W} {vs : List V} {pre : List Nat} {as : List W} {ns : List Nat}, Km pre.length ws = some (as, ns) → all = pre ++ ns → Rws K R ws vs → Rws K R0 as vs
 | [], vs, pre, as, ns, e, ha, h => by
  unfold Km at e; cases e
  rw [Rws.nil_iff] at h; subst h
  exact Rws.nil
 | w :: ws, vs, pre, as, ns, e, ha, h => by
  rw [Rws.cons_iff] at h
  obtain ⟨v, vs', rfl, h1, h2⟩ := h
  by_cases hw : ∃ n, w = .ref n
  ·obtain ⟨n, rfl⟩ := hw
   unfold Km at e
   obtain ⟨⟨as', ns'⟩, e1, e2⟩ := Option.map_eq_some_iff.mp e
   cases e2
   refine Rws.cons ?_ (Uj hf hρ (pre := pre ++ [n]) (ns := ns') (by rw [List.length_append]; exact e1) (by rw [ha]; simp) h2)
   obtain ⟨z1, z2⟩ := hρ pre.length n (by rw [ha]; simp)
   unfold Rw at h1 ⊢
   exact ⟨z1, by rw [z2]; exact h1.2⟩
  ·have e' : (if pur w then (Km pre.length ws).map fun p => (w :: p.1, p.2) else none) = some (as, ns) := by
    rw [← e]
    cases w <;> first | (exact absurd ⟨_, rfl⟩ hw) | (conv => rhs; unfold Km)
   split at e'
   ·rename_i hp
    obtain ⟨⟨as', ns'⟩, e1, e2⟩ := Option.map_eq_some_iff.mp e'
    cases e2
    exact Rws.cons (Rw.pur_mono hf w v hp h1) (Uj hf hρ e1 ha h2)
   ·cases e'
theorem Jx : ∀ (ns : List Nat) (os : List MO) (h : MH), (Za ns os h).length = h.length
 | [], _, h => by unfold Za; rfl
 | _ :: _, [], h => by unfold Za; rfl
 | n :: ns, o :: os, h => by unfold Za; rw [Jx ns os, List.length_set]
theorem Xh : ∀ (ns : List Nat) (os : List MO) (h : MH) (n : Nat), n ∉ ns → (Za ns os h)[n]? = h[n]?
 | [], _, h, n, _ => by unfold Za; rfl
 | _ :: _, [], h, n, _ => by unfold Za; rfl
 | m :: ns, o :: os, h, n, hn => by
  unfold Za
  rw [Xh ns os _ n (fun z => hn (List.mem_cons_of_mem _ z)), List.getElem?_set_ne (fun z => hn (by rw [z]; exact List.mem_cons_self))]
theorem Yg : ∀ (ns : List Nat) (os : List MO) (h : MH) (i n : Nat), ns.Nodup → ns.length = os.length → ns[i]? = some n → n < h.length → (Za ns os h)[n]? = os[i]?
 | [], _, h, i, n, _, _, e, _ => by simp at e
 | m :: ns, [], h, i, n, _, hl, _, _ => by simp at hl
 | m :: ns, o :: os, h, 0, n, hd, hl, e, hn => by
  simp at e; subst e
  unfold Za
  rw [Xh ns os _ m (List.nodup_cons.mp hd).1, List.getElem?_set_self hn]; rfl
 | m :: ns, o :: os, h, i + 1, n, hd, hl, e, hn => by
  unfold Za
  rw [Yg ns os (h.set m o) i n (List.nodup_cons.mp hd).2 (by simpa using hl) (by simpa using e) (by rw [List.length_set]; exact hn)]
  simp
end
end Mi

namespace Mi
open PySem PySem.Spec PyProof.Rows L2
theorem YM : ∀ {ws : List W} {k : Nat} {as : List W} {ns : List Nat}, Km k ws = some (as, ns) → as.length = ws.length
  | [], k, as, ns, e => by unfold Km at e; cases e; rfl
  | w :: ws, k, as, ns, e => by
    cases w <;> unfold Km at e <;> first
      | (obtain ⟨⟨as', ns'⟩, e1, e2⟩ := Option.map_eq_some_iff.mp e
         cases e2
         simp [YM e1])
      | (split at e
         · obtain ⟨⟨as', ns'⟩, e1, e2⟩ := Option.map_eq_some_iff.mp e
           cases e2
           simp [YM e1]
         · cases e)
theorem WB {js : List Nat} {j i : Nat} (e : js.findIdx? (· == j) = some i) : js[i]? = some j := by
 rw [List.findIdx?_eq_some_iff_getElem] at e
 obtain ⟨h, h1, _⟩ := e
 rw [List.getElem?_eq_getElem h]
 simp at h1
 rw [h1]
theorem Wf {js : List Nat} {j : Nat} (e : js.findIdx? (· == j) = none) : j ∉ js := by
 rw [List.findIdx?_eq_none_iff] at e
 intro z
 have := e j z
 simp at this
theorem Qbj {h : MH} {n : Nat} {o : MO} (e : Qaq h n = some o) : h[n]? = some o ∧ Qdp o = true := by
 unfold Qaq at e
 split at e
 ·rename_i o' h'
  split at e
  ·rename_i hp; cases e; exact ⟨h', hp⟩
  ·cases e
 ·cases e
theorem WL {js : List Nat} (h : js.Nodup) {i i' j : Nat} (e : js[i]? = some j) (e' : js[i']? = some j) : i = i' :=
 (List.getElem?_inj (List.getElem?_eq_some_iff.mp e).1 h).mp (e.trans e'.symm)
section
variable {K : PySem.W.Frag}
open Classical in
theorem Qfp {n : Nat} {fr : W → List Nat} {m : FM} {vs : List V} {H : Hp} {Q : VK} {E : XK} (q : spM K n (box fr m) vs H Q E) : spM K n m vs H Q E := by
 obtain ⟨R, ws, h, wx, h2, hl, rh, rws, e, k⟩ := q
 unfold box at e
 obtain ⟨⟨as, ns⟩, e1, e2⟩ := Option.bind_eq_some_iff.mp e
 unfold QeX at e2
 split at e2
 case isFalse => cases e2
 rename_i hd
 obtain ⟨h0, e3, e4⟩ := Option.bind_eq_some_iff.mp e2
 obtain ⟨⟨w, g⟩, e5, e6⟩ := Option.bind_eq_some_iff.mp e4
 dsimp only at e6
 split at e6
 case isFalse => cases e6
 rename_i hj
 obtain ⟨hjd, hjk⟩ := hj
 obtain ⟨wy, e7, e8⟩ := Option.bind_eq_some_iff.mp e6
 obtain ⟨os, e9, e10⟩ := Option.bind_eq_some_iff.mp e8
 obtain ⟨us, e11, e12⟩ := Option.map_eq_some_iff.mp e10
 cases e12
 generalize hjs : fr w = js at *
 have hns : ∀ (i x : Nat), ns[i]? = some x → x < R.N ∧ ∃ o, h[x]? = some o ∧ h0[i]? = some o ∧ Qdp o = true := fun i x hx => by
  obtain ⟨o, z1, z2⟩ := (QV e3).2 i x hx
  obtain ⟨z3, z4⟩ := Qbj z2
  exact ⟨by rw [rh.len]; exact (List.getElem?_eq_some_iff.mp z3).1, o, z3, z1, z4⟩
 have hmem : ∀ x, x ∈ ns → ∃ i : Nat, ns[i]? = some x := fun x hx => List.mem_iff_getElem?.mp hx
 let R0 : Rn := { ρ := fun i => R.ρ (ns.getD i 0), N := ns.length, F := R.F, G := fun a => if ∃ x, x < R.N ∧ x ∉ ns ∧ R.ρ x = a then H a else R.G a }
 have hρ : ∀ (i x : Nat), ns[i]? = some x → i < R0.N ∧ R0.ρ i = R.ρ x := fun i x hx => by
  refine ⟨(List.getElem?_eq_some_iff.mp hx).1, ?_⟩
  show R.ρ (ns.getD i 0) = _
  rw [List.getD_eq_getElem?_getD, hx]; rfl
 have hat : ∀ i : Nat, i < ns.length → ∃ x, ns[i]? = some x := fun i hi => ⟨ns[i], List.getElem?_eq_getElem hi⟩
 have hGo : ∀ x, x < R.N → x ∉ ns → R0.G (R.ρ x) = H (R.ρ x) := fun x hx hn => if_pos ⟨x, hx, hn, rfl⟩
 have hGs : ∀ a o, R.G a = some o → R0.G a = some o := fun a o z => by
  show (if ∃ x, x < R.N ∧ x ∉ ns ∧ R.ρ x = a then H a else R.G a) = some o
  split
  ·exact rh.gsub a o z
  ·exact z
 have rh0 : Rh K R0 h0 H := by
  refine ⟨(QV e3).1, rh.sub, fun i hi => ?_, fun i j hi hj ee => ?_, fun i o hi => ?_, fun a o ha => ?_, fun i hi => ?_, fun a o ha => ?_⟩
  ·obtain ⟨x, hx⟩ := hat i hi
   rw [(hρ i x hx).2]
   exact rh.sep x (hns i x hx).1
  ·obtain ⟨x, hx⟩ := hat i hi
   obtain ⟨y, hy⟩ := hat j hj
   rw [(hρ i x hx).2, (hρ j y hy).2] at ee
   have := rh.inj x y (hns i x hx).1 (hns j y hy).1 ee
   subst this
   exact WL hd hx hy
  ·have hi' : i < ns.length := by rw [(QV e3).1]; exact (List.getElem?_eq_some_iff.mp hi).1
   obtain ⟨x, hx⟩ := hat i hi'
   obtain ⟨_, o', z1, z2, z3⟩ := hns i x hx
   rw [hi] at z2; cases z2
   rw [(hρ i x hx).2]
   exact W8 (R := R) (R' := R0) (fun _ _ z => z) z3 (rh.obj x o z1)
  ·have ha' : (if ∃ x, x < R.N ∧ x ∉ ns ∧ R.ρ x = a then H a else R.G a) = some o := ha
   split at ha'
   ·exact ha'
   ·exact rh.gsub a o ha'
  ·obtain ⟨x, hx⟩ := hat i hi
   rw [(hρ i x hx).2]
   show (if ∃ y, y < R.N ∧ y ∉ ns ∧ R.ρ y = R.ρ x then H (R.ρ x) else R.G (R.ρ x)) = none
   rw [if_neg]
   ·exact rh.gsep x (hns i x hx).1
   ·rintro ⟨y, hy, hyn, ey⟩
    have := rh.inj y x hy (hns i x hx).1 ey
    subst this
    exact hyn (List.mem_iff_getElem?.mpr ⟨i, hx⟩)
  ·have ha' : (if ∃ x, x < R.N ∧ x ∉ ns ∧ R.ρ x = a then H a else R.G a) = some o := ha
   split at ha'
   ·rename_i hx
    obtain ⟨x, hx, _, rfl⟩ := hx
    exact rh.sep x hx
   ·exact rh.gf a o ha'
 refine ⟨R0, as, h0, w, g, (YM e1).trans hl, rh0, Uj (R := R) (R0 := R0) (pre := []) (fun _ _ z => z) hρ e1 rfl rws, e5, fun R1 H1 v x1 rh1 rv => ?_⟩
 have hG1 : R1.G = R0.G := x1.g
 have hρ1 : ∀ (i x : Nat), ns[i]? = some x → i < R1.N ∧ R1.ρ i = R.ρ x := fun i x hx => by
  obtain ⟨z1, z2⟩ := hρ i x hx
  exact ⟨Nat.lt_of_lt_of_le z1 x1.n, (x1.ρ i z1).trans z2⟩
 have hj1 : ∀ (i j : Nat), js[i]? = some j → ns.length ≤ j ∧ j < R1.N ∧ ∃ o u, us[i]? = some u ∧ g[j]? = some o ∧ thO (res (Yk ns js h.length) g 3) o = some u := fun i j hij => by
  obtain ⟨u, z1, z2⟩ := (QV e11).2 i j hij
  obtain ⟨o, z3, z4⟩ := Option.bind_eq_some_iff.mp z2
  exact ⟨hjk j (List.mem_iff_getElem?.mpr ⟨i, hij⟩), by rw [rh1.len]; exact (List.getElem?_eq_some_iff.mp z3).1, o, u, z1, z3, z4⟩
 have hapart : ∀ x, x < R.N → ∀ j, ns.length ≤ j → j < R1.N → R1.ρ j ≠ R.ρ x := fun x hx j hj hjn ee => by
  by_cases hm : x ∈ ns
  ·obtain ⟨i, hi⟩ := hmem x hm
   obtain ⟨z1, z2⟩ := hρ1 i x hi
   have := rh1.inj j i hjn z1 (ee.trans z2.symm)
   have := (List.getElem?_eq_some_iff.mp hi).1
   omega
  ·have z := rh1.gsep j hjn
   rw [hG1, ee, hGo x hx hm] at z
   obtain ⟨_, u, _, hu⟩ := rh.there hx
   rw [hu] at z; cases z
 let R2 : Rn := { ρ := fun n => if n < R.N then R.ρ n else R1.ρ (js.getD (n - R.N) 0), N := R.N + js.length, F := fun a => match R1.F a with | some o => some o | none => if ∃ j, ns.length ≤ j ∧ j < R1.N ∧ j ∉ js ∧ R1.ρ j = a then H1 a else none, G := R.G }
 have r2lo : ∀ x, x < R.N → R2.ρ x = R.ρ x := fun x hx => if_pos hx
 have r2hi : ∀ (i j : Nat), js[i]? = some j → R2.ρ (R.N + i) = R1.ρ j := fun i j hij => by
  show (if R.N + i < R.N then R.ρ (R.N + i) else R1.ρ (js.getD (R.N + i - R.N) 0)) = _
  rw [if_neg (by omega), Nat.add_sub_cancel_left, List.getD_eq_getElem?_getD, hij]; rfl
 have f1 : ∀ a o, R1.F a = some o → R2.F a = some o := fun a o z => by
  show (match R1.F a with | some o => some o | none => if ∃ j, ns.length ≤ j ∧ j < R1.N ∧ j ∉ js ∧ R1.ρ j = a then H1 a else none) = some o
  rw [z]
 have fnone : ∀ a, R1.F a = none → (¬ ∃ j, ns.length ≤ j ∧ j < R1.N ∧ j ∉ js ∧ R1.ρ j = a) → R2.F a = none := fun a z1 z2 => by
  show (match R1.F a with | some o => some o | none => if ∃ j, ns.length ≤ j ∧ j < R1.N ∧ j ∉ js ∧ R1.ρ j = a then H1 a else none) = none
  rw [z1]; exact if_neg z2
 have fnew : ∀ j, ns.length ≤ j → j < R1.N → j ∉ js → R2.F (R1.ρ j) = H1 (R1.ρ j) := fun j a b c => by
  show (match R1.F (R1.ρ j) with | some o => some o | none => if ∃ j', ns.length ≤ j' ∧ j' < R1.N ∧ j' ∉ js ∧ R1.ρ j' = R1.ρ j then H1 (R1.ρ j) else none) = _
  rw [rh1.sep j b]; exact if_pos ⟨j, a, b, c, rfl⟩
 have hx2 : Ext R R2 := ⟨Nat.le_add_right _ _, fun x hx => r2lo x hx, fun a o z => f1 a o (x1.f a o z), rfl⟩
 have split2 : ∀ x, x < R2.N → x < R.N ∨ ∃ i j : Nat, x = R.N + i ∧ js[i]? = some j := fun x hx => by
  have hx' : x < R.N + js.length := hx
  by_cases z : x < R.N
  ·exact .inl z
  ·exact .inr ⟨x - R.N, js[x - R.N]'(by omega), by omega, List.getElem?_eq_getElem (by omega)⟩
 have hr : ∀ d j v w, Rw K R1 (.ref j) v → res (Yk ns js h.length) g d j = some w → Rw K R2 w v := by
  have kp_ok : ∀ j v x, Rw K R1 (.ref j) v → Yk ns js h.length j = some x → Rw K R2 (.ref x) v := fun j v x r z => by
   unfold Rw at r ⊢
   unfold Yk at z
   split at z
   ·rename_i y hy
    cases z
    obtain ⟨z1, z2⟩ := hρ1 j x hy
    have hxn := (hns j x hy).1
    exact ⟨Nat.lt_of_lt_of_le hxn hx2.n, by rw [r2lo x hxn, ← z2]; exact r.2⟩
   ·obtain ⟨i, z1, z2⟩ := Option.map_eq_some_iff.mp z
    have hij := WB z1
    subst z2
    rw [← rh.len, r2hi i j hij]
    exact ⟨Nat.add_lt_add_left (List.getElem?_eq_some_iff.mp hij).1 _, r.2⟩
  intro d
  induction d with
  | zero =>
   intro j v w r z
   unfold res at z
   obtain ⟨x, z1, z2⟩ := Option.map_eq_some_iff.mp z
   subst z2
   exact kp_ok j v x r z1
  | succ d ih =>
   intro j v w r z
   unfold res at z
   split at z
   ·rename_i x hx
    cases z
    exact kp_ok j v x r hx
   ·rename_i hnone
    split at z
    ·rename_i ws' hg
     obtain ⟨us', z1, z2⟩ := Option.map_eq_some_iff.mp z
     subst z2
     obtain ⟨xs, o1, o2⟩ := rh1.obj j _ hg
     have hr1 : j < R1.N ∧ v = .ref (R1.ρ j) := by unfold Rw at r; exact r
     unfold Yk at hnone
     split at hnone
     ·cases hnone
     ·rename_i hnj
      have hnj' : j ∉ js := Wf (by simpa using hnone)
      unfold Rw
      refine ⟨R1.ρ j, xs, hr1.2, ?_, Rws.th_ok f1 ih ws' xs us' z1 o2⟩
      rw [fnew j (List.getElem?_eq_none_iff.mp hnj) hr1.1 hnj']
      exact o1
    ·cases z
 refine k R2 H1 v hx2 ⟨?_, fun a o ha => ?_, fun x hx => ?_, fun x y hx hy ee => ?_, fun x o hx => ?_, fun a o ha => ?_, fun x hx => ?_, fun a o ha => ?_⟩ (Rw.th_ok f1 (hr 3) w v _ e7 rv)
 ·show R.N + js.length = _
  rw [List.length_append, Jx, ← (QV e11).1, rh.len]
 ·have ha' : (match R1.F a with | some o => some o | none => if ∃ j, ns.length ≤ j ∧ j < R1.N ∧ j ∉ js ∧ R1.ρ j = a then H1 a else none) = some o := ha
  split at ha'
  ·rename_i o' ho'
   cases ha'
   exact rh1.sub a _ ho'
  ·split at ha'
   ·exact ha'
   ·cases ha'
 ·rcases split2 x hx with hx | ⟨i, j, rfl, hij⟩
  ·rw [r2lo x hx]
   refine fnone _ ?_ (fun ⟨j, a, b, _, c⟩ => hapart x hx j a b c)
   by_cases hm : x ∈ ns
   ·obtain ⟨i, hi⟩ := hmem x hm
    obtain ⟨z1, z2⟩ := hρ1 i x hi
    rw [← z2]; exact rh1.sep i z1
   ·obtain ⟨_, u, _, hu⟩ := rh.there hx
    exact rh1.gf _ u (by rw [hG1, hGo x hx hm]; exact hu)
  ·obtain ⟨z1, z2, _⟩ := hj1 i j hij
   rw [r2hi i j hij]
   refine fnone _ (rh1.sep j z2) (fun ⟨j', a, b, c, d⟩ => ?_)
   have := rh1.inj j' j b z2 d
   subst this
   exact c (List.mem_iff_getElem?.mpr ⟨i, hij⟩)
 ·rcases split2 x hx with hx | ⟨i, j, rfl, hij⟩ <;> rcases split2 y hy with hy | ⟨i', j', rfl, hij'⟩
  ·rw [r2lo x hx, r2lo y hy] at ee; exact rh.inj x y hx hy ee
  ·rw [r2lo x hx, r2hi i' j' hij'] at ee
   obtain ⟨z1, z2, _⟩ := hj1 i' j' hij'
   exact absurd ee.symm (hapart x hx j' z1 z2)
  ·rw [r2lo y hy, r2hi i j hij] at ee
   obtain ⟨z1, z2, _⟩ := hj1 i j hij
   exact absurd ee (hapart y hy j z1 z2)
  ·rw [r2hi i j hij, r2hi i' j' hij'] at ee
   obtain ⟨_, z2, _⟩ := hj1 i j hij
   obtain ⟨_, z2', _⟩ := hj1 i' j' hij'
   have := rh1.inj j j' z2 z2' ee
   subst this
   rw [WL hjd hij hij']
 ·have hx' : x < R2.N := by
   have := (List.getElem?_eq_some_iff.mp hx).1
   rw [List.length_append, Jx, ← (QV e11).1, ← rh.len] at this
   exact this
  rcases split2 x hx' with hn | ⟨i, j, rfl, hij⟩
  ·rw [List.getElem?_append_left (by rw [Jx, ← rh.len]; exact hn)] at hx
   rw [r2lo x hn]
   by_cases hm : x ∈ ns
   ·obtain ⟨i, hi⟩ := hmem x hm
    obtain ⟨z1, z2⟩ := hρ1 i x hi
    have hil := (List.getElem?_eq_some_iff.mp hi).1
    rw [Yg ns os h i x hd (by rw [← (QV e9).1, List.length_range]) hi (by rw [← rh.len]; exact hn)] at hx
    obtain ⟨u, y1, y2⟩ := (QV e9).2 i i (by rw [List.getElem?_range hil])
    rw [hx] at y1; cases y1
    obtain ⟨o', y3, y4⟩ := Option.bind_eq_some_iff.mp y2
    rw [← z2]
    exact US f1 (hr 3) y4 (rh1.obj i o' y3)
   ·rw [Xh ns os h x hm] at hx
    obtain ⟨_, u, _, hu⟩ := rh.there hn
    have hu1 : H1 (R.ρ x) = some u := rh1.gsub _ u (by rw [hG1, hGo x hn hm]; exact hu)
    have := rh.obj x o hx
    rw [hu] at this
    rw [hu1]
    exact this.mono hx2
  ·obtain ⟨z1, z2, o', u, y1, y2, y3⟩ := hj1 i j hij
   rw [List.getElem?_append_right (by rw [Jx, ← rh.len]; omega), Jx, ← rh.len, Nat.add_sub_cancel_left, y1] at hx
   cases hx
   rw [r2hi i j hij]
   exact US f1 (hr 3) y3 (rh1.obj j o' y2)
 ·exact rh1.gsub a o (by rw [hG1]; exact hGs a o ha)
 ·rcases split2 x hx with hx | ⟨i, j, rfl, hij⟩
  ·rw [r2lo x hx]; exact rh.gsep x hx
  ·rw [r2hi i j hij]
   obtain ⟨_, z2, _⟩ := hj1 i j hij
   cases z : R2.G (R1.ρ j) with
   | none => rfl
   | some u =>
    have z3 := rh1.gsep j z2
    rw [hG1, hGs _ u z] at z3; cases z3
 ·have hg : R1.G a = some o := by rw [hG1]; exact hGs a o ha
  refine fnone a (rh1.gf a o hg) (fun ⟨j, _, b, _, d⟩ => ?_)
  have z3 := rh1.gsep j b
  rw [d, hg] at z3; cases z3
theorem Cal.box {P : Program} {w : World} {mg : Str → Option Value} {base : Heap} {x : Str} {ps : List Str} {k : Nat} {g : FM} (fr : W → List Nat) (C : Cal P w K mg base k x ps g) : Cal P w K mg base k x ps (Mi.box fr g) :=
 C.imp fun _ _ _ _ q => Qfp q
end
noncomputable def frN : W → List Nat := fun _ => []
noncomputable def frR : W → List Nat
 | .ref j => [j]
 | _ => []
end Mi

namespace Mi
open PySem PySem.Spec PyProof.Rows L2
noncomputable def Y9 : List Nat → List W → MSt → Option MSt
 | [], [], σ => some σ
 | i :: is, w :: ws, σ => Y9 is ws (σ.set i (some w))
 | _, _, _ => none
noncomputable def XA (is : List Nat) : MG := fun w σ _ => match w with | .tup ws => Y9 is ws σ | _ => none
noncomputable def GC : List Nat → TGs
 | [] => Qiw
 | i :: is => QfS (QaR i) (GC is)
theorem Ks {X : Cx} : PGs X [] (GC []) := QdU
theorem ZY {X : Cx} {i : Nat} {x : Str} {pos : Pos} {es : List Expr} {is : List Nat} (hN : X.N.Nodup) (hi : X.N[i]? = some x) (hx : Loc X.env.scope x) (h : PGs X es (GC is)) (hf : X.fn x = true ∨ X.env.scope.names.lookup x = some .local)
  : PGs X (.Name x pos :: es) (GC (i :: is)) := Qcc (Qa2 hN hi hx hf) h
theorem Uz {K : PySem.W.Frag} {R : Rn} {H : Hp} {C : L2.St → Hp → Prop} : ∀ {is : List Nat} {ws : List W} {xs : List V} {σi σ1 : MSt} {σ : L2.St}, Y9 is ws σi = some σ1 → Rws K R ws xs → Rst K R σi σ → (∀ σ', Rst K R σ1 σ' → C σ' H) → GC is xs σ H C
 | [], [], xs, σi, σ1, σ, e, r, s, k => by
  cases e
  rw [Rws.nil_iff] at r
  exact ⟨r, k σ s⟩
 | i :: is, w :: ws, xs, σi, σ1, σ, e, r, s, k => by
  rw [Rws.cons_iff] at r
  obtain ⟨v, vs, rfl, r1, r2⟩ := r
  exact ⟨v, vs, rfl, Uz (is := is) e r2 (s.set r1) k⟩
 | [], _ :: _, _, _, _, _, e, _, _, _ => by cases e
 | _ :: _, [], _, _, _, _, e, _, _, _ => by cases e
theorem Wj : ∀ {is : List Nat} {ws : List W} {σ σ1 : MSt}, Y9 is ws σ = some σ1 → ws.length = is.length
 | [], [], _, _, _ => rfl
 | i :: is, w :: ws, σ, σ1, e => by
  have := Wj (is := is) (ws := ws) e
  simp [this]
 | [], _ :: _, _, _, e => by cases e
 | _ :: _, [], _, _, e => by cases e
theorem Kp {X : Cx} {es : List Expr} {is : List Nat} {k : Nat} {pos : Pos} (hc : X.calm = true) (h : PGs X es (GC is)) (hn : (assignEach es X.env).length = is.length) (hs : (assignEach es X.env).findIdx? (·.1) = none) : PMG X (.Tuple es k pos) (XA is) :=
 QcX (Qf8 hc h hn hs) fun v σ H C ⟨R, σi, h, w, σ1, rh, st, rw, e, q⟩ => by
  unfold XA at e
  split at e
  ·rename_i ws
   obtain ⟨ad, xs, rfl, q1, r1⟩ := rh.tupAt rw
   exact ⟨ad, xs, rfl, q1, by rw [← r1.length]; exact Wj e, Uz e r1 st fun σ' s' => q R H σ' (Ext.refl _) rh s'⟩
  ·cases e
noncomputable def Qh8 (g : MG) (m : ME) : SM := fun σ h => (m σ h).bind fun p => (g p.1 σ p.2).map fun σ1 => .nx σ1 p.2
theorem QdC {X : Cx} {tg e : Expr} {g : MG} {m : ME} {pos : Pos} (he : PM X e m) (hg : PMG X tg g) (hs : swapsWithSole [tg] e pos.line X.env = pure false) (hw : swappedStores [tg] e X.env = pure none) (h1 : (assignEach [tg] X.env).map (·.2) = [assign tg X.env]) :
  PMS X (.Assign [tg] e pos) (Qh8 g m) := VN (QcZ he hg hs hw h1) <| by
 rintro D σ H ⟨R, σi, h, r, rh, s, e, k⟩
 obtain ⟨⟨w, h1⟩, e1, e2⟩ := Option.bind_eq_some_iff.mp e
 obtain ⟨σ1, e3, e4⟩ := Option.map_eq_some_iff.mp e2
 cases e4
 exact ⟨R, σi, h, w, h1, rh, s, e1, fun R1 H1 v x1 rh1 rv => ⟨R1, σi, h1, w, σ1, rh1, s.mono x1, rv, e3, fun R' H' σ' x' rh' s' => k R' H' σ' (x1.trans x') rh' s'⟩⟩
noncomputable def Qgn (ws : List W) (h : MH) : Option (W × MH) := match ws with
 | [.int i, .int j] => some (.int (if j > i then j else i), h)
 | _ => none
noncomputable def Qf1 (ws : List W) (h : MH) : Option (W × MH) := match ws with
 | [.int i, .int j] => some (.int (if j < i then j else i), h)
 | _ => none
section
variable {X : Cx}
theorem GT (hc : X.calm = true) : CallR X (.builtin "max") (Fs X.K Qgn) := by
 intro pins s σ H xs us Q I r q
 refine Qam hc pins s σ H xs us Q I r ?_
 obtain ⟨R, h, ws, w, h', rh, rw, e, k⟩ := q
 unfold Qgn at e
 split at e
 ·cases e
  obtain ⟨v, u, rfl, r1, r2⟩ := Qhe rw
  exact ⟨_, _, by rw [r1.int_eq, r2.int_eq], k R H _ (Ext.refl _) rh (Rw.int _)⟩
 ·cases e
theorem QaS (hc : X.calm = true) : CallR X (.builtin "min") (Fs X.K Qf1) := by
 intro pins s σ H xs us Q I r q
 refine Qbu hc pins s σ H xs us Q I r ?_
 obtain ⟨R, h, ws, w, h', rh, rw, e, k⟩ := q
 unfold Qf1 at e
 split at e
 ·cases e
  obtain ⟨v, u, rfl, r1, r2⟩ := Qhe rw
  exact ⟨_, _, by rw [r1.int_eq, r2.int_eq], k R H _ (Ext.refl _) rh (Rw.int _)⟩
 ·cases e
noncomputable def rep (x : Str) (n : Int) : Str := ⟨((List.replicate n.toNat x.cps.toList).flatten).toArray⟩
theorem WA : ∀ (l : List (Array Nat)) (a : Array Nat), l.foldl (· ++ ·) a = (a.toList ++ (l.map Array.toList).flatten).toArray
 | [], a => by simp
 | b :: l, a => by rw [List.foldl_cons, WA l]; simp
theorem Qdb (x : Str) (n : Int) : (⟨(List.replicate n.toNat x.cps).foldl (· ++ ·) #[]⟩ : Str) = rep x n := by
 unfold rep
 rw [WA]
 simp
theorem Qb0 (x : Str) {n : Int} (h : n < 1) : Str.empty = rep x n := by
 unfold rep
 rw [show n.toNat = 0 by omega]; rfl
theorem QdM (x : Str) : x = rep x 1 := by
 unfold rep
 simp
theorem QdQ {x : Str} (n : Int) (h : (x.length == 0) = true) : x = rep x n := by
 unfold rep
 have : x.cps = #[] := by
  have : x.cps.size = 0 := by simpa [Str.length] using h
  exact Array.eq_empty_of_size_eq_zero this
 obtain ⟨c⟩ := x
 simp at this
 subst this
 simp
noncomputable def Xu (a b : W) (h : MH) : Option (W × MH) := match a, b with
 | .str x, .int n => if n < 1000 ∧ -1000 < n ∧ x.length < 1000 then some (.str (rep x n), h) else none
 | a, b => QfI a b h
theorem Qeg : OpR X (binaryOp .Mult) (fun x y H Q => ∃ z n, x = .str z ∧ y = .int n ∧ (n < 1000 ∧ -1000 < n ∧ z.length < 1000) ∧ Q (.str (rep z n)) H) := by
  intro pins s σ H x y v u Q I rx ry ⟨z, n, e1, e2, ⟨h1, h2, h3⟩, q⟩
  subst e1 e2
  obtain ⟨t, rfl⟩ := rx
  obtain ⟨t', rfl⟩ := ry
  have hm : z.length * n.toNat < 1000000 := by
    calc z.length * n.toNat ≤ 999 * 999 := Nat.mul_le_mul (by omega) (by omega)
      _ < 1000000 := by decide
  refine PySem.P.mul_str (by rw [decide_eq_false (by omega), decide_eq_false (by omega)]; rfl) (fun a _ => ?_) (fun a _ => ?_) ?_
  · have : (2 ^ 63 - 1) / n ≥ 1000 := by
      rw [ge_iff_le, Int.le_ediv_iff_mul_le (by omega)]; omega
    omega
  · unfold Builtin.Str.tooLong
    exact decide_eq_false (by show ¬ _; have : sizeLine = 16777216 := by decide
                              omega)
  · have done : ∀ (y : Str) (tk : Tok) (s' : Shared), y = rep z n → Inv X pins σ H s' → EP X pins σ Q (.str y tk) s' := fun y tk s' ey I' => ⟨.str y, H, I', ⟨_, rfl⟩, by rw [ey]; exact q⟩
    split
    · rename_i hn
      exact ⟨by decide, done _ _ _ (Qb0 z hn) (I.tok _)⟩
    · split
      · rename_i hn ho
        rw [Bool.or_eq_true] at ho
        refine done _ _ _ ?_ I
        rcases ho with ho | ho
        · have : n = 1 := by simpa using ho
          subst this; exact QdM z
        · exact QdQ n ho
      · refine ⟨?_, done _ _ _ (Qdb z n) (I.tok _)⟩
        rw [Qdb]
        have hl : (rep z n).length = n.toNat * z.length := by
          unfold rep Str.length
          simp
        rw [hl, Nat.mul_comm]
        have : sizeLine = 16777216 := by decide
        omega
theorem V6 : OpR X (binaryOp .Mult) (F2 X.K Xu) := by
 intro pins s σ H x y v u Q I rx ry q
 obtain ⟨R, h, a, b, w, h', rh, ra, rb, e, k⟩ := q
 unfold Xu at e
 split at e
 ·split at e
  ·rename_i hl
   cases e
   exact Qeg pins s σ H x y v u Q I rx ry ⟨_, _, ra.str_eq, rb.int_eq, hl, k R H _ (Ext.refl _) rh (Rw.str _)⟩
  ·cases e
 ·exact Qea pins s σ H x y v u Q I rx ry ⟨R, h, a, b, w, h', rh, ra, rb, e, k⟩
end
section
variable {X : Cx} {elt tg iter c : Expr} {scope : Scope} {pos pos' spos : Pos} {cl : List (Str × Addr)} {Nb : List Str} {cp : List (Option Nat)} {mi : MI} {b : MG} {mt : MT} {me m : ME} {fin : List W → MH → Option (W × MH)} {i : Nat} {x : Str} {e : Expr}
theorem QbF {K : PySem.W.Frag} {D : L2.Ends} {σ : L2.St} {H : Hp} (q : tS K (Zo i m) D σ H) : tI K m σ H fun v H1 => QaR i v σ H1 D.nx := by
 obtain ⟨R, σi, h, r, rh, s, e, k⟩ := q
 obtain ⟨⟨w, h1⟩, e1, e2⟩ := Option.map_eq_some_iff.mp e
 cases e2
 exact ⟨R, σi, h, w, h1, rh, s, e1, fun R1 H1 v x1 rh1 rv => k R1 H1 _ x1 rh1 ((s.mono x1).set rv)⟩
theorem KP (hN : X.N.Nodup) (hix : X.N[i]? = some x) (hx : Loc X.env.scope x) (hfn : X.fn x = true ∨ X.env.scope.names.lookup x = some .local) (hf : Uh X.K fin) (hc : X.calm = true) (B : BlkOk X scope cl Nb cp) (hi : PMI X tg iter mi) (hg : ∀ s₀ H₀ C ex pn, PMG (Mi.blk X scope cl Nb s₀ H₀ C ex pn) tg b)
  (he : ∀ s₀ H₀ C ex pn, PM (Mi.blk X scope cl Nb s₀ H₀ C ex pn) elt me) (hs : ∀ x, foldedSetIterable iter X.env x = pure x) (hsw : swapsWith (.ListComp elt [⟨tg, iter, [], 0⟩] scope pos) (some (.Name x pos')) spos.line X.env = pure true) :
  PMS X (.Assign [.Name x pos'] (.ListComp elt [⟨tg, iter, [], 0⟩] scope pos) spos) (Zo i (Jd fin mi cp b Ku me)) :=
 VN (Qbo (g := tIG X.K b) (te := tI X.K me) (tt := tIT X.K Ku) hN hix hx hfn hsw hc B hi hg (fun s₀ H₀ C ex pn pins s τ H Q I q => wpAny_tests_nil (by
  obtain ⟨R, σi, h, t, h', rh, st, e, k⟩ := q
  cases e
  exact ⟨H, I, k R H (Ext.refl _) rh⟩)) he hs) fun _ _ _ q => Yw hf (QbF q)
theorem Qbl (hN : X.N.Nodup) (hix : X.N[i]? = some x) (hx : Loc X.env.scope x) (hfn : X.fn x = true ∨ X.env.scope.names.lookup x = some .local) (hf : Uh X.K fin) (hc : X.calm = true) (B : BlkOk X scope cl Nb cp) (hi : PMI X tg iter mi) (hg : ∀ s₀ H₀ C ex pn, PMG (Mi.blk X scope cl Nb s₀ H₀ C ex pn) tg b)
  (ht : ∀ s₀ H₀ C ex pn, PMT (Mi.blk X scope cl Nb s₀ H₀ C ex pn) c mt)
  (he : ∀ s₀ H₀ C ex pn, PM (Mi.blk X scope cl Nb s₀ H₀ C ex pn) elt me) (hs : ∀ x, foldedSetIterable iter X.env x = pure x) (hsw : swapsWith (.ListComp elt [⟨tg, iter, [c], 0⟩] scope pos) (some (.Name x pos')) spos.line X.env = pure true) :
  PMS X (.Assign [.Name x pos'] (.ListComp elt [⟨tg, iter, [c], 0⟩] scope pos) spos) (Zo i (Jd fin mi cp b mt me)) :=
 VN (Qbo (g := tIG X.K b) (te := tI X.K me) (tt := tIT X.K mt) hN hix hx hfn hsw hc B hi hg (fun s₀ H₀ C ex pn pins s τ H Q I q => wpAny_tests_one (ht s₀ H₀ C ex pn pins s τ H Q I q)) he hs) fun _ _ _ q => Yw hf (QbF q)
end
end Mi

namespace Mi
open PySem PySem.Spec PyProof.Rows L2
set_option checkBinderAnnotations false in
noncomputable def ob {α β : Type} [f : α → Option β] (x : Option α) : Option β := x.bind f
set_option checkBinderAnnotations false in
noncomputable def om {α β : Type} [f : α → β] (x : Option α) : Option β := x.map f
@[simp] theorem Qd6 {α β : Type} {a : α} {f : α → Option β} : @ob _ _ f (some a) = f a := id rfl
@[simp] theorem QhD {α β : Type} {a : α} {f : α → β} : @om _ _ f (some a) = some (f a) := id rfl
noncomputable def Qhs (b : SM) : MF → Option MF
 | .nx σ h => b σ h
 | r => some r
section
variable {σ σ' : MSt} {h h' : MH} {a b : SM} {m ma mb mc : ME} {t u : MT} {ms : MA} {w x y : W} {ws : List W}
@[simp] theorem Qg5 : Qhs b (.nx σ h) = b σ h := id rfl
@[simp] theorem QgS : Qhs b (.rt w h) = some (.rt w h) := id rfl
@[simp] theorem QkC : QI a b σ h = @ob _ _ (Qhs b) (a σ h) := by
 unfold QI
 refine congrArg (fun f_ => @ob _ _ f_ (a σ h)) (funext fun r => ?_)
 cases r <;> rfl
@[simp] theorem QiN : Ze σ h = some (.nx σ h) := id rfl
@[simp] theorem QjR : Z9 m σ h = @om _ _ (fun p => .rt p.1 p.2) (m σ h) := id rfl
noncomputable def onB (a b : SM) (σ : MSt) (p : Bool × MH) : Option MF := if p.1 = true then a σ p.2 else b σ p.2
@[simp] theorem Qhp (c : Bool) : onB a b σ (c, h) = if c = true then a σ h else b σ h := id rfl
@[simp] theorem Qj7 : JL t a b σ h = @ob _ _ (onB a b σ) (t σ h) := by
 unfold JL
 refine congrArg (fun f_ => @ob _ _ f_ (t σ h)) (funext fun p => ?_)
 obtain ⟨c, h⟩ := p
 cases c <;> rfl
@[simp] theorem QiV : ZL m σ h = @om _ _ (fun p => .nx σ p.2) (m σ h) := id rfl
@[simp 500] theorem Qko {i : Nat} : Zo i m σ h = @om _ _ (fun p => .nx (σ.set i (some p.1)) p.2) (m σ h) := id rfl
@[simp] theorem Qj9 {i : Nat} {f : W → W → MH → Option (W × MH)} : QeV i f m σ h = @ob _ _ (fun x => @ob _ _ (fun p => @om _ _ (fun q => .nx (σ.set i (some q.1)) q.2) (f x.1 p.1 p.2)) (m σ h)) (Qg i σ h) := by
 unfold QeV Qg
 rcases σ[i]? with _ | _ | x <;> rfl
@[simp 1100] theorem QjM {v0 x : Option W} {r : MSt} : List.set (v0 :: r) 0 x = x :: r := id rfl
@[simp 1100] theorem Qkz {v0 v1 x : Option W} {r : MSt} : List.set (v0 :: v1 :: r) 1 x = v0 :: x :: r := id rfl
@[simp 1100] theorem QjA {v0 v1 v2 x : Option W} {r : MSt} : List.set (v0 :: v1 :: v2 :: r) 2 x = v0 :: v1 :: x :: r := id rfl
@[simp 1100] theorem Qjv {v0 v1 v2 v3 x : Option W} {r : MSt} : List.set (v0 :: v1 :: v2 :: v3 :: r) 3 x = v0 :: v1 :: v2 :: x :: r := id rfl
@[simp 1100] theorem Qkb {v0 v1 v2 v3 v4 x : Option W} {r : MSt} : List.set (v0 :: v1 :: v2 :: v3 :: v4 :: r) 4 x = v0 :: v1 :: v2 :: v3 :: x :: r := id rfl
@[simp 1100] theorem Qka {v0 v1 v2 v3 v4 v5 x : Option W} {r : MSt} : List.set (v0 :: v1 :: v2 :: v3 :: v4 :: v5 :: r) 5 x = v0 :: v1 :: v2 :: v3 :: v4 :: x :: r := id rfl
@[simp 1100] theorem QjD {v0 v1 v2 v3 v4 v5 v6 x : Option W} {r : MSt} : List.set (v0 :: v1 :: v2 :: v3 :: v4 :: v5 :: v6 :: r) 6 x = v0 :: v1 :: v2 :: v3 :: v4 :: v5 :: x :: r := id rfl
@[simp 1100] theorem Qjx {v0 v1 v2 v3 v4 v5 v6 v7 x : Option W} {r : MSt} : List.set (v0 :: v1 :: v2 :: v3 :: v4 :: v5 :: v6 :: v7 :: r) 7 x = v0 :: v1 :: v2 :: v3 :: v4 :: v5 :: v6 :: x :: r := id rfl
@[simp 1100] theorem QjQ {v0 v1 v2 v3 v4 v5 v6 v7 v8 x : Option W} {r : MSt} : List.set (v0 :: v1 :: v2 :: v3 :: v4 :: v5 :: v6 :: v7 :: v8 :: r) 8 x = v0 :: v1 :: v2 :: v3 :: v4 :: v5 :: v6 :: v7 :: x :: r := id rfl
@[simp 1100] theorem Qkj {v0 v1 v2 v3 v4 v5 v6 v7 v8 v9 x : Option W} {r : MSt} : List.set (v0 :: v1 :: v2 :: v3 :: v4 :: v5 :: v6 :: v7 :: v8 :: v9 :: r) 9 x = v0 :: v1 :: v2 :: v3 :: v4 :: v5 :: v6 :: v7 :: v8 :: x :: r := id rfl
@[simp] theorem QjW {g : MG} : Qh8 g m σ h = @ob _ _ (fun p => @om _ _ (fun σ1 => .nx σ1 p.2) (g p.1 σ p.2)) (m σ h) := id rfl
@[simp] theorem QfO {o : W} {r : MSt} : Qg 0 (some o :: r) h = some (o, h) := id rfl
@[simp] theorem Qjl {v0 : Option W} {o : W} {r : MSt} : Qg 1 (v0 :: some o :: r) h = some (o, h) := id rfl
@[simp] theorem Qi7 {v0 v1 : Option W} {o : W} {r : MSt} : Qg 2 (v0 :: v1 :: some o :: r) h = some (o, h) := id rfl
@[simp] theorem Qi9 {v0 v1 v2 : Option W} {o : W} {r : MSt} : Qg 3 (v0 :: v1 :: v2 :: some o :: r) h = some (o, h) := id rfl
@[simp] theorem Qje {v0 v1 v2 v3 : Option W} {o : W} {r : MSt} : Qg 4 (v0 :: v1 :: v2 :: v3 :: some o :: r) h = some (o, h) := id rfl
@[simp] theorem QiW {v0 v1 v2 v3 v4 : Option W} {o : W} {r : MSt} : Qg 5 (v0 :: v1 :: v2 :: v3 :: v4 :: some o :: r) h = some (o, h) := id rfl
@[simp] theorem QiT {v0 v1 v2 v3 v4 v5 : Option W} {o : W} {r : MSt} : Qg 6 (v0 :: v1 :: v2 :: v3 :: v4 :: v5 :: some o :: r) h = some (o, h) := id rfl
@[simp] theorem Qi3 {v0 v1 v2 v3 v4 v5 v6 : Option W} {o : W} {r : MSt} : Qg 7 (v0 :: v1 :: v2 :: v3 :: v4 :: v5 :: v6 :: some o :: r) h = some (o, h) := id rfl
@[simp] theorem QiR {v0 v1 v2 v3 v4 v5 v6 v7 : Option W} {o : W} {r : MSt} : Qg 8 (v0 :: v1 :: v2 :: v3 :: v4 :: v5 :: v6 :: v7 :: some o :: r) h = some (o, h) := id rfl
@[simp] theorem Qij {v0 v1 v2 v3 v4 v5 v6 v7 v8 : Option W} {o : W} {r : MSt} : Qg 9 (v0 :: v1 :: v2 :: v3 :: v4 :: v5 :: v6 :: v7 :: v8 :: some o :: r) h = some (o, h) := id rfl
@[simp 400] theorem Qi1 {i : Nat} {o : Option W} {r : MSt} : Qg (i + 1) (o :: r) h = Qg i r h := by
 unfold Qg; rw [List.getElem?_cons_succ]
@[simp] theorem s_c : mC w σ h = some (w, h) := id rfl
@[simp 500] theorem Qkw {f : W → W → MH → Option (W × MH)} : Ql f ma mb σ h = @ob _ _ (fun p => @ob _ _ (fun q => f p.1 q.1 q.2) (mb σ p.2)) (ma σ h) := id rfl
@[simp] theorem QkV {f : W → MH → Option (W × MH)} : mUn f ma σ h = @ob _ _ (fun p => f p.1 p.2) (ma σ h) := id rfl
@[simp] theorem QjC {f : List W → MH → Option (W × MH)} : mFn f ms σ h = @ob _ _ (fun p => f p.1 p.2) (ms σ h) := id rfl
@[simp] theorem QiD {n : Nat} {g : FM} : Qv n g ms σ h = @ob _ _ (fun p => if p.1.length = n then g p.1 p.2 else none) (ms σ h) := id rfl
@[simp] theorem Qh2 : Qm σ h = some ([], h) := id rfl
@[simp 600] theorem Qji {f : W → W → MH → Option (W × MH)} : Ql f ma (mC w) σ h = @ob _ _ (fun p => f p.1 w p.2) (ma σ h) := id rfl
@[simp 600] theorem QgZ : Qc (mC w) ms σ h = @ob _ _ (fun q => some (w :: q.1, q.2)) (ms σ h) := id rfl
@[simp 610] theorem Qhq : Qc m Qm σ h = @ob _ _ (fun p => some ([p.1], p.2)) (m σ h) := id rfl
@[simp 620] theorem Qgz : Qc (mC w) Qm σ h = some ([w], h) := id rfl
@[simp 600] theorem Qi2 {i : Nat} : Zo i (mC w) σ h = some (.nx (σ.set i (some w)) h) := id rfl
@[simp 500] theorem QfL : Qc m ms σ h = @ob _ _ (fun p => @ob _ _ (fun q => some (p.1 :: q.1, q.2)) (ms σ p.2)) (m σ h) := id rfl
noncomputable def asB (p : W × MH) : Option (Bool × MH) := match p.1 with | .bl b => some (b, p.2) | _ => none
@[simp] theorem QiG (c : Bool) : asB (.bl c, h) = some (c, h) := id rfl
@[simp 500] theorem QiX : Qy m σ h = @ob _ _ asB (m σ h) := id rfl
@[simp] theorem Qjj : GJ t σ h = @om _ _ (fun p => (!p.1, p.2)) (t σ h) := by
 unfold GJ
 first | rfl | (cases t σ h <;> rfl)
noncomputable def Qfe (u : MT) (σ : MSt) (p : Bool × MH) : Option (Bool × MH) := if p.1 = true then u σ p.2 else some (false, p.2)
noncomputable def QiM (u : MT) (σ : MSt) (p : Bool × MH) : Option (Bool × MH) := if p.1 = true then some (true, p.2) else u σ p.2
@[simp] theorem QfX (c : Bool) : Qfe u σ (c, h) = if c = true then u σ h else some (false, h) := id rfl
@[simp] theorem QgQ (c : Bool) : QiM u σ (c, h) = if c = true then some (true, h) else u σ h := id rfl
@[simp 500] theorem UR : J1 t u σ h = @ob _ _ (Qfe u σ) (t σ h) := by
 unfold J1
 refine congrArg (fun f_ => @ob _ _ f_ (t σ h)) (funext fun p => ?_)
 obtain ⟨c, h⟩ := p
 cases c <;> rfl
@[simp 500] theorem QkB : Uw t u σ h = @ob _ _ (QiM u σ) (t σ h) := by
 unfold Uw
 refine congrArg (fun f_ => @ob _ _ f_ (t σ h)) (funext fun p => ?_)
 obtain ⟨c, h⟩ := p
 cases c <;> rfl
noncomputable def QiU (ma mb : ME) (σ : MSt) (p : Bool × MH) : Option (W × MH) := if p.1 = true then ma σ p.2 else mb σ p.2
@[simp] theorem QgO (c : Bool) : QiU ma mb σ (c, h) = if c = true then ma σ h else mb σ h := id rfl
@[simp] theorem QkJ : mIf t ma mb σ h = @ob _ _ (QiU ma mb σ) (t σ h) := by
 unfold mIf
 refine congrArg (fun f_ => @ob _ _ f_ (t σ h)) (funext fun p => ?_)
 obtain ⟨c, h⟩ := p
 cases c <;> rfl
@[simp] theorem Qky : QcL m σ h = @ob _ _ (fun p => @om _ _ (fun b => (b, p.2)) (Qdq p.2 p.1)) (m σ h) := by
 unfold QcL
 rfl
@[simp] theorem QkR {T : String} {f : W → List W → MH → Option (W × MH)} : mMt T f m ms σ h = @ob _ _ (fun p => if tyW p.2 T p.1 = true then @ob _ _ (fun q => f p.1 q.1 q.2) (ms σ p.2) else none) (m σ h) := id rfl
end
section
variable {h : MH} {i j : Int} {x y : Str} {ws us : List W} {w : W}
@[simp] theorem QkD : ZV (.int i) (.int j) h = some (.int (i + j), h) := id rfl
@[simp] theorem QjG : Ws (.int i) (.int j) h = some (.int (i - j), h) := id rfl
@[simp] theorem QkO : wLt (.int i) (.int j) h = some (.bl (decide (i < j)), h) := id rfl
@[simp] theorem QkP : wGt (.int i) (.int j) h = some (.bl (decide (j < i)), h) := id rfl
@[simp] theorem QkT : wGe (.int i) (.int j) h = some (.bl (decide (j ≤ i)), h) := id rfl
@[simp] theorem QjY : XD (.int i) h = some (.int (-i), h) := id rfl
@[simp] theorem QiH : QaP (.int i) (.int j) h = some (.int (i + j), h) := id rfl
@[simp] theorem Qj5 (c : 0 < j) : Qbh (.int i) (.int j) h = some (.int (i % j), h) := Qer c
@[simp] theorem QkF (c : 0 < j) (c' : j < 1073741824) : Qeb (.int i) (.int j) h = some (.int (i / j), h) := QdP ⟨c, c'⟩
@[simp] theorem Qix (c : -18446744073709551616 < j) (c' : j < 18446744073709551616) : Xu (.int i) (.int j) h = some (.int (i * j), h) := QaV (.inr ⟨c, c'⟩)
@[simp] theorem Qjc (c : -18446744073709551616 < i) (c' : i < 18446744073709551616) : Xu (.int i) (.int j) h = some (.int (i * j), h) := QaV (.inl ⟨c, c'⟩)
@[simp] theorem QjX (c : 0 ≤ j) (c' : j ≤ 1000000) (c'' : i.natAbs < 18446744073709551616) : QeS (.int i) (.int j) h = some (.int (i ^ j.toNat), h) := Qdy ⟨c, c', c''⟩
theorem Qbp (c : j < 1000 ∧ -1000 < j ∧ x.length < 1000) : Xu (.str x) (.int j) h = some (.str (rep x j), h) := if_pos c
@[simp] theorem QhP : Qgn [.int i, .int j] h = some (.int (if j > i then j else i), h) := id rfl
@[simp] theorem QhW : Qf1 [.int i, .int j] h = some (.int (if j < i then j else i), h) := id rfl
@[simp] theorem QjN : ZW ws h = if ws.length ≤ sizeLine then some (.tup ws, h) else none := id rfl
@[simp] theorem Qkm : Vf ws h = if ws.length ≤ sizeLine then some (.lst ws, h) else none := id rfl
@[simp] theorem Qj1 : K3 ws h = if ws.length ≤ sizeLine then some (.ref h.length, h ++ [.lst ws]) else none := id rfl
@[simp] theorem Qj0 : wIx (.tup ws) (.int i) h = @om _ _ (fun w => (w, h)) (atI ws i) := id rfl
@[simp] theorem Qj8 : wIx (.lst ws) (.int i) h = @om _ _ (fun w => (w, h)) (atI ws i) := id rfl
@[simp] theorem Qkx : wIx (.frz ws) (.int i) h = @om _ _ (fun w => (w, h)) (atI ws i) := id rfl
@[simp] theorem QjT {n : Nat} : wIx (.ref n) (.int i) h = @ob _ _ (fun (ws : List W) => @om _ _ (fun w => (w, h)) (atI ws i)) (match h[n]? with | some (.lst ws) => some ws | _ => none) := id rfl
@[simp] theorem Qiq : Js [.tup ws] h = some (.int ws.length, h) := id rfl
@[simp] theorem Qja : Js [.lst ws] h = some (.int ws.length, h) := id rfl
@[simp] theorem Qfb : Js [.frz ws] h = some (.int ws.length, h) := id rfl
@[simp] theorem QiB {n : Nat} : Js [.ref n] h = @om _ _ (fun (ws : List W) => (.int ws.length, h)) (match h[n]? with | some (.lst ws) => some ws | _ => none) := id rfl
theorem Zt {α : Type} {xs : List α} {n : Nat} : atI xs (n : Int) = xs[n]? := by
 cases e : xs[n]? with
 | some x => exact Qdx e
 | none =>
  unfold atI ixN
  have : xs.length ≤ n := List.getElem?_eq_none_iff.mp e
  rw [if_pos (by omega)]
  rw [if_neg (by omega)]
  rfl
@[simp] theorem Qjw {α : Type} {xs : List α} : atI xs 0 = xs[0]? := Zt (n := 0)
@[simp] theorem QkU {α : Type} {xs : List α} : atI xs 1 = xs[1]? := Zt (n := 1)
@[simp] theorem Qih {α : Type} {xs : List α} {y : α} : atI (xs ++ [y]) (-1) = some y := Ke xs y
@[simp] theorem Qjr {n : Nat} : ixN (n + 1) 0 = some 0 := by unfold ixN; rw [if_pos (by decide), if_pos (by omega)]; rfl
@[simp] theorem Qjt {n : Nat} : ixN (n + 2) 1 = some 1 := by unfold ixN; rw [if_pos (by decide), if_pos (by omega)]; rfl
@[simp] theorem QjU {n : Nat} : ixN (n + 3) 2 = some 2 := by unfold ixN; rw [if_pos (by decide), if_pos (by omega)]; rfl
theorem GQ {n k : Nat} (hk : k < n) : ixN n (k : Int) = some k := by unfold ixN; rw [if_pos (by omega), if_pos (by omega)]; simp
@[simp] theorem Qif {n : Nat} : ixN (n + 1) (-1) = some n := by unfold ixN; rw [if_neg (by decide), if_pos (by omega)]; congr 1; omega
noncomputable def putAt (o i v : W) (σ : MSt) (h : MH) : Option MF := match o, i with
 | .ref n, .int k => match h[n]? with
  | some (.lst xs) => @om _ _ (fun j => .nx σ (h.set n (.lst (xs.set j v)))) (ixN xs.length k)
  | _ => none
 | _, _ => none
@[simp] theorem Qj2 {mo mi mv : ME} {σ : MSt} : GO mo mi mv σ h = @ob _ _ (fun v => @ob _ _ (fun o => @ob _ _ (fun i => putAt o.1 i.1 v.1 σ i.2) (mi σ o.2)) (mo σ v.2)) (mv σ h) := id rfl
@[simp] theorem QhC {n : Nat} {v : W} {σ : MSt} : putAt (.ref n) (.int i) v σ h = match h[n]? with
  | some (.lst xs) => @om _ _ (fun j => .nx σ (h.set n (.lst (xs.set j v)))) (ixN xs.length i)
  | _ => none := id rfl
@[simp] theorem QiO {w : W} : Qen (some (.rt w h)) = some (w, h) := id rfl
@[simp] theorem Qir {σ : MSt} : Qen (some (.nx σ h)) = some (.non, h) := id rfl
@[simp] theorem Qgw {n : Nat} {w : W} : QU (.ref n) [w] h = match h[n]? with | some (.lst xs) => if xs.length < sizeLine then some (.non, h.set n (.lst (xs ++ [w]))) else none | _ => none := id rfl
@[simp] theorem Qgx {n : Nat} {w : W} : Ys (.ref n) [w] h = match h[n]? with | some (.lst xs) => @ob _ _ (fun ys => if xs.length + ys.length ≤ sizeLine then some (.non, h.set n (.lst (xs ++ ys))) else none) (loW h w) | _ => none := id rfl
@[simp] theorem QkE : loW h (.lst ws) = some ws := id rfl
@[simp] theorem QjI {n : Nat} : QeY (.ref n) [] h = match h[n]? with | some (.lst xs) => @om _ _ (fun w => (w, h.set n (.lst xs.dropLast))) (xs[xs.length - 1]?) | _ => none := id rfl
@[simp] theorem Qj4 {n : Nat} {T : String} : tyW h T (.ref n) = match h[n]? with | some (.lst _) => T == "list" | some (.dic _) => T == "dict" | some (.dct _) => T == "dict" | none => false := id rfl
@[simp] theorem Qkf {T : String} : tyW h T (.lst ws) = (T == "list") := id rfl
@[simp] theorem Qiy {b : Bool} : Qdq h (.bl b) = some b := id rfl
@[simp] theorem QiP : Qdq h (.tup ws) = some (!ws.isEmpty) := id rfl
@[simp] theorem QiC : Qdq h (.lst ws) = some (!ws.isEmpty) := id rfl
@[simp] theorem Qgy : VO [.lst ws] h = some (.tup ws, h) := id rfl
@[simp] theorem QgP {n : Nat} : VO [.ref n] h = @om _ _ (fun (ws : List W) => (.tup ws, h)) (match h[n]? with | some (.lst ws) => some ws | _ => none) := id rfl
@[simp] theorem QkQ {ma : ME} {ml mh : MOp} {σ : MSt} : mSl ma ml mh σ h = @ob _ _ (fun p => @ob _ _ (fun q => @ob _ _ (fun r => wSl p.1 q.1 r.1 r.2) (mh σ q.2)) (ml σ p.2)) (ma σ h) := id rfl
@[simp] theorem QkN {σ : MSt} : Vr σ h = some (none, h) := id rfl
noncomputable def asI (p : W × MH) : Option (Option Int × MH) := match p.1 with | .int i => some (some i, p.2) | _ => none
@[simp] theorem QgT : asI (.int i, h) = some (some i, h) := id rfl
@[simp] theorem QkL {m : ME} {σ : MSt} : Zp m σ h = @ob _ _ asI (m σ h) := id rfl
@[simp] theorem Qha {lo hi : Option Int} : wSl (.tup ws) lo hi h = some (.tup (KY ws lo hi), h) := id rfl
@[simp] theorem Qkv {lo hi : Option Int} : wSl (.lst ws) lo hi h = some (.lst (KY ws lo hi), h) := id rfl
@[simp] theorem Qkk {n : Nat} {lo hi : Option Int} : wSl (.ref n) lo hi h = @om _ _ (fun (ws : List W) => (.lst (KY ws lo hi), h)) (match h[n]? with | some (.lst ws) => some ws | _ => none) := id rfl
@[simp] theorem Qie : ZV (.tup ws) (.tup us) h = if ws.length + us.length ≤ sizeLine then some (.tup (ws ++ us), h) else none := id rfl
@[simp] theorem Qjh : ZV (.str x) (.str y) h = if x.length + y.length ≤ sizeLine then some (.str (x ++ y), h) else none := id rfl
@[simp] theorem Qjy {a : W} : wIs a .non h = some (.bl (Wg a), h) := id rfl
@[simp] theorem QgD : Wg .non = true := id rfl
@[simp] theorem Qkn {a : W} {T : String} : QgB [a, .ty T] h = if Wx T = true then @om _ _ (fun k => (.bl (KL k T), h)) (Qcp h a) else none := id rfl
@[simp] theorem QkG {b : Bool} : Qcp h (.bl b) = some "bool" := id rfl
@[simp] theorem QkK : Wx "bool" = true := by decide
end
mutual
noncomputable def pln : W → Bool
 | .tup ws => X8 ws
 | .lst ws => X8 ws
 | .frz _ => false
 | .ref _ => false
 | .ty _ => false
 | _ => true
noncomputable def X8 : List W → Bool
 | [] => true
 | w :: ws => pln w && X8 ws
end
mutual
noncomputable def dep : W → Nat
 | .tup ws => YY ws + 1
 | .lst ws => YY ws + 1
 | _ => 1
noncomputable def YY : List W → Nat
 | [] => 0
 | w :: ws => max (dep w) (YY ws)
end
mutual
theorem V0 (h : MH) : ∀ (w : W) (n : Nat), pln w = true → dep w ≤ n → drf h n w = some w
 | .non, n + 1, _, _ => rfl
 | .bl _, n + 1, _, _ => rfl
 | .int _, n + 1, _, _ => rfl
 | .str _, n + 1, _, _ => rfl
 | .tup ws, n + 1, p, d => by
  unfold pln at p
  unfold dep at d
  show (Jp (drf h n) ws).map W.tup = _
  rw [V8 h ws n p (by omega)]; rfl
 | .lst ws, n + 1, p, d => by
  unfold pln at p
  unfold dep at d
  show (Jp (drf h n) ws).map W.lst = _
  rw [V8 h ws n p (by omega)]; rfl
 | .frz _, _, p, _ => by unfold pln at p; cases p
 | .ref _, _, p, _ => by unfold pln at p; cases p
 | .ty _, _, p, _ => by unfold pln at p; cases p
 | .non, 0, _, d => by unfold dep at d; omega
 | .bl _, 0, _, d => by unfold dep at d; omega
 | .int _, 0, _, d => by unfold dep at d; omega
 | .str _, 0, _, d => by unfold dep at d; omega
 | .tup _, 0, _, d => by unfold dep at d; omega
 | .lst _, 0, _, d => by unfold dep at d; omega
theorem V8 (h : MH) : ∀ (ws : List W) (n : Nat), X8 ws = true → YY ws ≤ n → Jp (drf h n) ws = some ws
 | [], _, _, _ => rfl
 | w :: ws, n, p, d => by
  unfold X8 at p
  unfold YY at d
  rw [Bool.and_eq_true] at p
  rw [Jp, V0 h w n p.1 (by omega), Option.bind_some, V8 h ws n p.2 (by omega)]; rfl
end
mutual
theorem U4 : ∀ (w : W), pln w = true → eqW w w = true
 | .non, _ => by unfold eqW; rfl
 | .bl _, _ => by unfold eqW; simp
 | .int _, _ => by unfold eqW; simp
 | .str _, _ => by unfold eqW; simp
 | .tup ws, p => by unfold pln at p; unfold eqW; exact Kw ws p
 | .lst ws, p => by unfold pln at p; unfold eqW; exact Kw ws p
 | .frz _, p => by unfold pln at p; cases p
 | .ref _, p => by unfold pln at p; cases p
 | .ty _, p => by unfold pln at p; cases p
theorem Kw : ∀ (ws : List W), X8 ws = true → XO ws ws = true
 | [], _ => by unfold XO; rfl
 | w :: ws, p => by
  unfold X8 at p
  rw [Bool.and_eq_true] at p
  unfold XO
  rw [U4 w p.1, Kw ws p.2]; rfl
end
theorem QjB {a b : W} {h : MH} (pa : pln a = true) (pb : pln b = true) (da : dep a ≤ 40) (db : dep b ≤ 40) : wEq a b h = some (.bl (eqW a b), h) := by
 unfold wEq; rw [V0 h a 40 pa da, V0 h b 40 pb db]; rfl
theorem Qh9 {a b : W} {h : MH} (pa : pln a = true) (pb : pln b = true) (da : dep a ≤ 40) (db : dep b ≤ 40) : wNe a b h = some (.bl (!eqW a b), h) := by
 unfold wNe; rw [V0 h a 40 pa da, V0 h b 40 pb db]; rfl
@[simp] theorem Qhk {i j : Int} {h : MH} : wEq (.int i) (.int j) h = some (.bl (i == j), h) := QdO i j h
@[simp] theorem QhR {x y : Str} {h : MH} : wEq (.str x) (.str y) h = some (.bl (x == y), h) := Qef x y h
mutual
theorem KQ : ∀ (w : W), pln w = true → pur w = true
 | .non, _ => rfl
 | .bl _, _ => rfl
 | .int _, _ => rfl
 | .str _, _ => rfl
 | .tup ws, p => by unfold pln at p; unfold pur; exact Jk ws p
 | .lst ws, p => by unfold pln at p; unfold pur; exact Jk ws p
 | .frz _, p => by unfold pln at p; cases p
 | .ref _, p => by unfold pln at p; cases p
 | .ty _, p => by unfold pln at p; cases p
theorem Jk : ∀ (ws : List W), X8 ws = true → JU ws = true
 | [], _ => rfl
 | w :: ws, p => by
  unfold X8 at p
  rw [Bool.and_eq_true] at p
  unfold JU
  rw [KQ w p.1, Jk ws p.2]; rfl
end
mutual
theorem WJ (f : Nat → Option W) : ∀ (w : W), pur w = true → th f w = some w
 | .non, _ => rfl
 | .bl _, _ => rfl
 | .int _, _ => rfl
 | .str _, _ => rfl
 | .ty _, _ => rfl
 | .tup ws, p => by unfold pur at p; unfold th; rw [Xm f ws p]; rfl
 | .lst ws, p => by unfold pur at p; unfold th; rw [Xm f ws p]; rfl
 | .frz ws, p => by unfold pur at p; unfold th; rw [Xm f ws p]; rfl
 | .ref _, p => by unfold pur at p; cases p
theorem Xm (f : Nat → Option W) : ∀ (ws : List W), JU ws = true → ths f ws = some ws
 | [], _ => rfl
 | w :: ws, p => by
  unfold JU at p
  rw [Bool.and_eq_true] at p
  unfold ths
  rw [WJ f w p.1, Xm f ws p.2]; rfl
end
theorem Q6 {m : FM} {ws : List W} {w : W} {g h : MH} (hp : JU ws = true) (e : m ws [] = some (w, g)) (hw : pur w = true) : box frN m ws h = some (w, h) := by
 have hr : Km 0 ws = some (ws, []) := by
  generalize 0 = k
  clear e
  induction ws with
  | nil => rfl
  | cons a r ih =>
   unfold JU at hp
   rw [Bool.and_eq_true] at hp
   have := ih hp.2
   cases a <;> first | (unfold pur at hp; cases hp.1; done) | (unfold Km; rw [if_pos hp.1, this]; rfl)
 unfold box
 rw [hr, Option.bind_some]
 unfold QeX
 rw [if_pos List.nodup_nil]
 simp only [Jp, Option.bind_some, e, frN, List.length_nil, List.range_zero]
 rw [if_pos ⟨List.nodup_nil, by simp⟩, WJ _ w hw]
 simp [Za]
theorem Jc {m : FM} {ws : List W} {w : W} {o o' : MO} {n : Nat} {g h : MH} (hp : JU ws = true) (hn : h[n]? = some o) (ho : Qdp o = true) (e : m (.ref 0 :: ws) [o] = some (w, o' :: g)) (hw : pur w = true) (ho' : ∃ us, o' = .lst us ∧ JU us = true) : box frN m (.ref n :: ws) h = some (w, h.set n o') := by
 obtain ⟨us, rfl, hus⟩ := ho'
 have hr : ∀ k, Km k ws = some (ws, []) := by
  clear e
  induction ws with
  | nil => intro k; rfl
  | cons a r ih =>
   intro k
   unfold JU at hp
   rw [Bool.and_eq_true] at hp
   have := ih hp.2 k
   cases a <;> first | (unfold pur at hp; cases hp.1; done) | (unfold Km; rw [if_pos hp.1, this]; rfl)
 unfold box
 have hr' : Km 0 (.ref n :: ws) = some (.ref 0 :: ws, [n]) := by
  unfold Km
  rw [hr]; rfl
 rw [hr', Option.bind_some]
 unfold QeX
 rw [if_pos (by simp)]
 have hpk : Qaq h n = some o := by unfold Qaq; rw [hn]; simp [ho]
 simp only [Jp, hpk, Option.bind_some, Option.map_some, e, frN, List.length_singleton]
 rw [if_pos ⟨List.nodup_nil, by simp⟩, WJ _ w hw]
 simp [Za, List.range_succ, Jp, thO, Xm _ us hus]
theorem Kz {m : FM} {args as : List W} {ns : List Nat} {os os' : List MO} {g h : MH} {w w' : W} (hr : Km 0 args = some (as, ns)) (hd : ns.Nodup) (ho : Jp (Qaq h) ns = some os) (e : m as os = some (w, os' ++ g)) (hl : os'.length = ns.length)
  (hos : ∀ o ∈ os', ∃ us, o = .lst us ∧ JU us = true) (hw : th (res (Yk ns [] h.length) (os' ++ g) 3) w = some w') : box frN m args h = some (w', Za ns os' h) := by
 unfold box
 rw [hr, Option.bind_some]
 unfold QeX
 rw [if_pos hd, ho]
 simp only [Option.bind_some, e]
 rw [if_pos (show (frN w).Nodup ∧ ∀ j ∈ frN w, ns.length ≤ j from ⟨List.nodup_nil, fun j hj => by simp [frN] at hj⟩)]
 show (th (res (Yk ns [] h.length) (os' ++ g) 3) w).bind _ = _
 rw [hw, Option.bind_some]
 show (Jp (fun j => ((os' ++ g)[j]?).bind (thO (res (Yk ns [] h.length) (os' ++ g) 3))) (List.range ns.length)).bind (fun os => (Jp (fun j => ((os' ++ g)[j]?).bind (thO (res (Yk ns [] h.length) (os' ++ g) 3))) []).map fun us => (w', Za ns os h ++ us)) = _
 have : Jp (fun j => ((os' ++ g)[j]?).bind (thO (res (Yk ns [] h.length) (os' ++ g) 3))) (List.range ns.length) = some os' := by
  rw [← hl]
  have key : ∀ (k : Nat) (xs : List MO), (∀ i o, xs[i]? = some o → (os' ++ g)[k + i]? = some o) → (∀ o ∈ xs, ∃ us, o = .lst us ∧ JU us = true) → Jp (fun j => ((os' ++ g)[j]?).bind (thO (res (Yk ns [] h.length) (os' ++ g) 3))) (List.range' k xs.length) = some xs := by
   intro k xs
   induction xs generalizing k with
   | nil => intro _ _; rfl
   | cons x xs ih =>
    intro h1 h2
    obtain ⟨us, hu, hp⟩ := h2 x List.mem_cons_self
    rw [List.length_cons, List.range'_succ]
    unfold Jp
    have h0 := h1 0 x rfl
    rw [Nat.add_zero] at h0
    rw [h0, Option.bind_some, ih (k + 1) (fun i o hi => by have := h1 (i + 1) o (by simpa using hi); rw [show k + 1 + i = k + (i + 1) by omega]; exact this) fun o hx => h2 o (List.mem_cons_of_mem _ hx), hu]
    show ((ths _ us).map MO.lst).bind _ = _
    rw [Xm _ us hp]; rfl
  rw [List.range_eq_range']
  exact key 0 os' (fun i o hi => by rw [Nat.zero_add, List.getElem?_append_left (List.getElem?_eq_some_iff.mp hi).1]; exact hi) hos
 rw [this]
 simp [Jp]
@[simp] theorem Qeo {os : List MO} {h : MH} : Za [] os h = h := by unfold Za; rfl
@[simp] theorem Qc0 {n : Nat} {ns : List Nat} {o : MO} {os : List MO} {h : MH} : Za (n :: ns) (o :: os) h = Za ns os (h.set n o) := by rw [Za]
theorem YE {h : MH} {n : Nat} {us : List W} (e : h[n]? = some (.lst us)) (hp : JU us = true) : Qaq h n = some (.lst us) := by unfold Qaq; rw [e]; simp [Qdp, hp]
theorem VA {fin : List W → MH → Option (W × MH)} {mi : MI} {cp : List (Option Nat)} {me : ME} {σ caps : MSt} {h : MH} {items : List W} (f : W → W) (hi : mi σ h = some (items, none, h)) (hc : ∃ o, QaQ cp σ = o :: caps) (he : ∀ w ∈ items, me (some w :: caps) h = some (f w, h)) (hl : items.length ≤ sizeLine) :
  Jd fin mi cp (J2 0) Ku me σ h = fin (items.map f) h := by
 obtain ⟨o, hc⟩ := hc
 unfold Jd
 rw [hi, Option.bind_some]
 simp only [hc]
 rw [V1 (p := fun _ => true) (f := f) items [] o (fun _ _ => rfl) (fun w hw _ => he w hw) (by simpa using hl), List.filter_eq_self.mpr (fun _ _ => rfl)]
 rfl
theorem QbE {fin : List W → MH → Option (W × MH)} {mi : MI} {cp : List (Option Nat)} {mt : MT} {me : ME} {σ caps : MSt} {h : MH} {items : List W} (f : W → W) (p : W → Bool) (hi : mi σ h = some (items, none, h)) (hc : ∃ o, QaQ cp σ = o :: caps) (ht : ∀ w ∈ items, mt (some w :: caps) h = some (p w, h)) (he : ∀ w ∈ items, p w = true → me (some w :: caps) h = some (f w, h)) (hl : items.length ≤ sizeLine) :
  Jd fin mi cp (J2 0) mt me σ h = fin ((items.filter p).map f) h := by
 obtain ⟨o, hc⟩ := hc
 unfold Jd
 rw [hi, Option.bind_some]
 simp only [hc]
 rw [V1 (p := p) (f := f) items [] o ht he (by simpa using hl)]
 simp
theorem UC {α : Type} {items : List W} {b : MG} {me : ME} {fin : List W → MH → Option (W × MH)} (P : List α → MSt → MH → Prop) (enc : α → W) : ∀ (rest : List W) (acc : List α) (τ : MSt) (h : MH), P acc τ h → acc.length + rest.length ≤ sizeLine →
  (∀ w ∈ rest, ∀ acc τ h, P acc τ h → ∃ τ1 x h1, b w τ h = some τ1 ∧ me τ1 h = some (enc x, h1) ∧ P (acc ++ [x]) τ1 h1) →
  ∃ acc' τ' h', ZU fin items none b Ku me rest (acc.map enc) τ h = fin (acc'.map enc) h' ∧ P acc' τ' h' ∧ acc'.length = acc.length + rest.length
 | [], acc, τ, h, hp, _, _ => ⟨acc, τ, h, by unfold ZU; rw [if_pos (Q4 _ _)], hp, by simp⟩
 | w :: rest, acc, τ, h, hp, hl, hs => by
  have hl' : acc.length + (rest.length + 1) ≤ sizeLine := by simpa using hl
  obtain ⟨τ1, x, h1, e1, e2, p1⟩ := hs w List.mem_cons_self acc τ h hp
  obtain ⟨acc', τ', h', e3, p3, l3⟩ := UC (items := items) (b := b) (me := me) (fin := fin) P enc rest (acc ++ [x]) τ1 h1 p1 (by simp; omega) fun y hy => hs y (List.mem_cons_of_mem _ hy)
  refine ⟨acc', τ', h', ?_, p3, by rw [l3]; simp; omega⟩
  unfold ZU
  rw [if_pos (Q4 _ _), e1, Option.bind_some]
  show (some (true, h)).bind _ = _
  rw [Option.bind_some]
  simp only [e2, Option.bind_some]
  rw [if_pos (by rw [List.length_map]; omega)]
  rw [List.map_append, List.map_cons, List.map_nil] at e3
  exact e3
theorem Vi {items : List W} {b : MG} {body : SM} (P : Nat → MSt → MH → Prop) : ∀ (r : List W) (n : Nat) (σ : MSt) (h : MH), P n σ h →
  (∀ (j : Nat) (w : W), r[j]? = some w → ∀ σ h, P (n + j) σ h → ∃ σ1, b w σ h = some σ1 ∧ ∃ σ2 h2, (body σ1 h = some (.nx σ2 h2) ∨ body σ1 h = some (.ct σ2 h2)) ∧ P (n + j + 1) σ2 h2) →
  ∃ σ' h', Vk items none b body r σ h = some (.nx σ' h') ∧ P (n + r.length) σ' h'
 | [], n, σ, h, hp, _ => ⟨σ, h, U3, hp⟩
 | w :: r, n, σ, h, hp, hs => by
  obtain ⟨σ1, e1, σ2, h2, e2, p2⟩ := hs 0 w rfl σ h hp
  obtain ⟨σ', h', e3, p3⟩ := Vi (items := items) (b := b) (body := body) P r (n + 1) σ2 h2 p2 fun j x hx σ h hp => by
   have := hs (j + 1) x (by simpa using hx) σ h (by rw [show n + (j + 1) = n + 1 + j by omega]; exact hp)
   rw [show n + (j + 1) + 1 = n + 1 + j + 1 by omega] at this
   exact this
  refine ⟨σ', h', ?_, by rw [List.length_cons, show n + (r.length + 1) = n + 1 + r.length by omega]; exact p3⟩
  rw [Vk, if_pos (Q4 _ _), e1, Option.bind_some]
  rcases e2 with e2 | e2 <;> rw [e2] <;> exact e3
theorem Kv {t : MT} {body : SM} (P : Nat → MSt → MH → Prop) : ∀ (n f : Nat) (σ : MSt) (h : MH), n < f → P n σ h →
  (∀ n σ h, P n σ h → (t σ h = some (false, h) ∧ n = 0) ∨ (t σ h = some (true, h) ∧ ∃ m σ2 h2, m < n ∧ (body σ h = some (.nx σ2 h2) ∨ body σ h = some (.ct σ2 h2)) ∧ P m σ2 h2)) →
  ∃ σ' h', QX t body f σ h = some (.nx σ' h') ∧ P 0 σ' h'
 | n, 0, _, _, hf, _, _ => by omega
 | n, f + 1, σ, h, hf, hp, hs => by
  rcases hs n σ h hp with ⟨e, hn⟩ | ⟨e, m, σ2, h2, hm, e2, p2⟩
  ·subst hn
   exact ⟨σ, h, by rw [QX, e]; rfl, hp⟩
  ·obtain ⟨σ', h', e3, p3⟩ := Kv P m f σ2 h2 (by omega) p2 hs
   refine ⟨σ', h', ?_, p3⟩
   rw [QX, e]
   rcases e2 with e2 | e2 <;> simp only [Option.bind_some, e2] <;> exact e3
noncomputable def eqS (y : Str) (p : W × MH) : Option (Bool × MH) := @ob _ _ asB (wEq p.1 (.str y) p.2)
noncomputable def eqN (j : Int) (p : W × MH) : Option (Bool × MH) := @ob _ _ asB (wEq p.1 (.int j) p.2)
@[simp 650] theorem QiS {ma : ME} {σ : MSt} {h : MH} {y : Str} : Qy (Ql wEq ma (mC (.str y))) σ h = @ob _ _ (eqS y) (ma σ h) := by
 unfold Qy Ql mC eqS ob
 cases ma σ h <;> rfl
@[simp 650] theorem Qid {ma : ME} {σ : MSt} {h : MH} {j : Int} : Qy (Ql wEq ma (mC (.int j))) σ h = @ob _ _ (eqN j) (ma σ h) := by
 unfold Qy Ql mC eqN ob
 cases ma σ h <;> rfl
@[simp] theorem QhF {x y : Str} {h : MH} : eqS y (.str x, h) = some (x == y, h) := by unfold eqS; rw [QhR]; rfl
@[simp] theorem Qhw {i j : Int} {h : MH} : eqN j (.int i, h) = some (i == j, h) := by unfold eqN; rw [Qhk]; rfl
end Mi

namespace Mi
open PySem PySem.Spec PyProof.Rows L2
noncomputable def UI (ws : List W) (h : MH) : Option (W × MH) := match ws with
 | [.tup ws] => some (.ref h.length, h ++ [.lst ws])
 | [a] => (lsW h a).map fun ws => (.ref h.length, h ++ [.lst ws])
 | _ => none
section
variable {X : Cx}
theorem WX : CallR X (.type "list") (Fs X.K UI) := by
 intro pins s σ H xs us Q I r q
 refine XQ pins s σ H xs us Q I r ?_
 obtain ⟨R, h, ws, w, h', rh, rw, e, k⟩ := q
 unfold UI at e
 split at e
 ·cases e
  obtain ⟨v, rfl, r1⟩ := UA rw
  obtain ⟨ad, xs, rfl, q1, r2⟩ := rh.tupAt r1
  refine ⟨ad, xs, rfl, .inr q1, fun p hp => ?_⟩
  obtain ⟨R3, x3, rh3, rw3⟩ := rh.new (mo := .lst _) (o := .lst xs) hp fun R' x' => ⟨xs, rfl, Rws.mono x' _ _ r2⟩
  exact k R3 _ _ x3 rh3 rw3
 ·obtain ⟨ys, e1, e2⟩ := Option.map_eq_some_iff.mp e
  cases e2
  obtain ⟨v, rfl, r1⟩ := UA rw
  obtain ⟨ad, xs, rfl, q1, r2⟩ := rh.lsAt r1 e1
  refine ⟨ad, xs, rfl, .inl q1, fun p hp => ?_⟩
  obtain ⟨R3, x3, rh3, rw3⟩ := rh.new (mo := .lst _) (o := .lst xs) hp fun R' x' => ⟨xs, rfl, Rws.mono x' _ _ r2⟩
  exact k R3 _ _ x3 rh3 rw3
 ·cases e
end
end Mi
namespace Mi
open PySem PySem.Spec PyProof.Rows L2
end Mi
namespace Mi
open PySem PySem.Spec PyProof.Rows L2
section
open PySem.AutoSeq1
end
section
variable {X : Cx}
end
end Mi

namespace L2
open PySem PySem.Spec PyProof.Rows
noncomputable def RawD (h : Heap) (d : Addr) (es : Array DictEntry) (ep : Nat) : Prop := ∃ o, h.get? d = some o ∧ o.ExactDict ∧ o.data = .dict es ep
theorem RawD.typeIs {s : Shared} {d : Addr} {es : Array DictEntry} {ep : Nat} (m : RawD s.heap d es ep) : s.TypeIs (.ref d) "dict" := let ⟨o, ho, hc, _⟩ := m; ⟨o, ho, hc.1⟩
theorem RawD.lt {h : Heap} {d : Addr} {es : Array DictEntry} {ep : Nat} (m : RawD h d es ep) : d < h.objs.size := let ⟨_, ho, _⟩ := m; Heap.lt_size ho
theorem RawD.at {h h' : Heap} {d : Addr} {es : Array DictEntry} {ep : Nat} (m : RawD h d es ep) (k : ∀ o, h.get? d = some o → h'.get? d = some o) : RawD h' d es ep := let ⟨o, ho, r⟩ := m; ⟨o, k o ho, r⟩
section
variable {prog : Program} {w : World} {A : Around} {E : Value → Shared → Prop} {s : Shared} {it d : Addr} {es : Array DictEntry} {i ep : Nat}
theorem QcH {Q : Value → Shared → Prop} (hd : (d == sysModules) = false) (m : RawD s.heap d es ep)
  (q : Q (.ref s.heap.objs.size) { s with heap := s.heap.push { cls := .type "dict_keyiterator", data := .fields #[.ref d, .int 0 0, .int es.size 0, .int ep 0] } }) : wpAny (model prog w) A (pyIter (.ref d)) Q E s := by
 have hT := m.typeIs
 obtain ⟨o, ho, hc, hx⟩ := m
 refine wpAny_pyIter_slot hT PySem.F.slot_dict_iter (wpAny_call_entry PySem.F.slot_dict_iter hT PySem.F.entry_dict_iter ?_ (PySem.F.args_dict_iter_1 _))
 unfold Builtin.«dict.__iter__» Builtin.Dict.dictSlotNone
 refine wpAny_bind (wpAny_bind (wpAny_notOrdered_dict hT ?_))
 refine (show wpAny _ _ (pure (Value.ref d)) _ _ s from wpAny_pure ?_)
 refine (show wpAny _ _ (Builtin.Dict.showsAll d >>= _) _ _ s from ?_)
 unfold Builtin.Dict.showsAll
 rw [if_neg (by rw [hd]; exact Bool.false_ne_true)]
 refine wpAny_bind (wpAny_pure (wpAny_bind (wpAny_dictEntries ho hx (wpAny_bind (wpAny_dictEpoch ho hx ?_)))))
 refine wpAny_bind (wpAny_newObj_type (wpAny_pure ⟨_, rfl, "dict_keyiterator", _, ⟨_, Heap.get?_push_size _ rfl, rfl⟩, PySem.F.slot_dict_keyiterator_next.lookup, ?_⟩))
 simpa [rawInt] using q
theorem Qb2 {Q : Option Value → Shared → Prop} (hit : s.heap.IsKeyIter it d i es.size ep) (m : RawD s.heap d es ep) (hlt : i < es.size)
  (hQ : ∀ h', h'.IsKeyIter it d (i + 1) es.size ep → Heap.SameBut it s.heap h' → Q (some es[i].key) { s with heap := h' }) : wpAny (model prog w) A (pyNext (.ref it)) Q E s := by
 obtain ⟨o, ho, hc, hd⟩ := id hit
 obtain ⟨od, hod, hcd, hdd⟩ := id m
 unfold pyNext
 refine wpAny_bind (wpAny_attempt (wpAny_callSpecial?_slot (name := Str.ofString "__next__") hit.typeIs PySem.F.slot_dict_keyiterator_next (wpAny_call_entry PySem.F.slot_dict_keyiterator_next hit.typeIs PySem.F.entry_dict_keyiterator_next ?_ (PySem.F.args_dict_keyiterator_next_1 _))))
 refine wpAny_bind (wpAny_pure (wpAny_bind (wpAny_bind ?_)))
 first | refine wpAny_bind (wpAny_typeNameOfWhole_keyiter hit.typeIs (wpAny_pure (wpAny_bind (wpAny_fieldsOf ho hd ?_)))) | refine wpAny_bind (wpAny_typeNameOf_keyiter hit.typeIs (wpAny_pure (wpAny_bind (wpAny_fieldsOf ho hd ?_))))
 simp only [show Builtin.Dict_items.ownsTuple "dict_keyiterator" = false by decide, Bool.false_eq_true, if_false]
 refine (show wpAny _ _ (if (Value.ref d == Value.none) = true then _ else _) _ _ s from ?_)
 rw [if_neg (show ¬ ((Value.ref d == Value.none) = true) from Bool.false_ne_true)]
 refine wpAny_bind (wpAny_pure (wpAny_bind (wpAny_dictEntries hod hdd ?_)))
 rw [if_neg (by simp)]
 refine wpAny_bind (wpAny_pure (wpAny_bind (wpAny_dictEpoch hod hdd ?_)))
 rw [if_neg (by simp)]
 refine wpAny_pure ?_
 simp only [show ¬ ((i : Int) < 0) from by omega, if_false, Int.toNat_natCast, Array.getElem?_eq_getElem hlt]
 refine wpAny_bind ?_
 first | refine wpAny_bind (wpAny_typeNameOfWhole_keyiter hit.typeIs (wpAny_pure (wpAny_bind (wpAny_isOneOf_keyiter hit.typeIs ?_)))) | refine wpAny_bind (wpAny_typeNameOf_keyiter hit.typeIs (wpAny_pure (wpAny_bind (wpAny_isOneOf_keyiter hit.typeIs ?_))))
 refine (show wpAny _ _ (setField (.ref it) 1 (rawInt ((i : Int) + 1)) >>= _) _ _ s from wpAny_bind (wpAny_setField ho hd (by simp) ?_))
 have hit' : (s.heap.update it (Obj.mapFields (·.setIfInBounds 1 (rawInt ((i : Int) + 1))))).IsKeyIter it d (i + 1) es.size ep :=
  ⟨_, Heap.get?_update_self _ ho (Obj.isFreed_of_fields (Obj.data_mapFields hd _)), (Obj.cls_mapFields ..).trans hc, by rw [Obj.data_mapFields hd]; simp [rawInt]⟩
 refine wpAny_bind (wpAny_holding (wpAny_bind (wpAny_isOneOf_keyiter (s := { s with heap := s.heap.update it (Obj.mapFields (·.setIfInBounds 1 (rawInt ((i : Int) + 1)))) }) hit'.typeIs ?_)))
 refine (show wpAny _ _ (pure es[i].key) _ _ _ from ?_)
 exact wpAny_pure (wpAny_pure ⟨_, rfl, wpAny_pure (hQ _ hit' (Heap.SameBut.update ..))⟩)
theorem Qec {Q : Option Value → Shared → Prop} (hh : A.handled = none) (hit : s.heap.IsKeyIter it d es.size es.size ep) (m : RawD s.heap d es ep)
  (hQ : ∀ h', Heap.ExtBut it s.heap h' → Q none { s with heap := h' }) : wpAny (model prog w) A (pyNext (.ref it)) Q E s := by
 obtain ⟨o, ho, hc, hd⟩ := id hit
 obtain ⟨od, hod, hcd, hdd⟩ := id m
 unfold pyNext
 refine wpAny_bind (wpAny_attempt (wpAny_callSpecial?_slot (name := Str.ofString "__next__") hit.typeIs PySem.F.slot_dict_keyiterator_next (wpAny_call_entry PySem.F.slot_dict_keyiterator_next hit.typeIs PySem.F.entry_dict_keyiterator_next ?_ (PySem.F.args_dict_keyiterator_next_1 _))))
 refine wpAny_bind (wpAny_pure (wpAny_bind (wpAny_bind ?_)))
 first | refine wpAny_bind (wpAny_typeNameOfWhole_keyiter hit.typeIs (wpAny_pure (wpAny_bind (wpAny_fieldsOf ho hd ?_)))) | refine wpAny_bind (wpAny_typeNameOf_keyiter hit.typeIs (wpAny_pure (wpAny_bind (wpAny_fieldsOf ho hd ?_))))
 simp only [show Builtin.Dict_items.ownsTuple "dict_keyiterator" = false by decide, Bool.false_eq_true, if_false]
 refine (show wpAny _ _ (if (Value.ref d == Value.none) = true then _ else _) _ _ s from ?_)
 rw [if_neg (show ¬ ((Value.ref d == Value.none) = true) from Bool.false_ne_true)]
 refine wpAny_bind (wpAny_pure (wpAny_bind (wpAny_dictEntries hod hdd ?_)))
 rw [if_neg (by simp)]
 refine wpAny_bind (wpAny_pure (wpAny_bind (wpAny_dictEpoch hod hdd ?_)))
 rw [if_neg (by simp)]
 refine wpAny_pure ?_
 simp only [show ¬ ((es.size : Int) < 0) from by omega, if_false, Int.toNat_natCast, Array.getElem?_eq_none (Nat.le_refl es.size)]
 refine wpAny_bind ?_
 first | refine wpAny_bind (wpAny_typeNameOfWhole_keyiter hit.typeIs (wpAny_pure ?_)) | refine wpAny_bind (wpAny_typeNameOf_keyiter hit.typeIs (wpAny_pure ?_))
 refine (show wpAny _ _ (setField (.ref it) 0 .none >>= _) _ _ s from wpAny_bind (wpAny_setField ho hd (by simp) ?_))
 refine (show wpAny _ _ (newExc (.type "StopIteration") [] >>= _) _ _ _ from wpAny_bind ?_)
 simp only [newExc, newTuple]
 refine wpAny_bind (wpAny_newObj_type ?_ (by size_fits))
 refine wpAny_bind (m := firstArgMember _ _) (wpAny_of_eq (a := Value.none) (by first | rfl | (simp only [firstArgMember]; rfl)) ?_)
 refine wpAny_newObj_type ?_ (by size_fits)
 simp only [raiseNew]
 refine wpAny_bind (wpAny_handled ?_)
 rw [show A.in1.handled = none from hh]
 refine wpAny_bind (wpAny_pure (wpAny_throw ?_))
 refine wpAny_bind (wpAny_isInstance (b := true) (T := "StopIteration") ⟨_, Heap.get?_push_size _ rfl, rfl⟩ isSubtype_stop ?_)
 exact wpAny_pure (hQ _ (((Heap.SameBut.update ..).extBut.push _).push _))
theorem QaH (hh : A.handled = none) (I d : Addr) (hne : d ≠ I) (es : Array DictEntry) (ep : Nat) :
  Walks prog w A I [I, d] [I] es.size (fun i v => ∃ e, es[i]? = some e ∧ v = e.key) (fun i h => h.IsKeyIter I d i es.size ep ∧ RawD h d es ep) where
 sub := fun b hb => by simp at hb; simp [hb]
 frame := fun _ _ _ st hk => ⟨st.1.at fun o e => hk I (by simp) o e, st.2.at fun o e => hk d (by simp) o e⟩
 item := fun i s Q E hi st hQ => Qb2 st.1 st.2 hi fun h' hit' hs' =>
  hQ _ h' s.toks ⟨es[i], Array.getElem?_eq_getElem hi, rfl⟩ ⟨hit', st.2.at fun o e => (hs'.2 d hne).trans e⟩ fun b o hb e => hs'.extBut b o (fun h => hb (by simp [h])) e
 done := fun s Q E st hQ => Qec hh st.1 st.2 fun h' he' => hQ h' s.toks fun b o hb e => he' b o (fun h => hb (by simp [h])) e
 self := fun _ _ _ _ st hQ => wpAny_pyIter_keyiter st.1 hQ
theorem Qeh (lo : (d == sysModules) = false) : PySem.W.KdlSrc prog w "dict" d d es.size (fun i v => ∃ e, es[i]? = some e ∧ v = e.key) (fun h => RawD h d es ep) where
 type := fun _ m => m.typeIs
 there := fun _ m => ⟨m.lt, m.lt⟩
 keep := fun _ _ m k => m.at fun o e => k d (.inl rfl) o e
 notList := by decide
 notTuple := by decide
 hint := fun _ _ _ _ m q => PySem.W.kdl_hint_dict m.typeIs q
 iter := fun _ _ hh m => ⟨_, _, (fun _ _ q => QcH lo m q), QaH hh _ d (Nat.ne_of_lt m.lt) es ep, ⟨⟨_, Heap.get?_push_size _ rfl, rfl, rfl⟩, m.at fun o e => Heap.get?_push_of_some _ e⟩⟩
end
end L2

namespace Mi
open PySem PySem.Spec PyProof.Rows L2
noncomputable def TrH (K : PySem.W.Frag) (H : Hp) : Nat → Tr → V → Prop
 | 0, _, _ => False
 | _ + 1, .i k, v => v = .int k ∨ ∃ b : Bool, v = .bl b ∧ k = if b then 1 else 0
 | _ + 1, .s x, v => v = .str x
 | n + 1, .t ks, v => ∃ a xs, v = .ref a ∧ SqT K H a xs ∧ Paired (TrH K H n) ks xs
theorem G3 {α β γ : Type} {F : α → β → Prop} {G : β → γ → Prop} {M : α → γ → Prop} (f : ∀ a b c, F a b → G b c → M a c) : ∀ {l₁ : List α} {l₂ : List β} {l₃ : List γ}, Paired F l₁ l₂ → Paired G l₂ l₃ → Paired M l₁ l₃
 | _, _, _, .nil, .nil => .nil
 | _, _, _, .cons a s, .cons b t => .cons (f _ _ _ a b) (G3 f s t)
section
variable {X : Cx} {pins : List (Addr × Obj)} {σ : L2.St} {H : Hp} {s : Shared}
theorem QdB (I : Inv X pins σ H s) : ∀ {n : Nat} (k : Tr) (v : V) (u : Value), TrH X.K H n k v → RelV v u → IsT s.heap n k u
 | 0, _, _, _, x, _ => x.elim
 | n + 1, .i k, v, u, x, r => by
  rcases x with rfl | ⟨b, rfl, hk⟩
  ·exact .inl r
  ·exact .inr ⟨b, r, hk⟩
 | n + 1, .s y, v, u, x, r => by
  cases (show v = .str y from x)
  exact r
 | n + 1, .t ks, v, u, x, r => by
  obtain ⟨a, xs, rfl, q, p⟩ := x
  obtain ⟨its, r', pl, _⟩ := I.tuple q
  cases (show u = Value.ref a from r)
  exact ⟨a, its.toArray, rfl, pl, by simpa using G3 (fun k v u h1 h2 => QdB I k v u h1 h2) p r'⟩
end
section
variable {K : PySem.W.Frag} {R : Rn} {h : MH} {H : Hp}
theorem Qf5 (rh : Rh K R h H) : ∀ (n : Nat) (w : W) (v : V) (k : Tr), Rw K R w v → YV n w = some k → TrH K H n k v
 | 0, _, _, _, _, e => by simp [YV] at e
 | n + 1, w, v, k, r, e => by
  cases w with
  | int i => simp only [YV] at e; cases e; exact .inl r.int_eq
  | bl b => simp only [YV] at e; cases e; exact .inr ⟨b, r.bl_eq, rfl⟩
  | str x => simp only [YV] at e; cases e; exact r.str_eq
  | tup ws =>
   simp only [YV] at e
   obtain ⟨ks, e1, e2⟩ := Option.map_eq_some_iff.mp e
   subst e2
   obtain ⟨a, xs, rfl, q, r1⟩ := rh.tupAt r
   refine ⟨a, xs, rfl, q, ?_⟩
   clear e r q
   induction ws generalizing ks xs with
   | nil =>
    rw [Rws.nil_iff] at r1; subst r1
    rw [List.mapM_nil] at e1
    cases (show some [] = some ks from e1)
    exact .nil
   | cons x ws ih =>
    rw [List.mapM_cons] at e1
    obtain ⟨k1, h1, e2⟩ := Option.bind_eq_some_iff.mp e1
    obtain ⟨ks1, h2, e3⟩ := Option.bind_eq_some_iff.mp e2
    cases (show some (k1 :: ks1) = some ks from e3)
    rw [Rws.cons_iff] at r1
    obtain ⟨y, ys, rfl, p1, p2⟩ := r1
    exact .cons (Qf5 rh n x y k1 p1 h1) (ih ks1 h2 ys p2)
  | _ => simp [YV] at e
theorem Qaa (rh : Rh K R h H) {w : W} {v : V} {k : Tr} (r : Rw K R w v) (e : nrm w = some k) : TrH K H 8 k v := by
 cases w with
 | tup ws => exact Qf5 rh 8 _ v k r e
 | _ => cases e
theorem QeH (rh : Rh K R h H) {w : W} {v : V} {k : Tr} (r : Rw K R w v) (e : nrm w = some k) : ∃ a, v = .ref a := by
 cases w with
 | tup ws => obtain ⟨a, xs, rfl, _⟩ := rh.tupAt r; exact ⟨a, rfl⟩
 | _ => cases e
end
noncomputable def Y8 (kvs : List (W × W)) (k : Tr) : Option W := (kvs.find? fun p => decide (nrm p.1 = some k)).map (·.2)
noncomputable def QeW (kvs : List (W × W)) (k : Tr) (kw v : W) : List (W × W) := if (Y8 kvs k).isSome = true then kvs.map (fun p => if nrm p.1 = some k then (p.1, v) else p) else kvs ++ [(kw, v)]
noncomputable def W5 (kx : List (Tr × Addr × V)) (k : Tr) : Option V := (kx.find? fun p => decide (p.1 = k)).map (·.2.2)
noncomputable def Qcg (kx : List (Tr × Addr × V)) (k : Tr) (b : Addr) (v : V) : List (Tr × Addr × V) := if (W5 kx k).isSome = true then kx.map (fun p => if p.1 = k then (p.1, p.2.1, v) else p) else kx ++ [(k, b, v)]
noncomputable abbrev DctR (K : PySem.W.Frag) (R : Rn) : List (W × W) → List (Tr × Addr × V) → Prop := Paired fun p q => Rw K R p.1 (.ref q.2.1) ∧ nrm p.1 = some q.1 ∧ Rw K R p.2 q.2.2
noncomputable abbrev Qd3 : List (Tr × Addr × V) → List (Tr × Addr × Value) → Prop := Paired fun p q => p.1 = q.1 ∧ p.2.1 = q.2.1 ∧ RelV p.2.2 q.2.2
section
variable {K : PySem.W.Frag} {R : Rn}
theorem Qa7 {k : Tr} : ∀ {kvs : List (W × W)} {kx : List (Tr × Addr × V)}, DctR K R kvs kx → (Y8 kvs k = none ∧ W5 kx k = none) ∨ ∃ w v, Y8 kvs k = some w ∧ W5 kx k = some v ∧ Rw K R w v
 | _, _, .nil => .inl ⟨rfl, rfl⟩
 | p :: ps, q :: qs, .cons h t => by
  by_cases e : q.1 = k
  ·have e' : nrm p.1 = some k := by rw [h.2.1, e]
   exact .inr ⟨p.2, q.2.2, by simp [Y8, List.find?_cons, e'], by simp [W5, List.find?_cons, e], h.2.2⟩
  ·have e' : ¬ nrm p.1 = some k := by rw [h.2.1]; exact fun z => e (Option.some.inj z)
   have h1 : Y8 (p :: ps) k = Y8 ps k := by simp only [Y8, List.find?_cons, e', decide_false]
   have h2 : W5 (q :: qs) k = W5 qs k := by simp only [W5, List.find?_cons, e, decide_false]
   rcases Qa7 (k := k) t with z | ⟨w, v, z1, z2, z3⟩
   ·exact .inl ⟨h1.trans z.1, h2.trans z.2⟩
   ·exact .inr ⟨w, v, h1.trans z1, h2.trans z2, z3⟩
theorem UH {k : Tr} {kvs : List (W × W)} {kx : List (Tr × Addr × V)} (d : DctR K R kvs kx) : (Y8 kvs k).isSome = (W5 kx k).isSome := by
 rcases Qa7 (k := k) d with z | ⟨w, v, z1, z2, _⟩
 ·rw [z.1, z.2]; rfl
 ·rw [z1, z2]; rfl
theorem QaM {k : Tr} {kw w : W} {b : Addr} {v : V} {kvs : List (W × W)} {kx : List (Tr × Addr × V)} (d : DctR K R kvs kx) (rk : Rw K R kw (.ref b)) (hk : nrm kw = some k) (r : Rw K R w v) : DctR K R (QeW kvs k kw w) (Qcg kx k b v) := by
 unfold QeW Qcg
 rw [UH d]
 split
 ·rename_i hz
  clear hz rk hk
  induction d with
  | nil => exact .nil
  | @cons p q ps qs h t ih =>
   rw [List.map_cons, List.map_cons]
   refine .cons ?_ ih
   by_cases e : q.1 = k
   ·rw [if_pos e, if_pos (by rw [h.2.1, e])]; exact ⟨h.1, h.2.1, r⟩
   ·rw [if_neg e, if_neg (by rw [h.2.1]; exact fun z => e (Option.some.inj z))]; exact h
 ·exact Paired.snoc d ⟨rk, hk, r⟩
theorem QaX {k : Tr} : ∀ {kx : List (Tr × Addr × V)} {xs : List (Tr × Addr × Value)}, Qd3 kx xs → RelO (W5 kx k) ((atKey xs k).map (·.2))
 | _, _, .nil => True.intro
 | p :: ps, q :: qs, .cons h t => by
  have ih := QaX (k := k) t
  by_cases e : p.1 = k
  ·have e' : q.1 = k := h.1.symm.trans e
   have a1 : W5 (p :: ps) k = some p.2.2 := by simp [W5, List.find?_cons, e]
   have a2 : atKey (q :: qs) k = some q.2 := by simp [atKey, List.find?_cons, e']
   rw [a1, a2]; exact h.2.2
  ·have e' : ¬ q.1 = k := fun z => e (h.1.trans z)
   have a1 : W5 (p :: ps) k = W5 ps k := by simp only [W5, List.find?_cons, e, decide_false]
   have a2 : atKey (q :: qs) k = atKey qs k := by simp [atKey, List.find?_cons, e']
   rw [a1, a2]; exact ih
theorem U5 {k : Tr} {kx : List (Tr × Addr × V)} {xs : List (Tr × Addr × Value)} (d : Qd3 kx xs) : (W5 kx k).isSome = (atKey xs k).isSome := by
 have := (QaX (k := k) d).isSome_eq
 rwa [Option.isSome_map] at this
theorem Qa9 {k : Tr} {b : Addr} {v : V} {u : Value} {kx : List (Tr × Addr × V)} {xs : List (Tr × Addr × Value)} (d : Qd3 kx xs) (r : RelV v u) : Qd3 (Qcg kx k b v) (storedH xs k b u) := by
 unfold Qcg storedH
 rw [U5 d]
 split
 ·rename_i hz
  clear hz
  induction d with
  | nil => exact .nil
  | @cons p q ps qs h t ih =>
   rw [List.map_cons, List.map_cons]
   refine .cons ?_ ih
   unfold PySem.putAt
   by_cases e : p.1 = k
   ·rw [if_pos e, if_pos (h.1.symm.trans e)]; exact ⟨h.1, h.2.1, r⟩
   ·rw [if_neg e, if_neg (fun z => e (h.1.trans z))]; exact h
 ·exact Paired.snoc d ⟨rfl, rfl, r⟩
theorem UF {kx : List (Tr × Addr × V)} {k : Tr} {b : Addr} {v : V} : (Qcg kx k b v).length ≤ kx.length + 1 := by
 unfold Qcg
 split
 ·rw [List.length_map]; omega
 ·rw [List.length_append]; simp
end
section
variable {X : Cx} {pins : List (Addr × Obj)} {σ : L2.St} {H : Hp} {s : Shared} {R : Rn} {h : MH}
theorem UU (I : Inv X pins σ H s) (rh : Rh X.K R h H) {n : Nat} {kvs : List (W × W)} (hn : h[n]? = some (.dct kvs)) :
  ∃ kx xs, H (R.ρ n) = some (.dT kx) ∧ DctR X.K R kvs kx ∧ kx.length ≤ sizeLine ∧ (R.ρ n == sysModules) = false ∧ Qd3 kx xs ∧ s.heap.DictOfH (V2 X.prog X.w) (R.ρ n) xs := by
 obtain ⟨kx, e1, e2⟩ := rh.obj n _ hn
 obtain ⟨z, y, xs, r, o, es, ep, h1, h2, h3, h4, h5⟩ := I.hok _ _ e1
 refine ⟨kx, xs, e1, e2, z, y, r, o, es, ep, h1, h2, h3, h4, ?_, h5⟩
 clear h4 h5 z e1 hn
 induction r generalizing kvs with
 | nil => intro x hx; exact nomatch hx
 | @cons p q ps qs hq t ih =>
  cases e2 with
  | cons d1 d2 =>
   intro x hx
   rcases List.mem_cons.mp hx with e | hx
   ·subst e
    have := QdB I _ _ _ (Qaa rh d1.1 d1.2.1) (show RelV (.ref p.2.1) (Value.ref p.2.1) from rfl)
    rw [hq.1, hq.2.1] at this
    exact this
   ·exact ih d2 x hx
theorem Qbe (I : Inv X pins σ H s) (rh : Rh X.K R h H) {w : W} {v : V} {u : Value} {k : Tr} (r : Rw X.K R w v) (ru : RelV v u) (e : nrm w = some k) : ∃ b, v = .ref b ∧ u = .ref b ∧ (V2 X.prog X.w).is s.heap k b := by
 obtain ⟨b, rfl⟩ := QeH rh r e
 cases (show u = Value.ref b from ru)
 exact ⟨b, rfl, rfl, QdB I _ _ _ (Qaa rh r e) (show RelV (.ref b) (Value.ref b) from rfl)⟩
theorem Wk {h' : Heap} {t' : Nat} {a : Addr} {kx kx' : List (Tr × Addr × V)} {xs' : List (Tr × Addr × Value)} (I : Inv X pins σ H s) (e : H a = some (.dT kx)) (z : kx'.length ≤ sizeLine) (lo : (a == sysModules) = false) (r : Qd3 kx' xs')
  (hs : Heap.SameBut a s.heap h') (dd : h'.DictOfH (V2 X.prog X.w) a xs') : Inv X pins σ (upd H a (.dT kx')) { s with heap := h', toks := t' } := by
 obtain ⟨o, es, ep, h1, h2, h3, h4, _, h5⟩ := dd
 exact QeM I (by rw [e]; exact True.intro) hs ⟨o, h1⟩ ⟨z, lo, xs', r, o, es, ep, h1, h2, h3, h4, h5⟩
end
noncomputable def Qb4 (h : MH) : W → Option (List (W × W))
 | .ref n => match h[n]? with | some (.dct kvs) => some kvs | _ => none
 | _ => none
theorem UL {h : MH} {a : W} {kvs : List (W × W)} (e : Qb4 h a = some kvs) : ∃ n, a = .ref n ∧ h[n]? = some (.dct kvs) := by
 cases a with
 | ref n =>
  simp only [Qb4] at e
  split at e
  ·rename_i us hn
   cases e
   exact ⟨n, rfl, hn⟩
  ·cases e
 | _ => cases e
noncomputable def QeE (neg : Bool) (b a : W) (h : MH) : Option (W × MH) := (Qb4 h a).bind fun kvs => (nrm b).map fun k => (.bl (if neg then !(Y8 kvs k).isSome else (Y8 kvs k).isSome), h)
noncomputable def KE (a b v : W) (h : MH) : Option MH := match a with
 | .ref n => match h[n]? with
  | some (.dct kvs) => (nrm b).bind fun k => if kvs.length < sizeLine then some (h.set n (.dct (QeW kvs k b v))) else none
  | _ => none
 | _ => none
noncomputable def Qay (mo mi mv : ME) : SM := fun σ h => (mv σ h).bind fun v => (mo σ v.2).bind fun o => (mi σ o.2).bind fun i => (KE o.1 i.1 v.1 i.2).map fun h' => .nx σ h'
noncomputable def QkI (a : W) (ws : List W) (h : MH) : Option (W × MH) := match ws with
 | [b, v] => (Qb4 h a).bind fun kvs => (nrm b).bind fun k => match Y8 kvs k with
  | some x => some (x, h)
  | none => (KE a b v h).map fun h' => (v, h')
 | _ => none
noncomputable def Y6 (ws : List W) (h : MH) : Option (W × MH) := match ws with
 | [a] => (Qb4 h a).map fun kvs => (.lst (kvs.map (·.1)), h)
 | _ => none
section
variable {X : Cx} {o i e a b : Expr} {mo mi mv ma mb : ME} {pos pos' : Pos}
theorem Qff (hu : X.A.units + 64 < cLine) : (V2 X.prog X.w).room X.A.in1 := by show X.A.units + 1 + 8 < cLine; omega
theorem Gy (hu : X.A.units + 64 < cLine) : OpR X (compareOp .NotIn) (F2 X.K (QeE true)) := by
 intro pins s σ H x y v u Q I rx ry ⟨R, h, a, b, w, h', rh, ra, rb, e, k⟩
 unfold QeE at e
 obtain ⟨kvs, e1, e2⟩ := Option.bind_eq_some_iff.mp e
 obtain ⟨kk, e3, e4⟩ := Option.map_eq_some_iff.mp e2
 cases e4
 obtain ⟨n, rfl, hn⟩ := UL e1
 obtain ⟨kx, xs, hx, dr, z, lo, rr, dd⟩ := UU I rh hn
 obtain ⟨c, rfl, rfl, hk⟩ := Qbe I rh ra rx e3
 unfold Rw at rb
 obtain ⟨_, rfl⟩ := rb
 obtain rfl : u = Value.ref (R.ρ n) := ry
 refine wpAny_notIn_heap (Qff hu) hk lo dd ?_
 rw [← U5 rr, ← UH dr]
 exact ⟨.bl _, H, I.tok _, rfl, k R H _ (Ext.refl _) rh (Rw.bl _)⟩
theorem Ux {h h' : MH} {a b v : W} (e : KE a b v h = some h') : ∃ n kvs k, a = .ref n ∧ h[n]? = some (.dct kvs) ∧ nrm b = some k ∧ kvs.length < sizeLine ∧ h' = h.set n (.dct (QeW kvs k b v)) := by
 unfold KE at e
 split at e
 ·rename_i n
  split at e
  ·rename_i kvs hn
   obtain ⟨k, e1, e2⟩ := Option.bind_eq_some_iff.mp e
   split at e2
   ·rename_i hl
    cases e2
    exact ⟨n, kvs, k, rfl, hn, e1, hl, rfl⟩
   ·cases e2
  ·cases e
 ·cases e
noncomputable def QhN (K : PySem.W.Frag) (mo mi mv : ME) : TS := fun D σ H => tI K mv σ H fun v H1 => tI K mo σ H1 fun x H2 => tI K mi σ H2 fun y H3 =>
 ∃ R h a b w h', Rh K R h H3 ∧ Rw K R a x ∧ Rw K R b y ∧ Rw K R w v ∧ KE a b w h = some h' ∧ ∀ R' H', Ext R R' → Rh K R' h' H' → D.nx σ H'
theorem Qkc {pins : List (Addr × Obj)} {σ : L2.St} {H : Hp} {s : Shared} {R : Rn} {h h' : MH} {a b w : W} {x y v : V} {ux uy uv : Value} {Q : Unit → Shared → Prop} (hu : X.A.units + 64 < cLine) (I : Inv X pins σ H s) (rh : Rh X.K R h H) (ra : Rw X.K R a x) (rb : Rw X.K R b y) (rw : Rw X.K R w v)
  (rx : RelV x ux) (ry : RelV y uy) (rv : RelV v uv) (e : KE a b w h = some h') (q : ∀ s' H', Inv X pins σ H' s' → Rh X.K R h' H' → Q () s') : wpAny (model X.prog X.w) X.A (setItem ux uy uv) Q X.xe s := by
 obtain ⟨n, kvs, k, rfl, hn, hk, hl, rfl⟩ := Ux e
 obtain ⟨kx, xs, hx, dr, z, lo, rr, dd⟩ := UU I rh hn
 obtain ⟨c, rfl, rfl, hkey⟩ := Qbe I rh rb ry hk
 unfold Rw at ra
 obtain ⟨hlt, rfl⟩ := ra
 obtain rfl : ux = Value.ref (R.ρ n) := rx
 have hlen := Paired.length dr
 have hlen2 := Paired.length rr
 refine wpAny_setItem_heap (hsz := by omega) (Qff hu) hkey dd fun h' dd' hs => ?_
 have hz : (Qcg kx k c v).length ≤ sizeLine := by have := UF (kx := kx) (k := k) (b := c) (v := v); omega
 exact q _ _ (Wk I hx hz lo (Qa9 rr rv) hs dd') (rh.put hlt ⟨_, rfl, QaM dr rb hk rw⟩)
theorem Qcu (hu : X.A.units + 64 < cLine) (ho : PM X o mo) (hi : PM X i mi) (he : PM X e mv) (hs : Wp e = false := by rfl) : PMS X (.Assign [.Subscript o i pos'] e pos) (Qay mo mi mv) := by
 refine VN (t := QhN X.K mo mi mv) (fun pins s σ H D I h => ?_) fun D σ H q => ?_
 ·refine wpAny_Assign_Subscript (thn (he pins s σ H _ I h) fun r s1 ⟨v, H1, I1, rv, q1⟩ => thn (ho pins s1 σ H1 _ I1 q1) fun u s2 ⟨x, H2, I2, rx, q2⟩ => thn (hi pins s2 σ H2 _ I2 q2) fun iv s3 ⟨y, H3, I3, ry, R, h, a, b, w, h', rh, ra, rb, rw, e, k⟩ => ?_) (show swapsWith e (some (.Subscript o i pos')) pos.line X.env = pure false from Kc hs)
  exact Qkc hu I3 rh ra rb rw rx ry rv e fun s4 H4 I4 rh4 => ⟨σ, H4, I4, k R H4 (Ext.refl _) rh4⟩
 ·obtain ⟨R, σi, h, r, rh, s, e, k⟩ := q
  obtain ⟨⟨v, h1⟩, e1, e2⟩ := Option.bind_eq_some_iff.mp e
  obtain ⟨⟨ob, h2⟩, e3, e4⟩ := Option.bind_eq_some_iff.mp e2
  obtain ⟨⟨ix, h3⟩, e5, e6⟩ := Option.bind_eq_some_iff.mp e4
  obtain ⟨h', e7, e8⟩ := Option.map_eq_some_iff.mp e6
  subst e8
  refine ⟨R, σi, h, v, h1, rh, s, e1, fun R1 H1 x x1 rh1 rx => ⟨R1, σi, h1, ob, h2, rh1, s.mono x1, e3, fun R2 H2 y x2 rh2 ry => ⟨R2, σi, h2, ix, h3, rh2, s.mono (x1.trans x2), e5, fun R3 H3 z x3 rh3 rz => ?_⟩⟩⟩
  exact ⟨R3, h3, ob, ix, v, h', rh3, Rw.mono x3 _ _ ry, rz, Rw.mono (x2.trans x3) _ _ rx, e7, fun R4 H4 x4 rh4 => k R4 H4 σ (x1.trans (x2.trans (x3.trans x4))) rh4 (s.mono (x1.trans (x2.trans (x3.trans x4))))⟩
end
section
variable {prog : Program} {w : World} {A : Around} {E : Value → Shared → Prop} {s : Shared} {d a : Addr} {k : Tr} {xs : List (Tr × Addr × Value)}
end
section
variable {X : Cx}
theorem UQ {K : PySem.W.Frag} {R : Rn} : ∀ {kvs : List (W × W)} {kx : List (Tr × Addr × V)}, DctR K R kvs kx → Rws K R (kvs.map (·.1)) (kx.map fun p => .ref p.2.1)
 | _, _, .nil => Rws.nil
 | _, _, .cons h t => Rws.cons h.1 (UQ t)
theorem UM : ∀ {kx : List (Tr × Addr × V)} {xs : List (Tr × Addr × Value)}, Qd3 kx xs → Vals (kx.map fun p => .ref p.2.1) (xs.map fun p => .ref p.2.1)
 | _, _, .nil => .nil
 | _, _, .cons h t => .cons (show _ = Value.ref _ from by rw [h.2.1]) (UM t)
theorem WW (hc : X.calm = true) : CallR X (.type "list") (Fs X.K Y6) := by
 intro pins s σ H xs us Q I r q
 obtain ⟨R, h, ws, w, h', rh, rws, e, k⟩ := q
 unfold Y6 at e
 split at e
 ·rename_i a
  obtain ⟨kvs, e1, e2⟩ := Option.map_eq_some_iff.mp e
  cases e2
  obtain ⟨n, rfl, hn⟩ := UL e1
  obtain ⟨y, rfl, ra⟩ := UA rws
  obtain ⟨u, rfl, ru⟩ := Gd r
  obtain ⟨kx, xs, hx, dr, zl, lo, rr, dd⟩ := UU I rh hn
  unfold Rw at ra
  obtain ⟨hlt, rfl⟩ := ra
  obtain rfl : u = Value.ref (R.ρ n) := ru
  obtain ⟨o, es, ep, h1, h2, h3, h4, _, h5⟩ := dd
  have hsz : es.size = xs.length := size_of_entries h4
  have hl2 := Paired.length rr
  refine PySem.W.kdl_call (Qeh (es := es) (ep := ep) lo) (I.ok.hd hc) ⟨o, h1, h2, h3⟩ (by omega) fun h' tk acc c' kp eL hacc => ?_
  have hv : Vals (kx.map fun p => .ref p.2.1) acc.toList := by
   have : acc.toList = xs.map fun p => .ref p.2.1 := by
    apply List.ext_getElem?
    intro j
    rw [List.getElem?_map]
    by_cases hj : j < xs.length
    ·have hj' : j < acc.size := by rw [hacc.1]; omega
     obtain ⟨e, he1, he2⟩ := hacc.2 j acc[j] (Array.getElem?_eq_getElem hj')
     rw [entry_at h4 j, List.getElem?_eq_getElem hj] at he1
     cases he1
     rw [Array.getElem?_toList, Array.getElem?_eq_getElem hj', he2, List.getElem?_eq_getElem hj]
     rfl
    ·have l1 : acc.toList.length ≤ j := by rw [Array.length_toList, hacc.1]; omega
     have l2 : xs.length ≤ j := by omega
     rw [List.getElem?_eq_none l1, List.getElem?_eq_none l2]
     rfl
   rw [this]
   exact UM rr
  have hp := I.hok.fresh (Nat.le_refl s.heap.objs.size)
  obtain ⟨R3, x3, rh3, rw3⟩ := rh.lstI (p := s.heap.objs.size) hp (UQ dr)
  refine ⟨.ref s.heap.objs.size, _, I.laid (t' := tk) kp (Nat.le_refl _) (show ObjOk X.prog X.w _ h' _ (.lst _) from ⟨by rw [List.length_map]; exact zl, acc.toList, c', hv, by rw [eL]⟩), rfl, k R3 _ _ x3 rh3 rw3⟩
 ·cases e
end
end Mi

namespace L2
open PySem PySem.Spec PyProof.Rows
section
variable {X : Cx} {pins : List (Addr × Obj)} {σ : St} {H : Hp} {s : Shared} {h' : Heap} {t' : Nat} {ch : List Addr}
end
end L2
namespace Mi
open PySem PySem.Spec PyProof.Rows L2
section
variable {K : PySem.W.Frag} {R : Rn}
end
section
variable {X : Cx} {tg a b : Expr} {ms : MA} {p pos tpos : Pos} {elts : List Expr} {kk : Nat}
end
end Mi

namespace Mi
open PySem PySem.Spec PyProof.Rows L2
noncomputable def Qb8 (mk mv : ME) : ME := fun σ h => (mk σ (h ++ [.dct []])).bind fun p => (mv σ p.2).bind fun q => (KE (.ref h.length) p.1 q.1 q.2).map fun h' => (.ref h.length, h')
section
variable {prog : Program} {w : World} {A : Around} {E : Value → Shared → Prop} {s : Shared}
theorem QcO {km vm : Sem Value} {Q : Addr → Shared → Prop} (h : wpAny (model prog w) A km (fun kv s1 => wpAny (model prog w) A vm (fun vv s2 => wpAny (model prog w) A (dictSet s.heap.objs.size kv vv) (fun _ s3 => Q s.heap.objs.size s3) E s2) E s1) E { s with heap := s.heap.push { cls := .type "dict", data := .dict #[] } }) :
  wpAny (model prog w) A (subDict [(km, vm)]) Q E s := by
 unfold subDict
 refine wpAny_bind (wpAny_alloc (wpAny_bind (wpAny_holding ?_)))
 rw [if_pos (by simp)]
 refine wpAny_bind (evalPairs_cons (wpAny_mono h (fun kv s1 h1 => wpAny_mono h1 (fun vv s2 h2 => evalPairs_nil ?_) fun _ _ x => x) fun _ _ x => x))
 refine wpAny_holding ?_
 rw [List.forIn_cons]
 refine wpAny_bind (wpAny_bind (show wpAny (model prog w) A (dictSet s.heap.objs.size kv vv >>= fun _ => pure (ForInStep.yield PUnit.unit)) _ _ s2 from wpAny_bind (wpAny_mono h2 (fun _ s3 h3 => wpAny_pure ?_) fun _ _ x => x)))
 show wpAny (model prog w) A (forIn [] PUnit.unit _) _ _ s3
 rw [List.forIn_nil]
 exact wpAny_pure (wpAny_pure (wpAny_pure h3))
end
section
variable {X : Cx} {k v : Expr} {mk mv : ME} {pos : Pos}
theorem QcJ (hu : X.A.units + 64 < cLine) (hk : PM X k mk) (hv : PM X v mv) : PM X (.Dict [some k] [v] pos) (Qb8 mk mv) := by
 intro pins s σ H Q I ⟨R, σi, h, w, h', rh, st, e, kk⟩
 obtain ⟨⟨kw, h1⟩, e1, e2⟩ := Option.bind_eq_some_iff.mp e
 obtain ⟨⟨vw, h2⟩, e3, e4⟩ := Option.bind_eq_some_iff.mp e2
 obtain ⟨h3, e5, e6⟩ := Option.map_eq_some_iff.mp e4
 cases e6
 have hn := I.hok.fresh (Nat.le_refl s.heap.objs.size)
 have I1 := I.laid (a := s.heap.objs.size) (o := .dT []) (h' := s.heap.push { cls := .type "dict", data := .dict #[] }) (t' := s.toks) (fun _ _ q => Heap.get?_push_of_some _ q) (Nat.le_refl _) (QbT s.heap I.big)
 obtain ⟨R1, x1, rh1, rw1⟩ := rh.new (mo := .dct []) (o := .dT []) hn fun R' x' => ⟨[], rfl, .nil⟩
 rw [arm_eval_Dict, zip_pairTrees [some k] [v] X.env pos rfl rfl, dictDisplay_pairs _ (by simp [pairTrees]) (by simp [pairTrees])]
 refine wpAny_bind (wpAny_standAt (wpAny_bind (QcO ?_)))
 refine thn (hk pins _ σ _ (fun kv H2 => ∃ R2, Ext R1 R2 ∧ Rh X.K R2 h1 H2 ∧ Rw X.K R2 kw kv) I1 ⟨R1, σi, h ++ [.dct []], kw, h1, rh1, st.mono x1, e1, fun R2 H2 kv x2 rh2 rk => ⟨R2, x2, rh2, rk⟩⟩) fun ku s2 ⟨kv, H2, I2, rku, R2, x2, rh2, rk⟩ => ?_
 refine wpAny_bind (thn (hv pins s2 σ H2 (fun vv H3 => ∃ R3, Ext R2 R3 ∧ Rh X.K R3 h2 H3 ∧ Rw X.K R3 vw vv) I2 ⟨R2, σi, h1, vw, h2, rh2, st.mono (x1.trans x2), e3, fun R3 H3 vv x3 rh3 rv => ⟨R3, x3, rh3, rv⟩⟩) fun vu s3 ⟨vv, H3, I3, rvu, R3, x3, rh3, rv⟩ => wpAny_bind (wpAny_standAt (wpAny_pure ?_)))
 obtain ⟨n, kvs, kt, en, hn', hkt, hl, rfl⟩ := Ux e5
 cases en
 obtain ⟨kx, xs, hx, dr, z, lo, rr, dd⟩ := UU I3 rh3 hn'
 obtain ⟨c, rfl, rfl, hkey⟩ := Qbe I3 rh3 (Rw.mono x3 _ _ rk) rku hkt
 have r3 := Rw.mono (x2.trans x3) _ _ rw1
 have r3' := r3
 unfold Rw at r3'
 obtain ⟨hlt, er⟩ := r3'
 have er' : R3.ρ h.length = s.heap.objs.size := by injection er with q; exact q.symm
 rw [er'] at hx lo dd
 have hlen := Paired.length dr
 have hlen2 := Paired.length rr
 refine wpAny_dictSet_heap (hsz := by omega) (show X.A.units + 8 < cLine by omega) hkey dd fun h4 dd' hs => wpAny_pure ?_
 have hz : (Qcg kx kt c vv).length ≤ sizeLine := by have := UF (kx := kx) (k := kt) (b := c) (v := vv); omega
 have I4 := Wk (t' := s3.toks + (V2 X.prog X.w).draws kt) I3 hx hz lo (Qa9 rr rvu) hs dd'
 have rh4 := rh3.put (n := h.length) (o := .dT (Qcg kx kt c vv)) (mo := .dct (QeW kvs kt kw vw)) hlt ⟨_, rfl, QaM dr (Rw.mono x3 _ _ rk) hkt rv⟩
 rw [er'] at rh4
 exact ⟨.ref s.heap.objs.size, _, I4, rfl, kk R3 _ _ (x1.trans (x2.trans x3)) rh4 r3⟩
end
end Mi

namespace My3
inductive Cd where
 | ei | ag | oo | en | ot
 deriving DecidableEq
structure En where
 kd : Cd
 fs : Nat
 md : Nat
noncomputable def ch : Cd → Int
 | .ei => 1
 | .ag => 1
 | .en => -1
 | _ => 0
noncomputable def lev (ls : List Cd) : Nat → Int
 | 0 => 0
 | k + 1 => lev ls k + (match ls[k]? with | some c => ch c | none => 0)
noncomputable def stp (k : Nat) (c : Cd) (st : List En) : Option (List En) := match c with
 | .ei => some (⟨.ei, k, 0⟩ :: st)
 | .ag => some (⟨.ag, k, 0⟩ :: st)
 | .oo => match st with
  | e :: r => if e.kd = .ei then some (⟨.oo, e.fs, k⟩ :: r) else none
  | [] => none
 | .en => match st with
  | e :: r => if e.kd = .ei then none else some r
  | [] => none
 | .ot => some st
theorem JT {ls : List Cd} {k : Nat} {c : Cd} (e : ls[k]? = some c) : lev ls (k + 1) = lev ls k + ch c := by
 simp only [lev, e]
structure Fit (ls : List Cd) (k t : Nat) (e : En) : Prop where
 lt : e.fs < k
 at_ : ls[e.fs]? = some .ei ∨ ls[e.fs]? = some .ag
 lv : lev ls (e.fs + 1) + t = lev ls k
 ge : ∀ j, e.fs < j → j ≤ k → lev ls (e.fs + 1) ≤ lev ls j
 kd : e.kd = .ei ∨ e.kd = .ag ∨ e.kd = .oo
 ei : e.kd = .ei → ∀ j, e.fs < j → j < k → lev ls j = lev ls (e.fs + 1) → ls[j]? ≠ some .oo
 oo : e.kd = .oo → e.fs < e.md ∧ e.md < k ∧ ls[e.md]? = some .oo ∧ lev ls e.md = lev ls (e.fs + 1) ∧ ∀ j, e.fs < j → j < e.md → lev ls j = lev ls (e.fs + 1) → ls[j]? ≠ some .oo
noncomputable def QcV (ls : List Cd) (k : Nat) : Nat → List En → Prop
 | _, [] => True
 | t, e :: r => Fit ls k t e ∧ QcV ls k (t + 1) r
structure Mat (ls : List Cd) (k : Nat) (e : En) : Prop where
 fit : Fit ls k 0 e
 en : ls[k]? = some .en
 kd : e.kd = .ag ∨ e.kd = .oo
theorem Qb6 {ls : List Cd} {k t t' : Nat} {c : Cd} {e : En} (hc : ls[k]? = some c) (h : Fit ls k t e) (ht : (t' : Int) = t + ch c) (ho : c = .oo → 0 < t) : Fit ls (k + 1) t' e := by
 have hl := JT hc
 have hlv := h.lv
 have hlt := h.lt
 refine ⟨by omega, h.at_, by omega, fun j h1 h2 => ?_, h.kd, fun q j h1 h2 h3 => ?_, fun q => ?_⟩
 ·by_cases z : j ≤ k
  ·exact h.ge j h1 z
  ·have : j = k + 1 := by omega
   subst this; omega
 ·by_cases z : j < k
  ·exact h.ei q j h1 z h3
  ·have : j = k := by omega
   subst this
   rw [hc]
   intro w
   have w' : c = .oo := by simpa using w
   have := ho w'
   omega
 ·obtain ⟨a, b, cc, d, f⟩ := h.oo q
  exact ⟨a, by omega, cc, d, f⟩
theorem Vv {ls : List Cd} {k : Nat} {c : Cd} (hc : ls[k]? = some c) : ∀ (r : List En) (t t' : Nat), QcV ls k t r → (t' : Int) = t + ch c → (c = .oo → 0 < t) → QcV ls (k + 1) t' r
 | [], _, _, _, _, _ => True.intro
 | e :: r, t, t', h, ht, ho => ⟨Qb6 hc h.1 ht ho, Vv hc r (t + 1) (t' + 1) h.2 (by push_cast; omega) fun _ => by omega⟩
theorem QcA {ls : List Cd} {k : Nat} {c : Cd} {st st' : List En} (hc : ls[k]? = some c) (h : QcV ls k 0 st) (e : stp k c st = some st') : QcV ls (k + 1) 0 st' := by
 have hl := JT hc
 have new : ∀ kd : Cd, (kd = .ei ∨ kd = .ag) → c = kd → Fit ls (k + 1) 0 ⟨kd, k, 0⟩ := fun kd hk e => by
  refine ⟨by simp, ?_, by simp, fun j h1 h2 => ?_, by rcases hk with z | z <;> simp [z], fun q j h1 h2 => ?_, fun q => ?_⟩
  ·rw [hc, e]; rcases hk with z | z <;> simp [z]
  ·have h1' : k < j := h1
   have : j = k + 1 := by omega
   subst this; exact Int.le_refl _
  ·have h1' : k < j := h1
   omega
  ·have q' : kd = .oo := q
   rcases hk with z | z <;> rw [z] at q' <;> cases q'
 cases c with
 | ei => cases e; exact ⟨new _ (.inl rfl) rfl, Vv hc st 0 1 h (by simp [ch]) (by simp)⟩
 | ag => cases e; exact ⟨new _ (.inr rfl) rfl, Vv hc st 0 1 h (by simp [ch]) (by simp)⟩
 | ot => cases e; exact Vv hc st 0 0 h (by simp [ch]) (by simp)
 | oo =>
  cases st with
  | nil => cases e
  | cons a r =>
   simp only [stp] at e
   split at e
   ·rename_i ha
    cases e
    have hf := h.1
    have hlv := hf.lv
    have hlt := hf.lt
    refine ⟨⟨by show a.fs < k + 1; omega, hf.at_, ?_, fun j h1 h2 => ?_, .inr (.inr rfl), fun q => (by cases q), fun _ => ⟨hlt, Nat.lt_succ_self _, hc, ?_, hf.ei ha⟩⟩, Vv hc r 1 1 h.2 (by simp [ch]) (by simp)⟩
    ·show lev ls (a.fs + 1) + ((0 : Nat) : Int) = lev ls (k + 1)
     rw [hl]; simp [ch]; simp at hlv; exact hlv
    ·by_cases z : j ≤ k
     ·exact hf.ge j h1 z
     ·have : j = k + 1 := by omega
      subst this
      show lev ls (a.fs + 1) ≤ _
      rw [hl]; simp [ch]; simp at hlv; omega
    ·show lev ls k = lev ls (a.fs + 1)
     simp at hlv; exact hlv.symm
   ·cases e
 | en =>
  cases st with
  | nil => cases e
  | cons a r =>
   simp only [stp] at e
   split at e
   ·cases e
   ·cases e
    exact Vv hc _ 1 0 h.2 (by simp [ch]) (by simp)
theorem QdJ {ls : List Cd} {k : Nat} {a : En} {r st' : List En} (hc : ls[k]? = some .en) (h : QcV ls k 0 (a :: r)) (e : stp k .en (a :: r) = some st') : Mat ls k a := by
 simp only [stp] at e
 split at e
 ·cases e
 ·rename_i ha
  refine ⟨h.1, hc, ?_⟩
  rcases h.1.kd with z | z | z
  ·exact absurd z ha
  ·exact .inl z
  ·exact .inr z
structure Beh (ls : List Cd) (k : Nat) (c : Cd) (j : Nat) : Prop where
 lt : k < j
 at_ : ls[j]? = some c
 lv : lev ls j = lev ls (k + 1)
 no : ∀ i, k < i → i < j → lev ls i = lev ls (k + 1) → ls[i]? ≠ some c
 ge : ∀ i, k < i → i ≤ j → lev ls (k + 1) ≤ lev ls i
structure Ahd (ls : List Cd) (k j : Nat) : Prop where
 lt : j < k
 lv : lev ls k = lev ls j + 1
 no : ∀ i, j < i → i < k → lev ls k ≠ lev ls i + 1
 ge : ∀ i, j < i → i ≤ k → lev ls k ≤ lev ls i
theorem QdV {ls : List Cd} {k : Nat} {e : En} (m : Mat ls k e) : Beh ls e.fs .en k := by
 have h := m.fit
 refine ⟨h.lt, m.en, by have := h.lv; simp at this; omega, fun i h1 h2 h3 q => ?_, h.ge⟩
 have := JT q
 have g := h.ge (i + 1) (by omega) (by omega)
 simp [ch] at this
 omega
theorem QcP {ls : List Cd} {k : Nat} {e : En} (m : Mat ls k e) : Ahd ls k e.fs := by
 have h := m.fit
 have hlv := h.lv
 have e1 : lev ls (e.fs + 1) = lev ls e.fs + 1 := by
  rcases h.at_ with q | q <;> exact JT q
 refine ⟨h.lt, by simp at hlv; omega, fun i h1 h2 h3 => ?_, fun i h1 h2 => by have g := h.ge i h1 h2; simp at hlv; omega⟩
 have g := h.ge i h1 (by omega)
 simp at hlv
 omega
theorem QfE {ls : List Cd} {k : Nat} {e : En} (m : Mat ls k e) (ho : e.kd = .oo) : Beh ls e.fs .oo e.md := by
 obtain ⟨a, b, c, d, f⟩ := m.fit.oo ho
 exact ⟨a, c, d, f, fun i h1 h2 => m.fit.ge i h1 (by omega)⟩
theorem Qag {ls : List Cd} {k : Nat} {e : En} (m : Mat ls k e) (ho : e.kd = .oo) : Beh ls e.md .en k := by
 obtain ⟨a, b, c, d, f⟩ := m.fit.oo ho
 have h := m.fit
 have hlv := h.lv
 have e1 := JT c
 simp [ch] at e1
 simp at hlv
 refine ⟨b, m.en, by omega, fun i h1 h2 h3 q => ?_, fun i h1 h2 => by have g := h.ge i (by omega) h2; omega⟩
 have e2 := JT q
 have g := h.ge (i + 1) (by omega) (by omega)
 simp [ch] at e2
 omega
end My3

namespace My4
open My3
noncomputable def pil (ls : List Cd) : Nat → Option (List En)
 | 0 => some []
 | k + 1 => (pil ls k).bind fun st => match ls[k]? with | some c => stp k c st | none => none
structure Bk where
 trs : List (Nat × Nat × Nat)
 st : List Nat
 rws : List (Option Nat)
noncomputable def top (b : Bk) (f : Nat × Nat × Nat → Nat × Nat × Nat) : List (Nat × Nat × Nat) := match b.st with
 | t :: _ => b.trs.modify t f
 | [] => b.trs
noncomputable def bst (k : Nat) (c : Cd) (b : Bk) : Bk := match c with
 | .ei => ⟨b.trs ++ [(k, k, k)], b.trs.length :: b.st, b.rws ++ [some b.trs.length]⟩
 | .ag => ⟨b.trs ++ [(k, k, k)], b.trs.length :: b.st, b.rws ++ [some b.trs.length]⟩
 | .oo => ⟨top b fun x => (x.1, k, x.2.2), b.st, b.rws ++ [b.st.head?]⟩
 | .en => ⟨top b fun x => (x.1, x.2.1, k), b.st.tail, b.rws ++ [b.st.head?]⟩
 | .ot => ⟨b.trs, b.st, b.rws ++ [b.st.head?]⟩
noncomputable def bks (ls : List Cd) : Nat → Bk
 | 0 => ⟨[], [], []⟩
 | k + 1 => match ls[k]? with | some c => bst k c (bks ls k) | none => bks ls k
noncomputable def Kd (ls : List Cd) (e : En) : Prop := (e.kd = .ag ∧ ls[e.fs]? = some .ag) ∨ ((e.kd = .ei ∨ e.kd = .oo) ∧ ls[e.fs]? = some .ei)
inductive Op (ls : List Cd) (trs : List (Nat × Nat × Nat)) : List Nat → List En → Prop where
 | nil : Op ls trs [] []
 | cons {t : Nat} {e : En} {st : List Nat} {p : List En} (x : ∃ md en, trs[t]? = some (e.fs, md, en) ∧ (e.kd = .oo → md = e.md)) (k : Kd ls e) (n : t ∉ st) (r : Op ls trs st p) : Op ls trs (t :: st) (e :: p)
structure Cl (ls : List Cd) (fs md en : Nat) (e : En) : Prop where
 m : Mat ls en e
 f : e.fs = fs
 d : e.kd = .oo → e.md = md
 k : Kd ls e
structure BI (ls : List Cd) (k : Nat) (b : Bk) (p : List En) : Prop where
 len : b.rws.length = k
 op : Op ls b.trs b.st p
 cl : ∀ t x, b.trs[t]? = some x → t ∉ b.st → ∃ e, Cl ls x.1 x.2.1 x.2.2 e
 ei : ∀ j, j < k → (ls[j]? = some .ei ∨ ls[j]? = some .ag) → ∃ t md en, b.rws[j]? = some (some t) ∧ b.trs[t]? = some (j, md, en)
 oo : ∀ j, j < k → ls[j]? = some .oo → ∃ t fs en, b.rws[j]? = some (some t) ∧ b.trs[t]? = some (fs, j, en) ∧ ls[fs]? = some .ei ∧ ∀ i : Nat, b.st[i]? = some t → ∃ e : En, p[i]? = some e ∧ e.kd = .oo
 en : ∀ j, j < k → ls[j]? = some .en → ∃ t fs md, b.rws[j]? = some (some t) ∧ b.trs[t]? = some (fs, md, j) ∧ t ∉ b.st
theorem Op.lt {ls : List Cd} {trs : List (Nat × Nat × Nat)} {st : List Nat} {p : List En} (h : Op ls trs st p) : ∀ t ∈ st, t < trs.length := by
 induction h with
 | nil => intro t ht; simp at ht
 | cons x k n r ih =>
  intro t ht
  rcases List.mem_cons.mp ht with rfl | ht
  ·obtain ⟨md, en, e, _⟩ := x
   exact (List.getElem?_eq_some_iff.mp e).1
  ·exact ih t ht
theorem Op.imp {ls : List Cd} {trs trs' : List (Nat × Nat × Nat)} {st : List Nat} {p : List En} (h : Op ls trs st p) (q : ∀ t ∈ st, trs'[t]? = trs[t]?) : Op ls trs' st p := by
 induction h with
 | nil => exact .nil
 | cons x k n r ih => exact .cons (by rw [q _ List.mem_cons_self]; exact x) k n (ih fun t ht => q t (List.mem_cons_of_mem _ ht))
theorem UJ {α : Type} {l : List α} {x : α} {t : Nat} (h : t < l.length) : (l ++ [x])[t]? = l[t]? := List.getElem?_append_left h
theorem XS {α : Type} {l : List α} {t : Nat} {x : α} (h : l[t]? = some x) : t < l.length := (List.getElem?_eq_some_iff.mp h).1
theorem Jb {α : Type} {l : List α} {x y : α} {j k : Nat} (hl : l.length = k) (hj : j < k) (h : l[j]? = some y) : (l ++ [x])[j]? = some y := by rw [UJ (by omega)]; exact h
theorem Uk {α : Type} {l : List α} {x : α} {k : Nat} (hl : l.length = k) : (l ++ [x])[k]? = some x := by subst hl; simp
theorem Qdf {l : List (Nat × Nat × Nat)} {t s : Nat} {f : Nat × Nat × Nat → Nat × Nat × Nat} (h : t ≠ s) : (l.modify t f)[s]? = l[s]? := by
 rw [List.getElem?_modify]; simp [h]
theorem Qc2 {l : List (Nat × Nat × Nat)} {t : Nat} {f : Nat × Nat × Nat → Nat × Nat × Nat} {x : Nat × Nat × Nat} (h : l[t]? = some x) : (l.modify t f)[t]? = some (f x) := by
 rw [List.getElem?_modify, h]; simp
theorem QdA {ls : List Cd} {k : Nat} {b : Bk} {p p' : List En} {c : Cd} (h : BI ls k b p) (hf : QcV ls k 0 p) (hc : ls[k]? = some c) (e : stp k c p = some p') : BI ls (k + 1) (bst k c b) p' := by
 have old : ∀ j, j < k + 1 → j ≠ k → j < k := fun j a b => by omega
 have opn : (c = .ei ∨ c = .ag) → p' = ⟨c, k, 0⟩ :: p → BI ls (k + 1) ⟨b.trs ++ [(k, k, k)], b.trs.length :: b.st, b.rws ++ [some b.trs.length]⟩ p' := fun hk hp => by
  subst hp
  have hn : b.trs.length ∉ b.st := fun z => Nat.lt_irrefl _ (h.op.lt _ z)
  have keep : ∀ t x, b.trs[t]? = some x → (b.trs ++ [(k, k, k)])[t]? = some x := fun t x z => by rw [UJ (XS z)]; exact z
  refine ⟨by simp [h.len], .cons ⟨k, k, by simp, fun z => ?_⟩ ?_ hn (h.op.imp fun t ht => UJ (h.op.lt t ht)), fun t x hx hm => ?_, fun j hj hl => ?_, fun j hj hl => ?_, fun j hj hl => ?_⟩
  ·rcases hk with z' | z' <;> rw [z'] at z <;> cases z
  ·unfold Kd
   rcases hk with z' | z'
   ·exact .inr ⟨.inl z', by rw [hc, z']⟩
   ·exact .inl ⟨z', by rw [hc, z']⟩
  ·have ht : t ≠ b.trs.length := fun z => hm (by rw [z]; exact List.mem_cons_self)
   have ht' : t < b.trs.length := by have := XS hx; simp at this; omega
   rw [UJ ht'] at hx
   exact h.cl t x hx fun z => hm (List.mem_cons_of_mem _ z)
  ·by_cases z : j = k
   ·subst z
    exact ⟨b.trs.length, j, j, Uk h.len, by simp⟩
   ·obtain ⟨t, md, en, h1, h2⟩ := h.ei j (old j hj z) hl
    exact ⟨t, md, en, Jb h.len (old j hj z) h1, keep _ _ h2⟩
  ·by_cases z : j = k
   ·subst z; rw [hc] at hl; rcases hk with z' | z' <;> rw [z'] at hl <;> cases hl
   ·obtain ⟨t, fs, en, h1, h2, h3, h4⟩ := h.oo j (old j hj z) hl
    refine ⟨t, fs, en, Jb h.len (old j hj z) h1, keep _ _ h2, h3, fun i hi => ?_⟩
    cases i with
    | zero => simp at hi; have := XS h2; omega
    | succ i => simp at hi; obtain ⟨e, h5, h6⟩ := h4 i hi; exact ⟨e, by simpa using h5, h6⟩
  ·by_cases z : j = k
   ·subst z; rw [hc] at hl; rcases hk with z' | z' <;> rw [z'] at hl <;> cases hl
   ·obtain ⟨t, fs, md, h1, h2, h3⟩ := h.en j (old j hj z) hl
    refine ⟨t, fs, md, Jb h.len (old j hj z) h1, keep _ _ h2, fun q => ?_⟩
    rcases List.mem_cons.mp q with q | q
    ·have := XS h2; omega
    ·exact h3 q
 cases c with
 | ei => exact opn (.inl rfl) (by cases e; rfl)
 | ag => exact opn (.inr rfl) (by cases e; rfl)
 | ot =>
  cases e
  refine ⟨by simp [bst, h.len], h.op, h.cl, fun j hj hl => ?_, fun j hj hl => ?_, fun j hj hl => ?_⟩
  ·by_cases z : j = k
   ·subst z; rw [hc] at hl; rcases hl with hl | hl <;> cases hl
   ·obtain ⟨t, md, en, h1, h2⟩ := h.ei j (old j hj z) hl
    exact ⟨t, md, en, Jb h.len (old j hj z) h1, h2⟩
  ·by_cases z : j = k
   ·subst z; rw [hc] at hl; cases hl
   ·obtain ⟨t, fs, en, h1, h2, h3⟩ := h.oo j (old j hj z) hl
    exact ⟨t, fs, en, Jb h.len (old j hj z) h1, h2, h3⟩
  ·by_cases z : j = k
   ·subst z; rw [hc] at hl; cases hl
   ·obtain ⟨t, fs, md, h1, h2, h3⟩ := h.en j (old j hj z) hl
    exact ⟨t, fs, md, Jb h.len (old j hj z) h1, h2, h3⟩
 | oo =>
  cases p with
  | nil => cases e
  | cons a r =>
   simp only [stp] at e
   split at e
   ·rename_i ha
    cases e
    obtain ⟨trs, st, rws⟩ := b
    have hop := h.op
    cases hop with
    | @cons t _ st _ x kk n q =>
     obtain ⟨md, en, ht, hmd⟩ := x
     simp only at ht hmd
     have hls : ls[a.fs]? = some .ei := by
      rcases kk with z | z
      ·rw [ha] at z; cases z.1
      ·exact z.2
     have hmod : ∀ s, s ≠ t → (trs.modify t fun x => (x.1, k, x.2.2))[s]? = trs[s]? := fun s hs => Qdf (Ne.symm hs)
     have hmt : (trs.modify t fun x => (x.1, k, x.2.2))[t]? = some (a.fs, k, en) := Qc2 ht
     refine ⟨by simp [bst, h.len], ?_, fun s x hx hm => ?_, fun j hj hl => ?_, fun j hj hl => ?_, fun j hj hl => ?_⟩
     ·exact .cons ⟨k, en, hmt, fun _ => rfl⟩ (.inr ⟨.inr rfl, hls⟩) n (q.imp fun s hs => hmod s fun z => n (z ▸ hs))
     ·have hst : s ≠ t := fun z => hm (by rw [z]; exact List.mem_cons_self)
      have hx' : trs[s]? = some x := by rw [← hmod s hst]; exact hx
      exact h.cl s x hx' hm
     ·by_cases z : j = k
      ·subst z; rw [hc] at hl; rcases hl with hl | hl <;> cases hl
      ·obtain ⟨s, md', en', h1, h2⟩ := h.ei j (old j hj z) hl
       by_cases hs : s = t
       ·subst hs
        rw [ht] at h2; cases h2
        exact ⟨s, k, en, Jb h.len (old _ hj z) h1, hmt⟩
       ·exact ⟨s, md', en', Jb h.len (old j hj z) h1, (hmod s hs).trans h2⟩
     ·by_cases z : j = k
      ·rw [z]
       refine ⟨t, a.fs, en, Uk h.len, hmt, hls, fun i hi => ?_⟩
       cases i with
       | zero => exact ⟨_, rfl, rfl⟩
       | succ i => simp [bst] at hi; exact absurd (List.mem_iff_getElem?.mpr ⟨i, hi⟩) n
      ·obtain ⟨s, fs, en', h1, h2, h3, h4⟩ := h.oo j (old j hj z) hl
       by_cases hs : s = t
       ·subst hs
        obtain ⟨e0, h5, h6⟩ := h4 0 (by simp)
        simp at h5; subst h5
        rw [ha] at h6; cases h6
       ·refine ⟨s, fs, en', Jb h.len (old j hj z) h1, (hmod s hs).trans h2, h3, fun i hi => ?_⟩
        obtain ⟨e0, h5, h6⟩ := h4 i hi
        cases i with
        | zero => simp [bst] at hi; exact absurd hi.symm hs
        | succ i => exact ⟨e0, by simpa using h5, h6⟩
     ·by_cases z : j = k
      ·subst z; rw [hc] at hl; cases hl
      ·obtain ⟨s, fs, md', h1, h2, h3⟩ := h.en j (old j hj z) hl
       have hs : s ≠ t := fun z => h3 (by rw [z]; exact List.mem_cons_self)
       exact ⟨s, fs, md', Jb h.len (old j hj z) h1, (hmod s hs).trans h2, h3⟩
   ·cases e
 | en =>
  cases p with
  | nil => cases e
  | cons a r =>
   have hm0 := QdJ hc hf e
   simp only [stp] at e
   split at e
   ·cases e
   ·rename_i ha
    cases e
    obtain ⟨trs, st, rws⟩ := b
    have hop := h.op
    cases hop with
    | @cons t _ st _ x kk n q =>
     obtain ⟨md, en, ht, hmd⟩ := x
     simp only at ht hmd
     have hmod : ∀ s, s ≠ t → (trs.modify t fun x => (x.1, x.2.1, k))[s]? = trs[s]? := fun s hs => Qdf (Ne.symm hs)
     have hmt : (trs.modify t fun x => (x.1, x.2.1, k))[t]? = some (a.fs, md, k) := Qc2 ht
     refine ⟨by simp [bst, h.len], ?_, fun s x hx hm => ?_, fun j hj hl => ?_, fun j hj hl => ?_, fun j hj hl => ?_⟩
     ·exact q.imp fun s hs => hmod s fun z => n (z ▸ hs)
     ·by_cases hs : s = t
      ·subst hs
       have hx' : (trs.modify s fun x => (x.1, x.2.1, k))[s]? = some x := hx
       rw [hmt] at hx'
       cases hx'
       exact ⟨a, hm0, rfl, fun z => (hmd z).symm, kk⟩
      ·have hx' : trs[s]? = some x := by rw [← hmod s hs]; exact hx
       exact h.cl s x hx' fun z => by
        rcases List.mem_cons.mp z with z | z
        ·exact hs z
        ·exact hm z
     ·by_cases z : j = k
      ·subst z; rw [hc] at hl; rcases hl with hl | hl <;> cases hl
      ·obtain ⟨s, md', en', h1, h2⟩ := h.ei j (old j hj z) hl
       by_cases hs : s = t
       ·subst hs
        rw [ht] at h2; cases h2
        exact ⟨s, md, k, Jb h.len (old _ hj z) h1, hmt⟩
       ·exact ⟨s, md', en', Jb h.len (old j hj z) h1, (hmod s hs).trans h2⟩
     ·by_cases z : j = k
      ·subst z; rw [hc] at hl; cases hl
      ·obtain ⟨s, fs, en', h1, h2, h3, h4⟩ := h.oo j (old j hj z) hl
       by_cases hs : s = t
       ·subst hs
        rw [ht] at h2; cases h2
        exact ⟨s, a.fs, k, Jb h.len (old _ hj z) h1, hmt, h3, fun i hi => absurd (List.mem_iff_getElem?.mpr ⟨i, hi⟩) n⟩
       ·refine ⟨s, fs, en', Jb h.len (old j hj z) h1, (hmod s hs).trans h2, h3, fun i hi => ?_⟩
        obtain ⟨e0, h5, h6⟩ := h4 (i + 1) (by simpa [bst] using hi)
        exact ⟨e0, by simpa using h5, h6⟩
     ·by_cases z : j = k
      ·rw [z]
       exact ⟨t, a.fs, md, Uk h.len, hmt, n⟩
      ·obtain ⟨s, fs, md', h1, h2, h3⟩ := h.en j (old j hj z) hl
       have hs : s ≠ t := fun z => h3 (by rw [z]; exact List.mem_cons_self)
       exact ⟨s, fs, md', Jb h.len (old j hj z) h1, (hmod s hs).trans h2, fun z => h3 (List.mem_cons_of_mem _ z)⟩
theorem YF {ls : List Cd} : ∀ {k : Nat} {p : List En}, pil ls k = some p → QcV ls k 0 p ∧ BI ls k (bks ls k) p
 | 0, p, e => by
  cases e
  exact ⟨True.intro, ⟨rfl, .nil, fun t x h => by simp [bks] at h, fun j h => by omega, fun j h => by omega, fun j h => by omega⟩⟩
 | k + 1, p, e => by
  obtain ⟨q, h1, h2⟩ := Option.bind_eq_some_iff.mp e
  obtain ⟨f, b⟩ := YF h1
  cases hc : ls[k]? with
  | none => rw [hc] at h2; cases h2
  | some c =>
   rw [hc] at h2
   refine ⟨QcA hc f h2, ?_⟩
   have : bks ls (k + 1) = bst k c (bks ls k) := by simp only [bks, hc]
   rw [this]
   exact QdA b f hc h2
noncomputable def Bal (ls : List Cd) : Prop := pil ls ls.length = some []
structure Found (ls : List Cd) (b : Bk) : Prop where
 len : b.rws.length = ls.length
 ei : ∀ j, ls[j]? = some .ei → ∃ t md en, b.rws[j]? = some (some t) ∧ b.trs[t]? = some (j, md, en) ∧ Beh ls j .oo md
 ag : ∀ j, ls[j]? = some .ag → ∃ t md en, b.rws[j]? = some (some t) ∧ b.trs[t]? = some (j, md, en) ∧ Beh ls j .en en
 oo : ∀ j, ls[j]? = some .oo → ∃ t fs en, b.rws[j]? = some (some t) ∧ b.trs[t]? = some (fs, j, en) ∧ Beh ls j .en en
 en : ∀ j, ls[j]? = some .en → ∃ t fs md, b.rws[j]? = some (some t) ∧ b.trs[t]? = some (fs, md, j) ∧ Ahd ls j fs ∧ (ls[fs]? = some .ei ∨ ls[fs]? = some .ag)
theorem WC {ls : List Cd} (h : Bal ls) : Found ls (bks ls ls.length) := by
 obtain ⟨_, b⟩ := YF h
 have hs : (bks ls ls.length).st = [] := by
  have := b.op
  generalize (bks ls ls.length).st = s at this
  cases this
  rfl
 have nm : ∀ t, t ∉ (bks ls ls.length).st := fun t => by rw [hs]; simp
 refine ⟨b.len, fun j hj => ?_, fun j hj => ?_, fun j hj => ?_, fun j hj => ?_⟩
 ·obtain ⟨t, md, en, h1, h2⟩ := b.ei j (XS hj) (.inl hj)
  obtain ⟨e, m, f, d, kk⟩ := b.cl t _ h2 (nm t)
  simp only at m f d
  have ho : e.kd = .oo := by
   rcases kk with z | z
   ·rw [f, hj] at z; cases z.2
   ·rcases m.kd with q | q
    ·rcases z.1 with z | z <;> rw [q] at z <;> cases z
    ·exact q
  refine ⟨t, md, en, h1, h2, ?_⟩
  have := QfE m ho
  rw [f, d ho] at this; exact this
 ·obtain ⟨t, md, en, h1, h2⟩ := b.ei j (XS hj) (.inr hj)
  obtain ⟨e, m, f, d, kk⟩ := b.cl t _ h2 (nm t)
  simp only at m f d
  refine ⟨t, md, en, h1, h2, ?_⟩
  have := QdV m
  rw [f] at this; exact this
 ·obtain ⟨t, fs, en, h1, h2, h3, _⟩ := b.oo j (XS hj) hj
  obtain ⟨e, m, f, d, kk⟩ := b.cl t _ h2 (nm t)
  simp only at m f d
  have ho : e.kd = .oo := by
   rcases kk with z | z
   ·rw [f, h3] at z; cases z.2
   ·rcases m.kd with q | q
    ·rcases z.1 with z | z <;> rw [q] at z <;> cases z
    ·exact q
  refine ⟨t, fs, en, h1, h2, ?_⟩
  have := Qag m ho
  rw [d ho] at this; exact this
 ·obtain ⟨t, fs, md, h1, h2, _⟩ := b.en j (XS hj) hj
  obtain ⟨e, m, f, d, kk⟩ := b.cl t _ h2 (nm t)
  simp only at m f d
  refine ⟨t, fs, md, h1, h2, ?_, ?_⟩
  ·have := QcP m
   rw [f] at this; exact this
  ·have := m.fit.at_
   rw [f] at this; exact this
end My4

namespace My4
open My3
noncomputable def kst : Cd → List Cd → Option (List Cd)
 | .ei, s => some (.ei :: s)
 | .ag, s => some (.ag :: s)
 | .oo, s => match s with
  | e :: r => if e = .ei then some (.oo :: r) else none
  | [] => none
 | .en, s => match s with
  | e :: r => if e = .ei then none else some r
  | [] => none
 | .ot, s => some s
noncomputable def Xg : List Cd → List Cd → Option (List Cd)
 | [], s => some s
 | c :: ls, s => (kst c s).bind (Xg ls)
theorem V5 : ∀ (ls ms : List Cd) (s : List Cd), Xg (ls ++ ms) s = (Xg ls s).bind (Xg ms)
 | [], ms, s => rfl
 | c :: ls, ms, s => by
  show (kst c s).bind (Xg (ls ++ ms)) = ((kst c s).bind (Xg ls)).bind (Xg ms)
  cases kst c s with
  | none => rfl
  | some t => exact V5 ls ms t
theorem Z8 {ls : List Cd} {c : Cd} {s t u : List Cd} (h : Xg ls s = some t) (k : kst c t = some u) : Xg (ls ++ [c]) s = some u := by
 rw [V5, h]
 show (kst c t).bind _ = _
 rw [k]; rfl
theorem QeQ {k : Nat} {c : Cd} {st : List En} : (stp k c st).map (List.map En.kd) = kst c (st.map En.kd) := by
 cases c with
 | ei => rfl
 | ag => rfl
 | ot => rfl
 | oo =>
  cases st with
  | nil => rfl
  | cons e r =>
   simp only [stp, kst, List.map_cons]
   by_cases h : e.kd = .ei <;> simp [h]
 | en =>
  cases st with
  | nil => rfl
  | cons e r =>
   simp only [stp, kst, List.map_cons]
   by_cases h : e.kd = .ei <;> simp [h]
theorem UB {ls : List Cd} : ∀ {k : Nat}, k ≤ ls.length → (pil ls k).map (List.map En.kd) = Xg (ls.take k) []
 | 0, _ => rfl
 | k + 1, hk => by
  have hlt : k < ls.length := by omega
  have ih := UB (ls := ls) (k := k) (by omega)
  have ht : ls.take (k + 1) = ls.take k ++ [ls[k]] := by rw [List.take_succ_eq_append_getElem hlt]
  rw [ht, V5, ← ih]
  simp only [pil]
  rw [List.getElem?_eq_getElem hlt]
  cases pil ls k with
  | none => rfl
  | some p =>
   show (stp k ls[k] p).map _ = (kst ls[k] (p.map En.kd)).bind (Xg [])
   rw [← QeQ]
   cases stp k ls[k] p <;> rfl
theorem bal_iff {ls : List Cd} : Bal ls ↔ Xg ls [] = some [] := by
 have := UB (ls := ls) (k := ls.length) (Nat.le_refl _)
 rw [List.take_length] at this
 rw [← this]
 unfold Bal
 cases pil ls ls.length with
 | none => simp
 | some p => simp
end My4

namespace My
open PySem PySem.Spec PyProof.Rows L2 Mi
noncomputable def top (i : Nat) : Stmt := PySem.Challenge.pw_doneroom_k14_what_is_a_run.main.body.getD i (.Pass ⟨0, 0, 0, 0⟩)
section
variable {P : Program} {w : World} {K : PySem.W.Frag} {mg : Str → Option Value} {base : Heap}
noncomputable abbrev JJ : Stmt := top 20
theorem sc__law_take : FnScope ["feed", "many", "found"] ["feed", "many"] (Qs JJ) := ⟨rfl, rfl, rfl, by decide +kernel, rfl, by decide +kernel, by decide +kernel⟩
noncomputable def ZS : FM := Zd 1
  (QI (JL (Qy (Ql wGt (Ql wIx (Qg 0) (mC (.int 0))) (mC (.int 0)))) (QI (Zo 2 (Ql Qbh (Ql wIx (Qg 0) (mC (.int 0))) (Qg 1)))
  (QI (GO (Qg 0) (mC (.int 0)) (Ql Qeb (Ql wIx (Qg 0) (mC (.int 0))) (Qg 1)))
  (Z9 (Qg 2)))) Ze)
  (QI (GO (Qg 0) (mC (.int 1)) (Ql Qbh (Ql ZV (Ql Xu (Ql wIx (Qg 0) (mC (.int 1))) (mC (.int 69621))) (mC (.int 12345))) (mC (.int 2147483647))))
  (Z9 (Ql Qbh (Ql Qeb (Ql wIx (Qg 0) (mC (.int 1))) (mC (.int 8191))) (Qg 1)))))
set_option maxHeartbeats 4000000 in
theorem YI (d : DefAt K mg "_law_take" JJ ["feed", "many"]) : Cal P w K mg base 1 "_law_take" ["feed", "many"] ZS := by
 refine Zb (k := 0) (more := 1) d sc__law_take rfl fun f cdv A outer s H E hr => ?_
 have hu := hr.units
 refine Qf ?_ ?_
 refine QJ ?_ ?_ ?_
 refine Qr VM Qj ?_ ?_
 refine Qn ?_ ?_
 exact Qb 0
 exact Qe
 exact Qe
 refine Qf ?_ ?_
 refine Qo ?_ ?_ ?_ ?_ ?_ ?_
 exact sc__law_take.nd
 exact rfl
 exact (Or.inl rfl)
 refine QH XH Qj ?_ ?_
 refine Qn ?_ ?_
 exact Qb 0
 exact Qe
 exact Qb 1
 exact rfl
 first | exact .inl rfl | exact .inr rfl
 refine Qf ?_ ?_
 refine VI ?_ ?_ ?_ ?_ ?_ ?_
 exact Qb 0
 exact Qe
 refine QH QaY Qj ?_ ?_
 refine Qn ?_ ?_
 exact Qb 0
 exact Qe
 exact Qb 1
 exact fun _ => rfl
 exact rfl
 exact rfl
 refine Qk ?_
 refine Qt ?_
 exact Qb 2
 exact QE
 refine Qf ?_ ?_
 refine VI ?_ ?_ ?_ ?_ ?_ ?_
 exact Qb 0
 exact Qe
 refine QH XH Qj ?_ ?_
 refine QH Qx Qj ?_ ?_
 refine QH V6 Qj ?_ ?_
 refine Qn ?_ ?_
 exact Qb 0
 exact Qe
 exact Qe
 exact Qe
 exact Qe
 exact fun _ => rfl
 exact rfl
 exact rfl
 refine Qk ?_
 refine Qt ?_
 refine QH XH Qj ?_ ?_
 refine QH QaY Qj ?_ ?_
 refine Qn ?_ ?_
 exact Qb 0
 exact Qe
 exact Qe
 exact Qb 1
noncomputable def Qh : FM := box frN ZS
theorem YN (d : DefAt K mg "_law_take" JJ ["feed", "many"]) : Cal P w K mg base 1 "_law_take" ["feed", "many"] Qh := (YI d).box frN
noncomputable abbrev Zu : Stmt := top 21
theorem sc__law_names : FnScope ["feed", "many", "letters", "filler", "first", "step", "size", "place", "back"] ["feed", "many"] (Qs Zu) := ⟨rfl, rfl, rfl, by decide +kernel, rfl, by decide +kernel, by decide +kernel⟩
noncomputable def JD : FM := Zd 7
  (QI (Zo 2 (mC (.str "abcdefghijklmnopqrstuvwxyz")))
  (QI (Zo 3 (Ql wIx (Qg 2) (Qv 2 Qh (Qc (Qg 0) (Qc (mC (.int 26)) Qm)))))
  (QI (JL (Qy (Ql wEq (Qv 2 Qh (Qc (Qg 0) (Qc (mC (.int 3)) Qm))) (mC (.int 0)))) (Z9 (Jd V4 (Ya (Qc (Qg 1) Qm)) [none, some 3] (J2 0) Ku (Ql Xu (Qg 1) (Ql ZV (Qg 0) (mC (.int 1)))))) Ze)
  (QI (Zo 4 (Qv 2 Qh (Qc (Qg 0) (Qc (mC (.int 26)) Qm))))
  (QI (Zo 5 (Ql wIx (mFn Vf (Qc (mC (.int 1)) (Qc (mC (.int 3)) (Qc (mC (.int 5)) (Qc (mC (.int 7)) (Qc (mC (.int 9)) (Qc (mC (.int 11)) Qm))))))) (Qv 2 Qh (Qc (Qg 0) (Qc (mC (.int 6)) Qm)))))
  (QI (Zo 6 (Ql wIx (mFn Vf (Qc (mC (.int 1)) (Qc (mC (.int 3)) (Qc (mC (.int 4)) (Qc (mC (.int 5)) (Qc (mC (.int 6)) (Qc (mC (.int 7)) (Qc (mC (.int 8)) (Qc (mC (.int 1)) Qm))))))))) (Qv 2 Qh (Qc (Qg 0) (Qc (mC (.int 8)) Qm)))))
  (QI (Zo 7 (Qv 2 Qh (Qc (Qg 0) (Qc (Qg 6) Qm))))
  (QI (Zo 8 (Ql Xu (Qg 3) (Ql Ws (Ql Ws (Qg 6) (mC (.int 1))) (Qg 7))))
  (Z9 (Jd V4 (Ya (Qc (Qg 1) Qm)) [none, some 8, some 3, some 7, some 2, some 4, some 5] (J2 0) Ku (Ql ZV (Ql ZV (Ql Xu (Qg 2) (Qg 3)) (Ql wIx (Qg 4) (Ql Qbh (Ql ZV (Qg 5) (Ql Xu (Qg 6) (Qg 0))) (mC (.int 26))))) (Qg 1))))))))))))
set_option maxHeartbeats 4000000 in
theorem K2 (d : DefAt K mg "_law_names" Zu ["feed", "many"]) (b_range : mg "range" = none) (c__law_take : Cal P w K mg base 1 "_law_take" ["feed", "many"] Qh) : Cal P w K mg base 2 "_law_names" ["feed", "many"] JD := by
 refine Zb (k := 1) (more := 7) d sc__law_names rfl fun f cdv A outer s H E hr => ?_
 have hu := hr.units
 refine Qf ?_ ?_
 refine Qo ?_ ?_ ?_ ?_ ?_ ?_
 exact sc__law_names.nd
 exact rfl
 exact (Or.inr rfl)
 exact QP
 exact rfl
 first | exact .inl rfl | exact .inr rfl
 refine Qf ?_ ?_
 refine Qo ?_ ?_ ?_ ?_ ?_ ?_
 exact sc__law_names.nd
 exact rfl
 exact (Or.inr rfl)
 refine Qn ?_ ?_
 exact Qb 2
 refine Qi (k := 1) (ps := ["feed", "many"]) ?_ ?_ ?_ ?_ ?_ ?_ ?_ ?_
 exact c__law_take
 exact hr.mono (by decide)
 exact rfl
 refine Qa ?_ ?_
 exact Qb 0
 refine Qa ?_ ?_
 exact Qe
 exact Qd
 exact rfl
 decide
 exact rfl
 exact rfl
 exact rfl
 first | exact .inl rfl | exact .inr rfl
 refine Qf ?_ ?_
 refine QJ ?_ ?_ ?_
 refine Qr (QQ ?_) Qj ?_ ?_
 exact hu
 refine Qi (k := 1) (ps := ["feed", "many"]) ?_ ?_ ?_ ?_ ?_ ?_ ?_ ?_
 exact c__law_take
 exact hr.mono (by decide)
 exact rfl
 refine Qa ?_ ?_
 exact Qb 0
 refine Qa ?_ ?_
 exact Qe
 exact Qd
 exact rfl
 decide
 exact rfl
 exact rfl
 exact Qe
 refine Qk ?_
 refine Qt ?_
 refine Vz Vj ?_ (Yi (ks := ["filler"]) (Nb := ["k", "filler"]) (cp := [none, some 3]) (N := ["feed", "many", "letters", "filler", "first", "step", "size", "place", "back"]) (xs := (Qs Zu)) rfl rfl (by decide +kernel) rfl (by decide +kernel) (by intro p hp; simp only [List.mem_cons, List.not_mem_nil, or_false] at hp; rcases hp with rfl <;> rfl) rfl rfl rfl (by decide +kernel)) ?_ (fun _ _ _ _ _ => ?_) (fun _ _ _ _ _ => ?_)
 exact rfl
 refine XU ?_ ?_ ?_ ?_
 exact rfl
 exact b_range
 refine Qa ?_ ?_
 exact Qb 1
 exact Qd
 exact rfl
 exact QZ (i := 0) (x := "k") (show List.Nodup (["k", "filler"] : List Str) from by decide +kernel) rfl (Or.inl rfl)
 refine QH V6 Qj ?_ ?_
 exact Qb 1
 refine QH Qx Qj ?_ ?_
 exact Qb 0
 exact Qe
 exact QE
 refine Qf ?_ ?_
 refine Qo ?_ ?_ ?_ ?_ ?_ ?_
 exact sc__law_names.nd
 exact rfl
 exact (Or.inr rfl)
 refine Qi (k := 1) (ps := ["feed", "many"]) ?_ ?_ ?_ ?_ ?_ ?_ ?_ ?_
 exact c__law_take
 exact hr.mono (by decide)
 exact rfl
 refine Qa ?_ ?_
 exact Qb 0
 refine Qa ?_ ?_
 exact Qe
 exact Qd
 exact rfl
 decide
 exact rfl
 exact rfl
 exact rfl
 first | exact .inl rfl | exact .inr rfl
 refine Qf ?_ ?_
 refine Qo ?_ ?_ ?_ ?_ ?_ ?_
 exact sc__law_names.nd
 exact rfl
 exact (Or.inr rfl)
 refine Qn ?_ ?_
 refine Q1 ?_
 refine Qa ?_ ?_
 exact Qe
 refine Qa ?_ ?_
 exact Qe
 refine Qa ?_ ?_
 exact Qe
 refine Qa ?_ ?_
 exact Qe
 refine Qa ?_ ?_
 exact Qe
 refine Qa ?_ ?_
 exact Qe
 exact Qd
 refine Qi (k := 1) (ps := ["feed", "many"]) ?_ ?_ ?_ ?_ ?_ ?_ ?_ ?_
 exact c__law_take
 exact hr.mono (by decide)
 exact rfl
 refine Qa ?_ ?_
 exact Qb 0
 refine Qa ?_ ?_
 exact Qe
 exact Qd
 exact rfl
 decide
 exact rfl
 exact rfl
 exact rfl
 first | exact .inl rfl | exact .inr rfl
 refine Qf ?_ ?_
 refine Qo ?_ ?_ ?_ ?_ ?_ ?_
 exact sc__law_names.nd
 exact rfl
 exact (Or.inl rfl)
 refine Qn ?_ ?_
 refine Q1 ?_
 refine Qa ?_ ?_
 exact Qe
 refine Qa ?_ ?_
 exact Qe
 refine Qa ?_ ?_
 exact Qe
 refine Qa ?_ ?_
 exact Qe
 refine Qa ?_ ?_
 exact Qe
 refine Qa ?_ ?_
 exact Qe
 refine Qa ?_ ?_
 exact Qe
 refine Qa ?_ ?_
 exact Qe
 exact Qd
 refine Qi (k := 1) (ps := ["feed", "many"]) ?_ ?_ ?_ ?_ ?_ ?_ ?_ ?_
 exact c__law_take
 exact hr.mono (by decide)
 exact rfl
 refine Qa ?_ ?_
 exact Qb 0
 refine Qa ?_ ?_
 exact Qe
 exact Qd
 exact rfl
 decide
 exact rfl
 exact rfl
 exact rfl
 first | exact .inl rfl | exact .inr rfl
 refine Qf ?_ ?_
 refine Qo ?_ ?_ ?_ ?_ ?_ ?_
 exact sc__law_names.nd
 exact rfl
 exact (Or.inr rfl)
 refine Qi (k := 1) (ps := ["feed", "many"]) ?_ ?_ ?_ ?_ ?_ ?_ ?_ ?_
 exact c__law_take
 exact hr.mono (by decide)
 exact rfl
 refine Qa ?_ ?_
 exact Qb 0
 refine Qa ?_ ?_
 exact Qb 6
 exact Qd
 exact rfl
 decide
 exact rfl
 exact rfl
 exact rfl
 first | exact .inl rfl | exact .inr rfl
 refine Qf ?_ ?_
 refine Qo ?_ ?_ ?_ ?_ ?_ ?_
 exact sc__law_names.nd
 exact rfl
 exact (Or.inr rfl)
 refine QH V6 Qj ?_ ?_
 exact Qb 3
 refine QH J4 Qj ?_ ?_
 refine QH J4 Qj ?_ ?_
 exact Qb 6
 exact Qe
 exact Qb 7
 exact rfl
 first | exact .inl rfl | exact .inr rfl
 refine Qk ?_
 refine Qt ?_
 refine Vz Vj ?_ (Yi (ks := ["step", "place", "letters", "first", "filler", "back"]) (Nb := ["k", "back", "filler", "place", "letters", "first", "step"]) (cp := [none, some 8, some 3, some 7, some 2, some 4, some 5]) (N := ["feed", "many", "letters", "filler", "first", "step", "size", "place", "back"]) (xs := (Qs Zu)) rfl rfl (by decide +kernel) rfl (by decide +kernel) (by intro p hp; simp only [List.mem_cons, List.not_mem_nil, or_false] at hp; rcases hp with rfl | rfl | rfl | rfl | rfl | rfl <;> rfl) rfl rfl rfl (by decide +kernel)) ?_ (fun _ _ _ _ _ => ?_) (fun _ _ _ _ _ => ?_)
 exact rfl
 refine XU ?_ ?_ ?_ ?_
 exact rfl
 exact b_range
 refine Qa ?_ ?_
 exact Qb 1
 exact Qd
 exact rfl
 exact QZ (i := 0) (x := "k") (show List.Nodup (["k", "back", "filler", "place", "letters", "first", "step"] : List Str) from by decide +kernel) rfl (Or.inl rfl)
 refine QH Qx Qj ?_ ?_
 refine QH Qx Qj ?_ ?_
 refine QH V6 Qj ?_ ?_
 exact Qb 2
 exact Qb 3
 refine Qn ?_ ?_
 exact Qb 4
 refine QH XH Qj ?_ ?_
 refine QH Qx Qj ?_ ?_
 exact Qb 5
 refine QH V6 Qj ?_ ?_
 exact Qb 6
 exact Qb 0
 exact Qe
 exact Qb 1
noncomputable def QN : FM := box frN JD
theorem K9 (d : DefAt K mg "_law_names" Zu ["feed", "many"]) (b_range : mg "range" = none) (c__law_take : Cal P w K mg base 1 "_law_take" ["feed", "many"] Qh) : Cal P w K mg base 2 "_law_names" ["feed", "many"] QN := (K2 d b_range c__law_take).box frN
noncomputable abbrev ZA : Stmt := top 23
theorem KF : FnScope ["lines", "opened"] ["lines", "opened"] (Qs ZA) := ⟨rfl, rfl, rfl, by decide +kernel, rfl, by decide +kernel, by decide +kernel⟩
noncomputable def Z7 : FM := Zd 0
  (JL (Qy (Ql wEq (Ql wIx (Qg 1) (mUn XD (mC (.int 1)))) (mC (.str "either")))) (QI (ZL (mMt "list" QU (Qg 0) (Qc (mFn ZW (Qc (mC (.str "or")) Qm)) Qm)))
  (GO (Qg 1) (mUn XD (mC (.int 1))) (mC (.str "or")))) (QI (ZL (mMt "list" QU (Qg 0) (Qc (mFn ZW (Qc (mC (.str "end")) Qm)) Qm)))
  (ZL (mMt "list" QeY (Qg 1) Qm))))
set_option maxHeartbeats 4000000 in
theorem X7 (d : DefAt K mg "_law_step_on" ZA ["lines", "opened"]) : Cal P w K mg base 1 "_law_step_on" ["lines", "opened"] Z7 := by
 refine Zb (k := 0) (more := 0) d KF rfl fun f cdv A outer s H E hr => ?_
 have hu := hr.units
 refine Qk ?_
 refine QJ ?_ ?_ ?_
 refine Qr (QQ ?_) Qj ?_ ?_
 exact hu
 refine Qn ?_ ?_
 exact Qb 1
 refine Zx ?_
 exact Qe
 exact QP
 refine Qf ?_ ?_
 refine QG ?_
 refine Jt PySem.F.plainAttrs_list PySem.F.slot_list_append PySem.F.type_list_append QB ?_ ?_
 exact Qb 0
 refine Qa ?_ ?_
 refine QC ?_
 refine Qa ?_ ?_
 exact QP
 exact Qd
 exact Qd
 refine Qk ?_
 refine VI ?_ ?_ ?_ ?_ ?_ ?_
 exact Qb 1
 refine Zx ?_
 exact Qe
 exact QP
 exact fun _ => rfl
 exact rfl
 exact rfl
 refine Qf ?_ ?_
 refine QG ?_
 refine Jt PySem.F.plainAttrs_list PySem.F.slot_list_append PySem.F.type_list_append QB ?_ ?_
 exact Qb 0
 refine Qa ?_ ?_
 refine QC ?_
 refine Qa ?_ ?_
 exact QP
 exact Qd
 exact Qd
 refine Qk ?_
 refine QG ?_
 refine QbG PySem.F.plainAttrs_list PySem.F.slot_list_pop PySem.F.type_list_pop Ur ?_
 exact Qb 1
noncomputable def QD : FM := box frN Z7
theorem XX (d : DefAt K mg "_law_step_on" ZA ["lines", "opened"]) : Cal P w K mg base 1 "_law_step_on" ["lines", "opened"] QD := (X7 d).box frN
noncomputable abbrev Jg : Stmt := top 22
theorem sc__law_plain : FnScope ["feed", "boxes", "words", "way", "x", "y", "z"] ["feed", "boxes", "words"] (Qs Jg) := ⟨rfl, rfl, rfl, by decide +kernel, rfl, by decide +kernel, by decide +kernel⟩
noncomputable def JC : FM := Zd 4
  (QI (Zo 3 (Qv 2 Qh (Qc (Qg 0) (Qc (mC (.int 10)) Qm))))
  (QI (Zo 4 (Ql wIx (Qg 1) (Qv 2 Qh (Qc (Qg 0) (Qc (mFn Js (Qc (Qg 1) Qm)) Qm)))))
  (QI (Zo 5 (Ql wIx (Qg 1) (Qv 2 Qh (Qc (Qg 0) (Qc (mFn Js (Qc (Qg 1) Qm)) Qm)))))
  (QI (JL (Qy (Ql wLt (Qg 3) (mC (.int 4)))) (QI (Zo 6 (Ql wIx (Qg 1) (Qv 2 Qh (Qc (Qg 0) (Qc (mFn Js (Qc (Qg 1) Qm)) Qm)))))
  (Z9 (mFn ZW (Qc (mC (.str "pair")) (Qc (Qg 4) (Qc (Ql wIx (Qg 2) (Qv 2 Qh (Qc (Qg 0) (Qc (mFn Js (Qc (Qg 2) Qm)) Qm)))) (Qc (Qg 5) (Qc (Qg 6) Qm)))))))) Ze)
  (Z9 (Ql wIx (mFn Vf (Qc (mFn ZW (Qc (mC (.str "first")) (Qc (Qg 4) (Qc (Qg 5) Qm)))) (Qc (mFn ZW (Qc (mC (.str "second")) (Qc (Qg 4) (Qc (Qg 5) Qm)))) (Qc (mFn ZW (Qc (mC (.str "same")) (Qc (Qg 4) (Qc (Qg 5) Qm)))) (Qc (mFn ZW (Qc (mC (.str "none")) (Qc (Qg 4) Qm))) (Qc (mFn ZW (Qc (mC (.str "tell")) (Qc (Qg 5) Qm))) (Qc (mFn ZW (Qc (mC (.str "tell")) (Qc (Qg 4) Qm))) Qm))))))) (Ql Ws (Qg 3) (mC (.int 4)))))))))
set_option maxHeartbeats 4000000 in
theorem K4 (d : DefAt K mg "_law_plain" Jg ["feed", "boxes", "words"]) (b_len : mg "len" = none) (c__law_take : Cal P w K mg base 1 "_law_take" ["feed", "many"] Qh) : Cal P w K mg base 2 "_law_plain" ["feed", "boxes", "words"] JC := by
 refine Zb (k := 1) (more := 4) d sc__law_plain rfl fun f cdv A outer s H E hr => ?_
 have hu := hr.units
 refine Qf ?_ ?_
 refine Qo ?_ ?_ ?_ ?_ ?_ ?_
 exact sc__law_plain.nd
 exact rfl
 exact (Or.inl rfl)
 refine Qi (k := 1) (ps := ["feed", "many"]) ?_ ?_ ?_ ?_ ?_ ?_ ?_ ?_
 exact c__law_take
 exact hr.mono (by decide)
 exact rfl
 refine Qa ?_ ?_
 exact Qb 0
 refine Qa ?_ ?_
 exact Qe
 exact Qd
 exact rfl
 decide
 exact rfl
 exact rfl
 exact rfl
 first | exact .inl rfl | exact .inr rfl
 refine Qf ?_ ?_
 refine Qo ?_ ?_ ?_ ?_ ?_ ?_
 exact sc__law_plain.nd
 exact rfl
 exact (Or.inl rfl)
 refine Qn ?_ ?_
 exact Qb 1
 refine Qi (k := 1) (ps := ["feed", "many"]) ?_ ?_ ?_ ?_ ?_ ?_ ?_ ?_
 exact c__law_take
 exact hr.mono (by decide)
 exact rfl
 refine Qa ?_ ?_
 exact Qb 0
 refine Qa ?_ ?_
 refine Qz Qw Qu ?_ ?_ PySem.boot_len ?_ ?_ ?_ ?_ ?_
 exact rfl
 exact b_len
 refine Qa ?_ ?_
 exact Qb 1
 exact Qd
 decide
 decide
 exact rfl
 exact rfl
 exact Qd
 exact rfl
 decide
 exact rfl
 exact rfl
 exact rfl
 first | exact .inl rfl | exact .inr rfl
 refine Qf ?_ ?_
 refine Qo ?_ ?_ ?_ ?_ ?_ ?_
 exact sc__law_plain.nd
 exact rfl
 exact (Or.inl rfl)
 refine Qn ?_ ?_
 exact Qb 1
 refine Qi (k := 1) (ps := ["feed", "many"]) ?_ ?_ ?_ ?_ ?_ ?_ ?_ ?_
 exact c__law_take
 exact hr.mono (by decide)
 exact rfl
 refine Qa ?_ ?_
 exact Qb 0
 refine Qa ?_ ?_
 refine Qz Qw Qu ?_ ?_ PySem.boot_len ?_ ?_ ?_ ?_ ?_
 exact rfl
 exact b_len
 refine Qa ?_ ?_
 exact Qb 1
 exact Qd
 decide
 decide
 exact rfl
 exact rfl
 exact Qd
 exact rfl
 decide
 exact rfl
 exact rfl
 exact rfl
 first | exact .inl rfl | exact .inr rfl
 refine Qf ?_ ?_
 refine QJ ?_ ?_ ?_
 refine Qr Gc Qj ?_ ?_
 exact Qb 3
 exact Qe
 refine Qf ?_ ?_
 refine Qo ?_ ?_ ?_ ?_ ?_ ?_
 exact sc__law_plain.nd
 exact rfl
 exact (Or.inl rfl)
 refine Qn ?_ ?_
 exact Qb 1
 refine Qi (k := 1) (ps := ["feed", "many"]) ?_ ?_ ?_ ?_ ?_ ?_ ?_ ?_
 exact c__law_take
 exact hr.mono (by decide)
 exact rfl
 refine Qa ?_ ?_
 exact Qb 0
 refine Qa ?_ ?_
 refine Qz Qw Qu ?_ ?_ PySem.boot_len ?_ ?_ ?_ ?_ ?_
 exact rfl
 exact b_len
 refine Qa ?_ ?_
 exact Qb 1
 exact Qd
 decide
 decide
 exact rfl
 exact rfl
 exact Qd
 exact rfl
 decide
 exact rfl
 exact rfl
 exact rfl
 first | exact .inl rfl | exact .inr rfl
 refine Qk ?_
 refine Qt ?_
 refine QC ?_
 refine Qa ?_ ?_
 exact QP
 refine Qa ?_ ?_
 exact Qb 4
 refine Qa ?_ ?_
 refine Qn ?_ ?_
 exact Qb 2
 refine Qi (k := 1) (ps := ["feed", "many"]) ?_ ?_ ?_ ?_ ?_ ?_ ?_ ?_
 exact c__law_take
 exact hr.mono (by decide)
 exact rfl
 refine Qa ?_ ?_
 exact Qb 0
 refine Qa ?_ ?_
 refine Qz Qw Qu ?_ ?_ PySem.boot_len ?_ ?_ ?_ ?_ ?_
 exact rfl
 exact b_len
 refine Qa ?_ ?_
 exact Qb 2
 exact Qd
 decide
 decide
 exact rfl
 exact rfl
 exact Qd
 exact rfl
 decide
 exact rfl
 exact rfl
 refine Qa ?_ ?_
 exact Qb 5
 refine Qa ?_ ?_
 exact Qb 6
 exact Qd
 exact QE
 refine Qk ?_
 refine Qt ?_
 refine Qn ?_ ?_
 refine Q1 ?_
 refine Qa ?_ ?_
 refine QC ?_
 refine Qa ?_ ?_
 exact QP
 refine Qa ?_ ?_
 exact Qb 4
 refine Qa ?_ ?_
 exact Qb 5
 exact Qd
 refine Qa ?_ ?_
 refine QC ?_
 refine Qa ?_ ?_
 exact QP
 refine Qa ?_ ?_
 exact Qb 4
 refine Qa ?_ ?_
 exact Qb 5
 exact Qd
 refine Qa ?_ ?_
 refine QC ?_
 refine Qa ?_ ?_
 exact QP
 refine Qa ?_ ?_
 exact Qb 4
 refine Qa ?_ ?_
 exact Qb 5
 exact Qd
 refine Qa ?_ ?_
 refine QC ?_
 refine Qa ?_ ?_
 exact QP
 refine Qa ?_ ?_
 exact Qb 4
 exact Qd
 refine Qa ?_ ?_
 refine QC ?_
 refine Qa ?_ ?_
 exact QP
 refine Qa ?_ ?_
 exact Qb 5
 exact Qd
 refine Qa ?_ ?_
 refine QC ?_
 refine Qa ?_ ?_
 exact QP
 refine Qa ?_ ?_
 exact Qb 4
 exact Qd
 exact Qd
 refine QH J4 Qj ?_ ?_
 exact Qb 3
 exact Qe
noncomputable def QM : FM := box frN JC
theorem K7 (d : DefAt K mg "_law_plain" Jg ["feed", "boxes", "words"]) (b_len : mg "len" = none) (c__law_take : Cal P w K mg base 1 "_law_take" ["feed", "many"] Qh) : Cal P w K mg base 2 "_law_plain" ["feed", "boxes", "words"] QM := (K4 d b_len c__law_take).box frN
noncomputable abbrev JK : Stmt := top 24
theorem sc__law_part : FnScope ["feed", "size", "menus", "later", "opens", "dos", "lines", "opened", "k", "way"] ["feed", "size", "menus", "later", "opens", "dos"] (Qs JK) := ⟨rfl, rfl, rfl, by decide +kernel, rfl, by decide +kernel, by decide +kernel⟩
noncomputable abbrev JB : SM := (QI (Zo 9 (Qv 2 Qh (Qc (Qg 0) (Qc (mC (.int 14)) Qm))))
  (JL (J1 (Qy (Ql wLt (Qg 9) (mC (.int 3)))) (Qy (Ql wGt (Qg 4) (mC (.int 0))))) (QI (ZL (mMt "list" QU (Qg 7) (Qc (Ql wIx (mFn Vf (Qc (mC (.str "either")) (Qc (mC (.str "again")) (Qc (mC (.str "either")) Qm)))) (Qg 9)) Qm)))
  (QI (ZL (mMt "list" QU (Qg 6) (Qc (mFn ZW (Qc (Ql wIx (Qg 7) (mUn XD (mC (.int 1)))) Qm)) Qm)))
  (Zo 4 (Ql Ws (Qg 4) (mC (.int 1)))))) (JL (J1 (Qy (Ql wLt (Qg 9) (mC (.int 6)))) (Qy (Ql wGt (mFn Js (Qc (Qg 7) Qm)) (mC (.int 0))))) (ZL (Qv 2 QD (Qc (Qg 6) (Qc (Qg 7) Qm)))) (JL (J1 (Qy (Ql (wIn false) (Qg 9) (mFn Vf (Qc (mC (.int 6)) (Qc (mC (.int 7)) Qm))))) (J1 (Qy (Ql wGt (Qg 5) (mC (.int 0)))) (Qy (Ql wGt (mFn Js (Qc (Qg 3) Qm)) (mC (.int 0)))))) (QI (ZL (mMt "list" QU (Qg 6) (Qc (mFn ZW (Qc (mC (.str "do")) (Qc (Ql wIx (Qg 3) (Qv 2 Qh (Qc (Qg 0) (Qc (mFn Js (Qc (Qg 3) Qm)) Qm)))) Qm))) Qm)))
  (Zo 5 (Ql Ws (Qg 5) (mC (.int 1))))) (ZL (mMt "list" QU (Qg 6) (Qc (Qv 3 QM (Qc (Qg 0) (Qc (Ql wIx (Qg 2) (mC (.int 0))) (Qc (Ql wIx (Qg 2) (mC (.int 1))) Qm)))) Qm)))))))
noncomputable abbrev Xd : SM := (ZL (Qv 2 QD (Qc (Qg 6) (Qc (Qg 7) Qm))))
noncomputable def VG : FM := Zd 4
  (QI (Zo 6 (mFn K3 Qm))
  (QI (Zo 7 (mFn K3 Qm))
  (QI (XG (Ya (Qc (Qg 1) Qm)) (J2 8)
  JB)
  (QI (QX (Qy (Ql wGt (mFn Js (Qc (Qg 7) Qm)) (mC (.int 0)))) Xd 1000000)
  (Z9 (mFn VO (Qc (Qg 6) Qm)))))))
set_option maxHeartbeats 4000000 in
theorem Yr (d : DefAt K mg "_law_part" JK ["feed", "size", "menus", "later", "opens", "dos"]) (b_len : mg "len" = none) (b_range : mg "range" = none) (b_tuple : mg "tuple" = none) (c__law_plain : Cal P w K mg base 2 "_law_plain" ["feed", "boxes", "words"] QM) (c__law_step_on : Cal P w K mg base 1 "_law_step_on" ["lines", "opened"] QD) (c__law_take : Cal P w K mg base 1 "_law_take" ["feed", "many"] Qh) : Cal P w K mg base 3 "_law_part" ["feed", "size", "menus", "later", "opens", "dos"] VG := by
 refine Zb (k := 2) (more := 4) d sc__law_part rfl fun f cdv A outer s H E hr => ?_
 have hu := hr.units
 refine Qf ?_ ?_
 refine Qo ?_ ?_ ?_ ?_ ?_ ?_
 exact sc__law_part.nd
 exact rfl
 exact (Or.inl rfl)
 refine JQ ?_
 exact Qd
 exact rfl
 first | exact .inl rfl | exact .inr rfl
 refine Qf ?_ ?_
 refine Qo ?_ ?_ ?_ ?_ ?_ ?_
 exact sc__law_part.nd
 exact rfl
 exact (Or.inl rfl)
 refine JQ ?_
 exact Qd
 exact rfl
 first | exact .inl rfl | exact .inr rfl
 refine Qf ?_ ?_
 refine JP ?_ ?_ ?_ ?_ ?_ ?_
 exact PassesOwn.never
 exact rfl
 refine XU ?_ ?_ ?_ ?_
 exact rfl
 exact b_range
 refine Qa ?_ ?_
 exact Qb 1
 exact Qd
 exact rfl
 exact QZ (i := 8) (x := "k") sc__law_part.nd rfl (Or.inl rfl)
 refine Qf ?_ ?_
 refine Qo ?_ ?_ ?_ ?_ ?_ ?_
 exact sc__law_part.nd
 exact rfl
 exact (Or.inl rfl)
 refine Qi (k := 1) (ps := ["feed", "many"]) ?_ ?_ ?_ ?_ ?_ ?_ ?_ ?_
 exact c__law_take
 exact hr.mono (by decide)
 exact rfl
 refine Qa ?_ ?_
 exact Qb 0
 refine Qa ?_ ?_
 exact Qe
 exact Qd
 exact rfl
 decide
 exact rfl
 exact rfl
 exact rfl
 first | exact .inl rfl | exact .inr rfl
 refine Qk ?_
 refine QJ ?_ ?_ ?_
 refine PMW.pt ?_
 refine Ve ?_ ?_
 refine Qr Gc Qj ?_ ?_
 exact Qb 9
 exact Qe
 refine JR ?_
 refine Qr VM Qj ?_ ?_
 exact Qb 4
 exact Qe
 refine Qf ?_ ?_
 refine QG ?_
 refine Jt PySem.F.plainAttrs_list PySem.F.slot_list_append PySem.F.type_list_append QB ?_ ?_
 exact Qb 7
 refine Qa ?_ ?_
 refine Qn ?_ ?_
 refine Q1 ?_
 refine Qa ?_ ?_
 exact QP
 refine Qa ?_ ?_
 exact QP
 refine Qa ?_ ?_
 exact QP
 exact Qd
 exact Qb 9
 exact Qd
 refine Qf ?_ ?_
 refine QG ?_
 refine Jt PySem.F.plainAttrs_list PySem.F.slot_list_append PySem.F.type_list_append QB ?_ ?_
 exact Qb 6
 refine Qa ?_ ?_
 refine QC ?_
 refine Qa ?_ ?_
 refine Qn ?_ ?_
 exact Qb 7
 refine Zx ?_
 exact Qe
 exact Qd
 exact Qd
 refine Qk ?_
 refine Qo ?_ ?_ ?_ ?_ ?_ ?_
 exact sc__law_part.nd
 exact rfl
 exact (Or.inl rfl)
 refine QH J4 Qj ?_ ?_
 exact Qb 4
 exact Qe
 exact rfl
 first | exact .inl rfl | exact .inr rfl
 refine Qk ?_
 refine QJ ?_ ?_ ?_
 refine PMW.pt ?_
 refine Ve ?_ ?_
 refine Qr Gc Qj ?_ ?_
 exact Qb 9
 exact Qe
 refine JR ?_
 refine Qr VM Qj ?_ ?_
 refine Qz Qw Qu ?_ ?_ PySem.boot_len ?_ ?_ ?_ ?_ ?_
 exact rfl
 exact b_len
 refine Qa ?_ ?_
 exact Qb 7
 exact Qd
 decide
 decide
 exact rfl
 exact rfl
 exact Qe
 refine Qk ?_
 refine QG ?_
 refine Qi (k := 1) (ps := ["lines", "opened"]) ?_ ?_ ?_ ?_ ?_ ?_ ?_ ?_
 exact c__law_step_on
 exact hr.mono (by decide)
 exact rfl
 refine Qa ?_ ?_
 exact Qb 6
 refine Qa ?_ ?_
 exact Qb 7
 exact Qd
 exact rfl
 decide
 exact rfl
 exact rfl
 refine Qk ?_
 refine QJ ?_ ?_ ?_
 refine PMW.pt ?_
 refine Ve ?_ ?_
 refine Qr (QcY ?_) Qj ?_ ?_
 exact hu
 exact Qb 9
 refine Q1 ?_
 refine Qa ?_ ?_
 exact Qe
 refine Qa ?_ ?_
 exact Qe
 exact Qd
 refine Ve ?_ ?_
 refine Qr VM Qj ?_ ?_
 exact Qb 5
 exact Qe
 refine JR ?_
 refine Qr VM Qj ?_ ?_
 refine Qz Qw Qu ?_ ?_ PySem.boot_len ?_ ?_ ?_ ?_ ?_
 exact rfl
 exact b_len
 refine Qa ?_ ?_
 exact Qb 3
 exact Qd
 decide
 decide
 exact rfl
 exact rfl
 exact Qe
 refine Qf ?_ ?_
 refine QG ?_
 refine Jt PySem.F.plainAttrs_list PySem.F.slot_list_append PySem.F.type_list_append QB ?_ ?_
 exact Qb 6
 refine Qa ?_ ?_
 refine QC ?_
 refine Qa ?_ ?_
 exact QP
 refine Qa ?_ ?_
 refine Qn ?_ ?_
 exact Qb 3
 refine Qi (k := 1) (ps := ["feed", "many"]) ?_ ?_ ?_ ?_ ?_ ?_ ?_ ?_
 exact c__law_take
 exact hr.mono (by decide)
 exact rfl
 refine Qa ?_ ?_
 exact Qb 0
 refine Qa ?_ ?_
 refine Qz Qw Qu ?_ ?_ PySem.boot_len ?_ ?_ ?_ ?_ ?_
 exact rfl
 exact b_len
 refine Qa ?_ ?_
 exact Qb 3
 exact Qd
 decide
 decide
 exact rfl
 exact rfl
 exact Qd
 exact rfl
 decide
 exact rfl
 exact rfl
 exact Qd
 exact Qd
 refine Qk ?_
 refine Qo ?_ ?_ ?_ ?_ ?_ ?_
 exact sc__law_part.nd
 exact rfl
 exact (Or.inl rfl)
 refine QH J4 Qj ?_ ?_
 exact Qb 5
 exact Qe
 exact rfl
 first | exact .inl rfl | exact .inr rfl
 refine Qk ?_
 refine QG ?_
 refine Jt PySem.F.plainAttrs_list PySem.F.slot_list_append PySem.F.type_list_append QB ?_ ?_
 exact Qb 6
 refine Qa ?_ ?_
 refine Qi (k := 2) (ps := ["feed", "boxes", "words"]) ?_ ?_ ?_ ?_ ?_ ?_ ?_ ?_
 exact c__law_plain
 exact hr.mono (by decide)
 exact rfl
 refine Qa ?_ ?_
 exact Qb 0
 refine Qa ?_ ?_
 refine Qn ?_ ?_
 exact Qb 2
 exact Qe
 refine Qa ?_ ?_
 refine Qn ?_ ?_
 exact Qb 2
 exact Qe
 exact Qd
 exact rfl
 decide
 exact rfl
 exact rfl
 exact Qd
 exact fun _ => rfl
 refine Qf ?_ ?_
 refine Xq 1000000 ?_ ?_ ?_
 exact PassesOwn.never
 refine Qr VM Qj ?_ ?_
 refine Qz Qw Qu ?_ ?_ PySem.boot_len ?_ ?_ ?_ ?_ ?_
 exact rfl
 exact b_len
 refine Qa ?_ ?_
 exact Qb 7
 exact Qd
 decide
 decide
 exact rfl
 exact rfl
 exact Qe
 refine Qk ?_
 refine QG ?_
 refine Qi (k := 1) (ps := ["lines", "opened"]) ?_ ?_ ?_ ?_ ?_ ?_ ?_ ?_
 exact c__law_step_on
 exact hr.mono (by decide)
 exact rfl
 refine Qa ?_ ?_
 exact Qb 6
 refine Qa ?_ ?_
 exact Qb 7
 exact Qd
 exact rfl
 decide
 exact rfl
 exact rfl
 refine Qk ?_
 refine Qt ?_
 refine ZC Zz Qu ?_ ?_ PyProof.Rows.boot_tuple ?_ ?_ ?_ ?_ ?_
 exact rfl
 exact b_tuple
 refine Qa ?_ ?_
 exact Qb 6
 exact Qd
 decide
 decide
 exact rfl
 exact rfl
noncomputable def Q0 : FM := box frN VG
theorem YA (d : DefAt K mg "_law_part" JK ["feed", "size", "menus", "later", "opens", "dos"]) (b_len : mg "len" = none) (b_range : mg "range" = none) (b_tuple : mg "tuple" = none) (c__law_plain : Cal P w K mg base 2 "_law_plain" ["feed", "boxes", "words"] QM) (c__law_step_on : Cal P w K mg base 1 "_law_step_on" ["lines", "opened"] QD) (c__law_take : Cal P w K mg base 1 "_law_take" ["feed", "many"] Qh) : Cal P w K mg base 3 "_law_part" ["feed", "size", "menus", "later", "opens", "dos"] Q0 := (Yr d b_len b_range b_tuple c__law_plain c__law_step_on c__law_take).box frN
noncomputable abbrev ZK : Stmt := top 25
theorem sc__law_program : FnScope ["feed", "bounds", "menus", "names", "size", "found", "k"] ["feed", "bounds"] (Qs ZK) := ⟨rfl, rfl, rfl, by decide +kernel, rfl, by decide +kernel, by decide +kernel⟩
noncomputable abbrev Vq : SM := (ZL (mMt "list" QU (Qg 5) (Qc (mFn ZW (Qc (Ql wIx (Qg 3) (Qg 6)) (Qc (Qv 6 Q0 (Qc (Qg 0) (Qc (Qv 2 Qh (Qc (Qg 0) (Qc (mC (.int 4)) Qm))) (Qc (Qg 2) (Qc (mSl (Qg 3) (Zp (Ql ZV (Qg 6) (mC (.int 1)))) Vr) (Qc (mC (.int 1)) (Qc (mC (.int 1)) Qm))))))) Qm))) Qm)))
noncomputable def JO : FM := Zd 5
  (QI (Zo 2 (mFn ZW (Qc (Qv 2 QN (Qc (Qg 0) (Qc (Ql ZV (mC (.int 1)) (Qv 2 Qh (Qc (Qg 0) (Qc (Ql wIx (Qg 1) (mC (.int 0))) Qm)))) Qm))) (Qc (Qv 2 QN (Qc (Qg 0) (Qc (Ql ZV (mC (.int 1)) (Qv 2 Qh (Qc (Qg 0) (Qc (Ql wIx (Qg 1) (mC (.int 1))) Qm)))) Qm))) Qm))))
  (QI (Zo 3 (Qv 2 QN (Qc (Qg 0) (Qc (Ql ZV (mC (.int 1)) (Qv 2 Qh (Qc (Qg 0) (Qc (Ql wIx (Qg 1) (mC (.int 2))) Qm)))) Qm))))
  (QI (Zo 4 (Ql Ws (Ql wIx (Qg 1) (mC (.int 3))) (Qv 2 Qh (Qc (Qg 0) (Qc (mC (.int 3)) Qm)))))
  (QI (JL (Qy (Ql wEq (Qv 2 Qh (Qc (Qg 0) (Qc (mC (.int 4)) Qm))) (mC (.int 0)))) (Zo 4 (Qv 2 Qh (Qc (Qg 0) (Qc (Ql ZV (Qg 4) (mC (.int 1))) Qm)))) Ze)
  (QI (Zo 5 (mFn K3 (Qc (mFn ZW (Qc (Ql wIx (Qg 3) (mC (.int 0))) (Qc (Qv 6 Q0 (Qc (Qg 0) (Qc (Qg 4) (Qc (Qg 2) (Qc (mSl (Qg 3) (Zp (mC (.int 1))) Vr) (Qc (mC (.int 2)) (Qc (mC (.int 2)) Qm))))))) Qm))) Qm)))
  (QI (XG (Gq (Qc (mC (.int 1)) (Qc (mFn Js (Qc (Qg 3) Qm)) Qm))) (J2 6)
  Vq)
  (Z9 (mFn VO (Qc (Qg 5) Qm)))))))))
set_option maxHeartbeats 4000000 in
theorem X9 (d : DefAt K mg "_law_program" ZK ["feed", "bounds"]) (b_len : mg "len" = none) (b_range : mg "range" = none) (b_tuple : mg "tuple" = none) (c__law_names : Cal P w K mg base 2 "_law_names" ["feed", "many"] QN) (c__law_part : Cal P w K mg base 3 "_law_part" ["feed", "size", "menus", "later", "opens", "dos"] Q0) (c__law_take : Cal P w K mg base 1 "_law_take" ["feed", "many"] Qh) : Cal P w K mg base 4 "_law_program" ["feed", "bounds"] JO := by
 refine Zb (k := 3) (more := 5) d sc__law_program rfl fun f cdv A outer s H E hr => ?_
 have hu := hr.units
 refine Qf ?_ ?_
 refine Qo ?_ ?_ ?_ ?_ ?_ ?_
 exact sc__law_program.nd
 exact rfl
 exact (Or.inl rfl)
 refine QC ?_
 refine Qa ?_ ?_
 refine Qi (k := 2) (ps := ["feed", "many"]) ?_ ?_ ?_ ?_ ?_ ?_ ?_ ?_
 exact c__law_names
 exact hr.mono (by decide)
 exact rfl
 refine Qa ?_ ?_
 exact Qb 0
 refine Qa ?_ ?_
 refine QH Qx Qj ?_ ?_
 exact Qe
 refine Qi (k := 1) (ps := ["feed", "many"]) ?_ ?_ ?_ ?_ ?_ ?_ ?_ ?_
 exact c__law_take
 exact hr.mono (by decide)
 exact rfl
 refine Qa ?_ ?_
 exact Qb 0
 refine Qa ?_ ?_
 refine Qn ?_ ?_
 exact Qb 1
 exact Qe
 exact Qd
 exact rfl
 decide
 exact rfl
 exact rfl
 exact Qd
 exact rfl
 decide
 exact rfl
 exact rfl
 refine Qa ?_ ?_
 refine Qi (k := 2) (ps := ["feed", "many"]) ?_ ?_ ?_ ?_ ?_ ?_ ?_ ?_
 exact c__law_names
 exact hr.mono (by decide)
 exact rfl
 refine Qa ?_ ?_
 exact Qb 0
 refine Qa ?_ ?_
 refine QH Qx Qj ?_ ?_
 exact Qe
 refine Qi (k := 1) (ps := ["feed", "many"]) ?_ ?_ ?_ ?_ ?_ ?_ ?_ ?_
 exact c__law_take
 exact hr.mono (by decide)
 exact rfl
 refine Qa ?_ ?_
 exact Qb 0
 refine Qa ?_ ?_
 refine Qn ?_ ?_
 exact Qb 1
 exact Qe
 exact Qd
 exact rfl
 decide
 exact rfl
 exact rfl
 exact Qd
 exact rfl
 decide
 exact rfl
 exact rfl
 exact Qd
 exact rfl
 first | exact .inl rfl | exact .inr rfl
 refine Qf ?_ ?_
 refine Qo ?_ ?_ ?_ ?_ ?_ ?_
 exact sc__law_program.nd
 exact rfl
 exact (Or.inl rfl)
 refine Qi (k := 2) (ps := ["feed", "many"]) ?_ ?_ ?_ ?_ ?_ ?_ ?_ ?_
 exact c__law_names
 exact hr.mono (by decide)
 exact rfl
 refine Qa ?_ ?_
 exact Qb 0
 refine Qa ?_ ?_
 refine QH Qx Qj ?_ ?_
 exact Qe
 refine Qi (k := 1) (ps := ["feed", "many"]) ?_ ?_ ?_ ?_ ?_ ?_ ?_ ?_
 exact c__law_take
 exact hr.mono (by decide)
 exact rfl
 refine Qa ?_ ?_
 exact Qb 0
 refine Qa ?_ ?_
 refine Qn ?_ ?_
 exact Qb 1
 exact Qe
 exact Qd
 exact rfl
 decide
 exact rfl
 exact rfl
 exact Qd
 exact rfl
 decide
 exact rfl
 exact rfl
 exact rfl
 first | exact .inl rfl | exact .inr rfl
 refine Qf ?_ ?_
 refine Qo ?_ ?_ ?_ ?_ ?_ ?_
 exact sc__law_program.nd
 exact rfl
 exact (Or.inl rfl)
 refine QH J4 Qj ?_ ?_
 refine Qn ?_ ?_
 exact Qb 1
 exact Qe
 refine Qi (k := 1) (ps := ["feed", "many"]) ?_ ?_ ?_ ?_ ?_ ?_ ?_ ?_
 exact c__law_take
 exact hr.mono (by decide)
 exact rfl
 refine Qa ?_ ?_
 exact Qb 0
 refine Qa ?_ ?_
 exact Qe
 exact Qd
 exact rfl
 decide
 exact rfl
 exact rfl
 exact rfl
 first | exact .inl rfl | exact .inr rfl
 refine Qf ?_ ?_
 refine QJ ?_ ?_ ?_
 refine Qr (QQ ?_) Qj ?_ ?_
 exact hu
 refine Qi (k := 1) (ps := ["feed", "many"]) ?_ ?_ ?_ ?_ ?_ ?_ ?_ ?_
 exact c__law_take
 exact hr.mono (by decide)
 exact rfl
 refine Qa ?_ ?_
 exact Qb 0
 refine Qa ?_ ?_
 exact Qe
 exact Qd
 exact rfl
 decide
 exact rfl
 exact rfl
 exact Qe
 refine Qk ?_
 refine Qo ?_ ?_ ?_ ?_ ?_ ?_
 exact sc__law_program.nd
 exact rfl
 exact (Or.inl rfl)
 refine Qi (k := 1) (ps := ["feed", "many"]) ?_ ?_ ?_ ?_ ?_ ?_ ?_ ?_
 exact c__law_take
 exact hr.mono (by decide)
 exact rfl
 refine Qa ?_ ?_
 exact Qb 0
 refine Qa ?_ ?_
 refine QH Qx Qj ?_ ?_
 exact Qb 4
 exact Qe
 exact Qd
 exact rfl
 decide
 exact rfl
 exact rfl
 exact rfl
 first | exact .inl rfl | exact .inr rfl
 exact QE
 refine Qf ?_ ?_
 refine Qo ?_ ?_ ?_ ?_ ?_ ?_
 exact sc__law_program.nd
 exact rfl
 exact (Or.inl rfl)
 refine JQ ?_
 refine Qa ?_ ?_
 refine QC ?_
 refine Qa ?_ ?_
 refine Qn ?_ ?_
 exact Qb 3
 exact Qe
 refine Qa ?_ ?_
 refine Qi (k := 3) (ps := ["feed", "size", "menus", "later", "opens", "dos"]) ?_ ?_ ?_ ?_ ?_ ?_ ?_ ?_
 exact c__law_part
 exact hr.mono (by decide)
 exact rfl
 refine Qa ?_ ?_
 exact Qb 0
 refine Qa ?_ ?_
 exact Qb 4
 refine Qa ?_ ?_
 exact Qb 2
 refine Qa ?_ ?_
 refine Q5 ?_ ?_ ?_
 exact Qb 3
 refine QY ?_
 exact Qe
 exact Zg
 refine Qa ?_ ?_
 exact Qe
 refine Qa ?_ ?_
 exact Qe
 exact Qd
 exact rfl
 decide
 exact rfl
 exact rfl
 exact Qd
 exact Qd
 exact rfl
 first | exact .inl rfl | exact .inr rfl
 refine Qf ?_ ?_
 refine JP ?_ ?_ ?_ ?_ ?_ ?_
 exact PassesOwn.never
 exact rfl
 refine Qak ?_ ?_ ?_ ?_ ?_
 exact rfl
 exact b_range
 refine Qa ?_ ?_
 exact Qe
 refine Qa ?_ ?_
 refine Qz Qw Qu ?_ ?_ PySem.boot_len ?_ ?_ ?_ ?_ ?_
 exact rfl
 exact b_len
 refine Qa ?_ ?_
 exact Qb 3
 exact Qd
 decide
 decide
 exact rfl
 exact rfl
 exact Qd
 exact rfl
 exact rfl
 exact QZ (i := 6) (x := "k") sc__law_program.nd rfl (Or.inl rfl)
 refine Qk ?_
 refine QG ?_
 refine Jt PySem.F.plainAttrs_list PySem.F.slot_list_append PySem.F.type_list_append QB ?_ ?_
 exact Qb 5
 refine Qa ?_ ?_
 refine QC ?_
 refine Qa ?_ ?_
 refine Qn ?_ ?_
 exact Qb 3
 exact Qb 6
 refine Qa ?_ ?_
 refine Qi (k := 3) (ps := ["feed", "size", "menus", "later", "opens", "dos"]) ?_ ?_ ?_ ?_ ?_ ?_ ?_ ?_
 exact c__law_part
 exact hr.mono (by decide)
 exact rfl
 refine Qa ?_ ?_
 exact Qb 0
 refine Qa ?_ ?_
 refine Qi (k := 1) (ps := ["feed", "many"]) ?_ ?_ ?_ ?_ ?_ ?_ ?_ ?_
 exact c__law_take
 exact hr.mono (by decide)
 exact rfl
 refine Qa ?_ ?_
 exact Qb 0
 refine Qa ?_ ?_
 exact Qe
 exact Qd
 exact rfl
 decide
 exact rfl
 exact rfl
 refine Qa ?_ ?_
 exact Qb 2
 refine Qa ?_ ?_
 refine Q5 ?_ ?_ ?_
 exact Qb 3
 refine QY ?_
 refine QH Qx Qj ?_ ?_
 exact Qb 6
 exact Qe
 exact Zg
 refine Qa ?_ ?_
 exact Qe
 refine Qa ?_ ?_
 exact Qe
 exact Qd
 exact rfl
 decide
 exact rfl
 exact rfl
 exact Qd
 exact Qd
 exact fun _ => rfl
 refine Qk ?_
 refine Qt ?_
 refine ZC Zz Qu ?_ ?_ PyProof.Rows.boot_tuple ?_ ?_ ?_ ?_ ?_
 exact rfl
 exact b_tuple
 refine Qa ?_ ?_
 exact Qb 5
 exact Qd
 decide
 decide
 exact rfl
 exact rfl
noncomputable def Zm : FM := box frN JO
theorem X3 (d : DefAt K mg "_law_program" ZK ["feed", "bounds"]) (b_len : mg "len" = none) (b_range : mg "range" = none) (b_tuple : mg "tuple" = none) (c__law_names : Cal P w K mg base 2 "_law_names" ["feed", "many"] QN) (c__law_part : Cal P w K mg base 3 "_law_part" ["feed", "size", "menus", "later", "opens", "dos"] Q0) (c__law_take : Cal P w K mg base 1 "_law_take" ["feed", "many"] Qh) : Cal P w K mg base 4 "_law_program" ["feed", "bounds"] Zm := (X9 d b_len b_range b_tuple c__law_names c__law_part c__law_take).box frN
noncomputable abbrev Zs : Stmt := top 26
theorem sc__law_great : FnScope ["feed", "menus", "names", "way", "lines", "small", "many", "opened", "k"] ["feed"] (Qs Zs) := ⟨rfl, rfl, rfl, by decide +kernel, rfl, by decide +kernel, by decide +kernel⟩
noncomputable abbrev Jj : SM := (QI (ZL (mMt "list" QU (Qg 4) (Qc (Qv 3 QM (Qc (Qg 0) (Qc (Ql wIx (Qg 1) (mC (.int 0))) (Qc (Ql wIx (Qg 1) (mC (.int 1))) Qm)))) Qm)))
  (QI (ZL (mMt "list" QU (Qg 7) (Qc (Ql wIx (mFn Vf (Qc (mC (.str "either")) (Qc (mC (.str "again")) Qm))) (Qv 2 Qh (Qc (Qg 0) (Qc (mC (.int 2)) Qm)))) Qm)))
  (ZL (mMt "list" QU (Qg 4) (Qc (mFn ZW (Qc (Ql wIx (Qg 7) (mUn XD (mC (.int 1)))) Qm)) Qm)))))
noncomputable abbrev J5 : SM := (QI (ZL (mMt "list" QU (Qg 4) (Qc (Qv 3 QM (Qc (Qg 0) (Qc (Ql wIx (Qg 1) (mC (.int 0))) (Qc (Ql wIx (Qg 1) (mC (.int 1))) Qm)))) Qm)))
  (ZL (Qv 2 QD (Qc (Qg 4) (Qc (Qg 7) Qm)))))
noncomputable def Ji : SM := (QI (JL (Qy (Ql wEq (Qg 3) (mC (.int 0)))) (QI (Zo 4 (Jd QdI (Ya (Qc (Ql ZV (mC (.int 40)) (Qv 2 Qh (Qc (Qg 0) (Qc (mC (.int 9)) Qm)))) Qm)) [none, some 0, some 1] (J2 0) Ku (Qv 3 QM (Qc (Qg 1) (Qc (Ql wIx (Qg 2) (mC (.int 0))) (Qc (Ql wIx (Qg 2) (mC (.int 1))) Qm))))))
  (Z9 (mFn ZW (Qc (mFn ZW (Qc (Ql wIx (Qg 2) (mC (.int 0))) (Qc (mFn VO (Qc (Qg 4) Qm)) Qm))) Qm)))) Ze)
  (QI (JL (Qy (Ql wEq (Qg 3) (mC (.int 1)))) (QI (Zo 5 (Qv 6 Q0 (Qc (Qg 0) (Qc (Qv 2 Qh (Qc (Qg 0) (Qc (mC (.int 2)) Qm))) (Qc (Qg 1) (Qc (mFn Vf Qm) (Qc (mC (.int 0)) (Qc (mC (.int 0)) Qm))))))))
  (QI (Zo 6 (Ql ZV (mC (.int 20)) (Qv 2 Qh (Qc (Qg 0) (Qc (mC (.int 4)) Qm)))))
  (Z9 (mFn ZW (Qc (mFn ZW (Qc (Ql wIx (Qg 2) (mC (.int 0))) (Qc (mFn VO (Qc (Jd V4 (Ya (Qc (Qg 6) Qm)) [none, some 2] (J2 0) Ku (mFn ZW (Qc (mC (.str "do")) (Qc (Ql wIx (Qg 1) (mC (.int 1))) Qm)))) Qm)) Qm))) (Qc (mFn ZW (Qc (Ql wIx (Qg 2) (mC (.int 1))) (Qc (Qg 5) Qm))) Qm)))))) Ze)
  (QI (Zo 4 (mFn K3 Qm))
  (QI (Zo 7 (mFn K3 Qm))
  (QI (XG (Ya (Qc (mC (.int 6)) Qm)) (J2 8)
  Jj)
  (QI (QX (Qy (Ql wGt (mFn Js (Qc (Qg 7) Qm)) (mC (.int 0)))) J5 1000000)
  (Z9 (mFn VO (Qc (Ql ZV (mFn Vf (Qc (mFn ZW (Qc (Ql wIx (Qg 2) (mC (.int 0))) (Qc (mFn VO (Qc (Qg 4) Qm)) Qm))) Qm)) (Jd V4 (Ja (mSl (Qg 2) (Zp (mC (.int 1))) Vr)) [none] (J2 0) Ku (mFn ZW (Qc (Qg 0) (Qc (mFn ZW Qm) Qm))))) Qm)))))))))
noncomputable def JE : FM := Zd 8
  (QI (Zo 1 (mFn ZW (Qc (Qv 2 QN (Qc (Qg 0) (Qc (mC (.int 5)) Qm))) (Qc (Qv 2 QN (Qc (Qg 0) (Qc (mC (.int 5)) Qm))) Qm))))
  (QI (Zo 2 (Qv 2 QN (Qc (Qg 0) (Qc (mC (.int 5)) Qm))))
  (QI (Zo 3 (Qv 2 Qh (Qc (Qg 0) (Qc (mC (.int 3)) Qm))))
  Ji)))
set_option maxHeartbeats 4000000 in
theorem K0 (d : DefAt K mg "_law_great" Zs ["feed"]) (b_len : mg "len" = none) (b_range : mg "range" = none) (b_tuple : mg "tuple" = none) (c__law_names : Cal P w K mg base 2 "_law_names" ["feed", "many"] QN) (c__law_part : Cal P w K mg base 3 "_law_part" ["feed", "size", "menus", "later", "opens", "dos"] Q0) (c__law_plain : Cal P w K mg base 2 "_law_plain" ["feed", "boxes", "words"] QM) (c__law_step_on : Cal P w K mg base 1 "_law_step_on" ["lines", "opened"] QD) (c__law_take : Cal P w K mg base 1 "_law_take" ["feed", "many"] Qh) : Cal P w K mg base 4 "_law_great" ["feed"] JE := by
 refine Zb (k := 3) (more := 8) d sc__law_great rfl fun f cdv A outer s H E hr => ?_
 have hu := hr.units
 refine Qf ?_ ?_
 refine Qo ?_ ?_ ?_ ?_ ?_ ?_
 exact sc__law_great.nd
 exact rfl
 exact (Or.inr rfl)
 refine QC ?_
 refine Qa ?_ ?_
 refine Qi (k := 2) (ps := ["feed", "many"]) ?_ ?_ ?_ ?_ ?_ ?_ ?_ ?_
 exact c__law_names
 exact hr.mono (by decide)
 exact rfl
 refine Qa ?_ ?_
 exact Qb 0
 refine Qa ?_ ?_
 exact Qe
 exact Qd
 exact rfl
 decide
 exact rfl
 exact rfl
 refine Qa ?_ ?_
 refine Qi (k := 2) (ps := ["feed", "many"]) ?_ ?_ ?_ ?_ ?_ ?_ ?_ ?_
 exact c__law_names
 exact hr.mono (by decide)
 exact rfl
 refine Qa ?_ ?_
 exact Qb 0
 refine Qa ?_ ?_
 exact Qe
 exact Qd
 exact rfl
 decide
 exact rfl
 exact rfl
 exact Qd
 exact rfl
 first | exact .inl rfl | exact .inr rfl
 refine Qf ?_ ?_
 refine Qo ?_ ?_ ?_ ?_ ?_ ?_
 exact sc__law_great.nd
 exact rfl
 exact (Or.inr rfl)
 refine Qi (k := 2) (ps := ["feed", "many"]) ?_ ?_ ?_ ?_ ?_ ?_ ?_ ?_
 exact c__law_names
 exact hr.mono (by decide)
 exact rfl
 refine Qa ?_ ?_
 exact Qb 0
 refine Qa ?_ ?_
 exact Qe
 exact Qd
 exact rfl
 decide
 exact rfl
 exact rfl
 exact rfl
 first | exact .inl rfl | exact .inr rfl
 refine Qf ?_ ?_
 refine Qo ?_ ?_ ?_ ?_ ?_ ?_
 exact sc__law_great.nd
 exact rfl
 exact (Or.inl rfl)
 refine Qi (k := 1) (ps := ["feed", "many"]) ?_ ?_ ?_ ?_ ?_ ?_ ?_ ?_
 exact c__law_take
 exact hr.mono (by decide)
 exact rfl
 refine Qa ?_ ?_
 exact Qb 0
 refine Qa ?_ ?_
 exact Qe
 exact Qd
 exact rfl
 decide
 exact rfl
 exact rfl
 exact rfl
 first | exact .inl rfl | exact .inr rfl
 refine Qf ?_ ?_
 refine QJ ?_ ?_ ?_
 refine Qr (QQ ?_) Qj ?_ ?_
 exact hu
 exact Qb 3
 exact Qe
 refine Qf ?_ ?_
 refine KP sc__law_great.nd rfl (Or.inl rfl) ?_ QaB ?_ (Yi (ks := ["menus", "feed"]) (Nb := ["k", "feed", "menus"]) (cp := [none, some 0, some 1]) (N := ["feed", "menus", "names", "way", "lines", "small", "many", "opened", "k"]) (xs := (Qs Zs)) rfl rfl (by decide +kernel) rfl (by decide +kernel) (by intro p hp; simp only [List.mem_cons, List.not_mem_nil, or_false] at hp; rcases hp with rfl | rfl <;> rfl) rfl rfl rfl (by decide +kernel)) ?_ (fun _ _ _ _ _ => ?_) (fun _ _ _ _ _ => ?_) ?_ ?_
 first | exact .inl rfl | exact .inr rfl
 exact rfl
 refine XU ?_ ?_ ?_ ?_
 exact rfl
 exact b_range
 refine Qa ?_ ?_
 refine QH Qx Qj ?_ ?_
 exact Qe
 refine Qi (k := 1) (ps := ["feed", "many"]) ?_ ?_ ?_ ?_ ?_ ?_ ?_ ?_
 exact c__law_take
 exact hr.mono (by decide)
 exact rfl
 refine Qa ?_ ?_
 exact Qb 0
 refine Qa ?_ ?_
 exact Qe
 exact Qd
 exact rfl
 decide
 exact rfl
 exact rfl
 exact Qd
 exact rfl
 exact QZ (i := 0) (x := "k") (show List.Nodup (["k", "feed", "menus"] : List Str) from by decide +kernel) rfl (Or.inl rfl)
 refine Qi (k := 2) (ps := ["feed", "boxes", "words"]) ?_ ?_ ?_ ?_ ?_ ?_ ?_ ?_
 exact c__law_plain
 exact hr.mono (by decide)
 exact rfl
 refine Qa ?_ ?_
 exact Qb 1
 refine Qa ?_ ?_
 refine Qn ?_ ?_
 exact Qb 2
 exact Qe
 refine Qa ?_ ?_
 refine Qn ?_ ?_
 exact Qb 2
 exact Qe
 exact Qd
 exact rfl
 decide
 exact rfl
 exact rfl
 exact fun _ => rfl
 exact rfl
 refine Qk ?_
 refine Qt ?_
 refine QC ?_
 refine Qa ?_ ?_
 refine QC ?_
 refine Qa ?_ ?_
 refine Qn ?_ ?_
 exact Qb 2
 exact Qe
 refine Qa ?_ ?_
 refine ZC Zz Qu ?_ ?_ PyProof.Rows.boot_tuple ?_ ?_ ?_ ?_ ?_
 exact rfl
 exact b_tuple
 refine Qa ?_ ?_
 exact Qb 4
 exact Qd
 decide
 decide
 exact rfl
 exact rfl
 exact Qd
 exact Qd
 exact QE
 refine Qf ?_ ?_
 refine QJ ?_ ?_ ?_
 refine Qr (QQ ?_) Qj ?_ ?_
 exact hu
 exact Qb 3
 exact Qe
 refine Qf ?_ ?_
 refine Qo ?_ ?_ ?_ ?_ ?_ ?_
 exact sc__law_great.nd
 exact rfl
 exact (Or.inl rfl)
 refine Qi (k := 3) (ps := ["feed", "size", "menus", "later", "opens", "dos"]) ?_ ?_ ?_ ?_ ?_ ?_ ?_ ?_
 exact c__law_part
 exact hr.mono (by decide)
 exact rfl
 refine Qa ?_ ?_
 exact Qb 0
 refine Qa ?_ ?_
 refine Qi (k := 1) (ps := ["feed", "many"]) ?_ ?_ ?_ ?_ ?_ ?_ ?_ ?_
 exact c__law_take
 exact hr.mono (by decide)
 exact rfl
 refine Qa ?_ ?_
 exact Qb 0
 refine Qa ?_ ?_
 exact Qe
 exact Qd
 exact rfl
 decide
 exact rfl
 exact rfl
 refine Qa ?_ ?_
 exact Qb 1
 refine Qa ?_ ?_
 refine Q1 ?_
 exact Qd
 refine Qa ?_ ?_
 exact Qe
 refine Qa ?_ ?_
 exact Qe
 exact Qd
 exact rfl
 decide
 exact rfl
 exact rfl
 exact rfl
 first | exact .inl rfl | exact .inr rfl
 refine Qf ?_ ?_
 refine Qo ?_ ?_ ?_ ?_ ?_ ?_
 exact sc__law_great.nd
 exact rfl
 exact (Or.inl rfl)
 refine QH Qx Qj ?_ ?_
 exact Qe
 refine Qi (k := 1) (ps := ["feed", "many"]) ?_ ?_ ?_ ?_ ?_ ?_ ?_ ?_
 exact c__law_take
 exact hr.mono (by decide)
 exact rfl
 refine Qa ?_ ?_
 exact Qb 0
 refine Qa ?_ ?_
 exact Qe
 exact Qd
 exact rfl
 decide
 exact rfl
 exact rfl
 exact rfl
 first | exact .inl rfl | exact .inr rfl
 refine Qk ?_
 refine Qt ?_
 refine QC ?_
 refine Qa ?_ ?_
 refine QC ?_
 refine Qa ?_ ?_
 refine Qn ?_ ?_
 exact Qb 2
 exact Qe
 refine Qa ?_ ?_
 refine ZC Zz Qu ?_ ?_ PyProof.Rows.boot_tuple ?_ ?_ ?_ ?_ ?_
 exact rfl
 exact b_tuple
 refine Qa ?_ ?_
 refine Vz Vj ?_ (Yi (ks := ["names"]) (Nb := ["k", "names"]) (cp := [none, some 2]) (N := ["feed", "menus", "names", "way", "lines", "small", "many", "opened", "k"]) (xs := (Qs Zs)) rfl rfl (by decide +kernel) rfl (by decide +kernel) (by intro p hp; simp only [List.mem_cons, List.not_mem_nil, or_false] at hp; rcases hp with rfl <;> rfl) rfl rfl rfl (by decide +kernel)) ?_ (fun _ _ _ _ _ => ?_) (fun _ _ _ _ _ => ?_)
 exact rfl
 refine XU ?_ ?_ ?_ ?_
 exact rfl
 exact b_range
 refine Qa ?_ ?_
 exact Qb 6
 exact Qd
 exact rfl
 exact QZ (i := 0) (x := "k") (show List.Nodup (["k", "names"] : List Str) from by decide +kernel) rfl (Or.inl rfl)
 refine QC ?_
 refine Qa ?_ ?_
 exact QP
 refine Qa ?_ ?_
 refine Qn ?_ ?_
 exact Qb 1
 exact Qe
 exact Qd
 exact Qd
 decide
 decide
 exact rfl
 exact rfl
 exact Qd
 refine Qa ?_ ?_
 refine QC ?_
 refine Qa ?_ ?_
 refine Qn ?_ ?_
 exact Qb 2
 exact Qe
 refine Qa ?_ ?_
 exact Qb 5
 exact Qd
 exact Qd
 exact QE
 refine Qf ?_ ?_
 refine Qo ?_ ?_ ?_ ?_ ?_ ?_
 exact sc__law_great.nd
 exact rfl
 exact (Or.inl rfl)
 refine JQ ?_
 exact Qd
 exact rfl
 first | exact .inl rfl | exact .inr rfl
 refine Qf ?_ ?_
 refine Qo ?_ ?_ ?_ ?_ ?_ ?_
 exact sc__law_great.nd
 exact rfl
 exact (Or.inl rfl)
 refine JQ ?_
 exact Qd
 exact rfl
 first | exact .inl rfl | exact .inr rfl
 refine Qf ?_ ?_
 refine JP ?_ ?_ ?_ ?_ ?_ ?_
 exact PassesOwn.never
 exact rfl
 refine XU ?_ ?_ ?_ ?_
 exact rfl
 exact b_range
 refine Qa ?_ ?_
 exact Qe
 exact Qd
 exact rfl
 exact QZ (i := 8) (x := "k") sc__law_great.nd rfl (Or.inl rfl)
 refine Qf ?_ ?_
 refine QG ?_
 refine Jt PySem.F.plainAttrs_list PySem.F.slot_list_append PySem.F.type_list_append QB ?_ ?_
 exact Qb 4
 refine Qa ?_ ?_
 refine Qi (k := 2) (ps := ["feed", "boxes", "words"]) ?_ ?_ ?_ ?_ ?_ ?_ ?_ ?_
 exact c__law_plain
 exact hr.mono (by decide)
 exact rfl
 refine Qa ?_ ?_
 exact Qb 0
 refine Qa ?_ ?_
 refine Qn ?_ ?_
 exact Qb 1
 exact Qe
 refine Qa ?_ ?_
 refine Qn ?_ ?_
 exact Qb 1
 exact Qe
 exact Qd
 exact rfl
 decide
 exact rfl
 exact rfl
 exact Qd
 refine Qf ?_ ?_
 refine QG ?_
 refine Jt PySem.F.plainAttrs_list PySem.F.slot_list_append PySem.F.type_list_append QB ?_ ?_
 exact Qb 7
 refine Qa ?_ ?_
 refine Qn ?_ ?_
 refine Q1 ?_
 refine Qa ?_ ?_
 exact QP
 refine Qa ?_ ?_
 exact QP
 exact Qd
 refine Qi (k := 1) (ps := ["feed", "many"]) ?_ ?_ ?_ ?_ ?_ ?_ ?_ ?_
 exact c__law_take
 exact hr.mono (by decide)
 exact rfl
 refine Qa ?_ ?_
 exact Qb 0
 refine Qa ?_ ?_
 exact Qe
 exact Qd
 exact rfl
 decide
 exact rfl
 exact rfl
 exact Qd
 refine Qk ?_
 refine QG ?_
 refine Jt PySem.F.plainAttrs_list PySem.F.slot_list_append PySem.F.type_list_append QB ?_ ?_
 exact Qb 4
 refine Qa ?_ ?_
 refine QC ?_
 refine Qa ?_ ?_
 refine Qn ?_ ?_
 exact Qb 7
 refine Zx ?_
 exact Qe
 exact Qd
 exact Qd
 exact fun _ => rfl
 refine Qf ?_ ?_
 refine Xq 1000000 ?_ ?_ ?_
 exact PassesOwn.never
 refine Qr VM Qj ?_ ?_
 refine Qz Qw Qu ?_ ?_ PySem.boot_len ?_ ?_ ?_ ?_ ?_
 exact rfl
 exact b_len
 refine Qa ?_ ?_
 exact Qb 7
 exact Qd
 decide
 decide
 exact rfl
 exact rfl
 exact Qe
 refine Qf ?_ ?_
 refine QG ?_
 refine Jt PySem.F.plainAttrs_list PySem.F.slot_list_append PySem.F.type_list_append QB ?_ ?_
 exact Qb 4
 refine Qa ?_ ?_
 refine Qi (k := 2) (ps := ["feed", "boxes", "words"]) ?_ ?_ ?_ ?_ ?_ ?_ ?_ ?_
 exact c__law_plain
 exact hr.mono (by decide)
 exact rfl
 refine Qa ?_ ?_
 exact Qb 0
 refine Qa ?_ ?_
 refine Qn ?_ ?_
 exact Qb 1
 exact Qe
 refine Qa ?_ ?_
 refine Qn ?_ ?_
 exact Qb 1
 exact Qe
 exact Qd
 exact rfl
 decide
 exact rfl
 exact rfl
 exact Qd
 refine Qk ?_
 refine QG ?_
 refine Qi (k := 1) (ps := ["lines", "opened"]) ?_ ?_ ?_ ?_ ?_ ?_ ?_ ?_
 exact c__law_step_on
 exact hr.mono (by decide)
 exact rfl
 refine Qa ?_ ?_
 exact Qb 4
 refine Qa ?_ ?_
 exact Qb 7
 exact Qd
 exact rfl
 decide
 exact rfl
 exact rfl
 refine Qk ?_
 refine Qt ?_
 refine ZC Zz Qu ?_ ?_ PyProof.Rows.boot_tuple ?_ ?_ ?_ ?_ ?_
 exact rfl
 exact b_tuple
 refine Qa ?_ ?_
 refine QH Qx Qj ?_ ?_
 refine Q1 ?_
 refine Qa ?_ ?_
 refine QC ?_
 refine Qa ?_ ?_
 refine Qn ?_ ?_
 exact Qb 2
 exact Qe
 refine Qa ?_ ?_
 refine ZC Zz Qu ?_ ?_ PyProof.Rows.boot_tuple ?_ ?_ ?_ ?_ ?_
 exact rfl
 exact b_tuple
 refine Qa ?_ ?_
 exact Qb 4
 exact Qd
 decide
 decide
 exact rfl
 exact rfl
 exact Qd
 exact Qd
 refine Vz Vj ?_ (Vs (Nb := ["name"]) (cp := [none]) rfl (by decide +kernel) (by decide +kernel) rfl rfl) ?_ (fun _ _ _ _ _ => ?_) (fun _ _ _ _ _ => ?_)
 exact rfl
 refine J9 ?_
 refine Q5 ?_ ?_ ?_
 exact Qb 2
 refine QY ?_
 exact Qe
 exact Zg
 exact QZ (i := 0) (x := "name") (show List.Nodup (["name"] : List Str) from by decide +kernel) rfl (Or.inl rfl)
 refine QC ?_
 refine Qa ?_ ?_
 exact Qb 0
 refine Qa ?_ ?_
 refine QC ?_
 exact Qd
 exact Qd
 exact Qd
 decide
 decide
 exact rfl
 exact rfl
noncomputable def ZR : FM := box frN JE
theorem K8 (d : DefAt K mg "_law_great" Zs ["feed"]) (b_len : mg "len" = none) (b_range : mg "range" = none) (b_tuple : mg "tuple" = none) (c__law_names : Cal P w K mg base 2 "_law_names" ["feed", "many"] QN) (c__law_part : Cal P w K mg base 3 "_law_part" ["feed", "size", "menus", "later", "opens", "dos"] Q0) (c__law_plain : Cal P w K mg base 2 "_law_plain" ["feed", "boxes", "words"] QM) (c__law_step_on : Cal P w K mg base 1 "_law_step_on" ["lines", "opened"] QD) (c__law_take : Cal P w K mg base 1 "_law_take" ["feed", "many"] Qh) : Cal P w K mg base 4 "_law_great" ["feed"] ZR := (K0 d b_len b_range b_tuple c__law_names c__law_part c__law_plain c__law_step_on c__law_take).box frN
noncomputable abbrev JW : Stmt := top 28
theorem Uu : FnScope ["feed", "bounds"] ["feed", "bounds"] (Qs JW) := ⟨rfl, rfl, rfl, by decide +kernel, rfl, by decide +kernel, by decide +kernel⟩
noncomputable def Vd : FM := Zd 0
  (QI (JL (Qy (Ql wEq (Qv 2 Qh (Qc (Qg 0) (Qc (mC (.int 8)) Qm))) (mC (.int 5)))) (Z9 (Qv 1 ZR (Qc (Qg 0) Qm))) Ze)
  (Z9 (Qv 2 Zm (Qc (Qg 0) (Qc (Qg 1) Qm)))))
set_option maxHeartbeats 4000000 in
theorem WN (d : DefAt K mg "_law_any" JW ["feed", "bounds"]) (c__law_great : Cal P w K mg base 4 "_law_great" ["feed"] ZR) (c__law_program : Cal P w K mg base 4 "_law_program" ["feed", "bounds"] Zm) (c__law_take : Cal P w K mg base 1 "_law_take" ["feed", "many"] Qh) : Cal P w K mg base 5 "_law_any" ["feed", "bounds"] Vd := by
 refine Zb (k := 4) (more := 0) d Uu rfl fun f cdv A outer s H E hr => ?_
 have hu := hr.units
 refine Qf ?_ ?_
 refine QJ ?_ ?_ ?_
 refine Qr (QQ ?_) Qj ?_ ?_
 exact hu
 refine Qi (k := 1) (ps := ["feed", "many"]) ?_ ?_ ?_ ?_ ?_ ?_ ?_ ?_
 exact c__law_take
 exact hr.mono (by decide)
 exact rfl
 refine Qa ?_ ?_
 exact Qb 0
 refine Qa ?_ ?_
 exact Qe
 exact Qd
 exact rfl
 decide
 exact rfl
 exact rfl
 exact Qe
 refine Qk ?_
 refine Qt ?_
 refine Qi (k := 4) (ps := ["feed"]) ?_ ?_ ?_ ?_ ?_ ?_ ?_ ?_
 exact c__law_great
 exact hr.mono (by decide)
 exact rfl
 refine Qa ?_ ?_
 exact Qb 0
 exact Qd
 exact rfl
 decide
 exact rfl
 exact rfl
 exact QE
 refine Qk ?_
 refine Qt ?_
 refine Qi (k := 4) (ps := ["feed", "bounds"]) ?_ ?_ ?_ ?_ ?_ ?_ ?_ ?_
 exact c__law_program
 exact hr.mono (by decide)
 exact rfl
 refine Qa ?_ ?_
 exact Qb 0
 refine Qa ?_ ?_
 exact Qb 1
 exact Qd
 exact rfl
 decide
 exact rfl
 exact rfl
noncomputable def JY : FM := box frN Vd
theorem WP (d : DefAt K mg "_law_any" JW ["feed", "bounds"]) (c__law_great : Cal P w K mg base 4 "_law_great" ["feed"] ZR) (c__law_program : Cal P w K mg base 4 "_law_program" ["feed", "bounds"] Zm) (c__law_take : Cal P w K mg base 1 "_law_take" ["feed", "many"] Qh) : Cal P w K mg base 5 "_law_any" ["feed", "bounds"] JY := (WN d c__law_great c__law_program c__law_take).box frN
noncomputable abbrev JH : Stmt := top 19
theorem sc__law_feed : FnScope ["script", "k", "cell", "digits"] ["script", "k"] (Qs JH) := ⟨rfl, rfl, rfl, by decide +kernel, rfl, by decide +kernel, by decide +kernel⟩
noncomputable def Jm : FM := Zd 2
  (QI (Zo 2 (mC (.int 0)))
  (QI (JL (Qy (Ql wLt (Qg 1) (mFn Js (Qc (Qg 0) Qm)))) (Zo 2 (Ql wIx (Qg 0) (Qg 1))) Ze)
  (QI (Zo 3 (mC (.int 0)))
  (QI (JL (Qy (Ql wGe (Qg 2) (Ql QeS (mC (.int 10)) (mC (.int 18))))) (Zo 3 (Ql Ws (Qg 2) (Ql QeS (mC (.int 10)) (mC (.int 18))))) Ze)
  (Z9 (mFn K3 (Qc (Qg 3) (Qc (Ql ZV (Ql Qbh (Ql Xu (Ql Qbh (Qg 2) (mC (.int 2147483647))) (mC (.int 48271))) (mC (.int 2147483647))) (Qg 1)) Qm))))))))
set_option maxHeartbeats 4000000 in
theorem YG (d : DefAt K mg "_law_feed" JH ["script", "k"]) (b_len : mg "len" = none) : Cal P w K mg base 1 "_law_feed" ["script", "k"] Jm := by
 refine Zb (k := 0) (more := 2) d sc__law_feed rfl fun f cdv A outer s H E hr => ?_
 have hu := hr.units
 refine Qf ?_ ?_
 refine Qo ?_ ?_ ?_ ?_ ?_ ?_
 exact sc__law_feed.nd
 exact rfl
 exact (Or.inl rfl)
 exact Qe
 exact rfl
 first | exact .inl rfl | exact .inr rfl
 refine Qf ?_ ?_
 refine QJ ?_ ?_ ?_
 refine Qr Gc Qj ?_ ?_
 exact Qb 1
 refine Qz Qw Qu ?_ ?_ PySem.boot_len ?_ ?_ ?_ ?_ ?_
 exact rfl
 exact b_len
 refine Qa ?_ ?_
 exact Qb 0
 exact Qd
 decide
 decide
 exact rfl
 exact rfl
 refine Qk ?_
 refine Qo ?_ ?_ ?_ ?_ ?_ ?_
 exact sc__law_feed.nd
 exact rfl
 exact (Or.inl rfl)
 refine Qn ?_ ?_
 exact Qb 0
 exact Qb 1
 exact rfl
 first | exact .inl rfl | exact .inr rfl
 exact QE
 refine Qf ?_ ?_
 refine Qo ?_ ?_ ?_ ?_ ?_ ?_
 exact sc__law_feed.nd
 exact rfl
 exact (Or.inl rfl)
 exact Qe
 exact rfl
 first | exact .inl rfl | exact .inr rfl
 refine Qf ?_ ?_
 refine QJ ?_ ?_ ?_
 refine Qr Qfk Qj ?_ ?_
 exact Qb 2
 refine QH Qbb Qj ?_ ?_
 exact Qe
 exact Qe
 refine Qk ?_
 refine Qo ?_ ?_ ?_ ?_ ?_ ?_
 exact sc__law_feed.nd
 exact rfl
 exact (Or.inl rfl)
 refine QH J4 Qj ?_ ?_
 exact Qb 2
 refine QH Qbb Qj ?_ ?_
 exact Qe
 exact Qe
 exact rfl
 first | exact .inl rfl | exact .inr rfl
 exact QE
 refine Qk ?_
 refine Qt ?_
 refine JQ ?_
 refine Qa ?_ ?_
 exact Qb 3
 refine Qa ?_ ?_
 refine QH Qx Qj ?_ ?_
 refine QH XH Qj ?_ ?_
 refine QH V6 Qj ?_ ?_
 refine QH XH Qj ?_ ?_
 exact Qb 2
 exact Qe
 exact Qe
 exact Qe
 exact Qb 1
 exact Qd
noncomputable def Zq : FM := box frR Jm
theorem YC (d : DefAt K mg "_law_feed" JH ["script", "k"]) (b_len : mg "len" = none) : Cal P w K mg base 1 "_law_feed" ["script", "k"] Zq := (YG d b_len).box frR
noncomputable abbrev ZH : Stmt := top 27
theorem sc__law_dressed : FnScope ["program", "feed", "words", "name", "lines", "parts", "fresh", "line"] ["program", "feed"] (Qs ZH) := ⟨rfl, rfl, rfl, by decide +kernel, rfl, by decide +kernel, by decide +kernel⟩
noncomputable abbrev Jv : SM := (ZL (mMt "list" Ys (Qg 2) (Qc (Jd V4 (Ja (Qg 4)) [none] (J2 0) (Qy (Ql wEq (Ql wIx (Qg 0) (mC (.int 0))) (mC (.str "pair")))) (Ql wIx (Qg 0) (mC (.int 2)))) Qm)))
noncomputable abbrev Jw : SM := (QI (JL (Qy (Ql wEq (Qv 2 Qh (Qc (Qg 1) (Qc (mC (.int 4)) Qm))) (mC (.int 0)))) (ZL (mMt "list" QU (Qg 6) (Qc (mFn ZW (Qc (mC (.str "back")) (Qc (Ql wIx (Qg 2) (Qv 2 Qh (Qc (Qg 1) (Qc (mFn Js (Qc (Qg 2) Qm)) Qm)))) Qm))) Qm))) Ze)
  (ZL (mMt "list" QU (Qg 6) (Qc (Qg 7) Qm))))
noncomputable abbrev ZQ : SM := (QI (Zo 6 (mFn K3 Qm))
  (QI (XG (Ja (Qg 4)) (J2 7)
  Jw)
  (QI (JL (Qy (Ql wEq (Qv 2 Qh (Qc (Qg 1) (Qc (mC (.int 4)) Qm))) (mC (.int 0)))) (ZL (mMt "list" QU (Qg 6) (Qc (mFn ZW (Qc (mC (.str "back")) (Qc (Ql wIx (Qg 2) (mC (.int 0))) Qm))) Qm))) Ze)
  (ZL (mMt "list" QU (Qg 5) (Qc (mFn ZW (Qc (Qg 3) (Qc (mFn VO (Qc (Qg 6) Qm)) Qm))) Qm))))))
noncomputable def Zw : FM := Zd 6
  (QI (Zo 2 (mFn K3 Qm))
  (QI (XG (Ja (Qg 0)) (XA [3, 4])
  Jv)
  (QI (JL (Uw (Qy (Ql wEq (mFn Js (Qc (Qg 2) Qm)) (mC (.int 0)))) (Qy (Ql wEq (Qv 2 Qh (Qc (Qg 1) (Qc (mC (.int 2)) Qm))) (mC (.int 0))))) (Z9 (Qg 0)) Ze)
  (QI (Zo 5 (mFn K3 Qm))
  (QI (XG (Ja (Qg 0)) (XA [3, 4])
  ZQ)
  (Z9 (mFn VO (Qc (Qg 5) Qm))))))))
set_option maxHeartbeats 4000000 in
theorem X1 (d : DefAt K mg "_law_dressed" ZH ["program", "feed"]) (b_len : mg "len" = none) (b_tuple : mg "tuple" = none) (c__law_take : Cal P w K mg base 1 "_law_take" ["feed", "many"] Qh) : Cal P w K mg base 2 "_law_dressed" ["program", "feed"] Zw := by
 refine Zb (k := 1) (more := 6) d sc__law_dressed rfl fun f cdv A outer s H E hr => ?_
 have hu := hr.units
 refine Qf ?_ ?_
 refine Qo ?_ ?_ ?_ ?_ ?_ ?_
 exact sc__law_dressed.nd
 exact rfl
 exact (Or.inl rfl)
 refine JQ ?_
 exact Qd
 exact rfl
 first | exact .inl rfl | exact .inr rfl
 refine Qf ?_ ?_
 refine JP ?_ ?_ ?_ ?_ ?_ ?_
 exact PassesOwn.never
 exact rfl
 refine J9 ?_
 exact Qb 0
 refine Kp (is := [3, 4]) ?_ ?_ ?_ ?_
 exact rfl
 refine ZY (i := 3) (x := "name") sc__law_dressed.nd rfl (Or.inl rfl) ?_ ?_
 refine ZY (i := 4) (x := "lines") sc__law_dressed.nd rfl (Or.inl rfl) ?_ ?_
 exact Ks
 first | exact .inl rfl | exact .inr rfl
 first | exact .inl rfl | exact .inr rfl
 exact rfl
 exact rfl
 refine Qk ?_
 refine QG ?_
 refine Jt PySem.F.plainAttrs_list PySem.F.slot_list_extend PySem.F.type_list_extend GB ?_ ?_
 exact Qb 2
 refine Qa ?_ ?_
 refine QbM Vj ?_ (Vs (Nb := ["line"]) (cp := [none]) rfl (by decide +kernel) (by decide +kernel) rfl rfl) ?_ (fun _ _ _ _ _ => ?_) (fun _ _ _ _ _ => ?_) (fun _ _ _ _ _ => ?_)
 exact rfl
 refine J9 ?_
 exact Qb 4
 exact QZ (i := 0) (x := "line") (show List.Nodup (["line"] : List Str) from by decide +kernel) rfl (Or.inl rfl)
 refine Qr (QQ ?_) Qj ?_ ?_
 exact hu
 refine Qn ?_ ?_
 exact Qb 0
 exact Qe
 exact QP
 refine Qn ?_ ?_
 exact Qb 0
 exact Qe
 exact Qd
 exact fun _ => rfl
 refine Qf ?_ ?_
 refine QJ ?_ ?_ ?_
 refine PMW.pt ?_
 refine Xv ?_ ?_
 refine Qr (QQ ?_) Qj ?_ ?_
 exact hu
 refine Qz Qw Qu ?_ ?_ PySem.boot_len ?_ ?_ ?_ ?_ ?_
 exact rfl
 exact b_len
 refine Qa ?_ ?_
 exact Qb 2
 exact Qd
 decide
 decide
 exact rfl
 exact rfl
 exact Qe
 refine VT ?_
 refine Qr (QQ ?_) Qj ?_ ?_
 exact hu
 refine Qi (k := 1) (ps := ["feed", "many"]) ?_ ?_ ?_ ?_ ?_ ?_ ?_ ?_
 exact c__law_take
 exact hr.mono (by decide)
 exact rfl
 refine Qa ?_ ?_
 exact Qb 1
 refine Qa ?_ ?_
 exact Qe
 exact Qd
 exact rfl
 decide
 exact rfl
 exact rfl
 exact Qe
 refine Qk ?_
 refine Qt ?_
 exact Qb 0
 exact QE
 refine Qf ?_ ?_
 refine Qo ?_ ?_ ?_ ?_ ?_ ?_
 exact sc__law_dressed.nd
 exact rfl
 exact (Or.inl rfl)
 refine JQ ?_
 exact Qd
 exact rfl
 first | exact .inl rfl | exact .inr rfl
 refine Qf ?_ ?_
 refine JP ?_ ?_ ?_ ?_ ?_ ?_
 exact PassesOwn.never
 exact rfl
 refine J9 ?_
 exact Qb 0
 refine Kp (is := [3, 4]) ?_ ?_ ?_ ?_
 exact rfl
 refine ZY (i := 3) (x := "name") sc__law_dressed.nd rfl (Or.inl rfl) ?_ ?_
 refine ZY (i := 4) (x := "lines") sc__law_dressed.nd rfl (Or.inl rfl) ?_ ?_
 exact Ks
 first | exact .inl rfl | exact .inr rfl
 first | exact .inl rfl | exact .inr rfl
 exact rfl
 exact rfl
 refine Qf ?_ ?_
 refine Qo ?_ ?_ ?_ ?_ ?_ ?_
 exact sc__law_dressed.nd
 exact rfl
 exact (Or.inl rfl)
 refine JQ ?_
 exact Qd
 exact rfl
 first | exact .inl rfl | exact .inr rfl
 refine Qf ?_ ?_
 refine JP ?_ ?_ ?_ ?_ ?_ ?_
 exact PassesOwn.never
 exact rfl
 refine J9 ?_
 exact Qb 4
 exact QZ (i := 7) (x := "line") sc__law_dressed.nd rfl (Or.inl rfl)
 refine Qf ?_ ?_
 refine QJ ?_ ?_ ?_
 refine Qr (QQ ?_) Qj ?_ ?_
 exact hu
 refine Qi (k := 1) (ps := ["feed", "many"]) ?_ ?_ ?_ ?_ ?_ ?_ ?_ ?_
 exact c__law_take
 exact hr.mono (by decide)
 exact rfl
 refine Qa ?_ ?_
 exact Qb 1
 refine Qa ?_ ?_
 exact Qe
 exact Qd
 exact rfl
 decide
 exact rfl
 exact rfl
 exact Qe
 refine Qk ?_
 refine QG ?_
 refine Jt PySem.F.plainAttrs_list PySem.F.slot_list_append PySem.F.type_list_append QB ?_ ?_
 exact Qb 6
 refine Qa ?_ ?_
 refine QC ?_
 refine Qa ?_ ?_
 exact QP
 refine Qa ?_ ?_
 refine Qn ?_ ?_
 exact Qb 2
 refine Qi (k := 1) (ps := ["feed", "many"]) ?_ ?_ ?_ ?_ ?_ ?_ ?_ ?_
 exact c__law_take
 exact hr.mono (by decide)
 exact rfl
 refine Qa ?_ ?_
 exact Qb 1
 refine Qa ?_ ?_
 refine Qz Qw Qu ?_ ?_ PySem.boot_len ?_ ?_ ?_ ?_ ?_
 exact rfl
 exact b_len
 refine Qa ?_ ?_
 exact Qb 2
 exact Qd
 decide
 decide
 exact rfl
 exact rfl
 exact Qd
 exact rfl
 decide
 exact rfl
 exact rfl
 exact Qd
 exact Qd
 exact QE
 refine Qk ?_
 refine QG ?_
 refine Jt PySem.F.plainAttrs_list PySem.F.slot_list_append PySem.F.type_list_append QB ?_ ?_
 exact Qb 6
 refine Qa ?_ ?_
 exact Qb 7
 exact Qd
 exact fun _ => rfl
 refine Qf ?_ ?_
 refine QJ ?_ ?_ ?_
 refine Qr (QQ ?_) Qj ?_ ?_
 exact hu
 refine Qi (k := 1) (ps := ["feed", "many"]) ?_ ?_ ?_ ?_ ?_ ?_ ?_ ?_
 exact c__law_take
 exact hr.mono (by decide)
 exact rfl
 refine Qa ?_ ?_
 exact Qb 1
 refine Qa ?_ ?_
 exact Qe
 exact Qd
 exact rfl
 decide
 exact rfl
 exact rfl
 exact Qe
 refine Qk ?_
 refine QG ?_
 refine Jt PySem.F.plainAttrs_list PySem.F.slot_list_append PySem.F.type_list_append QB ?_ ?_
 exact Qb 6
 refine Qa ?_ ?_
 refine QC ?_
 refine Qa ?_ ?_
 exact QP
 refine Qa ?_ ?_
 refine Qn ?_ ?_
 exact Qb 2
 exact Qe
 exact Qd
 exact Qd
 exact QE
 refine Qk ?_
 refine QG ?_
 refine Jt PySem.F.plainAttrs_list PySem.F.slot_list_append PySem.F.type_list_append QB ?_ ?_
 exact Qb 5
 refine Qa ?_ ?_
 refine QC ?_
 refine Qa ?_ ?_
 exact Qb 3
 refine Qa ?_ ?_
 refine ZC Zz Qu ?_ ?_ PyProof.Rows.boot_tuple ?_ ?_ ?_ ?_ ?_
 exact rfl
 exact b_tuple
 refine Qa ?_ ?_
 exact Qb 6
 exact Qd
 decide
 decide
 exact rfl
 exact rfl
 exact Qd
 exact Qd
 exact fun _ => rfl
 refine Qk ?_
 refine Qt ?_
 refine ZC Zz Qu ?_ ?_ PyProof.Rows.boot_tuple ?_ ?_ ?_ ?_ ?_
 exact rfl
 exact b_tuple
 refine Qa ?_ ?_
 exact Qb 5
 exact Qd
 decide
 decide
 exact rfl
 exact rfl
noncomputable def ZJ : FM := box frN Zw
theorem X2 (d : DefAt K mg "_law_dressed" ZH ["program", "feed"]) (b_len : mg "len" = none) (b_tuple : mg "tuple" = none) (c__law_take : Cal P w K mg base 1 "_law_take" ["feed", "many"] Qh) : Cal P w K mg base 2 "_law_dressed" ["program", "feed"] ZJ := (X1 d b_len b_tuple c__law_take).box frN
noncomputable abbrev JI : Stmt := top 30
theorem sc__law_next : FnScope ["program", "rows", "spot", "way", "part", "k", "head", "lines", "word"] ["program", "rows", "spot"] (Qs JI) := ⟨rfl, rfl, rfl, by decide +kernel, rfl, by decide +kernel, by decide +kernel⟩
noncomputable def Zf : SM := (QI (JL (Qy (Ql wEq (Qg 8) (mC (.str "either")))) (Z9 (mFn Vf (Qc (mFn ZW (Qc (Qg 3) (Qc (Qg 4) (Qc (Ql ZV (Qg 5) (mC (.int 1))) (Qc (mC (.bl false)) Qm))))) (Qc (mFn ZW (Qc (Qg 3) (Qc (Qg 4) (Qc (Ql ZV (Ql wIx (Ql wIx (Ql wIx (Qg 1) (Qg 4)) (Qg 5)) (mC (.int 1))) (mC (.int 1))) (Qc (mC (.bl false)) Qm))))) Qm)))) Ze)
  (QI (JL (Qy (Ql wEq (Qg 8) (mC (.str "or")))) (Z9 (mFn Vf (Qc (mFn ZW (Qc (Qg 3) (Qc (Qg 4) (Qc (Ql ZV (Ql wIx (Ql wIx (Ql wIx (Qg 1) (Qg 4)) (Qg 5)) (mC (.int 2))) (mC (.int 1))) (Qc (mC (.bl false)) Qm))))) Qm))) Ze)
  (QI (JL (Qy (Ql wEq (Qg 8) (mC (.str "again")))) (Z9 (mFn Vf (Qc (mFn ZW (Qc (Qg 3) (Qc (Qg 4) (Qc (Qg 5) (Qc (mC (.bl true)) Qm))))) Qm))) Ze)
  (QI (JL (J1 (Qy (Ql wEq (Qg 8) (mC (.str "end")))) (Qy (Ql wEq (Ql wIx (Ql wIx (Qg 7) (Ql wIx (Ql wIx (Ql wIx (Qg 1) (Qg 4)) (Qg 5)) (mC (.int 0)))) (mC (.int 0))) (mC (.str "again"))))) (Z9 (mFn Vf (Qc (mFn ZW (Qc (Qg 3) (Qc (Qg 4) (Qc (Ql wIx (Ql wIx (Ql wIx (Qg 1) (Qg 4)) (Qg 5)) (mC (.int 0))) (Qc (mC (.bl true)) Qm))))) Qm))) Ze)
  (QI (JL (Qy (Ql wEq (Qg 8) (mC (.str "do")))) (Z9 (mFn Vf (Qc (mFn ZW (Qc (Ql ZV (Qg 3) (mFn ZW (Qc (mFn ZW (Qc (Qg 4) (Qc (Qg 5) Qm))) Qm))) (Qc (mMt "list" XR (Jd V4 (Ja (Qg 0)) [none, none] (XA [0, 1]) Ku (Qg 0)) (Qc (Ql wIx (Ql wIx (Qg 7) (Qg 5)) (mC (.int 1))) Qm)) (Qc (mC (.int 0)) (Qc (mC (.bl false)) Qm))))) Qm))) Ze)
  (Z9 (mFn Vf (Qc (mFn ZW (Qc (Qg 3) (Qc (Qg 4) (Qc (Ql ZV (Qg 5) (mC (.int 1))) (Qc (mC (.bl false)) Qm))))) Qm))))))))
noncomputable def Zh : FM := Zd 6
  (QI (Qh8 (XA [3, 4, 5, 6]) (Qg 2))
  (QI (Zo 7 (Ql wIx (Ql wIx (Qg 0) (Qg 4)) (mC (.int 1))))
  (QI (JL (QcL (Qg 6)) (Z9 (mFn Vf (Qc (mFn ZW (Qc (Qg 3) (Qc (Qg 4) (Qc (Ql ZV (Ql wIx (Ql wIx (Ql wIx (Qg 1) (Qg 4)) (Qg 5)) (mC (.int 2))) (mC (.int 1))) (Qc (mC (.bl false)) Qm))))) (Qc (mFn ZW (Qc (Qg 3) (Qc (Qg 4) (Qc (Ql ZV (Qg 5) (mC (.int 1))) (Qc (mC (.bl false)) Qm))))) Qm)))) Ze)
  (QI (JL (J1 (Qy (Ql wEq (Qg 5) (mFn Js (Qc (Qg 7) Qm)))) (Qy (Ql wGt (mFn Js (Qc (Qg 3) Qm)) (mC (.int 0))))) (Z9 (mFn Vf (Qc (mFn ZW (Qc (mSl (Qg 3) Vr (Zp (mUn XD (mC (.int 1))))) (Qc (Ql wIx (Ql wIx (Qg 3) (mUn XD (mC (.int 1)))) (mC (.int 0))) (Qc (Ql ZV (Ql wIx (Ql wIx (Qg 3) (mUn XD (mC (.int 1)))) (mC (.int 1))) (mC (.int 1))) (Qc (mC (.bl false)) Qm))))) Qm))) Ze)
  (QI (JL (Qy (Ql wEq (Qg 5) (mFn Js (Qc (Qg 7) Qm)))) (Z9 (mFn Vf Qm)) Ze)
  (QI (Zo 8 (Ql wIx (Ql wIx (Qg 7) (Qg 5)) (mC (.int 0))))
  Zf))))))
set_option maxHeartbeats 4000000 in
theorem YJ (d : DefAt K mg "_law_next" JI ["program", "rows", "spot"]) (b_len : mg "len" = none) : Cal P w K mg base 1 "_law_next" ["program", "rows", "spot"] Zh := by
 refine Zb (k := 0) (more := 6) d sc__law_next rfl fun f cdv A outer s H E hr => ?_
 have hu := hr.units
 refine Qf ?_ ?_
 refine QdC ?_ ?_ ?_ ?_ ?_
 exact Qb 2
 refine Kp (is := [3, 4, 5, 6]) ?_ ?_ ?_ ?_
 exact rfl
 refine ZY (i := 3) (x := "way") sc__law_next.nd rfl (Or.inl rfl) ?_ ?_
 refine ZY (i := 4) (x := "part") sc__law_next.nd rfl (Or.inl rfl) ?_ ?_
 refine ZY (i := 5) (x := "k") sc__law_next.nd rfl (Or.inl rfl) ?_ ?_
 refine ZY (i := 6) (x := "head") sc__law_next.nd rfl (Or.inl rfl) ?_ ?_
 exact Ks
 first | exact .inl rfl | exact .inr rfl
 first | exact .inl rfl | exact .inr rfl
 first | exact .inl rfl | exact .inr rfl
 first | exact .inl rfl | exact .inr rfl
 exact rfl
 exact rfl
 exact rfl
 exact rfl
 exact rfl
 refine Qf ?_ ?_
 refine Qo ?_ ?_ ?_ ?_ ?_ ?_
 exact sc__law_next.nd
 exact rfl
 exact (Or.inl rfl)
 refine Qn ?_ ?_
 refine Qn ?_ ?_
 exact Qb 0
 exact Qb 4
 exact Qe
 exact rfl
 first | exact .inl rfl | exact .inr rfl
 refine Qf ?_ ?_
 refine QJ ?_ ?_ ?_
 refine XN ?_
 exact Qb 6
 refine Qk ?_
 refine Qt ?_
 refine Q1 ?_
 refine Qa ?_ ?_
 refine QC ?_
 refine Qa ?_ ?_
 exact Qb 3
 refine Qa ?_ ?_
 exact Qb 4
 refine Qa ?_ ?_
 refine QH Qx Qj ?_ ?_
 refine Qn ?_ ?_
 refine Qn ?_ ?_
 refine Qn ?_ ?_
 exact Qb 1
 exact Qb 4
 exact Qb 5
 exact Qe
 exact Qe
 refine Qa ?_ ?_
 exact Jo
 exact Qd
 refine Qa ?_ ?_
 refine QC ?_
 refine Qa ?_ ?_
 exact Qb 3
 refine Qa ?_ ?_
 exact Qb 4
 refine Qa ?_ ?_
 refine QH Qx Qj ?_ ?_
 exact Qb 5
 exact Qe
 refine Qa ?_ ?_
 exact Jo
 exact Qd
 exact Qd
 exact QE
 refine Qf ?_ ?_
 refine QJ ?_ ?_ ?_
 refine PMW.pt ?_
 refine Ve ?_ ?_
 refine Qr (QQ ?_) Qj ?_ ?_
 exact hu
 exact Qb 5
 refine Qz Qw Qu ?_ ?_ PySem.boot_len ?_ ?_ ?_ ?_ ?_
 exact rfl
 exact b_len
 refine Qa ?_ ?_
 exact Qb 7
 exact Qd
 decide
 decide
 exact rfl
 exact rfl
 refine JR ?_
 refine Qr VM Qj ?_ ?_
 refine Qz Qw Qu ?_ ?_ PySem.boot_len ?_ ?_ ?_ ?_ ?_
 exact rfl
 exact b_len
 refine Qa ?_ ?_
 exact Qb 3
 exact Qd
 decide
 decide
 exact rfl
 exact rfl
 exact Qe
 refine Qk ?_
 refine Qt ?_
 refine Q1 ?_
 refine Qa ?_ ?_
 refine QC ?_
 refine Qa ?_ ?_
 refine Q5 ?_ ?_ ?_
 exact Qb 3
 exact Zg
 refine QY ?_
 refine Zx ?_
 exact Qe
 refine Qa ?_ ?_
 refine Qn ?_ ?_
 refine Qn ?_ ?_
 exact Qb 3
 refine Zx ?_
 exact Qe
 exact Qe
 refine Qa ?_ ?_
 refine QH Qx Qj ?_ ?_
 refine Qn ?_ ?_
 refine Qn ?_ ?_
 exact Qb 3
 refine Zx ?_
 exact Qe
 exact Qe
 exact Qe
 refine Qa ?_ ?_
 exact Jo
 exact Qd
 exact Qd
 exact QE
 refine Qf ?_ ?_
 refine QJ ?_ ?_ ?_
 refine Qr (QQ ?_) Qj ?_ ?_
 exact hu
 exact Qb 5
 refine Qz Qw Qu ?_ ?_ PySem.boot_len ?_ ?_ ?_ ?_ ?_
 exact rfl
 exact b_len
 refine Qa ?_ ?_
 exact Qb 7
 exact Qd
 decide
 decide
 exact rfl
 exact rfl
 refine Qk ?_
 refine Qt ?_
 refine Q1 ?_
 exact Qd
 exact QE
 refine Qf ?_ ?_
 refine Qo ?_ ?_ ?_ ?_ ?_ ?_
 exact sc__law_next.nd
 exact rfl
 exact (Or.inl rfl)
 refine Qn ?_ ?_
 refine Qn ?_ ?_
 exact Qb 7
 exact Qb 5
 exact Qe
 exact rfl
 first | exact .inl rfl | exact .inr rfl
 refine Qf ?_ ?_
 refine QJ ?_ ?_ ?_
 refine Qr (QQ ?_) Qj ?_ ?_
 exact hu
 exact Qb 8
 exact QP
 refine Qk ?_
 refine Qt ?_
 refine Q1 ?_
 refine Qa ?_ ?_
 refine QC ?_
 refine Qa ?_ ?_
 exact Qb 3
 refine Qa ?_ ?_
 exact Qb 4
 refine Qa ?_ ?_
 refine QH Qx Qj ?_ ?_
 exact Qb 5
 exact Qe
 refine Qa ?_ ?_
 exact Jo
 exact Qd
 refine Qa ?_ ?_
 refine QC ?_
 refine Qa ?_ ?_
 exact Qb 3
 refine Qa ?_ ?_
 exact Qb 4
 refine Qa ?_ ?_
 refine QH Qx Qj ?_ ?_
 refine Qn ?_ ?_
 refine Qn ?_ ?_
 refine Qn ?_ ?_
 exact Qb 1
 exact Qb 4
 exact Qb 5
 exact Qe
 exact Qe
 refine Qa ?_ ?_
 exact Jo
 exact Qd
 exact Qd
 exact QE
 refine Qf ?_ ?_
 refine QJ ?_ ?_ ?_
 refine Qr (QQ ?_) Qj ?_ ?_
 exact hu
 exact Qb 8
 exact QP
 refine Qk ?_
 refine Qt ?_
 refine Q1 ?_
 refine Qa ?_ ?_
 refine QC ?_
 refine Qa ?_ ?_
 exact Qb 3
 refine Qa ?_ ?_
 exact Qb 4
 refine Qa ?_ ?_
 refine QH Qx Qj ?_ ?_
 refine Qn ?_ ?_
 refine Qn ?_ ?_
 refine Qn ?_ ?_
 exact Qb 1
 exact Qb 4
 exact Qb 5
 exact Qe
 exact Qe
 refine Qa ?_ ?_
 exact Jo
 exact Qd
 exact Qd
 exact QE
 refine Qf ?_ ?_
 refine QJ ?_ ?_ ?_
 refine Qr (QQ ?_) Qj ?_ ?_
 exact hu
 exact Qb 8
 exact QP
 refine Qk ?_
 refine Qt ?_
 refine Q1 ?_
 refine Qa ?_ ?_
 refine QC ?_
 refine Qa ?_ ?_
 exact Qb 3
 refine Qa ?_ ?_
 exact Qb 4
 refine Qa ?_ ?_
 exact Qb 5
 refine Qa ?_ ?_
 exact Jo
 exact Qd
 exact Qd
 exact QE
 refine Qf ?_ ?_
 refine QJ ?_ ?_ ?_
 refine PMW.pt ?_
 refine Ve ?_ ?_
 refine Qr (QQ ?_) Qj ?_ ?_
 exact hu
 exact Qb 8
 exact QP
 refine JR ?_
 refine Qr (QQ ?_) Qj ?_ ?_
 exact hu
 refine Qn ?_ ?_
 refine Qn ?_ ?_
 exact Qb 7
 refine Qn ?_ ?_
 refine Qn ?_ ?_
 refine Qn ?_ ?_
 exact Qb 1
 exact Qb 4
 exact Qb 5
 exact Qe
 exact Qe
 exact QP
 refine Qk ?_
 refine Qt ?_
 refine Q1 ?_
 refine Qa ?_ ?_
 refine QC ?_
 refine Qa ?_ ?_
 exact Qb 3
 refine Qa ?_ ?_
 exact Qb 4
 refine Qa ?_ ?_
 refine Qn ?_ ?_
 refine Qn ?_ ?_
 refine Qn ?_ ?_
 exact Qb 1
 exact Qb 4
 exact Qb 5
 exact Qe
 refine Qa ?_ ?_
 exact Jo
 exact Qd
 exact Qd
 exact QE
 refine Qf ?_ ?_
 refine QJ ?_ ?_ ?_
 refine Qr (QQ ?_) Qj ?_ ?_
 exact hu
 exact Qb 8
 exact QP
 refine Qk ?_
 refine Qt ?_
 refine Q1 ?_
 refine Qa ?_ ?_
 refine QC ?_
 refine Qa ?_ ?_
 refine QH Qx Qj ?_ ?_
 exact Qb 3
 refine QC ?_
 refine Qa ?_ ?_
 refine QC ?_
 refine Qa ?_ ?_
 exact Qb 4
 refine Qa ?_ ?_
 exact Qb 5
 exact Qd
 exact Qd
 refine Qa ?_ ?_
 refine Jt PySem.F.plainAttrs_list PySem.F.slot_list_index PySem.F.type_list_index (WD ?_) ?_ ?_
 exact hu
 refine Vz Vj ?_ (Vs (Nb := ["name", "inner"]) (cp := [none, none]) rfl (by decide +kernel) (by decide +kernel) rfl rfl) ?_ (fun _ _ _ _ _ => ?_) (fun _ _ _ _ _ => ?_)
 exact rfl
 refine J9 ?_
 exact Qb 0
 refine Kp (is := [0, 1]) ?_ ?_ ?_ ?_
 exact rfl
 refine ZY (i := 0) (x := "name") (show List.Nodup (["name", "inner"] : List Str) from by decide +kernel) rfl (Or.inl rfl) ?_ ?_
 refine ZY (i := 1) (x := "inner") (show List.Nodup (["name", "inner"] : List Str) from by decide +kernel) rfl (Or.inl rfl) ?_ ?_
 exact Ks
 first | exact .inl rfl | exact .inr rfl
 first | exact .inl rfl | exact .inr rfl
 exact rfl
 exact rfl
 exact Qb 0
 refine Qa ?_ ?_
 refine Qn ?_ ?_
 refine Qn ?_ ?_
 exact Qb 7
 exact Qb 5
 exact Qe
 exact Qd
 refine Qa ?_ ?_
 exact Qe
 refine Qa ?_ ?_
 exact Jo
 exact Qd
 exact Qd
 exact QE
 refine Qk ?_
 refine Qt ?_
 refine Q1 ?_
 refine Qa ?_ ?_
 refine QC ?_
 refine Qa ?_ ?_
 exact Qb 3
 refine Qa ?_ ?_
 exact Qb 4
 refine Qa ?_ ?_
 refine QH Qx Qj ?_ ?_
 exact Qb 5
 exact Qe
 refine Qa ?_ ?_
 exact Jo
 exact Qd
 exact Qd
noncomputable def QL : FM := box frN Zh
theorem Yt (d : DefAt K mg "_law_next" JI ["program", "rows", "spot"]) (b_len : mg "len" = none) : Cal P w K mg base 1 "_law_next" ["program", "rows", "spot"] QL := (YJ d b_len).box frN
noncomputable abbrev J7 : Stmt := top 32
theorem sc__law_run : FnScope ["program", "rows", "feed", "run", "left", "others"] ["program", "rows", "feed"] (Qs J7) := ⟨rfl, rfl, rfl, by decide +kernel, rfl, by decide +kernel, by decide +kernel⟩
noncomputable abbrev ZT : SM := (QI (JL (Qy (Ql wEq (mFn Js (Qc (Qg 5) Qm)) (mC (.int 1)))) (ZL (mMt "list" QU (Qg 3) (Qc (Ql wIx (Qg 5) (mC (.int 0))) Qm))) (QI (ZL (mMt "list" QU (Qg 3) (Qc (Ql wIx (Qg 5) (Qv 2 Qh (Qc (Qg 2) (Qc (mC (.int 2)) Qm)))) Qm)))
  (Zo 4 (Ql Ws (Qg 4) (mC (.int 1))))))
  (Zo 5 (Qv 3 QL (Qc (Qg 0) (Qc (Qg 1) (Qc (Ql wIx (Qg 3) (mUn XD (mC (.int 1)))) Qm))))))
noncomputable def VX : FM := Zd 3
  (QI (Zo 3 (mFn K3 (Qc (mFn ZW (Qc (mFn ZW Qm) (Qc (mC (.int 0)) (Qc (mC (.int 0)) (Qc (mC (.bl false)) Qm))))) Qm)))
  (QI (Zo 4 (Qv 2 Qh (Qc (Qg 2) (Qc (mC (.int 21)) Qm))))
  (QI (Zo 5 (Qv 3 QL (Qc (Qg 0) (Qc (Qg 1) (Qc (Ql wIx (Qg 3) (mC (.int 0))) Qm)))))
  (QI (QX (Uw (Qy (Ql wEq (mFn Js (Qc (Qg 5) Qm)) (mC (.int 1)))) (J1 (Qy (Ql wGt (mFn Js (Qc (Qg 5) Qm)) (mC (.int 1)))) (Qy (Ql wGt (Qg 4) (mC (.int 0)))))) ZT 20000000)
  (Z9 (mSl (Qg 3) Vr (Zp (Ql ZV (mC (.int 1)) (Qv 2 Qh (Qc (Qg 2) (Qc (mFn Js (Qc (Qg 3) Qm)) Qm)))))))))))
set_option maxHeartbeats 4000000 in
theorem Wi (d : DefAt K mg "_law_run" J7 ["program", "rows", "feed"]) (b_len : mg "len" = none) (c__law_next : Cal P w K mg base 1 "_law_next" ["program", "rows", "spot"] QL) (c__law_take : Cal P w K mg base 1 "_law_take" ["feed", "many"] Qh) : Cal P w K mg base 2 "_law_run" ["program", "rows", "feed"] VX := by
 refine Zb (k := 1) (more := 3) d sc__law_run rfl fun f cdv A outer s H E hr => ?_
 have hu := hr.units
 refine Qf ?_ ?_
 refine Qo ?_ ?_ ?_ ?_ ?_ ?_
 exact sc__law_run.nd
 exact rfl
 exact (Or.inl rfl)
 refine JQ ?_
 refine Qa ?_ ?_
 refine QC ?_
 refine Qa ?_ ?_
 refine QC ?_
 exact Qd
 refine Qa ?_ ?_
 exact Qe
 refine Qa ?_ ?_
 exact Qe
 refine Qa ?_ ?_
 exact Jo
 exact Qd
 exact Qd
 exact rfl
 first | exact .inl rfl | exact .inr rfl
 refine Qf ?_ ?_
 refine Qo ?_ ?_ ?_ ?_ ?_ ?_
 exact sc__law_run.nd
 exact rfl
 exact (Or.inl rfl)
 refine Qi (k := 1) (ps := ["feed", "many"]) ?_ ?_ ?_ ?_ ?_ ?_ ?_ ?_
 exact c__law_take
 exact hr.mono (by decide)
 exact rfl
 refine Qa ?_ ?_
 exact Qb 2
 refine Qa ?_ ?_
 exact Qe
 exact Qd
 exact rfl
 decide
 exact rfl
 exact rfl
 exact rfl
 first | exact .inl rfl | exact .inr rfl
 refine Qf ?_ ?_
 refine Qo ?_ ?_ ?_ ?_ ?_ ?_
 exact sc__law_run.nd
 exact rfl
 exact (Or.inl rfl)
 refine Qi (k := 1) (ps := ["program", "rows", "spot"]) ?_ ?_ ?_ ?_ ?_ ?_ ?_ ?_
 exact c__law_next
 exact hr.mono (by decide)
 exact rfl
 refine Qa ?_ ?_
 exact Qb 0
 refine Qa ?_ ?_
 exact Qb 1
 refine Qa ?_ ?_
 refine Qn ?_ ?_
 exact Qb 3
 exact Qe
 exact Qd
 exact rfl
 decide
 exact rfl
 exact rfl
 exact rfl
 first | exact .inl rfl | exact .inr rfl
 refine Qf ?_ ?_
 refine Xq 20000000 ?_ ?_ ?_
 exact PassesOwn.never
 refine PMW.pt ?_
 refine Xv ?_ ?_
 refine Qr (QQ ?_) Qj ?_ ?_
 exact hu
 refine Qz Qw Qu ?_ ?_ PySem.boot_len ?_ ?_ ?_ ?_ ?_
 exact rfl
 exact b_len
 refine Qa ?_ ?_
 exact Qb 5
 exact Qd
 decide
 decide
 exact rfl
 exact rfl
 exact Qe
 refine VT ?_
 refine PMW.pt ?_
 refine Ve ?_ ?_
 refine Qr VM Qj ?_ ?_
 refine Qz Qw Qu ?_ ?_ PySem.boot_len ?_ ?_ ?_ ?_ ?_
 exact rfl
 exact b_len
 refine Qa ?_ ?_
 exact Qb 5
 exact Qd
 decide
 decide
 exact rfl
 exact rfl
 exact Qe
 refine JR ?_
 refine Qr VM Qj ?_ ?_
 exact Qb 4
 exact Qe
 refine Qf ?_ ?_
 refine QJ ?_ ?_ ?_
 refine Qr (QQ ?_) Qj ?_ ?_
 exact hu
 refine Qz Qw Qu ?_ ?_ PySem.boot_len ?_ ?_ ?_ ?_ ?_
 exact rfl
 exact b_len
 refine Qa ?_ ?_
 exact Qb 5
 exact Qd
 decide
 decide
 exact rfl
 exact rfl
 exact Qe
 refine Qk ?_
 refine QG ?_
 refine Jt PySem.F.plainAttrs_list PySem.F.slot_list_append PySem.F.type_list_append QB ?_ ?_
 exact Qb 3
 refine Qa ?_ ?_
 refine Qn ?_ ?_
 exact Qb 5
 exact Qe
 exact Qd
 refine Qf ?_ ?_
 refine QG ?_
 refine Jt PySem.F.plainAttrs_list PySem.F.slot_list_append PySem.F.type_list_append QB ?_ ?_
 exact Qb 3
 refine Qa ?_ ?_
 refine Qn ?_ ?_
 exact Qb 5
 refine Qi (k := 1) (ps := ["feed", "many"]) ?_ ?_ ?_ ?_ ?_ ?_ ?_ ?_
 exact c__law_take
 exact hr.mono (by decide)
 exact rfl
 refine Qa ?_ ?_
 exact Qb 2
 refine Qa ?_ ?_
 exact Qe
 exact Qd
 exact rfl
 decide
 exact rfl
 exact rfl
 exact Qd
 refine Qk ?_
 refine Qo ?_ ?_ ?_ ?_ ?_ ?_
 exact sc__law_run.nd
 exact rfl
 exact (Or.inl rfl)
 refine QH J4 Qj ?_ ?_
 exact Qb 4
 exact Qe
 exact rfl
 first | exact .inl rfl | exact .inr rfl
 refine Qk ?_
 refine Qo ?_ ?_ ?_ ?_ ?_ ?_
 exact sc__law_run.nd
 exact rfl
 exact (Or.inl rfl)
 refine Qi (k := 1) (ps := ["program", "rows", "spot"]) ?_ ?_ ?_ ?_ ?_ ?_ ?_ ?_
 exact c__law_next
 exact hr.mono (by decide)
 exact rfl
 refine Qa ?_ ?_
 exact Qb 0
 refine Qa ?_ ?_
 exact Qb 1
 refine Qa ?_ ?_
 refine Qn ?_ ?_
 exact Qb 3
 refine Zx ?_
 exact Qe
 exact Qd
 exact rfl
 decide
 exact rfl
 exact rfl
 exact rfl
 first | exact .inl rfl | exact .inr rfl
 refine Qk ?_
 refine Qt ?_
 refine Q5 ?_ ?_ ?_
 exact Qb 3
 exact Zg
 refine QY ?_
 refine QH Qx Qj ?_ ?_
 exact Qe
 refine Qi (k := 1) (ps := ["feed", "many"]) ?_ ?_ ?_ ?_ ?_ ?_ ?_ ?_
 exact c__law_take
 exact hr.mono (by decide)
 exact rfl
 refine Qa ?_ ?_
 exact Qb 2
 refine Qa ?_ ?_
 refine Qz Qw Qu ?_ ?_ PySem.boot_len ?_ ?_ ?_ ?_ ?_
 exact rfl
 exact b_len
 refine Qa ?_ ?_
 exact Qb 3
 exact Qd
 decide
 decide
 exact rfl
 exact rfl
 exact Qd
 exact rfl
 decide
 exact rfl
 exact rfl
noncomputable def J3 : FM := box frN VX
theorem Wr (d : DefAt K mg "_law_run" J7 ["program", "rows", "feed"]) (b_len : mg "len" = none) (c__law_next : Cal P w K mg base 1 "_law_next" ["program", "rows", "spot"] QL) (c__law_take : Cal P w K mg base 1 "_law_take" ["feed", "many"] Qh) : Cal P w K mg base 2 "_law_run" ["program", "rows", "feed"] J3 := (Wi d b_len c__law_next c__law_take).box frN
noncomputable abbrev ZZ : Stmt := top 29
theorem sc__law_blocks : FnScope ["lines", "rows", "opened", "k"] ["lines"] (Qs ZZ) := ⟨rfl, rfl, rfl, by decide +kernel, rfl, by decide +kernel, by decide +kernel⟩
noncomputable abbrev JM : SM := (QI (JL (Uw (Qy (Ql wEq (Ql wIx (Ql wIx (Qg 0) (Qg 3)) (mC (.int 0))) (mC (.str "either")))) (Qy (Ql wEq (Ql wIx (Ql wIx (Qg 0) (Qg 3)) (mC (.int 0))) (mC (.str "again"))))) (ZL (mMt "list" QU (Qg 2) (Qc (mFn K3 (Qc (Qg 3) (Qc (Qg 3) (Qc (Qg 3) Qm)))) Qm))) Ze)
  (QI (JL (Qy (Ql wGt (mFn Js (Qc (Qg 2) Qm)) (mC (.int 0)))) (GO (Qg 1) (Qg 3) (Ql wIx (Qg 2) (mUn XD (mC (.int 1))))) Ze)
  (QI (JL (Qy (Ql wEq (Ql wIx (Ql wIx (Qg 0) (Qg 3)) (mC (.int 0))) (mC (.str "or")))) (GO (Ql wIx (Qg 2) (mUn XD (mC (.int 1)))) (mC (.int 1)) (Qg 3)) Ze)
  (JL (Qy (Ql wEq (Ql wIx (Ql wIx (Qg 0) (Qg 3)) (mC (.int 0))) (mC (.str "end")))) (QI (GO (Ql wIx (Qg 2) (mUn XD (mC (.int 1)))) (mC (.int 2)) (Qg 3))
  (ZL (mMt "list" QeY (Qg 2) Qm))) Ze))))
noncomputable def ZE : FM := Zd 3
  (QI (Zo 1 (Jd QdI (Ja (Qg 0)) [none] (J2 0) Ku (mC .non)))
  (QI (Zo 2 (mFn K3 Qm))
  (QI (XG (Ya (Qc (mFn Js (Qc (Qg 0) Qm)) Qm)) (J2 3)
  JM)
  (Z9 (Qg 1)))))
set_option maxHeartbeats 4000000 in
theorem KO (d : DefAt K mg "_law_blocks" ZZ ["lines"]) (b_len : mg "len" = none) (b_range : mg "range" = none) : Cal P w K mg base 1 "_law_blocks" ["lines"] ZE := by
 refine Zb (k := 0) (more := 3) d sc__law_blocks rfl fun f cdv A outer s H E hr => ?_
 have hu := hr.units
 refine Qf ?_ ?_
 refine KP sc__law_blocks.nd rfl (Or.inl rfl) ?_ QaB ?_ (Vs (Nb := ["line"]) (cp := [none]) rfl (by decide +kernel) (by decide +kernel) rfl rfl) ?_ (fun _ _ _ _ _ => ?_) (fun _ _ _ _ _ => ?_) ?_ ?_
 first | exact .inl rfl | exact .inr rfl
 exact rfl
 refine J9 ?_
 exact Qb 0
 exact QZ (i := 0) (x := "line") (show List.Nodup (["line"] : List Str) from by decide +kernel) rfl (Or.inl rfl)
 exact WE
 exact fun _ => rfl
 exact rfl
 refine Qf ?_ ?_
 refine Qo ?_ ?_ ?_ ?_ ?_ ?_
 exact sc__law_blocks.nd
 exact rfl
 exact (Or.inl rfl)
 refine JQ ?_
 exact Qd
 exact rfl
 first | exact .inl rfl | exact .inr rfl
 refine Qf ?_ ?_
 refine JP ?_ ?_ ?_ ?_ ?_ ?_
 exact PassesOwn.never
 exact rfl
 refine XU ?_ ?_ ?_ ?_
 exact rfl
 exact b_range
 refine Qa ?_ ?_
 refine Qz Qw Qu ?_ ?_ PySem.boot_len ?_ ?_ ?_ ?_ ?_
 exact rfl
 exact b_len
 refine Qa ?_ ?_
 exact Qb 0
 exact Qd
 decide
 decide
 exact rfl
 exact rfl
 exact Qd
 exact rfl
 exact QZ (i := 3) (x := "k") sc__law_blocks.nd rfl (Or.inl rfl)
 refine Qf ?_ ?_
 refine QJ ?_ ?_ ?_
 refine PMW.pt ?_
 refine Xv ?_ ?_
 refine Qr (QQ ?_) Qj ?_ ?_
 exact hu
 refine Qn ?_ ?_
 refine Qn ?_ ?_
 exact Qb 0
 exact Qb 3
 exact Qe
 exact QP
 refine VT ?_
 refine Qr (QQ ?_) Qj ?_ ?_
 exact hu
 refine Qn ?_ ?_
 refine Qn ?_ ?_
 exact Qb 0
 exact Qb 3
 exact Qe
 exact QP
 refine Qk ?_
 refine QG ?_
 refine Jt PySem.F.plainAttrs_list PySem.F.slot_list_append PySem.F.type_list_append QB ?_ ?_
 exact Qb 2
 refine Qa ?_ ?_
 refine JQ ?_
 refine Qa ?_ ?_
 exact Qb 3
 refine Qa ?_ ?_
 exact Qb 3
 refine Qa ?_ ?_
 exact Qb 3
 exact Qd
 exact Qd
 exact QE
 refine Qf ?_ ?_
 refine QJ ?_ ?_ ?_
 refine Qr VM Qj ?_ ?_
 refine Qz Qw Qu ?_ ?_ PySem.boot_len ?_ ?_ ?_ ?_ ?_
 exact rfl
 exact b_len
 refine Qa ?_ ?_
 exact Qb 2
 exact Qd
 decide
 decide
 exact rfl
 exact rfl
 exact Qe
 refine Qk ?_
 refine VI ?_ ?_ ?_ ?_ ?_ ?_
 exact Qb 1
 exact Qb 3
 refine Qn ?_ ?_
 exact Qb 2
 refine Zx ?_
 exact Qe
 exact fun _ => rfl
 exact rfl
 exact rfl
 exact QE
 refine Qf ?_ ?_
 refine QJ ?_ ?_ ?_
 refine Qr (QQ ?_) Qj ?_ ?_
 exact hu
 refine Qn ?_ ?_
 refine Qn ?_ ?_
 exact Qb 0
 exact Qb 3
 exact Qe
 exact QP
 refine Qk ?_
 refine VI ?_ ?_ ?_ ?_ ?_ ?_
 refine Qn ?_ ?_
 exact Qb 2
 refine Zx ?_
 exact Qe
 exact Qe
 exact Qb 3
 exact fun _ => rfl
 exact rfl
 exact rfl
 exact QE
 refine Qk ?_
 refine QJ ?_ ?_ ?_
 refine Qr (QQ ?_) Qj ?_ ?_
 exact hu
 refine Qn ?_ ?_
 refine Qn ?_ ?_
 exact Qb 0
 exact Qb 3
 exact Qe
 exact QP
 refine Qf ?_ ?_
 refine VI ?_ ?_ ?_ ?_ ?_ ?_
 refine Qn ?_ ?_
 exact Qb 2
 refine Zx ?_
 exact Qe
 exact Qe
 exact Qb 3
 exact fun _ => rfl
 exact rfl
 exact rfl
 refine Qk ?_
 refine QG ?_
 refine QbG PySem.F.plainAttrs_list PySem.F.slot_list_pop PySem.F.type_list_pop Ur ?_
 exact Qb 2
 exact QE
 exact fun _ => rfl
 refine Qk ?_
 refine Qt ?_
 exact Qb 1
noncomputable def QS : FM := box frN ZE
theorem KI (d : DefAt K mg "_law_blocks" ZZ ["lines"]) (b_len : mg "len" = none) (b_range : mg "range" = none) : Cal P w K mg base 1 "_law_blocks" ["lines"] QS := (KO d b_len b_range).box frN
noncomputable abbrev J6 : Stmt := top 31
theorem sc__law_all : FnScope ["program", "rows", "met", "path", "others", "spot"] ["program", "rows"] (Qs J6) := ⟨rfl, rfl, rfl, by decide +kernel, rfl, by decide +kernel, by decide +kernel⟩
noncomputable abbrev ZO : SM := (QI (Zo 4 (Qv 3 QL (Qc (Qg 0) (Qc (Qg 1) (Qc (Ql wIx (Ql wIx (Qg 3) (mUn XD (mC (.int 1)))) (mC (.int 0))) Qm)))))
  (JL (Qy (Ql wEq (Ql wIx (Ql wIx (Qg 3) (mUn XD (mC (.int 1)))) (mC (.int 1))) (mFn Js (Qc (Qg 4) Qm)))) (ZL (mMt "list" QeY (Qg 3) Qm)) (QI (Zo 5 (Ql wIx (Qg 4) (Ql wIx (Ql wIx (Qg 3) (mUn XD (mC (.int 1)))) (mC (.int 1)))))
  (QI (GO (Ql wIx (Qg 3) (mUn XD (mC (.int 1)))) (mC (.int 1)) (Ql ZV (Ql wIx (Ql wIx (Qg 3) (mUn XD (mC (.int 1)))) (mC (.int 1))) (mC (.int 1))))
  (JL (Qy (Ql (QeE true) (Qg 5) (Qg 2))) (QI (Qay (Qg 2) (Qg 5) (mC (.bl true)))
  (ZL (mMt "list" QU (Qg 3) (Qc (mFn K3 (Qc (Qg 5) (Qc (mC (.int 0)) Qm))) Qm)))) Ze)))))
noncomputable def VV : FM := Zd 4
  (QI (Zo 2 (Qb8 (mFn ZW (Qc (mFn ZW Qm) (Qc (mC (.int 0)) (Qc (mC (.int 0)) (Qc (mC (.bl false)) Qm))))) (mC (.bl true))))
  (QI (Zo 3 (mFn K3 (Qc (mFn K3 (Qc (mFn ZW (Qc (mFn ZW Qm) (Qc (mC (.int 0)) (Qc (mC (.int 0)) (Qc (mC (.bl false)) Qm))))) (Qc (mC (.int 0)) Qm))) Qm)))
  (QI (QX (Qy (Ql wGt (mFn Js (Qc (Qg 3) Qm)) (mC (.int 0)))) ZO 20000000)
  (Z9 (mFn Y6 (Qc (Qg 2) Qm))))))
set_option maxHeartbeats 4000000 in
theorem Wa (d : DefAt K mg "_law_all" J6 ["program", "rows"]) (b_len : mg "len" = none) (b_list : mg "list" = none) (c__law_next : Cal P w K mg base 1 "_law_next" ["program", "rows", "spot"] QL) : Cal P w K mg base 2 "_law_all" ["program", "rows"] VV := by
 refine Zb (k := 1) (more := 4) d sc__law_all rfl fun f cdv A outer s H E hr => ?_
 have hu := hr.units
 refine Qf ?_ ?_
 refine Qo ?_ ?_ ?_ ?_ ?_ ?_
 exact sc__law_all.nd
 exact rfl
 exact (Or.inl rfl)
 refine QcJ ?_ ?_ ?_
 exact hu
 refine QC ?_
 refine Qa ?_ ?_
 refine QC ?_
 exact Qd
 refine Qa ?_ ?_
 exact Qe
 refine Qa ?_ ?_
 exact Qe
 refine Qa ?_ ?_
 exact Jo
 exact Qd
 exact Jo
 exact rfl
 first | exact .inl rfl | exact .inr rfl
 refine Qf ?_ ?_
 refine Qo ?_ ?_ ?_ ?_ ?_ ?_
 exact sc__law_all.nd
 exact rfl
 exact (Or.inl rfl)
 refine JQ ?_
 refine Qa ?_ ?_
 refine JQ ?_
 refine Qa ?_ ?_
 refine QC ?_
 refine Qa ?_ ?_
 refine QC ?_
 exact Qd
 refine Qa ?_ ?_
 exact Qe
 refine Qa ?_ ?_
 exact Qe
 refine Qa ?_ ?_
 exact Jo
 exact Qd
 refine Qa ?_ ?_
 exact Qe
 exact Qd
 exact Qd
 exact rfl
 first | exact .inl rfl | exact .inr rfl
 refine Qf ?_ ?_
 refine Xq 20000000 ?_ ?_ ?_
 exact PassesOwn.never
 refine Qr VM Qj ?_ ?_
 refine Qz Qw Qu ?_ ?_ PySem.boot_len ?_ ?_ ?_ ?_ ?_
 exact rfl
 exact b_len
 refine Qa ?_ ?_
 exact Qb 3
 exact Qd
 decide
 decide
 exact rfl
 exact rfl
 exact Qe
 refine Qf ?_ ?_
 refine Qo ?_ ?_ ?_ ?_ ?_ ?_
 exact sc__law_all.nd
 exact rfl
 exact (Or.inl rfl)
 refine Qi (k := 1) (ps := ["program", "rows", "spot"]) ?_ ?_ ?_ ?_ ?_ ?_ ?_ ?_
 exact c__law_next
 exact hr.mono (by decide)
 exact rfl
 refine Qa ?_ ?_
 exact Qb 0
 refine Qa ?_ ?_
 exact Qb 1
 refine Qa ?_ ?_
 refine Qn ?_ ?_
 refine Qn ?_ ?_
 exact Qb 3
 refine Zx ?_
 exact Qe
 exact Qe
 exact Qd
 exact rfl
 decide
 exact rfl
 exact rfl
 exact rfl
 first | exact .inl rfl | exact .inr rfl
 refine Qk ?_
 refine QJ ?_ ?_ ?_
 refine Qr (QQ ?_) Qj ?_ ?_
 exact hu
 refine Qn ?_ ?_
 refine Qn ?_ ?_
 exact Qb 3
 refine Zx ?_
 exact Qe
 exact Qe
 refine Qz Qw Qu ?_ ?_ PySem.boot_len ?_ ?_ ?_ ?_ ?_
 exact rfl
 exact b_len
 refine Qa ?_ ?_
 exact Qb 4
 exact Qd
 decide
 decide
 exact rfl
 exact rfl
 refine Qk ?_
 refine QG ?_
 refine QbG PySem.F.plainAttrs_list PySem.F.slot_list_pop PySem.F.type_list_pop Ur ?_
 exact Qb 3
 refine Qf ?_ ?_
 refine Qo ?_ ?_ ?_ ?_ ?_ ?_
 exact sc__law_all.nd
 exact rfl
 exact (Or.inl rfl)
 refine Qn ?_ ?_
 exact Qb 4
 refine Qn ?_ ?_
 refine Qn ?_ ?_
 exact Qb 3
 refine Zx ?_
 exact Qe
 exact Qe
 exact rfl
 first | exact .inl rfl | exact .inr rfl
 refine Qf ?_ ?_
 refine VI ?_ ?_ ?_ ?_ ?_ ?_
 refine Qn ?_ ?_
 exact Qb 3
 refine Zx ?_
 exact Qe
 exact Qe
 refine QH Qx Qj ?_ ?_
 refine Qn ?_ ?_
 refine Qn ?_ ?_
 exact Qb 3
 refine Zx ?_
 exact Qe
 exact Qe
 exact Qe
 exact fun _ => rfl
 exact rfl
 exact rfl
 refine Qk ?_
 refine QJ ?_ ?_ ?_
 refine Qr (Gy ?_) Qj ?_ ?_
 exact hu
 exact Qb 5
 exact Qb 2
 refine Qf ?_ ?_
 refine Qcu ?_ ?_ ?_ ?_ ?_
 exact hu
 exact Qb 2
 exact Qb 5
 exact Jo
 exact rfl
 refine Qk ?_
 refine QG ?_
 refine Jt PySem.F.plainAttrs_list PySem.F.slot_list_append PySem.F.type_list_append QB ?_ ?_
 exact Qb 3
 refine Qa ?_ ?_
 refine JQ ?_
 refine Qa ?_ ?_
 exact Qb 5
 refine Qa ?_ ?_
 exact Qe
 exact Qd
 exact Qd
 exact QE
 refine Qk ?_
 refine Qt ?_
 refine ZC (WW ?_) Qu ?_ ?_ PyProof.Rows.boot_list ?_ ?_ ?_ ?_ ?_
 exact rfl
 exact rfl
 exact b_list
 refine Qa ?_ ?_
 exact Qb 2
 exact Qd
 decide
 decide
 exact rfl
 exact rfl
noncomputable def JA : FM := box frN VV
theorem Wz (d : DefAt K mg "_law_all" J6 ["program", "rows"]) (b_len : mg "len" = none) (b_list : mg "list" = none) (c__law_next : Cal P w K mg base 1 "_law_next" ["program", "rows", "spot"] QL) : Cal P w K mg base 2 "_law_all" ["program", "rows"] JA := (Wa d b_len b_list c__law_next).box frN
noncomputable abbrev Jf : Stmt := top 33
theorem sc__law_bent : FnScope ["program", "rows", "run", "feed", "every", "at", "other", "one", "here", "twins", "twin", "swapped", "ways"] ["program", "rows", "run", "feed"] (Qs Jf) := ⟨rfl, rfl, rfl, by decide +kernel, rfl, by decide +kernel, by decide +kernel⟩
noncomputable def VC : FM := Zd 9
  (QI (Zo 4 (Qv 2 JA (Qc (Qg 0) (Qc (Qg 1) Qm))))
  (QI (Zo 5 (Qv 2 Qh (Qc (Qg 3) (Qc (mFn Js (Qc (Qg 2) Qm)) Qm))))
  (QI (Zo 6 (Ql wIx (Qg 2) (Qv 2 Qh (Qc (Qg 3) (Qc (mFn Js (Qc (Qg 2) Qm)) Qm)))))
  (QI (Zo 7 (Ql wIx (Qg 4) (Qv 2 Qh (Qc (Qg 3) (Qc (mFn Js (Qc (Qg 4) Qm)) Qm)))))
  (QI (Zo 8 (Ql wIx (Qg 2) (Qg 5)))
  (QI (Zo 9 (Jd V4 (Ja (Qg 4)) [none, some 8] (J2 0) (J1 (Qy (Ql wEq (mSl (Qg 0) (Zp (mC (.int 1))) (Zp (mC (.int 3)))) (mSl (Qg 1) (Zp (mC (.int 1))) (Zp (mC (.int 3)))))) (Qy (Ql wNe (Qg 0) (Qg 1)))) (Qg 0)))
  (QI (Zo 10 (Ql wIx (Ql ZV (Qg 9) (mFn Vf (Qc (Qg 7) Qm))) (mC (.int 0))))
  (QI (Zo 11 (mFn UI (Qc (Qg 2) Qm)))
  (QI (GO (Qg 11) (Qg 5) (Ql wIx (Qg 2) (mUn XD (mC (.int 1)))))
  (QI (GO (Qg 11) (mUn XD (mC (.int 1))) (Ql wIx (Qg 2) (Qg 5)))
  (QI (Zo 12 (mFn K3 (Qc (mSl (Qg 2) (Zp (mC (.int 1))) Vr) (Qc (Qg 11) (Qc (Qg 2) (Qc (Ql ZV (Qg 2) (mFn Vf (Qc (Qg 7) Qm))) Qm))))))
  (QI (ZL (mMt "list" QU (Qg 12) (Qc (Ql ZV (mSl (Qg 2) Vr (Zp (Qg 5))) (mSl (Qg 2) (Zp (Ql ZV (Qg 5) (mC (.int 1)))) Vr)) Qm)))
  (QI (ZL (mMt "list" QU (Qg 12) (Qc (Ql ZV (Ql ZV (mSl (Qg 2) Vr (Zp (Qg 5))) (mFn Vf (Qc (Ql wIx (Qg 2) (Qg 5)) Qm))) (mSl (Qg 2) (Zp (Qg 5)) Vr)) Qm)))
  (QI (ZL (mMt "list" QU (Qg 12) (Qc (Ql ZV (Ql ZV (mSl (Qg 2) Vr (Zp (Qg 5))) (mFn Vf (Qc (Qg 6) Qm))) (mSl (Qg 2) (Zp (Ql ZV (Qg 5) (mC (.int 1)))) Vr)) Qm)))
  (QI (ZL (mMt "list" QU (Qg 12) (Qc (Ql ZV (Ql ZV (mSl (Qg 2) Vr (Zp (Qg 5))) (mFn Vf (Qc (Qg 7) Qm))) (mSl (Qg 2) (Zp (Ql ZV (Qg 5) (mC (.int 1)))) Vr)) Qm)))
  (QI (ZL (mMt "list" QU (Qg 12) (Qc (Ql ZV (Ql ZV (mSl (Qg 2) Vr (Zp (Qg 5))) (mFn Vf (Qc (Qg 10) Qm))) (mSl (Qg 2) (Zp (Ql ZV (Qg 5) (mC (.int 1)))) Vr)) Qm)))
  (Z9 (Ql wIx (Qg 12) (Qv 2 Qh (Qc (Qg 3) (Qc (mC (.int 9)) Qm)))))))))))))))))))))
set_option maxHeartbeats 4000000 in
theorem Yz (d : DefAt K mg "_law_bent" Jf ["program", "rows", "run", "feed"]) (b_len : mg "len" = none) (b_list : mg "list" = none) (c__law_all : Cal P w K mg base 2 "_law_all" ["program", "rows"] JA) (c__law_take : Cal P w K mg base 1 "_law_take" ["feed", "many"] Qh) : Cal P w K mg base 3 "_law_bent" ["program", "rows", "run", "feed"] VC := by
 refine Zb (k := 2) (more := 9) d sc__law_bent rfl fun f cdv A outer s H E hr => ?_
 have hu := hr.units
 refine Qf ?_ ?_
 refine Qo ?_ ?_ ?_ ?_ ?_ ?_
 exact sc__law_bent.nd
 exact rfl
 exact (Or.inl rfl)
 refine Qi (k := 2) (ps := ["program", "rows"]) ?_ ?_ ?_ ?_ ?_ ?_ ?_ ?_
 exact c__law_all
 exact hr.mono (by decide)
 exact rfl
 refine Qa ?_ ?_
 exact Qb 0
 refine Qa ?_ ?_
 exact Qb 1
 exact Qd
 exact rfl
 decide
 exact rfl
 exact rfl
 exact rfl
 first | exact .inl rfl | exact .inr rfl
 refine Qf ?_ ?_
 refine Qo ?_ ?_ ?_ ?_ ?_ ?_
 exact sc__law_bent.nd
 exact rfl
 exact (Or.inl rfl)
 refine Qi (k := 1) (ps := ["feed", "many"]) ?_ ?_ ?_ ?_ ?_ ?_ ?_ ?_
 exact c__law_take
 exact hr.mono (by decide)
 exact rfl
 refine Qa ?_ ?_
 exact Qb 3
 refine Qa ?_ ?_
 refine Qz Qw Qu ?_ ?_ PySem.boot_len ?_ ?_ ?_ ?_ ?_
 exact rfl
 exact b_len
 refine Qa ?_ ?_
 exact Qb 2
 exact Qd
 decide
 decide
 exact rfl
 exact rfl
 exact Qd
 exact rfl
 decide
 exact rfl
 exact rfl
 exact rfl
 first | exact .inl rfl | exact .inr rfl
 refine Qf ?_ ?_
 refine Qo ?_ ?_ ?_ ?_ ?_ ?_
 exact sc__law_bent.nd
 exact rfl
 exact (Or.inl rfl)
 refine Qn ?_ ?_
 exact Qb 2
 refine Qi (k := 1) (ps := ["feed", "many"]) ?_ ?_ ?_ ?_ ?_ ?_ ?_ ?_
 exact c__law_take
 exact hr.mono (by decide)
 exact rfl
 refine Qa ?_ ?_
 exact Qb 3
 refine Qa ?_ ?_
 refine Qz Qw Qu ?_ ?_ PySem.boot_len ?_ ?_ ?_ ?_ ?_
 exact rfl
 exact b_len
 refine Qa ?_ ?_
 exact Qb 2
 exact Qd
 decide
 decide
 exact rfl
 exact rfl
 exact Qd
 exact rfl
 decide
 exact rfl
 exact rfl
 exact rfl
 first | exact .inl rfl | exact .inr rfl
 refine Qf ?_ ?_
 refine Qo ?_ ?_ ?_ ?_ ?_ ?_
 exact sc__law_bent.nd
 exact rfl
 exact (Or.inl rfl)
 refine Qn ?_ ?_
 exact Qb 4
 refine Qi (k := 1) (ps := ["feed", "many"]) ?_ ?_ ?_ ?_ ?_ ?_ ?_ ?_
 exact c__law_take
 exact hr.mono (by decide)
 exact rfl
 refine Qa ?_ ?_
 exact Qb 3
 refine Qa ?_ ?_
 refine Qz Qw Qu ?_ ?_ PySem.boot_len ?_ ?_ ?_ ?_ ?_
 exact rfl
 exact b_len
 refine Qa ?_ ?_
 exact Qb 4
 exact Qd
 decide
 decide
 exact rfl
 exact rfl
 exact Qd
 exact rfl
 decide
 exact rfl
 exact rfl
 exact rfl
 first | exact .inl rfl | exact .inr rfl
 refine Qf ?_ ?_
 refine Qo ?_ ?_ ?_ ?_ ?_ ?_
 exact sc__law_bent.nd
 exact rfl
 exact (Or.inr rfl)
 refine Qn ?_ ?_
 exact Qb 2
 exact Qb 5
 exact rfl
 first | exact .inl rfl | exact .inr rfl
 refine Qf ?_ ?_
 refine Qbl sc__law_bent.nd rfl (Or.inl rfl) ?_ Vj ?_ (Yi (ks := ["here"]) (Nb := ["spot", "here"]) (cp := [none, some 8]) (N := ["program", "rows", "run", "feed", "every", "at", "other", "one", "here", "twins", "twin", "swapped", "ways"]) (xs := (Qs Jf)) rfl rfl (by decide +kernel) rfl (by decide +kernel) (by intro p hp; simp only [List.mem_cons, List.not_mem_nil, or_false] at hp; rcases hp with rfl <;> rfl) rfl rfl rfl (by decide +kernel)) ?_ (fun _ _ _ _ _ => ?_) (fun _ _ _ _ _ => ?_) (fun _ _ _ _ _ => ?_) ?_ ?_
 first | exact .inl rfl | exact .inr rfl
 exact rfl
 refine J9 ?_
 exact Qb 4
 exact QZ (i := 0) (x := "spot") (show List.Nodup (["spot", "here"] : List Str) from by decide +kernel) rfl (Or.inl rfl)
 refine PMW.pt ?_
 refine Ve ?_ ?_
 refine Qr (QQ ?_) Qj ?_ ?_
 exact hu
 refine Q5 ?_ ?_ ?_
 exact Qb 0
 refine QY ?_
 exact Qe
 refine QY ?_
 exact Qe
 refine Q5 ?_ ?_ ?_
 exact Qb 1
 refine QY ?_
 exact Qe
 refine QY ?_
 exact Qe
 refine JR ?_
 refine Qr (Wy ?_) Qj ?_ ?_
 exact hu
 exact Qb 0
 exact Qb 1
 exact Qb 0
 exact fun _ => rfl
 exact rfl
 refine Qf ?_ ?_
 refine Qo ?_ ?_ ?_ ?_ ?_ ?_
 exact sc__law_bent.nd
 exact rfl
 exact (Or.inl rfl)
 refine Qn ?_ ?_
 refine QH Qx Qj ?_ ?_
 exact Qb 9
 refine Q1 ?_
 refine Qa ?_ ?_
 exact Qb 7
 exact Qd
 exact Qe
 exact rfl
 first | exact .inl rfl | exact .inr rfl
 refine Qf ?_ ?_
 refine Qo ?_ ?_ ?_ ?_ ?_ ?_
 exact sc__law_bent.nd
 exact rfl
 exact (Or.inl rfl)
 refine ZC WX Qu ?_ ?_ PyProof.Rows.boot_list ?_ ?_ ?_ ?_ ?_
 exact rfl
 exact b_list
 refine Qa ?_ ?_
 exact Qb 2
 exact Qd
 decide
 decide
 exact rfl
 exact rfl
 exact rfl
 first | exact .inl rfl | exact .inr rfl
 refine Qf ?_ ?_
 refine VI ?_ ?_ ?_ ?_ ?_ ?_
 exact Qb 11
 exact Qb 5
 refine Qn ?_ ?_
 exact Qb 2
 refine Zx ?_
 exact Qe
 exact fun _ => rfl
 exact rfl
 exact rfl
 refine Qf ?_ ?_
 refine VI ?_ ?_ ?_ ?_ ?_ ?_
 exact Qb 11
 refine Zx ?_
 exact Qe
 refine Qn ?_ ?_
 exact Qb 2
 exact Qb 5
 exact fun _ => rfl
 exact rfl
 exact rfl
 refine Qf ?_ ?_
 refine Qo ?_ ?_ ?_ ?_ ?_ ?_
 exact sc__law_bent.nd
 exact rfl
 exact (Or.inl rfl)
 refine JQ ?_
 refine Qa ?_ ?_
 refine Q5 ?_ ?_ ?_
 exact Qb 2
 refine QY ?_
 exact Qe
 exact Zg
 refine Qa ?_ ?_
 exact Qb 11
 refine Qa ?_ ?_
 exact Qb 2
 refine Qa ?_ ?_
 refine QH Qx Qj ?_ ?_
 exact Qb 2
 refine Q1 ?_
 refine Qa ?_ ?_
 exact Qb 7
 exact Qd
 exact Qd
 exact rfl
 first | exact .inl rfl | exact .inr rfl
 refine Qf ?_ ?_
 refine QG ?_
 refine Jt PySem.F.plainAttrs_list PySem.F.slot_list_append PySem.F.type_list_append QB ?_ ?_
 exact Qb 12
 refine Qa ?_ ?_
 refine QH Qx Qj ?_ ?_
 refine Q5 ?_ ?_ ?_
 exact Qb 2
 exact Zg
 refine QY ?_
 exact Qb 5
 refine Q5 ?_ ?_ ?_
 exact Qb 2
 refine QY ?_
 refine QH Qx Qj ?_ ?_
 exact Qb 5
 exact Qe
 exact Zg
 exact Qd
 refine Qf ?_ ?_
 refine QG ?_
 refine Jt PySem.F.plainAttrs_list PySem.F.slot_list_append PySem.F.type_list_append QB ?_ ?_
 exact Qb 12
 refine Qa ?_ ?_
 refine QH Qx Qj ?_ ?_
 refine QH Qx Qj ?_ ?_
 refine Q5 ?_ ?_ ?_
 exact Qb 2
 exact Zg
 refine QY ?_
 exact Qb 5
 refine Q1 ?_
 refine Qa ?_ ?_
 refine Qn ?_ ?_
 exact Qb 2
 exact Qb 5
 exact Qd
 refine Q5 ?_ ?_ ?_
 exact Qb 2
 refine QY ?_
 exact Qb 5
 exact Zg
 exact Qd
 refine Qf ?_ ?_
 refine QG ?_
 refine Jt PySem.F.plainAttrs_list PySem.F.slot_list_append PySem.F.type_list_append QB ?_ ?_
 exact Qb 12
 refine Qa ?_ ?_
 refine QH Qx Qj ?_ ?_
 refine QH Qx Qj ?_ ?_
 refine Q5 ?_ ?_ ?_
 exact Qb 2
 exact Zg
 refine QY ?_
 exact Qb 5
 refine Q1 ?_
 refine Qa ?_ ?_
 exact Qb 6
 exact Qd
 refine Q5 ?_ ?_ ?_
 exact Qb 2
 refine QY ?_
 refine QH Qx Qj ?_ ?_
 exact Qb 5
 exact Qe
 exact Zg
 exact Qd
 refine Qf ?_ ?_
 refine QG ?_
 refine Jt PySem.F.plainAttrs_list PySem.F.slot_list_append PySem.F.type_list_append QB ?_ ?_
 exact Qb 12
 refine Qa ?_ ?_
 refine QH Qx Qj ?_ ?_
 refine QH Qx Qj ?_ ?_
 refine Q5 ?_ ?_ ?_
 exact Qb 2
 exact Zg
 refine QY ?_
 exact Qb 5
 refine Q1 ?_
 refine Qa ?_ ?_
 exact Qb 7
 exact Qd
 refine Q5 ?_ ?_ ?_
 exact Qb 2
 refine QY ?_
 refine QH Qx Qj ?_ ?_
 exact Qb 5
 exact Qe
 exact Zg
 exact Qd
 refine Qf ?_ ?_
 refine QG ?_
 refine Jt PySem.F.plainAttrs_list PySem.F.slot_list_append PySem.F.type_list_append QB ?_ ?_
 exact Qb 12
 refine Qa ?_ ?_
 refine QH Qx Qj ?_ ?_
 refine QH Qx Qj ?_ ?_
 refine Q5 ?_ ?_ ?_
 exact Qb 2
 exact Zg
 refine QY ?_
 exact Qb 5
 refine Q1 ?_
 refine Qa ?_ ?_
 exact Qb 10
 exact Qd
 refine Q5 ?_ ?_ ?_
 exact Qb 2
 refine QY ?_
 refine QH Qx Qj ?_ ?_
 exact Qb 5
 exact Qe
 exact Zg
 exact Qd
 refine Qk ?_
 refine Qt ?_
 refine Qn ?_ ?_
 exact Qb 12
 refine Qi (k := 1) (ps := ["feed", "many"]) ?_ ?_ ?_ ?_ ?_ ?_ ?_ ?_
 exact c__law_take
 exact hr.mono (by decide)
 exact rfl
 refine Qa ?_ ?_
 exact Qb 3
 refine Qa ?_ ?_
 exact Qe
 exact Qd
 exact rfl
 decide
 exact rfl
 exact rfl
noncomputable def Q8 : FM := box frN VC
theorem YL (d : DefAt K mg "_law_bent" Jf ["program", "rows", "run", "feed"]) (b_len : mg "len" = none) (b_list : mg "list" = none) (c__law_all : Cal P w K mg base 2 "_law_all" ["program", "rows"] JA) (c__law_take : Cal P w K mg base 1 "_law_take" ["feed", "many"] Qh) : Cal P w K mg base 3 "_law_bent" ["program", "rows", "run", "feed"] Q8 := (Yz d b_len b_list c__law_all c__law_take).box frN
noncomputable abbrev Jl : Stmt := top 9
theorem Yx : FnScope [] [] (Qs Jl) := ⟨rfl, rfl, rfl, by decide +kernel, rfl, by decide +kernel, by decide +kernel⟩
noncomputable def Vh : FM := Zd 0
  (Z9 (mFn ZW (Qc (mFn ZW Qm) (Qc (mC (.int 0)) (Qc (mC (.int 0)) (Qc (mC (.bl false)) Qm))))))
set_option maxHeartbeats 4000000 in
theorem KU (d : DefAt K mg "first_spot" Jl []) : Cal P w K mg base 1 "first_spot" [] Vh := by
 refine Zb (k := 0) (more := 0) d Yx rfl fun f cdv A outer s H E hr => ?_
 have hu := hr.units
 refine Qk ?_
 refine Qt ?_
 refine QC ?_
 refine Qa ?_ ?_
 refine QC ?_
 exact Qd
 refine Qa ?_ ?_
 exact Qe
 refine Qa ?_ ?_
 exact Qe
 refine Qa ?_ ?_
 exact Jo
 exact Qd
noncomputable def ZN : FM := box frN Vh
theorem K6 (d : DefAt K mg "first_spot" Jl []) : Cal P w K mg base 1 "first_spot" [] ZN := (KU d).box frN
noncomputable abbrev Vm : Stmt := top 10
theorem sc_line_of : FnScope ["program", "spot", "lines"] ["program", "spot"] (Qs Vm) := ⟨rfl, rfl, rfl, by decide +kernel, rfl, by decide +kernel, by decide +kernel⟩
noncomputable def JZ : FM := Zd 1
  (QI (Zo 2 (Ql wIx (Ql wIx (Qg 0) (Ql wIx (Qg 1) (mC (.int 1)))) (mC (.int 1))))
  (QI (JL (Uw (QcL (Ql wIx (Qg 1) (mC (.int 3)))) (Qy (Ql wEq (Ql wIx (Qg 1) (mC (.int 2))) (mFn Js (Qc (Qg 2) Qm))))) (Z9 (mC .non)) Ze)
  (Z9 (Ql wIx (Qg 2) (Ql wIx (Qg 1) (mC (.int 2)))))))
set_option maxHeartbeats 4000000 in
theorem Ub (d : DefAt K mg "line_of" Vm ["program", "spot"]) (b_len : mg "len" = none) : Cal P w K mg base 1 "line_of" ["program", "spot"] JZ := by
 refine Zb (k := 0) (more := 1) d sc_line_of rfl fun f cdv A outer s H E hr => ?_
 have hu := hr.units
 refine Qf ?_ ?_
 refine Qo ?_ ?_ ?_ ?_ ?_ ?_
 exact sc_line_of.nd
 exact rfl
 exact (Or.inl rfl)
 refine Qn ?_ ?_
 refine Qn ?_ ?_
 exact Qb 0
 refine Qn ?_ ?_
 exact Qb 1
 exact Qe
 exact Qe
 exact rfl
 first | exact .inl rfl | exact .inr rfl
 refine Qf ?_ ?_
 refine QJ ?_ ?_ ?_
 refine PMW.pt ?_
 refine Xv ?_ ?_
 refine XN ?_
 refine Qn ?_ ?_
 exact Qb 1
 exact Qe
 refine VT ?_
 refine Qr (QQ ?_) Qj ?_ ?_
 exact hu
 refine Qn ?_ ?_
 exact Qb 1
 exact Qe
 refine Qz Qw Qu ?_ ?_ PySem.boot_len ?_ ?_ ?_ ?_ ?_
 exact rfl
 exact b_len
 refine Qa ?_ ?_
 exact Qb 2
 exact Qd
 decide
 decide
 exact rfl
 exact rfl
 refine Qk ?_
 refine Qt ?_
 exact WE
 exact QE
 refine Qk ?_
 refine Qt ?_
 refine Qn ?_ ?_
 exact Qb 2
 refine Qn ?_ ?_
 exact Qb 1
 exact Qe
noncomputable def ZP : FM := box frN JZ
theorem Ua (d : DefAt K mg "line_of" Vm ["program", "spot"]) (b_len : mg "len" = none) : Cal P w K mg base 1 "line_of" ["program", "spot"] ZP := (Ub d b_len).box frN
noncomputable abbrev VQ : Stmt := top 14
theorem Qan : FnScope ["spot", "k"] ["spot", "k"] (Qs VQ) := ⟨rfl, rfl, rfl, by decide +kernel, rfl, by decide +kernel, by decide +kernel⟩
noncomputable def XM : FM := Zd 0
  (Z9 (mFn ZW (Qc (Ql wIx (Qg 0) (mC (.int 0))) (Qc (Ql wIx (Qg 0) (mC (.int 1))) (Qc (Qg 1) (Qc (mC (.bl false)) Qm))))))
set_option maxHeartbeats 4000000 in
theorem Ge (d : DefAt K mg "at_gap" VQ ["spot", "k"]) : Cal P w K mg base 1 "at_gap" ["spot", "k"] XM := by
 refine Zb (k := 0) (more := 0) d Qan rfl fun f cdv A outer s H E hr => ?_
 have hu := hr.units
 refine Qk ?_
 refine Qt ?_
 refine QC ?_
 refine Qa ?_ ?_
 refine Qn ?_ ?_
 exact Qb 0
 exact Qe
 refine Qa ?_ ?_
 refine Qn ?_ ?_
 exact Qb 0
 exact Qe
 refine Qa ?_ ?_
 exact Qb 1
 refine Qa ?_ ?_
 exact Jo
 exact Qd
noncomputable def Zn : FM := box frN XM
theorem Gs (d : DefAt K mg "at_gap" VQ ["spot", "k"]) : Cal P w K mg base 1 "at_gap" ["spot", "k"] Zn := (Ge d).box frN
noncomputable abbrev Vw : Stmt := top 15
theorem GM : FnScope ["spot", "k"] ["spot", "k"] (Qs Vw) := ⟨rfl, rfl, rfl, by decide +kernel, rfl, by decide +kernel, by decide +kernel⟩
noncomputable def Xn : FM := Zd 0
  (Z9 (mFn ZW (Qc (Ql wIx (Qg 0) (mC (.int 0))) (Qc (Ql wIx (Qg 0) (mC (.int 1))) (Qc (Qg 1) (Qc (mC (.bl true)) Qm))))))
set_option maxHeartbeats 4000000 in
theorem W6 (d : DefAt K mg "at_head" Vw ["spot", "k"]) : Cal P w K mg base 1 "at_head" ["spot", "k"] Xn := by
 refine Zb (k := 0) (more := 0) d GM rfl fun f cdv A outer s H E hr => ?_
 have hu := hr.units
 refine Qk ?_
 refine Qt ?_
 refine QC ?_
 refine Qa ?_ ?_
 refine Qn ?_ ?_
 exact Qb 0
 exact Qe
 refine Qa ?_ ?_
 refine Qn ?_ ?_
 exact Qb 0
 exact Qe
 refine Qa ?_ ?_
 exact Qb 1
 refine Qa ?_ ?_
 exact Jo
 exact Qd
noncomputable def Jy : FM := box frN Xn
theorem Um (d : DefAt K mg "at_head" Vw ["spot", "k"]) : Cal P w K mg base 1 "at_head" ["spot", "k"] Jy := (W6 d).box frN
noncomputable abbrev ZM : Stmt := top 4
theorem KR : FnScope ["line"] ["line"] (Qs ZM) := ⟨rfl, rfl, rfl, by decide +kernel, rfl, by decide +kernel, by decide +kernel⟩
noncomputable def Q3 : FM := Zd 0
  (QI (JL (Uw (Qy (Ql wEq (Ql wIx (Qg 0) (mC (.int 0))) (mC (.str "either")))) (Qy (Ql wEq (Ql wIx (Qg 0) (mC (.int 0))) (mC (.str "again"))))) (Z9 (mC (.int 1))) Ze)
  (Z9 (mIf (Qy (Ql wEq (Ql wIx (Qg 0) (mC (.int 0))) (mC (.str "end")))) (mUn XD (mC (.int 1))) (mC (.int 0)))))
set_option maxHeartbeats 4000000 in
theorem XY (d : DefAt K mg "level_change" ZM ["line"]) : Cal P w K mg base 1 "level_change" ["line"] Q3 := by
 refine Zb (k := 0) (more := 0) d KR rfl fun f cdv A outer s H E hr => ?_
 have hu := hr.units
 refine Qf ?_ ?_
 refine QJ ?_ ?_ ?_
 refine PMW.pt ?_
 refine Xv ?_ ?_
 refine Qr (QQ ?_) Qj ?_ ?_
 exact hu
 refine Qn ?_ ?_
 exact Qb 0
 exact Qe
 exact QP
 refine VT ?_
 refine Qr (QQ ?_) Qj ?_ ?_
 exact hu
 refine Qn ?_ ?_
 exact Qb 0
 exact Qe
 exact QP
 refine Qk ?_
 refine Qt ?_
 exact Qe
 exact QE
 refine Qk ?_
 refine Qt ?_
 refine Qh5 ?_ ?_ ?_
 refine Qr (QQ ?_) Qj ?_ ?_
 exact hu
 refine Qn ?_ ?_
 exact Qb 0
 exact Qe
 exact QP
 refine Zx ?_
 exact Qe
 exact Qe
noncomputable def QT : FM := box frN Q3
theorem X5 (d : DefAt K mg "level_change" ZM ["line"]) : Cal P w K mg base 1 "level_change" ["line"] QT := (XY d).box frN
noncomputable abbrev Vu : Stmt := top 3
theorem sc_head_of : FnScope ["lines", "k", "level", "j"] ["lines", "k"] (Qs Vu) := ⟨rfl, rfl, rfl, by decide +kernel, rfl, by decide +kernel, by decide +kernel⟩
noncomputable abbrev XV : SM := (QI (QeV 2 QaP (Qv 1 QT (Qc (Ql wIx (Qg 0) (Qg 3)) Qm)))
  (JL (Qy (Ql wEq (Qg 2) (mC (.int 1)))) (Z9 (Qg 3)) Ze))
noncomputable def Xl : FM := Zd 2
  (QI (Zo 2 (mC (.int 0)))
  (QI (XG (Qdn (Qc (Ql Ws (Qg 1) (mC (.int 1))) (Qc (mUn XD (mC (.int 1))) (Qc (mUn XD (mC (.int 1))) Qm)))) (J2 3)
  XV)
  (Z9 (mC .non))))
set_option maxHeartbeats 4000000 in
theorem W2 (d : DefAt K mg "head_of" Vu ["lines", "k"]) (b_range : mg "range" = none) (c_level_change : Cal P w K mg base 1 "level_change" ["line"] QT) : Cal P w K mg base 2 "head_of" ["lines", "k"] Xl := by
 refine Zb (k := 1) (more := 2) d sc_head_of rfl fun f cdv A outer s H E hr => ?_
 have hu := hr.units
 refine Qf ?_ ?_
 refine Qo ?_ ?_ ?_ ?_ ?_ ?_
 exact sc_head_of.nd
 exact rfl
 exact (Or.inl rfl)
 exact Qe
 exact rfl
 first | exact .inl rfl | exact .inr rfl
 refine Qf ?_ ?_
 refine JP ?_ ?_ ?_ ?_ ?_ ?_
 exact PassesOwn.never
 exact rfl
 refine Qde ?_ ?_ ?_ ?_ ?_
 exact rfl
 exact b_range
 refine Qa ?_ ?_
 refine QH J4 Qj ?_ ?_
 exact Qb 1
 exact Qe
 refine Qa ?_ ?_
 refine Zx ?_
 exact Qe
 refine Qa ?_ ?_
 refine Zx ?_
 exact Qe
 exact Qd
 exact rfl
 exact rfl
 exact QZ (i := 3) (x := "j") sc_head_of.nd rfl (Or.inl rfl)
 refine Qf ?_ ?_
 refine QaA ?_ ?_ ?_ UT Qj ?_ ?_
 exact sc_head_of.nd
 exact rfl
 exact (Or.inl rfl)
 refine Qi (k := 1) (ps := ["line"]) ?_ ?_ ?_ ?_ ?_ ?_ ?_ ?_
 exact c_level_change
 exact hr.mono (by decide)
 exact rfl
 refine Qa ?_ ?_
 refine Qn ?_ ?_
 exact Qb 0
 exact Qb 3
 exact Qd
 exact rfl
 decide
 exact rfl
 exact rfl
 first | exact .inl rfl | exact .inr rfl
 refine Qk ?_
 refine QJ ?_ ?_ ?_
 refine Qr (QQ ?_) Qj ?_ ?_
 exact hu
 exact Qb 2
 exact Qe
 refine Qk ?_
 refine Qt ?_
 exact Qb 3
 exact QE
 exact fun _ => rfl
 refine Qk ?_
 refine Qt ?_
 exact WE
noncomputable def Je : FM := box frN Xl
theorem W9 (d : DefAt K mg "head_of" Vu ["lines", "k"]) (b_range : mg "range" = none) (c_level_change : Cal P w K mg base 1 "level_change" ["line"] QT) : Cal P w K mg base 2 "head_of" ["lines", "k"] Je := (W2 d b_range c_level_change).box frN
noncomputable abbrev ZF : Stmt := top 5
theorem sc_found_behind : FnScope ["lines", "k", "kind", "level", "j"] ["lines", "k", "kind"] (Qs ZF) := ⟨rfl, rfl, rfl, by decide +kernel, rfl, by decide +kernel, by decide +kernel⟩
noncomputable abbrev Vy : SM := (QI (JL (J1 (Qy (Ql wEq (Qg 3) (mC (.int 0)))) (Qy (Ql wEq (Ql wIx (Ql wIx (Qg 0) (Qg 4)) (mC (.int 0))) (Qg 2)))) (Z9 (Qg 4)) Ze)
  (QeV 3 QaP (Qv 1 QT (Qc (Ql wIx (Qg 0) (Qg 4)) Qm))))
noncomputable def JN : FM := Zd 2
  (QI (Zo 3 (mC (.int 0)))
  (QI (XG (Gq (Qc (Ql ZV (Qg 1) (mC (.int 1))) (Qc (mFn Js (Qc (Qg 0) Qm)) Qm))) (J2 4)
  Vy)
  (Z9 (mC .non))))
set_option maxHeartbeats 4000000 in
theorem XZ (d : DefAt K mg "found_behind" ZF ["lines", "k", "kind"]) (b_len : mg "len" = none) (b_range : mg "range" = none) (c_level_change : Cal P w K mg base 1 "level_change" ["line"] QT) : Cal P w K mg base 2 "found_behind" ["lines", "k", "kind"] JN := by
 refine Zb (k := 1) (more := 2) d sc_found_behind rfl fun f cdv A outer s H E hr => ?_
 have hu := hr.units
 refine Qf ?_ ?_
 refine Qo ?_ ?_ ?_ ?_ ?_ ?_
 exact sc_found_behind.nd
 exact rfl
 exact (Or.inl rfl)
 exact Qe
 exact rfl
 first | exact .inl rfl | exact .inr rfl
 refine Qf ?_ ?_
 refine JP ?_ ?_ ?_ ?_ ?_ ?_
 exact PassesOwn.never
 exact rfl
 refine Qak ?_ ?_ ?_ ?_ ?_
 exact rfl
 exact b_range
 refine Qa ?_ ?_
 refine QH Qx Qj ?_ ?_
 exact Qb 1
 exact Qe
 refine Qa ?_ ?_
 refine Qz Qw Qu ?_ ?_ PySem.boot_len ?_ ?_ ?_ ?_ ?_
 exact rfl
 exact b_len
 refine Qa ?_ ?_
 exact Qb 0
 exact Qd
 decide
 decide
 exact rfl
 exact rfl
 exact Qd
 exact rfl
 exact rfl
 exact QZ (i := 4) (x := "j") sc_found_behind.nd rfl (Or.inl rfl)
 refine Qf ?_ ?_
 refine QJ ?_ ?_ ?_
 refine PMW.pt ?_
 refine Ve ?_ ?_
 refine Qr (QQ ?_) Qj ?_ ?_
 exact hu
 exact Qb 3
 exact Qe
 refine JR ?_
 refine Qr (QQ ?_) Qj ?_ ?_
 exact hu
 refine Qn ?_ ?_
 refine Qn ?_ ?_
 exact Qb 0
 exact Qb 4
 exact Qe
 exact Qb 2
 refine Qk ?_
 refine Qt ?_
 exact Qb 4
 exact QE
 refine Qk ?_
 refine QaA ?_ ?_ ?_ UT Qj ?_ ?_
 exact sc_found_behind.nd
 exact rfl
 exact (Or.inl rfl)
 refine Qi (k := 1) (ps := ["line"]) ?_ ?_ ?_ ?_ ?_ ?_ ?_ ?_
 exact c_level_change
 exact hr.mono (by decide)
 exact rfl
 refine Qa ?_ ?_
 refine Qn ?_ ?_
 exact Qb 0
 exact Qb 4
 exact Qd
 exact rfl
 decide
 exact rfl
 exact rfl
 first | exact .inl rfl | exact .inr rfl
 exact fun _ => rfl
 refine Qk ?_
 refine Qt ?_
 exact WE
noncomputable def QK : FM := box frN JN
theorem Ka (d : DefAt K mg "found_behind" ZF ["lines", "k", "kind"]) (b_len : mg "len" = none) (b_range : mg "range" = none) (c_level_change : Cal P w K mg base 1 "level_change" ["line"] QT) : Cal P w K mg base 2 "found_behind" ["lines", "k", "kind"] QK := (XZ d b_len b_range c_level_change).box frN
noncomputable abbrev XC : Stmt := top 2
theorem Qck : FnScope ["lines", "k"] ["lines", "k"] (Qs XC) := ⟨rfl, rfl, rfl, by decide +kernel, rfl, by decide +kernel, by decide +kernel⟩
noncomputable def KT : FM := Zd 0
  (Z9 (Qv 3 QK (Qc (Qg 0) (Qc (Qg 1) (Qc (mC (.str "or")) Qm)))))
set_option maxHeartbeats 4000000 in
theorem Qar (d : DefAt K mg "or_of" XC ["lines", "k"]) (c_found_behind : Cal P w K mg base 2 "found_behind" ["lines", "k", "kind"] QK) : Cal P w K mg base 3 "or_of" ["lines", "k"] KT := by
 refine Zb (k := 2) (more := 0) d Qck rfl fun f cdv A outer s H E hr => ?_
 have hu := hr.units
 refine Qk ?_
 refine Qt ?_
 refine Qi (k := 2) (ps := ["lines", "k", "kind"]) ?_ ?_ ?_ ?_ ?_ ?_ ?_ ?_
 exact c_found_behind
 exact hr.mono (by decide)
 exact rfl
 refine Qa ?_ ?_
 exact Qb 0
 refine Qa ?_ ?_
 exact Qb 1
 refine Qa ?_ ?_
 exact QP
 exact Qd
 exact rfl
 decide
 exact rfl
 exact rfl
noncomputable def VF : FM := box frN KT
theorem G5 (d : DefAt K mg "or_of" XC ["lines", "k"]) (c_found_behind : Cal P w K mg base 2 "found_behind" ["lines", "k", "kind"] QK) : Cal P w K mg base 3 "or_of" ["lines", "k"] VF := (Qar d c_found_behind).box frN
noncomputable abbrev VR : Stmt := top 1
theorem Qah : FnScope ["lines", "k"] ["lines", "k"] (Qs VR) := ⟨rfl, rfl, rfl, by decide +kernel, rfl, by decide +kernel, by decide +kernel⟩
noncomputable def XL : FM := Zd 0
  (Z9 (Qv 3 QK (Qc (Qg 0) (Qc (Qg 1) (Qc (mC (.str "end")) Qm)))))
set_option maxHeartbeats 4000000 in
theorem Gx (d : DefAt K mg "end_of" VR ["lines", "k"]) (c_found_behind : Cal P w K mg base 2 "found_behind" ["lines", "k", "kind"] QK) : Cal P w K mg base 3 "end_of" ["lines", "k"] XL := by
 refine Zb (k := 2) (more := 0) d Qah rfl fun f cdv A outer s H E hr => ?_
 have hu := hr.units
 refine Qk ?_
 refine Qt ?_
 refine Qi (k := 2) (ps := ["lines", "k", "kind"]) ?_ ?_ ?_ ?_ ?_ ?_ ?_ ?_
 exact c_found_behind
 exact hr.mono (by decide)
 exact rfl
 refine Qa ?_ ?_
 exact Qb 0
 refine Qa ?_ ?_
 exact Qb 1
 refine Qa ?_ ?_
 exact QP
 exact Qd
 exact rfl
 decide
 exact rfl
 exact rfl
noncomputable def ZB : FM := box frN XL
theorem Gz (d : DefAt K mg "end_of" VR ["lines", "k"]) (c_found_behind : Cal P w K mg base 2 "found_behind" ["lines", "k", "kind"] QK) : Cal P w K mg base 3 "end_of" ["lines", "k"] ZB := (Gx d c_found_behind).box frN
noncomputable abbrev ZG : Stmt := top 12
theorem sc_next_in_part : FnScope ["lines", "spot", "k", "kind"] ["lines", "spot"] (Qs ZG) := ⟨rfl, rfl, rfl, by decide +kernel, rfl, by decide +kernel, by decide +kernel⟩
noncomputable def Q2 : SM := (QI (JL (Qy (Ql wEq (Qg 3) (mC (.str "either")))) (Z9 (mFn Vf (Qc (Qv 2 Zn (Qc (Qg 1) (Qc (Ql ZV (Qg 2) (mC (.int 1))) Qm))) (Qc (Qv 2 Zn (Qc (Qg 1) (Qc (Ql ZV (Qv 2 VF (Qc (Qg 0) (Qc (Qg 2) Qm))) (mC (.int 1))) Qm))) Qm)))) Ze)
  (QI (JL (Qy (Ql wEq (Qg 3) (mC (.str "or")))) (Z9 (mFn Vf (Qc (Qv 2 Zn (Qc (Qg 1) (Qc (Ql ZV (Qv 2 ZB (Qc (Qg 0) (Qc (Qg 2) Qm))) (mC (.int 1))) Qm))) Qm))) Ze)
  (QI (JL (Qy (Ql wEq (Qg 3) (mC (.str "again")))) (Z9 (mFn Vf (Qc (Qv 2 Jy (Qc (Qg 1) (Qc (Qg 2) Qm))) Qm))) Ze)
  (QI (JL (J1 (Qy (Ql wEq (Qg 3) (mC (.str "end")))) (Qy (Ql wEq (Ql wIx (Ql wIx (Qg 0) (Qv 2 Je (Qc (Qg 0) (Qc (Qg 2) Qm)))) (mC (.int 0))) (mC (.str "again"))))) (Z9 (mFn Vf (Qc (Qv 2 Jy (Qc (Qg 1) (Qc (Qv 2 Je (Qc (Qg 0) (Qc (Qg 2) Qm))) Qm))) Qm))) Ze)
  (Z9 (mFn Vf (Qc (Qv 2 Zn (Qc (Qg 1) (Qc (Ql ZV (Qg 2) (mC (.int 1))) Qm))) Qm)))))))
noncomputable def Zv : FM := Zd 2
  (QI (Zo 2 (Ql wIx (Qg 1) (mC (.int 2))))
  (QI (Zo 3 (Ql wIx (Ql wIx (Qg 0) (Qg 2)) (mC (.int 0))))
  Q2))
set_option maxHeartbeats 4000000 in
theorem X6 (d : DefAt K mg "next_in_part" ZG ["lines", "spot"]) (c_at_gap : Cal P w K mg base 1 "at_gap" ["spot", "k"] Zn) (c_at_head : Cal P w K mg base 1 "at_head" ["spot", "k"] Jy) (c_end_of : Cal P w K mg base 3 "end_of" ["lines", "k"] ZB) (c_head_of : Cal P w K mg base 2 "head_of" ["lines", "k"] Je) (c_or_of : Cal P w K mg base 3 "or_of" ["lines", "k"] VF) : Cal P w K mg base 4 "next_in_part" ["lines", "spot"] Zv := by
 refine Zb (k := 3) (more := 2) d sc_next_in_part rfl fun f cdv A outer s H E hr => ?_
 have hu := hr.units
 refine Qf ?_ ?_
 refine Qo ?_ ?_ ?_ ?_ ?_ ?_
 exact sc_next_in_part.nd
 exact rfl
 exact (Or.inl rfl)
 refine Qn ?_ ?_
 exact Qb 1
 exact Qe
 exact rfl
 first | exact .inl rfl | exact .inr rfl
 refine Qf ?_ ?_
 refine Qo ?_ ?_ ?_ ?_ ?_ ?_
 exact sc_next_in_part.nd
 exact rfl
 exact (Or.inl rfl)
 refine Qn ?_ ?_
 refine Qn ?_ ?_
 exact Qb 0
 exact Qb 2
 exact Qe
 exact rfl
 first | exact .inl rfl | exact .inr rfl
 refine Qf ?_ ?_
 refine QJ ?_ ?_ ?_
 refine Qr (QQ ?_) Qj ?_ ?_
 exact hu
 exact Qb 3
 exact QP
 refine Qk ?_
 refine Qt ?_
 refine Q1 ?_
 refine Qa ?_ ?_
 refine Qi (k := 1) (ps := ["spot", "k"]) ?_ ?_ ?_ ?_ ?_ ?_ ?_ ?_
 exact c_at_gap
 exact hr.mono (by decide)
 exact rfl
 refine Qa ?_ ?_
 exact Qb 1
 refine Qa ?_ ?_
 refine QH Qx Qj ?_ ?_
 exact Qb 2
 exact Qe
 exact Qd
 exact rfl
 decide
 exact rfl
 exact rfl
 refine Qa ?_ ?_
 refine Qi (k := 1) (ps := ["spot", "k"]) ?_ ?_ ?_ ?_ ?_ ?_ ?_ ?_
 exact c_at_gap
 exact hr.mono (by decide)
 exact rfl
 refine Qa ?_ ?_
 exact Qb 1
 refine Qa ?_ ?_
 refine QH Qx Qj ?_ ?_
 refine Qi (k := 3) (ps := ["lines", "k"]) ?_ ?_ ?_ ?_ ?_ ?_ ?_ ?_
 exact c_or_of
 exact hr.mono (by decide)
 exact rfl
 refine Qa ?_ ?_
 exact Qb 0
 refine Qa ?_ ?_
 exact Qb 2
 exact Qd
 exact rfl
 decide
 exact rfl
 exact rfl
 exact Qe
 exact Qd
 exact rfl
 decide
 exact rfl
 exact rfl
 exact Qd
 exact QE
 refine Qf ?_ ?_
 refine QJ ?_ ?_ ?_
 refine Qr (QQ ?_) Qj ?_ ?_
 exact hu
 exact Qb 3
 exact QP
 refine Qk ?_
 refine Qt ?_
 refine Q1 ?_
 refine Qa ?_ ?_
 refine Qi (k := 1) (ps := ["spot", "k"]) ?_ ?_ ?_ ?_ ?_ ?_ ?_ ?_
 exact c_at_gap
 exact hr.mono (by decide)
 exact rfl
 refine Qa ?_ ?_
 exact Qb 1
 refine Qa ?_ ?_
 refine QH Qx Qj ?_ ?_
 refine Qi (k := 3) (ps := ["lines", "k"]) ?_ ?_ ?_ ?_ ?_ ?_ ?_ ?_
 exact c_end_of
 exact hr.mono (by decide)
 exact rfl
 refine Qa ?_ ?_
 exact Qb 0
 refine Qa ?_ ?_
 exact Qb 2
 exact Qd
 exact rfl
 decide
 exact rfl
 exact rfl
 exact Qe
 exact Qd
 exact rfl
 decide
 exact rfl
 exact rfl
 exact Qd
 exact QE
 refine Qf ?_ ?_
 refine QJ ?_ ?_ ?_
 refine Qr (QQ ?_) Qj ?_ ?_
 exact hu
 exact Qb 3
 exact QP
 refine Qk ?_
 refine Qt ?_
 refine Q1 ?_
 refine Qa ?_ ?_
 refine Qi (k := 1) (ps := ["spot", "k"]) ?_ ?_ ?_ ?_ ?_ ?_ ?_ ?_
 exact c_at_head
 exact hr.mono (by decide)
 exact rfl
 refine Qa ?_ ?_
 exact Qb 1
 refine Qa ?_ ?_
 exact Qb 2
 exact Qd
 exact rfl
 decide
 exact rfl
 exact rfl
 exact Qd
 exact QE
 refine Qf ?_ ?_
 refine QJ ?_ ?_ ?_
 refine PMW.pt ?_
 refine Ve ?_ ?_
 refine Qr (QQ ?_) Qj ?_ ?_
 exact hu
 exact Qb 3
 exact QP
 refine JR ?_
 refine Qr (QQ ?_) Qj ?_ ?_
 exact hu
 refine Qn ?_ ?_
 refine Qn ?_ ?_
 exact Qb 0
 refine Qi (k := 2) (ps := ["lines", "k"]) ?_ ?_ ?_ ?_ ?_ ?_ ?_ ?_
 exact c_head_of
 exact hr.mono (by decide)
 exact rfl
 refine Qa ?_ ?_
 exact Qb 0
 refine Qa ?_ ?_
 exact Qb 2
 exact Qd
 exact rfl
 decide
 exact rfl
 exact rfl
 exact Qe
 exact QP
 refine Qk ?_
 refine Qt ?_
 refine Q1 ?_
 refine Qa ?_ ?_
 refine Qi (k := 1) (ps := ["spot", "k"]) ?_ ?_ ?_ ?_ ?_ ?_ ?_ ?_
 exact c_at_head
 exact hr.mono (by decide)
 exact rfl
 refine Qa ?_ ?_
 exact Qb 1
 refine Qa ?_ ?_
 refine Qi (k := 2) (ps := ["lines", "k"]) ?_ ?_ ?_ ?_ ?_ ?_ ?_ ?_
 exact c_head_of
 exact hr.mono (by decide)
 exact rfl
 refine Qa ?_ ?_
 exact Qb 0
 refine Qa ?_ ?_
 exact Qb 2
 exact Qd
 exact rfl
 decide
 exact rfl
 exact rfl
 exact Qd
 exact rfl
 decide
 exact rfl
 exact rfl
 exact Qd
 exact QE
 refine Qk ?_
 refine Qt ?_
 refine Q1 ?_
 refine Qa ?_ ?_
 refine Qi (k := 1) (ps := ["spot", "k"]) ?_ ?_ ?_ ?_ ?_ ?_ ?_ ?_
 exact c_at_gap
 exact hr.mono (by decide)
 exact rfl
 refine Qa ?_ ?_
 exact Qb 1
 refine Qa ?_ ?_
 refine QH Qx Qj ?_ ?_
 exact Qb 2
 exact Qe
 exact Qd
 exact rfl
 decide
 exact rfl
 exact rfl
 exact Qd
noncomputable def Zc : FM := box frN Zv
theorem X4 (d : DefAt K mg "next_in_part" ZG ["lines", "spot"]) (c_at_gap : Cal P w K mg base 1 "at_gap" ["spot", "k"] Zn) (c_at_head : Cal P w K mg base 1 "at_head" ["spot", "k"] Jy) (c_end_of : Cal P w K mg base 3 "end_of" ["lines", "k"] ZB) (c_head_of : Cal P w K mg base 2 "head_of" ["lines", "k"] Je) (c_or_of : Cal P w K mg base 3 "or_of" ["lines", "k"] VF) : Cal P w K mg base 4 "next_in_part" ["lines", "spot"] Zc := (X6 d c_at_gap c_at_head c_end_of c_head_of c_or_of).box frN
noncomputable abbrev JG : Stmt := top 13
theorem sc_behind_do : FnScope ["spot", "way"] ["spot"] (Qs JG) := ⟨rfl, rfl, rfl, by decide +kernel, rfl, by decide +kernel, by decide +kernel⟩
noncomputable def JS : FM := Zd 1
  (QI (Zo 1 (Ql wIx (Qg 0) (mC (.int 0))))
  (QI (JL (GJ (QcL (Qg 1))) (Z9 (mFn Vf Qm)) Ze)
  (Z9 (mFn Vf (Qc (mFn ZW (Qc (mSl (Qg 1) Vr (Zp (mUn XD (mC (.int 1))))) (Qc (Ql wIx (Ql wIx (Qg 1) (mUn XD (mC (.int 1)))) (mC (.int 0))) (Qc (Ql ZV (Ql wIx (Ql wIx (Qg 1) (mUn XD (mC (.int 1)))) (mC (.int 1))) (mC (.int 1))) (Qc (mC (.bl false)) Qm))))) Qm)))))
set_option maxHeartbeats 4000000 in
theorem YH (d : DefAt K mg "behind_do" JG ["spot"]) : Cal P w K mg base 1 "behind_do" ["spot"] JS := by
 refine Zb (k := 0) (more := 1) d sc_behind_do rfl fun f cdv A outer s H E hr => ?_
 have hu := hr.units
 refine Qf ?_ ?_
 refine Qo ?_ ?_ ?_ ?_ ?_ ?_
 exact sc_behind_do.nd
 exact rfl
 exact (Or.inl rfl)
 refine Qn ?_ ?_
 exact Qb 0
 exact Qe
 exact rfl
 first | exact .inl rfl | exact .inr rfl
 refine Qf ?_ ?_
 refine QJ ?_ ?_ ?_
 refine Uc ?_
 refine XN ?_
 exact Qb 1
 refine Qk ?_
 refine Qt ?_
 refine Q1 ?_
 exact Qd
 exact QE
 refine Qk ?_
 refine Qt ?_
 refine Q1 ?_
 refine Qa ?_ ?_
 refine QC ?_
 refine Qa ?_ ?_
 refine Q5 ?_ ?_ ?_
 exact Qb 1
 exact Zg
 refine QY ?_
 refine Zx ?_
 exact Qe
 refine Qa ?_ ?_
 refine Qn ?_ ?_
 refine Qn ?_ ?_
 exact Qb 1
 refine Zx ?_
 exact Qe
 exact Qe
 refine Qa ?_ ?_
 refine QH Qx Qj ?_ ?_
 refine Qn ?_ ?_
 refine Qn ?_ ?_
 exact Qb 1
 refine Zx ?_
 exact Qe
 exact Qe
 exact Qe
 refine Qa ?_ ?_
 exact Jo
 exact Qd
 exact Qd
noncomputable def ZI : FM := box frN JS
theorem YQ (d : DefAt K mg "behind_do" JG ["spot"]) : Cal P w K mg base 1 "behind_do" ["spot"] ZI := (YH d).box frN
noncomputable abbrev Z5 : Stmt := top 7
theorem K1 : FnScope ["program", "name"] ["program", "name"] (Qs Z5) := ⟨rfl, rfl, rfl, by decide +kernel, rfl, by decide +kernel, by decide +kernel⟩
noncomputable def JX : FM := Zd 0
  (Z9 (mMt "list" XR (Jd V4 (Ja (Qg 0)) [none] (J2 0) Ku (Ql wIx (Qg 0) (mC (.int 0)))) (Qc (Qg 1) Qm)))
set_option maxHeartbeats 4000000 in
theorem KB (d : DefAt K mg "part_number" Z5 ["program", "name"]) : Cal P w K mg base 1 "part_number" ["program", "name"] JX := by
 refine Zb (k := 0) (more := 0) d K1 rfl fun f cdv A outer s H E hr => ?_
 have hu := hr.units
 refine Qk ?_
 refine Qt ?_
 refine Jt PySem.F.plainAttrs_list PySem.F.slot_list_index PySem.F.type_list_index (WD ?_) ?_ ?_
 exact hu
 refine Vz Vj ?_ (Vs (Nb := ["part"]) (cp := [none]) rfl (by decide +kernel) (by decide +kernel) rfl rfl) ?_ (fun _ _ _ _ _ => ?_) (fun _ _ _ _ _ => ?_)
 exact rfl
 refine J9 ?_
 exact Qb 0
 exact QZ (i := 0) (x := "part") (show List.Nodup (["part"] : List Str) from by decide +kernel) rfl (Or.inl rfl)
 refine Qn ?_ ?_
 exact Qb 0
 exact Qe
 refine Qa ?_ ?_
 exact Qb 1
 exact Qd
noncomputable def Zk : FM := box frN JX
theorem KA (d : DefAt K mg "part_number" Z5 ["program", "name"]) : Cal P w K mg base 1 "part_number" ["program", "name"] Zk := (KB d).box frN
noncomputable abbrev Jh : Stmt := top 11
theorem sc_next_spots : FnScope ["program", "spot", "lines", "line", "way"] ["program", "spot"] (Qs Jh) := ⟨rfl, rfl, rfl, by decide +kernel, rfl, by decide +kernel, by decide +kernel⟩
noncomputable def Q7 : FM := Zd 3
  (QI (Zo 2 (Ql wIx (Ql wIx (Qg 0) (Ql wIx (Qg 1) (mC (.int 1)))) (mC (.int 1))))
  (QI (JL (QcL (Ql wIx (Qg 1) (mC (.int 3)))) (Z9 (mFn Vf (Qc (Qv 2 Zn (Qc (Qg 1) (Qc (Ql ZV (Qv 2 ZB (Qc (Qg 2) (Qc (Ql wIx (Qg 1) (mC (.int 2))) Qm))) (mC (.int 1))) Qm))) (Qc (Qv 2 Zn (Qc (Qg 1) (Qc (Ql ZV (Ql wIx (Qg 1) (mC (.int 2))) (mC (.int 1))) Qm))) Qm)))) Ze)
  (QI (Zo 3 (Qv 2 ZP (Qc (Qg 0) (Qc (Qg 1) Qm))))
  (QI (JL (Qy (Ql wIs (Qg 3) (mC .non))) (Z9 (Qv 1 ZI (Qc (Qg 1) Qm))) Ze)
  (QI (JL (Qy (Ql wEq (Ql wIx (Qg 3) (mC (.int 0))) (mC (.str "do")))) (QI (Zo 4 (Ql ZV (Ql wIx (Qg 1) (mC (.int 0))) (mFn ZW (Qc (mFn ZW (Qc (Ql wIx (Qg 1) (mC (.int 1))) (Qc (Ql wIx (Qg 1) (mC (.int 2))) Qm))) Qm))))
  (Z9 (mFn Vf (Qc (mFn ZW (Qc (Qg 4) (Qc (Qv 2 Zk (Qc (Qg 0) (Qc (Ql wIx (Qg 3) (mC (.int 1))) Qm))) (Qc (mC (.int 0)) (Qc (mC (.bl false)) Qm))))) Qm)))) Ze)
  (Z9 (Qv 2 Zc (Qc (Qg 2) (Qc (Qg 1) Qm)))))))))
set_option maxHeartbeats 4000000 in
theorem KZ (d : DefAt K mg "next_spots" Jh ["program", "spot"]) (c_at_gap : Cal P w K mg base 1 "at_gap" ["spot", "k"] Zn) (c_behind_do : Cal P w K mg base 1 "behind_do" ["spot"] ZI) (c_end_of : Cal P w K mg base 3 "end_of" ["lines", "k"] ZB) (c_line_of : Cal P w K mg base 1 "line_of" ["program", "spot"] ZP) (c_next_in_part : Cal P w K mg base 4 "next_in_part" ["lines", "spot"] Zc) (c_part_number : Cal P w K mg base 1 "part_number" ["program", "name"] Zk) : Cal P w K mg base 5 "next_spots" ["program", "spot"] Q7 := by
 refine Zb (k := 4) (more := 3) d sc_next_spots rfl fun f cdv A outer s H E hr => ?_
 have hu := hr.units
 refine Qf ?_ ?_
 refine Qo ?_ ?_ ?_ ?_ ?_ ?_
 exact sc_next_spots.nd
 exact rfl
 exact (Or.inl rfl)
 refine Qn ?_ ?_
 refine Qn ?_ ?_
 exact Qb 0
 refine Qn ?_ ?_
 exact Qb 1
 exact Qe
 exact Qe
 exact rfl
 first | exact .inl rfl | exact .inr rfl
 refine Qf ?_ ?_
 refine QJ ?_ ?_ ?_
 refine XN ?_
 refine Qn ?_ ?_
 exact Qb 1
 exact Qe
 refine Qk ?_
 refine Qt ?_
 refine Q1 ?_
 refine Qa ?_ ?_
 refine Qi (k := 1) (ps := ["spot", "k"]) ?_ ?_ ?_ ?_ ?_ ?_ ?_ ?_
 exact c_at_gap
 exact hr.mono (by decide)
 exact rfl
 refine Qa ?_ ?_
 exact Qb 1
 refine Qa ?_ ?_
 refine QH Qx Qj ?_ ?_
 refine Qi (k := 3) (ps := ["lines", "k"]) ?_ ?_ ?_ ?_ ?_ ?_ ?_ ?_
 exact c_end_of
 exact hr.mono (by decide)
 exact rfl
 refine Qa ?_ ?_
 exact Qb 2
 refine Qa ?_ ?_
 refine Qn ?_ ?_
 exact Qb 1
 exact Qe
 exact Qd
 exact rfl
 decide
 exact rfl
 exact rfl
 exact Qe
 exact Qd
 exact rfl
 decide
 exact rfl
 exact rfl
 refine Qa ?_ ?_
 refine Qi (k := 1) (ps := ["spot", "k"]) ?_ ?_ ?_ ?_ ?_ ?_ ?_ ?_
 exact c_at_gap
 exact hr.mono (by decide)
 exact rfl
 refine Qa ?_ ?_
 exact Qb 1
 refine Qa ?_ ?_
 refine QH Qx Qj ?_ ?_
 refine Qn ?_ ?_
 exact Qb 1
 exact Qe
 exact Qe
 exact Qd
 exact rfl
 decide
 exact rfl
 exact rfl
 exact Qd
 exact QE
 refine Qf ?_ ?_
 refine Qo ?_ ?_ ?_ ?_ ?_ ?_
 exact sc_next_spots.nd
 exact rfl
 exact (Or.inl rfl)
 refine Qi (k := 1) (ps := ["program", "spot"]) ?_ ?_ ?_ ?_ ?_ ?_ ?_ ?_
 exact c_line_of
 exact hr.mono (by decide)
 exact rfl
 refine Qa ?_ ?_
 exact Qb 0
 refine Qa ?_ ?_
 exact Qb 1
 exact Qd
 exact rfl
 decide
 exact rfl
 exact rfl
 exact rfl
 first | exact .inl rfl | exact .inr rfl
 refine Qf ?_ ?_
 refine QJ ?_ ?_ ?_
 refine Qr Qf4 Qj ?_ ?_
 exact Qb 3
 exact WE
 refine Qk ?_
 refine Qt ?_
 refine Qi (k := 1) (ps := ["spot"]) ?_ ?_ ?_ ?_ ?_ ?_ ?_ ?_
 exact c_behind_do
 exact hr.mono (by decide)
 exact rfl
 refine Qa ?_ ?_
 exact Qb 1
 exact Qd
 exact rfl
 decide
 exact rfl
 exact rfl
 exact QE
 refine Qf ?_ ?_
 refine QJ ?_ ?_ ?_
 refine Qr (QQ ?_) Qj ?_ ?_
 exact hu
 refine Qn ?_ ?_
 exact Qb 3
 exact Qe
 exact QP
 refine Qf ?_ ?_
 refine Qo ?_ ?_ ?_ ?_ ?_ ?_
 exact sc_next_spots.nd
 exact rfl
 exact (Or.inl rfl)
 refine QH Qx Qj ?_ ?_
 refine Qn ?_ ?_
 exact Qb 1
 exact Qe
 refine QC ?_
 refine Qa ?_ ?_
 refine QC ?_
 refine Qa ?_ ?_
 refine Qn ?_ ?_
 exact Qb 1
 exact Qe
 refine Qa ?_ ?_
 refine Qn ?_ ?_
 exact Qb 1
 exact Qe
 exact Qd
 exact Qd
 exact rfl
 first | exact .inl rfl | exact .inr rfl
 refine Qk ?_
 refine Qt ?_
 refine Q1 ?_
 refine Qa ?_ ?_
 refine QC ?_
 refine Qa ?_ ?_
 exact Qb 4
 refine Qa ?_ ?_
 refine Qi (k := 1) (ps := ["program", "name"]) ?_ ?_ ?_ ?_ ?_ ?_ ?_ ?_
 exact c_part_number
 exact hr.mono (by decide)
 exact rfl
 refine Qa ?_ ?_
 exact Qb 0
 refine Qa ?_ ?_
 refine Qn ?_ ?_
 exact Qb 3
 exact Qe
 exact Qd
 exact rfl
 decide
 exact rfl
 exact rfl
 refine Qa ?_ ?_
 exact Qe
 refine Qa ?_ ?_
 exact Jo
 exact Qd
 exact Qd
 exact QE
 refine Qk ?_
 refine Qt ?_
 refine Qi (k := 4) (ps := ["lines", "spot"]) ?_ ?_ ?_ ?_ ?_ ?_ ?_ ?_
 exact c_next_in_part
 exact hr.mono (by decide)
 exact rfl
 refine Qa ?_ ?_
 exact Qb 2
 refine Qa ?_ ?_
 exact Qb 1
 exact Qd
 exact rfl
 decide
 exact rfl
 exact rfl
noncomputable def Zj : FM := box frN Q7
theorem K5 (d : DefAt K mg "next_spots" Jh ["program", "spot"]) (c_at_gap : Cal P w K mg base 1 "at_gap" ["spot", "k"] Zn) (c_behind_do : Cal P w K mg base 1 "behind_do" ["spot"] ZI) (c_end_of : Cal P w K mg base 3 "end_of" ["lines", "k"] ZB) (c_line_of : Cal P w K mg base 1 "line_of" ["program", "spot"] ZP) (c_next_in_part : Cal P w K mg base 4 "next_in_part" ["lines", "spot"] Zc) (c_part_number : Cal P w K mg base 1 "part_number" ["program", "name"] Zk) : Cal P w K mg base 5 "next_spots" ["program", "spot"] Zj := (KZ d c_at_gap c_behind_do c_end_of c_line_of c_next_in_part c_part_number).box frN
noncomputable abbrev VW : Stmt := top 17
theorem sc_is_run : FnScope ["program", "spots", "k"] ["program", "spots"] (Qs VW) := ⟨rfl, rfl, rfl, by decide +kernel, rfl, by decide +kernel, by decide +kernel⟩
noncomputable abbrev Xp : SM := (JL (Qy (Ql (wIn true) (Ql wIx (Qg 1) (Qg 2)) (Qv 2 Zj (Qc (Qg 0) (Qc (Ql wIx (Qg 1) (Ql Ws (Qg 2) (mC (.int 1)))) Qm))))) (Z9 (mC (.bl false))) Ze)
noncomputable def Vp : FM := Zd 1
  (QI (JL (Uw (GJ (QcL (Qg 1))) (Qy (Ql wNe (Ql wIx (Qg 1) (mC (.int 0))) (Qv 0 ZN Qm)))) (Z9 (mC (.bl false))) Ze)
  (QI (XG (Gq (Qc (mC (.int 1)) (Qc (mFn Js (Qc (Qg 1) Qm)) Qm))) (J2 2)
  Xp)
  (Z9 (mC (.bl true)))))
set_option maxHeartbeats 4000000 in
theorem Gf (d : DefAt K mg "is_run" VW ["program", "spots"]) (b_len : mg "len" = none) (b_range : mg "range" = none) (c_first_spot : Cal P w K mg base 1 "first_spot" [] ZN) (c_next_spots : Cal P w K mg base 5 "next_spots" ["program", "spot"] Zj) : Cal P w K mg base 6 "is_run" ["program", "spots"] Vp := by
 refine Zb (k := 5) (more := 1) d sc_is_run rfl fun f cdv A outer s H E hr => ?_
 have hu := hr.units
 refine Qf ?_ ?_
 refine QJ ?_ ?_ ?_
 refine PMW.pt ?_
 refine Xv ?_ ?_
 refine Uc ?_
 refine XN ?_
 exact Qb 1
 refine VT ?_
 refine Qr (Wy ?_) Qj ?_ ?_
 exact hu
 refine Qn ?_ ?_
 exact Qb 1
 exact Qe
 exact Qbq c_first_spot (hr.mono (by decide)) rfl
 refine Qk ?_
 refine Qt ?_
 exact Jo
 exact QE
 refine Qf ?_ ?_
 refine JP ?_ ?_ ?_ ?_ ?_ ?_
 exact PassesOwn.never
 exact rfl
 refine Qak ?_ ?_ ?_ ?_ ?_
 exact rfl
 exact b_range
 refine Qa ?_ ?_
 exact Qe
 refine Qa ?_ ?_
 refine Qz Qw Qu ?_ ?_ PySem.boot_len ?_ ?_ ?_ ?_ ?_
 exact rfl
 exact b_len
 refine Qa ?_ ?_
 exact Qb 1
 exact Qd
 decide
 decide
 exact rfl
 exact rfl
 exact Qd
 exact rfl
 exact rfl
 exact QZ (i := 2) (x := "k") sc_is_run.nd rfl (Or.inl rfl)
 refine Qk ?_
 refine QJ ?_ ?_ ?_
 refine Qr (Wn ?_) Qj ?_ ?_
 exact hu
 refine Qn ?_ ?_
 exact Qb 1
 exact Qb 2
 refine Qi (k := 5) (ps := ["program", "spot"]) ?_ ?_ ?_ ?_ ?_ ?_ ?_ ?_
 exact c_next_spots
 exact hr.mono (by decide)
 exact rfl
 refine Qa ?_ ?_
 exact Qb 0
 refine Qa ?_ ?_
 refine Qn ?_ ?_
 exact Qb 1
 refine QH J4 Qj ?_ ?_
 exact Qb 2
 exact Qe
 exact Qd
 exact rfl
 decide
 exact rfl
 exact rfl
 refine Qk ?_
 refine Qt ?_
 exact Jo
 exact QE
 exact fun _ => rfl
 refine Qk ?_
 refine Qt ?_
 exact Jo
noncomputable def VY : FM := box frN Vp
theorem Gn (d : DefAt K mg "is_run" VW ["program", "spots"]) (b_len : mg "len" = none) (b_range : mg "range" = none) (c_first_spot : Cal P w K mg base 1 "first_spot" [] ZN) (c_next_spots : Cal P w K mg base 5 "next_spots" ["program", "spot"] Zj) : Cal P w K mg base 6 "is_run" ["program", "spots"] VY := (Gf d b_len b_range c_first_spot c_next_spots).box frN
noncomputable abbrev Jq : Stmt := top 34
theorem Ul : FnScope ["program", "rows", "run"] ["program", "rows", "run"] (Qs Jq) := ⟨rfl, rfl, rfl, by decide +kernel, rfl, by decide +kernel, by decide +kernel⟩
noncomputable def JF : FM := Zd 0
  (QI (JL (Uw (Qy (Ql wEq (mFn Js (Qc (Qg 2) Qm)) (mC (.int 0)))) (Qy (Ql wNe (Ql wIx (Qg 2) (mC (.int 0))) (mFn ZW (Qc (mFn ZW Qm) (Qc (mC (.int 0)) (Qc (mC (.int 0)) (Qc (mC (.bl false)) Qm)))))))) (Z9 (mC (.bl false))) Ze)
  (Z9 (Ql (wIn true) (mC (.bl false)) (Jd V4 (Ya (Qc (Ql Ws (mFn Js (Qc (Qg 2) Qm)) (mC (.int 1))) Qm)) [none, some 2, some 0, some 1] (J2 0) Ku (Ql (wIn false) (Ql wIx (Qg 1) (Ql ZV (Qg 0) (mC (.int 1)))) (Qv 3 QL (Qc (Qg 2) (Qc (Qg 3) (Qc (Ql wIx (Qg 1) (Qg 0)) Qm)))))))))
set_option maxHeartbeats 4000000 in
theorem Y0 (d : DefAt K mg "_law_due" Jq ["program", "rows", "run"]) (b_len : mg "len" = none) (b_range : mg "range" = none) (c__law_next : Cal P w K mg base 1 "_law_next" ["program", "rows", "spot"] QL) : Cal P w K mg base 2 "_law_due" ["program", "rows", "run"] JF := by
 refine Zb (k := 1) (more := 0) d Ul rfl fun f cdv A outer s H E hr => ?_
 have hu := hr.units
 refine Qf ?_ ?_
 refine QJ ?_ ?_ ?_
 refine PMW.pt ?_
 refine Xv ?_ ?_
 refine Qr (QQ ?_) Qj ?_ ?_
 exact hu
 refine Qz Qw Qu ?_ ?_ PySem.boot_len ?_ ?_ ?_ ?_ ?_
 exact rfl
 exact b_len
 refine Qa ?_ ?_
 exact Qb 2
 exact Qd
 decide
 decide
 exact rfl
 exact rfl
 exact Qe
 refine VT ?_
 refine Qr (Wy ?_) Qj ?_ ?_
 exact hu
 refine Qn ?_ ?_
 exact Qb 2
 exact Qe
 refine QC ?_
 refine Qa ?_ ?_
 refine QC ?_
 exact Qd
 refine Qa ?_ ?_
 exact Qe
 refine Qa ?_ ?_
 exact Qe
 refine Qa ?_ ?_
 exact Jo
 exact Qd
 refine Qk ?_
 refine Qt ?_
 exact Jo
 exact QE
 refine Qk ?_
 refine Qt ?_
 refine Qdc (Wn ?_) Qj ?_ ?_
 exact hu
 exact Jo
 refine Vz Vj ?_ (Yi (ks := ["run", "rows", "program"]) (Nb := ["k", "run", "program", "rows"]) (cp := [none, some 2, some 0, some 1]) (N := ["program", "rows", "run"]) (xs := (Qs Jq)) rfl rfl (by decide +kernel) rfl (by decide +kernel) (by intro p hp; simp only [List.mem_cons, List.not_mem_nil, or_false] at hp; rcases hp with rfl | rfl | rfl <;> rfl) rfl rfl rfl (by decide +kernel)) ?_ (fun _ _ _ _ _ => ?_) (fun _ _ _ _ _ => ?_)
 exact rfl
 refine XU ?_ ?_ ?_ ?_
 exact rfl
 exact b_range
 refine Qa ?_ ?_
 refine QH J4 Qj ?_ ?_
 refine Qz Qw Qu ?_ ?_ PySem.boot_len ?_ ?_ ?_ ?_ ?_
 exact rfl
 exact b_len
 refine Qa ?_ ?_
 exact Qb 2
 exact Qd
 decide
 decide
 exact rfl
 exact rfl
 exact Qe
 exact Qd
 exact rfl
 exact QZ (i := 0) (x := "k") (show List.Nodup (["k", "run", "program", "rows"] : List Str) from by decide +kernel) rfl (Or.inl rfl)
 refine Qdc (QcY ?_) Qj ?_ ?_
 exact hu
 refine Qn ?_ ?_
 exact Qb 1
 refine QH Qx Qj ?_ ?_
 exact Qb 0
 exact Qe
 refine Qi (k := 1) (ps := ["program", "rows", "spot"]) ?_ ?_ ?_ ?_ ?_ ?_ ?_ ?_
 exact c__law_next
 exact hr.mono (by decide)
 exact rfl
 refine Qa ?_ ?_
 exact Qb 2
 refine Qa ?_ ?_
 exact Qb 3
 refine Qa ?_ ?_
 refine Qn ?_ ?_
 exact Qb 1
 exact Qb 0
 exact Qd
 exact rfl
 decide
 exact rfl
 exact rfl
noncomputable def J8 : FM := box frN JF
theorem Wh (d : DefAt K mg "_law_due" Jq ["program", "rows", "run"]) (b_len : mg "len" = none) (b_range : mg "range" = none) (c__law_next : Cal P w K mg base 1 "_law_next" ["program", "rows", "spot"] QL) : Cal P w K mg base 2 "_law_due" ["program", "rows", "run"] J8 := (Y0 d b_len b_range c__law_next).box frN
noncomputable abbrev Wb : Stmt := top 35
theorem sc_law : FnScope ["script", "k", "program", "feed", "rows", "run", "row", "handed", "found"] ["script"] (Qs Wb) := ⟨rfl, rfl, rfl, by decide +kernel, rfl, by decide +kernel, by decide +kernel⟩
noncomputable abbrev Ko : SM := (QI (Zo 7 (mFn Qct (Qc (Qg 6) Qm)))
  (QI (Zo 8 (Qv 2 VY (Qc (Qg 2) (Qc (Qg 7) Qm))))
  (JL (Uw (GJ (QcL (mFn QgB (Qc (Qg 8) (Qc (mC (.ty "bool")) Qm))))) (Uw (Qy (Ql wNe (Qg 8) (Qv 3 J8 (Qc (Qg 2) (Qc (Qg 4) (Qc (Qg 6) Qm)))))) (Qy (Ql wNe (Qg 7) (Qg 6))))) (Z9 (mC (.bl false))) Ze)))
noncomputable abbrev Yy : SM := (QI (Zo 2 (Qv 2 JY (Qc (Qv 2 Zq (Qc (Qg 0) (Qc (Qg 1) Qm))) (Qc (mFn Vf (Qc (mC (.int 3)) (Qc (mC (.int 3)) (Qc (mC (.int 5)) (Qc (mC (.int 8)) Qm))))) Qm))))
  (QI (Zo 3 (Qv 2 Zq (Qc (Qg 0) (Qc (Ql ZV (Qg 1) (mC (.int 1))) Qm))))
  (QI (Zo 2 (Qv 2 ZJ (Qc (Qg 2) (Qc (Qg 3) Qm))))
  (QI (Zo 4 (Jd V4 (Ja (Qg 2)) [none] (J2 0) Ku (Qv 1 QS (Qc (Ql wIx (Qg 0) (mC (.int 1))) Qm))))
  (QI (Zo 5 (Qv 3 J3 (Qc (Qg 2) (Qc (Qg 4) (Qc (Qg 3) Qm)))))
  (XG (Ja (mFn Vf (Qc (Qg 5) (Qc (Qv 4 Q8 (Qc (Qg 2) (Qc (Qg 4) (Qc (Qg 5) (Qc (Qg 3) Qm))))) (Qc (Qv 4 Q8 (Qc (Qg 2) (Qc (Qg 4) (Qc (Qg 5) (Qc (Qg 3) Qm))))) (Qc (mFn Vf Qm) Qm)))))) (J2 6)
  Ko))))))
noncomputable def XJ : FM := Zd 8
  (QI (XG (Qdn (Qc (mC (.int 0)) (Qc (mFn Qgn (Qc (mC (.int 2)) (Qc (mFn Qf1 (Qc (mC (.int 8)) (Qc (mFn Js (Qc (Qg 0) Qm)) Qm))) Qm))) (Qc (mC (.int 2)) Qm)))) (J2 1)
  Yy)
  (Z9 (mC (.bl true))))
set_option maxHeartbeats 4000000 in
theorem Qem (d : DefAt K mg "law" Wb ["script"]) (b_bool : mg "bool" = none) (b_isinstance : mg "isinstance" = none) (b_len : mg "len" = none) (b_list : mg "list" = none) (b_max : mg "max" = none) (b_min : mg "min" = none) (b_range : mg "range" = none) (c__law_any : Cal P w K mg base 5 "_law_any" ["feed", "bounds"] JY) (c__law_bent : Cal P w K mg base 3 "_law_bent" ["program", "rows", "run", "feed"] Q8) (c__law_blocks : Cal P w K mg base 1 "_law_blocks" ["lines"] QS) (c__law_dressed : Cal P w K mg base 2 "_law_dressed" ["program", "feed"] ZJ) (c__law_due : Cal P w K mg base 2 "_law_due" ["program", "rows", "run"] J8) (c__law_feed : Cal P w K mg base 1 "_law_feed" ["script", "k"] Zq) (c__law_run : Cal P w K mg base 2 "_law_run" ["program", "rows", "feed"] J3) (c_is_run : Cal P w K mg base 6 "is_run" ["program", "spots"] VY) : Cal P w K mg base 7 "law" ["script"] XJ := by
 refine Zb (k := 6) (more := 8) d sc_law rfl fun f cdv A outer s H E hr => ?_
 have hu := hr.units
 refine Qf ?_ ?_
 refine JP ?_ ?_ ?_ ?_ ?_ ?_
 exact PassesOwn.never
 exact rfl
 refine Qde ?_ ?_ ?_ ?_ ?_
 exact rfl
 exact b_range
 refine Qa ?_ ?_
 exact Qe
 refine Qa ?_ ?_
 refine Qz (GT ?_) Qu ?_ ?_ PyProof.Rows.boot_max ?_ ?_ ?_ ?_ ?_
 exact rfl
 exact rfl
 exact b_max
 refine Qa ?_ ?_
 exact Qe
 refine Qa ?_ ?_
 refine Qz (QaS ?_) Qu ?_ ?_ PyProof.Rows.boot_min ?_ ?_ ?_ ?_ ?_
 exact rfl
 exact rfl
 exact b_min
 refine Qa ?_ ?_
 exact Qe
 refine Qa ?_ ?_
 refine Qz Qw Qu ?_ ?_ PySem.boot_len ?_ ?_ ?_ ?_ ?_
 exact rfl
 exact b_len
 refine Qa ?_ ?_
 exact Qb 0
 exact Qd
 decide
 decide
 exact rfl
 exact rfl
 exact Qd
 decide
 decide
 exact rfl
 exact rfl
 exact Qd
 decide
 decide
 exact rfl
 exact rfl
 refine Qa ?_ ?_
 exact Qe
 exact Qd
 exact rfl
 exact rfl
 exact QZ (i := 1) (x := "k") sc_law.nd rfl (Or.inl rfl)
 refine Qf ?_ ?_
 refine Qo ?_ ?_ ?_ ?_ ?_ ?_
 exact sc_law.nd
 exact rfl
 exact (Or.inl rfl)
 refine Qi (k := 5) (ps := ["feed", "bounds"]) ?_ ?_ ?_ ?_ ?_ ?_ ?_ ?_
 exact c__law_any
 exact hr.mono (by decide)
 exact rfl
 refine Qa ?_ ?_
 refine Qi (k := 1) (ps := ["script", "k"]) ?_ ?_ ?_ ?_ ?_ ?_ ?_ ?_
 exact c__law_feed
 exact hr.mono (by decide)
 exact rfl
 refine Qa ?_ ?_
 exact Qb 0
 refine Qa ?_ ?_
 exact Qb 1
 exact Qd
 exact rfl
 decide
 exact rfl
 exact rfl
 refine Qa ?_ ?_
 refine Q1 ?_
 refine Qa ?_ ?_
 exact Qe
 refine Qa ?_ ?_
 exact Qe
 refine Qa ?_ ?_
 exact Qe
 refine Qa ?_ ?_
 exact Qe
 exact Qd
 exact Qd
 exact rfl
 decide
 exact rfl
 exact rfl
 exact rfl
 first | exact .inl rfl | exact .inr rfl
 refine Qf ?_ ?_
 refine Qo ?_ ?_ ?_ ?_ ?_ ?_
 exact sc_law.nd
 exact rfl
 exact (Or.inl rfl)
 refine Qi (k := 1) (ps := ["script", "k"]) ?_ ?_ ?_ ?_ ?_ ?_ ?_ ?_
 exact c__law_feed
 exact hr.mono (by decide)
 exact rfl
 refine Qa ?_ ?_
 exact Qb 0
 refine Qa ?_ ?_
 refine QH Qx Qj ?_ ?_
 exact Qb 1
 exact Qe
 exact Qd
 exact rfl
 decide
 exact rfl
 exact rfl
 exact rfl
 first | exact .inl rfl | exact .inr rfl
 refine Qf ?_ ?_
 refine Qo ?_ ?_ ?_ ?_ ?_ ?_
 exact sc_law.nd
 exact rfl
 exact (Or.inl rfl)
 refine Qi (k := 2) (ps := ["program", "feed"]) ?_ ?_ ?_ ?_ ?_ ?_ ?_ ?_
 exact c__law_dressed
 exact hr.mono (by decide)
 exact rfl
 refine Qa ?_ ?_
 exact Qb 2
 refine Qa ?_ ?_
 exact Qb 3
 exact Qd
 exact rfl
 decide
 exact rfl
 exact rfl
 exact rfl
 first | exact .inl rfl | exact .inr rfl
 refine Qf ?_ ?_
 refine KP sc_law.nd rfl (Or.inl rfl) ?_ Vj ?_ (Vs (Nb := ["part"]) (cp := [none]) rfl (by decide +kernel) (by decide +kernel) rfl rfl) ?_ (fun _ _ _ _ _ => ?_) (fun _ _ _ _ _ => ?_) ?_ ?_
 first | exact .inl rfl | exact .inr rfl
 exact rfl
 refine J9 ?_
 exact Qb 2
 exact QZ (i := 0) (x := "part") (show List.Nodup (["part"] : List Str) from by decide +kernel) rfl (Or.inl rfl)
 refine Qi (k := 1) (ps := ["lines"]) ?_ ?_ ?_ ?_ ?_ ?_ ?_ ?_
 exact c__law_blocks
 exact hr.mono (by decide)
 exact rfl
 refine Qa ?_ ?_
 refine Qn ?_ ?_
 exact Qb 0
 exact Qe
 exact Qd
 exact rfl
 decide
 exact rfl
 exact rfl
 exact fun _ => rfl
 exact rfl
 refine Qf ?_ ?_
 refine Qo ?_ ?_ ?_ ?_ ?_ ?_
 exact sc_law.nd
 exact rfl
 exact (Or.inl rfl)
 refine Qi (k := 2) (ps := ["program", "rows", "feed"]) ?_ ?_ ?_ ?_ ?_ ?_ ?_ ?_
 exact c__law_run
 exact hr.mono (by decide)
 exact rfl
 refine Qa ?_ ?_
 exact Qb 2
 refine Qa ?_ ?_
 exact Qb 4
 refine Qa ?_ ?_
 exact Qb 3
 exact Qd
 exact rfl
 decide
 exact rfl
 exact rfl
 exact rfl
 first | exact .inl rfl | exact .inr rfl
 refine Qk ?_
 refine JP ?_ ?_ ?_ ?_ ?_ ?_
 exact PassesOwn.never
 exact rfl
 refine J9 ?_
 refine Q1 ?_
 refine Qa ?_ ?_
 exact Qb 5
 refine Qa ?_ ?_
 refine Qi (k := 3) (ps := ["program", "rows", "run", "feed"]) ?_ ?_ ?_ ?_ ?_ ?_ ?_ ?_
 exact c__law_bent
 exact hr.mono (by decide)
 exact rfl
 refine Qa ?_ ?_
 exact Qb 2
 refine Qa ?_ ?_
 exact Qb 4
 refine Qa ?_ ?_
 exact Qb 5
 refine Qa ?_ ?_
 exact Qb 3
 exact Qd
 exact rfl
 decide
 exact rfl
 exact rfl
 refine Qa ?_ ?_
 refine Qi (k := 3) (ps := ["program", "rows", "run", "feed"]) ?_ ?_ ?_ ?_ ?_ ?_ ?_ ?_
 exact c__law_bent
 exact hr.mono (by decide)
 exact rfl
 refine Qa ?_ ?_
 exact Qb 2
 refine Qa ?_ ?_
 exact Qb 4
 refine Qa ?_ ?_
 exact Qb 5
 refine Qa ?_ ?_
 exact Qb 3
 exact Qd
 exact rfl
 decide
 exact rfl
 exact rfl
 refine Qa ?_ ?_
 refine Q1 ?_
 exact Qd
 exact Qd
 exact QZ (i := 6) (x := "row") sc_law.nd rfl (Or.inl rfl)
 refine Qf ?_ ?_
 refine Qo ?_ ?_ ?_ ?_ ?_ ?_
 exact sc_law.nd
 exact rfl
 exact (Or.inl rfl)
 refine ZC Gi Qu ?_ ?_ PyProof.Rows.boot_list ?_ ?_ ?_ ?_ ?_
 exact rfl
 exact b_list
 refine Qa ?_ ?_
 exact Qb 6
 exact Qd
 decide
 decide
 exact rfl
 exact rfl
 exact rfl
 first | exact .inl rfl | exact .inr rfl
 refine Qf ?_ ?_
 refine Qo ?_ ?_ ?_ ?_ ?_ ?_
 exact sc_law.nd
 exact rfl
 exact (Or.inl rfl)
 refine Qi (k := 6) (ps := ["program", "spots"]) ?_ ?_ ?_ ?_ ?_ ?_ ?_ ?_
 exact c_is_run
 exact hr.mono (by decide)
 exact rfl
 refine Qa ?_ ?_
 exact Qb 2
 refine Qa ?_ ?_
 exact Qb 7
 exact Qd
 exact rfl
 decide
 exact rfl
 exact rfl
 exact rfl
 first | exact .inl rfl | exact .inr rfl
 refine Qk ?_
 refine QJ ?_ ?_ ?_
 refine PMW.pt ?_
 refine Xv ?_ ?_
 refine Uc ?_
 refine XN ?_
 refine Qz Qa5 Qu ?_ ?_ PyProof.Rows.boot_isinstance ?_ ?_ ?_ ?_ ?_
 exact rfl
 exact b_isinstance
 refine Qa ?_ ?_
 exact Qb 8
 refine Qa ?_ ?_
 exact QgU rfl b_bool PyProof.Rows.boot_bool
 exact Qd
 decide
 decide
 exact rfl
 exact rfl
 refine Xv ?_ ?_
 refine Qr (Wy ?_) Qj ?_ ?_
 exact hu
 exact Qb 8
 refine Qi (k := 2) (ps := ["program", "rows", "run"]) ?_ ?_ ?_ ?_ ?_ ?_ ?_ ?_
 exact c__law_due
 exact hr.mono (by decide)
 exact rfl
 refine Qa ?_ ?_
 exact Qb 2
 refine Qa ?_ ?_
 exact Qb 4
 refine Qa ?_ ?_
 exact Qb 6
 exact Qd
 exact rfl
 decide
 exact rfl
 exact rfl
 refine VT ?_
 refine Qr (Wy ?_) Qj ?_ ?_
 exact hu
 exact Qb 7
 exact Qb 6
 refine Qk ?_
 refine Qt ?_
 exact Jo
 exact QE
 exact fun _ => rfl
 exact fun _ => rfl
 refine Qk ?_
 refine Qt ?_
 exact Jo
end

theorem Qd8 {P : Program} {w : World} {K : PySem.W.Frag} {mg : Str → Option Value} {base : Heap} (d__law_take : DefAt K mg "_law_take" JJ ["feed", "many"]) (d__law_names : DefAt K mg "_law_names" Zu ["feed", "many"]) (d__law_step_on : DefAt K mg "_law_step_on" ZA ["lines", "opened"]) (d__law_plain : DefAt K mg "_law_plain" Jg ["feed", "boxes", "words"]) (d__law_part : DefAt K mg "_law_part" JK ["feed", "size", "menus", "later", "opens", "dos"]) (d__law_program : DefAt K mg "_law_program" ZK ["feed", "bounds"]) (d__law_great : DefAt K mg "_law_great" Zs ["feed"]) (d__law_any : DefAt K mg "_law_any" JW ["feed", "bounds"]) (d__law_feed : DefAt K mg "_law_feed" JH ["script", "k"]) (d__law_dressed : DefAt K mg "_law_dressed" ZH ["program", "feed"]) (d__law_next : DefAt K mg "_law_next" JI ["program", "rows", "spot"]) (d__law_run : DefAt K mg "_law_run" J7 ["program", "rows", "feed"]) (d__law_blocks : DefAt K mg "_law_blocks" ZZ ["lines"]) (d__law_all : DefAt K mg "_law_all" J6 ["program", "rows"]) (d__law_bent : DefAt K mg "_law_bent" Jf ["program", "rows", "run", "feed"]) (d_first_spot : DefAt K mg "first_spot" Jl []) (d_line_of : DefAt K mg "line_of" Vm ["program", "spot"]) (d_at_gap : DefAt K mg "at_gap" VQ ["spot", "k"]) (d_at_head : DefAt K mg "at_head" Vw ["spot", "k"]) (d_level_change : DefAt K mg "level_change" ZM ["line"]) (d_head_of : DefAt K mg "head_of" Vu ["lines", "k"]) (d_found_behind : DefAt K mg "found_behind" ZF ["lines", "k", "kind"]) (d_or_of : DefAt K mg "or_of" XC ["lines", "k"]) (d_end_of : DefAt K mg "end_of" VR ["lines", "k"]) (d_next_in_part : DefAt K mg "next_in_part" ZG ["lines", "spot"]) (d_behind_do : DefAt K mg "behind_do" JG ["spot"]) (d_part_number : DefAt K mg "part_number" Z5 ["program", "name"]) (d_next_spots : DefAt K mg "next_spots" Jh ["program", "spot"]) (d_is_run : DefAt K mg "is_run" VW ["program", "spots"]) (d__law_due : DefAt K mg "_law_due" Jq ["program", "rows", "run"]) (d_law : DefAt K mg "law" Wb ["script"]) (b_bool : mg "bool" = none) (b_isinstance : mg "isinstance" = none) (b_len : mg "len" = none) (b_list : mg "list" = none) (b_max : mg "max" = none) (b_min : mg "min" = none) (b_range : mg "range" = none) (b_tuple : mg "tuple" = none) : Cal P w K mg base 7 "law" ["script"] XJ := by
 have c__law_take : Cal P w K mg base 1 "_law_take" ["feed", "many"] Qh := YN d__law_take
 have c__law_names : Cal P w K mg base 2 "_law_names" ["feed", "many"] QN := K9 d__law_names b_range c__law_take
 have c__law_step_on : Cal P w K mg base 1 "_law_step_on" ["lines", "opened"] QD := XX d__law_step_on
 have c__law_plain : Cal P w K mg base 2 "_law_plain" ["feed", "boxes", "words"] QM := K7 d__law_plain b_len c__law_take
 have c__law_part : Cal P w K mg base 3 "_law_part" ["feed", "size", "menus", "later", "opens", "dos"] Q0 := YA d__law_part b_len b_range b_tuple c__law_plain c__law_step_on c__law_take
 have c__law_program : Cal P w K mg base 4 "_law_program" ["feed", "bounds"] Zm := X3 d__law_program b_len b_range b_tuple c__law_names c__law_part c__law_take
 have c__law_great : Cal P w K mg base 4 "_law_great" ["feed"] ZR := K8 d__law_great b_len b_range b_tuple c__law_names c__law_part c__law_plain c__law_step_on c__law_take
 have c__law_any : Cal P w K mg base 5 "_law_any" ["feed", "bounds"] JY := WP d__law_any c__law_great c__law_program c__law_take
 have c__law_feed : Cal P w K mg base 1 "_law_feed" ["script", "k"] Zq := YC d__law_feed b_len
 have c__law_dressed : Cal P w K mg base 2 "_law_dressed" ["program", "feed"] ZJ := X2 d__law_dressed b_len b_tuple c__law_take
 have c__law_next : Cal P w K mg base 1 "_law_next" ["program", "rows", "spot"] QL := Yt d__law_next b_len
 have c__law_run : Cal P w K mg base 2 "_law_run" ["program", "rows", "feed"] J3 := Wr d__law_run b_len c__law_next c__law_take
 have c__law_blocks : Cal P w K mg base 1 "_law_blocks" ["lines"] QS := KI d__law_blocks b_len b_range
 have c__law_all : Cal P w K mg base 2 "_law_all" ["program", "rows"] JA := Wz d__law_all b_len b_list c__law_next
 have c__law_bent : Cal P w K mg base 3 "_law_bent" ["program", "rows", "run", "feed"] Q8 := YL d__law_bent b_len b_list c__law_all c__law_take
 have c_first_spot : Cal P w K mg base 1 "first_spot" [] ZN := K6 d_first_spot
 have c_line_of : Cal P w K mg base 1 "line_of" ["program", "spot"] ZP := Ua d_line_of b_len
 have c_at_gap : Cal P w K mg base 1 "at_gap" ["spot", "k"] Zn := Gs d_at_gap
 have c_at_head : Cal P w K mg base 1 "at_head" ["spot", "k"] Jy := Um d_at_head
 have c_level_change : Cal P w K mg base 1 "level_change" ["line"] QT := X5 d_level_change
 have c_head_of : Cal P w K mg base 2 "head_of" ["lines", "k"] Je := W9 d_head_of b_range c_level_change
 have c_found_behind : Cal P w K mg base 2 "found_behind" ["lines", "k", "kind"] QK := Ka d_found_behind b_len b_range c_level_change
 have c_or_of : Cal P w K mg base 3 "or_of" ["lines", "k"] VF := G5 d_or_of c_found_behind
 have c_end_of : Cal P w K mg base 3 "end_of" ["lines", "k"] ZB := Gz d_end_of c_found_behind
 have c_next_in_part : Cal P w K mg base 4 "next_in_part" ["lines", "spot"] Zc := X4 d_next_in_part c_at_gap c_at_head c_end_of c_head_of c_or_of
 have c_behind_do : Cal P w K mg base 1 "behind_do" ["spot"] ZI := YQ d_behind_do
 have c_part_number : Cal P w K mg base 1 "part_number" ["program", "name"] Zk := KA d_part_number
 have c_next_spots : Cal P w K mg base 5 "next_spots" ["program", "spot"] Zj := K5 d_next_spots c_at_gap c_behind_do c_end_of c_line_of c_next_in_part c_part_number
 have c_is_run : Cal P w K mg base 6 "is_run" ["program", "spots"] VY := Gn d_is_run b_len b_range c_first_spot c_next_spots
 have c__law_due : Cal P w K mg base 2 "_law_due" ["program", "rows", "run"] J8 := Wh d__law_due b_len b_range c__law_next
 have c_law : Cal P w K mg base 7 "law" ["script"] XJ := Qem d_law b_bool b_isinstance b_len b_list b_max b_min b_range c__law_any c__law_bent c__law_blocks c__law_dressed c__law_due c__law_feed c__law_run c_is_run
 exact c_law

end My

namespace My
open PySem PySem.Spec PyProof.Rows L2 Mi
noncomputable abbrev Ln := List Str
noncomputable def QO (l : Ln) : W := .tup (l.map .str)
noncomputable def Zy (xs : List Str) : W := .lst (xs.map .str)
noncomputable abbrev Pt := Str × List Ln
noncomputable def JV (p : Pt) : W := .tup [.str p.1, .tup (p.2.map QO)]
noncomputable def ZX (p : List Pt) : W := .tup (p.map JV)
structure Spt where
 way : List (Nat × Nat)
 part : Nat
 k : Nat
 head : Bool
noncomputable def KJ (q : Nat × Nat) : W := .tup [.int q.1, .int q.2]
noncomputable def Qp (s : Spt) : W := .tup [.tup (s.way.map KJ), .int s.part, .int s.k, .bl s.head]
theorem Kg : ∀ {ws : List W}, (∀ w ∈ ws, pln w = true) → X8 ws = true
 | [], _ => rfl
 | w :: ws, h => by unfold X8; rw [h w List.mem_cons_self, Kg fun x hx => h x (List.mem_cons_of_mem _ hx)]; rfl
theorem Kb {n : Nat} : ∀ {ws : List W}, (∀ w ∈ ws, dep w ≤ n) → YY ws ≤ n
 | [], _ => Nat.zero_le _
 | w :: ws, h => by unfold YY; exact Nat.max_le.mpr ⟨h w List.mem_cons_self, Kb fun x hx => h x (List.mem_cons_of_mem _ hx)⟩
theorem VH {α : Type} {f : α → W} {xs : List α} (h : ∀ x, pln (f x) = true) : X8 (xs.map f) = true := Kg fun w hw => by obtain ⟨x, _, rfl⟩ := List.mem_map.mp hw; exact h x
theorem U9 {α : Type} {f : α → W} {xs : List α} {n : Nat} (h : ∀ x, dep (f x) ≤ n) : YY (xs.map f) ≤ n := Kb fun w hw => by obtain ⟨x, _, rfl⟩ := List.mem_map.mp hw; exact h x
@[simp] theorem Xy {xs : List Str} : X8 (xs.map .str) = true := VH fun _ => rfl
theorem UN {xs : List Str} : YY (xs.map .str) ≤ 1 := U9 fun _ => Nat.le_refl _
@[simp] theorem Qe5 {l : Ln} : pln (QO l) = true := by unfold QO pln; exact Xy
@[simp] theorem QcR {xs : List Str} : pln (Zy xs) = true := by unfold Zy pln; exact Xy
@[simp] theorem Qd2 {ls : List Ln} : X8 (ls.map QO) = true := VH fun _ => Qe5
@[simp] theorem QhQ {p : Pt} : pln (JV p) = true := by simp [JV, pln, X8]
@[simp] theorem Qbg {ps : List Pt} : X8 (ps.map JV) = true := VH fun _ => QhQ
@[simp] theorem QhM {ps : List Pt} : pln (ZX ps) = true := by unfold ZX pln; exact Qbg
@[simp] theorem Qhl {q : Nat × Nat} : pln (KJ q) = true := id rfl
theorem Qhd {q : Nat × Nat} : dep (KJ q) ≤ 2 := Nat.le_refl _
@[simp] theorem QeT {qs : List (Nat × Nat)} : X8 (qs.map KJ) = true := VH fun _ => Qhl
theorem Qet {qs : List (Nat × Nat)} : YY (qs.map KJ) ≤ 2 := U9 fun _ => Qhd
@[simp] theorem Gh {s : Spt} : pln (Qp s) = true := by simp [Qp, pln, X8]
theorem Qfi {s : Spt} : dep (Qp s) ≤ 4 := by simp [Qp, dep, YY]; have := Qet (qs := s.way); omega
@[simp] theorem Qd4 {ss : List Spt} : X8 (ss.map Qp) = true := VH fun _ => Gh
@[simp] theorem Qjs {l : Ln} : pur (QO l) = true := KQ _ Qe5
@[simp] theorem QgG {xs : List Str} : pur (Zy xs) = true := KQ _ QcR
@[simp] theorem Qkg {ps : List Pt} : pur (ZX ps) = true := KQ _ QhM
@[simp] theorem Qku {s : Spt} : pur (Qp s) = true := KQ _ Gh
@[simp] theorem QgM {xs : List Str} : JU (xs.map .str) = true := Jk _ Xy
@[simp] theorem QhA {ls : List Ln} : JU (ls.map QO) = true := Jk _ Qd2
@[simp] theorem QhY {ls : List Pt} : JU (ls.map JV) = true := Jk _ Qbg
@[simp] theorem WV {ss : List Spt} : JU (ss.map Qp) = true := Jk _ Qd4
@[simp] theorem Qju {i : Int} : pur (.int i) = true := id rfl
@[simp] theorem Qkd {x : Str} : pur (.str x) = true := id rfl
@[simp] theorem QkH {b : Bool} : pur (.bl b) = true := id rfl
@[simp] theorem Qkp {ws : List W} : pur (.tup ws) = JU ws := by unfold pur; rfl
@[simp] theorem Qh7 {ws : List W} : pur (.lst ws) = JU ws := by unfold pur; rfl
@[simp] theorem Qke {ws : List W} : pur (.frz ws) = JU ws := by unfold pur; rfl
@[simp] theorem Qiz : JU [] = true := id rfl
@[simp] theorem Qg4 {w : W} {ws : List W} : JU (w :: ws) = (pur w && JU ws) := by rw [JU]
@[simp] theorem QiQ {ws us : List W} : JU (ws ++ us) = (JU ws && JU us) := by
 induction ws with
 | nil => simp
 | cons w ws ih => simp [ih, Bool.and_assoc]
@[simp] theorem QfB {ns : List Int} : JU (ns.map .int) = true := by
 induction ns with
 | nil => rfl
 | cons n ns ih => simp [ih]
@[simp] theorem Qik {ws : List W} : Qdp (.lst ws) = JU ws := id rfl
theorem X0 {n : Nat} (h : n ≤ 1000000) : n ≤ sizeLine := Nat.le_trans h (by decide)
theorem Xf {n : Nat} (h : n ≤ 1000000) : n < sizeLine := Nat.lt_of_le_of_lt h (by decide)
@[simp] theorem Qio : 1 ≤ sizeLine := by decide
@[simp] theorem Qip : 2 ≤ sizeLine := by decide
@[simp] theorem Qit : 3 ≤ sizeLine := by decide
@[simp] theorem Qjd : 4 ≤ sizeLine := by decide
@[simp] theorem Qin : 5 ≤ sizeLine := by decide
@[simp] theorem Qil : 6 ≤ sizeLine := by decide
@[simp] theorem Qiu : 8 ≤ sizeLine := by decide
structure Fd where
 a : Int
 b : Int
 hb : 0 ≤ b ∧ b < 1099511627776
noncomputable def QA (f : Fd) : MO := .lst [.int f.a, .int f.b]
theorem WY {α : Type} {xs : List α} {i : Int} {P : α → Prop} {f : α → W} (h0 : 0 ≤ i) (h1 : i < xs.length) (hp : ∀ x ∈ xs, P x) : ∃ x, x ∈ xs ∧ P x ∧ atI (xs.map f) i = some (f x) := by
 obtain ⟨n, rfl⟩ : ∃ n : Nat, i = n := ⟨i.toNat, by omega⟩
 have hn : n < xs.length := by omega
 exact ⟨xs[n], List.getElem_mem hn, hp _ (List.getElem_mem hn), by rw [Zt, List.getElem?_map, List.getElem?_eq_getElem hn]; rfl⟩
theorem Qco {f g : Fd} (e : QA f = QA g) : f = g := by
 obtain ⟨a, b, hb⟩ := f
 obtain ⟨a', b', hb'⟩ := g
 simp [QA] at e
 obtain ⟨rfl, rfl⟩ := e
 rfl
noncomputable def QgA (h : MH) (n : Nat) : Prop := ∃ f, h[n]? = some (QA f)
open Classical in
noncomputable def QaD (h : MH) (n : Nat) : Fd := if p : QgA h n then p.choose else ⟨0, 0, by decide⟩
theorem U0 {h : MH} {n : Nat} {f : Fd} (e : h[n]? = some (QA f)) : QaD h n = f := by
 have p : QgA h n := ⟨f, e⟩
 unfold QaD
 rw [dif_pos p]
 exact (Qco (Option.some.inj (e.symm.trans p.choose_spec))).symm
@[simp] theorem QiE {f : Fd} {h : MH} : QgA (QA f :: h) 0 := ⟨f, rfl⟩
@[simp] theorem QgV {f : Fd} {h : MH} : QaD (QA f :: h) 0 = f := U0 rfl
theorem QeG {neg : Bool} {a : W} {ys : List W} {h : MH} (pa : pln a = true) (py : X8 ys = true) (da : dep a ≤ 40) (dy : YY ys ≤ 40) : wIn neg a (.lst ys) h = some (.bl (if neg = true then !inW a ys else inW a ys), h) := by
 show ((lsW h (.lst ys)).bind fun ys => (drf h 40 a).bind fun x => (Jp (drf h 40) ys).map fun zs => (W.bl (if neg then !inW x zs else inW x zs), h)) = _
 simp only [lsW, Option.bind_some]
 rw [V0 h a 40 pa da, V8 h ys 40 py dy]; rfl
@[simp] theorem Qki {i : Int} {h : MH} : wIn false (.int i) (.lst [.int 6, .int 7]) h = some (.bl (decide (i = 6 ∨ i = 7)), h) := by
 rw [QeG (by simp [pln]) (by simp [pln, X8]) (by simp [dep]) (by simp [dep, YY])]
 have : inW (.int i) [.int 6, .int 7] = decide (i = 6 ∨ i = 7) := by
  simp only [inW, List.any_cons, List.any_nil, eqW, Bool.or_false]
  rw [Bool.eq_iff_iff]
  simp
  omega
 simp [this]
@[simp] theorem Qg2 {xs : List Str} {h : MH} : Js [Zy xs] h = some (.int xs.length, h) := by unfold Zy; simp
@[simp] theorem QiJ {xs : List Str} {i : Int} {h : MH} : wIx (Zy xs) (.int i) h = @om _ _ (fun w => (w, h)) (atI (xs.map .str) i) := by unfold Zy; simp
@[simp] theorem QkM {α : Type} {xs : List α} : atI xs 2 = xs[2]? := Zt (n := 2)
@[simp] theorem QkS {α : Type} {xs : List α} : atI xs 3 = xs[3]? := Zt (n := 3)
theorem Vo {a : Int} {n j : Nat} {w : W} (h : (QR a n)[j]? = some w) : j < n ∧ w = .int (a + j) := by
 have hl := (List.getElem?_eq_some_iff.mp h).1
 simp [QR] at hl
 refine ⟨hl, ?_⟩
 unfold QR at h
 rw [List.getElem?_map, List.getElem?_range hl] at h
 cases h; rfl
theorem Kl {α : Type} {l : List α} {x y : α} : (l ++ [x]).set l.length y = l ++ [y] := by simp
theorem Qdz {a b : Char} (h : a.toNat = b.toNat) : a = b := by
 have : a.val = b.val := by
  apply UInt32.toNat_inj.mp
  exact h
 exact Char.ext this
theorem KN : ∀ {a b : List Char}, a.map Char.toNat = b.map Char.toNat → a = b
 | [], [], _ => rfl
 | [], _ :: _, h => by simp at h
 | _ :: _, [], h => by simp at h
 | x :: a, y :: b, h => by
  simp only [List.map_cons, List.cons.injEq] at h
  rw [Qdz h.1, KN h.2]
@[simp] theorem Qhx {a b : String} : (Str.ofString a = Str.ofString b) ↔ a = b := by
 constructor
 ·intro h
  rw [Str.ofString_eq_toList, Str.ofString_eq_toList] at h
  have h1 := KN (List.toArray_inj (Str.mk.inj h))
  exact String.toList_inj.mp h1
 ·intro h; rw [h]
end My

namespace My
open PySem PySem.Spec PyProof.Rows L2 Mi My3 My4
theorem YO (f : Fd) (m : Int) : ∃ p : Int × Fd, (0 < m → 0 ≤ p.1 ∧ p.1 < m) ∧ (0 < m → m < 1000000 → ∀ (h : MH) (n : Nat), h[n]? = some (QA f) → Qh [.ref n, .int m] h = some (.int p.1, h.set n (QA p.2))) := by
 obtain ⟨a, b, hb⟩ := f
 by_cases h : 0 < a
 ·refine ⟨(a % m, ⟨a / m, b, hb⟩), fun hm => ⟨Int.emod_nonneg _ (by omega), Int.emod_lt_of_pos _ hm⟩, fun hm hm2 g n hn => Jc (o := QA ⟨a, b, hb⟩) (g := []) (by simp) hn (by simp [QA]) ?_ rfl ⟨_, rfl, by simp⟩⟩
  have hm3 : m < 1073741824 := by omega
  simp [ZS, Zd, h, hm, hm3, QA]
 ·refine ⟨((b * 69621 + 12345) % 2147483647 / 8191 % m, ⟨a, (b * 69621 + 12345) % 2147483647, Int.emod_nonneg _ (by decide), Int.lt_trans (Int.emod_lt_of_pos _ (by decide)) (by decide)⟩), fun hm => ⟨Int.emod_nonneg _ (by omega), Int.emod_lt_of_pos _ hm⟩, fun hm hm2 g n hn => Jc (o := QA ⟨a, b, hb⟩) (g := []) (by simp) hn (by simp [QA]) ?_ rfl ⟨_, rfl, by simp⟩⟩
  have hm3 : m < 1073741824 := by omega
  simp [ZS, Zd, h, hm, hm3, QA]
noncomputable def tk (f : Fd) (m : Int) : Int := (Classical.choose (YO f m)).1
noncomputable def tf (f : Fd) (m : Int) : Fd := (Classical.choose (YO f m)).2
theorem Kf {f : Fd} {m : Int} (hm : 0 < m) : 0 ≤ tk f m ∧ tk f m < m := (Classical.choose_spec (YO f m)).1 hm
theorem Qcf {f : Fd} {m : Int} {h : MH} {n : Nat} (hm : 0 < m) (hm2 : m < 1000000) (hn : h[n]? = some (QA f)) : Qh [.ref n, .int m] h = some (.int (tk f m), h.set n (QA (tf f m))) := (Classical.choose_spec (YO f m)).2 hm hm2 h n hn
@[simp] theorem VD {m : Int} {h : MH} {n : Nat} (hm : 0 < m) (hm2 : m < 1000000) (hn : QgA h n) : Qh [.ref n, .int m] h = some (.int (tk (QaD h n) m), h.set n (QA (tf (QaD h n) m))) := by
 obtain ⟨f, hf⟩ := hn
 rw [U0 hf]
 exact Qcf hm hm2 hf
noncomputable abbrev abc : Str := "abcdefghijklmnopqrstuvwxyz"
theorem Up (x : Str) (n : Int) : (rep x n).length = n.toNat * x.length := by unfold rep Str.length; simp
theorem Uo (x y : Str) : (x ++ y).length = x.length + y.length := by show (x.cps ++ y.cps).size = _; simp [Str.length]
theorem QeR : abc.length = 26 := by decide +kernel
noncomputable def ltr (i : Int) : Str := ⟨#[97 + i.toNat]⟩
theorem QeI : abc.cps.toList = (List.range 26).map (97 + ·) := by decide +kernel
@[simp] theorem Qdv {i : Int} : (ltr i).length = 1 := rfl
@[simp] theorem Qi4 {i : Int} {h : MH} (h0 : 0 ≤ i) (h1 : i < 26) : wIx (.str abc) (.int i) h = some (.str (ltr i), h) := by
 obtain ⟨n, rfl⟩ : ∃ n : Nat, i = n := ⟨i.toNat, by omega⟩
 refine Qd9 (by rw [QeR]; decide) ?_
 rw [Zt, QeI, List.getElem?_map, List.getElem?_range (by omega)]; rfl
theorem Xj {ms : MA} {σ : MSt} {h h' : MH} {j : Nat} (e : ms σ h = some ([.int j], h')) (hj : j < 1000000) : Ya ms σ h = some (QR 0 j, none, h') := by
 unfold Ya
 rw [e, Option.bind_some]
 exact (if_pos ⟨by omega, by omega⟩).trans (by simp)
theorem Zi {a : Int} {n : Nat} : (QR a n).length = n := by simp [QR]
theorem KG {a : Int} {n : Nat} {f : W → W} : (QR a n).map f = (List.range n).map fun (i : Nat) => f (.int (a + i)) := by simp [QR]
theorem QgY {i : Int} (h0 : 0 ≤ i) (h1 : i < 6) : ∃ v : Int, (v = 1 ∨ v = 3 ∨ v = 5 ∨ v = 7 ∨ v = 9 ∨ v = 11) ∧ atI [W.int 1, .int 3, .int 5, .int 7, .int 9, .int 11] i = some (.int v) := by
 obtain ⟨x, _, hx, e⟩ := WY (xs := [(1 : Int), 3, 5, 7, 9, 11]) (f := W.int) (P := fun v => v = 1 ∨ v = 3 ∨ v = 5 ∨ v = 7 ∨ v = 9 ∨ v = 11) h0 h1 (by decide)
 exact ⟨x, hx, e⟩
theorem Qh0 {i : Int} (h0 : 0 ≤ i) (h1 : i < 8) : ∃ v : Int, 1 ≤ v ∧ v ≤ 8 ∧ atI [W.int 1, .int 3, .int 4, .int 5, .int 6, .int 7, .int 8, .int 1] i = some (.int v) := by
 obtain ⟨x, _, hx, e⟩ := WY (xs := [(1 : Int), 3, 4, 5, 6, 7, 8, 1]) (f := W.int) (P := fun v => 1 ≤ v ∧ v ≤ 8) h0 h1 (by decide)
 exact ⟨x, hx.1, hx.2, e⟩
theorem XT {α β : Type} {f : α → β} {l : List α} (h : ∀ a ∈ l, ∀ b ∈ l, f a = f b → a = b) (hl : l.Nodup) : (l.map f).Nodup := by
 unfold List.Nodup
 rw [List.pairwise_map]
 exact List.Pairwise.imp_of_mem (fun ha hb hab e => hab (h _ ha _ hb e)) hl
theorem Yu {t st : Int} {a b : Nat} (hs : st = 1 ∨ st = 3 ∨ st = 5 ∨ st = 7 ∨ st = 9 ∨ st = 11) (ha : a < 5) (hb : b < 5) (h : ((t + st * (0 + (a : Int))) % 26).toNat = ((t + st * (0 + (b : Int))) % 26).toNat) : a = b := by
 rw [Int.zero_add, Int.zero_add] at h
 have h1 := Int.emod_nonneg (t + st * a) (show (26 : Int) ≠ 0 by decide)
 have h2 := Int.emod_nonneg (t + st * b) (show (26 : Int) ≠ 0 by decide)
 have h3 : (t + st * a) % 26 = (t + st * b) % 26 := by rw [← Int.toNat_of_nonneg h1, ← Int.toNat_of_nonneg h2, h]
 have h4 := Int.emod_eq_emod_iff_emod_sub_eq_zero.mp h3
 have h5 : t + st * a - (t + st * b) = st * ((a : Int) - b) := by rw [Int.mul_sub]; omega
 rw [h5] at h4
 have key : ∀ a : Fin 5, ∀ b : Fin 5, ∀ st ∈ [(1 : Int), 3, 5, 7, 9, 11], st * ((a.val : Int) - b.val) % 26 = 0 → a = b := by decide
 exact Fin.mk.inj (key ⟨a, ha⟩ ⟨b, hb⟩ st (by simpa using hs) h4)
theorem Qd1 {a b : Str} {i j : Int} (h : a ++ ltr i ++ b = a ++ ltr j ++ b) : i.toNat = j.toNat := by
 have e : ∀ x y : Str, (x ++ y).cps.toList = x.cps.toList ++ y.cps.toList := fun x y => by show (x.cps ++ y.cps).toList = _; simp
 have h2 := congrArg (fun s : Str => s.cps.toList) h
 simp only [e] at h2
 simp [ltr] at h2
 omega
theorem V3 (f : Fd) (many : Nat) (hm : many ≤ 5) : ∃ (ns : List Str) (f' : Fd), ns.length = many ∧ ns.Nodup ∧ ∀ (h : MH) (n : Nat), h[n]? = some (QA f) → QN [.ref n, .int many] h = some (Zy ns, h.set n (QA f')) := by
 obtain ⟨a0, a1⟩ := Kf (f := f) (m := 26) (by decide)
 by_cases h0 : tk (tf f 26) 3 = 0
 ·refine ⟨(List.range many).map fun (k : Nat) => rep (ltr (tk f 26)) ((0 : Int) + k + 1), tf (tf f 26) 3, by simp, XT (fun a _ b _ e => ?_) List.nodup_range, fun h n hn => ?_⟩
  ·have := congrArg Str.length e
   rw [Up, Up, Qdv] at this
   omega
  ·refine Jc (o := QA f) (g := []) (by simp) hn (by simp [QA]) ?_ (by simp) ⟨_, rfl, by simp⟩
   have e := VA (fin := V4) (mi := Ya (Qc (Qg 1) Qm)) (cp := [none, some 3]) (me := Ql Xu (Qg 1) (Ql ZV (Qg 0) (mC (.int 1)))) (σ := [some (.ref 0), some (.int many), some (.str abc), some (.str (ltr (tk f 26))), none, none, none, none, none]) (caps := [some (.str (ltr (tk f 26)))]) (h := [QA (tf (tf f 26) 3)]) (items := QR 0 many)
    (fun w => match w with | .int k => .str (rep (ltr (tk f 26)) (k + 1)) | w => w) (Xj (by simp) (by omega)) ⟨_, rfl⟩ (fun w hw => by
     obtain ⟨k, hk, rfl⟩ := List.mem_map.mp hw
     simp at hk
     simp
     exact Qbp ⟨by omega, by omega, by simp⟩) (by rw [Zi]; exact X0 (by omega))
   simp [JD, Zd, a0, a1, h0, e, V4, Zy, KG]
 ·generalize hf2 : tf (tf f 26) 3 = f2
  obtain ⟨b0, b1⟩ := Kf (f := f2) (m := 26) (by decide)
  obtain ⟨c0, c1⟩ := Kf (f := tf f2 26) (m := 6) (by decide)
  obtain ⟨d0, d1⟩ := Kf (f := tf (tf f2 26) 6) (m := 8) (by decide)
  obtain ⟨st, hst, es⟩ := QgY c0 c1
  have s0 : 0 ≤ st := by omega
  have s1 : st ≤ 11 := by omega
  obtain ⟨sz, z0, z1, ez⟩ := Qh0 d0 d1
  obtain ⟨p0, p1⟩ := Kf (f := tf (tf (tf f2 26) 6) 8) (m := sz) (by omega)
  generalize hpl : tk (tf (tf (tf f2 26) 6) 8) sz = pl at p0 p1
  generalize hfl : ltr (tk f 26) = fl
  have lfl : fl.length = 1 := by rw [← hfl]; rfl
  have lr : ∀ n : Int, (rep fl n).length = n.toNat := fun n => by rw [Up, lfl]; omega
  refine ⟨(List.range many).map fun (k : Nat) => rep fl pl ++ ltr ((tk f2 26 + st * (0 + (k : Int))) % 26) ++ rep fl (sz - 1 - pl), tf (tf (tf (tf f2 26) 6) 8) sz, by simp, XT (fun a ha b hb e => ?_) List.nodup_range, fun h n hn => ?_⟩
  ·have := Qd1 e
   have ha' := List.mem_range.mp ha
   have hb' := List.mem_range.mp hb
   exact Yu hst (by omega) (by omega) this
  ·refine Jc (o := QA f) (g := []) (by simp) hn (by simp [QA]) ?_ (by simp) ⟨_, rfl, by simp⟩
   have e1 : Xu (.str fl) (.int (sz - 1 - pl)) [QA (tf (tf (tf (tf f2 26) 6) 8) sz)] = some (.str (rep fl (sz - 1 - pl)), _) := Qbp ⟨by omega, by omega, by omega⟩
   have hz : (0 : Int) < sz := by omega
   have hz' : sz < 1000000 := by omega
   simp [JD, Zd, a0, a1, h0, hf2, hfl, b0, b1, es, ez, hz, hz', hpl, e1]
   rw [VA (items := QR 0 many) (caps := [some (.str (rep fl (sz - 1 - pl))), some (.str fl), some (.int pl), some (.str abc), some (.int (tk f2 26)), some (.int st)]) (fun w => match w with | .int k => .str (rep fl pl ++ ltr ((tk f2 26 + st * k) % 26) ++ rep fl (sz - 1 - pl)) | w => w)]
   ·simp [V4, Zy, KG]
   ·exact Xj (by simp) (by omega)
   ·exact ⟨_, rfl⟩
   ·intro w hw
    obtain ⟨k, hk, rfl⟩ := List.mem_map.mp hw
    simp at hk
    have e2 : Xu (.str fl) (.int pl) [QA (tf (tf (tf (tf f2 26) 6) 8) sz)] = some (.str (rep fl pl), _) := Qbp ⟨by omega, by omega, by omega⟩
    have q1 : 0 ≤ (tk f2 26 + st * (k : Int)) % 26 := Int.emod_nonneg _ (by decide)
    have q2 : (tk f2 26 + st * (k : Int)) % 26 < 26 := Int.emod_lt_of_pos _ (by decide)
    have q3 : -18446744073709551616 < st := by omega
    have q4 : st < 18446744073709551616 := by omega
    have l1 : pl.toNat + 1 ≤ sizeLine := X0 (by omega)
    have l2 : pl.toNat + 1 + (sz - 1 - pl).toNat ≤ sizeLine := X0 (by omega)
    simp [e2, q1, q2, q3, q4, lr, l1, l2, Uo]
   ·rw [Zi]; exact X0 (by omega)
inductive PlainL (bs ws : List Str) : Ln → Prop where
 | pair {x w y z : Str} (hx : x ∈ bs) (hw : w ∈ ws) (hy : y ∈ bs) (hz : z ∈ bs) : PlainL bs ws ["pair", x, w, y, z]
 | first {x y : Str} (hx : x ∈ bs) (hy : y ∈ bs) : PlainL bs ws ["first", x, y]
 | second {x y : Str} (hx : x ∈ bs) (hy : y ∈ bs) : PlainL bs ws ["second", x, y]
 | same {x y : Str} (hx : x ∈ bs) (hy : y ∈ bs) : PlainL bs ws ["same", x, y]
 | none {x : Str} (hx : x ∈ bs) : PlainL bs ws ["none", x]
 | tell {x : Str} (hx : x ∈ bs) : PlainL bs ws ["tell", x]
theorem GF {xs : List Str} {i : Int} (h0 : 0 ≤ i) (h1 : i < xs.length) : ∃ x, x ∈ xs ∧ atI (xs.map W.str) i = some (.str x) := by
 obtain ⟨x, hx, _, e⟩ := WY (xs := xs) (f := W.str) (P := fun _ => True) h0 h1 (fun _ _ => True.intro)
 exact ⟨x, hx, e⟩
theorem Kj (f : Fd) (bs ws : List Str) (hb : 0 < bs.length) (hb2 : bs.length ≤ 5) (hw : 0 < ws.length) (hw2 : ws.length ≤ 5) : ∃ (l : Ln) (f' : Fd), PlainL bs ws l ∧ ∀ (h : MH) (n : Nat), h[n]? = some (QA f) → QM [.ref n, Zy bs, Zy ws] h = some (QO l, h.set n (QA f')) := by
 obtain ⟨a0, a1⟩ := Kf (f := f) (m := 10) (by decide)
 have q1 : (0 : Int) < bs.length := by omega
 have q2 : (bs.length : Int) < 1000000 := by omega
 have q3 : (0 : Int) < ws.length := by omega
 have q4 : (ws.length : Int) < 1000000 := by omega
 have n1 : bs ≠ [] := by intro z; rw [z] at hb; simp at hb
 have n2 : ws ≠ [] := by intro z; rw [z] at hw; simp at hw
 have n3 : bs.length < 1000 := by omega
 have n4 : ws.length < 1000 := by omega
 obtain ⟨b0, b1⟩ := Kf (f := tf f 10) (m := bs.length) q1
 obtain ⟨x, hx, ex⟩ := GF b0 b1
 obtain ⟨c0, c1⟩ := Kf (f := tf (tf f 10) bs.length) (m := bs.length) q1
 obtain ⟨y, hy, ey⟩ := GF c0 c1
 by_cases h4 : tk f 10 < 4
 ·obtain ⟨d0, d1⟩ := Kf (f := tf (tf (tf f 10) bs.length) bs.length) (m := bs.length) q1
  obtain ⟨z, hz, ez⟩ := GF d0 d1
  obtain ⟨e0, e1⟩ := Kf (f := tf (tf (tf (tf f 10) bs.length) bs.length) bs.length) (m := ws.length) q3
  obtain ⟨w, hw, ew⟩ := GF e0 e1
  refine ⟨_, tf (tf (tf (tf (tf f 10) bs.length) bs.length) bs.length) ws.length, .pair hx hw hy hz, fun h n hn => ?_⟩
  refine Jc (o := QA f) (g := []) (by simp) hn (by simp [QA]) ?_ (by simp) ⟨_, rfl, by simp⟩
  simp [JC, Zd, Zy, VD q1 q2, VD q3 q4, ex, ey, ez, ew, h4, QO]
 ·have a0' : 0 ≤ tk f 10 - 4 := by omega
  obtain ⟨l, _, hl, el⟩ := WY (xs := ([["first", x, y], ["second", x, y], ["same", x, y], ["none", x], ["tell", y], ["tell", x]] : List Ln)) (i := tk f 10 - 4) (f := QO) (P := PlainL bs ws) a0' (by show tk f 10 - 4 < 6; omega) (by
   intro l hl
   simp at hl
   rcases hl with rfl | rfl | rfl | rfl | rfl | rfl
   ·exact .first hx hy
   ·exact .second hx hy
   ·exact .same hx hy
   ·exact .none hx
   ·exact .tell hy
   ·exact .tell hx)
  refine ⟨l, tf (tf (tf f 10) bs.length) bs.length, hl, fun h n hn => ?_⟩
  refine Jc (o := QA f) (g := []) (by simp) hn (by simp [QA]) ?_ (by simp) ⟨_, rfl, by simp⟩
  simp [QO] at el
  simp [JC, Zd, Zy, VD q1 q2, ex, ey, h4, el, QO]
end My

namespace My
open PySem PySem.Spec PyProof.Rows L2 Mi My3 My4
noncomputable def cd (x : Str) : Cd := if x = "either" then .ei else if x = "again" then .ag else if x = "or" then .oo else if x = "end" then .en else .ot
noncomputable def cdL : Ln → Cd
 | [] => .ot
 | x :: _ => cd x
inductive LineOk (bs ws later : List Str) : Ln → Prop where
 | plain {l : Ln} (h : PlainL bs ws l) : LineOk bs ws later l
 | do {x : Str} (h : x ∈ later) : LineOk bs ws later ["do", x]
 | blk {x : Str} (h : x = "either" ∨ x = "again" ∨ x = "or" ∨ x = "end") : LineOk bs ws later [x]
 | back {x : Str} (h : x ∈ ws) : LineOk bs ws later ["back", x]
noncomputable abbrev orL : Ln := ["or"]
noncomputable abbrev Qe1 : Ln := ["end"]
noncomputable def YU : Ln → Bool
 | x :: _ => x == "do"
 | [] => false
noncomputable def dcn (ls : List Ln) : Nat := ls.countP YU
theorem VE (L : List Ln) (l : Ln) : dcn (L ++ [l]) = dcn L + (if YU l = true then 1 else 0) := by simp [dcn, List.countP_append, List.countP_cons]
theorem Ju {L : List Ln} {l : Ln} (h : YU l = false) : dcn (L ++ [l]) = dcn L := by rw [VE, h]; rfl
theorem Xz {bs ws : List Str} {l : Ln} (h : PlainL bs ws l) : YU l = false := by cases h <;> (show (_ == _) = false) <;> decide
theorem XB : cd "again" = .ag := by decide
theorem Qgl : cd "or" = .oo := by decide
theorem Wv : cd "end" = .en := by decide
theorem Kn {bs ws : List Str} {l : Ln} (h : PlainL bs ws l) : cdL l = .ot := by cases h <;> (show cd _ = .ot) <;> decide
@[simp] theorem Ye {h : MH} {i j : Nat} {us vs : List W} (hi : h[i]? = some (.lst us)) (hj : h[j]? = some (.lst vs)) (pu : JU us = true) (pv : JU vs = true) : Jp (Qaq h) [i, j] = some [.lst us, .lst vs] := by
 simp [Jp, YE hi pu, YE hj pv]
theorem GU {L : List Ln} {O : List Str} {h : MH} {i j : Nat} (hl : L.length ≤ 100000) (hij : i ≠ j) (hi : h[i]? = some (.lst (L.map QO))) (hj : h[j]? = some (.lst ((O ++ [("either" : Str)]).map .str))) :
  QD [.ref i, .ref j] h = some (.non, (h.set i (.lst ((L ++ [orL]).map QO))).set j (.lst ((O ++ [("or" : Str)]).map .str))) := by
 refine Kz (w := .non) (as := [.ref 0, .ref 1]) (ns := [i, j]) (os := [.lst (L.map QO), .lst ((O ++ [("either" : Str)]).map .str)]) (os' := [.lst ((L ++ [orL]).map QO), .lst ((O ++ [("or" : Str)]).map .str)]) (g := []) rfl (by simp [hij]) (Ye hi hj (by simp) (by simp)) ?_ rfl ?_ rfl
 ·have h1 : L.length < sizeLine := Xf (by omega)
  simp [Z7, Zd, h1, QO]
 ·intro o ho
  simp at ho
  rcases ho with rfl | rfl
  ·exact ⟨_, rfl, by simp⟩
  ·exact ⟨_, rfl, by simp⟩
theorem Qbf {L : List Ln} {O : List Str} {x : Str} {h : MH} {i j : Nat} (hx : x ≠ "either") (hl : L.length ≤ 100000) (hij : i ≠ j) (hi : h[i]? = some (.lst (L.map QO))) (hj : h[j]? = some (.lst ((O ++ [x]).map .str))) :
  QD [.ref i, .ref j] h = some (.non, (h.set i (.lst ((L ++ [Qe1]).map QO))).set j (.lst (O.map .str))) := by
 refine Kz (w := .non) (as := [.ref 0, .ref 1]) (ns := [i, j]) (os := [.lst (L.map QO), .lst ((O ++ [x]).map .str)]) (os' := [.lst ((L ++ [Qe1]).map QO), .lst (O.map .str)]) (g := []) rfl (by simp [hij]) (Ye hi hj (by simp) (by simp)) ?_ rfl ?_ rfl
 ·have h1 : L.length < sizeLine := Xf (by omega)
  simp [Z7, Zd, h1, QO, hx]
 ·intro o ho
  simp at ho
  rcases ho with rfl | rfl
  ·exact ⟨_, rfl, by simp⟩
  ·exact ⟨_, rfl, by simp⟩
structure PI (bs ws later : List Str) (size d0 : Int) (n : Nat) (σ : MSt) (h : MH) : Prop where
 ex : ∃ (f : Fd) (L : List Ln) (O : List Str) (op ds : Int) (kk ww : Option W), σ = [some (.ref 0), some (.int size), some (.tup [Zy bs, Zy ws]), some (Zy later), some (.int op), some (.int ds), some (.ref 1), some (.ref 2), kk, ww] ∧ h = [QA f, .lst (L.map QO), .lst (O.map .str)] ∧
  (∀ l ∈ L, LineOk bs ws later l) ∧ Xg (L.map cdL) [] = some (O.reverse.map cd) ∧ (∀ x ∈ O, x = "either" ∨ x = "again" ∨ x = "or") ∧ L.length = n ∧ O.length ≤ n ∧ (dcn L : Int) + ds = d0 ∧ 0 ≤ ds
theorem Qb9 (O : List Str) (h : O ≠ []) : ∃ r x, O = r ++ [x] := ⟨O.dropLast, O.getLast h, (List.dropLast_concat_getLast h).symm⟩
theorem YR {bs ws later : List Str} : LineOk bs ws later Qe1 := .blk (.inr (.inr (.inr rfl)))
theorem W7 {bs ws later : List Str} : LineOk bs ws later orL := .blk (.inr (.inr (.inl rfl)))
theorem Q9 {α : Type} {P : α → Prop} {xs : List α} {x : α} (h : ∀ y ∈ xs, P y) (hx : P x) : ∀ y ∈ xs ++ [x], P y := fun y hy => by
 rcases List.mem_append.mp hy with z | z
 ·exact h y z
 ·rw [List.mem_singleton.mp z]; exact hx
theorem WU {P : Str → Prop} {xs : List Str} {x y : Str} (h : ∀ z ∈ xs ++ [x], P z) (hy : P y) : ∀ z ∈ xs ++ [y], P z := Q9 (fun z hz => h z (List.mem_append_left _ hz)) hy
theorem Vb (O : List Str) (x : Str) : (O ++ [x]).reverse.map cd = cd x :: O.reverse.map cd := by simp
theorem Zl (L : List Ln) (l : Ln) : (L ++ [l]).map cdL = L.map cdL ++ [cdL l] := by simp
theorem opk {x : Str} (h : x = "either" ∨ x = "again" ∨ x = "or") (hn : x ≠ "either") : cd x ≠ .ei := by
 rcases h with rfl | rfl | rfl
 ·exact absurd rfl hn
 ·decide
 ·decide
theorem Qao {x : Str} {s : List Cd} (h : cd x ≠ .ei) : kst .en (cd x :: s) = some s := by simp [kst, h]
noncomputable abbrev pS (bs ws later : List Str) (size op ds : Int) (k : W) (way : Int) : MSt := [some (.ref 0), some (.int size), some (.tup [Zy bs, Zy ws]), some (Zy later), some (.int op), some (.int ds), some (.ref 1), some (.ref 2), some k, some (.int way)]
theorem GY {bs ws later : List Str} {size d0 : Int} {n : Nat} {σ : MSt} {h : MH} {k : W} (hb : 0 < bs.length) (hb2 : bs.length ≤ 5) (hw : 0 < ws.length) (hw2 : ws.length ≤ 5) (hla : later.length ≤ 5) (hn : n ≤ 1000) (H : PI bs ws later size d0 n σ h) :
  ∃ σ1, J2 8 k σ h = some σ1 ∧ ∃ σ2 h2, (JB σ1 h = some (.nx σ2 h2) ∨ JB σ1 h = some (.ct σ2 h2)) ∧ PI bs ws later size d0 (n + 1) σ2 h2 := by
 obtain ⟨f, L, O, op, ds, kk, ww, rfl, rfl, hL, hk, hO, hl, hol, hdc, hd0⟩ := H.ex
 refine ⟨_, rfl, ?_⟩
 obtain ⟨a0, a1⟩ := Kf (f := f) (m := 14) (by decide)
 have hsz : L.length < sizeLine := Xf (by omega)
 have hoz : O.length < sizeLine := Xf (by omega)
 generalize hway : tk f 14 = way at a0 a1
 have t1 : ∀ h, J1 (Qy (Ql wLt (Qg 9) (mC (.int 3)))) (Qy (Ql wGt (Qg 4) (mC (.int 0)))) (pS bs ws later size op ds k way) h = some (decide (way < 3 ∧ 0 < op), h) := fun h => by by_cases a : way < 3 <;> simp [a]
 have t2 : ∀ f, J1 (Qy (Ql wLt (Qg 9) (mC (.int 6)))) (Qy (Ql wGt (mFn Js (Qc (Qg 7) Qm)) (mC (.int 0)))) (pS bs ws later size op ds k way) [QA f, .lst (L.map QO), .lst (O.map .str)] = some (decide (way < 6 ∧ 0 < O.length), [QA f, .lst (L.map QO), .lst (O.map .str)]) := fun h => by by_cases a : way < 6 <;> simp [a]
 have t3 : ∀ h, J1 (Qy (Ql (wIn false) (Qg 9) (mFn Vf (Qc (mC (.int 6)) (Qc (mC (.int 7)) Qm))))) (J1 (Qy (Ql wGt (Qg 5) (mC (.int 0)))) (Qy (Ql wGt (mFn Js (Qc (Qg 3) Qm)) (mC (.int 0))))) (pS bs ws later size op ds k way) h = some (decide ((way = 6 ∨ way = 7) ∧ 0 < ds ∧ 0 < later.length), h) := fun h => by
  by_cases a : way = 6 ∨ way = 7
  ·by_cases b : 0 < ds <;> simp [a, b]
  ·simp [a]
 by_cases h1 : way < 3 ∧ 0 < op
 ·obtain ⟨x, _, hx, ex⟩ := WY (xs := ([("either" : Str), "again", "either"])) (f := W.str) (P := fun x => x = "either" ∨ x = "again") a0 (by show way < 3; omega) (by simp)
  simp at ex
  refine ⟨pS bs ws later size (op - 1) ds k way, [QA (tf f 14), .lst ((L ++ [[x]]).map QO), .lst ((O ++ [x]).map .str)], .inl ?_, ⟨_, _, _, _, _, _, _, rfl, rfl, ?_, ?_, ?_, ?_, ?_, ?_, hd0⟩⟩
  ·simp [-UR, hway, t1, h1, ex, hoz, hsz, QO]
  ·exact Q9 hL (.blk (by rcases hx with rfl | rfl <;> simp))
  ·rw [Zl, Vb]
   refine Z8 hk ?_
   rcases hx with rfl | rfl
   ·rfl
   ·show kst (cd "again") _ = _
    rw [XB]; rfl
  ·exact Q9 hO (by rcases hx with z | z <;> simp [z])
  ·simp [hl]
  ·simp; omega
  ·rw [Ju (by rcases hx with rfl | rfl <;> decide)]; exact hdc
 ·by_cases h2 : way < 6 ∧ 0 < O.length
  ·obtain ⟨r, x, rfl⟩ := Qb9 O (by intro z; rw [z] at h2; simp at h2)
   rw [Vb] at hk
   have es : ∃ L' O', ((x = "either" ∧ L' = L ++ [orL] ∧ O' = r ++ [("or" : Str)]) ∨ (x ≠ "either" ∧ L' = L ++ [Qe1] ∧ O' = r)) ∧ QD [.ref 1, .ref 2] [QA (tf f 14), .lst (L.map QO), .lst ((r ++ [x]).map .str)] = some (.non, [QA (tf f 14), .lst (L'.map QO), .lst (O'.map .str)]) := by
    by_cases hx : x = "either"
    ·subst hx
     exact ⟨_, _, .inl ⟨rfl, rfl, rfl⟩, GU (L := L) (O := r) (i := 1) (j := 2) (by omega) (by decide) rfl rfl⟩
    ·exact ⟨_, _, .inr ⟨hx, rfl, rfl⟩, Qbf (L := L) (O := r) (x := x) (i := 1) (j := 2) hx (by omega) (by decide) rfl rfl⟩
   obtain ⟨L', O', hc, es⟩ := es
   refine ⟨pS bs ws later size op ds k way, [QA (tf f 14), .lst (L'.map QO), .lst (O'.map .str)], .inl ?_, ⟨_, L', O', _, _, _, _, rfl, rfl, ?_⟩⟩
   ·have h2' : way < 6 ∧ 0 < r.length + 1 := ⟨h2.1, by omega⟩
    have t2' := t2 (tf f 14)
    simp only [List.map_append, List.map_cons, List.map_nil] at es t2'
    simp [-UR, hway, t1, h1, t2', h2.1, es]
   ·rcases hc with ⟨rfl, rfl, rfl⟩ | ⟨hx, rfl, rfl⟩
    ·refine ⟨Q9 hL W7, ?_, WU hO (by simp), by simp [hl], by simp at hol ⊢; omega, by rw [Ju (by decide)]; exact hdc, hd0⟩
     rw [Zl, Vb]
     exact Z8 hk rfl
    ·refine ⟨Q9 hL YR, ?_, fun y hy => hO y (List.mem_append_left _ hy), by simp [hl], by simp at hol ⊢; omega, by rw [Ju (by decide)]; exact hdc, hd0⟩
     rw [Zl]
     refine Z8 hk ?_
     show kst (cd "end") _ = _
     rw [Wv]
     exact Qao (opk (hO x (by simp)) hx)
  ·by_cases h3 : (way = 6 ∨ way = 7) ∧ 0 < ds ∧ 0 < later.length
   ·have q1 : (0 : Int) < later.length := by omega
    have q2 : (later.length : Int) < 1000000 := by omega
    obtain ⟨b0, b1⟩ := Kf (f := tf f 14) (m := later.length) q1
    obtain ⟨x, hx, ex⟩ := GF b0 b1
    refine ⟨pS bs ws later size op (ds - 1) k way, [QA (tf (tf f 14) later.length), .lst ((L ++ [(["do", x] : Ln)]).map QO), .lst (O.map .str)], .inl ?_, ⟨_, _, _, _, _, _, _, rfl, rfl, ?_, ?_, hO, ?_, ?_, ?_, by omega⟩⟩
    ·simp [-UR, hway, t1, h1, t2, h2, t3, h3, hsz, QO, VD q1 q2, ex]
    ·exact Q9 hL (.do hx)
    ·rw [Zl]
     exact Z8 hk (by show kst (cd "do") _ = _; rw [show cd "do" = .ot by decide]; rfl)
    ·simp [hl]
    ·omega
    ·rw [VE, if_pos (by show (_ == _) = true; decide)]; omega
   ·obtain ⟨l, f', hp, ep⟩ := Kj (tf f 14) bs ws hb hb2 hw hw2
    refine ⟨pS bs ws later size op ds k way, [QA f', .lst ((L ++ [l]).map QO), .lst (O.map .str)], .inl ?_, ⟨_, _, _, _, _, _, _, rfl, rfl, ?_, ?_, hO, ?_, ?_, ?_, hd0⟩⟩
    ·simp [-UR, hway, t1, h1, t2, h2, t3, h3, hsz, ep]
    ·exact Q9 hL (.plain hp)
    ·rw [Zl]
     exact Z8 hk (by rw [Kn hp]; rfl)
    ·simp [hl]
    ·omega
    ·rw [Ju (Xz hp)]; exact hdc
end My

namespace My
open PySem PySem.Spec PyProof.Rows L2 Mi My3 My4
noncomputable def wt (O : List Str) : Nat := (O.map fun (x : Str) => if x = "either" then 2 else 1).sum
theorem Xo (O : List Str) (x : Str) : wt (O ++ [x]) = wt O + (if x = "either" then 2 else 1) := by simp [wt]
theorem Qep (O : List Str) : wt O ≤ 2 * O.length := by
 induction O with
 | nil => simp [wt]
 | cons x O ih => simp only [wt, List.map_cons, List.sum_cons, List.length_cons] at ih ⊢; split <;> omega
theorem Qc3 (O : List Str) (h : O ≠ []) : 0 < wt O := by
 obtain ⟨r, x, rfl⟩ := Qb9 O h
 rw [Xo]; split <;> omega
theorem Qav {bs ws later : List Str} {i j : Nat} {t : MT} {body : SM} {σ : MSt} (g : List Ln → List Str → MH) (bound : Nat) (hij : i ≠ j) (hbd : bound ≤ 90000)
  (gi : ∀ L O, (g L O)[i]? = some (.lst (L.map QO))) (gj : ∀ L O, (g L O)[j]? = some (.lst (O.map .str))) (gs : ∀ L O L' O', ((g L O).set i (.lst (L'.map QO))).set j (.lst (O'.map .str)) = g L' O')
  (ht : ∀ L O, t σ (g L O) = some (decide (0 < O.length), g L O)) (hb : ∀ L O w h, QD [.ref i, .ref j] (g L O) = some (w, h) → body σ (g L O) = some (.nx σ h))
  (L : List Ln) (O : List Str) (hL : ∀ l ∈ L, LineOk bs ws later l) (hk : Xg (L.map cdL) [] = some (O.reverse.map cd)) (hO : ∀ x ∈ O, x = "either" ∨ x = "again" ∨ x = "or") (hl : L.length + wt O ≤ bound) :
  ∃ L', (∀ l ∈ L', LineOk bs ws later l) ∧ Bal (L'.map cdL) ∧ L'.length ≤ bound ∧ dcn L' = dcn L ∧ QX t body 1000000 σ (g L O) = some (.nx σ (g L' [])) := by
 have key := Kv (t := t) (body := body) (fun n σ' h => σ' = σ ∧ ∃ L1 O, dcn L1 = dcn L ∧ h = g L1 O ∧ n = wt O ∧ (∀ l ∈ L1, LineOk bs ws later l) ∧ Xg (L1.map cdL) [] = some (O.reverse.map cd) ∧ (∀ x ∈ O, x = "either" ∨ x = "again" ∨ x = "or") ∧ L1.length + wt O ≤ bound) (wt O) 1000000 σ (g L O) (by omega) ⟨rfl, L, O, rfl, rfl, rfl, hL, hk, hO, hl⟩ ?_
 ·obtain ⟨σ', h', e, rfl, L', O', hdc, rfl, hw, h1, h2, h3, h4⟩ := key
  have : O' = [] := by
   cases O' with
   | nil => rfl
   | cons x r => have := Qc3 (x :: r) (by simp); omega
  subst this
  exact ⟨L', h1, bal_iff.mpr h2, by omega, hdc, e⟩
 ·rintro n σ' h ⟨rfl, L1, O, hdc, rfl, rfl, h1, h2, h3, h4⟩
  by_cases hne : O = []
  ·subst hne
   exact .inl ⟨by rw [ht]; rfl, rfl⟩
  ·refine .inr ⟨by rw [ht, decide_eq_true (List.length_pos_iff.mpr hne)], ?_⟩
   obtain ⟨r, x, rfl⟩ := Qb9 O hne
   rw [Vb] at h2
   rw [Xo] at h4 ⊢
   by_cases hx : x = "either"
   ·subst hx
    rw [if_pos rfl] at h4 ⊢
    refine ⟨wt (r ++ [("or" : Str)]), σ', g (L1 ++ [orL]) (r ++ [("or" : Str)]), ?_, .inl ?_, rfl, _, _, (Ju (by decide)).trans hdc, rfl, rfl, Q9 h1 W7, ?_, WU h3 (by simp), ?_⟩
    ·rw [Xo, if_neg (by decide)]; omega
    ·refine hb _ _ .non _ ?_
     rw [GU (L := L1) (O := r) (by omega) hij (gi _ _) (gj _ _), gs]
    ·rw [Zl, Vb]
     exact Z8 h2 rfl
    ·rw [Xo, if_neg (by decide)]; simp; omega
   ·rw [if_neg hx] at h4 ⊢
    refine ⟨wt r, σ', g (L1 ++ [Qe1]) r, by omega, .inl ?_, rfl, _, _, (Ju (by decide)).trans hdc, rfl, rfl, Q9 h1 YR, ?_, fun y hy => h3 y (List.mem_append_left _ hy), ?_⟩
    ·refine hb _ _ .non _ ?_
     rw [Qbf (L := L1) (O := r) hx (by omega) hij (gi _ _) (gj _ _), gs]
    ·rw [Zl]
     refine Z8 h2 ?_
     show kst (cd "end") _ = _
     rw [Wv]
     exact Qao (opk (h3 x (by simp)) hx)
    ·simp; omega
theorem WZ (f : Fd) (size : Nat) (bs ws later : List Str) (op ds : Int) (hds : 0 ≤ ds) (hs : size ≤ 100) (hb : 0 < bs.length) (hb2 : bs.length ≤ 5) (hw : 0 < ws.length) (hw2 : ws.length ≤ 5) (hla : later.length ≤ 5) :
  ∃ (ls : List Ln) (f' : Fd), Bal (ls.map cdL) ∧ (∀ l ∈ ls, LineOk bs ws later l) ∧ ls.length ≤ 3 * size ∧ (dcn ls : Int) ≤ ds ∧ ∀ (h : MH) (n : Nat), h[n]? = some (QA f) → Q0 [.ref n, .int size, .tup [Zy bs, Zy ws], Zy later, .int op, .int ds] h = some (.tup (ls.map QO), h.set n (QA f')) := by
 have loop := Vi (items := QR 0 size) (b := J2 8) (body := JB) (PI bs ws later size ds) (QR 0 size) 0 [some (.ref 0), some (.int size), some (.tup [Zy bs, Zy ws]), some (Zy later), some (.int op), some (.int ds), some (.ref 1), some (.ref 2), none, none] [QA f, .lst [], .lst []]
  ⟨f, [], [], op, ds, none, none, rfl, rfl, by simp, rfl, by simp, rfl, Nat.le_refl _, by simp [dcn], hds⟩ (fun j w hj σ h H => GY hb hb2 hw hw2 hla (by have := (List.getElem?_eq_some_iff.mp hj).1; rw [Zi] at this; omega) H)
 obtain ⟨σ', h', e1, H⟩ := loop
 obtain ⟨f1, L, O, op1, ds1, kk, ww, rfl, rfl, hL, hk, hO, hl, hol, hdc, hd0⟩ := H.ex
 rw [Zi, Nat.zero_add] at hl hol
 have cl := Qav (bs := bs) (ws := ws) (later := later) (i := 1) (j := 2) (t := Qy (Ql wGt (mFn Js (Qc (Qg 7) Qm)) (mC (.int 0)))) (body := Xd) (σ := [some (.ref 0), some (.int size), some (.tup [Zy bs, Zy ws]), some (Zy later), some (.int op1), some (.int ds1), some (.ref 1), some (.ref 2), kk, ww])
  (fun L O => [QA f1, .lst (L.map QO), .lst (O.map .str)]) (3 * size) (by decide) (by omega) (fun _ _ => rfl) (fun _ _ => rfl) (fun _ _ _ _ => rfl) (fun L O => by simp) (fun L O w h e => by simp [e]) L O hL hk hO (by have := Qep O; omega)
 obtain ⟨L', h1, h2, h3, hd1, e2⟩ := cl
 refine ⟨L', f1, h2, h1, h3, by rw [hd1]; omega, fun h n hn => ?_⟩
 refine Jc (o := QA f) (g := [.lst (L'.map QO), .lst []]) (by simp) hn (by simp [QA]) ?_ (by simp) ⟨_, rfl, by simp⟩
 have er : Ya (Qc (Qg 1) Qm) [some (.ref 0), some (.int size), some (.tup [Zy bs, Zy ws]), some (Zy later), some (.int op), some (.int ds), some (.ref 1), some (.ref 2), none, none] [QA f, .lst [], .lst []] = some (QR 0 size, none, [QA f, .lst [], .lst []]) := Xj (by simp) (by omega)
 simp [VG, Zd, XG, er, e1, e2]
end My

namespace My
open PySem PySem.Spec PyProof.Rows L2 Mi My3 My4
noncomputable abbrev Qdl (i : Nat) : Nat := if i = 0 then 23 else 1
structure GoodP (N : Nat) (bs ws : List Str) (p : List Pt) : Prop where
 ne : p ≠ []
 len : p.length ≤ 5
 bal : ∀ x ∈ p, Bal (x.2.map cdL)
 sz : ∀ x ∈ p, x.2.length ≤ N
 ok : ∀ (i : Nat) (x : Pt), p[i]? = some x → ∀ l ∈ x.2, LineOk bs ws ((p.map (·.1)).drop (i + 1)) l
 nd : (p.map (·.1)).Nodup
 dos : ∀ (i : Nat) (x : Pt), p[i]? = some x → dcn x.2 ≤ Qdl i
theorem Kh {α : Type} (xs : List α) (k : Nat) : KY xs (some (k : Int)) none = xs.drop k := by
 unfold KY
 rw [HT.sIx_nat, HT.sIx_none]
 by_cases h : k ≤ xs.length
 ·rw [Nat.min_eq_left h, List.take_of_length_le (by simp)]
 ·rw [Nat.min_eq_right (by omega), List.drop_eq_nil_of_le (Nat.le_refl _), List.drop_eq_nil_of_le (by omega)]; simp
theorem Qc7 {ns : List Str} {k : Nat} {i : Int} {h : MH} (hk : i = k) : wSl (Zy ns) (some i) none h = some (Zy (ns.drop k), h) := by
 subst hk
 unfold Zy
 simp [Kh, List.map_drop]
@[simp] theorem Qia {ns : List Str} {h : MH} : wSl (Zy ns) (some 1) none h = some (Zy (ns.drop 1), h) := Qc7 (k := 1) rfl
theorem QcC {i : Int} (h : 0 ≤ i) : ∃ n : Nat, i = n := ⟨i.toNat, by omega⟩
theorem QbZ {ms : MA} {σ : MSt} {h h' : MH} {j : Nat} (e : ms σ h = some ([.int 1, .int j], h')) (hj : j < 100000000) : Gq ms σ h = some (QR 1 (j - 1), none, h') := by
 unfold Gq
 rw [e, Option.bind_some]
 refine (if_pos ⟨by omega, by omega, by omega, by omega⟩).trans ?_
 rw [show ((j : Int) - 1).toNat = j - 1 by omega]
structure PP (N : Nat) (bs ws names : List Str) (k : Nat) (p : List Pt) : Prop where
 nm : p.map (·.1) = names.take k
 bal : ∀ x ∈ p, Bal (x.2.map cdL)
 sz : ∀ x ∈ p, x.2.length ≤ N
 ok : ∀ (i : Nat) (x : Pt), p[i]? = some x → ∀ l ∈ x.2, LineOk bs ws (names.drop (i + 1)) l
 dos : ∀ (i : Nat) (x : Pt), p[i]? = some x → dcn x.2 ≤ Qdl i
theorem PP.snoc {N : Nat} {bs ws names : List Str} {k : Nat} {p : List Pt} {nm : Str} {ls : List Ln} (H : PP N bs ws names k p) (hk : names[k]? = some nm) (hb : Bal (ls.map cdL)) (hs : ls.length ≤ N) (ho : ∀ l ∈ ls, LineOk bs ws (names.drop (k + 1)) l) (hd : dcn ls ≤ Qdl k) : PP N bs ws names (k + 1) (p ++ [(nm, ls)]) := by
 have hlt := (List.getElem?_eq_some_iff.mp hk).1
 have hpl : p.length = k := by have := congrArg List.length H.nm; simp at this; omega
 refine ⟨?_, Q9 H.bal hb, Q9 H.sz hs, fun i x hx => ?_, fun i x hx => ?_⟩
 ·rw [List.map_append, H.nm, List.take_succ_eq_append_getElem hlt]
  rw [List.getElem?_eq_getElem hlt] at hk
  cases hk; rfl
 ·by_cases hi : i < p.length
  ·rw [List.getElem?_append_left hi] at hx
   exact H.ok i x hx
  ·have : i = p.length := by have := (List.getElem?_eq_some_iff.mp hx).1; simp at this; omega
   subst this
   simp at hx
   subst hx
   rw [hpl]; exact ho
 ·by_cases hi : i < p.length
  ·rw [List.getElem?_append_left hi] at hx
   exact H.dos i x hx
  ·have : i = p.length := by have := (List.getElem?_eq_some_iff.mp hx).1; simp at this; omega
   subst this
   simp at hx
   subst hx
   rw [hpl]; exact hd
theorem PP.good {N : Nat} {bs ws names : List Str} {p : List Pt} (H : PP N bs ws names names.length p) (hn : names ≠ []) (hl : names.length ≤ 5) (hnd : names.Nodup) : GoodP N bs ws p := by
 have hm : p.map (·.1) = names := by rw [H.nm, List.take_length]
 have hpl : p.length = names.length := by rw [← hm]; simp
 refine ⟨fun z => hn (by rw [← hm, z]; rfl), by omega, H.bal, H.sz, ?_, by rw [hm]; exact hnd, H.dos⟩
 rw [hm]; exact H.ok
theorem Go (f : Fd) (b0 b1 b2 b3 : Nat) (h0 : 1 ≤ b0 ∧ b0 ≤ 5) (h1 : 1 ≤ b1 ∧ b1 ≤ 5) (h2 : 1 ≤ b2 ∧ b2 ≤ 5) (h3 : 3 ≤ b3 ∧ b3 ≤ 48) :
  ∃ (bs ws : List Str) (p : List Pt) (f' : Fd), (0 < bs.length ∧ bs.length ≤ 5) ∧ (0 < ws.length ∧ ws.length ≤ 5) ∧ GoodP 300 bs ws p ∧ ∀ (h : MH) (n : Nat), h[n]? = some (QA f) → Zm [.ref n, .lst [.int b0, .int b1, .int b2, .int b3]] h = some (ZX p, h.set n (QA f')) := by
 have q0 : (0 : Int) < b0 := by omega
 have q0' : (b0 : Int) < 1000000 := by omega
 have q1 : (0 : Int) < b1 := by omega
 have q1' : (b1 : Int) < 1000000 := by omega
 have q2 : (0 : Int) < b2 := by omega
 have q2' : (b2 : Int) < 1000000 := by omega
 obtain ⟨a0, a1⟩ := Kf (f := f) q0
 obtain ⟨n0, e0⟩ := QcC a0
 obtain ⟨bs, f1, lb, _, eb⟩ := V3 (tf f b0) (1 + n0) (by omega)
 obtain ⟨c0, c1⟩ := Kf (f := f1) q1
 obtain ⟨n1, e1⟩ := QcC c0
 obtain ⟨ws, f2, lw, _, ew⟩ := V3 (tf f1 b1) (1 + n1) (by omega)
 obtain ⟨d0, d1⟩ := Kf (f := f2) q2
 obtain ⟨n2, e2⟩ := QcC d0
 obtain ⟨names, f3, ln, hnd, en⟩ := V3 (tf f2 b2) (1 + n2) (by omega)
 obtain ⟨g0, g1⟩ := Kf (f := f3) (m := 3) (by decide)
 have hb : 0 < bs.length ∧ bs.length ≤ 5 := by omega
 have hw : 0 < ws.length ∧ ws.length ≤ 5 := by omega
 -- the size
 obtain ⟨size, f4, hs, es⟩ : ∃ (size : Nat) (f4 : Fd), size ≤ 60 ∧ (if tk (tf f3 3) 4 = 0 then @om _ _ (fun p => MF.nx [some (.ref 0), some (.lst [.int b0, .int b1, .int b2, .int b3]), some (.tup [Zy bs, Zy ws]), some (Zy names), some p.fst, none, none] p.snd) (Qh [.ref 0, .int (b3 - tk f3 3 + 1)] [QA (tf (tf f3 3) 4)])
   else some (MF.nx [some (.ref 0), some (.lst [.int b0, .int b1, .int b2, .int b3]), some (.tup [Zy bs, Zy ws]), some (Zy names), some (.int (b3 - tk f3 3)), none, none] [QA (tf (tf f3 3) 4)])) = some (.nx [some (.ref 0), some (.lst [.int b0, .int b1, .int b2, .int b3]), some (.tup [Zy bs, Zy ws]), some (Zy names), some (.int size), none, none] [QA f4]) := by
  by_cases z : tk (tf f3 3) 4 = 0
  ·have r1 : (0 : Int) < b3 - tk f3 3 + 1 := by omega
   have r2 : (b3 : Int) - tk f3 3 + 1 < 1000000 := by omega
   obtain ⟨k0, k1⟩ := Kf (f := tf (tf f3 3) 4) r1
   obtain ⟨sz, ez⟩ := QcC k0
   exact ⟨sz, tf (tf (tf f3 3) 4) (b3 - tk f3 3 + 1), by omega, by simp [z, VD r1 r2, ez]⟩
  ·obtain ⟨sz, ez⟩ := QcC (i := b3 - tk f3 3) (by omega)
   exact ⟨sz, tf (tf f3 3) 4, by omega, by simp [z, ez]⟩
 obtain ⟨l0, f5, p1, p2, p3, p4, ep⟩ := WZ f4 size bs ws (names.drop 1) 2 2 (by omega) (by omega) hb.1 hb.2 hw.1 hw.2 (by simp; omega)
 obtain ⟨nm0, hn0⟩ : ∃ x, names[0]? = some x := ⟨names[0]'(by omega), List.getElem?_eq_getElem (by omega)⟩
 have loop := Vi (items := QR 1 (names.length - 1)) (b := J2 6) (body := Vq) (fun n σ h => ∃ (f : Fd) (p : List Pt) (kk : Option W), σ = [some (.ref 0), some (.lst [.int b0, .int b1, .int b2, .int b3]), some (.tup [Zy bs, Zy ws]), some (Zy names), some (.int size), some (.ref 1), kk] ∧ h = [QA f, .lst (p.map JV)] ∧ PP 300 bs ws names (n + 1) p)
  (QR 1 (names.length - 1)) 0 [some (.ref 0), some (.lst [.int b0, .int b1, .int b2, .int b3]), some (.tup [Zy bs, Zy ws]), some (Zy names), some (.int size), some (.ref 1), none] [QA f5, .lst [JV (nm0, l0)]]
  ⟨f5, [(nm0, l0)], none, rfl, rfl, PP.snoc (p := []) ⟨rfl, by simp, by simp, by simp, by simp⟩ hn0 p1 (by omega) p2 (by show _ ≤ 23; omega)⟩ (by
   rintro j w hj σ h ⟨f, p, kk, rfl, rfl, H⟩
   have hjl := (List.getElem?_eq_some_iff.mp hj).1
   rw [Zi] at hjl
   obtain rfl : w = .int ((j : Int) + 1) := by rw [(Vo hj).2, Int.add_comm]
   refine ⟨_, rfl, ?_⟩
   obtain ⟨t0, t1⟩ := Kf (f := f) (m := 4) (by decide)
   obtain ⟨m, em⟩ := QcC t0
   obtain ⟨ls, f', r1, r2, r3, r4, er⟩ := WZ (tf f 4) m bs ws (names.drop (j + 2)) 1 1 (by omega) (by omega) hb.1 hb.2 hw.1 hw.2 (by simp; omega)
   obtain ⟨nm, hnm⟩ : ∃ x, names[j + 1]? = some x := ⟨names[j + 1]'(by omega), List.getElem?_eq_getElem (by omega)⟩
   refine ⟨[some (.ref 0), some (.lst [.int b0, .int b1, .int b2, .int b3]), some (.tup [Zy bs, Zy ws]), some (Zy names), some (.int size), some (.ref 1), some (.int ((j : Int) + 1))], [QA f', .lst ((p ++ [(nm, ls)]).map JV)], .inl ?_, f', _, _, rfl, rfl, ?_⟩
   ·have ea : atI (names.map W.str) ((j : Int) + 1) = some (.str nm) := by rw [show (j : Int) + 1 = ((j + 1 : Nat) : Int) by omega, Zt, List.getElem?_map, hnm]; rfl
    have esl : ∀ h, wSl (Zy names) (some ((j : Int) + 1 + 1)) none h = some (Zy (names.drop (j + 2)), h) := fun h => Qc7 (by omega)
    have hpl : p.length < sizeLine := by have := congrArg List.length H.nm; simp at this; exact Xf (by omega)
    simp [ea, esl, em, er, hpl, JV]
   ·rw [Nat.zero_add] at H ⊢
    exact H.snoc hnm r1 (by omega) r2 (by rw [Qdl, if_neg (by omega)]; omega))
 obtain ⟨σ', h', el, f6, p, kk, rfl, rfl, H⟩ := loop
 rw [Zi, Nat.zero_add, show names.length - 1 + 1 = names.length by omega] at H
 refine ⟨bs, ws, p, f6, hb, hw, H.good (by intro z; rw [z] at ln; simp at ln; omega) (by omega) hnd, fun h n hn => ?_⟩
 refine Jc (o := QA f) (g := [.lst (p.map JV)]) (by simp) hn (by simp [QA]) ?_ (by simp) ⟨_, rfl, by simp⟩
 have er : Gq (Qc (mC (.int 1)) (Qc (mFn Js (Qc (Qg 3) Qm)) Qm)) [some (.ref 0), some (.lst [.int b0, .int b1, .int b2, .int b3]), some (.tup [Zy bs, Zy ws]), some (Zy names), some (.int size), some (.ref 1), none] [QA f5, .lst [JV (nm0, l0)]] = some (QR 1 (names.length - 1), none, [QA f5, .lst [JV (nm0, l0)]]) := QbZ (by simp) (by omega)
 have ea : atI (names.map W.str) 0 = some (.str nm0) := by rw [Qjw, List.getElem?_map, hn0]; rfl
 push_cast at eb ew en
 rw [List.drop_one] at ep
 have en0 : JV (nm0, l0) = .tup [.str nm0, .tup (l0.map QO)] := rfl
 rw [en0] at er el
 simp [JO, Zd, XG, VD q0 q0', VD q1 q1', VD q2 q2', e0, e1, e2, eb, ew, en, es, ea, ep, er, el, ZX]
end My

namespace My
open PySem PySem.Spec PyProof.Rows L2 Mi My3 My4
@[simp] theorem Qgs {xs ys : List W} {h : MH} : ZV (.lst xs) (.lst ys) h = if xs.length + ys.length ≤ sizeLine then some (.lst (xs ++ ys), h) else none := id rfl
theorem Qaw : ∀ {ls : List Cd} {s : List Cd}, (∀ c ∈ ls, c = .ot) → Xg ls s = some s
 | [], _, _ => rfl
 | c :: ls, s, h => by
  rw [h c List.mem_cons_self]
  show Xg ls s = some s
  exact Qaw fun c hc => h c (List.mem_cons_of_mem _ hc)
theorem Qdd {ls : List Ln} (h : ∀ l ∈ ls, cdL l = .ot) : Bal (ls.map cdL) := bal_iff.mpr (Qaw fun c hc => by obtain ⟨l, hl, rfl⟩ := List.mem_map.mp hc; exact h l hl)
theorem Qkr : ∀ {ns : List Str}, ns.length = 5 → ∃ a b c d e : Str, ns = [a, b, c, d, e]
 | [a, b, c, d, e], _ => ⟨a, b, c, d, e, rfl⟩
noncomputable abbrev gS (bs ws ns : List Str) (x3 x4 x5 x6 x7 x8 : Option W) : MSt := [some (.ref 0), some (.tup [Zy bs, Zy ws]), some (Zy ns), x3, x4, x5, x6, x7, x8]
theorem Qfv (f : Fd) (bs ws : List Str) (hb : 0 < bs.length ∧ bs.length ≤ 5) (hw : 0 < ws.length ∧ ws.length ≤ 5) (σ : MSt) (hσ : ∃ o, QaQ [none, some 0, some 1] σ = [o, some (.ref 0), some (.tup [Zy bs, Zy ws])]) (mi : MI) (m : Nat) (hm : m ≤ 100) (g : Fd) (hmi : mi σ [QA f] = some (QR 0 m, none, [QA g])) :
  ∃ (ls : List Ln) (f' : Fd), (∀ l ∈ ls, PlainL bs ws l) ∧ ls.length = m ∧ Jd QdI mi [none, some 0, some 1] (J2 0) Ku (Qv 3 QM (Qc (Qg 1) (Qc (Ql wIx (Qg 2) (mC (.int 0))) (Qc (Ql wIx (Qg 2) (mC (.int 1))) Qm)))) σ [QA f] = some (.ref 1, [QA f', .lst (ls.map QO)]) := by
 obtain ⟨o, ho⟩ := hσ
 have key := UC (items := QR 0 m) (b := J2 0) (me := Qv 3 QM (Qc (Qg 1) (Qc (Ql wIx (Qg 2) (mC (.int 0))) (Qc (Ql wIx (Qg 2) (mC (.int 1))) Qm)))) (fin := QdI)
  (fun (acc : List Ln) τ h => ∃ f o, τ = [o, some (.ref 0), some (.tup [Zy bs, Zy ws])] ∧ h = [QA f] ∧ ∀ l ∈ acc, PlainL bs ws l) QO (QR 0 m) [] [o, some (.ref 0), some (.tup [Zy bs, Zy ws])] [QA g] ⟨g, o, rfl, rfl, by simp⟩ (by simp [Zi]; exact X0 (by omega)) (by
   rintro w hw' acc τ h ⟨f, o, rfl, rfl, ha⟩
   obtain ⟨l, f', hp, ep⟩ := Kj f bs ws hb.1 hb.2 hw.1 hw.2
   exact ⟨_, l, [QA f'], rfl, by simp [ep], f', _, rfl, rfl, Q9 ha hp⟩)
 obtain ⟨ls, τ', h', e, ⟨f', o', rfl, rfl, hl⟩, hlen⟩ := key
 refine ⟨ls, f', hl, by simpa [Zi] using hlen, ?_⟩
 unfold Jd
 rw [hmi, Option.bind_some]
 simp only [ho]
 exact e
structure GI (bs ws ns : List Str) (n : Nat) (σ : MSt) (h : MH) : Prop where
 ex : ∃ (f : Fd) (L : List Ln) (O : List Str) (x3 x5 x6 x8 : Option W), σ = gS bs ws ns x3 (some (.ref 1)) x5 x6 (some (.ref 2)) x8 ∧ h = [QA f, .lst (L.map QO), .lst (O.map .str)] ∧
  (∀ l ∈ L, LineOk bs ws (ns.drop 1) l) ∧ Xg (L.map cdL) [] = some (O.reverse.map cd) ∧ (∀ x ∈ O, x = "either" ∨ x = "again" ∨ x = "or") ∧ L.length = 2 * n ∧ O.length = n ∧ dcn L = 0
theorem GD {bs ws ns : List Str} {n : Nat} {σ : MSt} {h : MH} {k : W} (hb : 0 < bs.length ∧ bs.length ≤ 5) (hw : 0 < ws.length ∧ ws.length ≤ 5) (hn : n ≤ 10) (H : GI bs ws ns n σ h) :
  ∃ σ1, J2 8 k σ h = some σ1 ∧ ∃ σ2 h2, (Jj σ1 h = some (.nx σ2 h2) ∨ Jj σ1 h = some (.ct σ2 h2)) ∧ GI bs ws ns (n + 1) σ2 h2 := by
 obtain ⟨f, L, O, x3, x5, x6, x8, rfl, rfl, hL, hk, hO, hl, hol, hdc⟩ := H.ex
 refine ⟨_, rfl, ?_⟩
 obtain ⟨l, f1, hp, ep⟩ := Kj f bs ws hb.1 hb.2 hw.1 hw.2
 obtain ⟨a0, a1⟩ := Kf (f := f1) (m := 2) (by decide)
 obtain ⟨x, _, hx, ex⟩ := WY (xs := ([("either" : Str), "again"])) (f := W.str) (P := fun x => x = "either" ∨ x = "again") a0 (by show tk f1 2 < 2; omega) (by simp)
 simp at ex
 have s1 : L.length < sizeLine := Xf (by omega)
 have s2 : L.length + 1 < sizeLine := Xf (by omega)
 have s3 : O.length < sizeLine := Xf (by omega)
 refine ⟨gS bs ws ns x3 (some (.ref 1)) x5 x6 (some (.ref 2)) (some k), [QA (tf f1 2), .lst ((L ++ [l] ++ [[x]]).map QO), .lst ((O ++ [x]).map .str)], .inl ?_, ⟨_, _, _, _, _, _, _, rfl, rfl, ?_, ?_, ?_, ?_, ?_, ?_⟩⟩
 ·simp [ep, ex, s1, s2, s3, QO]
 ·exact Q9 (Q9 hL (.plain hp)) (.blk (by rcases hx with rfl | rfl <;> simp))
 ·rw [Zl, Zl, Vb]
  refine Z8 (Z8 hk (by rw [Kn hp]; rfl)) ?_
  rcases hx with rfl | rfl
  ·rfl
  ·show kst (cd "again") _ = _
   rw [XB]; rfl
 ·exact Q9 hO (by rcases hx with z | z <;> simp [z])
 ·simp [hl]; omega
 ·simp [hol]
 ·rw [Ju (by rcases hx with rfl | rfl <;> decide), Ju (Xz hp)]; exact hdc
theorem W1 {bs ws ns : List Str} {σ : MSt} {h : MH} (hb : 0 < bs.length ∧ bs.length ≤ 5) (hw : 0 < ws.length ∧ ws.length ≤ 5) (H : GI bs ws ns 6 σ h) : ∃ (f : Fd) (L : List Ln) (x3 x5 x6 x8 : Option W), (∀ l ∈ L, LineOk bs ws (ns.drop 1) l) ∧ Bal (L.map cdL) ∧ L.length ≤ 100 ∧ dcn L = 0 ∧
  QX (Qy (Ql wGt (mFn Js (Qc (Qg 7) Qm)) (mC (.int 0)))) J5 1000000 σ h = some (.nx (gS bs ws ns x3 (some (.ref 1)) x5 x6 (some (.ref 2)) x8) [QA f, .lst (L.map QO), .lst []]) := by
 obtain ⟨f, L, O, x3, x5, x6, x8, rfl, rfl, hL, hk, hO, hl, hol, hdc⟩ := H.ex
 have key := Kv (t := Qy (Ql wGt (mFn Js (Qc (Qg 7) Qm)) (mC (.int 0)))) (body := J5) (fun n σ' h => σ' = gS bs ws ns x3 (some (.ref 1)) x5 x6 (some (.ref 2)) x8 ∧ ∃ f L O, dcn L = 0 ∧ h = [QA f, .lst (L.map QO), .lst (O.map .str)] ∧ n = wt O ∧ (∀ l ∈ L, LineOk bs ws (ns.drop 1) l) ∧ Xg (L.map cdL) [] = some (O.reverse.map cd) ∧ (∀ x ∈ O, x = "either" ∨ x = "again" ∨ x = "or") ∧ L.length + 2 * wt O ≤ 40) (wt O) 1000000 _ _ (by have := Qep O; omega) ⟨rfl, f, L, O, hdc, rfl, rfl, hL, hk, hO, by have := Qep O; omega⟩ ?_
 ·obtain ⟨σ', h', e, rfl, f', L', O', hdc', rfl, hw, h1, h2, h3, h4⟩ := key
  have : O' = [] := by
   cases O' with
   | nil => rfl
   | cons x r => have := Qc3 (x :: r) (by simp); omega
  subst this
  exact ⟨f', L', x3, x5, x6, x8, h1, bal_iff.mpr h2, by omega, hdc', e⟩
 ·rintro n σ' h ⟨rfl, f, L, O, hdc', rfl, rfl, h1, h2, h3, h4⟩
  by_cases hne : O = []
  ·subst hne
   exact .inl ⟨by simp, rfl⟩
  ·refine .inr ⟨by simp; exact List.length_pos_iff.mpr hne, ?_⟩
   obtain ⟨l, f1, hp, ep⟩ := Kj f bs ws hb.1 hb.2 hw.1 hw.2
   obtain ⟨r, x, rfl⟩ := Qb9 O hne
   rw [Vb] at h2
   rw [Xo] at h4 ⊢
   have h2' : Xg ((L ++ [l]).map cdL) [] = some (cd x :: r.reverse.map cd) := by
    rw [Zl]
    exact Z8 h2 (by rw [Kn hp]; rfl)
   have s1 : L.length < sizeLine := Xf (by omega)
   by_cases hx : x = "either"
   ·subst hx
    rw [if_pos rfl] at h4 ⊢
    have es := GU (L := L ++ [l]) (O := r) (h := [QA f1, .lst ((L ++ [l]).map QO), .lst ((r ++ [("either" : Str)]).map .str)]) (i := 1) (j := 2) (by simp; omega) (by decide) rfl rfl
    refine ⟨wt (r ++ [("or" : Str)]), _, [QA f1, .lst ((L ++ [l] ++ [orL]).map QO), .lst ((r ++ [("or" : Str)]).map .str)], ?_, .inl ?_, rfl, _, _, _, ((Ju (by decide)).trans (Ju (Xz hp))).trans hdc', rfl, rfl, Q9 (Q9 h1 (.plain hp)) W7, ?_, WU h3 (by simp), ?_⟩
    ·rw [Xo, if_neg (by decide)]; omega
    ·simp at es
     simp [ep, s1, es]
    ·rw [Zl, Vb]
     exact Z8 h2' rfl
    ·rw [Xo, if_neg (by decide)]; simp; omega
   ·rw [if_neg hx] at h4 ⊢
    have es := Qbf (L := L ++ [l]) (O := r) (x := x) (h := [QA f1, .lst ((L ++ [l]).map QO), .lst ((r ++ [x]).map .str)]) (i := 1) (j := 2) hx (by simp; omega) (by decide) rfl rfl
    refine ⟨wt r, _, [QA f1, .lst ((L ++ [l] ++ [Qe1]).map QO), .lst (r.map .str)], by omega, .inl ?_, rfl, _, _, _, ((Ju (by decide)).trans (Ju (Xz hp))).trans hdc', rfl, rfl, Q9 (Q9 h1 (.plain hp)) YR, ?_, fun y hy => h3 y (List.mem_append_left _ hy), ?_⟩
    ·simp at es
     simp [ep, s1, es]
    ·rw [Zl]
     refine Z8 h2' ?_
     show kst (cd "end") _ = _
     rw [Wv]
     exact Qao (opk (h3 x (by simp)) hx)
    ·simp; omega
theorem Qcs {bs ws : List Str} {nm : Str} {ls : List Ln} (hb : Bal (ls.map cdL)) (hs : ls.length ≤ 300) (ho : ∀ l ∈ ls, LineOk bs ws [] l) (hd : dcn ls = 0) : GoodP 300 bs ws [(nm, ls)] := by
 refine ⟨by simp, by simp, by simpa using hb, by simpa using hs, fun i x hx => ?_, by simp, fun i x hx => ?_⟩
 ·cases i with
  | zero => simp at hx; subst hx; simpa using ho
  | succ i => simp at hx
 ·cases i with
  | zero => simp at hx; subst hx; show dcn ls ≤ _; omega
  | succ i => simp at hx
theorem QbV (f : Fd) : ∃ (bs ws : List Str) (p : List Pt) (f' : Fd), (0 < bs.length ∧ bs.length ≤ 5) ∧ (0 < ws.length ∧ ws.length ≤ 5) ∧ GoodP 300 bs ws p ∧ ∀ (h : MH) (n : Nat), h[n]? = some (QA f) → ZR [.ref n] h = some (ZX p, h.set n (QA f')) := by
 obtain ⟨bs, f1, lb, _, eb⟩ := V3 f 5 (by omega)
 obtain ⟨ws, f2, lw, _, ew⟩ := V3 f1 5 (by omega)
 obtain ⟨ns, f3, ln, hnd, en⟩ := V3 f2 5 (by omega)
 obtain ⟨a, b, c, d, e, rfl⟩ := Qkr ln
 have hb : 0 < bs.length ∧ bs.length ≤ 5 := by omega
 have hw : 0 < ws.length ∧ ws.length ≤ 5 := by omega
 simp at eb ew en
 obtain ⟨w0, w1⟩ := Kf (f := f3) (m := 3) (by decide)
 have pg : JE [.ref 0] [QA f] = Qen (Ji (gS bs ws [a, b, c, d, e] (some (.int (tk f3 3))) none none none none none) [QA (tf f3 3)]) := by simp [JE, Zd, eb, ew, en]
 by_cases hz : tk f3 3 = 0
 ·obtain ⟨m0, m1⟩ := Kf (f := tf f3 3) (m := 9) (by decide)
  obtain ⟨m, em⟩ := QcC m0
  obtain ⟨ls, f', hp, hl, ec⟩ := Qfv (tf f3 3) bs ws hb hw (gS bs ws [a, b, c, d, e] (some (.int 0)) none none none none none) ⟨none, rfl⟩ (Ya (Qc (Ql ZV (mC (.int 40)) (Qv 2 Qh (Qc (Qg 0) (Qc (mC (.int 9)) Qm)))) Qm)) (40 + m) (by omega) (tf (tf f3 3) 9) (Xj (j := 40 + m) (by simp [em]) (by omega))
  refine ⟨bs, ws, [(a, ls)], f', hb, hw, Qcs (Qdd fun l hl => Kn (hp l hl)) (by omega) (fun l hl => .plain (hp l hl)) (by unfold dcn; rw [List.countP_eq_zero]; intro l hl; rw [Xz (hp l hl)]; simp), fun h n hn => ?_⟩
  refine Jc (o := QA f) (g := [.lst (ls.map QO)]) (by simp) hn (by simp [QA]) ?_ (by simp) ⟨_, rfl, by simp⟩
  rw [pg]
  simp [Ji, hz, ec, ZX, JV]
 ·by_cases ho : tk f3 3 = 1
  ·obtain ⟨m0, m1⟩ := Kf (f := tf f3 3) (m := 2) (by decide)
   obtain ⟨m, em⟩ := QcC m0
   obtain ⟨ls, f4, r1, r2, r3, r4, er⟩ := WZ (tf (tf f3 3) 2) m bs ws [] 0 0 (by omega) (by omega) hb.1 hb.2 hw.1 hw.2 (by simp)
   obtain ⟨k0, k1⟩ := Kf (f := f4) (m := 4) (by decide)
   obtain ⟨k, ek⟩ := QcC k0
   refine ⟨bs, ws, [(a, List.replicate (20 + k) (["do", b] : Ln)), (b, ls)], tf f4 4, hb, hw, ⟨by simp, by simp, ?_, ?_, ?_, ?_, ?_⟩, fun h n hn => ?_⟩
   ·intro x hx
    simp at hx
    rcases hx with rfl | rfl
    ·exact Qdd fun l hl => by rw [(List.mem_replicate.mp hl).2]; show cd "do" = .ot; decide
    ·exact r1
   ·intro x hx
    simp at hx
    rcases hx with rfl | rfl
    ·simp; omega
    ·show ls.length ≤ 300; omega
   ·intro i x hx
    match i, hx with
    | 0, hx =>
     simp at hx; subst hx
     intro l hl
     rw [(List.mem_replicate.mp hl).2]
     exact .do (by simp)
    | 1, hx => simp at hx; subst hx; simpa using r2
   ·simp at hnd ⊢
    exact hnd.1.1
   ·intro i x hx
    match i, hx with
    | 0, hx =>
     simp at hx; subst hx
     have := List.countP_le_length (p := YU) (l := List.replicate (20 + k) (["do", b] : Ln))
     rw [List.length_replicate] at this
     show List.countP YU (List.replicate (20 + k) (["do", b] : Ln)) ≤ 23
     omega
    | 1, hx => simp at hx; subst hx; show dcn ls ≤ 1; omega
   ·refine Jc (o := QA f) (g := []) (by simp) hn (by simp [QA]) ?_ (by simp) ⟨_, rfl, by simp⟩
    have ec := VA (fin := V4) (mi := Ya (Qc (Qg 6) Qm)) (cp := [none, some 2]) (me := mFn ZW (Qc (mC (.str "do")) (Qc (Ql wIx (Qg 1) (mC (.int 1))) Qm))) (σ := gS bs ws [a, b, c, d, e] (some (.int 1)) none (some (.tup (ls.map QO))) (some (.int (20 + k))) none none) (caps := [some (Zy [a, b, c, d, e])]) (h := [QA (tf f4 4)]) (items := QR 0 (20 + k))
     (fun _ => QO ["do", b]) (Xj (j := 20 + k) (by simp) (by omega)) ⟨_, rfl⟩ (fun w hw => by simp [QO]) (by rw [Zi]; exact X0 (by omega))
    have er' : Q0 [.ref 0, .int m, .tup [Zy bs, Zy ws], .lst [], .int 0, .int 0] [QA (tf (tf f3 3) 2)] = some (.tup (ls.map QO), [QA f4]) := er _ 0 rfl
    have hconst : (QR 0 (20 + k)).map (fun _ => QO ["do", b]) = List.replicate (20 + k) (QO ["do", b]) := by rw [List.map_const', Zi]
    rw [hconst] at ec
    simp only [V4] at ec
    rw [pg]
    simp [Ji, ho, em, er', ek, ec, ZX, JV]
  ·have loop := Vi (items := QR 0 6) (b := J2 8) (body := Jj) (GI bs ws [a, b, c, d, e]) (QR 0 6) 0 (gS bs ws [a, b, c, d, e] (some (.int (tk f3 3))) (some (.ref 1)) none none (some (.ref 2)) none) [QA (tf f3 3), .lst [], .lst []]
    ⟨_, [], [], _, _, _, _, rfl, rfl, by simp, rfl, by simp, rfl, rfl, rfl⟩ (fun j w hj σ h H => GD hb hw (by have := (Vo hj).1; omega) H)
   obtain ⟨σ', h', e1, H⟩ := loop
   rw [Zi, Nat.zero_add] at H
   obtain ⟨f4, L, x3, x5, x6, x8, c1, c2, c3, c4, e2⟩ := W1 hb hw H
   have hx : GoodP 300 bs ws [(a, L), (b, []), (c, []), (d, []), (e, [])] := by
    refine ⟨by simp, by simp, ?_, ?_, ?_, by simpa using hnd, ?_⟩
    ·intro x hx
     simp at hx
     rcases hx with rfl | rfl | rfl | rfl | rfl
     ·exact c2
     all_goals rfl
    ·intro x hx
     simp at hx
     rcases hx with rfl | rfl | rfl | rfl | rfl <;> simp
     omega
    ·intro i x hx
     match i, hx with
     | 0, hx => simp at hx; subst hx; simpa using c1
     | 1, hx => simp at hx; subst hx; simp
     | 2, hx => simp at hx; subst hx; simp
     | 3, hx => simp at hx; subst hx; simp
     | 4, hx => simp at hx; subst hx; simp
    ·intro i x hx
     match i, hx with
     | 0, hx => simp at hx; subst hx; show dcn L ≤ _; omega
     | 1, hx => simp at hx; subst hx; simp [dcn]
     | 2, hx => simp at hx; subst hx; simp [dcn]
     | 3, hx => simp at hx; subst hx; simp [dcn]
     | 4, hx => simp at hx; subst hx; simp [dcn]
   refine ⟨bs, ws, _, f4, hb, hw, hx, fun h n hn => ?_⟩
   refine Jc (o := QA f) (g := [.lst (L.map QO), .lst []]) (by simp) hn (by simp [QA]) ?_ (by simp) ⟨_, rfl, by simp⟩
   have ec := VA (fin := V4) (mi := Ja (mSl (Qg 2) (Zp (mC (.int 1))) Vr)) (cp := [none]) (me := mFn ZW (Qc (Qg 0) (Qc (mFn ZW Qm) Qm))) (σ := gS bs ws [a, b, c, d, e] x3 (some (.ref 1)) x5 x6 (some (.ref 2)) x8) (caps := []) (h := [QA f4, .lst (L.map QO), .lst []]) (items := [.str b, .str c, .str d, .str e])
    (fun w => .tup [w, .tup []]) (by simp [Ja]; rfl) ⟨_, rfl⟩ (fun w hw => by simp) (by simp)
   have er : Ya (Qc (mC (.int 6)) Qm) (gS bs ws [a, b, c, d, e] (some (.int (tk f3 3))) (some (.ref 1)) none none (some (.ref 2)) none) [QA (tf f3 3), .lst [], .lst []] = some (QR 0 6, none, [QA (tf f3 3), .lst [], .lst []]) := Xj (j := 6) rfl (by decide)
   simp only [V4] at ec
   rw [pg]
   simp [Ji, XG, ho, hz, er, e1, e2, ec, ZX, JV]
end My

namespace My
open PySem PySem.Spec PyProof.Rows L2 Mi My3 My4
noncomputable def QhH (sem : List W → MH → Option (W × MH)) (f : Fd) (args : W → List W) : Prop := ∃ (bs ws : List Str) (p : List Pt) (f' : Fd), (0 < bs.length ∧ bs.length ≤ 5) ∧ (0 < ws.length ∧ ws.length ≤ 5) ∧ GoodP 300 bs ws p ∧ ∀ (h : MH) (n : Nat), h[n]? = some (QA f) → sem (args (.ref n)) h = some (ZX p, h.set n (QA f'))
theorem Qfg (f : Fd) (b0 b1 b2 b3 : Nat) (h0 : 1 ≤ b0 ∧ b0 ≤ 5) (h1 : 1 ≤ b1 ∧ b1 ≤ 5) (h2 : 1 ≤ b2 ∧ b2 ≤ 5) (h3 : 3 ≤ b3 ∧ b3 ≤ 48) : QhH JY f fun r => [r, .lst [.int b0, .int b1, .int b2, .int b3]] := by
 by_cases hz : tk f 8 = 5
 ·obtain ⟨bs, ws, p, f', hb, hw, hg, e⟩ := QbV (tf f 8)
  refine ⟨bs, ws, p, f', hb, hw, hg, fun h n hn => ?_⟩
  refine Jc (o := QA f) (g := []) (by simp) hn (by simp [QA]) ?_ (by simp) ⟨_, rfl, by simp⟩
  simp [Vd, Zd, hz, e]
 ·obtain ⟨bs, ws, p, f', hb, hw, hg, e⟩ := Go (tf f 8) b0 b1 b2 b3 h0 h1 h2 h3
  refine ⟨bs, ws, p, f', hb, hw, hg, fun h n hn => ?_⟩
  refine Jc (o := QA f) (g := []) (by simp) hn (by simp [QA]) ?_ (by simp) ⟨_, rfl, by simp⟩
  simp [Vd, Zd, hz, e]
noncomputable def pW : W → Bool
 | .tup (.str x :: _) => x == "pair"
 | _ => false
noncomputable def fW : W → W
 | .tup (_ :: _ :: z :: _) => z
 | _ => .non
theorem VP {bs ws la : List Str} {l : Ln} (h : LineOk bs ws la l) : ∃ x r, l = x :: r := by
 cases h with
 | plain h => cases h <;> exact ⟨_, _, rfl⟩
 | «do» h => exact ⟨_, _, rfl⟩
 | blk h => exact ⟨_, _, rfl⟩
 | back h => exact ⟨_, _, rfl⟩
theorem Y7 {bs ws la : List Str} {l : Ln} (h : LineOk bs ws la l) (hp : pW (QO l) = true) : ∃ x w y z : Str, l = (["pair", x, w, y, z] : Ln) ∧ w ∈ ws := by
 cases h with
 | plain h =>
  cases h with
  | pair hx hw hy hz => exact ⟨_, _, _, _, rfl, hw⟩
  | _ => simp [QO, pW] at hp
 | «do» h => simp [QO, pW] at hp
 | blk h => rcases h with rfl | rfl | rfl | rfl <;> simp [QO, pW] at hp
 | back h => simp [QO, pW] at hp
theorem Yh {bs ws la : List Str} : ∀ {ls : List Ln}, (∀ l ∈ ls, LineOk bs ws la l) → ∃ W' : List Str, ((ls.map QO).filter pW).map fW = W'.map .str ∧ (∀ x ∈ W', x ∈ ws) ∧ W'.length ≤ ls.length
 | [], _ => ⟨[], rfl, by simp, Nat.le_refl _⟩
 | l :: ls, h => by
  obtain ⟨W', e, hw, hl⟩ := Yh (ls := ls) fun x hx => h x (List.mem_cons_of_mem _ hx)
  by_cases hp : pW (QO l) = true
  ·obtain ⟨x, w, y, z, rfl, hm⟩ := Y7 (h l List.mem_cons_self) hp
   refine ⟨w :: W', ?_, ?_, by simp; omega⟩
   ·rw [List.map_cons, List.filter_cons_of_pos hp, List.map_cons, e]; rfl
   ·intro q hq
    rcases List.mem_cons.mp hq with rfl | hq
    ·exact hm
    ·exact hw q hq
  ·refine ⟨W', ?_, hw, by simp; omega⟩
   rw [List.map_cons, List.filter_cons_of_neg hp, e]
theorem GH {bs ws la : List Str} {p : List Pt} {x : Pt} {f : Fd} {Wd : List Str} {x3 x4 x5 x6 x7 : Option W} (hx : ∀ l ∈ x.2, LineOk bs ws la l) (hs : x.2.length ≤ 300) (hw : Wd.length ≤ 3000) : ∃ W' : List Str, (∀ y ∈ W', y ∈ ws) ∧ W'.length ≤ 300 ∧
  Jv [some (ZX p), some (.ref 0), some (.ref 1), some (.str x.1), some (.tup (x.2.map QO)), x5, x6, x7] [QA f, .lst (Wd.map .str)] = some (.nx [some (ZX p), some (.ref 0), some (.ref 1), some (.str x.1), some (.tup (x.2.map QO)), x5, x6, x7] [QA f, .lst ((Wd ++ W').map .str)]) := by
 obtain ⟨W', e, h1, h2⟩ := Yh hx
 refine ⟨W', h1, by omega, ?_⟩
 have ec := QbE (fin := V4) (mi := Ja (Qg 4)) (cp := [none]) (mt := Qy (Ql wEq (Ql wIx (Qg 0) (mC (.int 0))) (mC (.str "pair")))) (me := Ql wIx (Qg 0) (mC (.int 2))) (σ := [some (ZX p), some (.ref 0), some (.ref 1), some (.str x.1), some (.tup (x.2.map QO)), x5, x6, x7]) (caps := []) (h := [QA f, .lst (Wd.map .str)]) (items := x.2.map QO)
  fW pW (by simp [Ja]; rfl) ⟨_, rfl⟩ (fun w hw => by
   obtain ⟨l, hl, rfl⟩ := List.mem_map.mp hw
   obtain ⟨y, r, rfl⟩ := VP (hx l hl)
   simp [QO, pW]) (fun w hw hp => by
   obtain ⟨l, hl, rfl⟩ := List.mem_map.mp hw
   obtain ⟨y, w, u, z, rfl, _⟩ := Y7 (hx l hl) hp
   simp [QO, fW]) (by simp; exact X0 (by omega))
 rw [e] at ec
 simp only [V4] at ec
 have s1 : Wd.length + W'.length ≤ sizeLine := X0 (by omega)
 simp [ec, s1]
noncomputable abbrev dS (p : List Pt) (x3 x4 x5 x6 x7 : Option W) : MSt := [some (ZX p), some (.ref 0), some (.ref 1), x3, x4, x5, x6, x7]
noncomputable abbrev dH (f : Fd) (Wd : List Str) (ps : List Pt) (gs : MH) (F : List Ln) : MH := QA f :: .lst (Wd.map .str) :: .lst (ps.map JV) :: (gs ++ [.lst (F.map QO)])
theorem Yo {α : Type} {gs : List α} {x : α} : (gs ++ [x])[gs.length]? = some x := by simp
structure DI (bs ws la : List Str) (ls F : List Ln) (n : Nat) : Prop where
 ok : ∀ l ∈ F, LineOk bs ws la l
 k : Xg (F.map cdL) [] = Xg ((ls.take n).map cdL) []
 sz : F.length ≤ 2 * n
 dc : dcn F = dcn (ls.take n)
theorem UD {ls : List Cd} {s : List Cd} : Xg (ls ++ [.ot]) s = Xg ls s := by
 rw [V5]
 cases Xg ls s <;> rfl
theorem WK {a b : List Cd} {c : Cd} (h : Xg a [] = Xg b []) : Xg (a ++ [c]) [] = Xg (b ++ [c]) [] := by rw [V5, V5, h]
theorem GV (x : Str) : cdL ["back", x] = .ot := by show cd "back" = .ot; decide
theorem GL {bs ws la : List Str} {p ps : List Pt} {nm : Str} {ls F : List Ln} {f : Fd} {Wd : List Str} {gs : MH} {x7 : Option W} {n : Nat} {l : Ln} (hl : ls[n]? = some l) (hok : LineOk bs ws la l) (hW : 0 < Wd.length) (hW2 : Wd.length ≤ 3000) (hWs : ∀ x ∈ Wd, x ∈ ws) (hn : n ≤ 1000) (H : DI bs ws la ls F n) :
  ∃ (f' : Fd) (F' : List Ln), DI bs ws la ls F' (n + 1) ∧ Jw (dS p (some (.str nm)) (some (.tup (ls.map QO))) (some (.ref 2)) (some (.ref (gs.length + 3))) (some (QO l))) (dH f Wd ps gs F) = some (.nx (dS p (some (.str nm)) (some (.tup (ls.map QO))) (some (.ref 2)) (some (.ref (gs.length + 3))) (some (QO l))) (dH f' Wd ps gs F')) := by
 have hlt := (List.getElem?_eq_some_iff.mp hl).1
 have ht : (ls.take (n + 1)).map cdL = (ls.take n).map cdL ++ [cdL l] := by
  rw [List.take_succ_eq_append_getElem hlt, List.map_append]
  rw [List.getElem?_eq_getElem hlt] at hl
  cases hl; rfl
 have ht2 : ls.take (n + 1) = ls.take n ++ [l] := by
  rw [List.take_succ_eq_append_getElem hlt]
  rw [List.getElem?_eq_getElem hlt] at hl
  cases hl; rfl
 have q1 : (0 : Int) < Wd.length := by omega
 have q2 : (Wd.length : Int) < 1000000 := by omega
 have hsz := H.sz
 have s1 : F.length < sizeLine := Xf (by omega)
 have s2 : F.length + 1 < sizeLine := Xf (by omega)
 by_cases hz : tk f 4 = 0
 ·obtain ⟨b0, b1⟩ := Kf (f := tf f 4) q1
  obtain ⟨x, hx, ex⟩ := GF b0 b1
  refine ⟨tf (tf f 4) Wd.length, F ++ [(["back", x] : Ln)] ++ [l], ⟨Q9 (Q9 H.ok (.back (hWs x hx))) hok, ?_, by simp; omega, by rw [ht2, VE, VE, VE, H.dc]; rfl⟩, ?_⟩
  ·rw [ht, Zl, Zl, GV]
   refine WK ?_
   rw [UD]; exact H.k
  ·simp [hz, VD q1 q2, ex, s1, s2, Yo, Kl, QO]
 ·refine ⟨tf f 4, F ++ [l], ⟨Q9 H.ok hok, ?_, by simp; omega, by rw [ht2, VE, VE, H.dc]⟩, ?_⟩
  ·rw [ht, Zl]
   exact WK H.k
  ·simp [hz, s1, Yo, Kl, QO]
structure DO (bs ws : List Str) (p : List Pt) (Wd : List Str) (n : Nat) (σ : MSt) (h : MH) : Prop where
 ex : ∃ (f : Fd) (ps : List Pt) (gs : MH) (x3 x4 x6 x7 : Option W), σ = dS p x3 x4 (some (.ref 2)) x6 x7 ∧ h = QA f :: .lst (Wd.map .str) :: .lst (ps.map JV) :: gs ∧ PP 700 bs ws (p.map (·.1)) n ps
theorem Uv {bs ws : List Str} {p : List Pt} {Wd : List Str} {n : Nat} {σ : MSt} {h : MH} {x : Pt} (hg : GoodP 300 bs ws p) (hx : p[n]? = some x) (hW : 0 < Wd.length) (hW2 : Wd.length ≤ 3000) (hWs : ∀ x ∈ Wd, x ∈ ws) (H : DO bs ws p Wd n σ h) :
  ∃ σ1, XA [3, 4] (JV x) σ h = some σ1 ∧ ∃ σ2 h2, (ZQ σ1 h = some (.nx σ2 h2) ∨ ZQ σ1 h = some (.ct σ2 h2)) ∧ DO bs ws p Wd (n + 1) σ2 h2 := by
 obtain ⟨f, ps, gs, x3, x4, x6, x7, rfl, rfl, hp⟩ := H.ex
 obtain ⟨nm, ls⟩ := x
 have hmem : (nm, ls) ∈ p := List.mem_iff_getElem?.mpr ⟨n, hx⟩
 have hsz : ls.length ≤ 300 := hg.sz _ hmem
 have hok := hg.ok n _ hx
 have hbal : Xg (ls.map cdL) [] = some [] := bal_iff.mp (hg.bal _ hmem)
 refine ⟨dS p (some (.str nm)) (some (.tup (ls.map QO))) (some (.ref 2)) x6 x7, rfl, ?_⟩
 obtain ⟨m0, hm0⟩ : ∃ m0, m0 = n := ⟨n, rfl⟩
 rw [← hm0] at hok
 have loop := Vi (items := ls.map QO) (b := J2 7) (body := Jw) (fun n σ h => ∃ (f : Fd) (F : List Ln) (x7 : Option W), σ = dS p (some (.str nm)) (some (.tup (ls.map QO))) (some (.ref 2)) (some (.ref (gs.length + 3))) x7 ∧ h = dH f Wd ps gs F ∧ DI bs ws ((p.map (·.1)).drop (m0 + 1)) ls F n)
  (ls.map QO) 0 (dS p (some (.str nm)) (some (.tup (ls.map QO))) (some (.ref 2)) (some (.ref (gs.length + 3))) x7) (dH f Wd ps gs []) ⟨f, [], x7, rfl, rfl, by simp, rfl, by simp, rfl⟩ (by
   rintro j w hj σ h ⟨f, F, x7, rfl, rfl, HD⟩
   rw [List.getElem?_map] at hj
   obtain ⟨l, hl, rfl⟩ := Option.map_eq_some_iff.mp hj
   rw [Nat.zero_add] at HD ⊢
   obtain ⟨f', F', h1, e1⟩ := GL (p := p) (ps := ps) (nm := nm) (f := f) (gs := gs) (x7 := x7) hl (hok l (List.mem_iff_getElem?.mpr ⟨j, hl⟩)) hW hW2 hWs (by have := (List.getElem?_eq_some_iff.mp hl).1; omega) HD
   exact ⟨_, rfl, _, _, .inl e1, f', F', _, rfl, rfl, h1⟩)
 obtain ⟨σ', h', e1, f1, F, y7, rfl, rfl, HD⟩ := loop
 rw [List.length_map, Nat.zero_add] at HD
 have hk : Xg (F.map cdL) [] = some [] := by rw [HD.k, List.take_length, hbal]
 have hFz := HD.sz
 have hFd : dcn F ≤ Qdl n := by rw [HD.dc, List.take_length]; exact hg.dos n _ hx
 have s1 : F.length < sizeLine := Xf (by omega)
 have s2 : ps.length < sizeLine := by
  have := congrArg List.length hp.nm
  simp at this
  have hl := hg.len
  exact Xf (by omega)
 have hnm : (p.map (·.1))[n]? = some nm := by rw [List.getElem?_map, hx]; rfl
 have ei : ∀ x6 x7 (h : MH), Ja (Qg 4) (dS p (some (.str nm)) (some (.tup (ls.map QO))) (some (.ref 2)) x6 x7) h = some (ls.map QO, none, h) := fun _ _ _ => rfl
 by_cases hz : tk f1 4 = 0
 ·obtain ⟨w0, wr, rfl⟩ : ∃ w r, Wd = w :: r := by
   cases Wd with
   | nil => simp at hW
   | cons w r => exact ⟨w, r, rfl⟩
  refine ⟨dS p (some (.str nm)) (some (.tup (ls.map QO))) (some (.ref 2)) (some (.ref (gs.length + 3))) y7, QA (tf f1 4) :: .lst ((w0 :: wr).map .str) :: .lst ((ps ++ [(nm, F ++ [(["back", w0] : Ln)])]).map JV) :: (gs ++ [.lst ((F ++ [(["back", w0] : Ln)]).map QO)]), .inl ?_, ⟨_, _, _, _, _, _, _, rfl, rfl, ?_⟩⟩
  ·simp only [dH, dS, List.map_nil, List.map_cons] at e1
   simp [XG, ei, Nat.add_assoc, e1, hz, s1, s2, Yo, Kl, QO, JV]
  ·refine hp.snoc hnm ?_ (by simp; omega) ?_ ?_
   ·rw [Zl, GV]
    exact bal_iff.mpr (by rw [UD]; exact hk)
   ·rw [← hm0]; exact Q9 HD.ok (.back (hWs w0 (by simp)))
   ·rw [Ju (show YU ["back", w0] = false by show (("back" : Str) == "do") = false; decide)]; exact hFd
 ·refine ⟨dS p (some (.str nm)) (some (.tup (ls.map QO))) (some (.ref 2)) (some (.ref (gs.length + 3))) y7, QA (tf f1 4) :: .lst (Wd.map .str) :: .lst ((ps ++ [(nm, F)]).map JV) :: (gs ++ [.lst (F.map QO)]), .inl ?_, ⟨_, _, _, _, _, _, _, rfl, rfl, ?_⟩⟩
  ·simp only [dH, dS, List.map_nil, List.map_cons] at e1
   simp [XG, ei, Nat.add_assoc, e1, hz, s2, Yo, Kl, JV]
  ·exact hp.snoc hnm (bal_iff.mpr hk) (by omega) (by rw [← hm0]; exact HD.ok) hFd
end My

namespace My
open PySem PySem.Spec PyProof.Rows L2 Mi My3 My4
theorem YW {N M : Nat} {bs ws : List Str} {p : List Pt} (h : GoodP N bs ws p) (hm : N ≤ M) : GoodP M bs ws p := ⟨h.ne, h.len, h.bal, fun x hx => Nat.le_trans (h.sz x hx) hm, h.ok, h.nd, h.dos⟩
theorem Qed {m : FM} {f f' : Fd} {p p' : List Pt} {g : MH} {h : MH} {n : Nat} (hn : h[n]? = some (QA f)) (e : m [ZX p, .ref 0] [QA f] = some (ZX p', QA f' :: g)) : box frN m [ZX p, .ref n] h = some (ZX p', h.set n (QA f')) := by
 have := Kz (m := m) (args := [ZX p, .ref n]) (as := [ZX p, .ref 0]) (ns := [n]) (os := [QA f]) (os' := [QA f']) (g := g) (h := h) (w := ZX p') (w' := ZX p') (by simp [ZX, Km]) (by simp) (by simp [Jp, YE (us := [.int f.a, .int f.b]) hn (by simp), QA]) e rfl (fun o ho => by simp at ho; subst ho; exact ⟨_, rfl, by simp⟩) (WJ _ _ (by simp))
 simpa using this
theorem GE (f : Fd) (bs ws : List Str) (p : List Pt) (hg : GoodP 300 bs ws p) : ∃ (p' : List Pt) (f' : Fd), GoodP 700 bs ws p' ∧ ∀ (h : MH) (n : Nat), h[n]? = some (QA f) → ZJ [ZX p, .ref n] h = some (ZX p', h.set n (QA f')) := by
 have hlen := hg.len
 have loop := Vi (items := p.map JV) (b := XA [3, 4]) (body := Jv) (fun n σ h => ∃ (Wd : List Str) (x3 x4 : Option W), σ = dS p x3 x4 none none none ∧ h = [QA f, .lst (Wd.map .str)] ∧ (∀ x ∈ Wd, x ∈ ws) ∧ Wd.length ≤ 300 * n)
  (p.map JV) 0 (dS p none none none none none) [QA f, .lst []] ⟨[], none, none, rfl, rfl, by simp, by simp⟩ (by
   rintro j w hj σ h ⟨Wd, x3, x4, rfl, rfl, h1, h2⟩
   rw [List.getElem?_map] at hj
   obtain ⟨x, hx, rfl⟩ := Option.map_eq_some_iff.mp hj
   have hjl := (List.getElem?_eq_some_iff.mp hx).1
   obtain ⟨W', h3, h4, e⟩ := GH (bs := bs) (ws := ws) (la := (p.map (·.1)).drop (j + 1)) (p := p) (x := x) (f := f) (Wd := Wd) (x3 := x3) (x4 := x4) (x5 := none) (x6 := none) (x7 := none) (hg.ok j x hx) (hg.sz x (List.mem_iff_getElem?.mpr ⟨j, hx⟩)) (by omega)
   refine ⟨dS p (some (.str x.1)) (some (.tup (x.2.map QO))) none none none, rfl, _, _, .inl e, Wd ++ W', _, _, rfl, rfl, ?_, by simp; omega⟩
   intro y hy
   rcases List.mem_append.mp hy with z | z
   ·exact h1 y z
   ·exact h3 y z)
 obtain ⟨σ', h', e1, Wd, x3, x4, rfl, rfl, hW, hWl⟩ := loop
 rw [List.length_map, Nat.zero_add] at hWl
 have ei : ∀ x3 x4 x5 x6 x7 (h : MH), Ja (Qg 0) (dS p x3 x4 x5 x6 x7) h = some (p.map JV, none, h) := fun _ _ _ _ _ _ => rfl
 by_cases hz : Wd.length = 0
 ·have hz' : Wd = [] := List.length_eq_zero_iff.mp hz
  subst hz'
  refine ⟨p, f, YW hg (by omega), fun h n hn => Qed (g := [.lst []]) hn ?_⟩
  simp at e1
  simp [Zw, Zd, XG, ei, e1]
 ·have q : Wd ≠ [] := fun z => hz (by rw [z]; rfl)
  by_cases ho : tk f 2 = 0
  ·refine ⟨p, tf f 2, YW hg (by omega), fun h n hn => Qed (g := [.lst (Wd.map .str)]) hn ?_⟩
   simp [Zw, Zd, XG, ei, e1, q, ho]
  ·have loop := Vi (items := p.map JV) (b := XA [3, 4]) (body := ZQ) (DO bs ws p Wd) (p.map JV) 0 (dS p x3 x4 (some (.ref 2)) none none) [QA (tf f 2), .lst (Wd.map .str), .lst []]
    ⟨tf f 2, [], [], x3, x4, none, none, rfl, rfl, ⟨rfl, by simp, by simp, by simp, by simp⟩⟩ (by
     intro j w hj σ h H
     rw [List.getElem?_map] at hj
     obtain ⟨x, hx, rfl⟩ := Option.map_eq_some_iff.mp hj
     rw [Nat.zero_add] at H ⊢
     exact Uv hg hx (by omega) (by omega) hW H)
   obtain ⟨σ', h', e2, H⟩ := loop
   obtain ⟨f', ps, gs, y3, y4, y6, y7, rfl, rfl, hp⟩ := H.ex
   rw [List.length_map, Nat.zero_add] at hp
   have hp' : PP 700 bs ws (p.map (·.1)) (p.map (·.1)).length ps := by rw [List.length_map]; exact hp
   refine ⟨ps, f', hp'.good (by simp [hg.ne]) (by simp; omega) hg.nd, fun h n hn => Qed (g := .lst (Wd.map .str) :: .lst (ps.map JV) :: gs) hn ?_⟩
   rw [show ZX ps = .tup (ps.map JV) from rfl]
   simp [Zw, Zd, XG, ei, e1, q, ho, e2]
theorem Qa6 (ns : List Int) (k : Nat) (hk : k < 100) : ∃ f : Fd, ∀ h : MH, Zq [.frz (ns.map .int), .int k] h = some (.ref h.length, h ++ [QA f]) := by
 have fin : ∀ (a b : Int) (hb : 0 ≤ b ∧ b < 1099511627776), Jm [.frz (ns.map .int), .int k] [] = some (.ref 0, [.lst [.int a, .int b]]) → ∀ h : MH, Zq [.frz (ns.map .int), .int k] h = some (.ref h.length, h ++ [QA ⟨a, b, hb⟩]) := by
  intro a b hb e h
  unfold Zq box
  have hr : Km 0 [.frz (ns.map .int), .int k] = some ([.frz (ns.map .int), .int k], []) := by simp [Km]
  rw [hr, Option.bind_some]
  unfold QeX
  rw [if_pos List.nodup_nil]
  simp only [Jp, Option.bind_some, e]
  rw [if_pos ⟨by simp [frR], by simp [frR]⟩]
  simp [frR, th, res, Yk, Jp, thO, ths, Za, QA]
 -- the cell
 obtain ⟨c, hc⟩ : ∃ c : Int, (if (k : Int) < (ns.length : Nat) then @om _ _ (fun p => MF.nx [some (.frz (ns.map .int)), some (.int k), some p.fst, none] p.snd) (@om _ _ (fun w => (w, ([] : MH))) (atI (ns.map W.int) (k : Int))) else some (MF.nx [some (.frz (ns.map .int)), some (.int k), some (.int 0), none] [])) = some (MF.nx [some (.frz (ns.map .int)), some (.int k), some (.int c), none] []) := by
  by_cases hl : k < ns.length
  ·refine ⟨ns[k], ?_⟩
   rw [if_pos (by omega), Zt, List.getElem?_map, List.getElem?_eq_getElem hl]; simp
  ·exact ⟨0, by rw [if_neg (by omega)]⟩
 have b1 : 0 ≤ c % 2147483647 * 48271 % 2147483647 := Int.emod_nonneg _ (by decide)
 have b2 : c % 2147483647 * 48271 % 2147483647 < 2147483647 := Int.emod_lt_of_pos _ (by decide)
 by_cases hd : (1000000000000000000 : Int) ≤ c
 ·refine ⟨⟨c - 1000000000000000000, c % 2147483647 * 48271 % 2147483647 + k, by omega⟩, fin _ _ _ ?_⟩
  simp at hc
  simp [Jm, Zd, hc, hd]
 ·refine ⟨⟨0, c % 2147483647 * 48271 % 2147483647 + k, by omega⟩, fin _ _ _ ?_⟩
  simp at hc
  simp [Jm, Zd, hc, hd]
end My

namespace My
open PySem PySem.Spec PyProof.Rows L2 Mi My3 My4
noncomputable def rW : Option Nat → W
 | some t => .ref (t + 2)
 | none => .non
noncomputable def tO (x : Nat × Nat × Nat) : MO := .lst [.int x.1, .int x.2.1, .int x.2.2]
noncomputable def hB (b : Bk) (n : Nat) : MH := .lst (b.rws.map rW ++ List.replicate n .non) :: .lst (b.st.reverse.map fun (t : Nat) => W.ref (t + 2)) :: b.trs.map tO
theorem Qau {ls : List Cd} {k : Nat} {p : List En} (h : pil ls (k + 1) = some p) : ∃ q c, pil ls k = some q ∧ ls[k]? = some c ∧ stp k c q = some p := by
 obtain ⟨q, h1, h2⟩ := Option.bind_eq_some_iff.mp h
 cases hc : ls[k]? with
 | none => rw [hc] at h2; cases h2
 | some c => rw [hc] at h2; exact ⟨q, c, h1, rfl, h2⟩
theorem G9 {ls : List Cd} : ∀ {n : Nat} {p : List En}, pil ls n = some p → ∀ k, k ≤ n → ∃ q, pil ls k = some q
 | 0, p, h, k, hk => ⟨p, by rw [Nat.le_zero.mp hk]; exact h⟩
 | n + 1, p, h, k, hk => by
  by_cases z : k = n + 1
  ·rw [z]; exact ⟨p, h⟩
  ·obtain ⟨q, c, h1, _⟩ := Qau h
   exact G9 h1 k (by omega)
theorem Qda (ls : List Cd) : ∀ k, (∀ t ∈ (bks ls k).st, t < (bks ls k).trs.length) ∧ ∀ t, some t ∈ (bks ls k).rws → t < (bks ls k).trs.length
 | 0 => ⟨by simp [bks], by simp [bks]⟩
 | k + 1 => by
  obtain ⟨h1, h2⟩ := Qda ls k
  simp only [bks]
  split
  ·rename_i c hc
   generalize bks ls k = b at h1 h2
   obtain ⟨trs, st, rws⟩ := b
   have hd : ∀ t, st.head? = some t → t < trs.length := by
    intro t ht
    cases st with
    | nil => simp at ht
    | cons a r =>
     simp at ht
     subst ht
     exact h1 _ List.mem_cons_self
   have tl : ∀ f, (My4.top ⟨trs, st, rws⟩ f).length = trs.length := fun f => by unfold My4.top; cases st <;> simp
   cases c <;> simp only [bst]
   ·refine ⟨fun t ht => ?_, fun t ht => ?_⟩
    ·simp at ht ⊢; rcases ht with rfl | ht
     ·omega
     ·have := h1 t ht; simp at this; omega
    ·simp at ht ⊢; rcases ht with ht | rfl
     ·have := h2 t ht; simp at this; omega
     ·omega
   ·refine ⟨fun t ht => ?_, fun t ht => ?_⟩
    ·simp at ht ⊢; rcases ht with rfl | ht
     ·omega
     ·have := h1 t ht; simp at this; omega
    ·simp at ht ⊢; rcases ht with ht | rfl
     ·have := h2 t ht; simp at this; omega
     ·omega
   ·rw [tl]
    refine ⟨h1, fun t ht => ?_⟩
    simp at ht
    rcases ht with ht | ht
    ·exact h2 t ht
    ·exact hd t ht.symm
   ·rw [tl]
    refine ⟨fun t ht => h1 t (List.mem_of_mem_tail ht), fun t ht => ?_⟩
    simp at ht
    rcases ht with ht | ht
    ·exact h2 t ht
    ·exact hd t ht.symm
   ·refine ⟨h1, fun t ht => ?_⟩
    simp at ht
    rcases ht with ht | ht
    ·exact h2 t ht
    ·exact hd t ht.symm
  ·exact ⟨h1, h2⟩
theorem QeC {α : Type} {a : List α} {x y : α} {b : List α} {k : Nat} (h : a.length = k) : (a ++ x :: b).set k y = a ++ y :: b := by subst h; simp
theorem Qaj {l : List (Nat × Nat × Nat)} {t : Nat} {f : Nat × Nat × Nat → Nat × Nat × Nat} {x : Nat × Nat × Nat} (h : l[t]? = some x) : (l.map tO).set t (tO (f x)) = (l.modify t f).map tO := by
 apply List.ext_getElem?
 intro i
 rw [List.getElem?_set, List.getElem?_map, List.getElem?_map, List.getElem?_modify]
 have hlt := (List.getElem?_eq_some_iff.mp h).1
 by_cases z : t = i
 ·subst z
  rw [h]
  simp [hlt]
 ·simp [z]
noncomputable abbrev bS (ls : List Ln) (k : Option W) : MSt := [some (.tup (ls.map QO)), some (.ref 0), some (.ref 1), k]
theorem Jz {x : Str} : (x = "either" ∧ cd x = .ei) ∨ (x = "again" ∧ cd x = .ag) ∨ (x = "or" ∧ cd x = .oo) ∨ (x = "end" ∧ cd x = .en) ∨ ((x ≠ "either" ∧ x ≠ "again" ∧ x ≠ "or" ∧ x ≠ "end") ∧ cd x = .ot) := by
 unfold cd
 by_cases h1 : x = "either"
 ·exact .inl ⟨h1, if_pos h1⟩
 rw [if_neg h1]
 by_cases h2 : x = "again"
 ·exact .inr (.inl ⟨h2, if_pos h2⟩)
 rw [if_neg h2]
 by_cases h3 : x = "or"
 ·exact .inr (.inr (.inl ⟨h3, if_pos h3⟩))
 rw [if_neg h3]
 by_cases h4 : x = "end"
 ·exact .inr (.inr (.inr (.inl ⟨h4, if_pos h4⟩)))
 rw [if_neg h4]
 exact .inr (.inr (.inr (.inr ⟨⟨h1, h2, h3, h4⟩, rfl⟩)))
theorem Ut {ls : List Ln} {k n : Nat} {l : Ln} {x : Str} {r : List Str} {b : Bk} {p p' : List En} (hl : ls[k]? = some l) (hx : l = x :: r) (hk : k ≤ 5000) (hst : b.st.length ≤ 5000) (B : BI (ls.map cdL) k b p) (hs : stp k (cdL l) p = some p') :
  JM (bS ls (some (.int k))) (hB b (n + 1)) = some (.nx (bS ls (some (.int k))) (hB (bst k (cdL l) b) n)) := by
 subst hx
 have e1 : atI (ls.map QO) (k : Int) = some (QO (x :: r)) := by rw [Zt, List.getElem?_map, hl]; rfl
 have e2 : QO (x :: r) = .tup (.str x :: r.map .str) := rfl
 rw [e2] at e1
 have exw : ∀ h, Ql wIx (Ql wIx (Qg 0) (Qg 3)) (mC (.int 0)) (bS ls (some (.int k))) h = some (.str x, h) := fun h => by simp [e1]
 obtain ⟨trs, st, rws⟩ := b
 have hlen : (rws.map rW).length = k := by simp; exact B.len
 have hlen' : rws.length = k := B.len
 have exx : ixN (rws.length + (n + 1)) (k : Int) = some k := GQ (by omega)
 have es : ∀ v, (rws.map rW ++ List.replicate (n + 1) W.non).set k v = rws.map rW ++ v :: List.replicate n W.non := fun v => by rw [List.replicate_succ, QeC hlen]
 have s1 : st.length < sizeLine := Xf (Nat.le_trans (show st.length ≤ 5000 from hst) (by decide))
 have hcd : cdL (x :: r) = cd x := rfl
 rw [hcd] at hs ⊢
 rcases Jz (x := x) with ⟨rfl, hc⟩ | ⟨rfl, hc⟩ | ⟨rfl, hc⟩ | ⟨rfl, hc⟩ | ⟨⟨n1, n2, n3, n4⟩, hc⟩
 all_goals rw [hc] at hs ⊢
 ·simp [hB, bst, exw, s1, exx, es, Nat.add_assoc, rW, tO]
 ·simp [hB, bst, exw, s1, exx, es, Nat.add_assoc, rW, tO]
 ·cases p with
  | nil => cases hs
  | cons a pr =>
   have hop := B.op
   cases hop with
   | @cons t _ st' _ xx kk nn q =>
    obtain ⟨md, en, ht, _⟩ := xx
    simp only at ht
    have eg : (trs.map tO)[t]? = some (tO (a.fs, md, en)) := by rw [List.getElem?_map, ht]; rfl
    simp [hB, bst, exw, exx, es, Nat.add_assoc, rW, tO, My4.top, eg]
    exact Qaj (f := fun x => (x.1, k, x.2.2)) ht
 ·cases p with
  | nil => cases hs
  | cons a pr =>
   have hop := B.op
   cases hop with
   | @cons t _ st' _ xx kk nn q =>
    obtain ⟨md, en, ht, _⟩ := xx
    simp only at ht
    have eg : (trs.map tO)[t]? = some (tO (a.fs, md, en)) := by rw [List.getElem?_map, ht]; rfl
    simp [hB, bst, exw, exx, es, Nat.add_assoc, rW, tO, My4.top, eg]
    exact Qaj (f := fun x => (x.1, x.2.1, k)) ht
 ·cases st with
  | nil =>
   simp [hB, bst, exw, n1, n2, n3, n4, rW]
   rw [List.replicate_succ]
  | cons t st' => simp [hB, bst, exw, n1, n2, n3, n4, exx, es, rW]
noncomputable def rv (b : Bk) : Option Nat → W
 | some t => match b.trs[t]? with
  | some x => .lst [.int x.1, .int x.2.1, .int x.2.2]
  | none => .non
 | none => .non
noncomputable def Gb (b : Bk) : W := .lst (b.rws.map (rv b))
theorem QfC {b : Bk} {o : Option Nat} : pln (rv b o) = true := by
 cases o with
 | none => rfl
 | some t =>
  simp only [rv]
  split <;> rfl
@[simp] theorem Qhz {b : Bk} : pln (Gb b) = true := by unfold Gb pln; exact VH fun _ => QfC
theorem UE {b : Bk} {kp : Nat → Option Nat} {g : MH} {A B : MO} (hg : g = A :: B :: b.trs.map tO) (hkp : ∀ j, kp j = none) : ∀ (os : List (Option Nat)), (∀ t, some t ∈ os → t < b.trs.length) → ths (res kp g 2) (os.map rW) = some (os.map (rv b))
 | [], _ => rfl
 | o :: os, h => by
  rw [List.map_cons, ths, UE hg hkp os fun t ht => h t (List.mem_cons_of_mem _ ht)]
  cases o with
  | none => rfl
  | some t =>
   have hlt := h t List.mem_cons_self
   have hx : b.trs[t]? = some b.trs[t] := List.getElem?_eq_getElem hlt
   have hgt : g[t + 2]? = some (.lst [.int b.trs[t].1, .int b.trs[t].2.1, .int b.trs[t].2.2]) := by
    rw [hg]
    simp only [List.getElem?_cons_succ, List.getElem?_map, hx]; rfl
   have : th (res kp g 2) (rW (some t)) = some (rv b (some t)) := by
    simp only [rW, th, res, hkp, hgt, rv, hx]
    rfl
   rw [this]; rfl
theorem Qfw (ls : List Cd) : ∀ k, (bks ls k).st.length ≤ k
 | 0 => Nat.le_refl _
 | k + 1 => by
  have ih := Qfw ls k
  simp only [bks]
  split
  ·rename_i c hc
   cases c <;> simp [bst] <;> omega
  ·omega
theorem G4 (ls : List Ln) (hb : Bal (ls.map cdL)) (hne : ∀ l ∈ ls, ∃ x r, l = x :: r) (hl : ls.length ≤ 5000) (h : MH) : QS [.tup (ls.map QO)] h = some (Gb (bks (ls.map cdL) ls.length), h) := by
 have hbl : pil (ls.map cdL) ls.length = some [] := by have := hb; unfold Bal at this; rwa [List.length_map] at this
 have loop := Vi (items := QR 0 ls.length) (b := J2 3) (body := JM) (fun n σ h => ∃ kk, σ = bS ls kk ∧ h = hB (bks (ls.map cdL) n) (ls.length - n) ∧ n ≤ ls.length) (QR 0 ls.length) 0 (bS ls none) (hB ⟨[], [], []⟩ ls.length) ⟨none, rfl, by simp [bks], Nat.zero_le _⟩ (by
  rintro j w hj σ h ⟨kk, rfl, rfl, hn⟩
  obtain ⟨hjl, rfl⟩ := Vo hj
  rw [Nat.zero_add] at *
  obtain ⟨l, hlj⟩ : ∃ l, ls[j]? = some l := ⟨ls[j], List.getElem?_eq_getElem hjl⟩
  obtain ⟨x, r, hx⟩ := hne l (List.mem_iff_getElem?.mpr ⟨j, hlj⟩)
  obtain ⟨p1, hp1⟩ := G9 hbl (j + 1) (by omega)
  obtain ⟨p, c, hp, hc, hs⟩ := Qau hp1
  have hc' : (ls.map cdL)[j]? = some (cdL l) := by rw [List.getElem?_map, hlj]; rfl
  rw [hc'] at hc; cases hc
  obtain ⟨_, B⟩ := YF hp
  have hst : (bks (ls.map cdL) j).st.length ≤ 5000 := Nat.le_trans (Qfw _ j) (by omega)
  refine ⟨bS ls (some (.int ((0 : Int) + j))), rfl, bS ls (some (.int j)), hB (bks (ls.map cdL) (j + 1)) (ls.length - (j + 1)), .inl ?_, _, rfl, rfl, by omega⟩
  have e := Ut (n := ls.length - (j + 1)) hlj hx (by omega) hst B hs
  rw [show ls.length - (j + 1) + 1 = ls.length - j by omega] at e
  rw [Int.zero_add]
  simp only [bks, hc']
  exact e)
 obtain ⟨σ', h', e1, kk, rfl, rfl, _⟩ := loop
 rw [Zi, Nat.zero_add, Nat.sub_self] at e1
 generalize hbk : bks (ls.map cdL) ls.length = b at e1 ⊢
 have ec := VA (fin := QdI) (mi := Ja (Qg 0)) (cp := [none]) (me := mC .non) (σ := [some (.tup (ls.map QO)), none, none, none]) (caps := []) (h := []) (items := ls.map QO) (fun _ => W.non) rfl ⟨_, rfl⟩ (fun w hw => rfl) (by simp; exact X0 (by omega))
 rw [List.map_const', List.length_map] at ec
 have er : Ya (Qc (mFn Js (Qc (Qg 0) Qm)) Qm) (bS ls none) (hB ⟨[], [], []⟩ ls.length) = some (QR 0 ls.length, none, hB ⟨[], [], []⟩ ls.length) := Xj (by simp) (by omega)
 have := Kz (m := ZE) (args := [.tup (ls.map QO)]) (as := [.tup (ls.map QO)]) (ns := []) (os := []) (os' := []) (g := hB b 0) (h := h) (w := .ref 0) (w' := Gb b) (by simp [Km]) (by simp) rfl (by
  simp [hB] at er e1
  simp [ZE, Zd, XG, ec, QdI, er, e1, hB]) rfl (by simp) (by
  have hk : ∀ j, Yk [] [] h.length j = none := fun j => by simp [Yk]
  have hr := UE (b := b) (kp := Yk [] [] h.length) (g := hB b 0) (A := .lst (b.rws.map rW ++ List.replicate 0 .non)) (B := .lst (b.st.reverse.map fun (t : Nat) => W.ref (t + 2))) rfl hk b.rws (by rw [← hbk]; exact (Qda _ _).2)
  show th (res (Yk [] [] h.length) (hB b 0) 3) (.ref 0) = _
  have h0 : (hB b 0)[0]? = some (.lst (b.rws.map rW)) := by simp [hB]
  unfold th res
  simp only [hk 0, h0, hr]
  rfl)
 show box frN ZE _ _ = _
 simpa using this
end My

namespace My
open PySem PySem.Spec PyProof.Rows L2 Mi My3 My4
theorem Uq {items : List W} {b : MG} {body : SM} (P : Nat → MSt → MH → Prop) (v : W) (hv : MH) : ∀ (r : List W) (n m : Nat) (σ : MSt) (h : MH), P n σ h → m < r.length →
  (∀ (j : Nat) (w : W), j < m → r[j]? = some w → ∀ σ h, P (n + j) σ h → ∃ σ1, b w σ h = some σ1 ∧ ∃ σ2 h2, body σ1 h = some (.nx σ2 h2) ∧ P (n + j + 1) σ2 h2) →
  (∀ w, r[m]? = some w → ∀ σ h, P (n + m) σ h → ∃ σ1, b w σ h = some σ1 ∧ body σ1 h = some (.rt v hv)) → Vk items none b body r σ h = some (.rt v hv)
 | [], n, m, σ, h, _, hm, _, _ => by simp at hm
 | w :: r, n, 0, σ, h, hp, _, _, he => by
  obtain ⟨σ1, e1, e2⟩ := he w rfl σ h hp
  rw [Vk, if_pos (Q4 _ _), e1, Option.bind_some, e2]; rfl
 | w :: r, n, m + 1, σ, h, hp, hm, hs, he => by
  obtain ⟨σ1, e1, σ2, h2, e2, p2⟩ := hs 0 w (by omega) rfl σ h hp
  rw [Vk, if_pos (Q4 _ _), e1, Option.bind_some, e2]
  exact Uq (items := items) (b := b) (body := body) P v hv r (n + 1) m σ2 h2 p2 (by simpa using hm) (fun j x hj hx σ h hp => by
   have := hs (j + 1) x (by omega) (by simpa using hx) σ h (by rw [show n + (j + 1) = n + 1 + j by omega]; exact hp)
   rw [show n + (j + 1) + 1 = n + 1 + j + 1 by omega] at this
   exact this) (fun x hx σ h hp => he x (by simpa using hx) σ h (by rw [show n + (m + 1) = n + 1 + m by omega]; exact hp))
@[simp] theorem QgI {x : Str} {r : List Str} {h : MH} : QT [QO (x :: r)] h = some (.int (ch (cd x)), h) := by
 refine Q6 (g := []) (by simp) ?_ rfl
 have e2 : QO (x :: r) = .tup (.str x :: r.map .str) := rfl
 rcases Jz (x := x) with ⟨rfl, hc⟩ | ⟨rfl, hc⟩ | ⟨rfl, hc⟩ | ⟨rfl, hc⟩ | ⟨⟨n1, n2, n3, n4⟩, hc⟩
 ·simp [Q3, Zd, e2, hc, ch]
 ·simp [Q3, Zd, e2, hc, ch]
 ·simp [Q3, Zd, e2, hc, ch]
 ·simp [Q3, Zd, e2, hc, ch]
 ·simp [Q3, Zd, e2, n1, n2, n4, hc, ch]
@[simp] theorem Qjf {x : Str} {r : List Str} {h : MH} : wIx (QO (x :: r)) (.int 0) h = some (.str x, h) := by unfold QO; simp
@[simp] theorem Qii {x y : Str} {r : List Str} {h : MH} : wIx (QO (x :: y :: r)) (.int 1) h = some (.str y, h) := by unfold QO; simp
theorem Qab {ms : MA} {σ : MSt} {h h' : MH} {i j : Int} (e : ms σ h = some ([.int i, .int j], h')) (hi : -1000000 ≤ i ∧ i ≤ 1000000) (hj : -1000000 ≤ j ∧ j ≤ 1000000) : Gq ms σ h = some (QR i (j - i).toNat, none, h') := by
 unfold Gq
 rw [e, Option.bind_some]
 exact if_pos ⟨by omega, by omega, by omega, by omega⟩
noncomputable abbrev fS (ls : List Ln) (k : Nat) (y : Str) (lv j : Option W) : MSt := [some (.tup (ls.map QO)), some (.int k), some (.str y), lv, j]
theorem W4 {ls : List Ln} {j : Nat} {l : Ln} (h : ls[j]? = some l) : atI (ls.map QO) (j : Int) = some (QO l) := by rw [Zt, List.getElem?_map, h]; rfl
theorem Wu {ls : List Ln} {k j : Nat} {y : Str} {h : MH} (hne : ∀ l ∈ ls, ∃ x r, l = x :: r) (hl : ls.length ≤ 5000) (hy : ∀ x : Str, cd x = cd y ↔ x = y) (B : Beh (ls.map cdL) k (cd y) j) : QK [.tup (ls.map QO), .int k, .str y] h = some (.int j, h) := by
 refine Q6 (g := []) (by simp) ?_ rfl
 have hjl : j < ls.length := by have := (List.getElem?_eq_some_iff.mp B.at_).1; simpa using this
 have hkj := B.lt
 have er : ∀ x4, Gq (Qc (Ql ZV (Qg 1) (mC (.int 1))) (Qc (mFn Js (Qc (Qg 0) Qm)) Qm)) (fS ls k y (some (.int 0)) x4) [] = some (QR ((k : Int) + 1) (ls.length - (k + 1)), none, []) := by
  intro x4
  rw [Qab (h' := []) (i := (k : Int) + 1) (j := ls.length) (by simp) (by omega) (by omega), show ((ls.length : Int) - ((k : Int) + 1)).toNat = ls.length - (k + 1) by omega]
 have lines : ∀ i, k < i → i ≤ j → ∃ x r, ls[i]? = some (x :: r) ∧ (ls.map cdL)[i]? = some (cd x) := fun i _ hi => by
  have hil : i < ls.length := by omega
  obtain ⟨x, r, e⟩ := hne ls[i] (List.getElem_mem hil)
  have e' : ls[i]? = some (x :: r) := by rw [List.getElem?_eq_getElem hil, e]
  exact ⟨x, r, e', by rw [List.getElem?_map, e']; rfl⟩
 have loop := Uq (items := QR ((k : Int) + 1) (ls.length - (k + 1))) (b := J2 4) (body := Vy) (fun n σ h => ∃ x4, σ = fS ls k y (some (.int (lev (ls.map cdL) (k + 1 + n) - lev (ls.map cdL) (k + 1)))) x4 ∧ h = []) (.int j) [] (QR ((k : Int) + 1) (ls.length - (k + 1))) 0 (j - (k + 1)) (fS ls k y (some (.int 0)) none) [] ⟨none, by simp, rfl⟩ (by rw [Zi]; omega) (by
  rintro i w hi hw σ h ⟨x4, rfl, rfl⟩
  obtain ⟨_, rfl⟩ := Vo hw
  obtain ⟨x, r, hx, hc⟩ := lines (k + 1 + i) (by omega) (by omega)
  have ea := W4 hx
  have hv := JT hc
  rw [Nat.zero_add]
  have ea' : atI (ls.map QO) ((k : Int) + 1 + (i : Int)) = some (QO (x :: r)) := by rw [show ((k : Int) + 1 + (i : Int)) = ((k + 1 + i : Nat) : Int) by omega]; exact ea
  refine ⟨fS ls k y (some (.int (lev (ls.map cdL) (k + 1 + i) - lev (ls.map cdL) (k + 1)))) (some (.int ((k : Int) + 1 + i))), rfl, fS ls k y (some (.int (lev (ls.map cdL) (k + 1 + (i + 1)) - lev (ls.map cdL) (k + 1)))) (some (.int ((k : Int) + 1 + i))), [], ?_, _, rfl, rfl⟩
  have hstep : lev (ls.map cdL) (k + 1 + (i + 1)) - lev (ls.map cdL) (k + 1) = lev (ls.map cdL) (k + 1 + i) - lev (ls.map cdL) (k + 1) + ch (cd x) := by
   rw [show k + 1 + (i + 1) = k + 1 + i + 1 by omega, hv]; omega
  rw [hstep]
  generalize hL : lev (ls.map cdL) (k + 1 + i) - lev (ls.map cdL) (k + 1) = L
  by_cases hz : L = 0
  ·have hno := B.no (k + 1 + i) (by omega) (by omega) (by omega)
   have hxy : x ≠ y := fun z => hno (by rw [hc, z])
   subst hz
   simp [hxy, ea']
  ·simp [hz, ea']) (by
  rintro w hw σ h ⟨x4, rfl, rfl⟩
  obtain ⟨_, rfl⟩ := Vo hw
  obtain ⟨x, r, hx, hc⟩ := lines j (by omega) (by omega)
  have hcy := B.at_
  rw [hc] at hcy
  have hxy : x = y := (hy x).mp (by simpa using hcy)
  subst hxy
  have ej : (k : Int) + 1 + ((j - (k + 1) : Nat) : Int) = (j : Int) := by omega
  have ea := W4 hx
  rw [ej]
  have hlv : lev (ls.map cdL) (k + 1 + (0 + (j - (k + 1)))) - lev (ls.map cdL) (k + 1) = 0 := by
   rw [show k + 1 + (0 + (j - (k + 1))) = j by omega, B.lv]; omega
  rw [hlv]
  exact ⟨_, rfl, by simp [ea]⟩)
 simp [JN, Zd, XG, er, loop]
theorem V9 {lo c : Int} {n j : Nat} {w : W} (h : (Jn lo c n)[j]? = some w) : j < n ∧ w = .int (lo + (j : Int) * c) := by
 have hl := (List.getElem?_eq_some_iff.mp h).1
 simp [Jn] at hl
 refine ⟨hl, ?_⟩
 unfold Jn at h
 rw [List.getElem?_map, List.getElem?_range hl] at h
 cases h; rfl
noncomputable abbrev hS (ls : List Ln) (k : Nat) (lv j : Option W) : MSt := [some (.tup (ls.map QO)), some (.int k), lv, j]
theorem Qes {ls : List Ln} {k j : Nat} {h : MH} (hne : ∀ l ∈ ls, ∃ x r, l = x :: r) (hl : ls.length ≤ 900) (hk : k ≤ ls.length) (B : Ahd (ls.map cdL) k j) : Je [.tup (ls.map QO), .int k] h = some (.int j, h) := by
 refine Q6 (g := []) (by simp) ?_ rfl
 have hjk := B.lt
 have er : ∀ x3, Qdn (Qc (Ql Ws (Qg 1) (mC (.int 1))) (Qc (mUn XD (mC (.int 1))) (Qc (mUn XD (mC (.int 1))) Qm))) (hS ls k (some (.int 0)) x3) [] = some (Jn ((k : Int) - 1) (-1) k, none, []) := fun x3 => Qg6 rfl rfl rfl (by omega)
 have lines : ∀ i, i < k → ∃ x r, ls[i]? = some (x :: r) ∧ (ls.map cdL)[i]? = some (cd x) := fun i hi => by
  have hil : i < ls.length := by omega
  obtain ⟨x, r, e⟩ := hne ls[i] (List.getElem_mem hil)
  have e' : ls[i]? = some (x :: r) := by rw [List.getElem?_eq_getElem hil, e]
  exact ⟨x, r, e', by rw [List.getElem?_map, e']; rfl⟩
 have rl : (Jn ((k : Int) - 1) (-1) k).length = k := by simp [Jn]
 have loop := Uq (items := Jn ((k : Int) - 1) (-1) k) (b := J2 3) (body := XV) (fun n σ h => ∃ x3, σ = hS ls k (some (.int (lev (ls.map cdL) k - lev (ls.map cdL) (k - n)))) x3 ∧ h = []) (.int j) [] (Jn ((k : Int) - 1) (-1) k) 0 (k - 1 - j) (hS ls k (some (.int 0)) none) [] ⟨none, by simp, rfl⟩ (by rw [rl]; omega) (by
  rintro i w hi hw σ h ⟨x3, rfl, rfl⟩
  obtain ⟨_, rfl⟩ := V9 hw
  obtain ⟨x, r, hx, hc⟩ := lines (k - 1 - i) (by omega)
  have ej : (k : Int) - 1 + (i : Int) * -1 = ((k - 1 - i : Nat) : Int) := by omega
  have ea := W4 hx
  have hv := JT hc
  rw [Nat.zero_add, ej]
  generalize ht : ((k - 1 - i : Nat) : Int) = t at ea
  refine ⟨hS ls k (some (.int (lev (ls.map cdL) k - lev (ls.map cdL) (k - i)))) (some (.int t)), rfl, hS ls k (some (.int (lev (ls.map cdL) k - lev (ls.map cdL) (k - (i + 1))))) (some (.int t)), [], ?_, _, rfl, rfl⟩
  have hstep : lev (ls.map cdL) k - lev (ls.map cdL) (k - (i + 1)) = lev (ls.map cdL) k - lev (ls.map cdL) (k - i) + ch (cd x) := by
   rw [show k - i = k - 1 - i + 1 by omega, hv, show k - (i + 1) = k - 1 - i by omega]; omega
  have hno := B.no (k - 1 - i) (by omega) (by omega)
  have hn1 : lev (ls.map cdL) k - lev (ls.map cdL) (k - i) + ch (cd x) ≠ 1 := by rw [← hstep, show k - (i + 1) = k - 1 - i by omega]; omega
  rw [hstep]
  simp [ea, hn1]) (by
  rintro w hw σ h ⟨x3, rfl, rfl⟩
  obtain ⟨_, rfl⟩ := V9 hw
  obtain ⟨x, r, hx, hc⟩ := lines j (by omega)
  have ej : (k : Int) - 1 + ((k - 1 - j : Nat) : Int) * -1 = (j : Int) := by omega
  have ea := W4 hx
  have hv := JT hc
  rw [ej]
  have hstep : lev (ls.map cdL) k - lev (ls.map cdL) (k - (0 + (k - 1 - j))) + ch (cd x) = 1 := by
   rw [show k - (0 + (k - 1 - j)) = j + 1 by omega, hv]
   have := B.lv
   omega
  rw [Nat.zero_add] at hstep ⊢
  exact ⟨_, rfl, by simp [ea, hstep]⟩)
 simp [Xl, Zd, XG, er, loop]
theorem Gr (x : Str) : cd x = cd "end" ↔ x = "end" := by
 rcases Jz (x := x) with ⟨rfl, hc⟩ | ⟨rfl, hc⟩ | ⟨rfl, hc⟩ | ⟨rfl, hc⟩ | ⟨⟨n1, n2, n3, n4⟩, hc⟩ <;> simp [hc, Wv, *]
theorem QaK (x : Str) : cd x = cd "or" ↔ x = "or" := by
 rcases Jz (x := x) with ⟨rfl, hc⟩ | ⟨rfl, hc⟩ | ⟨rfl, hc⟩ | ⟨rfl, hc⟩ | ⟨⟨n1, n2, n3, n4⟩, hc⟩ <;> simp [hc, Qgl, *]
theorem Qdk {ls : List Ln} {k j : Nat} {h : MH} (hne : ∀ l ∈ ls, ∃ x r, l = x :: r) (hl : ls.length ≤ 900) (B : Beh (ls.map cdL) k .en j) : ZB [.tup (ls.map QO), .int k] h = some (.int j, h) := by
 refine Q6 (g := []) (by simp) ?_ rfl
 have e : ∀ h, QK [.tup (ls.map QO), .int k, .str "end"] h = some (.int j, h) := fun h => Wu hne (by omega) Gr (by rw [Wv]; exact B)
 simp [XL, Zd, e]
theorem Qh6 {ls : List Ln} {k j : Nat} {h : MH} (hne : ∀ l ∈ ls, ∃ x r, l = x :: r) (hl : ls.length ≤ 900) (B : Beh (ls.map cdL) k .oo j) : VF [.tup (ls.map QO), .int k] h = some (.int j, h) := by
 refine Q6 (g := []) (by simp) ?_ rfl
 have e : ∀ h, QK [.tup (ls.map QO), .int k, .str "or"] h = some (.int j, h) := fun h => Wu hne (by omega) QaK (by rw [Qgl]; exact B)
 simp [KT, Zd, e]
@[simp] theorem Qim {w p k0 b k : W} {h : MH} (hw : pur w = true) (hp : pur p = true) (hk0 : pur k0 = true) (hb : pur b = true) (hk : pur k = true) : Zn [.tup [w, p, k0, b], k] h = some (.tup [w, p, k, .bl false], h) := by
 refine Q6 (g := []) (by simp [hw, hp, hk0, hb, hk]) ?_ (by simp [hw, hp, hk])
 simp [XM, Zd]
@[simp] theorem Qkl {w p k0 b k : W} {h : MH} (hw : pur w = true) (hp : pur p = true) (hk0 : pur k0 = true) (hb : pur b = true) (hk : pur k = true) : Jy [.tup [w, p, k0, b], k] h = some (.tup [w, p, k, .bl true], h) := by
 refine Q6 (g := []) (by simp [hw, hp, hk0, hb, hk]) ?_ (by simp [hw, hp, hk])
 simp [Xn, Zd]
end My

namespace My
open PySem PySem.Spec PyProof.Rows L2 Mi My3 My4
@[simp] theorem QjH {p : List Pt} {i : Int} {h : MH} : wIx (ZX p) (.int i) h = @om _ _ (fun w => (w, h)) (atI (p.map JV) i) := by unfold ZX; simp
@[simp] theorem Qjg {x : Pt} {h : MH} : wIx (JV x) (.int 1) h = some (.tup (x.2.map QO), h) := by unfold JV; simp
@[simp] theorem Qjb {b : Bk} {i : Int} {h : MH} : wIx (Gb b) (.int i) h = @om _ _ (fun w => (w, h)) (atI (b.rws.map (rv b)) i) := by unfold Gb; simp
@[simp] theorem Qis {q : Nat × Nat} {h : MH} : wIx (KJ q) (.int 0) h = some (.int q.1, h) := by unfold KJ; simp
@[simp] theorem Qi0 {q : Nat × Nat} {h : MH} : wIx (KJ q) (.int 1) h = some (.int q.2, h) := by unfold KJ; simp
noncomputable def bk (x : Pt) : Bk := bks (x.2.map cdL) x.2.length
noncomputable def Jr (p : List Pt) : W := .lst (p.map fun x => Gb (bk x))
@[simp] theorem QgK {p : List Pt} : pur (Jr p) = true := by
 unfold Jr
 rw [Qh7]
 exact Jk _ (VH fun _ => Qhz)
@[simp] theorem QgE {p : List Pt} {i : Int} {h : MH} : wIx (Jr p) (.int i) h = @om _ _ (fun w => (w, h)) (atI (p.map fun x => Gb (bk x)) i) := by unfold Jr; simp
structure SV (p : List Pt) (s : Spt) : Prop where
 ex : ∃ x, p[s.part]? = some x ∧ s.k ≤ x.2.length ∧ (s.head = true → ∃ r, x.2[s.k]? = some (("again" : Str) :: r))
 way : ∀ q ∈ s.way, ∃ x, p[q.1]? = some x ∧ q.2 < x.2.length
theorem KC {p : List Pt} {i : Nat} {x : Pt} (h : p[i]? = some x) : atI (p.map JV) (i : Int) = some (JV x) := by rw [Zt, List.getElem?_map, h]; rfl
theorem Qbc {p : List Pt} {i : Nat} {x : Pt} (h : p[i]? = some x) : atI (p.map fun x => Gb (bk x)) (i : Int) = some (Gb (bk x)) := by rw [Zt, List.getElem?_map, h]; rfl
theorem UO {b : Bk} {k t : Nat} {x : Nat × Nat × Nat} (h : b.rws[k]? = some (some t)) (hx : b.trs[t]? = some x) : atI (b.rws.map (rv b)) (k : Int) = some (.lst [.int x.1, .int x.2.1, .int x.2.2]) := by
 rw [Zt, List.getElem?_map, h]
 simp [rv, hx]
theorem Qae {p : List Pt} {s : Spt} {x : Pt} {h : MH} (hx : p[s.part]? = some x) (hn : s.head = true ∨ s.k = x.2.length) : ZP [ZX p, Qp s] h = some (.non, h) := by
 refine Q6 (g := []) (by simp) ?_ rfl
 obtain ⟨way, part, k, head⟩ := s
 have ep := KC hx
 simp only at ep hn hx
 by_cases hh : head = true
 ·simp [JZ, Zd, Qp, ep, hh]
 ·have hk : k = x.2.length := by rcases hn with z | z; exact absurd z hh; exact z
  simp [JZ, Zd, Qp, ep, hh, hk]
theorem QaI {p : List Pt} {s : Spt} {x : Pt} {l : Ln} {h : MH} (hx : p[s.part]? = some x) (hh : s.head = false) (hl : x.2[s.k]? = some l) : ZP [ZX p, Qp s] h = some (QO l, h) := by
 refine Q6 (g := []) (by simp) ?_ (by simp)
 obtain ⟨way, part, k, head⟩ := s
 have ep := KC hx
 have el := W4 hl
 have hk := (List.getElem?_eq_some_iff.mp hl).1
 simp only at ep hh hx el hk
 have hne : ¬ (k : Int) = x.2.length := by omega
 have hne' : ¬ k = x.2.length := by omega
 simp [JZ, Zd, Qp, ep, hh, el, hne, hne']
@[simp] theorem QgF {h : MH} : ZN [] h = some (Qp ⟨[], 0, 0, false⟩, h) := by
 refine Q6 (g := []) (by simp) ?_ (by simp)
 simp [Vh, Zd, Qp]
theorem Qat {ns : List Str} {x : Str} : ∀ {j : Nat}, ns.findIdx? (· == x) = some j → (ns.map W.str).findIdx? (fun y => eqW y (.str x)) = some j := by
 intro j h
 rw [List.findIdx?_map]
 rw [← h]
 congr 1
theorem Qbn {p : List Pt} {nm : Str} {j : Nat} {h : MH} (hj : (p.map (·.1)).findIdx? (· == nm) = some j) (hl : p.length ≤ 100) : Zk [ZX p, .str nm] h = some (.int j, h) := by
 refine Q6 (g := []) (by simp) ?_ rfl
 have ec := VA (fin := V4) (mi := Ja (Qg 0)) (cp := [none]) (me := Ql wIx (Qg 0) (mC (.int 0))) (σ := [some (ZX p), some (.str nm)]) (caps := []) (h := []) (items := p.map JV) (fun w => match w with | .tup (a :: _) => a | w => w) rfl ⟨_, rfl⟩ (fun w hw => by
  obtain ⟨x, _, rfl⟩ := List.mem_map.mp hw
  simp [JV]) (by simp; exact X0 (by omega))
 have hm : (p.map JV).map (fun w => match w with | .tup (a :: _) => a | w => w) = (p.map (·.1)).map W.str := by simp [JV, Function.comp_def]
 rw [hm] at ec
 simp only [V4] at ec
 have ei : XR (.lst ((p.map (·.1)).map W.str)) [.str nm] [] = some (.int j, []) := by
  unfold XR
  simp only [lsW, Option.bind_some]
  rw [V0 [] (.str nm) 40 rfl (by simp [dep]), V8 [] _ 40 Xy (Nat.le_trans UN (by decide)), Option.bind_some, Option.bind_some, Qat hj]
  rfl
 rw [List.map_map] at ec ei
 simp [JX, Zd, ec, ei]
end My

namespace My
open PySem PySem.Spec PyProof.Rows L2 Mi My3 My4
noncomputable def Wt : Nat → Nat
 | 0 => 65330
 | i + 1 => (4 - i) * 702
theorem YT {i q : Nat} (h : i + 1 ≤ q) : Wt q ≤ Wt (i + 1) := by
 obtain ⟨r, rfl⟩ : ∃ r, q = r + 1 := ⟨q - 1, by omega⟩
 show (4 - r) * 702 ≤ (4 - i) * 702
 exact Nat.mul_le_mul_right _ (by omega)
theorem Qe3 {i : Nat} (h : i ≤ 4) : 700 + Qdl i * (Wt (i + 1) + 2) ≤ Wt i := by
 match i, h with
 | 0, _ => decide
 | 1, _ => decide
 | 2, _ => decide
 | 3, _ => decide
 | 4, _ => decide
theorem Ga {i : Nat} : Wt i ≤ 65330 := by
 match i with
 | 0 => exact Nat.le_refl _
 | i + 1 =>
  show (4 - i) * 702 ≤ _
  have : (4 - i) * 702 ≤ 4 * 702 := Nat.mul_le_mul_right _ (by omega)
  omega
noncomputable def cst (i : Nat) (l : Ln) : Nat := if YU l = true then Wt (i + 1) + 2 else 1
noncomputable def rem (x : Pt) (i k : Nat) : Nat := ((x.2.drop k).map (cst i)).sum
theorem Xr {x : Pt} {i k : Nat} {l : Ln} (h : x.2[k]? = some l) : rem x i k = cst i l + rem x i (k + 1) := by
 obtain ⟨hk, rfl⟩ := List.getElem?_eq_some_iff.mp h
 unfold rem
 rw [List.drop_eq_getElem_cons hk, List.map_cons, List.sum_cons]
theorem Yj {x : Pt} {i : Nat} : ∀ {j k : Nat}, k < j → k < x.2.length → rem x i j < rem x i k
 | 0, _, h, _ => by omega
 | j + 1, k, h, hk => by
  have hs := Xr (i := i) (List.getElem?_eq_getElem hk)
  have hc : 1 ≤ cst i x.2[k] := by unfold cst; split <;> omega
  by_cases e : j = k
  ·subst e; omega
  ·by_cases hj : j < x.2.length
   ·have h1 := Yj (x := x) (i := i) (j := j) (k := k) (by omega) hk
    have h2 := Xr (i := i) (List.getElem?_eq_getElem hj)
    omega
   ·have : rem x i (j + 1) = 0 := by unfold rem; rw [List.drop_eq_nil_of_le (by omega)]; rfl
    omega
theorem QaU {i : Nat} : ∀ (ls : List Ln), (ls.map (cst i)).sum = ls.length + dcn ls * (Wt (i + 1) + 1)
 | [] => by simp [dcn]
 | l :: ls => by
  have ih := QaU (i := i) ls
  unfold dcn at ih ⊢
  rw [List.map_cons, List.sum_cons, ih, List.countP_cons, List.length_cons, cst]
  by_cases h : YU l = true
  ·rw [if_pos h, if_pos h, Nat.add_mul, Nat.one_mul]; omega
  ·rw [if_neg h, if_neg h, show List.countP YU ls + 0 = List.countP YU ls from rfl]; omega
theorem Qf0 {x : Pt} {i k : Nat} (hs : x.2.length ≤ 700) (hd : dcn x.2 ≤ Qdl i) (hi : i ≤ 4) : rem x i k ≤ Wt i := by
 have h0 : rem x i 0 ≤ Wt i := by
  unfold rem
  rw [List.drop_zero, QaU]
  have := Qe3 hi
  have : dcn x.2 * (Wt (i + 1) + 1) ≤ Qdl i * (Wt (i + 1) + 2) := Nat.mul_le_mul hd (by omega)
  omega
 by_cases hk : 0 < k
 ·by_cases hl : 0 < x.2.length
  ·have := Yj (x := x) (i := i) hk hl; omega
  ·unfold rem; rw [List.drop_eq_nil_of_le (by omega)]; simp
 ·rw [show k = 0 by omega]; exact h0
noncomputable def Qbi (p : List Pt) (i k : Nat) : Nat := match p[i]? with
 | some x => rem x i k
 | none => 0
theorem VB {p : List Pt} {i k : Nat} {x : Pt} (h : p[i]? = some x) : Qbi p i k = rem x i k := by unfold Qbi; rw [h]
noncomputable def RL (p : List Pt) : Prop := ∀ i k, Qbi p i k ≤ Wt i
theorem U6 {p : List Pt} {bs ws : List Str} (hg : GoodP 700 bs ws p) : RL p := by
 intro i k
 unfold Qbi
 split
 ·rename_i x hx
  have h1 := (List.getElem?_eq_some_iff.mp hx).1
  have h2 := hg.len
  exact Qf0 (hg.sz x (List.mem_iff_getElem?.mpr ⟨i, hx⟩)) (hg.dos i x hx) (by omega)
 ·exact Nat.zero_le _
noncomputable def WS (p : List Pt) (w : List (Nat × Nat)) : Nat := (w.map fun q => 1 + Qbi p q.1 (q.2 + 1)).sum
theorem Kx {p : List Pt} {w : List (Nat × Nat)} {q : Nat × Nat} : WS p (w ++ [q]) = WS p w + (1 + Qbi p q.1 (q.2 + 1)) := by simp [WS]
noncomputable def rk (p : List Pt) (s : Spt) : Nat := if s.head = true then 0 else 1 + Qbi p s.part s.k + WS p s.way
theorem KS {p : List Pt} {way : List (Nat × Nat)} {part k : Nat} : rk p ⟨way, part, k, false⟩ = 1 + Qbi p part k + WS p way := by unfold rk; rw [if_neg (by simp)]
theorem QdT {p : List Pt} {way : List (Nat × Nat)} {part k : Nat} : rk p ⟨way, part, k, true⟩ = 0 := by unfold rk; rw [if_pos rfl]
structure SW (s : Spt) : Prop where
 up : ∀ (j : Nat) (q : Nat × Nat), s.way[j]? = some q → j ≤ q.1
 le : s.way.length ≤ s.part
theorem QaZ {p : List Pt} (hg : RL p) : ∀ (w : List (Nat × Nat)), WS p w ≤ w.length * 65331
 | [] => by simp [WS]
 | q :: w => by
  have h1 := QaZ hg w
  have h2 := hg (q.1) (q.2 + 1)
  have h3 := Ga (i := q.1)
  unfold WS at h1 ⊢
  rw [List.map_cons, List.sum_cons, List.length_cons, Nat.add_mul]
  omega
theorem QhT {p : List Pt} (hg : RL p) {s : Spt} (hw : s.way.length ≤ 4) : rk p s ≤ 326655 := by
 unfold rk
 split
 ·omega
 ·have h1 := QaZ hg s.way
  have h2 := hg (s.part) (s.k)
  have h3 := Ga (i := s.part)
  have : s.way.length * 65331 ≤ 4 * 65331 := Nat.mul_le_mul_right _ hw
  omega
structure Mono (p : List Pt) (s : Spt) (L : List Spt) : Prop where
 one : ∀ t, L = [t] → rk p t < rk p s
 two : ∀ a b, L = [a, b] → a.k ≠ b.k
theorem Qcq {p : List Pt} {s : Spt} : Mono p s [] := ⟨fun _ h => by simp at h, fun _ _ h => by simp at h⟩
theorem Kr {p : List Pt} {s t : Spt} (h : rk p t < rk p s) : Mono p s [t] := ⟨fun u e => by simp at e; rw [← e]; exact h, fun _ _ e => by simp at e⟩
theorem UV {p : List Pt} {s a b : Spt} (h : a.k ≠ b.k) : Mono p s [a, b] := ⟨fun u e => by simp at e, fun x y e => by simp at e; rw [← e.1, ← e.2]; exact h⟩
theorem YS {p : List Pt} {way : List (Nat × Nat)} {part k m : Nat} {x : Pt} (hx : p[part]? = some x) (hk : k < x.2.length) (hm : k < m) : Mono p ⟨way, part, k, false⟩ [⟨way, part, m, false⟩] := Kr (by
 rw [KS, KS, VB hx, VB hx]
 have := Yj (x := x) (i := part) hm hk
 omega)
theorem WO {p : List Pt} {way : List (Nat × Nat)} {part k m : Nat} : Mono p ⟨way, part, k, false⟩ [⟨way, part, m, true⟩] := Kr (by rw [KS, QdT]; omega)
theorem QdG {p : List Pt} (hg : RL p) {way : List (Nat × Nat)} {part k j : Nat} {x : Pt} {l : Ln} (hx : p[part]? = some x) (hl : x.2[k]? = some l) (hd : YU l = true) (hj : part + 1 ≤ j) : Mono p ⟨way, part, k, false⟩ [⟨way ++ [(part, k)], j, 0, false⟩] := Kr (by
 rw [KS, KS, Kx, VB (p := p) (i := part) (k := k) hx, Xr hl]
 have h1 := hg (j) (0)
 have h2 := YT hj
 have h3 : cst part l = Wt (part + 1) + 2 := by unfold cst; rw [if_pos hd]
 rw [VB (k := k + 1) hx]
 show 1 + Qbi p j 0 + (WS p way + (1 + rem x part (k + 1))) < _
 omega)
theorem GR {p : List Pt} {r : List (Nat × Nat)} {q : Nat × Nat} {part k : Nat} : Mono p ⟨r ++ [q], part, k, false⟩ [⟨r, q.1, q.2 + 1, false⟩] := Kr (by
 rw [KS, KS, Kx]
 omega)
noncomputable def QdW (p : List Pt) (l : Ln) : Option Nat := if YU l = true then (p.map (·.1)).findIdx? (· == l.getD 1 "") else none
inductive Nx (p : List Pt) : Spt → List Spt → Prop where
 | head {way : List (Nat × Nat)} {part k en : Nat} {x : Pt} {l : Ln} (hx : p[part]? = some x) (hl : x.2[k]? = some l) (hc : cdL l = .ag) (B : Beh (x.2.map cdL) k .en en) : Nx p ⟨way, part, k, true⟩ [⟨way, part, en + 1, false⟩, ⟨way, part, k + 1, false⟩]
 | fin0 {way : List (Nat × Nat)} {part k : Nat} {x : Pt} (hw : way = []) (hx : p[part]? = some x) (hl : x.2[k]? = none) : Nx p ⟨way, part, k, false⟩ []
 | fin {way r : List (Nat × Nat)} {q : Nat × Nat} {part k : Nat} {x : Pt} (hw : way = r ++ [q]) (hx : p[part]? = some x) (hl : x.2[k]? = none) : Nx p ⟨way, part, k, false⟩ [⟨r, q.1, q.2 + 1, false⟩]
 | ei {way : List (Nat × Nat)} {part k md : Nat} {x : Pt} {l : Ln} (hx : p[part]? = some x) (hl : x.2[k]? = some l) (hc : cdL l = .ei) (B : Beh (x.2.map cdL) k .oo md) : Nx p ⟨way, part, k, false⟩ [⟨way, part, k + 1, false⟩, ⟨way, part, md + 1, false⟩]
 | ag {way : List (Nat × Nat)} {part k : Nat} {x : Pt} {l : Ln} (hx : p[part]? = some x) (hl : x.2[k]? = some l) (hc : cdL l = .ag) : Nx p ⟨way, part, k, false⟩ [⟨way, part, k, true⟩]
 | oo {way : List (Nat × Nat)} {part k en : Nat} {x : Pt} {l : Ln} (hx : p[part]? = some x) (hl : x.2[k]? = some l) (hc : cdL l = .oo) (B : Beh (x.2.map cdL) k .en en) : Nx p ⟨way, part, k, false⟩ [⟨way, part, en + 1, false⟩]
 | enA {way : List (Nat × Nat)} {part k fs : Nat} {x : Pt} {l l' : Ln} (hx : p[part]? = some x) (hl : x.2[k]? = some l) (hc : cdL l = .en) (A : Ahd (x.2.map cdL) k fs) (hf : x.2[fs]? = some l') (hf' : cdL l' = .ag) : Nx p ⟨way, part, k, false⟩ [⟨way, part, fs, true⟩]
 | enE {way : List (Nat × Nat)} {part k fs : Nat} {x : Pt} {l l' : Ln} (hx : p[part]? = some x) (hl : x.2[k]? = some l) (hc : cdL l = .en) (A : Ahd (x.2.map cdL) k fs) (hf : x.2[fs]? = some l') (hf' : cdL l' = .ei) : Nx p ⟨way, part, k, false⟩ [⟨way, part, k + 1, false⟩]
 | dd {way : List (Nat × Nat)} {part k j : Nat} {x : Pt} {l : Ln} (hx : p[part]? = some x) (hl : x.2[k]? = some l) (hc : cdL l = .ot) (hd : YU l = true) (hj : QdW p l = some j) : Nx p ⟨way, part, k, false⟩ [⟨way ++ [(part, k)], j, 0, false⟩]
 | ot {way : List (Nat × Nat)} {part k : Nat} {x : Pt} {l : Ln} (hx : p[part]? = some x) (hl : x.2[k]? = some l) (hc : cdL l = .ot) (hd : YU l = false) : Nx p ⟨way, part, k, false⟩ [⟨way, part, k + 1, false⟩]
end My

namespace My
open PySem PySem.Spec PyProof.Rows L2 Mi My3 My4
@[simp] theorem QhU {qs : List (Nat × Nat)} : JU (qs.map KJ) = true := Jk _ QeT
@[simp] theorem QiY {α : Type} {a : List α} {x : α} : KY (a ++ [x]) none (some (-1)) = a := by
 unfold KY
 have h1 : HT.sIx (a ++ [x]).length 0 none = 0 := HT.sIx_none _ _
 have h2 : HT.sIx (a ++ [x]).length (a ++ [x]).length (some (-1)) = a.length := by
  unfold HT.sIx
  simp
  omega
 rw [h1, h2]
 simp
theorem Qh1 (w : List (Nat × Nat)) (h : w ≠ []) : ∃ r q, w = r ++ [q] := ⟨w.dropLast, w.getLast h, (List.dropLast_concat_getLast h).symm⟩
noncomputable def Yd (p : List Pt) (s : Spt) (L : List Spt) : Prop := (∀ t ∈ L, SV p t ∧ SW t) ∧ (Mono p s L ∧ Nx p s L) ∧ (∀ h : MH, Zj [ZX p, Qp s] h = some (.lst (L.map Qp), h)) ∧ ∀ h : MH, QL [ZX p, Jr p, Qp s] h = some (.lst (L.map Qp), h)
theorem QdE {p : List Pt} {way : List (Nat × Nat)} {part k : Nat} {x : Pt} (hw : ∀ q ∈ way, ∃ x, p[q.1]? = some x ∧ q.2 < x.2.length) (hx : p[part]? = some x) (hk : k ≤ x.2.length) {k' : Nat} {b' : Bool} (hs2 : SW ⟨way, part, k', b'⟩) : SV p ⟨way, part, k, false⟩ ∧ SW ⟨way, part, k, false⟩ := ⟨⟨⟨x, hx, hk, by simp⟩, hw⟩, ⟨hs2.up, hs2.le⟩⟩
theorem bN {p : List Pt} {s : Spt} {L : List Spt} {h : MH} (e : Zh [ZX p, Jr p, Qp s] [] = some (.lst (L.map Qp), [])) : QL [ZX p, Jr p, Qp s] h = some (.lst (L.map Qp), h) := Q6 (g := []) (by simp) e (by simp)
theorem bP {p : List Pt} {s : Spt} {L : List Spt} {h : MH} (e : Q7 [ZX p, Qp s] [] = some (.lst (L.map Qp), [])) : Zj [ZX p, Qp s] h = some (.lst (L.map Qp), h) := Q6 (g := []) (by simp) e (by simp)
theorem bI {ls : List Ln} {s : Spt} {L : List Spt} {h : MH} (e : Zv [.tup (ls.map QO), Qp s] [] = some (.lst (L.map Qp), [])) : Zc [.tup (ls.map QO), Qp s] h = some (.lst (L.map Qp), h) := Q6 (g := []) (by simp) e (by simp)
theorem Qbv {p : List Pt} {bs ws : List Str} {way : List (Nat × Nat)} {part k : Nat} (hg : GoodP 700 bs ws p) (hs : SV p ⟨way, part, k, true⟩) (hs2 : SW ⟨way, part, k, true⟩) : ∃ L, L.length ≤ 2 ∧ Yd p ⟨way, part, k, true⟩ L := by
 obtain ⟨x, hx, hk, hh⟩ := hs.ex
 have hw := hs.way
 simp only at hx hk hw
 obtain ⟨r, hr⟩ := hh rfl
 simp only at hr
 have hm := List.mem_iff_getElem?.mpr ⟨part, hx⟩
 have hok := hg.ok part x hx
 have hne : ∀ l ∈ x.2, ∃ y r, l = y :: r := fun l hl => VP (hok l hl)
 have hsz := hg.sz x hm
 have F := WC (hg.bal x hm)
 rw [List.length_map] at F
 obtain ⟨t, md, en, h1, h2, h3⟩ := F.ag k (by rw [List.getElem?_map, hr]; show some (cd "again") = _; rw [XB])
 have hen : en < x.2.length := by have := (List.getElem?_eq_some_iff.mp h3.at_).1; simpa using this
 have hkl := (List.getElem?_eq_some_iff.mp hr).1
 have ee : ∀ h, ZB [.tup (x.2.map QO), .int k] h = some (.int en, h) := fun h => Qdk hne (by omega) h3
 have ep := KC hx
 have er := Qbc hx
 have eb : atI ((bk x).rws.map (rv (bk x))) (k : Int) = some (.lst [.int k, .int md, .int en]) := UO h1 h2
 have hlt : k < en := h3.lt
 refine ⟨[⟨way, part, en + 1, false⟩, ⟨way, part, k + 1, false⟩], by simp, ?_, ⟨UV (show en + 1 ≠ k + 1 by omega), .head hx hr XB h3⟩, fun h => ?_, fun h => ?_⟩
 ·intro u hu
  simp at hu
  rcases hu with rfl | rfl
  ·exact QdE hw hx (by omega) hs2
  ·exact QdE hw hx (by omega) hs2
 ·refine bP ?_
  simp [Q7, Zd, Qp, ep, ee]
 ·refine bN ?_
  simp [Zh, Zd, Qp, XA, Y9, ep, er, eb]
theorem Qcw {p : List Pt} {bs ws : List Str} {way : List (Nat × Nat)} {part k : Nat} {x : Pt} (hg : GoodP 700 bs ws p) (hs : SV p ⟨way, part, k, false⟩) (hs2 : SW ⟨way, part, k, false⟩) (hx : p[part]? = some x) (hk : k = x.2.length) : ∃ L, L.length ≤ 2 ∧ Yd p ⟨way, part, k, false⟩ L := by
 have hw := hs.way
 simp only at hw
 have ep := KC hx
 have en : ∀ h, ZP [ZX p, Qp ⟨way, part, k, false⟩] h = some (.non, h) := fun h => Qae hx (.inr hk)
 simp only [Qp] at en
 by_cases hz : way = []
 ·subst hz
  have e1 : ∀ h, ZI [Qp ⟨[], part, k, false⟩] h = some (.lst [], h) := fun h => by
   refine Q6 (g := []) (by simp) ?_ (by simp)
   simp [JS, Zd, Qp]
  simp only [Qp] at e1
  refine ⟨[], by simp, by simp, ⟨Qcq, .fin0 rfl hx (List.getElem?_eq_none (by omega))⟩, fun h => ?_, fun h => ?_⟩
  ·refine bP ?_
   simp at en e1
   simp [Q7, Zd, Qp, ep, en, e1]
  ·refine bN ?_
   simp [Zh, Zd, Qp, XA, Y9, ep, hk]
 ·obtain ⟨r, q, rfl⟩ := Qh1 way hz
  obtain ⟨y, hy, hyl⟩ := hw q (by simp)
  have e1 : ∀ h, ZI [Qp ⟨r ++ [q], part, k, false⟩] h = some (.lst [Qp ⟨r, q.1, q.2 + 1, false⟩], h) := fun h => by
   refine Q6 (g := []) (by simp) ?_ (by simp)
   simp [JS, Zd, Qp]
  simp only [Qp] at e1
  refine ⟨[⟨r, q.1, q.2 + 1, false⟩], by simp, ?_, ⟨GR, .fin rfl hx (List.getElem?_eq_none (by omega))⟩, fun h => ?_, fun h => ?_⟩
  ·intro u hu
   simp at hu
   subst hu
   exact ⟨⟨⟨y, hy, by show q.2 + 1 ≤ _; omega, by simp⟩, fun z hz => hw z (by simp; exact .inl hz)⟩, ⟨fun j z hz => hs2.up j z (by show (r ++ [q])[j]? = _; rw [List.getElem?_append_left (List.getElem?_eq_some_iff.mp hz).1]; exact hz), hs2.up r.length q (by simp)⟩⟩
  ·refine bP ?_
   simp at en e1
   simp [Q7, Zd, Qp, ep, en, e1]
  ·refine bN ?_
   simp [Zh, Zd, Qp, XA, Y9, ep, hk]
theorem Uy {bs ws la : List Str} {x : Str} {r : List Str} (h : LineOk bs ws la (x :: r)) (hd : x = "do") : ∃ nm, r = [nm] ∧ nm ∈ la := by
 subst hd
 generalize hl : (("do" : Str) :: r) = l at h
 cases h with
 | plain h => cases h <;> simp at hl
 | «do» h => simp at hl; exact ⟨_, hl, h⟩
 | blk h => rcases h with rfl | rfl | rfl | rfl <;> simp at hl
 | back h => simp at hl
theorem QhE {x : Str} (h : cd x = .ag) : x = "again" := by
 rcases Jz (x := x) with ⟨rfl, hc⟩ | ⟨rfl, hc⟩ | ⟨rfl, hc⟩ | ⟨rfl, hc⟩ | ⟨_, hc⟩
 ·rw [hc] at h; cases h
 ·rfl
 ·rw [hc] at h; cases h
 ·rw [hc] at h; cases h
 ·rw [hc] at h; cases h
theorem QdL {ns : List Str} {nm : Str} (h : nm ∈ ns) : ∃ j, ns.findIdx? (· == nm) = some j ∧ j < ns.length := by
 cases e : ns.findIdx? (· == nm) with
 | none =>
  rw [List.findIdx?_eq_none_iff] at e
  have := e nm h
  simp at this
 | some j =>
  refine ⟨j, rfl, ?_⟩
  rw [List.findIdx?_eq_some_iff_getElem] at e
  exact e.1
theorem QbC {fin : List W → MH → Option (W × MH)} {items : List W} {b : MG} {me : ME} {h : MH} (P : MSt → Prop) (f : W → W) : ∀ (rest acc : List W) (τ : MSt), P τ → (∀ w ∈ rest, ∀ τ, P τ → ∃ τ1, b w τ h = some τ1 ∧ P τ1 ∧ me τ1 h = some (f w, h)) → acc.length + rest.length ≤ sizeLine → ZU fin items none b Ku me rest acc τ h = fin (acc ++ rest.map f) h
 | [], acc, τ, _, _, _ => by unfold ZU; rw [if_pos (Q4 _ _)]; simp
 | w :: rest, acc, τ, hp, hs, hl => by
  have hl' : acc.length + (rest.length + 1) ≤ sizeLine := by simpa using hl
  obtain ⟨τ1, e1, p1, e2⟩ := hs w List.mem_cons_self τ hp
  unfold ZU
  rw [if_pos (Q4 _ _), e1, Option.bind_some]
  show (some (true, h)).bind _ = _
  rw [Option.bind_some]
  simp only [e2, Option.bind_some]
  rw [if_pos (by omega), QbC P f rest (acc ++ [f w]) τ1 p1 (fun x hx => hs x (List.mem_cons_of_mem _ hx)) (by simp; omega)]
  simp
theorem Qf7 {fin : List W → MH → Option (W × MH)} {mi : MI} {cp : List (Option Nat)} {b : MG} {me : ME} {σ : MSt} {h : MH} {items : List W} (P : MSt → Prop) (f : W → W) (hi : mi σ h = some (items, none, h)) (hc : P (QaQ cp σ)) (hs : ∀ w ∈ items, ∀ τ, P τ → ∃ τ1, b w τ h = some τ1 ∧ P τ1 ∧ me τ1 h = some (f w, h)) (hl : items.length ≤ sizeLine) : Jd fin mi cp b Ku me σ h = fin (items.map f) h := by
 unfold Jd
 rw [hi, Option.bind_some]
 rw [QbC P f items [] _ hc hs (by simpa using hl)]
 simp
noncomputable def QgL : W → W
 | .tup (a :: _) => a
 | w => w
theorem KD {ns : List Str} {nm : Str} {m j : Nat} (hn : ns.Nodup) (h : nm ∈ ns.drop (m + 1)) (hj : ns.findIdx? (· == nm) = some j) : m + 1 ≤ j := by
 obtain ⟨i, hi⟩ := List.mem_iff_getElem?.mp h
 rw [List.getElem?_drop] at hi
 obtain ⟨hil, hie⟩ := List.getElem?_eq_some_iff.mp hi
 rw [List.findIdx?_eq_some_iff_getElem] at hj
 obtain ⟨hjl, hje, _⟩ := hj
 simp at hje
 have hp := List.pairwise_iff_getElem.mp hn
 by_cases hlt : j < m + 1 + i
 ·exact absurd (hje.trans hie.symm) (hp j (m + 1 + i) hjl hil hlt)
 ·omega
noncomputable abbrev nS (p : List Pt) (way : List (Nat × Nat)) (part k : Nat) (x : Pt) (y : Str) : MSt := [some (ZX p), some (Jr p), some (.tup [.tup (way.map KJ), .int part, .int k, .bl false]), some (.tup (way.map KJ)), some (.int part), some (.int k), some (.bl false), some (.tup (x.2.map QO)), some (.str y)]
noncomputable abbrev iS (way : List (Nat × Nat)) (part k : Nat) (x : Pt) (y : Str) : MSt := [some (.tup (x.2.map QO)), some (.tup [.tup (way.map KJ), .int part, .int k, .bl false]), some (.int k), some (.str y)]
theorem QaO {p : List Pt} {bs ws : List Str} {way : List (Nat × Nat)} {part k : Nat} {x : Pt} {l : Ln} (hg : GoodP 700 bs ws p) (hs : SV p ⟨way, part, k, false⟩) (hs2 : SW ⟨way, part, k, false⟩) (hx : p[part]? = some x) (hl : x.2[k]? = some l) : ∃ L, L.length ≤ 2 ∧ Yd p ⟨way, part, k, false⟩ L := by
 have hw := hs.way
 simp only at hw
 have hm := List.mem_iff_getElem?.mpr ⟨part, hx⟩
 have hok := hg.ok part x hx
 have hne : ∀ l ∈ x.2, ∃ y r, l = y :: r := fun l hl => VP (hok l hl)
 have hsz := hg.sz x hm
 have F := WC (hg.bal x hm)
 rw [List.length_map] at F
 have hkl := (List.getElem?_eq_some_iff.mp hl).1
 obtain ⟨y, r, rfl⟩ := hne l (List.mem_iff_getElem?.mpr ⟨k, hl⟩)
 have hcd : (x.2.map cdL)[k]? = some (cd y) := by rw [List.getElem?_map, hl]; rfl
 have ep := KC hx
 have er := Qbc hx
 have el := W4 hl
 have eline : ∀ h, ZP [ZX p, Qp ⟨way, part, k, false⟩] h = some (QO (y :: r), h) := fun h => QaI hx rfl hl
 simp only [Qp] at eline
 have nk : ¬ (k : Int) = x.2.length := by omega
 have nk' : ¬ k = x.2.length := by omega
 have nl : Wg (QO (y :: r)) = false := rfl
 have gv : ∀ m, m ≤ x.2.length → SV p ⟨way, part, m, false⟩ ∧ SW ⟨way, part, m, false⟩ := fun m hm => QdE hw hx hm hs2
 have one : ∀ (u : Spt), (SV p u ∧ SW u) → ∀ t ∈ [u], SV p t ∧ SW t := fun u hu t ht => by rw [List.mem_singleton.mp ht]; exact hu
 -- what next_in_part tells
 have up : y ≠ "do" → ∀ (L : List Spt), (∀ h, Zc [.tup (x.2.map QO), .tup [.tup (way.map KJ), .int part, .int k, .bl false]] h = some (.lst (L.map Qp), h)) → ∀ h, Zj [ZX p, Qp ⟨way, part, k, false⟩] h = some (.lst (L.map Qp), h) := fun hd L e h => by
  refine bP ?_
  simp [Q7, Zd, Qp, ep, eline, nl, hd, e]
 have pl : Zh [ZX p, Jr p, Qp ⟨way, part, k, false⟩] [] = Qen (Zf (nS p way part k x y) []) := by
  simp [Zh, Zd, Qp, XA, Y9, ep, el, nk, nk']
 have pn : Zv [.tup (x.2.map QO), Qp ⟨way, part, k, false⟩] [] = Qen (Q2 (iS way part k x y) []) := by
  simp [Zv, Zd, Qp, el]
 rcases Jz (x := y) with ⟨rfl, hc⟩ | ⟨rfl, hc⟩ | ⟨rfl, hc⟩ | ⟨rfl, hc⟩ | ⟨⟨n1, n2, n3, n4⟩, hc⟩
 ·obtain ⟨t, md, en, h1, h2, h3⟩ := F.ei k (by rw [hcd, hc])
  have hmd : md < x.2.length := by have := (List.getElem?_eq_some_iff.mp h3.at_).1; simpa using this
  have eo : ∀ h, VF [.tup (x.2.map QO), .int k] h = some (.int md, h) := fun h => Qh6 hne (by omega) h3
  have eb : atI ((bk x).rws.map (rv (bk x))) (k : Int) = some (.lst [.int k, .int md, .int en]) := UO h1 h2
  have hlt : k < md := h3.lt
  refine ⟨[⟨way, part, k + 1, false⟩, ⟨way, part, md + 1, false⟩], by simp, ?_, ⟨UV (show k + 1 ≠ md + 1 by omega), .ei hx hl hc h3⟩, up (by simp) _ fun h => ?_, fun h => ?_⟩
  ·intro u hu
   simp at hu
   rcases hu with rfl | rfl
   ·exact gv _ (by omega)
   ·exact gv _ (by omega)
  ·refine bI (s := ⟨way, part, k, false⟩) ?_
   rw [pn]
   simp [Q2, Qp, eo]
  ·refine bN ?_
   rw [pl]
   simp [Zf, Qp, er, eb]
 ·refine ⟨[⟨way, part, k, true⟩], by simp, one _ ⟨⟨⟨x, hx, by show k ≤ _; omega, fun _ => ⟨r, hl⟩⟩, hw⟩, ⟨hs2.up, hs2.le⟩⟩, ⟨WO, .ag hx hl hc⟩, up (by simp) _ fun h => ?_, fun h => ?_⟩
  ·refine bI (s := ⟨way, part, k, false⟩) ?_
   rw [pn]
   simp [Q2, Qp]
  ·refine bN ?_
   rw [pl]
   simp [Zf, Qp]
 ·obtain ⟨t, fs, en, h1, h2, h3⟩ := F.oo k (by rw [hcd, hc])
  have hen : en < x.2.length := by have := (List.getElem?_eq_some_iff.mp h3.at_).1; simpa using this
  have ee : ∀ h, ZB [.tup (x.2.map QO), .int k] h = some (.int en, h) := fun h => Qdk hne (by omega) h3
  have eb : atI ((bk x).rws.map (rv (bk x))) (k : Int) = some (.lst [.int fs, .int k, .int en]) := UO h1 h2
  have hlt : k < en := h3.lt
  refine ⟨[⟨way, part, en + 1, false⟩], by simp, one _ (gv _ (by omega)), ⟨YS hx hkl (by omega), .oo hx hl hc h3⟩, up (by simp) _ fun h => ?_, fun h => ?_⟩
  ·refine bI (s := ⟨way, part, k, false⟩) ?_
   rw [pn]
   simp [Q2, Qp, ee]
  ·refine bN ?_
   rw [pl]
   simp [Zf, Qp, er, eb]
 ·obtain ⟨t, fs, md, h1, h2, h3, h4⟩ := F.en k (by rw [hcd, hc])
  have eh : ∀ h, Je [.tup (x.2.map QO), .int k] h = some (.int fs, h) := fun h => Qes hne (by omega) (by omega) h3
  have eb : atI ((bk x).rws.map (rv (bk x))) (k : Int) = some (.lst [.int fs, .int md, .int k]) := UO h1 h2
  have hfl : fs < x.2.length := by have := h3.lt; omega
  obtain ⟨z, r', hz⟩ := hne x.2[fs] (List.getElem_mem hfl)
  have hz' : x.2[fs]? = some (z :: r') := by rw [List.getElem?_eq_getElem hfl, hz]
  have ef := W4 hz'
  have hcz : (x.2.map cdL)[fs]? = some (cd z) := by rw [List.getElem?_map, hz']; rfl
  by_cases ha : z = "again"
  ·subst ha
   refine ⟨[⟨way, part, fs, true⟩], by simp, one _ ⟨⟨⟨x, hx, by show fs ≤ _; omega, fun _ => ⟨r', hz'⟩⟩, hw⟩, ⟨hs2.up, hs2.le⟩⟩, ⟨WO, .enA hx hl hc h3 hz' XB⟩, up (by simp) _ fun h => ?_, fun h => ?_⟩
   ·refine bI (s := ⟨way, part, k, false⟩) ?_
    rw [pn]
    simp [Q2, Qp, eh, ef]
   ·refine bN ?_
    rw [pl]
    simp [Zf, Qp, er, eb, ef]
  ·refine ⟨[⟨way, part, k + 1, false⟩], by simp, one _ (gv _ (by omega)), ⟨YS hx hkl (by omega), .enE hx hl hc h3 hz' (by rcases h4 with q | q <;> rw [hcz] at q <;> first | exact Option.some.inj q | exact absurd (QhE (Option.some.inj q)) ha)⟩, up (by simp) _ fun h => ?_, fun h => ?_⟩
   ·refine bI (s := ⟨way, part, k, false⟩) ?_
    rw [pn]
    simp [Q2, Qp, eh, ef, ha]
   ·refine bN ?_
    rw [pl]
    simp [Zf, Qp, er, eb, ef, ha]
 ·by_cases hd : y = "do"
  ·obtain ⟨nm, rfl, hnm⟩ := Uy (hok _ (List.mem_iff_getElem?.mpr ⟨k, hl⟩)) hd
   subst hd
   obtain ⟨j, hj, hjl⟩ := QdL (List.mem_of_mem_drop hnm)
   have hpj := KD hg.nd hnm hj
   have hlen := hg.len
   have en : ∀ h, Zk [ZX p, .str nm] h = some (.int j, h) := fun h => Qbn hj (by omega)
   have hjl' : j < p.length := by simpa using hjl
   have s1 : way.length + 1 ≤ sizeLine := X0 (by have := hs2.le; have := (List.getElem?_eq_some_iff.mp hx).1; simp only at *; omega)
   have ec : ∀ (σ : MSt), σ[0]? = some (some (ZX p)) → Jd V4 (Ja (Qg 0)) [none, none] (XA [0, 1]) Ku (Qg 0) σ [] = V4 ((p.map JV).map QgL) [] := fun σ h0 => by
    refine Qf7 (fun τ => τ.length = 2) QgL (by simp [Ja, Qg, h0, GX, ZX]) rfl (fun w hw τ hτ => ?_) (by simp; exact X0 (by omega))
    obtain ⟨z, _, rfl⟩ := List.mem_map.mp hw
    match τ, hτ with
    | [a, b], _ => exact ⟨[some (.str z.1), some (.tup (z.2.map QO))], rfl, rfl, rfl⟩
   have hmm : (p.map JV).map QgL = (p.map (·.1)).map W.str := by simp [JV, QgL, Function.comp_def]
   have ei : XR (.lst ((p.map (·.1)).map W.str)) [.str nm] [] = some (.int j, []) := by
    unfold XR
    simp only [lsW, Option.bind_some]
    rw [V0 [] (.str nm) 40 rfl (by simp [dep]), V8 [] _ 40 Xy (Nat.le_trans UN (by decide)), Option.bind_some, Option.bind_some, Qat hj]
    rfl
   rw [hmm] at ec
   rw [List.map_map] at ec ei
   simp only [V4] at ec
   refine ⟨[⟨way ++ [(part, k)], j, 0, false⟩], by simp, one _ ⟨⟨⟨p[j], List.getElem?_eq_getElem hjl', Nat.zero_le _, by simp⟩, ?_⟩, ?_⟩, ⟨QdG (U6 hg) hx hl (by show (("do" : Str) == "do") = true; decide) hpj, .dd hx hl hc (by show (("do" : Str) == "do") = true; decide) (by show (if YU (["do", nm] : Ln) = true then _ else none) = some j; rw [if_pos (by show (("do" : Str) == "do") = true; decide)]; exact hj)⟩, fun h => ?_, fun h => ?_⟩
   ·intro q hq
    simp at hq
    rcases hq with hq | rfl
    ·exact hw q hq
    ·exact ⟨x, hx, hkl⟩
   ·refine ⟨fun i q hq => ?_, by have := hs2.le; simp at this ⊢; omega⟩
    have hil := (List.getElem?_eq_some_iff.mp hq).1
    simp at hil
    have hle := hs2.le
    simp only at hle hq
    by_cases hi : i < way.length
    ·rw [List.getElem?_append_left hi] at hq
     exact hs2.up i q hq
    ·have : i = way.length := by omega
     subst this
     simp at hq
     subst hq
     exact hle
   ·refine bP ?_
    simp [Q7, Zd, Qp, ep, eline, nl, en, s1, KJ]
   ·refine bN ?_
    rw [pl]
    simp [Zf, Qp, s1, KJ, ep, el]
    rw [ec _ rfl]
    simp [ei]
  ·refine ⟨[⟨way, part, k + 1, false⟩], by simp, one _ (gv _ (by omega)), ⟨YS hx hkl (by omega), .ot hx hl hc (by show (y == ("do" : Str)) = false; simpa using hd)⟩, up hd _ fun h => ?_, fun h => ?_⟩
   ·refine bI (s := ⟨way, part, k, false⟩) ?_
    rw [pn]
    simp [Q2, Qp, n1, n2, n3, n4]
   ·refine bN ?_
    rw [pl]
    simp [Zf, Qp, n1, n2, n3, n4, hd]
theorem Qd5 {p : List Pt} {bs ws : List Str} {s : Spt} (hg : GoodP 700 bs ws p) (hs : SV p s) (hs2 : SW s) : ∃ L, L.length ≤ 2 ∧ Yd p s L := by
 obtain ⟨way, part, k, head⟩ := s
 cases head with
 | true => exact Qbv hg hs hs2
 | false =>
  obtain ⟨x, hx, hk, _⟩ := hs.ex
  simp only at hx hk
  by_cases z : k = x.2.length
  ·exact Qcw hg hs hs2 hx z
  ·exact QaO hg hs hs2 hx (List.getElem?_eq_getElem (by omega))
end My

namespace My
open PySem PySem.Spec PyProof.Rows L2 Mi My3 My4
theorem UW : ∀ (N : Nat) (l : List Nat), l.Nodup → (∀ x ∈ l, x < N) → l.length ≤ N
 | 0, [], _, _ => Nat.le_refl _
 | 0, x :: l, _, h => absurd (h x List.mem_cons_self) (by omega)
 | N + 1, l, hn, h => by
  have h1 := UW N (l.erase N) (hn.erase N) (fun x hx => by
   have := h x (List.mem_of_mem_erase hx)
   have := ((hn.mem_erase_iff).mp hx).1
   omega)
  rw [List.length_erase] at h1
  split at h1 <;> omega
section
variable {N : Nat} {bs ws : List Str} {p : List Pt}
theorem Qgo (hg : GoodP N bs ws p) {i j : Nat} {x : Pt} {l : Ln} (hx : p[i]? = some x) (hl : l ∈ x.2) (hd : QdW p l = some j) : i + 1 ≤ j ∧ YU l = true := by
 unfold QdW at hd
 split at hd
 ·rename_i hdo
  obtain ⟨y, r, rfl⟩ := VP (hg.ok i x hx l hl)
  obtain ⟨nm, rfl, hnm⟩ := Uy (hg.ok i x hx _ hl) (by simpa [YU] using hdo)
  exact ⟨KD hg.nd hnm hd, hdo⟩
 ·cases hd
inductive Chn (p : List Pt) : List (Nat × Nat) → Nat → Prop where
 | nil : Chn p [] 0
 | snoc {r way : List (Nat × Nat)} {i k j : Nat} {x : Pt} {l : Ln} (hw : way = r ++ [(i, k)]) (c : Chn p r i) (hx : p[i]? = some x) (hl : x.2[k]? = some l) (hj : QdW p l = some j) : Chn p way j
structure Rc (p : List Pt) (s : Spt) : Prop where
 v : SV p s
 w : SW s
 c : Chn p s.way s.part
theorem QfD {s : Spt} {L : List Spt} (h : Nx p s L) (c : Chn p s.way s.part) : ∀ t ∈ L, Chn p t.way t.part := by
 cases h with
 | head => intro t ht; simp at ht; rcases ht with rfl | rfl <;> exact c
 | fin0 => intro t ht; simp at ht
 | @fin way r q part k x hw hx hl =>
  intro t ht
  simp at ht
  subst ht
  cases c with
  | nil => simp at hw
  | @snoc r' _ i k0 _ x' l' hw' c' hx' hl' hj' =>
   rw [hw] at hw'
   obtain ⟨rfl, e⟩ := List.append_inj' hw' rfl
   cases e
   exact c'
 | ei => intro t ht; simp at ht; rcases ht with rfl | rfl <;> exact c
 | ag => intro t ht; simp at ht; subst ht; exact c
 | oo => intro t ht; simp at ht; subst ht; exact c
 | enA => intro t ht; simp at ht; subst ht; exact c
 | enE => intro t ht; simp at ht; subst ht; exact c
 | dd hx hl hc hd hj => intro t ht; simp at ht; subst ht; exact .snoc rfl c hx hl hj
 | ot => intro t ht; simp at ht; subst ht; exact c
theorem Ki {x : Pt} {i j k : Nat} (h : k ≤ j) (hj : j ≤ x.2.length) : rem x i j ≤ rem x i k := by
 by_cases e : k = j
 ·rw [e]; exact Nat.le_refl _
 ·exact Nat.le_of_lt (Yj (by omega) (by omega))
inductive Vl (p : List Pt) : Nat → List (Nat × Nat) → Nat → Nat → Nat → Prop where
 | here {i k : Nat} {x : Pt} (hx : p[i]? = some x) (hk : k ≤ x.2.length) : Vl p i [] i k (1 + rem x i k)
 | down {i k0 j part k v : Nat} {x : Pt} {l : Ln} {w : List (Nat × Nat)} (hx : p[i]? = some x) (hl : x.2[k0]? = some l) (hj : QdW p l = some j) (a : Vl p j w part k v) : Vl p i ((i, k0) :: w) part k (v + (1 + rem x i (k0 + 1)))
theorem QfA (hg : GoodP N bs ws p) (hr : RL p) {i part k v : Nat} {w : List (Nat × Nat)} (a : Vl p i w part k v) : 1 ≤ v ∧ v ≤ 1 + Wt i := by
 induction a with
 | @here i k x hx hk =>
  have := hr i k
  rw [VB hx] at this
  omega
 | @down i k0 j part k v x l w hx hl hj a ih =>
  obtain ⟨h1, h2⟩ := Qgo hg hx (List.mem_iff_getElem?.mpr ⟨k0, hl⟩) hj
  have h3 := YT h1
  have h4 := hr i k0
  rw [VB hx, Xr hl, cst, if_pos h2] at h4
  omega
theorem Qfn (hg : GoodP N bs ws p) (hr : RL p) {i part k v : Nat} {w : List (Nat × Nat)} (a : Vl p i w part k v) : ∀ {part' k' v' : Nat} {w' : List (Nat × Nat)}, Vl p i w' part' k' v' → v = v' → w = w' ∧ part = part' ∧ k = k' := by
 have bnd : ∀ {i k0 j part k v : Nat} {x : Pt} {l : Ln} {w : List (Nat × Nat)}, p[i]? = some x → x.2[k0]? = some l → QdW p l = some j → Vl p j w part k v → rem x i (k0 + 1) + 2 ≤ v + (1 + rem x i (k0 + 1)) ∧ v + (1 + rem x i (k0 + 1)) ≤ rem x i k0 := by
  intro i k0 j part k v x l w hx hl hj a
  obtain ⟨h1, h2⟩ := Qgo hg hx (List.mem_iff_getElem?.mpr ⟨k0, hl⟩) hj
  have h3 := YT h1
  obtain ⟨b1, b2⟩ := QfA hg hr a
  rw [Xr hl, cst, if_pos h2]
  omega
 have mix : ∀ {i k k0 j part' k' v : Nat} {x : Pt} {l : Ln} {w : List (Nat × Nat)}, p[i]? = some x → k ≤ x.2.length → x.2[k0]? = some l → QdW p l = some j → Vl p j w part' k' v → 1 + rem x i k = v + (1 + rem x i (k0 + 1)) → False := by
  intro i k k0 j part' k' v x l w hx hk hl hj a e
  obtain ⟨b1, b2⟩ := bnd hx hl hj a
  have hkl := (List.getElem?_eq_some_iff.mp hl).1
  by_cases z : k ≤ k0
  ·have := Ki (x := x) (i := i) z (by omega); omega
  ·have := Ki (x := x) (i := i) (show k0 + 1 ≤ k by omega) hk; omega
 induction a with
 | @here i k x hx hk =>
  intro part' k' v' w' a' e
  cases a' with
  | @here _ _ x' hx' hk' =>
   rw [hx] at hx'; cases hx'
   refine ⟨rfl, rfl, ?_⟩
   rcases Nat.lt_trichotomy k k' with z | z | z
   ·have := Yj (x := x) (i := i) z (by omega); omega
   ·exact z
   ·have := Yj (x := x) (i := i) z (by omega); omega
  | @down _ k1 j1 _ _ v1 x' l' w1 hx' hl' hj' a1 =>
   rw [hx] at hx'; cases hx'
   exact (mix hx hk hl' hj' a1 e).elim
 | @down i k0 j part k v x l w hx hl hj a ih =>
  intro part' k' v' w' a' e
  cases a' with
  | @here _ _ x' hx' hk' =>
   rw [hx] at hx'; cases hx'
   exact (mix hx hk' hl hj a e.symm).elim
  | @down _ k1 j1 _ _ v1 x' l' w1 hx' hl' hj' a1 =>
   rw [hx] at hx'; cases hx'
   obtain ⟨b1, b2⟩ := bnd hx hl hj a
   obtain ⟨c1, c2⟩ := bnd hx hl' hj' a1
   have k1l := (List.getElem?_eq_some_iff.mp hl).1
   have k2l := (List.getElem?_eq_some_iff.mp hl').1
   have : k0 = k1 := by
    rcases Nat.lt_trichotomy k0 k1 with z | z | z
    ·have := Ki (x := x) (i := i) (show k0 + 1 ≤ k1 from z) (by omega); omega
    ·exact z
    ·have := Ki (x := x) (i := i) (show k1 + 1 ≤ k0 from z) (by omega); omega
   subst this
   rw [hl] at hl'; cases hl'
   rw [hj] at hj'; cases hj'
   obtain ⟨rfl, rfl, rfl⟩ := ih a1 (by omega)
   exact ⟨rfl, rfl, rfl⟩
theorem Qdr {way : List (Nat × Nat)} {i : Nat} (c : Chn p way i) : ∀ {w : List (Nat × Nat)} {part k v : Nat}, Vl p i w part k v → Vl p 0 (way ++ w) part k (v + WS p way) := by
 induction c with
 | nil => intro w part k v a; simpa [WS] using a
 | @snoc r way i k0 j x l hw c hx hl hj ih =>
  intro w part k v a
  have := ih (.down hx hl hj a)
  rw [hw, Kx, VB hx]
  rw [List.append_assoc, List.cons_append, List.nil_append]
  rw [show v + (WS p r + (1 + rem x i (k0 + 1))) = v + (1 + rem x i (k0 + 1)) + WS p r by omega]
  exact this
noncomputable def Qex (p : List Pt) (s : Spt) : Nat := 2 * (1 + Qbi p s.part s.k + WS p s.way) + if s.head = true then 1 else 0
theorem Qci (hg : GoodP N bs ws p) (hr : RL p) {s s' : Spt} (h : Rc p s) (h' : Rc p s') (e : Qex p s = Qex p s') : s = s' := by
 obtain ⟨x, hx, hk, _⟩ := h.v.ex
 obtain ⟨x', hx', hk', _⟩ := h'.v.ex
 have a := Qdr h.c (.here hx hk)
 have a' := Qdr h'.c (.here hx' hk')
 unfold Qex at e
 rw [VB hx, VB hx'] at e
 have hh : s.head = s'.head := by
  cases z : s.head <;> cases z' : s'.head <;> rw [z, z'] at e <;> simp at e ⊢ <;> omega
 rw [hh] at e
 obtain ⟨e1, e2, e3⟩ := Qfn hg hr a a' (by omega)
 simp only [List.append_nil] at e1
 obtain ⟨w, q, k, b⟩ := s
 obtain ⟨w', q', k', b'⟩ := s'
 simp only at e1 e2 e3 hh
 subst e1 e2 e3 hh
 rfl
theorem QdN (hr : RL p) {s : Spt} (h2 : SW s) (hw : s.way.length ≤ 4) : Qex p s < 280010 := by
 have hp := hr s.part s.k
 have hp0 := Ga (i := s.part)
 have key : ∀ (j : Nat) (q : Nat × Nat), s.way[j]? = some q → 1 + Qbi p q.1 (q.2 + 1) ≤ 1 + Wt j := fun j q e => by
  have h1 := hr q.1 (q.2 + 1)
  have h3 := h2.up j q e
  cases j with
  | zero => have := Ga (i := q.1); show _ ≤ 1 + 65330; omega
  | succ j => have := YT (i := j) (q := q.1) h3; omega
 have hs : WS p s.way ≤ 71700 := by
  unfold WS
  generalize s.way = w at key hw
  match w, hw with
  | [], _ => simp
  | [a], _ =>
   have k0 := key 0 a rfl
   simp [Wt] at k0 ⊢; omega
  | [a, b], _ =>
   have k0 := key 0 a rfl
   have k1 := key 1 b rfl
   simp [Wt] at k0 k1 ⊢; omega
  | [a, b, c], _ =>
   have k0 := key 0 a rfl
   have k1 := key 1 b rfl
   have k2 := key 2 c rfl
   simp [Wt] at k0 k1 k2 ⊢; omega
  | [a, b, c, d], _ =>
   have k0 := key 0 a rfl
   have k1 := key 1 b rfl
   have k2 := key 2 c rfl
   have k3 := key 3 d rfl
   simp [Wt] at k0 k1 k2 k3 ⊢; omega
 unfold Qex
 split <;> omega
theorem QjE (hg : GoodP N bs ws p) {s : Spt} (h : Rc p s) : s.way.length ≤ 4 := by
 obtain ⟨x, hx, _⟩ := h.v.ex
 have h1 := (List.getElem?_eq_some_iff.mp hx).1
 have h2 := hg.len
 have h3 := h.w.le
 omega
theorem QcU (hg : GoodP N bs ws p) (hr : RL p) {L : List Spt} (hn : L.Nodup) (h : ∀ s ∈ L, Rc p s) : L.length ≤ 280010 := by
 have := UW 280010 (L.map (Qex p)) ?_ ?_
 ·rwa [List.length_map] at this
 ·rw [List.Nodup, List.pairwise_map]
  refine List.Pairwise.imp_of_mem (fun {a b} ha hb ne e => ne (Qci hg hr (h a ha) (h b hb) e)) hn
 ·intro x hx
  obtain ⟨s, hs, rfl⟩ := List.mem_map.mp hx
  exact QdN hr (h s hs).w (QjE hg (h s hs))
end
end My

namespace My
open PySem PySem.Spec PyProof.Rows L2 Mi My3 My4
noncomputable def trS (s : Spt) : Tr := .t [.t (s.way.map fun q => .t [.i q.1, .i q.2]), .i s.part, .i s.k, .i (if s.head then 1 else 0)]
theorem Qdg : ∀ (qs : List (Nat × Nat)), (qs.map KJ).mapM (YV 6) = some (qs.map fun q => Tr.t [.i q.1, .i q.2])
 | [] => rfl
 | q :: qs => by
  rw [List.map_cons, List.mapM_cons, Qdg qs]
  rfl
theorem Qce {s : Spt} : nrm (Qp s) = some (trS s) := by
 show YV 8 (.tup [.tup (s.way.map KJ), .int s.part, .int s.k, .bl s.head]) = _
 simp only [YV, List.mapM_cons, List.mapM_nil, Qdg]
 rfl
theorem QeP {a b : Spt} (h : trS a = trS b) : a = b := by
 obtain ⟨w, q, k, hd⟩ := a
 obtain ⟨w', q', k', hd'⟩ := b
 unfold trS at h
 simp only [Tr.t.injEq, List.cons.injEq, Tr.i.injEq, and_true] at h
 obtain ⟨h1, h2, h3, h4⟩ := h
 have e1 : w = w' := by
  refine List.map_inj_right (f := fun q : Nat × Nat => Tr.t [.i q.1, .i q.2]) (fun x y e => ?_) |>.mp h1
  simp only [Tr.t.injEq, List.cons.injEq, Tr.i.injEq, and_true] at e
  exact Prod.ext (Int.ofNat.inj e.1) (Int.ofNat.inj e.2)
 have e2 : q = q' := Int.ofNat.inj h2
 have e3 : k = k' := Int.ofNat.inj h3
 have e4 : hd = hd' := by cases hd <;> cases hd' <;> simp at h4 ⊢
 subst e1 e2 e3 e4
 rfl
theorem Qd7 {a b : Spt} (h : nrm (Qp a) = some (trS b)) : a = b := by
 rw [Qce] at h
 exact QeP (Option.some.inj h)
noncomputable instance sptDec : DecidableEq Spt := fun _ _ => Classical.propDecidable _
open Classical in
noncomputable def nx (p : List Pt) (s : Spt) : List Spt := if h : ∃ L, L.length ≤ 2 ∧ Yd p s L then h.choose else []
section
variable {bs ws : List Str} {p : List Pt}
theorem KW {s : Spt} (hg : GoodP 700 bs ws p) (hs : Rc p s) : (nx p s).length ≤ 2 ∧ Yd p s (nx p s) := by
 have h := Qd5 hg hs.v hs.w
 unfold nx
 rw [dif_pos h]
 exact h.choose_spec
theorem Qcx {s t : Spt} (hg : GoodP 700 bs ws p) (hs : Rc p s) (h : t ∈ nx p s) : Rc p t := by
 obtain ⟨_, h1, h2, _⟩ := KW hg hs
 exact ⟨(h1 t h).1, (h1 t h).2, QfD h2.2 hs.c t h⟩
noncomputable abbrev sp0 : Spt := ⟨[], 0, 0, false⟩
theorem rc0 (hg : GoodP 700 bs ws p) : Rc p sp0 := by
 have h0 : 0 < p.length := List.length_pos_iff.mpr hg.ne
 exact ⟨⟨⟨p[0], List.getElem?_eq_getElem h0, Nat.zero_le _, by simp⟩, by simp⟩, ⟨by simp, Nat.le_refl _⟩, .nil⟩
inductive Dfs (p : List Pt) : List Spt → List Spt → Nat → List Spt → Prop where
 | done {met : List Spt} : Dfs p met [] 0 met
 | skip {met st out : List Spt} {s : Spt} {n : Nat} (h : s ∈ met) (d : Dfs p met st n out) : Dfs p met (s :: st) (n + 1) out
 | add {met st out : List Spt} {s : Spt} {n : Nat} (h : s ∉ met) (d : Dfs p (met ++ [s]) (nx p s ++ st) n out) : Dfs p met (s :: st) (n + 1) out
theorem Qgk (hg : GoodP 700 bs ws p) : ∀ (m : Nat) (met st : List Spt), met.Nodup → (∀ s ∈ met, Rc p s) → (∀ s ∈ st, Rc p s) → 3 * (280010 - met.length) + st.length ≤ m → ∃ n out, Dfs p met st n out ∧ n ≤ m ∧ out.Nodup ∧ ∀ s ∈ out, Rc p s := by
 have hr := U6 hg
 intro m
 induction m with
 | zero =>
  intro met st hn h1 h2 hm
  have : st = [] := List.length_eq_zero_iff.mp (by omega)
  subst this
  exact ⟨0, met, .done, Nat.le_refl _, hn, h1⟩
 | succ m ih =>
  intro met st hn h1 h2 hm
  cases st with
  | nil => exact ⟨0, met, .done, Nat.zero_le _, hn, h1⟩
  | cons s st =>
   rw [List.length_cons] at hm
   have hs := h2 s List.mem_cons_self
   have h2' : ∀ t ∈ st, Rc p t := fun t ht => h2 t (List.mem_cons_of_mem _ ht)
   by_cases z : s ∈ met
   ·obtain ⟨n, out, d, hl, ho, hr⟩ := ih met st hn h1 h2' (by omega)
    exact ⟨n + 1, out, .skip z d, by omega, ho, hr⟩
   ·have hn' : (met ++ [s]).Nodup := by
     rw [List.nodup_append]
     exact ⟨hn, by simp, fun a ha b hb e => z (by rw [List.mem_singleton.mp hb] at e; rw [← e]; exact ha)⟩
    have h1' : ∀ t ∈ met ++ [s], Rc p t := fun t ht => by
     rcases List.mem_append.mp ht with q | q
     ·exact h1 t q
     ·rw [List.mem_singleton.mp q]; exact hs
    have few := QcU hg hr hn' h1'
    rw [List.length_append, List.length_singleton] at few
    have hx := (KW hg hs).1
    obtain ⟨n, out, d, hl, ho, hr⟩ := ih (met ++ [s]) (nx p s ++ st) hn' h1' (fun t ht => by
     rcases List.mem_append.mp ht with q | q
     ·exact Qcx hg hs q
     ·exact h2' t q) (by rw [List.length_append, List.length_append, List.length_singleton]; omega)
    exact ⟨n + 1, out, .add z d, by omega, ho, hr⟩
noncomputable def Kk (met : List Spt) : List (W × W) := met.map fun s => (Qp s, .bl true)
theorem QaJ {met : List Spt} {s : Spt} : (Y8 (Kk met) (trS s)).isSome = decide (s ∈ met) := by
 induction met with
 | nil => rfl
 | cons t met ih =>
  have h1 : nrm (Qp t) = some (trS t) := Qce
  by_cases e : t = s
  ·subst e
   simp [Kk, Y8, List.find?_cons, h1]
  ·have e' : ¬ nrm (Qp t) = some (trS s) := fun z => e (Qd7 z)
   have : Y8 (Kk (t :: met)) (trS s) = Y8 (Kk met) (trS s) := by simp only [Kk, Y8, List.map_cons, List.find?_cons, e', decide_false]
   rw [this, ih]
   have e2 : ¬ s = t := fun z => e z.symm
   simp [e2]
theorem QaF {met : List Spt} {s : Spt} {h : MH} {n : Nat} (hn : h[n]? = some (.dct (Kk met))) : QeE true (Qp s) (.ref n) h = some (.bl (!decide (s ∈ met)), h) := by
 have e1 : Qb4 h (.ref n) = some (Kk met) := by simp only [Qb4, hn]
 have hk : nrm (Qp s) = some (trS s) := Qce
 unfold QeE
 rw [e1, Option.bind_some, hk, Option.map_some, QaJ]
 rfl
theorem Qbz {met : List Spt} {s : Spt} {h : MH} {n : Nat} (hn : h[n]? = some (.dct (Kk met))) (hs : s ∉ met) (hl : met.length < sizeLine) : KE (.ref n) (Qp s) (.bl true) h = some (h.set n (.dct (Kk (met ++ [s])))) := by
 have hk : nrm (Qp s) = some (trS s) := Qce
 have hv : (Y8 (Kk met) (trS s)).isSome = false := by rw [QaJ]; simpa using hs
 unfold KE
 simp only [hn]
 rw [hk, Option.bind_some, if_pos (by unfold Kk; rw [List.length_map]; exact hl)]
 unfold QeW
 rw [hv]
 simp [Kk]
@[simp] theorem QiK {mo mi mv : ME} {σ : MSt} {h : MH} : Qay mo mi mv σ h = @ob _ _ (fun v => @ob _ _ (fun o => @ob _ _ (fun i => @om _ _ (fun h' => .nx σ h') (KE o.1 i.1 v.1 i.2)) (mi σ o.2)) (mo σ v.2)) (mv σ h) := id rfl
theorem Xx {t : MT} {body : SM} {f : Nat} {σ σ2 : MSt} {h h2 : MH} (e : t σ h = some (true, h)) (e2 : body σ h = some (.nx σ2 h2)) : QX t body (f + 1) σ h = QX t body f σ2 h2 := by
 rw [QX, e, Option.bind_some, e2]; rfl
theorem VS {t : MT} {body : SM} {f : Nat} {σ : MSt} {h : MH} (e : t σ h = some (false, h)) : QX t body (f + 1) σ h = some (.nx σ h) := by rw [QX, e]; rfl
theorem szN {n : Nat} (h : n ≤ 16000000) : n < sizeLine := Nat.lt_of_le_of_lt h (by decide)
end
end My

namespace My
open PySem PySem.Spec PyProof.Rows L2 Mi My3 My4
section
variable {bs ws : List Str} {p : List Pt}
theorem QbN {N : Nat} {bs ws : List Str} {p : List Pt} (hg : GoodP N bs ws p) {x : Pt} (hx : x ∈ p) : ∀ l ∈ x.2, ∃ y r, l = y :: r := by
 obtain ⟨i, hi⟩ := List.mem_iff_getElem?.mp hx
 exact fun l hl => VP (hg.ok i x hi l hl)
theorem QeF {i : Nat} {p : List Pt} {bs ws : List Str} {σ : MSt} {h : MH} (hσ : σ[i]? = some (some (ZX p))) (hg : GoodP 700 bs ws p) : Jd V4 (Ja (Qg i)) [none] (J2 0) Ku (Qv 1 QS (Qc (Ql wIx (Qg 0) (mC (.int 1))) Qm)) σ h = some (Jr p, h) := by
 have hl := hg.len
 unfold Jd
 have hi : Ja (Qg i) σ h = some (p.map JV, none, h) := by unfold Ja Qg; rw [hσ]; rfl
 rw [hi, Option.bind_some]
 have key : ∀ (r : List Pt) (acc : List Pt) (τ : Option W), (∀ x ∈ r, x ∈ p) → acc.length + r.length ≤ 100 → ZU V4 (p.map JV) none (J2 0) Ku (Qv 1 QS (Qc (Ql wIx (Qg 0) (mC (.int 1))) Qm)) (r.map JV) (acc.map fun x => Gb (bk x)) [τ] h = some (.lst ((acc ++ r).map fun x => Gb (bk x)), h) := by
  intro r
  induction r with
  | nil =>
   intro acc τ _ _
   rw [List.map_nil, ZU, if_pos (Q4 _ _), List.append_nil]; rfl
  | cons x r ih =>
   intro acc τ hr hl
   have hx := hr x List.mem_cons_self
   have eb : QS [.tup (x.2.map QO)] h = some (Gb (bk x), h) := G4 x.2 (hg.bal x hx) (QbN hg hx) (by have := hg.sz x hx; omega) h
   rw [List.map_cons, ZU, if_pos (Q4 _ _)]
   show (some [some (JV x)]).bind _ = _
   rw [Option.bind_some]
   show (some (true, h)).bind _ = _
   rw [Option.bind_some]
   have em : Qv 1 QS (Qc (Ql wIx (Qg 0) (mC (.int 1))) Qm) [some (JV x)] h = some (Gb (bk x), h) := by simp [eb]
   simp only [em, Option.bind_some]
   rw [if_pos (by rw [List.length_map]; simp at hl; exact Xf (by omega))]
   have := ih (acc ++ [x]) (some (JV x)) (fun y hy => hr y (List.mem_cons_of_mem _ hy)) (by simp at hl ⊢; omega)
   rw [List.map_append, List.append_assoc] at this
   exact this
 exact key p [] none (fun _ hx => hx) (by simp; omega)
noncomputable abbrev Fm := Nat × Spt × Nat
noncomputable def flt (p : List Pt) (F : List Fm) : List Spt := F.flatMap fun f => (nx p f.2.1).drop f.2.2
noncomputable def pth (F : List Fm) : List W := (F.map fun f => W.ref f.1).reverse
structure LI (p : List Pt) (h : MH) (met : List Spt) (F : List Fm) : Prop where
 d : h[0]? = some (.dct (Kk met))
 q : h[2]? = some (.lst (pth F))
 f : ∀ f ∈ F, h[f.1]? = some (.lst [Qp f.2.1, .int f.2.2]) ∧ f.1 ≠ 0 ∧ f.1 ≠ 2 ∧ f.2.2 ≤ (nx p f.2.1).length ∧ Rc p f.2.1
 nd : (F.map (·.1)).Nodup
noncomputable abbrev aS (p : List Pt) (a b : Option W) : MSt := [some (ZX p), some (Jr p), some (.ref 0), some (.ref 2), a, b]
noncomputable abbrev tA : MT := Qy (Ql wGt (mFn Js (Qc (Qg 3) Qm)) (mC (.int 0)))
theorem QbU {h : MH} {n : Nat} {o : MO} (e : h[n]? = some o) : n < h.length := (List.getElem?_eq_some_iff.mp e).1
theorem Vt {h : MH} {n m : Nat} {o x : MO} (e : h[n]? = some o) : (h.set n x)[m]? = if n = m then some x else h[m]? := by
 rw [List.getElem?_set]
 split
 ·rename_i z; subst z; rw [if_pos (QbU e)]
 ·rfl
theorem QcM (hg : GoodP 700 bs ws p) : ∀ (m n : Nat) (met out : List Spt) (F : List Fm) (h : MH) (a b : Option W) (f : Nat), LI p h met F → Dfs p met (flt p F) n out → 2 * n + F.length ≤ m → m < f → met.length + n ≤ 15000000 → F.length + n ≤ 15000000 →
  ∃ a' b' h', QX tA ZO f (aS p a b) h = some (.nx (aS p a' b') h') ∧ h'[0]? = some (.dct (Kk out)) := by
 intro m
 induction m with
 | zero =>
  intro n met out F h a b f I d hm hf _ _
  obtain ⟨f, rfl⟩ : ∃ k, f = k + 1 := ⟨f - 1, by omega⟩
  have : F = [] := List.length_eq_zero_iff.mp (by omega)
  subst this
  cases d
  have hq := I.q
  exact ⟨a, b, h, VS (by simp [hq, pth]), I.d⟩
 | succ m ih =>
  intro n met out F h a b f I d hm hf l1 l2
  obtain ⟨f, rfl⟩ : ∃ k, f = k + 1 := ⟨f - 1, by omega⟩
  cases F with
  | nil =>
   cases d
   have hq := I.q
   exact ⟨a, b, h, VS (by simp [hq, pth]), I.d⟩
  | cons fr F =>
   obtain ⟨i, s, c⟩ := fr
   rw [List.length_cons] at hm l2
   obtain ⟨hi, i0, i2, hc, hs⟩ := I.f (i, s, c) List.mem_cons_self
   simp only at hi i0 i2 hc hs
   have hq := I.q
   have hp : pth ((i, s, c) :: F) = pth F ++ [.ref i] := by simp [pth]
   rw [hp] at hq
   obtain ⟨_, _, _, _, en⟩ := KW hg hs
   have tst : tA (aS p a b) h = some (true, h) := by simp [hq]
   have nd := I.nd
   rw [List.map_cons, List.nodup_cons] at nd
   by_cases hz : c = (nx p s).length
   ·-- back
    have hI : LI p (h.set 2 (.lst (pth F))) met F := by
     refine ⟨?_, ?_, fun g hg' => ?_, nd.2⟩
     ·rw [Vt hq, if_neg (by omega)]; exact I.d
     ·rw [Vt hq, if_pos rfl]
     ·have z := I.f g (List.mem_cons_of_mem _ hg')
      refine ⟨?_, z.2⟩
      rw [Vt hq, if_neg (fun e => z.2.2.1 e.symm)]; exact z.1
    have hfl : flt p ((i, s, c) :: F) = flt p F := by simp [flt, hz]
    rw [hfl] at d
    obtain ⟨a', b', h', e, e2⟩ := ih n met out F _ (some (.lst ((nx p s).map Qp))) b f hI d (by omega) (by omega) l1 (by omega)
    refine ⟨a', b', h', ?_, e2⟩
    rw [Xx (σ2 := aS p (some (.lst ((nx p s).map Qp))) b) (h2 := h.set 2 (.lst (pth F))) tst (by simp [hq, hi, en, hz]), e]
   ·-- on
    have hlt : c < (nx p s).length := by omega
    have ht : (nx p s)[c]? = some (nx p s)[c] := List.getElem?_eq_getElem hlt
    have hrt : Rc p (nx p s)[c] := Qcx hg hs (List.getElem_mem hlt)
    have hdr : (nx p s).drop c = (nx p s)[c] :: (nx p s).drop (c + 1) := List.drop_eq_getElem_cons hlt
    generalize (nx p s)[c] = t at ht hrt hdr
    have eat : atI ((nx p s).map Qp) (c : Int) = some (Qp t) := by rw [Zt, List.getElem?_map, ht]; rfl
    have hfl : flt p ((i, s, c) :: F) = t :: flt p ((i, s, c + 1) :: F) := by simp [flt, hdr]
    rw [hfl] at d
    have hne : ¬ (c : Int) = (nx p s).length := by omega
    generalize hh1 : h.set i (.lst [Qp s, .int ((c : Int) + 1)]) = h1
    have g0 : h1[0]? = some (.dct (Kk met)) := by rw [← hh1, Vt hi, if_neg i0]; exact I.d
    have g2 : h1[2]? = some (.lst (pth F ++ [.ref i])) := by rw [← hh1, Vt hi, if_neg i2]; exact hq
    have gi : h1[i]? = some (.lst [Qp s, .int ((c : Int) + 1)]) := by rw [← hh1, Vt hi, if_pos rfl]
    have gf : ∀ g ∈ F, h1[g.1]? = some (.lst [Qp g.2.1, .int g.2.2]) := fun g hg' => by
     have z := I.f g (List.mem_cons_of_mem _ hg')
     rw [← hh1, Vt hi, if_neg (fun e => nd.1 (by rw [show (i, s, c).1 = i from rfl, e]; exact List.mem_map.mpr ⟨g, hg', rfl⟩))]
     exact z.1
    have ni := QaF (s := t) g0
    have hI1 : LI p h1 met ((i, s, c + 1) :: F) := by
     refine ⟨g0, by rw [g2]; simp [pth], fun g hg' => ?_, I.nd⟩
     rcases List.mem_cons.mp hg' with rfl | hg'
     ·exact ⟨by rw [gi]; simp, i0, i2, hlt, hs⟩
     ·exact ⟨gf g hg', (I.f g (List.mem_cons_of_mem _ hg')).2⟩
    have pre : ZO (aS p a b) h = JL (Qy (Ql (QeE true) (Qg 5) (Qg 2))) (QI (Qay (Qg 2) (Qg 5) (mC (.bl true))) (ZL (mMt "list" QU (Qg 3) (Qc (mFn K3 (Qc (Qg 5) (Qc (mC (.int 0)) Qm))) Qm)))) Ze (aS p (some (.lst ((nx p s).map Qp))) (some (Qp t))) h1 := by
     rw [← hh1]
     unfold ZO
     generalize JL (Qy (Ql (QeE true) (Qg 5) (Qg 2))) (QI (Qay (Qg 2) (Qg 5) (mC (.bl true))) (ZL (mMt "list" QU (Qg 3) (Qc (mFn K3 (Qc (Qg 5) (Qc (mC (.int 0)) Qm))) Qm)))) Ze = rest
     simp [hq, hi, en, hne, eat]
    cases d with
    | @skip _ _ _ _ n hm' d =>
     obtain ⟨a', b', h', e, e2⟩ := ih n met out _ h1 (some (.lst ((nx p s).map Qp))) (some (Qp t)) f hI1 d (by rw [List.length_cons]; omega) (by omega) (by omega) (by rw [List.length_cons]; omega)
     refine ⟨a', b', h', ?_, e2⟩
     rw [Xx (σ2 := aS p (some (.lst ((nx p s).map Qp))) (some (Qp t))) (h2 := h1) tst (by rw [pre]; simp [ni, hm']), e]
    | @add _ _ _ _ n hm' d =>
     have pu := Qbz (s := t) g0 hm' (szN (by omega))
     generalize hh2 : h1.set 0 (.dct (Kk (met ++ [t]))) = h2 at pu
     have k0 : h2[0]? = some (.dct (Kk (met ++ [t]))) := by rw [← hh2, Vt g0, if_pos rfl]
     have k2 : h2[2]? = some (.lst (pth F ++ [.ref i])) := by rw [← hh2, Vt g0, if_neg (by omega)]; exact g2
     have kf : ∀ (j : Nat) (o : MO), j ≠ 0 → h1[j]? = some o → h2[j]? = some o := fun j o hj e => by rw [← hh2, Vt g0, if_neg (fun z => hj z.symm)]; exact e
     have hl2 := QbU k2
     have kn : (h2 ++ [MO.lst [Qp t, .int 0]])[2]? = some (.lst (pth F ++ [.ref i])) := by rw [List.getElem?_append_left hl2]; exact k2
     have sl : (pth F).length + 1 < sizeLine := szN (by simp [pth]; omega)
     generalize hh3 : (h2 ++ [MO.lst [Qp t, .int 0]]).set 2 (MO.lst (pth F ++ [W.ref i] ++ [W.ref h2.length])) = h3
     have ap : ∀ (j : Nat) (o : MO), h2[j]? = some o → j ≠ 2 → h3[j]? = some o := fun j o e hj => by
      rw [← hh3, Vt kn, if_neg (fun z => hj z.symm), List.getElem?_append_left (QbU e)]; exact e
     have hI2 : LI p h3 (met ++ [t]) ((h2.length, t, 0) :: (i, s, c + 1) :: F) := by
      refine ⟨ap 0 _ k0 (by omega), ?_, fun g hg' => ?_, ?_⟩
      ·rw [← hh3, Vt kn, if_pos rfl]; simp [pth]
      ·rcases List.mem_cons.mp hg' with rfl | hg'
       ·refine ⟨?_, by show h2.length ≠ 0; omega, by show h2.length ≠ 2; omega, Nat.zero_le _, hrt⟩
        rw [← hh3, Vt kn, if_neg (by omega)]
        simp
       ·have z := hI1.f g hg'
        exact ⟨ap _ _ (kf _ _ z.2.1 z.1) z.2.2.1, z.2⟩
      ·rw [List.map_cons, List.nodup_cons]
       refine ⟨fun hmem => ?_, hI1.nd⟩
       obtain ⟨g, hg', e⟩ := List.mem_map.mp hmem
       have z := hI1.f g hg'
       have := QbU (kf _ _ z.2.1 z.1)
       simp only at e
       omega
     have hfl2 : flt p ((h2.length, t, 0) :: (i, s, c + 1) :: F) = nx p t ++ flt p ((i, s, c + 1) :: F) := by simp [flt]
     rw [← hfl2] at d
     obtain ⟨a', b', h', e, e2⟩ := ih n (met ++ [t]) out _ h3 (some (.lst ((nx p s).map Qp))) (some (Qp t)) f hI2 d (by rw [List.length_cons, List.length_cons]; omega) (by omega) (by rw [List.length_append, List.length_singleton]; omega) (by rw [List.length_cons, List.length_cons]; omega)
     refine ⟨a', b', h', ?_, e2⟩
     rw [Xx (σ2 := aS p (some (.lst ((nx p s).map Qp))) (some (Qp t))) (h2 := h3) tst ?_, e]
     rw [pre, ← hh3]
     simp [ni, hm', pu, kn, sl, k2]
end
end My

namespace My
open PySem PySem.Spec PyProof.Rows L2 Mi My3 My4
theorem Qjz {a b : Nat × Nat} : eqW (KJ a) (KJ b) = decide (a = b) := by
 obtain ⟨a1, a2⟩ := a
 obtain ⟨b1, b2⟩ := b
 simp only [KJ, eqW, XO, Bool.and_true, Prod.mk.injEq]
 rw [Bool.eq_iff_iff]
 simp only [Bool.and_eq_true, beq_iff_eq, decide_eq_true_eq]
 omega
theorem Qf9 : ∀ {a b : List (Nat × Nat)}, XO (a.map KJ) (b.map KJ) = decide (a = b)
 | [], [] => by simp [XO]
 | [], _ :: _ => by simp [XO]
 | _ :: _, [] => by simp [XO]
 | x :: xs, y :: ys => by
  rw [List.map_cons, List.map_cons, XO, Qjz, Qf9, Bool.eq_iff_iff]
  simp
theorem QiL {a b : Spt} : eqW (Qp a) (Qp b) = decide (a = b) := by
 obtain ⟨w1, p1, k1, h1⟩ := a
 obtain ⟨w2, p2, k2, h2⟩ := b
 simp only [Qp, eqW, XO, Bool.and_true, Qf9]
 rw [Bool.eq_iff_iff]
 simp only [Bool.and_eq_true, beq_iff_eq, decide_eq_true_eq, Spt.mk.injEq]
 constructor
 ·rintro ⟨a, b, c, d⟩
  exact ⟨a, by omega, by omega, d⟩
 ·rintro ⟨a, b, c, d⟩
  exact ⟨a, by omega, by omega, d⟩
theorem QjV {s : Spt} {L : List Spt} : inW (Qp s) (L.map Qp) = decide (s ∈ L) := by
 induction L with
 | nil => simp [inW]
 | cons t L ih =>
  unfold inW at ih ⊢
  rw [List.map_cons, List.any_cons, ih, QiL, Bool.eq_iff_iff, Bool.or_eq_true, decide_eq_true_eq, decide_eq_true_eq, decide_eq_true_eq, List.mem_cons]
  constructor
  ·rintro (a | a)
   ·exact .inl a.symm
   ·exact .inr a
  ·rintro (a | a)
   ·exact .inl a.symm
   ·exact .inr a
theorem QgX {s : Spt} : dep (Qp s) ≤ 40 := Nat.le_trans Qfi (by decide)
theorem Qiv {L : List Spt} : X8 (L.map Qp) = true := Kg fun w hw => by
 obtain ⟨s, _, rfl⟩ := List.mem_map.mp hw
 exact Gh
theorem Qhy {L : List Spt} : YY (L.map Qp) ≤ 39 := Kb fun w hw => by
 obtain ⟨s, _, rfl⟩ := List.mem_map.mp hw
 exact Nat.le_trans Qfi (by decide)
theorem QdX {a b : Spt} {h : MH} : wNe (Qp a) (Qp b) h = some (.bl (!decide (a = b)), h) := by rw [Qh9 Gh Gh QgX QgX, QiL]
theorem Qgm {g : Bool} {s : Spt} {L : List Spt} {h : MH} : wIn g (Qp s) (.lst (L.map Qp)) h = some (.bl (if g = true then !decide (s ∈ L) else decide (s ∈ L)), h) := by rw [QeG Gh Qiv QgX (Nat.le_trans Qhy (by decide)), QjV]
theorem QhS {L : List Spt} {h : MH} : wNe (.lst (L.map Qp)) (.lst (L.map Qp)) h = some (.bl false, h) := by
 have hp : pln (.lst (L.map Qp)) = true := by simpa [pln] using Qiv
 rw [Qh9 hp hp (by have := Qhy (L := L); simp [dep]; omega) (by have := Qhy (L := L); simp [dep]; omega), U4 _ hp]; rfl
theorem neB {a b : Bool} {h : MH} : wNe (.bl a) (.bl b) h = some (.bl (!(a == b)), h) := by rw [Qh9 rfl rfl (by simp [dep]) (by simp [dep])]; simp [eqW]
theorem Qfj {l : List Bool} {h : MH} : wIn true (.bl false) (.lst (l.map .bl)) h = some (.bl (l.all id), h) := by
 have hp : X8 (l.map .bl) = true := Kg fun w hw => by
  obtain ⟨b, _, rfl⟩ := List.mem_map.mp hw
  rfl
 have hd : YY (l.map .bl) ≤ 40 := Kb fun w hw => by
  obtain ⟨b, _, rfl⟩ := List.mem_map.mp hw
  simp [dep]
 rw [QeG rfl hp (by simp [dep]) hd]
 have : (!inW (.bl false) (l.map .bl)) = l.all id := by
  clear hp hd
  induction l with
  | nil => rfl
  | cons b l ih =>
   unfold inW at ih ⊢
   rw [List.map_cons, List.any_cons, List.all_cons, ← ih]
   cases b <;> simp [eqW]
 rw [if_pos rfl, this]
theorem QbW {ms : MA} {σ : MSt} {h h' : MH} {j : Int} (e : ms σ h = some ([.int j], h')) (h0 : 0 ≤ j) (hj : j < 20000000) : Ya ms σ h = some (QR 0 j.toNat, none, h') := by
 unfold Ya
 rw [e, Option.bind_some]
 exact if_pos ⟨by omega, by omega⟩
theorem Qa3 {ms : MA} {σ : MSt} {h h' : MH} {i j : Int} (e : ms σ h = some ([.int i, .int j], h')) (hi : 0 ≤ i ∧ i ≤ 20000000) (hj : 0 ≤ j ∧ j ≤ 20000000) : Gq ms σ h = some (QR i (j - i).toNat, none, h') := by
 unfold Gq
 rw [e, Option.bind_some]
 exact if_pos ⟨by omega, by omega, by omega, by omega⟩
section
variable {bs ws : List Str} {p : List Pt}
noncomputable def stB (p : List Pt) (L : List Spt) (k : Nat) : Bool := decide (L.getD (k + 1) sp0 ∈ nx p (L.getD k sp0))
noncomputable def WT (p : List Pt) (L : List Spt) : Bool := match L with
 | [] => false
 | s :: r => decide (s = sp0) && (List.range r.length).all (stB p (s :: r))
theorem QcN {L : List Spt} {k : Nat} (hk : k < L.length) : atI (L.map Qp) (k : Int) = some (Qp (L.getD k sp0)) := by
 rw [Zt, List.getElem?_map, List.getElem?_eq_getElem hk, List.getD_eq_getElem?_getD, List.getElem?_eq_getElem hk]; rfl
theorem W0 {L : List Spt} (hL : ∀ s ∈ L, Rc p s) {k : Nat} (hk : k < L.length) : Rc p (L.getD k sp0) := by
 rw [List.getD_eq_getElem?_getD, List.getElem?_eq_getElem hk]
 exact hL _ (List.getElem_mem hk)
noncomputable abbrev jS (p : List Pt) (L : List Spt) (a : Option W) : MSt := [some (ZX p), some (.lst (L.map Qp)), a]
theorem Qbm (hg : GoodP 700 bs ws p) {L : List Spt} (hL : ∀ s ∈ L, Rc p s) {items : List W} : ∀ (n j : Nat) (a : Option W), j + n + 1 = L.length → ∃ a', Vk items none (J2 2) Xp ((List.range' j n).map fun (i : Nat) => W.int (1 + i)) (jS p L a) [] = if (List.range' j n).all (stB p L) = true then some (.nx (jS p L a') []) else some (.rt (.bl false) [])
 | 0, j, a, _ => ⟨a, U3⟩
 | n + 1, j, a, h => by
  obtain ⟨a', e⟩ := Qbm hg hL (items := items) n (j + 1) (some (.int (1 + j))) (by omega)
  refine ⟨a', ?_⟩
  have i1 : atI (L.map Qp) (1 + (j : Int)) = some (Qp (L.getD (j + 1) sp0)) := by
   have := QcN (L := L) (k := j + 1) (by omega)
   rw [← this]; congr 1; omega
  have i0 : atI (L.map Qp) (1 + (j : Int) - 1) = some (Qp (L.getD j sp0)) := by
   have := QcN (L := L) (k := j) (by omega)
   rw [← this]; congr 1; omega
  obtain ⟨_, _, _, en, _⟩ := KW hg (W0 hL (k := j) (by omega))
  rw [List.range'_succ, List.map_cons, List.all_cons]
  have eb : Xp (jS p L (some (.int (1 + (j : Int))))) [] = if stB p L j = true then some (.nx (jS p L (some (.int (1 + (j : Int))))) []) else some (.rt (.bl false) []) := by
   have w : ∀ h, wIn true (Qp (L.getD (j + 1) sp0)) (.lst ((nx p (L.getD j sp0)).map Qp)) h = some (.bl (!stB p L j), h) := fun h => by rw [Qgm]; rfl
   generalize stB p L j = b at *
   generalize L.getD (j + 1) sp0 = t at *
   generalize L.getD j sp0 = s at *
   simp [i1, i0, en, w]
   cases b <;> rfl
  cases hb : stB p L j with
  | true =>
   rw [if_pos hb] at eb
   rw [QaE (σ1 := jS p L (some (.int (1 + (j : Int))))) rfl eb, e]
   rfl
  | false =>
   rw [if_neg (by rw [hb]; simp)] at eb
   rw [QbS (σ1 := jS p L (some (.int (1 + (j : Int))))) rfl eb]
   simp
theorem Qbt (hg : GoodP 700 bs ws p) {L : List Spt} (hL : ∀ s ∈ L, Rc p s) (hl : L.length ≤ 16000000) (h : MH) : VY [ZX p, .lst (L.map Qp)] h = some (.bl (WT p L), h) := by
 refine Q6 (g := []) (by simp) ?_ rfl
 cases L with
 | nil => simp [Vp, Zd, WT]
 | cons s r =>
  have w : ∀ h, wNe (Qp s) (Qp sp0) h = some (.bl (!decide (s = sp0)), h) := fun h => QdX
  by_cases hs : s = sp0
  ·obtain ⟨a', e⟩ := Qbm hg hL (items := QR 1 r.length) r.length 0 none (by simp)
   have er : Gq (Qc (mC (.int 1)) (Qc (mFn Js (Qc (Qg 1) Qm)) Qm)) (jS p (s :: r) none) [] = some (QR 1 r.length, none, []) := by
    rw [Qa3 (i := 1) (j := (r.length : Int) + 1) (h' := []) (by simp) (by omega) (by simp at hl; omega)]
    congr 3; omega
   have ew : QR 1 r.length = (List.range' 0 r.length).map fun (i : Nat) => W.int (1 + i) := by rw [← List.range_eq_range']; rfl
   rw [← ew, ← List.range_eq_range'] at e
   have hr : WT p (s :: r) = (List.range r.length).all (stB p (s :: r)) := by simp [WT, hs]
   rw [hr]
   simp only [jS, List.map_cons] at e er
   generalize (List.range r.length).all (stB p (s :: r)) = b at *
   have w0 : ∀ h, wNe (Qp s) (Qp sp0) h = some (.bl false, h) := fun h => by rw [w, hs]; simp
   simp [Vp, Zd, XG, er, w0, e]
   cases b <;> simp
  ·have hr : WT p (s :: r) = false := by simp [WT, hs]
   rw [hr]
   simp [Vp, Zd, w, hs]
theorem Qgr (hg : GoodP 700 bs ws p) {L : List Spt} (hL : ∀ s ∈ L, Rc p s) (hl : L.length ≤ 16000000) (h : MH) : J8 [ZX p, Jr p, .lst (L.map Qp)] h = some (.bl (WT p L), h) := by
 refine Q6 (g := []) (by simp) ?_ rfl
 cases L with
 | nil => simp [JF, Zd, WT]
 | cons s r =>
  have w : ∀ h, wNe (Qp s) (.tup [.tup [], .int 0, .int 0, .bl false]) h = some (.bl (!decide (s = sp0)), h) := fun h => QdX (b := sp0)
  by_cases hs : s = sp0
  ·have er : Ya (Qc (Ql Ws (mFn Js (Qc (Qg 2) Qm)) (mC (.int 1))) Qm) [some (ZX p), some (Jr p), some (.lst ((s :: r).map Qp))] [] = some (QR 0 r.length, none, []) := by
    rw [QbW (j := (r.length : Int)) (h' := []) (by simp) (by omega) (by simp at hl; omega)]
    rfl
   have ec := VA (fin := V4) (mi := Ya (Qc (Ql Ws (mFn Js (Qc (Qg 2) Qm)) (mC (.int 1))) Qm)) (cp := [none, some 2, some 0, some 1]) (me := Ql (wIn false) (Ql wIx (Qg 1) (Ql ZV (Qg 0) (mC (.int 1)))) (Qv 3 QL (Qc (Qg 2) (Qc (Qg 3) (Qc (Ql wIx (Qg 1) (Qg 0)) Qm))))) (σ := [some (ZX p), some (Jr p), some (.lst ((s :: r).map Qp))]) (caps := [some (.lst ((s :: r).map Qp)), some (ZX p), some (Jr p)]) (h := []) (items := QR 0 r.length)
    (fun w => match w with | .int i => W.bl (stB p (s :: r) i.toNat) | _ => .non) er ⟨_, rfl⟩ (fun w hw => by
     obtain ⟨j, hj⟩ := List.mem_iff_getElem?.mp hw
     obtain ⟨hjl, rfl⟩ := Vo hj
     have i1 := QcN (L := s :: r) (k := j + 1) (by simp; omega)
     have i0 := QcN (L := s :: r) (k := j) (by simp; omega)
     push_cast at i1
     obtain ⟨_, _, _, _, en⟩ := KW hg (W0 hL (k := j) (by simp; omega))
     have w : ∀ h, wIn false (Qp ((s :: r).getD (j + 1) sp0)) (.lst ((nx p ((s :: r).getD j sp0)).map Qp)) h = some (.bl (stB p (s :: r) j), h) := fun h => by rw [Qgm]; rfl
     have ej : (0 + (j : Int)).toNat = j := by omega
     simp only [ej]
     rw [Int.zero_add]
     generalize stB p (s :: r) j = b at *
     generalize (s :: r).getD (j + 1) sp0 = t at *
     generalize (s :: r).getD j sp0 = u at *
     generalize (s :: r).map Qp = R at *
     simp [i1, i0, en, w]) (by rw [Zi]; exact Nat.le_of_lt (szN (by simp at hl; omega)))
   rw [KG] at ec
   have e2 : ((List.range r.length).map fun (i : Nat) => (match W.int (0 + (i : Int)) with | .int i => W.bl (stB p (s :: r) i.toNat) | _ => .non)) = ((List.range r.length).map (stB p (s :: r))).map W.bl := by
    rw [List.map_map]
    apply List.map_congr_left
    intro i _
    show W.bl (stB p (s :: r) (0 + (i : Int)).toNat) = W.bl (stB p (s :: r) i)
    congr 2
    omega
   have hr : WT p (s :: r) = ((List.range r.length).map (stB p (s :: r))).all id := by simp [WT, hs, List.all_map]
   rw [hr]
   have e3 : ∀ h, wIn true (.bl false) (.lst (((List.range r.length).map (stB p (s :: r))).map W.bl)) h = _ := fun h => Qfj
   have ec' := ec.trans (congrArg (fun l => V4 l []) e2)
   generalize (List.range r.length).map (stB p (s :: r)) = l at *
   simp only [V4, List.map_cons] at ec'
   have nz : ¬ (r.length : Int) + 1 = 0 := by omega
   have w0 : ∀ h, wNe (Qp s) (.tup [.tup [], .int 0, .int 0, .bl false]) h = some (.bl false, h) := fun h => by rw [w, hs]; simp
   simp [JF, Zd, w0, nz, ec', e3]
  ·have hr : WT p (s :: r) = false := by simp [WT, hs]
   rw [hr]
   have nz : ¬ (r.length : Int) + 1 = 0 := by omega
   simp [JF, Zd, w, hs, nz]
end
end My

namespace My
open PySem PySem.Spec PyProof.Rows L2 Mi My3 My4
@[simp] theorem Qgv {ws : List W} {h : MH} : UI [.lst ws] h = some (.ref h.length, h ++ [.lst ws]) := id rfl
@[simp] theorem Qic {ws : List W} {h : MH} : Qct [.lst ws] h = some (.lst ws, h) := id rfl
theorem Qhm (f : Fd) {m : Int} (hm : 0 < m) (hm2 : m < 1000000000) : ∃ (v : Nat) (f' : Fd), (v : Int) < m ∧ ∀ (h : MH) (n : Nat), h[n]? = some (QA f) → Qh [.ref n, .int m] h = some (.int v, h.set n (QA f')) := by
 have key : ∃ (v : Int) (f' : Fd), (0 ≤ v ∧ v < m) ∧ ∀ (h : MH) (n : Nat), h[n]? = some (QA f) → Qh [.ref n, .int m] h = some (.int v, h.set n (QA f')) := by
  obtain ⟨a, b, hb⟩ := f
  have hm3 : m < 1073741824 := by omega
  by_cases h : 0 < a
  ·refine ⟨a % m, ⟨a / m, b, hb⟩, ⟨Int.emod_nonneg _ (by omega), Int.emod_lt_of_pos _ hm⟩, fun g n hn => Jc (o := QA ⟨a, b, hb⟩) (g := []) (by simp) hn (by simp [QA]) ?_ rfl ⟨_, rfl, by simp⟩⟩
   simp [ZS, Zd, h, hm, hm3, QA]
  ·refine ⟨(b * 69621 + 12345) % 2147483647 / 8191 % m, ⟨a, (b * 69621 + 12345) % 2147483647, Int.emod_nonneg _ (by decide), Int.lt_trans (Int.emod_lt_of_pos _ (by decide)) (by decide)⟩, ⟨Int.emod_nonneg _ (by omega), Int.emod_lt_of_pos _ hm⟩, fun g n hn => Jc (o := QA ⟨a, b, hb⟩) (g := []) (by simp) hn (by simp [QA]) ?_ rfl ⟨_, rfl, by simp⟩⟩
   simp [ZS, Zd, h, hm, hm3, QA]
 obtain ⟨v, f', ⟨h0, h1⟩, e⟩ := key
 obtain ⟨n, rfl⟩ := Int.eq_ofNat_of_zero_le h0
 exact ⟨n, f', h1, e⟩
theorem Ue (f : Fd) {m : Int} (hm : 0 < m) (hm2 : m < 1000000000) : ∃ (v : Nat) (f' : Fd), (v : Int) < m ∧ ∀ (t : MH), Qh [.ref 0, .int m] (QA f :: t) = some (.int v, QA f' :: t) := by
 obtain ⟨v, f', h, e⟩ := Qhm f hm hm2
 exact ⟨v, f', h, fun t => e _ 0 rfl⟩
theorem Wc {m : FM} {ws : List W} {w w' : W} {o o' : MO} {n : Nat} {g h : MH} (hp : JU ws = true) (hn : h[n]? = some o) (ho : Qdp o = true) (e : m (ws ++ [.ref 0]) [o] = some (w, o' :: g)) (ho' : ∃ us, o' = .lst us ∧ JU us = true) (hw : th (res (Yk [n] [] h.length) (o' :: g) 3) w = some w') : box frN m (ws ++ [.ref n]) h = some (w', h.set n o') := by
 have hr : Km 0 (ws ++ [.ref n]) = some (ws ++ [.ref 0], [n]) := by
  clear e hw
  induction ws with
  | nil => rfl
  | cons a r ih =>
   unfold JU at hp
   rw [Bool.and_eq_true] at hp
   have := ih hp.2
   cases a <;> first | (unfold pur at hp; cases hp.1; done) | (rw [List.cons_append]; unfold Km; rw [if_pos hp.1, this]; rfl)
 have hpk : Qaq h n = some o := by unfold Qaq; rw [hn]; simp [ho]
 exact Kz (os := [o]) (os' := [o']) (g := g) hr (by simp) (by simp [Jp, hpk]) e rfl (fun x hx => by rw [List.mem_singleton.mp hx]; exact ho') hw
theorem Qdo {f : Nat → Option W} {L : List Spt} : th f (.lst (L.map Qp)) = some (.lst (L.map Qp)) := WJ _ _ (by simp [WV])
theorem Qfl {bs ws : List Str} {p : List Pt} (hg : GoodP 700 bs ws p) {s : Spt} (h : Rc p s) : rk p s ≤ 326655 := by
 refine QhT (U6 hg) ?_
 obtain ⟨x, hx, _⟩ := h.v.ex
 have h1 := (List.getElem?_eq_some_iff.mp hx).1
 have h2 := h.w.le
 have h3 := hg.len
 omega
theorem QhJ {a r s m : Nat} (h : a + 326660 + s ≤ m + 1) (h2 : r ≤ 326655) : a + r ≤ m := by omega
section
variable {bs ws : List Str} {p : List Pt}
noncomputable abbrev rS (p : List Pt) (l : Nat) (L : List Spt) : MSt := [some (ZX p), some (Jr p), some (.ref 0), some (.ref 1), some (.int l), some (.lst (L.map Qp))]
noncomputable abbrev tR : MT := Uw (Qy (Ql wEq (mFn Js (Qc (Qg 5) Qm)) (mC (.int 1)))) (J1 (Qy (Ql wGt (mFn Js (Qc (Qg 5) Qm)) (mC (.int 1)))) (Qy (Ql wGt (Qg 4) (mC (.int 0)))))
theorem QbQ (hg : GoodP 700 bs ws p) : ∀ (m l : Nat) (run : List Spt) (s : Spt) (f : Fd) (fu : Nat), (∀ t ∈ run ++ [s], Rc p t) → l * 326660 + rk p s ≤ m → m < fu → run.length + m ≤ 7000000 →
  ∃ l' L' run' f', QX tR ZT fu (rS p l (nx p s)) [QA f, .lst ((run ++ [s]).map Qp)] = some (.nx (rS p l' L') [QA f', .lst (run'.map Qp)]) ∧ run' ≠ [] ∧ (∀ t ∈ run', Rc p t) ∧ run'.length ≤ 7000001 := by
 intro m
 induction m with
 | zero =>
  intro l run s f fu hr hm hf hl
  obtain ⟨fu, rfl⟩ : ∃ k, fu = k + 1 := ⟨fu - 1, by omega⟩
  have hs : Rc p s := hr s (by simp)
  obtain ⟨h2, _, hM, _⟩ := KW hg hs
  have l0 : l = 0 := by omega
  subst l0
  have n1 : (nx p s).length ≠ 1 := fun e => by
   obtain ⟨t, et⟩ := List.length_eq_one_iff.mp e
   have := hM.1.one t et
   omega
  have n1' : ¬ ((nx p s).length : Int) = 1 := by omega
  exact ⟨0, nx p s, run ++ [s], f, VS (by simp [n1']), by simp, hr, by simp; omega⟩
 | succ m ih =>
  intro l run s f fu hr hm hf hl
  obtain ⟨fu, rfl⟩ : ∃ k, fu = k + 1 := ⟨fu - 1, by omega⟩
  have hs : Rc p s := hr s (by simp)
  obtain ⟨h2, _, hM, _⟩ := KW hg hs
  have sz : run.length + 1 < sizeLine := szN (by omega)
  have add : ∀ t, Rc p t → ∀ u ∈ (run ++ [s]) ++ [t], Rc p u := fun t ht u hu => by
   rcases List.mem_append.mp hu with h | h
   ·exact hr u h
   ·rw [List.mem_singleton.mp h]; exact ht
  by_cases n1 : (nx p s).length = 1
  ·obtain ⟨t, et⟩ := List.length_eq_one_iff.mp n1
   have ht : Rc p t := Qcx hg hs (by rw [et]; simp)
   have hk := hM.1.one t et
   obtain ⟨_, _, _, _, en⟩ := KW hg ht
   obtain ⟨l', L', run', f', e, e2⟩ := ih l (run ++ [s]) t f fu (add t ht) (by omega) (by omega) (by simp; omega)
   refine ⟨l', L', run', f', ?_, e2⟩
   rw [et]
   have eb : ZT (rS p l [t]) [QA f, .lst ((run ++ [s]).map Qp)] = some (.nx (rS p l (nx p t)) [QA f, .lst ((run ++ [s] ++ [t]).map Qp)]) := by
    generalize nx p t = T at *
    simp only [List.map_append, List.map_cons, List.map_nil]
    generalize hR : run.map Qp = R
    have sz' : R.length + 1 < sizeLine := by rw [← hR, List.length_map]; exact sz
    simp [en, sz']
    have := Mi.Ke (R ++ [Qp s]) (Qp t)
    rw [List.append_assoc] at this
    simp at this
    simp [this, en]
   rw [Xx (by simp) eb, e]
  ·by_cases l0 : l = 0
   ·have n1' : ¬ ((nx p s).length : Int) = 1 := by omega
    subst l0
    exact ⟨0, nx p s, run ++ [s], f, VS (by simp [n1']), by simp, hr, by simp; omega⟩
   ·by_cases n0 : (nx p s).length = 0
    ·have en := List.length_eq_zero_iff.mp n0
     rw [en]
     exact ⟨l, [], run ++ [s], f, VS (by simp), by simp, hr, by simp; omega⟩
    ·have n2 : (nx p s).length = 2 := by omega
     obtain ⟨l, rfl⟩ : ∃ k, l = k + 1 := ⟨l - 1, by omega⟩
     rw [Nat.add_mul, Nat.one_mul] at hm
     obtain ⟨v, f1, hv, ef⟩ := Ue f (m := 2) (by decide) (by decide)
     have hvl : v < (nx p s).length := by omega
     have ea := QcN (L := nx p s) (k := v) hvl
     have ht : Rc p ((nx p s).getD v sp0) := W0 (fun t ht => Qcx hg hs ht) hvl
     generalize (nx p s).getD v sp0 = t at ea ht
     obtain ⟨_, _, _, _, en⟩ := KW hg ht
     have hk := Qfl hg ht
     obtain ⟨l', L', run', f', e, e2⟩ := ih l (run ++ [s]) t f1 fu (add t ht) (QhJ hm hk) (by omega) (by simp; omega)
     refine ⟨l', L', run', f', ?_, e2⟩
     have tst : tR (rS p (l + 1) (nx p s)) [QA f, .lst ((run ++ [s]).map Qp)] = some (true, [QA f, .lst ((run ++ [s]).map Qp)]) := by
      simp [n2]
     have eb : ZT (rS p (l + 1) (nx p s)) [QA f, .lst ((run ++ [s]).map Qp)] = some (.nx (rS p l (nx p t)) [QA f1, .lst ((run ++ [s] ++ [t]).map Qp)]) := by
      have hn : ((nx p s).map Qp).length = 2 := by rw [List.length_map]; exact n2
      simp only [rS]
      generalize (nx p s).map Qp = N at *
      generalize nx p t = T at *
      simp only [List.map_append, List.map_cons, List.map_nil]
      generalize hR : run.map Qp = R
      have sz' : R.length + 1 < sizeLine := by rw [← hR, List.length_map]; exact sz
      have := Mi.Ke (R ++ [Qp s]) (Qp t)
      rw [List.append_assoc] at this
      simp at this
      simp [hn, ef, ea, en, sz', this]
     rw [Xx tst eb, e]
theorem Qc1 {α : Type} (xs : List α) (k : Nat) : KY xs none (some (k : Int)) = xs.take k := by
 unfold KY
 rw [HT.sIx_nat, HT.sIx_none]
 by_cases h : k ≤ xs.length
 ·rw [Nat.min_eq_left h]; simp
 ·rw [Nat.min_eq_right (by omega), List.take_of_length_le (l := xs) (by omega)]; simp
theorem QfG (hg : GoodP 700 bs ws p) (f : Fd) : ∃ run f', run ≠ [] ∧ (∀ t ∈ run, Rc p t) ∧ run.length ≤ 7000001 ∧ ∀ (h : MH) (n : Nat), h[n]? = some (QA f) → J3 [ZX p, Jr p, .ref n] h = some (.lst (run.map Qp), h.set n (QA f')) := by
 obtain ⟨l, f1, hl, e1⟩ := Ue f (m := 21) (by decide) (by decide)
 have h0 := rc0 hg
 have hk := Qfl hg h0
 obtain ⟨l', L', run, f2, e, hne, hrc, hlen⟩ := QbQ hg 6860000 l [] sp0 f1 20000000 (by intro t ht; rw [List.mem_singleton.mp ht]; exact h0) (by omega) (by decide) (by simp)
 have hpos := List.length_pos_iff.mpr hne
 obtain ⟨v, f3, hv, e3⟩ := Ue f2 (m := run.length) (by omega) (by omega)
 obtain ⟨_, _, _, _, en⟩ := KW hg h0
 refine ⟨run.take (v + 1), f3, ?_, fun t ht => hrc t (List.mem_of_mem_take ht), by rw [List.length_take]; omega, fun h n hn => ?_⟩
 ·intro z
  have := congrArg List.length z
  rw [List.length_take, List.length_nil] at this
  omega
 ·refine Wc (ws := [ZX p, Jr p]) (o := QA f) (o' := QA f3) (g := [.lst (run.map Qp)]) (w := .lst ((run.take (v + 1)).map Qp)) (by simp) hn (by simp [QA]) ?_ ⟨_, rfl, by simp⟩ Qdo
  have ec : KY (run.map Qp) none (some (1 + (v : Int))) = (run.take (v + 1)).map Qp := by
   have := Qc1 (run.map Qp) (v + 1)
   rw [List.map_take, ← this]; congr 2; omega
  have e' : QX tR ZT 20000000 [some (ZX p), some (Jr p), some (.ref 0), some (.ref 1), some (.int l), some (.lst ((nx p sp0).map Qp))] [QA f1, .lst [Qp sp0]] = _ := e
  have hL : (run.map Qp).length = run.length := List.length_map ..
  have es : W.tup [.tup [], .int 0, .int 0, .bl false] = Qp sp0 := rfl
  generalize (run.take (v + 1)).map Qp = T at *
  generalize run.map Qp = R at *
  generalize hb : QX tR ZT 20000000 = loop at e'
  simp only [VX, Zd, hb]
  simp [es, e1, en, e', hL, e3, ec]
end
end My

namespace My
open PySem PySem.Spec PyProof.Rows L2 Mi My3 My4
section
variable {bs ws : List Str} {p : List Pt}
theorem QeA {met st out : List Spt} {n : Nat} (d : Dfs p met st n out) : met.length ≤ out.length := by
 induction d with
 | done => exact Nat.le_refl _
 | skip _ _ ih => exact ih
 | add _ _ ih => rw [List.length_append, List.length_singleton] at ih; omega
theorem QfR (hg : GoodP 700 bs ws p) : ∃ out : List Spt, out ≠ [] ∧ out.length ≤ 280010 ∧ (∀ s ∈ out, Rc p s) ∧ ∀ h : MH, JA [ZX p, Jr p] h = some (.lst (out.map Qp), h) := by
 have h0 := rc0 hg
 obtain ⟨n, out, d, hn, ho, hr⟩ := Qgk hg 840031 [] [sp0] List.nodup_nil (by simp) (by intro s hs; rw [List.mem_singleton.mp hs]; exact h0) (by simp)
 cases d with
 | skip h => simp at h
 | @add _ _ _ _ n hm d =>
  have hlen := QeA d
  refine ⟨out, fun z => by rw [z] at hlen; simp at hlen, QcU hg (U6 hg) ho hr, hr, fun h => ?_⟩
  have d' : Dfs p [sp0] (flt p [(1, sp0, 0)]) n out := by simpa [flt] using d
  have I : LI p [.dct (Kk [sp0]), .lst [Qp sp0, .int 0], .lst [.ref 1]] [sp0] [(1, sp0, 0)] := by
   refine ⟨rfl, rfl, fun f hf => ?_, by simp⟩
   rw [List.mem_singleton.mp hf]
   exact ⟨rfl, by decide, by decide, Nat.zero_le _, rc0 hg⟩
  obtain ⟨a', b', h', e, e2⟩ := QcM hg 2000000 n [sp0] out _ _ none none 20000000 I d' (by simp; omega) (by decide) (by simp; omega) (by simp; omega)
  refine Q6 (g := h') (by simp) ?_ (by simp [WV])
  have ed : ∀ σ, Qb8 (mFn ZW (Qc (mFn ZW Qm) (Qc (mC (.int 0)) (Qc (mC (.int 0)) (Qc (mC (.bl false)) Qm))))) (mC (.bl true)) σ [] = some (.ref 0, [.dct (Kk [sp0])]) := fun σ => by
   have pu := Qbz (met := []) (s := sp0) (h := [.dct (Kk [])]) (n := 0) rfl (by simp) (by decide)
   have ek : ∀ h, (mFn ZW (Qc (mFn ZW Qm) (Qc (mC (.int 0)) (Qc (mC (.int 0)) (Qc (mC (.bl false)) Qm))))) σ h = some (Qp sp0, h) := fun h => by simp [Qp]
   unfold Qb8
   rw [ek, Option.bind_some]
   show (KE (.ref 0) (Qp sp0) (.bl true) [.dct (Kk [])]).map _ = _
   rw [pu]
   rfl
  have ek : Y6 [.ref 0] h' = some (.lst (out.map Qp), h') := by
   have : Qb4 h' (.ref 0) = some (Kk out) := by simp only [Qb4, e2]
   unfold Y6
   simp only [this, Option.map_some]
   simp [Kk, Function.comp_def]
  have e' : QX tA ZO 20000000 [some (ZX p), some (Jr p), some (.ref 0), some (.ref 2), none, none] [.dct (Kk [sp0]), .lst [.tup [.tup [], .int 0, .int 0, .bl false], .int 0], .lst [.ref 1]] = some (.nx (aS p a' b') h') := e
  generalize hb : QX tA ZO 20000000 = loop at e'
  simp only [VV, Zd, hb]
  simp [ed, e', ek]
theorem Gu {A B : List Spt} {h : MH} (hl : A.length + B.length ≤ 16000000) : ZV (.lst (A.map Qp)) (.lst (B.map Qp)) h = some (.lst ((A ++ B).map Qp), h) := by
 rw [Qgs, if_pos (by rw [List.length_map, List.length_map]; exact Nat.le_of_lt (szN hl)), List.map_append]
theorem QcD {every : List Spt} {here : Spt} {σ : MSt} {h : MH} (h4 : σ[4]? = some (some (.lst (every.map Qp)))) (h8 : σ[8]? = some (some (Qp here))) (hl : every.length ≤ 280010) : ∃ T : List Spt, (∀ t ∈ T, t ∈ every) ∧ T.length ≤ 280010 ∧ Jd V4 (Ja (Qg 4)) [none, some 8] (J2 0) (J1 (Qy (Ql wEq (mSl (Qg 0) (Zp (mC (.int 1))) (Zp (mC (.int 3)))) (mSl (Qg 1) (Zp (mC (.int 1))) (Zp (mC (.int 3)))))) (Qy (Ql wNe (Qg 0) (Qg 1)))) (Qg 0) σ h = some (.lst (T.map Qp), h) := by
 have c13 : ∀ a b c d : W, KY [a, b, c, d] (some 1) (some 3) = [b, c] := fun a b c d => rfl
 have ht : ∀ s : Spt, ∃ b : Bool, (J1 (Qy (Ql wEq (mSl (Qg 0) (Zp (mC (.int 1))) (Zp (mC (.int 3)))) (mSl (Qg 1) (Zp (mC (.int 1))) (Zp (mC (.int 3)))))) (Qy (Ql wNe (Qg 0) (Qg 1)))) [some (Qp s), some (Qp here)] h = some (b, h) := fun s => by
  have w : ∀ h, wNe (Qp s) (Qp here) h = some (.bl (!decide (s = here)), h) := fun h => QdX
  have sl : ∀ (u : Spt) h, wSl (Qp u) (some 1) (some 3) h = some (.tup [.int u.part, .int u.k], h) := fun u h => by unfold Qp; rw [Qha, c13]
  have q : ∀ (a b c d : Int) h, wEq (.tup [.int a, .int b]) (.tup [.int c, .int d]) h = some (.bl (eqW (.tup [.int a, .int b]) (.tup [.int c, .int d])), h) := fun a b c d h => QjB (by simp [pln, X8]) (by simp [pln, X8]) (by simp [dep, YY]) (by simp [dep, YY])
  generalize decide (s = here) = b at w
  have q' := q s.part s.k here.part here.k
  generalize eqW (.tup [.int s.part, .int s.k]) (.tup [.int here.part, .int here.k]) = c at q'
  cases c with
  | false => exact ⟨false, by simp [sl, q', w]⟩
  | true => exact ⟨!b, by simp [sl, q', w]⟩
 obtain ⟨q, hq⟩ : ∃ q : Spt → Bool, ∀ s, (J1 (Qy (Ql wEq (mSl (Qg 0) (Zp (mC (.int 1))) (Zp (mC (.int 3)))) (mSl (Qg 1) (Zp (mC (.int 1))) (Zp (mC (.int 3)))))) (Qy (Ql wNe (Qg 0) (Qg 1)))) [some (Qp s), some (Qp here)] h = some (q s, h) := ⟨fun s => Classical.choose (ht s), fun s => Classical.choose_spec (ht s)⟩
 have hi : Ja (Qg 4) σ h = some (every.map Qp, none, h) := by unfold Ja Qg; rw [h4]; rfl
 have hc : QaQ [none, some 8] σ = none :: [some (Qp here)] := by
  simp [QaQ, h8]
 have key : ∀ (r acc : List Spt) (τ : Option W), acc.length + r.length ≤ 280010 → (∀ t ∈ acc, t ∈ every) → (∀ t ∈ r, t ∈ every) → ∃ T : List Spt, (∀ t ∈ T, t ∈ every) ∧ T.length ≤ 280010 ∧ ZU V4 (every.map Qp) none (J2 0) (J1 (Qy (Ql wEq (mSl (Qg 0) (Zp (mC (.int 1))) (Zp (mC (.int 3)))) (mSl (Qg 1) (Zp (mC (.int 1))) (Zp (mC (.int 3)))))) (Qy (Ql wNe (Qg 0) (Qg 1)))) (Qg 0) (r.map Qp) (acc.map Qp) [τ, some (Qp here)] h = some (.lst (T.map Qp), h) := by
  intro r
  induction r with
  | nil =>
   intro acc τ hl ha _
   exact ⟨acc, ha, by simpa using hl, by rw [List.map_nil, ZU, if_pos (Q4 _ _)]; rfl⟩
  | cons s r ih =>
   intro acc τ hl ha hr
   rw [List.length_cons] at hl
   rw [List.map_cons, ZU, if_pos (Q4 _ _)]
   show ∃ T, _ ∧ _ ∧ (some [some (Qp s), some (Qp here)]).bind _ = _
   rw [Option.bind_some, hq, Option.bind_some]
   cases q s with
   | true =>
    obtain ⟨T, h1, h2, e⟩ := ih (acc ++ [s]) (some (Qp s)) (by simp; omega) (fun t ht => by
     rcases List.mem_append.mp ht with z | z
     ·exact ha t z
     ·rw [List.mem_singleton.mp z]; exact hr s List.mem_cons_self) fun t ht => hr t (List.mem_cons_of_mem _ ht)
    refine ⟨T, h1, h2, ?_⟩
    show (some (Qp s, h)).bind _ = _
    rw [Option.bind_some, if_pos (by rw [List.length_map]; exact szN (by omega))]
    rw [List.map_append] at e
    exact e
   | false => exact ih acc (some (Qp s)) (by omega) ha fun t ht => hr t (List.mem_cons_of_mem _ ht)
 unfold Jd
 rw [hi, Option.bind_some]
 show ∃ T : List Spt, _ ∧ _ ∧ ZU V4 (every.map Qp) none (J2 0) _ _ (every.map Qp) [] (QaQ [none, some 8] σ) h = _
 rw [hc]
 exact key every [] none (by simpa using hl) (by simp) fun t ht => ht
theorem Qai (hg : GoodP 700 bs ws p) {run : List Spt} (hne : run ≠ []) (hrc : ∀ s ∈ run, Rc p s) (hl : run.length ≤ 7000001) (f : Fd) : ∃ (L : List Spt) (f' : Fd), (∀ s ∈ L, Rc p s) ∧ L.length ≤ 14000010 ∧ ∀ (h : MH) (n : Nat), h[n]? = some (QA f) → Q8 [ZX p, Jr p, .lst (run.map Qp), .ref n] h = some (.lst (L.map Qp), h.set n (QA f')) := by
 have hpos := List.length_pos_iff.mpr hne
 obtain ⟨every, ene, el, erc, eall⟩ := QfR hg
 have epos := List.length_pos_iff.mpr ene
 obtain ⟨a, f1, ha, e1⟩ := Ue f (m := run.length) (by omega) (by omega)
 obtain ⟨b, f2, hb, e2⟩ := Ue f1 (m := run.length) (by omega) (by omega)
 obtain ⟨c, f3, hc, e3⟩ := Ue f2 (m := every.length) (by omega) (by omega)
 obtain ⟨d, f4, hd, e4⟩ := Ue f3 (m := 9) (by decide) (by decide)
 have ha' : a < run.length := by omega
 have ia := QcN (L := run) (k := a) ha'
 have ra := W0 hrc (k := a) ha'
 generalize run.getD a sp0 = here at ia ra
 have ib := QcN (L := run) (k := b) (by omega)
 have rb := W0 hrc (k := b) (by omega)
 generalize run.getD b sp0 = other at ib rb
 have ic := QcN (L := every) (k := c) (by omega)
 have rc := W0 erc (k := c) (by omega)
 generalize every.getD c sp0 = one at ic rc
 obtain ⟨lst, ilst, rlst⟩ : ∃ s, atI (run.map Qp) (-1) = some (Qp s) ∧ Rc p s := by
  refine ⟨run.getLast hne, ?_, hrc _ (List.getLast_mem hne)⟩
  have : run.map Qp = run.dropLast.map Qp ++ [Qp (run.getLast hne)] := by rw [← List.map_singleton, ← List.map_append, List.dropLast_concat_getLast]
  rw [this]; exact Mi.Ke _ _
 obtain ⟨T, hT, lT, eT⟩ := QcD (every := every) (here := here) (σ := [some (ZX p), some (Jr p), some (.lst (run.map Qp)), some (.ref 0), some (.lst (every.map Qp)), some (.int a), some (Qp other), some (Qp one), some (Qp here), none, none, none, none]) (h := [QA f3]) rfl rfl el
 obtain ⟨tw, itw, rtw⟩ : ∃ s, atI ((T ++ [one]).map Qp) 0 = some (Qp s) ∧ Rc p s := by
  have hr : ∀ s ∈ T ++ [one], Rc p s := fun s hs => by
   rcases List.mem_append.mp hs with z | z
   ·exact erc s (hT s z)
   ·rw [List.mem_singleton.mp z]; exact rc
  exact ⟨_, QcN (L := T ++ [one]) (k := 0) (by simp), W0 hr (by simp)⟩
 have sw1 : ixN run.length (a : Int) = some a := GQ ha'
 have sw2 : ixN run.length (-1) = some (run.length - 1) := by
  have := Qcn (run.dropLast) (run.getLast hne)
  rw [List.dropLast_concat_getLast, List.length_dropLast] at this
  exact this
 have sw : ((run.map Qp).set a (Qp lst)).set (run.length - 1) (Qp here) = ((run.set a lst).set (run.length - 1) here).map Qp := by rw [List.map_set, List.map_set]
 have d1 : KY (run.map Qp) (some 1) none = (run.drop 1).map Qp := by rw [List.map_drop]; exact Kh _ 1
 have da : KY (run.map Qp) (some (a : Int)) none = (run.drop a).map Qp := by rw [List.map_drop]; exact Kh _ a
 have da1 : KY (run.map Qp) (some ((a : Int) + 1)) none = (run.drop (a + 1)).map Qp := by rw [List.map_drop]; exact Kh _ (a + 1)
 have ta : KY (run.map Qp) none (some (a : Int)) = (run.take a).map Qp := by rw [List.map_take]; exact Qc1 _ a
 have lt : (run.take a).length ≤ 7000001 := by rw [List.length_take]; omega
 have lda : (run.drop a).length ≤ 7000001 := by rw [List.length_drop]; omega
 have lda1 : (run.drop (a + 1)).length ≤ 7000001 := by rw [List.length_drop]; omega
 have rT : ∀ s ∈ run.take a, Rc p s := fun s hs => hrc s (List.mem_of_mem_take hs)
 have rD : ∀ s ∈ run.drop a, Rc p s := fun s hs => hrc s (List.mem_of_mem_drop hs)
 have rD1 : ∀ s ∈ run.drop (a + 1), Rc p s := fun s hs => hrc s (List.mem_of_mem_drop hs)
 have r1 : ∀ s ∈ run.drop 1, Rc p s := fun s hs => hrc s (List.mem_of_mem_drop hs)
 have l1 : (run.drop 1).length ≤ 7000001 := by rw [List.length_drop]; omega
 have rS' : ∀ s ∈ (run.set a lst).set (run.length - 1) here, Rc p s := fun s hs => by
  rcases List.mem_or_eq_of_mem_set hs with z | z
  ·rcases List.mem_or_eq_of_mem_set z with y | y
   ·exact hrc s y
   ·rw [y]; exact rlst
  ·rw [z]; exact ra
 have lS' : ((run.set a lst).set (run.length - 1) here).length ≤ 7000001 := by simpa using hl
 have hR : (run.map Qp).length = run.length := List.length_map ..
 have hE : (every.map Qp).length = every.length := List.length_map ..
 have x0 : ∀ h, ZV (.lst (run.map Qp)) (.lst [Qp one]) h = some (.lst ((run ++ [one]).map Qp), h) := fun h => Gu (B := [one]) (by simp; omega)
 have x1 : ∀ h, ZV (.lst (T.map Qp)) (.lst [Qp one]) h = some (.lst ((T ++ [one]).map Qp), h) := fun h => Gu (B := [one]) (by simp; omega)
 have x2 : ∀ h, ZV (.lst ((run.take a).map Qp)) (.lst ((run.drop (a + 1)).map Qp)) h = some (.lst ((run.take a ++ run.drop (a + 1)).map Qp), h) := fun h => Gu (by omega)
 have y : ∀ (s : Spt) h, ZV (.lst ((run.take a).map Qp)) (.lst [Qp s]) h = some (.lst ((run.take a ++ [s]).map Qp), h) := fun s h => Gu (B := [s]) (by simp; omega)
 have x3 : ∀ h, ZV (.lst ((run.take a ++ [here]).map Qp)) (.lst ((run.drop a).map Qp)) h = some (.lst ((run.take a ++ [here] ++ run.drop a).map Qp), h) := fun h => Gu (by rw [List.length_append, List.length_singleton]; omega)
 have x4 : ∀ (s : Spt) h, ZV (.lst ((run.take a ++ [s]).map Qp)) (.lst ((run.drop (a + 1)).map Qp)) h = some (.lst ((run.take a ++ [s] ++ run.drop (a + 1)).map Qp), h) := fun s h => Gu (by rw [List.length_append, List.length_singleton]; omega)
 have rap : ∀ {A B : List Spt}, (∀ s ∈ A, Rc p s) → (∀ s ∈ B, Rc p s) → ∀ s ∈ A ++ B, Rc p s := fun h1 h2 s hs => by
  rcases List.mem_append.mp hs with z | z
  ·exact h1 s z
  ·exact h2 s z
 have r1s : ∀ {x : Spt}, Rc p x → ∀ s ∈ [x], Rc p s := fun hx s hs => by rw [List.mem_singleton.mp hs]; exact hx
 let ways : List (Option (List Spt)) := [some (run.drop 1), none, some run, some (run ++ [one]), some (run.take a ++ run.drop (a + 1)), some (run.take a ++ [here] ++ run.drop a), some (run.take a ++ [other] ++ run.drop (a + 1)), some (run.take a ++ [one] ++ run.drop (a + 1)), some (run.take a ++ [tw] ++ run.drop (a + 1))]
 let enc : Option (List Spt) → W := fun o => match o with | none => .ref 1 | some L => .lst (L.map Qp)
 have hw : ∀ o ∈ ways, ∀ L, o = some L → (∀ s ∈ L, Rc p s) ∧ L.length ≤ 14000010 := by
  intro o ho L hL
  subst hL
  simp only [ways, List.mem_cons, List.not_mem_nil, or_false, Option.some.injEq, reduceCtorEq, false_or] at ho
  rcases ho with rfl | rfl | rfl | rfl | rfl | rfl | rfl | rfl
  ·exact ⟨r1, by omega⟩
  ·exact ⟨hrc, by omega⟩
  ·exact ⟨rap hrc (r1s rc), by rw [List.length_append, List.length_singleton]; omega⟩
  ·exact ⟨rap rT rD1, by rw [List.length_append]; omega⟩
  ·exact ⟨rap (rap rT (r1s ra)) rD, by rw [List.length_append, List.length_append, List.length_singleton]; omega⟩
  ·exact ⟨rap (rap rT (r1s rb)) rD1, by rw [List.length_append, List.length_append, List.length_singleton]; omega⟩
  ·exact ⟨rap (rap rT (r1s rc)) rD1, by rw [List.length_append, List.length_append, List.length_singleton]; omega⟩
  ·exact ⟨rap (rap rT (r1s rtw)) rD1, by rw [List.length_append, List.length_append, List.length_singleton]; omega⟩
 obtain ⟨o, ho, _, eo⟩ := WY (xs := ways) (i := (d : Int)) (f := enc) (P := fun _ => True) (by omega) (by simp [ways]; omega) (fun _ _ => trivial)
 obtain ⟨L, hLr, hLl, hres⟩ : ∃ L : List Spt, (∀ s ∈ L, Rc p s) ∧ L.length ≤ 14000010 ∧ ∀ (kp : Nat → Option Nat) (t : MO) (g : MH), kp 1 = none → th (res kp (t :: .lst (((run.set a lst).set (run.length - 1) here).map Qp) :: g) 3) (enc o) = some (.lst (L.map Qp)) := by
  cases o with
  | none =>
   refine ⟨_, rS', by omega, fun kp t g hk => ?_⟩
   show th _ (.ref 1) = _
   unfold th res
   simp only [hk, List.getElem?_cons_succ, List.getElem?_cons_zero]
   rw [Xm _ _ WV]; rfl
  | some L =>
   obtain ⟨q1, q2⟩ := hw _ ho L rfl
   exact ⟨L, q1, q2, fun _ _ _ _ => Qdo⟩
 refine ⟨L, f4, hLr, hLl, fun h n hn => ?_⟩
 refine Wc (ws := [ZX p, Jr p, .lst (run.map Qp)]) (o := QA f) (o' := QA f4) (g := [.lst (((run.set a lst).set (run.length - 1) here).map Qp), .lst (ways.map enc)]) (w := enc o) (by simp) hn (by simp [QA]) ?_ ⟨_, rfl, by simp⟩ (hres _ _ _ rfl)
 clear hres hw hLr hLl hn
 have x41 := x4 other
 have x42 := x4 one
 have x43 := x4 tw
 have y1 := y here
 have y2 := y other
 have y3 := y one
 have y4 := y tw
 clear x4 y
 simp only [ways, enc, List.map_cons, List.map_nil] at eo ⊢
 generalize hQ : (match o with | none => W.ref 1 | some L => W.lst (L.map Qp)) = Q at *
 clear hQ
 generalize ((run.set a lst).set (run.length - 1) here).map Qp = SWP at *
 generalize (run.take a ++ [here] ++ run.drop a).map Qp = Z1 at *
 generalize (run.take a ++ [other] ++ run.drop (a + 1)).map Qp = Z2 at *
 generalize (run.take a ++ [one] ++ run.drop (a + 1)).map Qp = Z3 at *
 generalize (run.take a ++ [tw] ++ run.drop (a + 1)).map Qp = Z4 at *
 generalize (run.take a ++ run.drop (a + 1)).map Qp = Z0 at *
 generalize (run.take a ++ [here]).map Qp = Y1 at *
 generalize (run.take a ++ [other]).map Qp = Y2 at *
 generalize (run.take a ++ [one]).map Qp = Y3 at *
 generalize (run.take a ++ [tw]).map Qp = Y4 at *
 generalize (T ++ [one]).map Qp = TO at *
 generalize (run ++ [one]).map Qp = RO at *
 generalize (run.drop (a + 1)).map Qp = DA1 at *
 generalize (run.drop a).map Qp = DA at *
 generalize (run.drop 1).map Qp = D1 at *
 generalize (run.take a).map Qp = TA at *
 generalize T.map Qp = TT at *
 generalize every.map Qp = E at *
 generalize run.map Qp = R at *
 have k4 : 4 < sizeLine := by decide
 have k5 : 5 < sizeLine := by decide
 have k6 : 6 < sizeLine := by decide
 have k7 : 7 < sizeLine := by decide
 have k8 : 8 < sizeLine := by decide
 have k4' : 4 ≤ sizeLine := by decide
 simp [VC, Zd, eall, e1, e2, e3, e4, hR, hE, ia, ib, ic, ilst, eT, x0, x1, itw, sw1, sw2, sw, d1, da, da1, ta, x2, x3, x41, x42, x43, y1, y2, y3, y4, k4, k5, k6, k7, k8, k4', eo]
end
end My

namespace My
open PySem PySem.Spec PyProof.Rows L2 Mi My3 My4
theorem Xs {H0 : MH} {o : MO} : (H0 ++ [o])[H0.length]? = some o := by simp
theorem VZ {H0 : MH} {o o' : MO} : (H0 ++ [o]).set H0.length o' = H0 ++ [o'] := by simp
theorem QhX {m : Int} (h0 : 2 ≤ m) (h1 : m ≤ 8) : Builtin.Range.small 0 m 2 = true ∧ ∃ n : Nat, (Builtin.Range.rangeSize 0 m 2).toNat = n ∧ n ≤ 4 := by
 have key : ∀ n : Fin 9, Builtin.Range.small 0 (n.val : Int) 2 = true ∧ (Builtin.Range.rangeSize 0 (n.val : Int) 2).toNat ≤ 4 := by decide
 obtain ⟨n, rfl⟩ := Int.eq_ofNat_of_zero_le (Int.le_trans (by decide) h0)
 have h := key ⟨n, Nat.lt_succ_of_le (Int.ofNat_le.mp h1)⟩
 exact ⟨h.1, _, rfl, h.2⟩
theorem Qch {ms : MA} {σ : MSt} {h h' : MH} {m : Int} (e : ms σ h = some ([.int 0, .int m, .int 2], h')) (h0 : 2 ≤ m) (h1 : m ≤ 8) : ∃ n : Nat, n ≤ 4 ∧ Qdn ms σ h = some (Jn 0 2 n, none, h') := by
 obtain ⟨hs, n, hn, hl⟩ := QhX h0 h1
 refine ⟨n, hl, ?_⟩
 unfold Qdn
 rw [e, Option.bind_some]
 refine (if_pos ⟨by decide, by decide, hs⟩).trans ?_
 rw [hn]
noncomputable abbrev zS (ns : List Int) (j : Nat) (p : List Pt) (n : Nat) (run : List Spt) (x6 x7 x8 : Option W) : MSt := [some (.frz (ns.map .int)), some (.int j), some (ZX p), some (.ref n), some (Jr p), some (.lst (run.map Qp)), x6, x7, x8]
section
variable {bs ws : List Str} {p : List Pt}
theorem Qca (hg : GoodP 700 bs ws p) {ns : List Int} {j n : Nat} {run L : List Spt} {x7 x8 : Option W} {h : MH} (hL : ∀ s ∈ L, Rc p s) (hl : L.length ≤ 16000000) : ∃ y7 y8, Ko (zS ns j p n run (some (.lst (L.map Qp))) x7 x8) h = some (.nx (zS ns j p n run (some (.lst (L.map Qp))) y7 y8) h) := by
 refine ⟨some (.lst (L.map Qp)), some (.bl (WT p L)), ?_⟩
 have e1 := Qbt hg hL hl
 have e2 := Qgr hg hL hl
 have e3 : ∀ h, wNe (.lst (L.map Qp)) (.lst (L.map Qp)) h = some (.bl false, h) := fun h => QhS
 have e4 : ∀ h, wNe (.bl (WT p L)) (.bl (WT p L)) h = some (.bl false, h) := fun h => by rw [neB]; simp
 generalize WT p L = b at *
 generalize L.map Qp = R at *
 simp [e1, e2, e3, e4, KL]
theorem QbH (hg : GoodP 700 bs ws p) {ns : List Int} {j n : Nat} {run : List Spt} {h : MH} {x6 x7 x8 : Option W} {items : List W} (Ls : List (List Spt)) (hL : ∀ L ∈ Ls, (∀ s ∈ L, Rc p s) ∧ L.length ≤ 16000000) : ∃ y6 y7 y8, Vk items none (J2 6) Ko (Ls.map fun L => .lst (L.map Qp)) (zS ns j p n run x6 x7 x8) h = some (.nx (zS ns j p n run y6 y7 y8) h) := by
 obtain ⟨σ', h', e, y6, y7, y8, rfl, rfl⟩ := Vi (items := items) (b := J2 6) (body := Ko) (fun _ σ h' => ∃ y6 y7 y8, σ = zS ns j p n run y6 y7 y8 ∧ h' = h) (Ls.map fun L => .lst (L.map Qp)) 0 (zS ns j p n run x6 x7 x8) h ⟨_, _, _, rfl, rfl⟩ (by
  rintro i w hi σ h' ⟨y6, y7, y8, rfl, rfl⟩
  rw [List.getElem?_map] at hi
  obtain ⟨L, hLi, rfl⟩ := Option.map_eq_some_iff.mp hi
  obtain ⟨h1, h2⟩ := hL L (List.mem_iff_getElem?.mpr ⟨i, hLi⟩)
  obtain ⟨z7, z8, e⟩ := Qca hg (ns := ns) (j := j) (n := n) (run := run) (x7 := y7) (x8 := y8) (h := h') h1 h2
  exact ⟨_, rfl, _, _, .inl e, _, _, _, rfl, rfl⟩)
 exact ⟨_, _, _, e⟩
end
theorem Qcb {ns : List Int} {j : Nat} {x2 x3 x4 x5 x6 x7 x8 : Option W} {h : MH} (hj : j < 50) : ∃ y2 y3 y4 y5 y6 y7 y8 h', Yy [some (.frz (ns.map .int)), some (.int j), x2, x3, x4, x5, x6, x7, x8] h = some (.nx [some (.frz (ns.map .int)), some (.int j), y2, y3, y4, y5, y6, y7, y8] h') := by
 obtain ⟨f1, ef1⟩ := Qa6 ns j (by omega)
 obtain ⟨bs, ws, p0, f1', hb, hw, hg0, ea⟩ := Qfg f1 3 3 5 8 (by decide) (by decide) (by decide) (by decide)
 obtain ⟨f2, ef2⟩ := Qa6 ns (j + 1) (by omega)
 obtain ⟨p, f2', hg, ed⟩ := GE f2 bs ws p0 hg0
 obtain ⟨run, f3, hne, hrc, hrl, er⟩ := QfG hg f2'
 obtain ⟨L1, f4, r1, l1, eb1⟩ := Qai hg hne hrc hrl f3
 obtain ⟨L2, f5, r2, l2, eb2⟩ := Qai hg hne hrc hrl f4
 have e1 := ef1 h
 have e2 := ea (h ++ [QA f1]) h.length Xs
 rw [VZ] at e2
 have e3 := ef2 (h ++ [QA f1'])
 have e4 := ed (h ++ [QA f1'] ++ [QA f2]) (h ++ [QA f1']).length Xs
 rw [VZ] at e4
 have e5 := er (h ++ [QA f1'] ++ [QA f2']) (h ++ [QA f1']).length Xs
 rw [VZ] at e5
 have e6 := eb1 (h ++ [QA f1'] ++ [QA f3]) (h ++ [QA f1']).length Xs
 rw [VZ] at e6
 have e7 := eb2 (h ++ [QA f1'] ++ [QA f4]) (h ++ [QA f1']).length Xs
 rw [VZ] at e7
 push_cast at e3 e2
 generalize h ++ [QA f1'] ++ [QA f2] = H2 at e3 e4
 generalize h ++ [QA f1'] ++ [QA f2'] = H3 at e4 e5
 generalize h ++ [QA f1'] ++ [QA f3] = H4 at e5 e6
 generalize h ++ [QA f1'] ++ [QA f4] = H5 at e6 e7
 generalize h ++ [QA f1'] ++ [QA f5] = H6 at e7
 generalize (h ++ [QA f1']).length = n at e3 e4 e5 e6 e7
 generalize h ++ [QA f1'] = H1 at e2 e3
 generalize h ++ [QA f1] = H0 at e1 e2
 have ero : ∀ y3 y4 y5 y6 y7 y8, Jd V4 (Ja (Qg 2)) [none] (J2 0) Ku (Qv 1 QS (Qc (Ql wIx (Qg 0) (mC (.int 1))) Qm)) [some (.frz (ns.map .int)), some (.int j), some (ZX p), y3, y4, y5, y6, y7, y8] H3 = some (Jr p, H3) := fun _ _ _ _ _ _ => QeF (i := 2) rfl hg
 obtain ⟨y6, y7, y8, el⟩ := QbH hg (ns := ns) (j := j) (n := n) (run := run) (h := H6) (x6 := x6) (x7 := x7) (x8 := x8) (items := [run, L1, L2, []].map fun L => .lst (L.map Qp)) [run, L1, L2, []] (by
  intro L hL
  simp only [List.mem_cons, List.not_mem_nil, or_false] at hL
  rcases hL with rfl | rfl | rfl | rfl
  ·exact ⟨hrc, by omega⟩
  ·exact ⟨r1, by omega⟩
  ·exact ⟨r2, by omega⟩
  ·exact ⟨by simp, by simp⟩)
 refine ⟨some (ZX p), some (.ref n), some (Jr p), some (.lst (run.map Qp)), y6, y7, y8, H6, ?_⟩
 have ei : Ja (mFn Vf (Qc (Qg 5) (Qc (Qv 4 Q8 (Qc (Qg 2) (Qc (Qg 4) (Qc (Qg 5) (Qc (Qg 3) Qm))))) (Qc (Qv 4 Q8 (Qc (Qg 2) (Qc (Qg 4) (Qc (Qg 5) (Qc (Qg 3) Qm))))) (Qc (mFn Vf Qm) Qm))))) (zS ns j p n run x6 x7 x8) H4 = some ([run, L1, L2, []].map (fun L => W.lst (L.map Qp)), none, H6) := by
  have k4 : 4 ≤ sizeLine := by decide
  have : (mFn Vf (Qc (Qg 5) (Qc (Qv 4 Q8 (Qc (Qg 2) (Qc (Qg 4) (Qc (Qg 5) (Qc (Qg 3) Qm))))) (Qc (Qv 4 Q8 (Qc (Qg 2) (Qc (Qg 4) (Qc (Qg 5) (Qc (Qg 3) Qm))))) (Qc (mFn Vf Qm) Qm))))) (zS ns j p n run x6 x7 x8) H4 = some (.lst ([run, L1, L2, []].map (fun L => W.lst (L.map Qp))), H6) := by
   simp [e6, e7, k4]
  unfold Ja
  rw [this]
  rfl
 simp only [zS] at ei el
 generalize ([run, L1, L2, []].map fun L => W.lst (L.map Qp)) = its at ei el
 simp [e1, e2, e3, e4, ero, e5, XG, ei, el]
theorem main (ns : List Int) (_ : ns.length ≤ 63) : ∃ h', XJ [.frz (ns.map W.int)] [] = some (.bl true, h') := by
 obtain ⟨m, hm⟩ : ∃ m : Int, m = (if (if (ns.length : Int) < 8 then (ns.length : Int) else 8) > 2 then (if (ns.length : Int) < 8 then (ns.length : Int) else 8) else 2) := ⟨_, rfl⟩
 have h0 : 2 ≤ m := by rw [hm]; split <;> omega
 have h1 : m ≤ 8 := by rw [hm]; split <;> split <;> omega
 have e0 : (Qc (mC (.int 0)) (Qc (mFn Qgn (Qc (mC (.int 2)) (Qc (mFn Qf1 (Qc (mC (.int 8)) (Qc (mFn Js (Qc (Qg 0) Qm)) Qm))) Qm))) (Qc (mC (.int 2)) Qm))) [some (.frz (ns.map .int)), none, none, none, none, none, none, none, none] [] = some ([.int 0, .int m, .int 2], []) := by
  rw [hm]
  simp only [QfL, s_c, QjC, QfO, Qh2, Qd6, Qfb, QhW, QhP, List.length_map]
 obtain ⟨n, hn, er⟩ := Qch e0 h0 h1
 have loop := Vi (items := Jn 0 2 n) (b := J2 1) (body := Yy) (fun _ σ _ => ∃ y1 y2 y3 y4 y5 y6 y7 y8, σ = [some (.frz (ns.map .int)), y1, y2, y3, y4, y5, y6, y7, y8]) (Jn 0 2 n) 0 [some (.frz (ns.map .int)), none, none, none, none, none, none, none, none] [] ⟨_, _, _, _, _, _, _, _, rfl⟩ (by
  rintro i w hi σ h ⟨y1, y2, y3, y4, y5, y6, y7, y8, rfl⟩
  obtain ⟨hil, rfl⟩ := V9 hi
  obtain ⟨z2, z3, z4, z5, z6, z7, z8, h', e⟩ := Qcb (ns := ns) (j := 2 * i) (x2 := y2) (x3 := y3) (x4 := y4) (x5 := y5) (x6 := y6) (x7 := y7) (x8 := y8) (h := h) (by omega)
  have ew : (0 : Int) + (i : Int) * 2 = ((2 * i : Nat) : Int) := by omega
  rw [ew]
  exact ⟨_, rfl, _, h', .inl e, _, _, _, _, _, _, _, _, rfl⟩)
 obtain ⟨σ', h', el, y1, y2, y3, y4, y5, y6, y7, y8, rfl⟩ := loop
 refine ⟨h', ?_⟩
 simp [XJ, Zd, XG, er, el]
end My

def PySem.W.Fast.tw2733996675067891083 : Unit := ()
def PySem.W.Fast.tw6644478526248768643 : Unit := ()
def PySem.W.Fast.tw3261299877808230737 : Unit := ()
def PySem.W.Fast.tw13556170961144185112 : Unit := ()
def PySem.W.Fast.tw8314201969406296553 : Unit := ()
def PySem.W.Fast.tw7911819882117986556 : Unit := ()
def PySem.W.Fast.tw15271634758292833277 : Unit := ()
def PySem.W.Fast.tw12667469754302797476 : Unit := ()
def PySem.W.Fast.tw13052165911212273795 : Unit := ()
def PySem.W.Fast.tw16306385795179446706 : Unit := ()
def PySem.W.Fast.tw6926658066119597159 : Unit := ()
def PySem.W.Fast.tw11984442035614607288 : Unit := ()
def PySem.W.Fast.tw17291122819310301875 : Unit := ()
def PySem.W.Fast.tw15960822966928396077 : Unit := ()
def PySem.W.Fast.tw5469664895746532863 : Unit := ()
def PySem.W.Fast.tw15228534654853892073 : Unit := ()
def PySem.W.Fast.tw16464160051795634004 : Unit := ()
def PySem.W.Fast.tw7041049337134178770 : Unit := ()
def PySem.W.Fast.tw11471799348905915163 : Unit := ()
def PySem.W.Fast.tw4862335344809263252 : Unit := ()
def PySem.W.Fast.tw16392901801719635860 : Unit := ()
def PySem.W.Fast.tw11540133849539154111 : Unit := ()
def PySem.W.Fast.tw7997590710913474417 : Unit := ()
def PySem.W.Fast.tw8245479480665805425 : Unit := ()
def PySem.W.Fast.tw1628565970280440945 : Unit := ()
def PySem.W.Fast.tw14780485086138508535 : Unit := ()
def PySem.W.Fast.tw8253207281414629504 : Unit := ()
def PySem.W.Fast.tw3232054381404734384 : Unit := ()
def PySem.W.Fast.tw646181499032948113 : Unit := ()
def PySem.W.Fast.tw11416008849630321329 : Unit := ()
def PySem.W.Fast.tw14757393670462490248 : Unit := ()
def PySem.W.Fast.tw12397303326912691846 : Unit := ()
def PySem.W.Fast.tw232603204136537026 : Unit := ()
def PySem.W.Fast.tw8077213189580257616 : Unit := ()
def PySem.W.Fast.tw5062739840443675631 : Unit := ()
def PySem.W.Fast.tw7949912934933744229 : Unit := ()
def PySem.W.Fast.tw17552703715639560586 : Unit := ()
def PySem.W.Fast.tw7325764677047851388 : Unit := ()
def PySem.W.Fast.tw1480515237979102194 : Unit := ()
def PySem.W.Fast.tw12953417812440269138 : Unit := ()
def PySem.W.Fast.tw8160344376065862304 : Unit := ()
def PySem.W.Fast.tw11082627843633764390 : Unit := ()
open PySem PySem.W PyProof.Rows
set_option maxRecDepth 100000 in
set_option maxHeartbeats 0 in
theorem PySem.Challenge.cw_doneroom_k14_what_is_a_run_holds : PySem.Challenge.rw_doneroom_k14_what_is_a_run.Holds := by
  w_on; o_law; k_head; (case hw => w_witness2)
  k_fill
  refine Mi.QgW (l := PySem.Challenge.rw_doneroom_k14_what_is_a_run) (st := My.Wb) (sem := My.XJ) (k := 7) rfl rfl ⟨rfl, by decide, by decide⟩ rfl (fun w h Y => PySem.W.kIn_of Y) (fun _ _ _ _ _ _ _ _ => .of_eq rfl) ?F My.main
  case F =>
    intro w mg h KX G
    have d__law_take : Mi.DefAt (L2.KOf KX) mg "_law_take" My.JJ ["feed", "many"] := by
      dsimp only [L2.KOf]
      refine' Mi.QF KX G ?a ?l ?c ?k ?b
      (case a => k_is); (case l => k_is); (case c => k_is); (case k => k_is)
      (case b => exact fun _ _ _ _ _ _ us hl => match us, hl with | [_, _], _ => rfl)
    have d__law_names : Mi.DefAt (L2.KOf KX) mg "_law_names" My.Zu ["feed", "many"] := by
      dsimp only [L2.KOf]
      refine' Mi.QF KX G ?a ?l ?c ?k ?b
      (case a => k_is); (case l => k_is); (case c => k_is); (case k => k_is)
      (case b => exact fun _ _ _ _ _ _ us hl => match us, hl with | [_, _], _ => rfl)
    have d__law_step_on : Mi.DefAt (L2.KOf KX) mg "_law_step_on" My.ZA ["lines", "opened"] := by
      dsimp only [L2.KOf]
      refine' Mi.QF KX G ?a ?l ?c ?k ?b
      (case a => k_is); (case l => k_is); (case c => k_is); (case k => k_is)
      (case b => exact fun _ _ _ _ _ _ us hl => match us, hl with | [_, _], _ => rfl)
    have d__law_plain : Mi.DefAt (L2.KOf KX) mg "_law_plain" My.Jg ["feed", "boxes", "words"] := by
      dsimp only [L2.KOf]
      refine' Mi.QF KX G ?a ?l ?c ?k ?b
      (case a => k_is); (case l => k_is); (case c => k_is); (case k => k_is)
      (case b => exact fun _ _ _ _ _ _ us hl => match us, hl with | [_, _, _], _ => rfl)
    have d__law_part : Mi.DefAt (L2.KOf KX) mg "_law_part" My.JK ["feed", "size", "menus", "later", "opens", "dos"] := by
      dsimp only [L2.KOf]
      refine' Mi.QF KX G ?a ?l ?c ?k ?b
      (case a => k_is); (case l => k_is); (case c => k_is); (case k => k_is)
      (case b => exact fun _ _ _ _ _ _ us hl => match us, hl with | [_, _, _, _, _, _], _ => rfl)
    have d__law_program : Mi.DefAt (L2.KOf KX) mg "_law_program" My.ZK ["feed", "bounds"] := by
      dsimp only [L2.KOf]
      refine' Mi.QF KX G ?a ?l ?c ?k ?b
      (case a => k_is); (case l => k_is); (case c => k_is); (case k => k_is)
      (case b => exact fun _ _ _ _ _ _ us hl => match us, hl with | [_, _], _ => rfl)
    have d__law_great : Mi.DefAt (L2.KOf KX) mg "_law_great" My.Zs ["feed"] := by
      dsimp only [L2.KOf]
      refine' Mi.QF KX G ?a ?l ?c ?k ?b
      (case a => k_is); (case l => k_is); (case c => k_is); (case k => k_is)
      (case b => exact fun _ _ _ _ _ _ us hl => match us, hl with | [_], _ => rfl)
    have d__law_any : Mi.DefAt (L2.KOf KX) mg "_law_any" My.JW ["feed", "bounds"] := by
      dsimp only [L2.KOf]
      refine' Mi.QF KX G ?a ?l ?c ?k ?b
      (case a => k_is); (case l => k_is); (case c => k_is); (case k => k_is)
      (case b => exact fun _ _ _ _ _ _ us hl => match us, hl with | [_, _], _ => rfl)
    have d__law_feed : Mi.DefAt (L2.KOf KX) mg "_law_feed" My.JH ["script", "k"] := by
      dsimp only [L2.KOf]
      refine' Mi.QF KX G ?a ?l ?c ?k ?b
      (case a => k_is); (case l => k_is); (case c => k_is); (case k => k_is)
      (case b => exact fun _ _ _ _ _ _ us hl => match us, hl with | [_, _], _ => rfl)
    have d__law_dressed : Mi.DefAt (L2.KOf KX) mg "_law_dressed" My.ZH ["program", "feed"] := by
      dsimp only [L2.KOf]
      refine' Mi.QF KX G ?a ?l ?c ?k ?b
      (case a => k_is); (case l => k_is); (case c => k_is); (case k => k_is)
      (case b => exact fun _ _ _ _ _ _ us hl => match us, hl with | [_, _], _ => rfl)
    have d__law_next : Mi.DefAt (L2.KOf KX) mg "_law_next" My.JI ["program", "rows", "spot"] := by
      dsimp only [L2.KOf]
      refine' Mi.QF KX G ?a ?l ?c ?k ?b
      (case a => k_is); (case l => k_is); (case c => k_is); (case k => k_is)
      (case b => exact fun _ _ _ _ _ _ us hl => match us, hl with | [_, _, _], _ => rfl)
    have d__law_run : Mi.DefAt (L2.KOf KX) mg "_law_run" My.J7 ["program", "rows", "feed"] := by
      dsimp only [L2.KOf]
      refine' Mi.QF KX G ?a ?l ?c ?k ?b
      (case a => k_is); (case l => k_is); (case c => k_is); (case k => k_is)
      (case b => exact fun _ _ _ _ _ _ us hl => match us, hl with | [_, _, _], _ => rfl)
    have d__law_blocks : Mi.DefAt (L2.KOf KX) mg "_law_blocks" My.ZZ ["lines"] := by
      dsimp only [L2.KOf]
      refine' Mi.QF KX G ?a ?l ?c ?k ?b
      (case a => k_is); (case l => k_is); (case c => k_is); (case k => k_is)
      (case b => exact fun _ _ _ _ _ _ us hl => match us, hl with | [_], _ => rfl)
    have d__law_all : Mi.DefAt (L2.KOf KX) mg "_law_all" My.J6 ["program", "rows"] := by
      dsimp only [L2.KOf]
      refine' Mi.QF KX G ?a ?l ?c ?k ?b
      (case a => k_is); (case l => k_is); (case c => k_is); (case k => k_is)
      (case b => exact fun _ _ _ _ _ _ us hl => match us, hl with | [_, _], _ => rfl)
    have d__law_bent : Mi.DefAt (L2.KOf KX) mg "_law_bent" My.Jf ["program", "rows", "run", "feed"] := by
      dsimp only [L2.KOf]
      refine' Mi.QF KX G ?a ?l ?c ?k ?b
      (case a => k_is); (case l => k_is); (case c => k_is); (case k => k_is)
      (case b => exact fun _ _ _ _ _ _ us hl => match us, hl with | [_, _, _, _], _ => rfl)
    have d_first_spot : Mi.DefAt (L2.KOf KX) mg "first_spot" My.Jl [] := by
      dsimp only [L2.KOf]
      refine' Mi.QF KX G ?a ?l ?c ?k ?b
      (case a => k_is); (case l => k_is); (case c => k_is); (case k => k_is)
      (case b => exact fun _ _ _ _ _ _ us hl => match us, hl with | [], _ => rfl)
    have d_line_of : Mi.DefAt (L2.KOf KX) mg "line_of" My.Vm ["program", "spot"] := by
      dsimp only [L2.KOf]
      refine' Mi.QF KX G ?a ?l ?c ?k ?b
      (case a => k_is); (case l => k_is); (case c => k_is); (case k => k_is)
      (case b => exact fun _ _ _ _ _ _ us hl => match us, hl with | [_, _], _ => rfl)
    have d_at_gap : Mi.DefAt (L2.KOf KX) mg "at_gap" My.VQ ["spot", "k"] := by
      dsimp only [L2.KOf]
      refine' Mi.QF KX G ?a ?l ?c ?k ?b
      (case a => k_is); (case l => k_is); (case c => k_is); (case k => k_is)
      (case b => exact fun _ _ _ _ _ _ us hl => match us, hl with | [_, _], _ => rfl)
    have d_at_head : Mi.DefAt (L2.KOf KX) mg "at_head" My.Vw ["spot", "k"] := by
      dsimp only [L2.KOf]
      refine' Mi.QF KX G ?a ?l ?c ?k ?b
      (case a => k_is); (case l => k_is); (case c => k_is); (case k => k_is)
      (case b => exact fun _ _ _ _ _ _ us hl => match us, hl with | [_, _], _ => rfl)
    have d_level_change : Mi.DefAt (L2.KOf KX) mg "level_change" My.ZM ["line"] := by
      dsimp only [L2.KOf]
      refine' Mi.QF KX G ?a ?l ?c ?k ?b
      (case a => k_is); (case l => k_is); (case c => k_is); (case k => k_is)
      (case b => exact fun _ _ _ _ _ _ us hl => match us, hl with | [_], _ => rfl)
    have d_head_of : Mi.DefAt (L2.KOf KX) mg "head_of" My.Vu ["lines", "k"] := by
      dsimp only [L2.KOf]
      refine' Mi.QF KX G ?a ?l ?c ?k ?b
      (case a => k_is); (case l => k_is); (case c => k_is); (case k => k_is)
      (case b => exact fun _ _ _ _ _ _ us hl => match us, hl with | [_, _], _ => rfl)
    have d_found_behind : Mi.DefAt (L2.KOf KX) mg "found_behind" My.ZF ["lines", "k", "kind"] := by
      dsimp only [L2.KOf]
      refine' Mi.QF KX G ?a ?l ?c ?k ?b
      (case a => k_is); (case l => k_is); (case c => k_is); (case k => k_is)
      (case b => exact fun _ _ _ _ _ _ us hl => match us, hl with | [_, _, _], _ => rfl)
    have d_or_of : Mi.DefAt (L2.KOf KX) mg "or_of" My.XC ["lines", "k"] := by
      dsimp only [L2.KOf]
      refine' Mi.QF KX G ?a ?l ?c ?k ?b
      (case a => k_is); (case l => k_is); (case c => k_is); (case k => k_is)
      (case b => exact fun _ _ _ _ _ _ us hl => match us, hl with | [_, _], _ => rfl)
    have d_end_of : Mi.DefAt (L2.KOf KX) mg "end_of" My.VR ["lines", "k"] := by
      dsimp only [L2.KOf]
      refine' Mi.QF KX G ?a ?l ?c ?k ?b
      (case a => k_is); (case l => k_is); (case c => k_is); (case k => k_is)
      (case b => exact fun _ _ _ _ _ _ us hl => match us, hl with | [_, _], _ => rfl)
    have d_next_in_part : Mi.DefAt (L2.KOf KX) mg "next_in_part" My.ZG ["lines", "spot"] := by
      dsimp only [L2.KOf]
      refine' Mi.QF KX G ?a ?l ?c ?k ?b
      (case a => k_is); (case l => k_is); (case c => k_is); (case k => k_is)
      (case b => exact fun _ _ _ _ _ _ us hl => match us, hl with | [_, _], _ => rfl)
    have d_behind_do : Mi.DefAt (L2.KOf KX) mg "behind_do" My.JG ["spot"] := by
      dsimp only [L2.KOf]
      refine' Mi.QF KX G ?a ?l ?c ?k ?b
      (case a => k_is); (case l => k_is); (case c => k_is); (case k => k_is)
      (case b => exact fun _ _ _ _ _ _ us hl => match us, hl with | [_], _ => rfl)
    have d_part_number : Mi.DefAt (L2.KOf KX) mg "part_number" My.Z5 ["program", "name"] := by
      dsimp only [L2.KOf]
      refine' Mi.QF KX G ?a ?l ?c ?k ?b
      (case a => k_is); (case l => k_is); (case c => k_is); (case k => k_is)
      (case b => exact fun _ _ _ _ _ _ us hl => match us, hl with | [_, _], _ => rfl)
    have d_next_spots : Mi.DefAt (L2.KOf KX) mg "next_spots" My.Jh ["program", "spot"] := by
      dsimp only [L2.KOf]
      refine' Mi.QF KX G ?a ?l ?c ?k ?b
      (case a => k_is); (case l => k_is); (case c => k_is); (case k => k_is)
      (case b => exact fun _ _ _ _ _ _ us hl => match us, hl with | [_, _], _ => rfl)
    have d_is_run : Mi.DefAt (L2.KOf KX) mg "is_run" My.VW ["program", "spots"] := by
      dsimp only [L2.KOf]
      refine' Mi.QF KX G ?a ?l ?c ?k ?b
      (case a => k_is); (case l => k_is); (case c => k_is); (case k => k_is)
      (case b => exact fun _ _ _ _ _ _ us hl => match us, hl with | [_, _], _ => rfl)
    have d__law_due : Mi.DefAt (L2.KOf KX) mg "_law_due" My.Jq ["program", "rows", "run"] := by
      dsimp only [L2.KOf]
      refine' Mi.QF KX G ?a ?l ?c ?k ?b
      (case a => k_is); (case l => k_is); (case c => k_is); (case k => k_is)
      (case b => exact fun _ _ _ _ _ _ us hl => match us, hl with | [_, _, _], _ => rfl)
    have d_law : Mi.DefAt (L2.KOf KX) mg "law" My.Wb ["script"] := by
      dsimp only [L2.KOf]
      refine' Mi.QF KX G ?a ?l ?c ?k ?b
      (case a => k_is); (case l => k_is); (case c => k_is); (case k => k_is)
      (case b => exact fun _ _ _ _ _ _ us hl => match us, hl with | [_], _ => rfl)
    have b_bool : mg "bool" = none := by
      refine' PySem.W.mg_none_of KX G ?a
      (case a => k_is)
    have b_isinstance : mg "isinstance" = none := by
      refine' PySem.W.mg_none_of KX G ?a
      (case a => k_is)
    have b_len : mg "len" = none := by
      refine' PySem.W.mg_none_of KX G ?a
      (case a => k_is)
    have b_list : mg "list" = none := by
      refine' PySem.W.mg_none_of KX G ?a
      (case a => k_is)
    have b_max : mg "max" = none := by
      refine' PySem.W.mg_none_of KX G ?a
      (case a => k_is)
    have b_min : mg "min" = none := by
      refine' PySem.W.mg_none_of KX G ?a
      (case a => k_is)
    have b_range : mg "range" = none := by
      refine' PySem.W.mg_none_of KX G ?a
      (case a => k_is)
    have b_tuple : mg "tuple" = none := by
      refine' PySem.W.mg_none_of KX G ?a
      (case a => k_is)
    exact ⟨d_law, fun base kb nb => My.Qd8 d__law_take d__law_names d__law_step_on d__law_plain d__law_part d__law_program d__law_great d__law_any d__law_feed d__law_dressed d__law_next d__law_run d__law_blocks d__law_all d__law_bent d_first_spot d_line_of d_at_gap d_at_head d_level_change d_head_of d_found_behind d_or_of d_end_of d_next_in_part d_behind_do d_part_number d_next_spots d_is_run d__law_due d_law b_bool b_isinstance b_len b_list b_max b_min b_range b_tuple⟩
