import PyProof.Rows.All
import Wide.All
import OpenK.AllK
import Wide.FinOn
import Lean
import PyProof.EqAt
import PyProof.EqKinds
import PyProof.TupleCall
import KE.KDictList
import KE.KRevIter
import KE.KTurns
import PyProof.ExcAttrAll.ValueError
import KE.KIsAll
import PySem.Challenge.RW_doneroom_k10_refusals_apart
set_option Elab.async false
set_option bootstrap.genMatcherCode false
set_option linter.all false
set_option maxRecDepth 100000
noncomputable section
/-! THE HAND LAYER, for ints, bools, texts, own classes, LISTS and tuples (index, slices, in, append, pop ..), calls, loops. Paste it whole ahead of your own text; what your proof does not reach may be deleted. -/
namespace L2
open PySem PySem.Spec PyProof.Rows

noncomputable abbrev Key := Sum Int Str
noncomputable def YA : Key → Value → Bool
  | .inl k, v => Value.isInt k v
  | .inr x, v => Value.isStrOf x v
noncomputable def Ul (w : World) : Key → Int
  | .inl k => hashInt k
  | .inr x => hashStr w x
theorem Qg : ∀ {k : Key} {v : Value}, YA k v = true → (∃ i t, k = Sum.inl i ∧ v = Value.int i t) ∨ (∃ x t, k = Sum.inr x ∧ v = Value.str x t)
  | .inl i, v, h => by
    obtain ⟨t, e⟩ := Value.isInt_shape (k := i) (v := v) h
    exact .inl ⟨i, t, rfl, e⟩
  | .inr x, v, h => by
    obtain ⟨t, e⟩ := Value.isStrOf_shape (x := x) (v := v) h
    exact .inr ⟨x, t, rfl, e⟩
theorem Ys (a b : Int) : decide ((Sum.inl a : Key) = Sum.inl b) = (a == b) := by
  by_cases e : a = b
  · subst e; simp
  · have h : ¬ (Sum.inl a : Key) = Sum.inl b := fun q => e (Sum.inl.inj q)
    rw [decide_eq_false h]
    exact (beq_eq_false_iff_ne.mpr e).symm
theorem Ye (a b : Str) : decide ((Sum.inr a : Key) = Sum.inr b) = decide (a = b) := by
  by_cases e : a = b
  · subst e; simp
  · have h : ¬ (Sum.inr a : Key) = Sum.inr b := fun q => e (Sum.inr.inj q)
    rw [decide_eq_false h, decide_eq_false e]
theorem Yb (a : Int) (b : Str) : decide ((Sum.inl a : Key) = Sum.inr b) = false := decide_eq_false (fun q => nomatch q)
theorem KW (a : Str) (b : Int) : decide ((Sum.inr a : Key) = Sum.inl b) = false := decide_eq_false (fun q => nomatch q)

noncomputable def Vz (prog : Program) (w : World) : PySem.KeyKind prog w Key where
  is := YA
  hash := Ul w
  inj := fun v a b ha hb => by
    rcases Qg ha with ⟨i, t, rfl, rfl⟩ | ⟨x, t, rfl, rfl⟩
    · rcases Qg hb with ⟨j, u, rfl, e⟩ | ⟨y, u, rfl, e⟩
      · injection e with e1 _; rw [e1]
      · exact nomatch e
    · rcases Qg hb with ⟨j, u, rfl, e⟩ | ⟨y, u, rfl, e⟩
      · exact nomatch e
      · injection e with e1 _; rw [e1]
  byValue := fun k v h => by
    rcases Qg h with ⟨i, t, rfl, rfl⟩ | ⟨x, t, rfl, rfl⟩ <;> rfl
  pyHash := fun hv h => by
    rcases Qg hv with ⟨i, t, rfl, rfl⟩ | ⟨x, t, rfl, rfl⟩
    · exact wpAny_pyHash_int h
    · exact wpAny_pyHash_str h
  eqBool := fun hu hv h => by
    rcases Qg hu with ⟨i, t, rfl, rfl⟩ | ⟨x, t, rfl, rfl⟩
    · rcases Qg hv with ⟨j, u, rfl, rfl⟩ | ⟨y, u, rfl, rfl⟩
      · rw [Ys] at h; exact wpAny_eqBool_int h
      · rw [Yb] at h; exact SeqAt.EqAt.int_str i t y u _ _ _ _ h
    · rcases Qg hv with ⟨j, u, rfl, rfl⟩ | ⟨y, u, rfl, rfl⟩
      · rw [KW] at h; exact SeqAt.EqAt.str_int x t j u _ _ _ _ h
      · rw [Ye] at h; exact wpAny_eqBool_str h
  «strs» := fun k x t v h => by
    rcases Qg h with ⟨i, u, rfl, e⟩ | ⟨y, u, rfl, e⟩
    · exact nomatch e
    · injection e with e1 _
      subst e1
      cases v <;> rfl

end L2

namespace L2
open PySem PySem.Spec PyProof.Rows

inductive V where
  | non | bl (b : Bool) | int (i : Int) | str (x : Str) | byt (b : Array UInt8) | flt (b : UInt64) | ref (a : Addr) | ty (n : String)
  deriving DecidableEq

noncomputable def RelV : V → Value → Prop
  | .non, u => u = Value.none
  | .bl b, u => u = Value.bool b
  | .int i, u => ∃ t, u = Value.int i t
  | .str x, u => ∃ t, u = Value.str x t
  | .byt b, u => ∃ t, u = Value.bytes b t
  | .flt b, u => ∃ t, u = Value.float b t
  | .ref a, u => u = Value.ref a
  | .ty n, u => u = Value.type n

noncomputable abbrev Vals : List V → List Value → Prop := Paired RelV
theorem Vals.length {xs : List V} {us : List Value} (r : Vals xs us) : xs.length = us.length := Paired.length r
theorem Vals.get : ∀ {xs : List V} {us : List Value} {i : Nat} {x : V}, Vals xs us → xs[i]? = some x → ∃ u, us[i]? = some u ∧ RelV x u
  | _, _, _, _, .nil, e => by simp at e
  | _, _, 0, _, .cons r _, e => by simp at e; subst e; exact ⟨_, rfl, r⟩
  | _, _, i + 1, x, .cons _ t, e => by
    obtain ⟨u, h1, h2⟩ := Vals.get (i := i) (x := x) t (by simpa using e)
    exact ⟨u, by simpa using h1, h2⟩
theorem Vals.append : ∀ {xs ys : List V} {us ws : List Value}, Vals xs us → Vals ys ws → Vals (xs ++ ys) (us ++ ws)
  | _, _, _, _, .nil, s => s
  | _, _, _, _, .cons r t, s => .cons r (Vals.append t s)
noncomputable def RelO : Option V → Option Value → Prop
  | some v, some u => RelV v u
  | none, none => True
  | _, _ => False
noncomputable def KV {κ : Type} : List (κ × V) → List (κ × Value) → Prop := Paired fun (p : κ × V) (q : κ × Value) => p.1 = q.1 ∧ RelV p.2 q.2

inductive Tr where
  | i (n : Int)
  | s (x : Str)
  | t (ks : List Tr)
noncomputable instance trDec : DecidableEq Tr := fun _ _ => Classical.propDecidable _
noncomputable def IsT (h : Heap) : Nat → Tr → Value → Prop
  | 0, _, _ => False
  | _ + 1, .i k, v => (∃ t, v = .int k t) ∨ ∃ b : Bool, v = .bool b ∧ k = if b then 1 else 0
  | _ + 1, .s x, v => ∃ t, v = .str x t
  | n + 1, .t ks, v => ∃ a its, v = .ref a ∧ h.IsTuple a its ∧ Paired (IsT h n) ks its.toList
theorem Jn {α β : Type} {F : α → β → Prop} (hi : ∀ x y v, F x v → F y v → x = y) : ∀ {xs ys : List α} {vs : List β}, Paired F xs vs → Paired F ys vs → xs = ys
  | _, _, _, .nil, .nil => rfl
  | _, _, _, .cons a s, .cons b t => by rw [hi _ _ _ a b, Jn hi s t]
theorem Vs {h : Heap} {n : Nat} {x : Tr} {a : Addr} (hx : IsT h n x (.ref a)) : ∃ m ks its, n = m + 1 ∧ x = .t ks ∧ h.IsTuple a its ∧ Paired (IsT h m) ks its.toList := by
  cases n with
  | zero => exact hx.elim
  | succ n =>
    cases x with
    | i k => rcases hx with ⟨t, e⟩ | ⟨b, e, _⟩ <;> cases e
    | s y => obtain ⟨t, e⟩ := hx; cases e
    | t ks => obtain ⟨a', its, e, p, q⟩ := hx; cases e; exact ⟨n, ks, its, rfl, rfl, p, q⟩
theorem Z8 {h : Heap} {a : Addr} {x y : Array Value} (hx : h.IsTuple a x) (hy : h.IsTuple a y) : x = y := by
  obtain ⟨o, h1, _, n, h2⟩ := hx
  obtain ⟨o', h1', _, n', h2'⟩ := hy
  rw [h1] at h1'; cases h1'
  rw [h2] at h2'; injection h2'
theorem Z7 {h : Heap} : ∀ {n : Nat} (x y : Tr) (v : Value), IsT h n x v → IsT h n y v → x = y
  | 0, _, _, _, hx, _ => hx.elim
  | n + 1, x, y, v, hx, hy => by
    cases v with
    | ref a =>
      obtain ⟨m, ks, its, e, rfl, p, q⟩ := Vs hx
      obtain ⟨m', ls, its', e', rfl, p', q'⟩ := Vs hy
      cases e; cases e'
      cases Z8 p p'
      rw [Jn (fun x y v => Z7 (n := n) x y v) q q']
    | _ =>
      cases x with
      | i k =>
        cases y with
        | i k' =>
          rcases hx with ⟨t, e⟩ | ⟨b, e, rfl⟩ <;> cases e <;> rcases hy with ⟨t, e⟩ | ⟨b, e, rfl⟩ <;> cases e <;> rfl
        | s y => obtain ⟨t, e⟩ := hy; rcases hx with ⟨t, e'⟩ | ⟨b, e', _⟩ <;> (rw [e] at e'; cases e')
        | t ls => obtain ⟨a, its, e, _⟩ := hy; cases e
      | s z =>
        obtain ⟨t, e'⟩ := hx
        cases y with
        | i k => rcases hy with ⟨t, e⟩ | ⟨b, e, _⟩ <;> (rw [e] at e'; cases e')
        | s y => obtain ⟨t, e⟩ := hy; rw [e] at e'; cases e'; rfl
        | t ls => obtain ⟨a, its, e, _⟩ := hy; cases e
      | t ks => obtain ⟨a, its, e, _⟩ := hx; cases e
theorem Zp {α β : Type} {F G : α → β → Prop} (f : ∀ a b, F a b → G a b) : ∀ {l₁ : List α} {l₂ : List β}, Paired F l₁ l₂ → Paired G l₁ l₂
  | _, _, .nil => .nil
  | _, _, .cons r t => .cons (f _ _ r) (Zp f t)
theorem ZN {h h' : Heap} {d : Addr} {o : Obj} {es ep} (ho : h.get? d = some o) (hd : o.data = .dict es ep) (hs : Heap.SameBut d h h') : ∀ {n : Nat} (k : Tr) (v : Value), IsT h n k v → IsT h' n k v
  | 0, _, _, x => x.elim
  | n + 1, .i k, v, x => x
  | n + 1, .s k, v, x => x
  | n + 1, .t ks, v, ⟨a, its, e, ⟨o', ho', hc, m, hd'⟩, q⟩ => by
    have hne : a ≠ d := by
      rintro rfl
      rw [ho'] at ho; cases ho
      rw [hd] at hd'; exact nomatch hd'
    exact ⟨a, its, e, ⟨o', (hs.2 a hne).trans ho', hc, m, hd'⟩, Zp (fun k v => ZN ho hd hs k v) q⟩
noncomputable def hN (w : World) : Nat → Tr → Int
  | 0, _ => 0
  | _ + 1, .i k => hashInt k
  | _ + 1, .s x => hashStr w x
  | n + 1, .t ks => reduceHash (Builtin.Tuple.tupleHashOf (ks.map (hN w n)))
noncomputable def dN : Nat → Tr → Nat
  | 0, _ => 0
  | _ + 1, .i _ => 1
  | _ + 1, .s _ => 1
  | n + 1, .t ks => (ks.map (dN n)).sum + 1
section
variable {prog : Program} {w : World} {E : Value → Shared → Prop}
theorem ZO {n : Nat} {A : Around} (ih : ∀ (k : Tr) (v : Value) (s : Shared) (Q : Int → Shared → Prop), IsT s.heap n k v → Q (hN w n k) { s with toks := s.toks + dN n k } → wpAny (model prog w) A (pyHash v) Q E s) :
    ∀ (ks : List Tr) (vs : List Value) (s : Shared) (b : Array Int) (Q : Array Int → Shared → Prop), Paired (IsT s.heap n) ks vs →
    (∀ b', b'.toList = b.toList ++ ks.map (hN w n) → Q b' { s with toks := s.toks + (ks.map (dN n)).sum }) →
    wpAny (model prog w) A (forIn vs b fun x r => do let h ← pyHash x; pure PUnit.unit; pure (ForInStep.yield (r.push h))) Q E s
  | [], _, s, b, Q, x, h => by cases x; exact wpAny_pure (h b (by simp))
  | k :: ks, _, s, b, Q, x, h => by
    cases x with
    | cons x1 x2 =>
      rw [List.forIn_cons]
      refine wpAny_bind (wpAny_bind (ih k _ s _ x1 ?_))
      refine wpAny_bind (wpAny_pure (wpAny_pure ?_))
      refine ZO ih ks _ _ _ Q x2 fun b' hb => ?_
      have := h b' (by simp [hb])
      simpa [Nat.add_assoc] using this
theorem Xu : ∀ (n : Nat) (A : Around), A.units + n < cLine → ∀ (k : Tr) (v : Value) (s : Shared) (Q : Int → Shared → Prop), IsT s.heap n k v → Q (hN w n k) { s with toks := s.toks + dN n k } → wpAny (model prog w) A (pyHash v) Q E s
  | 0, _, _, _, _, _, _, x, _ => x.elim
  | n + 1, A, hu, .i k, v, s, Q, x, h => by
    rcases x with ⟨t, rfl⟩ | ⟨b, rfl, rfl⟩
    · exact wpAny_pyHash_int h
    · refine PySem.W.pyHash_slot (T := "bool") rfl F.slot_bool_hash entry_int_hash (args_int_hash _) (beq_builtin_none _) (.inr (by omega)) ?_
      cases b
      · exact (show wpAny _ _ (do ret (← mkInt 0)) _ _ s from wpAny_bind (wpAny_mkInt (wpAny_pure ⟨_, _, rfl, h⟩)))
      · exact (show wpAny _ _ (do ret (← mkInt 1)) _ _ s from wpAny_bind (wpAny_mkInt (wpAny_pure ⟨_, _, rfl, h⟩)))
  | n + 1, A, hu, .s y, v, s, Q, x, h => by
    obtain ⟨t, rfl⟩ := x
    exact wpAny_pyHash_str h
  | n + 1, A, hu, .t ks, v, s, Q, x, h => by
    obtain ⟨a, its, rfl, ⟨o, ho, hc, m, hd⟩, q⟩ := x
    refine PySem.W.pyHash_slot (T := "tuple") ⟨_, ho, hc⟩ F.slot_tuple_hash F.entry_tuple_hash (F.args_tuple_hash_1 _) (beq_builtin_none _) (.inr (by omega)) ?_
    show wpAny _ _ (Builtin.Tuple.tupleItemsOf (.ref a) >>= _) _ _ s
    refine wpAny_bind (wpAny_tupleItemsOf ho hd ?_)
    refine wpAny_bind ?_
    rw [← Array.forIn_toList]
    refine ZO (n := n) (fun k v s Q => Xu n A.in1 (by show A.units + 1 + n < cLine; omega) k v s Q) ks _ s #[] _ q fun b hb => ?_
    show wpAny _ _ (retInt (Builtin.Tuple.tupleHashOf b.toList)) _ _ _
    rw [hb]
    refine wpAny_bind (wpAny_mkInt (wpAny_pure ⟨_, _, rfl, ?_⟩))
    simpa [hN, dN, Nat.add_assoc] using h
theorem Kf {n : Nat} {h : Heap} {e : Nat → Bool} : ∀ {ks ls : List Tr} {us vs : List Value}, Paired (IsT h n) ks us → Paired (IsT h n) ls vs → (∀ (j : Nat) (x y : Tr), ks[j]? = some x → ls[j]? = some y → e j = decide (x = y)) →
    ((List.range (min us.length vs.length)).all e && us.length == vs.length) = decide (Tr.t ks = Tr.t ls) := by
  intro ks ls us vs p q he
  have l1 := Paired.length p
  have l2 := Paired.length q
  rw [← l1, ← l2]
  by_cases hl : ks.length = ls.length
  · by_cases hk : ks = ls
    · subst hk
      simp only [Nat.min_self, beq_self_eq_true, Bool.and_true, decide_true]
      rw [List.all_eq_true]
      intro j hj
      rw [List.mem_range] at hj
      rw [he j ks[j] ks[j] (List.getElem?_eq_getElem hj) (List.getElem?_eq_getElem hj)]
      simp
    · have : decide (Tr.t ks = Tr.t ls) = false := decide_eq_false fun z => hk (Tr.t.inj z)
      rw [this, Bool.and_eq_false_iff]
      left
      have : ∃ j, ks[j]? ≠ ls[j]? := Classical.byContradiction fun z => hk (List.ext_getElem? fun j => Classical.byContradiction fun y => z ⟨j, y⟩)
      obtain ⟨j, hj⟩ := this
      have hjl : j < ks.length := Classical.byContradiction fun z => hj (by rw [List.getElem?_eq_none (by omega), List.getElem?_eq_none (by omega)])
      rw [List.all_eq_false]
      refine ⟨j, List.mem_range.mpr (by omega), ?_⟩
      rw [he j ks[j] ls[j] (List.getElem?_eq_getElem hjl) (List.getElem?_eq_getElem (by omega))]
      intro z
      rw [decide_eq_true_eq] at z
      exact hj (by rw [List.getElem?_eq_getElem hjl, List.getElem?_eq_getElem (by omega), z])
  · have h1 : (ks.length == ls.length) = false := beq_eq_false_iff_ne.mpr hl
    rw [h1, Bool.and_false]
    exact (decide_eq_false fun z => hl (by rw [Tr.t.inj z])).symm
theorem QZ {α β : Type} {F : α → β → Prop} : ∀ {l₁ : List α} {l₂ : List β} {j : Nat} {x : α}, Paired F l₁ l₂ → l₁[j]? = some x → ∃ v, l₂[j]? = some v ∧ F x v
  | _, _, 0, x, .cons r t, e => by simp at e; subst e; exact ⟨_, rfl, r⟩
  | _, _, j + 1, x, .cons r t, e => by
    obtain ⟨v, h1, h2⟩ := QZ (j := j) (x := x) t (by simpa using e)
    exact ⟨v, by simpa using h1, h2⟩
open SeqAt in
theorem W9 {s : Shared} : ∀ (n : Nat) (A : Around), A.units + n < cLine → ∀ (x y : Tr) (u v : Value), IsT s.heap n x u → IsT s.heap n y v → EqAt A s u v (decide (x = y))
  | 0, _, _, _, _, _, _, hx, _ => hx.elim
  | n + 1, A, hu, .i a, .i b, u, v, hx, hy => by
    have hd : decide (Tr.i a = Tr.i b) = (a == b) := by
      by_cases z : a = b
      · subst z; simp
      · rw [decide_eq_false fun q => z (Tr.i.inj q)]; exact (beq_eq_false_iff_ne.mpr z).symm
    rw [hd]
    rcases hx with ⟨t, rfl⟩ | ⟨p, rfl, rfl⟩ <;> rcases hy with ⟨t', rfl⟩ | ⟨q, rfl, rfl⟩
    · exact EqAt.int_int a t b t'
    · exact EqAt.int_bool a t q
    · exact EqAt.bool_int p b t'
    · have := EqAt.bool_bool (A := A) (s := s) p q
      cases p <;> cases q <;> exact this
  | n + 1, A, hu, .i a, .s b, u, v, hx, hy => by
    obtain ⟨t', rfl⟩ := hy
    rw [decide_eq_false (fun z => nomatch z)]
    rcases hx with ⟨t, rfl⟩ | ⟨p, rfl, rfl⟩
    · exact EqAt.int_str a t b t'
    · exact EqAt.bool_str p b t'
  | n + 1, A, hu, .i a, .t ks, u, v, hx, hy => by
    obtain ⟨ad, its, rfl, p, _⟩ := hy
    rw [decide_eq_false (fun z => nomatch z)]
    rcases hx with ⟨t, rfl⟩ | ⟨q, rfl, rfl⟩
    · exact EqAt.int_tuple a t p (by omega)
    · exact EqAt.bool_tuple q p (by omega)
  | n + 1, A, hu, .s b, .i a, u, v, hx, hy => by
    obtain ⟨t', rfl⟩ := hx
    rw [decide_eq_false (fun z => nomatch z)]
    rcases hy with ⟨t, rfl⟩ | ⟨p, rfl, rfl⟩
    · exact EqAt.str_int b t' a t
    · exact EqAt.str_bool b t' p
  | n + 1, A, hu, .s a, .s b, u, v, hx, hy => by
    obtain ⟨t, rfl⟩ := hx
    obtain ⟨t', rfl⟩ := hy
    have hd : decide (Tr.s a = Tr.s b) = (a == b) := by
      by_cases z : a = b
      · subst z; simp
      · rw [decide_eq_false fun q => z (Tr.s.inj q)]; exact (beq_eq_false_iff_ne.mpr z).symm
    rw [hd]
    exact EqAt.str_str a t b t'
  | n + 1, A, hu, .s b, .t ks, u, v, hx, hy => by
    obtain ⟨ad, its, rfl, p, _⟩ := hy
    obtain ⟨t, rfl⟩ := hx
    rw [decide_eq_false (fun z => nomatch z)]
    exact EqAt.str_tuple b t p (by omega)
  | n + 1, A, hu, .t ks, .i a, u, v, hx, hy => by
    obtain ⟨ad, its, rfl, p, _⟩ := hx
    rw [decide_eq_false (fun z => nomatch z)]
    rcases hy with ⟨t, rfl⟩ | ⟨q, rfl, rfl⟩
    · exact EqAt.tuple_int a t p (by omega)
    · exact EqAt.tuple_bool q p (by omega)
  | n + 1, A, hu, .t ks, .s b, u, v, hx, hy => by
    obtain ⟨ad, its, rfl, p, _⟩ := hx
    obtain ⟨t, rfl⟩ := hy
    rw [decide_eq_false (fun z => nomatch z)]
    exact EqAt.tuple_str b t p (by omega)
  | n + 1, A, hu, .t ks, .t ls, u, v, hx, hy => by
    obtain ⟨ad, its, rfl, p, q⟩ := id hx
    obtain ⟨bd, its', rfl, p', q'⟩ := id hy
    by_cases hab : ad = bd
    · subst hab
      have := Z7 _ _ _ hx hy
      rw [this, decide_eq_true rfl]
      exact EqAt.same _
    · refine EqAt.of_refs hab ?_
      have ih := W9 (s := s) n A.in1 (by show A.units + 1 + n < cLine; omega)
      have hz := RcAt.tuples (A := A) (s := s) (e := fun j => match ks[j]?, ls[j]? with | some x, some y => decide (x = y) | _, _ => false) p p' (by omega) (fun j h1 h2 => by
        have l1 := Paired.length q
        have l2 := Paired.length q'
        have j1 : j < ks.length := by rw [l1]; exact h1
        have j2 : j < ls.length := by rw [l2]; exact h2
        obtain ⟨x, hx⟩ : ∃ x, ks[j]? = some x := ⟨ks[j], List.getElem?_eq_getElem j1⟩
        obtain ⟨y, hy⟩ : ∃ y, ls[j]? = some y := ⟨ls[j], List.getElem?_eq_getElem j2⟩
        obtain ⟨u, hu1, hu2⟩ := QZ q hx
        obtain ⟨t, ht1, ht2⟩ := QZ q' hy
        rw [hx, hy]
        have e1 : its[j] = u := by
          rw [Array.getElem?_toList, Array.getElem?_eq_getElem h1] at hu1; exact Option.some.inj hu1
        have e2 : its'[j] = t := by
          rw [Array.getElem?_toList, Array.getElem?_eq_getElem h2] at ht1; exact Option.some.inj ht1
        rw [e1, e2]
        exact ih x y u t hu2 ht2)
      have := Kf (e := fun j => match ks[j]?, ls[j]? with | some x, some y => decide (x = y) | _, _ => false) q q' (fun j x y h1 h2 => by simp only [h1, h2])
      rw [Array.length_toList, Array.length_toList] at this
      rw [this] at hz
      exact hz
theorem Vm {A : Around} {s : Shared} : ∀ (n m : Nat) (k : Tr) (v : Value) (Q : Bool → Shared → Prop), IsT s.heap n k v → n ≤ m → Q true s → wpAny (model prog w) A (eqIsQuiet m v) Q E s
  | 0, _, _, _, _, x, _, _ => x.elim
  | n + 1, m, .i k, v, Q, x, _, h => by
    rcases x with ⟨t, rfl⟩ | ⟨b, rfl, rfl⟩
    · rw [eqIsQuiet_byValue _ rfl]; exact wpAny_pure h
    · rw [eqIsQuiet_byValue _ rfl]; exact wpAny_pure h
  | n + 1, m, .s k, v, Q, x, _, h => by
    obtain ⟨t, rfl⟩ := x
    rw [eqIsQuiet_byValue _ rfl]; exact wpAny_pure h
  | n + 1, 0, .t ks, v, Q, x, hm, h => by omega
  | n + 1, m + 1, .t ks, v, Q, x, hm, h => by
    obtain ⟨a, its, rfl, ⟨o, ho, hc, l, hd⟩, q⟩ := x
    have hT : s.TypeIs (.ref a) "tuple" := ⟨o, ho, hc⟩
    unfold eqIsQuiet
    refine wpAny_bind (wpAny_specialOf hT F.slot_tuple_eq.lookup ?_)
    show wpAny _ _ (isInstance (.ref a) (.type "tuple") >>= _) _ _ s
    refine wpAny_bind (wpAny_isInstance hT isSubtype_tuple_tuple ?_)
    simp only [Bool.not_true, Bool.false_eq_true, if_false]
    refine wpAny_bind (wpAny_seqItems ho hd ?_)
    refine wpAny_bind ?_
    show wpAny _ _ (forIn its _ _) _ _ s
    rw [← Array.forIn_toList]
    refine wpAny_forIn_list _ (fun rest r s' => r.1 = none ∧ s' = s ∧ ∃ ks', Paired (IsT s.heap n) ks' rest) _ ?_ ?_ _ _ ⟨rfl, rfl, ks, q⟩
    · rintro v rest r s' ⟨hr, rfl, ks', q'⟩
      cases q' with
      | cons q1 q2 =>
        refine wpAny_bind (Vm n m _ _ _ q1 (by omega) ?_)
        simp only [Bool.not_true, Bool.false_eq_true, if_false]
        exact wpAny_pure ⟨rfl, rfl, _, q2⟩
    · rintro ⟨r1, r2⟩ s' ⟨hr, rfl, _⟩
      simp only at hr
      subst hr
      exact wpAny_pure h
end
noncomputable def VY (prog : Program) (w : World) : HeapKind prog w Tr where
  is := fun h k a => IsT h 8 k (.ref a)
  hash := hN w 8
  draws := dN 8
  room := fun A => A.units + 8 < cLine
  inj := fun hx hy => Z7 _ _ _ hx hy
  keeps := fun x ho hd hs => ZN ho hd hs _ _ x
  pyHash := fun hu hk h => Xu 8 _ hu _ _ _ _ hk h
  eqBool := fun hu hx hy h => W9 8 _ hu _ _ _ _ hx hy _ _ _ _ h
  quiet := fun hk h => Vm 8 8 _ _ _ hk (Nat.le_refl _) h

inductive HO where
  /-- a list -/
  | lst (xs : List V)
  /-- a tuple (never changes) -/
  | tup (xs : List V)
  /-- a dict whose keys are ints and texts; one whose keys are tuples of ints and texts (the empty one is both) -/
  | dK (kvs : List (Key × V)) | dT (kvs : List (Tr × Addr × V))
  /-- a set of ints: its members, its size -/
  | set (S : Int → Bool) (n : Nat)
  /-- an instance of the class at C, its dict at dx, its attributes -/
  | ins (C dx : Addr) (fs : List (Str × V))
  /-- the dict of the instance at x -/
  | own (x : Addr)
  /-- the dict of an exception -/
  | xd (fs : List (Str × V))
  /-- a bound method, f of x -/
  | met (f x : Addr)
  /-- a range object lo, lo + 1, .. below hi -/
  | rng (lo hi : Int)
  /-- a thing that is known to the object (the script; a dict while a loop walks it): read, never written while it is so -/
  | frz (o : Obj) (u : HO)
  /-- a code object's table -/
  | tbl (ps : Array Value)
  /-- any other thing, by what is true of its one object (a def of one's own: SetO a S n := HO.ext fun h => ..) -/
  | ext (φ : Heap → Prop)

noncomputable abbrev Hp := Addr → Option HO
noncomputable def upd (H : Hp) (a : Addr) (o : HO) : Hp := fun b => if b = a then some o else H b
theorem Qd {H : Hp} {a : Addr} {o : HO} : upd H a o a = some o := by unfold upd; rw [if_pos rfl]
theorem Qa {H : Hp} {a b : Addr} {o : HO} (h : b ≠ a) : upd H a o b = H b := by unfold upd; rw [if_neg h]
theorem Qb {H : Hp} {a b : Addr} {o : HO} (h : H a = some o) (h' : H b = none) : a ≠ b := by
  intro e; subst e; rw [h] at h'; cases h'

section
variable (P : Program) (w : World)
noncomputable def ObjOk (H : Hp) (h : Heap) (a : Addr) : HO → Prop
  | .lst xs => xs.length ≤ sizeLine ∧ ∃ (its : List Value) (n : Nat), Vals xs its ∧ h.get? a = some { cls := .type "list", data := .seq its.toArray n }
  | .tup xs => xs.length ≤ sizeLine ∧ ∃ its : List Value, Vals xs its ∧ IsTup h a its.toArray
  | .dK kvs => kvs.length ≤ sizeLine ∧ (a == sysModules) = false ∧ ∃ vs, KV kvs vs ∧ h.DictOf (Vz P w) a vs
  | .dT kvs => kvs.length ≤ sizeLine ∧ (a == sysModules) = false ∧ ∃ xs : List (Tr × Addr × Value),
      Paired (fun (p : Tr × Addr × V) (q : Tr × Addr × Value) => p.1 = q.1 ∧ p.2.1 = q.2.1 ∧ RelV p.2.2 q.2.2) kvs xs ∧
      ∃ o es ep, h.get? a = some o ∧ o.ExactDict ∧ o.data = .dict es ep ∧ es.toList = xs.map (entryOfKey (VY P w)) ∧ (xs.map (·.1)).Nodup ∧ ep = es.size
  | .set S n => h.SetOf (intKind P w) a S n
  | .ins C dx fs => H dx = some (.own a) ∧ fs.length ≤ 1000 ∧ dx ≠ a ∧ h.get? a = some (PySem.W.instObj C dx) ∧
      ∃ mA, h.Ns1 dx mA ∧ (∀ f, RelO (fs.lookup f) (mA f)) ∧ PySem.Within mA (fs.map (·.1))
  | .own _ => ∃ o, h.get? a = some o
  | .xd fs => ∃ mA, h.Ns1 a mA ∧ ∀ f, RelO (fs.lookup f) (mA f)
  | .rng lo hi => ∃ t u v, h.get? a = some { cls := .type "range", data := .fields #[.int lo t, .int hi u, .int 1 v] }
  | .frz o u => h.get? a = some o ∧ ObjOk H h a u
  | .tbl ps => h.get? a = some { cls := .none, data := .fields ps }
  | .met f x => h.get? a = some (PySem.W.methodObj (.ref f) (.ref x))
  | .ext φ => φ h ∧ (∃ o, h.get? a = some o) ∧ ∀ h1 h2 : Heap, φ h1 → (∀ o, h1.get? a = some o → h2.get? a = some o) → φ h2
noncomputable def HOk (H : Hp) (h : Heap) : Prop := ∀ a o, H a = some o → ObjOk P w H h a o
end

section
variable {P : Program} {w : World} {H H' : Hp} {h h' : Heap} {a : Addr} {o : HO}
theorem ObjOk.lt (x : ObjOk P w H h a o) : a < h.objs.size := by
  cases o with
  | lst xs => obtain ⟨_, _, _, _, e⟩ := x; exact Heap.lt_size e
  | tup xs => obtain ⟨_, _, _, p⟩ := x; exact p.lt
  | dK kvs => obtain ⟨_, _, _, _, o, _, _, e, _⟩ := x; exact Heap.lt_size e
  | dT kvs => obtain ⟨_, _, _, _, o, _, _, e, _⟩ := x; exact Heap.lt_size e
  | set S n => obtain ⟨o, _, _, _, e, _⟩ := x; exact Heap.lt_size e
  | ins C dx fs => obtain ⟨_, _, _, e, _⟩ := x; exact Heap.lt_size e
  | own y => obtain ⟨_, e⟩ := x; exact Heap.lt_size e
  | xd fs => obtain ⟨_, ⟨_, _, _, e, _⟩, _⟩ := x; exact Heap.lt_size e
  | rng lo hi => obtain ⟨_, _, _, e⟩ := x; exact Heap.lt_size e
  | frz ob u => obtain ⟨e, _⟩ := x; exact Heap.lt_size e
  | tbl ps => exact Heap.lt_size (show h.get? a = some _ from x)
  | met f y => exact Heap.lt_size (show h.get? a = some _ from x)
  | ext φ => obtain ⟨_, ⟨_, e⟩, _⟩ := x; exact Heap.lt_size e
theorem Paired.mapP {α β : Type} {F G : α → β → Prop} : ∀ {l₁ : List α} {l₂ : List β}, Paired F l₁ l₂ → (∀ a b, F a b → G a b) → Paired G l₁ l₂
  | _, _, .nil, _ => .nil
  | _, _, .cons r t, f => .cons (f _ _ r) (Paired.mapP t f)
theorem ObjOk.stay (x : ObjOk P w H h a o) (k : ∀ b u, (b = a ∨ H b = some (.own a)) → h.get? b = some u → h'.get? b = some u)
    (ho : ∀ b, H b = some (.own a) → H' b = some (.own a)) (ht : ∀ b xs, H b = some (.tup xs) → H' b = some (.tup xs)) : ObjOk P w H' h' a o := by
  induction o with
  | lst xs => obtain ⟨z, its, n, r, e⟩ := x; exact ⟨z, its, n, r, k _ _ (.inl rfl) e⟩
  | tup xs => obtain ⟨z, its, r, ob, e, c⟩ := x; exact ⟨z, its, r, ob, k _ _ (.inl rfl) e, c⟩
  | dK kvs => obtain ⟨z, y, vs, r, ob, es, ep, e, c⟩ := x; exact ⟨z, y, vs, r, ob, es, ep, k _ _ (.inl rfl) e, c⟩
  | dT kvs =>
    obtain ⟨z, y, xs, r, ob, es, ep, e, c⟩ := x
    exact ⟨z, y, xs, r, ob, es, ep, k _ _ (.inl rfl) e, c⟩
  | set S n => obtain ⟨ob, es, ep, t, e, c⟩ := x; exact ⟨ob, es, ep, t, k _ _ (.inl rfl) e, c⟩
  | ins C dx fs =>
    obtain ⟨d, z, ne, e, mA, ⟨od, es, ep, e2, c⟩, r⟩ := x
    exact ⟨ho _ d, z, ne, k _ _ (.inl rfl) e, mA, ⟨od, es, ep, k _ _ (.inr d) e2, c⟩, r⟩
  | own y => obtain ⟨ob, e⟩ := x; exact ⟨ob, k _ _ (.inl rfl) e⟩
  | xd fs => obtain ⟨mA, ⟨od, es, ep, e, c⟩, r⟩ := x; exact ⟨mA, ⟨od, es, ep, k _ _ (.inl rfl) e, c⟩, r⟩
  | rng lo hi => obtain ⟨t, u, v, e⟩ := x; exact ⟨t, u, v, k _ _ (.inl rfl) e⟩
  | frz ob u ih => obtain ⟨e, q⟩ := x; exact ⟨k _ _ (.inl rfl) e, ih q⟩
  | tbl ps =>
    have e : h.get? a = some { cls := .none, data := .fields ps } := x
    show h'.get? a = some { cls := .none, data := .fields ps }
    exact k a _ (.inl rfl) e
  | met f y =>
    have e : h.get? a = some (PySem.W.methodObj (.ref f) (.ref y)) := x
    show h'.get? a = some (PySem.W.methodObj (.ref f) (.ref y))
    exact k a _ (.inl rfl) e
  | ext φ => obtain ⟨p, ⟨o, e⟩, st⟩ := x; exact ⟨st _ _ p fun o q => k _ _ (.inl rfl) q, ⟨o, k _ _ (.inl rfl) e⟩, st⟩
theorem HOk.lt (x : HOk P w H h) (e : H a = some o) : a < h.objs.size := (x a o e).lt
theorem HOk.fresh (x : HOk P w H h) (e : h.objs.size ≤ a) : H a = none := by
  cases q : H a with
  | none => rfl
  | some u => exact absurd (Nat.lt_of_lt_of_le (x.lt q) e) (Nat.lt_irrefl _)
theorem HOk.kept (x : HOk P w H h) (k : ∀ b u, h.get? b = some u → h'.get? b = some u) : HOk P w H h' := fun a o e =>
  (x a o e).stay (fun b u _ q => k b u q) (fun _ q => q) fun _ _ q => q
theorem HOk.laid (x : HOk P w H h) (k : ∀ b u, h.get? b = some u → h'.get? b = some u) (hp : h.objs.size ≤ a) (new : ObjOk P w (upd H a o) h' a o) : HOk P w (upd H a o) h' := fun b u e => by
  have hn := x.fresh hp
  by_cases hb : b = a
  · subst hb; rw [Qd] at e; cases e; exact new
  · rw [Qa hb] at e
    exact (x b u e).stay (fun c v _ q => k c v q) (fun c q => by rw [Qa (Qb q hn)]; exact q) fun c xs q => by rw [Qa (Qb q hn)]; exact q
end

noncomputable def Rd (H : Hp) (a : Addr) (u : HO) : Prop := H a = some u ∨ ∃ o, H a = some (.frz o u)
theorem Rd.ok {P : Program} {w : World} {H : Hp} {h : Heap} {a : Addr} {u : HO} (r : Rd H a u) (x : HOk P w H h) : ObjOk P w H h a u := by
  rcases r with r | ⟨o, r⟩
  · exact x a u r
  · obtain ⟨_, q⟩ := x a _ r
    exact q
noncomputable def Mut : Option HO → Prop
  | some (.lst _) => True
  | some (.dK _) => True
  | some (.dT _) => True
  | some (.set _ _) => True
  | some (.ins _ _ _) => True
  | some (.ext _) => True
  | _ => False
section
variable {P : Program} {w : World} {H : Hp} {h h' : Heap} {x e : Addr} {o' : HO}
theorem HOk.write (ok : HOk P w H h) (mu : Mut (H x)) (he : e = x ∨ H e = some (.own x)) (k : ∀ b u, b ≠ e → h.get? b = some u → h'.get? b = some u) (heo : ∃ u, h'.get? e = some u)
    (new : ObjOk P w (upd H x o') h' x o') : HOk P w (upd H x o') h' := fun b u q => by
  have nown : ∀ c y, H c = some (.own y) → c ≠ x := fun c y r z => by subst z; rw [r] at mu; exact mu
  have ntup : ∀ c xs, H c = some (.tup xs) → c ≠ x := fun c xs r z => by subst z; rw [r] at mu; exact mu
  by_cases hb : b = x
  · subst hb; rw [Qd] at q; cases q; exact new
  · rw [Qa hb] at q
    by_cases hbe : b = e
    · have q' : H b = some (.own x) := by
        rcases he with z | z
        · exact absurd (hbe.trans z) hb
        · rw [hbe]; exact z
      rw [q] at q'; cases q'
      obtain ⟨v, hv⟩ := heo
      exact ⟨v, by rw [hbe]; exact hv⟩
    · refine (ok b u q).stay (fun c v hc r => k c v ?_ r) (fun c r => by rw [Qa (nown c b r)]; exact r) fun c xs r => by rw [Qa (ntup c xs r)]; exact r
      rcases hc with rfl | hc
      · exact hbe
      · rintro rfl
        rcases he with z | z
        · exact nown c b hc z
        · rw [hc] at z; cases z; exact hb rfl
end

structure Un (fs ex : List Addr) (H H' : Hp) (h h' : Heap) : Prop where
  keep : ∀ b o, h.get? b = some o → H b = none → b ∉ fs → b ∉ ex → h'.get? b = some o
  slot : ∀ b o, h.get? b = some o → H b = none → b ∈ fs → b ∉ ex → ∃ sl, h'.get? b = some { o with slots := sl }
  free : ∀ b o, h.get? b = some o → H b = none → b ∉ ex → H' b = none
  there : ∀ b o, h.get? b = some o → b ∉ ex → ∃ o', h'.get? b = some o'
  tups : ∀ b xs, H b = some (.tup xs) → H' b = some (.tup xs)
  frzs : ∀ b o u, H b = some (.frz o u) → H' b = some (.frz o u)
  tbls : ∀ b ps, H b = some (.tbl ps) → ∃ more, H' b = some (.tbl (ps ++ more))
section
variable {fs fs' ex ex' : List Addr} {H H1 H2 : Hp} {h h1 h2 h' : Heap} {a x e : Addr} {o : HO}
theorem Un.any (u : Un fs ex H H1 h h1) {b : Addr} {ob : Obj} (q : h.get? b = some ob) (n : H b = none) (hx : b ∉ ex) : ∃ sl, h1.get? b = some { ob with slots := sl } := by
  by_cases hb : b ∈ fs
  · exact u.slot b ob q n hb hx
  · exact ⟨ob.slots, u.keep b ob q n hb hx⟩
theorem Un.kept (k : ∀ b u, h.get? b = some u → h'.get? b = some u) : Un fs ex H H h h' :=
  ⟨fun b ob q _ _ _ => k b ob q, fun b ob q _ _ _ => ⟨ob.slots, k b ob q⟩, fun _ _ _ n _ => n, fun b ob q _ => ⟨ob, k b ob q⟩, fun _ _ q => q, fun _ _ _ q => q, fun _ ps q => ⟨#[], by rw [q]; simp⟩⟩
theorem Un.refl : Un fs ex H H h h := Un.kept fun _ _ q => q
theorem Un.laid (k : ∀ b u, h.get? b = some u → h'.get? b = some u) (hp : h.objs.size ≤ a) (hn : H a = none) : Un fs ex H (upd H a o) h h' where
  keep := fun b u q _ _ _ => k b u q
  slot := fun b u q _ _ _ => ⟨u.slots, k b u q⟩
  free := fun b u q n _ => by rw [Qa (Nat.ne_of_lt (Nat.lt_of_lt_of_le (Heap.lt_size q) hp))]; exact n
  there := fun b u q _ => ⟨u, k b u q⟩
  tups := fun b xs q => by rw [Qa (Qb q hn)]; exact q
  frzs := fun b u xs q => by rw [Qa (Qb q hn)]; exact q
  tbls := fun b ps q => ⟨#[], by rw [Qa (Qb q hn), q]; simp⟩
theorem Un.write (mu : Mut (H x)) (he : e = x ∨ H e = some (.own x)) (k : ∀ b u, b ≠ e → h.get? b = some u → h'.get? b = some u) (heo : ∃ u, h'.get? e = some u) : Un fs ex H (upd H x o) h h' := by
  have hx : ∀ b, H b = none → b ≠ x := fun b n z => by subst z; rw [n] at mu; exact mu
  have hb : ∀ b, H b = none → b ≠ e := fun b n z => by
    subst z
    rcases he with r | r
    · exact hx b n r
    · rw [n] at r; cases r
  have hm : ∀ b u, H b = some u → ¬ Mut (some u) → b ≠ x := fun b u q nm z => by subst z; rw [q] at mu; exact nm mu
  refine ⟨fun b u q n _ _ => k b u (hb b n) q, fun b u q n _ _ => ⟨u.slots, k b u (hb b n) q⟩, fun b u q n _ => by rw [Qa (hx b n)]; exact n, fun b u q _ => ?_,
    fun b xs q => by rw [Qa (hm b _ q fun z => z)]; exact q, fun b u xs q => by rw [Qa (hm b _ q fun z => z)]; exact q, fun b ps q => ⟨#[], by rw [Qa (hm b _ q fun z => z), q]; simp⟩⟩
  by_cases hbe : b = e
  · subst hbe; exact heo
  · exact ⟨u, k b u hbe q⟩
end

noncomputable def trk (h : Heap) (H : Hp) : List Addr := (List.range h.objs.size).filter fun a => (H a).isSome
noncomputable def VL (h : Heap) (H : Hp) : Heap := PySem.W.hideAll h (trk h H)
theorem JM (h : Heap) (H : Hp) : (VL h H).objs.size = h.objs.size := PySem.W.hideAll_size _ _
theorem V5 {h : Heap} {H : Hp} {b : Addr} {o : Obj} (e : h.get? b = some o) (n : H b = none) : (VL h H).get? b = some o :=
  PySem.W.hideAll_get _ e fun hm => by
    have q : (H b).isSome = true := (List.mem_filter.mp hm).2
    rw [n] at q; simp at q
theorem Kv {h : Heap} {H : Hp} {b : Addr} {o : Obj} (e : (VL h H).get? b = some o) : h.get? b = some o ∧ H b = none := by
  have e' : h.get? b = some o := PySem.W.of_hideAll (trk h H) e
  refine ⟨e', ?_⟩
  cases q : H b with
  | none => rfl
  | some x =>
    have hm : b ∈ trk h H := List.mem_filter.mpr ⟨List.mem_range.mpr (Heap.lt_size e'), by simp [q]⟩
    have z : (VL h H).get? b = none := PySem.W.hideAll_none (trk h H) hm
    rw [z] at e; cases e

end L2

namespace L2
open PySem PySem.Spec PyProof.Rows

structure Mod (K : PySem.W.Frag) (mg : Str → Option Value) (base : Heap) : Prop where
  kin : K.In base
  glob : base.Ns mainGlobals mg
  blt : ∃ mb, base.Ns builtinsNs mb ∧ ∀ x : Str, x ≠ "__name__" → mb x = bootBuiltins x
  nolimit : base.NoLimit

structure Cx where
  prog : Program
  w : World
  K : PySem.W.Frag
  mg : Str → Option Value
  base : Heap
  A : Around
  N : List Str
  s₀ : Shared
  H₀ : Hp
  env : Env
  outer : List Env
  stack : List Env
  ex : List Addr
  fn : Str → Bool
  calm : Bool
  pn : List (Addr × Obj)
  xe : Value → Shared → Prop
noncomputable def frs (l : List Env) : List Addr := l.filterMap (·.frame)
noncomputable abbrev Cx.fs (X : Cx) : List Addr := frs X.outer

noncomputable def Vis (sc : Scope) (x : Str) : Prop := sc.names.lookup x = some .local ∨ sc.names.lookup x = some .cell ∨ sc.names.lookup x = some .free
noncomputable def Loc (sc : Scope) (x : Str) : Prop := sc.names.lookup x = some .local ∨ sc.names.lookup x = some .cell
noncomputable def Ud (env : Env) (h : Heap) (m : Str → Option Value) (x : Str) (u : Value) : Prop :=
  (env.kindOf x = some .local ∧ m x = some u) ∨ ((env.kindOf x = some .cell ∨ env.kindOf x = some .free) ∧ ∃ c, env.cells.lookup x = some c ∧ h.IsCell c (some u))

structure Cx.Ok (X : Cx) : Prop where
  mod : Mod X.K X.mg X.base
  kind : X.env.scope.kind = .function
  glob : X.env.globals = mainGlobals
  blt : X.env.builtins = builtinsNs
  above : X.s₀.heap.objs.size ≤ X.env.locals
  inj : ∀ x y c, X.env.cells.lookup x = some c → X.env.cells.lookup y = some c → x = y
  has : ∀ x, (X.env.kindOf x = some .cell ∨ X.env.kindOf x = some .free) → ∃ c, X.env.cells.lookup x = some c
  cab : ∀ x c, X.fn x = true → X.env.cells.lookup x = some c → X.s₀.heap.objs.size ≤ c
  hd : X.calm = true → X.A.handled = none
  frames : X.A.frames = some X.stack
  stk : X.stack = X.outer ∨ (X.stack = X.env :: X.outer ∧ X.env.frame = some X.env.locals)
  exf : ∀ b ∈ X.ex, b ≠ X.env.locals ∧ ∀ x c, X.env.cells.lookup x = some c → c ≠ b
  bs : ∀ b o, X.base.get? b = some o → X.s₀.heap.get? b = some o ∧ X.H₀ b = none
  bsz : X.base.objs.size ≤ X.s₀.heap.objs.size
  noex : ∀ b o, X.base.get? b = some o → b ∉ X.ex
  exfs : ∀ b ∈ X.ex, b ∉ X.fs
  funs : X.s₀.heap.FunFrames X.base X.outer
  frf : ∀ b ∈ X.fs, X.H₀ b = none

structure Inv (X : Cx) (pins : List (Addr × Obj)) (σ : List (Option V)) (H : Hp) (s : Shared) : Prop where
  ok : X.Ok
  os : s.os = X.s₀.os
  bare : AllBare s.gens
  base : Un X.fs X.ex X.H₀ H X.s₀.heap s.heap
  loc : ∃ m, s.heap.Ns X.env.locals m ∧ ∀ (i : Nat) (x : Str) (v : V), X.N[i]? = some x → σ[i]? = some (some v) → Vis X.env.scope x → ∃ u, RelV v u ∧ Ud X.env s.heap m x u
  cell : ∀ x c, X.env.cells.lookup x = some c → ∃ v, s.heap.IsCell c v
  free : H X.env.locals = none
  freeC : ∀ x c, X.env.cells.lookup x = some c → H c = none
  pin : ∀ p ∈ X.pn ++ pins, s.heap.get? p.1 = some p.2 ∧ H p.1 = none ∧ p.1 ≠ X.env.locals ∧ p.1 ∉ X.fs ∧ ∀ v, p.2.data ≠ .cell v
  hok : HOk X.prog X.w H s.heap
  len : σ.length = X.N.length

section
variable {X : Cx} {pins : List (Addr × Obj)} {σ : List (Option V)} {H H' : Hp} {s : Shared} {h' : Heap}

theorem Cx.Ok.nofr (ok : X.Ok) {b : Addr} {o : Obj} (e : X.base.get? b = some o) : b ∉ X.fs := fun hb => by
  have := (ok.funs.mem hb).1
  rw [e] at this; cases this
theorem Inv.bs (I : Inv X pins σ H s) : ∀ b o, X.base.get? b = some o → s.heap.get? b = some o ∧ H b = none := fun b o e =>
  ⟨I.base.keep b o (I.ok.bs b o e).1 (I.ok.bs b o e).2 (I.ok.nofr e) (I.ok.noex b o e), I.base.free b o (I.ok.bs b o e).1 (I.ok.bs b o e).2 (I.ok.noex b o e)⟩
theorem Inv.bk (I : Inv X pins σ H s) : ∀ b o, X.base.get? b = some o → s.heap.get? b = some o := fun b o e => (I.bs b o e).1
theorem Inv.mod (I : Inv X pins σ H s) : Mod X.K X.mg X.base := I.ok.mod
theorem Inv.kIn (I : Inv X pins σ H s) : X.K.In s.heap := I.ok.mod.kin.keeps I.bk
theorem Inv.lt (I : Inv X pins σ H s) : X.env.locals < s.heap.objs.size := let ⟨_, hn, _⟩ := I.loc; hn.lt
theorem Inv.sz (I : Inv X pins σ H s) : X.s₀.heap.objs.size ≤ s.heap.objs.size := Nat.le_trans I.ok.above (Nat.le_of_lt I.lt)
theorem Inv.nofs (I : Inv X pins σ H s) {a : Addr} (h : s.heap.objs.size ≤ a) : a ∉ X.fs := fun hb => by
  obtain ⟨_, o, ho, _⟩ := I.ok.funs.mem hb
  exact absurd (Nat.lt_of_lt_of_le (Heap.lt_size ho) (Nat.le_trans I.sz h)) (Nat.lt_irrefl _)
theorem Inv.cne (I : Inv X pins σ H s) : ∀ x c, X.env.cells.lookup x = some c → c ≠ X.env.locals := fun x c e z => by
  obtain ⟨v, o, ho, hd⟩ := I.cell x c e
  obtain ⟨m, ⟨o', es, ep, ho', hd', _⟩, _⟩ := I.loc
  rw [z, ho'] at ho; cases ho; rw [hd'] at hd; cases hd
theorem Inv.funs (I : Inv X pins σ H s) : s.heap.FunFrames X.base X.outer := by
  have all : ∀ (l : List Env), (∀ b ∈ frs l, b ∈ X.fs) → X.s₀.heap.FunFrames X.base l → s.heap.FunFrames X.base l := by
    intro l
    induction l with
    | nil => intro _ _; trivial
    | cons env r ih =>
      intro hs hl
      obtain ⟨hk, ⟨L, o, hf, hn, ho, hd⟩, hr⟩ := hl
      have hL : L ∈ X.fs := hs L (by unfold frs; rw [List.filterMap_cons, hf]; exact List.mem_cons_self)
      obtain ⟨sl, e⟩ := I.base.slot L o ho (I.ok.frf L hL) hL fun z => I.ok.exfs L z hL
      exact ⟨hk, ⟨L, _, hf, hn, e, hd⟩, ih (fun b hb => hs b (by unfold frs; rw [List.filterMap_cons, hf]; exact List.mem_cons_of_mem _ hb)) hr⟩
  exact all X.outer (fun _ hb => hb) I.ok.funs

theorem Inv.stack (I : Inv X pins σ H s) : s.heap.FunFrames X.base X.stack := by
  rcases I.ok.stk with e | ⟨e, hf⟩
  · rw [e]; exact I.funs
  · rw [e]
    obtain ⟨m, hn, _⟩ := I.loc
    refine .cons (by rw [I.ok.kind]; decide) hf hn ?_ I.funs
    exact Heap.get?_none_of_le (Nat.le_trans I.ok.bsz I.ok.above)
theorem Inv.stkSub (I : Inv X pins σ H s) : ∀ b ∈ frs X.stack, b ∈ X.env.locals :: X.fs := fun b hb => by
  rcases I.ok.stk with e | ⟨e, hf⟩
  · rw [e] at hb; exact List.mem_cons_of_mem _ hb
  · rw [e] at hb
    unfold frs at hb
    rw [List.filterMap_cons, hf] at hb
    exact hb
theorem Inv.stkFree (I : Inv X pins σ H s) : ∀ b ∈ frs X.stack, H b = none := fun b hb => by
  rcases List.mem_cons.mp (I.stkSub b hb) with e | hb
  · rw [e]; exact I.free
  · obtain ⟨_, o, ho, _⟩ := I.ok.funs.mem hb
    exact I.base.free b o ho (I.ok.frf b hb) fun z => I.ok.exfs b z hb

theorem Inv.step {g' : Array GenState} {t' : Nat} {d' : Drawn} {ch : List Addr} (I : Inv X pins σ H s)
    (hch : ∀ b ∈ ch, (b ∈ X.ex ∨ X.s₀.heap.objs.size ≤ b) ∧ b ≠ X.env.locals ∧ (∀ x c, X.env.cells.lookup x = some c → c ≠ b) ∧ ∀ p ∈ X.pn ++ pins, p.1 ≠ b)
    (keep : ∀ b o, b ≠ X.env.locals → b ∉ X.fs → b ∉ ch → s.heap.get? b = some o → H b = none → h'.get? b = some o)
    (slot : ∀ b o, b ≠ X.env.locals → b ∈ X.fs → b ∉ ch → s.heap.get? b = some o → H b = none → ∃ sl, h'.get? b = some { o with slots := sl }) (free : ∀ b o, b ∉ ch → s.heap.get? b = some o → H b = none → H' b = none)
    (there : ∀ b o, b ∉ ch → s.heap.get? b = some o → ∃ o', h'.get? b = some o')
    (tups : ∀ b xs, H b = some (.tup xs) → H' b = some (.tup xs)) (frzs : ∀ b o u, H b = some (.frz o u) → H' b = some (.frz o u)) (tbls : ∀ b ps, H b = some (.tbl ps) → ∃ more, H' b = some (.tbl (ps ++ more)))
    (ns : ∀ m, s.heap.Ns X.env.locals m → h'.Ns X.env.locals m) (hok : HOk X.prog X.w H' h') (hg : AllBare g') :
    Inv X pins σ H' { s with heap := h', gens := g', drawn := d', toks := t' } := by
  have neL : ∀ b o, X.s₀.heap.get? b = some o → b ≠ X.env.locals := fun b o e => Nat.ne_of_lt (Nat.lt_of_lt_of_le (Heap.lt_size e) I.ok.above)
  have neC : ∀ b o, X.s₀.heap.get? b = some o → b ∉ X.ex → b ∉ ch := fun b o e hx hb => by
    rcases (hch b hb).1 with z | z
    · exact hx z
    · exact absurd (Nat.lt_of_lt_of_le (Heap.lt_size e) z) (Nat.lt_irrefl _)
  have cellK : ∀ x c, X.env.cells.lookup x = some c → ∀ v, s.heap.IsCell c v → h'.IsCell c v := fun x c e v ⟨o, ho, hd⟩ => by
    have nch : c ∉ ch := fun z => (hch c z).2.2.1 x c e rfl
    by_cases hc : c ∈ X.fs
    · obtain ⟨sl, q⟩ := slot c o (I.cne x c e) hc nch ho (I.freeC x c e)
      exact ⟨_, q, hd⟩
    · exact ⟨o, keep c o (I.cne x c e) hc nch ho (I.freeC x c e), hd⟩
  refine ⟨I.ok, I.os, hg, ⟨fun b o e n hb hx => ?_, fun b o e n hb hx => ?_, fun b o e n hx => ?_, fun b o e hx => ?_, fun b xs e => tups b xs (I.base.tups b xs e), fun b o xs e => frzs b o xs (I.base.frzs b o xs e), fun b ps e => ?_⟩, ?_, fun x c e => ?_, ?_, fun x c e => ?_, fun p hp => ?_, hok, I.len⟩
  · exact keep b o (neL b o e) hb (neC b o e hx) (I.base.keep b o e n hb hx) (I.base.free b o e n hx)
  · obtain ⟨sl, e1⟩ := I.base.slot b o e n hb hx
    obtain ⟨sl', e2⟩ := slot b _ (neL b o e) hb (neC b o e hx) e1 (I.base.free b o e n hx)
    exact ⟨sl', e2⟩
  · obtain ⟨o', e1⟩ := I.base.there b o e hx
    exact free b o' (neC b o e hx) e1 (I.base.free b o e n hx)
  · obtain ⟨o', e1⟩ := I.base.there b o e hx
    exact there b o' (neC b o e hx) e1
  · obtain ⟨m1, e1⟩ := I.base.tbls b ps e
    obtain ⟨m2, e2⟩ := tbls b _ e1
    exact ⟨m1 ++ m2, by rw [e2, Array.append_assoc]⟩
  · obtain ⟨m, hn, hl⟩ := I.loc
    refine ⟨m, ns m hn, fun i x v e1 e2 e3 => ?_⟩
    obtain ⟨u, r, l⟩ := hl i x v e1 e2 e3
    refine ⟨u, r, ?_⟩
    rcases l with l | ⟨k, c, e, z⟩
    · exact .inl l
    · exact .inr ⟨k, c, e, cellK x c e _ z⟩
  · obtain ⟨v, z⟩ := I.cell x c e
    exact ⟨v, cellK x c e v z⟩
  · obtain ⟨m, ⟨o, _, _, ho, _⟩, _⟩ := I.loc
    exact free _ o (fun z => (hch _ z).2.1 rfl) ho I.free
  · obtain ⟨v, o, ho, hd⟩ := I.cell x c e
    exact free c o (fun z => (hch c z).2.2.1 x c e rfl) ho (I.freeC x c e)
  · obtain ⟨e, n, ne, nf, d⟩ := I.pin p hp
    have nch : p.1 ∉ ch := fun z => (hch p.1 z).2.2.2 p hp rfl
    exact ⟨keep p.1 p.2 ne nf nch e n, free p.1 p.2 nch e n, ne, nf, d⟩
theorem Inv.un {t' : Nat} (I : Inv X pins σ H s) (u : Un X.fs [] H H' s.heap h') (hok : HOk X.prog X.w H' h') : Inv X pins σ H' { s with heap := h', toks := t' } := by
  obtain ⟨m, ⟨o, es, ep, ho, r⟩, _⟩ := id I.loc
  obtain ⟨sl, hL⟩ := u.any ho I.free (by simp)
  exact I.step (g' := s.gens) (d' := s.drawn) (ch := []) (fun _ z => nomatch z) (fun b o _ hb _ e n => u.keep b o e n hb (by simp)) (fun b o _ hb _ e n => u.slot b o e n hb (by simp)) (fun b o _ e n => u.free b o e n (by simp)) (fun b o _ e => u.there b o e (by simp)) u.tups u.frzs u.tbls (fun m' hm => by
    obtain ⟨o', es', ep', ho', r'⟩ := hm
    rw [ho] at ho'; cases ho'
    exact ⟨_, es', ep', hL, r'⟩) hok I.bare
theorem Inv.call {g' : Array GenState} {t' : Nat} {d' : Drawn} {ch : List Addr} (I : Inv X pins σ H s) (u : Un (frs X.stack) ch H H' s.heap h') (hok : HOk X.prog X.w H' h') (hg : AllBare g')
    (hch : ∀ b ∈ ch, (b ∈ X.ex ∨ X.s₀.heap.objs.size ≤ b) ∧ b ≠ X.env.locals ∧ (∀ x c, X.env.cells.lookup x = some c → c ≠ b) ∧ ∀ p ∈ X.pn ++ pins, p.1 ≠ b) :
    Inv X pins σ H' { s with heap := h', gens := g', drawn := d', toks := t' } := by
  obtain ⟨m, ⟨o, es, ep, ho, r⟩, _⟩ := id I.loc
  obtain ⟨sl, hL⟩ := u.any ho I.free fun z => (hch _ z).2.1 rfl
  exact I.step (ch := ch) hch (fun b o hL hb hc e n => u.keep b o e n (fun z => (List.mem_cons.mp (I.stkSub b z)).elim hL hb) hc) (fun b o _ _ hc e n => u.any e n hc) (fun b o hc e n => u.free b o e n hc) (fun b o hc e => u.there b o e hc) u.tups u.frzs u.tbls (fun m' hm => by
    obtain ⟨o', es', ep', ho', r'⟩ := hm
    rw [ho] at ho'; cases ho'
    exact ⟨_, es', ep', hL, r'⟩) hok hg
theorem Inv.turned {t' : Nat} {it : Addr} (I : Inv X pins σ H s) (k : ∀ b o, b ≠ it → s.heap.get? b = some o → h'.get? b = some o) (hn : H it = none) (hL : it ≠ X.env.locals)
    (h1 : it ∈ X.ex ∨ X.s₀.heap.objs.size ≤ it) (h2 : ∀ x c, X.env.cells.lookup x = some c → c ≠ it) (h3 : ∀ p ∈ X.pn ++ pins, p.1 ≠ it) : Inv X pins σ H { s with heap := h', toks := t' } := by
  have nit : ∀ b u, H b = some u → b ≠ it := fun b u e z => by rw [z, hn] at e; cases e
  refine I.step (g' := s.gens) (d' := s.drawn) (ch := [it]) (fun b hb => ?_) (fun b o _ _ hc e _ => k b o (fun z => hc (by simp [z])) e) (fun b o _ _ hc e _ => ⟨o.slots, k b o (fun z => hc (by simp [z])) e⟩) (fun _ _ _ _ n => n)
    (fun b o hc e => ⟨o, k b o (fun z => hc (by simp [z])) e⟩) (fun _ _ e => e) (fun _ _ _ e => e) (fun b ps e => ⟨#[], by rw [e]; simp⟩) (fun m hm => ?_) (fun b u e => ?_) I.bare
  · have e : b = it := by simpa using hb
    subst e
    exact ⟨h1, hL, h2, h3⟩
  · obtain ⟨o, es, ep, ho, r⟩ := hm
    exact ⟨o, es, ep, k _ o (Ne.symm hL) ho, r⟩
  · refine (I.hok b u e).stay (fun c v hc q => k c v ?_ q) (fun _ q => q) fun _ _ q => q
    rcases hc with z | z
    · rw [z]; exact nit b u e
    · exact nit c _ z
theorem Inv.tok (I : Inv X pins σ H s) (t : Nat) : Inv X pins σ H { s with toks := t } := I.un (h' := s.heap) (t' := t) Un.refl I.hok
theorem Inv.kept {t' : Nat} (I : Inv X pins σ H s) (k : ∀ b u, s.heap.get? b = some u → h'.get? b = some u) : Inv X pins σ H { s with heap := h', toks := t' } := I.un (Un.kept k) (I.hok.kept k)
theorem Inv.laid {a : Addr} {o : HO} {t' : Nat} (I : Inv X pins σ H s) (k : ∀ b u, s.heap.get? b = some u → h'.get? b = some u) (hp : s.heap.objs.size ≤ a) (new : ObjOk X.prog X.w (upd H a o) h' a o) :
    Inv X pins σ (upd H a o) { s with heap := h', toks := t' } := I.un (Un.laid k hp (I.hok.fresh hp)) (I.hok.laid k hp new)
theorem Inv.write {x e : Addr} {o : HO} {t' : Nat} (I : Inv X pins σ H s) (mu : Mut (H x)) (he : e = x ∨ H e = some (.own x)) (k : ∀ b u, b ≠ e → s.heap.get? b = some u → h'.get? b = some u) (heo : ∃ u, h'.get? e = some u)
    (new : ObjOk X.prog X.w (upd H x o) h' x o) : Inv X pins σ (upd H x o) { s with heap := h', toks := t' } := I.un (Un.write mu he k heo) (I.hok.write mu he k heo new)
theorem Inv.pins_of {pins' : List (Addr × Obj)} (I : Inv X pins σ H s) (h : ∀ p ∈ pins', s.heap.get? p.1 = some p.2 ∧ H p.1 = none ∧ p.1 ≠ X.env.locals ∧ p.1 ∉ X.fs ∧ ∀ v, p.2.data ≠ .cell v) : Inv X pins' σ H s :=
  ⟨I.ok, I.os, I.bare, I.base, I.loc, I.cell, I.free, I.freeC, fun p hp => (List.mem_append.mp hp).elim (fun z => I.pin p (List.mem_append_left _ z)) (h p), I.hok, I.len⟩

theorem Zw {N : List Str} (hN : N.Nodup) {i j : Nat} {x : Str} (a : N[i]? = some x) (b : N[j]? = some x) : i = j := by
  obtain ⟨h1, e1⟩ := List.getElem?_eq_some_iff.mp a
  obtain ⟨h2, e2⟩ := List.getElem?_eq_some_iff.mp b
  exact (List.getElem_inj hN).mp (e1.trans e2.symm)

theorem JR {M : Model} {A : Around} {E : Value → Shared → Prop} {i : Nat} {x : Str} {v : V} {u : Value} {Q : Unit → Shared → Prop} (I : Inv X pins σ H s) (hN : X.N.Nodup) (hi : X.N[i]? = some x) (hx : Loc X.env.scope x) (r : RelV v u)
    (h : ∀ s', Inv X pins (σ.set i (some v)) H s' → (∃ a, Heap.SameBut a s.heap s'.heap ∧ (a = X.env.locals ∨ X.env.cells.lookup x = some a)) → Q () s') (hf : X.fn x = true ∨ X.env.scope.names.lookup x = some .local := by first | exact .inl rfl | exact .inr rfl | assumption) : wpAny M A (storeName X.env x u) Q E s := by
  obtain ⟨m, hn, hl⟩ := id I.loc
  have hcls : (X.env.scope.kind == .class || (X.env.scope.kind == .module && X.env.locals != X.env.globals)) = false := by rw [I.ok.kind]; rfl
  have hiσ : i < σ.length := by rw [I.len]; exact (List.getElem?_eq_some_iff.mp hi).1
  have cne := I.cne
  have tracked : ∀ {a : Addr} {h' : Heap}, (∃ o, s.heap.get? a = some o ∧ H a = none) → Heap.SameBut a s.heap h' → HOk X.prog X.w H h' := fun {a h'} ha hs b ob e => by
    obtain ⟨_, _, hfree⟩ := ha
    refine (I.hok b ob e).stay (fun c w' hc q => (hs.2 c ?_).trans q) (fun _ q => q) fun _ _ q => q
    rintro rfl
    rcases hc with rfl | hc
    · rw [hfree] at e; cases e
    · rw [hfree] at hc; cases hc
  rcases hx with hk | hk
  · refine wpAny_storeName_local hk hn (fun h' hn' hs => ?_) hcls
    obtain ⟨oL, _, _, hoL, _⟩ := id hn
    refine h _ ⟨I.ok, I.os, I.bare, ⟨fun b o e n hb hx => ?_, fun b o e n hb hx => ?_, I.base.free, fun b o e hx => ?_, I.base.tups, I.base.frzs, I.base.tbls⟩, ⟨_, hn', fun j y v' e1 e2 e3 => ?_⟩, fun y c e => ?_, I.free, I.freeC, fun p hp => ?_, tracked ⟨oL, hoL, I.free⟩ hs, by simpa using I.len⟩ ⟨_, hs, .inl rfl⟩
    · exact (hs.2 b (Nat.ne_of_lt (Nat.lt_of_lt_of_le (Heap.lt_size e) I.ok.above))).trans (I.base.keep b o e n hb hx)
    · obtain ⟨sl, e1⟩ := I.base.slot b o e n hb hx
      exact ⟨sl, (hs.2 b (Nat.ne_of_lt (Nat.lt_of_lt_of_le (Heap.lt_size e) I.ok.above))).trans e1⟩
    · obtain ⟨o', e1⟩ := I.base.there b o e hx
      exact ⟨o', (hs.2 b (Nat.ne_of_lt (Nat.lt_of_lt_of_le (Heap.lt_size e) I.ok.above))).trans e1⟩
    · by_cases hj : j = i
      · subst hj
        rw [hi] at e1; cases e1
        rw [List.getElem?_set_self hiσ] at e2
        cases e2
        exact ⟨u, r, .inl ⟨hk, by simp⟩⟩
      · rw [List.getElem?_set_ne (Ne.symm hj)] at e2
        obtain ⟨u', r', q⟩ := hl j y v' e1 e2 e3
        refine ⟨u', r', ?_⟩
        rcases q with ⟨k, e⟩ | ⟨k, c, e, z⟩
        · refine .inl ⟨k, ?_⟩
          have : y ≠ x := fun e => hj (Zw hN e1 (e ▸ hi))
          simp [this, e]
        · exact .inr ⟨k, c, e, z.sameBut hs (cne y c e)⟩
    · obtain ⟨w', z⟩ := I.cell y c e
      exact ⟨w', z.sameBut hs (cne y c e)⟩
    · obtain ⟨e, n, ne, nf, d⟩ := I.pin p hp
      exact ⟨(hs.2 p.1 ne).trans e, n, ne, nf, d⟩
  · have hfn : X.fn x = true := by
      rcases hf with z | z
      · exact z
      · rw [z] at hk; cases hk
    obtain ⟨c, hc⟩ := I.ok.has x (.inl hk)
    obtain ⟨w', z⟩ := I.cell x c hc
    refine wpAny_storeName_cell I.ok.kind hk hc z (fun h' hc' hs => ?_)
    obtain ⟨oc, hoc, hocd⟩ := id z
    refine h { s with heap := h' } ⟨I.ok, I.os, I.bare, ⟨fun b o e n hb hx => ?_, fun b o e n hb hx => ?_, I.base.free, fun b o e hx => ?_, I.base.tups, I.base.frzs, I.base.tbls⟩, ⟨m, hn.sameBut hs (Ne.symm (cne x c hc)), fun j y v' e1 e2 e3 => ?_⟩, fun y c' e => ?_, I.free, I.freeC, fun p hp => ?_, tracked ⟨oc, hoc, I.freeC x c hc⟩ hs, by simpa using I.len⟩ ⟨c, hs, .inr hc⟩
    · exact (hs.2 b (Nat.ne_of_lt (Nat.lt_of_lt_of_le (Heap.lt_size e) (I.ok.cab x c hfn hc)))).trans (I.base.keep b o e n hb hx)
    · obtain ⟨sl, e1⟩ := I.base.slot b o e n hb hx
      exact ⟨sl, (hs.2 b (Nat.ne_of_lt (Nat.lt_of_lt_of_le (Heap.lt_size e) (I.ok.cab x c hfn hc)))).trans e1⟩
    · obtain ⟨o', e1⟩ := I.base.there b o e hx
      exact ⟨o', (hs.2 b (Nat.ne_of_lt (Nat.lt_of_lt_of_le (Heap.lt_size e) (I.ok.cab x c hfn hc)))).trans e1⟩
    · by_cases hj : j = i
      · subst hj
        rw [hi] at e1; cases e1
        rw [List.getElem?_set_self hiσ] at e2
        cases e2
        exact ⟨u, r, .inr ⟨.inl hk, c, hc, hc'⟩⟩
      · rw [List.getElem?_set_ne (Ne.symm hj)] at e2
        obtain ⟨u', r', q⟩ := hl j y v' e1 e2 e3
        refine ⟨u', r', ?_⟩
        rcases q with q | ⟨k, c', e, z'⟩
        · exact .inl q
        · refine .inr ⟨k, c', e, z'.sameBut hs ?_⟩
          rintro rfl
          exact hj (Zw hN e1 (I.ok.inj _ _ _ e hc ▸ hi))
    · by_cases hcc : c' = c
      · subst hcc; exact ⟨_, hc'⟩
      · obtain ⟨w2, z2⟩ := I.cell y c' e
        exact ⟨w2, z2.sameBut hs hcc⟩
    · obtain ⟨e, n, ne, nf, d⟩ := I.pin p hp
      refine ⟨(hs.2 p.1 ?_).trans e, n, ne, nf, d⟩
      intro q
      rw [q, hoc] at e
      have q' : oc = p.2 := Option.some.inj e
      exact d w' (by rw [← q']; exact hocd)
theorem ZD {M : Model} {A : Around} {E : Value → Shared → Prop} {i : Nat} {x : Str} {v : V} {u : Value} {Q : Unit → Shared → Prop} (I : Inv X pins σ H s) (hN : X.N.Nodup) (hi : X.N[i]? = some x) (hx : Loc X.env.scope x) (r : RelV v u)
    (h : ∀ s', Inv X pins (σ.set i (some v)) H s' → Q () s') (hf : X.fn x = true ∨ X.env.scope.names.lookup x = some .local := by first | exact .inl rfl | exact .inr rfl | assumption) : wpAny M A (storeName X.env x u) Q E s :=
  JR I hN hi hx r (fun s' I' _ => h s' I') hf
theorem Inv.call' {s' : Shared} {ch : List Addr} (I : Inv X pins σ H s) (ho : s'.os = s.os) (u : Un (frs X.stack) ch H H' s.heap s'.heap) (hok : HOk X.prog X.w H' s'.heap) (hg : AllBare s'.gens)
    (hch : ∀ b ∈ ch, (b ∈ X.ex ∨ X.s₀.heap.objs.size ≤ b) ∧ b ≠ X.env.locals ∧ (∀ x c, X.env.cells.lookup x = some c → c ≠ b) ∧ ∀ p ∈ X.pn ++ pins, p.1 ≠ b) : Inv X pins σ H' s' := by
  obtain ⟨h', g', d', t', o'⟩ := s'
  have e : o' = s.os := ho
  subst e
  exact I.call (g' := g') (t' := t') (d' := d') u hok hg hch
end

noncomputable abbrev XK := Value → Option Addr → Hp → Prop
noncomputable abbrev St := List (Option V)
noncomputable abbrev VK := V → Hp → Prop
noncomputable abbrev TE := St → Hp → VK → Prop
noncomputable abbrev TT := St → Hp → (Bool → Hp → Prop) → Prop
noncomputable abbrev TA := St → Hp → (List V → Hp → Prop) → Prop
structure Ends where
  nx : St → Hp → Prop
  rt : VK
  bk : St → Hp → Prop := fun _ _ => False
  ct : St → Hp → Prop := fun _ _ => False
noncomputable abbrev TS := Ends → St → Hp → Prop

noncomputable def EP (X : Cx) (pins : List (Addr × Obj)) (σ : St) (Q : VK) (u : Value) (s' : Shared) : Prop := ∃ v H', Inv X pins σ H' s' ∧ RelV v u ∧ Q v H'
noncomputable def TP (X : Cx) (pins : List (Addr × Obj)) (σ : St) (Q : Bool → Hp → Prop) (b : Bool) (s' : Shared) : Prop := ∃ H', Inv X pins σ H' s' ∧ Q b H'
noncomputable def AP (X : Cx) (pins : List (Addr × Obj)) (σ : St) (Q : List V → Hp → Prop) (us : List Value) (s' : Shared) : Prop := ∃ vs H', Inv X pins σ H' s' ∧ Vals vs us ∧ Q vs H'
noncomputable def SP (X : Cx) (pins : List (Addr × Obj)) (D : Ends) (f : Flow) (s' : Shared) : Prop :=
  match f with
  | .next => ∃ σ' H', Inv X pins σ' H' s' ∧ D.nx σ' H'
  | .brk => ∃ σ' H', Inv X pins σ' H' s' ∧ D.bk σ' H'
  | .cont => ∃ σ' H', Inv X pins σ' H' s' ∧ D.ct σ' H'
  | .ret u => ∃ v σ' H', Inv X pins σ' H' s' ∧ RelV v u ∧ D.rt v H'

noncomputable def PE (X : Cx) (e : Expr) (t : TE) : Prop :=
  ∀ (pins : List (Addr × Obj)) (s : Shared) (σ : St) (H : Hp) (Q : VK), Inv X pins σ H s → t σ H Q → wpAny (model X.prog X.w) X.A (eval e X.env) (EP X pins σ Q) X.xe s
noncomputable def PT (X : Cx) (e : Expr) (t : TT) : Prop :=
  ∀ (pins : List (Addr × Obj)) (s : Shared) (σ : St) (H : Hp) (Q : Bool → Hp → Prop), Inv X pins σ H s → t σ H Q → wpAny (model X.prog X.w) X.A (isTrue e X.env (eval e X.env)) (TP X pins σ Q) X.xe s
noncomputable def PW (X : Cx) (e : Expr) (t : TT) : Prop :=
  ∀ (whole : Sem Value) (pins : List (Addr × Obj)) (s : Shared) (σ : St) (H : Hp) (Q : Bool → Hp → Prop), Inv X pins σ H s → t σ H Q → wpAny (model X.prog X.w) X.A (isTrue e X.env whole) (TP X pins σ Q) X.xe s
theorem PW.pt {X : Cx} {e : Expr} {t : TT} (h : PW X e t) : PT X e t := h _
noncomputable def PA (X : Cx) (es : List Expr) (t : TA) : Prop :=
  ∀ (pos : Pos) (pins : List (Addr × Obj)) (s : Shared) (σ : St) (H : Hp) (Q : List V → Hp → Prop), Inv X pins σ H s → t σ H Q → wpAny (model X.prog X.w) X.A (spliced (backTo pos (starEach es X.env))) (AP X pins σ Q) X.xe s
noncomputable def PS (X : Cx) (st : Stmt) (t : TS) : Prop :=
  ∀ (pins : List (Addr × Obj)) (s : Shared) (σ : St) (H : Hp) (D : Ends), Inv X pins σ H s → t D σ H → wpAny (model X.prog X.w) X.A (exec st X.env) (SP X pins D) X.xe s
noncomputable def PSs (X : Cx) (st : List Stmt) (t : TS) : Prop :=
  ∀ (pins : List (Addr × Obj)) (s : Shared) (σ : St) (H : Hp) (D : Ends), Inv X pins σ H s → t D σ H → wpAny (model X.prog X.w) X.A (execs st X.env) (SP X pins D) X.xe s
theorem thn {α : Type} {t : Sem α} {Q Q' : α → Shared → Prop} {M : Model} {A : Around} {E : Value → Shared → Prop} {s : Shared} (h : wpAny M A t Q E s) (hQ : ∀ a s, Q a s → Q' a s) : wpAny M A t Q' E s := wpAny_mono h hQ fun _ _ x => x
end L2

namespace L2
open PySem PySem.Spec PyProof.Rows
section
variable {X : Cx}

theorem bin {a b : Expr} {ta tb : TE} (ha : PE X a ta) (hb : PE X b tb) {pins : List (Addr × Obj)} {s : Shared} {σ : St} {H : Hp} {R : V → V → Hp → Prop} (I : Inv X pins σ H s) (h : ta σ H fun x H1 => tb σ H1 fun y H2 => R x y H2)
    {α : Type} {Q : α → Shared → Prop} {f : Value → Value → Sem α}
    (hf : ∀ v u s2 x y H2, Inv X pins σ H2 s2 → RelV x v → RelV y u → R x y H2 → wpAny (model X.prog X.w) X.A (f v u) Q X.xe s2) :
    wpAny (model X.prog X.w) X.A (eval a X.env) (fun v s₁ => wpAny (model X.prog X.w) X.A (eval b X.env) (fun u s₂ => wpAny (model X.prog X.w) X.A (f v u) Q X.xe s₂) X.xe s₁) X.xe s := by
  refine thn (ha pins s σ H _ I h) fun v s1 ⟨x, H1, I1, r1, q1⟩ => ?_
  refine thn (hb pins s1 σ H1 _ I1 q1) fun u s2 ⟨y, H2, I2, r2, q2⟩ => ?_
  exact hf v u s2 x y H2 I2 r1 r2 q2

noncomputable def WP (i : Nat) : TE := fun σ H Q => ∃ v, σ[i]? = some (some v) ∧ Q v H
noncomputable def tC (v : V) : TE := fun _ H Q => Q v H
theorem Xo {i : Nat} {x : Str} {pos : Pos} (hN : X.N[i]? = some x) (hv : Vis X.env.scope x) (hd : (x == ("__debug__" : Str)) = false := by decide) (hcd : (x == ("__classdict__" : Str)) = false := by decide) : PE X (.Name x pos) (WP i) := by
  intro pins s σ H Q I h
  obtain ⟨v, e, h⟩ := h
  obtain ⟨m, hn, hl⟩ := I.loc
  obtain ⟨u, r, l⟩ := hl i x v hN e hv
  have fin : EP X pins σ Q u s := ⟨v, H, I, r, h⟩
  rcases l with ⟨hk, hm⟩ | ⟨hk, c, hc, hcell⟩
  · exact wpAny_Name (wpAny_loadName_local I.ok.kind hk hn hm fin) hd
  · rcases hk with hk | hk
    · exact wpAny_Name (wpAny_loadName_cell I.ok.kind hk hc hcell fin) hd
    · exact wpAny_Name (wpAny_loadName_free I.ok.kind hk hc hcell fin hcd) hd
theorem Zb {i j pos} : PE X (.Constant (.int i) j pos) (tC (.int i)) := fun _ _ _ H _ I h => wpAny_Constant_int ⟨.int i, H, I.tok _, ⟨_, rfl⟩, h⟩
theorem Ws {b j pos} : PE X (.Constant (.bool b) j pos) (tC (.bl b)) := fun _ _ _ H _ I h => Constant_bool ⟨.bl b, H, I, rfl, h⟩
theorem J7 {x j pos} : PE X (.Constant (.str x) j pos) (tC (.str x)) := fun _ _ _ H _ I h => Calls.Constant_str ⟨.str x, H, I.tok _, ⟨_, rfl⟩, h⟩

noncomputable def Gl (X : Cx) (x : Str) : Prop := X.env.kindOf x = some .globalImplicit
theorem QL {E : Value → Shared → Prop} {pins : List (Addr × Obj)} {s : Shared} {σ : St} {H : Hp} {x : Str} {u : Value} {pos : Pos} {Q : Value → Shared → Prop} (I : Inv X pins σ H s) (hg : Gl X x) (hm : X.mg x = some u) (h : Q u s)
    (hd : (x == ("__debug__" : Str)) = false := by decide) : wpAny (model X.prog X.w) X.A (eval (.Name x pos) X.env) Q E s :=
  Calls.Name_function_global I.ok.kind hg (Calls.loadGlobal_global (by rw [I.ok.glob]; exact I.mod.glob.keeps I.bk) hm h) hd
theorem Jq {E : Value → Shared → Prop} {pins : List (Addr × Obj)} {s : Shared} {σ : St} {H : Hp} {x : Str} {u : Value} {pos : Pos} {Q : Value → Shared → Prop} (I : Inv X pins σ H s) (hg : Gl X x) (hm : X.mg x = none) (hv : bootBuiltins x = some u) (h : Q u s)
    (hn : x ≠ "__name__" := by decide) (hd : (x == ("__debug__" : Str)) = false := by decide) : wpAny (model X.prog X.w) X.A (eval (.Name x pos) X.env) Q E s := by
  obtain ⟨mb, h1, h2⟩ := I.mod.blt
  exact Calls.Name_function_global I.ok.kind hg (Calls.loadGlobal_builtin (by rw [I.ok.glob]; exact I.mod.glob.keeps I.bk) hm (by rw [I.ok.blt]; exact h1.keeps I.bk) ((h2 x hn).trans hv) h) hd
theorem QM {x : Str} {v : V} {u : Value} {pos : Pos} (hg : Gl X x) (hm : X.mg x = some u) (r : RelV v u) (hd : (x == ("__debug__" : Str)) = false := by decide) : PE X (.Name x pos) (tC v) :=
  fun _ _ _ H _ I h => QL I hg hm ⟨v, H, I, r, h⟩ hd
theorem Ky {x : Str} {v : V} {u : Value} {pos : Pos} (hg : Gl X x) (hm : X.mg x = none) (hv : bootBuiltins x = some u) (r : RelV v u) (hn : x ≠ "__name__" := by decide) (hd : (x == ("__debug__" : Str)) = false := by decide) : PE X (.Name x pos) (tC v) :=
  fun _ _ _ H _ I h => Jq I hg hm hv ⟨v, H, I, r, h⟩ hn hd

variable {a b : Expr} {ta tb : TE} {pos : Pos}
noncomputable def tB (t : TE) : TT := fun σ H Q => t σ H fun x H1 => ∃ c, x = .bl c ∧ Q c H1
theorem YH {e : Expr} {t : TE} (h : PE X e t) (he : ∀ whole, isTrue e X.env whole = (do let v ← whole; standAt e.pos; holding [v] (truthy v)) := by intro _; rfl) : PT X e (tB t) := by
  intro pins s σ H Q I hw
  refine isTrue_plain (thn (h pins s σ H _ I hw) fun v s1 ⟨x, H1, I1, r1, q1⟩ => ?_) (he _)
  obtain ⟨d, rfl, q⟩ := q1
  cases r1
  exact wpAny_truthy_bool ⟨H1, I1, q⟩

variable {tA tB' : TT} {rest : List Expr}
noncomputable def tOr (t u : TT) : TT := fun σ H Q => t σ H fun c H1 => if c = true then Q true H1 else u σ H1 Q
noncomputable def UL (t : TT) : TT := fun σ H Q => t σ H fun c H1 => Q (!c) H1
theorem Yn (ha : PT X a tA) : PW X (.BoolOp .Or [a] pos) tA := by
  intro wh pins s σ H Q I h
  refine isTrue_or (thn (ha pins s σ H Q I h) fun c s1 e => ?_)
  cases c with
  | false => exact isTrue_or_nil e
  | true => exact e
theorem Wl (ha : PT X a tA) (hb : PW X (.BoolOp .Or (b :: rest) pos) tB') : PW X (.BoolOp .Or (a :: b :: rest) pos) (tOr tA tB') := by
  intro wh pins s σ H Q I h
  refine isTrue_or (thn (ha pins s σ H _ I h) fun c s1 ⟨H1, I1, q1⟩ => ?_)
  cases c with
  | true => exact ⟨H1, I1, q1⟩
  | false => exact hb wh pins s1 σ H1 Q I1 q1
theorem Yh (ha : PT X a tA) : PT X (.UnaryOp .Not a pos) (UL tA) := by
  intro pins s σ H Q I h
  exact isTrue_not (ha pins s σ H (fun c H1 => Q (!c) H1) I h)
noncomputable def Wd (ta tb : TE) : TE := fun σ H Q => ta σ H fun x H1 => ∃ c, x = .bl c ∧ if c = true then tb σ H1 Q else Q (.bl false) H1
theorem YL {op} {t : TE} (h : PE X a t) : PE X (.BoolOp op [a] pos) t := fun pins s σ H Q I hw => BoolOp_one (h pins s σ H Q I hw)
theorem YI (ha : PE X a ta) (hb : PE X (.BoolOp .And (b :: rest) pos) tb) : PE X (.BoolOp .And (a :: b :: rest) pos) (Wd ta tb) := by
  intro pins s σ H Q I h
  refine BoolOp_and (thn (ha pins s σ H _ I h) fun v s1 ⟨x, H1, I1, r1, q1⟩ => ?_)
  obtain ⟨c, rfl, q1⟩ := q1
  cases r1
  refine wpAny_truthy_bool ?_
  cases c with
  | true => exact hb pins s1 σ H1 Q I1 q1
  | false => exact ⟨.bl false, H1, I1, rfl, q1⟩
end
end L2

namespace L2
open PySem PySem.Spec PyProof.Rows

noncomputable def SqL (K : PySem.W.Frag) (H : Hp) (a : Addr) (xs : List V) : Prop :=
  Rd H a (.lst xs) ∨
    ∃ (o : Obj) (its : Array Value) (n : Nat), K.lookup a = some o ∧ o.cls = .type "list" ∧ o.dict = none ∧ o.data = .seq its n ∧ its.size ≤ sizeLine ∧ Vals xs its.toList
noncomputable def SqT (K : PySem.W.Frag) (H : Hp) (a : Addr) (xs : List V) : Prop :=
  Rd H a (.tup xs) ∨
    ∃ (o : Obj) (its : Array Value) (n : Nat), K.lookup a = some o ∧ o.cls = .type "tuple" ∧ o.data = .seq its n ∧ its.size ≤ sizeLine ∧ Vals xs its.toList
noncomputable def Uw : Value → Option V
  | .none => some .non
  | .bool b => some (.bl b)
  | .int i _ => some (.int i)
  | .str x _ => some (.str x)
  | .bytes b _ => some (.byt b)
  | .float b _ => some (.flt b)
  | .ref a => some (.ref a)
  | .type n => some (.ty n)
  | _ => none
theorem RelV.abs {x : V} {u : Value} (r : RelV x u) : Uw u = some x := by
  cases x with
  | non => cases r; rfl
  | bl _ => cases r; rfl
  | int _ => obtain ⟨t, rfl⟩ := r; rfl
  | str _ => obtain ⟨t, rfl⟩ := r; rfl
  | byt _ => obtain ⟨t, rfl⟩ := r; rfl
  | flt _ => obtain ⟨t, rfl⟩ := r; rfl
  | ref _ => cases r; rfl
  | ty _ => cases r; rfl
theorem RelV.inj {x y : V} {u : Value} (r : RelV x u) (q : RelV y u) : x = y := Option.some.inj (r.abs.symm.trans q.abs)
theorem Vals.inj : ∀ {xs ys : List V} {us : List Value}, Vals xs us → Vals ys us → xs = ys
  | _, _, _, .nil, .nil => rfl
  | _, _, _, .cons r t, .cons r' t' => by rw [r.inj r', Vals.inj t t']
section
variable {X : Cx} {pins : List (Addr × Obj)} {σ : St} {H : Hp} {s : Shared} {a : Addr} {xs ys : List V}
theorem SqL.of {K : PySem.W.Frag} (h : H a = some (.lst xs)) : SqL K H a xs := .inl (.inl h)
theorem SqT.of {K : PySem.W.Frag} (h : H a = some (.tup xs)) : SqT K H a xs := .inl (.inl h)
theorem Inv.list (I : Inv X pins σ H s) (h : SqL X.K H a xs) : ∃ its : List Value, Vals xs its ∧ PlainL s.heap a its.toArray ∧ xs.length ≤ sizeLine := by
  rcases h with h | ⟨o, its, n, hk, hc, hd, hs, hz, r⟩
  · obtain ⟨z, its, n, r, e⟩ := h.ok I.hok
    exact ⟨its, r, ⟨_, n, e, rfl, rfl, rfl⟩, z⟩
  · refine ⟨its.toList, r, ⟨o, n, I.kIn a o hk, hc, hd, by simpa using hs⟩, ?_⟩
    have e := r.length
    simp only [Array.length_toList] at e
    omega
theorem Inv.tuple (I : Inv X pins σ H s) (h : SqT X.K H a xs) : ∃ its : List Value, Vals xs its ∧ IsTup s.heap a its.toArray ∧ xs.length ≤ sizeLine := by
  rcases h with h | ⟨o, its, n, hk, hc, hs, hz, r⟩
  · obtain ⟨z, its, r, p⟩ := h.ok I.hok
    exact ⟨its, r, p, z⟩
  · refine ⟨its.toList, r, ⟨o, I.kIn a o hk, hc, n, by simpa using hs⟩, ?_⟩
    have e := r.length
    simp only [Array.length_toList] at e
    omega
theorem Inv.list_inj (I : Inv X pins σ H s) (h : SqL X.K H a xs) (h' : SqL X.K H a ys) : xs = ys := by
  obtain ⟨its, r, ⟨o, n, e, _, _, d⟩, _⟩ := I.list h
  obtain ⟨its', r', ⟨o', n', e', _, _, d'⟩, _⟩ := I.list h'
  rw [e] at e'; cases e'
  rw [d] at d'
  injection d' with d1 _
  have : its = its' := by simpa using congrArg Array.toList d1
  subst this
  exact r.inj r'
theorem Inv.tuple_inj (I : Inv X pins σ H s) (h : SqT X.K H a xs) (h' : SqT X.K H a ys) : xs = ys := by
  obtain ⟨its, r, ⟨o, e, _, n, d⟩, _⟩ := I.tuple h
  obtain ⟨its', r', ⟨o', e', _, n', d'⟩, _⟩ := I.tuple h'
  rw [e] at e'; cases e'
  rw [d] at d'
  injection d' with d1 _
  have : its = its' := by simpa using congrArg Array.toList d1
  subst this
  exact r.inj r'
end

noncomputable abbrev Cx.wish (X : Cx) (E : Value → Shared → Prop) : Cx := { X with xe := E }
noncomputable abbrev Cx.nox (X : Cx) : Cx := X.wish fun _ _ => False
theorem Cx.Ok.wish {X : Cx} (ok : X.Ok) (E : Value → Shared → Prop) : (X.wish E).Ok :=
  ⟨ok.mod, ok.kind, ok.glob, ok.blt, ok.above, ok.inj, ok.has, ok.cab, ok.hd, ok.frames, ok.stk, ok.exf, ok.bs, ok.bsz, ok.noex, ok.exfs, ok.funs, ok.frf⟩
theorem Cx.Ok.unwish {X : Cx} {E : Value → Shared → Prop} (ok : (X.wish E).Ok) : X.Ok :=
  ⟨ok.mod, ok.kind, ok.glob, ok.blt, ok.above, ok.inj, ok.has, ok.cab, ok.hd, ok.frames, ok.stk, ok.exf, ok.bs, ok.bsz, ok.noex, ok.exfs, ok.funs, ok.frf⟩
section
variable {X : Cx} {pins : List (Addr × Obj)} {σ : St} {H : Hp} {s : Shared} {E : Value → Shared → Prop}
theorem Inv.wish (I : Inv X pins σ H s) (E : Value → Shared → Prop) : Inv (X.wish E) pins σ H s := ⟨I.ok.wish E, I.os, I.bare, I.base, I.loc, I.cell, I.free, I.freeC, I.pin, I.hok, I.len⟩
theorem Inv.unwish (I : Inv (X.wish E) pins σ H s) : Inv X pins σ H s := ⟨I.ok.unwish, I.os, I.bare, I.base, I.loc, I.cell, I.free, I.freeC, I.pin, I.hok, I.len⟩
theorem SP.unwish {D : Ends} {f : Flow} {s' : Shared} (h : SP (X.wish E) pins D f s') : SP X pins D f s' := by
  cases f with
  | next => obtain ⟨σ', H', I, q⟩ := h; exact ⟨σ', H', I.unwish, q⟩
  | brk => obtain ⟨σ', H', I, q⟩ := h; exact ⟨σ', H', I.unwish, q⟩
  | cont => obtain ⟨σ', H', I, q⟩ := h; exact ⟨σ', H', I.unwish, q⟩
  | ret u => obtain ⟨v, σ', H', I, r, q⟩ := h; exact ⟨v, σ', H', I.unwish, r, q⟩
theorem PSs.nox {st : List Stmt} {t : TS} (h : PSs X.nox st t) : PSs X st t := fun pins s σ H D I hw =>
  wpAny_mono (h pins s σ H D (I.wish _) hw) (fun _ _ q => q.unwish) fun _ _ z => False.elim z
end

section
variable {X : Cx} {st : Stmt} {rest : List Stmt} {t u : TS} {e : Expr} {te : TE} {pos : Pos}
noncomputable def Wj : TS := fun D σ H => D.nx σ H
noncomputable def WY (t u : TS) : TS := fun D σ H => t { D with nx := u D } σ H
theorem QJ : PSs X [] Wj := fun _ _ σ H _ I h => wpAny_execs_nil ⟨σ, H, I, h⟩
theorem Qn (h1 : PS X st t) (h2 : PSs X rest u) : PSs X (st :: rest) (WY t u) := by
  intro pins s σ H D I h
  refine wpAny_execs_cons (thn (h1 pins s σ H { D with nx := u D } I h) fun f s1 q => ?_)
  cases f with
  | next =>
    obtain ⟨σ', H', I', q⟩ := q
    exact h2 pins s1 σ' H' D I' q
  | ret v => exact q
  | brk => exact q
  | cont => exact q
theorem Qt (h1 : PS X st t) : PSs X [st] t := by
  intro pins s σ H D I h
  refine wpAny_execs_cons (thn (h1 pins s σ H D I h) fun f s1 q => ?_)
  cases f with
  | next => exact wpAny_execs_nil q
  | ret v => exact q
  | brk => exact q
  | cont => exact q
theorem Inv.quiet {pins : List (Addr × Obj)} {σ : St} {H : Hp} {s : Shared} (I : Inv X pins σ H s) : interactive X.env = false := by simp [interactive, I.ok.kind]
noncomputable def We (te : TE) : TS := fun D σ H => te σ H fun _ H1 => D.nx σ H1
theorem XT (he : PE X e te) (hs : swapsWith e none pos.line X.env = pure false := by rfl) : PS X (.Expr e pos) (We te) := by
  intro pins s σ H D I h
  exact wpAny_Expr_any (thn (he pins s σ H _ I h) fun v s1 ⟨x, H1, I1, r1, q1⟩ => ⟨σ, H1, I1, q1⟩) I.quiet hs
noncomputable def Ub (te : TE) : TS := fun D σ H => te σ H D.rt
theorem Xt (he : PE X e te) : PS X (.Return (some e) pos) (Ub te) := by
  intro pins s σ H D I h
  exact wpAny_Return_some (thn (he pins s σ H _ I h) fun v s1 ⟨x, H1, I1, r1, q1⟩ => ⟨x, σ, H1, I1, r1, q1⟩)
noncomputable def Um (c : TT) (t u : TS) : TS := fun D σ H => c σ H fun b H1 => if b = true then t D σ H1 else u D σ H1
theorem ZX {c : Expr} {a b : List Stmt} {tc : TT} (hc : PT X c tc) (ha : PSs X a t) (hb : PSs X b u) : PS X (.If c a b pos) (Um tc t u) := by
  intro pins s σ H D I h
  refine wpAny_If (thn (hc pins s σ H _ I h) fun d s1 ⟨H1, I1, q1⟩ => ?_)
  cases d with
  | true => exact ha pins s1 σ H1 D I1 q1
  | false => exact hb pins s1 σ H1 D I1 q1
end

noncomputable abbrev TG := V → St → Hp → (St → Hp → Prop) → Prop
noncomputable def PG (X : Cx) (target : Expr) (t : TG) : Prop :=
  ∀ (pins : List (Addr × Obj)) (s : Shared) (σ : St) (H : Hp) (v : V) (u : Value) (Q : St → Hp → Prop), Inv X pins σ H s → RelV v u → t v σ H Q →
    wpAny (model X.prog X.w) X.A (assign target X.env u) (fun _ s' => ∃ σ' H', Inv X pins σ' H' s' ∧ Q σ' H') X.xe s
section
variable {X : Cx} {pos : Pos}
noncomputable def YE (i : Nat) : TG := fun v σ H Q => Q (σ.set i (some v)) H
theorem X6 {i : Nat} {x : Str} (hN : X.N.Nodup) (hi : X.N[i]? = some x) (hx : Loc X.env.scope x) (hf : X.fn x = true ∨ X.env.scope.names.lookup x = some .local := by first | exact .inl rfl | exact .inr rfl | assumption) : PG X (.Name x pos) (YE i) := by
  intro pins s σ H v u Q I r h
  exact wpAny_assign_Name (ZD I hN hi hx r (fun s' I' => ⟨_, H, I', h⟩) hf)
noncomputable def Uj (te : TE) (g : TG) : TS := fun D σ H => te σ H fun x H1 => g x σ H1 D.nx
theorem Z3 {i : Nat} {x : Str} {e : Expr} {te : TE} {pos' : Pos} (hN : X.N.Nodup) (hi : X.N[i]? = some x) (hx : Loc X.env.scope x) (he : PE X e te) (hs : swapsWith e (some (.Name x pos')) pos.line X.env = pure false := by rfl) (hf : X.fn x = true ∨ X.env.scope.names.lookup x = some .local := by first | exact .inl rfl | exact .inr rfl | assumption) :
    PS X (.Assign [.Name x pos'] e pos) (Uj te (YE i)) := by
  intro pins s σ H D I h
  refine wpAny_Assign_Name (thn (he pins s σ H _ I h) fun v s1 ⟨y, H1, I1, r1, q1⟩ => ?_) hs
  exact ZD I1 hN hi hx r1 (fun s2 I2 => ⟨_, H1, I2, q1⟩) hf
end

section
variable {X : Cx} {pos : Pos}
end

structure It where
  go : Nat → Hp → Prop
  yld : Nat → Hp → V → Hp → Prop
  stop : Nat → Hp → Prop
noncomputable def VF (X : Cx) (pins : List (Addr × Obj)) (H : Hp) (b : Addr) : Prop :=
  H b = none ∧ b ≠ X.env.locals ∧ b ∉ X.fs ∧ (b ∈ X.ex ∨ X.s₀.heap.objs.size ≤ b) ∧ (∀ x c, X.env.cells.lookup x = some c → c ≠ b) ∧ ∀ p ∈ X.pn ++ pins, p.1 ≠ b
theorem Inv.fpOk {X : Cx} {pins : List (Addr × Obj)} {σ : St} {H H' : Hp} {s : Shared} {b : Addr} (I : Inv X pins σ H s) (hb : s.heap.objs.size ≤ b) (hn : H' b = none) : VF X pins H' b := by
  refine ⟨hn, Nat.ne_of_gt (Nat.lt_of_lt_of_le I.lt hb), I.nofs hb, .inr (Nat.le_trans I.sz hb), fun x c e z => ?_, fun p hp z => ?_⟩
  · obtain ⟨v, q⟩ := I.cell x c e
    exact absurd (Nat.lt_of_lt_of_le q.lt (by rw [z]; exact hb)) (Nat.lt_irrefl _)
  · exact absurd (Nat.lt_of_lt_of_le (Heap.lt_size (I.pin p hp).1) (by rw [z]; exact hb)) (Nat.lt_irrefl _)
structure Turn (P : Program) (w : World) (K : PySem.W.Frag) (tg : Expr) (J : It) (fp : List Addr) (it : Addr) (tn : Nat → Heap → Prop) : Prop where
  mem : it ∈ fp
  obj : ∀ i h, tn i h → ∀ b ∈ fp, ∃ o, h.get? b = some o ∧ ∀ v, o.data ≠ .cell v
  keep : ∀ i h h', tn i h → (∀ b ∈ fp, ∀ o, h.get? b = some o → h'.get? b = some o) → tn i h'
  item : ∀ (X : Cx), X.prog = P → X.w = w → X.K = K → X.calm = true → ∀ (i : Nat) (pins : List (Addr × Obj)) (s : Shared) (σ : St) (H : Hp) (E : Value → Shared → Prop), Inv X pins σ H s → (∀ b ∈ fp, VF X pins H b) → tn i s.heap → J.go i H →
    wpAny (model P w) X.A (pyNext (.ref it)) (fun r s1 => ∃ u, r = some u ∧
      wpAny (model P w) X.A (letOwnedTupleGo tg (.ref it) u) (fun _ s2 => ∃ x H', Inv X pins σ H' s2 ∧ RelV x u ∧ J.yld i H x H' ∧ tn (i + 1) s2.heap ∧ ∀ b ∈ fp, H' b = none) E s1) E s
  done : ∀ (X : Cx), X.prog = P → X.w = w → X.K = K → X.calm = true → ∀ (i : Nat) (pins : List (Addr × Obj)) (s : Shared) (σ : St) (H : Hp) (E : Value → Shared → Prop), Inv X pins σ H s → (∀ b ∈ fp, VF X pins H b) → tn i s.heap → J.stop i H →
    wpAny (model P w) X.A (pyNext (.ref it)) (fun r s1 => r = none ∧ Inv X pins σ H s1) E s
  self : ∀ (A : Around) (i : Nat) (s : Shared) (Q : Value → Shared → Prop) (E : Value → Shared → Prop), tn i s.heap → Q (.ref it) s → wpAny (model P w) A (pyIter (.ref it)) Q E s
noncomputable abbrev TI := St → Hp → (It → Hp → Prop) → Prop
noncomputable def PIE (X : Cx) (pins : List (Addr × Obj)) (σ : St) (tg : Expr) (R : It → Hp → Prop) (itv : Value) (s2 : Shared) : Prop :=
  ∃ (it : Addr) (fp : List Addr) (tn : Nat → Heap → Prop) (J : It) (H' : Hp), itv = .ref it ∧ Inv X pins σ H' s2 ∧ Turn X.prog X.w X.K tg J fp it tn ∧ tn 0 s2.heap ∧ (∀ b ∈ fp, VF X pins H' b) ∧ R J H'
noncomputable def PI (X : Cx) (tg iter : Expr) (wi : TI) : Prop :=
  ∀ (pins : List (Addr × Obj)) (s : Shared) (σ : St) (H : Hp) (R : It → Hp → Prop), Inv X pins σ H s → wi σ H R →
    wpAny (model X.prog X.w) X.A (eval iter X.env) (fun v s1 => wpAny (model X.prog X.w) X.A (pyIter v) (PIE X pins σ tg R) X.xe s1) X.xe s

theorem Y4 {M : Model} {A : Around} {E : Value → Shared → Prop} {s : Shared} {tg : Expr} {it : Addr} {u : Value} {o : Obj} {n : String} {vs : Array Value} {Q : Unit → Shared → Prop} (ho : s.heap.get? it = some o) (hc : o.cls = .type n) (hd : o.data = .fields vs)
    (hn : ["enumerate", "zip", "dict_itemiterator", "dict_reverseitemiterator", "odict_iterator", "itertools.zip_longest", "itertools.pairwise"].contains n = false) (hQ : Q () s) : wpAny M A (letOwnedTupleGo tg (.ref it) u) Q E s := by
  unfold letOwnedTupleGo
  cases tg <;> first
    | exact wpAny_pure hQ
    | (cases u <;> first
        | exact wpAny_pure hQ
        | (refine wpAny_bind (wpAny_load ho ?_)
           rw [hc, hd]
           show wpAny M A (if (["enumerate", "zip", "dict_itemiterator", "dict_reverseitemiterator", "odict_iterator", "itertools.zip_longest", "itertools.pairwise"].contains n && vs[0]? == some (rawInt _)) = true then _ else _) Q E s
           rw [if_neg (by intro h; rw [hn, Bool.false_and] at h; cases h)]
           exact wpAny_pure hQ))

noncomputable def Itr (lo : Int) (n : Nat) : It := ⟨fun i _ => i < n, fun i H x H' => H' = H ∧ x = .int (lo + i), fun i _ => n ≤ i⟩
theorem Jz {P : Program} {w : World} {K : PySem.W.Frag} {tg : Expr} (it : Addr) (lo : Int) (n : Nat) : Turn P w K tg (Itr lo n) [it] it (fun i h => IsRangeIter h it (lo + (i : Nat) * 1) ((n : Int) - (i : Nat)) 1) where
  mem := by simp
  obj := fun i h st b hb => by
    have e : b = it := by simpa using hb
    subst e
    exact ⟨_, st, fun v z => by
      have z' : Data.fields _ = Data.cell v := z
      cases z'⟩
  keep := fun i h h' st k => k it (by simp) _ st
  item := by
    intro X hP hw hK hc i pins s σ H E I hf st hg
    subst hP hw hK
    obtain ⟨f0, f1, f2, f3, f4, f5⟩ := hf it (by simp)
    have W := Walks.range (prog := X.prog) (w := X.w) (I.ok.hd hc) it lo 1 n
    refine W.item i s _ _ hg st fun v h' tk hv st' kk => ?_
    obtain ⟨t, rfl⟩ := hv
    have I1 : Inv X pins σ H { s with heap := h', toks := tk } := I.turned (fun b o hb e => kk b o (by simpa using hb) e) f0 f1 f3 f4 f5
    refine ⟨_, rfl, Y4 (s := { s with heap := h', toks := tk }) (n := "range_iterator") st' rfl rfl (by decide) ⟨.int (lo + i), H, I1, ⟨t, ?_⟩, ⟨rfl, rfl⟩, st', fun b hb => (hf b hb).1⟩⟩
    rw [Int.mul_one]
  done := by
    intro X hP hw hK hc i pins s σ H E I hf st hg
    subst hP hw hK
    obtain ⟨f0, f1, f2, f3, f4, f5⟩ := hf it (by simp)
    exact wpAny_pyNext_range_end (I.ok.hd hc) st (by have : n ≤ i := hg; omega) fun h' eb => ⟨rfl, I.turned (t' := s.toks) (fun b o hb e => eb b o hb e) f0 f1 f3 f4 f5⟩
  self := fun _ _ _ _ _ st h => wpAny_pyIter_rangeiter st h
end L2

namespace L2
open PySem PySem.Spec PyProof.Rows
section
variable {X : Cx} {tg : Expr}
theorem VI {pins : List (Addr × Obj)} {σ : St} {H : Hp} {s : Shared} {R : It → Hp → Prop} {E : Value → Shared → Prop} {lo hi : Int} {t u v : Tok} {tk : Nat} (I : Inv X pins σ H s) (h1 : -(2 ^ 62) ≤ lo) (h2 : lo < 2 ^ 62) (h3 : -(2 ^ 62) ≤ hi) (h4 : hi < 2 ^ 62)
    (q : R (Itr lo (hi - lo).toNat) H) : wpAny (model X.prog X.w) X.A (pyIter (.ref s.heap.objs.size)) (PIE X pins σ tg R) E { s with heap := s.heap.push { cls := .type "range", data := .fields #[.int lo t, .int hi u, .int 1 v] }, toks := tk } := by
  refine wpAny_pyIter_range (IsRange.new ..) (small_one h1 h2 h3 h4) ?_
  have I1 : Inv X pins σ H { s with heap := s.heap.push { cls := .type "range", data := .fields #[.int lo t, .int hi u, .int 1 v] }, toks := tk } := I.kept fun b o e => Heap.get?_push_of_some _ e
  refine ⟨(s.heap.push { cls := .type "range", data := .fields #[.int lo t, .int hi u, .int 1 v] }).objs.size, [(s.heap.push { cls := .type "range", data := .fields #[.int lo t, .int hi u, .int 1 v] }).objs.size], _, _, H, rfl,
    I1.kept (t' := tk) fun b o e => Heap.get?_push_of_some _ e, Jz _ lo (hi - lo).toNat, ?_, fun b hb => ?_, q⟩
  · have e1 : lo + ((0 : Nat) : Int) * 1 = lo := by simp
    have e2 : (((hi - lo).toNat : Nat) : Int) - ((0 : Nat) : Int) = Builtin.Range.rangeSize lo hi 1 := by rw [rangeSize_one]; split <;> omega
    show IsRangeIter _ _ (lo + ((0 : Nat) : Int) * 1) ((((hi - lo).toNat : Nat) : Int) - ((0 : Nat) : Int)) 1
    rw [e1, e2]
    exact Heap.get?_push_size _ rfl
  · have e : b = (s.heap.push { cls := .type "range", data := .fields #[.int lo t, .int hi u, .int 1 v] }).objs.size := by simpa using hb
    subst e
    exact I1.fpOk (Nat.le_refl _) (I1.hok.fresh (Nat.le_refl _))
noncomputable def Wh (ta : TA) : TI := fun σ H R => ta σ H fun vs H1 => ∃ j : Int, vs = [.int j] ∧ -(2 ^ 62) ≤ j ∧ j < 2 ^ 62 ∧ R (Itr 0 j.toNat) H1
theorem JN {a : Expr} {ta : TA} {p pos : Pos} (hg : Gl X "range") (hm : X.mg "range" = none) (ha : PA X [a] ta) (hs : starEach [a] X.env = [(false, eval a X.env)] := by rfl) : PI X tg (.Call (.Name "range" p) [a] [] pos) (Wh ta) := by
  intro pins s σ H R I h
  refine Call_ (Jq I hg hm boot_range (PyProof.Rows.callWith_type1 (thn (ha pos pins s σ H _ I h) fun us s1 ⟨vs, H1, I1, r1, q1⟩ => ?_) hs rfl))
  obtain ⟨j, e, q1, q2, q⟩ := q1
  subst e
  cases r1 with
  | cons r rr =>
    cases rr
    obtain ⟨t, rfl⟩ := r
    exact call_range_1 (VI I1 (by omega) (by omega) q1 q2 (by simpa using q))
noncomputable def W3 (wi : TI) (g : TG) (tb : TS) : TS := fun D σ H => wi σ H fun J H1 => ∃ W : Nat → Nat → St → Hp → Prop, (∃ m, W 0 m σ H1) ∧ ∀ i m σ H, W i m σ H →
  (J.stop i H ∧ D.nx σ H) ∨ (J.go i H ∧ ∃ N : St → Hp → Prop, (∀ σ' H', N σ' H' → ∃ m', m' < m ∧ W (i + 1) m' σ' H') ∧ ∀ x H', J.yld i H x H' → g x σ H' fun σ2 H2 => tb { D with nx := N, ct := N, bk := D.nx } σ2 H2)
noncomputable def ZV (fp : List Addr) (h : Heap) : List (Addr × Obj) := fp.filterMap fun b => (h.get? b).map fun o => (b, o)
theorem QN {fp : List Addr} {h : Heap} {b : Addr} {o : Obj} (hb : b ∈ fp) (e : h.get? b = some o) : (b, o) ∈ ZV fp h := List.mem_filterMap.mpr ⟨b, hb, by rw [e]; rfl⟩
theorem J9 {fp : List Addr} {h : Heap} {p : Addr × Obj} (hp : p ∈ ZV fp h) : p.1 ∈ fp ∧ h.get? p.1 = some p.2 := by
  obtain ⟨b, hb, e⟩ := List.mem_filterMap.mp hp
  cases q : h.get? b with
  | none => rw [q] at e; cases e
  | some o =>
    rw [q] at e
    have e' : (b, o) = p := Option.some.inj e
    subst e'
    exact ⟨hb, q⟩
theorem Inv.pinned {pins : List (Addr × Obj)} {σ : St} {H : Hp} {s : Shared} {fp : List Addr} (I : Inv X pins σ H s) (hf : ∀ b ∈ fp, VF X pins H b) (ho : ∀ b ∈ fp, ∃ o, s.heap.get? b = some o ∧ ∀ v, o.data ≠ .cell v) : Inv X (pins ++ ZV fp s.heap) σ H s :=
  I.pins_of fun p hp => (List.mem_append.mp hp).elim (fun z => I.pin p (List.mem_append_right _ z)) fun z => by
    obtain ⟨hb, e⟩ := J9 z
    obtain ⟨f0, f1, f2, _⟩ := hf p.1 hb
    obtain ⟨o, e', d⟩ := ho p.1 hb
    rw [e] at e'; cases e'
    exact ⟨e, f0, f1, f2, d⟩
theorem Inv.unpinned {pins pl : List (Addr × Obj)} {σ : St} {H : Hp} {s : Shared} (I : Inv X (pins ++ pl) σ H s) : Inv X pins σ H s := I.pins_of fun p hp => I.pin p (List.mem_append_right _ (List.mem_append_left _ hp))
theorem Yj {iter : Expr} {body : List Stmt} {wi : TI} {g : TG} {tb : TS} {pos : Pos} (hp : PassesOwn (model X.prog X.w) X.A X.env X.xe) (hc : X.calm = true) (hi : PI X tg iter wi) (hg : PG X tg g) (hb : PSs X body tb)
    (hs : ∀ x, foldedSetIterable iter X.env x = pure x := by intro _; rfl) : PS X (.For tg iter body [] pos) (W3 wi g tb) := by
  intro pins s σ H D I h
  refine wpAny_For (thn (hi pins s σ H _ I h) fun v s1 h1 => thn h1 fun itv s2 h2 => ?_) hs
  obtain ⟨it, fp, tn, J, H2, e, I2, T, st2, f2, W, ⟨m0, w0⟩, turn⟩ := h2
  subst e
  -- what stays true of the iterator's objects through the loop
  have stat : ∀ {H' : Hp}, (∀ b ∈ fp, H' b = none) → ∀ b ∈ fp, VF X pins H' b := fun hn b hb => ⟨hn b hb, (f2 b hb).2⟩
  refine codeAny_forLoop_any (fun n s' => ∃ i σ' H', Inv X pins σ' H' s' ∧ tn i s'.heap ∧ (∀ b ∈ fp, H' b = none) ∧ W i n σ' H') ?_ m0 ⟨0, σ, H2, I2, st2, fun b hb => (f2 b hb).1, w0⟩
  rintro n s3 ⟨i, σ3, H3, I3, st3, fr3, w3⟩
  rcases turn i n σ3 H3 w3 with ⟨stop, qn⟩ | ⟨go, N, hN, step⟩
  · refine wpAny_passesOwn hp (thn (T.done X rfl rfl rfl hc i pins s3 σ3 H3 X.xe I3 (stat fr3) st3 stop) fun r s4 ⟨hr, I4⟩ => ?_)
    subst hr
    exact wpAny_execs_nil ⟨σ3, H3, I4, qn⟩
  · refine wpAny_passesOwn hp (thn (T.item X rfl rfl rfl hc i pins s3 σ3 H3 X.xe I3 (stat fr3) st3 go) fun r s4 ⟨u, hr, h4⟩ => ?_)
    subst hr
    refine wpAny_passesOwn hp (thn h4 fun _ s5 ⟨x, H5, I5, r5, y5, st5, fr5⟩ => ?_)
    have I5' := I5.pinned (stat fr5) (T.obj _ _ st5)
    refine wpAny_passesOwn hp (thn (hg _ s5 σ3 H5 x u _ I5' r5 (step x H5 y5)) fun _ s6 ⟨σ6, H6, I6, q6⟩ => ?_)
    refine wpAny_passesOwn hp (thn (hb _ s6 σ6 H6 _ I6 q6) fun f s7 q7 => ?_)
    have again : ∀ {σ7 : St} {H7 : Hp}, Inv X (pins ++ ZV fp s5.heap) σ7 H7 s7 → N σ7 H7 → ∃ m, m < n ∧ ∃ i σ' H', Inv X pins σ' H' s7 ∧ tn i s7.heap ∧ (∀ b ∈ fp, H' b = none) ∧ W i m σ' H' := fun {σ7 H7} I7 n7 => by
      obtain ⟨m', hm, w7⟩ := hN σ7 H7 n7
      refine ⟨m', hm, i + 1, σ7, H7, I7.unpinned, T.keep _ _ _ st5 fun b hb o e => (I7.pin (b, o) (List.mem_append_right _ (List.mem_append_right _ (QN hb e)))).1, fun b hb => ?_, w7⟩
      obtain ⟨o, e, d⟩ := T.obj _ _ st5 b hb
      exact (I7.pin (b, o) (List.mem_append_right _ (List.mem_append_right _ (QN hb e)))).2.1
    cases f with
    | next => obtain ⟨σ7, H7, I7, n7⟩ := q7; exact again I7 n7
    | cont => obtain ⟨σ7, H7, I7, n7⟩ := q7; exact again I7 n7
    | brk => obtain ⟨σ7, H7, I7, q7⟩ := q7; exact ⟨σ7, H7, I7.unpinned, q7⟩
    | ret v => obtain ⟨x7, σ7, H7, I7, r7, q7⟩ := q7; exact ⟨x7, σ7, H7, I7.unpinned, r7, q7⟩
end

end L2

namespace L2
open PySem PySem.Spec PyProof.Rows

noncomputable abbrev R2 := V → V → Hp → VK → Prop
noncomputable def OpR (X : Cx) (f : Value → Value → Sem Value) (r : R2) : Prop :=
  ∀ (pins : List (Addr × Obj)) (s : Shared) (σ : St) (H : Hp) (x y : V) (v u : Value) (Q : VK), Inv X pins σ H s → RelV x v → RelV y u → r x y H Q →
    wpAny (model X.prog X.w) X.A (f v u) (EP X pins σ Q) X.xe s
noncomputable def CallR (X : Cx) (f : Value) (r : List V → Hp → VK → Prop) : Prop :=
  ∀ (pins : List (Addr × Obj)) (s : Shared) (σ : St) (H : Hp) (xs : List V) (us : List Value) (Q : VK), Inv X pins σ H s → Vals xs us → r xs H Q →
    wpAny (model X.prog X.w) X.A (call f us) (EP X pins σ Q) X.xe s
noncomputable def Uo (X : Cx) (r : V → Hp → (Bool → Hp → Prop) → Prop) : Prop :=
  ∀ (pins : List (Addr × Obj)) (s : Shared) (σ : St) (H : Hp) (x : V) (v : Value) (Q : Bool → Hp → Prop), Inv X pins σ H s → RelV x v → r x H Q →
    wpAny (model X.prog X.w) X.A (truthy v) (TP X pins σ Q) X.xe s

noncomputable def tOp (r : R2) (ta tb : TE) : TE := fun σ H Q => ta σ H fun x H1 => tb σ H1 fun y H2 => r x y H2 Q
noncomputable def rI (C : Int → Int → Prop) (g : Int → Int → V) : R2 := fun x y H Q => ∃ i j, x = .int i ∧ y = .int j ∧ C i j ∧ Q (g i j) H
noncomputable def rI0 (g : Int → Int → V) : R2 := fun x y H Q => ∃ i j, x = .int i ∧ y = .int j ∧ Q (g i j) H
section
variable {X : Cx} {a b c : Expr} {ta tb tc : TE} {pos : Pos}

theorem Wk (ha : PE X a ta) (hb : PE X b tb) {pins : List (Addr × Obj)} {s : Shared} {σ : St} {H : Hp} {R : V → V → Hp → Prop} (I : Inv X pins σ H s)
    (h : ta σ H fun x H1 => tb σ H1 fun y H2 => R x y H2) {Q : Value → Shared → Prop} {f : Value → Value → Sem Value}
    (hf : ∀ v u s2 x y H2, Inv X pins σ H2 s2 → RelV x v → RelV y u → R x y H2 → wpAny (model X.prog X.w) X.A (f v u) Q X.xe s2) :
    wpAny (model X.prog X.w) X.A (eval a X.env) (fun v s₁ => wpAny (model X.prog X.w) X.A (eval b X.env) (fun u s₂ => wpAny (model X.prog X.w) X.A (f v u) Q X.xe s₂) X.xe s₁) X.xe s := by
  refine thn (ha pins s σ H _ I h) fun v s1 ⟨x, H1, I1, r1, q1⟩ => ?_
  refine thn (hb pins s1 σ H1 _ I1 q1) fun u s2 ⟨y, H2, I2, r2, q2⟩ => ?_
  exact hf v u s2 x y H2 I2 r1 r2 q2

theorem KQ {op : Operator} {r : R2} (ho : OpR X (binaryOp op) r) (ha : PE X a ta) (hb : PE X b tb) : PE X (.BinOp a op b pos) (tOp r ta tb) := by
  intro pins s σ H Q I h
  exact wpAny_BinOp (Wk ha hb I h fun v u s2 x y H2 I2 rx ry q => ho pins s2 σ H2 x y v u Q I2 rx ry q)
theorem opI {f : Value → Value → Sem Value} {C : Int → Int → Prop} {g : Int → Int → Int}
    (rule : ∀ (i j : Int) (t u : Tok) (s : Shared) (Q : Value → Shared → Prop) (E : Value → Shared → Prop), C i j → Q (.int (g i j) s.toks) { s with toks := s.toks + 1 } → wpAny (model X.prog X.w) X.A (f (.int i t) (.int j u)) Q E s) :
    OpR X f (rI C fun i j => .int (g i j)) := by
  intro pins s σ H x y v u Q I rx ry h
  obtain ⟨i, j, rfl, rfl, hc, q⟩ := h
  obtain ⟨t, rfl⟩ := rx
  obtain ⟨t', rfl⟩ := ry
  exact rule i j t t' s _ _ hc ⟨.int (g i j), H, I.tok _, ⟨_, rfl⟩, q⟩
theorem Ut {f : Value → Value → Sem Value} {g : Int → Int → Int}
    (rule : ∀ (i j : Int) (t u : Tok) (s : Shared) (Q : Value → Shared → Prop) (E : Value → Shared → Prop), Q (.int (g i j) s.toks) { s with toks := s.toks + 1 } → wpAny (model X.prog X.w) X.A (f (.int i t) (.int j u)) Q E s) :
    OpR X f (rI0 fun i j => .int (g i j)) := by
  intro pins s σ H x y v u Q I rx ry h
  obtain ⟨i, j, rfl, rfl, q⟩ := h
  obtain ⟨t, rfl⟩ := rx
  obtain ⟨t', rfl⟩ := ry
  exact rule i j t t' s _ _ ⟨.int (g i j), H, I.tok _, ⟨_, rfl⟩, q⟩
theorem Ur {f : Value → Value → Sem Value} {g : Int → Int → Bool}
    (rule : ∀ (i j : Int) (t u : Tok) (s : Shared) (Q : Value → Shared → Prop) (E : Value → Shared → Prop), Q (.bool (g i j)) s → wpAny (model X.prog X.w) X.A (f (.int i t) (.int j u)) Q E s) :
    OpR X f (rI0 fun i j => .bl (g i j)) := by
  intro pins s σ H x y v u Q I rx ry h
  obtain ⟨i, j, rfl, rfl, q⟩ := h
  obtain ⟨t, rfl⟩ := rx
  obtain ⟨t', rfl⟩ := ry
  exact rule i j t t' s _ _ ⟨.bl (g i j), H, I, rfl, q⟩

noncomputable def UE (i j : Int) : Prop := 0 ≤ j ∧ j ≤ 1000000 ∧ i.natAbs < 2 ^ 64
noncomputable def CMul (i j : Int) : Prop := (-(2 ^ 64) < i ∧ i < 2 ^ 64) ∨ (-(2 ^ 64) < j ∧ j < 2 ^ 64)
theorem CMul.ok {i j : Int} (h : CMul i j) : IntMulOk i j := by
  rcases h with ⟨h1, h2⟩ | ⟨h1, h2⟩
  · exact .of_left (intBits_le_64 h1 h2)
  · exact .of_right (intBits_le_64 h1 h2)
theorem KT : OpR X (binaryOp .Sub) (rI0 fun i j => .int (i - j)) := Ut fun _ _ _ _ _ _ _ q => sub_int q
theorem Yd : OpR X (binaryOp .Mult) (rI CMul fun i j => .int (i * j)) := opI fun _ _ _ _ _ _ _ hc q => mul_int q hc.ok
theorem K4 : OpR X (binaryOp .Mod) (rI (fun _ j => 0 < j) fun i j => .int (i % j)) := opI fun i j _ _ _ _ _ hc q => by
  have h1 : (0 : Int) < j := hc
  exact mod_int' (by omega) (by rw [Int.fmod_eq_emod_of_nonneg i (by omega)]; exact q)
theorem Ym : OpR X (binaryOp .Pow) (rI UE fun i j => .int (i ^ j.toNat)) := opI fun _ _ _ _ _ _ _ hc q => pow_int_small hc.1 hc.2.1 hc.2.2 q
end

noncomputable def UH : V → V → Bool
  | .non, .non => true | .non, .int _ => true | .int _, .non => true | .non, .bl _ => true | .bl _, .non => true | .non, .str _ => true | .str _, .non => true
  | .int _, .int _ => true | .bl _, .bl _ => true | .str _, .str _ => true | .byt _, .byt _ => true
  | .int _, .str _ => true | .str _, .int _ => true | .bl _, .str _ => true | .str _, .bl _ => true
  | _, _ => false
noncomputable def rEq : R2 := fun x y H Q => UH x y = true ∧ Q (.bl (decide (x = y))) H
theorem XE {i j : Int} : decide (V.int i = V.int j) = (i == j) := by
  rw [Bool.eq_iff_iff]
  simp
theorem YJ {i j : Bool} : decide (V.bl i = V.bl j) = (i == j) := by
  rw [Bool.eq_iff_iff]
  simp
theorem X4 {i j : Str} : decide (V.str i = V.str j) = (i == j) := by
  rw [Bool.eq_iff_iff]
  simp
theorem XU {i j : Array UInt8} : decide (V.byt i = V.byt j) = (i.toList == j.toList) := by
  rw [Bool.eq_iff_iff]
  cases i
  cases j
  simp

section
variable {X : Cx} {a b c : Expr} {ta tb tc : TE} {pos : Pos}
theorem Qv {pins : List (Addr × Obj)} {σ : St} {H : Hp} {s : Shared} {Q : VK} {k k' : Bool} (I : Inv X pins σ H s) (q : Q (.bl k) H) (e : k = k') : EP X pins σ Q (.bool k') s := by
  subst e
  exact ⟨.bl k, H, I, rfl, q⟩
theorem JF : OpR X (compareOp .Eq) rEq := by
  intro pins s σ H x y v u Q I rx ry h
  obtain ⟨hs, q⟩ := h
  cases x with
  | non =>
    cases rx
    cases y with
    | non => cases ry; exact PySem.EqNone.eq_none_none (Qv I q (by simp))
    | bl j => cases ry; exact PySem.EqNone.eq_none_bool (Qv I q (by simp))
    | int j => obtain ⟨t', rfl⟩ := ry; exact PySem.EqNone.eq_none_int (Qv I q (by simp))
    | str j => obtain ⟨t', rfl⟩ := ry; exact PySem.EqNone.eq_none_str (Qv I q (by simp))
    | _ => exact absurd (show false = true from hs) Bool.false_ne_true
  | bl i =>
    cases rx
    cases y with
    | non => cases ry; exact PySem.EqNone.eq_bool_none (Qv I q (by simp))
    | bl j => cases ry; exact eq_bool (Qv I q YJ)
    | str j => obtain ⟨t', rfl⟩ := ry; exact PySem.EqMixed.eq_bool_str (Qv I q (by simp))
    | _ => exact absurd (show false = true from hs) Bool.false_ne_true
  | int i =>
    obtain ⟨t, rfl⟩ := rx
    cases y with
    | non => cases ry; exact PySem.EqNone.eq_int_none (Qv I q (by simp))
    | int j => obtain ⟨t', rfl⟩ := ry; exact eq_int (Qv I q XE)
    | str j => obtain ⟨t', rfl⟩ := ry; exact PySem.EqMixed.eq_int_str (Qv I q (by simp))
    | _ => exact absurd (show false = true from hs) Bool.false_ne_true
  | str i =>
    obtain ⟨t, rfl⟩ := rx
    cases y with
    | non => cases ry; exact PySem.EqNone.eq_str_none (Qv I q (by simp))
    | bl j => cases ry; exact PySem.EqMixed.eq_str_bool (Qv I q (by simp))
    | int j => obtain ⟨t', rfl⟩ := ry; exact PySem.EqMixed.eq_str_int (Qv I q (by simp))
    | str j => obtain ⟨t', rfl⟩ := ry; exact eq_str (Qv I q X4)
    | _ => exact absurd (show false = true from hs) Bool.false_ne_true
  | byt i =>
    obtain ⟨t, rfl⟩ := rx
    cases y with
    | byt j => obtain ⟨t', rfl⟩ := ry; exact PySem.W.eq_bytes (Qv I q XU)
    | _ => exact absurd (show false = true from hs) Bool.false_ne_true
  | _ => cases y <;> exact absurd (show false = true from hs) Bool.false_ne_true
theorem Wf : OpR X (compareOp .Gt) (rI0 fun i j => .bl (decide (j < i))) := Ur fun _ _ _ _ _ _ _ q => gt_int q
theorem Zq (b : Expr) {op : CmpOp} (h : op ≠ .In := by decide) (h2 : op ≠ .NotIn := by decide) : behindInMarks op b = false := by
  have e1 : (op == CmpOp.In) = false := by cases op <;> first | rfl | exact absurd rfl h
  have e2 : (op == CmpOp.NotIn) = false := by cases op <;> first | rfl | exact absurd rfl h2
  cases b <;> simp [behindInMarks, e1, e2]
theorem XV {op : CmpOp} {r : R2} (ho : OpR X (compareOp op) r) (ha : PE X a ta) (hb : PE X b tb) (hm : behindInMarks op b = false) : PE X (.Compare a [op] [b] pos) (tOp r ta tb) := by
  intro pins s σ H Q I h
  exact wpAny_Compare1 (Wk ha hb I h fun v u s2 x y H2 I2 rx ry q => ho pins s2 σ H2 x y v u Q I2 rx ry q) hm
noncomputable def WD (t : TE) : TT := fun σ H Q => t σ H fun x H' => ∃ k, x = .bl k ∧ Q k H'
theorem QR {op : CmpOp} {r : R2} (ho : OpR X (compareOp op) r) (ha : PE X a ta) (hb : PE X b tb) (hm : behindInMarks op b = false) : PT X (.Compare a [op] [b] pos) (WD (tOp r ta tb)) := by
  intro pins s σ H Q I h
  refine wpAny_isTrue_Compare1 (thn (ha pins s σ H _ I h) fun v s1 ⟨x, H1, I1, r1, q1⟩ => thn (hb pins s1 σ H1 _ I1 q1) fun u s2 ⟨y, H2, I2, r2, q2⟩ =>
    thn (ho pins s2 σ H2 x y v u _ I2 r1 r2 q2) fun c s3 ⟨z, H3, I3, r3, k, e, q3⟩ => ?_) hm
  subst e
  cases r3
  exact wpAny_truthy_bool ⟨H3, I3, q3⟩
noncomputable def WG (K : PySem.W.Frag) (x : V) (H : Hp) (k : Bool) : Prop :=
  match x with
  | .non => k = false
  | .bl b => k = b
  | .int i => k = (i != 0)
  | .str y => y.length ≤ sizeLine ∧ k = ((y.length : Int) != 0)
  | .byt y => y.size ≤ sizeLine ∧ k = ((y.size : Int) != 0)
  | .ref p => (∃ xs, SqL K H p xs ∧ k = !xs.isEmpty) ∨ (∃ xs, SqT K H p xs ∧ k = !xs.isEmpty) ∨ ∃ kvs, H p = some (.dK kvs) ∧ k = !kvs.isEmpty
  | _ => False
theorem JH {κ : Type} {kvs : List (κ × V)} {vs : List (κ × Value)} (r : KV kvs vs) : (!vs.isEmpty) = !kvs.isEmpty := by
  cases r <;> rfl
theorem Zs {xs : List V} {its : List Value} (r : Vals xs its) : (!its.toArray.isEmpty) = !xs.isEmpty := by
  cases r <;> simp
theorem Zt : (sizeLine : Nat) < 2 ^ 63 := by rw [sizeLine_eq]; decide
theorem KN : Uo X (fun x H Q => ∃ k, WG X.K x H k ∧ Q k H) := by
  intro pins s σ H x v Q I rx h
  obtain ⟨k, e, q⟩ := h
  have hl := Zt
  have hs : sizeLine = 16777216 := sizeLine_eq
  cases x with
  | non =>
    cases rx
    have e' : k = false := e
    subst e'
    exact truthy_none ⟨H, I, q⟩
  | bl b =>
    cases rx
    have e' : k = b := e
    subst e'
    exact wpAny_truthy_bool ⟨H, I, q⟩
  | int i =>
    obtain ⟨t, rfl⟩ := rx
    have e' : k = (i != 0) := e
    subst e'
    exact PySem.P.truthy_int ⟨H, I, q⟩
  | str y =>
    obtain ⟨t, rfl⟩ := rx
    obtain ⟨hy, e'⟩ : y.length ≤ sizeLine ∧ k = ((y.length : Int) != 0) := e
    subst e'
    exact PySem.P.truthy_str (by omega) ⟨H, I.tok _, q⟩
  | byt y =>
    obtain ⟨t, rfl⟩ := rx
    obtain ⟨hy, e'⟩ : y.size ≤ sizeLine ∧ k = ((y.size : Int) != 0) := e
    subst e'
    exact PySem.W.truthy_bytes (by omega) ⟨H, I.tok _, q⟩
  | ref p =>
    cases rx
    have e' : (∃ xs, SqL X.K H p xs ∧ k = !xs.isEmpty) ∨ (∃ xs, SqT X.K H p xs ∧ k = !xs.isEmpty) ∨ ∃ kvs, H p = some (.dK kvs) ∧ k = !kvs.isEmpty := e
    rcases e' with ⟨xs, hx, e'⟩ | ⟨xs, hx, e'⟩ | ⟨kvs, hx, e'⟩
    · subst e'
      obtain ⟨its, r, pl, hz⟩ := I.list hx
      have hlen := r.length
      exact wpAny_truthy_list pl.isList (by simp only [List.size_toArray]; omega) ⟨H, I.tok _, by rw [Zs r]; exact q⟩
    · subst e'
      obtain ⟨its, r, pl, hz⟩ := I.tuple hx
      have hlen := r.length
      exact truthy_tuple pl (by simp only [List.size_toArray]; omega) ⟨H, I.tok _, by rw [Zs r]; exact q⟩
    · subst e'
      obtain ⟨hz, hS, vs, r, m⟩ : kvs.length ≤ sizeLine ∧ (p == sysModules) = false ∧ ∃ vs, KV kvs vs ∧ s.heap.DictOf (Vz X.prog X.w) p vs := I.hok p _ hx
      have hlen : kvs.length = vs.length := Paired.length r
      exact wpAny_truthy_dict hS m (by omega) ⟨H, I.tok _, by rw [JH r]; exact q⟩
  | _ => exact (show False from e).elim
theorem VW (ha : PE X a ta) (he : ∀ whole, isTrue a X.env whole = (do let v ← whole; standAt a.pos; holding [v] (truthy v))) :
    PT X a (fun σ H Q => ta σ H fun x H' => ∃ k, WG X.K x H' k ∧ Q k H') := by
  intro pins s σ H Q I h
  exact isTrue_plain (thn (ha pins s σ H _ I h) fun v s1 ⟨x, H1, I1, r1, q1⟩ => KN pins s1 σ H1 x v Q I1 r1 q1) (he _)

theorem Vo {x : V} {us : List Value} (r : Vals [x] us) : ∃ u, us = [u] ∧ RelV x u := by
  cases r with
  | cons r1 r2 => cases r2; exact ⟨_, rfl, r1⟩
theorem Yi {x y : V} {us : List Value} (r : Vals [x, y] us) : ∃ u w', us = [u, w'] ∧ RelV x u ∧ RelV y w' := by
  cases r with
  | cons r1 r2 =>
    cases r2 with
    | cons r3 r4 => cases r4; exact ⟨_, _, rfl, r1, r3⟩
theorem J3 : CallR X (.type "int") (fun xs H Q => (∃ i, xs = [.int i] ∧ Q (.int i) H) ∨ ∃ k, xs = [.bl k] ∧ Q (.int (if k then 1 else 0)) H) := by
  intro pins s σ H xs us Q I r h
  rcases h with ⟨i, rfl, q⟩ | ⟨k, rfl, q⟩
  · obtain ⟨u, rfl, t, rfl⟩ := Vo r
    exact call_int_int ⟨.int i, H, I, ⟨_, rfl⟩, q⟩
  · obtain ⟨u, rfl, r1⟩ := Vo r
    cases r1
    exact call_int_bool ⟨.int (if k then 1 else 0), H, I.tok _, ⟨_, rfl⟩, q⟩
end
end L2

namespace L2
open PySem PySem.Spec PyProof.Rows

theorem VA {h : Heap} {dx : Addr} {mA : Str → Option Value} (n : h.Ns1 dx mA) : ∃ od, h.get? dx = some od ∧ ∀ name, PySem.W.lookIn name od = some (mA name) := by
  obtain ⟨o, es, ep, ho, hd, hk, _, hm⟩ := n
  refine ⟨o, ho, fun name => ?_⟩
  have e := hm name
  unfold nsFind findBy at e
  rw [← Array.find?_toList] at e
  unfold PySem.W.lookIn
  rw [hd]
  dsimp only
  split
  · rename_i y q
    rw [q] at e
    exact congrArg some e
  · rename_i q
    rw [q] at e
    have a : es.toList.any (·.refKey) = false := by
      rw [List.any_eq_false]
      intro y hy
      obtain ⟨z, t, hkey⟩ := hk y (Array.mem_toList_iff.mp hy)
      simp [DictEntry.refKey, hkey]
    have a' : ¬ es.toList.any (·.refKey) = true := by rw [a]; exact Bool.false_ne_true
    rw [if_neg a']
    exact congrArg some e

section
variable {prog : Program} {w : World} {A : Around} {E : Value → Shared → Prop} {s : Shared} {K : PySem.W.Frag} {x dx C f : Addr} {mA : Str → Option Value} {name : Str} {v : Value}

end

theorem RelO.some_of {v : V} {o : Option Value} (r : RelO (some v) o) : ∃ u, o = some u ∧ RelV v u := by
  cases o with
  | none => exact (show False from r).elim
  | some u => exact ⟨u, rfl, r⟩
theorem Vf {v : V} {u : Value} (r : RelV v u) : PySem.W.handedIn u = true := by
  cases v with
  | non => cases (show u = Value.none from r); rfl
  | bl b => cases (show u = Value.bool b from r); rfl
  | int i => obtain ⟨t, e⟩ := (show ∃ t, u = Value.int i t from r); cases e; rfl
  | str x => obtain ⟨t, e⟩ := (show ∃ t, u = Value.str x t from r); cases e; rfl
  | byt b => obtain ⟨t, e⟩ := (show ∃ t, u = Value.bytes b t from r); cases e; rfl
  | flt b => obtain ⟨t, e⟩ := (show ∃ t, u = Value.float b t from r); cases e; rfl
  | ref a => cases (show u = Value.ref a from r); rfl
  | ty n => cases (show u = Value.type n from r); rfl

section
variable {P : Program} {w : World} {H H' : Hp} {h h' : Heap} {a C dx : Addr} {fs fs' : List (Str × V)}
end

structure Cls (K : PySem.W.Frag) (C : Addr) : Prop where
  pg : PySem.W.plainGet K C Str.empty = true
  hd : PySem.W.hasDictIn K C = true
  po : PySem.W.plainOver K C = true
  sa : PySem.W.findIn K (.ref C) "__setattr__" = some (some (.builtin "object.__setattr__"))
noncomputable def W6 (K : PySem.W.Frag) (C : Addr) (f : Str) : Prop := PySem.W.findIn K (.ref C) f = some none
section
variable {X : Cx} {pins : List (Addr × Obj)} {σ : St} {H : Hp} {s : Shared} {a C dx : Addr} {fs : List (Str × V)} {f : Str} {v : V} {A : Around} {E : Value → Shared → Prop}

theorem X9 {prog : Program} {w : World} {env : Env} {e : Expr} {f : Str} {pos : Pos} {s : Shared} {Q : Value → Shared → Prop} (hb : attributeBase e f env (eval e env) = eval e env)
    (h : wpAny (model prog w) A (eval e env) (fun o s₁ => wpAny (model prog w) A (getAttr o f true) Q E s₁) E s) : wpAny (model prog w) A (eval (.Attribute e f pos) env) Q E s :=
  Attribute_any_ h (by rw [arm_eval_Attribute, hb])
end

section
variable {X : Cx} {o e value : Expr} {f : Str} {pos pos' tpos : Pos} {ta tv : TE}
end

section
variable {X : Cx} {pins : List (Addr × Obj)} {σ : St} {H : Hp} {s : Shared} {A : Around} {E : Value → Shared → Prop} {Q : Value → Shared → Prop} {c : Value} {b : Bool}
inductive TyOf (K : PySem.W.Frag) (H : Hp) : V → Value → Prop where
  | non : TyOf K H .non (.type "NoneType")
  | bl (x : Bool) : TyOf K H (.bl x) (.type "bool")
  | int (i : Int) : TyOf K H (.int i) (.type "int")
  | str (x : Str) : TyOf K H (.str x) (.type "str")
  | flt (x : UInt64) : TyOf K H (.flt x) (.type "float")
  | lst {a : Addr} {xs : List V} (e : H a = some (.lst xs)) : TyOf K H (.ref a) (.type "list")
  | frz {a : Addr} {o : Obj} {xs : List V} (e : H a = some (.frz o (.lst xs))) : TyOf K H (.ref a) (.type "list")
  | tup {a : Addr} {xs : List V} (e : H a = some (.tup xs)) : TyOf K H (.ref a) (.type "tuple")
  | dK {a : Addr} {kvs : List (Key × V)} (e : H a = some (.dK kvs)) : TyOf K H (.ref a) (.type "dict")
  | dT {a : Addr} {kvs : List (Tr × Addr × V)} (e : H a = some (.dT kvs)) : TyOf K H (.ref a) (.type "dict")
  | ins {a C dx : Addr} {fs : List (Str × V)} (e : H a = some (.ins C dx fs)) (cl : Cls K C) (ha : PySem.W.findIn K (.ref C) "__class__" = some (some (.builtin "object.__class__")))
      (hn : PySem.W.specialIn K (.builtin "object.__class__") "__get__" = some (some (.builtin "getset_descriptor.__get__"))) (htk : PySem.W.takesIn K (.builtin "object.__class__") = some true)
      (hm : PySem.W.mroIn K C (.type "object") = some true) : TyOf K H (.ref a) (.ref C)
end
end L2

namespace L2
open PySem PySem.Spec PyProof.Rows

structure Room (k : Nat) (A : Around) : Prop where
  hd : A.handled = none
  dp : A.depth + 3 * k + 5 < recursionLimit
  un : A.units + 16 * k + 200 < cLine
theorem Room.mono {j k : Nat} {A : Around} (r : Room k A) (h : j ≤ k) : Room j A := ⟨r.hd, by have := r.dp; omega, by have := r.un; omega⟩
theorem Room.deeper {k : Nat} {A : Around} (r : Room (k + 1) A) (env : Env) : Room k (A.deeper env) :=
  ⟨r.hd, by have := r.dp; show A.depth + 1 + 3 * k + 5 < _; omega, by have := r.un; show A.units + 3 + 16 * k + 200 < _; omega⟩
theorem JI {A : Around} {C : Addr} {us : List Value} {kw : List (Str × Value)} : (A.under (.builtin "type.__call__" ⟨.ref C :: us, kw⟩)).depth = A.depth + 1 := by
  first | rfl | simp [Around.under, Code.weight, Code.isCreation, Code.isGuard, Code.isCaller, Code.frames, Code.isFrame, guardIds]
theorem Jy {A : Around} {C : Addr} {us : List Value} {kw : List (Str × Value)} : (A.under (.builtin "type.__call__" ⟨.ref C :: us, kw⟩)).units = A.units + 1 := by
  first | rfl | simp [Around.under, Code.cUnits, Code.frames, Code.isFrame]
theorem Room.make {k : Nat} {A : Around} (r : Room (k + 1) A) (C : Addr) (us : List Value) (kw : List (Str × Value)) : Room k (A.under (.builtin "type.__call__" ⟨.ref C :: us, kw⟩)) :=
  ⟨r.hd, by have := r.dp; rw [JI]; omega, by have := r.un; rw [Jy]; omega⟩
theorem Room.depth {k : Nat} {A : Around} (r : Room k A) : A.depth < recursionLimit := by have := r.dp; omega
theorem Room.units {k : Nat} {A : Around} (r : Room k A) : A.units + 64 < cLine := by have := r.un; omega
noncomputable def UA : TA := fun _ H Q => Q [] H
noncomputable def Wx (ta : TE) (tr : TA) : TA := fun σ H Q => ta σ H fun x H1 => tr σ H1 fun xs H2 => Q (x :: xs) H2
section
variable {X : Cx} {e : Expr} {es : List Expr} {te : TE} {t : TA} {pos : Pos}
theorem Qi : PA X [] UA := fun _ _ _ _ H Q I h => Calls.spliced_nil ⟨[], H, I, .nil, h⟩
theorem Qc (ha : PE X e te) (hr : PA X es t) (hs : starEach (e :: es) X.env = (false, eval e X.env) :: starEach es X.env := by rfl) : PA X (e :: es) (Wx te t) := by
  intro pos pins s σ H Q I h
  rw [hs]
  show wpAny _ _ (spliced ((false, eval e X.env) :: backTo pos (starEach es X.env))) _ _ s
  refine Calls.spliced_cons (thn (ha pins s σ H _ I h) fun u s1 ⟨x, H1, I1, r1, q1⟩ => ?_)
  exact thn (hr pos pins s1 σ H1 _ I1 q1) fun us s2 ⟨xs, H2, I2, r2, q2⟩ => ⟨x :: xs, H2, I2, .cons r1 r2, q2⟩

noncomputable def Uf (t : TA) : TE := fun σ H Q => t σ H fun xs H1 => xs.length ≤ sizeLine ∧ ∀ p, H1 p = none → Q (.ref p) (upd H1 p (.lst xs))
theorem JV (h : PA X es t) : PE X (.List es pos) (Uf t) := by
  intro pins s σ H Q I hq
  refine wpAny_List_spliced (thn (h pos pins s σ H _ I hq) fun us s1 ⟨xs, H1, I1, r, z, q⟩ => ⟨by rw [← r.length]; exact z, ?_⟩)
  have hf : H1 s1.heap.objs.size = none := I1.hok.fresh (Nat.le_refl _)
  refine ⟨.ref s1.heap.objs.size, upd H1 s1.heap.objs.size (.lst xs), I1.laid (t' := s1.toks) (fun b u e => Heap.get?_push_of_some _ e) (Nat.le_refl _) ?_, rfl, q _ hf⟩
  exact ⟨z, us, 0, r, Heap.get?_push_size _ rfl⟩
end

noncomputable abbrev Sp := List V → Hp → VK → XK → Prop
noncomputable abbrev CXT := List Env → Hp → Shared → XK → Value → Shared → Prop

structure Env0 (P : Program) (w : World) (K : PySem.W.Frag) (mg : Str → Option Value) (base : Heap) (A : Around) (outer : List Env) (s : Shared) (H : Hp) : Prop where
  frames : A.frames = some outer
  mod : Mod K mg base
  bs : ∀ b o, base.get? b = some o → s.heap.get? b = some o ∧ H b = none
  bsz : base.objs.size ≤ s.heap.objs.size
  funs : s.heap.FunFrames base outer
  frf : ∀ b ∈ frs outer, H b = none
  hok : HOk P w H s.heap
  bare : AllBare s.gens
noncomputable def CE (outer : List Env) (P : Program) (w : World) (H : Hp) (s : Shared) (Q : VK) (u : Value) (s' : Shared) : Prop :=
  ∃ v H', s'.os = s.os ∧ AllBare s'.gens ∧ Un (frs outer) [] H H' s.heap s'.heap ∧ HOk P w H' s'.heap ∧ RelV v u ∧ Q v H'
noncomputable def CR (CX : CXT) (outer : List Env) (P : Program) (w : World) (H : Hp) (s : Shared) (Q : VK) (E : XK) (r : Result) (s' : Shared) : Prop :=
  match r with
  | .ok (.ret u) => CE outer P w H s Q u s'
  | .ok _ => False
  | .error e => CX outer H s E e s'
structure FnOk (P : Program) (w : World) (K : PySem.W.Frag) (mg : Str → Option Value) (base : Heap) (CX : CXT) (k : Nat) (f : Addr) (fd : FuncData) (ps : List Str) (sp : Sp) : Prop where
  len : ∀ vs H Q E, sp vs H Q E → vs.length = ps.length
  run : ∀ (A : Around) (outer : List Env) (s : Shared) (H : Hp) (args : Args) (us : List Value) (vs : List V) (Q : VK) (E : XK), Room k A → Env0 P w K mg base A outer s H → BindsTo s fd args (ps.zip us) → Vals vs us → sp vs H Q E →
    codeAny (model P w) A (.call (.ref f) args) (CR CX outer P w H s Q E) s
theorem FnOk.imp {P : Program} {w : World} {K : PySem.W.Frag} {mg : Str → Option Value} {base : Heap} {CX : CXT} {k : Nat} {f : Addr} {fd : FuncData} {ps : List Str} {sp sp' : Sp} (F : FnOk P w K mg base CX k f fd ps sp)
    (h : ∀ vs H Q E, sp' vs H Q E → sp vs H Q E) : FnOk P w K mg base CX k f fd ps sp' :=
  ⟨fun vs H Q E q => F.len vs H Q E (h _ _ _ _ q), fun A outer s H args us vs Q E hr he hb hv hs => F.run A outer s H args us vs Q E hr he hb hv (h _ _ _ _ hs)⟩

theorem Env0.make {P : Program} {w : World} {K : PySem.W.Frag} {mg : Str → Option Value} {base : Heap} {A : Around} {outer : List Env} {s : Shared} {H : Hp} (e : Env0 P w K mg base A outer s H) (C : Addr) (us : List Value) (kw : List (Str × Value)) :
    Env0 P w K mg base (A.under (.builtin "type.__call__" ⟨.ref C :: us, kw⟩)) outer s H := ⟨by first | exact e.frames | (simpa [Around.under, Code.envs, Code.isFrame, pushEnvs] using e.frames), e.mod, e.bs, e.bsz, e.funs, e.frf, e.hok, e.bare⟩
section
variable {X : Cx} {pins : List (Addr × Obj)} {σ : St} {H : Hp} {s s' : Shared}
theorem Inv.env0 (I : Inv X pins σ H s) : Env0 X.prog X.w X.K X.mg X.base X.A X.stack s H :=
  ⟨I.ok.frames, I.ok.mod, I.bs, Nat.le_trans I.ok.bsz I.sz, I.stack, I.stkFree, I.hok, I.bare⟩
theorem Inv.after {Q : VK} {u : Value} (I : Inv X pins σ H s) (h : CE X.stack X.prog X.w H s Q u s') : EP X pins σ Q u s' := by
  obtain ⟨v, H', os, bare, un, hok, r, q⟩ := h
  obtain ⟨hh, g, d, t, os'⟩ := s'
  obtain rfl : os' = s.os := os
  exact ⟨v, H', I.call (h' := hh) (g' := g) (d' := d) (t' := t) (ch := []) un hok bare (fun b z => absurd z (by simp)), r, q⟩
end

noncomputable def K0 (sp : Sp) (dvs : List V) (E : XK) (t : TA) : TE := fun σ H Q => t σ H fun vs H1 => sp (vs ++ dvs) H1 Q E
noncomputable def Binds (K : PySem.W.Frag) (fd : FuncData) (ps : List Str) (ds : List Value) : Prop :=
  ∀ (s : Shared) (us : List Value), K.In s.heap → (us ++ ds).length = ps.length → BindsTo s fd ⟨us, []⟩ (ps.zip (us ++ ds))
theorem Binds.all {K : PySem.W.Frag} {fd : FuncData} {ps : List Str} (h : ∀ us : List Value, us.length = ps.length → bindArgs fd ⟨us, []⟩ = pure (ps.zip us)) : Binds K fd ps [] := fun s us _ hl => by
  rw [List.append_nil] at hl ⊢
  exact .of_eq (h us hl)

noncomputable def Jl (CX : CXT) (X : Cx) (E : XK) : Prop := ∀ (pins : List (Addr × Obj)) (σ : St) (H : Hp) (s : Shared) (e : Value) (s' : Shared), Inv X pins σ H s → CX X.stack H s E e s' → X.xe e s'

section
variable {X : Cx} {CX : CXT} {k : Nat} {f C : Addr} {fd : FuncData} {ps : List Str} {sp : Sp} {dvs : List V} {ds : List Value} {E : XK} {x m : Str} {p pos apos : Pos} {e o : Expr} {es : List Expr} {ta : TE} {t : TA}

theorem K2 {pins : List (Addr × Obj)} {σ : St} {H : Hp} {s : Shared} {Q : VK} {us : List Value} {vs : List V} (F : FnOk X.prog X.w X.K X.mg X.base CX k f fd ps sp) (hr : Room k X.A) (hb : Binds X.K fd ps ds) (hd : Vals dvs ds) (hx : Jl CX X E)
    (I : Inv X pins σ H s) (r : Vals vs us) (h : sp (vs ++ dvs) H Q E) : wpAny (model X.prog X.w) X.A (call (.ref f) us) (EP X pins σ Q) X.xe s := by
  have r2 : Vals (vs ++ dvs) (us ++ ds) := r.append hd
  have hl : (us ++ ds).length = ps.length := by rw [← r2.length]; exact F.len _ _ _ _ h
  refine wpAny_call (codeAny_mono (F.run X.A X.stack s H ⟨us, []⟩ (us ++ ds) (vs ++ dvs) Q E hr I.env0 (hb s us I.kIn hl) r2 h) fun r s' hq => ?_)
  cases r with
  | error e => exact hx pins σ H s e s' I hq
  | ok fl =>
    cases fl with
    | ret u => exact I.after hq
    | next => exact False.elim hq
    | brk => exact False.elim hq
    | cont => exact False.elim hq

theorem X1 (F : FnOk X.prog X.w X.K X.mg X.base CX k f fd ps sp) (hr : Room k X.A) (hg : Gl X x) (hm : X.mg x = some (.ref f)) (hk : PySem.W.keepIn X.K (.ref f) = true) (hb : Binds X.K fd ps ds) (hd : Vals dvs ds) (hx : Jl CX X E)
    (ha : PA X (e :: es) t) (hdb : (x == ("__debug__" : Str)) = false := by decide) (he : starEach (e :: es) X.env = (false, eval e X.env) :: starEach es X.env := by rfl) (hpl : (backTo pos (starEach es X.env)).any (·.1) = false := by rfl) :
    PE X (.Call (.Name x p) (e :: es) [] pos) (K0 sp dvs E t) := by
  intro pins s σ H Q I h
  refine wpAny_Call_Name_kw (QL I hg hm ?_ hdb)
  refine PySem.W.callWith_K (h₀ := X.base) I.ok.mod.kin hk (thn (ha pos pins s σ H _ I h) fun us s1 ⟨vs, H1, I1, r, q⟩ => ⟨I1.kIn, ?_⟩) he hpl
  exact K2 F hr hb hd hx I1 r q
end

section
variable {X : Cx} {CX : CXT} {k : Nat} {f C : Addr} {fd : FuncData} {ps ks : List Str} {sp : Sp} {E : XK} {x m : Str} {p pos apos kpos : Pos} {e o : Expr} {es : List Expr} {kws : List Keyword} {te ta : TE} {t tk : TA} {nm : Option Str}
variable {g : List Value → List Value → List Value} {gV : List V → List V → List V}
end

structure FnScope (N P : List Str) (sc : Scope) : Prop where
  kind : sc.kind = .function
  co : sc.isCoroutine = false
  gen : sc.isGenerator = false
  nd : N.Nodup
  pre : N.take P.length = P
  par : ∀ x ∈ P, sc.names.lookup x = some .local ∨ sc.names.lookup x = some .cell
  nofree : ∀ y ∈ sc.names, y.2 ≠ .free

theorem ZK {kindOf : Str → Option NameKind} {x : Str} : ∀ {binds : List (Str × Value)} {m : Str → Option Value}, (∀ v, (x, v) ∉ binds) → bindL kindOf binds m x = m x
  | [], _, _ => rfl
  | (n, v) :: r, m, h => by
    unfold bindL
    rw [ZK fun w hw => h w (List.mem_cons_of_mem _ hw)]
    split
    · have : x ≠ n := by rintro rfl; exact h v List.mem_cons_self
      simp [this]
    · rfl
theorem ZW {kindOf : Str → Option NameKind} {x : Str} : ∀ {binds : List (Str × Value)} {m : Str → Option Value}, (∀ v, (x, v) ∉ binds) → bindC kindOf binds m x = m x
  | [], _, _ => rfl
  | (n, v) :: r, m, h => by
    unfold bindC
    rw [ZW fun w hw => h w (List.mem_cons_of_mem _ hw)]
    split
    · rfl
    · have : x ≠ n := by rintro rfl; exact h v List.mem_cons_self
      simp [this]
theorem ZY {kindOf : Str → Option NameKind} {x : Str} {v : Value} : ∀ {P : List Str} {vs : List Value} {i : Nat} {m : Str → Option Value}, P.Nodup → P[i]? = some x → vs[i]? = some v → kindOf x = some .local →
    bindL kindOf (P.zip vs) m x = some v
  | [], _, _, _, _, h, _, _ => by simp at h
  | _ :: _, [], _, _, _, _, h, _ => by simp at h
  | p :: P, w :: vs, 0, m, nd, h1, h2, hk => by
    simp at h1 h2; subst h1; subst h2
    show bindL kindOf ((p, w) :: P.zip vs) m p = _
    unfold bindL
    rw [ZK fun v hv => (List.nodup_cons.mp nd).1 (List.of_mem_zip hv).1, if_pos hk]
    simp
  | p :: P, w :: vs, i + 1, m, nd, h1, h2, hk => by
    show bindL kindOf ((p, w) :: P.zip vs) m x = _
    unfold bindL
    exact ZY (i := i) (List.nodup_cons.mp nd).2 (by simpa using h1) (by simpa using h2) hk
theorem ZQ {kindOf : Str → Option NameKind} {x : Str} {v : Value} : ∀ {P : List Str} {vs : List Value} {i : Nat} {m : Str → Option Value}, P.Nodup → P[i]? = some x → vs[i]? = some v → kindOf x ≠ some .local →
    bindC kindOf (P.zip vs) m x = some v
  | [], _, _, _, _, h, _, _ => by simp at h
  | _ :: _, [], _, _, _, _, h, _ => by simp at h
  | p :: P, w :: vs, 0, m, nd, h1, h2, hk => by
    simp at h1 h2; subst h1; subst h2
    show bindC kindOf ((p, w) :: P.zip vs) m p = _
    unfold bindC
    rw [ZW fun v hv => (List.nodup_cons.mp nd).1 (List.of_mem_zip hv).1, if_neg hk]
    simp
  | p :: P, w :: vs, i + 1, m, nd, h1, h2, hk => by
    show bindC kindOf ((p, w) :: P.zip vs) m x = _
    unfold bindC
    exact ZQ (i := i) (List.nodup_cons.mp nd).2 (by simpa using h1) (by simpa using h2) hk

noncomputable def start (N : List Str) (vs : List V) : St := vs.map some ++ List.replicate (N.length - vs.length) none

noncomputable def JC (CX : CXT) (P : Program) (w : World) (K : PySem.W.Frag) (mg : Str → Option Value) (base : Heap) (N : List Str) (qual : Str) (scope : Scope) (f : Addr) (cd : Value) (A : Around) (outer : List Env) (s : Shared) (H : Hp) (E : XK) : Cx where
  prog := P
  w := w
  K := K
  mg := mg
  base := base
  A := A.deeper (envOfC qual scope s.heap.objs.size f cd)
  N := N
  s₀ := s
  H₀ := H
  env := envOfC qual scope s.heap.objs.size f cd
  outer := outer
  stack := envOfC qual scope s.heap.objs.size f cd :: outer
  ex := []
  calm := true
  fn := fun _ => true
  pn := []
  xe := fun e s' => wpAny (model P w) (A.deeper (envOfC qual scope s.heap.objs.size f cd)) (leaving (envOfC qual scope s.heap.objs.size f cd) e) (fun _ s'' => CX outer H s E e s'') (fun e' s'' => CX outer H s E e' s'') s'

theorem Je {sc : Scope} {n : Nat} {x : Str} (h : sc.names.lookup x = some .cell) : ∃ c, (cellsFrom n sc.names []).lookup x = some c := by
  have q := PySem.W.cellsFrom_some sc.names n [] (.inl h)
  exact Option.isSome_iff_exists.mp q

theorem ZI {CX : CXT} {P : Program} {w : World} {K : PySem.W.Frag} {mg : Str → Option Value} {base : Heap} {N ps : List Str} {qual : Str} {scope : Scope} {f : Addr} {cd : Value} {A : Around} {outer : List Env} {s s1 : Shared} {H : Hp} {E : XK} {us : List Value} {vs : List V}
    (S : FnScope N ps scope) (hd : A.handled = none) (e0 : Env0 P w K mg base A outer s H) (hl : vs.length = ps.length) (r : Vals vs us)
    (x : InCallC s s.heap.objs.size (bindL (envOfC qual scope s.heap.objs.size f cd).kindOf (ps.zip us) fun _ => none) (cellsFrom (s.heap.objs.size + 1) scope.names []) (bindC (envOfC qual scope s.heap.objs.size f cd).kindOf (ps.zip us) fun _ => none) s1) :
    Inv (JC CX P w K mg base N qual scope f cd A outer s H E) [] (start N vs) H s1 := by
  have hpl : ps.length ≤ N.length := by have := congrArg List.length S.pre; rw [List.length_take] at this; omega
  obtain ⟨h1, tk, rfl, hk⟩ := x.done
  have noA : ∀ b : Addr, b ∉ (JC CX P w K mg base N qual scope f cd A outer s H E).ex := fun b z => absurd (show b ∈ ([] : List Addr) from z) (by simp)
  refine ⟨⟨e0.mod, S.kind, rfl, rfl, Nat.le_refl _, fun y z c h1 h2 => ?_, fun y hy => ?_, fun y c _ h => ?_, fun _ => hd, Around.frames_deeper e0.frames, .inr ⟨rfl, rfl⟩, fun b z => absurd z (noA b), e0.bs, e0.bsz, fun b _ _ => noA b, fun b z => absurd z (noA b), e0.funs, e0.frf⟩,
    rfl, e0.bare, Un.kept hk, ⟨_, x.toInCall.ns, fun i y v h1 h2 h3 => ?_⟩, fun y c h => ⟨_, x.cell y c h⟩, e0.hok.fresh (Nat.le_refl _), fun y c h => ?_, fun p hp => absurd (show p ∈ ([] : List (Addr × Obj)) from hp) (by simp), e0.hok.kept hk, ?_⟩
  · exact name_of_addr x.apart (PySem.mem_of_lookup h1) (PySem.mem_of_lookup h2)
  · have hy : scope.names.lookup y = some .cell ∨ scope.names.lookup y = some .free := hy
    rcases hy with hy | hy
    · exact Je hy
    · exact absurd rfl (S.nofree _ (PySem.mem_of_lookup hy))
  · exact Nat.le_of_lt (x.above y c (PySem.mem_of_lookup h))
  · have hi : i < vs.length := by
      unfold start at h2
      by_cases hi : i < vs.length
      · exact hi
      · rw [List.getElem?_append_right (by simpa using hi)] at h2
        rw [List.getElem?_replicate] at h2
        split at h2 <;> cases h2
    have ha : vs[i]? = some v := by
      unfold start at h2
      rw [List.getElem?_append_left (by simpa using hi), List.getElem?_map] at h2
      cases e : vs[i]? with
      | none => rw [e] at h2; cases h2
      | some a => rw [e] at h2; cases h2; rfl
    obtain ⟨u, hu, rv⟩ := r.get ha
    have hp : ps[i]? = some y := by
      rw [← S.pre, List.getElem?_take_of_lt (by omega)]; exact h1
    have ndP : ps.Nodup := by rw [← S.pre]; exact S.nd.sublist (List.take_sublist _ _)
    refine ⟨u, rv, ?_⟩
    rcases S.par y (List.mem_of_getElem? hp) with k | k
    · exact .inl ⟨k, ZY ndP hp hu k⟩
    · obtain ⟨c, e⟩ := Je (n := s.heap.objs.size + 1) k
      refine .inr ⟨.inl k, c, e, ?_⟩
      have q := x.cell y c e
      rw [ZQ ndP hp hu (by show scope.names.lookup y ≠ _; rw [k]; decide)] at q
      exact q
  · exact e0.hok.fresh (Nat.le_of_lt (x.above y c (PySem.mem_of_lookup h)))
  · unfold start
    show _ = N.length
    rw [List.length_append, List.length_map, List.length_replicate]
    omega

theorem XJ {CX : CXT} {P : Program} {w : World} {K : PySem.W.Frag} {mg : Str → Option Value} {base : Heap} {k : Nat} {f : Addr} {name qual : Str} {params : Arguments} {body : List Stmt} {scope : Scope} {dV kV doc pm cdv ct oc : Value} {an od : Option Addr}
    {osl : Array (Option Value)} {N ps : List Str} {sp : Sp} (lk : K.lookup f = some ⟨oc, od, .func (PySem.W.fnOf name qual params body scope dV kV doc pm an cdv ct), osl⟩) (hcd : PySem.W.codeIn K cdv qual = true) (S : FnScope N ps scope)
    (len : ∀ vs H Q E, sp vs H Q E → vs.length = ps.length)
    (hbody : ∀ (A : Around) (outer : List Env) (s : Shared) (H : Hp) (vs : List V) (Q : VK) (E : XK), Room k (A.deeper (envOfC qual scope s.heap.objs.size f cdv)) → sp vs H Q E →
      ∃ t, PSs (JC CX P w K mg base N qual scope f cdv A outer s H E) body t ∧ t { nx := fun _ H' => Q .non H', rt := Q } (start N vs) H) :
    FnOk P w K mg base CX (k + 1) f (PySem.W.fnOf name qual params body scope dV kV doc pm an cdv ct) ps sp := by
  refine ⟨len, fun A outer s H args us vs Q E hr e0 hb r hsp => ?_⟩
  have hl := len _ _ _ _ hsp
  have KX : K.In s.heap := e0.mod.kin.keeps fun b o e => (e0.bs b o e).1
  have lim : s.heap.NoLimit := e0.mod.nolimit.keeps fun b o e => (e0.bs b o e).1
  have hkind : ∀ y ∈ ps.zip us, scope.names.lookup y.1 = some .local ∨ (scope.names.lookup y.1 = some .cell ∧ ((cellsFrom (s.heap.objs.size + 1) scope.names []).lookup y.1).isSome = true) := fun ⟨n, v⟩ hy => by
    rcases S.par n (List.of_mem_zip hy).1 with q | q
    · exact .inl q
    · exact .inr ⟨q, PySem.W.cellsFrom_some _ _ _ (.inl q)⟩
  refine codeAny_call_function hr.depth (KX _ _ lk) rfl S.co S.gen rfl (PySem.W.codeRec_of KX hcd) (hb _ _ _ _ ?_)
  refine wpAny_newFunctionEnv_cells S.kind hkind fun env he s1 x => ?_
  subst he
  refine ⟨lim.keeps x.toInCall.keep, codeAny_func ?_⟩
  obtain ⟨t, ht, hq⟩ := hbody A outer s H vs Q E (hr.deeper _) hsp
  have I : Inv (JC CX P w K mg base N qual scope f cdv A outer s H E) [] (start N vs) H s1 := ZI S hr.hd e0 hl r x
  refine wpAny_mono (ht [] s1 (start N vs) H _ I hq) (fun fl s' hs => ?_) fun e s' hs => hs
  have fin : ∀ {σ' : St} {H' : Hp} {v : V} {u : Value}, Inv (JC CX P w K mg base N qual scope f cdv A outer s H E) [] σ' H' s' → RelV v u → Q v H' → CE outer P w H s Q u s' :=
    fun {σ' H' v u} J rv q => ⟨v, H', J.os, J.bare, J.base, J.hok, rv, q⟩
  cases fl with
  | ret u =>
    obtain ⟨v, σ', H', J, rv, q⟩ := hs
    exact fin J rv q
  | next =>
    obtain ⟨σ', H', J, q⟩ := hs
    exact fin (v := V.non) (u := Value.none) J rfl q
  | brk =>
    obtain ⟨_, _, _, q⟩ := hs
    exact False.elim q
  | cont =>
    obtain ⟨_, _, _, q⟩ := hs
    exact False.elim q
end L2

namespace L2
open PySem PySem.Spec PyProof.Rows
section
variable {X : Cx} {x : Str} {p pos : Pos} {e : Expr} {es : List Expr} {t : TA} {id T : String} {r : List V → Hp → VK → Prop}

noncomputable def tCB (r : List V → Hp → VK → Prop) (t : TA) : TE := fun σ H Q => t σ H fun vs H1 => r vs H1 Q
theorem Qs (hc : CallR X (.builtin id) r) (hg : Gl X x) (hm : X.mg x = none) (hv : bootBuiltins x = some (.builtin id)) (ha : PA X (e :: es) t) (hn : x ≠ "__name__" := by decide) (hdb : (x == ("__debug__" : Str)) = false := by decide)
    (he : starEach (e :: es) X.env = (false, eval e X.env) :: starEach es X.env := by rfl) (hpl : (backTo pos (starEach es X.env)).any (·.1) = false := by rfl) : PE X (.Call (.Name x p) (e :: es) [] pos) (tCB r t) := by
  intro pins s σ H Q I h
  refine wpAny_Call_Name_kw (Jq I hg hm hv ?_ hn hdb)
  exact PyProof.Rows.callWith_builtin1 (thn (ha pos pins s σ H _ I h) fun us s1 ⟨vs, H1, I1, r1, q1⟩ => hc pins s1 σ H1 vs us Q I1 r1 q1) he hpl
theorem Vt (hc : CallR X (.type T) r) (hg : Gl X x) (hm : X.mg x = none) (hv : bootBuiltins x = some (.type T)) (ha : PA X (e :: es) t) (hn : x ≠ "__name__" := by decide) (hdb : (x == ("__debug__" : Str)) = false := by decide)
    (he : starEach (e :: es) X.env = (false, eval e X.env) :: starEach es X.env := by rfl) (hpl : (backTo pos (starEach es X.env)).any (·.1) = false := by rfl) : PE X (.Call (.Name x p) (e :: es) [] pos) (tCB r t) := by
  intro pins s σ H Q I h
  refine wpAny_Call_Name_kw (Jq I hg hm hv ?_ hn hdb)
  exact PyProof.Rows.callWith_type1 (thn (ha pos pins s σ H _ I h) fun us s1 ⟨vs, H1, I1, r1, q1⟩ => hc pins s1 σ H1 vs us Q I1 r1 q1) he hpl
end
end L2

namespace HT
open PySem PyProof.Rows

section
open PySem.SeqAt
open PySem.AutoSeq1 (wpAny_loadPart')
open PySem.MeetsSeq PySem.MeetsSeq2 PySem.MeetsSeq3

end

section
variable {prog : Program} {w : World} {A : Around} {E : Value → Shared → Prop} {s : Shared}

end
end HT

namespace L2
open PySem PySem.Spec PyProof.Rows

section
variable {X : Cx} {e : Expr} {te : TE} {lo hi : Option Expr} {tl th : TO} {pos p2 : Pos}

end
end L2

namespace L2
open PySem PySem.Spec PyProof.Rows

noncomputable def ixN (n : Nat) (i : Int) : Option Nat := if 0 ≤ i then (if i < n then some i.toNat else none) else if -(n : Int) ≤ i then some (i + n).toNat else none
noncomputable def atI {α : Type} (xs : List α) (i : Int) : Option α := (ixN xs.length i).bind fun j => xs[j]?
theorem Ks {n : Nat} {i : Int} {j : Nat} (h : ixN n i = some j) : seqIndex? i n = some j ∧ j < n ∧ -(n : Int) ≤ i ∧ i < n := by
  unfold ixN at h
  by_cases h0 : 0 ≤ i
  · rw [if_pos h0] at h
    by_cases h1 : i < n
    · rw [if_pos h1] at h
      have e : i.toNat = j := Option.some.inj h
      exact ⟨by rw [seqIndex_of h0 h1, e], by omega, by omega, h1⟩
    · rw [if_neg h1] at h; cases h
  · rw [if_neg h0] at h
    by_cases h1 : -(n : Int) ≤ i
    · rw [if_pos h1] at h
      have e : (i + n).toNat = j := Option.some.inj h
      exact ⟨by rw [seqIndex_neg (by omega) h1, e], by omega, h1, by omega⟩
    · rw [if_neg h1] at h; cases h
theorem Jb {α : Type} {xs : List α} {i : Int} {v : α} (h : atI xs i = some v) : ∃ j, seqIndex? i xs.length = some j ∧ xs[j]? = some v ∧ j < xs.length ∧ -(xs.length : Int) ≤ i ∧ i < xs.length := by
  unfold atI at h
  cases e : ixN xs.length i with
  | none => rw [e] at h; cases h
  | some j =>
    rw [e] at h
    obtain ⟨h1, h2, h3, h4⟩ := Ks e
    exact ⟨j, h1, h, h2, h3, h4⟩
theorem Ko {α : Type} {xs : List α} {j : Nat} {v : α} (h : xs[j]? = some v) : atI xs (j : Int) = some v := by
  have hj : j < xs.length := (List.getElem?_eq_some_iff.mp h).1
  have e : ixN xs.length (j : Int) = some j := by
    unfold ixN
    rw [if_pos (by omega), if_pos (by omega)]; simp
  unfold atI; rw [e]; exact h
noncomputable def VC (b : Expr) : Prop := ∀ o i, subscripted b false o i = operate [o, i] (getItem o i)
noncomputable def IxR (X : Cx) (r : R2) : Prop :=
  ∀ (value slice : Expr) (pins : List (Addr × Obj)) (s : Shared) (σ : St) (H : Hp) (x y : V) (v u : Value) (Q : VK), Inv X pins σ H s → RelV x v → RelV y u → r x y H Q →
    subscripted slice false v u = operate [v, u] (getItem v u) → wpAny (model X.prog X.w) X.A (subscriptTail value slice v u) (EP X pins σ Q) X.xe s
section
variable {X : Cx} {a b : Expr} {ta tb : TE} {pos : Pos}
theorem IxR.or {r r' : R2} (h : IxR X r) (h' : IxR X r') : IxR X (fun x y H Q => r x y H Q ∨ r' x y H Q) := by
  intro value slice pins s σ H x y v u Q I rx ry q hs
  rcases q with q | q
  · exact h value slice pins s σ H x y v u Q I rx ry q hs
  · exact h' value slice pins s σ H x y v u Q I rx ry q hs
theorem Wa {r : R2} (hr : IxR X r) (ha : PE X a ta) (hb : PE X b tb) (hs : VC b) : PE X (.Subscript a b pos) (tOp r ta tb) := by
  intro pins s σ H Q I h
  exact Subscript_ (Wk ha hb I h fun v u s2 x y H2 I2 rx ry q => hr a b pins s2 σ H2 x y v u Q I2 rx ry q (hs _ _))

noncomputable def WS (K : PySem.W.Frag) : R2 := fun x y H Q => ∃ p xs i v, x = .ref p ∧ y = .int i ∧ SqL K H p xs ∧ atI xs i = some v ∧ Q v H
noncomputable def WQ (K : PySem.W.Frag) : R2 := fun x y H Q => ∃ p xs i v, x = .ref p ∧ y = .int i ∧ SqT K H p xs ∧ atI xs i = some v ∧ Q v H
noncomputable def WV : R2 := fun x y H Q => ∃ z i c, x = .str z ∧ y = .int i ∧ z.length ≤ sizeLine ∧ atI z.cps.toList i = some c ∧ Q (.str ⟨#[c]⟩) H
theorem ix_list : IxR X (WS X.K) := by
  intro value slice pins s σ H x y v u Q I rx ry h hs
  obtain ⟨p, xs, i, z, rfl, rfl, hq, he, q⟩ := h
  cases rx
  obtain ⟨t, rfl⟩ := ry
  obtain ⟨its, r, pl, hz⟩ := I.list hq
  obtain ⟨j, h1, h2, h3, h4, h5⟩ := Jb he
  obtain ⟨w, ew, rw'⟩ := r.get h2
  have hl := r.length
  have hn := Zt
  have fin : EP X pins σ Q w s := ⟨z, H, I, rw', q⟩
  by_cases h0 : 0 ≤ i
  · have hj : i.toNat = j := by
      rw [seqIndex_of h0 h5] at h1
      exact Option.some.inj h1
    exact item_listR pl.isList h0 (by omega) (by rw [hj]; simpa using ew) fin hs
  · have hj : (i + (its.toArray.size : Int)).toNat = j := by
      rw [seqIndex_neg (by omega) h4] at h1
      rw [List.size_toArray, ← hl]
      exact Option.some.inj h1
    exact subscriptTail_builtinR (x := w) pl.isList.typeIs slot_list_getitem.lookup
      (wpAny_getItem_list_neg (Q := fun r s' => r = w ∧ EP X pins σ Q r s') pl.isList (by omega) (by rw [List.size_toArray] <;> omega) (by omega) (by rw [hj]; simpa using ew) ⟨rfl, fin⟩) hs
theorem ix_tup : IxR X (WQ X.K) := by
  intro value slice pins s σ H x y v u Q I rx ry h hs
  obtain ⟨p, xs, i, z, rfl, rfl, hq, he, q⟩ := h
  cases rx
  obtain ⟨t, rfl⟩ := ry
  obtain ⟨its, r, pl, hz⟩ := I.tuple hq
  obtain ⟨j, h1, h2, h3, h4, h5⟩ := Jb he
  obtain ⟨w, ew, rw'⟩ := r.get h2
  have hl := r.length
  have hn := Zt
  have fin : EP X pins σ Q w s := ⟨z, H, I, rw', q⟩
  exact subscriptTail_builtinR (x := w) pl.typeIs slot_tuple_getitem.lookup
    (getItem_tuple (j := j) (Q := fun r s' => r = w ∧ EP X pins σ Q r s') pl (by omega) (by omega) (by rw [List.size_toArray, ← hl]; exact h1) (by simpa using ew) ⟨rfl, fin⟩) hs
theorem K7 : IxR X WV := by
  intro value slice pins s σ H x y v u Q I rx ry h hs
  obtain ⟨z, i, c, rfl, rfl, hz, he, q⟩ := h
  obtain ⟨t, rfl⟩ := rx
  obtain ⟨t', rfl⟩ := ry
  obtain ⟨j, h1, h2, h3, h4, h5⟩ := Jb he
  have hl : z.cps.toList.length = z.length := by simp [Str.length]
  rw [hl] at h1 h4 h5
  have hn := Zt
  exact tail_any (typeIs_str s z t) slot_str_getitem.lookup (getItem_str (c := c) (by
    have e1 : decide (i < -(2 ^ 63 : Int)) = false := decide_eq_false (by omega)
    have e2 : decide (i ≥ 2 ^ 63) = false := decide_eq_false (by omega)
    rw [e1, e2, Bool.or_false]) (by rw [h1]; simpa using h2) ⟨.str ⟨#[c]⟩, H, I.tok _, ⟨_, rfl⟩, q⟩) hs
noncomputable def rIx (K : PySem.W.Frag) : R2 := fun x y H Q => WS K x y H Q ∨ WQ K x y H Q ∨ WV x y H Q
theorem KS : IxR X (rIx X.K) := ix_list.or (ix_tup.or K7)

noncomputable def KE : V → Bool
  | .non => true
  | .bl _ => true
  | .int _ => true
  | .str _ => true
  | _ => false
noncomputable def eqV : V → V → Bool
  | .non, .non => true
  | .bl a, .bl b => a == b
  | .bl a, .int b => (if a then 1 else 0) == b
  | .int a, .bl b => a == (if b then 1 else 0)
  | .int a, .int b => a == b
  | .str a, .str b => a == b
  | _, _ => false
theorem Yw {A : Around} {s : Shared} {y x : V} {u v : Value} (ry : RelV y u) (rx : RelV x v) (fy : KE y = true) (fx : KE x = true) : SeqAt.EqAt A s u v (eqV y x) := by
  cases y with
  | non =>
    cases ry
    cases x with
    | non => cases rx; exact SeqAt.EqAt.same _
    | bl b => cases rx; exact SeqAt.EqAt.none_bool b
    | int b => obtain ⟨t, rfl⟩ := rx; exact SeqAt.EqAt.none_int b t
    | str b => obtain ⟨t, rfl⟩ := rx; exact SeqAt.EqAt.none_str b t
    | _ => exact absurd (show false = true from fx) Bool.false_ne_true
  | bl a =>
    cases ry
    cases x with
    | non => cases rx; exact SeqAt.EqAt.bool_none a
    | bl b => cases rx; exact SeqAt.EqAt.bool_bool a b
    | int b => obtain ⟨t, rfl⟩ := rx; exact SeqAt.EqAt.bool_int a b t
    | str b => obtain ⟨t, rfl⟩ := rx; exact SeqAt.EqAt.bool_str a b t
    | _ => exact absurd (show false = true from fx) Bool.false_ne_true
  | int a =>
    obtain ⟨t', rfl⟩ := ry
    cases x with
    | non => cases rx; exact SeqAt.EqAt.int_none a t'
    | bl b => cases rx; exact SeqAt.EqAt.int_bool a t' b
    | int b => obtain ⟨t, rfl⟩ := rx; exact SeqAt.EqAt.int_int a t' b t
    | str b => obtain ⟨t, rfl⟩ := rx; exact SeqAt.EqAt.int_str a t' b t
    | _ => exact absurd (show false = true from fx) Bool.false_ne_true
  | str a =>
    obtain ⟨t', rfl⟩ := ry
    cases x with
    | non => cases rx; exact SeqAt.EqAt.str_none a t'
    | bl b => cases rx; exact SeqAt.EqAt.str_bool a t' b
    | int b => obtain ⟨t, rfl⟩ := rx; exact SeqAt.EqAt.str_int a t' b t
    | str b => obtain ⟨t, rfl⟩ := rx; exact SeqAt.EqAt.str_str a t' b t
    | _ => exact absurd (show false = true from fx) Bool.false_ne_true
  | _ => exact absurd (show false = true from fy) Bool.false_ne_true
theorem call_len_seq : CallR X (.builtin "len") (fun xs H Q => ∃ p ys, xs = [.ref p] ∧ (SqL X.K H p ys ∨ SqT X.K H p ys) ∧ Q (.int ys.length) H) := by
  intro pins s σ H xs us Q I r h
  obtain ⟨p, ys, rfl, hq, q⟩ := h
  obtain ⟨u, rfl, rx⟩ := Vo r
  cases rx
  have hn := Zt
  rcases hq with hq | hq
  · obtain ⟨its, r', pl, hz⟩ := I.list hq
    have hlen := r'.length
    exact Calls.call_len_list pl.isList (by simp only [List.size_toArray] <;> omega) ⟨.int ys.length, H, I.tok _, ⟨s.toks + 1, by rw [List.size_toArray, hlen]⟩, q⟩
  · obtain ⟨its, r', pl, hz⟩ := I.tuple hq
    have hlen := r'.length
    exact len_tuple pl (by simp only [List.size_toArray] <;> omega) ⟨.int ys.length, H, I.tok _, ⟨s.toks + 1, by rw [List.size_toArray, hlen]⟩, q⟩
theorem Z2 : CallR X (.builtin "len") (fun xs H Q => ∃ z, xs = [.str z] ∧ z.length ≤ sizeLine ∧ Q (.int z.length) H) := by
  intro pins s σ H xs us Q I r h
  obtain ⟨z, rfl, hz, q⟩ := h
  obtain ⟨u, rfl, t, rfl⟩ := Vo r
  have hn := Zt
  exact len_str (by omega) ⟨.int z.length, H, I.tok _, ⟨_, rfl⟩, q⟩
theorem CallR.or {f : Value} {r r' : List V → Hp → VK → Prop} (h : CallR X f r) (h' : CallR X f r') : CallR X f (fun xs H Q => r xs H Q ∨ r' xs H Q) := by
  intro pins s σ H xs us Q I rs q
  rcases q with q | q
  · exact h pins s σ H xs us Q I rs q
  · exact h' pins s σ H xs us Q I rs q
variable {o e : Expr} {es : List Expr} {to : TE} {t : TA} {name : Str} {apos cpos : Pos} {T id : String} {r : V → List V → Hp → VK → Prop}
end
end L2

namespace L2
open PySem PySem.Spec PyProof.Rows

section
variable {X : Cx} {pins : List (Addr × Obj)} {σ : St} {H : Hp} {s : Shared} {l b : Addr} {xs ys zs : List V}

theorem Inv.lnew {its : List Value} {t' : Nat} (I : Inv X pins σ H s) (hv : Vals ys its) (hz : ys.length ≤ sizeLine) :
    Inv X pins σ (upd H s.heap.objs.size (.lst ys)) { s with heap := s.heap.push { cls := .type "list", data := .seq its.toArray }, toks := t' } :=
  I.laid (fun _ _ q => Heap.get?_push_of_some _ q) (Nat.le_refl _) ⟨hz, its, 0, hv, Heap.get?_push_size _ rfl⟩
theorem Inv.fresh (I : Inv X pins σ H s) : H s.heap.objs.size = none := I.hok.fresh (Nat.le_refl _)
theorem Inv.lstM (I : Inv X pins σ H s) (hH : H l = some (.lst xs)) : xs.length ≤ sizeLine ∧ ∃ (its : List Value) (n : Nat), Vals xs its ∧ xs.length = its.length ∧ s.heap.get? l = some { cls := .type "list", data := .seq its.toArray n } := by
  obtain ⟨z, its, n, r, e⟩ := I.hok l _ hH
  exact ⟨z, its, n, r, r.length, e⟩

end

section
variable {X : Cx}

noncomputable def UC : R2 := fun x y H Q => ∃ l b xs zs, x = .ref l ∧ y = .ref b ∧ H l = some (.lst xs) ∧ H b = some (.lst zs) ∧ xs.length + zs.length ≤ sizeLine ∧ ∀ p, H p = none → Q (.ref p) (upd H p (.lst (xs ++ zs)))
theorem YM : OpR X (binaryOp .Add) UC := by
  intro pins s σ H x y v u Q I rx ry h
  obtain ⟨l, b, xs, zs, rfl, rfl, hH, hB, hz, q⟩ := h
  cases rx
  cases ry
  obtain ⟨z, its, n, r, hl, e⟩ := I.lstM hH
  obtain ⟨z2, its2, n2, r2, hl2, e2⟩ := I.lstM hB
  refine PySem.P.add_list e e2 ?_ (by rw [List.size_toArray, List.size_toArray]; omega)
  have ea : its.toArray ++ its2.toArray = (its ++ its2).toArray := by simp
  rw [ea]
  exact ⟨.ref _, _, I.lnew (t' := s.toks) (r.append r2) (by rw [List.length_append]; omega), rfl, q _ I.fresh⟩
end

section
variable {prog : Program} {w : World} {A : Around} {E : Value → Shared → Prop} {s : Shared}
end

section
variable {X : Cx}
end
end L2

namespace Att
open PySem PySem.W PySem.Calls PyProof.Rows

theorem Zj {P : Params} {h : Heap} : ∀ (ns : List Int) (vs : List Value), WellAll P h vs (ns.map WData.int) → IntsAre vs ns := by
  intro ns
  induction ns with
  | nil =>
    intro vs w
    rw [List.map_nil] at w
    cases w
    exact .nil
  | cons n ns ih =>
    intro vs w
    rw [List.map_cons] at w
    cases w with
    | cons a b =>
      cases a
      exact .cons _ _ (ih _ b)

theorem Vy {l : OpenLaw} {n : Nat} (hn : l.most = some n) {P : Params} {h : Heap} {args : List WData} {vals : List Value}
    (hpre : l.row.toRowW.claim.pre args = true) (hwl : WellAll P h vals args) :
    ∃ a vs ns, vals = [Value.ref a] ∧ args = [WData.list (ns.map WData.int)] ∧ h.get? a = some { cls := .type "list", data := .seq vs.toArray } ∧ IntsAre vs ns ∧ ns.length ≤ n := by
  have hsh : WShape.hasAll [] args [.list .int] = true := (pre_splitW hpre).1
  have hc : l.pre.holds [] { args := args } = true := (pre_splitW hpre).2
  obtain ⟨d, r, rfl, h1, h2⟩ := hasAllW_cons hsh
  obtain rfl := hasAllW_nil h2
  obtain ⟨xs, rfl, h3⟩ := hasW_list h1
  obtain ⟨ns, rfl⟩ := items_int h3
  have hlen : ns.length ≤ n := by
    unfold OpenLaw.pre at hc
    have h4 : (WTm.not (.lt (.lit (.int (n : Int))) (.len (.arg 0)))).holds [] { args := [.list (ns.map .int)] } = true := by
      have h4 := (holds_andW hc).1
      rw [hn] at h4
      exact h4
    have h5 := condW_of h4 (w_not (w_lt w_lit (w_len_list (w_arg rfl))))
    rw [List.length_map] at h5
    refine Nat.le_of_not_lt fun q => ?_
    have q' : (n : Int) < ((ns.length : Nat) : Int) := by omega
    first
      | (rw [decide_eq_true q'] at h5; exact absurd h5 (by decide))
      | (simp at h5; omega)
  cases hwl with
  | cons w1 w2 =>
    cases w2
    cases w1 with
    | list ho hall => exact ⟨_, _, ns, rfl, rfl, ho, Zj ns _ hall, hlen⟩

theorem Ve (l : OpenLaw) (args : List WData) : l.row.toRowW.claim.post args (.bool true) args = true :=
  postW_of (r := l.row.toRowW) (X := (true == true))
    (show WShape.has [] (.bool true) .bool = true by first | rfl | decide | simp [WShape.has, WShape.arms, WShape.armsAll])
    (show (WTm.eq .res (.lit (.bool true))).value [] { args := args, res := some (.bool true), after := args } = some (.bool (true == true)) from w_eq_bool (w_res rfl) w_lit) rfl

theorem attach_call {l : OpenLaw} {n : Nat} {q : Program} {loose : List Str} {XP : (Str → Option Value) → Heap → Prop} {YP : World → Heap → Prop} {d : DefRec}
    (hn : l.most = some n) (hdf : d.params.defaults = [])
    (call : ∀ (w : World) (s₀ s₁ : Shared) (mg mb : Str → Option Value) (fa : Addr) (o : Obj) (pm cd doc : Value) (a : Addr) (vs : List Value) (ns : List Int),
      Ground q loose [] XP w s₀ mg mb s₁.heap → YP w s₁.heap →
      s₁.heap.get? fa = some o → o.data = .func (docDef d.name d.params d.body d.scope pm cd doc) → s₁.heap.CodeRec cd d.name → mg d.name = some (.ref fa) →
      s₁.heap.get? a = some { cls := .type "list", data := .seq vs.toArray } → IntsAre vs ns → ns.length ≤ n → s₁.gens = #[] →
      codeAny (model l.prog w) callerA (.call (.ref fa) ⟨[.ref a], []⟩) (fun r s' => r = .ok (.ret (.bool true)) ∧ OldK s₁.heap s'.heap ∧ s'.os = s₁.os ∧ AllBare s'.gens) s₁) :
    WalkO q loose XP YP l.row.toRowW d [] (fun f vs => PySem.call f vs) := by
  intro w s₀ s₁ mg mb G Y fa o pm cd doc dV kV ho hd hcd hD hmg hg args vals as hpre hlay hrd hwl hlo
  obtain rfl : dV = .none := Dflts.none hD hdf
  obtain rfl : kV = .none := Dflts.noKw hD
  obtain ⟨a, vs, ns, rfl, rfl, hobj, hints, hlen⟩ := Vy hn hpre hwl
  refine enter_call (codeAny_mono (call w s₀ s₁ mg mb fa o pm cd doc a vs ns G Y ho (fd_plain hd) hcd hmg hobj hints hlen hg) fun r s' hq => ?_)
  obtain ⟨rfl, h2, h3, h4⟩ := hq
  exact ⟨.inl ⟨.bool true, .bool true, [], rfl, fun _ => rfl, .bool true, Ve l _, fun _ => ⟨List.Pairwise.nil, fun _ hm => (nomatch hm)⟩⟩, h2, h3, h4⟩

section
variable {prog : Program} {w : World} {A : Around} {E : Value → Shared → Prop} {s : Shared} {K : Frag}

end
end Att

namespace L2
open PySem PySem.Spec PyProof.Rows

theorem Z1 : ∀ {vs : List Value} {ns : List Int}, IntsAre vs ns → Vals (ns.map V.int) vs
  | _, _, .nil => .nil
  | _, _, .cons n t h => .cons ⟨t, rfl⟩ (Z1 h)

noncomputable def Ww (H : Hp) : Prop := ∀ b, H b = none ∨ ∃ o xs, H b = some (.frz o (.lst xs))

theorem VU {P : Program} {w : World} {K : PySem.W.Frag} {mg mb : Str → Option Value} {CX : CXT} {k : Nat} {fa a : Addr} {fd : FuncData} {x : Str} {sp : Sp} {s₁ : Shared} {vs : List Value} {ns : List Int}
    (KX : K.In s₁.heap) (hns : s₁.heap.Ns mainGlobals mg) (hb : s₁.heap.Ns builtinsNs mb) (hbb : ∀ x : Str, x ≠ "__name__" → mb x = bootBuiltins x) (hlim : s₁.heap.NoLimit) (hg : s₁.gens = #[])
    (ha : s₁.heap.get? a = some { cls := .type "list", data := .seq vs.toArray }) (hi : IntsAre vs ns) (hl : ns.length ≤ sizeLine) (hr : Room k callerA)
    (F : ∀ base : Heap, K.In base → base.Ns mainGlobals mg → FnOk P w K mg base CX k fa fd [x] sp) (hbind : ∀ (s : Shared) (u : Value), BindsTo s fd ⟨[u], []⟩ [(x, u)])
    (hsp : ∀ H : Hp, Ww H → SqL K H a (ns.map V.int) → sp [.ref a] H (fun v _ => v = .bl true) fun _ _ _ => False)
    (hCX : ∀ H e s', CX [] H s₁ (fun _ _ _ => False) e s' → False) :
    codeAny (model P w) callerA (.call (.ref fa) ⟨[.ref a], []⟩) (fun r s' => r = .ok (.ret (.bool true)) ∧ OldK s₁.heap s'.heap ∧ s'.os = s₁.os ∧ AllBare s'.gens) s₁ := by
  have rv := Z1 hi
  have lenV := hi.length
  -- from an abstract heap in which nothing but the script may be tracked
  have core : ∀ H : Hp, Ww H → SqL K H a (ns.map V.int) → HOk P w H s₁.heap → (∀ b, H b ≠ none → b = a) → (H a ≠ none → K.lookup a = none) →
      codeAny (model P w) callerA (.call (.ref fa) ⟨[.ref a], []⟩) (fun r s' => r = .ok (.ret (.bool true)) ∧ OldK s₁.heap s'.heap ∧ s'.os = s₁.os ∧ AllBare s'.gens) s₁ := by
    intro H hO hS hok hA hK
    have base_of : ∀ {b : Addr} {o : Obj}, s₁.heap.get? b = some o → H b = none → (VL s₁.heap H).get? b = some o := fun e n => V5 e n
    have noA : ∀ {b : Addr} {o : Obj} {es : Array DictEntry} {ep : Nat}, s₁.heap.get? b = some o → o.data = .dict es ep → H b = none := fun {b o es ep} e d => by
      cases q : H b with
      | none => rfl
      | some u =>
        have e' : b = a := hA b (by rw [q]; simp)
        subst e'
        rw [ha] at e; cases e
        have d' : Data.seq vs.toArray _ = Data.dict es ep := d
        cases d'
    have nsK : ∀ {b : Addr} {m : Str → Option Value}, s₁.heap.Ns b m → (VL s₁.heap H).Ns b m := fun {b m} ⟨o, es, ep, e, d, r⟩ => ⟨o, es, ep, base_of e (noA e d), d, r⟩
    have hKb : K.In (VL s₁.heap H) := fun b o e => base_of (KX b o e) (by
      cases q : H b with
      | none => rfl
      | some u =>
        have e' : b = a := hA b (by rw [q]; simp)
        subst e'
        rw [hK (by rw [q]; simp)] at e; cases e)
    have hM : Mod K mg (VL s₁.heap H) := ⟨hKb, nsK hns, ⟨mb, nsK hb, hbb⟩, let ⟨mc, h1, h2⟩ := hlim; ⟨mc, nsK h1, h2⟩⟩
    have e0 : Env0 P w K mg (VL s₁.heap H) callerA [] s₁ H := ⟨rfl, hM, fun b o e => Kv e, Nat.le_of_eq (JM _ _), trivial, fun b hb => absurd (show b ∈ ([] : List Addr) from hb) (by simp), hok, .of_eq hg⟩
    refine codeAny_mono ((F _ hKb (nsK hns)).run callerA [] s₁ H ⟨[.ref a], []⟩ [.ref a] [.ref a] _ _ hr e0 (hbind s₁ (.ref a)) (.cons rfl .nil) (hsp H hO hS)) fun r s' h => ?_
    cases r with
    | error e => exact (hCX H e s' h).elim
    | ok fl =>
      cases fl with
      | next => exact False.elim h
      | brk => exact False.elim h
      | cont => exact False.elim h
      | ret u =>
        obtain ⟨v, H', os, bare, un, hok', r', q⟩ := h
        have q' : v = .bl true := q
        subst q'
        obtain rfl : u = Value.bool true := r'
        refine ⟨rfl, OldK.of_keep fun b o e => ?_, os, bare⟩
        cases q : H b with
        | none => exact un.keep b o e q (by intro z; exact absurd (show b ∈ ([] : List Addr) from z) (by simp)) (by simp)
        | some u =>
          rcases hO b with z | ⟨ob, xs, z⟩
          · rw [q] at z; cases z
          · have z2 := un.frzs b ob _ z
            obtain ⟨e1, _⟩ := hok b _ z
            obtain ⟨e2, _⟩ := hok' b _ z2
            rw [e] at e1; cases e1
            exact e2
  cases hk : K.lookup a with
  | some o =>
    -- the script is one of the module's own objects
    have e := KX a o hk
    rw [ha] at e
    cases e
    refine core (fun _ => none) (fun _ => .inl rfl) (.inr ⟨_, vs.toArray, _, hk, rfl, rfl, rfl, by rw [List.size_toArray, lenV]; exact hl, by simpa using rv⟩) (fun b u z => by have z' : (none : Option HO) = some u := z; cases z') (fun b z => absurd rfl z) fun z => absurd rfl z
  | none =>
    refine core (fun b => if b = a then some (.frz { cls := .type "list", data := .seq vs.toArray } (.lst (ns.map V.int))) else none) (fun b => ?_) (.inl (.inr ⟨{ cls := .type "list", data := .seq vs.toArray }, if_pos rfl⟩)) (fun b u z => ?_) (fun b z => ?_) fun _ => hk
    · by_cases hb : b = a
      · exact .inr ⟨_, _, if_pos hb⟩
      · exact .inl (if_neg hb)
    · by_cases hb : b = a
      · have z' := (if_pos hb).symm.trans z
        cases z'
        subst hb
        exact ⟨ha, by rw [List.length_map]; exact hl, vs, _, rv, ha⟩
      · have z' := (if_neg hb).symm.trans z
        cases z'
    · by_cases hb : b = a
      · exact hb
      · exact absurd (if_neg hb) z
end L2

namespace L2
open PySem PySem.Spec PyProof.Rows

noncomputable abbrev KOf {K : PySem.W.Frag} {h : Heap} (_ : K.In h) : PySem.W.Frag := K

theorem X8 {l : PySem.W.OpenLaw} {n k : Nat} {q : Program} {loose : List Str} {XP : (Str → Option Value) → Heap → Prop} {YP : World → Heap → Prop} {d : DefRec} {K : Params → PySem.W.Frag} {CX : World → CXT} {sp : World → Sp} {x : Str}
    (hn : l.most = some n) (hn2 : n ≤ sizeLine) (hdf : d.params.defaults = []) (hr : Room k callerA)
    (hY : ∀ (w : World) (h : Heap), YP w h → (K w.params).In h)
    (F : ∀ (w : World) (mg : Str → Option Value) (fa : Addr) (h : Heap), (K w.params).In h → h.Ns mainGlobals mg → mg d.name = some (.ref fa) →
      ∃ fd : FuncData, (∀ (s : Shared) (u : Value), BindsTo s fd ⟨[u], []⟩ [(x, u)]) ∧
        ∀ base : Heap, (K w.params).In base → base.Ns mainGlobals mg → FnOk l.prog w (K w.params) mg base (CX w) k fa fd [x] (sp w))
    (hsp : ∀ (w : World) (H : Hp) (a : Addr) (ns : List Int), ns.length ≤ n → Ww H → SqL (K w.params) H a (ns.map V.int) → sp w [.ref a] H (fun v _ => v = .bl true) fun _ _ _ => False)
    (hCX : ∀ (w : World) (H : Hp) (s : Shared) (e : Value) (s' : Shared), CX w [] H s (fun _ _ _ => False) e s' → False) :
    PySem.W.WalkO q loose XP YP l.row.toRowW d [] (fun f vs => PySem.call f vs) := by
  refine Att.attach_call hn hdf fun w s₀ s₁ mg mb fa o pm cd doc a vs ns G Y ho hd hcd hmg hobj hints hlen hg => ?_
  have KX := hY w _ Y
  obtain ⟨fd, hb, hF⟩ := F w mg fa _ KX G.T.g hmg
  exact VU KX G.T.g G.T.b G.T.builtins G.T.nolimit hg hobj hints (Nat.le_trans hlen hn2) hr hF hb (fun H hO hS => hsp w H a ns hlen hO hS) fun H e s' => hCX w H s₁ e s'
end L2


namespace L2
open PySem PySem.Spec PyProof.Rows

noncomputable def QF (s : Stmt) : Arguments := match s with
  | .FunctionDef _ a _ _ _ _ _ _ _ _ => a
  | _ => { posonlyargs := [], args := [], vararg := none, kwonlyargs := [], kw_defaults := [], kwarg := none, defaults := [] }
noncomputable def Qo (s : Stmt) : List Stmt := match s with
  | .FunctionDef _ _ b _ _ _ _ _ _ _ => b
  | _ => []
noncomputable def Qe (s : Stmt) : Scope := match s with
  | .FunctionDef _ _ _ _ _ _ sc _ _ _ => sc
  | _ => { kind := .function, names := [], isGenerator := false, isCoroutine := false }

noncomputable abbrev CX0 : CXT := fun _ _ _ _ _ _ => False
noncomputable abbrev E0 : XK := fun _ _ _ => False
theorem Wn {X : Cx} : Jl CX0 X E0 := fun _ _ _ _ _ _ _ h => h.elim

structure Fun (K : PySem.W.Frag) (x qual : Str) (st : Stmt) (f : Addr) (fd : FuncData) : Prop where
  ex : ∃ (oc : Value) (od : Option Addr) (kV doc pm : Value) (an : Option Addr) (cdv ct : Value) (osl : Array (Option Value)),
    fd = PySem.W.fnOf x qual (QF st) (Qo st) (Qe st) .none kV doc pm an cdv ct ∧ K.lookup f = some ⟨oc, od, .func fd, osl⟩ ∧ PySem.W.codeIn K cdv qual = true
  kp : PySem.W.keepIn K (.ref f) = true
section
variable {P : Program} {w : World} {K : PySem.W.Frag} {mg : Str → Option Value} {base : Heap}
theorem Fun.ok {x qual : Str} {st : Stmt} {f : Addr} {fd : FuncData} {N ps : List Str} {k : Nat} {sp : Sp} (F : Fun K x qual st f fd) (S : FnScope N ps (Qe st)) (len : ∀ vs H Q E, sp vs H Q E → vs.length = ps.length)
    (hbody : ∀ (cdv : Value) (A : Around) (outer : List Env) (s : Shared) (H : Hp) (vs : List V) (Q : VK) (E : XK), Room k (A.deeper (envOfC qual (Qe st) s.heap.objs.size f cdv)) → sp vs H Q E →
      ∃ t, PSs (JC CX0 P w K mg base N qual (Qe st) f cdv A outer s H E).nox (Qo st) t ∧ t { nx := fun _ H' => Q .non H', rt := Q } (start N vs) H) : FnOk P w K mg base CX0 (k + 1) f fd ps sp := by
  obtain ⟨oc, od, kV, doc, pm, an, cdv, ct, osl, rfl, lk, hcd⟩ := F.ex
  refine XJ lk hcd S len fun A outer s H vs Q E hr hsp => ?_
  obtain ⟨t, h, q⟩ := hbody cdv A outer s H vs Q E hr hsp
  exact ⟨t, h.nox, q⟩
theorem Fun.binds {x qual : Str} {st : Stmt} {f : Addr} {fd : FuncData} {ps : List Str} (F : Fun K x qual st f fd)
    (h : ∀ (kV doc pm : Value) (an : Option Addr) (cdv ct : Value) (us : List Value), us.length = ps.length → bindArgs (PySem.W.fnOf x qual (QF st) (Qo st) (Qe st) .none kV doc pm an cdv ct) ⟨us, []⟩ = pure (ps.zip us)) : Binds K fd ps [] := by
  obtain ⟨oc, od, kV, doc, pm, an, cdv, ct, osl, rfl, lk, hcd⟩ := F.ex
  exact .all (h kV doc pm an cdv ct)
theorem Jk {x qual : Str} {st : Stmt} {f : Addr} {oc : Value} {od an : Option Addr} {osl : Array (Option Value)} {kV doc pm cdv ct : Value} (l : K.lookup f = some ⟨oc, od, .func (PySem.W.fnOf x qual (QF st) (Qo st) (Qe st) .none kV doc pm an cdv ct), osl⟩)
    (c : PySem.W.codeIn K cdv qual = true) (k : PySem.W.keepIn K (.ref f) = true) : Fun K x qual st f (PySem.W.fnOf x qual (QF st) (Qo st) (Qe st) .none kV doc pm an cdv ct) := ⟨⟨oc, od, kV, doc, pm, an, cdv, ct, osl, rfl, l, c⟩, k⟩
end
section
variable {X : Cx}
theorem pv (i : Nat) {x : Str} {pos : Pos} (hN : X.N[i]? = some x := by rfl) (hv : Vis X.env.scope x := by first | exact Or.inl rfl | exact Or.inr (Or.inl rfl) | exact Or.inr (Or.inr rfl)) (hd : (x == ("__debug__" : Str)) = false := by decide)
    (hcd : (x == ("__classdict__" : Str)) = false := by decide) : PE X (.Name x pos) (WP i) := Xo hN hv hd hcd
end

theorem YX {A B : Prop} (h : B) : if false = true then A else B := by
  rw [if_neg Bool.false_ne_true]
  exact h
theorem Y2 {A B : Prop} (h : A) : if true = true then A else B := by
  rw [if_pos rfl]
  exact h
end L2

namespace L2
open PySem PySem.Spec PyProof.Rows

section
variable {κ : Type} [DecidableEq κ]
end


section
variable {P : Program} {w : World} {H : Hp} {h : Heap} {a : Addr}
end

section
variable {X : Cx} {pins : List (Addr × Obj)} {σ : St} {H : Hp} {s : Shared} {a : Addr} {y v : V} {u r : Value} {o : Option V} {A : Around} {E : Value → Shared → Prop}

end

section
variable {X : Cx} {pins : List (Addr × Obj)} {σ : St} {H : Hp} {s : Shared} {a : Addr} {kvs : List (Key × V)} {k : Key} {u : Value} {A : Around} {E : Value → Shared → Prop}
end


section
variable {X : Cx} {o i e value : Expr} {pos pos' tpos : Pos} {td ty tv : TE}
end


section
variable {X : Cx} {pos : Pos}
end

structure M1 (X : Cx) (o : Expr) (m : Str) (apos : Pos) (e : Expr) (cpos : Pos) : Prop where
  base : attributeBase o m X.env (eval o X.env) = eval o X.env
  few : ((backTo cpos (starEach [e] X.env)).all (fun x => !x.1) && (backToKw cpos (keywordEach [] X.env)).all (fun x => x.1.isSome)
    && decide (([e] : List Expr).length + ([] : List Keyword).length + (if ([] : List Keyword).isEmpty then 0 else 1) < 30)) = true
  line : (apos.endLine == cpos.line) = true
  trees : backTo cpos (starEach [e] X.env) = [(false, eval e X.env)]
structure M2 (X : Cx) (o : Expr) (m : Str) (apos : Pos) (e f : Expr) (cpos : Pos) : Prop where
  base : attributeBase o m X.env (eval o X.env) = eval o X.env
  few : ((backTo cpos (starEach [e, f] X.env)).all (fun x => !x.1) && (backToKw cpos (keywordEach [] X.env)).all (fun x => x.1.isSome)
    && decide (([e, f] : List Expr).length + ([] : List Keyword).length + (if ([] : List Keyword).isEmpty then 0 else 1) < 30)) = true
  line : (apos.endLine == cpos.line) = true
  trees : backTo cpos (starEach [e, f] X.env) = [(false, eval e X.env), (false, eval f X.env)]

section
variable {X : Cx} {pins : List (Addr × Obj)} {σ : St} {H : Hp} {s : Shared} {a : Addr} {y d : V} {u r : Value} {o : Option V} {A : Around} {E : Value → Shared → Prop}
end

section
variable {X : Cx} {o e f : Expr} {apos cpos : Pos} {td ty tx : TE}
end

section
variable {X : Cx} {pins : List (Addr × Obj)} {σ : St} {H : Hp} {s : Shared} {a : Addr} {kvs : List (Key × V)} {A : Around} {E : Value → Shared → Prop}
end


section
variable {X : Cx} {pins : List (Addr × Obj)} {σ : St} {H : Hp} {s : Shared} {a : Addr} {y : V} {u : Value} {A : Around} {E : Value → Shared → Prop}
end
end L2

namespace L2
open PySem PySem.Spec PyProof.Rows
section
variable {X : Cx}
end
section
variable {κ : Type} [DecidableEq κ]
end
end L2

namespace Mi
open PySem PySem.Spec PyProof.Rows L2

inductive W where
  | non | bl (b : Bool) | int (i : Int) | str (x : Str) | tup (ws : List W) | lst (ws : List W) | frz (ws : List W) | ref (n : Nat) | ty (n : String)
inductive MO where
  | lst (ws : List W)
  | dic (kvs : List (Key × W))
  | dct (kvs : List (W × W))
  | ins (C : Addr) (fs : List (Str × W))
noncomputable abbrev MH := List MO
noncomputable abbrev MSt := List (Option W)

structure Rn where
  ρ : Nat → Addr
  N : Nat
  F : Hp
  G : Hp
structure Ext (R R' : Rn) : Prop where
  n : R.N ≤ R'.N
  ρ : ∀ n, n < R.N → R'.ρ n = R.ρ n
  f : ∀ a o, R.F a = some o → R'.F a = some o
  g : R'.G = R.G
theorem Ext.refl (R : Rn) : Ext R R := ⟨Nat.le_refl _, fun _ _ => rfl, fun _ _ h => h, rfl⟩
theorem Ext.trans {R R1 R2 : Rn} (a : Ext R R1) (b : Ext R1 R2) : Ext R R2 :=
  ⟨Nat.le_trans a.n b.n, fun n h => (b.ρ n (Nat.lt_of_lt_of_le h a.n)).trans (a.ρ n h), fun x o h => b.f x o (a.f x o h), b.g.trans a.g⟩

theorem Q7 {K : PySem.W.Frag} (e : ∀ a o, F a = some o → F' a = some o) (h : SqT K F a xs) : SqT K F' a xs := by
  rcases h with (h | ⟨o, h⟩) | h
  · exact .inl (.inl (e _ _ h))
  · exact .inl (.inr ⟨o, e _ _ h⟩)
  · exact .inr h
theorem Q9 {K : PySem.W.Frag} (e : ∀ a o, F a = some o → F' a = some o) (h : SqL K F a xs) : SqL K F' a xs := by
  rcases h with (h | ⟨o, h⟩) | h
  · exact .inl (.inl (e _ _ h))
  · exact .inl (.inr ⟨o, e _ _ h⟩)
  · exact .inr h

section
variable (K : PySem.W.Frag)
mutual
noncomputable def Rw (R : Rn) : W → V → Prop
  | .non, v => v = .non
  | .bl b, v => v = .bl b
  | .int i, v => v = .int i
  | .str x, v => v = .str x
  | .tup ws, v => ∃ a xs, v = .ref a ∧ SqT K R.F a xs ∧ Rws R ws xs
  | .lst ws, v => ∃ a xs, v = .ref a ∧ R.F a = some (.lst xs) ∧ Rws R ws xs
  | .frz ws, v => ∃ a xs, v = .ref a ∧ SqL K R.F a xs ∧ Rws R ws xs
  | .ref n, v => n < R.N ∧ v = .ref (R.ρ n)
  | .ty n, v => v = .ty n
noncomputable def Rws (R : Rn) : List W → List V → Prop
  | [], vs => vs = []
  | w :: ws, vs => ∃ v vs', vs = v :: vs' ∧ Rw R w v ∧ Rws R ws vs'
end
end
section
variable {K : PySem.W.Frag} {R R' : Rn}
mutual
theorem Rw.mono (e : Ext R R') : ∀ (w : W) (v : V), Rw K R w v → Rw K R' w v
  | .non, _, h => by unfold Rw at h ⊢; exact h
  | .bl _, _, h => by unfold Rw at h ⊢; exact h
  | .int _, _, h => by unfold Rw at h ⊢; exact h
  | .str _, _, h => by unfold Rw at h ⊢; exact h
  | .ty _, _, h => by unfold Rw at h ⊢; exact h
  | .tup ws, _, h => by
    unfold Rw at h ⊢
    obtain ⟨a, xs, e1, e2, e3⟩ := h
    exact ⟨a, xs, e1, Q7 e.f e2, Rws.mono e ws xs e3⟩
  | .lst ws, _, h => by
    unfold Rw at h ⊢
    obtain ⟨a, xs, e1, e2, e3⟩ := h
    exact ⟨a, xs, e1, e.f a _ e2, Rws.mono e ws xs e3⟩
  | .frz ws, _, h => by
    unfold Rw at h ⊢
    obtain ⟨a, xs, e1, e2, e3⟩ := h
    exact ⟨a, xs, e1, Q9 e.f e2, Rws.mono e ws xs e3⟩
  | .ref n, _, h => by
    unfold Rw at h ⊢
    obtain ⟨e1, e2⟩ := h
    exact ⟨Nat.lt_of_lt_of_le e1 e.n, by rw [e.ρ n e1]; exact e2⟩
theorem Rws.mono (e : Ext R R') : ∀ (ws : List W) (vs : List V), Rws K R ws vs → Rws K R' ws vs
  | [], _, h => by unfold Rws at h ⊢; exact h
  | w :: ws, _, h => by
    unfold Rws at h ⊢
    obtain ⟨v, vs', e1, e2, e3⟩ := h
    exact ⟨v, vs', e1, Rw.mono e w v e2, Rws.mono e ws vs' e3⟩
end
theorem Rws.nil_iff : Rws K R [] vs ↔ vs = [] := by unfold Rws; exact Iff.rfl
theorem Rws.cons_iff : Rws K R (w :: ws) vs ↔ ∃ v vs', vs = v :: vs' ∧ Rw K R w v ∧ Rws K R ws vs' := by
  constructor
  · intro h; unfold Rws at h; exact h
  · intro h; unfold Rws; exact h
theorem Rws.nil : Rws K R [] [] := Rws.nil_iff.mpr rfl
theorem Rws.cons (a : Rw K R w v) (b : Rws K R ws vs) : Rws K R (w :: ws) (v :: vs) := Rws.cons_iff.mpr ⟨v, vs, rfl, a, b⟩
theorem Rws.paired : ∀ {ws : List W} {vs : List V}, Rws K R ws vs → Paired (Rw K R) ws vs
  | [], vs, h => by rw [Rws.nil_iff] at h; subst h; exact .nil
  | w :: ws, vs, h => by
    rw [Rws.cons_iff] at h
    obtain ⟨v, vs', rfl, a, b⟩ := h
    exact .cons a (Rws.paired b)
theorem Rws.of : ∀ {ws : List W} {vs : List V}, Paired (Rw K R) ws vs → Rws K R ws vs
  | _, _, .nil => Rws.nil
  | _, _, .cons a b => Rws.cons a (Rws.of b)
theorem Rws.length (h : Rws K R ws vs) : ws.length = vs.length := Paired.length h.paired
theorem Rws.get : ∀ {ws : List W} {vs : List V} {i : Nat} {w : W}, Rws K R ws vs → ws[i]? = some w → ∃ v, vs[i]? = some v ∧ Rw K R w v
  | [], _, _, _, _, e => by simp at e
  | w :: ws, vs, 0, x, h, e => by
    rw [Rws.cons_iff] at h
    obtain ⟨v, vs', rfl, a, b⟩ := h
    simp at e; subst e
    exact ⟨v, by simp, a⟩
  | w :: ws, vs, i + 1, x, h, e => by
    rw [Rws.cons_iff] at h
    obtain ⟨v, vs', rfl, a, b⟩ := h
    obtain ⟨y, h1, h2⟩ := Rws.get (i := i) b (by simpa using e)
    exact ⟨y, by simpa using h1, h2⟩
theorem Rws.append : ∀ {ws us : List W} {vs xs : List V}, Rws K R ws vs → Rws K R us xs → Rws K R (ws ++ us) (vs ++ xs)
  | [], us, vs, xs, h, q => by rw [Rws.nil_iff] at h; subst h; exact q
  | w :: ws, us, vs, xs, h, q => by
    rw [Rws.cons_iff] at h
    obtain ⟨v, vs', rfl, a, b⟩ := h
    exact Rws.cons a (Rws.append b q)
theorem Rws.set : ∀ {ws : List W} {vs : List V} {w : W} {v : V} (n : Nat), Rws K R ws vs → Rw K R w v → Rws K R (ws.set n w) (vs.set n v)
  | [], vs, _, _, n, h, _ => by rw [Rws.nil_iff] at h; subst h; simp; exact Rws.nil
  | x :: ws, vs, w, v, 0, h, q => by
    rw [Rws.cons_iff] at h
    obtain ⟨y, vs', rfl, a, b⟩ := h
    exact Rws.cons q b
  | x :: ws, vs, w, v, n + 1, h, q => by
    rw [Rws.cons_iff] at h
    obtain ⟨y, vs', rfl, a, b⟩ := h
    exact Rws.cons a (Rws.set n b q)
end

noncomputable def Xn : Nat → W → Option Tr
  | 0, _ => none
  | _ + 1, .int i => some (.i i)
  | _ + 1, .bl b => some (.i (if b then 1 else 0))
  | _ + 1, .str x => some (.s x)
  | n + 1, .tup ws => (ws.mapM (Xn n)).map .t
  | _ + 1, _ => none
noncomputable def nrm : W → Option Tr
  | .tup ws => Xn 8 (.tup ws)
  | _ => none
section
variable (K : PySem.W.Frag)
noncomputable def Ro (R : Rn) : MO → Option HO → Prop
  | .lst ws, o => ∃ xs, o = some (.lst xs) ∧ Rws K R ws xs
  | .dic kvs, o => ∃ kx : List (Key × V), o = some (.dK kx) ∧ Paired (fun p q => p.1 = q.1 ∧ Rw K R p.2 q.2) kvs kx
  | .dct kvs, o => ∃ kx : List (Tr × Addr × V), o = some (.dT kx) ∧ Paired (fun p q => Rw K R p.1 (.ref q.2.1) ∧ nrm p.1 = some q.1 ∧ Rw K R p.2 q.2.2) kvs kx
  | .ins C fs, o => ∃ (dx : Addr) (fx : List (Str × V)), o = some (.ins C dx fx) ∧ Paired (fun p q => p.1 = q.1 ∧ Rw K R p.2 q.2) fs fx
structure Rh (R : Rn) (h : MH) (H : Hp) : Prop where
  len : R.N = h.length
  sub : ∀ a o, R.F a = some o → H a = some o
  sep : ∀ n, n < R.N → R.F (R.ρ n) = none
  inj : ∀ m n, m < R.N → n < R.N → R.ρ m = R.ρ n → m = n
  obj : ∀ n o, h[n]? = some o → Ro K R o (H (R.ρ n))
  gsub : ∀ a o, R.G a = some o → H a = some o
  gsep : ∀ n, n < R.N → R.G (R.ρ n) = none
  gf : ∀ a o, R.G a = some o → R.F a = none
noncomputable def Rst (R : Rn) (σi : MSt) (σ : L2.St) : Prop := σi.length = σ.length ∧ ∀ (i : Nat) (w : W), σi[i]? = some (some w) → ∃ v, σ[i]? = some (some v) ∧ Rw K R w v
end
section
variable {K : PySem.W.Frag} {R R' : Rn} {h : MH} {H : Hp} {σi : MSt} {σ : L2.St}
theorem Ro.mono (e : Ext R R') (q : Ro K R o u) : Ro K R' o u := by
  cases o with
  | lst ws => obtain ⟨xs, e1, e2⟩ := q; exact ⟨xs, e1, Rws.mono e ws xs e2⟩
  | dic kvs => obtain ⟨kx, e1, e2⟩ := q; exact ⟨kx, e1, Paired.mapP e2 fun a b z => ⟨z.1, Rw.mono e _ _ z.2⟩⟩
  | dct kvs => obtain ⟨kx, e1, e2⟩ := q; exact ⟨kx, e1, Paired.mapP e2 fun a b z => ⟨Rw.mono e _ _ z.1, z.2.1, Rw.mono e _ _ z.2.2⟩⟩
  | ins C fs => obtain ⟨dx, fx, e1, e2⟩ := q; exact ⟨dx, fx, e1, Paired.mapP e2 fun a b z => ⟨z.1, Rw.mono e _ _ z.2⟩⟩
theorem Ro.some (q : Ro K R o u) : ∃ x, u = some x := by
  cases o with
  | lst ws => obtain ⟨xs, e1, e2⟩ := q; exact ⟨_, e1⟩
  | dic kvs => obtain ⟨kx, e1, e2⟩ := q; exact ⟨_, e1⟩
  | dct kvs => obtain ⟨kx, e1, e2⟩ := q; exact ⟨_, e1⟩
  | ins C fs => obtain ⟨dx, fx, e1, e2⟩ := q; exact ⟨_, e1⟩
theorem Rst.mono (e : Ext R R') (q : Rst K R σi σ) : Rst K R' σi σ := ⟨q.1, fun i w h => by
  obtain ⟨v, h1, h2⟩ := q.2 i w h
  exact ⟨v, h1, Rw.mono e _ _ h2⟩⟩
theorem Rst.set (q : Rst K R σi σ) (r : Rw K R w v) : Rst K R (σi.set i (some w)) (σ.set i (some v)) := by
  refine ⟨by rw [List.length_set, List.length_set]; exact q.1, fun j u e => ?_⟩
  rw [List.getElem?_set] at e ⊢
  by_cases hij : i = j
  · subst hij
    rw [if_pos rfl] at e ⊢
    by_cases hl : i < σi.length
    · rw [if_pos hl] at e
      rw [if_pos (q.1 ▸ hl)]
      cases e
      exact ⟨v, rfl, r⟩
    · rw [if_neg hl] at e; cases e
  · rw [if_neg hij] at e ⊢
    exact q.2 j u e
theorem Rh.there (q : Rh K R h H) (hn : n < R.N) : ∃ o u, h[n]? = some o ∧ H (R.ρ n) = some u := by
  have hl : n < h.length := q.len ▸ hn
  obtain ⟨u, hu⟩ := (q.obj n h[n] (List.getElem?_eq_getElem hl)).some
  exact ⟨h[n], u, List.getElem?_eq_getElem hl, hu⟩
theorem Rh.ne (q : Rh K R h H) (hp : H p = none) (hn : n < R.N) : R.ρ n ≠ p := fun e => by
  obtain ⟨o, u, _, hu⟩ := q.there hn
  rw [e, hp] at hu; cases hu
theorem Rh.fix (q : Rh K R h H) (hp : H p = none) :
    Ext R { R with F := upd R.F p o } ∧ Rh K { R with F := upd R.F p o } h (upd H p o) := by
  have hF : R.F p = none := by
    cases e : R.F p with
    | none => rfl
    | some u => have := q.sub p u e; rw [hp] at this; cases this
  have x : Ext R { R with F := upd R.F p o } := ⟨Nat.le_refl _, fun _ _ => rfl, fun a u e => by
    show upd R.F p o a = some u
    rw [Qa (fun z => by rw [z, hF] at e; cases e)]; exact e, rfl⟩
  have hG : ∀ a u, R.G a = some u → a ≠ p := fun a u e z => by have := q.gsub a u e; rw [z, hp] at this; cases this
  refine ⟨x, q.len, fun a u e => ?_, fun n hn => ?_, q.inj, fun n u e => ?_, fun a u e => ?_, q.gsep, fun a u e => ?_⟩
  rotate_right 2
  · rw [Qa (hG a u e)]; exact q.gsub a u e
  · show upd R.F p o a = none
    rw [Qa (hG a u e)]; exact q.gf a u e
  · by_cases z : a = p
    · subst z
      have e' : upd R.F a o a = some u := e
      rw [Qd] at e' ⊢; exact e'
    · have e' : upd R.F p o a = some u := e
      rw [Qa z] at e' ⊢; exact q.sub a u e'
  · show upd R.F p o (R.ρ n) = none
    rw [Qa (q.ne hp hn)]; exact q.sep n hn
  · have hn : n < R.N := by rw [q.len]; exact (List.getElem?_eq_some_iff.mp e).1
    show Ro K _ u (upd H p o (R.ρ n))
    rw [Qa (q.ne hp hn)]
    exact (q.obj n u e).mono x
theorem Rh.tup (q : Rh K R h H) (hp : H p = none) (r : Rws K R ws xs) :
    ∃ R', Ext R R' ∧ Rh K R' h (upd H p (.tup xs)) ∧ Rw K R' (.tup ws) (.ref p) := by
  obtain ⟨x, y⟩ := q.fix (o := .tup xs) hp
  refine ⟨_, x, y, ?_⟩
  unfold Rw
  exact ⟨p, xs, rfl, SqT.of Qd, Rws.mono x _ _ r⟩
theorem Rh.lstI (q : Rh K R h H) (hp : H p = none) (r : Rws K R ws xs) :
    ∃ R', Ext R R' ∧ Rh K R' h (upd H p (.lst xs)) ∧ Rw K R' (.lst ws) (.ref p) := by
  obtain ⟨x, y⟩ := q.fix (o := .lst xs) hp
  refine ⟨_, x, y, ?_⟩
  unfold Rw
  exact ⟨p, xs, rfl, Qd, Rws.mono x _ _ r⟩
theorem Rh.new (q : Rh K R h H) (hp : H p = none) (r : ∀ R', Ext R R' → Ro K R' mo (some o)) :
    ∃ R', Ext R R' ∧ Rh K R' (h ++ [mo]) (upd H p o) ∧ Rw K R' (.ref h.length) (.ref p) := by
  let R' : Rn := { ρ := fun n => if n = R.N then p else R.ρ n, N := R.N + 1, F := R.F, G := R.G }
  have hr : ∀ n, n < R.N → R'.ρ n = R.ρ n := fun n hn => if_neg (Nat.ne_of_lt hn)
  have hq : R'.ρ R.N = p := if_pos rfl
  have x : Ext R R' := ⟨Nat.le_succ _, hr, fun _ _ e => e, rfl⟩
  have hG : ∀ a u, R.G a = some u → a ≠ p := fun a u e z => by have := q.gsub a u e; rw [z, hp] at this; cases this
  have hF : R.F p = none := by
    cases e : R.F p with
    | none => rfl
    | some u => have := q.sub p u e; rw [hp] at this; cases this
  have below : ∀ n, n < R.N + 1 → n < R.N ∨ n = R.N := fun n hn => Nat.lt_or_eq_of_le (Nat.le_of_lt_succ hn)
  have hgs : ∀ n, n < R.N + 1 → R.G (R'.ρ n) = none := fun n hn => by
    rcases below n hn with hn | hn
    · rw [hr n hn]; exact q.gsep n hn
    · subst hn
      rw [hq]
      cases e : R.G p with
      | none => rfl
      | some u => exact absurd rfl (hG p u e)
  refine ⟨R', x, ⟨?_, fun a u e => ?_, fun n hn => ?_, fun m n hm hn e => ?_, fun n u e => ?_, fun a u e => by rw [Qa (hG a u e)]; exact q.gsub a u e, hgs, q.gf⟩, ?_⟩
  · show R.N + 1 = _
    rw [List.length_append, q.len]; rfl
  · have z : a ≠ p := fun z => by have e' : R.F a = some u := e; rw [z, hF] at e'; cases e'
    rw [Qa z]; exact q.sub a u e
  · rcases below n hn with hn | hn
    · rw [hr n hn]; exact q.sep n hn
    · subst hn; rw [hq]; exact hF
  · rcases below m hm with hm | hm <;> rcases below n hn with hn | hn
    · rw [hr m hm, hr n hn] at e; exact q.inj m n hm hn e
    · subst hn; rw [hr m hm, hq] at e; exact absurd e (q.ne hp hm)
    · subst hm; rw [hr n hn, hq] at e; exact absurd e.symm (q.ne hp hn)
    · rw [hm, hn]
  · have hn : n < R.N + 1 := by
      have := (List.getElem?_eq_some_iff.mp e).1
      rw [List.length_append, ← q.len] at this; exact this
    rcases below n hn with hn | hn
    · rw [hr n hn, Qa (q.ne hp hn)]
      rw [List.getElem?_append_left (by rw [← q.len]; exact hn)] at e
      exact (q.obj n u e).mono x
    · subst hn
      rw [hq, Qd]
      rw [List.getElem?_append_right (by rw [q.len]; exact Nat.le_refl _), q.len, Nat.sub_self] at e
      cases e
      exact r R' x
  · unfold Rw
    refine ⟨by rw [← q.len]; exact Nat.lt_succ_self _, ?_⟩
    rw [← q.len, hq]
theorem Rh.tupAt (q : Rh K R h H) (r : Rw K R (.tup ws) v) : ∃ a xs, v = .ref a ∧ SqT K H a xs ∧ Rws K R ws xs := by
  unfold Rw at r
  obtain ⟨a, xs, e1, e2, e3⟩ := r
  exact ⟨a, xs, e1, Q7 q.sub e2, e3⟩
theorem Rh.lstAt (q : Rh K R h H) (r : Rw K R (.lst ws) v) : ∃ a xs, v = .ref a ∧ H a = some (.lst xs) ∧ Rws K R ws xs := by
  unfold Rw at r
  obtain ⟨a, xs, e1, e2, e3⟩ := r
  exact ⟨a, xs, e1, q.sub a _ e2, e3⟩
theorem Rh.frzAt (q : Rh K R h H) (r : Rw K R (.frz ws) v) : ∃ a xs, v = .ref a ∧ SqL K H a xs ∧ Rws K R ws xs := by
  unfold Rw at r
  obtain ⟨a, xs, e1, e2, e3⟩ := r
  exact ⟨a, xs, e1, Q9 q.sub e2, e3⟩
noncomputable def lsW (h : MH) : W → Option (List W)
  | .lst ws => some ws
  | .frz ws => some ws
  | .ref n => match h[n]? with | some (.lst ws) => some ws | _ => none
  | _ => none
theorem Rh.lsAt (q : Rh K R h H) (r : Rw K R w v) (e : lsW h w = some ws) : ∃ a xs, v = .ref a ∧ SqL K H a xs ∧ Rws K R ws xs := by
  cases w with
  | lst us => cases e; obtain ⟨a, xs, e1, e2, e3⟩ := q.lstAt r; exact ⟨a, xs, e1, SqL.of e2, e3⟩
  | frz us => cases e; exact q.frzAt r
  | ref n =>
    simp only [lsW] at e
    split at e
    · rename_i us hn
      cases e
      unfold Rw at r
      obtain ⟨xs, h1, h2⟩ := q.obj n _ hn
      exact ⟨_, xs, r.2, SqL.of h1, h2⟩
    · cases e
  | _ => cases e
theorem Rh.refAt (q : Rh K R h H) (r : Rw K R (.ref n) v) (e : h[n]? = some (.lst ws)) :
    n < R.N ∧ v = .ref (R.ρ n) ∧ ∃ xs, H (R.ρ n) = some (.lst xs) ∧ Rws K R ws xs := by
  unfold Rw at r
  exact ⟨r.1, r.2, q.obj n _ e⟩
end
theorem Rw.non_eq {K : PySem.W.Frag} (r : Rw K R .non v) : v = .non := by unfold Rw at r; exact r
theorem Rw.bl_eq {K : PySem.W.Frag} (r : Rw K R (.bl b) v) : v = .bl b := by unfold Rw at r; exact r
theorem Rw.int_eq {K : PySem.W.Frag} (r : Rw K R (.int i) v) : v = .int i := by unfold Rw at r; exact r
theorem Rw.str_eq {K : PySem.W.Frag} (r : Rw K R (.str x) v) : v = .str x := by unfold Rw at r; exact r
theorem Rw.ty {K : PySem.W.Frag} (n : String) : Rw K R (.ty n) (.ty n) := by unfold Rw; rfl
theorem Rw.non {K : PySem.W.Frag} : Rw K R .non .non := by unfold Rw; rfl
theorem Rw.bl {K : PySem.W.Frag} (b : Bool) : Rw K R (.bl b) (.bl b) := by unfold Rw; rfl
theorem Rw.int {K : PySem.W.Frag} (i : Int) : Rw K R (.int i) (.int i) := by unfold Rw; rfl
theorem Rw.str {K : PySem.W.Frag} (x : Str) : Rw K R (.str x) (.str x) := by unfold Rw; rfl
end Mi

namespace Mi
open PySem PySem.Spec PyProof.Rows L2

noncomputable abbrev ME := MSt → MH → Option (W × MH)
noncomputable abbrev MT := MSt → MH → Option (Bool × MH)
noncomputable abbrev MA := MSt → MH → Option (List W × MH)
inductive MF where
  | nx (σ : MSt) (h : MH) | rt (w : W) (h : MH) | bk (σ : MSt) (h : MH) | ct (σ : MSt) (h : MH)
noncomputable abbrev SM := MSt → MH → Option MF
noncomputable abbrev FM := List W → MH → Option (W × MH)

section
variable (K : PySem.W.Frag)
noncomputable def After (R : Rn) (w : W) (h' : MH) (Q : VK) : Prop := ∀ R' H' v, Ext R R' → Rh K R' h' H' → Rw K R' w v → Q v H'
noncomputable def tI (m : ME) : TE := fun σ H Q => ∃ R σi h w h', Rh K R h H ∧ Rst K R σi σ ∧ m σi h = some (w, h') ∧ After K R w h' Q
noncomputable def tIT (m : MT) : TT := fun σ H Q => ∃ R σi h b h', Rh K R h H ∧ Rst K R σi σ ∧ m σi h = some (b, h') ∧ ∀ R' H', Ext R R' → Rh K R' h' H' → Q b H'
noncomputable def tIA (m : MA) : TA := fun σ H Q => ∃ R σi h ws h', Rh K R h H ∧ Rst K R σi σ ∧ m σi h = some (ws, h') ∧ ∀ R' H' vs, Ext R R' → Rh K R' h' H' → Rws K R' ws vs → Q vs H'
noncomputable def Ends (R : Rn) (D : L2.Ends) : MF → Prop
  | .nx σi h => ∀ R' H' σ, Ext R R' → Rh K R' h H' → Rst K R' σi σ → D.nx σ H'
  | .bk σi h => ∀ R' H' σ, Ext R R' → Rh K R' h H' → Rst K R' σi σ → D.bk σ H'
  | .ct σi h => ∀ R' H' σ, Ext R R' → Rh K R' h H' → Rst K R' σi σ → D.ct σ H'
  | .rt w h => After K R w h D.rt
noncomputable def tS (m : SM) : TS := fun D σ H => ∃ R σi h r, Rh K R h H ∧ Rst K R σi σ ∧ m σi h = some r ∧ Ends K R D r
noncomputable def spM (n : Nat) (m : FM) : Sp := fun vs H Q _ => ∃ R ws h w h', ws.length = n ∧ Rh K R h H ∧ Rws K R ws vs ∧ m ws h = some (w, h') ∧ After K R w h' Q
end
noncomputable def PM (X : Cx) (e : Expr) (m : ME) : Prop := PE X e (tI X.K m)
noncomputable def PMT (X : Cx) (e : Expr) (m : MT) : Prop := PT X e (tIT X.K m)
noncomputable def PMA (X : Cx) (es : List Expr) (m : MA) : Prop := PA X es (tIA X.K m)
noncomputable def PMS (X : Cx) (st : Stmt) (m : SM) : Prop := PS X st (tS X.K m)
noncomputable def Xc (X : Cx) (st : List Stmt) (m : SM) : Prop := PSs X st (tS X.K m)

section
variable {K : PySem.W.Frag} {R R1 R2 : Rn}
theorem After.ext (a : After K R w h' Q) (x : Ext R R1) : After K R1 w h' Q := fun R' H' v e => a R' H' v (x.trans e)
theorem Ends.ext (a : Ends K R D r) (x : Ext R R1) : Ends K R1 D r := by
  cases r with
  | nx σ h => exact fun R' H' v e => a R' H' v (x.trans e)
  | bk σ h => exact fun R' H' v e => a R' H' v (x.trans e)
  | ct σ h => exact fun R' H' v e => a R' H' v (x.trans e)
  | rt w h => exact After.ext a x
end
theorem QB (h : PE X e t) (i : ∀ σ H Q, t' σ H Q → t σ H Q) : PE X e t' := fun pins s σ H Q I q => h pins s σ H Q I (i _ _ _ q)
theorem J4 (h : PT X e t) (i : ∀ σ H Q, t' σ H Q → t σ H Q) : PT X e t' := fun pins s σ H Q I q => h pins s σ H Q I (i _ _ _ q)
theorem K9 (h : PW X e t) (i : ∀ σ H Q, t' σ H Q → t σ H Q) : PW X e t' := fun wh pins s σ H Q I q => h wh pins s σ H Q I (i _ _ _ q)
theorem Xz (h : PA X es t) (i : ∀ σ H Q, t' σ H Q → t σ H Q) : PA X es t' := fun pos pins s σ H Q I q => h pos pins s σ H Q I (i _ _ _ q)
theorem ZJ {st : Stmt} (h : PS X st t) (i : ∀ D σ H, t' D σ H → t D σ H) : PS X st t' := fun pins s σ H D I q => h pins s σ H D I (i _ _ _ q)
theorem JT {st : List Stmt} (h : PSs X st t) (i : ∀ D σ H, t' D σ H → t D σ H) : PSs X st t' := fun pins s σ H D I q => h pins s σ H D I (i _ _ _ q)

noncomputable def QP (i : Nat) : ME := fun σ h => match σ[i]? with | some (some w) => some (w, h) | _ => none
noncomputable def mC (w : W) : ME := fun _ h => some (w, h)
section
variable {X : Cx}
theorem Qy (i : Nat) (hN : X.N[i]? = some x := by rfl) (hv : Vis X.env.scope x := by first | exact Or.inl rfl | exact Or.inr (Or.inl rfl) | exact Or.inr (Or.inr rfl)) (hd : (x == ("__debug__" : Str)) = false := by decide)
    (hcd : (x == ("__classdict__" : Str)) = false := by decide) : PM X (.Name x pos) (QP i) := QB (Xo hN hv hd hcd) <| by
  rintro σ H Q ⟨R, σi, h, w, h', rh, st, e, k⟩
  unfold QP at e
  split at e
  · rename_i w' e'
    cases e
    obtain ⟨v, h1, h2⟩ := st.2 i _ e'
    exact ⟨v, h1, k R H v (Ext.refl _) rh h2⟩
  · cases e
theorem KF (r : ∀ R, Rw X.K R w v) (q : tI X.K (mC w) σ H Q) : tC v σ H Q := by
  obtain ⟨R, σi, h, w', h', rh, st, e, k⟩ := q
  cases e
  exact k R H v (Ext.refl _) rh (r R)
theorem QO {i j pos} : PM X (.Constant (.int i) j pos) (mC (.int i)) := QB Zb fun _ _ _ => KF fun _ => Rw.int _
theorem Kz {b j pos} : PM X (.Constant (.bool b) j pos) (mC (.bl b)) := QB Ws fun _ _ _ => KF fun _ => Rw.bl _
theorem YF {x j pos} : PM X (.Constant (.str x) j pos) (mC (.str x)) := QB J7 fun _ _ _ => KF fun _ => Rw.str _
end

noncomputable def QX (f : W → W → MH → Option (W × MH)) (ma mb : ME) : ME := fun σ h => (ma σ h).bind fun p => (mb σ p.2).bind fun q => f p.1 q.1 q.2
noncomputable def F2 (K : PySem.W.Frag) (f : W → W → MH → Option (W × MH)) (x y : V) (H : Hp) (Q : VK) : Prop := ∃ R h a b w h', Rh K R h H ∧ Rw K R a x ∧ Rw K R b y ∧ f a b h = some (w, h') ∧ After K R w h' Q
noncomputable def Fs (K : PySem.W.Frag) (f : List W → MH → Option (W × MH)) (xs : List V) (H : Hp) (Q : VK) : Prop := ∃ R h ws w h', Rh K R h H ∧ Rws K R ws xs ∧ f ws h = some (w, h') ∧ After K R w h' Q
noncomputable def mFn (f : List W → MH → Option (W × MH)) (ma : MA) : ME := fun σ h => (ma σ h).bind fun p => f p.1 p.2
section
variable {K : PySem.W.Frag} {σ : L2.St} {H : Hp} {Q : VK}
theorem YZ (q : tI K (QX f ma mb) σ H Q) : tI K ma σ H fun x H1 => tI K mb σ H1 fun y H2 => F2 K f x y H2 Q := by
  obtain ⟨R, σi, h, w, h', rh, st, e, k⟩ := q
  obtain ⟨⟨a, h1⟩, ea, e2⟩ := Option.bind_eq_some_iff.mp e
  obtain ⟨⟨b, h2⟩, eb, e3⟩ := Option.bind_eq_some_iff.mp e2
  exact ⟨R, σi, h, a, h1, rh, st, ea, fun R1 H1 x x1 rh1 rx => ⟨R1, σi, h1, b, h2, rh1, st.mono x1, eb, fun R2 H2 y x2 rh2 ry =>
    ⟨R2, h2, a, b, w, h', rh2, Rw.mono x2 _ _ rx, ry, e3, k.ext (x1.trans x2)⟩⟩⟩
theorem V9 (q : tI K (mFn f ma) σ H Q) : tIA K ma σ H fun xs H1 => Fs K f xs H1 Q := by
  obtain ⟨R, σi, h, w, h', rh, st, e, k⟩ := q
  obtain ⟨⟨a, h1⟩, ea, e2⟩ := Option.bind_eq_some_iff.mp e
  exact ⟨R, σi, h, a, h1, rh, st, ea, fun R1 H1 x x1 rh1 rx => ⟨R1, h1, a, w, h', rh1, rx, e2, k.ext x1⟩⟩
end
noncomputable def Q3 : Expr → Bool
  | .Starred .. => true
  | _ => false
noncomputable def noStar (es : List Expr) : Bool := es.all fun e => !Q3 e
theorem QI (h : Q3 e = false) : starEach (e :: es) env = (false, eval e env) :: starEach es env := by
  cases e <;> first | rfl | cases h
theorem Zv (h : noStar es = true) : (backTo pos (starEach es env)).any (·.1) = false := by
  induction es with
  | nil => rfl
  | cons e es ih =>
    unfold noStar at h ih
    rw [List.all_cons, Bool.and_eq_true] at h
    have he : Q3 e = false := by simpa using h.1
    rw [QI he]
    have := ih h.2
    unfold backTo at this ⊢
    rw [List.map_cons, List.any_cons, this]; rfl
noncomputable def Zn : MA := fun _ h => some ([], h)
noncomputable def Qu (ma : ME) (mr : MA) : MA := fun σ h => (ma σ h).bind fun p => (mr σ p.2).bind fun q => some (p.1 :: q.1, q.2)
section
variable {X : Cx} {e : Expr} {es : List Expr} {m : ME} {ms : MA} {pos : Pos}
theorem QD : PMA X [] Zn := Xz Qi <| by
  rintro σ H Q ⟨R, σi, h, ws, h', rh, st, e, k⟩
  cases e
  exact k R H [] (Ext.refl _) rh Rws.nil
theorem Qj (ha : PM X e m) (hr : PMA X es ms) (hs : Q3 e = false := by rfl) : PMA X (e :: es) (Qu m ms) :=
  Xz (Qc ha hr (QI hs)) fun σ H Q z0 => by
    obtain ⟨R, σi, h, ws, h', rh, st, e, k⟩ := z0
    obtain ⟨⟨a, h1⟩, ea, e2⟩ := Option.bind_eq_some_iff.mp e
    obtain ⟨⟨b, h2⟩, eb, e3⟩ := Option.bind_eq_some_iff.mp e2
    cases e3
    exact ⟨R, σi, h, a, h1, rh, st, ea, fun R1 H1 x x1 rh1 rx => ⟨R1, σi, h1, b, h2, rh1, st.mono x1, eb, fun R2 H2 ys x2 rh2 ry =>
      k R2 H2 (x :: ys) (x1.trans x2) rh2 (Rws.cons (Rw.mono x2 _ _ rx) ry)⟩⟩
noncomputable def YW (ws : List W) (h : MH) : Option (W × MH) := if ws.length ≤ sizeLine then some (.lst ws, h) else none
theorem Yx (h : PMA X es ms) : PM X (.List es pos) (mFn YW ms) := QB (JV h) fun σ H Q q => by
  obtain ⟨R, σi, h0, ws, h1, rh, st, e, k⟩ := V9 q
  refine ⟨R, σi, h0, ws, h1, rh, st, e, fun R1 H1 vs x1 rh1 rx => ?_⟩
  obtain ⟨R2, h2, ws2, w, h3, rh2, rx2, e2, k2⟩ := k R1 H1 vs x1 rh1 rx
  unfold YW at e2
  split at e2
  · rename_i hl
    cases e2
    refine ⟨by rw [← rx2.length]; exact hl, fun p hp => ?_⟩
    obtain ⟨R3, x3, rh3, rw3⟩ := rh2.lstI hp rx2
    exact k2 R3 _ _ x3 rh3 rw3
  · cases e2
end
noncomputable def OpM (K : PySem.W.Frag) (r : R2) (f : W → W → MH → Option (W × MH)) : Prop := ∀ x y H Q, F2 K f x y H Q → r x y H Q
noncomputable def XY (K : PySem.W.Frag) (r : List V → Hp → VK → Prop) (f : List W → MH → Option (W × MH)) : Prop := ∀ xs H Q, Fs K f xs H Q → r xs H Q
section
variable {X : Cx} {a b c : Expr} {ma mb mc : ME} {pos : Pos}
theorem QH {K : PySem.W.Frag} (h : tI K m σ H Q) (i : ∀ v H, Q v H → Q' v H) : tI K m σ H Q' := by
  obtain ⟨R, σi, h, w, h', rh, st, e, k⟩ := h
  exact ⟨R, σi, h, w, h', rh, st, e, fun R' H' v a b c => i _ _ (k R' H' v a b c)⟩
theorem ZB {K : PySem.W.Frag} (h : tIA K m σ H Q) (i : ∀ v H, Q v H → Q' v H) : tIA K m σ H Q' := by
  obtain ⟨R, σi, h, w, h', rh, st, e, k⟩ := h
  exact ⟨R, σi, h, w, h', rh, st, e, fun R' H' v a b c => i _ _ (k R' H' v a b c)⟩
theorem V2 (ho : OpR X (binaryOp op) r) (hf : OpM X.K r f) (ha : PM X a ma) (hb : PM X b mb) : PM X (.BinOp a op b pos) (QX f ma mb) :=
  QB (KQ ho ha hb) fun _ _ _ q => QH (YZ q) fun _ _ q1 => QH q1 fun _ _ q2 => hf _ _ _ _ q2
theorem Jo (ho : OpR X (compareOp op) r) (hf : OpM X.K r f) (ha : PM X a ma) (hb : PM X b mb) (hm : behindInMarks op b = false := by rfl) : PM X (.Compare a [op] [b] pos) (QX f ma mb) :=
  QB (XV ho ha hb hm) fun _ _ _ q => QH (YZ q) fun _ _ q1 => QH q1 fun _ _ q2 => hf _ _ _ _ q2
noncomputable def JA (m : ME) : MT := fun σ h => (m σ h).bind fun p => match p.1 with | .bl b => some (b, p.2) | _ => none
theorem Xb {K : PySem.W.Frag} (q : tIT K (JA m) σ H Q) : tI K m σ H fun x H' => ∃ k, x = .bl k ∧ Q k H' := by
  obtain ⟨R, σi, h, b, h', rh, st, e, k⟩ := q
  obtain ⟨⟨w, h1⟩, ew, e2⟩ := Option.bind_eq_some_iff.mp e
  cases w <;> simp only at e2 <;> first | (cases e2; exact ⟨R, σi, h, _, _, rh, st, ew, fun R' H' v x rh' rv => ⟨_, rv.bl_eq, k R' H' x rh'⟩⟩) | (cases e2)
theorem XX (ho : OpR X (compareOp op) r) (hf : OpM X.K r f) (ha : PM X a ma) (hb : PM X b mb) (hm : behindInMarks op b = false := by rfl) : PMT X (.Compare a [op] [b] pos) (JA (QX f ma mb)) :=
  J4 (QR ho ha hb hm) fun _ _ _ q => QH (YZ (Xb q)) fun _ _ q1 => QH q1 fun _ _ q2 => hf _ _ _ _ q2
noncomputable def WT (f f' : W → W → MH → Option (W × MH)) (ma mb mc : ME) : ME := fun σ h => (ma σ h).bind fun p => (mb σ p.2).bind fun q => (f p.1 q.1 q.2).bind fun z => match z.1 with
  | .bl true => (mc σ z.2).bind fun y => f' q.1 y.1 y.2
  | .bl false => some (.bl false, z.2)
  | _ => none
noncomputable def YT (ma mb : ME) : ME := fun σ h => (ma σ h).bind fun p => match p.1 with | .bl true => mb σ p.2 | .bl false => some (.bl false, p.2) | _ => none
noncomputable def Us (ma mb : MT) : MT := fun σ h => (ma σ h).bind fun p => match p.1 with | true => mb σ p.2 | false => some (false, p.2)
noncomputable def KO (ma mb : MT) : MT := fun σ h => (ma σ h).bind fun p => match p.1 with | true => some (true, p.2) | false => mb σ p.2
noncomputable def Vb (ma : MT) : MT := fun σ h => (ma σ h).bind fun p => some (!p.1, p.2)
variable {rest : List Expr} {ta tb : MT}
theorem YQ {op} (h : PM X a ma) : PM X (.BoolOp op [a] pos) ma := YL h
theorem Xw (ha : PM X a ma) (hb : PM X (.BoolOp .And (b :: rest) pos) mb) : PM X (.BoolOp .And (a :: b :: rest) pos) (YT ma mb) := QB (YI ha hb) <| by
  rintro σ H Q ⟨R, σi, h, w, h', rh, st, e, k⟩
  obtain ⟨⟨a, h1⟩, ea, e2⟩ := Option.bind_eq_some_iff.mp e
  refine ⟨R, σi, h, a, h1, rh, st, ea, fun R1 H1 x x1 rh1 rx => ?_⟩
  cases a with
  | bl t =>
    refine ⟨t, rx.bl_eq, ?_⟩
    cases t with
    | true => exact Y2 ⟨R1, σi, h1, w, h', rh1, st.mono x1, e2, k.ext x1⟩
    | false => cases e2; exact YX (k R1 H1 _ x1 rh1 (Rw.bl _))
  | non => cases e2
  | int _ => cases e2
  | str _ => cases e2
  | tup _ => cases e2
  | lst _ => cases e2
  | frz _ => cases e2
  | ref _ => cases e2
  | ty _ => cases e2
noncomputable def PMW (X : Cx) (e : Expr) (m : MT) : Prop := PW X e (tIT X.K m)
theorem PMW.pt (h : PMW X e m) : PMT X e m := PW.pt h
theorem Yz {K : PySem.W.Frag} (q : tIT K (KO ta tb) σ H Q) : tOr (tIT K ta) (tIT K tb) σ H Q := by
  obtain ⟨R, σi, h, w, h', rh, st, e, k⟩ := q
  obtain ⟨⟨a, h1⟩, ea, e2⟩ := Option.bind_eq_some_iff.mp e
  refine ⟨R, σi, h, a, h1, rh, st, ea, fun R1 H1 x1 rh1 => ?_⟩
  cases a with
  | true => cases e2; exact Y2 (k R1 H1 x1 rh1)
  | false => exact YX ⟨R1, σi, h1, w, h', rh1, st.mono x1, e2, fun R2 H2 x2 => k R2 H2 (x1.trans x2)⟩
theorem X5 (ha : PMT X a ta) : PMW X (.BoolOp .Or [a] pos) ta := Yn ha
theorem KR (ha : PMT X a ta) (hb : PMW X (.BoolOp .Or (b :: rest) pos) tb) : PMW X (.BoolOp .Or (a :: b :: rest) pos) (KO ta tb) := K9 (Wl ha hb) fun _ _ _ => Yz
theorem Vw (ha : PMT X a ta) : PMT X (.UnaryOp .Not a pos) (Vb ta) := J4 (Yh ha) <| by
  rintro σ H Q ⟨R, σi, h, w, h', rh, st, e, k⟩
  obtain ⟨⟨a, h1⟩, ea, e2⟩ := Option.bind_eq_some_iff.mp e
  cases e2
  exact ⟨R, σi, h, a, h1, rh, st, ea, fun R1 H1 x1 rh1 => k R1 H1 x1 rh1⟩
noncomputable def KJ (h : MH) : W → Option Bool
  | .non => some false
  | .bl b => some b
  | .int i => some (i != 0)
  | .str x => if x.length ≤ sizeLine then some ((x.length : Int) != 0) else none
  | .tup ws => some (!ws.isEmpty)
  | .lst ws => some (!ws.isEmpty)
  | .frz ws => some (!ws.isEmpty)
  | .ref n => match h[n]? with | some (.lst ws) => some (!ws.isEmpty) | some (.dic kvs) => some (!kvs.isEmpty) | _ => none
  | .ty _ => none
noncomputable def YD (m : ME) : MT := fun σ h => (m σ h).bind fun p => (KJ p.2 p.1).map fun b => (b, p.2)
theorem Rws.isEmpty {K : PySem.W.Frag} (r : Rws K R ws vs) : ws.isEmpty = vs.isEmpty := by
  have := r.length
  cases ws <;> cases vs <;> simp at this ⊢
theorem Ya {K : PySem.W.Frag} {v : V} {b : Bool} (rh : Rh K R h H) (r : Rw K R w v) (e : KJ h w = some b) : WG K v H b := by
  cases w with
  | non => rw [r.non_eq]; cases e; rfl
  | bl b => rw [r.bl_eq]; cases e; rfl
  | int i => rw [r.int_eq]; cases e; rfl
  | str x =>
    rw [r.str_eq]
    simp only [KJ] at e
    split at e
    · rename_i hl; cases e; exact ⟨hl, rfl⟩
    · cases e
  | tup ws =>
    obtain ⟨a, xs, rfl, h1, h2⟩ := rh.tupAt r
    cases e
    exact .inr (.inl ⟨xs, h1, by rw [h2.isEmpty]⟩)
  | lst ws =>
    obtain ⟨a, xs, rfl, h1, h2⟩ := rh.lstAt r
    cases e
    exact .inl ⟨xs, SqL.of h1, by rw [h2.isEmpty]⟩
  | frz ws =>
    obtain ⟨a, xs, rfl, h1, h2⟩ := rh.frzAt r
    cases e
    exact .inl ⟨xs, h1, by rw [h2.isEmpty]⟩
  | ref n =>
    simp only [KJ] at e
    split at e
    · rename_i ws hn
      cases e
      obtain ⟨_, rfl, xs, h1, h2⟩ := rh.refAt r hn
      exact .inl ⟨xs, SqL.of h1, by rw [h2.isEmpty]⟩
    · rename_i kvs hn
      cases e
      unfold Rw at r
      obtain ⟨kx, h1, h2⟩ := rh.obj n _ hn
      rw [r.2]
      refine .inr (.inr ⟨kx, h1, ?_⟩)
      have := Paired.length h2
      cases kvs <;> cases kx <;> simp at this ⊢
    · cases e
  | ty _ => cases e
theorem Vp (ha : PM X a ma) (he : ∀ whole, isTrue a X.env whole = (do let v ← whole; standAt a.pos; holding [v] (truthy v)) := by intro _; rfl) : PMT X a (YD ma) :=
  J4 (VW ha he) fun σ H Q z0 => by
    obtain ⟨R, σi, h, w, h', rh, st, e, k⟩ := z0
    obtain ⟨⟨a, h1⟩, ea, e2⟩ := Option.bind_eq_some_iff.mp e
    obtain ⟨b, eb, e3⟩ := Option.map_eq_some_iff.mp e2
    cases e3
    exact ⟨R, σi, h, a, _, rh, st, ea, fun R1 H1 x x1 rh1 rx => ⟨_, Ya rh1 rx eb, k R1 H1 x1 rh1⟩⟩
end
end Mi

namespace Mi
open PySem PySem.Spec PyProof.Rows L2

noncomputable def Xy : Expr → Bool
  | .ListComp .. => true
  | .SetComp .. => true
  | .DictComp .. => true
  | _ => false
theorem Xg (h : Xy e = false) : swapsWith e t l env = pure false := by
  cases e <;> first | rfl | cases h
noncomputable def JJ : SM := fun σ h => some (.nx σ h)
noncomputable def Vq (a b : SM) : SM := fun σ h => (a σ h).bind fun r => match r with | .nx σ' h' => b σ' h' | r => some r
noncomputable def Yk (m : ME) : SM := fun σ h => (m σ h).map fun p => .rt p.1 p.2
noncomputable def X7 (t : MT) (a b : SM) : SM := fun σ h => (t σ h).bind fun p => match p.1 with | true => a σ p.2 | false => b σ p.2
noncomputable def VE (i : Nat) (m : ME) : SM := fun σ h => (m σ h).map fun p => .nx (σ.set i (some p.1)) p.2
noncomputable def UP (i : Nat) (f : W → W → MH → Option (W × MH)) (m : ME) : SM := fun σ h => match σ[i]? with
  | some (some x) => (m σ h).bind fun p => (f x p.1 p.2).map fun q => .nx (σ.set i (some q.1)) q.2
  | _ => none
section
variable {X : Cx} {st : Stmt} {rest : List Stmt} {a b : SM} {e : Expr} {m : ME} {pos : Pos}
theorem Vx : Xc X [] JJ := JT QJ <| by
  rintro D σ H ⟨R, σi, h, r, rh, s, e, k⟩
  cases e
  exact k R H σ (Ext.refl _) rh s
theorem Yf {K : PySem.W.Frag} (q : tS K (Vq a b) D σ H) : WY (tS K a) (tS K b) D σ H := by
  obtain ⟨R, σi, h, r, rh, s, e, k⟩ := q
  obtain ⟨r1, e1, e2⟩ := Option.bind_eq_some_iff.mp e
  refine ⟨R, σi, h, r1, rh, s, e1, ?_⟩
  cases r1 with
  | nx σ1 h1 => exact fun R1 H1 σ' x1 rh1 s1 => ⟨R1, σ1, h1, r, rh1, s1, e2, Ends.ext k x1⟩
  | rt w h1 => cases e2; exact k
  | bk σ1 h1 => cases e2; exact k
  | ct σ1 h1 => cases e2; exact k
theorem QC (h1 : PMS X st a) (h2 : Xc X rest b) : Xc X (st :: rest) (Vq a b) := JT (Qn h1 h2) fun _ _ _ => Yf
theorem Zd (h1 : PMS X st a) : Xc X [st] a := Qt h1
theorem Z5 (he : PM X e m) : PMS X (.Return (some e) pos) (Yk m) := ZJ (Xt he) <| by
  rintro D σ H ⟨R, σi, h, r, rh, s, e, k⟩
  obtain ⟨⟨w, h1⟩, e1, e2⟩ := Option.map_eq_some_iff.mp e
  cases e2
  exact ⟨R, σi, h, w, h1, rh, s, e1, k⟩
theorem Xs (hc : PMT X c t) (ha : Xc X sa a) (hb : Xc X sb b) : PMS X (.If c sa sb pos) (X7 t a b) := ZJ (ZX hc ha hb) <| by
  rintro D σ H ⟨R, σi, h, r, rh, s, e, k⟩
  obtain ⟨⟨z, h1⟩, e1, e2⟩ := Option.bind_eq_some_iff.mp e
  refine ⟨R, σi, h, z, h1, rh, s, e1, fun R1 H1 x1 rh1 => ?_⟩
  cases z with
  | true => exact Y2 ⟨R1, σi, h1, r, rh1, s.mono x1, e2, Ends.ext k x1⟩
  | false => exact YX ⟨R1, σi, h1, r, rh1, s.mono x1, e2, Ends.ext k x1⟩
theorem Zc (hN : X.N.Nodup) (hi : X.N[i]? = some x) (hx : Loc X.env.scope x) (he : PM X e m) (hs : Xy e = false := by rfl) (hf : X.fn x = true ∨ X.env.scope.names.lookup x = some .local := by first | exact .inl rfl | exact .inr rfl | assumption) :
    PMS X (.Assign [.Name x pos'] e pos) (VE i m) := ZJ (Z3 hN hi hx he (Xg hs) hf) <| by
  rintro D σ H ⟨R, σi, h, r, rh, s, e, k⟩
  obtain ⟨⟨w, h1⟩, e1, e2⟩ := Option.map_eq_some_iff.mp e
  cases e2
  exact ⟨R, σi, h, w, h1, rh, s, e1, fun R1 H1 v x1 rh1 rv => k R1 H1 _ x1 rh1 ((s.mono x1).set rv)⟩
end

noncomputable def Y8 (r : Option MF) : Option (W × MH) := match r with | some (.rt w h) => some (w, h) | some (.nx _ h) => some (.non, h) | _ => none
noncomputable def Xx (more : Nat) (m : SM) : FM := fun ws h => Y8 (m (ws.map some ++ List.replicate more none) h)
theorem Rst.start {K : PySem.W.Frag} (r : Rws K R ws vs) (k : Nat) (hk : N.length = ws.length + k) : Rst K R (ws.map some ++ List.replicate k none) (start N vs) := by
  have hl := r.length
  unfold L2.start
  refine ⟨by simp [hk, hl], fun i w e => ?_⟩
  by_cases hi : i < ws.length
  · rw [List.getElem?_append_left (by simpa using hi)] at e
    rw [List.getElem?_append_left (by simpa [← hl] using hi)]
    rw [List.getElem?_map] at e ⊢
    obtain ⟨w', hw', e'⟩ := Option.map_eq_some_iff.mp e
    cases e'
    obtain ⟨v, h1, h2⟩ := r.get hw'
    exact ⟨v, by rw [h1]; rfl, h2⟩
  · rw [List.getElem?_append_right (by simpa using hi)] at e
    rw [List.getElem?_replicate] at e
    split at e <;> cases e
section
variable {P : Program} {w : World} {K : PySem.W.Frag} {mg : Str → Option Value} {base : Heap}
theorem Wv {st : Stmt} {N ps : List Str} {m : SM} (F : Fun K x qual st f fd) (S : FnScope N ps (Qe st)) (hN : N.length = ps.length + more)
    (hbody : ∀ (cdv : Value) (A : Around) (outer : List Env) (s : Shared) (H : Hp) (E : XK), Room k (A.deeper (envOfC qual (Qe st) s.heap.objs.size f cdv)) → Xc (JC CX0 P w K mg base N qual (Qe st) f cdv A outer s H E).nox (Qo st) m) :
    FnOk P w K mg base CX0 (k + 1) f fd ps (spM K ps.length (Xx more m)) := by
  refine F.ok S (fun vs H Q E q => ?_) (fun cdv A outer s H vs Q E hr q => ?_)
  · obtain ⟨R, ws, h, w, h', hl, rh, rws, _⟩ := q
    rw [← rws.length]; exact hl
  · refine ⟨_, hbody cdv A outer s H E hr, ?_⟩
    obtain ⟨R, ws, h, w, h', hl, rh, rws, e, kk⟩ := q
    have st := Rst.start (N := N) rws more (by rw [hN, hl])
    unfold Xx Y8 at e
    split at e
    · rename_i w' h1 e1
      cases e
      exact ⟨R, _, h, _, rh, st, e1, kk⟩
    · rename_i σ1 h1 e1
      cases e
      exact ⟨R, _, h, _, rh, st, e1, fun R1 H1 σ' x1 rh1 _ => kk R1 H1 .non x1 rh1 Rw.non⟩
    · cases e
end
section
variable {X : Cx} {CX : CXT} {k : Nat} {f : Addr} {fd : FuncData} {ps : List Str} {g : FM} {E : XK} {x : Str} {p pos : Pos} {e : Expr} {es : List Expr} {ms : MA}
noncomputable def JB (n : Nat) (g : FM) (ms : MA) : ME := mFn (fun ws h => if ws.length = n then g ws h else none) ms
theorem Kp {K : PySem.W.Frag} (q : tI K (JB n g ms) σ H Q) : K0 (spM K n g) [] E (tIA K ms) σ H Q := by
  refine ZB (V9 q) fun vs H1 z1 => ?_
  obtain ⟨R, h, ws, w, h', rh, rws, e, k⟩ := z1
  dsimp only at e
  split at e
  · rename_i hl
    exact ⟨R, ws, h, w, h', hl, rh, by rw [List.append_nil]; exact rws, e, k⟩
  · cases e
theorem XR (F : FnOk X.prog X.w X.K X.mg X.base CX k f fd ps (spM X.K ps.length g)) (hr : Room k X.A) (hg : Gl X x) (hm : X.mg x = some (.ref f)) (hk : PySem.W.keepIn X.K (.ref f) = true) (hb : Binds X.K fd ps []) (hx : Jl CX X E)
    (ha : PMA X (e :: es) ms) (hdb : (x == ("__debug__" : Str)) = false := by decide) (he : Q3 e = false := by rfl) (hpl : noStar es = true := by rfl) :
    PM X (.Call (.Name x p) (e :: es) [] pos) (JB ps.length g ms) := QB (X1 F hr hg hm hk hb .nil hx ha hdb (QI he) (Zv hpl)) fun _ _ _ => Kp
end
section
variable {X : Cx} {x : Str} {p pos : Pos} {e : Expr} {es : List Expr} {ms : MA} {id T : String} {r : List V → Hp → VK → Prop} {f : List W → MH → Option (W × MH)}
theorem Jm (hc : CallR X (.builtin id) r) (hf : XY X.K r f) (hg : Gl X x) (hm : X.mg x = none) (hv : bootBuiltins x = some (.builtin id)) (ha : PMA X (e :: es) ms) (hn : x ≠ "__name__" := by decide) (hdb : (x == ("__debug__" : Str)) = false := by decide)
    (he : Q3 e = false := by rfl) (hpl : noStar es = true := by rfl) : PM X (.Call (.Name x p) (e :: es) [] pos) (mFn f ms) :=
  QB (Qs hc hg hm hv ha hn hdb (QI he) (Zv hpl)) fun _ _ _ q => ZB (V9 q) fun _ _ q1 => hf _ _ _ q1
theorem ZM (hc : CallR X (.type T) r) (hf : XY X.K r f) (hg : Gl X x) (hm : X.mg x = none) (hv : bootBuiltins x = some (.type T)) (ha : PMA X (e :: es) ms) (hn : x ≠ "__name__" := by decide) (hdb : (x == ("__debug__" : Str)) = false := by decide)
    (he : Q3 e = false := by rfl) (hpl : noStar es = true := by rfl) : PM X (.Call (.Name x p) (e :: es) [] pos) (mFn f ms) :=
  QB (Vt hc hg hm hv ha hn hdb (QI he) (Zv hpl)) fun _ _ _ q => ZB (V9 q) fun _ _ q1 => hf _ _ _ q1
end
inductive Src where
  | l (n : Nat)
  | d (n : Nat)
  | r (n : Nat)
  | v (n : Nat)
  | i (n : Nat)
  | z (n m a b : Nat)
noncomputable def Src.ok (items : List W) (h : MH) : Src → Prop
  | .l n => h[n]? = some (.lst items)
  | .d n => ∃ kvs, h[n]? = some (.dct kvs) ∧ kvs.map (·.1) = items
  | .r n => h[n]? = some (.lst items.reverse)
  | .v n => ∃ kvs, h[n]? = some (.dct kvs) ∧ kvs.map (·.2) = items
  | .i n => ∃ kvs, h[n]? = some (.dct kvs) ∧ kvs.map (fun p => .tup [p.1, p.2]) = items
  | .z n m a b => ∃ as bs, h[n]? = some (.lst as) ∧ h[m]? = some (.lst bs) ∧ (as.zip bs).map (fun q => .tup [q.1, q.2]) = items ∧ as.length = a ∧ bs.length = b
noncomputable def live (src : Option Src) (items : List W) (h : MH) : Prop := ∀ n, src = some n → n.ok items h
noncomputable abbrev MI := MSt → MH → Option (List W × Option Src × MH)
structure ItOk (K : PySem.W.Frag) (R : Rn) (J : It) (items : List W) (src : Option Src) : Prop where
  go : ∀ i w R' h H, Ext R R' → Rh K R' h H → live src items h → items[i]? = some w → J.go i H
  yld : ∀ i w R' h H x H', Ext R R' → Rh K R' h H → live src items h → items[i]? = some w → J.yld i H x H' → ∃ R'', Ext R' R'' ∧ Rh K R'' h H' ∧ Rw K R'' w x
  stop : ∀ i R' h H, Ext R R' → Rh K R' h H → live src items h → items.length ≤ i → J.stop i H
noncomputable def tII (K : PySem.W.Frag) (m : MI) : TI := fun σ H C => ∃ R σi h items src h', Rh K R h H ∧ Rst K R σi σ ∧ m σi h = some (items, src, h') ∧ ∀ R' H' J, Ext R R' → Rh K R' h' H' → ItOk K R' J items src → C J H'
noncomputable def PMI (X : Cx) (tg iter : Expr) (m : MI) : Prop := PI X tg iter (tII X.K m)
theorem Yq (h : PI X tg iter t) (i : ∀ σ H C, t' σ H C → t σ H C) : PI X tg iter t' := fun pins s σ H C I q => h pins s σ H C I (i _ _ _ q)
noncomputable abbrev MG := W → MSt → MH → Option MSt
noncomputable def tIG (K : PySem.W.Frag) (b : MG) : TG := fun v σ H C => ∃ R σi h w σ1, Rh K R h H ∧ Rst K R σi σ ∧ Rw K R w v ∧ b w σi h = some σ1 ∧ ∀ R' H' σ', Ext R R' → Rh K R' h H' → Rst K R' σ1 σ' → C σ' H'
noncomputable def PMG (X : Cx) (tg : Expr) (b : MG) : Prop := PG X tg (tIG X.K b)
theorem YR (h : PG X tg t) (i : ∀ v σ H C, t' v σ H C → t v σ H C) : PG X tg t' := fun pins s σ H v u C I r q => h pins s σ H v u C I r (i _ _ _ _ q)
noncomputable def VD (i : Nat) : MG := fun w σ _ => some (σ.set i (some w))
theorem Ju (hN : X.N.Nodup) (hi : X.N[i]? = some x) (hx : Loc X.env.scope x) (hf : X.fn x = true ∨ X.env.scope.names.lookup x = some .local := by first | exact .inl rfl | exact .inr rfl | assumption) :
    PMG X (.Name x pos) (VD i) := YR (X6 hN hi hx hf) <| by
  rintro v σ H C ⟨R, σi, h, w, σ1, rh, st, rw, e, k⟩
  cases e
  exact k R H _ (Ext.refl _) rh (st.set rw)
open Classical in
noncomputable def Zf (items : List W) (src : Option Src) (b : MG) (body : SM) : List W → SM
  | [], σ, h => if live src items h then some (.nx σ h) else none
  | w :: r, σ, h => if live src items h then (b w σ h).bind fun σ1 => (body σ1 h).bind fun z => match z with
      | .nx σ2 h2 => Zf items src b body r σ2 h2
      | .ct σ2 h2 => Zf items src b body r σ2 h2
      | .bk σ2 h2 => some (.nx σ2 h2)
      | .rt v h2 => some (.rt v h2)
    else none
noncomputable def KL (mi : MI) (b : MG) (body : SM) : SM := fun σ h => (mi σ h).bind fun p => Zf p.1 p.2.1 b body p.1 σ p.2.2
section
variable {X : Cx} {tg iter : Expr} {body : List Stmt} {mi : MI} {b : MG} {m : SM} {pos : Pos}
theorem YG {K : PySem.W.Frag} (q : tS K (KL mi b m) D σ H) : W3 (tII K mi) (tIG K b) (tS K m) D σ H := by
  obtain ⟨R, σi, h, r, rh, s, e, k⟩ := q
  obtain ⟨⟨items, src, h1⟩, e1, e2⟩ := Option.bind_eq_some_iff.mp e
  refine ⟨R, σi, h, items, src, h1, rh, s, e1, fun R1 H1 J x1 rh1 it => ?_⟩
  refine ⟨fun i n σ H => i + n = items.length ∧ ∃ R2 σ2 h2, Ext R1 R2 ∧ Rh K R2 h2 H ∧ Rst K R2 σ2 σ ∧ ∃ r, Zf items src b m (items.drop i) σ2 h2 = some r ∧ Ends K R2 D r, ⟨items.length, by simp, R1, σi, h1, Ext.refl _, rh1, s.mono x1, r, by simpa using e2, Ends.ext k x1⟩, ?_⟩
  rintro i n σ2' H2 ⟨hin, R2, σ2, h2, x2, rh2, s2, r2, e3, k2⟩
  by_cases hi : i < items.length
  · obtain ⟨w, hw⟩ : ∃ w, items[i]? = some w := ⟨items[i], List.getElem?_eq_getElem hi⟩
    have hd : items.drop i = w :: items.drop (i + 1) := by
      rw [List.drop_eq_getElem_cons hi]
      rw [List.getElem?_eq_getElem hi] at hw
      cases hw; rfl
    rw [hd] at e3
    unfold Zf at e3
    split at e3
    · rename_i hl
      obtain ⟨σ3, e4, e5⟩ := Option.bind_eq_some_iff.mp e3
      obtain ⟨z, e6, e7⟩ := Option.bind_eq_some_iff.mp e5
      refine .inr ⟨it.go i w R2 h2 H2 x2 rh2 hl hw, fun σ' H' => ∃ R3 σ4 h4, Ext R1 R3 ∧ Rh K R3 h4 H' ∧ Rst K R3 σ4 σ' ∧ ∃ r, Zf items src b m (items.drop (i + 1)) σ4 h4 = some r ∧ Ends K R3 D r, fun σ' H' hn => ⟨n - 1, by omega, by omega, hn⟩, fun x H' hy => ?_⟩
      obtain ⟨R3, x3, rh3, rw3⟩ := it.yld i w R2 h2 H2 x H' x2 rh2 hl hw hy
      refine ⟨R3, σ2, h2, w, σ3, rh3, s2.mono x3, rw3, e4, fun R4 H4 σ4' x4 rh4 s4 => ?_⟩
      refine ⟨R4, σ3, h2, z, rh4, s4, e6, ?_⟩
      cases z with
      | nx σ5 h5 => exact fun R5 H5 σ5' x5 rh5 s5 => ⟨R5, σ5, h5, x2.trans (x3.trans (x4.trans x5)), rh5, s5, r2, e7, Ends.ext k2 (x3.trans (x4.trans x5))⟩
      | ct σ5 h5 => exact fun R5 H5 σ5' x5 rh5 s5 => ⟨R5, σ5, h5, x2.trans (x3.trans (x4.trans x5)), rh5, s5, r2, e7, Ends.ext k2 (x3.trans (x4.trans x5))⟩
      | bk σ5 h5 => cases e7; exact fun R5 H5 σ5' x5 rh5 s5 => k2 R5 H5 σ5' (x3.trans (x4.trans x5)) rh5 s5
      | rt v h5 => cases e7; exact After.ext k2 (x3.trans x4)
    · cases e3
  · have hd : items.drop i = [] := List.drop_eq_nil_of_le (Nat.not_lt.mp hi)
    rw [hd] at e3
    unfold Zf at e3
    split at e3
    · rename_i hl
      cases e3
      exact .inl ⟨it.stop i R2 h2 H2 x2 rh2 hl (Nat.not_lt.mp hi), k2 R2 H2 σ2' (Ext.refl _) rh2 s2⟩
    · cases e3
theorem Kh (hp : PassesOwn (model X.prog X.w) X.A X.env X.xe) (hc : X.calm = true) (hi : PMI X tg iter mi) (hg : PMG X tg b) (hb : Xc X body m)
    (hs : ∀ x, foldedSetIterable iter X.env x = pure x := by intro _; rfl) : PMS X (.For tg iter body [] pos) (KL mi b m) := ZJ (Yj hp hc hi hg hb hs) fun _ _ _ => YG
end
section
variable {X : Cx} {c : Expr} {body : List Stmt} {t : MT} {m : SM} {pos : Pos}
end
end Mi

namespace Mi
open PySem PySem.Spec PyProof.Rows L2

section
variable {prog : Program} {w : World} {A : Around} {E : Value → Shared → Prop} {R : Result → Shared → Prop} {s : Shared}
theorem Ja (I : Nat → Shared → Prop)
    (turn : ∀ n s, I n s → wpAny (model prog w) A (pyNext it) (fun r s₁ => match r with
      | none => R (.ok .next) s₁
      | some v => wpAny (model prog w) A (letOwnedTupleGo target it v) (fun _ s₁' => wpAny (model prog w) A (assign target env v) (fun _ s₂ =>
          wpAny (model prog w) A (forIn ifs true fun c r => if r = true then do let ok ← isTrue c env (eval c env); pure (ForInStep.yield ok) else pure (ForInStep.yield r)) (fun ok s₃ =>
            if ok = true then wpAny (model prog w) A (eval elt env) (fun x s₄ =>
              wpAny (model prog w) A (call (.builtin "list.append") [acc, x]) (fun _ s₅ => ∃ m, m < n ∧ I m s₅) (fun _ _ => False) s₄) (fun _ _ => False) s₃
            else ∃ m, m < n ∧ I m s₃) (fun _ _ => False) s₂) (fun _ _ => False) s₁') (fun _ _ => False) s₁) (fun _ _ => False) s)
    (n : Nat) (h : I n s) :
    codeAny (model prog w) A (.compLoop (.ListComp elt [⟨target, iter, ifs, 0⟩] scope pos) 0 it acc env) R s := by
  refine codeAny_loop rfl I (fun n s hI => ?_) n h
  show wpAny _ A ((compTurn (.ListComp elt [⟨target, iter, ifs, 0⟩] scope pos) 0 it acc env).onRaise (fun x => do noteFrame x env; theTreesLotGoes x)) _ _ s
  refine wpAny_noted ?_
  rw [compTurn_list]
  refine wpAny_bind (wpAny_standAt (wpAny_bind (wpAny_mono (turn n s hI) (fun r s₁ h₁ => ?_) fun _ _ h' => h'.elim)))
  cases r with
  | none => exact wpAny_pure h₁
  | some v =>
    refine wpAny_bind (wpAny_mono h₁ (fun _ s₁' h₁' => ?_) fun _ _ h' => h'.elim)
    refine wpAny_bind (wpAny_mono h₁' (fun _ s₂ h₂ => wpAny_bind (wpAny_mono h₂ (fun ok s₃ h₃ => ?_) fun _ _ h' => h'.elim)) fun _ _ h' => h'.elim)
    cases ok with
    | false => exact wpAny_pure ⟨rfl, h₃⟩
    | true =>
      exact wpAny_bind (wpAny_bind (wpAny_mono h₃ (fun x s₄ h₄ => wpAny_bind (wpAny_mono h₄ (fun _ s₅ h₅ => wpAny_pure (wpAny_pure ⟨rfl, h₅⟩)) fun _ _ h' => h'.elim)) fun _ _ h' => h'.elim))
end

theorem sz {h : Heap} (e : h.get? b = some o) (hn : h.objs.size ≤ n) : ¬ b = n := fun z => by
  have h1 : @LT.lt Nat instLTNat b h.objs.size := Heap.lt_size e
  subst z
  exact Nat.lt_irrefl _ (Nat.lt_of_lt_of_le h1 hn)
noncomputable abbrev blk (X : Cx) (scope : Scope) (cl : List (Str × Addr)) (Nb : List Str) (s₀ : Shared) (H₀ : Hp) (C : Addr) (ex : List Addr) (pn : List (Addr × Obj)) : Cx :=
  { X with N := Nb, s₀ := s₀, H₀ := H₀, env := compEnvC scope cl C X.env, outer := X.stack, stack := X.stack, ex := ex, fn := fun _ => false, pn := pn, xe := fun _ _ => False }

structure BlkOk (X : Cx) (scope : Scope) (cl : List (Str × Addr)) (Nb : List Str) (cp : List (Option Nat)) : Prop where
  clos : closureFor scope X.env = pure cl
  cell : ∀ y ∈ scope.names, y.2 ≠ .cell
  kind : scope.kind = .function
  names : ∀ y ∈ scope.names, y.2 = .local → scope.names.lookup y.1 = some .local
  sub : ∀ x c, cl.lookup x = some c → X.env.cells.lookup x = some c
  has : ∀ x, ((relabel scope X.env).names.lookup x = some .cell ∨ (relabel scope X.env).names.lookup x = some .free) → ∃ c, cl.lookup x = some c
  len : cp.length = Nb.length
  cap : ∀ (i j : Nat) (x : Str), cp[i]? = some (some j) → Nb[i]? = some x → X.N[j]? = some x ∧ Vis X.env.scope x ∧ (X.env.kindOf x = some .cell ∨ X.env.kindOf x = some .free) ∧ ((relabel scope X.env).names.lookup x = some .cell ∨ (relabel scope X.env).names.lookup x = some .free)

noncomputable def ZR (cp : List (Option Nat)) (σ : L2.St) : L2.St := cp.map fun o => match o with | none => none | some j => match σ[j]? with | some v => v | none => none

noncomputable def XQ (wi : TI) (cp : List (Option Nat)) (g : TG) (tt : TT) (te : TE) : TE := fun σ H Q => wi σ H fun J H1 => ∃ W : Nat → Nat → List V → L2.St → Hp → Prop, (∃ m, W 0 m [] (ZR cp σ) H1) ∧ ∀ i m acc τ H, W i m acc τ H →
  (J.stop i H ∧ ∀ D, H D = none → Q (.ref D) (upd H D (.lst acc))) ∨
  (J.go i H ∧ ∀ x H', J.yld i H x H' → g x τ H' fun τ2 H2 => tt τ2 H2 fun b H3 => if b = true then te τ2 H3 fun v H4 => acc.length < sizeLine ∧ ∃ m', m' < m ∧ W (i + 1) m' (acc ++ [v]) τ2 H4 else ∃ m', m' < m ∧ W (i + 1) m' acc τ2 H3)

theorem Inv.track (I : Inv X pins σ H s) (hn : H D = none) (h0 : X.s₀.heap.objs.size ≤ D) (hL : X.env.locals ≠ D) (hc : ∀ x c, X.env.cells.lookup x = some c → c ≠ D)
    (hp : ∀ p ∈ X.pn ++ pins, p.1 ≠ D) (ob : ObjOk X.prog X.w (upd H D o) s.heap D o) : Inv X pins σ (upd H D o) s where
  ok := I.ok
  os := I.os
  bare := I.bare
  base := {
    keep := I.base.keep
    slot := I.base.slot
    free := fun b q e n nx => by
      have : b ≠ D := sz e h0
      rw [Qa this]; exact I.base.free b q e n nx
    there := I.base.there
    tups := fun b xs e => by
      have q := I.base.tups b xs e
      rw [Qa (fun z => by rw [z, hn] at q; cases q)]; exact q
    frzs := fun b q u e => by
      have z := I.base.frzs b q u e
      rw [Qa (fun y => by rw [y, hn] at z; cases z)]; exact z
    tbls := fun b ps e => by
      obtain ⟨more, q⟩ := I.base.tbls b ps e
      exact ⟨more, by rw [Qa (fun z => by rw [z, hn] at q; cases q)]; exact q⟩ }
  loc := I.loc
  cell := I.cell
  free := by rw [Qa hL]; exact I.free
  freeC := fun x c e => by rw [Qa (hc x c e)]; exact I.freeC x c e
  pin := fun p hp' => by
    obtain ⟨a, b, c⟩ := I.pin p hp'
    exact ⟨a, by rw [Qa (hp p hp')]; exact b, c⟩
  hok := fun a u e => by
    by_cases z : a = D
    · subst z
      rw [Qd] at e; cases e
      exact ob
    · rw [Qa z] at e
      refine (I.hok a u e).stay (fun _ _ _ q => q) (fun b q => ?_) (fun b xs q => ?_)
      · rw [Qa (fun y => by rw [y, hn] at q; cases q)]; exact q
      · rw [Qa (fun y => by rw [y, hn] at q; cases q)]; exact q
  len := I.len

section
variable {X : Cx} {elt tg iter : Expr} {ifs : List Expr} {scope : Scope} {pos : Pos} {cl : List (Str × Addr)} {Nb : List Str} {cp : List (Option Nat)} {wi : TI} {g : TG} {tt : TT} {te : TE}

theorem Cx.Ok.blk (B : BlkOk X scope cl Nb cp) (I : Inv X pins σ H s) (hf : ∀ b ∈ fp, VF X pins H b) (hfs : ∀ b ∈ fp, b < s.heap.objs.size) (hC : s.heap.objs.size ≤ C) :
    (blk X scope cl Nb s H C fp pn).Ok where
  mod := I.ok.mod
  kind := B.kind
  glob := I.ok.glob
  blt := I.ok.blt
  above := hC
  inj := fun x y c h1 h2 => I.ok.inj x y c (B.sub x c h1) (B.sub y c h2)
  has := fun x h => B.has x h
  cab := fun x c h => absurd h (by simp)
  hd := I.ok.hd
  frames := I.ok.frames
  stk := .inl rfl
  exf := fun b hb => ⟨fun z => by have := hfs b hb; rw [z] at this; exact absurd hC (Nat.not_le.mpr this), fun x c e => (hf b hb).2.2.2.2.1 x c (B.sub x c e)⟩
  bs := I.bs
  bsz := Nat.le_trans I.ok.bsz I.sz
  noex := fun b o e hb => by
    rcases (hf b hb).2.2.2.1 with z | z
    · exact I.ok.noex b o e z
    · exact sz e (Nat.le_trans I.ok.bsz z) rfl
  exfs := fun b hb z => by
    have := I.stkSub b z
    rcases List.mem_cons.mp this with q | q
    · exact (hf b hb).2.1 q
    · exact (hf b hb).2.2.1 q
  funs := I.stack
  frf := fun b hb => I.stkFree b hb

theorem Vi {cp : List (Option Nat)} {σ : L2.St} {i : Nat} {v : V} (e : (ZR cp σ)[i]? = some (some v)) : ∃ j, cp[i]? = some (some j) ∧ σ[j]? = some (some v) := by
  unfold ZR at e
  rw [List.getElem?_map] at e
  obtain ⟨o, h1, h2⟩ := Option.map_eq_some_iff.mp e
  cases o with
  | none => cases h2
  | some j =>
    refine ⟨j, h1, ?_⟩
    simp only at h2
    split at h2
    · rename_i u hu; rw [hu, h2]
    · cases h2

theorem Inv.blk {H : Hp} {C : Addr} {fp : List Addr} {tk : Nat} (B : BlkOk X scope cl Nb cp) (I : Inv X pins σ H s) (hf : ∀ b ∈ fp, VF X pins H b) (hfs : ∀ b ∈ fp, b < s.heap.objs.size)
    (hC : s.heap.objs.size ≤ C) (hns : h'.Ns C m) (hk : ∀ b o, s.heap.get? b = some o → h'.get? b = some o) : Inv (Mi.blk X scope cl Nb s H C fp (X.pn ++ pins)) [] (ZR cp σ) H { s with heap := h', toks := tk } where
  ok := Cx.Ok.blk B I hf hfs hC
  os := rfl
  bare := I.bare
  base := Un.kept hk
  loc := by
    refine ⟨m, hns, fun i x v hN e hv => ?_⟩
    obtain ⟨j, h1, h2⟩ := Vi e
    obtain ⟨hX, hvis, hkd, hkb⟩ := B.cap i j x h1 hN
    obtain ⟨m0, n0, lk⟩ := I.loc
    obtain ⟨u, r, l⟩ := lk j x v hX h2 hvis
    refine ⟨u, r, ?_⟩
    rcases l with ⟨h, _⟩ | ⟨_, c, hc, hcell⟩
    · rcases hkd with z | z <;> rw [z] at h <;> cases h
    · refine .inr ⟨hkb, ?_⟩
      obtain ⟨c', hc'⟩ := B.has x hkb
      have := B.sub x c' hc'
      rw [hc] at this; cases this
      exact ⟨c, hc', by
        obtain ⟨o, h3, h4⟩ := hcell
        exact ⟨o, hk _ _ h3, h4⟩⟩
  cell := fun x c e => by
    obtain ⟨v, o, h3, h4⟩ := I.cell x c (B.sub x c e)
    exact ⟨v, o, hk _ _ h3, h4⟩
  free := I.hok.fresh hC
  freeC := fun x c e => I.freeC x c (B.sub x c e)
  pin := fun p hp => by
    rw [List.append_nil] at hp
    obtain ⟨a, b, c, d, e⟩ := I.pin p hp
    refine ⟨hk _ _ a, b, fun z => ?_, fun z => ?_, e⟩
    · have := Heap.lt_size a; rw [z] at this; exact absurd hC (Nat.not_le.mpr this)
    · rcases List.mem_cons.mp (I.stkSub _ z) with q | q
      · exact c q
      · exact d q
  hok := I.hok.kept hk
  len := by unfold ZR; rw [List.length_map]; exact B.len

noncomputable def Y3 (X : Cx) (pins : List (Addr × Obj)) (σ : L2.St) (use : Option (Value → Sem Unit)) (Q : VK) (Q' : Value → Shared → Prop) : Prop :=
  ∀ (D C : Addr) (H' : Hp) (s' : Shared) (m : Str → Option Value), Inv X pins σ H' s' → s'.heap.Ns C m → H' C = none → ¬ C = X.env.locals → X.s₀.heap.objs.size ≤ C → (∀ x c, X.env.cells.lookup x = some c → c ≠ C) → (∀ p ∈ X.pn ++ pins, p.1 ≠ C) → Q (.ref D) H' →
    compPost (model X.prog X.w) X.A X.xe use Q' (.ref D) C (.ok .next) s'
theorem V4 (hc : X.calm = true) (B : BlkOk X scope cl Nb cp) (hi : PI X tg iter wi) (hg : ∀ s₀ H₀ C ex pn, PG (Mi.blk X scope cl Nb s₀ H₀ C ex pn) tg g)
    (ht : ∀ s₀ H₀ C ex pn, ∀ (pins : List (Addr × Obj)) (s : Shared) (τ : L2.St) (H : Hp) (Q : Bool → Hp → Prop), Inv (Mi.blk X scope cl Nb s₀ H₀ C ex pn) pins τ H s → tt τ H Q →
      wpAny (model X.prog X.w) X.A (forIn ifs true fun c r => if r = true then do let ok ← isTrue c (compEnvC scope cl C X.env) (eval c (compEnvC scope cl C X.env)); pure (ForInStep.yield ok) else pure (ForInStep.yield r)) (TP (Mi.blk X scope cl Nb s₀ H₀ C ex pn) pins τ Q) (fun _ _ => False) s)
    (he : ∀ s₀ H₀ C ex pn, PE (Mi.blk X scope cl Nb s₀ H₀ C ex pn) elt te) (hs : ∀ x, foldedSetIterable iter X.env x = pure x)
    (I : Inv X pins σ H s) (h : XQ wi cp g tt te σ H Q) (hfin : Y3 X pins σ use Q Q') :
    wpAny (model X.prog X.w) X.A (comprehension (.ListComp elt [⟨tg, iter, ifs, 0⟩] scope pos) scope X.env newp (newList []) false (eval iter X.env) use) Q' X.xe s := by
  refine wpAny_comprehension_free (use := use) rfl hs B.clos B.kind B.names (wpAny_mono (hi pins s σ H _ I h) (fun xv s₁ h₁ => wpAny_mono h₁ (fun itv s₂ h₂ => ?_) fun _ _ e => e) fun _ _ e => e)
  obtain ⟨it, fp, tn, J, H2, rfl, I2, T, st2, f2, W, ⟨m0, w0⟩, turn⟩ := h₂
  have hfs : ∀ b ∈ fp, b < s₂.heap.objs.size := fun b hb => by
    obtain ⟨o, e, _⟩ := T.obj _ _ st2 b hb
    exact Heap.lt_size e
  refine wpAny_newObj_type (wpAny_newFunctionEnv B.cell (by intro y hy; simp at hy) (fun h₁ hns₁ hsb₁ => ?_) B.kind)
  dsimp only at hns₁ hsb₁ ⊢
  generalize hH2 : s₂.heap.push { cls := .type "list", dict := none, data := .seq ([] : List Value).toArray } = G2 at hns₁ hsb₁ ⊢
  have hCz : G2.objs.size = s₂.heap.objs.size + 1 := by rw [← hH2, Heap.size_push]
  generalize hCC : G2.objs.size = C at hns₁ hsb₁ ⊢
  rw [hCC] at hCz
  have hCle : s₂.heap.objs.size ≤ C := by exact Nat.le_trans (Nat.le_add_right _ _) (Nat.le_of_eq hCz.symm)
  have hDC : s₂.heap.objs.size ≠ C := by exact Nat.ne_of_lt (Nat.lt_of_lt_of_le (Nat.lt_succ_self _) (Nat.le_of_eq hCz.symm))
  have old : ∀ b o, s₂.heap.get? b = some o → h₁.get? b = some o := fun b o e => hsb₁.extBut b o (sz e hCle) (Heap.get?_push_of_some _ (hH2 ▸ Heap.get?_push_of_some _ e))
  have hacc : h₁.get? s₂.heap.objs.size = some { cls := .type "list", data := .seq ([] : List Value).toArray } := hsb₁.extBut _ _ hDC (Heap.get?_push_of_some _ (hH2 ▸ Heap.get?_push_size _ rfl))
  generalize hD : s₂.heap.objs.size = D at hacc hDC hCle hCz ⊢
  have hDle : s₂.heap.objs.size ≤ D := Nat.le_of_eq hD
  have hCle2 : s₂.heap.objs.size ≤ C := Nat.le_trans hDle hCle
  -- the block's context
  have I3 := Inv.blk (tk := s₂.toks + ([] : List (Str × Value)).length) B I2 f2 hfs (C := C) (Nat.le_trans (Nat.le_of_eq hD) hCle) hns₁ old
  have hDfp : D ∉ fp := fun z => Nat.lt_irrefl _ (Nat.lt_of_lt_of_le (hfs D z) hDle)
  have hCfp : C ∉ fp := fun z => Nat.lt_irrefl _ (Nat.lt_of_lt_of_le (hfs C z) hCle2)
  -- D in the block: not a frame's, not a cell's, not pinned
  have dcell : ∀ x c, cl.lookup x = some c → c ≠ D := fun x c e z => by
    obtain ⟨v, o, h3, _⟩ := I2.cell x c (B.sub x c e)
    exact sz h3 hDle z
  have dpin : ∀ p ∈ X.pn ++ pins, p.1 ≠ D := fun p hp z => sz (I2.pin p hp).1 hDle z
  have cpin : ∀ p ∈ X.pn ++ pins, p.1 ≠ C := fun p hp z => sz (I2.pin p hp).1 hCle2 z
  have dfs : D ∉ frs X.stack := fun z => by
    rcases List.mem_cons.mp (I2.stkSub _ z) with q | q
    · exact Nat.lt_irrefl _ (Nat.lt_of_lt_of_le (q ▸ I2.lt : D < s₂.heap.objs.size) hDle)
    · exact I2.nofs hDle q
  have fpst : ∀ {H' : Hp} {pl : List (Addr × Obj)}, (∀ b ∈ fp, H' b = none) → (∀ p ∈ pl, p.1 = D) → ∀ b ∈ fp, VF (Mi.blk X scope cl Nb s₂ H2 C fp (X.pn ++ pins)) pl H' b := fun {H' pl} hn hpl b hb =>
    ⟨hn b hb, fun (z : b = C) => hCfp (z ▸ hb), fun z => by
      rcases List.mem_cons.mp (I2.stkSub _ z) with q | q
      · exact (f2 b hb).2.1 q
      · exact (f2 b hb).2.2.1 q, .inl hb, fun x c e => (f2 b hb).2.2.2.2.1 x c (B.sub x c e), fun p hp z => by
      rcases List.mem_append.mp hp with q | q
      · exact (f2 b hb).2.2.2.2.2 p q z
      · rw [hpl p q] at z; exact hDfp (z ▸ hb)⟩
  have fp0 : ∀ {H' : Hp}, (∀ b ∈ fp, H' b = none) → ∀ b ∈ fp, VF X pins H' b := fun hn b hb => ⟨hn b hb, (f2 b hb).2⟩
  -- the end
  have fin : ∀ {τ : L2.St} {H' : Hp} {s' : Shared} {acc : List V} {its : List Value} {n : Nat} {mC : Str → Option Value}, Inv (Mi.blk X scope cl Nb s₂ H2 C fp (X.pn ++ pins)) [] τ H' s' → H' D = none → s'.heap.get? D = some { cls := .type "list", data := .seq its.toArray n } → Vals acc its → acc.length ≤ sizeLine → s'.heap.Ns C mC →
      (∀ D, H' D = none → Q (.ref D) (upd H' D (.lst acc))) → compPost (model X.prog X.w) X.A X.xe use Q' (.ref D) C (.ok .next) s' := by
    intro τ H' s' acc its n mC Ib hDH hDo r hz hns q
    have Ie : Inv X pins σ H' s' := I2.call' (ch := fp) (Ib.os) Ib.base Ib.hok Ib.bare fun b hb => ⟨(f2 b hb).2.2.2.1, (f2 b hb).2.1, (f2 b hb).2.2.2.2.1, (f2 b hb).2.2.2.2.2⟩
    have hsz : X.s₀.heap.objs.size ≤ s₂.heap.objs.size := I2.sz
    have It : Inv X pins σ (upd H' D (.lst acc)) s' := Inv.track Ie hDH (Nat.le_trans hsz hDle) (fun z => Nat.lt_irrefl _ (Nat.lt_of_lt_of_le (z ▸ I2.lt : D < s₂.heap.objs.size) hDle)) (fun x c e z => by
      obtain ⟨v, o, h3, _⟩ := I2.cell x c e
      exact sz h3 hDle z) dpin ⟨hz, its, n, r, hDo⟩
    exact hfin D C _ s' mC It hns (by rw [Qa (Ne.symm hDC)]; exact Ib.free) (fun z => Nat.lt_irrefl _ (Nat.lt_of_lt_of_le (z ▸ I2.lt : C < s₂.heap.objs.size) hCle2)) (Nat.le_trans hsz hCle2) (fun x c e z => by
      obtain ⟨v, o, h3, _⟩ := I2.cell x c e
      exact sz h3 hCle2 z) cpin (q D hDH)
  have loop : ∀ s₃ : Shared, s₃ = { s₂ with heap := h₁, toks := s₂.toks + ([] : List (Str × Value)).length } →
      codeAny (model X.prog X.w) X.A (.compLoop (.ListComp elt [⟨tg, iter, ifs, 0⟩] scope pos) 0 (.ref it) (.ref D) (compEnvC scope cl C X.env))
        (compPost (model X.prog X.w) X.A X.xe use Q' (.ref D) C) s₃ := by
    rintro s₃ rfl
    refine Ja (fun n s' => ∃ i τ H' acc its k, Inv (Mi.blk X scope cl Nb s₂ H2 C fp (X.pn ++ pins)) [] τ H' s' ∧ tn i s'.heap ∧ (∀ b ∈ fp, H' b = none) ∧ H' D = none ∧ s'.heap.get? D = some { cls := .type "list", data := .seq (its : List Value).toArray k } ∧ Vals acc its ∧ acc.length ≤ sizeLine ∧ W i n acc τ H') ?_ m0
      ⟨0, ZR cp σ, H2, [], [], _, I3, T.keep _ _ _ st2 (fun b hb o e => old b o e), fun b hb => (f2 b hb).1, I2.hok.fresh hDle, hacc, .nil, Nat.zero_le _, w0⟩
    rintro n s3 ⟨i, τ, H3, acc, its, k, Ib, st3, fr3, hDH, hDo, r3, hz3, w3⟩
    have pinD : ∀ {τ' : L2.St} {H' : Hp} {s' : Shared}, Inv (Mi.blk X scope cl Nb s₂ H2 C fp (X.pn ++ pins)) [] τ' H' s' → H' D = none → s'.heap.get? D = some { cls := .type "list", data := .seq its.toArray k } →
        Inv (Mi.blk X scope cl Nb s₂ H2 C fp (X.pn ++ pins)) [(D, { cls := .type "list", data := .seq its.toArray k })] τ' H' s' := fun {τ' H' s'} I' hn ho => I'.pins_of fun p hp => by
      rw [List.mem_singleton] at hp; subst hp
      exact ⟨ho, hn, hDC, dfs, by intro v; simp⟩
    have IbD := pinD Ib hDH hDo
    have onlyD : ∀ p ∈ [(D, ({ cls := .type "list", data := .seq its.toArray k } : Obj))], p.1 = D := fun p hp => by rw [List.mem_singleton] at hp; subst hp; rfl
    have ofD : ∀ {τ' : L2.St} {H' : Hp} {s' : Shared}, Inv (Mi.blk X scope cl Nb s₂ H2 C fp (X.pn ++ pins)) [(D, { cls := .type "list", data := .seq its.toArray k })] τ' H' s' → s'.heap.get? D = some { cls := .type "list", data := .seq its.toArray k } ∧ H' D = none := fun I' => by
      obtain ⟨a, b, _⟩ := I'.pin (D, _) (List.mem_append_right _ (List.mem_singleton.mpr rfl))
      exact ⟨a, b⟩
    rcases turn i n acc τ H3 w3 with ⟨stop, qn⟩ | ⟨go, step⟩
    · refine wpAny_mono (T.done (Mi.blk X scope cl Nb s₂ H2 C fp (X.pn ++ pins)) rfl rfl rfl hc i _ s3 τ H3 (fun _ _ => False) IbD (fpst fr3 onlyD) st3 stop) (fun r s4 ⟨hr, I4⟩ => ?_) fun _ _ z => z.elim
      subst hr
      obtain ⟨o4, n4⟩ := ofD I4
      obtain ⟨m4, ns4, _⟩ := I4.loc
      have I4' : Inv (Mi.blk X scope cl Nb s₂ H2 C fp (X.pn ++ pins)) [] τ H3 s4 := I4.pins_of fun p hp => by cases hp
      exact fin I4' n4 o4 r3 hz3 ns4 qn
    · refine wpAny_mono (T.item (Mi.blk X scope cl Nb s₂ H2 C fp (X.pn ++ pins)) rfl rfl rfl hc i _ s3 τ H3 (fun _ _ => False) IbD (fpst fr3 onlyD) st3 go) (fun r s4 ⟨u, hr, h4⟩ => ?_) fun _ _ z => z.elim
      subst hr
      refine wpAny_mono h4 (fun _ s5 z1 => ?_) fun _ _ z => z.elim
      obtain ⟨x, H5, I5, r5, y5, st5, fr5⟩ := z1
      have I5' := I5.pinned (fpst fr5 onlyD) (T.obj _ _ st5)
      refine wpAny_mono (hg s₂ H2 C fp (X.pn ++ pins) _ s5 τ H5 x u _ I5' r5 (step x H5 y5)) (fun _ s6 ⟨τ6, H6, I6, q6⟩ => ?_) fun _ _ z => z.elim
      refine wpAny_mono (ht s₂ H2 C fp (X.pn ++ pins) _ s6 τ6 H6 _ I6 q6) (fun ok s7 ⟨H7, I7, q7⟩ => ?_) fun _ _ z => z.elim
      have keepT : ∀ {τ' : L2.St} {H' : Hp} {s' : Shared}, Inv (Mi.blk X scope cl Nb s₂ H2 C fp (X.pn ++ pins)) ([(D, { cls := .type "list", data := .seq its.toArray k })] ++ ZV fp s5.heap) τ' H' s' → tn (i + 1) s'.heap ∧ (∀ b ∈ fp, H' b = none) ∧ s'.heap.get? D = some { cls := .type "list", data := .seq its.toArray k } ∧ H' D = none := fun {τ' H' s'} I' => by
        refine ⟨T.keep _ _ _ st5 fun b hb o e => (I'.pin (b, o) (List.mem_append_right _ (List.mem_append_right _ (QN hb e)))).1, fun b hb => ?_, ?_⟩
        · obtain ⟨o, e, d⟩ := T.obj _ _ st5 b hb
          exact (I'.pin (b, o) (List.mem_append_right _ (List.mem_append_right _ (QN hb e)))).2.1
        · obtain ⟨a, b, _⟩ := I'.pin (D, { cls := .type "list", data := .seq its.toArray k }) (List.mem_append_right _ (List.mem_append_left _ (List.mem_singleton.mpr rfl)))
          exact ⟨a, b⟩
      cases ok with
      | false =>
        rw [if_neg Bool.false_ne_true] at q7 ⊢
        obtain ⟨m', hm, w7⟩ := q7
        obtain ⟨t7, f7, o7, n7⟩ := keepT I7
        exact ⟨m', hm, i + 1, τ6, H7, acc, its, k, I7.pins_of (fun p hp => by cases hp), t7, f7, n7, o7, r3, hz3, w7⟩
      | true =>
        rw [if_pos rfl] at q7 ⊢
        refine wpAny_mono (he s₂ H2 C fp (X.pn ++ pins) _ s7 τ6 H7 _ I7 q7) (fun y s8 z1 => ?_) fun _ _ z => z.elim
        obtain ⟨v8, H8, I8, r8, hlt, m', hm, w8⟩ := z1
        obtain ⟨t8, f8, o8, n8⟩ := keepT I8
        have hlen := r3.length
        refine call_meets F.slot_list_append ⟨_, o8, rfl⟩ F.entry_list_append (F.args_list_append_2 _ _) (PySem.list_append D its.toArray k y (by rw [List.size_toArray]; exact Nat.le_trans (Nat.le_of_eq hlen.symm) hz3)) ⟨o8, ?_⟩
        have q := PySem.IsL.update o8 (·.push y)
        have hf : its.toArray.push y = (its ++ [y]).toArray := by simp
        rw [hf] at q
        have I8' : Inv (Mi.blk X scope cl Nb s₂ H2 C fp (X.pn ++ pins)) [] τ6 H8 s8 := I8.pins_of fun p hp => by cases hp
        have I9 : Inv (Mi.blk X scope cl Nb s₂ H2 C fp (X.pn ++ pins)) [] τ6 H8 { s8 with heap := s8.heap.update D (Obj.mapSeq (·.push y)), toks := s8.toks } :=
          I8'.turned (it := D) (fun b o hb e => (Heap.get?_update_other s8.heap (Obj.mapSeq (·.push y)) (Ne.symm hb)).trans e) n8 hDC (.inr hDle) (fun x c e => dcell x c e) fun p hp => by
            rw [List.append_nil] at hp; exact dpin p hp
        refine ⟨m', hm, i + 1, τ6, H8, acc ++ [v8], its ++ [y], _, I9, T.keep _ _ _ t8 (fun b hb o e => (Heap.get?_update_other s8.heap (Obj.mapSeq (·.push y)) (fun (z : D = b) => hDfp (z ▸ hb))).trans e), f8, n8, q, r3.append (.cons r8 .nil), by rw [List.length_append, List.length_singleton]; exact hlt, w8⟩
  exact codeAny_compStart_list (loop _ rfl) (T.self _ 0 _ _ _ (T.keep _ _ _ st2 (fun b hb o e => old b o e)) (loop _ rfl))
theorem Kn (hc : X.calm = true) (B : BlkOk X scope cl Nb cp) (hi : PI X tg iter wi) (hg : ∀ s₀ H₀ C ex pn, PG (Mi.blk X scope cl Nb s₀ H₀ C ex pn) tg g)
    (ht : ∀ s₀ H₀ C ex pn, ∀ (pins : List (Addr × Obj)) (s : Shared) (τ : L2.St) (H : Hp) (Q : Bool → Hp → Prop), Inv (Mi.blk X scope cl Nb s₀ H₀ C ex pn) pins τ H s → tt τ H Q →
      wpAny (model X.prog X.w) X.A (forIn ifs true fun c r => if r = true then do let ok ← isTrue c (compEnvC scope cl C X.env) (eval c (compEnvC scope cl C X.env)); pure (ForInStep.yield ok) else pure (ForInStep.yield r)) (TP (Mi.blk X scope cl Nb s₀ H₀ C ex pn) pins τ Q) (fun _ _ => False) s)
    (he : ∀ s₀ H₀ C ex pn, PE (Mi.blk X scope cl Nb s₀ H₀ C ex pn) elt te) (hs : ∀ x, foldedSetIterable iter X.env x = pure x := by intro _; rfl) :
    PE X (.ListComp elt [⟨tg, iter, ifs, 0⟩] scope pos) (XQ wi cp g tt te) := by
  intro pins s σ H Q I h
  rw [eval_ListComp]
  refine V4 hc B hi hg ht he hs I h fun D C H' s' m I' hns hn hL h0 hcell hp q => ⟨m, hns, fun h'' sb => ?_⟩
  exact ⟨.ref D, H', I'.turned (t' := s'.toks) (it := C) (fun b o hb e => sb.extBut b o hb e) hn hL (.inr h0) hcell hp, rfl, q⟩
end
end Mi

namespace Mi
open PySem PySem.Spec PyProof.Rows L2

noncomputable def IterR (X : Cx) (tg : Expr) (r : V → Hp → (It → Hp → Prop) → Prop) : Prop :=
  ∀ (pins : List (Addr × Obj)) (s : Shared) (σ : L2.St) (H : Hp) (x : V) (v : Value) (C : It → Hp → Prop), Inv X pins σ H s → RelV x v → r x H C → wpAny (model X.prog X.w) X.A (pyIter v) (PIE X pins σ tg C) X.xe s
section
variable {X : Cx} {tg : Expr}
theorem IterR.or (h : IterR X tg r) (h' : IterR X tg r') : IterR X tg (fun x H C => r x H C ∨ r' x H C) := fun pins s σ H x v C I rx q => by
  rcases q with q | q
  · exact h pins s σ H x v C I rx q
  · exact h' pins s σ H x v C I rx q
end
section
variable {K : PySem.W.Frag} {R : Rn}
theorem JL {lo : Int} : ItOk K R (Itr lo n) ((List.range n).map fun (i : Nat) => W.int (lo + (i : Int))) none where
  go := fun i w R' h H _ _ _ e => by
    have := (List.getElem?_eq_some_iff.mp e).1
    show i < n
    simpa using this
  yld := fun i w R' h H v H' e rh _ ew hy => by
    obtain ⟨rfl, rfl⟩ := hy
    rw [List.getElem?_map] at ew
    obtain ⟨j, hj, e2⟩ := Option.map_eq_some_iff.mp ew
    rw [List.getElem?_range (by have := (List.getElem?_eq_some_iff.mp hj).1; simpa using this)] at hj
    cases hj
    cases e2
    exact ⟨R', Ext.refl _, rh, Rw.int _⟩
  stop := fun i R' h H _ _ _ hl => by
    show n ≤ i
    simpa using hl
end
section
variable {X : Cx} {tg a b c : Expr} {ma : ME} {ms : MA} {pos p : Pos}
noncomputable def QK (lo : Int) (n : Nat) : List W := (List.range n).map fun (i : Nat) => W.int (lo + (i : Int))
noncomputable def VH (ms : MA) : MI := fun σ h => (ms σ h).bind fun p => match p.1 with
  | [.int j] => if -(2 ^ 62) ≤ j ∧ j < 2 ^ 62 then some (QK 0 j.toNat, none, p.2) else none
  | _ => none
theorem Xl (hg : Gl X "range") (hm : X.mg "range" = none) (ha : PMA X [a] ms) (hs : starEach [a] X.env = [(false, eval a X.env)] := by rfl) : PMI X tg (.Call (.Name "range" p) [a] [] pos) (VH ms) :=
  Yq (JN hg hm ha hs) fun σ H C z0 => by
    obtain ⟨R, σi, h, items, src, h', rh, st, e, k⟩ := z0
    obtain ⟨⟨ws, h1⟩, e1, e2⟩ := Option.bind_eq_some_iff.mp e
    refine ⟨R, σi, h, ws, h1, rh, st, e1, fun R1 H1 vs x1 rh1 rv => ?_⟩
    split at e2
    · rename_i j hj
      simp only at hj
      subst hj
      split at e2
      · rename_i hb
        cases e2
        rw [Rws.cons_iff] at rv
        obtain ⟨v, vs', rfl, r1, r2⟩ := rv
        rw [Rws.nil_iff] at r2
        subst r2
        rw [r1.int_eq]
        exact ⟨j, rfl, hb.1, hb.2, k R1 H1 _ x1 rh1 JL⟩
      · cases e2
    · cases e2
end
noncomputable def Yc (cp : List (Option Nat)) (σ : MSt) : MSt := cp.map fun o => match o with | none => none | some j => match σ[j]? with | some v => v | none => none
theorem Rst.cap {K : PySem.W.Frag} (s : Rst K R σi σ) (cp : List (Option Nat)) : Rst K R (Yc cp σi) (ZR cp σ) := by
  unfold Yc ZR
  refine ⟨by simp, fun i w e => ?_⟩
  rw [List.getElem?_map] at e ⊢
  obtain ⟨o, h1, h2⟩ := Option.map_eq_some_iff.mp e
  rw [h1]
  cases o with
  | none => cases h2
  | some j =>
    simp only at h2
    split at h2
    · rename_i u hu
      subst h2
      obtain ⟨v, h3, h4⟩ := s.2 j w hu
      exact ⟨v, by simp [h3], h4⟩
    · cases h2
open Classical in
noncomputable def QW (fin : List W → MH → Option (W × MH)) (items : List W) (src : Option Src) (b : MG) (mt : MT) (me : ME) : List W → List W → MSt → MH → Option (W × MH)
  | [], acc, _, h => if live src items h then fin acc h else none
  | w :: r, acc, τ, h => if live src items h then (b w τ h).bind fun τ1 => (mt τ1 h).bind fun q => match q.1 with
      | true => (me τ1 q.2).bind fun v => if acc.length < sizeLine then QW fin items src b mt me r (acc ++ [v.1]) τ1 v.2 else none
      | false => QW fin items src b mt me r acc τ1 q.2
    else none
noncomputable def JG (fin : List W → MH → Option (W × MH)) (mi : MI) (cp : List (Option Nat)) (b : MG) (mt : MT) (me : ME) : ME := fun σ h => (mi σ h).bind fun p => QW fin p.1 p.2.1 b mt me p.1 [] (Yc cp σ) p.2.2
noncomputable def KP : MT := fun _ h => some (true, h)
noncomputable def K5 (acc : List W) (h : MH) : Option (W × MH) := some (.lst acc, h)
noncomputable def KD (K : PySem.W.Frag) (fin : List W → MH → Option (W × MH)) : Prop := ∀ R h H acc accV w h' D, Rh K R h H → Rws K R acc accV → fin acc h = some (w, h') → H D = none → ∃ R', Ext R R' ∧ Rh K R' h' (upd H D (.lst accV)) ∧ Rw K R' w (.ref D)
theorem X2 {K : PySem.W.Frag} : KD K K5 := fun R h H acc accV w h' D rh r e hD => by
  cases e
  exact rh.lstI hD r
section
variable {X : Cx} {elt tg iter c : Expr} {scope : Scope} {pos : Pos} {cl : List (Str × Addr)} {Nb : List Str} {cp : List (Option Nat)} {mi : MI} {b : MG} {mt : MT} {me : ME} {fin : List W → MH → Option (W × MH)}
theorem X3 {K : PySem.W.Frag} (hf : KD K fin) (q : tI K (JG fin mi cp b mt me) σ H Q) : XQ (tII K mi) cp (tIG K b) (tIT K mt) (tI K me) σ H Q := by
  obtain ⟨R, σi, h, w, h', rh, s, e, k⟩ := q
  obtain ⟨⟨items, src, h1⟩, e1, e2⟩ := Option.bind_eq_some_iff.mp e
  refine ⟨R, σi, h, items, src, h1, rh, s, e1, fun R1 H1 J x1 rh1 it => ?_⟩
  refine ⟨fun i n acc τ H => i + n = items.length ∧ ∃ R2 σ2 h2 accW, Ext R1 R2 ∧ Rh K R2 h2 H ∧ Rst K R2 σ2 τ ∧ Rws K R2 accW acc ∧ QW fin items src b mt me (items.drop i) accW σ2 h2 = some (w, h') ∧ After K R2 w h' Q, ⟨items.length, by simp, R1, Yc cp σi, h1, [], Ext.refl _, rh1, (s.mono x1).cap cp, Rws.nil, by simpa using e2, k.ext x1⟩, ?_⟩
  rintro i n acc τ H2 ⟨hin, R2, σ2, h2, accW, x2, rh2, s2, ra, e3, k2⟩
  by_cases hi : i < items.length
  · obtain ⟨y, hy⟩ : ∃ y, items[i]? = some y := ⟨items[i], List.getElem?_eq_getElem hi⟩
    have hd : items.drop i = y :: items.drop (i + 1) := by
      rw [List.drop_eq_getElem_cons hi]
      rw [List.getElem?_eq_getElem hi] at hy
      cases hy; rfl
    rw [hd] at e3
    unfold QW at e3
    split at e3
    · rename_i hl
      obtain ⟨σ3, e4, e5⟩ := Option.bind_eq_some_iff.mp e3
      obtain ⟨⟨t, h3⟩, e6, e7⟩ := Option.bind_eq_some_iff.mp e5
      refine .inr ⟨it.go i y R2 h2 H2 x2 rh2 hl hy, fun x H' hyl => ?_⟩
      obtain ⟨R3, x3, rh3, rw3⟩ := it.yld i y R2 h2 H2 x H' x2 rh2 hl hy hyl
      refine ⟨R3, σ2, h2, y, σ3, rh3, s2.mono x3, rw3, e4, fun R4 H4 τ4 x4 rh4 s4 => ?_⟩
      refine ⟨R4, σ3, h2, t, h3, rh4, s4, e6, fun R5 H5 x5 rh5 => ?_⟩
      cases t with
      | true =>
        obtain ⟨⟨v, h4⟩, e8, e9⟩ := Option.bind_eq_some_iff.mp e7
        dsimp only at e9
        split at e9
        · rename_i hz
          refine Y2 ⟨R5, σ3, h3, v, h4, rh5, s4.mono x5, e8, fun R6 H6 u x6 rh6 rv => ⟨by rw [← ra.length]; exact hz, n - 1, by lia, by lia, R6, σ3, h4, accW ++ [v], x2.trans (x3.trans (x4.trans (x5.trans x6))), rh6, s4.mono (x5.trans x6), ?_, e9, k2.ext (x3.trans (x4.trans (x5.trans x6)))⟩⟩
          exact Rws.append (Rws.mono (x3.trans (x4.trans (x5.trans x6))) _ _ ra) (Rws.cons rv Rws.nil)
        · cases e9
      | false =>
        exact YX ⟨n - 1, by lia, by lia, R5, σ3, h3, accW, x2.trans (x3.trans (x4.trans x5)), rh5, s4.mono x5, Rws.mono (x3.trans (x4.trans x5)) _ _ ra, e7, k2.ext (x3.trans (x4.trans x5))⟩
    · cases e3
  · have hd : items.drop i = [] := List.drop_eq_nil_of_le (Nat.not_lt.mp hi)
    rw [hd] at e3
    unfold QW at e3
    split at e3
    · rename_i hl
      refine .inl ⟨it.stop i R2 h2 H2 x2 rh2 hl (Nat.not_lt.mp hi), fun D hD => ?_⟩
      obtain ⟨R3, x3, rh3, rw3⟩ := hf R2 h2 H2 accW acc w h' D rh2 ra e3 hD
      exact k2 R3 _ _ x3 rh3 rw3
    · cases e3
theorem V1 (hf : KD X.K fin) (hc : X.calm = true) (B : BlkOk X scope cl Nb cp) (hi : PMI X tg iter mi) (hg : ∀ s₀ H₀ C ex pn, PMG (Mi.blk X scope cl Nb s₀ H₀ C ex pn) tg b)
    (he : ∀ s₀ H₀ C ex pn, PM (Mi.blk X scope cl Nb s₀ H₀ C ex pn) elt me) (hs : ∀ x, foldedSetIterable iter X.env x = pure x := by intro _; rfl) :
    PM X (.ListComp elt [⟨tg, iter, [], 0⟩] scope pos) (JG fin mi cp b KP me) :=
  QB (Kn (g := tIG X.K b) (te := tI X.K me) (tt := tIT X.K KP) hc B hi hg (fun s₀ H₀ C ex pn pins s τ H Q I q => wpAny_tests_nil (by
    obtain ⟨R, σi, h, t, h', rh, st, e, k⟩ := q
    cases e
    exact ⟨H, I, k R H (Ext.refl _) rh⟩)) he hs) fun _ _ _ q => X3 hf q
end
end Mi

namespace Mi
open PySem PySem.Spec PyProof.Rows L2 PySem.SeqAt

mutual
noncomputable def eqW : W → W → Bool
  | .non, .non => true
  | .bl a, .bl b => a == b
  | .bl a, .int b => (if a then 1 else 0) == b
  | .int a, .bl b => a == (if b then 1 else 0)
  | .int a, .int b => a == b
  | .str a, .str b => a == b
  | .tup a, .tup b => ZG a b
  | .lst a, .lst b => ZG a b
  | _, _ => false
noncomputable def ZG : List W → List W → Bool
  | [], [] => true
  | x :: xs, y :: ys => eqW x y && ZG xs ys
  | _, _ => false
end
noncomputable def Q5 (f : α → Option β) : List α → Option (List β)
  | [] => some []
  | x :: xs => (f x).bind fun y => (Q5 f xs).map (y :: ·)
noncomputable def drf (h : MH) : Nat → W → Option W
  | 0, _ => none
  | n + 1, w => match w with
    | .tup ws => (Q5 (drf h n) ws).map .tup
    | .lst ws => (Q5 (drf h n) ws).map .lst
    | .frz ws => (Q5 (drf h n) ws).map .lst
    | .ref k => match h[k]? with | some (.lst ws) => (Q5 (drf h n) ws).map .lst | _ => none
    | .ty _ => none
    | .non => some .non
    | .bl b => some (.bl b)
    | .int i => some (.int i)
    | .str x => some (.str x)
theorem Qh : ∀ {xs : List α} {ys : List β}, Q5 f xs = some ys → xs.length = ys.length ∧ ∀ (i : Nat) x, xs[i]? = some x → ∃ y, ys[i]? = some y ∧ f x = some y
  | [], ys, e => by cases e; exact ⟨rfl, fun i x h => by simp at h⟩
  | x :: xs, ys, e => by
    obtain ⟨y, h1, h2⟩ := Option.bind_eq_some_iff.mp e
    obtain ⟨zs, h3, h4⟩ := Option.map_eq_some_iff.mp h2
    subst h4
    obtain ⟨l, q⟩ := Qh h3
    refine ⟨by simp [l], fun i z hz => ?_⟩
    cases i with
    | zero => simp at hz; subst hz; exact ⟨y, by simp, h1⟩
    | succ i => simp at hz; obtain ⟨u, h5, h6⟩ := q i z hz; exact ⟨u, by simp [h5], h6⟩
theorem ZC : ∀ {a b : List W}, a.length ≠ b.length → ZG a b = false
  | [], [], h => absurd rfl h
  | [], _ :: _, _ => by unfold ZG; rfl
  | _ :: _, [], _ => by unfold ZG; rfl
  | x :: xs, y :: ys, h => by
    unfold ZG
    rw [ZC (a := xs) (b := ys) (fun z => h (by simp [z])), Bool.and_false]
theorem ZA : ∀ {a b : List W}, a.length = b.length → ZG a b = (List.range a.length).all fun j => match a[j]?, b[j]? with | some x, some y => eqW x y | _, _ => false
  | [], [], _ => by unfold ZG; rfl
  | x :: xs, y :: ys, h => by
    have ih := ZA (a := xs) (b := ys) (by simpa using h)
    unfold ZG
    rw [ih, List.length_cons, List.range_succ_eq_map, List.all_cons, List.all_map]
    simp [Function.comp_def]
inductive Kd (K : PySem.W.Frag) (R : Rn) (h : MH) (H : Hp) (n : Nat) (v : V) : W → Prop where
  | flat {a : W} (f : KE v = true) (e : (v = .non ∧ a = .non) ∨ (∃ b, v = .bl b ∧ a = .bl b) ∨ (∃ i, v = .int i ∧ a = .int i) ∨ ∃ x, v = .str x ∧ a = .str x) : Kd K R h H n v a
  | lst {ad : Addr} {xs : List V} {ws as : List W} (e : v = .ref ad) (q : SqL K H ad xs) (r : Rws K R ws xs) (m : Q5 (drf h n) ws = some as) : Kd K R h H n v (.lst as)
  | tup {ad : Addr} {xs : List V} {ws as : List W} (e : v = .ref ad) (q : SqT K H ad xs) (r : Rws K R ws xs) (m : Q5 (drf h n) ws = some as) : Kd K R h H n v (.tup as)
theorem Q6 {K : PySem.W.Frag} {v : V} (rh : Rh K R h H) (r : Rw K R w v) (e : drf h (n + 1) w = some a) : Kd K R h H n v a := by
  cases w with
  | non => rw [r.non_eq]; cases e; exact .flat rfl (.inl ⟨rfl, rfl⟩)
  | bl b => rw [r.bl_eq]; cases e; exact .flat rfl (.inr (.inl ⟨b, rfl, rfl⟩))
  | int i => rw [r.int_eq]; cases e; exact .flat rfl (.inr (.inr (.inl ⟨i, rfl, rfl⟩)))
  | str x => rw [r.str_eq]; cases e; exact .flat rfl (.inr (.inr (.inr ⟨x, rfl, rfl⟩)))
  | tup ws =>
    obtain ⟨ad, xs, e1, q, r1⟩ := rh.tupAt r
    obtain ⟨as, m, e2⟩ := Option.map_eq_some_iff.mp e
    subst e2
    exact .tup e1 q r1 m
  | lst ws =>
    obtain ⟨ad, xs, e1, q, r1⟩ := rh.lstAt r
    obtain ⟨as, m, e2⟩ := Option.map_eq_some_iff.mp e
    subst e2
    exact .lst e1 (SqL.of q) r1 m
  | frz ws =>
    obtain ⟨ad, xs, e1, q, r1⟩ := rh.frzAt r
    obtain ⟨as, m, e2⟩ := Option.map_eq_some_iff.mp e
    subst e2
    exact .lst e1 q r1 m
  | ref k =>
    simp only [drf] at e
    split at e
    · rename_i ws hk
      obtain ⟨as, m, e2⟩ := Option.map_eq_some_iff.mp e
      subst e2
      obtain ⟨_, e1, xs, q, r1⟩ := rh.refAt r hk
      exact .lst e1 (SqL.of q) r1 m
    · cases e
  | ty _ => cases e
section
variable {X : Cx} {pins : List (Addr × Obj)} {σ : L2.St} {H : Hp} {s : Shared} {R : Rn} {h : MH}
theorem Zi {K : PySem.W.Frag} (ih : ∀ w1 w2 v a b, Rw K R w1 v → Rw K R w2 v → drf h n w1 = some a → drf h n w2 = some b → a = b) :
    ∀ {ws1 ws2 : List W} {xs : List V} {a b : List W}, Rws K R ws1 xs → Rws K R ws2 xs → Q5 (drf h n) ws1 = some a → Q5 (drf h n) ws2 = some b → a = b
  | [], ws2, xs, a, b, r1, r2, m1, m2 => by
    rw [Rws.nil_iff] at r1; subst r1
    cases ws2 with
    | nil => cases m1; cases m2; rfl
    | cons w ws => rw [Rws.cons_iff] at r2; obtain ⟨_, _, z, _⟩ := r2; cases z
  | w :: ws1, ws2, xs, a, b, r1, r2, m1, m2 => by
    rw [Rws.cons_iff] at r1
    obtain ⟨v, xs', rfl, p1, p2⟩ := r1
    cases ws2 with
    | nil => rw [Rws.nil_iff] at r2; cases r2
    | cons w' ws2 =>
      rw [Rws.cons_iff] at r2
      obtain ⟨_, _, z, q1, q2⟩ := r2
      cases z
      obtain ⟨y, h1, h2⟩ := Option.bind_eq_some_iff.mp m1
      obtain ⟨zs, h3, h4⟩ := Option.map_eq_some_iff.mp h2
      obtain ⟨y', h1', h2'⟩ := Option.bind_eq_some_iff.mp m2
      obtain ⟨zs', h3', h4'⟩ := Option.map_eq_some_iff.mp h2'
      subst h4 h4'
      rw [ih w w' v y y' p1 q1 h1 h1', Zi ih p2 q2 h3 h3']
theorem Q4 (I : Inv X pins σ H s) (q : SqL X.K H a xs) (q' : SqT X.K H a ys) : False := by
  obtain ⟨its, _, p, _⟩ := I.list q
  obtain ⟨its', _, p', _⟩ := I.tuple q'
  obtain ⟨o, n, h1, h2, _⟩ := p
  obtain ⟨o', h1', h2', _⟩ := p'
  rw [h1] at h1'; cases h1'
  rw [h2] at h2'
  exact absurd h2' (by simp)
theorem Zx (I : Inv X pins σ H s) (rh : Rh X.K R h H) : ∀ (n : Nat) (w1 w2 : W) (v : V) (a b : W), Rw X.K R w1 v → Rw X.K R w2 v → drf h n w1 = some a → drf h n w2 = some b → a = b
  | 0, _, _, _, _, _, _, _, e, _ => by cases e
  | n + 1, w1, w2, v, a, b, r1, r2, e1, e2 => by
    have ih := Zx I rh n
    cases Q6 rh r1 e1 with
    | flat f z =>
      cases Q6 rh r2 e2 with
      | flat f' z' =>
        rcases z with ⟨rfl, rfl⟩ | ⟨_, rfl, rfl⟩ | ⟨_, rfl, rfl⟩ | ⟨_, rfl, rfl⟩ <;> rcases z' with ⟨z1, rfl⟩ | ⟨_, z1, rfl⟩ | ⟨_, z1, rfl⟩ | ⟨_, z1, rfl⟩ <;> cases z1 <;> rfl
      | lst e => subst e; cases f
      | tup e => subst e; cases f
    | lst e q r m =>
      subst e
      cases Q6 rh r2 e2 with
      | flat f => cases f
      | lst e' q' r' m' => cases e'; have := I.list_inj q q'; subst this; rw [Zi ih r r' m m']
      | tup e' q' => cases e'; exact (Q4 I q q').elim
    | tup e q r m =>
      subst e
      cases Q6 rh r2 e2 with
      | flat f => cases f
      | lst e' q' => cases e'; exact (Q4 I q' q).elim
      | tup e' q' r' m' => cases e'; have := I.tuple_inj q q'; subst this; rw [Zi ih r r' m m']
mutual
theorem Zy : ∀ (n : Nat) (w a : W), drf h n w = some a → eqW a a = true
  | 0, _, _, e => by cases e
  | n + 1, w, a, e => by
    cases w with
    | non => cases e; unfold eqW; rfl
    | bl b => cases e; unfold eqW; simp
    | int i => cases e; unfold eqW; simp
    | str x => cases e; unfold eqW; simp
    | tup ws => obtain ⟨as, m, e2⟩ := Option.map_eq_some_iff.mp e; subst e2; unfold eqW; exact QG n ws as m
    | lst ws => obtain ⟨as, m, e2⟩ := Option.map_eq_some_iff.mp e; subst e2; unfold eqW; exact QG n ws as m
    | frz ws => obtain ⟨as, m, e2⟩ := Option.map_eq_some_iff.mp e; subst e2; unfold eqW; exact QG n ws as m
    | ref k =>
      simp only [drf] at e
      split at e
      · rename_i ws hk
        obtain ⟨as, m, e2⟩ := Option.map_eq_some_iff.mp e; subst e2; unfold eqW; exact QG n ws as m
      · cases e
    | ty _ => cases e
theorem QG : ∀ (n : Nat) (ws as : List W), Q5 (drf h n) ws = some as → ZG as as = true
  | n, [], _, m => by cases m; unfold ZG; rfl
  | n, w :: ws, _, m => by
    obtain ⟨y, h1, h2⟩ := Option.bind_eq_some_iff.mp m
    obtain ⟨zs, h3, h4⟩ := Option.map_eq_some_iff.mp h2
    subst h4
    unfold ZG
    rw [Zy n w y h1, QG n ws zs h3]; rfl
end
theorem Zr (ih : ∀ w1 w2 v1 v2 u1 u2 a b, Rw X.K R w1 v1 → Rw X.K R w2 v2 → RelV v1 u1 → RelV v2 u2 → drf h n w1 = some a → drf h n w2 = some b → EqAt A s u1 u2 (eqW a b))
    (r1 : Rws X.K R ws1 xs) (r2 : Rws X.K R ws2 ys) (v1 : Vals xs its) (v2 : Vals ys its2) (m1 : Q5 (drf h n) ws1 = some as) (m2 : Q5 (drf h n) ws2 = some bs)
    (j : Nat) (h1 : j < its.toArray.size) (h2 : j < its2.toArray.size) : EqAt A s its.toArray[j] its2.toArray[j] (match as[j]?, bs[j]? with | some x, some y => eqW x y | _, _ => false) := by
  have l1 := r1.length; have l2 := v1.length; have l3 := r2.length; have l4 := v2.length
  rw [List.size_toArray] at h1 h2
  obtain ⟨w1, hw1⟩ : ∃ w, ws1[j]? = some w := ⟨ws1[j]'(Nat.lt_of_lt_of_le (Nat.lt_of_lt_of_le h1 (Nat.le_of_eq l2.symm)) (Nat.le_of_eq l1.symm)), List.getElem?_eq_getElem _⟩
  obtain ⟨w2, hw2⟩ : ∃ w, ws2[j]? = some w := ⟨ws2[j]'(Nat.lt_of_lt_of_le (Nat.lt_of_lt_of_le h2 (Nat.le_of_eq l4.symm)) (Nat.le_of_eq l3.symm)), List.getElem?_eq_getElem _⟩
  obtain ⟨x, hx, rx⟩ := r1.get hw1
  obtain ⟨y, hy, ry⟩ := r2.get hw2
  obtain ⟨u, hu, ru⟩ := v1.get hx
  obtain ⟨t, ht, rt⟩ := v2.get hy
  obtain ⟨a, ha, ea⟩ := (Qh m1).2 j w1 hw1
  obtain ⟨b, hb, eb⟩ := (Qh m2).2 j w2 hw2
  rw [ha, hb]
  have e1 : its.toArray[j] = u := by
    have := hu; rw [List.getElem?_eq_getElem h1] at this; simpa using this
  have e2 : its2.toArray[j] = t := by
    have := ht; rw [List.getElem?_eq_getElem h2] at this; simpa using this
  rw [e1, e2]
  exact ih w1 w2 x y u t a b rx ry ru rt ea eb
theorem Jf (I : Inv X pins σ H s) (hu : A.units < cLine) (ih : ∀ w1 w2 v1 v2 u1 u2 a b, Rw X.K R w1 v1 → Rw X.K R w2 v2 → RelV v1 u1 → RelV v2 u2 → drf h n w1 = some a → drf h n w2 = some b → EqAt A.in1 s u1 u2 (eqW a b))
    {ad bd : Addr} (q1 : SqL X.K H ad xs) (q2 : SqL X.K H bd ys) (r1 : Rws X.K R ws1 xs) (r2 : Rws X.K R ws2 ys) (m1 : Q5 (drf h n) ws1 = some as) (m2 : Q5 (drf h n) ws2 = some bs) : RcAt A s (.ref ad) (.ref bd) (ZG as bs) := by
  obtain ⟨its, v1, p1, _⟩ := I.list q1
  obtain ⟨its2, v2, p2, _⟩ := I.list q2
  have l1 := r1.length; have l2 := v1.length; have l3 := r2.length; have l4 := v2.length
  have l5 := (Qh m1).1; have l6 := (Qh m2).1
  by_cases hl : as.length = bs.length
  · rw [ZA hl]
    have := RcAt.lists (A := A) p1.isList p2.isList (by rw [List.size_toArray, List.size_toArray]; lia) hu (fun j h1 h2 => Zr ih r1 r2 v1 v2 m1 m2 j h1 h2)
    rw [List.size_toArray] at this
    rw [show as.length = its.length by lia]
    exact this
  · rw [ZC hl]
    exact RcAt.lists_lengths p1.isList p2.isList (by rw [List.size_toArray, List.size_toArray]; simp; lia) hu
theorem J8 (I : Inv X pins σ H s) (hu : A.units < cLine) (ih : ∀ w1 w2 v1 v2 u1 u2 a b, Rw X.K R w1 v1 → Rw X.K R w2 v2 → RelV v1 u1 → RelV v2 u2 → drf h n w1 = some a → drf h n w2 = some b → EqAt A.in1 s u1 u2 (eqW a b))
    {ad bd : Addr} (q1 : SqT X.K H ad xs) (q2 : SqT X.K H bd ys) (r1 : Rws X.K R ws1 xs) (r2 : Rws X.K R ws2 ys) (m1 : Q5 (drf h n) ws1 = some as) (m2 : Q5 (drf h n) ws2 = some bs) : RcAt A s (.ref ad) (.ref bd) (ZG as bs) := by
  obtain ⟨its, v1, p1, _⟩ := I.tuple q1
  obtain ⟨its2, v2, p2, _⟩ := I.tuple q2
  have l1 := r1.length; have l2 := v1.length; have l3 := r2.length; have l4 := v2.length
  have l5 := (Qh m1).1; have l6 := (Qh m2).1
  have := RcAt.tuples (A := A) (show s.heap.IsTuple ad its.toArray from p1) (show s.heap.IsTuple bd its2.toArray from p2) hu (fun j h1 h2 => Zr ih r1 r2 v1 v2 m1 m2 j h1 h2)
  rw [List.size_toArray, List.size_toArray] at this
  by_cases hl : as.length = bs.length
  · rw [ZA hl]
    rw [show min its.length its2.length = as.length by lia, show (its.length == its2.length) = true by simp; omega, Bool.and_true] at this
    exact this
  · rw [ZC hl]
    rw [show (its.length == its2.length) = false by simp; omega, Bool.and_false] at this
    exact this
theorem Xi (I : Inv X pins σ H s) (rh : Rh X.K R h H) : ∀ (n : Nat) (A : Around), A.units + n < cLine → ∀ (w1 w2 : W) (v1 v2 : V) (u1 u2 : Value) (a b : W), Rw X.K R w1 v1 → Rw X.K R w2 v2 → RelV v1 u1 → RelV v2 u2 → drf h n w1 = some a → drf h n w2 = some b → EqAt A s u1 u2 (eqW a b)
  | 0, _, _, _, _, _, _, _, _, _, _, _, _, _, _, e, _ => by cases e
  | n + 1, A, hu, w1, w2, v1, v2, u1, u2, a, b, r1, r2, t1, t2, e1, e2 => by
    have hu0 : A.units < cLine := by exact Nat.lt_of_le_of_lt (Nat.le_add_right _ _) hu
    have ih := Xi I rh n A.in1 (by show A.units + 1 + n < cLine; lia)
    have isl : ∀ {ad : Addr} {xs : List V}, SqL X.K H ad xs → ∃ its : Array Value, s.heap.IsList ad its := fun q => by
      obtain ⟨its, _, p, _⟩ := I.list q; exact ⟨_, p.isList⟩
    have ist : ∀ {ad : Addr} {xs : List V}, SqT X.K H ad xs → ∃ its : Array Value, s.heap.IsTuple ad its := fun q => by
      obtain ⟨its, _, p, _⟩ := I.tuple q; exact ⟨_, p⟩
    cases Q6 rh r1 e1 with
    | flat f z =>
      cases Q6 rh r2 e2 with
      | flat f' z' =>
        have := Yw (A := A) (s := s) t1 t2 f f'
        rcases z with ⟨rfl, rfl⟩ | ⟨_, rfl, rfl⟩ | ⟨_, rfl, rfl⟩ | ⟨_, rfl, rfl⟩ <;> rcases z' with ⟨rfl, rfl⟩ | ⟨_, rfl, rfl⟩ | ⟨_, rfl, rfl⟩ | ⟨_, rfl, rfl⟩ <;> (unfold eqW; exact this)
      | lst e q =>
        subst e
        cases t2
        obtain ⟨its, p⟩ := isl q
        rcases z with ⟨rfl, rfl⟩ | ⟨_, rfl, rfl⟩ | ⟨_, rfl, rfl⟩ | ⟨_, rfl, rfl⟩
        · cases t1; unfold eqW; exact EqAt.none_list p hu0
        · cases t1; unfold eqW; exact EqAt.bool_list _ p hu0
        · obtain ⟨t, rfl⟩ := t1; unfold eqW; exact EqAt.int_list _ t p hu0
        · obtain ⟨t, rfl⟩ := t1; unfold eqW; exact EqAt.str_list _ t p hu0
      | tup e q =>
        subst e
        cases t2
        obtain ⟨its, p⟩ := ist q
        rcases z with ⟨rfl, rfl⟩ | ⟨_, rfl, rfl⟩ | ⟨_, rfl, rfl⟩ | ⟨_, rfl, rfl⟩
        · cases t1; unfold eqW; exact EqAt.none_tuple p hu0
        · cases t1; unfold eqW; exact EqAt.bool_tuple _ p hu0
        · obtain ⟨t, rfl⟩ := t1; unfold eqW; exact EqAt.int_tuple _ t p hu0
        · obtain ⟨t, rfl⟩ := t1; unfold eqW; exact EqAt.str_tuple _ t p hu0
    | @lst ad1 _ _ _ e q r m =>
      subst e
      cases t1
      obtain ⟨its, p⟩ := isl q
      have k2 := Q6 rh r2 e2
      cases k2 with
      | flat f' z' =>
        rcases z' with ⟨rfl, rfl⟩ | ⟨_, rfl, rfl⟩ | ⟨_, rfl, rfl⟩ | ⟨_, rfl, rfl⟩
        · cases t2; unfold eqW; exact EqAt.list_none p hu0
        · cases t2; unfold eqW; exact EqAt.list_bool _ p hu0
        · obtain ⟨t, rfl⟩ := t2; unfold eqW; exact EqAt.list_int _ t p hu0
        · obtain ⟨t, rfl⟩ := t2; unfold eqW; exact EqAt.list_str _ t p hu0
      | @lst ad2 _ _ _ e' q' r' m' =>
        subst e'
        cases t2
        by_cases hab : ad1 = ad2
        · subst hab
          have := Zx I rh (n + 1) w1 w2 _ _ _ r1 r2 e1 e2
          rw [this, Zy (n + 1) w2 _ e2]
          exact EqAt.same _
        · unfold eqW
          exact EqAt.of_refs hab (Jf I hu0 ih q q' r r' m m')
      | tup e' q' =>
        subst e'
        cases t2
        obtain ⟨its', p'⟩ := ist q'
        unfold eqW; exact EqAt.list_tuple p p' hu0
    | @tup ad1 _ _ _ e q r m =>
      subst e
      cases t1
      obtain ⟨its, p⟩ := ist q
      have k2 := Q6 rh r2 e2
      cases k2 with
      | flat f' z' =>
        rcases z' with ⟨rfl, rfl⟩ | ⟨_, rfl, rfl⟩ | ⟨_, rfl, rfl⟩ | ⟨_, rfl, rfl⟩
        · cases t2; unfold eqW; exact EqAt.tuple_none p hu0
        · cases t2; unfold eqW; exact EqAt.tuple_bool _ p hu0
        · obtain ⟨t, rfl⟩ := t2; unfold eqW; exact EqAt.tuple_int _ t p hu0
        · obtain ⟨t, rfl⟩ := t2; unfold eqW; exact EqAt.tuple_str _ t p hu0
      | lst e' q' =>
        subst e'
        cases t2
        obtain ⟨its', p'⟩ := isl q'
        unfold eqW; exact EqAt.tuple_list p p' hu0
      | @tup ad2 _ _ _ e' q' r' m' =>
        subst e'
        cases t2
        by_cases hab : ad1 = ad2
        · subst hab
          have := Zx I rh (n + 1) w1 w2 _ _ _ r1 r2 e1 e2
          rw [this, Zy (n + 1) w2 _ e2]
          exact EqAt.same _
        · unfold eqW
          exact EqAt.of_refs hab (J8 I hu0 ih q q' r r' m m')
end
end Mi

namespace Mi
open PySem PySem.Spec PyProof.Rows L2 PySem.SeqAt
section
variable {X : Cx} {pins : List (Addr × Obj)} {σ : L2.St} {H : Hp} {s : Shared} {R : Rn} {h : MH}
theorem KZ (I : Inv X pins σ H s) (rh : Rh X.K R h H) (n : Nat) (A : Around) (hu : A.units + n < cLine) (w1 w2 : W) (v1 v2 : V) (u1 u2 : Value) (a b : W) (r1 : Rw X.K R w1 v1) (r2 : Rw X.K R w2 v2) (t1 : RelV v1 u1) (t2 : RelV v2 u2) (e1 : drf h n w1 = some a) (e2 : drf h n w2 = some b) : RcAt A s u1 u2 (eqW a b) := by
  cases n with
  | zero => cases e1
  | succ n =>
    have hu0 : A.units < cLine := by exact Nat.lt_of_le_of_lt (Nat.le_add_right _ _) hu
    have ih := Xi I rh n A.in1 (by show A.units + 1 + n < cLine; lia)
    have isl : ∀ {ad : Addr} {xs : List V}, SqL X.K H ad xs → ∃ its : Array Value, s.heap.IsList ad its := fun q => by
      obtain ⟨its, _, p, _⟩ := I.list q; exact ⟨_, p.isList⟩
    have ist : ∀ {ad : Addr} {xs : List V}, SqT X.K H ad xs → ∃ its : Array Value, s.heap.IsTuple ad its := fun q => by
      obtain ⟨its, _, p, _⟩ := I.tuple q; exact ⟨_, p⟩
    cases Q6 rh r1 e1 with
    | flat f z =>
      cases Q6 rh r2 e2 with
      | flat f' z' =>
        rcases z with ⟨rfl, rfl⟩ | ⟨_, rfl, rfl⟩ | ⟨_, rfl, rfl⟩ | ⟨_, rfl, rfl⟩ <;> rcases z' with ⟨rfl, rfl⟩ | ⟨_, rfl, rfl⟩ | ⟨_, rfl, rfl⟩ | ⟨_, rfl, rfl⟩ <;> first | (obtain ⟨t1', rfl⟩ := t1) | cases t1
        · first | (obtain ⟨t2', rfl⟩ := t2) | cases t2
          unfold eqW; exact RcAt.none_none
        · first | (obtain ⟨t2', rfl⟩ := t2) | cases t2
          unfold eqW; exact RcAt.none_bool _
        · first | (obtain ⟨t2', rfl⟩ := t2) | cases t2
          unfold eqW; exact RcAt.none_int _ _
        · first | (obtain ⟨t2', rfl⟩ := t2) | cases t2
          unfold eqW; exact RcAt.none_str _ _
        · first | (obtain ⟨t2', rfl⟩ := t2) | cases t2
          unfold eqW; exact RcAt.bool_none _
        · first | (obtain ⟨t2', rfl⟩ := t2) | cases t2
          unfold eqW; exact RcAt.bool_bool _ _
        · first | (obtain ⟨t2', rfl⟩ := t2) | cases t2
          unfold eqW; exact RcAt.bool_int _ _ _
        · first | (obtain ⟨t2', rfl⟩ := t2) | cases t2
          unfold eqW; exact RcAt.bool_str _ _ _
        · first | (obtain ⟨t2', rfl⟩ := t2) | cases t2
          unfold eqW; exact RcAt.int_none _ _
        · first | (obtain ⟨t2', rfl⟩ := t2) | cases t2
          unfold eqW; exact RcAt.int_bool _ _ _
        · first | (obtain ⟨t2', rfl⟩ := t2) | cases t2
          unfold eqW; exact RcAt.int_int _ _ _ _
        · first | (obtain ⟨t2', rfl⟩ := t2) | cases t2
          unfold eqW; exact RcAt.int_str _ _ _ _
        · first | (obtain ⟨t2', rfl⟩ := t2) | cases t2
          unfold eqW; exact RcAt.str_none _ _
        · first | (obtain ⟨t2', rfl⟩ := t2) | cases t2
          unfold eqW; exact RcAt.str_bool _ _ _
        · first | (obtain ⟨t2', rfl⟩ := t2) | cases t2
          unfold eqW; exact RcAt.str_int _ _ _ _
        · first | (obtain ⟨t2', rfl⟩ := t2) | cases t2
          unfold eqW; exact RcAt.str_str _ _ _ _
      | lst e q =>
        subst e
        cases t2
        obtain ⟨its, p⟩ := isl q
        rcases z with ⟨rfl, rfl⟩ | ⟨_, rfl, rfl⟩ | ⟨_, rfl, rfl⟩ | ⟨_, rfl, rfl⟩
        · cases t1; unfold eqW; exact RcAt.none_list p hu0
        · cases t1; unfold eqW; exact RcAt.bool_list _ p hu0
        · obtain ⟨t, rfl⟩ := t1; unfold eqW; exact RcAt.int_list _ t p hu0
        · obtain ⟨t, rfl⟩ := t1; unfold eqW; exact RcAt.str_list _ t p hu0
      | tup e q =>
        subst e
        cases t2
        obtain ⟨its, p⟩ := ist q
        rcases z with ⟨rfl, rfl⟩ | ⟨_, rfl, rfl⟩ | ⟨_, rfl, rfl⟩ | ⟨_, rfl, rfl⟩
        · cases t1; unfold eqW; exact RcAt.none_tuple p hu0
        · cases t1; unfold eqW; exact RcAt.bool_tuple _ p hu0
        · obtain ⟨t, rfl⟩ := t1; unfold eqW; exact RcAt.int_tuple _ t p hu0
        · obtain ⟨t, rfl⟩ := t1; unfold eqW; exact RcAt.str_tuple _ t p hu0
    | @lst ad1 _ _ _ e q r m =>
      subst e
      cases t1
      obtain ⟨its, p⟩ := isl q
      have k2 := Q6 rh r2 e2
      cases k2 with
      | flat f' z' =>
        rcases z' with ⟨rfl, rfl⟩ | ⟨_, rfl, rfl⟩ | ⟨_, rfl, rfl⟩ | ⟨_, rfl, rfl⟩
        · cases t2; unfold eqW; exact RcAt.list_none p hu0
        · cases t2; unfold eqW; exact RcAt.list_bool _ p hu0
        · obtain ⟨t, rfl⟩ := t2; unfold eqW; exact RcAt.list_int _ t p hu0
        · obtain ⟨t, rfl⟩ := t2; unfold eqW; exact RcAt.list_str _ t p hu0
      | tup e' q' =>
        subst e'
        cases t2
        obtain ⟨its', p'⟩ := ist q'
        unfold eqW; exact RcAt.list_tuple p p' hu0
      | lst e' q' r' m' =>
        subst e'
        cases t2
        unfold eqW
        exact Jf I hu0 ih q q' r r' m m'
    | @tup ad1 _ _ _ e q r m =>
      subst e
      cases t1
      obtain ⟨its, p⟩ := ist q
      have k2 := Q6 rh r2 e2
      cases k2 with
      | flat f' z' =>
        rcases z' with ⟨rfl, rfl⟩ | ⟨_, rfl, rfl⟩ | ⟨_, rfl, rfl⟩ | ⟨_, rfl, rfl⟩
        · cases t2; unfold eqW; exact RcAt.tuple_none p hu0
        · cases t2; unfold eqW; exact RcAt.tuple_bool _ p hu0
        · obtain ⟨t, rfl⟩ := t2; unfold eqW; exact RcAt.tuple_int _ t p hu0
        · obtain ⟨t, rfl⟩ := t2; unfold eqW; exact RcAt.tuple_str _ t p hu0
      | lst e' q' =>
        subst e'
        cases t2
        obtain ⟨its', p'⟩ := isl q'
        unfold eqW; exact RcAt.tuple_list p p' hu0
      | tup e' q' r' m' =>
        subst e'
        cases t2
        unfold eqW
        exact J8 I hu0 ih q q' r r' m m'
end
noncomputable def wEq (a b : W) (h : MH) : Option (W × MH) := (drf h 40 a).bind fun x => (drf h 40 b).map fun y => (.bl (eqW x y), h)
theorem QT {K : PySem.W.Frag} : OpM K (F2 K f) f := fun _ _ _ _ q => q
section
variable {X : Cx}
theorem Jp (hu : X.A.units + 64 < cLine) : OpR X (compareOp .Eq) (F2 X.K wEq) := by
  intro pins s σ H x y v u Q I rx ry q
  obtain ⟨R, h, a, b, w, h', rh, ra, rb, e, k⟩ := q
  obtain ⟨a', e1, e2⟩ := Option.bind_eq_some_iff.mp e
  obtain ⟨b', e3, e4⟩ := Option.map_eq_some_iff.mp e2
  cases e4
  exact KZ I rh 40 X.A (Nat.lt_trans (Nat.add_lt_add_left (by decide) _) hu) a b x y v u a' b' ra rb rx ry e1 e3 _ _ _ _ ⟨.bl _, H, I, rfl, k R H _ (Ext.refl _) rh (Rw.bl _)⟩
end
end Mi

namespace Mi
open PySem PySem.Spec PyProof.Rows L2

noncomputable def KK (a b : W) (h : MH) : Option (W × MH) := match a, b with | .int i, .int j => some (.int (i - j), h) | _, _ => none
noncomputable def K8 (a b : W) (h : MH) : Option (W × MH) := match a, b with | .int i, .int j => if (-(2 ^ 64) < i ∧ i < 2 ^ 64) ∨ (-(2 ^ 64) < j ∧ j < 2 ^ 64) then some (.int (i * j), h) else none | _, _ => none
noncomputable def VQ (a b : W) (h : MH) : Option (W × MH) := match a, b with | .int i, .int j => if 0 < j then some (.int (i % j), h) else none | _, _ => none
noncomputable def VG (a b : W) (h : MH) : Option (W × MH) := match a, b with | .int i, .int j => if 0 ≤ j ∧ j ≤ 1000000 ∧ i.natAbs < 2 ^ 64 then some (.int (i ^ j.toNat), h) else none | _, _ => none
noncomputable def wGt (a b : W) (h : MH) : Option (W × MH) := match a, b with | .int i, .int j => some (.bl (decide (j < i)), h) | _, _ => none
section
variable {X : Cx}
theorem XL : OpR X (binaryOp .Sub) (F2 X.K KK) := by
  intro pins s σ H x y v u Q I rx ry q
  refine KT pins s σ H x y v u Q I rx ry ?_
  obtain ⟨R, h, a, b, w, h', rh, ra, rb, e, k⟩ := q
  unfold KK at e
  split at e
  · cases e
    exact ⟨_, _, ra.int_eq, rb.int_eq, k R H _ (Ext.refl _) rh (Rw.int _)⟩
  · cases e
theorem XH : OpR X (binaryOp .Mult) (F2 X.K K8) := by
  intro pins s σ H x y v u Q I rx ry q
  refine Yd pins s σ H x y v u Q I rx ry ?_
  obtain ⟨R, h, a, b, w, h', rh, ra, rb, e, k⟩ := q
  unfold K8 at e
  split at e
  · split at e
    · rename_i hl
      cases e
      exact ⟨_, _, ra.int_eq, rb.int_eq, hl, k R H _ (Ext.refl _) rh (Rw.int _)⟩
    · cases e
  · cases e
theorem Km : OpR X (binaryOp .Mod) (F2 X.K VQ) := by
  intro pins s σ H x y v u Q I rx ry q
  refine K4 pins s σ H x y v u Q I rx ry ?_
  obtain ⟨R, h, a, b, w, h', rh, ra, rb, e, k⟩ := q
  unfold VQ at e
  split at e
  · split at e
    · rename_i hl
      cases e
      exact ⟨_, _, ra.int_eq, rb.int_eq, hl, k R H _ (Ext.refl _) rh (Rw.int _)⟩
    · cases e
  · cases e
theorem Kb : OpR X (binaryOp .Pow) (F2 X.K VG) := by
  intro pins s σ H x y v u Q I rx ry q
  refine Ym pins s σ H x y v u Q I rx ry ?_
  obtain ⟨R, h, a, b, w, h', rh, ra, rb, e, k⟩ := q
  unfold VG at e
  split at e
  · split at e
    · rename_i hl
      cases e
      exact ⟨_, _, ra.int_eq, rb.int_eq, hl, k R H _ (Ext.refl _) rh (Rw.int _)⟩
    · cases e
  · cases e
theorem Yr : OpR X (compareOp .Gt) (F2 X.K wGt) := by
  intro pins s σ H x y v u Q I rx ry q
  refine Wf pins s σ H x y v u Q I rx ry ?_
  obtain ⟨R, h, a, b, w, h', rh, ra, rb, e, k⟩ := q
  unfold wGt at e
  split at e
  · cases e
    exact ⟨_, _, ra.int_eq, rb.int_eq, k R H _ (Ext.refl _) rh (Rw.bl _)⟩
  · cases e
noncomputable def UN (a : W) (h : MH) : Option (W × MH) := match a with | .int i => some (.int (-i), h) | _ => none
noncomputable def wIx (a b : W) (h : MH) : Option (W × MH) := match b with
  | .int i => match a with
    | .tup ws => (atI ws i).map fun w => (w, h)
    | .str x => if x.length ≤ sizeLine then (atI x.cps.toList i).map fun c => (.str ⟨#[c]⟩, h) else none
    | a => (lsW h a).bind fun ws => (atI ws i).map fun w => (w, h)
  | _ => none
theorem Vr {K : PySem.W.Frag} (r : Rws K R ws xs) (e : atI ws i = some w) : ∃ v, atI xs i = some v ∧ Rw K R w v := by
  unfold atI at e ⊢
  rw [← r.length]
  obtain ⟨j, e1, e2⟩ := Option.bind_eq_some_iff.mp e
  obtain ⟨v, e3, e4⟩ := r.get e2
  exact ⟨v, by rw [e1]; exact e3, e4⟩
theorem Kr : IxR X (F2 X.K wIx) := by
  intro value slice pins s σ H x y v u Q I rx ry q hs
  refine KS value slice pins s σ H x y v u Q I rx ry ?_ hs
  obtain ⟨R, h, a, b, w, h', rh, ra, rb, e, k⟩ := q
  unfold wIx at e
  split at e
  · rename_i i
    split at e
    · rename_i ws
      obtain ⟨w1, e1, e2⟩ := Option.map_eq_some_iff.mp e
      cases e2
      obtain ⟨ad, xs, rfl, q1, r1⟩ := rh.tupAt ra
      obtain ⟨v1, e3, r3⟩ := Vr r1 e1
      exact .inr (.inl ⟨ad, xs, i, v1, rfl, rb.int_eq, q1, e3, k R H _ (Ext.refl _) rh r3⟩)
    · split at e
      · rename_i hl
        obtain ⟨c, e1, e2⟩ := Option.map_eq_some_iff.mp e
        cases e2
        exact .inr (.inr ⟨_, i, c, ra.str_eq, rb.int_eq, hl, e1, k R H _ (Ext.refl _) rh (Rw.str _)⟩)
      · cases e
    · obtain ⟨ws, e0, e⟩ := Option.bind_eq_some_iff.mp e
      obtain ⟨w1, e1, e2⟩ := Option.map_eq_some_iff.mp e
      cases e2
      obtain ⟨ad, xs, rfl, q1, r1⟩ := rh.lsAt ra e0
      obtain ⟨v1, e3, r3⟩ := Vr r1 e1
      exact .inl ⟨ad, xs, i, v1, rfl, rb.int_eq, q1, e3, k R H _ (Ext.refl _) rh r3⟩
  · cases e
theorem WE (ha : PM X a ma) (hb : PM X b mb) (hs : VC b := by intro _ _; rfl) : PM X (.Subscript a b pos) (QX wIx ma mb) :=
  QB (Wa Kr ha hb hs) fun _ _ _ q => QH (YZ q) fun _ _ q1 => QH q1 fun _ _ q2 => q2
noncomputable def V3 (ws : List W) (h : MH) : Option (W × MH) := match ws with
  | [.str x] => if x.length ≤ sizeLine then some (.int x.length, h) else none
  | [.tup ws] => some (.int ws.length, h)
  | [a] => (lsW h a).map fun ws => (.int ws.length, h)
  | _ => none
theorem Q8 {K : PySem.W.Frag} : XY K (Fs K f) f := fun _ _ _ q => q
theorem KH {K : PySem.W.Frag} (r : Rws K R [a] xs) : ∃ v, xs = [v] ∧ Rw K R a v := by
  rw [Rws.cons_iff] at r
  obtain ⟨v, vs, rfl, r1, r2⟩ := r
  rw [Rws.nil_iff] at r2
  subst r2
  exact ⟨v, rfl, r1⟩
theorem ZZ : CallR X (.builtin "len") (Fs X.K V3) := by
  intro pins s σ H xs us Q I r q
  refine (call_len_seq.or Z2) pins s σ H xs us Q I r ?_
  obtain ⟨R, h, ws, w, h', rh, rw, e, k⟩ := q
  unfold V3 at e
  split at e
  · split at e
    · rename_i hl
      cases e
      obtain ⟨v, rfl, r1⟩ := KH rw
      exact .inr ⟨_, by rw [r1.str_eq], hl, k R H _ (Ext.refl _) rh (Rw.int _)⟩
    · cases e
  · cases e
    obtain ⟨v, rfl, r1⟩ := KH rw
    obtain ⟨ad, xs, rfl, q1, r2⟩ := rh.tupAt r1
    exact .inl ⟨ad, xs, rfl, .inr q1, by rw [← r2.length]; exact k R H _ (Ext.refl _) rh (Rw.int _)⟩
  · obtain ⟨ys, e1, e2⟩ := Option.map_eq_some_iff.mp e
    cases e2
    obtain ⟨v, rfl, r1⟩ := KH rw
    obtain ⟨ad, xs, rfl, q1, r2⟩ := rh.lsAt r1 e1
    exact .inl ⟨ad, xs, rfl, .inl q1, by rw [← r2.length]; exact k R H _ (Ext.refl _) rh (Rw.int _)⟩
  · cases e
end
end Mi

namespace Mi
open PySem PySem.Spec PyProof.Rows L2

section
variable {prog : Program} {w : World} {A : Around} {E : Value → Shared → Prop} {s : Shared}
end
section
variable {X : Cx}
end
section
variable {X : Cx} {o e : Expr} {es : List Expr} {mo : ME} {ms : MA} {name : Str} {apos cpos : Pos} {T id : String} {f : W → List W → MH → Option (W × MH)}
end
section
variable {X : Cx}
end
section
variable {X : Cx}
end
end Mi

namespace Mi
open PySem PySem.Spec PyProof.Rows L2

structure Cal (P : Program) (w : World) (K : PySem.W.Frag) (mg : Str → Option Value) (base : Heap) (k : Nat) (x : Str) (ps : List Str) (g : FM) : Prop where
  ex : ∃ (f : Addr) (fd : FuncData), FnOk P w K mg base CX0 k f fd ps (spM K ps.length g) ∧ mg x = some (.ref f) ∧ PySem.W.keepIn K (.ref f) = true ∧ Binds K fd ps [] ∧ ∃ (oc : Value) (od : Option Addr) (osl : Array (Option Value)), K.lookup f = some ⟨oc, od, .func fd, osl⟩
structure DefAt (K : PySem.W.Frag) (mg : Str → Option Value) (x : Str) (st : Stmt) (ps : List Str) : Prop where
  ex : ∃ (f : Addr) (fd : FuncData), Fun K x x st f fd ∧ mg x = some (.ref f) ∧ Binds K fd ps []
theorem Za {K : PySem.W.Frag} {h : Heap} {x : Str} {st : Stmt} {f : Addr} {oc : Value} {kV doc pm cd ct : Value} (X : K.In h) (G : h.Ns mainGlobals mg)
    (a : PySem.W.nsIn K mainGlobals x = some (some (.ref f))) (l : K.lookup f = some ⟨oc, od, .func (PySem.W.fnOf x x (QF st) (Qo st) (Qe st) .none kV doc pm an cd ct), sl⟩) (c : PySem.W.codeIn K cd x = true) (k : PySem.W.keepIn K (.ref f) = true)
    (b : ∀ (kV doc pm : Value) (an : Option Addr) (cdv ct : Value) (us : List Value), us.length = ps.length → bindArgs (PySem.W.fnOf x x (QF st) (Qo st) (Qe st) .none kV doc pm an cdv ct) ⟨us, []⟩ = pure (ps.zip us)) : DefAt K mg x st ps :=
  ⟨f, _, Jk l c k, PySem.W.mg_of X G a, (Jk l c k).binds b⟩
structure Glob (K : PySem.W.Frag) (mg : Str → Option Value) (x : Str) (w : W) : Prop where
  ex : ∃ (v : V) (u : Value), mg x = some u ∧ RelV v u ∧ ∀ R, Rw K R w v
theorem YU {K : PySem.W.Frag} (X : K.In h) (G : h.Ns mainGlobals mg) (a : PySem.W.nsIn K mainGlobals x = some (some (.int i t))) : Glob K mg x (.int i) :=
  ⟨.int i, _, PySem.W.mg_of X G a, ⟨t, rfl⟩, fun _ => Rw.int i⟩
noncomputable def Yy : List Str → List W := List.map W.str
theorem Jr {K : PySem.W.Frag} : ∀ (ys : List Str), Rws K R (Yy ys) (ys.map V.str)
  | [] => Rws.nil
  | y :: ys => Rws.cons (Rw.str y) (Jr ys)
theorem ZS : ∀ {its : List Value} {ys : List Str}, StrsAre its ys → Vals (ys.map V.str) its
  | _, _, .nil => .nil
  | _, _, .cons y t r => .cons ⟨t, rfl⟩ (ZS r)
theorem YK {K : PySem.W.Frag} {h : Heap} {x : Str} {c : Addr} {n : Nat} (X : K.In h) (G : h.Ns mainGlobals mg) (a : PySem.W.nsIn K mainGlobals x = some (some (.ref c)))
    (l : K.lookup c = some ⟨.type "tuple", dd, .seq its n, sl⟩) (hz : its.size ≤ sizeLine) (hs : StrsAre its.toList ys) : Glob K mg x (.tup (Yy ys)) :=
  ⟨.ref c, _, PySem.W.mg_of X G a, rfl, fun R => by
    unfold Rw
    exact ⟨c, _, rfl, .inr ⟨_, its, n, l, rfl, rfl, hz, ZS hs⟩, Jr ys⟩⟩
section
variable {X : Cx} {k n : Nat} {g : FM} {x : Str} {ps : List Str} {p pos : Pos} {e : Expr} {es : List Expr} {ms : MA}
theorem Ji (C : Cal X.prog X.w X.K X.mg X.base k x ps g) (hr : Room k X.A) (hg : Gl X x) (ha : PMA X (e :: es) ms) (hn : ps.length = n := by rfl)
    (hdb : (x == ("__debug__" : Str)) = false := by decide) (he : Q3 e = false := by rfl) (hpl : noStar es = true := by rfl) :
    PM X (.Call (.Name x p) (e :: es) [] pos) (JB n g ms) := by
  obtain ⟨f, fd, F, hm, hk, hb, _⟩ := C.ex
  subst hn
  exact XR F hr hg hm hk hb Wn ha hdb he hpl
end
section
variable {P : Program} {w : World} {K : PySem.W.Frag} {mg : Str → Option Value} {base : Heap}
theorem Xp {st : Stmt} (d : DefAt K mg x st ps) (S : FnScope N ps (Qe st)) (hN : N.length = ps.length + more)
    (hbody : ∀ (f : Addr) (cdv : Value) (A : Around) (outer : List Env) (s : Shared) (H : Hp) (E : XK), Room k (A.deeper (envOfC x (Qe st) s.heap.objs.size f cdv)) → Xc (JC CX0 P w K mg base N x (Qe st) f cdv A outer s H E).nox (Qo st) m) :
    Cal P w K mg base (k + 1) x ps (Xx more m) := by
  obtain ⟨f, fd, F, hm, hb⟩ := d.ex
  obtain ⟨oc, od, kV, doc, pm, an, cdv, ct, osl, e, lk, hcd⟩ := F.ex
  exact ⟨f, fd, Wv F S hN (fun cdv A outer s H E hr => hbody f cdv A outer s H E hr), hm, F.kp, hb, oc, od, osl, lk⟩
theorem Cal.imp (C : Cal P w K mg base k x ps g) (h : ∀ vs H Q E, spM K ps.length g' vs H Q E → spM K ps.length g vs H Q E) : Cal P w K mg base k x ps g' := by
  obtain ⟨f, fd, F, r⟩ := C.ex
  exact ⟨f, fd, F.imp h, r⟩
end
theorem Jx {K : PySem.W.Frag} : ∀ (ns : List Int), Rws K R (ns.map W.int) (ns.map V.int)
  | [] => Rws.nil
  | n :: ns => Rws.cons (Rw.int n) (Jx ns)
theorem Y6 {l : PySem.W.OpenLaw} {d : DefRec} {K : Params → PySem.W.Frag} {st : Stmt} {sem : FM} {k : Nat} (hn : l.most = some 63) (hdf : d.params.defaults = []) (hr : Room k callerA) (hdn : d.name = "law")
    (hY : ∀ (w : World) (h : Heap), YP w h → (K w.params).In h)
    (hb : ∀ (kV doc pm : Value) (an : Option Addr) (cdv ct : Value) (s : Shared) (u : Value), BindsTo s (PySem.W.fnOf "law" "law" (QF st) (Qo st) (Qe st) .none kV doc pm an cdv ct) ⟨[u], []⟩ [("script", u)])
    (F : ∀ (w : World) (mg : Str → Option Value) (h : Heap), (K w.params).In h → h.Ns mainGlobals mg →
      DefAt (K w.params) mg "law" st ["script"] ∧ ∀ base : Heap, (K w.params).In base → base.Ns mainGlobals mg → Cal l.prog w (K w.params) mg base k "law" ["script"] sem)
    (main : ∀ ns : List Int, ns.length ≤ 63 → ∃ h', sem [.frz (ns.map W.int)] [] = some (.bl true, h')) :
    PySem.W.WalkO q loose XP YP l.row.toRowW d [] (fun f vs => PySem.call f vs) := by
  refine L2.X8 (n := 63) (k := k) (x := "script") (CX := fun _ => CX0) (sp := fun w => spM (K w.params) 1 sem) hn (by decide) hdf hr hY ?_ ?_ fun _ _ _ _ _ z => z
  · intro w mg fa h KX G hmg
    obtain ⟨D, Fn⟩ := F w mg h KX G
    obtain ⟨f, fd, Fu, hm, _⟩ := D.ex
    rw [hdn] at hmg
    rw [hm] at hmg
    cases hmg
    obtain ⟨oc, od, kV, doc, pm, an, cdv, ct, osl, e, lk, hcd⟩ := Fu.ex
    refine ⟨fd, fun s u => ?_, fun base kb nb => ?_⟩
    rotate_left
    · obtain ⟨f', fd', F', hm', _, _, oc', od', osl', lk'⟩ := (Fn base kb nb).ex
      rw [hm] at hm'
      cases hm'
      rw [lk] at lk'
      cases lk'
      exact F'
    rw [e]
    exact hb kV doc pm an cdv ct s u
  · intro w H a ns hl hO hS
    obtain ⟨h', e⟩ := main ns hl
    refine ⟨⟨fun _ => 0, 0, H, fun _ => none⟩, [.frz (ns.map W.int)], [], .bl true, h', rfl, ⟨rfl, fun _ _ z => z, fun n hn => absurd hn (Nat.not_lt_zero _), fun m n hm => absurd hm (Nat.not_lt_zero _), (fun n o z => by simp at z), (fun _ _ z => by cases z), (fun _ _ => rfl), (fun _ _ z => by cases z)⟩, ?_, e, fun R' H' v _ _ rv => rv.bl_eq⟩
    refine Rws.cons ?_ Rws.nil
    unfold Rw
    exact ⟨a, _, rfl, hS, Jx ns⟩
end Mi

namespace Mi
open PySem PySem.Spec PyProof.Rows L2

noncomputable def XS (scope : Scope) : Bool := scope.names.all fun y => y.2 != .cell && (y.2 != .local || scope.names.lookup y.1 == some .local)
noncomputable def Wg (N : List Str) (xs scope : Scope) (cp : List (Option Nat)) (Nb : List Str) : Bool := (cp.zip Nb).all fun p => match p.1 with
  | none => true
  | some j => N[j]? == some p.2 && (xs.names.lookup p.2 == some .cell || xs.names.lookup p.2 == some .free) && scope.names.lookup p.2 == some .free
noncomputable def KU (scope : Scope) (ks : List Str) : Bool := scope.names.all fun y => y.2 != .free || ks.contains y.1
theorem Qw {env : Env} : ∀ {names : List (Str × NameKind)} {x : Str}, names.lookup x = some .free →
    (names.map fun (n, k) => if (k == NameKind.free && env.scope.kind == .function && env.kindOf n == some .cell) then (n, NameKind.cell) else (n, k)).lookup x = some .cell ∨
    (names.map fun (n, k) => if (k == NameKind.free && env.scope.kind == .function && env.kindOf n == some .cell) then (n, NameKind.cell) else (n, k)).lookup x = some .free
  | [], _, h => by simp at h
  | (n, k) :: r, x, h => by
    have ih := @Qw env r x
    rw [List.map_cons]
    dsimp only
    cases hx : x == n with
    | true =>
      simp only [List.lookup_cons, hx] at h
      cases h
      by_cases hc : (NameKind.free == NameKind.free && env.scope.kind == .function && env.kindOf n == some .cell) = true
      · rw [if_pos hc]; exact .inl (by simp [List.lookup_cons, hx])
      · rw [if_neg hc]; exact .inr (by simp [List.lookup_cons, hx])
    | false =>
      simp only [List.lookup_cons, hx] at h
      by_cases hc : (k == NameKind.free && env.scope.kind == .function && env.kindOf n == some .cell) = true
      · rw [if_pos hc]; simp only [List.lookup_cons, hx]; exact ih h
      · rw [if_neg hc]; simp only [List.lookup_cons, hx]; exact ih h
theorem Qz {env : Env} : ∀ {names : List (Str × NameKind)} {x : Str} {k' : NameKind}, (∀ y ∈ names, y.2 ≠ .cell) → (k' = .cell ∨ k' = .free) →
    (names.map fun (n, k) => if (k == NameKind.free && env.scope.kind == .function && env.kindOf n == some .cell) then (n, NameKind.cell) else (n, k)).lookup x = some k' → (x, NameKind.free) ∈ names
  | [], _, _, _, _, h => by simp at h
  | (n, k) :: r, x, k', hn, hk, h => by
    rw [List.map_cons] at h
    dsimp only at h
    have ih := @Qz env r x k' (fun y hy => hn y (List.mem_cons_of_mem _ hy)) hk
    cases hx : x == n with
    | true =>
      have : x = n := eq_of_beq hx
      subst this
      by_cases hc : (k == NameKind.free && env.scope.kind == .function && env.kindOf x == some .cell) = true
      · have : k = .free := by
          simp only [Bool.and_eq_true, beq_iff_eq] at hc; exact hc.1.1
        subst this
        exact List.mem_cons_self
      · rw [if_neg hc] at h
        simp [List.lookup_cons] at h
        subst h
        rcases hk with z | z
        · exact absurd z (hn (x, k) List.mem_cons_self)
        · subst z; exact List.mem_cons_self
    | false =>
      refine List.mem_cons_of_mem _ (ih ?_)
      by_cases hc : (k == NameKind.free && env.scope.kind == .function && env.kindOf n == some .cell) = true
      · rw [if_pos hc] at h; simpa only [List.lookup_cons, hx] using h
      · rw [if_neg hc] at h; simpa only [List.lookup_cons, hx] using h
theorem JK {cl : List (Str × Addr)} (h : cl.lookup x = some c) : (x, c) ∈ cl := by
  induction cl with
  | nil => simp at h
  | cons p r ih =>
    obtain ⟨n, a⟩ := p
    cases hx : x == n with
    | true =>
      simp only [List.lookup_cons, hx] at h
      cases h
      rw [eq_of_beq hx]; exact List.mem_cons_self
    | false =>
      simp only [List.lookup_cons, hx] at h
      exact List.mem_cons_of_mem _ (ih h)
theorem ZF {cl : List (Str × Addr)} (h : x ∈ cl.map (·.1)) : ∃ c, cl.lookup x = some c := by
  induction cl with
  | nil => simp at h
  | cons p r ih =>
    obtain ⟨n, a⟩ := p
    cases hx : x == n with
    | true => exact ⟨a, by simp only [List.lookup_cons, hx]⟩
    | false =>
      rcases List.mem_cons.mp h with z | z
      · dsimp only at z; rw [z, beq_self_eq_true] at hx; cases hx
      · obtain ⟨c, hc⟩ := ih z
        exact ⟨c, by simp only [List.lookup_cons, hx]; exact hc⟩
theorem YO (clos : closureFor scope X.env = pure cl) (kind : scope.kind = .function) (hs : XS scope = true) (hk : cl.map (·.1) = ks) (hks : KU scope ks = true)
    (hsub : ∀ p ∈ cl, X.env.cells.lookup p.1 = some p.2) (hN : X.N = N) (hx : X.env.scope = xs) (hl : cp.length = Nb.length) (hc : Wg N xs scope cp Nb = true) : BlkOk X scope cl Nb cp := by
  have hcell : ∀ y ∈ scope.names, y.2 ≠ .cell := fun y hy => by
    have := List.all_eq_true.mp hs y hy
    simp only [Bool.and_eq_true, bne_iff_ne] at this
    exact this.1
  refine ⟨clos, hcell, kind, fun y hy hl => ?_, fun x c h => hsub _ (JK h), fun x h => ?_, hl, fun i j x h1 h2 => ?_⟩
  · have := List.all_eq_true.mp hs y hy
    simp only [Bool.and_eq_true, Bool.or_eq_true, bne_iff_ne, beq_iff_eq] at this
    rcases this.2 with z | z
    · exact absurd hl z
    · exact z
  · have hm : (x, NameKind.free) ∈ scope.names := by
      rcases h with h | h
      · exact Qz hcell (.inl rfl) h
      · exact Qz hcell (.inr rfl) h
    have := List.all_eq_true.mp hks _ hm
    simp only [Bool.or_eq_true, bne_iff_ne, ne_eq, not_true_eq_false, false_or, List.contains_iff_mem] at this
    exact ZF (by rw [hk]; exact this)
  · have hz : (cp.zip Nb)[i]? = some (some j, x) := by rw [List.getElem?_zip_eq_some]; exact ⟨h1, h2⟩
    have := List.all_eq_true.mp hc _ (List.mem_of_getElem? hz)
    simp only [Bool.and_eq_true, Bool.or_eq_true, beq_iff_eq] at this
    obtain ⟨⟨a, b⟩, c⟩ := this
    refine ⟨by rw [hN]; exact a, ?_, ?_, Qw c⟩
    · rw [hx]
      rcases b with b | b
      · exact .inr (.inl b)
      · exact .inr (.inr b)
    · unfold Env.kindOf
      rw [hx]; exact b
end Mi

namespace Mi
open PySem PySem.Spec PyProof.Rows L2
theorem QY (items : List W) (h : MH) : live none items h := fun _ z => by cases z
theorem Q1 {mt : MT} {me : ME} {h : MH} : ∀ (rest acc : List W) (o : Option W),
    (∀ w ∈ rest, mt (some w :: caps) h = some (p w, h)) → (∀ w ∈ rest, p w = true → me (some w :: caps) h = some (f w, h)) → acc.length + rest.length ≤ sizeLine →
    QW fin items none (VD 0) mt me rest acc (o :: caps) h = fin (acc ++ (rest.filter p).map f) h
  | [], acc, o, _, _, _ => by
    unfold QW
    rw [if_pos (QY _ _)]; simp
  | w :: rest, acc, o, ht, he, hl => by
    unfold QW
    rw [if_pos (QY _ _)]
    have h1 : VD 0 w (o :: caps) h = some (some w :: caps) := rfl
    rw [h1, Option.bind_some, ht w List.mem_cons_self, Option.bind_some]
    have hl' : acc.length + (rest.length + 1) ≤ sizeLine := by simpa using hl
    cases hp : p w with
    | true =>
      simp only [hp]
      rw [he w List.mem_cons_self hp, Option.bind_some, if_pos (by lia)]
      rw [Q1 rest (acc ++ [f w]) (some w) (fun x hx => ht x (List.mem_cons_of_mem _ hx)) (fun x hx => he x (List.mem_cons_of_mem _ hx)) (by simp; lia)]
      simp [List.filter_cons, hp]
    | false =>
      simp only [hp]
      rw [Q1 rest acc (some w) (fun x hx => ht x (List.mem_cons_of_mem _ hx)) (fun x hx => he x (List.mem_cons_of_mem _ hx)) (by lia)]
      simp [List.filter_cons, hp]
theorem VS : Zf items none b body [] σ h = some (.nx σ h) := by
  rw [Zf, if_pos (QY _ _)]
end Mi

namespace Mi
open PySem PySem.Spec PyProof.Rows L2
section
variable {σ σ1 : MSt} {h h1 h2 h3 : MH} {a b c w : W} {ws : List W} {ma mb mc : ME} {ms : MA} {mt mu : MT} {s1 s2 : SM} {f f' : W → W → MH → Option (W × MH)} {g : List W → MH → Option (W × MH)} {z : MF}
end
theorem Kc (c : (-(2 ^ 64) < i ∧ i < 2 ^ 64) ∨ (-(2 ^ 64) < j ∧ j < 2 ^ 64)) : K8 (.int i) (.int j) h = some (.int (i * j), h) := by unfold K8; exact if_pos c
theorem Vj (c : 0 < j) : VQ (.int i) (.int j) h = some (.int (i % j), h) := by unfold VQ; exact if_pos c
theorem Kt (c : 0 ≤ j ∧ j ≤ 1000000 ∧ i.natAbs < 2 ^ 64) : VG (.int i) (.int j) h = some (.int (i ^ j.toNat), h) := by unfold VG; exact if_pos c
end Mi

namespace Mi
open PySem PySem.Spec PyProof.Rows L2
section
variable {X : Cx} {o i e : Expr} {mo mi mv : ME} {pos pos' : Pos}
end
section
variable {X : Cx} {o i e : Expr} {mo mi mv : ME} {pos pos' : Pos}
end
end Mi

namespace Mi
open PySem PySem.Spec PyProof.Rows L2
end Mi

namespace Mi
open PySem PySem.Spec PyProof.Rows L2 PySem.SeqAt
end Mi

namespace Mi
open PySem PySem.Spec PyProof.Rows L2
inductive TabIs : List DictEntry → List (Str × Int) → Prop where
  | nil : TabIs [] []
  | cons {e : DictEntry} {x : Str} {i : Int} {t t' : Tok} {es : List DictEntry} {tab : List (Str × Int)} (hk : e.key = .str x t) (hv : e.val = .int i t') (r : TabIs es tab) : TabIs (e :: es) ((x, i) :: tab)
structure GTab (w : World) (K : PySem.W.Frag) (mg : Str → Option Value) (x : Str) (tab : List (Str × Int)) : Prop where
  ex : ∃ (a : Addr) (es : List DictEntry) (n : Nat), mg x = some (.ref a) ∧ K.lookup a = some ⟨.type "dict", none, .dict es.toArray n, #[]⟩ ∧ PySem.W.KeysLit w.params es ∧ (a == sysModules) = false ∧ TabIs es tab
theorem Wp {K : PySem.W.Frag} {x : Str} {c : Addr} {n : Nat} (X : K.In h) (G : h.Ns mainGlobals mg) (a : PySem.W.nsIn K mainGlobals x = some (some (.ref c)))
    (l : K.lookup c = some ⟨.type "dict", none, .dict es.toArray n, #[]⟩) (k : PySem.W.KeysLit w.params es) (s : (c == sysModules) = false) (t : TabIs es tab) : GTab w K mg x tab :=
  ⟨c, es, n, PySem.W.mg_of X G a, l, k, s, t⟩
section
variable {X : Cx} {c : Addr} {es : List DictEntry} {n : Nat} {tab : List (Str × Int)}
variable {a : Expr} {ma : ME} {x : Str} {pos pos' : Pos}
end
end Mi

namespace Mi
open PySem PySem.Spec PyProof.Rows L2
theorem XF (a b : Int) (h : MH) : wEq (.int a) (.int b) h = some (.bl (a == b), h) := by unfold wEq; simp [drf, eqW]
end Mi

namespace Mi
open PySem PySem.Spec PyProof.Rows L2
end Mi

namespace Mi
open PySem PySem.Spec PyProof.Rows L2
section
variable {X : Cx} {tg : Expr}
end
section
variable {K : PySem.W.Frag} {R : Rn}
end
section
variable {X : Cx} {tg a b d : Expr} {ms : MA} {p pos : Pos}
end
end Mi

namespace Mi
open PySem PySem.Spec PyProof.Rows L2
section
variable {K : PySem.W.Frag} {R : Rn}
noncomputable abbrev DicR (K : PySem.W.Frag) (R : Rn) : List (Key × W) → List (Key × V) → Prop := Paired fun p q => p.1 = q.1 ∧ Rw K R p.2 q.2
end
section
variable {X : Cx} {o i e a b : Expr} {mo mi mv ma mb : ME} {pos pos' : Pos}
end
end Mi

namespace Mi
open PySem PySem.Spec PyProof.Rows L2
end Mi

namespace Mi
open PySem PySem.Spec PyProof.Rows L2
mutual
noncomputable def pur : W → Bool
  | .tup ws => Zm ws
  | .lst ws => Zm ws
  | .frz ws => Zm ws
  | .ref _ => false
  | _ => true
noncomputable def Zm : List W → Bool
  | [] => true
  | w :: ws => pur w && Zm ws
end
noncomputable def YV : MO → Bool
  | .lst ws => Zm ws
  | .dic kvs => Zm (kvs.map (·.2))
  | .dct kvs => Zm (kvs.map (·.2))
  | .ins _ _ => false
mutual
noncomputable def th (f : Nat → Option W) : W → Option W
  | .tup ws => (ths f ws).map .tup
  | .lst ws => (ths f ws).map .lst
  | .frz ws => (ths f ws).map .frz
  | .ref j => f j
  | w => some w
noncomputable def ths (f : Nat → Option W) : List W → Option (List W)
  | [] => some []
  | w :: ws => (th f w).bind fun x => (ths f ws).map (x :: ·)
end
noncomputable def thO (f : Nat → Option W) : MO → Option MO
  | .lst ws => (ths f ws).map .lst
  | .dic kvs => (ths f (kvs.map (·.2))).map fun vs => .dic ((kvs.map (·.1)).zip vs)
  | .dct kvs => (ths f (kvs.map (·.2))).map fun vs => .dct ((kvs.map (·.1)).zip vs)
  | .ins _ _ => none
noncomputable def res (kp : Nat → Option Nat) (g : MH) : Nat → Nat → Option W
  | 0, j => (kp j).map .ref
  | d + 1, j => match kp j with
    | some n => some (.ref n)
    | none => match g[j]? with
      | some (.lst ws) => (ths (res kp g d) ws).map .lst
      | _ => none
noncomputable def Xj (ns js : List Nat) (N j : Nat) : Option Nat := match ns[j]? with
  | some n => some n
  | none => (js.findIdx? (· == j)).map (N + ·)
noncomputable def JD : Nat → List W → Option (List W × List Nat)
  | _, [] => some ([], [])
  | k, .ref n :: ws => (JD (k + 1) ws).map fun p => (.ref k :: p.1, n :: p.2)
  | k, w :: ws => if pur w then (JD k ws).map fun p => (w :: p.1, p.2) else none
noncomputable def Qk : List Nat → List MO → MH → MH
  | n :: ns, o :: os, h => Qk ns os (h.set n o)
  | _, _, h => h
noncomputable def WA (h : MH) (n : Nat) : Option MO := match h[n]? with | some o => if YV o then some o else none | none => none
noncomputable def Wu (fr : W → List Nat) (m : FM) (as : List W) (ns : List Nat) (h : MH) : Option (W × MH) :=
  if ns.Nodup then (Q5 (WA h) ns).bind fun h0 => (m as h0).bind fun p =>
    if (fr p.1).Nodup ∧ (∀ j ∈ fr p.1, ns.length ≤ j) then
      (th (res (Xj ns (fr p.1) h.length) p.2 3) p.1).bind fun w =>
      (Q5 (fun j => (p.2[j]?).bind (thO (res (Xj ns (fr p.1) h.length) p.2 3))) (List.range ns.length)).bind fun os =>
      (Q5 (fun j => (p.2[j]?).bind (thO (res (Xj ns (fr p.1) h.length) p.2 3))) (fr p.1)).map fun us =>
      (w, Qk ns os h ++ us)
    else none
  else none
noncomputable def box (fr : W → List Nat) (m : FM) : FM := fun ws h => (JD 0 ws).bind fun a => Wu fr m a.1 a.2 h
section
variable {K : PySem.W.Frag} {R R' : Rn}
mutual
theorem Rw.pur_mono (hf : ∀ a o, R.F a = some o → R'.F a = some o) : ∀ (w : W) (v : V), pur w = true → Rw K R w v → Rw K R' w v
  | .non, _, _, h => by unfold Rw at h ⊢; exact h
  | .bl _, _, _, h => by unfold Rw at h ⊢; exact h
  | .int _, _, _, h => by unfold Rw at h ⊢; exact h
  | .str _, _, _, h => by unfold Rw at h ⊢; exact h
  | .ty _, _, _, h => by unfold Rw at h ⊢; exact h
  | .tup ws, _, p, h => by
    unfold Rw at h ⊢
    obtain ⟨a, xs, e1, e2, e3⟩ := h
    exact ⟨a, xs, e1, Q7 hf e2, Rws.pur_mono hf ws xs (by unfold pur at p; exact p) e3⟩
  | .lst ws, _, p, h => by
    unfold Rw at h ⊢
    obtain ⟨a, xs, e1, e2, e3⟩ := h
    exact ⟨a, xs, e1, hf a _ e2, Rws.pur_mono hf ws xs (by unfold pur at p; exact p) e3⟩
  | .frz ws, _, p, h => by
    unfold Rw at h ⊢
    obtain ⟨a, xs, e1, e2, e3⟩ := h
    exact ⟨a, xs, e1, Q9 hf e2, Rws.pur_mono hf ws xs (by unfold pur at p; exact p) e3⟩
  | .ref n, _, p, h => by unfold pur at p; cases p
theorem Rws.pur_mono (hf : ∀ a o, R.F a = some o → R'.F a = some o) : ∀ (ws : List W) (vs : List V), Zm ws = true → Rws K R ws vs → Rws K R' ws vs
  | [], _, _, h => by unfold Rws at h ⊢; exact h
  | w :: ws, _, p, h => by
    unfold Rws at h ⊢
    obtain ⟨v, vs', e1, e2, e3⟩ := h
    unfold Zm at p
    rw [Bool.and_eq_true] at p
    exact ⟨v, vs', e1, Rw.pur_mono hf w v p.1 e2, Rws.pur_mono hf ws vs' p.2 e3⟩
end
mutual
theorem Rw.th_ok (hf : ∀ a o, R.F a = some o → R'.F a = some o) (hr : ∀ j v w, Rw K R (.ref j) v → f j = some w → Rw K R' w v) : ∀ (w : W) (v : V) (w' : W), th f w = some w' → Rw K R w v → Rw K R' w' v
  | .non, _, _, e, h => by unfold th at e; cases e; unfold Rw at h ⊢; exact h
  | .bl _, _, _, e, h => by unfold th at e; cases e; unfold Rw at h ⊢; exact h
  | .int _, _, _, e, h => by unfold th at e; cases e; unfold Rw at h ⊢; exact h
  | .str _, _, _, e, h => by unfold th at e; cases e; unfold Rw at h ⊢; exact h
  | .ty _, _, _, e, h => by unfold th at e; cases e; unfold Rw at h ⊢; exact h
  | .tup ws, _, _, e, h => by
    unfold th at e
    obtain ⟨us, h1, h2⟩ := Option.map_eq_some_iff.mp e
    subst h2
    unfold Rw at h ⊢
    obtain ⟨a, xs, e1, e2, e3⟩ := h
    exact ⟨a, xs, e1, Q7 hf e2, Rws.th_ok hf hr ws xs us h1 e3⟩
  | .lst ws, _, _, e, h => by
    unfold th at e
    obtain ⟨us, h1, h2⟩ := Option.map_eq_some_iff.mp e
    subst h2
    unfold Rw at h ⊢
    obtain ⟨a, xs, e1, e2, e3⟩ := h
    exact ⟨a, xs, e1, hf a _ e2, Rws.th_ok hf hr ws xs us h1 e3⟩
  | .frz ws, _, _, e, h => by
    unfold th at e
    obtain ⟨us, h1, h2⟩ := Option.map_eq_some_iff.mp e
    subst h2
    unfold Rw at h ⊢
    obtain ⟨a, xs, e1, e2, e3⟩ := h
    exact ⟨a, xs, e1, Q9 hf e2, Rws.th_ok hf hr ws xs us h1 e3⟩
  | .ref n, v, w', e, h => by unfold th at e; exact hr n v w' h e
theorem Rws.th_ok (hf : ∀ a o, R.F a = some o → R'.F a = some o) (hr : ∀ j v w, Rw K R (.ref j) v → f j = some w → Rw K R' w v) : ∀ (ws : List W) (vs : List V) (ws' : List W), ths f ws = some ws' → Rws K R ws vs → Rws K R' ws' vs
  | [], _, _, e, h => by unfold ths at e; cases e; unfold Rws at h ⊢; exact h
  | w :: ws, _, _, e, h => by
    unfold ths at e
    obtain ⟨x, h1, h2⟩ := Option.bind_eq_some_iff.mp e
    obtain ⟨us, h3, h4⟩ := Option.map_eq_some_iff.mp h2
    subst h4
    unfold Rws at h
    obtain ⟨v, vs', e1, e2, e3⟩ := h
    subst e1
    exact Rws.cons (Rw.th_ok hf hr w v x h1 e2) (Rws.th_ok hf hr ws vs' us h3 e3)
end
theorem DicR.vals : ∀ {kvs : List (Key × W)} {kx : List (Key × V)}, Paired (fun p q => p.1 = q.1 ∧ Rw K R p.2 q.2) kvs kx → Rws K R (kvs.map (·.2)) (kx.map (·.2)) ∧ kvs.map (·.1) = kx.map (·.1) := by
  intro kvs kx p
  induction p with
  | nil => exact ⟨Rws.nil, rfl⟩
  | cons h t ih => exact ⟨Rws.cons h.2 ih.1, by rw [List.map_cons, List.map_cons, ih.2, h.1]⟩
theorem DicR.zip : ∀ {ks : List Key} {kx : List (Key × V)} {us : List W}, ks = kx.map (·.1) → Rws K R us (kx.map (·.2)) → Paired (fun p q => p.1 = q.1 ∧ Rw K R p.2 q.2) (ks.zip us) kx
  | _, [], us, e, h => by
    subst e
    exact .nil
  | _, q :: kx, us, e, h => by
    subst e
    rw [List.map_cons] at h
    cases us with
    | nil => rw [Rws.nil_iff] at h; cases h
    | cons u us =>
      rw [Rws.cons_iff] at h
      obtain ⟨v, vs, e1, e2, e3⟩ := h
      cases e1
      exact .cons ⟨rfl, e2⟩ (DicR.zip rfl e3)
theorem Jw : ∀ (n : Nat) (w : W) (k : Tr), Xn n w = some k → pur w = true
  | 0, _, _, e => by simp [Xn] at e
  | n + 1, w, k, e => by
    cases w with
    | tup ws =>
      simp only [Xn] at e
      obtain ⟨ks, e1, hk⟩ := Option.map_eq_some_iff.mp e
      unfold pur
      clear e hk
      induction ws generalizing ks with
      | nil => rfl
      | cons x ws ih =>
        rw [List.mapM_cons] at e1
        obtain ⟨k1, h1, e2⟩ := Option.bind_eq_some_iff.mp e1
        obtain ⟨ks1, h2, _⟩ := Option.bind_eq_some_iff.mp e2
        unfold Zm
        rw [Jw n x k1 h1, ih ks1 h2]; rfl
    | lst ws => simp [Xn] at e
    | frz ws => simp [Xn] at e
    | ref j => simp [Xn] at e
    | _ => rfl
theorem Vc (e : nrm w = some k) : pur w = true := by
  cases w with
  | tup ws => exact Jw 8 _ k e
  | _ => cases e
theorem DctR.vals : ∀ {kvs : List (W × W)} {kx : List (Tr × Addr × V)}, Paired (fun p q => Rw K R p.1 (.ref q.2.1) ∧ nrm p.1 = some q.1 ∧ Rw K R p.2 q.2.2) kvs kx → Rws K R (kvs.map (·.2)) (kx.map (·.2.2)) ∧ Paired (fun p q => Rw K R p (.ref q.2.1) ∧ nrm p = some q.1) (kvs.map (·.1)) kx := by
  intro kvs kx p
  induction p with
  | nil => exact ⟨Rws.nil, .nil⟩
  | cons h t ih => exact ⟨Rws.cons h.2.2 ih.1, .cons ⟨h.1, h.2.1⟩ ih.2⟩
theorem DctR.zip : ∀ {ks : List W} {kx : List (Tr × Addr × V)} {us : List W}, Paired (fun p q => Rw K R p (.ref q.2.1) ∧ nrm p = some q.1) ks kx → Rws K R us (kx.map (·.2.2)) → Paired (fun p q => Rw K R p.1 (.ref q.2.1) ∧ nrm p.1 = some q.1 ∧ Rw K R p.2 q.2.2) (ks.zip us) kx
  | _, [], us, .nil, h => .nil
  | _, q :: kx, us, .cons e t, h => by
    rw [List.map_cons] at h
    cases us with
    | nil => rw [Rws.nil_iff] at h; cases h
    | cons u us =>
      rw [Rws.cons_iff] at h
      obtain ⟨v, vs, e1, e2, e3⟩ := h
      cases e1
      exact .cons ⟨e.1, e.2, e2⟩ (DctR.zip t e3)
theorem Jj (hf : ∀ a o, R.F a = some o → R'.F a = some o) (hr : ∀ j v w, Rw K R (.ref j) v → f j = some w → Rw K R' w v) (e : thO f o = some o') (h : Ro K R o u) : Ro K R' o' u := by
  cases o with
  | lst ws =>
    unfold thO at e
    obtain ⟨us, h1, h2⟩ := Option.map_eq_some_iff.mp e
    subst h2
    obtain ⟨xs, e1, e2⟩ := h
    exact ⟨xs, e1, Rws.th_ok hf hr ws xs us h1 e2⟩
  | dic kvs =>
    unfold thO at e
    obtain ⟨us, h1, h2⟩ := Option.map_eq_some_iff.mp e
    subst h2
    obtain ⟨kx, e1, e2⟩ := h
    obtain ⟨a, b⟩ := DicR.vals e2
    exact ⟨kx, e1, DicR.zip b (Rws.th_ok hf hr _ _ us h1 a)⟩
  | dct kvs =>
    unfold thO at e
    obtain ⟨us, h1, h2⟩ := Option.map_eq_some_iff.mp e
    subst h2
    obtain ⟨kx, e1, e2⟩ := h
    obtain ⟨a, b⟩ := DctR.vals e2
    exact ⟨kx, e1, DctR.zip (Paired.mapP b fun p q z => ⟨Rw.pur_mono hf _ _ (Vc z.2) z.1, z.2⟩) (Rws.th_ok hf hr _ _ us h1 a)⟩
  | ins C fs => cases e
theorem Z9 (hf : ∀ a o, R.F a = some o → R'.F a = some o) (p : YV o = true) (h : Ro K R o u) : Ro K R' o u := by
  cases o with
  | lst ws =>
    obtain ⟨xs, e1, e2⟩ := h
    exact ⟨xs, e1, Rws.pur_mono hf ws xs p e2⟩
  | dic kvs =>
    obtain ⟨kx, e1, e2⟩ := h
    refine ⟨kx, e1, ?_⟩
    have p' : Zm (kvs.map (·.2)) = true := p
    clear p e1
    revert p'
    induction e2 with
    | nil => exact fun _ => .nil
    | cons h t ih =>
      intro p'
      rw [List.map_cons] at p'
      unfold Zm at p'
      rw [Bool.and_eq_true] at p'
      exact .cons ⟨h.1, Rw.pur_mono hf _ _ p'.1 h.2⟩ (ih p'.2)
  | dct kvs =>
    obtain ⟨kx, e1, e2⟩ := h
    refine ⟨kx, e1, ?_⟩
    have p' : Zm (kvs.map (·.2)) = true := p
    clear p e1
    revert p'
    induction e2 with
    | nil => exact fun _ => .nil
    | cons h t ih =>
      intro p'
      rw [List.map_cons] at p'
      unfold Zm at p'
      rw [Bool.and_eq_true] at p'
      exact .cons ⟨Rw.pur_mono hf _ _ (Vc h.2.1) h.1, h.2.1, Rw.pur_mono hf _ _ p'.1 h.2.2⟩ (ih p'.2)
  | ins C fs => cases p
theorem Z6 (hf : ∀ a o, R.F a = some o → R0.F a = some o) (hρ : ∀ (i n : Nat), all[i]? = some n → i < R0.N ∧ R0.ρ i = R.ρ n) : ∀ {ws : List W} {vs : List V} {pre : List Nat} {as : List W} {ns : List Nat}, JD pre.length ws = some (as, ns) → all = pre ++ ns → Rws K R ws vs → Rws K R0 as vs
  | [], vs, pre, as, ns, e, ha, h => by
    unfold JD at e; cases e
    rw [Rws.nil_iff] at h; subst h
    exact Rws.nil
  | w :: ws, vs, pre, as, ns, e, ha, h => by
    rw [Rws.cons_iff] at h
    obtain ⟨v, vs', rfl, h1, h2⟩ := h
    by_cases hw : ∃ n, w = .ref n
    · obtain ⟨n, rfl⟩ := hw
      unfold JD at e
      obtain ⟨⟨as', ns'⟩, e1, e2⟩ := Option.map_eq_some_iff.mp e
      cases e2
      refine Rws.cons ?_ (Z6 hf hρ (pre := pre ++ [n]) (ns := ns') (by rw [List.length_append]; exact e1) (by rw [ha]; simp) h2)
      obtain ⟨z1, z2⟩ := hρ pre.length n (by rw [ha]; simp)
      unfold Rw at h1 ⊢
      exact ⟨z1, by rw [z2]; exact h1.2⟩
    · have e' : (if pur w then (JD pre.length ws).map fun p => (w :: p.1, p.2) else none) = some (as, ns) := by
        rw [← e]
        cases w <;> first | (exact absurd ⟨_, rfl⟩ hw) | (conv => rhs; unfold JD)
      split at e'
      · rename_i hp
        obtain ⟨⟨as', ns'⟩, e1, e2⟩ := Option.map_eq_some_iff.mp e'
        cases e2
        exact Rws.cons (Rw.pur_mono hf w v hp h1) (Z6 hf hρ e1 ha h2)
      · cases e'
theorem Qp : ∀ (ns : List Nat) (os : List MO) (h : MH), (Qk ns os h).length = h.length
  | [], _, h => by unfold Qk; rfl
  | _ :: _, [], h => by unfold Qk; rfl
  | n :: ns, o :: os, h => by unfold Qk; rw [Qp ns os, List.length_set]
theorem QQ : ∀ (ns : List Nat) (os : List MO) (h : MH) (n : Nat), n ∉ ns → (Qk ns os h)[n]? = h[n]?
  | [], _, h, n, _ => by unfold Qk; rfl
  | _ :: _, [], h, n, _ => by unfold Qk; rfl
  | m :: ns, o :: os, h, n, hn => by
    unfold Qk
    rw [QQ ns os _ n (fun z => hn (List.mem_cons_of_mem _ z)), List.getElem?_set_ne (fun z => hn (by rw [z]; exact List.mem_cons_self))]
theorem Zo : ∀ (ns : List Nat) (os : List MO) (h : MH) (i n : Nat), ns.Nodup → ns.length = os.length → ns[i]? = some n → n < h.length → (Qk ns os h)[n]? = os[i]?
  | [], _, h, i, n, _, _, e, _ => by simp at e
  | m :: ns, [], h, i, n, _, hl, _, _ => by simp at hl
  | m :: ns, o :: os, h, 0, n, hd, hl, e, hn => by
    simp at e; subst e
    unfold Qk
    rw [QQ ns os _ m (List.nodup_cons.mp hd).1, List.getElem?_set_self hn]; rfl
  | m :: ns, o :: os, h, i + 1, n, hd, hl, e, hn => by
    unfold Qk
    rw [Zo ns os (h.set m o) i n (List.nodup_cons.mp hd).2 (by simpa using hl) (by simpa using e) (by rw [List.length_set]; exact hn)]
    simp
end
end Mi

namespace Mi
open PySem PySem.Spec PyProof.Rows L2
theorem ZE : ∀ {ws : List W} {k : Nat} {as : List W} {ns : List Nat}, JD k ws = some (as, ns) → as.length = ws.length
  | [], k, as, ns, e => by unfold JD at e; cases e; rfl
  | w :: ws, k, as, ns, e => by
    cases w <;> unfold JD at e <;> first
      | (obtain ⟨⟨as', ns'⟩, e1, e2⟩ := Option.map_eq_some_iff.mp e
         cases e2
         simp [ZE e1])
      | (split at e
         · obtain ⟨⟨as', ns'⟩, e1, e2⟩ := Option.map_eq_some_iff.mp e
           cases e2
           simp [ZE e1]
         · cases e)
theorem ZT {js : List Nat} (e : js.findIdx? (· == j) = some i) : js[i]? = some j := by
  rw [List.findIdx?_eq_some_iff_getElem] at e
  obtain ⟨h, h1, _⟩ := e
  rw [List.getElem?_eq_getElem h]
  simp at h1
  rw [h1]
theorem ZU {js : List Nat} (e : js.findIdx? (· == j) = none) : j ∉ js := by
  rw [List.findIdx?_eq_none_iff] at e
  intro z
  have := e j z
  simp at this
theorem Vg (e : WA h n = some o) : h[n]? = some o ∧ YV o = true := by
  unfold WA at e
  split at e
  · rename_i o' h'
    split at e
    · rename_i hp; cases e; exact ⟨h', hp⟩
    · cases e
  · cases e
theorem ZH {js : List Nat} (h : js.Nodup) {i i' j : Nat} (e : js[i]? = some j) (e' : js[i']? = some j) : i = i' :=
  (List.getElem?_inj (List.getElem?_eq_some_iff.mp e).1 h).mp (e.trans e'.symm)
section
variable {K : PySem.W.Frag}
open Classical in
theorem KY (q : spM K n (box fr m) vs H Q E) : spM K n m vs H Q E := by
  obtain ⟨R, ws, h, wx, h2, hl, rh, rws, e, k⟩ := q
  unfold box at e
  obtain ⟨⟨as, ns⟩, e1, e2⟩ := Option.bind_eq_some_iff.mp e
  unfold Wu at e2
  split at e2
  case isFalse => cases e2
  rename_i hd
  obtain ⟨h0, e3, e4⟩ := Option.bind_eq_some_iff.mp e2
  obtain ⟨⟨w, g⟩, e5, e6⟩ := Option.bind_eq_some_iff.mp e4
  dsimp only at e6
  split at e6
  case isFalse => cases e6
  rename_i hj
  obtain ⟨hjd, hjk⟩ := hj
  obtain ⟨wy, e7, e8⟩ := Option.bind_eq_some_iff.mp e6
  obtain ⟨os, e9, e10⟩ := Option.bind_eq_some_iff.mp e8
  obtain ⟨us, e11, e12⟩ := Option.map_eq_some_iff.mp e10
  cases e12
  generalize hjs : fr w = js at *
  have hns : ∀ (i x : Nat), ns[i]? = some x → x < R.N ∧ ∃ o, h[x]? = some o ∧ h0[i]? = some o ∧ YV o = true := fun i x hx => by
    obtain ⟨o, z1, z2⟩ := (Qh e3).2 i x hx
    obtain ⟨z3, z4⟩ := Vg z2
    exact ⟨by rw [rh.len]; exact (List.getElem?_eq_some_iff.mp z3).1, o, z3, z1, z4⟩
  have hmem : ∀ x, x ∈ ns → ∃ i : Nat, ns[i]? = some x := fun x hx => List.mem_iff_getElem?.mp hx
  let R0 : Rn := { ρ := fun i => R.ρ (ns.getD i 0), N := ns.length, F := R.F, G := fun a => if ∃ x, x < R.N ∧ x ∉ ns ∧ R.ρ x = a then H a else R.G a }
  have hρ : ∀ (i x : Nat), ns[i]? = some x → i < R0.N ∧ R0.ρ i = R.ρ x := fun i x hx => by
    refine ⟨(List.getElem?_eq_some_iff.mp hx).1, ?_⟩
    show R.ρ (ns.getD i 0) = _
    rw [List.getD_eq_getElem?_getD, hx]; rfl
  have hat : ∀ i : Nat, i < ns.length → ∃ x, ns[i]? = some x := fun i hi => ⟨ns[i], List.getElem?_eq_getElem hi⟩
  have hGo : ∀ x, x < R.N → x ∉ ns → R0.G (R.ρ x) = H (R.ρ x) := fun x hx hn => if_pos ⟨x, hx, hn, rfl⟩
  have hGs : ∀ a o, R.G a = some o → R0.G a = some o := fun a o z => by
    show (if ∃ x, x < R.N ∧ x ∉ ns ∧ R.ρ x = a then H a else R.G a) = some o
    split
    · exact rh.gsub a o z
    · exact z
  have rh0 : Rh K R0 h0 H := by
    refine ⟨(Qh e3).1, rh.sub, fun i hi => ?_, fun i j hi hj ee => ?_, fun i o hi => ?_, fun a o ha => ?_, fun i hi => ?_, fun a o ha => ?_⟩
    · obtain ⟨x, hx⟩ := hat i hi
      rw [(hρ i x hx).2]
      exact rh.sep x (hns i x hx).1
    · obtain ⟨x, hx⟩ := hat i hi
      obtain ⟨y, hy⟩ := hat j hj
      rw [(hρ i x hx).2, (hρ j y hy).2] at ee
      have := rh.inj x y (hns i x hx).1 (hns j y hy).1 ee
      subst this
      exact ZH hd hx hy
    · have hi' : i < ns.length := by rw [(Qh e3).1]; exact (List.getElem?_eq_some_iff.mp hi).1
      obtain ⟨x, hx⟩ := hat i hi'
      obtain ⟨_, o', z1, z2, z3⟩ := hns i x hx
      rw [hi] at z2; cases z2
      rw [(hρ i x hx).2]
      exact Z9 (R := R) (R' := R0) (fun _ _ z => z) z3 (rh.obj x o z1)
    · have ha' : (if ∃ x, x < R.N ∧ x ∉ ns ∧ R.ρ x = a then H a else R.G a) = some o := ha
      split at ha'
      · exact ha'
      · exact rh.gsub a o ha'
    · obtain ⟨x, hx⟩ := hat i hi
      rw [(hρ i x hx).2]
      show (if ∃ y, y < R.N ∧ y ∉ ns ∧ R.ρ y = R.ρ x then H (R.ρ x) else R.G (R.ρ x)) = none
      rw [if_neg]
      · exact rh.gsep x (hns i x hx).1
      · rintro ⟨y, hy, hyn, ey⟩
        have := rh.inj y x hy (hns i x hx).1 ey
        subst this
        exact hyn (List.mem_iff_getElem?.mpr ⟨i, hx⟩)
    · have ha' : (if ∃ x, x < R.N ∧ x ∉ ns ∧ R.ρ x = a then H a else R.G a) = some o := ha
      split at ha'
      · rename_i hx
        obtain ⟨x, hx, _, rfl⟩ := hx
        exact rh.sep x hx
      · exact rh.gf a o ha'
  refine ⟨R0, as, h0, w, g, (ZE e1).trans hl, rh0, Z6 (R := R) (R0 := R0) (pre := []) (fun _ _ z => z) hρ e1 rfl rws, e5, fun R1 H1 v x1 rh1 rv => ?_⟩
  have hG1 : R1.G = R0.G := x1.g
  have hρ1 : ∀ (i x : Nat), ns[i]? = some x → i < R1.N ∧ R1.ρ i = R.ρ x := fun i x hx => by
    obtain ⟨z1, z2⟩ := hρ i x hx
    exact ⟨Nat.lt_of_lt_of_le z1 x1.n, (x1.ρ i z1).trans z2⟩
  have hj1 : ∀ (i j : Nat), js[i]? = some j → ns.length ≤ j ∧ j < R1.N ∧ ∃ o u, us[i]? = some u ∧ g[j]? = some o ∧ thO (res (Xj ns js h.length) g 3) o = some u := fun i j hij => by
    obtain ⟨u, z1, z2⟩ := (Qh e11).2 i j hij
    obtain ⟨o, z3, z4⟩ := Option.bind_eq_some_iff.mp z2
    exact ⟨hjk j (List.mem_iff_getElem?.mpr ⟨i, hij⟩), by rw [rh1.len]; exact (List.getElem?_eq_some_iff.mp z3).1, o, u, z1, z3, z4⟩
  have hapart : ∀ x, x < R.N → ∀ j, ns.length ≤ j → j < R1.N → R1.ρ j ≠ R.ρ x := fun x hx j hj hjn ee => by
    by_cases hm : x ∈ ns
    · obtain ⟨i, hi⟩ := hmem x hm
      obtain ⟨z1, z2⟩ := hρ1 i x hi
      have := rh1.inj j i hjn z1 (ee.trans z2.symm)
      have := (List.getElem?_eq_some_iff.mp hi).1
      lia
    · have z := rh1.gsep j hjn
      rw [hG1, ee, hGo x hx hm] at z
      obtain ⟨_, u, _, hu⟩ := rh.there hx
      rw [hu] at z; cases z
  let R2 : Rn := { ρ := fun n => if n < R.N then R.ρ n else R1.ρ (js.getD (n - R.N) 0), N := R.N + js.length, F := fun a => match R1.F a with | some o => some o | none => if ∃ j, ns.length ≤ j ∧ j < R1.N ∧ j ∉ js ∧ R1.ρ j = a then H1 a else none, G := R.G }
  have r2lo : ∀ x, x < R.N → R2.ρ x = R.ρ x := fun x hx => if_pos hx
  have r2hi : ∀ (i j : Nat), js[i]? = some j → R2.ρ (R.N + i) = R1.ρ j := fun i j hij => by
    show (if R.N + i < R.N then R.ρ (R.N + i) else R1.ρ (js.getD (R.N + i - R.N) 0)) = _
    rw [if_neg (Nat.not_lt.mpr (Nat.le_add_right _ _)), Nat.add_sub_cancel_left, List.getD_eq_getElem?_getD, hij]; rfl
  have f1 : ∀ a o, R1.F a = some o → R2.F a = some o := fun a o z => by
    show (match R1.F a with | some o => some o | none => if ∃ j, ns.length ≤ j ∧ j < R1.N ∧ j ∉ js ∧ R1.ρ j = a then H1 a else none) = some o
    rw [z]
  have fnone : ∀ a, R1.F a = none → (¬ ∃ j, ns.length ≤ j ∧ j < R1.N ∧ j ∉ js ∧ R1.ρ j = a) → R2.F a = none := fun a z1 z2 => by
    show (match R1.F a with | some o => some o | none => if ∃ j, ns.length ≤ j ∧ j < R1.N ∧ j ∉ js ∧ R1.ρ j = a then H1 a else none) = none
    rw [z1]; exact if_neg z2
  have fnew : ∀ j, ns.length ≤ j → j < R1.N → j ∉ js → R2.F (R1.ρ j) = H1 (R1.ρ j) := fun j a b c => by
    show (match R1.F (R1.ρ j) with | some o => some o | none => if ∃ j', ns.length ≤ j' ∧ j' < R1.N ∧ j' ∉ js ∧ R1.ρ j' = R1.ρ j then H1 (R1.ρ j) else none) = _
    rw [rh1.sep j b]; exact if_pos ⟨j, a, b, c, rfl⟩
  have hx2 : Ext R R2 := ⟨Nat.le_add_right _ _, fun x hx => r2lo x hx, fun a o z => f1 a o (x1.f a o z), rfl⟩
  have split2 : ∀ x, x < R2.N → x < R.N ∨ ∃ i j : Nat, x = R.N + i ∧ js[i]? = some j := fun x hx => by
    have hx' : x < R.N + js.length := hx
    by_cases z : x < R.N
    · exact .inl z
    · exact .inr ⟨x - R.N, js[x - R.N]'(Nat.sub_lt_left_of_lt_add (Nat.not_lt.mp z) hx'), by lia, List.getElem?_eq_getElem (Nat.sub_lt_left_of_lt_add (Nat.not_lt.mp z) hx')⟩
  have hr : ∀ d j v w, Rw K R1 (.ref j) v → res (Xj ns js h.length) g d j = some w → Rw K R2 w v := by
    have kp_ok : ∀ j v x, Rw K R1 (.ref j) v → Xj ns js h.length j = some x → Rw K R2 (.ref x) v := fun j v x r z => by
      unfold Rw at r ⊢
      unfold Xj at z
      split at z
      · rename_i y hy
        cases z
        obtain ⟨z1, z2⟩ := hρ1 j x hy
        have hxn := (hns j x hy).1
        exact ⟨Nat.lt_of_lt_of_le hxn hx2.n, by rw [r2lo x hxn, ← z2]; exact r.2⟩
      · obtain ⟨i, z1, z2⟩ := Option.map_eq_some_iff.mp z
        have hij := ZT z1
        subst z2
        rw [← rh.len, r2hi i j hij]
        exact ⟨Nat.add_lt_add_left (List.getElem?_eq_some_iff.mp hij).1 _, r.2⟩
    intro d
    induction d with
    | zero =>
      intro j v w r z
      unfold res at z
      obtain ⟨x, z1, z2⟩ := Option.map_eq_some_iff.mp z
      subst z2
      exact kp_ok j v x r z1
    | succ d ih =>
      intro j v w r z
      unfold res at z
      split at z
      · rename_i x hx
        cases z
        exact kp_ok j v x r hx
      · rename_i hnone
        split at z
        · rename_i ws' hg
          obtain ⟨us', z1, z2⟩ := Option.map_eq_some_iff.mp z
          subst z2
          obtain ⟨xs, o1, o2⟩ := rh1.obj j _ hg
          have hr1 : j < R1.N ∧ v = .ref (R1.ρ j) := by unfold Rw at r; exact r
          unfold Xj at hnone
          split at hnone
          · cases hnone
          · rename_i hnj
            have hnj' : j ∉ js := ZU (by simpa using hnone)
            unfold Rw
            refine ⟨R1.ρ j, xs, hr1.2, ?_, Rws.th_ok f1 ih ws' xs us' z1 o2⟩
            rw [fnew j (List.getElem?_eq_none_iff.mp hnj) hr1.1 hnj']
            exact o1
        · cases z
  refine k R2 H1 v hx2 ⟨?_, fun a o ha => ?_, fun x hx => ?_, fun x y hx hy ee => ?_, fun x o hx => ?_, fun a o ha => ?_, fun x hx => ?_, fun a o ha => ?_⟩ (Rw.th_ok f1 (hr 3) w v _ e7 rv)
  · show R.N + js.length = _
    rw [List.length_append, Qp, ← (Qh e11).1, rh.len]
  · have ha' : (match R1.F a with | some o => some o | none => if ∃ j, ns.length ≤ j ∧ j < R1.N ∧ j ∉ js ∧ R1.ρ j = a then H1 a else none) = some o := ha
    split at ha'
    · rename_i o' ho'
      cases ha'
      exact rh1.sub a _ ho'
    · split at ha'
      · exact ha'
      · cases ha'
  · rcases split2 x hx with hx | ⟨i, j, rfl, hij⟩
    · rw [r2lo x hx]
      refine fnone _ ?_ (fun ⟨j, a, b, _, c⟩ => hapart x hx j a b c)
      by_cases hm : x ∈ ns
      · obtain ⟨i, hi⟩ := hmem x hm
        obtain ⟨z1, z2⟩ := hρ1 i x hi
        rw [← z2]; exact rh1.sep i z1
      · obtain ⟨_, u, _, hu⟩ := rh.there hx
        exact rh1.gf _ u (by rw [hG1, hGo x hx hm]; exact hu)
    · obtain ⟨z1, z2, _⟩ := hj1 i j hij
      rw [r2hi i j hij]
      refine fnone _ (rh1.sep j z2) (fun ⟨j', a, b, c, d⟩ => ?_)
      have := rh1.inj j' j b z2 d
      subst this
      exact c (List.mem_iff_getElem?.mpr ⟨i, hij⟩)
  · rcases split2 x hx with hx | ⟨i, j, rfl, hij⟩ <;> rcases split2 y hy with hy | ⟨i', j', rfl, hij'⟩
    · rw [r2lo x hx, r2lo y hy] at ee; exact rh.inj x y hx hy ee
    · rw [r2lo x hx, r2hi i' j' hij'] at ee
      obtain ⟨z1, z2, _⟩ := hj1 i' j' hij'
      exact absurd ee.symm (hapart x hx j' z1 z2)
    · rw [r2lo y hy, r2hi i j hij] at ee
      obtain ⟨z1, z2, _⟩ := hj1 i j hij
      exact absurd ee (hapart y hy j z1 z2)
    · rw [r2hi i j hij, r2hi i' j' hij'] at ee
      obtain ⟨_, z2, _⟩ := hj1 i j hij
      obtain ⟨_, z2', _⟩ := hj1 i' j' hij'
      have := rh1.inj j j' z2 z2' ee
      subst this
      rw [ZH hjd hij hij']
  · have hx' : x < R2.N := by
      have := (List.getElem?_eq_some_iff.mp hx).1
      rw [List.length_append, Qp, ← (Qh e11).1, ← rh.len] at this
      exact this
    rcases split2 x hx' with hn | ⟨i, j, rfl, hij⟩
    · rw [List.getElem?_append_left (by rw [Qp, ← rh.len]; exact hn)] at hx
      rw [r2lo x hn]
      by_cases hm : x ∈ ns
      · obtain ⟨i, hi⟩ := hmem x hm
        obtain ⟨z1, z2⟩ := hρ1 i x hi
        have hil := (List.getElem?_eq_some_iff.mp hi).1
        rw [Zo ns os h i x hd (by rw [← (Qh e9).1, List.length_range]) hi (by rw [← rh.len]; exact hn)] at hx
        obtain ⟨u, y1, y2⟩ := (Qh e9).2 i i (by rw [List.getElem?_range hil])
        rw [hx] at y1; cases y1
        obtain ⟨o', y3, y4⟩ := Option.bind_eq_some_iff.mp y2
        rw [← z2]
        exact Jj f1 (hr 3) y4 (rh1.obj i o' y3)
      · rw [QQ ns os h x hm] at hx
        obtain ⟨_, u, _, hu⟩ := rh.there hn
        have hu1 : H1 (R.ρ x) = some u := rh1.gsub _ u (by rw [hG1, hGo x hn hm]; exact hu)
        have := rh.obj x o hx
        rw [hu] at this
        rw [hu1]
        exact this.mono hx2
    · obtain ⟨z1, z2, o', u, y1, y2, y3⟩ := hj1 i j hij
      rw [List.getElem?_append_right (by rw [Qp, ← rh.len]; exact Nat.le_add_right _ _), Qp, ← rh.len, Nat.add_sub_cancel_left, y1] at hx
      cases hx
      rw [r2hi i j hij]
      exact Jj f1 (hr 3) y3 (rh1.obj j o' y2)
  · exact rh1.gsub a o (by rw [hG1]; exact hGs a o ha)
  · rcases split2 x hx with hx | ⟨i, j, rfl, hij⟩
    · rw [r2lo x hx]; exact rh.gsep x hx
    · rw [r2hi i j hij]
      obtain ⟨_, z2, _⟩ := hj1 i j hij
      cases z : R2.G (R1.ρ j) with
      | none => rfl
      | some u =>
        have z3 := rh1.gsep j z2
        rw [hG1, hGs _ u z] at z3; cases z3
  · have hg : R1.G a = some o := by rw [hG1]; exact hGs a o ha
    refine fnone a (rh1.gf a o hg) (fun ⟨j, _, b, _, d⟩ => ?_)
    have z3 := rh1.gsep j b
    rw [d, hg] at z3; cases z3
theorem Cal.box (fr : W → List Nat) (C : Cal P w K mg base k x ps g) : Cal P w K mg base k x ps (Mi.box fr g) :=
  C.imp fun _ _ _ _ q => KY q
end
noncomputable def frN : W → List Nat := fun _ => []
end Mi

namespace Mi
open PySem PySem.Spec PyProof.Rows L2
noncomputable def Y9 : List Nat → List W → MSt → Option MSt
  | [], [], σ => some σ
  | i :: is, w :: ws, σ => Y9 is ws (σ.set i (some w))
  | _, _, _ => none
noncomputable def UR (ws : List W) (h : MH) : Option (W × MH) := match ws with
  | [.int i, .int j] => some (.int (if j > i then j else i), h)
  | _ => none
noncomputable def K3 (ws : List W) (h : MH) : Option (W × MH) := match ws with
  | [.int i] => some (.int i, h)
  | [.bl b] => some (.int (if b then 1 else 0), h)
  | _ => none
section
variable {X : Cx}
theorem VB : CallR X (.type "int") (Fs X.K K3) := by
  intro pins s σ H xs us Q I r q
  refine J3 pins s σ H xs us Q I r ?_
  obtain ⟨R, h, ws, w, h', rh, rw, e, k⟩ := q
  unfold K3 at e
  split at e
  · cases e
    obtain ⟨v, rfl, r1⟩ := KH rw
    exact .inl ⟨_, by rw [r1.int_eq], k R H _ (Ext.refl _) rh (Rw.int _)⟩
  · cases e
    obtain ⟨v, rfl, r1⟩ := KH rw
    exact .inr ⟨_, by rw [r1.bl_eq], k R H _ (Ext.refl _) rh (Rw.int _)⟩
  · cases e
noncomputable def rep (x : Str) (n : Int) : Str := ⟨((List.replicate n.toNat x.cps.toList).flatten).toArray⟩
theorem ZL : ∀ (l : List (Array Nat)) (a : Array Nat), l.foldl (· ++ ·) a = (a.toList ++ (l.map Array.toList).flatten).toArray
  | [], a => by simp
  | b :: l, a => by rw [List.foldl_cons, ZL l]; simp
theorem Xm (x : Str) (n : Int) : (⟨(List.replicate n.toNat x.cps).foldl (· ++ ·) #[]⟩ : Str) = rep x n := by
  unfold rep
  rw [ZL]
  simp
theorem VT (x : Str) (h : n < 1) : Str.empty = rep x n := by
  unfold rep
  rw [show n.toNat = 0 by lia]; rfl
theorem XZ (x : Str) : x = rep x 1 := by
  unfold rep
  simp
theorem Ki (n : Int) (h : (x.length == 0) = true) : x = rep x n := by
  unfold rep
  have : x.cps = #[] := by
    have : x.cps.size = 0 := by simpa [Str.length] using h
    exact Array.eq_empty_of_size_eq_zero this
  obtain ⟨c⟩ := x
  simp at this
  subst this
  simp
noncomputable def VO (a b : W) (h : MH) : Option (W × MH) := match a, b with
  | .str x, .int n => if n < 1000 ∧ -1000 < n ∧ x.length < 1000 then some (.str (rep x n), h) else none
  | a, b => K8 a b h
theorem XA : OpR X (binaryOp .Mult) (fun x y H Q => ∃ z n, x = .str z ∧ y = .int n ∧ (n < 1000 ∧ -1000 < n ∧ z.length < 1000) ∧ Q (.str (rep z n)) H) := by
  intro pins s σ H x y v u Q I rx ry ⟨z, n, e1, e2, ⟨h1, h2, h3⟩, q⟩
  subst e1 e2
  obtain ⟨t, rfl⟩ := rx
  obtain ⟨t', rfl⟩ := ry
  have hm : z.length * n.toNat < 1000000 := by
    calc z.length * n.toNat ≤ 999 * 999 := Nat.mul_le_mul (by lia) (by lia)
      _ < 1000000 := by decide
  refine PySem.P.mul_str (by rw [decide_eq_false (by lia), decide_eq_false (by lia)]; rfl) (fun a _ => ?_) (fun a _ => ?_) ?_
  · have : (2 ^ 63 - 1) / n ≥ 1000 := by
      rw [ge_iff_le, Int.le_ediv_iff_mul_le (by lia)]; lia
    lia
  · unfold Builtin.Str.tooLong
    exact decide_eq_false (by show ¬ _; have : sizeLine = 16777216 := by decide
                              lia)
  · have done : ∀ (y : Str) (tk : Tok) (s' : Shared), y = rep z n → Inv X pins σ H s' → EP X pins σ Q (.str y tk) s' := fun y tk s' ey I' => ⟨.str y, H, I', ⟨_, rfl⟩, by rw [ey]; exact q⟩
    split
    · rename_i hn
      exact ⟨by decide, done _ _ _ (VT z hn) (I.tok _)⟩
    · split
      · rename_i hn ho
        rw [Bool.or_eq_true] at ho
        refine done _ _ _ ?_ I
        rcases ho with ho | ho
        · have : n = 1 := by simpa using ho
          subst this; exact XZ z
        · exact Ki n ho
      · refine ⟨?_, done _ _ _ (Xm z n) (I.tok _)⟩
        rw [Xm]
        have hl : (rep z n).length = n.toNat * z.length := by
          unfold rep Str.length
          simp
        rw [hl, Nat.mul_comm]
        have : sizeLine = 16777216 := by decide
        exact Nat.le_of_lt (Nat.lt_of_lt_of_le (Nat.lt_trans hm (by decide)) (Nat.le_of_eq this.symm))
theorem VX : OpR X (binaryOp .Mult) (F2 X.K VO) := by
  intro pins s σ H x y v u Q I rx ry q
  obtain ⟨R, h, a, b, w, h', rh, ra, rb, e, k⟩ := q
  unfold VO at e
  split at e
  · split at e
    · rename_i hl
      cases e
      exact XA pins s σ H x y v u Q I rx ry ⟨_, _, ra.str_eq, rb.int_eq, hl, k R H _ (Ext.refl _) rh (Rw.str _)⟩
    · cases e
  · exact XH pins s σ H x y v u Q I rx ry ⟨R, h, a, b, w, h', rh, ra, rb, e, k⟩
end
section
variable {X : Cx} {elt tg iter c : Expr} {scope : Scope} {pos pos' spos : Pos} {cl : List (Str × Addr)} {Nb : List Str} {cp : List (Option Nat)} {mi : MI} {b : MG} {mt : MT} {me m : ME} {fin : List W → MH → Option (W × MH)} {i : Nat} {x : Str} {e : Expr}
end
end Mi

namespace Mi
open PySem PySem.Spec PyProof.Rows L2
set_option checkBinderAnnotations false in
noncomputable def ob [f : α → Option β] (x : Option α) : Option β := x.bind f
set_option checkBinderAnnotations false in
noncomputable def om [f : α → β] (x : Option α) : Option β := x.map f
@[simp] theorem Wm : @ob _ _ f (some a) = f a := id rfl
@[simp] theorem Wy : @om _ _ f (some a) = some (f a) := id rfl
noncomputable def WM (b : SM) : MF → Option MF
  | .nx σ h => b σ h
  | r => some r
section
variable {σ σ' : MSt} {h h' : MH} {a b : SM} {m ma mb mc : ME} {t u : MT} {ms : MA} {w x y : W} {ws : List W}
@[simp] theorem Y7 : WM b (.nx σ h) = b σ h := id rfl
@[simp] theorem UI : Vq a b σ h = @ob _ _ (WM b) (a σ h) := by
  unfold Vq
  refine congrArg (fun f_ => @ob _ _ f_ (a σ h)) (funext fun r => ?_)
  cases r <;> rfl
@[simp] theorem WR : JJ σ h = some (.nx σ h) := id rfl
@[simp] theorem Ue : Yk m σ h = @om _ _ (fun p => .rt p.1 p.2) (m σ h) := id rfl
noncomputable def onB (a b : SM) (σ : MSt) (p : Bool × MH) : Option MF := if p.1 = true then a σ p.2 else b σ p.2
@[simp] theorem WB (c : Bool) : onB a b σ (c, h) = if c = true then a σ h else b σ h := id rfl
@[simp] theorem Uz : X7 t a b σ h = @ob _ _ (onB a b σ) (t σ h) := by
  unfold X7
  refine congrArg (fun f_ => @ob _ _ f_ (t σ h)) (funext fun p => ?_)
  obtain ⟨c, h⟩ := p
  cases c <;> rfl
@[simp 500] theorem Uc : VE i m σ h = @om _ _ (fun p => .nx (σ.set i (some p.1)) p.2) (m σ h) := id rfl
@[simp 1100] theorem Uh {v0 v1 x : Option W} {r : MSt} : List.set (v0 :: v1 :: r) 1 x = v0 :: x :: r := id rfl
@[simp 1100] theorem Ug {v0 v1 v2 v3 x : Option W} {r : MSt} : List.set (v0 :: v1 :: v2 :: v3 :: r) 3 x = v0 :: v1 :: v2 :: x :: r := id rfl
@[simp 1100] theorem UD {v0 v1 v2 v3 v4 x : Option W} {r : MSt} : List.set (v0 :: v1 :: v2 :: v3 :: v4 :: r) 4 x = v0 :: v1 :: v2 :: v3 :: x :: r := id rfl
@[simp 1100] theorem UF {v0 v1 v2 v3 v4 v5 x : Option W} {r : MSt} : List.set (v0 :: v1 :: v2 :: v3 :: v4 :: v5 :: r) 5 x = v0 :: v1 :: v2 :: v3 :: v4 :: x :: r := id rfl
@[simp] theorem WN : QP 0 (some o :: r) h = some (o, h) := id rfl
@[simp] theorem WW : QP 1 (v0 :: some o :: r) h = some (o, h) := id rfl
@[simp] theorem W5 : QP 2 (v0 :: v1 :: some o :: r) h = some (o, h) := id rfl
@[simp] theorem WI : QP 3 (v0 :: v1 :: v2 :: some o :: r) h = some (o, h) := id rfl
@[simp] theorem W8 : QP 4 (v0 :: v1 :: v2 :: v3 :: some o :: r) h = some (o, h) := id rfl
@[simp] theorem WX : QP 5 (v0 :: v1 :: v2 :: v3 :: v4 :: some o :: r) h = some (o, h) := id rfl
@[simp] theorem s_c : mC w σ h = some (w, h) := id rfl
@[simp 500] theorem UJ : QX f ma mb σ h = @ob _ _ (fun p => @ob _ _ (fun q => f p.1 q.1 q.2) (mb σ p.2)) (ma σ h) := id rfl
@[simp] theorem US : mFn f ms σ h = @ob _ _ (fun p => f p.1 p.2) (ms σ h) := id rfl
@[simp] theorem WJ : JB n g ms σ h = @ob _ _ (fun p => if p.1.length = n then g p.1 p.2 else none) (ms σ h) := id rfl
@[simp] theorem Uq : Zn σ h = some ([], h) := id rfl
@[simp 600] theorem W2 : QX f ma (mC w) σ h = @ob _ _ (fun p => f p.1 w p.2) (ma σ h) := id rfl
@[simp 600] theorem Wz : Qu (mC w) ms σ h = @ob _ _ (fun q => some (w :: q.1, q.2)) (ms σ h) := id rfl
@[simp 610] theorem Wo : Qu m Zn σ h = @ob _ _ (fun p => some ([p.1], p.2)) (m σ h) := id rfl
@[simp 620] theorem YS : Qu (mC w) Zn σ h = some ([w], h) := id rfl
@[simp 600] theorem W7 : VE i (mC w) σ h = some (.nx (σ.set i (some w)) h) := id rfl
@[simp 500] theorem W4 : Qu m ms σ h = @ob _ _ (fun p => @ob _ _ (fun q => some (p.1 :: q.1, q.2)) (ms σ p.2)) (m σ h) := id rfl
noncomputable def asB (p : W × MH) : Option (Bool × MH) := match p.1 with | .bl b => some (b, p.2) | _ => none
@[simp] theorem WU (c : Bool) : asB (.bl c, h) = some (c, h) := id rfl
@[simp 500] theorem WO : JA m σ h = @ob _ _ asB (m σ h) := id rfl
@[simp] theorem W0 : Vb t σ h = @om _ _ (fun p => (!p.1, p.2)) (t σ h) := by
  unfold Vb
  first | rfl | (cases t σ h <;> rfl)
noncomputable def WZ (u : MT) (σ : MSt) (p : Bool × MH) : Option (Bool × MH) := if p.1 = true then some (true, p.2) else u σ p.2
@[simp] theorem Y1 (c : Bool) : WZ u σ (c, h) = if c = true then some (true, h) else u σ h := id rfl
@[simp 500] theorem UK : KO t u σ h = @ob _ _ (WZ u σ) (t σ h) := by
  unfold KO
  refine congrArg (fun f_ => @ob _ _ f_ (t σ h)) (funext fun p => ?_)
  obtain ⟨c, h⟩ := p
  cases c <;> rfl
@[simp] theorem UB : YD m σ h = @ob _ _ (fun p => @om _ _ (fun b => (b, p.2)) (KJ p.2 p.1)) (m σ h) := by
  unfold YD
  rfl
end
section
variable {h : MH} {i j : Int} {x y : Str} {ws us : List W} {w : W}
@[simp] theorem Uk : KK (.int i) (.int j) h = some (.int (i - j), h) := id rfl
@[simp] theorem UO : wGt (.int i) (.int j) h = some (.bl (decide (j < i)), h) := id rfl
@[simp] theorem Uy (c : 0 < j) : VQ (.int i) (.int j) h = some (.int (i % j), h) := Vj c
@[simp] theorem W1 (c : -18446744073709551616 < j) (c' : j < 18446744073709551616) : VO (.int i) (.int j) h = some (.int (i * j), h) := Kc (.inr ⟨c, c'⟩)
@[simp] theorem Ui (c : 0 ≤ j) (c' : j ≤ 1000000) (c'' : i.natAbs < 18446744073709551616) : VG (.int i) (.int j) h = some (.int (i ^ j.toNat), h) := Kt ⟨c, c', c''⟩
@[simp] theorem UM : YW ws h = if ws.length ≤ sizeLine then some (.lst ws, h) else none := id rfl
@[simp] theorem Ux : wIx (.frz ws) (.int i) h = @om _ _ (fun w => (w, h)) (atI ws i) := id rfl
@[simp] theorem WK : V3 [.frz ws] h = some (.int ws.length, h) := id rfl
@[simp] theorem WH {w : W} : Y8 (some (.rt w h)) = some (w, h) := id rfl
@[simp] theorem WL : KJ h (.bl b) = some b := id rfl
end
mutual
noncomputable def pln : W → Bool
  | .tup ws => JW ws
  | .lst ws => JW ws
  | .frz _ => false
  | .ref _ => false
  | .ty _ => false
  | _ => true
noncomputable def JW : List W → Bool
  | [] => true
  | w :: ws => pln w && JW ws
end
mutual
noncomputable def dep : W → Nat
  | .tup ws => Xh ws + 1
  | .lst ws => Xh ws + 1
  | _ => 1
noncomputable def Xh : List W → Nat
  | [] => 0
  | w :: ws => max (dep w) (Xh ws)
end
mutual
theorem Jd (h : MH) : ∀ (w : W) (n : Nat), pln w = true → dep w ≤ n → drf h n w = some w
  | .non, n + 1, _, _ => rfl
  | .bl _, n + 1, _, _ => rfl
  | .int _, n + 1, _, _ => rfl
  | .str _, n + 1, _, _ => rfl
  | .tup ws, n + 1, p, d => by
    unfold pln at p
    unfold dep at d
    show (Q5 (drf h n) ws).map W.tup = _
    rw [Zz h ws n p (by lia)]; rfl
  | .lst ws, n + 1, p, d => by
    unfold pln at p
    unfold dep at d
    show (Q5 (drf h n) ws).map W.lst = _
    rw [Zz h ws n p (by omega)]; rfl
  | .frz _, _, p, _ => by unfold pln at p; cases p
  | .ref _, _, p, _ => by unfold pln at p; cases p
  | .ty _, _, p, _ => by unfold pln at p; cases p
  | .non, 0, _, d => by unfold dep at d; lia
  | .bl _, 0, _, d => by unfold dep at d; omega
  | .int _, 0, _, d => by unfold dep at d; omega
  | .str _, 0, _, d => by unfold dep at d; omega
  | .tup _, 0, _, d => by unfold dep at d; lia
  | .lst _, 0, _, d => by unfold dep at d; omega
theorem Zz (h : MH) : ∀ (ws : List W) (n : Nat), JW ws = true → Xh ws ≤ n → Q5 (drf h n) ws = some ws
  | [], _, _, _ => rfl
  | w :: ws, n, p, d => by
    unfold JW at p
    unfold Xh at d
    rw [Bool.and_eq_true] at p
    rw [Q5, Jd h w n p.1 (Nat.le_trans (Nat.le_max_left _ _) d), Option.bind_some, Zz h ws n p.2 (Nat.le_trans (Nat.le_max_right _ _) d)]; rfl
end
mutual
theorem Jh : ∀ (w : W), pln w = true → eqW w w = true
  | .non, _ => by unfold eqW; rfl
  | .bl _, _ => by unfold eqW; simp
  | .int _, _ => by unfold eqW; simp
  | .str _, _ => by unfold eqW; simp
  | .tup ws, p => by unfold pln at p; unfold eqW; exact Ze ws p
  | .lst ws, p => by unfold pln at p; unfold eqW; exact Ze ws p
  | .frz _, p => by unfold pln at p; cases p
  | .ref _, p => by unfold pln at p; cases p
  | .ty _, p => by unfold pln at p; cases p
theorem Ze : ∀ (ws : List W), JW ws = true → ZG ws ws = true
  | [], _ => by unfold ZG; rfl
  | w :: ws, p => by
    unfold JW at p
    rw [Bool.and_eq_true] at p
    unfold ZG
    rw [Jh w p.1, Ze ws p.2]; rfl
end
theorem Y0 (pa : pln a = true) (pb : pln b = true) (da : dep a ≤ 40) (db : dep b ≤ 40) : wEq a b h = some (.bl (eqW a b), h) := by
  unfold wEq; rw [Jd h a 40 pa da, Jd h b 40 pb db]; rfl
@[simp] theorem Up : wEq (.int i) (.int j) h = some (.bl (i == j), h) := XF i j h
mutual
theorem Kj : ∀ (w : W), pln w = true → pur w = true
  | .non, _ => rfl
  | .bl _, _ => rfl
  | .int _, _ => rfl
  | .str _, _ => rfl
  | .tup ws, p => by unfold pln at p; unfold pur; exact Zh ws p
  | .lst ws, p => by unfold pln at p; unfold pur; exact Zh ws p
  | .frz _, p => by unfold pln at p; cases p
  | .ref _, p => by unfold pln at p; cases p
  | .ty _, p => by unfold pln at p; cases p
theorem Zh : ∀ (ws : List W), JW ws = true → Zm ws = true
  | [], _ => rfl
  | w :: ws, p => by
    unfold JW at p
    rw [Bool.and_eq_true] at p
    unfold Zm
    rw [Kj w p.1, Zh ws p.2]; rfl
end
mutual
theorem Xq (f : Nat → Option W) : ∀ (w : W), pur w = true → th f w = some w
  | .non, _ => rfl
  | .bl _, _ => rfl
  | .int _, _ => rfl
  | .str _, _ => rfl
  | .ty _, _ => rfl
  | .tup ws, p => by unfold pur at p; unfold th; rw [Zu f ws p]; rfl
  | .lst ws, p => by unfold pur at p; unfold th; rw [Zu f ws p]; rfl
  | .frz ws, p => by unfold pur at p; unfold th; rw [Zu f ws p]; rfl
  | .ref _, p => by unfold pur at p; cases p
theorem Zu (f : Nat → Option W) : ∀ (ws : List W), Zm ws = true → ths f ws = some ws
  | [], _ => rfl
  | w :: ws, p => by
    unfold Zm at p
    rw [Bool.and_eq_true] at p
    unfold ths
    rw [Xq f w p.1, Zu f ws p.2]; rfl
end
theorem Xd (hp : Zm ws = true) (e : m ws [] = some (w, g)) (hw : pur w = true) : box frN m ws h = some (w, h) := by
  have hr : JD 0 ws = some (ws, []) := by
    generalize 0 = k
    clear e
    induction ws with
    | nil => rfl
    | cons a r ih =>
      unfold Zm at hp
      rw [Bool.and_eq_true] at hp
      have := ih hp.2
      cases a <;> first | (unfold pur at hp; cases hp.1; done) | (unfold JD; rw [if_pos hp.1, this]; rfl)
  unfold box
  rw [hr, Option.bind_some]
  unfold Wu
  rw [if_pos List.nodup_nil]
  simp only [Q5, Option.bind_some, e, frN, List.length_nil, List.range_zero]
  rw [if_pos ⟨List.nodup_nil, by simp⟩, Xq _ w hw]
  simp [Qk]
theorem VV (f : W → W) (hi : mi σ h = some (items, none, h)) (hc : ∃ o, Yc cp σ = o :: caps) (he : ∀ w ∈ items, me (some w :: caps) h = some (f w, h)) (hl : items.length ≤ sizeLine) :
    JG fin mi cp (VD 0) KP me σ h = fin (items.map f) h := by
  obtain ⟨o, hc⟩ := hc
  unfold JG
  rw [hi, Option.bind_some]
  simp only [hc]
  rw [Q1 (p := fun _ => true) (f := f) items [] o (fun _ _ => rfl) (fun w hw _ => he w hw) (by simpa using hl), List.filter_eq_self.mpr (fun _ _ => rfl)]
  rfl
theorem J2 (P : Nat → MSt → MH → Prop) : ∀ (r : List W) (n : Nat) (σ : MSt) (h : MH), P n σ h →
    (∀ (j : Nat) (w : W), r[j]? = some w → ∀ σ h, P (n + j) σ h → ∃ σ1, b w σ h = some σ1 ∧ ∃ σ2 h2, (body σ1 h = some (.nx σ2 h2) ∨ body σ1 h = some (.ct σ2 h2)) ∧ P (n + j + 1) σ2 h2) →
    ∃ σ' h', Zf items none b body r σ h = some (.nx σ' h') ∧ P (n + r.length) σ' h'
  | [], n, σ, h, hp, _ => ⟨σ, h, VS, hp⟩
  | w :: r, n, σ, h, hp, hs => by
    obtain ⟨σ1, e1, σ2, h2, e2, p2⟩ := hs 0 w rfl σ h hp
    obtain ⟨σ', h', e3, p3⟩ := J2 (items := items) (b := b) (body := body) P r (n + 1) σ2 h2 p2 fun j x hx σ h hp => by
      have := hs (j + 1) x (by simpa using hx) σ h (by rw [show n + (j + 1) = n + 1 + j by lia]; exact hp)
      rw [show n + (j + 1) + 1 = n + 1 + j + 1 by exact Nat.add_right_comm _ _ _] at this
      exact this
    refine ⟨σ', h', ?_, by rw [List.length_cons, show n + (r.length + 1) = n + 1 + r.length by lia]; exact p3⟩
    rw [Zf, if_pos (QY _ _), e1, Option.bind_some]
    rcases e2 with e2 | e2 <;> rw [e2] <;> exact e3
end Mi

namespace L2
open PySem PySem.Spec PyProof.Rows
noncomputable def XO (a C : Addr) (dd : Option Addr) : HO := .ext fun h => ∃ o vs, h.get? a = some o ∧ o.cls = .ref C ∧ o.dict = dd ∧ o.data = .fields vs
structure Sm (Z S : List Addr) (h h' : Heap) : Prop where
  keep : ∀ b o, h.get? b = some o → b ∉ Z → b ∉ S → h'.get? b = some o
  slot : ∀ b o, h.get? b = some o → b ∉ Z → ∃ sl, h'.get? b = some { o with slots := sl }
  there : ∀ b o, h.get? b = some o → ∃ o', h'.get? b = some o'
theorem Sm.refl {Z S : List Addr} (h : Heap) : Sm Z S h h := ⟨fun _ _ e _ _ => e, fun _ o e _ => ⟨o.slots, e⟩, fun _ o e => ⟨o, e⟩⟩
theorem Sm.trans {Z S : List Addr} {h1 h2 h3 : Heap} (x : Sm Z S h1 h2) (y : Sm Z S h2 h3) : Sm Z S h1 h3 :=
  ⟨fun b o e n m => y.keep b o (x.keep b o e n m) n m, fun b o e n => let ⟨_, e1⟩ := x.slot b o e n; let ⟨sl, e2⟩ := y.slot b _ e1 n; ⟨sl, e2⟩,
    fun b o e => let ⟨_, e1⟩ := x.there b o e; y.there b _ e1⟩
theorem Sm.of {Z S : List Addr} {h h' : Heap} (k : ∀ b o, h.get? b = some o → b ∉ Z → h'.get? b = some o) (t : ∀ b o, h.get? b = some o → ∃ o', h'.get? b = some o') : Sm Z S h h' :=
  ⟨fun b o e n _ => k b o e n, fun b o e n => ⟨o.slots, k b o e n⟩, t⟩
theorem Sm.mono {Z Z' S : List Addr} {h h' : Heap} (x : Sm Z S h h') (z : ∀ b ∈ Z, b ∈ Z') : Sm Z' S h h' :=
  ⟨fun b o e n m => x.keep b o e (fun q => n (z b q)) m, fun b o e n => x.slot b o e fun q => n (z b q), x.there⟩

theorem Ku {l : List Addr} {H H' : Hp} {G h h' : Heap} {Z S : List Addr} (u : Un l [] H H' G h) (x : Sm Z S h h') (z : ∀ b ∈ Z, G.get? b = none) (q : ∀ b ∈ S, b ∈ l ∨ G.get? b = none) : Un l [] H H' G h' where
  keep := fun b o e n hb hx => x.keep b o (u.keep b o e n hb hx) (fun m => by rw [z b m] at e; cases e) fun m => by
    rcases q b m with r | r
    · exact hb r
    · rw [r] at e; cases e
  slot := fun b o e n hb hx => by
    obtain ⟨sl, e1⟩ := u.slot b o e n hb hx
    obtain ⟨sl', e2⟩ := x.slot b _ e1 fun m => by rw [z b m] at e; cases e
    exact ⟨sl', e2⟩
  free := u.free
  there := fun b o e hx => let ⟨_, e1⟩ := u.there b o e hx; x.there b _ e1
  tups := u.tups
  frzs := u.frzs
  tbls := u.tbls
theorem Vk {P : Program} {w : World} {H : Hp} {h h' : Heap} {Z S : List Addr} {a C : Addr} {dd : Option Addr} (ok : HOk P w H h) (x : Sm Z S h h') (z : ∀ b ∈ Z, b = a ∨ H b = none) (q : ∀ b ∈ S, H b = none)
    (ha : H a = some (XO a C dd)) (new : ∃ o vs, h'.get? a = some o ∧ o.cls = .ref C ∧ o.dict = dd ∧ o.data = .fields vs) : HOk P w H h' := fun b o e => by
  by_cases hb : b = a
  · subst hb
    rw [ha] at e
    cases e
    obtain ⟨o, vs, e1, e2⟩ := new
    exact ⟨⟨o, vs, e1, e2⟩, ⟨o, e1⟩, fun h1 h2 ⟨o, vs, f1, f2⟩ k => ⟨o, vs, k _ f1, f2⟩⟩
  · refine (ok b o e).stay (fun c u hc r => x.keep c u r ?_ ?_) (fun _ q => q) fun _ _ q => q
    · intro m
      rcases hc with rfl | hc
      · rcases z c m with r | r
        · exact hb r
        · rw [r] at e; cases e
      · rcases z c m with r | r
        · subst r; rw [ha] at hc; cases hc
        · rw [r] at hc; cases hc
    · intro m
      rcases hc with rfl | hc
      · rw [q c m] at e; cases e
      · rw [q c m] at hc; cases hc

section
variable {M : Model} {A : Around} {E : Value → Shared → Prop} {s : Shared} {env : Env} {outer : List Env} {base : Heap} {L a : Addr} {oe : Obj} {vs : Array Value}
theorem Js {head : Value} {hadNext : Bool} {Q : Unit → Shared → Prop} (hfr : A.frames = some (env :: outer)) (hl : s.heap.FunFrames base (env :: outer)) (hf : env.frame = some L)
    (he : s.heap.get? a = some oe) (hd : oe.data = .fields vs) (hsz : 1 < vs.size)
    (h : ∀ h' T oT ts, s.heap.objs.size ≤ T → h'.get? T = some oT → oT.data = .fields ts → ts[3]? = some (rawInt L) → h'.get? a = some (oe.mapFields (·.setIfInBounds 1 (.ref T))) →
      Sm [a] (frs (env :: outer)) s.heap h' → Q () { s with heap := h' }) :
    wpAny M A (do let f ← frameOf env; let pl ← entryPlaceOf L hadNext; let b ← EntryCells.newEntry head f .none (rawInt L) .none pl; setField (.ref a) 1 b) Q E s := by
  have nfr : a ∉ (env :: outer).filterMap (·.frame) := fun hm => by
    obtain ⟨_, o, ho, hnf⟩ := hl.mem hm
    rw [he] at ho; cases ho; exact hnf vs hd
  refine wpAny_bind (wpAny_frameOf_fun hfr hl hf fun h1 g1 => wpAny_bind (wpAny_entryPlaceOf fun pl hpl => ?_))
  unfold EntryCells.newEntry newFields
  refine wpAny_bind (wpAny_newObj_type ?_ (hpl.sizeOk5 _ _ _ _ _))
  have e1 : h1.get? a = some oe := (g1.2.1 a nfr).trans he
  have e2 := Heap.get?_push_of_some (h := h1) { cls := .type "traceback", dict := none, data := .fields ([head, .ref L, .none, rawInt L, .none] ++ (if pl.isEmpty then List.replicate 6 Value.none else pl)).toArray } e1
  refine wpAny_setField e2 hd hsz ?_
  have hne : h1.objs.size ≠ a := Nat.ne_of_gt (Heap.lt_size e1)
  have d3 := Obj.data_mapFields hd (·.setIfInBounds 1 (Value.ref h1.objs.size))
  refine h _ h1.objs.size _ _ (by rw [g1.1]; exact Nat.le_refl _) ((Heap.get?_update_other _ _ (Ne.symm hne)).trans (Heap.get?_push_size h1 rfl)) rfl
    (by first | (simp; done) | (rcases hpl with rfl | ⟨_, _, _, _, _, _, _, rfl⟩ <;> simp)) (Heap.get?_update_self _ e2 (Obj.isFreed_of_fields d3)) ⟨fun b o e n m => ?_, fun b o e n => ?_, fun b o e => ?_⟩
  · rw [Heap.get?_update_other _ _ (fun z => n (by simp [z]))]
    exact Heap.get?_push_of_some _ ((g1.2.1 b m).trans e)
  · obtain ⟨sl, e'⟩ := g1.2.2 b o e
    exact ⟨sl, by rw [Heap.get?_update_other _ _ (fun z => n (by simp [z]))]; exact Heap.get?_push_of_some _ e'⟩
  · by_cases hb : b = a
    · subst hb
      exact ⟨_, Heap.get?_update_self _ e2 (Obj.isFreed_of_fields d3)⟩
    · obtain ⟨sl, e'⟩ := g1.2.2 b o e
      exact ⟨_, by rw [Heap.get?_update_other _ _ (Ne.symm hb)]; exact Heap.get?_push_of_some _ e'⟩
theorem JE {T : Addr} {oT : Obj} {ts : Array Value} {Q : Unit → Shared → Prop} (he : s.heap.get? a = some oe) (hd : oe.data = .fields vs) (h1 : vs[1]? = some (.ref T))
    (hT : s.heap.get? T = some oT) (hdT : oT.data = .fields ts) (h3 : 3 < ts.size)
    (h : ∀ h' oT' ts', (∀ b, b ≠ T → h'.get? b = s.heap.get? b) → h'.get? T = some oT' → oT'.data = .fields ts' → ts'[3]? = some .none → Sm [T] [] s.heap h' → Q () { s with heap := h' }) :
    wpAny M A (setFlight (.ref a) none) Q E s := by
  have ot : ∀ b, b ≠ T → (s.heap.update T (Obj.mapFields (·.setIfInBounds 3 ((none : Option Addr).elim Value.none fun f => rawInt f)))).get? b = s.heap.get? b := fun b hb => Heap.get?_update_other _ _ (Ne.symm hb)
  have eT := Heap.get?_update_self (Obj.mapFields (·.setIfInBounds 3 ((none : Option Addr).elim Value.none fun f => rawInt f))) hT (Obj.isFreed_of_fields (Obj.data_mapFields hdT _))
  unfold setFlight
  refine wpAny_bind (wpAny_field he hd h1 ?_)
  rw [if_pos (show (Value.ref T != Value.none) = true from by simp)]
  refine wpAny_setField hT hdT h3 (h _ _ _ ot eT (Obj.data_mapFields hdT _) (by simp [h3]) (Sm.of (fun b o e n => (ot b (fun z => n (by simp [z]))).trans e) fun b o e => ?_))
  by_cases hb : b = T
  · subst hb; exact ⟨_, eT⟩
  · exact ⟨o, (ot b hb).trans e⟩
end
end L2

namespace L2
open PySem PySem.Spec PyProof.Rows
structure Fly (P : Program) (w : World) (l : List Env) (H : Hp) (G : Heap) (a C : Addr) (dd : Option Addr) (fl : Value) (H' : Hp) (h : Heap) : Prop where
  un : Un (frs l) [] H H' G h
  hok : HOk P w H' h
  obj : H' a = some (XO a C dd)
  new : G.get? a = none
  tr : ∃ oe vs T oT ts, h.get? a = some oe ∧ oe.cls = .ref C ∧ oe.dict = dd ∧ oe.data = .fields vs ∧ vs[1]? = some (.ref T) ∧ G.get? T = none ∧ H' T = none ∧ T ≠ a ∧ h.get? T = some oT ∧ oT.data = .fields ts ∧ ts[3]? = some fl
theorem mf_cls {o : Obj} {f : Array Value → Array Value} : (o.mapFields f).cls = o.cls := by obtain ⟨c, d, dt, sl⟩ := o; cases dt <;> rfl
theorem mf_dict {o : Obj} {f : Array Value → Array Value} : (o.mapFields f).dict = o.dict := by obtain ⟨c, d, dt, sl⟩ := o; cases dt <;> rfl
section
variable {M : Model} {A : Around} {E : Value → Shared → Prop} {s : Shared} {env : Env} {l outer : List Env} {base G : Heap} {L a C : Addr} {dd : Option Addr} {P : Program} {w : World} {H H' : Hp}
theorem Jc {fl : Value} {Q : Unit → Shared → Prop} (F : Fly P w l H G a C dd fl H' s.heap) (h : ∀ h', Fly P w l H G a C dd .none H' h' → Q () { s with heap := h' }) : wpAny M A (setFlight (.ref a) none) Q E s := by
  obtain ⟨un, hok, obj, new, oe, vs, T, oT, ts, e1, e2, e3, e4, e5, e6, e7, e8, e9, e10, e11⟩ := F
  have h3 : 3 < ts.size := (Array.getElem?_eq_some_iff.mp e11).1
  refine JE e1 e4 e5 e9 e10 h3 fun h' oT' ts' k1 k2 k3 k4 sm => h h' ⟨Ku un sm (fun b hb => by simp at hb; rw [hb]; exact e6) (fun b hb => by simp at hb),
    Vk hok sm (fun b hb => by simp at hb; rw [hb]; exact .inr e7) (fun b hb => by simp at hb) obj ⟨oe, vs, (k1 a (Ne.symm e8)).trans e1, e2, e3, e4⟩, obj, new,
    oe, vs, T, oT', ts', (k1 a (Ne.symm e8)).trans e1, e2, e3, e4, e5, e6, e7, e8, k2, k3, k4⟩
theorem V0 {Q : Unit → Shared → Prop} (F : Fly P w l H G a C dd .none H' s.heap) (hfr : A.frames = some (env :: outer)) (hl : s.heap.FunFrames base (env :: outer)) (hf : env.frame = some L)
    (hS : ∀ b ∈ frs (env :: outer), (b ∈ frs l ∨ G.get? b = none) ∧ H' b = none)
    (h : ∀ h', Fly P w l H G a C dd (rawInt L) H' h' → Q () { s with heap := h' }) : wpAny M A (noteFrame (.ref a) env) Q E s := by
  obtain ⟨un, hok, obj, new, oe, vs, T, oT, ts, e1, e2, e3, e4, e5, e6, e7, e8, e9, e10, e11⟩ := F
  unfold noteFrame
  simp only [hf]
  refine wpAny_bind (wpAny_field e1 e4 e5 ?_)
  rw [if_pos (show (Value.ref T != Value.none) = true from by simp)]
  refine wpAny_bind (wpAny_field e9 e10 e11 ?_)
  rw [if_neg (show ¬ ((Value.none == rawInt L) = true) from by simp [rawInt])]
  have h3 : 3 < ts.size := (Array.getElem?_eq_some_iff.mp e11).1
  refine wpAny_bind (wpAny_setField e9 e10 h3 ?_)
  have ot : ∀ b, b ≠ T → (s.heap.update T (Obj.mapFields (·.setIfInBounds 3 Value.none))).get? b = s.heap.get? b := fun b hb => Heap.get?_update_other _ _ (Ne.symm hb)
  have eT := Heap.get?_update_self (Obj.mapFields (·.setIfInBounds 3 Value.none)) e9 (Obj.isFreed_of_fields (Obj.data_mapFields e10 _))
  have ths : ∀ b o, s.heap.get? b = some o → ∃ o', (s.heap.update T (Obj.mapFields (·.setIfInBounds 3 Value.none))).get? b = some o' := fun b o e => by
    by_cases hb : b = T
    · subst hb; exact ⟨_, eT⟩
    · exact ⟨o, (ot b hb).trans e⟩
  have nT : ∀ b o, s.heap.get? b = some o → (∀ vs, o.data ≠ .fields vs) → b ≠ T := fun b o hb hnf q => by
    rw [q, e9] at hb; cases hb; exact hnf ts e10
  refine Js (s := { s with heap := _ }) hfr (hl.of_keeps fun b o hb hnf => ⟨o, (ot b (nT b o hb hnf)).trans hb, rfl⟩) hf ((ot a (Ne.symm e8)).trans e1) e4 (Array.getElem?_eq_some_iff.mp e5).1 fun h' T' oT' ts' k1 k2 k3 k4 k5 k6 => ?_
  have sm : Sm [a, T] (frs (env :: outer)) s.heap h' := (Sm.of (fun b o e n => (ot b (fun z => n (by simp [z]))).trans e) ths).trans (k6.mono fun b hb => by simp at hb; simp [hb])
  have kz : s.heap.objs.size ≤ T' := by
    have q : (s.heap.update T (Obj.mapFields (·.setIfInBounds 3 Value.none))).objs.size = s.heap.objs.size := Heap.size_after_update ..
    rw [← q]; exact k1
  have kT' : s.heap.get? T' = none := Heap.get?_none_of_le kz
  have gT' : G.get? T' = none := by
    cases q : G.get? T' with
    | none => rfl
    | some o => obtain ⟨o', z⟩ := un.there T' o q (by simp); rw [kT'] at z; cases z
  have hT' : H' T' = none := hok.fresh kz
  have d5 := Obj.data_mapFields e4 (·.setIfInBounds 1 (Value.ref T'))
  have nta : T' ≠ a := fun q => by rw [q, e1] at kT'; cases kT'
  exact h h' ⟨Ku un sm (fun b hb => by simp at hb; rcases hb with rfl | rfl <;> assumption) fun b hb => (hS b hb).1,
    Vk hok sm (fun b hb => by simp at hb; rcases hb with rfl | rfl; exact .inl rfl; exact .inr e7) (fun b hb => (hS b hb).2) obj ⟨_, _, k5, mf_cls.trans e2, mf_dict.trans e3, d5⟩, obj, new,
    _, _, T', oT', ts', k5, mf_cls.trans e2, mf_dict.trans e3, d5, by simp [(Array.getElem?_eq_some_iff.mp e5).1], gT', hT', nta, k2, k3, k4⟩
theorem JX {oe : Obj} {vs : Array Value} {Q : Unit → Shared → Prop} (un : Un (frs l) [] H H' G s.heap) (hok : HOk P w H' s.heap) (obj : H' a = some (XO a C dd)) (new : G.get? a = none)
    (e1 : s.heap.get? a = some oe) (e2 : oe.cls = .ref C) (e3 : oe.dict = dd) (e4 : oe.data = .fields vs) (e5 : vs[1]? = some .none)
    (hfr : A.frames = some (env :: outer)) (hl : s.heap.FunFrames base (env :: outer)) (hf : env.frame = some L)
    (hS : ∀ b ∈ frs (env :: outer), (b ∈ frs l ∨ G.get? b = none) ∧ H' b = none)
    (h : ∀ h', Fly P w l H G a C dd .none H' h' → Q () { s with heap := h' }) : wpAny M A (leaving env (.ref a)) Q E s := by
  unfold leaving noteFrame
  simp only [hf]
  refine wpAny_bind (wpAny_bind (wpAny_field e1 e4 e5 ?_))
  rw [if_neg (by decide)]
  refine Js hfr hl hf e1 e4 (Array.getElem?_eq_some_iff.mp e5).1 fun h' T' oT' ts' kz k2 k3 k4 k5 sm => ?_
  have kT' : s.heap.get? T' = none := Heap.get?_none_of_le kz
  have gT' : G.get? T' = none := by
    cases q : G.get? T' with
    | none => rfl
    | some o => obtain ⟨o', z⟩ := un.there T' o q (by simp); rw [kT'] at z; cases z
  have hT' : H' T' = none := hok.fresh kz
  have d5 := Obj.data_mapFields e4 (·.setIfInBounds 1 (Value.ref T'))
  have nta : T' ≠ a := fun q => by rw [q, e1] at kT'; cases kT'
  exact Jc (s := { s with heap := h' }) ⟨Ku un sm (fun b hb => by simp at hb; rw [hb]; exact new) fun b hb => (hS b hb).1,
    Vk hok sm (fun b hb => by simp at hb; exact .inl hb) (fun b hb => (hS b hb).2) obj ⟨_, _, k5, mf_cls.trans e2, mf_dict.trans e3, d5⟩, obj, new,
    _, _, T', oT', ts', k5, mf_cls.trans e2, mf_dict.trans e3, d5, by simp [(Array.getElem?_eq_some_iff.mp e5).1], gT', hT', nta, k2, k3, k4⟩ fun h'' F => h h'' F
end
end L2

namespace L2
open PySem PySem.Spec PyProof.Rows PySem.W
noncomputable def vT : List Value := [.type "ValueError", .type "Exception", .type "BaseException", .type "object"]
noncomputable def VZ : List Value → Bool
  | .ref _ :: r => VZ r
  | l => l == vT
structure XC (K : PySem.W.Frag) (C : Addr) : Prop where
  ga : findIn K (.ref C) "__getattribute__" = some (some (.builtin "BaseException.__getattribute__"))
  gn : findIn K (.ref C) "__getattr__" = some none
  cl : findIn K (.ref C) "__class__" = some (some (.builtin "object.__class__"))
  mo : mroIn K C (.type "object") = some true
  mb : mroIn K C (.type "BaseException") = some true
  hd : hasDictIn K C = true
  tt : typeIn K (.ref C) = some (.type "type")
  ov : ((clsIn K C).any fun cd => VZ cd.mro) = true
  sa : findIn K (.ref C) "__setattr__" = some (some (.builtin "object.__setattr__"))
  cg : specialIn K (.builtin "object.__class__") "__get__" = some (some (.builtin "getset_descriptor.__get__"))
  ct : takesIn K (.builtin "object.__class__") = some true
section
variable {prog : Program} {w : World} {A : Around} {E : Value → Shared → Prop} {s : Shared} {K : PySem.W.Frag} {a C : Addr} {oe : Obj} {od : Option Obj} {name : Str}
theorem Wb : builtinKind "BaseException.__getattribute__" = some .slot := by decide +kernel
theorem WF : splitId "BaseException.__getattribute__" = some ("BaseException", "__getattribute__") := by decide +kernel
theorem K1 {M : Model} {nameV : Value} {Q : Unit → Shared → Prop} (X : K.In s.heap) (I : InstAt s.heap a oe C od) (c : XC K C) (hq : Q () s) : wpAny M A (checkBuiltinCall "BaseException.__getattribute__" ⟨Value.ref a :: [nameV], []⟩) Q E s :=
  by
  have L1 : Looks M s.heap (isInstance (.ref a) (.type "BaseException")) true := (I.type (M := M)).andThen (looks_mroIn X c.mb)
  have ha := F.args_bexc_ga (.ref a) nameV
  obtain ⟨hh, g, d, t, os⟩ := s
  simp only [checkBuiltinCall, Wb, WF]
  refine wpAny_bind (L1.at ?_)
  repeat wp_step
  exact hq
theorem Yp {tk : Tok} {fill expr : Bool} {Q : Value → Shared → Prop} (X : K.In s.heap) (I : InstAt s.heap a oe C od) (c : XC K C)
    (h : ∀ (A : Around), wpAny (model prog w) A (Builtin.«object.__getattribute__» ⟨[.ref a, .str name tk], []⟩) (fun fin s' => match fin with | .done (.ret v) => handedIn v = true ∧ Q v s' | _ => False) (fun _ _ => False) s) :
    wpAny (model prog w) A (getAttrBy (.ref a) (.str name tk) fill expr) Q E s := by
  obtain ⟨hh, g, d, t, os⟩ := s
  have L0 := I.type (M := model prog w)
  have L1 := looks_findIn (M := model prog w) X c.ga
  have L2 := looks_findIn (M := model prog w) X c.gn
  have f3 := F.attr_ValueError.ga.bind (.ref a)
  have hx0 : (expr && onTheHeap (Value.builtin "BaseException.__getattribute__")) = false := by cases expr <;> rfl
  have hx2 : (Value.builtin "BaseException.__getattribute__" == Value.builtin "object.__getattribute__") = false := by decide +kernel
  have hx1 : (onTheHeap (Value.ref C) && Value.builtin "BaseException.__getattribute__" == Value.builtin "object.__getattribute__") = false := by rw [hx2]; rfl
  repeat (any_goals (first | assumption | with_reducible refine L0.at ?_ | with_reducible refine L1.at ?_ | with_reducible refine L2.at ?_ | wp_step))
  refine codeAny_call_builtin F.attr_ValueError.ga.plain F.entry_bexc_ga (K1 X I c (wpAny_mono (h _) (fun fin s' z => ?_) fun _ _ z => z.elim))
  rcases fin with (_ | _ | _ | v) | _
  · exact z.elim
  · exact z.elim
  · exact z.elim
  · obtain ⟨z1, z2⟩ := z
    show wpAny _ _ (handedOut v) _ _ _
    rw [handedOut_of z1]
    exact wpAny_pure z2
  · exact z.elim
theorem Kk {expr : Bool} {v : Value} {Q : Value → Shared → Prop} (X : K.In s.heap) (I : InstAt s.heap a oe C od) (c : XC K C) (hf : findObj K C od name = some (.value v)) (hv : handedIn v = true) (h : Q v { s with toks := s.toks + 1 }) :
    wpAny (model prog w) A (getAttr (.ref a) name expr) Q E s := by
  obtain ⟨hh, g, d, t, os⟩ := s
  unfold getAttr
  refine wpAny_bind (wpAny_mkText (Yp (s := { (⟨hh, g, d, t, os⟩ : Shared) with toks := t + 1 }) X I c fun A => ?_))
  have L0 := I.type (M := model prog w)
  have L1 := looks_find (M := model prog w) X I hf
  refine wpAny_bind (wpAny_pure (wpAny_bind (wpAny_pure (wpAny_bind (L0.at (wpAny_bind (L1.at ?_)))))))
  exact wpAny_pure ⟨hv, h⟩
theorem VP {Q : Option Value → Shared → Prop} (X : K.In s.heap) (I : InstAt s.heap a oe C od) (c : XC K C) (h : Q (some (.ref C)) { s with toks := s.toks + 1 }) : wpAny (model prog w) A (getAttr? (.ref a) "__class__") Q E s := by
  obtain ⟨hh, g, d, t, os⟩ := s
  have hf : findObj K C od "__class__" = some (.bind (.builtin "getset_descriptor.__get__") (.builtin "object.__class__")) := by
    obtain ⟨cd, hc, _⟩ := any_some c.hd
    unfold findObj
    rw [hc, Option.bind_some, c.cl, Option.bind_some]
    simp [c.cg, c.ct]
  unfold getAttr? getAttrBy?
  refine wpAny_bind (wpAny_mkText (wpAny_bind (wpAny_attempt (Yp (s := ⟨hh, g, d, t + 1, os⟩) X I c fun A => ?_))))
  have L0 := I.type (M := model prog w)
  have L1 := looks_find (M := model prog w) X I hf
  refine wpAny_bind (wpAny_pure (wpAny_bind (wpAny_pure (wpAny_bind (L0.at (wpAny_bind (L1.at ?_)))))))
  refine wpAny_bind (wpAny_holding (wpAny_call (class_get (s := ⟨hh, g, d, t + 1, os⟩) X I c.mo ?_)))
  exact wpAny_pure ⟨rfl, wpAny_pure h⟩
theorem V6 {K : PySem.W.Frag} {a C : Addr} (c : XC K C) : KitX K (.ref a) (.ref C) (fun h => ∃ oe od, InstAt h a oe C od) where
  ty := fun _ _ _ ⟨_, _, I⟩ => I.type
  it := fun _ _ X _ => by
    obtain ⟨cdD, hcD, _⟩ := any_some c.hd
    unfold clsIn at hcD
    split at hcD
    · rename_i c' d' cd' sl' ho
      intro A' Q' E' s' k q
      unfold isType loadHead
      exact wpAny_bind (wpAny_loadPart (k _ _ (X _ _ ho)) (wpAny_pure q))
    · cases hcD
  ne := fun h tp dd its n sl X htp => by
    obtain ⟨cdD, hcD, _⟩ := any_some c.hd
    refine Bool.eq_false_iff.mpr fun q => ?_
    have e : C = tp := Value.ref.inj (beq_iff_eq.mp q)
    subst e
    unfold clsIn at hcD
    split at hcD
    · rename_i c' d' cd' sl' ho
      have z := (X _ _ ho).symm.trans htp
      cases z
    · cases hcD
  ca := fun X ⟨_, _, I⟩ k => VP X I c k
end
end L2

namespace L2
open PySem PySem.Spec PyProof.Rows PySem.W Builtin Builtin.ObjectAttr
theorem Jt (self : Value) : ∀ {l : List Value}, VZ l = true → refuseLoop self "__setattr__" l = pure ()
  | [], e => by cases e
  | .ref c :: r, e => by rw [refuseLoop_ref]; exact Jt self (l := r) e
  | .type n :: r, e => by
    have q : (.type n :: r : List Value) = vT := beq_iff_eq.mp e
    rw [q]
    show refuseLoop self "__setattr__" [.type "ValueError", .type "Exception", .type "BaseException", .type "object"] = pure ()
    kernel_rfl
section
variable {prog : Program} {w : World} {A : Around} {E : Value → Shared → Prop} {s : Shared} {K : PySem.W.Frag} {a C : Addr} {oe : Obj} {vs : Array Value} {name : Str} {v : Value}
theorem Yv {Q : Unit → Shared → Prop} (X : K.In s.heap) (c : XC K C) (hx : s.heap.get? a = some oe) (hc : oe.cls = .ref C) (hdd : oe.dict = none) (hd : oe.data = .fields vs) (na : findIn K (.ref C) name = some none)
    (h : ∀ h' dx, s.heap.objs.size ≤ dx → h'.get? a = some { oe with dict := some dx } → h'.Ns1 dx (fun y => if y = name then some v else none) → (∀ b o, b ≠ a → s.heap.get? b = some o → h'.get? b = some o) →
      Q () { s with heap := h', toks := s.toks + 2 }) : wpAny (model prog w) A (setAttr (.ref a) name v) Q E s := by
  have I : InstAt s.heap a oe C none := ⟨hx, hc, by unfold notCls; rw [hd], by rw [hdd]; trivial⟩
  refine set_plain X I c.sa ?_
  have SF := PySem.F.store_object
  obtain ⟨cd, hcd, ho⟩ := any_some c.ov
  have I' : InstAt ({ s with toks := s.toks + 1 } : Shared).heap a oe C none := I
  have X' : K.In ({ s with toks := s.toks + 1 } : Shared).heap := X
  generalize hs' : ({ s with toks := s.toks + 1 } : Shared) = s' at *
  have sub : Looks (model prog w) s'.heap (isInstance (.ref a) (.type "object")) true := I'.type.andThen (looks_mroIn X' c.mo)
  refine codeAny_call_builtin SF.slot.plain SF.entry (@check_slot (model prog w) _ _ s' "object.__setattr__" "object" "__setattr__" (.ref a) [.str name s.toks, v] [] _ SF.kind SF.split sub (SF.args (.ref a) (.str name s.toks) v) ?_)
  have hm : Looks (model prog w) s'.heap (mroOf (.ref C)) cd.mro := (looks_clsIn X' hcd).andThen .now
  rw [osa_eq, refuse_eq]
  refine wpAny_bind (wpAny_bind (I'.type.here (wpAny_bind (hm.here ?_))))
  rw [Jt _ ho]
  refine wpAny_pure (wpAny_bind (I'.type.here (wpAny_bind ((looks_findIn X' na).here (wpAny_bind (wpAny_pure ?_))))))
  subst hs'
  obtain ⟨cd2, hcd2, hh2⟩ := any_some c.hd
  obtain ⟨oc, odi, oda, osl⟩ := oe
  dsimp only at hc hdd hd
  subst hc hdd hd
  unfold storeInOwnDict
  refine wpAny_bind (wpAny_pure ?_)
  dsimp only
  rw [if_neg (by simp)]
  have L := looks_clsIn (M := model prog w) X hcd2
  unfold ownDictForStores instanceDict
  refine wpAny_bind (wpAny_bind (wpAny_loadPart (s := { s with toks := s.toks + 1 }) hx (wpAny_bind (L.here (s := { s with toks := s.toks + 1 }) ?_))))
  rw [hh2]
  have e1 : (s.heap.push { cls := .type "dict", data := .dict #[] }).get? a = some ⟨.ref C, none, .fields vs, osl⟩ := Heap.get?_push_of_some _ hx
  have ne : s.heap.objs.size ≠ a := Nat.ne_of_gt (Heap.lt_size hx)
  refine wpAny_bind (wpAny_alloc (wpAny_bind (wpAny_update (s := { s with heap := s.heap.push { cls := .type "dict", data := .dict #[] }, toks := s.toks + 1 }) e1 (wpAny_pure (a := some s.heap.objs.size) ?_))))
  have e2 : ((s.heap.push { cls := .type "dict", data := .dict #[] }).update a fun o => { o with dict := some s.heap.objs.size }).get? a = some ⟨.ref C, some s.heap.objs.size, .fields vs, osl⟩ := Heap.get?_update_self _ e1 rfl
  have e3 : ((s.heap.push { cls := .type "dict", data := .dict #[] }).update a fun o => { o with dict := some s.heap.objs.size }).get? s.heap.objs.size = some { cls := .type "dict", data := .dict #[] } :=
    (Heap.get?_update_other _ _ (Ne.symm ne)).trans (Heap.get?_push_size s.heap rfl)
  have n1 : ((s.heap.push { cls := .type "dict", data := .dict #[] }).update a fun o => { o with dict := some s.heap.objs.size }).Ns1 s.heap.objs.size (fun _ => none) :=
    Heap.Ns1.of_empty ⟨_, #[], _, e3, rfl, (fun e he => absurd he (by simp)), fun _ => rfl⟩
  unfold storeInDict
  refine wpAny_bind (wpAny_pure (wpAny_bind (wpAny_nsSet1 (s := { s with heap := _, toks := s.toks + 1 }) n1 fun h' hn2 hs2 => ?_)))
  obtain ⟨oD, esD, epD, hoD, hdD, hcD⟩ := hn2.count (PySem.Within.cons name v (ns := []) (fun y hy => absurd rfl hy))
  refine wpAny_bind (wpAny_lookBehind hoD (by rw [hdD]; exact pastItsLine_dict (Nat.le_trans hcD (by show 1 ≤ sizeLine + 1; decide))) ?_)
  refine wpAny_pure (h h' s.heap.objs.size (Nat.le_refl _) ((hs2.2 _ (Ne.symm ne)).trans e2) hn2 fun b o hb e => (hs2.2 b (Nat.ne_of_lt (Heap.lt_size e))).trans ?_)
  rw [Heap.get?_update_other _ _ (Ne.symm hb)]
  exact Heap.get?_push_of_some _ e
end
end L2

namespace L2
open PySem PySem.Spec PyProof.Rows PySem.W Builtin
noncomputable def XN (a C : Addr) (dd : Option Addr) : HO := .ext fun h => ∃ sl t, h.get? a = some ⟨.ref C, dd, .fields #[.ref t, .none, .none, .none, .bool false, .none], sl⟩
theorem VR {P : Program} {w : World} {H : Hp} {h : Heap} {a C : Addr} {dd : Option Addr} {sl : Array (Option Value)} {t : Addr} (e : h.get? a = some ⟨.ref C, dd, .fields #[.ref t, .none, .none, .none, .bool false, .none], sl⟩) : ObjOk P w H h a (XN a C dd) :=
  ⟨⟨sl, t, e⟩, ⟨_, e⟩, fun _ _ ⟨sl, t, f⟩ k => ⟨sl, t, k _ f⟩⟩
theorem Jv {P : Program} {w : World} {H : Hp} {h : Heap} {a C : Addr} {dd : Option Addr} (ok : HOk P w H h) (e : H a = some (XN a C dd)) : ∃ sl t, h.get? a = some ⟨.ref C, dd, .fields #[.ref t, .none, .none, .none, .bool false, .none], sl⟩ := (ok a _ e).1
theorem Vd {P : Program} {w : World} {H : Hp} {h : Heap} {a C : Addr} {dd : Option Addr} (ok : HOk P w H h) (e : H a = some (XO a C dd)) : ∃ o vs, h.get? a = some o ∧ o.cls = .ref C ∧ o.dict = dd ∧ o.data = .fields vs := (ok a _ e).1
section
variable {prog : Program} {w : World} {A : Around} {E : Value → Shared → Prop} {s : Shared} {K : PySem.W.Frag} {a C t : Addr} {sl : Array (Option Value)} {dd : Option Addr} {u : Value}
theorem Ka {Q : Value → Shared → Prop} (X : K.In s.heap) (c : XC K C) (hv : mroIn K C (.type "ValueError") = some true) (hx : s.heap.get? a = some ⟨.ref C, dd, .fields #[.ref t, .none, .none, .none, .bool false, .none], sl⟩)
    (h : ∀ h' t', h'.get? a = some ⟨.ref C, dd, .fields #[.ref t', .none, .none, .none, .bool false, .none], sl⟩ → (∀ b o, b ≠ a → s.heap.get? b = some o → h'.get? b = some o) → Q .none { s with heap := h' }) :
    wpAny (model prog w) A (call (.builtin "ValueError.__init__") [.ref a, u]) Q E s := by
  obtain ⟨hh, g, d, tk, os⟩ := s
  have F := PySem.F.excBase_ValueError
  have L0 : Looks (model prog w) hh (typeOf (.ref a)) (.ref C) := (Looks.ld (part := _) hx).andThen .now
  have L1 : Looks (model prog w) hh (isSubtype (.ref C) (.type "ValueError")) true := looks_mroIn X hv
  have hshort := F.noStar
  obtain ⟨cl, dl, cd, slc, hC⟩ : ∃ cl dl cd slc, hh.get? C = some ⟨cl, dl, .cls cd, slc⟩ := by
    obtain ⟨cd, hc, _⟩ := any_some c.hd
    unfold clsIn at hc
    split at hc
    · rename_i ho; exact ⟨_, _, _, _, X _ _ ho⟩
    · cases hc
  refine wpAny_call (codeAny_call_builtin F.init.plain F.initEntry ?_)
  have chk : ∀ (A : Around) (Q : Unit → Shared → Prop) (E : Value → Shared → Prop), Q () ⟨hh, g, d, tk, os⟩ → wpAny (model prog w) A (checkBuiltinCall "ValueError.__init__" ⟨.ref a :: [u], []⟩) Q E ⟨hh, g, d, tk, os⟩ := fun A Q E hq => by
    simp only [checkBuiltinCall, F.initKind, F.initSplit, F.initRow]
    repeat (first | with_reducible refine L0.at ?_ | with_reducible refine L1.at ?_ | with_reducible refine wpAny_loadPart_at hC ?_ | with_reducible refine wpAny_load hC ?_ | wp_step)
    exact hq
  refine chk _ _ _ ?_
  wp_walk
  refine h _ (hh.objs.size) ?_ fun b o hb e => ?_
  · rw [Heap.get?_update_self _ (Heap.get?_push_of_some _ hx) rfl]
    rfl
  · rw [Heap.get?_update_other _ _ (Ne.symm hb)]
    exact Heap.get?_push_of_some _ e
variable {N fI : Addr} {nm q : Str} {bs bm : List Value} {hdct : Bool} {sn : List Str} {sub : List Value} {ab : Bool} {col : Option Bool} {dc : Option Addr} {k0 k1 k2 k3 k5 : Option Value} {oI : Obj} {mN : Str → Option Value} {rest : List Value}
theorem Kg {Q : Fin → Shared → Prop} {h : Heap} {g : Array GenState} {d : Drawn} {t : Nat} {os : OsState} (T : OwnTail h vT bm) (hC : h.get? C = some (excClassObj nm q C N bs bm hdct sn sub ab col dc k0 k1 k2 k3 k5 "ValueError.__new__")) (hn : h.Ns N mN) (hi : mN "__init__" = some (.ref fI))
    (hfI : h.get? fI = some oI) (hfc : oI.cls = .type "function")
    (hq : ∀ h' e, Heap.MadeExcOf h h' e (.ref C) rest → h.objs.size ≤ e → wpAny (model prog w) A (call (.ref fI) (.ref e :: rest)) (fun r s' => r = .none ∧ Q (.done (.ret (.ref e))) s') E ⟨h', g, d, t, os⟩) (hrest : rest.length ≤ sizeLine) :
    wpAny (model prog w) A (Builtin.«type.__call__» ⟨.ref C :: rest, []⟩) Q E ⟨h, g, d, t, os⟩ := by
  have F := PySem.F.excBase_ValueError
  repeat (first | with_reducible refine wpAny_loadPart_at hC ?_ | with_reducible refine wpAny_madeBy_exc hC ?_ | wp_step)
  refine codeAny_call_builtin_code (Code.quiet_builtin _ F.quiet) (wpAny_check_new_subT F T hC (codeAny_exc_new_subT F T hC ?_ hrest))
  show wpAny _ _ _ _ _ _
  have kp : ∀ b o, h.get? b = some o → ((h.push { cls := .type "tuple", data := .seq rest.toArray }).push { cls := .ref C, data := .fields #[.ref h.objs.size, .none, .none, .none, .bool false, .none] }).get? b = some o :=
    fun b o e => Heap.get?_push_of_some _ (Heap.get?_push_of_some _ e)
  have hC1 := kp _ _ hC
  have hfI1 := kp _ _ hfI
  have T1 := T.keeps kp
  have hn1 := Heap.Ns.keeps hn kp
  have hget : ((h.push { cls := .type "tuple", data := .seq rest.toArray }).push { cls := .ref C, data := .fields #[.ref h.objs.size, .none, .none, .none, .bool false, .none] }).get? (h.objs.size + 1) =
      some { cls := .ref C, data := .fields #[.ref h.objs.size, .none, .none, .none, .bool false, .none] } := by heap_get
  have hcC : (Value.ref C :: bm).contains (.ref C) = true := by simp
  unfold isInstance
  repeat (first | with_reducible refine wpAny_loadPart_at hget ?_ | (with_reducible refine wpAny_isSubtype_exc hC1 ?_; rw [hcC]) | wp_step)
  show wpAny _ _ (typeLookup (.ref C) _) _ _ _
  refine wpAny_typeLookup_tail hC1 hn1 T1 F.mroIs F.init.lookup ?_
  rw [hi]
  refine wpAny_holding (wpAny_bind ?_)
  unfold bindSpecial
  refine wpAny_bind (wpAny_typeOf (T := "function") ⟨_, hfI1, hfc⟩ ?_)
  rw [if_pos (by decide)]
  refine wpAny_pure (wpAny_bind (wpAny_mono (hq _ (h.objs.size + 1) ⟨kp, Heap.get?_none_of_le (Nat.le_succ _), h.objs.size, hget, Heap.get?_none_of_le (Nat.le_refl _), Heap.get?_push_of_some _ (Heap.get?_push_at rfl rfl)⟩ (Nat.le_succ _)) (fun r s' hr => ?_) fun _ _ x => x))
  obtain ⟨rfl, hQ⟩ := hr
  wp_walk
  exact hQ
theorem XG {Q : Value → Shared → Prop} (T : OwnTail s.heap vT bm) (hC : s.heap.get? C = some (excClassObj nm q C N bs bm hdct sn sub ab col dc k0 k1 k2 k3 k5 "ValueError.__new__")) (hn : s.heap.Ns N mN) (hi : mN "__init__" = some (.ref fI))
    (hfI : s.heap.get? fI = some oI) (hfc : oI.cls = .type "function")
    (hq : ∀ h' e, Heap.MadeExcOf s.heap h' e (.ref C) rest → s.heap.objs.size ≤ e →
      wpAny (model prog w) (A.under (.builtin "type.__call__" ⟨.ref C :: rest, []⟩)) (call (.ref fI) (.ref e :: rest)) (fun r s' => r = .none ∧ Q (.ref e) s') E { s with heap := h' }) (hrest : rest.length ≤ sizeLine) :
    wpAny (model prog w) A (call (.ref C) rest) Q E s := by
  obtain ⟨h, g, d, t, os⟩ := s
  have f1 := tc_lookup
  have f2 := tc_bind (.ref C)
  have hT : (⟨h, g, d, t, os⟩ : Shared).TypeIs (.ref C) "type" := ⟨_, hC, rfl⟩
  refine wpAny_call (codeAny_of_tree ?_)
  show wpAny _ _ (callAny (.ref C) _) _ _ _
  repeat (any_goals (first | assumption | with_reducible refine wpAny_loadPart_at hC ?_ | wp_step))
  refine ⟨rfl, codeAny_call_builtin_at (Code.quiet_builtin _ (by decide +kernel)) entry_typeCall (wpAny_check_type_call_sub hC (Kg T hC hn hi hfI hfc (fun h' e hm hz => ?_) hrest))⟩
  exact hq h' e hm hz
end
end L2

namespace L2
open PySem PySem.Spec PyProof.Rows PySem.W
noncomputable def XD (H : Hp) (dd : Option Addr) (fs : List (Str × V)) : Prop := match dd with
  | none => fs = []
  | some dx => H dx = some (.xd fs)
theorem Kx {P : Program} {w : World} {H : Hp} {h : Heap} {a C : Addr} {dd : Option Addr} {fs : List (Str × V)} (ok : HOk P w H h) (e : H a = some (XO a C dd)) (d : XD H dd fs) : ∃ oe od, InstAt h a oe C od := by
  obtain ⟨o, vs, e1, e2, e3, e4⟩ := Vd ok e
  cases dd with
  | none => exact ⟨o, none, e1, e2, by unfold notCls; rw [e4], by rw [e3]; trivial⟩
  | some dx =>
    obtain ⟨mA, ⟨od, es, ep, f1, _⟩, _⟩ := (ok dx _ d : ObjOk P w H h dx (.xd fs))
    exact ⟨o, some od, e1, e2, by unfold notCls; rw [e4], by rw [e3]; exact f1⟩
theorem VJ : handedIn (.builtin "ValueError.__init__") = true := by decide +kernel
noncomputable def vOf : V → Value
  | .ref a => .ref a
  | .ty n => .type n
  | _ => .none
section
variable {X : Cx} {e : Expr} {ta : TE} {f : Str} {pos : Pos}
theorem Qm : CallR X (.builtin "isinstance") (fun xs H Q => ∃ a C dd fs c b, xs = [.ref a, c] ∧ RelV c (vOf c) ∧ H a = some (XO a C dd) ∧ XD H dd fs ∧ XC X.K C ∧ kitOne X.K (.ref C) (vOf c) = some b ∧ Q (.bl b) H) := by
  intro pins s σ H xs us Q I r h
  obtain ⟨a, C, dd, fs, c, b, rfl, hc, ha, hd, xc, k, q⟩ := h
  obtain ⟨u1, u2, rfl, r1, r2⟩ := Yi r
  obtain rfl : u1 = .ref a := r1
  have e2 : u2 = vOf c := by
    cases c with
    | ref _ => exact r2
    | ty _ => exact r2
    | non => cases (show u2 = Value.none from r2); rfl
    | bl _ => exact nomatch (show vOf (.bl _) = Value.bool _ from hc)
    | int _ => obtain ⟨_, z⟩ := (show ∃ t, vOf (.int _) = Value.int _ t from hc); exact nomatch z
    | str _ => obtain ⟨_, z⟩ := (show ∃ t, vOf (.str _) = Value.str _ t from hc); exact nomatch z
    | byt _ => obtain ⟨_, z⟩ := (show ∃ t, vOf (.byt _) = Value.bytes _ t from hc); exact nomatch z
    | flt _ => obtain ⟨_, z⟩ := (show ∃ t, vOf (.flt _) = Value.float _ t from hc); exact nomatch z
  subst e2
  exact kia_one (V6 xc) I.kIn (Kx I.hok ha hd) k (fun z => nomatch z) fun tk => ⟨.bl b, H, I.tok tk, rfl, q⟩
theorem YB (he : PE X e ta) (hb : attributeBase e f X.env (eval e X.env) = eval e X.env := by rfl) :
    PE X (.Attribute e f pos) (fun σ H Q => ta σ H fun x H1 => ∃ a C dx fs v, x = .ref a ∧ H1 a = some (XO a C (some dx)) ∧ H1 dx = some (.xd fs) ∧ XC X.K C ∧ findIn X.K (.ref C) f = some none ∧ fs.lookup f = some v ∧ Q v H1) := by
  intro pins s σ H Q I h
  refine X9 hb (thn (he pins s σ H _ I h) fun u s1 ⟨x, H1, I1, rx, a, C, dx, fs, v, ex, ea, ed, c, n, l, q⟩ => ?_)
  subst ex
  obtain rfl : u = Value.ref a := rx
  obtain ⟨o, vs, e1, e2, e3, e4⟩ := Vd I1.hok ea
  obtain ⟨mA, n1, rl⟩ := (I1.hok dx _ ed : ObjOk X.prog X.w H1 s1.heap dx (.xd fs))
  obtain ⟨od, f1, f2⟩ := VA n1
  obtain ⟨u, hu, ru⟩ := RelO.some_of (v := v) (o := mA f) (by rw [← l]; exact rl f)
  have J : InstAt s1.heap a o C (some od) := ⟨e1, e2, by unfold notCls; rw [e4], by rw [e3]; exact f1⟩
  have hf : findObj X.K C (some od) f = some (.value u) := by
    obtain ⟨cd, hc, hd⟩ := any_some c.hd
    unfold findObj
    rw [hc, Option.bind_some, n, Option.bind_some]
    show ((W.ownOf cd (some od) f).bind _) = _
    unfold W.ownOf
    rw [hd, if_pos rfl]
    show ((lookIn f od).bind _) = _
    rw [f2, hu]
    rfl
  exact Kk I1.kIn J c hf (Vf ru) ⟨v, H1, I1.tok _, ru, q⟩

noncomputable def XI (prog : Program) (w : World) (K : PySem.W.Frag) (id : String) : Prop := ∀ (A : Around) (E : Value → Shared → Prop) (s : Shared) (a C t : Addr) (sl : Array (Option Value)) (dd : Option Addr) (u : Value) (Q : Value → Shared → Prop), K.In s.heap → XC K C → mroIn K C (.type "ValueError") = some true →
  s.heap.get? a = some ⟨.ref C, dd, .fields #[.ref t, .none, .none, .none, .bool false, .none], sl⟩ →
  (∀ h' t', h'.get? a = some ⟨.ref C, dd, .fields #[.ref t', .none, .none, .none, .bool false, .none], sl⟩ → (∀ b o, b ≠ a → s.heap.get? b = some o → h'.get? b = some o) → Q .none { s with heap := h' }) →
  wpAny (model prog w) A (call (.builtin id) [.ref a, u]) Q E s
theorem Wq {prog : Program} {w : World} {K : PySem.W.Frag} : XI prog w K "ValueError.__init__" := fun _ _ _ _ _ _ _ _ _ _ X c hv hx h => Ka X c hv hx h
theorem V7 {R : Addr} {x : Str} {e1 e2 : Expr} {t : TA} {p ap : Pos} {pl : Sem Bool} {id : String} (hid : XI X.prog X.w X.K id) (hin : handedIn (.builtin id) = true) (hg : Gl X x) (hm : X.mg x = some (.ref R)) (hga : specialIn X.K (.ref R) "__getattribute__" = some (some (.builtin "type.__getattribute__")))
    (hr : readsIn X.K R (.type "type") = true) (hf : findCls X.K (.ref R) (.type "type") "__init__" = some (.val (.builtin id))) (ha : PA X [e1, e2] t) (hdb : (x == ("__debug__" : Str)) = false := by decide)
    (hst : starEach [e1, e2] X.env = (false, eval e1 X.env) :: starEach [e2] X.env := by rfl) (hpl : (backTo pos (starEach [e2] X.env)).any (·.1) = false := by rfl)
    (ht : eval (.Call (.Attribute (.Name x p) "__init__" ap) [e1, e2] [] pos) X.env = (do
      let ov ← eval (.Name x p) X.env
      standAt ap.atName
      let (f, first) ← holding [ov] (getMethod ov "__init__" pl)
      callWith pos f first (backTo pos (starEach [e1, e2] X.env)) (backToKw pos (keywordEach [] X.env))) := by rfl) :
    PE X (.Call (.Attribute (.Name x p) "__init__" ap) [e1, e2] [] pos) (fun σ H Q => t σ H fun vs H1 => ∃ a C dd y, vs = [.ref a, y] ∧ H1 a = some (XN a C dd) ∧ XC X.K C ∧ mroIn X.K C (.type "ValueError") = some true ∧ Q .non H1) := by
  intro pins s σ H Q I h
  refine methodCall_KW (pl := pl) (QL I hg hm (method_cls I.kIn hga (cls_value I.kIn hr hf hin ?_)) hdb) ht
  refine PyProof.Rows.callWith_builtin1 (thn (ha pos pins _ σ H _ (I.tok _) h) fun us s1 ⟨vs, H1, I1, r, a, C, dd, y, ev, ea, c, mv, q⟩ => ?_) hst hpl
  subst ev
  obtain ⟨u1, u2, rfl, r1, r2⟩ := Yi r
  obtain rfl : u1 = .ref a := r1
  obtain ⟨sl, t0, e1⟩ := Jv I1.hok ea
  refine hid _ _ _ _ _ _ _ _ _ _ I1.kIn c mv e1 fun h' t' k1 k2 => ⟨.non, H1, ?_, rfl, q⟩
  have J := I1.write (x := a) (e := a) (o := XN a C dd) (t' := s1.toks) (by rw [ea]; exact True.intro) (.inl rfl) k2 ⟨_, k1⟩ (VR k1)
  rwa [show upd H1 a (XN a C dd) = H1 from by funext b; unfold upd; split; (rename_i z; rw [z, ea]); rfl] at J
theorem X0 {o value : Expr} {to tv : TE} {pos' : Pos} (ho : PE X o to) (hv : PE X value tv) (hs : swapsWith value (some (.Attribute o f pos')) pos.line X.env = pure false := by rfl) :
    PS X (.Assign [.Attribute o f pos'] value pos) (fun D σ H => tv σ H fun y H1 => to σ H1 fun x H2 => ∃ a C, x = .ref a ∧ H2 a = some (XN a C none) ∧ XC X.K C ∧ findIn X.K (.ref C) f = some none ∧
      ∀ dx, H2 dx = none → D.nx σ (upd (upd H2 dx (.xd [(f, y)])) a (XN a C (some dx)))) := by
  intro pins s σ H D I h
  refine plainObj_wpAny_Assign_Attribute (thn (hv pins s σ H _ I h) fun u s1 ⟨y, H1, I1, ry, q⟩ => thn (ho pins s1 σ H1 _ I1 q) fun ov s2 ⟨x, H2, I2, rx, a, C, ex, ea, c, n, q2⟩ => ?_) hs
  subst ex
  obtain rfl : ov = Value.ref a := rx
  obtain ⟨sl, t0, e1⟩ := Jv I2.hok ea
  refine Yv I2.kIn c e1 rfl rfl rfl n fun h' dx k1 k2 k3 k4 => ?_
  have nd : H2 dx = none := I2.hok.fresh k1
  have nda : dx ≠ a := fun z => by rw [z, ea] at nd; cases nd
  have hx : ∃ o, h'.get? dx = some o := let ⟨o, _, _, e, _⟩ := k3; ⟨o, e⟩
  refine ⟨σ, _, ?_, q2 dx nd⟩
  have ud : ∀ b, H2 b ≠ none → b ≠ a → upd (upd H2 dx (.xd [(f, y)])) a (XN a C (some dx)) b = H2 b := fun b h1 h2 => by
    rw [Qa h2, Qa (fun z => h1 (by rw [z]; exact nd))]
  have un : Un X.fs [] H2 (upd (upd H2 dx (.xd [(f, y)])) a (XN a C (some dx))) s2.heap h' :=
    { keep := fun b o e n _ _ => k4 b o (fun z => by rw [z, ea] at n; cases n) e
      slot := fun b o e n _ _ => ⟨o.slots, k4 b o (fun z => by rw [z, ea] at n; cases n) e⟩
      free := fun b o e n _ => by
        rw [Qa (fun z => by rw [z, ea] at n; cases n), Qa (fun z => ?_)]
        · exact n
        · subst z; exact absurd (Heap.lt_size e) (Nat.not_lt.mpr k1)
      there := fun b o e _ => by
        by_cases z : b = a
        · subst z; exact ⟨_, k2⟩
        · exact ⟨o, k4 b o z e⟩
      tups := fun b xs e => by rw [ud b (by rw [e]; simp) (fun z => by rw [z, ea] at e; cases e)]; exact e
      frzs := fun b o u e => by rw [ud b (by rw [e]; simp) (fun z => by rw [z, ea] at e; cases e)]; exact e
      tbls := fun b ps e => ⟨#[], by rw [ud b (by rw [e]; simp) (fun z => by rw [z, ea] at e; cases e)]; simpa using e⟩ }
  refine I2.un (t' := s2.toks + 2) un fun b o e => ?_
  by_cases hb : b = a
  · subst hb; rw [Qd] at e; cases e; exact VR k2
  · rw [Qa hb] at e
    by_cases hd : b = dx
    · subst hd; rw [Qd] at e; cases e
      refine ⟨_, k3, fun g => ?_⟩
      show RelO (List.lookup g [(f, y)]) (if g = f then some u else none)
      by_cases hg : g = f
      · rw [if_pos hg, hg]; simp only [List.lookup, beq_self_eq_true]; exact ry
      · have hb : (g == f) = false := beq_eq_false_iff_ne.mpr hg
        rw [if_neg hg]; simp only [List.lookup, hb]; trivial
    · rw [Qa hd] at e
      refine (I2.hok b o e).stay (fun c v hc r => k4 c v ?_ r) (fun c r => ?_) fun c xs r => ?_
      · rintro rfl
        rcases hc with z | z
        · exact hb z.symm
        · rw [ea] at z; cases z
      · rw [ud c (by rw [r]; simp) (fun z => by rw [z, ea] at r; cases r)]; exact r
      · rw [ud c (by rw [r]; simp) (fun z => by rw [z, ea] at r; cases r)]; exact r
end
end L2

namespace L2
open PySem PySem.Spec PyProof.Rows PySem.W
section
variable {prog : Program} {w : World} {A : Around} {E : Value → Shared → Prop} {s : Shared} {K : PySem.W.Frag} {env : Env}
theorem JS {x : Sem Value} {Q : Flow → Shared → Prop} (hh : A.handled = none)
    (h : wpAny (model prog w) A x (fun v s₁ => ∃ e C dd sl t, v = .ref e ∧ K.In s₁.heap ∧ XC K C ∧ s₁.heap.get? e = some ⟨.ref C, dd, .fields #[.ref t, .none, .none, .none, .bool false, .none], sl⟩ ∧ E (.ref e) s₁) E s) :
    wpAny (model prog w) A (raiseStmt env (some x) none) Q E s := by
  unfold raiseStmt
  refine wpAny_bind (wpAny_mono h (fun v s₁ h₁ => ?_) fun _ _ x => x)
  obtain ⟨e, C, dd, sl, t, rfl, X, c, he, hE⟩ := h₁
  obtain ⟨hp, g, d, tk, os⟩ := s₁
  dsimp only at X he
  have L0 : Looks (model prog w) hp (typeOf (.ref e)) (.ref C) := (Looks.ld (part := _) he).andThen .now
  have L1 : Looks (model prog w) hp (isSubtype (.ref C) (.type "BaseException")) true := looks_mroIn X c.mb
  have L2 : Looks (model prog w) hp (typeOf (.ref C)) (.type "type") := looks_typeIn X c.tt
  have L3 : Looks (model prog w) hp (isInstance (.ref e) (.type "BaseException")) true := L0.andThen L1
  unfold excFromValue
  repeat (first | with_reducible refine L0.at ?_ | with_reducible refine L1.at ?_ | with_reducible refine L2.at ?_ | with_reducible refine L3.at ?_ | with_reducible refine wpAny_loadPart_at he ?_ | wp_step)
  exact wpAny_raiseNew_none hh hE
end
noncomputable def CXr (P : Program) (w : World) : CXT := fun outer H s E e s' => ∃ a C dd H', e = .ref a ∧ s'.os = s.os ∧ AllBare s'.gens ∧ Fly P w outer H s.heap a C dd .none H' s'.heap ∧ E (.ref C) (some a) H'
theorem Wt {l : List Addr} {H H1 : Hp} {G h : Heap} {a C : Addr} {dd : Option Addr} (u : Un l [] H H1 G h) (ea : H1 a = some (XN a C dd)) (n : G.get? a = none) : Un l [] H (upd H1 a (XO a C dd)) G h where
  keep := u.keep
  slot := u.slot
  free := fun b o e q z => by rw [Qa (fun y => by rw [y, n] at e; cases e)]; exact u.free b o e q z
  there := u.there
  tups := fun b xs e => by
    have q := u.tups b xs e
    rw [Qa (fun y => by rw [y, ea] at q; cases q)]; exact q
  frzs := fun b o x e => by
    have q := u.frzs b o x e
    rw [Qa (fun y => by rw [y, ea] at q; cases q)]; exact q
  tbls := fun b ps e => by
    obtain ⟨m, q⟩ := u.tbls b ps e
    exact ⟨m, by rw [Qa (fun y => by rw [y, ea] at q; cases q)]; exact q⟩
theorem ObjOk.some {P : Program} {w : World} {H : Hp} {h : Heap} {a : Addr} {o : HO} (x : ObjOk P w H h a o) : ∃ ob, h.get? a = some ob := by
  cases o with
  | lst xs => obtain ⟨_, _, _, _, e⟩ := x; exact ⟨_, e⟩
  | tup xs => obtain ⟨_, _, _, ob, e, _⟩ := x; exact ⟨ob, e⟩
  | dK kvs => obtain ⟨_, _, _, _, ob, _, _, e, _⟩ := x; exact ⟨ob, e⟩
  | dT kvs => obtain ⟨_, _, _, _, ob, _, _, e, _⟩ := x; exact ⟨ob, e⟩
  | set S n => obtain ⟨ob, _, _, _, e, _⟩ := x; exact ⟨ob, e⟩
  | ins C dx fs => obtain ⟨_, _, _, e, _⟩ := x; exact ⟨_, e⟩
  | own _ => exact x
  | xd fs => obtain ⟨_, ⟨ob, _, _, e, _⟩, _⟩ := x; exact ⟨ob, e⟩
  | rng lo hi => obtain ⟨_, _, _, e⟩ := x; exact ⟨_, e⟩
  | frz o u => exact ⟨o, x.1⟩
  | tbl ps => exact ⟨_, x⟩
  | met f y => exact ⟨_, x⟩
  | ext φ => exact x.2.1
theorem HOk.off {P : Program} {w : World} {H : Hp} {h : Heap} {a : Addr} (ok : HOk P w H h) (n : h.get? a = none) : H a = none := by
  cases e : H a with
  | none => rfl
  | some o => obtain ⟨ob, q⟩ := (ok a o e).some; rw [n] at q; cases q
theorem Inv.laidX {X : Cx} {pins : List (Addr × Obj)} {σ : St} {H : Hp} {s : Shared} {h' : Heap} {a : Addr} {o : HO} {t' : Nat} (I : Inv X pins σ H s) (k : ∀ b u, s.heap.get? b = some u → h'.get? b = some u) (n : s.heap.get? a = none) (new : ObjOk X.prog X.w (upd H a o) h' a o) :
    Inv X pins σ (upd H a o) { s with heap := h', toks := t' } := by
  have hn := I.hok.off n
  have ud : ∀ b u, H b = some u → upd H a o b = some u := fun b u e => by rw [Qa (fun z => by rw [z, hn] at e; cases e)]; exact e
  refine I.un ⟨fun b q e _ _ _ => k b q e, fun b q e _ _ _ => ⟨q.slots, k b q e⟩, fun b q e z _ => by rw [Qa (fun y => by rw [y, n] at e; cases e)]; exact z, fun b q e _ => ⟨q, k b q e⟩, fun b xs e => ud b _ e, fun b q u e => ud b _ e, fun b ps e => ⟨#[], by simpa using ud b _ e⟩⟩ fun b u e => ?_
  by_cases hb : b = a
  · subst hb; rw [Qd] at e; cases e; exact new
  · rw [Qa hb] at e
    exact (I.hok b u e).stay (fun c v _ r => k c v r) (fun c r => ud c _ r) fun c xs r => ud c _ r
section
variable {P : Program} {w : World} {K : PySem.W.Frag} {mg : Str → Option Value} {base : Heap} {N : List Str} {qual : Str} {scope : Scope} {f : Addr} {cd : Value} {A : Around} {outer : List Env} {s0 : Shared} {H0 : Hp} {E : XK}
noncomputable abbrev cxR (P : Program) (w : World) (K : PySem.W.Frag) (mg : Str → Option Value) (base : Heap) (N : List Str) (qual : Str) (scope : Scope) (f : Addr) (cd : Value) (A : Around) (outer : List Env) (s0 : Shared) (H0 : Hp) (E : XK) : Cx :=
  JC (CXr P w) P w K mg base N qual scope f cd A outer s0 H0 E
theorem ZP {pins : List (Addr × Obj)} {σ : St} {H1 : Hp} {s1 : Shared} {a C : Addr} {dd : Option Addr} (I : Inv (cxR P w K mg base N qual scope f cd A outer s0 H0 E) pins σ H1 s1) (ea : H1 a = some (XN a C dd)) (n : s0.heap.get? a = none)
    (h : E (.ref C) (some a) (upd H1 a (XO a C dd))) : (cxR P w K mg base N qual scope f cd A outer s0 H0 E).xe (.ref a) s1 := by
  obtain ⟨sl, t, e1⟩ := Jv I.hok ea
  have un : Un (frs outer) [] H0 (upd H1 a (XO a C dd)) s0.heap s1.heap := Wt I.base ea n
  have hok : HOk P w (upd H1 a (XO a C dd)) s1.heap := HOk.write (x := a) (e := a) (h' := s1.heap) I.hok (by rw [ea]; exact True.intro) (.inl rfl) (fun _ _ _ e => e) ⟨_, e1⟩
    ⟨⟨_, _, e1, rfl, rfl, rfl⟩, ⟨_, e1⟩, fun _ _ ⟨o, vs, q1, q2⟩ k => ⟨o, vs, k _ q1, q2⟩⟩
  show wpAny _ _ (leaving _ (.ref a)) _ _ s1
  refine JX (l := outer) (G := s0.heap) (H := H0) (H' := upd H1 a (XO a C dd)) un hok Qd n e1 rfl rfl rfl rfl I.ok.frames I.stack rfl (fun b hb => ?_) fun h' F => ⟨a, C, dd, _, rfl, I.os, I.bare, F, h⟩
  have nb : H1 b = none := I.stkFree b hb
  refine ⟨?_, by rw [Qa (fun y => by rw [y, ea] at nb; cases nb)]; exact nb⟩
  have q : b ∈ s0.heap.objs.size :: frs outer := hb
  rcases List.mem_cons.mp q with z | z
  · exact .inr (by rw [z]; exact Heap.get?_none_of_le (Nat.le_refl _))
  · exact .inl z
structure XM (K : PySem.W.Frag) (C : Addr) (ini : Option Value) : Prop where
  obj : ∃ N nm q bs bm hdct sn sub ab col dd k0 k1 k2 k3 k5 mN, K.lookup C = some (excClassObj nm q C N bs bm hdct sn sub ab col dd k0 k1 k2 k3 k5 "ValueError.__new__") ∧ (∀ h : Heap, K.In h → OwnTail h vT bm) ∧ (∀ h : Heap, K.In h → h.Ns N mN) ∧ mN "__init__" = ini
  kp : keepIn K (.ref C) = true
  xc : XC K C
variable {C : Addr} {x : Str} {np cpos pos : Pos} {e : Expr} {te : TA}
theorem QA (hh : A.handled = none) (M : XM K C none) (hg : Gl (cxR P w K mg base N qual scope f cd A outer s0 H0 E) x) (hm : mg x = some (.ref C)) (he : PA (cxR P w K mg base N qual scope f cd A outer s0 H0 E) [e] te) (hdb : (x == ("__debug__" : Str)) = false := by decide)
    (hst : starEach [e] (cxR P w K mg base N qual scope f cd A outer s0 H0 E).env = [(false, eval e (cxR P w K mg base N qual scope f cd A outer s0 H0 E).env)] := by rfl) :
    PS (cxR P w K mg base N qual scope f cd A outer s0 H0 E) (.Raise (some (.Call (.Name x np) [e] [] cpos)) none pos) (fun _ σ H => te σ H fun vs H1 => ∃ v, vs = [v] ∧ ∀ a, H1 a = none → E (.ref C) (some a) (upd (upd H1 a (XN a C none)) a (XO a C none))) := by
  intro pins s σ H D I h
  rw [arm_exec_Raise]
  refine wpAny_bind (wpAny_standAt (JS (K := K) hh ?_))
  refine wpAny_bind (wpAny_mono (wpAny_Call_Name_kw (QL I hg hm ?_ hdb)) (fun v s3 h3 => wpAny_bind (wpAny_standAt (wpAny_pure h3))) fun _ _ z => z)
  refine callWith_K (h₀ := base) I.ok.mod.kin M.kp (thn (he cpos pins s σ H _ I h) fun us s1 ⟨vs, H1, I1, r, q⟩ => ⟨I1.kIn, ?_⟩) hst rfl
  obtain ⟨Nn, nm, qq, bs, bm, hdct, sn, sub, ab, col, dd, k0, k1, k2, k3, k5, mN, l1, l2, l3, l4⟩ := M.obj
  obtain ⟨v, ev, q⟩ := q
  have ln : us.length = 1 := by rw [← r.length, ev]; rfl
  have kIn := I1.kIn
  obtain ⟨hh1, g, d, tk, os⟩ := s1
  refine wpAny_call_exc_subT PySem.F.excBase_ValueError (l2 _ kIn) (kIn _ _ l1) (l3 _ kIn) l4 (fun h' a hm2 => ?_) (by rw [List.nil_append, ln]; decide)
  obtain ⟨t0, e1, _⟩ := hm2.there
  have I2 := I1.laidX (t' := tk) hm2.keeps hm2.new (VR (C := C) (dd := none) e1)
  have g0 : s0.heap.get? a = none := by
    cases z : s0.heap.get? a with
    | none => rfl
    | some o => obtain ⟨o', z'⟩ := I1.base.there a o z (by intro y; cases y); rw [show hh1.get? a = none from hm2.new] at z'; cases z'
  exact ⟨a, C, none, #[], t0, rfl, fun b o e => hm2.keeps b o (kIn b o e), M.xc, e1, ZP I2 Qd g0 (q a (I1.hok.off hm2.new))⟩
theorem J1 {k : Nat} {fI : Addr} {fd : FuncData} {ps : List Str} {sp : Sp} {oI : Obj} (hr : Room (k + 1) (A.deeper (envOfC qual scope s0.heap.objs.size f cd))) (M : XM K C (some (.ref fI))) (F : FnOk P w K mg base (CXr P w) k fI fd ps sp) (hb : Binds K fd ps []) (lI : K.lookup fI = some oI) (cI : oI.cls = .type "function")
    (hg : Gl (cxR P w K mg base N qual scope f cd A outer s0 H0 E) x) (hm : mg x = some (.ref C)) (he : PA (cxR P w K mg base N qual scope f cd A outer s0 H0 E) [e] te) (hdb : (x == ("__debug__" : Str)) = false := by decide)
    (hst : starEach [e] (cxR P w K mg base N qual scope f cd A outer s0 H0 E).env = [(false, eval e (cxR P w K mg base N qual scope f cd A outer s0 H0 E).env)] := by rfl) :
    PS (cxR P w K mg base N qual scope f cd A outer s0 H0 E) (.Raise (some (.Call (.Name x np) [e] [] cpos)) none pos) (fun _ σ H => te σ H fun vs H1 => ∃ v, vs = [v] ∧ ∀ a, H1 a = none →
      sp (.ref a :: vs) (upd H1 a (XN a C none)) (fun y H2 => y = .non ∧ ∃ dd, H2 a = some (XN a C dd) ∧ E (.ref C) (some a) (upd H2 a (XO a C dd))) (fun _ _ _ => False)) := by
  intro pins s σ H D I h
  rw [arm_exec_Raise]
  refine wpAny_bind (wpAny_standAt (JS (K := K) hr.hd ?_))
  refine wpAny_bind (wpAny_mono (wpAny_Call_Name_kw (QL I hg hm ?_ hdb)) (fun v s3 h3 => wpAny_bind (wpAny_standAt (wpAny_pure h3))) fun _ _ z => z)
  refine callWith_K (h₀ := base) I.ok.mod.kin M.kp (thn (he cpos pins s σ H _ I h) fun us s1 ⟨vs, H1, I1, r, q⟩ => ⟨I1.kIn, ?_⟩) hst rfl
  obtain ⟨Nn, nm, qq, bs, bm, hdct, sn, sub, ab, col, dd, k0, k1, k2, k3, k5, mN, l1, l2, l3, l4⟩ := M.obj
  obtain ⟨v, ev, q⟩ := q
  have ln : us.length = 1 := by rw [← r.length, ev]; rfl
  have kIn := I1.kIn
  refine XG (l2 _ kIn) (kIn _ _ l1) (l3 _ kIn) l4 (kIn _ _ lI) cI (fun h' a hm2 _ => ?_) (by rw [List.nil_append, ln]; decide)
  rw [List.nil_append] at hm2 ⊢
  obtain ⟨t0, e1, _⟩ := hm2.there
  have I2 := I1.laidX (t' := s1.toks) hm2.keeps hm2.new (VR (C := C) (dd := none) e1)
  have g0 : s0.heap.get? a = none := by
    cases z : s0.heap.get? a with
    | none => rfl
    | some o => obtain ⟨o', z'⟩ := I1.base.there a o z (by intro y; cases y); rw [hm2.new] at z'; cases z'
  have hq := q a (I1.hok.off hm2.new)
  have r2 : Vals (V.ref a :: vs) (Value.ref a :: us) := .cons rfl r
  have hl : (Value.ref a :: us ++ []).length = ps.length := by
    rw [List.append_nil, ← r2.length]
    exact F.len _ _ _ _ hq
  have bd := hb _ (Value.ref a :: us) I2.kIn hl
  rw [List.append_nil] at bd
  refine wpAny_call (codeAny_mono (F.run _ _ _ _ ⟨Value.ref a :: us, []⟩ (Value.ref a :: us) _ _ (fun _ _ _ => False) (hr.make C us []) (I2.env0.make C us []) bd r2 hq) fun rr s' hq' => ?_)
  cases rr with
  | error e => obtain ⟨_, _, _, _, _, _, _, _, z⟩ := hq'; exact z.elim
  | ok fl =>
    cases fl with
    | ret u =>
      obtain ⟨y, H2, I3, ry, ey, dd', ea, q3⟩ := I2.after hq'
      subst ey
      obtain ⟨sl, t1, e2⟩ := Jv I3.hok ea
      exact ⟨ry, a, C, dd', sl, t1, rfl, I3.kIn, M.xc, e2, ZP I3 ea g0 q3⟩
    | next => exact hq'.elim
    | brk => exact hq'.elim
    | cont => exact hq'.elim
end
end L2

namespace L2
open PySem PySem.Spec PyProof.Rows PySem.W
noncomputable abbrev Cx.hd (X : Cx) (a : Addr) : Cx := { X with A := X.A.mark (some (.ref a)), calm := false, xe := fun _ _ => False }
theorem Inv.hd {X : Cx} {pins : List (Addr × Obj)} {σ : St} {H : Hp} {s : Shared} (I : Inv X pins σ H s) (a : Addr) : Inv (X.hd a) pins σ H s :=
  ⟨⟨I.ok.mod, I.ok.kind, I.ok.glob, I.ok.blt, I.ok.above, I.ok.inj, I.ok.has, I.ok.cab, (fun z => by cases z), I.ok.frames, I.ok.stk, I.ok.exf, I.ok.bs, I.ok.bsz, I.ok.noex, I.ok.exfs, I.ok.funs, I.ok.frf⟩, I.os, I.bare, I.base, I.loc, I.cell, I.free, I.freeC, I.pin, I.hok, I.len⟩
theorem Inv.unhd {X : Cx} {pins : List (Addr × Obj)} {σ : St} {H : Hp} {s : Shared} {a : Addr} (ok : X.Ok) (I : Inv (X.hd a) pins σ H s) : Inv X pins σ H s :=
  ⟨ok, I.os, I.bare, I.base, I.loc, I.cell, I.free, I.freeC, I.pin, I.hok, I.len⟩
section
variable {prog : Program} {w : World} {A : Around} {E : Value → Shared → Prop} {s : Shared} {K : PySem.W.Frag}
theorem JQ {M : Model} {h : Heap} {R : Addr} (X : K.In h) (r : XC K R) : Looks M h (isType (.ref R)) true := by
  obtain ⟨cdD, hcD, _⟩ := any_some r.hd
  unfold clsIn at hcD
  split at hcD
  · rename_i ho
    intro A' Q' E' s' k q; unfold isType loadHead
    exact wpAny_bind (wpAny_loadPart (k _ _ (X _ _ ho)) (wpAny_pure q))
  · cases hcD
theorem Xa {e C R : Addr} {oe : Obj} {Q : Bool → Shared → Prop} (X : K.In s.heap) (he : s.heap.get? e = some oe) (hc : oe.cls = .ref C) (r : XC K R) (hm : mroIn K C (.ref R) = some true) (hq : Q true s) : wpAny (model prog w) A (excMatches (.ref e) (.ref R)) Q E s := by
  obtain ⟨hp, g, d, tk, os⟩ := s
  dsimp only at X he
  have L0 : Looks (model prog w) hp (typeOf (.ref e)) (.ref C) := hc ▸ (Looks.ld he).andThen .now
  have L1 : Looks (model prog w) hp (isSubtype (.ref R) (.type "BaseException")) true := looks_mroIn X r.mb
  have L2 : Looks (model prog w) hp (typeOf (.ref R)) (.type "type") := looks_typeIn X r.tt
  have L3 : Looks (model prog w) hp (isSubtype (.ref C) (.ref R)) true := looks_mroIn X hm
  have LR : Looks (model prog w) hp (isType (.ref R)) true := JQ X r
  have f := tc_notTuple
  unfold excMatches
  repeat (first | with_reducible refine L0.at ?_ | with_reducible refine L1.at ?_ | with_reducible refine L2.at ?_ | with_reducible refine L3.at ?_ | with_reducible refine LR.at ?_ | wp_step)
  exact hq
end

theorem Vn {X : Cx} {pins : List (Addr × Obj)} {σ : St} {H : Hp} {s : Shared} {A : Around} {E : Value → Shared → Prop} {i : Nat} {n : Str} {pos : Pos} {Q : Unit → Shared → Prop} (I : Inv X pins σ H s) (hN : X.N.Nodup) (hi : X.N[i]? = some n) (hl : X.env.kindOf n = some .local)
    (h : ∀ s', Inv X pins (σ.set i none) H s' → Q () s') : wpAny (model X.prog X.w) A (do bindName X.env n .none; unbindBehindTheSuite X.env n pos) Q E s := by
  obtain ⟨m, hn, hm⟩ := id I.loc
  refine wpAny_nameGoes_keeps hl hn (by rw [I.ok.kind]; rfl) fun h' v hn' hs => h _ ?_
  have lo : ∀ b o, X.s₀.heap.get? b = some o → b ≠ X.env.locals := fun b o e => Nat.ne_of_lt (Nat.lt_of_lt_of_le (Heap.lt_size e) I.ok.above)
  have iσ : i < σ.length := by rw [I.len]; exact (List.getElem?_eq_some_iff.mp hi).1
  refine ⟨I.ok, I.os, I.bare, ⟨fun b o e n hb hx => (hs.2 b (lo b o e)).trans (I.base.keep b o e n hb hx), fun b o e n hb hx => ?_, I.base.free, fun b o e hx => ?_, I.base.tups, I.base.frzs, I.base.tbls⟩, ⟨_, hn', fun j y v' e1 e2 e3 => ?_⟩, fun y c e => ?_, I.free, I.freeC, fun p hp => ?_, fun b o e => ?_, by simpa using I.len⟩
  · obtain ⟨sl, e1⟩ := I.base.slot b o e n hb hx
    exact ⟨sl, (hs.2 b (lo b o e)).trans e1⟩
  · obtain ⟨o', e1⟩ := I.base.there b o e hx
    exact ⟨o', (hs.2 b (lo b o e)).trans e1⟩
  · by_cases hj : j = i
    · subst hj
      rw [List.getElem?_set_self iσ] at e2
      cases e2
    · rw [List.getElem?_set_ne (Ne.symm hj)] at e2
      obtain ⟨u', r', q⟩ := hm j y v' e1 e2 e3
      refine ⟨u', r', ?_⟩
      rcases q with ⟨k, e⟩ | ⟨k, c, e, z⟩
      · have ny : y ≠ n := fun e => hj (Zw hN e1 (e ▸ hi))
        exact .inl ⟨k, by simp [ny, e]⟩
      · exact .inr ⟨k, c, e, z.sameBut hs (I.cne y c e)⟩
  · obtain ⟨w', z⟩ := I.cell y c e
    exact ⟨w', z.sameBut hs (I.cne y c e)⟩
  · obtain ⟨e, n, ne, nf, d⟩ := I.pin p hp
    exact ⟨(hs.2 p.1 ne).trans e, n, ne, nf, d⟩
  · refine (I.hok b o e).stay (fun c u hc r => (hs.2 c ?_).trans r) (fun _ q => q) fun _ _ q => q
    rintro rfl
    rcases hc with z | z
    · rw [← z, I.free] at e; cases e
    · rw [I.free] at z; cases z
section
variable {X : Cx} {k : Nat} {f R : Addr} {fd : FuncData} {ps : List Str} {sp : Sp} {fx rx n : Str} {p cpos epos rp hpos tpos : Pos} {e : Expr} {es : List Expr} {t : TA} {b₀ : Stmt} {suite : List Stmt} {i : Nat} {ts : Addr → TS}
theorem KM (F : FnOk X.prog X.w X.K X.mg X.base (CXr X.prog X.w) k f fd ps sp) (hr : Room k X.A) (hg : Gl X fx) (hm : X.mg fx = some (.ref f)) (hk : keepIn X.K (.ref f) = true) (hb : Binds X.K fd ps []) (ha : PA X.nox (e :: es) t)
    (hgR : Gl X rx) (hmR : X.mg rx = some (.ref R)) (xR : XC X.K R) (hN : X.N.Nodup) (hi : X.N[i]? = some n) (hl : X.env.kindOf n = some .local) (hstk : X.stack = X.env :: X.outer ∧ X.env.frame = some X.env.locals) (hsu : ∀ a, PSs (X.hd a) (b₀ :: suite) (ts a))
    (hdb : (fx == ("__debug__" : Str)) = false := by decide) (hdr : (rx == ("__debug__" : Str)) = false := by decide) (he : starEach (e :: es) X.env = (false, eval e X.env) :: starEach es X.env := by rfl) (hpl : (backTo cpos (starEach es X.env)).any (·.1) = false := by rfl)
    (hsw : swapsWith (.Call (.Name fx p) (e :: es) [] cpos) none epos.line X.env = pure false := by rfl) :
    PS X (.Try [.Expr (.Call (.Name fx p) (e :: es) [] cpos) epos] [.ExceptHandler (some (.Name rx rp)) (some n) (b₀ :: suite) hpos] [] [] tpos) (fun D σ H => t σ H fun vs H1 => sp vs H1 (fun _ _ => False) (fun cls oa H2 => ∀ a C dd, cls = .ref C → oa = some a → H2 a = some (XO a C dd) →
      XC X.K C ∧ mroIn X.K C (.ref R) = some true ∧ (ts a) { nx := fun σ' H' => D.nx (σ'.set i none) H', rt := fun _ _ => False } (σ.set i (some (.ref a))) H2)) := by
  intro pins s σ H D I h
  refine wpAny_Try_except (wpAny_execs_cons (thn (wpAny_Expr_any (Q := fun _ _ => False) (wpAny_Call_Name_kw (QL I hg hm ?_ hdb)) I.quiet hsw) fun _ _ z => z.elim))
  refine callWith_K (h₀ := X.base) I.ok.mod.kin hk (wpAny_mono (ha cpos pins s σ H _ (I.wish _) h) (fun us s1 ⟨vs, H1, I1, r, q⟩ => ⟨I1.kIn, ?_⟩) fun _ _ z => z.elim) he hpl
  have I1' := I1.unwish
  have hlen : (us ++ []).length = ps.length := by rw [List.append_nil, ← r.length]; exact F.len _ _ _ _ q
  have bd := hb _ us I1'.kIn hlen
  rw [List.append_nil] at bd
  refine wpAny_call (codeAny_mono (F.run X.A X.stack s1 H1 ⟨us, []⟩ us vs _ _ hr I1'.env0 bd r q) fun rr s' hq => ?_)
  cases rr with
  | ok fl =>
    cases fl with
    | ret u => obtain ⟨v, H', _, _, _, _, _, z⟩ := hq; exact z.elim
    | next => exact hq.elim
    | brk => exact hq.elim
    | cont => exact hq.elim
  | error x =>
    obtain ⟨a, C, dd, H', rfl, os, bare, fly, hE⟩ := hq
    have J := I1'.call' (ch := []) os fly.un fly.hok bare (fun b z => by cases z)
    have hfr : X.A.frames = some (X.env :: X.outer) := by rw [I.ok.frames, hstk.1]
    have hfs : s'.heap.FunFrames X.base (X.env :: X.outer) := by rw [← hstk.1]; exact J.stack
    refine V0 fly hfr hfs hstk.2 (fun b hb => ?_) fun h4 F4 => Jc (s := { s' with heap := h4 }) F4 fun h5 F5 => ?_
    · rw [← hstk.1] at hb
      exact ⟨.inl hb, J.stkFree b hb⟩
    have J5 : Inv X pins σ H' { s' with heap := h5 } := I1'.call' (ch := []) os F5.un F5.hok bare (fun b z => by cases z)
    have J5h := J5.hd a
    obtain ⟨xC, hmro, hts⟩ := hE a C dd rfl rfl fly.obj
    refine wpAny_handleBy_cons (codeAny_handlers_test (QL (X := X.hd a) J5h hgR hmR ?_ hdr)) (by intro q; cases q)
    obtain ⟨o, vs', g1, g2, g3, g4⟩ := Vd F5.hok F5.obj
    refine Xa (s := { s' with heap := h5 }) J5.kIn g1 g2 xR hmro ?_
    refine codeAny_handlers_suite_as (Jc (s := { s' with heap := h5 }) F5 fun h6 F6 => ?_)
    have J6 : Inv X pins σ H' { s' with heap := h6 } := I1'.call' (ch := []) os F6.un F6.hok bare (fun b z => by cases z)
    refine ZD (X := X.hd a) (v := .ref a) (J6.hd a) hN hi (.inl hl) rfl (fun s7 I7 => ?_) (.inr hl)
    refine wpAny_mono (hsu a pins s7 _ H' _ I7 hts) (fun fl s8 q8 => ?_) fun _ _ z => z.elim
    cases fl with
    | next =>
      obtain ⟨σ8, H8, I8, q9⟩ := q8
      exact Vn (X := X) (I8.unhd I.ok) hN hi hl fun s9 I9 => ⟨_, H8, I9, q9⟩
    | ret u => obtain ⟨_, _, _, _, _, z⟩ := q8; exact z.elim
    | brk => obtain ⟨_, _, _, z⟩ := q8; exact z.elim
    | cont => obtain ⟨_, _, _, z⟩ := q8; exact z.elim
end
end L2

namespace L2
open PySem PySem.Spec PyProof.Rows PySem.W
noncomputable def Xv (e : DictEntry) : Bool := match e.key with | .str _ _ => true | _ => false
noncomputable def nsB (K : PySem.W.Frag) (N : Addr) (ini : Option Value) : Bool := match K.lookup N with
  | some ⟨_, _, .dict es _, _⟩ => es.toList.all Xv && ((es.toList.find? (·.key.isStr "__init__")).map (·.val) == ini)
  | _ => false
theorem K6 {K : PySem.W.Frag} {N : Addr} {ini : Option Value} (e : nsB K N ini = true) : ∃ mN : Str → Option Value, (∀ h : Heap, K.In h → h.Ns N mN) ∧ mN "__init__" = ini := by
  unfold nsB at e
  split at e
  · rename_i c d es n sl ho
    obtain ⟨e1, e2⟩ := Bool.and_eq_true_iff.mp e
    refine ⟨nsFind es, fun h X => ⟨_, es, n, X _ _ ho, rfl, fun x hx => ?_, fun _ => rfl⟩, ?_⟩
    · have z := List.all_eq_true.mp e1 x (Array.mem_toList_iff.mpr hx)
      unfold Xv at z
      split at z
      · rename_i a b q; exact ⟨a, b, q⟩
      · cases z
    · have z := beq_iff_eq.mp e2
      rw [← z]
      unfold nsFind findBy
      rw [← Array.find?_toList]
  · cases e
noncomputable def VN (K : PySem.W.Frag) : List Value → Bool
  | .ref A :: r => (match K.lookup A with
      | some ⟨_, _, .cls cd, _⟩ => nsB K cd.ns none
      | _ => false) && VN K r
  | l => l == vT
theorem JZ {K : PySem.W.Frag} : ∀ {l : List Value}, VN K l = true → ∀ h : Heap, K.In h → OwnTail h vT l
  | [], e, _, _ => by cases e
  | .ref A :: r, e, h, X => by
    unfold VN at e
    obtain ⟨e1, e2⟩ := Bool.and_eq_true_iff.mp e
    split at e1
    · rename_i ho
      obtain ⟨mN, n1, n2⟩ := K6 e1
      exact .own (X _ _ ho) (n1 h X) n2 (JZ e2 h X)
    · cases e1
  | .type n :: r, e, _, _ => by
    have q : (.type n :: r : List Value) = vT := beq_iff_eq.mp e
    rw [q]; exact .base
noncomputable def xmB (K : PySem.W.Frag) (C : Addr) (ini : Option Value) : Bool := (match K.lookup C with
  | some ⟨c, _, .cls cd, sl⟩ => c == .type "type" && sl.toList.length == 6 && sl.toList[4]? == some (some (.builtin "ValueError.__new__")) && cd.mro == .ref C :: cd.mro.tail && !cd.hasDel && VN K cd.mro.tail && nsB K cd.ns ini
  | _ => false) && keepIn K (.ref C)
theorem Wr {K : PySem.W.Frag} {C : Addr} {ini : Option Value} (e : xmB K C ini = true) (x : XC K C) : XM K C ini := by
  unfold xmB at e
  obtain ⟨e1, e2⟩ := Bool.and_eq_true_iff.mp e
  refine ⟨?_, e2, x⟩
  split at e1
  · rename_i c d cd sl ho
    simp only [Bool.and_eq_true, beq_iff_eq, Bool.not_eq_true'] at e1
    obtain ⟨⟨⟨⟨⟨⟨rfl, h6⟩, h4⟩, hm⟩, hd⟩, ht⟩, hn⟩ := e1
    obtain ⟨k0, k1, k2, k3, k5, hs⟩ := six_places h6 h4
    obtain ⟨sl⟩ := sl
    obtain rfl : sl = _ := hs
    obtain ⟨mN, n1, n2⟩ := K6 hn
    obtain ⟨nm, bs, mro, N, q, hdct, sn, sub, ab, col, hdel⟩ := cd
    dsimp only at hm hd ht n1
    subst hd
    generalize mro.tail = tl at hm ht
    subst hm
    exact ⟨N, nm, q, bs, tl, hdct, sn, sub, ab, col, d, k0, k1, k2, k3, k5, mN, ho, fun h X => JZ ht h X, n1, n2⟩
  · cases e1
noncomputable def xcB (K : PySem.W.Frag) (C : Addr) : Bool := findIn K (.ref C) "__getattribute__" == some (some (.builtin "BaseException.__getattribute__")) && findIn K (.ref C) "__getattr__" == some none && findIn K (.ref C) "__class__" == some (some (.builtin "object.__class__")) &&
  mroIn K C (.type "object") == some true && mroIn K C (.type "BaseException") == some true && hasDictIn K C && typeIn K (.ref C) == some (.type "type") && ((clsIn K C).any fun cd => VZ cd.mro) && findIn K (.ref C) "__setattr__" == some (some (.builtin "object.__setattr__")) &&
  specialIn K (.builtin "object.__class__") "__get__" == some (some (.builtin "getset_descriptor.__get__")) && takesIn K (.builtin "object.__class__") == some true
theorem Yu {K : PySem.W.Frag} {C : Addr} (e : xcB K C = true) : XC K C := by
  unfold xcB at e
  simp only [Bool.and_eq_true, beq_iff_eq] at e
  obtain ⟨⟨⟨⟨⟨⟨⟨⟨⟨⟨a1, a2⟩, a3⟩, a4⟩, a5⟩, a6⟩, a7⟩, a8⟩, a9⟩, a10⟩, a11⟩ := e
  exact ⟨a1, a2, a3, a4, a5, a6, a7, a8, a9, a10, a11⟩
noncomputable def YY (K : PySem.W.Frag) (R : Addr) (cs : List Addr) : Bool := xcB K R && cs.all (fun c => xcB K c && mroIn K c (.ref R) == some true && kitOne K (.ref c) (.type "ValueError") == some true && mroIn K c (.type "ValueError") == some true && cs.all fun d => kitOne K (.ref c) (.ref d) == some (c == d)) &&
  specialIn K (.ref R) "__getattribute__" == some (some (.builtin "type.__getattribute__")) && readsIn K R (.type "type") && cs.Nodup
structure Kit (K : PySem.W.Frag) (R : Addr) (cs : List Addr) : Prop where
  xR : XC K R
  xc : ∀ c ∈ cs, XC K c
  mr : ∀ c ∈ cs, mroIn K c (.ref R) = some true
  kv : ∀ c ∈ cs, kitOne K (.ref c) (.type "ValueError") = some true
  mv : ∀ c ∈ cs, mroIn K c (.type "ValueError") = some true
  kk : ∀ c ∈ cs, ∀ d ∈ cs, kitOne K (.ref c) (.ref d) = some (c == d)
  ga : specialIn K (.ref R) "__getattribute__" = some (some (.builtin "type.__getattribute__"))
  rd : readsIn K R (.type "type") = true
  nd : cs.Nodup
theorem Yo {K : PySem.W.Frag} {R : Addr} {cs : List Addr} (e : YY K R cs = true) : Kit K R cs := by
  unfold YY at e
  simp only [Bool.and_eq_true, beq_iff_eq, List.all_eq_true, decide_eq_true_eq] at e
  obtain ⟨⟨⟨⟨a1, a2⟩, a3⟩, a4⟩, a5⟩ := e
  exact ⟨Yu a1, fun c hc => Yu (a2 c hc).1.1.1.1, fun c hc => (a2 c hc).1.1.1.2, fun c hc => (a2 c hc).1.1.2, fun c hc => (a2 c hc).1.2, fun c hc d hd => (a2 c hc).2 d hd, a3, a4, a5⟩
end L2

namespace L2
open PySem PySem.Spec PyProof.Rows PySem.W
structure RoomQ (k : Nat) (A : Around) : Prop where
  dp : A.depth + 3 * k + 5 < recursionLimit
  un : A.units + 16 * k + 200 < cLine
theorem Room.q {k : Nat} {A : Around} (r : Room k A) : RoomQ k A := ⟨r.dp, r.un⟩
theorem RoomQ.mark {k : Nat} {A : Around} (r : RoomQ k A) (v : Option Value) : RoomQ k (A.mark v) := ⟨r.dp, r.un⟩
theorem RoomQ.deeper {k : Nat} {A : Around} (r : RoomQ (k + 1) A) (env : Env) : RoomQ k (A.deeper env) :=
  ⟨by have := r.dp; show A.depth + 1 + 3 * k + 5 < _; omega, by have := r.un; show A.units + 3 + 16 * k + 200 < _; omega⟩
noncomputable abbrev SpQ := List V → Hp → VK → Prop
structure FnQ (P : Program) (w : World) (K : PySem.W.Frag) (mg : Str → Option Value) (base : Heap) (k : Nat) (f : Addr) (fd : FuncData) (ps : List Str) (sp : SpQ) : Prop where
  len : ∀ vs H Q, sp vs H Q → vs.length = ps.length
  run : ∀ (A : Around) (outer : List Env) (s : Shared) (H : Hp) (args : Args) (us : List Value) (vs : List V) (Q : VK), RoomQ k A → Env0 P w K mg base A outer s H → BindsTo s fd args (ps.zip us) → Vals vs us → sp vs H Q →
    codeAny (model P w) A (.call (.ref f) args) (fun r s' => match r with | .ok (.ret u) => CE outer P w H s Q u s' | _ => False) s
noncomputable abbrev cxQ (P : Program) (w : World) (K : PySem.W.Frag) (mg : Str → Option Value) (base : Heap) (N : List Str) (qual : Str) (scope : Scope) (f : Addr) (cd : Value) (A : Around) (outer : List Env) (s : Shared) (H : Hp) : Cx :=
  { JC CX0 P w K mg base N qual scope f cd A outer s H E0 with calm := false, xe := fun _ _ => False }
theorem YN {P : Program} {w : World} {K : PySem.W.Frag} {mg : Str → Option Value} {base : Heap} {k : Nat} {f : Addr} {name qual : Str} {params : Arguments} {body : List Stmt} {scope : Scope} {dV kV doc pm cdv ct oc : Value} {an od : Option Addr}
    {osl : Array (Option Value)} {N ps : List Str} {sp : SpQ} (lk : K.lookup f = some ⟨oc, od, .func (PySem.W.fnOf name qual params body scope dV kV doc pm an cdv ct), osl⟩) (hcd : PySem.W.codeIn K cdv qual = true) (S : FnScope N ps scope)
    (len : ∀ vs H Q, sp vs H Q → vs.length = ps.length)
    (hbody : ∀ (A : Around) (outer : List Env) (s : Shared) (H : Hp) (vs : List V) (Q : VK), RoomQ k (A.deeper (envOfC qual scope s.heap.objs.size f cdv)) → sp vs H Q →
      ∃ t, PSs (cxQ P w K mg base N qual scope f cdv A outer s H) body t ∧ t { nx := fun _ H' => Q .non H', rt := Q } (start N vs) H) :
    FnQ P w K mg base (k + 1) f (PySem.W.fnOf name qual params body scope dV kV doc pm an cdv ct) ps sp := by
  refine ⟨len, fun A outer s H args us vs Q hr e0 hb r hsp => ?_⟩
  have hl := len _ _ _ hsp
  have KX : K.In s.heap := e0.mod.kin.keeps fun b o e => (e0.bs b o e).1
  have lim : s.heap.NoLimit := e0.mod.nolimit.keeps fun b o e => (e0.bs b o e).1
  have hkind : ∀ y ∈ ps.zip us, scope.names.lookup y.1 = some .local ∨ (scope.names.lookup y.1 = some .cell ∧ ((cellsFrom (s.heap.objs.size + 1) scope.names []).lookup y.1).isSome = true) := fun ⟨n, v⟩ hy => by
    rcases S.par n (List.of_mem_zip hy).1 with q | q
    · exact .inl q
    · exact .inr ⟨q, PySem.W.cellsFrom_some _ _ _ (.inl q)⟩
  have dep : A.depth < recursionLimit := by have := hr.dp; omega
  refine codeAny_call_function dep (KX _ _ lk) rfl S.co S.gen rfl (PySem.W.codeRec_of KX hcd) (hb _ _ _ _ ?_)
  refine wpAny_newFunctionEnv_cells S.kind hkind fun env he s1 x => ?_
  subst he
  refine ⟨lim.keeps x.toInCall.keep, codeAny_func ?_⟩
  obtain ⟨t, ht, hq⟩ := hbody A outer s H vs Q (hr.deeper _) hsp
  have e1 : Env0 P w K mg base { A with handled := none } outer s H := ⟨e0.frames, e0.mod, e0.bs, e0.bsz, e0.funs, e0.frf, e0.hok, e0.bare⟩
  have I0 : Inv (JC CX0 P w K mg base N qual scope f cdv { A with handled := none } outer s H E0) [] (start N vs) H s1 := ZI S rfl e1 hl r x
  have I : Inv (cxQ P w K mg base N qual scope f cdv A outer s H) [] (start N vs) H s1 :=
    ⟨⟨I0.ok.mod, I0.ok.kind, I0.ok.glob, I0.ok.blt, I0.ok.above, I0.ok.inj, I0.ok.has, I0.ok.cab, (fun z => by cases z), I0.ok.frames, I0.ok.stk, I0.ok.exf, I0.ok.bs, I0.ok.bsz, I0.ok.noex, I0.ok.exfs, I0.ok.funs, I0.ok.frf⟩, I0.os, I0.bare, I0.base, I0.loc, I0.cell, I0.free, I0.freeC, I0.pin, I0.hok, I0.len⟩
  refine wpAny_mono (ht [] s1 (start N vs) H _ I hq) (fun fl s' hs => ?_) fun e s' hs => hs.elim
  have fin : ∀ {σ' : St} {H' : Hp} {v : V} {u : Value}, Inv (cxQ P w K mg base N qual scope f cdv A outer s H) [] σ' H' s' → RelV v u → Q v H' → CE outer P w H s Q u s' :=
    fun {σ' H' v u} J rv q => ⟨v, H', J.os, J.bare, J.base, J.hok, rv, q⟩
  cases fl with
  | ret u => obtain ⟨v, σ', H', J, rv, q⟩ := hs; exact fin J rv q
  | next => obtain ⟨σ', H', J, q⟩ := hs; exact fin (v := V.non) (u := Value.none) J rfl q
  | brk => obtain ⟨_, _, _, q⟩ := hs; exact False.elim q
  | cont => obtain ⟨_, _, _, q⟩ := hs; exact False.elim q
section
variable {X : Cx} {k : Nat} {f : Addr} {fd : FuncData} {ps : List Str} {sp : SpQ} {x : Str} {p pos : Pos} {e : Expr} {es : List Expr} {t : TA}
theorem Xf (F : FnQ X.prog X.w X.K X.mg X.base k f fd ps sp) (hr : RoomQ k X.A) (hg : Gl X x) (hm : X.mg x = some (.ref f)) (hk : keepIn X.K (.ref f) = true) (hb : Binds X.K fd ps []) (ha : PA X (e :: es) t) (hdb : (x == ("__debug__" : Str)) = false := by decide)
    (he : starEach (e :: es) X.env = (false, eval e X.env) :: starEach es X.env := by rfl) (hpl : (backTo pos (starEach es X.env)).any (·.1) = false := by rfl) : PE X (.Call (.Name x p) (e :: es) [] pos) (fun σ H Q => t σ H fun vs H1 => sp vs H1 Q) := by
  intro pins s σ H Q I h
  refine wpAny_Call_Name_kw (QL I hg hm ?_ hdb)
  refine callWith_K (h₀ := X.base) I.ok.mod.kin hk (thn (ha pos pins s σ H _ I h) fun us s1 ⟨vs, H1, I1, r, q⟩ => ⟨I1.kIn, ?_⟩) he hpl
  have hl : (us ++ []).length = ps.length := by rw [List.append_nil, ← r.length]; exact F.len _ _ _ q
  have bd := hb s1 us I1.kIn hl
  rw [List.append_nil] at bd
  refine wpAny_call (codeAny_mono (F.run X.A X.stack s1 H1 ⟨us, []⟩ us vs Q hr I1.env0 bd r q) fun rr s' hq => ?_)
  cases rr with
  | error e => exact hq.elim
  | ok fl =>
    cases fl with
    | ret u => exact I1.after hq
    | next => exact hq.elim
    | brk => exact hq.elim
    | cont => exact hq.elim
theorem Va : CallR X (.type "str") (fun xs H Q => ∃ i : Int, xs = [.int i] ∧ i.natAbs.log2 < 1920 ∧ Q (.str (toString i)) H) := by
  intro pins s σ H xs us Q I r h
  obtain ⟨i, rfl, hi, q⟩ := h
  obtain ⟨u, rfl, r1⟩ := Vo r
  obtain ⟨t, rfl⟩ := (show ∃ t, u = Value.int i t from r1)
  exact PySem.P.str_of_int hi ⟨.str (toString i), H, I.tok _, ⟨_, rfl⟩, q⟩
noncomputable def WC : V → Option Str
  | .int i => if i.natAbs.log2 < 1920 then some (toString i) else none
  | .str x => if x.length ≤ sizeLine then some x else none
  | _ => none
theorem YC {te : TE} (he : PE X e te) : PE X (.FormattedValue e (-1) none pos) (fun σ H Q => te σ H fun v H1 => ∃ y, WC v = some y ∧ Q (.str y) H1) := by
  intro pins s σ H Q I h
  refine wpAny_FormattedValue_plain (thn (he pins s σ H _ I h) fun u s1 ⟨v, H1, I1, r, y, ey, q⟩ => ?_)
  unfold WC at ey
  split at ey
  · rename_i i
    split at ey
    · rename_i hi
      cases ey
      obtain ⟨t, rfl⟩ := (show ∃ t, u = Value.int i t from r)
      exact wpAny_formatField_int hi ⟨.str (toString i), H1, I1.tok _, ⟨_, rfl⟩, q⟩
    · cases ey
  · rename_i y0
    split at ey
    · rename_i hx
      cases ey
      obtain ⟨t, rfl⟩ := (show ∃ t, u = Value.str y t from r)
      exact PySem.wpAny_formatField_str ⟨.str y, H1, I1, ⟨_, rfl⟩, q⟩ ⟨.str y, H1, I1.tok _, ⟨_, rfl⟩, q⟩ hx
    · cases ey
  · cases ey
noncomputable def tJ : List TE → Str → TE
  | [], acc => fun _ H Q => Q (.str acc) H
  | t :: r, acc => fun σ H Q => t σ H fun v H1 => ∃ y, v = .str y ∧ (acc ++ y).length ≤ sizeLine ∧ tJ r (acc ++ y) σ H1 Q
theorem Wc {pins : List (Addr × Obj)} {σ : St} {Q : VK} {es : List Expr} {ts : List TE} (hp : Paired (PE X) es ts) : ∀ (acc : Str) (s : Shared) (H : Hp), acc.length ≤ sizeLine → Inv X pins σ H s → tJ ts acc σ H Q →
    Joins (model X.prog X.w) X.A X.xe (evalEach es X.env) acc (fun out s₁ => out.length ≤ sizeLine ∧ EP X pins σ Q (.str out s₁.toks) { s₁ with toks := s₁.toks + 1 }) s := by
  induction hp with
  | nil => exact fun acc s H ha I h => ⟨ha, .str acc, H, I.tok _, ⟨_, rfl⟩, h⟩
  | cons hp _ ih =>
    intro acc s H _ I h
    refine thn (hp pins s σ H _ I h) fun u s1 ⟨v, H1, I1, r, y, ey, hl, q⟩ => ?_
    subst ey
    obtain ⟨t', rfl⟩ := (show ∃ t, u = Value.str y t from r)
    exact ⟨y, t', rfl, hl, ih (acc ++ y) s1 H1 hl I1 q⟩
theorem Kw {v₁ v₂ : Expr} {rest : List Expr} {ts : List TE} (h : Paired (PE X) (v₁ :: v₂ :: rest) ts) : PE X (.JoinedStr (v₁ :: v₂ :: rest) pos) (tJ ts Str.empty) := by
  intro pins s σ H Q I q
  exact wpAny_JoinedStr (Wc h Str.empty s H (by decide) I q)
end
end L2

namespace My
open PySem PySem.Spec PyProof.Rows PySem.W L2 Mi
noncomputable def top (i : Nat) : Stmt := PySem.Challenge.pw_doneroom_k10_refusals_apart.main.body.getD i (.Pass ⟨0, 0, 0, 0⟩)
noncomputable def Wi (s : Stmt) (i : Nat) : Stmt := match s with
  | .ClassDef _ _ _ b _ _ _ _ _ _ _ => b.getD i (.Pass ⟨0, 0, 0, 0⟩)
  | _ => .Pass ⟨0, 0, 0, 0⟩
noncomputable abbrev QE : Stmt := Wi (top 8) 0
noncomputable abbrev QU : Stmt := top 10
noncomputable abbrev QV : Stmt := top 11
theorem KC : FnScope ["self", "at"] ["self", "at"] (Qe QE) := ⟨rfl, rfl, rfl, by decide +kernel, rfl, by decide +kernel, by decide +kernel⟩
theorem Vh : FnScope ["k", "text", "number"] ["k", "text", "number"] (Qe QU) := ⟨rfl, rfl, rfl, by decide +kernel, rfl, by decide +kernel, by decide +kernel⟩
theorem sc_marks : FnScope ["e", "first"] ["e"] (Qe QV) := ⟨rfl, rfl, rfl, by decide +kernel, rfl, by decide +kernel, by decide +kernel⟩
section
variable {P : Program} {w : World} {K : PySem.W.Frag} {mg : Str → Option Value} {base : Heap} {R : Addr}
noncomputable def spI (K : PySem.W.Frag) : Sp := fun vs H Q _ => ∃ a n C, vs = [.ref a, .int n] ∧ n.natAbs.log2 < 1920 ∧ H a = some (XN a C none) ∧ XC K C ∧ mroIn K C (.type "ValueError") = some true ∧ findIn K (.ref C) "at" = some none ∧
  ∀ dx, H dx = none → Q .non (upd (upd H dx (.xd [("at", .int n)])) a (XN a C (some dx)))
theorem KB {n : Int} (h : n.natAbs.log2 < 1920) : (Str.ofString (toString n)).length ≤ 4000 := by
  have e := int_text_length_le (k := 1920) (by decide) h
  rw [PySem.ofString_length]; omega
theorem KA {n : Int} (h : n.natAbs.log2 < 1920) : WC (.int n) = some (Str.ofString (toString n)) := by
  show (if n.natAbs.log2 < 1920 then some (Str.ofString (toString n)) else none) = _
  rw [if_pos h]
theorem Z4 {c : Bool} {A B : Prop} (e : c = true) (h : A) : if c = true then A else B := by rw [if_pos e]; exact h
theorem Qx {c : Bool} {A B : Prop} (e : c = false) (h : B) : if c = true then A else B := by rw [if_neg (by rw [e]; decide)]; exact h
theorem Q0 (x y : Str) : (x ++ y).length = x.length + y.length := strLen_append ..
theorem XW {f : Addr} {fd : FuncData} (F : Fun K "__init__" "NoText.__init__" QE f fd) (mR : mg "RoomError" = some (.ref R)) (ga : specialIn K (.ref R) "__getattribute__" = some (some (.builtin "type.__getattribute__")))
    (rd : readsIn K R (.type "type") = true) (rf : findCls K (.ref R) (.type "type") "__init__" = some (.val (.builtin "ValueError.__init__"))) : FnOk P w K mg base (CXr P w) 1 f fd ["self", "at"] (spI K) := by
  obtain ⟨oc, od, kV, doc, pm, an, cdv, ct, osl, rfl, lk, hcd⟩ := F.ex
  refine XJ lk hcd KC (fun vs H Q E ⟨a, n, C, e, _⟩ => by rw [e]; rfl) fun A outer s H vs Q E hr hsp => ?_
  obtain ⟨a, n, C, rfl, hn, ha, xc, mv, na, q⟩ := hsp
  refine ⟨_, Qn (XT (V7 (t := _) Wq VJ rfl mR ga rd rf (Qc (pv 0) (Qc (Kw (.cons J7 (.cons (YC (pv 1)) (.cons J7 .nil)))) Qi)))) (Qt (X0 (pv 0) (pv 1))), ?_⟩
  have h1 := KB hn
  refine ⟨_, rfl, _, rfl, ?_, _, rfl, _, KA hn, _, rfl, ?_, _, rfl, ?_, ?_⟩
  · rw [Q0]; decide
  · rw [Q0, Q0]
    have e1 : (Str.empty).length + (Str.ofString "row ").length ≤ 100 := by decide
    have e2 : (5000 : Nat) ≤ sizeLine := by decide
    exact Nat.le_trans (Nat.add_le_add e1 h1) (Nat.le_trans (by decide : 100 + 4000 ≤ 5000) e2)
  · rw [Q0, Q0, Q0]
    have e1 : (Str.empty).length + (Str.ofString "row ").length ≤ 100 := by decide
    have e3 : (Str.ofString " is no row of a program here").length ≤ 100 := by decide
    have e2 : (5000 : Nat) ≤ sizeLine := by decide
    exact Nat.le_trans (Nat.add_le_add (Nat.add_le_add e1 h1) e3) (Nat.le_trans (by decide : 100 + 4000 + 100 ≤ 5000) e2)
  · refine ⟨a, C, none, _, rfl, ha, xc, mv, _, rfl, _, rfl, a, C, rfl, ha, xc, na, fun dx hd => q dx hd⟩
noncomputable def spR (cs : List Addr) : Sp := fun vs H _ E => ∃ k x n, vs = [.int k, .str x, .int n] ∧ 0 ≤ k ∧ k < 7 ∧ n.natAbs.log2 < 1920 ∧ ∀ a C dd fs H', C = cs.getD k.toNat 0 → H a = none → (∀ b u, H b = some u → H' b = some u) → H' a = some (XO a C dd) → XD H' dd fs →
  (k = 1 → ∃ dx, dd = some dx ∧ fs = [(Str.ofString "at", V.int n)]) → E (.ref C) (some a) H'
variable {c0 c1 c2 c3 c4 c5 c6 fI : Addr} {fd1 : FuncData} {oI : Obj}
set_option maxHeartbeats 1000000 in
theorem JY {f : Addr} {fd : FuncData} (F : Fun K "_law_raised" "_law_raised" QU f fd) (FI : FnOk P w K mg base (CXr P w) 1 fI fd1 ["self", "at"] (spI K)) (hbI : Binds K fd1 ["self", "at"] []) (lI : K.lookup fI = some oI) (cI : oI.cls = .type "function")
    (m0 : mg "NoProgram" = some (.ref c0)) (m1 : mg "NoText" = some (.ref c1)) (m2 : mg "NoWord" = some (.ref c2)) (m3 : mg "NoPlace" = some (.ref c3)) (m4 : mg "TooBig" = some (.ref c4)) (m5 : mg "NoRow" = some (.ref c5)) (m6 : mg "NoName" = some (.ref c6)) (M0 : XM K c0 none) (M1 : XM K c1 (some (.ref fI))) (M2 : XM K c2 none) (M3 : XM K c3 none) (M4 : XM K c4 none) (M5 : XM K c5 none) (M6 : XM K c6 none)
    (mv : mroIn K c1 (.type "ValueError") = some true) (na : findIn K (.ref c1) "at" = some none) : FnOk P w K mg base (CXr P w) 3 f fd ["k", "text", "number"] (spR [c0, c1, c2, c3, c4, c5, c6]) := by
  obtain ⟨oc, od, kV, doc, pm, an, cdv, ct, osl, rfl, lk, hcd⟩ := F.ex
  refine XJ lk hcd Vh (fun vs H Q E ⟨k, x, n, e, _⟩ => by rw [e]; rfl) fun A outer s H vs Q E hr hsp => ?_
  obtain ⟨k, x, n, rfl, h0, h7, hn, q⟩ := hsp
  refine ⟨_, Qn (ZX (QR JF (pv 0) Zb (Zq _)) (Qt (QA hr.hd M0 rfl m0 (Qc (pv 1) Qi))) QJ) (Qn (ZX (QR JF (pv 0) Zb (Zq _)) (Qt (J1 hr M1 FI hbI lI cI rfl m1 (Qc (pv 2) Qi))) QJ) (Qn (ZX (QR JF (pv 0) Zb (Zq _)) (Qt (QA hr.hd M2 rfl m2 (Qc (pv 1) Qi))) QJ) (Qn (ZX (QR JF (pv 0) Zb (Zq _)) (Qt (QA hr.hd M3 rfl m3 (Qc (pv 1) Qi))) QJ) (Qn (ZX (QR JF (pv 0) Zb (Zq _)) (Qt (QA hr.hd M4 rfl m4 (Qc (pv 1) Qi))) QJ) (Qn (ZX (QR JF (pv 0) Zb (Zq _)) (Qt (QA hr.hd M5 rfl m5 (Qc (pv 1) Qi))) QJ) (Qt (QA hr.hd M6 rfl m6 (Qc (pv 1) Qi)))))))), ?_⟩
  have hk : k = 0 ∨ k = 1 ∨ k = 2 ∨ k = 3 ∨ k = 4 ∨ k = 5 ∨ k = 6 := by omega
  rcases hk with rfl | rfl | rfl | rfl | rfl | rfl | rfl
  · -- NoProgram
    refine ⟨_, rfl, rfl, _, rfl, Z4 (by decide) ?_⟩
    exact ⟨_, rfl, _, rfl, fun a ha => q a _ none [] _ rfl ha (fun b u e => by rw [Qa (Qb e ha), Qa (Qb e ha)]; exact e) Qd rfl (fun z => by cases z)⟩
  · -- NoText
    refine ⟨_, rfl, rfl, _, rfl, Qx (by decide) ?_⟩
    refine ⟨_, rfl, rfl, _, rfl, Z4 (by decide) ?_⟩
    refine ⟨_, rfl, _, rfl, fun a ha => ⟨a, n, c1, rfl, hn, Qd, M1.xc, mv, na, fun dx hd => ⟨rfl, some dx, Qd, ?_⟩⟩⟩
    have nda : dx ≠ a := fun z => by rw [z, Qd] at hd; cases hd
    rw [Qa nda] at hd
    refine q a _ (some dx) [(Str.ofString "at", V.int n)] _ rfl ha (fun b u e => ?_) Qd ?_ fun _ => ⟨dx, rfl, rfl⟩
    · rw [Qa (Qb e ha), Qa (Qb e ha), Qa (Qb e hd), Qa (Qb e ha)]; exact e
    · show upd _ a _ dx = _
      rw [Qa nda, Qa nda, Qd]
  · -- NoWord
    refine ⟨_, rfl, rfl, _, rfl, Qx (by decide) ?_⟩
    refine ⟨_, rfl, rfl, _, rfl, Qx (by decide) ?_⟩
    refine ⟨_, rfl, rfl, _, rfl, Z4 (by decide) ?_⟩
    exact ⟨_, rfl, _, rfl, fun a ha => q a _ none [] _ rfl ha (fun b u e => by rw [Qa (Qb e ha), Qa (Qb e ha)]; exact e) Qd rfl (fun z => by cases z)⟩
  · -- NoPlace
    refine ⟨_, rfl, rfl, _, rfl, Qx (by decide) ?_⟩
    refine ⟨_, rfl, rfl, _, rfl, Qx (by decide) ?_⟩
    refine ⟨_, rfl, rfl, _, rfl, Qx (by decide) ?_⟩
    refine ⟨_, rfl, rfl, _, rfl, Z4 (by decide) ?_⟩
    exact ⟨_, rfl, _, rfl, fun a ha => q a _ none [] _ rfl ha (fun b u e => by rw [Qa (Qb e ha), Qa (Qb e ha)]; exact e) Qd rfl (fun z => by cases z)⟩
  · -- TooBig
    refine ⟨_, rfl, rfl, _, rfl, Qx (by decide) ?_⟩
    refine ⟨_, rfl, rfl, _, rfl, Qx (by decide) ?_⟩
    refine ⟨_, rfl, rfl, _, rfl, Qx (by decide) ?_⟩
    refine ⟨_, rfl, rfl, _, rfl, Qx (by decide) ?_⟩
    refine ⟨_, rfl, rfl, _, rfl, Z4 (by decide) ?_⟩
    exact ⟨_, rfl, _, rfl, fun a ha => q a _ none [] _ rfl ha (fun b u e => by rw [Qa (Qb e ha), Qa (Qb e ha)]; exact e) Qd rfl (fun z => by cases z)⟩
  · -- NoRow
    refine ⟨_, rfl, rfl, _, rfl, Qx (by decide) ?_⟩
    refine ⟨_, rfl, rfl, _, rfl, Qx (by decide) ?_⟩
    refine ⟨_, rfl, rfl, _, rfl, Qx (by decide) ?_⟩
    refine ⟨_, rfl, rfl, _, rfl, Qx (by decide) ?_⟩
    refine ⟨_, rfl, rfl, _, rfl, Qx (by decide) ?_⟩
    refine ⟨_, rfl, rfl, _, rfl, Z4 (by decide) ?_⟩
    exact ⟨_, rfl, _, rfl, fun a ha => q a _ none [] _ rfl ha (fun b u e => by rw [Qa (Qb e ha), Qa (Qb e ha)]; exact e) Qd rfl (fun z => by cases z)⟩
  · -- NoName
    refine ⟨_, rfl, rfl, _, rfl, Qx (by decide) ?_⟩
    refine ⟨_, rfl, rfl, _, rfl, Qx (by decide) ?_⟩
    refine ⟨_, rfl, rfl, _, rfl, Qx (by decide) ?_⟩
    refine ⟨_, rfl, rfl, _, rfl, Qx (by decide) ?_⟩
    refine ⟨_, rfl, rfl, _, rfl, Qx (by decide) ?_⟩
    refine ⟨_, rfl, rfl, _, rfl, Qx (by decide) ?_⟩
    exact ⟨_, rfl, _, rfl, fun a ha => q a _ none [] _ rfl ha (fun b u e => by rw [Qa (Qb e ha), Qa (Qb e ha)]; exact e) Qd rfl (fun z => by cases z)⟩
end
end My

namespace My
open PySem PySem.Spec PyProof.Rows PySem.W L2 Mi
section
variable {P : Program} {w : World} {K : PySem.W.Frag} {mg : Str → Option Value} {base : Heap} {R c0 c1 c2 c3 c4 c5 c6 C : Addr} {b0 b1 b2 b3 b4 b5 b6 : Bool}
noncomputable def spK (K : PySem.W.Frag) (C : Addr) (bs : List Bool) : SpQ := fun vs H Q => ∃ a dd fs, vs = [.ref a] ∧ H a = some (XO a C dd) ∧ XD H dd fs ∧ XC K C ∧
  ∀ p H', (∀ b u, H b = some u → H' b = some u) → H p = none → H' p = some (.lst (bs.map .bl)) → Q (.ref p) H'
theorem Y5 {H : Hp} {dd : Option Addr} {fs : List (Str × V)} {p : Addr} {o : HO} (h : XD H dd fs) (n : H p = none) : XD (upd H p o) dd fs := by
  cases dd with
  | none => exact h
  | some dx => show upd H p o dx = _; rw [Qa (Qb (show H dx = _ from h) n)]; exact h
set_option maxHeartbeats 1000000 in
theorem VM {f : Addr} {fd : FuncData} (F : Fun K "_law_marks" "_law_marks" QV f fd) (bi : mg "isinstance" = none) (m0 : mg "NoProgram" = some (.ref c0)) (m1 : mg "NoText" = some (.ref c1)) (m2 : mg "NoWord" = some (.ref c2)) (m3 : mg "NoPlace" = some (.ref c3)) (m4 : mg "TooBig" = some (.ref c4)) (m5 : mg "NoRow" = some (.ref c5)) (m6 : mg "NoName" = some (.ref c6)) (k0 : kitOne K (.ref C) (.ref c0) = some b0) (k1 : kitOne K (.ref C) (.ref c1) = some b1) (k2 : kitOne K (.ref C) (.ref c2) = some b2) (k3 : kitOne K (.ref C) (.ref c3) = some b3) (k4 : kitOne K (.ref C) (.ref c4) = some b4) (k5 : kitOne K (.ref C) (.ref c5) = some b5) (k6 : kitOne K (.ref C) (.ref c6) = some b6) : FnQ P w K mg base 1 f fd ["e"] (spK K C [b0, b1, b2, b3, b4, b5, b6]) := by
  obtain ⟨oc, od, kV, doc, pm, an, cdv, ct, osl, rfl, lk, hcd⟩ := F.ex
  refine YN lk hcd sc_marks (fun vs H Q ⟨a, dd, fs, e, _⟩ => by rw [e]; rfl) fun A outer s H vs Q hr hsp => ?_
  obtain ⟨a, dd, fs, rfl, ha, hd, xc, q⟩ := hsp
  refine ⟨_, Qn (Z3 (i := 1) sc_marks.nd rfl (Or.inl rfl) (JV (Qc (Qs Qm rfl bi PyProof.Rows.boot_isinstance (Qc (pv 0) (Qc (QM (v := .ref c0) rfl m0 rfl) Qi))) (Qc (Qs Qm rfl bi PyProof.Rows.boot_isinstance (Qc (pv 0) (Qc (QM (v := .ref c1) rfl m1 rfl) Qi))) (Qc (Qs Qm rfl bi PyProof.Rows.boot_isinstance (Qc (pv 0) (Qc (QM (v := .ref c2) rfl m2 rfl) Qi))) (Qc (Qs Qm rfl bi PyProof.Rows.boot_isinstance (Qc (pv 0) (Qc (QM (v := .ref c3) rfl m3 rfl) Qi))) Qi)))))) (Qt (Xt (KQ YM (pv 1) (JV (Qc (Qs Qm rfl bi PyProof.Rows.boot_isinstance (Qc (pv 0) (Qc (QM (v := .ref c4) rfl m4 rfl) Qi))) (Qc (Qs Qm rfl bi PyProof.Rows.boot_isinstance (Qc (pv 0) (Qc (QM (v := .ref c5) rfl m5 rfl) Qi))) (Qc (Qs Qm rfl bi PyProof.Rows.boot_isinstance (Qc (pv 0) (Qc (QM (v := .ref c6) rfl m6 rfl) Qi))) Qi))))))), ?_⟩
  have nd : (4 : Nat) ≤ sizeLine := by decide
  refine ⟨_, rfl, a, C, dd, fs, .ref c0, b0, rfl, rfl, ha, hd, xc, k0, _, rfl, a, C, dd, fs, .ref c1, b1, rfl, rfl, ha, hd, xc, k1, _, rfl, a, C, dd, fs, .ref c2, b2, rfl, rfl, ha, hd, xc, k2, _, rfl, a, C, dd, fs, .ref c3, b3, rfl, rfl, ha, hd, xc, k3, nd, fun p hp => ?_⟩
  have ha1 : upd H p (.lst [.bl b0, .bl b1, .bl b2, .bl b3]) a = some (XO a C dd) := by rw [Qa (Qb ha hp)]; exact ha
  have hd1 : XD (upd H p (.lst [.bl b0, .bl b1, .bl b2, .bl b3])) dd fs := Y5 hd hp
  refine ⟨_, rfl, _, rfl, a, C, dd, fs, .ref c4, b4, rfl, rfl, ha1, hd1, xc, k4, _, rfl, a, C, dd, fs, .ref c5, b5, rfl, rfl, ha1, hd1, xc, k5, _, rfl, a, C, dd, fs, .ref c6, b6, rfl, rfl, ha1, hd1, xc, k6, (by show (3 : Nat) ≤ sizeLine; decide), fun p2 hp2 => ⟨p, p2, [.bl b0, .bl b1, .bl b2, .bl b3], [.bl b4, .bl b5, .bl b6], rfl, rfl, ?_, Qd, (by show (4 + 3 : Nat) ≤ sizeLine; decide), fun p3 hp3 => ?_⟩⟩
  · rw [Qa (Qb Qd hp2)]; exact Qd
  · have n2 : p2 ≠ p := fun z => by rw [z, Qd] at hp2; cases hp2
    have n3 : p3 ≠ p2 := fun z => by rw [z, Qd] at hp3; cases hp3
    rw [Qa n3] at hp3
    have n4 : p3 ≠ p := fun z => by rw [z, Qd] at hp3; cases hp3
    rw [Qa n4] at hp3
    rw [Qa n2] at hp2
    refine q p3 _ (fun b u e => ?_) hp3 Qd
    rw [Qa (Qb e hp3), Qa (Qb e hp2), Qa (Qb e hp)]; exact e
end
end My

namespace My
open PySem PySem.Spec PyProof.Rows PySem.W L2 Mi
noncomputable abbrev Qf : Stmt := top 12
noncomputable abbrev NR : List Str := ["k", "text", "number", "marks", "value", "at", "e"]
theorem sc__law_right : FnScope NR ["k", "text", "number"] (Qe Qf) := ⟨rfl, rfl, rfl, by decide +kernel, rfl, by decide +kernel, by decide +kernel⟩
theorem Ke : bootBuiltins "ValueError" = some (.type "ValueError") := by decide +kernel
noncomputable abbrev Uv : Stmt := (Qo Qf).getD 3 (.Pass ⟨0, 0, 0, 0⟩)
noncomputable def mks (k : Int) : List Bool := (List.range 7).map fun (j : Nat) => decide ((j : Int) = k)
noncomputable def Yt : SM := fun σ h => match σ with
  | [some (.int k), some (.str x), some (.int n), _, _, some a, _] => if 0 ≤ k ∧ k < 7 ∧ n.natAbs.log2 < 1920 then some (.nx [some (.int k), some (.str x), some (.int n), some (.lst ((mks k).map .bl)), some (.bl true), some (if k = 1 then .int n else a), none] h) else none
  | _ => none
theorem Q2 {l : List Addr} {i : Nat} (h : i < l.length) : l.getD i 0 = l[i] := by simp [List.getD, List.getElem?_eq_getElem h]
theorem Rh.up {K : PySem.W.Frag} {R : Rn} {h : MH} {H H2 : Hp} (q : Rh K R h H) (k : ∀ b u, H b = some u → H2 b = some u) : Rh K R h H2 :=
  ⟨q.len, fun a o e => k a o (q.sub a o e), q.sep, q.inj, fun n o e => by
    obtain ⟨o', u, _, hu⟩ := q.there (n := n) (by rw [q.len]; exact (List.getElem?_eq_some_iff.mp e).1)
    have z := q.obj n o e
    rw [hu] at z
    rw [k _ _ hu]; exact z, fun a o e => k a o (q.gsub a o e), q.gsep, q.gf⟩
theorem Uu {α : Type} : ∀ {l : List α}, l.length = 7 → ∃ x0 x1 x2 x3 x4 x5 x6, l = [x0, x1, x2, x3, x4, x5, x6]
  | [_, _, _, _, _, _, _], _ => ⟨_, _, _, _, _, _, _, rfl⟩
theorem KG {H H2 : Hp} {dd : Option Addr} {fs : List (Str × V)} (k : ∀ b u, H b = some u → H2 b = some u) (h : XD H dd fs) : XD H2 dd fs := by
  cases dd with
  | none => exact h
  | some dx => exact k _ _ h
theorem Xk {K : PySem.W.Frag} {R : Rn} : ∀ bs : List Bool, Rws K R (bs.map .bl) (bs.map .bl)
  | [] => Rws.nil
  | b :: bs => Rws.cons (Rw.bl b) (Xk bs)
theorem RoomQ.mono1 {A : Around} (r : RoomQ 3 A) : RoomQ 1 A := ⟨by have := r.dp; omega, by have := r.un; omega⟩
section
variable {P : Program} {w : World} {K : PySem.W.Frag} {mg : Str → Option Value} {base : Heap} {R c0 c1 c2 c3 c4 c5 c6 : Addr}
noncomputable def spL (K : PySem.W.Frag) (cs : List Addr) : SpQ := fun vs H Q => ∃ k : Int, 0 ≤ k ∧ k < 7 ∧ spK K (cs.getD k.toNat 0) (mks k) vs H Q
theorem J0 {f : Addr} {fd : FuncData} (T : Kit K R [c0, c1, c2, c3, c4, c5, c6]) (F : Fun K "_law_marks" "_law_marks" QV f fd) (bi : mg "isinstance" = none) (m0 : mg "NoProgram" = some (.ref c0)) (m1 : mg "NoText" = some (.ref c1)) (m2 : mg "NoWord" = some (.ref c2)) (m3 : mg "NoPlace" = some (.ref c3)) (m4 : mg "TooBig" = some (.ref c4)) (m5 : mg "NoRow" = some (.ref c5)) (m6 : mg "NoName" = some (.ref c6)) : FnQ P w K mg base 1 f fd ["e"] (spL K [c0, c1, c2, c3, c4, c5, c6]) := by
  have nd := T.nd
  have one : ∀ k : Int, 0 ≤ k → k < 7 → FnQ P w K mg base 1 f fd ["e"] (spK K ([c0, c1, c2, c3, c4, c5, c6].getD k.toNat 0) (mks k)) := fun k h0 h7 => by
    have hm : ∀ i, i < 7 → [c0, c1, c2, c3, c4, c5, c6].getD i 0 ∈ [c0, c1, c2, c3, c4, c5, c6] := fun i hi => by
      rw [Q2 (by simpa using hi)]; exact List.getElem_mem _
    have kk : ∀ i j : Nat, i < 7 → j < 7 → kitOne K (.ref ([c0, c1, c2, c3, c4, c5, c6].getD i 0)) (.ref ([c0, c1, c2, c3, c4, c5, c6].getD j 0)) = some (decide ((j : Int) = (i : Int))) := fun i j hi hj => by
      rw [T.kk _ (hm i hi) _ (hm j hj)]
      congr 1
      rw [Q2 (by simpa using hi), Q2 (by simpa using hj)]
      by_cases e : j = i
      · subst e; simp
      · have z : ¬ ((j : Int) = (i : Int)) := by omega
        rw [decide_eq_false z, beq_eq_false_iff_ne]
        intro q
        rcases Nat.lt_or_gt_of_ne e with z | z
        · exact List.pairwise_iff_getElem.mp nd j i (by simpa using hj) (by simpa using hi) z q.symm
        · exact List.pairwise_iff_getElem.mp nd i j (by simpa using hi) (by simpa using hj) z q
    obtain ⟨i, rfl⟩ : ∃ i : Nat, k = i := ⟨k.toNat, by omega⟩
    have hi : i < 7 := by omega
    exact VM F bi m0 m1 m2 m3 m4 m5 m6 (kk i 0 hi (by decide)) (kk i 1 hi (by decide)) (kk i 2 hi (by decide)) (kk i 3 hi (by decide)) (kk i 4 hi (by decide)) (kk i 5 hi (by decide)) (kk i 6 hi (by decide))
  refine ⟨fun vs H Q ⟨k, h0, h7, z⟩ => (one k h0 h7).len vs H Q z, fun A outer s H args us vs Q hr e0 hb r ⟨k, h0, h7, z⟩ => (one k h0 h7).run A outer s H args us vs Q hr e0 hb r z⟩
set_option maxHeartbeats 1000000 in
theorem Yg {fM fF : Addr} {fdM fdF : FuncData} {f : Addr} {cdv : Value} {A : Around} {outer : List Env} {s : Shared} {H : Hp} {E : XK} (T : Kit K R [c0, c1, c2, c3, c4, c5, c6])
    (hr : Room 3 (A.deeper (envOfC "_law_right" (Qe Qf) s.heap.objs.size f cdv)))
    (FM : FnQ P w K mg base 1 fM fdM ["e"] (spL K [c0, c1, c2, c3, c4, c5, c6])) (gM : mg "_law_marks" = some (.ref fM)) (kM : keepIn K (.ref fM) = true) (bM : Binds K fdM ["e"] [])
    (FF : FnOk P w K mg base (CXr P w) 3 fF fdF ["k", "text", "number"] (spR [c0, c1, c2, c3, c4, c5, c6])) (gF : mg "_law_raised" = some (.ref fF)) (kF : keepIn K (.ref fF) = true) (bF : Binds K fdF ["k", "text", "number"] [])
    (bi : mg "isinstance" = none) (bV : mg "ValueError" = none) (m1 : mg "NoText" = some (.ref c1)) (mR : mg "RoomError" = some (.ref R)) (na : findIn K (.ref c1) "at" = some none) :
    PMS (JC CX0 P w K mg base NR "_law_right" (Qe Qf) f cdv A outer s H E).nox Uv Yt := by
  refine ZJ (KM (X := (JC CX0 P w K mg base NR "_law_right" (Qe Qf) f cdv A outer s H E).nox) (i := 6) (n := "e") FF hr rfl gF kF bF (Qc (pv 0) (Qc (pv 1) (Qc (pv 2) Qi))) rfl mR T.xR sc__law_right.nd rfl rfl ⟨rfl, rfl⟩ (fun a =>
    Qn (Z3 (i := 3) sc__law_right.nd rfl (Or.inl rfl) (Xf FM (RoomQ.mono1 (hr.q.mark _)) rfl gM kM bM (Qc (pv 6) Qi)))
    (Qn (Z3 (i := 4) sc__law_right.nd rfl (Or.inl rfl) (Qs Qm rfl bi PyProof.Rows.boot_isinstance (Qc (pv 6) (Qc (Ky (v := .ty "ValueError") rfl bV Ke rfl) Qi))))
    (Qt (ZX (YH (Qs Qm rfl bi PyProof.Rows.boot_isinstance (Qc (pv 6) (Qc (QM (v := .ref c1) rfl m1 rfl) Qi)))) (Qt (Z3 (i := 5) sc__law_right.nd rfl (Or.inl rfl) (YB (pv 6)))) QJ))))) fun D σ H q => ?_
  obtain ⟨Rn, σi, h, r, rh, st, e, en⟩ := q
  unfold Yt at e
  split at e
  · rename_i k x n y3 y4 a0 y6
    split at e
    · rename_i hc
      obtain ⟨h0, h7, hn⟩ := hc
      cases e
      obtain ⟨sl, sg⟩ := st
      obtain ⟨v0, s0, r0⟩ := sg 0 _ rfl
      obtain ⟨v1, s1, r1⟩ := sg 1 _ rfl
      obtain ⟨v2, s2, r2⟩ := sg 2 _ rfl
      obtain ⟨v5, s5, r5⟩ := sg 5 _ rfl
      have l7 : σ.length = 7 := by rw [← sl]; rfl
      obtain rfl := r0.int_eq
      obtain rfl := r1.str_eq
      obtain rfl := r2.int_eq
      obtain ⟨x0, x1, x2, x3, x4, x5, x6, rfl⟩ : ∃ x0 x1 x2 x3 x4 x5 x6, σ = [x0, x1, x2, x3, x4, x5, x6] := Uu l7
      obtain rfl : x0 = some (.int k) := by simpa using s0
      obtain rfl : x1 = some (.str x) := by simpa using s1
      obtain rfl : x2 = some (.int n) := by simpa using s2
      obtain rfl : x5 = some v5 := by simpa using s5
      refine ⟨_, rfl, _, rfl, _, rfl, k, x, n, rfl, h0, h7, hn, fun a C dd fs H' hC ha keep hx hd h1 => fun a' C' dd' e1 e2 _ => ?_⟩
      cases e1
      cases e2
      have hm : C ∈ [c0, c1, c2, c3, c4, c5, c6] := by
        rw [hC, Q2 (by show k.toNat < 7; omega)]; exact List.getElem_mem _
      have xc := T.xc C hm
      refine ⟨xc, T.mr C hm, ?_⟩
      refine ⟨_, rfl, k, h0, h7, a, dd, fs, rfl, by rw [← hC]; exact hx, hd, by rw [← hC]; exact xc, fun p H2 keep2 hp hl => ?_⟩
      have hx2 := keep2 _ _ hx
      have hd2 : XD H2 dd fs := KG keep2 hd
      refine ⟨_, rfl, a, C, dd, fs, .ty "ValueError", true, rfl, rfl, hx2, hd2, xc, T.kv C hm, ?_⟩
      have hpH : H p = none := by
        cases z : H p with
        | none => rfl
        | some u => rw [keep _ _ z] at hp; cases hp
      have kp : ∀ b u, upd H p (.lst ((mks k).map .bl)) b = some u → H2 b = some u := fun b u z => by
        by_cases hb : b = p
        · subst hb; rw [Qd] at z; rw [← z]; exact hl
        · rw [Qa hb] at z; exact keep2 _ _ (keep _ _ z)
      obtain ⟨R1, ex, rh1, rw1⟩ := rh.lstI (xs := (mks k).map .bl) (ws := (mks k).map .bl) hpH (Xk (mks k))
      have rh2 := Rh.up rh1 kp
      refine ⟨_, rfl, a, C, dd, fs, .ref c1, (C == c1), rfl, rfl, hx2, hd2, xc, T.kk C hm c1 (by simp), (C == c1), rfl, ?_⟩
      have fin : ∀ v, Rw K R1 (if k = 1 then .int n else a0) v → D.nx [some (.int k), some (.str x), some (.int n), some (.ref p), some (.bl true), some v, none] H2 := fun v hv => by
        refine en R1 H2 _ ex rh2 ⟨rfl, fun i w hw => ?_⟩
        match i, hw with
        | 0, hw => cases hw; exact ⟨_, rfl, Rw.int _⟩
        | 1, hw => cases hw; exact ⟨_, rfl, Rw.str _⟩
        | 2, hw => cases hw; exact ⟨_, rfl, Rw.int _⟩
        | 3, hw => cases hw; exact ⟨_, rfl, rw1⟩
        | 4, hw => cases hw; exact ⟨_, rfl, Rw.bl _⟩
        | 5, hw => cases hw; exact ⟨_, rfl, hv⟩
        | 6, hw => cases hw
      by_cases k1 : k = 1
      · subst k1
        obtain ⟨dx, rfl, rfl⟩ := h1 rfl
        have hc1 : C = c1 := hC
        refine Z4 (by rw [hc1]; simp) ?_
        exact ⟨_, rfl, a, C, dx, _, .int n, rfl, hx2, hd2, xc, by rw [hc1]; exact na, rfl, fin _ (by rw [if_pos rfl]; exact Rw.int _)⟩
      · have hc1 : C ≠ c1 := fun z => by
          have q1 := T.kk C hm c1 (by simp)
          have e3 : [c0, c1, c2, c3, c4, c5, c6].getD k.toNat 0 = [c0, c1, c2, c3, c4, c5, c6].getD 1 0 := by rw [← hC]; exact z
          rw [Q2 (by show k.toNat < 7; omega), Q2 (i := 1) (by show 1 < 7; decide)] at e3
          rcases Nat.lt_or_gt_of_ne (show k.toNat ≠ 1 by omega) with z | z
          · exact List.pairwise_iff_getElem.mp T.nd _ 1 (by show k.toNat < 7; omega) (by show 1 < 7; decide) z e3
          · exact List.pairwise_iff_getElem.mp T.nd 1 _ (by show 1 < 7; decide) (by show k.toNat < 7; omega) z e3.symm
        refine Qx (by rw [beq_eq_false_iff_ne]; exact hc1) ?_
        exact fin _ (by rw [if_neg k1]; exact Rw.mono ex _ _ r5)
    · cases e
  · cases e
end
end My

namespace Mi
open PySem PySem.Spec PyProof.Rows L2
noncomputable def Vv (ws : List W) (h : MH) : Option (W × MH) := match ws with
  | [.int i] => if i.natAbs.log2 < 1920 then some (.str (Str.ofString (toString i)), h) else none
  | _ => none
theorem JU {X : Cx} : CallR X (.type "str") (Fs X.K Vv) := by
  intro pins s σ H xs us Q I r q
  refine Va pins s σ H xs us Q I r ?_
  obtain ⟨R, h, ws, w, h', rh, rw, e, k⟩ := q
  unfold Vv at e
  split at e
  · split at e
    · rename_i i hi
      cases e
      obtain ⟨v, rfl, r1⟩ := KH rw
      exact ⟨_, by rw [r1.int_eq], hi, k R H _ (Ext.refl _) rh (Rw.str _)⟩
    · cases e
  · cases e
end Mi

namespace My
open PySem PySem.Spec PyProof.Rows L2 Mi
section
variable {P : Program} {w : World} {K : PySem.W.Frag} {mg : Str → Option Value} {base : Heap} {R c0 c1 c2 c3 c4 c5 c6 fM fF : Addr} {fdM fdF : FuncData}
noncomputable def Qr : FM := Xx 4
    (Vq (VE 3 (mFn YW Zn))
    (Vq (VE 4 (mC (.bl false)))
    (Vq (VE 5 (mC (.int 0)))
    (Vq Yt
    (Yk (YT (QP 4) (YT (QX wEq (QP 3) (JG K5 (VH (Qu (mC (.int 7)) Zn)) [none, some 0] (VD 0) KP (QX wEq (QP 0) (QP 1)))) (QX wEq (QP 5) (QX VO (QP 2) (mFn K3 (Qu (QX wEq (QP 0) (mC (.int 1))) Zn)))))))))))
set_option maxHeartbeats 4000000 in
theorem Zk (T : Kit K R [c0, c1, c2, c3, c4, c5, c6]) (FM : FnQ P w K mg base 1 fM fdM ["e"] (spL K [c0, c1, c2, c3, c4, c5, c6])) (gM : mg "_law_marks" = some (.ref fM)) (kM : PySem.W.keepIn K (.ref fM) = true) (bM : Binds K fdM ["e"] [])
    (FF : FnOk P w K mg base (CXr P w) 3 fF fdF ["k", "text", "number"] (spR [c0, c1, c2, c3, c4, c5, c6])) (gF : mg "_law_raised" = some (.ref fF)) (kF : PySem.W.keepIn K (.ref fF) = true) (bF : Binds K fdF ["k", "text", "number"] [])
    (bi : mg "isinstance" = none) (bV : mg "ValueError" = none) (m1 : mg "NoText" = some (.ref c1)) (mR : mg "RoomError" = some (.ref R)) (na : PySem.W.findIn K (.ref c1) "at" = some none) (d : DefAt K mg "_law_right" Qf ["k", "text", "number"]) (b_int : mg "int" = none) (b_range : mg "range" = none) : Cal P w K mg base 4 "_law_right" ["k", "text", "number"] Qr := by
  refine Xp (k := 3) (more := 4) d sc__law_right rfl fun f cdv A outer s H E hr => ?_
  have hu := hr.units
  refine QC ?_ ?_
  refine Zc ?_ ?_ ?_ ?_ ?_ ?_
  exact sc__law_right.nd
  exact rfl
  exact (Or.inl rfl)
  refine Yx ?_
  exact QD
  exact rfl
  first | exact .inl rfl | exact .inr rfl
  refine QC ?_ ?_
  refine Zc ?_ ?_ ?_ ?_ ?_ ?_
  exact sc__law_right.nd
  exact rfl
  exact (Or.inl rfl)
  exact Kz
  exact rfl
  first | exact .inl rfl | exact .inr rfl
  refine QC ?_ ?_
  refine Zc ?_ ?_ ?_ ?_ ?_ ?_
  exact sc__law_right.nd
  exact rfl
  exact (Or.inl rfl)
  exact QO
  exact rfl
  first | exact .inl rfl | exact .inr rfl
  refine QC ?_ ?_
  exact Yg T hr FM gM kM bM FF gF kF bF bi bV m1 mR na
  refine Zd ?_
  refine Z5 ?_
  refine Xw ?_ ?_
  exact Qy 4
  refine Xw ?_ ?_
  refine Jo (Jp ?_) QT ?_ ?_
  exact hu
  exact Qy 3
  refine V1 X2 ?_ (YO (ks := ["k"]) (Nb := ["j", "k"]) (cp := [none, some 0]) (N := NR) (xs := (Qe Qf)) rfl rfl (by decide +kernel) rfl (by decide +kernel) (by intro p hp; simp only [List.mem_cons, List.not_mem_nil, or_false] at hp; rcases hp with rfl <;> rfl) rfl rfl rfl (by decide +kernel)) ?_ (fun _ _ _ _ _ => ?_) (fun _ _ _ _ _ => ?_)
  exact rfl
  refine Xl ?_ ?_ ?_ ?_
  exact rfl
  exact b_range
  refine Qj ?_ ?_
  exact QO
  exact QD
  exact rfl
  exact Ju (i := 0) (x := "j") (show List.Nodup (["j", "k"] : List Str) from by decide +kernel) rfl (Or.inl rfl)
  refine Jo (Jp ?_) QT ?_ ?_
  exact hu
  exact Qy 0
  exact Qy 1
  refine YQ ?_
  refine Jo (Jp ?_) QT ?_ ?_
  exact hu
  exact Qy 5
  refine V2 VX QT ?_ ?_
  exact Qy 2
  refine ZM VB Q8 ?_ ?_ PyProof.Rows.boot_int ?_ ?_ ?_ ?_ ?_
  exact rfl
  exact b_int
  refine Qj ?_ ?_
  refine Jo (Jp ?_) QT ?_ ?_
  exact hu
  exact Qy 0
  exact QO
  exact QD
  decide
  decide
  exact rfl
  exact rfl
noncomputable def Ql : FM := box frN Qr
theorem Zl (T : Kit K R [c0, c1, c2, c3, c4, c5, c6]) (FM : FnQ P w K mg base 1 fM fdM ["e"] (spL K [c0, c1, c2, c3, c4, c5, c6])) (gM : mg "_law_marks" = some (.ref fM)) (kM : PySem.W.keepIn K (.ref fM) = true) (bM : Binds K fdM ["e"] [])
    (FF : FnOk P w K mg base (CXr P w) 3 fF fdF ["k", "text", "number"] (spR [c0, c1, c2, c3, c4, c5, c6])) (gF : mg "_law_raised" = some (.ref fF)) (kF : PySem.W.keepIn K (.ref fF) = true) (bF : Binds K fdF ["k", "text", "number"] [])
    (bi : mg "isinstance" = none) (bV : mg "ValueError" = none) (m1 : mg "NoText" = some (.ref c1)) (mR : mg "RoomError" = some (.ref R)) (na : PySem.W.findIn K (.ref c1) "at" = some none) (d : DefAt K mg "_law_right" Qf ["k", "text", "number"]) (b_int : mg "int" = none) (b_range : mg "range" = none) : Cal P w K mg base 4 "_law_right" ["k", "text", "number"] Ql := (Zk T FM gM kM bM FF gF kF bF bi bV m1 mR na d b_int b_range).box frN
noncomputable abbrev Z0 : Stmt := top 13
theorem sc_law : FnScope ["script", "number", "k"] ["script"] (Qe Z0) := ⟨rfl, rfl, rfl, by decide +kernel, rfl, by decide +kernel, by decide +kernel⟩
noncomputable abbrev QS : SM := (X7 (KO (Vb (YD (JB 3 Ql (Qu (QP 2) (Qu (mFn Vv (Qu (QP 1) Zn)) (Qu (QP 1) Zn)))))) (Vb (YD (JB 3 Ql (Qu (QP 2) (Qu (mC (.str "")) (Qu (mC (.int 0)) Zn))))))) (Yk (mC (.bl false))) JJ)
noncomputable def Zg : FM := Xx 2
    (Vq (VE 1 (mC (.int 0)))
    (Vq (X7 (JA (QX wGt (mFn V3 (Qu (QP 0) Zn)) (mC (.int 0)))) (VE 1 (QX VQ (QX wIx (QP 0) (QX KK (mFn V3 (Qu (QP 0) Zn)) (mC (.int 1)))) (QX VG (mC (.int 10)) (mC (.int 20))))) JJ)
    (Vq (KL (VH (Qu (mC (.int 7)) Zn)) (VD 2)
    QS)
    (Yk (mC (.bl true))))))
set_option maxHeartbeats 4000000 in
theorem Kl (d : DefAt K mg "law" Z0 ["script"]) (b_len : mg "len" = none) (b_range : mg "range" = none) (b_str : mg "str" = none) (c__law_right : Cal P w K mg base 4 "_law_right" ["k", "text", "number"] Ql) : Cal P w K mg base 5 "law" ["script"] Zg := by
  refine Xp (k := 4) (more := 2) d sc_law rfl fun f cdv A outer s H E hr => ?_
  have hu := hr.units
  refine QC ?_ ?_
  refine Zc ?_ ?_ ?_ ?_ ?_ ?_
  exact sc_law.nd
  exact rfl
  exact (Or.inl rfl)
  exact QO
  exact rfl
  first | exact .inl rfl | exact .inr rfl
  refine QC ?_ ?_
  refine Xs ?_ ?_ ?_
  refine XX Yr QT ?_ ?_
  refine Jm ZZ Q8 ?_ ?_ PySem.boot_len ?_ ?_ ?_ ?_ ?_
  exact rfl
  exact b_len
  refine Qj ?_ ?_
  exact Qy 0
  exact QD
  decide
  decide
  exact rfl
  exact rfl
  exact QO
  refine Zd ?_
  refine Zc ?_ ?_ ?_ ?_ ?_ ?_
  exact sc_law.nd
  exact rfl
  exact (Or.inl rfl)
  refine V2 Km QT ?_ ?_
  refine WE ?_ ?_
  exact Qy 0
  refine V2 XL QT ?_ ?_
  refine Jm ZZ Q8 ?_ ?_ PySem.boot_len ?_ ?_ ?_ ?_ ?_
  exact rfl
  exact b_len
  refine Qj ?_ ?_
  exact Qy 0
  exact QD
  decide
  decide
  exact rfl
  exact rfl
  exact QO
  refine V2 Kb QT ?_ ?_
  exact QO
  exact QO
  exact rfl
  first | exact .inl rfl | exact .inr rfl
  exact Vx
  refine QC ?_ ?_
  refine Kh ?_ ?_ ?_ ?_ ?_ ?_
  exact PassesOwn.never
  exact rfl
  refine Xl ?_ ?_ ?_ ?_
  exact rfl
  exact b_range
  refine Qj ?_ ?_
  exact QO
  exact QD
  exact rfl
  exact Ju (i := 2) (x := "k") sc_law.nd rfl (Or.inl rfl)
  refine Zd ?_
  refine Xs ?_ ?_ ?_
  refine PMW.pt ?_
  refine KR ?_ ?_
  refine Vw ?_
  refine Vp ?_
  refine Ji (k := 4) (ps := ["k", "text", "number"]) ?_ ?_ ?_ ?_ ?_ ?_ ?_ ?_
  exact c__law_right
  exact hr.mono (by decide)
  exact rfl
  refine Qj ?_ ?_
  exact Qy 2
  refine Qj ?_ ?_
  refine ZM JU Q8 ?_ ?_ PyProof.Rows.boot_str ?_ ?_ ?_ ?_ ?_
  exact rfl
  exact b_str
  refine Qj ?_ ?_
  exact Qy 1
  exact QD
  decide
  decide
  exact rfl
  exact rfl
  refine Qj ?_ ?_
  exact Qy 1
  exact QD
  exact rfl
  decide
  exact rfl
  exact rfl
  refine X5 ?_
  refine Vw ?_
  refine Vp ?_
  refine Ji (k := 4) (ps := ["k", "text", "number"]) ?_ ?_ ?_ ?_ ?_ ?_ ?_ ?_
  exact c__law_right
  exact hr.mono (by decide)
  exact rfl
  refine Qj ?_ ?_
  exact Qy 2
  refine Qj ?_ ?_
  exact YF
  refine Qj ?_ ?_
  exact QO
  exact QD
  exact rfl
  decide
  exact rfl
  exact rfl
  refine Zd ?_
  refine Z5 ?_
  exact Kz
  exact Vx
  exact fun _ => rfl
  refine Zd ?_
  refine Z5 ?_
  exact Kz
end

end My

namespace My
open PySem PySem.Spec PyProof.Rows L2 Mi
noncomputable def Xr (mb : ME) (σ : MSt) (p : W × MH) : Option (W × MH) := match p.1 with | .bl true => mb σ p.2 | .bl false => some (.bl false, p.2) | _ => none
@[simp] theorem KI {mb : ME} {σ : MSt} {h : MH} {c : Bool} : Xr mb σ (.bl c, h) = if c = true then mb σ h else some (.bl false, h) := by cases c <;> rfl
@[simp] theorem UG {ma mb : ME} {σ : MSt} {h : MH} : YT ma mb σ h = @ob _ _ (Xr mb σ) (ma σ h) := id rfl
theorem JP (e : ms σ h = some ([.int j], h')) (hj : j < 1000000) : VH ms σ h = some (QK 0 j, none, h') := by
  unfold VH
  rw [e, Option.bind_some]
  exact (if_pos ⟨by lia, by lia⟩).trans (by simp)
theorem Vu : (QK a n).length = n := by simp [QK]
theorem JO : (QK a n).map f = (List.range n).map fun (i : Nat) => f (.int (a + i)) := by simp [QK]
theorem Xe {n j : Nat} {w : W} (h : (QK 0 n)[j]? = some w) : j < n ∧ w = .int j := by
  unfold QK at h
  rw [List.getElem?_map] at h
  obtain ⟨i, hi, rfl⟩ := Option.map_eq_some_iff.mp h
  rw [List.getElem?_eq_some_iff] at hi
  obtain ⟨h1, h2⟩ := hi
  simp at h1 h2
  subst h2
  exact ⟨h1, by simp⟩
theorem Jg {k n : Int} {x : Str} (h0 : 0 ≤ k) (h7 : k < 7) (hn : n.natAbs.log2 < 1920) (h : MH) : Ql [.int k, .str x, .int n] h = some (.bl true, h) := by
  refine Xd (g := []) (by simp [Zm, pur]) ?_ rfl
  have ec : ∀ (a b c d e : Option W), JG K5 (VH (Qu (mC (.int 7)) Zn)) [none, some 0] (VD 0) KP (QX wEq (QP 0) (QP 1)) [some (.int k), a, b, c, d, e, none] [] = some (.lst ((mks k).map .bl), []) := fun a b c d e => by
    have z := Mi.VV (fin := K5) (mi := VH (Qu (mC (.int 7)) Zn)) (cp := [none, some 0]) (me := QX wEq (QP 0) (QP 1)) (σ := [some (.int k), a, b, c, d, e, none]) (caps := [some (.int k)]) (h := []) (items := QK 0 7) (fun w => match w with | .int j => .bl (decide (j = k)) | w => w) (JP (j := 7) (by simp) (by decide)) ⟨_, rfl⟩ (fun w hw => by
      obtain ⟨i, hi, rfl⟩ := List.mem_map.mp hw
      simp [Y0, pln, dep, eqW]
      by_cases z : (i : Int) = k <;> simp [z]) (by rw [Vu]; decide)
    rw [z]
    simp [K5, JO, mks]
  have hpl : ∀ bs : List Bool, JW (bs.map W.bl) = true := fun bs => by induction bs with | nil => rfl | cons b r ih => simp [JW, pln, ih]
  have hdp : ∀ bs : List Bool, Xh (bs.map W.bl) ≤ 1 := fun bs => by induction bs with | nil => simp [Xh] | cons b r ih => simp [Xh, dep]; omega
  have eq1 : wEq (.lst ((mks k).map .bl)) (.lst ((mks k).map .bl)) [] = some (.bl true, []) := by
    have p1 : pln (.lst ((mks k).map .bl)) = true := by unfold pln; exact hpl _
    have d1 : dep (.lst ((mks k).map .bl)) ≤ 40 := by unfold dep; have := hdp (mks k); omega
    rw [Y0 p1 p1 d1 d1, Jh _ p1]
  have hc : 0 ≤ k ∧ k < 7 ∧ n.natAbs.log2 < 1920 := ⟨h0, h7, hn⟩
  by_cases k1 : k = 1
  · subst k1
    have ei : K3 [W.bl true] [] = some (.int 1, []) := rfl
    simp [Qr, Xx, Yt, hn, ec, eq1, Y0, pln, dep, eqW, ei]
  · have kb : (k == 1) = false := beq_eq_false_iff_ne.mpr k1
    have ei : K3 [W.bl false] [] = some (.int 0, []) := rfl
    simp [Qr, Xx, Yt, hc, k1, ec, eq1, Y0, pln, dep, eqW, kb, ei]
noncomputable def lS (ns : List Int) (n : Int) (k : Option W) : MSt := [some (.frz (ns.map W.int)), some (.int n), k]
theorem Vl (a : Int) : (a % 10 ^ 20).natAbs.log2 < 1920 := by
  have h1 : 0 ≤ a % 10 ^ 20 := Int.emod_nonneg _ (by decide)
  have h2 : a % 10 ^ 20 < 10 ^ 20 := Int.emod_lt_of_pos _ (by decide)
  have h3 : (a % 10 ^ 20).natAbs < 2 ^ 100 := by
    have : (10 : Int) ^ 20 < 2 ^ 100 := by decide
    omega
  by_cases z : (a % 10 ^ 20).natAbs = 0
  · rw [z]; decide
  · exact Nat.lt_trans ((Nat.log2_lt z).mpr h3) (by decide)
theorem Kq {ns : List Int} {n : Int} {j : Nat} {y : Option W} (hj : j < 7) (hn : n.natAbs.log2 < 1920) (h : MH) : QS (lS ns n (some (.int j))) h = some (.nx (lS ns n (some (.int j))) h) := by
  have r1 := Jg (k := j) (n := n) (x := Str.ofString (toString n)) (by omega) (by omega) hn h
  have r2 := Jg (k := j) (n := 0) (x := Str.ofString "") (by omega) (by omega) (by decide) h
  have es : Vv [.int n] h = some (.str (Str.ofString (toString n)), h) := by unfold Vv; exact if_pos hn
  generalize Str.ofString (toString n) = tx at r1 es
  simp [lS, r1, r2, es]
theorem main (ns : List Int) (hl : ns.length ≤ 63) : ∃ h', Zg [.frz (ns.map W.int)] [] = some (.bl true, h') := by
  obtain ⟨n, hn, en⟩ : ∃ n : Int, n.natAbs.log2 < 1920 ∧ (X7 (JA (QX wGt (mFn V3 (Qu (QP 0) Zn)) (mC (.int 0)))) (VE 1 (QX VQ (QX wIx (QP 0) (QX KK (mFn V3 (Qu (QP 0) Zn)) (mC (.int 1)))) (QX VG (mC (.int 10)) (mC (.int 20))))) JJ) [some (.frz (ns.map W.int)), some (.int 0), none] [] = some (.nx (lS ns n none) []) := by
    cases hns : ns with
    | nil => exact ⟨0, by decide, by simp [lS]⟩
    | cons a r =>
      have hat : atI ((a :: r).map W.int) (((r.length : Nat) : Int)) = some (.int ((a :: r)[r.length])) := by
        rw [Ko]
        rw [List.getElem?_map, List.getElem?_eq_getElem (by simp)]; rfl
      have ep : VG (.int 10) (.int 20) [] = some (.int (10 ^ 20), []) := by
        unfold VG; exact if_pos ⟨by decide, by decide, by decide⟩
      have em : ∀ i : Int, VQ (.int i) (.int (10 ^ 20)) [] = some (.int (i % 10 ^ 20), []) := fun i => Vj (by decide)
      refine ⟨(a :: r)[r.length] % 10 ^ 20, Vl _, ?_⟩
      generalize (a :: r)[r.length] = z at hat ⊢
      rw [List.map_cons] at hat
      simp [lS, ep, hat, em]
  have loop := J2 (items := QK 0 7) (b := VD 2) (body := QS) (fun _ σ h => ∃ y, σ = lS ns n y ∧ h = []) (QK 0 7) 0 (lS ns n none) [] ⟨_, rfl, rfl⟩ (by
    rintro i w hi σ h ⟨y, rfl, rfl⟩
    obtain ⟨hil, rfl⟩ := Xe hi
    exact ⟨_, rfl, _, _, .inl (Kq (y := y) hil hn []), _, rfl, rfl⟩)
  obtain ⟨σ', h', el, y, rfl, rfl⟩ := loop
  refine ⟨[], ?_⟩
  have ef : KL (VH (Qu (mC (.int 7)) Zn)) (VD 2) QS (lS ns n none) [] = some (.nx (lS ns n y) []) := by
    unfold KL
    rw [JP (j := 7) rfl (by decide), Option.bind_some]
    exact el
  unfold Zg
  generalize KL (VH (Qu (mC (.int 7)) Zn)) (VD 2) QS = fo at ef
  generalize (X7 (JA (QX wGt (mFn V3 (Qu (QP 0) Zn)) (mC (.int 0)))) (VE 1 (QX VQ (QX wIx (QP 0) (QX KK (mFn V3 (Qu (QP 0) Zn)) (mC (.int 1)))) (QX VG (mC (.int 10)) (mC (.int 20))))) JJ) = gg at en
  simp only [lS] at en ef
  simp [Xx, en, ef]
end My

namespace My
open PySem PySem.Spec PyProof.Rows PySem.W L2 Mi
structure Cls10 (K : PySem.W.Frag) (mg : Str → Option Value) : Prop where
  ex : ∃ R c0 c1 c2 c3 c4 c5 c6 fI, ∃ (fdI : FuncData) (oI : Obj), YY K R [c0, c1, c2, c3, c4, c5, c6] = true ∧ mg "RoomError" = some (.ref R) ∧ mg "NoProgram" = some (.ref c0) ∧ mg "NoText" = some (.ref c1) ∧ mg "NoWord" = some (.ref c2) ∧ mg "NoPlace" = some (.ref c3) ∧ mg "TooBig" = some (.ref c4) ∧ mg "NoRow" = some (.ref c5) ∧ mg "NoName" = some (.ref c6) ∧
    xmB K c0 none = true ∧ xmB K c1 (some (.ref fI)) = true ∧ xmB K c2 none = true ∧ xmB K c3 none = true ∧ xmB K c4 none = true ∧ xmB K c5 none = true ∧ xmB K c6 none = true ∧
    findCls K (.ref R) (.type "type") "__init__" = some (.val (.builtin "ValueError.__init__")) ∧ findIn K (.ref c1) "at" = some none ∧ Fun K "__init__" "NoText.__init__" QE fI fdI ∧ Binds K fdI ["self", "at"] [] ∧ K.lookup fI = some oI ∧ oI.cls = .type "function"
theorem XB {P : Program} {w : World} {K : PySem.W.Frag} {mg : Str → Option Value} {base : Heap} (cl : Cls10 K mg) (dR : DefAt K mg "_law_raised" QU ["k", "text", "number"]) (dM : DefAt K mg "_law_marks" QV ["e"]) (d__law_right : DefAt K mg "_law_right" Qf ["k", "text", "number"]) (d_law : DefAt K mg "law" Z0 ["script"])
    (b_VE : mg "ValueError" = none) (b_int : mg "int" = none) (b_isinstance : mg "isinstance" = none) (b_len : mg "len" = none) (b_range : mg "range" = none) (b_str : mg "str" = none) : Cal P w K mg base 5 "law" ["script"] Zg := by
  obtain ⟨R, c0, c1, c2, c3, c4, c5, c6, fI, fdI, oI, k1, mR, m0, m1, m2, m3, m4, m5, m6, x0, x1, x2, x3, x4, x5, x6, rf, na, FI, bI, lI, cI⟩ := cl.ex
  have T := Yo k1
  obtain ⟨fF, fdF, FF, gF, bF⟩ := dR.ex
  obtain ⟨fM, fdM, FM, gM, bM⟩ := dM.ex
  have xm : ∀ c ini, c ∈ [c0, c1, c2, c3, c4, c5, c6] → xmB K c ini = true → XM K c ini := fun c ini hc h => Wr h (T.xc c hc)
  have i1 : FnOk P w K mg base (CXr P w) 1 fI fdI ["self", "at"] (spI K) := XW FI mR T.ga T.rd rf
  have r1 : FnOk P w K mg base (CXr P w) 3 fF fdF ["k", "text", "number"] (spR [c0, c1, c2, c3, c4, c5, c6]) :=
    JY FF i1 bI lI cI m0 m1 m2 m3 m4 m5 m6 (xm _ _ (by simp) x0) (xm _ _ (by simp) x1) (xm _ _ (by simp) x2) (xm _ _ (by simp) x3) (xm _ _ (by simp) x4) (xm _ _ (by simp) x5) (xm _ _ (by simp) x6) (T.mv _ (by simp)) na
  have mk1 : FnQ P w K mg base 1 fM fdM ["e"] (spL K [c0, c1, c2, c3, c4, c5, c6]) := J0 T FM b_isinstance m0 m1 m2 m3 m4 m5 m6
  exact Kl d_law b_len b_range b_str (Zl T mk1 gM FM.kp bM r1 gF FF.kp bF b_isinstance b_VE m1 mR na d__law_right b_int b_range)
theorem V8 {K : PySem.W.Frag} {mg : Str → Option Value} {h : Heap} {R c0 c1 c2 c3 c4 c5 c6 fI : Addr} {oc kV doc pm cd ct : Value} {od an : Option Addr} {sl : Array (Option Value)} (X : K.In h) (G : h.Ns mainGlobals mg) (aR : nsIn K mainGlobals "RoomError" = some (some (.ref R)))
    (a0 : nsIn K mainGlobals "NoProgram" = some (some (.ref c0))) (a1 : nsIn K mainGlobals "NoText" = some (some (.ref c1))) (a2 : nsIn K mainGlobals "NoWord" = some (some (.ref c2))) (a3 : nsIn K mainGlobals "NoPlace" = some (some (.ref c3))) (a4 : nsIn K mainGlobals "TooBig" = some (some (.ref c4))) (a5 : nsIn K mainGlobals "NoRow" = some (some (.ref c5))) (a6 : nsIn K mainGlobals "NoName" = some (some (.ref c6))) (ai : findIn K (.ref c1) "__init__" = some (some (.ref fI)))
    (l : K.lookup fI = some ⟨oc, od, .func (fnOf "__init__" "NoText.__init__" (QF QE) (Qo QE) (Qe QE) .none kV doc pm an cd ct), sl⟩) (c : codeIn K cd "NoText.__init__" = true) (k : keepIn K (.ref fI) = true)
    (b : ∀ (kV doc pm : Value) (an : Option Addr) (cdv ct : Value) (us : List Value), us.length = 2 → bindArgs (fnOf "__init__" "NoText.__init__" (QF QE) (Qo QE) (Qe QE) .none kV doc pm an cdv ct) ⟨us, []⟩ = pure ((["self", "at"] : List Str).zip us))
    (o : oc = .type "function") (kb : YY K R [c0, c1, c2, c3, c4, c5, c6] = true) (x0 : xmB K c0 none = true) (x1 : xmB K c1 (some (.ref fI)) = true) (x2 : xmB K c2 none = true) (x3 : xmB K c3 none = true) (x4 : xmB K c4 none = true) (x5 : xmB K c5 none = true) (x6 : xmB K c6 none = true)
    (rf : findCls K (.ref R) (.type "type") "__init__" = some (.val (.builtin "ValueError.__init__"))) (na : findIn K (.ref c1) "at" = some none) : Cls10 K mg :=
  ⟨R, c0, c1, c2, c3, c4, c5, c6, fI, _, _, kb, mg_of X G aR, mg_of X G a0, mg_of X G a1, mg_of X G a2, mg_of X G a3, mg_of X G a4, mg_of X G a5, mg_of X G a6, x0, x1, x2, x3, x4, x5, x6, rf, na, Jk l c k, (Jk l c k).binds (ps := ["self", "at"]) b, l, o⟩
end My

open PySem PySem.W PyProof.Rows
set_option maxRecDepth 100000 in
set_option maxHeartbeats 0 in
theorem PySem.Challenge.cw_doneroom_k10_refusals_apart_holds : PySem.Challenge.rw_doneroom_k10_refusals_apart.Holds := by
  w_on; o_law; k_head; (case hw => w_witness2)
  k_fill
  refine Mi.Y6 (l := PySem.Challenge.rw_doneroom_k10_refusals_apart) (st := My.Z0) (sem := My.Zg) (k := 5) rfl rfl ⟨rfl, by decide, by decide⟩ rfl (fun w h Y => PySem.W.kIn_of Y) (fun _ _ _ _ _ _ _ _ => .of_eq rfl) ?F My.main
  case F =>
    intro w mg h KX G
    have dR : Mi.DefAt (L2.KOf KX) mg "_law_raised" My.QU ["k", "text", "number"] := by
      dsimp only [L2.KOf]
      refine' Mi.Za KX G ?a ?l ?c ?k ?b
      (case a => k_is); (case l => k_is); (case c => k_is); (case k => k_is)
      (case b => exact fun _ _ _ _ _ _ us hl => match us, hl with | [_, _, _], _ => rfl)
    have dM : Mi.DefAt (L2.KOf KX) mg "_law_marks" My.QV ["e"] := by
      dsimp only [L2.KOf]
      refine' Mi.Za KX G ?a ?l ?c ?k ?b
      (case a => k_is); (case l => k_is); (case c => k_is); (case k => k_is)
      (case b => exact fun _ _ _ _ _ _ us hl => match us, hl with | [_], _ => rfl)
    have d__law_right : Mi.DefAt (L2.KOf KX) mg "_law_right" My.Qf ["k", "text", "number"] := by
      dsimp only [L2.KOf]
      refine' Mi.Za KX G ?a ?l ?c ?k ?b
      (case a => k_is); (case l => k_is); (case c => k_is); (case k => k_is)
      (case b => exact fun _ _ _ _ _ _ us hl => match us, hl with | [_, _, _], _ => rfl)
    have d_law : Mi.DefAt (L2.KOf KX) mg "law" My.Z0 ["script"] := by
      dsimp only [L2.KOf]
      refine' Mi.Za KX G ?a ?l ?c ?k ?b
      (case a => k_is); (case l => k_is); (case c => k_is); (case k => k_is)
      (case b => exact fun _ _ _ _ _ _ us hl => match us, hl with | [_], _ => rfl)
    have b_VE : mg "ValueError" = none := by
      refine' PySem.W.mg_none_of KX G ?a
      (case a => k_is)
    have b_int : mg "int" = none := by
      refine' PySem.W.mg_none_of KX G ?a
      (case a => k_is)
    have b_isinstance : mg "isinstance" = none := by
      refine' PySem.W.mg_none_of KX G ?a
      (case a => k_is)
    have b_len : mg "len" = none := by
      refine' PySem.W.mg_none_of KX G ?a
      (case a => k_is)
    have b_range : mg "range" = none := by
      refine' PySem.W.mg_none_of KX G ?a
      (case a => k_is)
    have b_str : mg "str" = none := by
      refine' PySem.W.mg_none_of KX G ?a
      (case a => k_is)
    have cl : My.Cls10 (L2.KOf KX) mg := by
      dsimp only [L2.KOf]
      refine' My.V8 KX G ?aR ?a0 ?a1 ?a2 ?a3 ?a4 ?a5 ?a6 ?ai ?l ?c ?k ?b ?o ?kb ?x0 ?x1 ?x2 ?x3 ?x4 ?x5 ?x6 ?rf ?na
      (case aR => k_is)
      (case a0 => k_is)
      (case a1 => k_is)
      (case a2 => k_is)
      (case a3 => k_is)
      (case a4 => k_is)
      (case a5 => k_is)
      (case a6 => k_is)
      (case ai => k_is); (case l => k_is); (case c => k_is); (case k => k_is)
      (case b => exact fun _ _ _ _ _ _ us hl => match us, hl with | [_, _], _ => rfl)
      (case o => exact rfl)
      (case kb => kernel_rfl)
      (case x0 => kernel_rfl)
      (case x1 => kernel_rfl)
      (case x2 => kernel_rfl)
      (case x3 => kernel_rfl)
      (case x4 => kernel_rfl)
      (case x5 => kernel_rfl)
      (case x6 => kernel_rfl)
      (case rf => k_is); (case na => k_is)
    exact ⟨d_law, fun base kb nb => My.XB cl dR dM d__law_right d_law b_VE b_int b_isinstance b_len b_range b_str⟩
