import PyProof.Rows.All
import Wide.All
import OpenK.AllK
import Wide.FinOn
import Lean
import PyProof.EqAt
import PyProof.EqKinds
import PyProof.TupleCall
import KE.KDictList
import KE.KRevIter
import KE.KTurns
import PyProof.Rows.SetFrom
import PyProof.Rows.SortStr
import PyProof.FactsAll.set
import PyProof.Draws
import PyProof.EnumMake
import PySem.Challenge.RW_doneroom_k05_what_programs_have
set_option Elab.async false
set_option bootstrap.genMatcherCode false
set_option linter.all false
set_option maxRecDepth 100000
noncomputable section
/-! THE HAND LAYER, for ints, bools, texts, own classes, LISTS and tuples (index, slices, in, append, pop ..), calls, loops. Paste it whole ahead of your own text; what your proof does not reach may be deleted. -/
namespace L2
open PySem PySem.Spec PyProof.Rows

noncomputable abbrev Key := Sum Int Str
noncomputable def GX : Key → Value → Bool
  | .inl k, v => Value.isInt k v
  | .inr x, v => Value.isStrOf x v
noncomputable def Qcx (w : World) : Key → Int
  | .inl k => hashInt k
  | .inr x => hashStr w x
theorem Qx : ∀ {k : Key} {v : Value}, GX k v = true → (∃ i t, k = Sum.inl i ∧ v = Value.int i t) ∨ (∃ x t, k = Sum.inr x ∧ v = Value.str x t)
  | .inl i, v, h => by
    obtain ⟨t, e⟩ := Value.isInt_shape (k := i) (v := v) h
    exact .inl ⟨i, t, rfl, e⟩
  | .inr x, v, h => by
    obtain ⟨t, e⟩ := Value.isStrOf_shape (x := x) (v := v) h
    exact .inr ⟨x, t, rfl, e⟩
theorem GN (a b : Int) : decide ((Sum.inl a : Key) = Sum.inl b) = (a == b) := by
  by_cases e : a = b
  · subst e; simp
  · have h : ¬ (Sum.inl a : Key) = Sum.inl b := fun q => e (Sum.inl.inj q)
    rw [decide_eq_false h]
    exact (beq_eq_false_iff_ne.mpr e).symm
theorem Gh (a b : Str) : decide ((Sum.inr a : Key) = Sum.inr b) = decide (a = b) := by
  by_cases e : a = b
  · subst e; simp
  · have h : ¬ (Sum.inr a : Key) = Sum.inr b := fun q => e (Sum.inr.inj q)
    rw [decide_eq_false h, decide_eq_false e]
theorem GU (a : Int) (b : Str) : decide ((Sum.inl a : Key) = Sum.inr b) = false := decide_eq_false (fun q => nomatch q)
theorem U2 (a : Str) (b : Int) : decide ((Sum.inr a : Key) = Sum.inl b) = false := decide_eq_false (fun q => nomatch q)

noncomputable def WR (prog : Program) (w : World) : PySem.KeyKind prog w Key where
  is := GX
  hash := Qcx w
  inj := fun v a b ha hb => by
    rcases Qx ha with ⟨i, t, rfl, rfl⟩ | ⟨x, t, rfl, rfl⟩
    · rcases Qx hb with ⟨j, u, rfl, e⟩ | ⟨y, u, rfl, e⟩
      · injection e with e1 _; rw [e1]
      · exact nomatch e
    · rcases Qx hb with ⟨j, u, rfl, e⟩ | ⟨y, u, rfl, e⟩
      · exact nomatch e
      · injection e with e1 _; rw [e1]
  byValue := fun k v h => by
    rcases Qx h with ⟨i, t, rfl, rfl⟩ | ⟨x, t, rfl, rfl⟩ <;> rfl
  pyHash := fun hv h => by
    rcases Qx hv with ⟨i, t, rfl, rfl⟩ | ⟨x, t, rfl, rfl⟩
    · exact wpAny_pyHash_int h
    · exact wpAny_pyHash_str h
  eqBool := fun hu hv h => by
    rcases Qx hu with ⟨i, t, rfl, rfl⟩ | ⟨x, t, rfl, rfl⟩
    · rcases Qx hv with ⟨j, u, rfl, rfl⟩ | ⟨y, u, rfl, rfl⟩
      · rw [GN] at h; exact wpAny_eqBool_int h
      · rw [GU] at h; exact SeqAt.EqAt.int_str i t y u _ _ _ _ h
    · rcases Qx hv with ⟨j, u, rfl, rfl⟩ | ⟨y, u, rfl, rfl⟩
      · rw [U2] at h; exact SeqAt.EqAt.str_int x t j u _ _ _ _ h
      · rw [Gh] at h; exact wpAny_eqBool_str h
  «strs» := fun k x t v h => by
    rcases Qx h with ⟨i, u, rfl, e⟩ | ⟨y, u, rfl, e⟩
    · exact nomatch e
    · injection e with e1 _
      subst e1
      cases v <;> rfl

end L2

namespace L2
open PySem PySem.Spec PyProof.Rows

inductive V where
  | non | bl (b : Bool) | int (i : Int) | str (x : Str) | byt (b : Array UInt8) | flt (b : UInt64) | ref (a : Addr) | ty (n : String)
  deriving DecidableEq

noncomputable def RelV : V → Value → Prop
  | .non, u => u = Value.none
  | .bl b, u => u = Value.bool b
  | .int i, u => ∃ t, u = Value.int i t
  | .str x, u => ∃ t, u = Value.str x t
  | .byt b, u => ∃ t, u = Value.bytes b t
  | .flt b, u => ∃ t, u = Value.float b t
  | .ref a, u => u = Value.ref a
  | .ty n, u => u = Value.type n

noncomputable abbrev Vals : List V → List Value → Prop := Paired RelV
theorem Vals.length {xs : List V} {us : List Value} (r : Vals xs us) : xs.length = us.length := Paired.length r
theorem Vals.get : ∀ {xs : List V} {us : List Value} {i : Nat} {x : V}, Vals xs us → xs[i]? = some x → ∃ u, us[i]? = some u ∧ RelV x u
  | _, _, _, _, .nil, e => by simp at e
  | _, _, 0, _, .cons r _, e => by simp at e; subst e; exact ⟨_, rfl, r⟩
  | _, _, i + 1, x, .cons _ t, e => by
    obtain ⟨u, h1, h2⟩ := Vals.get (i := i) (x := x) t (by simpa using e)
    exact ⟨u, by simpa using h1, h2⟩
theorem Vals.set {x : V} {u : Value} (r : RelV x u) : ∀ {xs : List V} {us : List Value} (i : Nat), Vals xs us → Vals (xs.set i x) (us.set i u)
  | _, _, _, .nil => .nil
  | _, _, 0, .cons _ t => .cons r t
  | _, _, i + 1, .cons q t => .cons q (Vals.set r i t)
theorem Vals.append : ∀ {xs ys : List V} {us ws : List Value}, Vals xs us → Vals ys ws → Vals (xs ++ ys) (us ++ ws)
  | _, _, _, _, .nil, s => s
  | _, _, _, _, .cons r t, s => .cons r (Vals.append t s)
theorem Vals.take : ∀ {xs : List V} {us : List Value} (n : Nat), Vals xs us → Vals (xs.take n) (us.take n)
  | _, _, 0, _ => .nil
  | _, _, _ + 1, .nil => .nil
  | _, _, n + 1, .cons r t => .cons r (Vals.take n t)
theorem Vals.drop : ∀ {xs : List V} {us : List Value} (n : Nat), Vals xs us → Vals (xs.drop n) (us.drop n)
  | _, _, 0, r => r
  | _, _, _ + 1, .nil => .nil
  | _, _, n + 1, .cons _ t => Vals.drop n t
noncomputable def QaY : Option V → Option Value → Prop
  | some v, some u => RelV v u
  | none, none => True
  | _, _ => False
noncomputable def KV {κ : Type} : List (κ × V) → List (κ × Value) → Prop := Paired fun (p : κ × V) (q : κ × Value) => p.1 = q.1 ∧ RelV p.2 q.2

inductive Tr where
  | i (n : Int)
  | s (x : Str)
  | t (ks : List Tr)
noncomputable instance trDec : DecidableEq Tr := fun _ _ => Classical.propDecidable _
noncomputable def IsT (h : Heap) : Nat → Tr → Value → Prop
  | 0, _, _ => False
  | _ + 1, .i k, v => (∃ t, v = .int k t) ∨ ∃ b : Bool, v = .bool b ∧ k = if b then 1 else 0
  | _ + 1, .s x, v => ∃ t, v = .str x t
  | n + 1, .t ks, v => ∃ a its, v = .ref a ∧ h.IsTuple a its ∧ Paired (IsT h n) ks its.toList
theorem Ko {α β : Type} {F : α → β → Prop} (hi : ∀ x y v, F x v → F y v → x = y) : ∀ {xs ys : List α} {vs : List β}, Paired F xs vs → Paired F ys vs → xs = ys
  | _, _, _, .nil, .nil => rfl
  | _, _, _, .cons a s, .cons b t => by rw [hi _ _ _ a b, Ko hi s t]
theorem Yx {h : Heap} {n : Nat} {x : Tr} {a : Addr} (hx : IsT h n x (.ref a)) : ∃ m ks its, n = m + 1 ∧ x = .t ks ∧ h.IsTuple a its ∧ Paired (IsT h m) ks its.toList := by
  cases n with
  | zero => exact hx.elim
  | succ n =>
    cases x with
    | i k => rcases hx with ⟨t, e⟩ | ⟨b, e, _⟩ <;> cases e
    | s y => obtain ⟨t, e⟩ := hx; cases e
    | t ks => obtain ⟨a', its, e, p, q⟩ := hx; cases e; exact ⟨n, ks, its, rfl, rfl, p, q⟩
theorem XV {h : Heap} {a : Addr} {x y : Array Value} (hx : h.IsTuple a x) (hy : h.IsTuple a y) : x = y := by
  obtain ⟨o, h1, _, n, h2⟩ := hx
  obtain ⟨o', h1', _, n', h2'⟩ := hy
  rw [h1] at h1'; cases h1'
  rw [h2] at h2'; injection h2'
theorem XJ {h : Heap} : ∀ {n : Nat} (x y : Tr) (v : Value), IsT h n x v → IsT h n y v → x = y
  | 0, _, _, _, hx, _ => hx.elim
  | n + 1, x, y, v, hx, hy => by
    cases v with
    | ref a =>
      obtain ⟨m, ks, its, e, rfl, p, q⟩ := Yx hx
      obtain ⟨m', ls, its', e', rfl, p', q'⟩ := Yx hy
      cases e; cases e'
      cases XV p p'
      rw [Ko (fun x y v => XJ (n := n) x y v) q q']
    | _ =>
      cases x with
      | i k =>
        cases y with
        | i k' =>
          rcases hx with ⟨t, e⟩ | ⟨b, e, rfl⟩ <;> cases e <;> rcases hy with ⟨t, e⟩ | ⟨b, e, rfl⟩ <;> cases e <;> rfl
        | s y => obtain ⟨t, e⟩ := hy; rcases hx with ⟨t, e'⟩ | ⟨b, e', _⟩ <;> (rw [e] at e'; cases e')
        | t ls => obtain ⟨a, its, e, _⟩ := hy; cases e
      | s z =>
        obtain ⟨t, e'⟩ := hx
        cases y with
        | i k => rcases hy with ⟨t, e⟩ | ⟨b, e, _⟩ <;> (rw [e] at e'; cases e')
        | s y => obtain ⟨t, e⟩ := hy; rw [e] at e'; cases e'; rfl
        | t ls => obtain ⟨a, its, e, _⟩ := hy; cases e
      | t ks => obtain ⟨a, its, e, _⟩ := hx; cases e
theorem Vg {α β : Type} {F G : α → β → Prop} (f : ∀ a b, F a b → G a b) : ∀ {l₁ : List α} {l₂ : List β}, Paired F l₁ l₂ → Paired G l₁ l₂
  | _, _, .nil => .nil
  | _, _, .cons r t => .cons (f _ _ r) (Vg f t)
theorem Xs {h h' : Heap} {d : Addr} {o : Obj} {es ep} (ho : h.get? d = some o) (hd : o.data = .dict es ep) (hs : Heap.SameBut d h h') : ∀ {n : Nat} (k : Tr) (v : Value), IsT h n k v → IsT h' n k v
  | 0, _, _, x => x.elim
  | n + 1, .i k, v, x => x
  | n + 1, .s k, v, x => x
  | n + 1, .t ks, v, ⟨a, its, e, ⟨o', ho', hc, m, hd'⟩, q⟩ => by
    have hne : a ≠ d := by
      rintro rfl
      rw [ho'] at ho; cases ho
      rw [hd] at hd'; exact nomatch hd'
    exact ⟨a, its, e, ⟨o', (hs.2 a hne).trans ho', hc, m, hd'⟩, Vg (fun k v => Xs ho hd hs k v) q⟩
noncomputable def hN (w : World) : Nat → Tr → Int
  | 0, _ => 0
  | _ + 1, .i k => hashInt k
  | _ + 1, .s x => hashStr w x
  | n + 1, .t ks => reduceHash (Builtin.Tuple.tupleHashOf (ks.map (hN w n)))
noncomputable def dN : Nat → Tr → Nat
  | 0, _ => 0
  | _ + 1, .i _ => 1
  | _ + 1, .s _ => 1
  | n + 1, .t ks => (ks.map (dN n)).sum + 1
section
variable {prog : Program} {w : World} {E : Value → Shared → Prop}
theorem Xb {n : Nat} {A : Around} (ih : ∀ (k : Tr) (v : Value) (s : Shared) (Q : Int → Shared → Prop), IsT s.heap n k v → Q (hN w n k) { s with toks := s.toks + dN n k } → wpAny (model prog w) A (pyHash v) Q E s) :
    ∀ (ks : List Tr) (vs : List Value) (s : Shared) (b : Array Int) (Q : Array Int → Shared → Prop), Paired (IsT s.heap n) ks vs →
    (∀ b', b'.toList = b.toList ++ ks.map (hN w n) → Q b' { s with toks := s.toks + (ks.map (dN n)).sum }) →
    wpAny (model prog w) A (forIn vs b fun x r => do let h ← pyHash x; pure PUnit.unit; pure (ForInStep.yield (r.push h))) Q E s
  | [], _, s, b, Q, x, h => by cases x; exact wpAny_pure (h b (by simp))
  | k :: ks, _, s, b, Q, x, h => by
    cases x with
    | cons x1 x2 =>
      rw [List.forIn_cons]
      refine wpAny_bind (wpAny_bind (ih k _ s _ x1 ?_))
      refine wpAny_bind (wpAny_pure (wpAny_pure ?_))
      refine Xb ih ks _ _ _ Q x2 fun b' hb => ?_
      have := h b' (by simp [hb])
      simpa [Nat.add_assoc] using this
theorem WO : ∀ (n : Nat) (A : Around), A.units + n < cLine → ∀ (k : Tr) (v : Value) (s : Shared) (Q : Int → Shared → Prop), IsT s.heap n k v → Q (hN w n k) { s with toks := s.toks + dN n k } → wpAny (model prog w) A (pyHash v) Q E s
  | 0, _, _, _, _, _, _, x, _ => x.elim
  | n + 1, A, hu, .i k, v, s, Q, x, h => by
    rcases x with ⟨t, rfl⟩ | ⟨b, rfl, rfl⟩
    · exact wpAny_pyHash_int h
    · refine PySem.W.pyHash_slot (T := "bool") rfl F.slot_bool_hash entry_int_hash (args_int_hash _) (beq_builtin_none _) (.inr (by omega)) ?_
      cases b
      · exact (show wpAny _ _ (do ret (← mkInt 0)) _ _ s from wpAny_bind (wpAny_mkInt (wpAny_pure ⟨_, _, rfl, h⟩)))
      · exact (show wpAny _ _ (do ret (← mkInt 1)) _ _ s from wpAny_bind (wpAny_mkInt (wpAny_pure ⟨_, _, rfl, h⟩)))
  | n + 1, A, hu, .s y, v, s, Q, x, h => by
    obtain ⟨t, rfl⟩ := x
    exact wpAny_pyHash_str h
  | n + 1, A, hu, .t ks, v, s, Q, x, h => by
    obtain ⟨a, its, rfl, ⟨o, ho, hc, m, hd⟩, q⟩ := x
    refine PySem.W.pyHash_slot (T := "tuple") ⟨_, ho, hc⟩ F.slot_tuple_hash F.entry_tuple_hash (F.args_tuple_hash_1 _) (beq_builtin_none _) (.inr (by omega)) ?_
    show wpAny _ _ (Builtin.Tuple.tupleItemsOf (.ref a) >>= _) _ _ s
    refine wpAny_bind (wpAny_tupleItemsOf ho hd ?_)
    refine wpAny_bind ?_
    rw [← Array.forIn_toList]
    refine Xb (n := n) (fun k v s Q => WO n A.in1 (by show A.units + 1 + n < cLine; omega) k v s Q) ks _ s #[] _ q fun b hb => ?_
    show wpAny _ _ (retInt (Builtin.Tuple.tupleHashOf b.toList)) _ _ _
    rw [hb]
    refine wpAny_bind (wpAny_mkInt (wpAny_pure ⟨_, _, rfl, ?_⟩))
    simpa [hN, dN, Nat.add_assoc] using h
theorem UG {n : Nat} {h : Heap} {e : Nat → Bool} : ∀ {ks ls : List Tr} {us vs : List Value}, Paired (IsT h n) ks us → Paired (IsT h n) ls vs → (∀ (j : Nat) (x y : Tr), ks[j]? = some x → ls[j]? = some y → e j = decide (x = y)) →
    ((List.range (min us.length vs.length)).all e && us.length == vs.length) = decide (Tr.t ks = Tr.t ls) := by
  intro ks ls us vs p q he
  have l1 := Paired.length p
  have l2 := Paired.length q
  rw [← l1, ← l2]
  by_cases hl : ks.length = ls.length
  · by_cases hk : ks = ls
    · subst hk
      simp only [Nat.min_self, beq_self_eq_true, Bool.and_true, decide_true]
      rw [List.all_eq_true]
      intro j hj
      rw [List.mem_range] at hj
      rw [he j ks[j] ks[j] (List.getElem?_eq_getElem hj) (List.getElem?_eq_getElem hj)]
      simp
    · have : decide (Tr.t ks = Tr.t ls) = false := decide_eq_false fun z => hk (Tr.t.inj z)
      rw [this, Bool.and_eq_false_iff]
      left
      have : ∃ j, ks[j]? ≠ ls[j]? := Classical.byContradiction fun z => hk (List.ext_getElem? fun j => Classical.byContradiction fun y => z ⟨j, y⟩)
      obtain ⟨j, hj⟩ := this
      have hjl : j < ks.length := Classical.byContradiction fun z => hj (by rw [List.getElem?_eq_none (by omega), List.getElem?_eq_none (by omega)])
      rw [List.all_eq_false]
      refine ⟨j, List.mem_range.mpr (by omega), ?_⟩
      rw [he j ks[j] ls[j] (List.getElem?_eq_getElem hjl) (List.getElem?_eq_getElem (by omega))]
      intro z
      rw [decide_eq_true_eq] at z
      exact hj (by rw [List.getElem?_eq_getElem hjl, List.getElem?_eq_getElem (by omega), z])
  · have h1 : (ks.length == ls.length) = false := beq_eq_false_iff_ne.mpr hl
    rw [h1, Bool.and_false]
    exact (decide_eq_false fun z => hl (by rw [Tr.t.inj z])).symm
theorem Jv {α β : Type} {F : α → β → Prop} : ∀ {l₁ : List α} {l₂ : List β} {j : Nat} {x : α}, Paired F l₁ l₂ → l₁[j]? = some x → ∃ v, l₂[j]? = some v ∧ F x v
  | _, _, 0, x, .cons r t, e => by simp at e; subst e; exact ⟨_, rfl, r⟩
  | _, _, j + 1, x, .cons r t, e => by
    obtain ⟨v, h1, h2⟩ := Jv (j := j) (x := x) t (by simpa using e)
    exact ⟨v, by simpa using h1, h2⟩
open SeqAt in
theorem QbQ {s : Shared} : ∀ (n : Nat) (A : Around), A.units + n < cLine → ∀ (x y : Tr) (u v : Value), IsT s.heap n x u → IsT s.heap n y v → EqAt A s u v (decide (x = y))
  | 0, _, _, _, _, _, _, hx, _ => hx.elim
  | n + 1, A, hu, .i a, .i b, u, v, hx, hy => by
    have hd : decide (Tr.i a = Tr.i b) = (a == b) := by
      by_cases z : a = b
      · subst z; simp
      · rw [decide_eq_false fun q => z (Tr.i.inj q)]; exact (beq_eq_false_iff_ne.mpr z).symm
    rw [hd]
    rcases hx with ⟨t, rfl⟩ | ⟨p, rfl, rfl⟩ <;> rcases hy with ⟨t', rfl⟩ | ⟨q, rfl, rfl⟩
    · exact EqAt.int_int a t b t'
    · exact EqAt.int_bool a t q
    · exact EqAt.bool_int p b t'
    · have := EqAt.bool_bool (A := A) (s := s) p q
      cases p <;> cases q <;> exact this
  | n + 1, A, hu, .i a, .s b, u, v, hx, hy => by
    obtain ⟨t', rfl⟩ := hy
    rw [decide_eq_false (fun z => nomatch z)]
    rcases hx with ⟨t, rfl⟩ | ⟨p, rfl, rfl⟩
    · exact EqAt.int_str a t b t'
    · exact EqAt.bool_str p b t'
  | n + 1, A, hu, .i a, .t ks, u, v, hx, hy => by
    obtain ⟨ad, its, rfl, p, _⟩ := hy
    rw [decide_eq_false (fun z => nomatch z)]
    rcases hx with ⟨t, rfl⟩ | ⟨q, rfl, rfl⟩
    · exact EqAt.int_tuple a t p (by omega)
    · exact EqAt.bool_tuple q p (by omega)
  | n + 1, A, hu, .s b, .i a, u, v, hx, hy => by
    obtain ⟨t', rfl⟩ := hx
    rw [decide_eq_false (fun z => nomatch z)]
    rcases hy with ⟨t, rfl⟩ | ⟨p, rfl, rfl⟩
    · exact EqAt.str_int b t' a t
    · exact EqAt.str_bool b t' p
  | n + 1, A, hu, .s a, .s b, u, v, hx, hy => by
    obtain ⟨t, rfl⟩ := hx
    obtain ⟨t', rfl⟩ := hy
    have hd : decide (Tr.s a = Tr.s b) = (a == b) := by
      by_cases z : a = b
      · subst z; simp
      · rw [decide_eq_false fun q => z (Tr.s.inj q)]; exact (beq_eq_false_iff_ne.mpr z).symm
    rw [hd]
    exact EqAt.str_str a t b t'
  | n + 1, A, hu, .s b, .t ks, u, v, hx, hy => by
    obtain ⟨ad, its, rfl, p, _⟩ := hy
    obtain ⟨t, rfl⟩ := hx
    rw [decide_eq_false (fun z => nomatch z)]
    exact EqAt.str_tuple b t p (by omega)
  | n + 1, A, hu, .t ks, .i a, u, v, hx, hy => by
    obtain ⟨ad, its, rfl, p, _⟩ := hx
    rw [decide_eq_false (fun z => nomatch z)]
    rcases hy with ⟨t, rfl⟩ | ⟨q, rfl, rfl⟩
    · exact EqAt.tuple_int a t p (by omega)
    · exact EqAt.tuple_bool q p (by omega)
  | n + 1, A, hu, .t ks, .s b, u, v, hx, hy => by
    obtain ⟨ad, its, rfl, p, _⟩ := hx
    obtain ⟨t, rfl⟩ := hy
    rw [decide_eq_false (fun z => nomatch z)]
    exact EqAt.tuple_str b t p (by omega)
  | n + 1, A, hu, .t ks, .t ls, u, v, hx, hy => by
    obtain ⟨ad, its, rfl, p, q⟩ := id hx
    obtain ⟨bd, its', rfl, p', q'⟩ := id hy
    by_cases hab : ad = bd
    · subst hab
      have := XJ _ _ _ hx hy
      rw [this, decide_eq_true rfl]
      exact EqAt.same _
    · refine EqAt.of_refs hab ?_
      have ih := QbQ (s := s) n A.in1 (by show A.units + 1 + n < cLine; omega)
      have hz := RcAt.tuples (A := A) (s := s) (e := fun j => match ks[j]?, ls[j]? with | some x, some y => decide (x = y) | _, _ => false) p p' (by omega) (fun j h1 h2 => by
        have l1 := Paired.length q
        have l2 := Paired.length q'
        have j1 : j < ks.length := by rw [l1]; exact h1
        have j2 : j < ls.length := by rw [l2]; exact h2
        obtain ⟨x, hx⟩ : ∃ x, ks[j]? = some x := ⟨ks[j], List.getElem?_eq_getElem j1⟩
        obtain ⟨y, hy⟩ : ∃ y, ls[j]? = some y := ⟨ls[j], List.getElem?_eq_getElem j2⟩
        obtain ⟨u, hu1, hu2⟩ := Jv q hx
        obtain ⟨t, ht1, ht2⟩ := Jv q' hy
        rw [hx, hy]
        have e1 : its[j] = u := by
          rw [Array.getElem?_toList, Array.getElem?_eq_getElem h1] at hu1; exact Option.some.inj hu1
        have e2 : its'[j] = t := by
          rw [Array.getElem?_toList, Array.getElem?_eq_getElem h2] at ht1; exact Option.some.inj ht1
        rw [e1, e2]
        exact ih x y u t hu2 ht2)
      have := UG (e := fun j => match ks[j]?, ls[j]? with | some x, some y => decide (x = y) | _, _ => false) q q' (fun j x y h1 h2 => by simp only [h1, h2])
      rw [Array.length_toList, Array.length_toList] at this
      rw [this] at hz
      exact hz
theorem YC {A : Around} {s : Shared} : ∀ (n m : Nat) (k : Tr) (v : Value) (Q : Bool → Shared → Prop), IsT s.heap n k v → n ≤ m → Q true s → wpAny (model prog w) A (eqIsQuiet m v) Q E s
  | 0, _, _, _, _, x, _, _ => x.elim
  | n + 1, m, .i k, v, Q, x, _, h => by
    rcases x with ⟨t, rfl⟩ | ⟨b, rfl, rfl⟩
    · rw [eqIsQuiet_byValue _ rfl]; exact wpAny_pure h
    · rw [eqIsQuiet_byValue _ rfl]; exact wpAny_pure h
  | n + 1, m, .s k, v, Q, x, _, h => by
    obtain ⟨t, rfl⟩ := x
    rw [eqIsQuiet_byValue _ rfl]; exact wpAny_pure h
  | n + 1, 0, .t ks, v, Q, x, hm, h => by omega
  | n + 1, m + 1, .t ks, v, Q, x, hm, h => by
    obtain ⟨a, its, rfl, ⟨o, ho, hc, l, hd⟩, q⟩ := x
    have hT : s.TypeIs (.ref a) "tuple" := ⟨o, ho, hc⟩
    unfold eqIsQuiet
    refine wpAny_bind (wpAny_specialOf hT F.slot_tuple_eq.lookup ?_)
    show wpAny _ _ (isInstance (.ref a) (.type "tuple") >>= _) _ _ s
    refine wpAny_bind (wpAny_isInstance hT isSubtype_tuple_tuple ?_)
    simp only [Bool.not_true, Bool.false_eq_true, if_false]
    refine wpAny_bind (wpAny_seqItems ho hd ?_)
    refine wpAny_bind ?_
    show wpAny _ _ (forIn its _ _) _ _ s
    rw [← Array.forIn_toList]
    refine wpAny_forIn_list _ (fun rest r s' => r.1 = none ∧ s' = s ∧ ∃ ks', Paired (IsT s.heap n) ks' rest) _ ?_ ?_ _ _ ⟨rfl, rfl, ks, q⟩
    · rintro v rest r s' ⟨hr, rfl, ks', q'⟩
      cases q' with
      | cons q1 q2 =>
        refine wpAny_bind (YC n m _ _ _ q1 (by omega) ?_)
        simp only [Bool.not_true, Bool.false_eq_true, if_false]
        exact wpAny_pure ⟨rfl, rfl, _, q2⟩
    · rintro ⟨r1, r2⟩ s' ⟨hr, rfl, _⟩
      simp only at hr
      subst hr
      exact wpAny_pure h
end
noncomputable def Y0 (prog : Program) (w : World) : HeapKind prog w Tr where
  is := fun h k a => IsT h 8 k (.ref a)
  hash := hN w 8
  draws := dN 8
  room := fun A => A.units + 8 < cLine
  inj := fun hx hy => XJ _ _ _ hx hy
  keeps := fun x ho hd hs => Xs ho hd hs _ _ x
  pyHash := fun hu hk h => WO 8 _ hu _ _ _ _ hk h
  eqBool := fun hu hx hy h => QbQ 8 _ hu _ _ _ _ hx hy _ _ _ _ h
  quiet := fun hk h => YC 8 8 _ _ _ hk (Nat.le_refl _) h

inductive HO where
  /-- a list -/
  | lst (xs : List V)
  /-- a tuple (never changes) -/
  | tup (xs : List V)
  /-- a dict whose keys are ints and texts; one whose keys are tuples of ints and texts (the empty one is both) -/
  | dK (kvs : List (Key × V)) | dT (kvs : List (Tr × Addr × V))
  /-- a set of ints: its members, its size -/
  | set (S : Int → Bool) (n : Nat)
  /-- an instance of the class at C, its dict at dx, its attributes -/
  | ins (C dx : Addr) (fs : List (Str × V))
  /-- the dict of the instance at x -/
  | own (x : Addr)
  /-- the dict of an exception -/
  | xd (fs : List (Str × V))
  /-- a bound method, f of x -/
  | met (f x : Addr)
  /-- a range object lo, lo + 1, .. below hi -/
  | rng (lo hi : Int)
  /-- a thing that is known to the object (the script; a dict while a loop walks it): read, never written while it is so -/
  | frz (o : Obj) (u : HO)
  /-- a code object's table -/
  | tbl (ps : Array Value)
  /-- any other thing, by what is true of its one object (a def of one's own: SetO a S n := HO.ext fun h => ..) -/
  | ext (φ : Heap → Prop)

noncomputable abbrev Hp := Addr → Option HO
noncomputable def upd (H : Hp) (a : Addr) (o : HO) : Hp := fun b => if b = a then some o else H b
theorem Zc {H : Hp} {a : Addr} {o : HO} : upd H a o a = some o := by unfold upd; rw [if_pos rfl]
theorem Qs {H : Hp} {a b : Addr} {o : HO} (h : b ≠ a) : upd H a o b = H b := by unfold upd; rw [if_neg h]
theorem Ze {H : Hp} {a b : Addr} {o : HO} (h : H a = some o) (h' : H b = none) : a ≠ b := by
  intro e; subst e; rw [h] at h'; cases h'

section
variable (P : Program) (w : World)
noncomputable def ObjOk (H : Hp) (h : Heap) (a : Addr) : HO → Prop
  | .lst xs => xs.length ≤ sizeLine ∧ ∃ (its : List Value) (n : Nat), Vals xs its ∧ h.get? a = some { cls := .type "list", data := .seq its.toArray n }
  | .tup xs => xs.length ≤ sizeLine ∧ ∃ its : List Value, Vals xs its ∧ IsTup h a its.toArray
  | .dK kvs => kvs.length ≤ sizeLine ∧ (a == sysModules) = false ∧ ∃ vs, KV kvs vs ∧ h.DictOf (WR P w) a vs
  | .dT kvs => kvs.length ≤ sizeLine ∧ (a == sysModules) = false ∧ ∃ xs : List (Tr × Addr × Value),
      Paired (fun (p : Tr × Addr × V) (q : Tr × Addr × Value) => p.1 = q.1 ∧ p.2.1 = q.2.1 ∧ RelV p.2.2 q.2.2) kvs xs ∧
      ∃ o es ep, h.get? a = some o ∧ o.ExactDict ∧ o.data = .dict es ep ∧ es.toList = xs.map (entryOfKey (Y0 P w)) ∧ (xs.map (·.1)).Nodup
  | .set S n => h.SetOf (intKind P w) a S n
  | .ins C dx fs => H dx = some (.own a) ∧ fs.length ≤ 1000 ∧ dx ≠ a ∧ h.get? a = some (PySem.W.instObj C dx) ∧
      ∃ mA, h.Ns1 dx mA ∧ (∀ f, QaY (fs.lookup f) (mA f)) ∧ PySem.Within mA (fs.map (·.1))
  | .own _ => ∃ o, h.get? a = some o
  | .xd fs => ∃ mA, h.Ns1 a mA ∧ ∀ f, QaY (fs.lookup f) (mA f)
  | .rng lo hi => ∃ t u v, h.get? a = some { cls := .type "range", data := .fields #[.int lo t, .int hi u, .int 1 v] }
  | .frz o u => h.get? a = some o ∧ ObjOk H h a u
  | .tbl ps => h.get? a = some { cls := .none, data := .fields ps }
  | .met f x => h.get? a = some (PySem.W.methodObj (.ref f) (.ref x))
  | .ext φ => φ h ∧ (∃ o, h.get? a = some o) ∧ ∀ h1 h2 : Heap, φ h1 → (∀ o, h1.get? a = some o → h2.get? a = some o) → φ h2
noncomputable def HOk (H : Hp) (h : Heap) : Prop := ∀ a o, H a = some o → ObjOk P w H h a o
end

section
variable {P : Program} {w : World} {H H' : Hp} {h h' : Heap} {a : Addr} {o : HO}
theorem ObjOk.lt (x : ObjOk P w H h a o) : a < h.objs.size := by
  cases o with
  | lst xs => obtain ⟨_, _, _, _, e⟩ := x; exact Heap.lt_size e
  | tup xs => obtain ⟨_, _, _, p⟩ := x; exact p.lt
  | dK kvs => obtain ⟨_, _, _, _, o, _, _, e, _⟩ := x; exact Heap.lt_size e
  | dT kvs => obtain ⟨_, _, _, _, o, _, _, e, _⟩ := x; exact Heap.lt_size e
  | set S n => obtain ⟨o, _, _, _, e, _⟩ := x; exact Heap.lt_size e
  | ins C dx fs => obtain ⟨_, _, _, e, _⟩ := x; exact Heap.lt_size e
  | own y => obtain ⟨_, e⟩ := x; exact Heap.lt_size e
  | xd fs => obtain ⟨_, ⟨_, _, _, e, _⟩, _⟩ := x; exact Heap.lt_size e
  | rng lo hi => obtain ⟨_, _, _, e⟩ := x; exact Heap.lt_size e
  | frz ob u => obtain ⟨e, _⟩ := x; exact Heap.lt_size e
  | tbl ps => exact Heap.lt_size (show h.get? a = some _ from x)
  | met f y => exact Heap.lt_size (show h.get? a = some _ from x)
  | ext φ => obtain ⟨_, ⟨_, e⟩, _⟩ := x; exact Heap.lt_size e
theorem Paired.mapP {α β : Type} {F G : α → β → Prop} : ∀ {l₁ : List α} {l₂ : List β}, Paired F l₁ l₂ → (∀ a b, F a b → G a b) → Paired G l₁ l₂
  | _, _, .nil, _ => .nil
  | _, _, .cons r t, f => .cons (f _ _ r) (Paired.mapP t f)
theorem ObjOk.stay (x : ObjOk P w H h a o) (k : ∀ b u, (b = a ∨ H b = some (.own a)) → h.get? b = some u → h'.get? b = some u)
    (ho : ∀ b, H b = some (.own a) → H' b = some (.own a)) (ht : ∀ b xs, H b = some (.tup xs) → H' b = some (.tup xs)) : ObjOk P w H' h' a o := by
  induction o with
  | lst xs => obtain ⟨z, its, n, r, e⟩ := x; exact ⟨z, its, n, r, k _ _ (.inl rfl) e⟩
  | tup xs => obtain ⟨z, its, r, ob, e, c⟩ := x; exact ⟨z, its, r, ob, k _ _ (.inl rfl) e, c⟩
  | dK kvs => obtain ⟨z, y, vs, r, ob, es, ep, e, c⟩ := x; exact ⟨z, y, vs, r, ob, es, ep, k _ _ (.inl rfl) e, c⟩
  | dT kvs =>
    obtain ⟨z, y, xs, r, ob, es, ep, e, c⟩ := x
    exact ⟨z, y, xs, r, ob, es, ep, k _ _ (.inl rfl) e, c⟩
  | set S n => obtain ⟨ob, es, ep, t, e, c⟩ := x; exact ⟨ob, es, ep, t, k _ _ (.inl rfl) e, c⟩
  | ins C dx fs =>
    obtain ⟨d, z, ne, e, mA, ⟨od, es, ep, e2, c⟩, r⟩ := x
    exact ⟨ho _ d, z, ne, k _ _ (.inl rfl) e, mA, ⟨od, es, ep, k _ _ (.inr d) e2, c⟩, r⟩
  | own y => obtain ⟨ob, e⟩ := x; exact ⟨ob, k _ _ (.inl rfl) e⟩
  | xd fs => obtain ⟨mA, ⟨od, es, ep, e, c⟩, r⟩ := x; exact ⟨mA, ⟨od, es, ep, k _ _ (.inl rfl) e, c⟩, r⟩
  | rng lo hi => obtain ⟨t, u, v, e⟩ := x; exact ⟨t, u, v, k _ _ (.inl rfl) e⟩
  | frz ob u ih => obtain ⟨e, q⟩ := x; exact ⟨k _ _ (.inl rfl) e, ih q⟩
  | tbl ps =>
    have e : h.get? a = some { cls := .none, data := .fields ps } := x
    show h'.get? a = some { cls := .none, data := .fields ps }
    exact k a _ (.inl rfl) e
  | met f y =>
    have e : h.get? a = some (PySem.W.methodObj (.ref f) (.ref y)) := x
    show h'.get? a = some (PySem.W.methodObj (.ref f) (.ref y))
    exact k a _ (.inl rfl) e
  | ext φ => obtain ⟨p, ⟨o, e⟩, st⟩ := x; exact ⟨st _ _ p fun o q => k _ _ (.inl rfl) q, ⟨o, k _ _ (.inl rfl) e⟩, st⟩
theorem HOk.lt (x : HOk P w H h) (e : H a = some o) : a < h.objs.size := (x a o e).lt
theorem HOk.fresh (x : HOk P w H h) (e : h.objs.size ≤ a) : H a = none := by
  cases q : H a with
  | none => rfl
  | some u => exact absurd (Nat.lt_of_lt_of_le (x.lt q) e) (Nat.lt_irrefl _)
theorem HOk.kept (x : HOk P w H h) (k : ∀ b u, h.get? b = some u → h'.get? b = some u) : HOk P w H h' := fun a o e =>
  (x a o e).stay (fun b u _ q => k b u q) (fun _ q => q) fun _ _ q => q
theorem HOk.laid (x : HOk P w H h) (k : ∀ b u, h.get? b = some u → h'.get? b = some u) (hp : h.objs.size ≤ a) (new : ObjOk P w (upd H a o) h' a o) : HOk P w (upd H a o) h' := fun b u e => by
  have hn := x.fresh hp
  by_cases hb : b = a
  · subst hb; rw [Zc] at e; cases e; exact new
  · rw [Qs hb] at e
    exact (x b u e).stay (fun c v _ q => k c v q) (fun c q => by rw [Qs (Ze q hn)]; exact q) fun c xs q => by rw [Qs (Ze q hn)]; exact q
end

noncomputable def Rd (H : Hp) (a : Addr) (u : HO) : Prop := H a = some u ∨ ∃ o, H a = some (.frz o u)
theorem Rd.ok {P : Program} {w : World} {H : Hp} {h : Heap} {a : Addr} {u : HO} (r : Rd H a u) (x : HOk P w H h) : ObjOk P w H h a u := by
  rcases r with r | ⟨o, r⟩
  · exact x a u r
  · obtain ⟨_, q⟩ := x a _ r
    exact q
noncomputable def Mut : Option HO → Prop
  | some (.lst _) => True
  | some (.dK _) => True
  | some (.dT _) => True
  | some (.set _ _) => True
  | some (.ins _ _ _) => True
  | some (.ext _) => True
  | _ => False
section
variable {P : Program} {w : World} {H : Hp} {h h' : Heap} {x e : Addr} {o' : HO}
theorem HOk.write (ok : HOk P w H h) (mu : Mut (H x)) (he : e = x ∨ H e = some (.own x)) (k : ∀ b u, b ≠ e → h.get? b = some u → h'.get? b = some u) (heo : ∃ u, h'.get? e = some u)
    (new : ObjOk P w (upd H x o') h' x o') : HOk P w (upd H x o') h' := fun b u q => by
  have nown : ∀ c y, H c = some (.own y) → c ≠ x := fun c y r z => by subst z; rw [r] at mu; exact mu
  have ntup : ∀ c xs, H c = some (.tup xs) → c ≠ x := fun c xs r z => by subst z; rw [r] at mu; exact mu
  by_cases hb : b = x
  · subst hb; rw [Zc] at q; cases q; exact new
  · rw [Qs hb] at q
    by_cases hbe : b = e
    · have q' : H b = some (.own x) := by
        rcases he with z | z
        · exact absurd (hbe.trans z) hb
        · rw [hbe]; exact z
      rw [q] at q'; cases q'
      obtain ⟨v, hv⟩ := heo
      exact ⟨v, by rw [hbe]; exact hv⟩
    · refine (ok b u q).stay (fun c v hc r => k c v ?_ r) (fun c r => by rw [Qs (nown c b r)]; exact r) fun c xs r => by rw [Qs (ntup c xs r)]; exact r
      rcases hc with rfl | hc
      · exact hbe
      · rintro rfl
        rcases he with z | z
        · exact nown c b hc z
        · rw [hc] at z; cases z; exact hb rfl
end

structure Un (fs ex : List Addr) (H H' : Hp) (h h' : Heap) : Prop where
  keep : ∀ b o, h.get? b = some o → H b = none → b ∉ fs → b ∉ ex → h'.get? b = some o
  slot : ∀ b o, h.get? b = some o → H b = none → b ∈ fs → b ∉ ex → ∃ sl, h'.get? b = some { o with slots := sl }
  free : ∀ b o, h.get? b = some o → H b = none → b ∉ ex → H' b = none
  there : ∀ b o, h.get? b = some o → b ∉ ex → ∃ o', h'.get? b = some o'
  tups : ∀ b xs, H b = some (.tup xs) → H' b = some (.tup xs)
  frzs : ∀ b o u, H b = some (.frz o u) → H' b = some (.frz o u)
  tbls : ∀ b ps, H b = some (.tbl ps) → ∃ more, H' b = some (.tbl (ps ++ more))
section
variable {fs fs' ex ex' : List Addr} {H H1 H2 : Hp} {h h1 h2 h' : Heap} {a x e : Addr} {o : HO}
theorem Un.any (u : Un fs ex H H1 h h1) {b : Addr} {ob : Obj} (q : h.get? b = some ob) (n : H b = none) (hx : b ∉ ex) : ∃ sl, h1.get? b = some { ob with slots := sl } := by
  by_cases hb : b ∈ fs
  · exact u.slot b ob q n hb hx
  · exact ⟨ob.slots, u.keep b ob q n hb hx⟩
theorem Un.kept (k : ∀ b u, h.get? b = some u → h'.get? b = some u) : Un fs ex H H h h' :=
  ⟨fun b ob q _ _ _ => k b ob q, fun b ob q _ _ _ => ⟨ob.slots, k b ob q⟩, fun _ _ _ n _ => n, fun b ob q _ => ⟨ob, k b ob q⟩, fun _ _ q => q, fun _ _ _ q => q, fun _ ps q => ⟨#[], by rw [q]; simp⟩⟩
theorem Un.refl : Un fs ex H H h h := Un.kept fun _ _ q => q
theorem Un.laid (k : ∀ b u, h.get? b = some u → h'.get? b = some u) (hp : h.objs.size ≤ a) (hn : H a = none) : Un fs ex H (upd H a o) h h' where
  keep := fun b u q _ _ _ => k b u q
  slot := fun b u q _ _ _ => ⟨u.slots, k b u q⟩
  free := fun b u q n _ => by rw [Qs (Nat.ne_of_lt (Nat.lt_of_lt_of_le (Heap.lt_size q) hp))]; exact n
  there := fun b u q _ => ⟨u, k b u q⟩
  tups := fun b xs q => by rw [Qs (Ze q hn)]; exact q
  frzs := fun b u xs q => by rw [Qs (Ze q hn)]; exact q
  tbls := fun b ps q => ⟨#[], by rw [Qs (Ze q hn), q]; simp⟩
theorem Un.write (mu : Mut (H x)) (he : e = x ∨ H e = some (.own x)) (k : ∀ b u, b ≠ e → h.get? b = some u → h'.get? b = some u) (heo : ∃ u, h'.get? e = some u) : Un fs ex H (upd H x o) h h' := by
  have hx : ∀ b, H b = none → b ≠ x := fun b n z => by subst z; rw [n] at mu; exact mu
  have hb : ∀ b, H b = none → b ≠ e := fun b n z => by
    subst z
    rcases he with r | r
    · exact hx b n r
    · rw [n] at r; cases r
  have hm : ∀ b u, H b = some u → ¬ Mut (some u) → b ≠ x := fun b u q nm z => by subst z; rw [q] at mu; exact nm mu
  refine ⟨fun b u q n _ _ => k b u (hb b n) q, fun b u q n _ _ => ⟨u.slots, k b u (hb b n) q⟩, fun b u q n _ => by rw [Qs (hx b n)]; exact n, fun b u q _ => ?_,
    fun b xs q => by rw [Qs (hm b _ q fun z => z)]; exact q, fun b u xs q => by rw [Qs (hm b _ q fun z => z)]; exact q, fun b ps q => ⟨#[], by rw [Qs (hm b _ q fun z => z), q]; simp⟩⟩
  by_cases hbe : b = e
  · subst hbe; exact heo
  · exact ⟨u, k b u hbe q⟩
end

noncomputable def trk (h : Heap) (H : Hp) : List Addr := (List.range h.objs.size).filter fun a => (H a).isSome
noncomputable def YO (h : Heap) (H : Hp) : Heap := PySem.W.hideAll h (trk h H)
theorem Yy (h : Heap) (H : Hp) : (YO h H).objs.size = h.objs.size := PySem.W.hideAll_size _ _
theorem YW {h : Heap} {H : Hp} {b : Addr} {o : Obj} (e : h.get? b = some o) (n : H b = none) : (YO h H).get? b = some o :=
  PySem.W.hideAll_get _ e fun hm => by
    have q : (H b).isSome = true := (List.mem_filter.mp hm).2
    rw [n] at q; simp at q
theorem UU {h : Heap} {H : Hp} {b : Addr} {o : Obj} (e : (YO h H).get? b = some o) : h.get? b = some o ∧ H b = none := by
  have e' : h.get? b = some o := PySem.W.of_hideAll (trk h H) e
  refine ⟨e', ?_⟩
  cases q : H b with
  | none => rfl
  | some x =>
    have hm : b ∈ trk h H := List.mem_filter.mpr ⟨List.mem_range.mpr (Heap.lt_size e'), by simp [q]⟩
    have z : (YO h H).get? b = none := PySem.W.hideAll_none (trk h H) hm
    rw [z] at e; cases e

end L2

namespace L2
open PySem PySem.Spec PyProof.Rows

structure Mod (K : PySem.W.Frag) (mg : Str → Option Value) (base : Heap) : Prop where
  kin : K.In base
  glob : base.Ns mainGlobals mg
  blt : ∃ mb, base.Ns builtinsNs mb ∧ ∀ x : Str, x ≠ "__name__" → mb x = bootBuiltins x
  nolimit : base.NoLimit

structure Cx where
  prog : Program
  w : World
  K : PySem.W.Frag
  mg : Str → Option Value
  base : Heap
  A : Around
  N : List Str
  s₀ : Shared
  H₀ : Hp
  env : Env
  outer : List Env
  stack : List Env
  ex : List Addr
  fn : Str → Bool
  calm : Bool
  pn : List (Addr × Obj)
  xe : Value → Shared → Prop
noncomputable def frs (l : List Env) : List Addr := l.filterMap (·.frame)
noncomputable abbrev Cx.fs (X : Cx) : List Addr := frs X.outer

noncomputable def Vis (sc : Scope) (x : Str) : Prop := sc.names.lookup x = some .local ∨ sc.names.lookup x = some .cell ∨ sc.names.lookup x = some .free
noncomputable def Loc (sc : Scope) (x : Str) : Prop := sc.names.lookup x = some .local ∨ sc.names.lookup x = some .cell
noncomputable def Qcs (env : Env) (h : Heap) (m : Str → Option Value) (x : Str) (u : Value) : Prop :=
  (env.kindOf x = some .local ∧ m x = some u) ∨ ((env.kindOf x = some .cell ∨ env.kindOf x = some .free) ∧ ∃ c, env.cells.lookup x = some c ∧ h.IsCell c (some u))

structure Cx.Ok (X : Cx) : Prop where
  mod : Mod X.K X.mg X.base
  kind : X.env.scope.kind = .function
  glob : X.env.globals = mainGlobals
  blt : X.env.builtins = builtinsNs
  above : X.s₀.heap.objs.size ≤ X.env.locals
  inj : ∀ x y c, X.env.cells.lookup x = some c → X.env.cells.lookup y = some c → x = y
  has : ∀ x, (X.env.kindOf x = some .cell ∨ X.env.kindOf x = some .free) → ∃ c, X.env.cells.lookup x = some c
  cab : ∀ x c, X.fn x = true → X.env.cells.lookup x = some c → X.s₀.heap.objs.size ≤ c
  hd : X.calm = true → X.A.handled = none
  frames : X.A.frames = some X.stack
  stk : X.stack = X.outer ∨ (X.stack = X.env :: X.outer ∧ X.env.frame = some X.env.locals)
  exf : ∀ b ∈ X.ex, b ≠ X.env.locals ∧ ∀ x c, X.env.cells.lookup x = some c → c ≠ b
  bs : ∀ b o, X.base.get? b = some o → X.s₀.heap.get? b = some o ∧ X.H₀ b = none
  bsz : X.base.objs.size ≤ X.s₀.heap.objs.size
  noex : ∀ b o, X.base.get? b = some o → b ∉ X.ex
  exfs : ∀ b ∈ X.ex, b ∉ X.fs
  funs : X.s₀.heap.FunFrames X.base X.outer
  frf : ∀ b ∈ X.fs, X.H₀ b = none

structure Inv (X : Cx) (pins : List (Addr × Obj)) (σ : List (Option V)) (H : Hp) (s : Shared) : Prop where
  ok : X.Ok
  os : s.os = X.s₀.os
  bare : AllBare s.gens
  base : Un X.fs X.ex X.H₀ H X.s₀.heap s.heap
  loc : ∃ m, s.heap.Ns X.env.locals m ∧ ∀ (i : Nat) (x : Str) (v : V), X.N[i]? = some x → σ[i]? = some (some v) → Vis X.env.scope x → ∃ u, RelV v u ∧ Qcs X.env s.heap m x u
  cell : ∀ x c, X.env.cells.lookup x = some c → ∃ v, s.heap.IsCell c v
  free : H X.env.locals = none
  freeC : ∀ x c, X.env.cells.lookup x = some c → H c = none
  pin : ∀ p ∈ X.pn ++ pins, s.heap.get? p.1 = some p.2 ∧ H p.1 = none ∧ p.1 ≠ X.env.locals ∧ p.1 ∉ X.fs ∧ ∀ v, p.2.data ≠ .cell v
  hok : HOk X.prog X.w H s.heap
  len : σ.length = X.N.length

section
variable {X : Cx} {pins : List (Addr × Obj)} {σ : List (Option V)} {H H' : Hp} {s : Shared} {h' : Heap}

theorem Cx.Ok.nofr (ok : X.Ok) {b : Addr} {o : Obj} (e : X.base.get? b = some o) : b ∉ X.fs := fun hb => by
  have := (ok.funs.mem hb).1
  rw [e] at this; cases this
theorem Inv.bs (I : Inv X pins σ H s) : ∀ b o, X.base.get? b = some o → s.heap.get? b = some o ∧ H b = none := fun b o e =>
  ⟨I.base.keep b o (I.ok.bs b o e).1 (I.ok.bs b o e).2 (I.ok.nofr e) (I.ok.noex b o e), I.base.free b o (I.ok.bs b o e).1 (I.ok.bs b o e).2 (I.ok.noex b o e)⟩
theorem Inv.bk (I : Inv X pins σ H s) : ∀ b o, X.base.get? b = some o → s.heap.get? b = some o := fun b o e => (I.bs b o e).1
theorem Inv.mod (I : Inv X pins σ H s) : Mod X.K X.mg X.base := I.ok.mod
theorem Inv.kIn (I : Inv X pins σ H s) : X.K.In s.heap := I.ok.mod.kin.keeps I.bk
theorem Inv.lt (I : Inv X pins σ H s) : X.env.locals < s.heap.objs.size := let ⟨_, hn, _⟩ := I.loc; hn.lt
theorem Inv.sz (I : Inv X pins σ H s) : X.s₀.heap.objs.size ≤ s.heap.objs.size := Nat.le_trans I.ok.above (Nat.le_of_lt I.lt)
theorem Inv.nofs (I : Inv X pins σ H s) {a : Addr} (h : s.heap.objs.size ≤ a) : a ∉ X.fs := fun hb => by
  obtain ⟨_, o, ho, _⟩ := I.ok.funs.mem hb
  exact absurd (Nat.lt_of_lt_of_le (Heap.lt_size ho) (Nat.le_trans I.sz h)) (Nat.lt_irrefl _)
theorem Inv.cne (I : Inv X pins σ H s) : ∀ x c, X.env.cells.lookup x = some c → c ≠ X.env.locals := fun x c e z => by
  obtain ⟨v, o, ho, hd⟩ := I.cell x c e
  obtain ⟨m, ⟨o', es, ep, ho', hd', _⟩, _⟩ := I.loc
  rw [z, ho'] at ho; cases ho; rw [hd'] at hd; cases hd
theorem Inv.funs (I : Inv X pins σ H s) : s.heap.FunFrames X.base X.outer := by
  have all : ∀ (l : List Env), (∀ b ∈ frs l, b ∈ X.fs) → X.s₀.heap.FunFrames X.base l → s.heap.FunFrames X.base l := by
    intro l
    induction l with
    | nil => intro _ _; trivial
    | cons env r ih =>
      intro hs hl
      obtain ⟨hk, ⟨L, o, hf, hn, ho, hd⟩, hr⟩ := hl
      have hL : L ∈ X.fs := hs L (by unfold frs; rw [List.filterMap_cons, hf]; exact List.mem_cons_self)
      obtain ⟨sl, e⟩ := I.base.slot L o ho (I.ok.frf L hL) hL fun z => I.ok.exfs L z hL
      exact ⟨hk, ⟨L, _, hf, hn, e, hd⟩, ih (fun b hb => hs b (by unfold frs; rw [List.filterMap_cons, hf]; exact List.mem_cons_of_mem _ hb)) hr⟩
  exact all X.outer (fun _ hb => hb) I.ok.funs

theorem Inv.stack (I : Inv X pins σ H s) : s.heap.FunFrames X.base X.stack := by
  rcases I.ok.stk with e | ⟨e, hf⟩
  · rw [e]; exact I.funs
  · rw [e]
    obtain ⟨m, hn, _⟩ := I.loc
    refine .cons (by rw [I.ok.kind]; decide) hf hn ?_ I.funs
    exact Heap.get?_none_of_le (Nat.le_trans I.ok.bsz I.ok.above)
theorem Inv.stkSub (I : Inv X pins σ H s) : ∀ b ∈ frs X.stack, b ∈ X.env.locals :: X.fs := fun b hb => by
  rcases I.ok.stk with e | ⟨e, hf⟩
  · rw [e] at hb; exact List.mem_cons_of_mem _ hb
  · rw [e] at hb
    unfold frs at hb
    rw [List.filterMap_cons, hf] at hb
    exact hb
theorem Inv.stkFree (I : Inv X pins σ H s) : ∀ b ∈ frs X.stack, H b = none := fun b hb => by
  rcases List.mem_cons.mp (I.stkSub b hb) with e | hb
  · rw [e]; exact I.free
  · obtain ⟨_, o, ho, _⟩ := I.ok.funs.mem hb
    exact I.base.free b o ho (I.ok.frf b hb) fun z => I.ok.exfs b z hb

theorem Inv.step {g' : Array GenState} {t' : Nat} {d' : Drawn} {ch : List Addr} (I : Inv X pins σ H s)
    (hch : ∀ b ∈ ch, (b ∈ X.ex ∨ X.s₀.heap.objs.size ≤ b) ∧ b ≠ X.env.locals ∧ (∀ x c, X.env.cells.lookup x = some c → c ≠ b) ∧ ∀ p ∈ X.pn ++ pins, p.1 ≠ b)
    (keep : ∀ b o, b ≠ X.env.locals → b ∉ X.fs → b ∉ ch → s.heap.get? b = some o → H b = none → h'.get? b = some o)
    (slot : ∀ b o, b ≠ X.env.locals → b ∈ X.fs → b ∉ ch → s.heap.get? b = some o → H b = none → ∃ sl, h'.get? b = some { o with slots := sl }) (free : ∀ b o, b ∉ ch → s.heap.get? b = some o → H b = none → H' b = none)
    (there : ∀ b o, b ∉ ch → s.heap.get? b = some o → ∃ o', h'.get? b = some o')
    (tups : ∀ b xs, H b = some (.tup xs) → H' b = some (.tup xs)) (frzs : ∀ b o u, H b = some (.frz o u) → H' b = some (.frz o u)) (tbls : ∀ b ps, H b = some (.tbl ps) → ∃ more, H' b = some (.tbl (ps ++ more)))
    (ns : ∀ m, s.heap.Ns X.env.locals m → h'.Ns X.env.locals m) (hok : HOk X.prog X.w H' h') (hg : AllBare g') :
    Inv X pins σ H' { s with heap := h', gens := g', drawn := d', toks := t' } := by
  have neL : ∀ b o, X.s₀.heap.get? b = some o → b ≠ X.env.locals := fun b o e => Nat.ne_of_lt (Nat.lt_of_lt_of_le (Heap.lt_size e) I.ok.above)
  have neC : ∀ b o, X.s₀.heap.get? b = some o → b ∉ X.ex → b ∉ ch := fun b o e hx hb => by
    rcases (hch b hb).1 with z | z
    · exact hx z
    · exact absurd (Nat.lt_of_lt_of_le (Heap.lt_size e) z) (Nat.lt_irrefl _)
  have cellK : ∀ x c, X.env.cells.lookup x = some c → ∀ v, s.heap.IsCell c v → h'.IsCell c v := fun x c e v ⟨o, ho, hd⟩ => by
    have nch : c ∉ ch := fun z => (hch c z).2.2.1 x c e rfl
    by_cases hc : c ∈ X.fs
    · obtain ⟨sl, q⟩ := slot c o (I.cne x c e) hc nch ho (I.freeC x c e)
      exact ⟨_, q, hd⟩
    · exact ⟨o, keep c o (I.cne x c e) hc nch ho (I.freeC x c e), hd⟩
  refine ⟨I.ok, I.os, hg, ⟨fun b o e n hb hx => ?_, fun b o e n hb hx => ?_, fun b o e n hx => ?_, fun b o e hx => ?_, fun b xs e => tups b xs (I.base.tups b xs e), fun b o xs e => frzs b o xs (I.base.frzs b o xs e), fun b ps e => ?_⟩, ?_, fun x c e => ?_, ?_, fun x c e => ?_, fun p hp => ?_, hok, I.len⟩
  · exact keep b o (neL b o e) hb (neC b o e hx) (I.base.keep b o e n hb hx) (I.base.free b o e n hx)
  · obtain ⟨sl, e1⟩ := I.base.slot b o e n hb hx
    obtain ⟨sl', e2⟩ := slot b _ (neL b o e) hb (neC b o e hx) e1 (I.base.free b o e n hx)
    exact ⟨sl', e2⟩
  · obtain ⟨o', e1⟩ := I.base.there b o e hx
    exact free b o' (neC b o e hx) e1 (I.base.free b o e n hx)
  · obtain ⟨o', e1⟩ := I.base.there b o e hx
    exact there b o' (neC b o e hx) e1
  · obtain ⟨m1, e1⟩ := I.base.tbls b ps e
    obtain ⟨m2, e2⟩ := tbls b _ e1
    exact ⟨m1 ++ m2, by rw [e2, Array.append_assoc]⟩
  · obtain ⟨m, hn, hl⟩ := I.loc
    refine ⟨m, ns m hn, fun i x v e1 e2 e3 => ?_⟩
    obtain ⟨u, r, l⟩ := hl i x v e1 e2 e3
    refine ⟨u, r, ?_⟩
    rcases l with l | ⟨k, c, e, z⟩
    · exact .inl l
    · exact .inr ⟨k, c, e, cellK x c e _ z⟩
  · obtain ⟨v, z⟩ := I.cell x c e
    exact ⟨v, cellK x c e v z⟩
  · obtain ⟨m, ⟨o, _, _, ho, _⟩, _⟩ := I.loc
    exact free _ o (fun z => (hch _ z).2.1 rfl) ho I.free
  · obtain ⟨v, o, ho, hd⟩ := I.cell x c e
    exact free c o (fun z => (hch c z).2.2.1 x c e rfl) ho (I.freeC x c e)
  · obtain ⟨e, n, ne, nf, d⟩ := I.pin p hp
    have nch : p.1 ∉ ch := fun z => (hch p.1 z).2.2.2 p hp rfl
    exact ⟨keep p.1 p.2 ne nf nch e n, free p.1 p.2 nch e n, ne, nf, d⟩
theorem Inv.un {t' : Nat} (I : Inv X pins σ H s) (u : Un X.fs [] H H' s.heap h') (hok : HOk X.prog X.w H' h') : Inv X pins σ H' { s with heap := h', toks := t' } := by
  obtain ⟨m, ⟨o, es, ep, ho, r⟩, _⟩ := id I.loc
  obtain ⟨sl, hL⟩ := u.any ho I.free (by simp)
  exact I.step (g' := s.gens) (d' := s.drawn) (ch := []) (fun _ z => nomatch z) (fun b o _ hb _ e n => u.keep b o e n hb (by simp)) (fun b o _ hb _ e n => u.slot b o e n hb (by simp)) (fun b o _ e n => u.free b o e n (by simp)) (fun b o _ e => u.there b o e (by simp)) u.tups u.frzs u.tbls (fun m' hm => by
    obtain ⟨o', es', ep', ho', r'⟩ := hm
    rw [ho] at ho'; cases ho'
    exact ⟨_, es', ep', hL, r'⟩) hok I.bare
theorem Inv.call {g' : Array GenState} {t' : Nat} {d' : Drawn} {ch : List Addr} (I : Inv X pins σ H s) (u : Un (frs X.stack) ch H H' s.heap h') (hok : HOk X.prog X.w H' h') (hg : AllBare g')
    (hch : ∀ b ∈ ch, (b ∈ X.ex ∨ X.s₀.heap.objs.size ≤ b) ∧ b ≠ X.env.locals ∧ (∀ x c, X.env.cells.lookup x = some c → c ≠ b) ∧ ∀ p ∈ X.pn ++ pins, p.1 ≠ b) :
    Inv X pins σ H' { s with heap := h', gens := g', drawn := d', toks := t' } := by
  obtain ⟨m, ⟨o, es, ep, ho, r⟩, _⟩ := id I.loc
  obtain ⟨sl, hL⟩ := u.any ho I.free fun z => (hch _ z).2.1 rfl
  exact I.step (ch := ch) hch (fun b o hL hb hc e n => u.keep b o e n (fun z => (List.mem_cons.mp (I.stkSub b z)).elim hL hb) hc) (fun b o _ _ hc e n => u.any e n hc) (fun b o hc e n => u.free b o e n hc) (fun b o hc e => u.there b o e hc) u.tups u.frzs u.tbls (fun m' hm => by
    obtain ⟨o', es', ep', ho', r'⟩ := hm
    rw [ho] at ho'; cases ho'
    exact ⟨_, es', ep', hL, r'⟩) hok hg
theorem Inv.turned {t' : Nat} {it : Addr} (I : Inv X pins σ H s) (k : ∀ b o, b ≠ it → s.heap.get? b = some o → h'.get? b = some o) (hn : H it = none) (hL : it ≠ X.env.locals)
    (h1 : it ∈ X.ex ∨ X.s₀.heap.objs.size ≤ it) (h2 : ∀ x c, X.env.cells.lookup x = some c → c ≠ it) (h3 : ∀ p ∈ X.pn ++ pins, p.1 ≠ it) : Inv X pins σ H { s with heap := h', toks := t' } := by
  have nit : ∀ b u, H b = some u → b ≠ it := fun b u e z => by rw [z, hn] at e; cases e
  refine I.step (g' := s.gens) (d' := s.drawn) (ch := [it]) (fun b hb => ?_) (fun b o _ _ hc e _ => k b o (fun z => hc (by simp [z])) e) (fun b o _ _ hc e _ => ⟨o.slots, k b o (fun z => hc (by simp [z])) e⟩) (fun _ _ _ _ n => n)
    (fun b o hc e => ⟨o, k b o (fun z => hc (by simp [z])) e⟩) (fun _ _ e => e) (fun _ _ _ e => e) (fun b ps e => ⟨#[], by rw [e]; simp⟩) (fun m hm => ?_) (fun b u e => ?_) I.bare
  · have e : b = it := by simpa using hb
    subst e
    exact ⟨h1, hL, h2, h3⟩
  · obtain ⟨o, es, ep, ho, r⟩ := hm
    exact ⟨o, es, ep, k _ o (Ne.symm hL) ho, r⟩
  · refine (I.hok b u e).stay (fun c v hc q => k c v ?_ q) (fun _ q => q) fun _ _ q => q
    rcases hc with z | z
    · rw [z]; exact nit b u e
    · exact nit c _ z
theorem Inv.tok (I : Inv X pins σ H s) (t : Nat) : Inv X pins σ H { s with toks := t } := I.un (h' := s.heap) (t' := t) Un.refl I.hok
theorem Inv.kept {t' : Nat} (I : Inv X pins σ H s) (k : ∀ b u, s.heap.get? b = some u → h'.get? b = some u) : Inv X pins σ H { s with heap := h', toks := t' } := I.un (Un.kept k) (I.hok.kept k)
theorem Inv.laid {a : Addr} {o : HO} {t' : Nat} (I : Inv X pins σ H s) (k : ∀ b u, s.heap.get? b = some u → h'.get? b = some u) (hp : s.heap.objs.size ≤ a) (new : ObjOk X.prog X.w (upd H a o) h' a o) :
    Inv X pins σ (upd H a o) { s with heap := h', toks := t' } := I.un (Un.laid k hp (I.hok.fresh hp)) (I.hok.laid k hp new)
theorem Inv.write {x e : Addr} {o : HO} {t' : Nat} (I : Inv X pins σ H s) (mu : Mut (H x)) (he : e = x ∨ H e = some (.own x)) (k : ∀ b u, b ≠ e → s.heap.get? b = some u → h'.get? b = some u) (heo : ∃ u, h'.get? e = some u)
    (new : ObjOk X.prog X.w (upd H x o) h' x o) : Inv X pins σ (upd H x o) { s with heap := h', toks := t' } := I.un (Un.write mu he k heo) (I.hok.write mu he k heo new)
theorem Inv.pins_of {pins' : List (Addr × Obj)} (I : Inv X pins σ H s) (h : ∀ p ∈ pins', s.heap.get? p.1 = some p.2 ∧ H p.1 = none ∧ p.1 ≠ X.env.locals ∧ p.1 ∉ X.fs ∧ ∀ v, p.2.data ≠ .cell v) : Inv X pins' σ H s :=
  ⟨I.ok, I.os, I.bare, I.base, I.loc, I.cell, I.free, I.freeC, fun p hp => (List.mem_append.mp hp).elim (fun z => I.pin p (List.mem_append_left _ z)) (h p), I.hok, I.len⟩

theorem X2 {N : List Str} (hN : N.Nodup) {i j : Nat} {x : Str} (a : N[i]? = some x) (b : N[j]? = some x) : i = j := by
  obtain ⟨h1, e1⟩ := List.getElem?_eq_some_iff.mp a
  obtain ⟨h2, e2⟩ := List.getElem?_eq_some_iff.mp b
  exact (List.getElem_inj hN).mp (e1.trans e2.symm)

theorem Ys {M : Model} {A : Around} {E : Value → Shared → Prop} {i : Nat} {x : Str} {v : V} {u : Value} {Q : Unit → Shared → Prop} (I : Inv X pins σ H s) (hN : X.N.Nodup) (hi : X.N[i]? = some x) (hx : Loc X.env.scope x) (r : RelV v u)
    (h : ∀ s', Inv X pins (σ.set i (some v)) H s' → (∃ a, Heap.SameBut a s.heap s'.heap ∧ (a = X.env.locals ∨ X.env.cells.lookup x = some a)) → Q () s') (hf : X.fn x = true ∨ X.env.scope.names.lookup x = some .local := by first | exact .inl rfl | exact .inr rfl | assumption) : wpAny M A (storeName X.env x u) Q E s := by
  obtain ⟨m, hn, hl⟩ := id I.loc
  have hcls : (X.env.scope.kind == .class || (X.env.scope.kind == .module && X.env.locals != X.env.globals)) = false := by rw [I.ok.kind]; rfl
  have hiσ : i < σ.length := by rw [I.len]; exact (List.getElem?_eq_some_iff.mp hi).1
  have cne := I.cne
  have tracked : ∀ {a : Addr} {h' : Heap}, (∃ o, s.heap.get? a = some o ∧ H a = none) → Heap.SameBut a s.heap h' → HOk X.prog X.w H h' := fun {a h'} ha hs b ob e => by
    obtain ⟨_, _, hfree⟩ := ha
    refine (I.hok b ob e).stay (fun c w' hc q => (hs.2 c ?_).trans q) (fun _ q => q) fun _ _ q => q
    rintro rfl
    rcases hc with rfl | hc
    · rw [hfree] at e; cases e
    · rw [hfree] at hc; cases hc
  rcases hx with hk | hk
  · refine wpAny_storeName_local hk hn (fun h' hn' hs => ?_) hcls
    obtain ⟨oL, _, _, hoL, _⟩ := id hn
    refine h _ ⟨I.ok, I.os, I.bare, ⟨fun b o e n hb hx => ?_, fun b o e n hb hx => ?_, I.base.free, fun b o e hx => ?_, I.base.tups, I.base.frzs, I.base.tbls⟩, ⟨_, hn', fun j y v' e1 e2 e3 => ?_⟩, fun y c e => ?_, I.free, I.freeC, fun p hp => ?_, tracked ⟨oL, hoL, I.free⟩ hs, by simpa using I.len⟩ ⟨_, hs, .inl rfl⟩
    · exact (hs.2 b (Nat.ne_of_lt (Nat.lt_of_lt_of_le (Heap.lt_size e) I.ok.above))).trans (I.base.keep b o e n hb hx)
    · obtain ⟨sl, e1⟩ := I.base.slot b o e n hb hx
      exact ⟨sl, (hs.2 b (Nat.ne_of_lt (Nat.lt_of_lt_of_le (Heap.lt_size e) I.ok.above))).trans e1⟩
    · obtain ⟨o', e1⟩ := I.base.there b o e hx
      exact ⟨o', (hs.2 b (Nat.ne_of_lt (Nat.lt_of_lt_of_le (Heap.lt_size e) I.ok.above))).trans e1⟩
    · by_cases hj : j = i
      · subst hj
        rw [hi] at e1; cases e1
        rw [List.getElem?_set_self hiσ] at e2
        cases e2
        exact ⟨u, r, .inl ⟨hk, by simp⟩⟩
      · rw [List.getElem?_set_ne (Ne.symm hj)] at e2
        obtain ⟨u', r', q⟩ := hl j y v' e1 e2 e3
        refine ⟨u', r', ?_⟩
        rcases q with ⟨k, e⟩ | ⟨k, c, e, z⟩
        · refine .inl ⟨k, ?_⟩
          have : y ≠ x := fun e => hj (X2 hN e1 (e ▸ hi))
          simp [this, e]
        · exact .inr ⟨k, c, e, z.sameBut hs (cne y c e)⟩
    · obtain ⟨w', z⟩ := I.cell y c e
      exact ⟨w', z.sameBut hs (cne y c e)⟩
    · obtain ⟨e, n, ne, nf, d⟩ := I.pin p hp
      exact ⟨(hs.2 p.1 ne).trans e, n, ne, nf, d⟩
  · have hfn : X.fn x = true := by
      rcases hf with z | z
      · exact z
      · rw [z] at hk; cases hk
    obtain ⟨c, hc⟩ := I.ok.has x (.inl hk)
    obtain ⟨w', z⟩ := I.cell x c hc
    refine wpAny_storeName_cell I.ok.kind hk hc z (fun h' hc' hs => ?_)
    obtain ⟨oc, hoc, hocd⟩ := id z
    refine h { s with heap := h' } ⟨I.ok, I.os, I.bare, ⟨fun b o e n hb hx => ?_, fun b o e n hb hx => ?_, I.base.free, fun b o e hx => ?_, I.base.tups, I.base.frzs, I.base.tbls⟩, ⟨m, hn.sameBut hs (Ne.symm (cne x c hc)), fun j y v' e1 e2 e3 => ?_⟩, fun y c' e => ?_, I.free, I.freeC, fun p hp => ?_, tracked ⟨oc, hoc, I.freeC x c hc⟩ hs, by simpa using I.len⟩ ⟨c, hs, .inr hc⟩
    · exact (hs.2 b (Nat.ne_of_lt (Nat.lt_of_lt_of_le (Heap.lt_size e) (I.ok.cab x c hfn hc)))).trans (I.base.keep b o e n hb hx)
    · obtain ⟨sl, e1⟩ := I.base.slot b o e n hb hx
      exact ⟨sl, (hs.2 b (Nat.ne_of_lt (Nat.lt_of_lt_of_le (Heap.lt_size e) (I.ok.cab x c hfn hc)))).trans e1⟩
    · obtain ⟨o', e1⟩ := I.base.there b o e hx
      exact ⟨o', (hs.2 b (Nat.ne_of_lt (Nat.lt_of_lt_of_le (Heap.lt_size e) (I.ok.cab x c hfn hc)))).trans e1⟩
    · by_cases hj : j = i
      · subst hj
        rw [hi] at e1; cases e1
        rw [List.getElem?_set_self hiσ] at e2
        cases e2
        exact ⟨u, r, .inr ⟨.inl hk, c, hc, hc'⟩⟩
      · rw [List.getElem?_set_ne (Ne.symm hj)] at e2
        obtain ⟨u', r', q⟩ := hl j y v' e1 e2 e3
        refine ⟨u', r', ?_⟩
        rcases q with q | ⟨k, c', e, z'⟩
        · exact .inl q
        · refine .inr ⟨k, c', e, z'.sameBut hs ?_⟩
          rintro rfl
          exact hj (X2 hN e1 (I.ok.inj _ _ _ e hc ▸ hi))
    · by_cases hcc : c' = c
      · subst hcc; exact ⟨_, hc'⟩
      · obtain ⟨w2, z2⟩ := I.cell y c' e
        exact ⟨w2, z2.sameBut hs hcc⟩
    · obtain ⟨e, n, ne, nf, d⟩ := I.pin p hp
      refine ⟨(hs.2 p.1 ?_).trans e, n, ne, nf, d⟩
      intro q
      rw [q, hoc] at e
      have q' : oc = p.2 := Option.some.inj e
      exact d w' (by rw [← q']; exact hocd)
theorem XX {M : Model} {A : Around} {E : Value → Shared → Prop} {i : Nat} {x : Str} {v : V} {u : Value} {Q : Unit → Shared → Prop} (I : Inv X pins σ H s) (hN : X.N.Nodup) (hi : X.N[i]? = some x) (hx : Loc X.env.scope x) (r : RelV v u)
    (h : ∀ s', Inv X pins (σ.set i (some v)) H s' → Q () s') (hf : X.fn x = true ∨ X.env.scope.names.lookup x = some .local := by first | exact .inl rfl | exact .inr rfl | assumption) : wpAny M A (storeName X.env x u) Q E s :=
  Ys I hN hi hx r (fun s' I' _ => h s' I') hf
theorem Inv.call' {s' : Shared} {ch : List Addr} (I : Inv X pins σ H s) (ho : s'.os = s.os) (u : Un (frs X.stack) ch H H' s.heap s'.heap) (hok : HOk X.prog X.w H' s'.heap) (hg : AllBare s'.gens)
    (hch : ∀ b ∈ ch, (b ∈ X.ex ∨ X.s₀.heap.objs.size ≤ b) ∧ b ≠ X.env.locals ∧ (∀ x c, X.env.cells.lookup x = some c → c ≠ b) ∧ ∀ p ∈ X.pn ++ pins, p.1 ≠ b) : Inv X pins σ H' s' := by
  obtain ⟨h', g', d', t', o'⟩ := s'
  have e : o' = s.os := ho
  subst e
  exact I.call (g' := g') (t' := t') (d' := d') u hok hg hch
end

noncomputable abbrev XK := Value → Option Addr → Hp → Prop
noncomputable abbrev St := List (Option V)
noncomputable abbrev VK := V → Hp → Prop
noncomputable abbrev TE := St → Hp → VK → Prop
noncomputable abbrev TT := St → Hp → (Bool → Hp → Prop) → Prop
noncomputable abbrev TA := St → Hp → (List V → Hp → Prop) → Prop
structure Ends where
  nx : St → Hp → Prop
  rt : VK
  bk : St → Hp → Prop := fun _ _ => False
  ct : St → Hp → Prop := fun _ _ => False
noncomputable abbrev TS := Ends → St → Hp → Prop

noncomputable def EP (X : Cx) (pins : List (Addr × Obj)) (σ : St) (Q : VK) (u : Value) (s' : Shared) : Prop := ∃ v H', Inv X pins σ H' s' ∧ RelV v u ∧ Q v H'
noncomputable def TP (X : Cx) (pins : List (Addr × Obj)) (σ : St) (Q : Bool → Hp → Prop) (b : Bool) (s' : Shared) : Prop := ∃ H', Inv X pins σ H' s' ∧ Q b H'
noncomputable def AP (X : Cx) (pins : List (Addr × Obj)) (σ : St) (Q : List V → Hp → Prop) (us : List Value) (s' : Shared) : Prop := ∃ vs H', Inv X pins σ H' s' ∧ Vals vs us ∧ Q vs H'
noncomputable def SP (X : Cx) (pins : List (Addr × Obj)) (D : Ends) (f : Flow) (s' : Shared) : Prop :=
  match f with
  | .next => ∃ σ' H', Inv X pins σ' H' s' ∧ D.nx σ' H'
  | .brk => ∃ σ' H', Inv X pins σ' H' s' ∧ D.bk σ' H'
  | .cont => ∃ σ' H', Inv X pins σ' H' s' ∧ D.ct σ' H'
  | .ret u => ∃ v σ' H', Inv X pins σ' H' s' ∧ RelV v u ∧ D.rt v H'

noncomputable def PE (X : Cx) (e : Expr) (t : TE) : Prop :=
  ∀ (pins : List (Addr × Obj)) (s : Shared) (σ : St) (H : Hp) (Q : VK), Inv X pins σ H s → t σ H Q → wpAny (model X.prog X.w) X.A (eval e X.env) (EP X pins σ Q) X.xe s
noncomputable def PT (X : Cx) (e : Expr) (t : TT) : Prop :=
  ∀ (pins : List (Addr × Obj)) (s : Shared) (σ : St) (H : Hp) (Q : Bool → Hp → Prop), Inv X pins σ H s → t σ H Q → wpAny (model X.prog X.w) X.A (isTrue e X.env (eval e X.env)) (TP X pins σ Q) X.xe s
noncomputable def PW (X : Cx) (e : Expr) (t : TT) : Prop :=
  ∀ (whole : Sem Value) (pins : List (Addr × Obj)) (s : Shared) (σ : St) (H : Hp) (Q : Bool → Hp → Prop), Inv X pins σ H s → t σ H Q → wpAny (model X.prog X.w) X.A (isTrue e X.env whole) (TP X pins σ Q) X.xe s
theorem PW.pt {X : Cx} {e : Expr} {t : TT} (h : PW X e t) : PT X e t := h _
noncomputable def PA (X : Cx) (es : List Expr) (t : TA) : Prop :=
  ∀ (pos : Pos) (pins : List (Addr × Obj)) (s : Shared) (σ : St) (H : Hp) (Q : List V → Hp → Prop), Inv X pins σ H s → t σ H Q → wpAny (model X.prog X.w) X.A (spliced (backTo pos (starEach es X.env))) (AP X pins σ Q) X.xe s
noncomputable def PS (X : Cx) (st : Stmt) (t : TS) : Prop :=
  ∀ (pins : List (Addr × Obj)) (s : Shared) (σ : St) (H : Hp) (D : Ends), Inv X pins σ H s → t D σ H → wpAny (model X.prog X.w) X.A (exec st X.env) (SP X pins D) X.xe s
noncomputable def PSs (X : Cx) (st : List Stmt) (t : TS) : Prop :=
  ∀ (pins : List (Addr × Obj)) (s : Shared) (σ : St) (H : Hp) (D : Ends), Inv X pins σ H s → t D σ H → wpAny (model X.prog X.w) X.A (execs st X.env) (SP X pins D) X.xe s
theorem thn {α : Type} {t : Sem α} {Q Q' : α → Shared → Prop} {M : Model} {A : Around} {E : Value → Shared → Prop} {s : Shared} (h : wpAny M A t Q E s) (hQ : ∀ a s, Q a s → Q' a s) : wpAny M A t Q' E s := wpAny_mono h hQ fun _ _ x => x
end L2

namespace L2
open PySem PySem.Spec PyProof.Rows
section
variable {X : Cx}

theorem bin {a b : Expr} {ta tb : TE} (ha : PE X a ta) (hb : PE X b tb) {pins : List (Addr × Obj)} {s : Shared} {σ : St} {H : Hp} {R : V → V → Hp → Prop} (I : Inv X pins σ H s) (h : ta σ H fun x H1 => tb σ H1 fun y H2 => R x y H2)
    {α : Type} {Q : α → Shared → Prop} {f : Value → Value → Sem α}
    (hf : ∀ v u s2 x y H2, Inv X pins σ H2 s2 → RelV x v → RelV y u → R x y H2 → wpAny (model X.prog X.w) X.A (f v u) Q X.xe s2) :
    wpAny (model X.prog X.w) X.A (eval a X.env) (fun v s₁ => wpAny (model X.prog X.w) X.A (eval b X.env) (fun u s₂ => wpAny (model X.prog X.w) X.A (f v u) Q X.xe s₂) X.xe s₁) X.xe s := by
  refine thn (ha pins s σ H _ I h) fun v s1 ⟨x, H1, I1, r1, q1⟩ => ?_
  refine thn (hb pins s1 σ H1 _ I1 q1) fun u s2 ⟨y, H2, I2, r2, q2⟩ => ?_
  exact hf v u s2 x y H2 I2 r1 r2 q2

noncomputable def QcV (i : Nat) : TE := fun σ H Q => ∃ v, σ[i]? = some (some v) ∧ Q v H
noncomputable def tC (v : V) : TE := fun _ H Q => Q v H
theorem Gn {i : Nat} {x : Str} {pos : Pos} (hN : X.N[i]? = some x) (hv : Vis X.env.scope x) (hd : (x == ("__debug__" : Str)) = false := by decide) (hcd : (x == ("__classdict__" : Str)) = false := by decide) : PE X (.Name x pos) (QcV i) := by
  intro pins s σ H Q I h
  obtain ⟨v, e, h⟩ := h
  obtain ⟨m, hn, hl⟩ := I.loc
  obtain ⟨u, r, l⟩ := hl i x v hN e hv
  have fin : EP X pins σ Q u s := ⟨v, H, I, r, h⟩
  rcases l with ⟨hk, hm⟩ | ⟨hk, c, hc, hcell⟩
  · exact wpAny_Name (wpAny_loadName_local I.ok.kind hk hn hm fin) hd
  · rcases hk with hk | hk
    · exact wpAny_Name (wpAny_loadName_cell I.ok.kind hk hc hcell fin) hd
    · exact wpAny_Name (wpAny_loadName_free I.ok.kind hk hc hcell fin hcd) hd
theorem GM {i j pos} : PE X (.Constant (.int i) j pos) (tC (.int i)) := fun _ _ _ H _ I h => wpAny_Constant_int ⟨.int i, H, I.tok _, ⟨_, rfl⟩, h⟩
theorem Qa7 {b j pos} : PE X (.Constant (.bool b) j pos) (tC (.bl b)) := fun _ _ _ H _ I h => Constant_bool ⟨.bl b, H, I, rfl, h⟩
theorem Gz {x j pos} : PE X (.Constant (.str x) j pos) (tC (.str x)) := fun _ _ _ H _ I h => Calls.Constant_str ⟨.str x, H, I.tok _, ⟨_, rfl⟩, h⟩

noncomputable def Gl (X : Cx) (x : Str) : Prop := X.env.kindOf x = some .globalImplicit
theorem UP {E : Value → Shared → Prop} {pins : List (Addr × Obj)} {s : Shared} {σ : St} {H : Hp} {x : Str} {u : Value} {pos : Pos} {Q : Value → Shared → Prop} (I : Inv X pins σ H s) (hg : Gl X x) (hm : X.mg x = some u) (h : Q u s)
    (hd : (x == ("__debug__" : Str)) = false := by decide) : wpAny (model X.prog X.w) X.A (eval (.Name x pos) X.env) Q E s :=
  Calls.Name_function_global I.ok.kind hg (Calls.loadGlobal_global (by rw [I.ok.glob]; exact I.mod.glob.keeps I.bk) hm h) hd
theorem JU {E : Value → Shared → Prop} {pins : List (Addr × Obj)} {s : Shared} {σ : St} {H : Hp} {x : Str} {u : Value} {pos : Pos} {Q : Value → Shared → Prop} (I : Inv X pins σ H s) (hg : Gl X x) (hm : X.mg x = none) (hv : bootBuiltins x = some u) (h : Q u s)
    (hn : x ≠ "__name__" := by decide) (hd : (x == ("__debug__" : Str)) = false := by decide) : wpAny (model X.prog X.w) X.A (eval (.Name x pos) X.env) Q E s := by
  obtain ⟨mb, h1, h2⟩ := I.mod.blt
  exact Calls.Name_function_global I.ok.kind hg (Calls.loadGlobal_builtin (by rw [I.ok.glob]; exact I.mod.glob.keeps I.bk) hm (by rw [I.ok.blt]; exact h1.keeps I.bk) ((h2 x hn).trans hv) h) hd
theorem Up {x : Str} {v : V} {u : Value} {pos : Pos} (hg : Gl X x) (hm : X.mg x = none) (hv : bootBuiltins x = some u) (r : RelV v u) (hn : x ≠ "__name__" := by decide) (hd : (x == ("__debug__" : Str)) = false := by decide) : PE X (.Name x pos) (tC v) :=
  fun _ _ _ H _ I h => JU I hg hm hv ⟨v, H, I, r, h⟩ hn hd

variable {a b : Expr} {ta tb : TE} {pos : Pos}
variable {tA tB' : TT} {rest : List Expr}
noncomputable def QbJ (t u : TT) : TT := fun σ H Q => t σ H fun c H1 => if c = true then u σ H1 Q else Q false H1
noncomputable def tOr (t u : TT) : TT := fun σ H Q => t σ H fun c H1 => if c = true then Q true H1 else u σ H1 Q
theorem WX (ha : PT X a tA) : PW X (.BoolOp .And [a] pos) tA := by
  intro wh pins s σ H Q I h
  refine isTrue_and (thn (ha pins s σ H Q I h) fun c s1 e => ?_)
  cases c with
  | true => exact isTrue_and_nil e
  | false => exact e
theorem GI (ha : PT X a tA) : PW X (.BoolOp .Or [a] pos) tA := by
  intro wh pins s σ H Q I h
  refine isTrue_or (thn (ha pins s σ H Q I h) fun c s1 e => ?_)
  cases c with
  | false => exact isTrue_or_nil e
  | true => exact e
theorem G6 (ha : PT X a tA) (hb : PW X (.BoolOp .And (b :: rest) pos) tB') : PW X (.BoolOp .And (a :: b :: rest) pos) (QbJ tA tB') := by
  intro wh pins s σ H Q I h
  refine isTrue_and (thn (ha pins s σ H _ I h) fun c s1 ⟨H1, I1, q1⟩ => ?_)
  cases c with
  | true => exact hb wh pins s1 σ H1 Q I1 q1
  | false => exact ⟨H1, I1, q1⟩
theorem QaF (ha : PT X a tA) (hb : PW X (.BoolOp .Or (b :: rest) pos) tB') : PW X (.BoolOp .Or (a :: b :: rest) pos) (tOr tA tB') := by
  intro wh pins s σ H Q I h
  refine isTrue_or (thn (ha pins s σ H _ I h) fun c s1 ⟨H1, I1, q1⟩ => ?_)
  cases c with
  | true => exact ⟨H1, I1, q1⟩
  | false => exact hb wh pins s1 σ H1 Q I1 q1
end
end L2

namespace L2
open PySem PySem.Spec PyProof.Rows

noncomputable def SqL (K : PySem.W.Frag) (H : Hp) (a : Addr) (xs : List V) : Prop :=
  Rd H a (.lst xs) ∨
    ∃ (o : Obj) (its : Array Value) (n : Nat), K.lookup a = some o ∧ o.cls = .type "list" ∧ o.dict = none ∧ o.data = .seq its n ∧ its.size ≤ sizeLine ∧ Vals xs its.toList
noncomputable def SqT (K : PySem.W.Frag) (H : Hp) (a : Addr) (xs : List V) : Prop :=
  Rd H a (.tup xs) ∨
    ∃ (o : Obj) (its : Array Value) (n : Nat), K.lookup a = some o ∧ o.cls = .type "tuple" ∧ o.data = .seq its n ∧ its.size ≤ sizeLine ∧ Vals xs its.toList
noncomputable def QcL : Value → Option V
  | .none => some .non
  | .bool b => some (.bl b)
  | .int i _ => some (.int i)
  | .str x _ => some (.str x)
  | .bytes b _ => some (.byt b)
  | .float b _ => some (.flt b)
  | .ref a => some (.ref a)
  | .type n => some (.ty n)
  | _ => none
theorem RelV.abs {x : V} {u : Value} (r : RelV x u) : QcL u = some x := by
  cases x with
  | non => cases r; rfl
  | bl _ => cases r; rfl
  | int _ => obtain ⟨t, rfl⟩ := r; rfl
  | str _ => obtain ⟨t, rfl⟩ := r; rfl
  | byt _ => obtain ⟨t, rfl⟩ := r; rfl
  | flt _ => obtain ⟨t, rfl⟩ := r; rfl
  | ref _ => cases r; rfl
  | ty _ => cases r; rfl
theorem RelV.inj {x y : V} {u : Value} (r : RelV x u) (q : RelV y u) : x = y := Option.some.inj (r.abs.symm.trans q.abs)
theorem Vals.inj : ∀ {xs ys : List V} {us : List Value}, Vals xs us → Vals ys us → xs = ys
  | _, _, _, .nil, .nil => rfl
  | _, _, _, .cons r t, .cons r' t' => by rw [r.inj r', Vals.inj t t']
section
variable {X : Cx} {pins : List (Addr × Obj)} {σ : St} {H : Hp} {s : Shared} {a : Addr} {xs ys : List V}
theorem SqL.of {K : PySem.W.Frag} (h : H a = some (.lst xs)) : SqL K H a xs := .inl (.inl h)
theorem SqT.of {K : PySem.W.Frag} (h : H a = some (.tup xs)) : SqT K H a xs := .inl (.inl h)
theorem Inv.list (I : Inv X pins σ H s) (h : SqL X.K H a xs) : ∃ its : List Value, Vals xs its ∧ PlainL s.heap a its.toArray ∧ xs.length ≤ sizeLine := by
  rcases h with h | ⟨o, its, n, hk, hc, hd, hs, hz, r⟩
  · obtain ⟨z, its, n, r, e⟩ := h.ok I.hok
    exact ⟨its, r, ⟨_, n, e, rfl, rfl, rfl⟩, z⟩
  · refine ⟨its.toList, r, ⟨o, n, I.kIn a o hk, hc, hd, by simpa using hs⟩, ?_⟩
    have e := r.length
    simp only [Array.length_toList] at e
    omega
theorem Inv.tuple (I : Inv X pins σ H s) (h : SqT X.K H a xs) : ∃ its : List Value, Vals xs its ∧ IsTup s.heap a its.toArray ∧ xs.length ≤ sizeLine := by
  rcases h with h | ⟨o, its, n, hk, hc, hs, hz, r⟩
  · obtain ⟨z, its, r, p⟩ := h.ok I.hok
    exact ⟨its, r, p, z⟩
  · refine ⟨its.toList, r, ⟨o, I.kIn a o hk, hc, n, by simpa using hs⟩, ?_⟩
    have e := r.length
    simp only [Array.length_toList] at e
    omega
theorem Inv.list_inj (I : Inv X pins σ H s) (h : SqL X.K H a xs) (h' : SqL X.K H a ys) : xs = ys := by
  obtain ⟨its, r, ⟨o, n, e, _, _, d⟩, _⟩ := I.list h
  obtain ⟨its', r', ⟨o', n', e', _, _, d'⟩, _⟩ := I.list h'
  rw [e] at e'; cases e'
  rw [d] at d'
  injection d' with d1 _
  have : its = its' := by simpa using congrArg Array.toList d1
  subst this
  exact r.inj r'
theorem Inv.tuple_inj (I : Inv X pins σ H s) (h : SqT X.K H a xs) (h' : SqT X.K H a ys) : xs = ys := by
  obtain ⟨its, r, ⟨o, e, _, n, d⟩, _⟩ := I.tuple h
  obtain ⟨its', r', ⟨o', e', _, n', d'⟩, _⟩ := I.tuple h'
  rw [e] at e'; cases e'
  rw [d] at d'
  injection d' with d1 _
  have : its = its' := by simpa using congrArg Array.toList d1
  subst this
  exact r.inj r'
end

noncomputable abbrev Cx.wish (X : Cx) (E : Value → Shared → Prop) : Cx := { X with xe := E }
noncomputable abbrev Cx.nox (X : Cx) : Cx := X.wish fun _ _ => False
theorem Cx.Ok.wish {X : Cx} (ok : X.Ok) (E : Value → Shared → Prop) : (X.wish E).Ok :=
  ⟨ok.mod, ok.kind, ok.glob, ok.blt, ok.above, ok.inj, ok.has, ok.cab, ok.hd, ok.frames, ok.stk, ok.exf, ok.bs, ok.bsz, ok.noex, ok.exfs, ok.funs, ok.frf⟩
theorem Cx.Ok.unwish {X : Cx} {E : Value → Shared → Prop} (ok : (X.wish E).Ok) : X.Ok :=
  ⟨ok.mod, ok.kind, ok.glob, ok.blt, ok.above, ok.inj, ok.has, ok.cab, ok.hd, ok.frames, ok.stk, ok.exf, ok.bs, ok.bsz, ok.noex, ok.exfs, ok.funs, ok.frf⟩
section
variable {X : Cx} {pins : List (Addr × Obj)} {σ : St} {H : Hp} {s : Shared} {E : Value → Shared → Prop}
theorem Inv.wish (I : Inv X pins σ H s) (E : Value → Shared → Prop) : Inv (X.wish E) pins σ H s := ⟨I.ok.wish E, I.os, I.bare, I.base, I.loc, I.cell, I.free, I.freeC, I.pin, I.hok, I.len⟩
theorem Inv.unwish (I : Inv (X.wish E) pins σ H s) : Inv X pins σ H s := ⟨I.ok.unwish, I.os, I.bare, I.base, I.loc, I.cell, I.free, I.freeC, I.pin, I.hok, I.len⟩
theorem SP.unwish {D : Ends} {f : Flow} {s' : Shared} (h : SP (X.wish E) pins D f s') : SP X pins D f s' := by
  cases f with
  | next => obtain ⟨σ', H', I, q⟩ := h; exact ⟨σ', H', I.unwish, q⟩
  | brk => obtain ⟨σ', H', I, q⟩ := h; exact ⟨σ', H', I.unwish, q⟩
  | cont => obtain ⟨σ', H', I, q⟩ := h; exact ⟨σ', H', I.unwish, q⟩
  | ret u => obtain ⟨v, σ', H', I, r, q⟩ := h; exact ⟨v, σ', H', I.unwish, r, q⟩
theorem PSs.nox {st : List Stmt} {t : TS} (h : PSs X.nox st t) : PSs X st t := fun pins s σ H D I hw =>
  wpAny_mono (h pins s σ H D (I.wish _) hw) (fun _ _ q => q.unwish) fun _ _ z => False.elim z
end

section
variable {X : Cx} {st : Stmt} {rest : List Stmt} {t u : TS} {e : Expr} {te : TE} {pos : Pos}
noncomputable def Qbh : TS := fun D σ H => D.nx σ H
noncomputable def Qbp (t u : TS) : TS := fun D σ H => t { D with nx := u D } σ H
theorem UO : PSs X [] Qbh := fun _ _ σ H _ I h => wpAny_execs_nil ⟨σ, H, I, h⟩
theorem YY (h1 : PS X st t) (h2 : PSs X rest u) : PSs X (st :: rest) (Qbp t u) := by
  intro pins s σ H D I h
  refine wpAny_execs_cons (thn (h1 pins s σ H { D with nx := u D } I h) fun f s1 q => ?_)
  cases f with
  | next =>
    obtain ⟨σ', H', I', q⟩ := q
    exact h2 pins s1 σ' H' D I' q
  | ret v => exact q
  | brk => exact q
  | cont => exact q
theorem Us (h1 : PS X st t) : PSs X [st] t := by
  intro pins s σ H D I h
  refine wpAny_execs_cons (thn (h1 pins s σ H D I h) fun f s1 q => ?_)
  cases f with
  | next => exact wpAny_execs_nil q
  | ret v => exact q
  | brk => exact q
  | cont => exact q
theorem Inv.quiet {pins : List (Addr × Obj)} {σ : St} {H : Hp} {s : Shared} (I : Inv X pins σ H s) : interactive X.env = false := by simp [interactive, I.ok.kind]
noncomputable def Qat (te : TE) : TS := fun D σ H => te σ H fun _ H1 => D.nx σ H1
theorem WZ (he : PE X e te) (hs : swapsWith e none pos.line X.env = pure false := by rfl) : PS X (.Expr e pos) (Qat te) := by
  intro pins s σ H D I h
  exact wpAny_Expr_any (thn (he pins s σ H _ I h) fun v s1 ⟨x, H1, I1, r1, q1⟩ => ⟨σ, H1, I1, q1⟩) I.quiet hs
noncomputable def Qcv (te : TE) : TS := fun D σ H => te σ H D.rt
theorem Gu (he : PE X e te) : PS X (.Return (some e) pos) (Qcv te) := by
  intro pins s σ H D I h
  exact wpAny_Return_some (thn (he pins s σ H _ I h) fun v s1 ⟨x, H1, I1, r1, q1⟩ => ⟨x, σ, H1, I1, r1, q1⟩)
noncomputable def Qcj (c : TT) (t u : TS) : TS := fun D σ H => c σ H fun b H1 => if b = true then t D σ H1 else u D σ H1
theorem QaB {c : Expr} {a b : List Stmt} {tc : TT} (hc : PT X c tc) (ha : PSs X a t) (hb : PSs X b u) : PS X (.If c a b pos) (Qcj tc t u) := by
  intro pins s σ H D I h
  refine wpAny_If (thn (hc pins s σ H _ I h) fun d s1 ⟨H1, I1, q1⟩ => ?_)
  cases d with
  | true => exact ha pins s1 σ H1 D I1 q1
  | false => exact hb pins s1 σ H1 D I1 q1
end

noncomputable abbrev TG := V → St → Hp → (St → Hp → Prop) → Prop
noncomputable abbrev TGs := List V → St → Hp → (St → Hp → Prop) → Prop
noncomputable def PG (X : Cx) (target : Expr) (t : TG) : Prop :=
  ∀ (pins : List (Addr × Obj)) (s : Shared) (σ : St) (H : Hp) (v : V) (u : Value) (Q : St → Hp → Prop), Inv X pins σ H s → RelV v u → t v σ H Q →
    wpAny (model X.prog X.w) X.A (assign target X.env u) (fun _ s' => ∃ σ' H', Inv X pins σ' H' s' ∧ Q σ' H') X.xe s
noncomputable def PGs (X : Cx) (ts : List Expr) (t : TGs) : Prop :=
  ∀ (pins : List (Addr × Obj)) (s : Shared) (σ : St) (H : Hp) (vs : List V) (us : List Value) (Q : St → Hp → Prop), Inv X pins σ H s → Vals vs us → t vs σ H Q →
    wpAny (model X.prog X.w) X.A (assignInOrder ((assignEach ts X.env).map (·.2)) us) (fun _ s' => ∃ σ' H', Inv X pins σ' H' s' ∧ Q σ' H') X.xe s
section
variable {X : Cx} {pos : Pos}
noncomputable def Uj (i : Nat) : TG := fun v σ H Q => Q (σ.set i (some v)) H
theorem K4 {i : Nat} {x : Str} (hN : X.N.Nodup) (hi : X.N[i]? = some x) (hx : Loc X.env.scope x) (hf : X.fn x = true ∨ X.env.scope.names.lookup x = some .local := by first | exact .inl rfl | exact .inr rfl | assumption) : PG X (.Name x pos) (Uj i) := by
  intro pins s σ H v u Q I r h
  exact wpAny_assign_Name (XX I hN hi hx r (fun s' I' => ⟨_, H, I', h⟩) hf)
noncomputable def Qbr : TGs := fun vs σ H Q => vs = [] ∧ Q σ H
noncomputable def Gj (t : TG) (u : TGs) : TGs := fun vs σ H Q => ∃ v r, vs = v :: r ∧ t v σ H fun σ' H' => u r σ' H' Q
theorem WU : PGs X [] Qbr := by
  intro pins s σ H vs us Q I r h
  obtain ⟨e, h⟩ := h
  subst e
  cases r
  exact assignInOrder_nil ⟨σ, H, I, h⟩
theorem Wo {e : Expr} {es : List Expr} {t : TG} {u : TGs} (h1 : PG X e t) (h2 : PGs X es u)
    (hs : (assignEach (e :: es) X.env).map (·.2) = assign e X.env :: (assignEach es X.env).map (·.2) := by rfl) : PGs X (e :: es) (Gj t u) := by
  intro pins s σ H vs us Q I r h
  obtain ⟨v, vr, e1, h⟩ := h
  subst e1
  cases r with
  | cons r rr =>
    rw [hs]
    refine assignInOrder_cons (thn (h1 pins s σ H _ _ _ I r h) fun _ s1 ⟨σ1, H1, I1, q1⟩ => ?_)
    exact h2 pins s1 σ1 H1 _ _ Q I1 rr q1
noncomputable def Qcg (K : PySem.W.Frag) (n : Nat) (t : TGs) : TG := fun v σ H Q => ∃ a xs, v = .ref a ∧ SqT K H a xs ∧ xs.length = n ∧ t xs σ H Q
theorem GC {es : List Expr} {k : Nat} {t : TGs} {n : Nat} (hc : X.calm = true) (h : PGs X es t)
    (hn : (assignEach es X.env).length = n := by rfl) (hst : (assignEach es X.env).findIdx? (·.1) = none := by rfl) : PG X (.Tuple es k pos) (Qcg X.K n t) := by
  intro pins s σ H v u Q I r hw
  obtain ⟨a, xs, e1, hq, hl, hw⟩ := hw
  subst e1
  cases r
  obtain ⟨its, rv, ht, hz⟩ := I.tuple hq
  refine assign_Tuple_tuple (I.ok.hd hc) ht (by simp [hn, ← hl, rv.length]) hst fun h' hx => ?_
  have I1 : Inv X pins σ H { s with heap := h' } := I.kept (t' := s.toks) fun b o e => hx b o (Nat.ne_of_lt (Heap.lt_size e)) e
  exact h pins _ σ H xs _ Q I1 (by simpa using rv) hw
noncomputable def QcD (te : TE) (g : TG) : TS := fun D σ H => te σ H fun x H1 => g x σ H1 D.nx
theorem GS {i : Nat} {x : Str} {e : Expr} {te : TE} {pos' : Pos} (hN : X.N.Nodup) (hi : X.N[i]? = some x) (hx : Loc X.env.scope x) (he : PE X e te) (hs : swapsWith e (some (.Name x pos')) pos.line X.env = pure false := by rfl) (hf : X.fn x = true ∨ X.env.scope.names.lookup x = some .local := by first | exact .inl rfl | exact .inr rfl | assumption) :
    PS X (.Assign [.Name x pos'] e pos) (QcD te (Uj i)) := by
  intro pins s σ H D I h
  refine wpAny_Assign_Name (thn (he pins s σ H _ I h) fun v s1 ⟨y, H1, I1, r1, q1⟩ => ?_) hs
  exact XX I1 hN hi hx r1 (fun s2 I2 => ⟨_, H1, I2, q1⟩) hf
end

section
variable {X : Cx} {pos : Pos}
end

structure It where
  go : Nat → Hp → Prop
  yld : Nat → Hp → V → Hp → Prop
  stop : Nat → Hp → Prop
noncomputable def KJ (X : Cx) (pins : List (Addr × Obj)) (H : Hp) (b : Addr) : Prop :=
  H b = none ∧ b ≠ X.env.locals ∧ b ∉ X.fs ∧ (b ∈ X.ex ∨ X.s₀.heap.objs.size ≤ b) ∧ (∀ x c, X.env.cells.lookup x = some c → c ≠ b) ∧ ∀ p ∈ X.pn ++ pins, p.1 ≠ b
theorem Inv.fpOk {X : Cx} {pins : List (Addr × Obj)} {σ : St} {H H' : Hp} {s : Shared} {b : Addr} (I : Inv X pins σ H s) (hb : s.heap.objs.size ≤ b) (hn : H' b = none) : KJ X pins H' b := by
  refine ⟨hn, Nat.ne_of_gt (Nat.lt_of_lt_of_le I.lt hb), I.nofs hb, .inr (Nat.le_trans I.sz hb), fun x c e z => ?_, fun p hp z => ?_⟩
  · obtain ⟨v, q⟩ := I.cell x c e
    exact absurd (Nat.lt_of_lt_of_le q.lt (by rw [z]; exact hb)) (Nat.lt_irrefl _)
  · exact absurd (Nat.lt_of_lt_of_le (Heap.lt_size (I.pin p hp).1) (by rw [z]; exact hb)) (Nat.lt_irrefl _)
structure Turn (P : Program) (w : World) (K : PySem.W.Frag) (tg : Expr) (J : It) (fp : List Addr) (it : Addr) (tn : Nat → Heap → Prop) : Prop where
  mem : it ∈ fp
  obj : ∀ i h, tn i h → ∀ b ∈ fp, ∃ o, h.get? b = some o ∧ ∀ v, o.data ≠ .cell v
  keep : ∀ i h h', tn i h → (∀ b ∈ fp, ∀ o, h.get? b = some o → h'.get? b = some o) → tn i h'
  item : ∀ (X : Cx), X.prog = P → X.w = w → X.K = K → X.calm = true → ∀ (i : Nat) (pins : List (Addr × Obj)) (s : Shared) (σ : St) (H : Hp) (E : Value → Shared → Prop), Inv X pins σ H s → (∀ b ∈ fp, KJ X pins H b) → tn i s.heap → J.go i H →
    wpAny (model P w) X.A (pyNext (.ref it)) (fun r s1 => ∃ u, r = some u ∧
      wpAny (model P w) X.A (letOwnedTupleGo tg (.ref it) u) (fun _ s2 => ∃ x H', Inv X pins σ H' s2 ∧ RelV x u ∧ J.yld i H x H' ∧ tn (i + 1) s2.heap ∧ ∀ b ∈ fp, H' b = none) E s1) E s
  done : ∀ (X : Cx), X.prog = P → X.w = w → X.K = K → X.calm = true → ∀ (i : Nat) (pins : List (Addr × Obj)) (s : Shared) (σ : St) (H : Hp) (E : Value → Shared → Prop), Inv X pins σ H s → (∀ b ∈ fp, KJ X pins H b) → tn i s.heap → J.stop i H →
    wpAny (model P w) X.A (pyNext (.ref it)) (fun r s1 => r = none ∧ Inv X pins σ H s1) E s
  self : ∀ (A : Around) (i : Nat) (s : Shared) (Q : Value → Shared → Prop) (E : Value → Shared → Prop), tn i s.heap → Q (.ref it) s → wpAny (model P w) A (pyIter (.ref it)) Q E s
noncomputable abbrev TI := St → Hp → (It → Hp → Prop) → Prop
noncomputable def PIE (X : Cx) (pins : List (Addr × Obj)) (σ : St) (tg : Expr) (R : It → Hp → Prop) (itv : Value) (s2 : Shared) : Prop :=
  ∃ (it : Addr) (fp : List Addr) (tn : Nat → Heap → Prop) (J : It) (H' : Hp), itv = .ref it ∧ Inv X pins σ H' s2 ∧ Turn X.prog X.w X.K tg J fp it tn ∧ tn 0 s2.heap ∧ (∀ b ∈ fp, KJ X pins H' b) ∧ R J H'
noncomputable def PI (X : Cx) (tg iter : Expr) (wi : TI) : Prop :=
  ∀ (pins : List (Addr × Obj)) (s : Shared) (σ : St) (H : Hp) (R : It → Hp → Prop), Inv X pins σ H s → wi σ H R →
    wpAny (model X.prog X.w) X.A (eval iter X.env) (fun v s1 => wpAny (model X.prog X.w) X.A (pyIter v) (PIE X pins σ tg R) X.xe s1) X.xe s

theorem YZ {M : Model} {A : Around} {E : Value → Shared → Prop} {s : Shared} {tg : Expr} {it : Addr} {u : Value} {o : Obj} {n : String} {vs : Array Value} {Q : Unit → Shared → Prop} (ho : s.heap.get? it = some o) (hc : o.cls = .type n) (hd : o.data = .fields vs)
    (hn : ["enumerate", "zip", "dict_itemiterator", "dict_reverseitemiterator", "odict_iterator", "itertools.zip_longest", "itertools.pairwise"].contains n = false) (hQ : Q () s) : wpAny M A (letOwnedTupleGo tg (.ref it) u) Q E s := by
  unfold letOwnedTupleGo
  cases tg <;> first
    | exact wpAny_pure hQ
    | (cases u <;> first
        | exact wpAny_pure hQ
        | (refine wpAny_bind (wpAny_load ho ?_)
           rw [hc, hd]
           show wpAny M A (if (["enumerate", "zip", "dict_itemiterator", "dict_reverseitemiterator", "odict_iterator", "itertools.zip_longest", "itertools.pairwise"].contains n && vs[0]? == some (rawInt _)) = true then _ else _) Q E s
           rw [if_neg (by intro h; rw [hn, Bool.false_and] at h; cases h)]
           exact wpAny_pure hQ))

noncomputable def Itl (K : PySem.W.Frag) (a : Addr) : It :=
  ⟨fun i H => ∃ xs x, SqL K H a xs ∧ xs[i]? = some x, fun i H x H' => H' = H ∧ ∀ xs, SqL K H a xs → xs[i]? = some x, fun i H => ∃ xs, SqL K H a xs ∧ xs.length ≤ i⟩
noncomputable def Itt (K : PySem.W.Frag) (a : Addr) : It :=
  ⟨fun i H => ∃ xs x, SqT K H a xs ∧ xs[i]? = some x, fun i H x H' => H' = H ∧ ∀ xs, SqT K H a xs → xs[i]? = some x, fun i H => ∃ xs, SqT K H a xs ∧ xs.length ≤ i⟩
noncomputable def Itr (lo : Int) (n : Nat) : It := ⟨fun i _ => i < n, fun i H x H' => H' = H ∧ x = .int (lo + i), fun i _ => n ≤ i⟩
theorem Yt {P : Program} {w : World} {K : PySem.W.Frag} {tg : Expr} (a it : Addr) : Turn P w K tg (Itl K a) [it] it (fun i h => h.IsListIter it a i) where
  mem := by simp
  obj := fun i h st b hb => by
    have e : b = it := by simpa using hb
    subst e
    obtain ⟨o, e, c, d⟩ := st
    exact ⟨o, e, fun v z => by rw [d] at z; cases z⟩
  keep := fun i h h' st k => st.at fun o e => k it (by simp) o e
  item := by
    intro X hP hw hK hc i pins s σ H E I hf st hg
    subst hP hw hK
    obtain ⟨xs, x, hq, hx⟩ := hg
    obtain ⟨its, rv, p, hz⟩ := I.list hq
    obtain ⟨u, hu, ru⟩ := rv.get hx
    obtain ⟨f0, f1, f2, f3, f4, f5⟩ := hf it (by simp)
    refine wpAny_pyNext_list_item st p.isList (x := u) (by simpa using hu) fun h' st' sb => ?_
    have I1 : Inv X pins σ H { s with heap := h' } := I.turned (t' := s.toks) (fun b o hb e => (sb.2 b hb).trans e) f0 f1 f3 f4 f5
    obtain ⟨o, e, c, d⟩ := id st'
    exact ⟨u, rfl, YZ (s := { s with heap := h' }) e c d (by decide) ⟨x, H, I1, ru, ⟨rfl, fun ys hy => by rw [I.list_inj hy hq]; exact hx⟩, st', fun b hb => (hf b hb).1⟩⟩
  done := by
    intro X hP hw hK hc i pins s σ H E I hf st hg
    subst hP hw hK
    obtain ⟨xs, hq, hx⟩ := hg
    obtain ⟨its, rv, p, hz⟩ := I.list hq
    obtain ⟨f0, f1, f2, f3, f4, f5⟩ := hf it (by simp)
    have hl := rv.length
    exact wpAny_pyNext_list_end (I.ok.hd hc) st p.isList (by simp; omega) fun h' eb => ⟨rfl, I.turned (t' := s.toks) (fun b o hb e => eb b o hb e) f0 f1 f3 f4 f5⟩
  self := fun _ _ _ _ _ st h => wpAny_pyIter_listiter st h
theorem Kw {P : Program} {w : World} {K : PySem.W.Frag} {tg : Expr} (a it : Addr) : Turn P w K tg (Itt K a) [it] it (fun i h => h.IsTupleIter it a i) where
  mem := by simp
  obj := fun i h st b hb => by
    have e : b = it := by simpa using hb
    subst e
    obtain ⟨o, e, c, d⟩ := st
    exact ⟨o, e, fun v z => by rw [d] at z; cases z⟩
  keep := fun i h h' st k => st.at fun o e => k it (by simp) o e
  item := by
    intro X hP hw hK hc i pins s σ H E I hf st hg
    subst hP hw hK
    obtain ⟨xs, x, hq, hx⟩ := hg
    obtain ⟨its, rv, p, hz⟩ := I.tuple hq
    obtain ⟨u, hu, ru⟩ := rv.get hx
    obtain ⟨f0, f1, f2, f3, f4, f5⟩ := hf it (by simp)
    refine wpAny_pyNext_tuple_item st (show s.heap.IsTuple a its.toArray from p) (x := u) (by simpa using hu) fun h' st' sb => ?_
    have I1 : Inv X pins σ H { s with heap := h' } := I.turned (t' := s.toks) (fun b o hb e => (sb.2 b hb).trans e) f0 f1 f3 f4 f5
    obtain ⟨o, e, c, d⟩ := id st'
    exact ⟨u, rfl, YZ (s := { s with heap := h' }) e c d (by decide) ⟨x, H, I1, ru, ⟨rfl, fun ys hy => by rw [I.tuple_inj hy hq]; exact hx⟩, st', fun b hb => (hf b hb).1⟩⟩
  done := by
    intro X hP hw hK hc i pins s σ H E I hf st hg
    subst hP hw hK
    obtain ⟨xs, hq, hx⟩ := hg
    obtain ⟨its, rv, p, hz⟩ := I.tuple hq
    obtain ⟨f0, f1, f2, f3, f4, f5⟩ := hf it (by simp)
    have hl := rv.length
    exact wpAny_pyNext_tuple_end (I.ok.hd hc) st (show s.heap.IsTuple a its.toArray from p) (by simp; omega) fun h' eb => ⟨rfl, I.turned (t' := s.toks) (fun b o hb e => eb b o hb e) f0 f1 f3 f4 f5⟩
  self := fun _ _ _ _ _ st h => wpAny_pyIter_tupleiter st h
theorem Ku {P : Program} {w : World} {K : PySem.W.Frag} {tg : Expr} (it : Addr) (lo : Int) (n : Nat) : Turn P w K tg (Itr lo n) [it] it (fun i h => IsRangeIter h it (lo + (i : Nat) * 1) ((n : Int) - (i : Nat)) 1) where
  mem := by simp
  obj := fun i h st b hb => by
    have e : b = it := by simpa using hb
    subst e
    exact ⟨_, st, fun v z => by
      have z' : Data.fields _ = Data.cell v := z
      cases z'⟩
  keep := fun i h h' st k => k it (by simp) _ st
  item := by
    intro X hP hw hK hc i pins s σ H E I hf st hg
    subst hP hw hK
    obtain ⟨f0, f1, f2, f3, f4, f5⟩ := hf it (by simp)
    have W := Walks.range (prog := X.prog) (w := X.w) (I.ok.hd hc) it lo 1 n
    refine W.item i s _ _ hg st fun v h' tk hv st' kk => ?_
    obtain ⟨t, rfl⟩ := hv
    have I1 : Inv X pins σ H { s with heap := h', toks := tk } := I.turned (fun b o hb e => kk b o (by simpa using hb) e) f0 f1 f3 f4 f5
    refine ⟨_, rfl, YZ (s := { s with heap := h', toks := tk }) (n := "range_iterator") st' rfl rfl (by decide) ⟨.int (lo + i), H, I1, ⟨t, ?_⟩, ⟨rfl, rfl⟩, st', fun b hb => (hf b hb).1⟩⟩
    rw [Int.mul_one]
  done := by
    intro X hP hw hK hc i pins s σ H E I hf st hg
    subst hP hw hK
    obtain ⟨f0, f1, f2, f3, f4, f5⟩ := hf it (by simp)
    exact wpAny_pyNext_range_end (I.ok.hd hc) st (by have : n ≤ i := hg; omega) fun h' eb => ⟨rfl, I.turned (t' := s.toks) (fun b o hb e => eb b o hb e) f0 f1 f3 f4 f5⟩
  self := fun _ _ _ _ _ st h => wpAny_pyIter_rangeiter st h
end L2

namespace L2
open PySem PySem.Spec PyProof.Rows
section
variable {X : Cx} {tg : Expr}
theorem Wk {pins : List (Addr × Obj)} {σ : St} {H : Hp} {s : Shared} {R : It → Hp → Prop} {E : Value → Shared → Prop} {lo hi : Int} {t u v : Tok} {tk : Nat} (I : Inv X pins σ H s) (h1 : -(2 ^ 62) ≤ lo) (h2 : lo < 2 ^ 62) (h3 : -(2 ^ 62) ≤ hi) (h4 : hi < 2 ^ 62)
    (q : R (Itr lo (hi - lo).toNat) H) : wpAny (model X.prog X.w) X.A (pyIter (.ref s.heap.objs.size)) (PIE X pins σ tg R) E { s with heap := s.heap.push { cls := .type "range", data := .fields #[.int lo t, .int hi u, .int 1 v] }, toks := tk } := by
  refine wpAny_pyIter_range (IsRange.new ..) (small_one h1 h2 h3 h4) ?_
  have I1 : Inv X pins σ H { s with heap := s.heap.push { cls := .type "range", data := .fields #[.int lo t, .int hi u, .int 1 v] }, toks := tk } := I.kept fun b o e => Heap.get?_push_of_some _ e
  refine ⟨(s.heap.push { cls := .type "range", data := .fields #[.int lo t, .int hi u, .int 1 v] }).objs.size, [(s.heap.push { cls := .type "range", data := .fields #[.int lo t, .int hi u, .int 1 v] }).objs.size], _, _, H, rfl,
    I1.kept (t' := tk) fun b o e => Heap.get?_push_of_some _ e, Ku _ lo (hi - lo).toNat, ?_, fun b hb => ?_, q⟩
  · have e1 : lo + ((0 : Nat) : Int) * 1 = lo := by simp
    have e2 : (((hi - lo).toNat : Nat) : Int) - ((0 : Nat) : Int) = Builtin.Range.rangeSize lo hi 1 := by rw [rangeSize_one]; split <;> omega
    show IsRangeIter _ _ (lo + ((0 : Nat) : Int) * 1) ((((hi - lo).toNat : Nat) : Int) - ((0 : Nat) : Int)) 1
    rw [e1, e2]
    exact Heap.get?_push_size _ rfl
  · have e : b = (s.heap.push { cls := .type "range", data := .fields #[.int lo t, .int hi u, .int 1 v] }).objs.size := by simpa using hb
    subst e
    exact I1.fpOk (Nat.le_refl _) (I1.hok.fresh (Nat.le_refl _))
noncomputable def QaJ (ta : TA) : TI := fun σ H R => ta σ H fun vs H1 => ∃ j : Int, vs = [.int j] ∧ -(2 ^ 62) ≤ j ∧ j < 2 ^ 62 ∧ R (Itr 0 j.toNat) H1
theorem KQ {a : Expr} {ta : TA} {p pos : Pos} (hg : Gl X "range") (hm : X.mg "range" = none) (ha : PA X [a] ta) (hs : starEach [a] X.env = [(false, eval a X.env)] := by rfl) : PI X tg (.Call (.Name "range" p) [a] [] pos) (QaJ ta) := by
  intro pins s σ H R I h
  refine Call_ (JU I hg hm boot_range (PyProof.Rows.callWith_type1 (thn (ha pos pins s σ H _ I h) fun us s1 ⟨vs, H1, I1, r1, q1⟩ => ?_) hs rfl))
  obtain ⟨j, e, q1, q2, q⟩ := q1
  subst e
  cases r1 with
  | cons r rr =>
    cases rr
    obtain ⟨t, rfl⟩ := r
    exact call_range_1 (Wk I1 (by omega) (by omega) q1 q2 (by simpa using q))
noncomputable def QbI (wi : TI) (g : TG) (tb : TS) : TS := fun D σ H => wi σ H fun J H1 => ∃ W : Nat → Nat → St → Hp → Prop, (∃ m, W 0 m σ H1) ∧ ∀ i m σ H, W i m σ H →
  (J.stop i H ∧ D.nx σ H) ∨ (J.go i H ∧ ∃ N : St → Hp → Prop, (∀ σ' H', N σ' H' → ∃ m', m' < m ∧ W (i + 1) m' σ' H') ∧ ∀ x H', J.yld i H x H' → g x σ H' fun σ2 H2 => tb { D with nx := N, ct := N, bk := D.nx } σ2 H2)
noncomputable def XB (fp : List Addr) (h : Heap) : List (Addr × Obj) := fp.filterMap fun b => (h.get? b).map fun o => (b, o)
theorem Z2 {fp : List Addr} {h : Heap} {b : Addr} {o : Obj} (hb : b ∈ fp) (e : h.get? b = some o) : (b, o) ∈ XB fp h := List.mem_filterMap.mpr ⟨b, hb, by rw [e]; rfl⟩
theorem YE {fp : List Addr} {h : Heap} {p : Addr × Obj} (hp : p ∈ XB fp h) : p.1 ∈ fp ∧ h.get? p.1 = some p.2 := by
  obtain ⟨b, hb, e⟩ := List.mem_filterMap.mp hp
  cases q : h.get? b with
  | none => rw [q] at e; cases e
  | some o =>
    rw [q] at e
    have e' : (b, o) = p := Option.some.inj e
    subst e'
    exact ⟨hb, q⟩
theorem Inv.pinned {pins : List (Addr × Obj)} {σ : St} {H : Hp} {s : Shared} {fp : List Addr} (I : Inv X pins σ H s) (hf : ∀ b ∈ fp, KJ X pins H b) (ho : ∀ b ∈ fp, ∃ o, s.heap.get? b = some o ∧ ∀ v, o.data ≠ .cell v) : Inv X (pins ++ XB fp s.heap) σ H s :=
  I.pins_of fun p hp => (List.mem_append.mp hp).elim (fun z => I.pin p (List.mem_append_right _ z)) fun z => by
    obtain ⟨hb, e⟩ := YE z
    obtain ⟨f0, f1, f2, _⟩ := hf p.1 hb
    obtain ⟨o, e', d⟩ := ho p.1 hb
    rw [e] at e'; cases e'
    exact ⟨e, f0, f1, f2, d⟩
theorem Inv.unpinned {pins pl : List (Addr × Obj)} {σ : St} {H : Hp} {s : Shared} (I : Inv X (pins ++ pl) σ H s) : Inv X pins σ H s := I.pins_of fun p hp => I.pin p (List.mem_append_right _ (List.mem_append_left _ hp))
theorem GB {iter : Expr} {body : List Stmt} {wi : TI} {g : TG} {tb : TS} {pos : Pos} (hp : PassesOwn (model X.prog X.w) X.A X.env X.xe) (hc : X.calm = true) (hi : PI X tg iter wi) (hg : PG X tg g) (hb : PSs X body tb)
    (hs : ∀ x, foldedSetIterable iter X.env x = pure x := by intro _; rfl) : PS X (.For tg iter body [] pos) (QbI wi g tb) := by
  intro pins s σ H D I h
  refine wpAny_For (thn (hi pins s σ H _ I h) fun v s1 h1 => thn h1 fun itv s2 h2 => ?_) hs
  obtain ⟨it, fp, tn, J, H2, e, I2, T, st2, f2, W, ⟨m0, w0⟩, turn⟩ := h2
  subst e
  -- what stays true of the iterator's objects through the loop
  have stat : ∀ {H' : Hp}, (∀ b ∈ fp, H' b = none) → ∀ b ∈ fp, KJ X pins H' b := fun hn b hb => ⟨hn b hb, (f2 b hb).2⟩
  refine codeAny_forLoop_any (fun n s' => ∃ i σ' H', Inv X pins σ' H' s' ∧ tn i s'.heap ∧ (∀ b ∈ fp, H' b = none) ∧ W i n σ' H') ?_ m0 ⟨0, σ, H2, I2, st2, fun b hb => (f2 b hb).1, w0⟩
  rintro n s3 ⟨i, σ3, H3, I3, st3, fr3, w3⟩
  rcases turn i n σ3 H3 w3 with ⟨stop, qn⟩ | ⟨go, N, hN, step⟩
  · refine wpAny_passesOwn hp (thn (T.done X rfl rfl rfl hc i pins s3 σ3 H3 X.xe I3 (stat fr3) st3 stop) fun r s4 ⟨hr, I4⟩ => ?_)
    subst hr
    exact wpAny_execs_nil ⟨σ3, H3, I4, qn⟩
  · refine wpAny_passesOwn hp (thn (T.item X rfl rfl rfl hc i pins s3 σ3 H3 X.xe I3 (stat fr3) st3 go) fun r s4 ⟨u, hr, h4⟩ => ?_)
    subst hr
    refine wpAny_passesOwn hp (thn h4 fun _ s5 ⟨x, H5, I5, r5, y5, st5, fr5⟩ => ?_)
    have I5' := I5.pinned (stat fr5) (T.obj _ _ st5)
    refine wpAny_passesOwn hp (thn (hg _ s5 σ3 H5 x u _ I5' r5 (step x H5 y5)) fun _ s6 ⟨σ6, H6, I6, q6⟩ => ?_)
    refine wpAny_passesOwn hp (thn (hb _ s6 σ6 H6 _ I6 q6) fun f s7 q7 => ?_)
    have again : ∀ {σ7 : St} {H7 : Hp}, Inv X (pins ++ XB fp s5.heap) σ7 H7 s7 → N σ7 H7 → ∃ m, m < n ∧ ∃ i σ' H', Inv X pins σ' H' s7 ∧ tn i s7.heap ∧ (∀ b ∈ fp, H' b = none) ∧ W i m σ' H' := fun {σ7 H7} I7 n7 => by
      obtain ⟨m', hm, w7⟩ := hN σ7 H7 n7
      refine ⟨m', hm, i + 1, σ7, H7, I7.unpinned, T.keep _ _ _ st5 fun b hb o e => (I7.pin (b, o) (List.mem_append_right _ (List.mem_append_right _ (Z2 hb e)))).1, fun b hb => ?_, w7⟩
      obtain ⟨o, e, d⟩ := T.obj _ _ st5 b hb
      exact (I7.pin (b, o) (List.mem_append_right _ (List.mem_append_right _ (Z2 hb e)))).2.1
    cases f with
    | next => obtain ⟨σ7, H7, I7, n7⟩ := q7; exact again I7 n7
    | cont => obtain ⟨σ7, H7, I7, n7⟩ := q7; exact again I7 n7
    | brk => obtain ⟨σ7, H7, I7, q7⟩ := q7; exact ⟨σ7, H7, I7.unpinned, q7⟩
    | ret v => obtain ⟨x7, σ7, H7, I7, r7, q7⟩ := q7; exact ⟨x7, σ7, H7, I7.unpinned, r7, q7⟩
end

end L2

namespace L2
open PySem PySem.Spec PyProof.Rows

noncomputable abbrev R2 := V → V → Hp → VK → Prop
noncomputable def OpR (X : Cx) (f : Value → Value → Sem Value) (r : R2) : Prop :=
  ∀ (pins : List (Addr × Obj)) (s : Shared) (σ : St) (H : Hp) (x y : V) (v u : Value) (Q : VK), Inv X pins σ H s → RelV x v → RelV y u → r x y H Q →
    wpAny (model X.prog X.w) X.A (f v u) (EP X pins σ Q) X.xe s
noncomputable def CallR (X : Cx) (f : Value) (r : List V → Hp → VK → Prop) : Prop :=
  ∀ (pins : List (Addr × Obj)) (s : Shared) (σ : St) (H : Hp) (xs : List V) (us : List Value) (Q : VK), Inv X pins σ H s → Vals xs us → r xs H Q →
    wpAny (model X.prog X.w) X.A (call f us) (EP X pins σ Q) X.xe s
noncomputable def tOp (r : R2) (ta tb : TE) : TE := fun σ H Q => ta σ H fun x H1 => tb σ H1 fun y H2 => r x y H2 Q
noncomputable def rI (C : Int → Int → Prop) (g : Int → Int → V) : R2 := fun x y H Q => ∃ i j, x = .int i ∧ y = .int j ∧ C i j ∧ Q (g i j) H
noncomputable def rI0 (g : Int → Int → V) : R2 := fun x y H Q => ∃ i j, x = .int i ∧ y = .int j ∧ Q (g i j) H
section
variable {X : Cx} {a b c : Expr} {ta tb tc : TE} {pos : Pos}

theorem Qa4 (ha : PE X a ta) (hb : PE X b tb) {pins : List (Addr × Obj)} {s : Shared} {σ : St} {H : Hp} {R : V → V → Hp → Prop} (I : Inv X pins σ H s)
    (h : ta σ H fun x H1 => tb σ H1 fun y H2 => R x y H2) {Q : Value → Shared → Prop} {f : Value → Value → Sem Value}
    (hf : ∀ v u s2 x y H2, Inv X pins σ H2 s2 → RelV x v → RelV y u → R x y H2 → wpAny (model X.prog X.w) X.A (f v u) Q X.xe s2) :
    wpAny (model X.prog X.w) X.A (eval a X.env) (fun v s₁ => wpAny (model X.prog X.w) X.A (eval b X.env) (fun u s₂ => wpAny (model X.prog X.w) X.A (f v u) Q X.xe s₂) X.xe s₁) X.xe s := by
  refine thn (ha pins s σ H _ I h) fun v s1 ⟨x, H1, I1, r1, q1⟩ => ?_
  refine thn (hb pins s1 σ H1 _ I1 q1) fun u s2 ⟨y, H2, I2, r2, q2⟩ => ?_
  exact hf v u s2 x y H2 I2 r1 r2 q2

theorem Qbd {op : Operator} {r : R2} (ho : OpR X (binaryOp op) r) (ha : PE X a ta) (hb : PE X b tb) : PE X (.BinOp a op b pos) (tOp r ta tb) := by
  intro pins s σ H Q I h
  exact wpAny_BinOp (Qa4 ha hb I h fun v u s2 x y H2 I2 rx ry q => ho pins s2 σ H2 x y v u Q I2 rx ry q)
theorem opI {f : Value → Value → Sem Value} {C : Int → Int → Prop} {g : Int → Int → Int}
    (rule : ∀ (i j : Int) (t u : Tok) (s : Shared) (Q : Value → Shared → Prop) (E : Value → Shared → Prop), C i j → Q (.int (g i j) s.toks) { s with toks := s.toks + 1 } → wpAny (model X.prog X.w) X.A (f (.int i t) (.int j u)) Q E s) :
    OpR X f (rI C fun i j => .int (g i j)) := by
  intro pins s σ H x y v u Q I rx ry h
  obtain ⟨i, j, rfl, rfl, hc, q⟩ := h
  obtain ⟨t, rfl⟩ := rx
  obtain ⟨t', rfl⟩ := ry
  exact rule i j t t' s _ _ hc ⟨.int (g i j), H, I.tok _, ⟨_, rfl⟩, q⟩
theorem Qcq {f : Value → Value → Sem Value} {g : Int → Int → Int}
    (rule : ∀ (i j : Int) (t u : Tok) (s : Shared) (Q : Value → Shared → Prop) (E : Value → Shared → Prop), Q (.int (g i j) s.toks) { s with toks := s.toks + 1 } → wpAny (model X.prog X.w) X.A (f (.int i t) (.int j u)) Q E s) :
    OpR X f (rI0 fun i j => .int (g i j)) := by
  intro pins s σ H x y v u Q I rx ry h
  obtain ⟨i, j, rfl, rfl, q⟩ := h
  obtain ⟨t, rfl⟩ := rx
  obtain ⟨t', rfl⟩ := ry
  exact rule i j t t' s _ _ ⟨.int (g i j), H, I.tok _, ⟨_, rfl⟩, q⟩
theorem QbP {f : Value → Value → Sem Value} {g : Int → Int → Bool}
    (rule : ∀ (i j : Int) (t u : Tok) (s : Shared) (Q : Value → Shared → Prop) (E : Value → Shared → Prop), Q (.bool (g i j)) s → wpAny (model X.prog X.w) X.A (f (.int i t) (.int j u)) Q E s) :
    OpR X f (rI0 fun i j => .bl (g i j)) := by
  intro pins s σ H x y v u Q I rx ry h
  obtain ⟨i, j, rfl, rfl, q⟩ := h
  obtain ⟨t, rfl⟩ := rx
  obtain ⟨t', rfl⟩ := ry
  exact rule i j t t' s _ _ ⟨.bl (g i j), H, I, rfl, q⟩

noncomputable def Qco (i j : Int) : Prop := 0 < j ∧ j < 1073741824
noncomputable def Qb8 (i j : Int) : Prop := 0 ≤ j ∧ j ≤ 1000000 ∧ i.natAbs < 2 ^ 64
noncomputable def CMul (i j : Int) : Prop := (-(2 ^ 64) < i ∧ i < 2 ^ 64) ∨ (-(2 ^ 64) < j ∧ j < 2 ^ 64)
theorem CMul.ok {i j : Int} (h : CMul i j) : IntMulOk i j := by
  rcases h with ⟨h1, h2⟩ | ⟨h1, h2⟩
  · exact .of_left (intBits_le_64 h1 h2)
  · exact .of_right (intBits_le_64 h1 h2)
theorem op_add : OpR X (binaryOp .Add) (rI0 fun i j => .int (i + j)) := Qcq fun _ _ _ _ _ _ _ q => add_int q
theorem Gc : OpR X (binaryOp .Mult) (rI CMul fun i j => .int (i * j)) := opI fun _ _ _ _ _ _ _ hc q => mul_int q hc.ok
theorem WT : OpR X (binaryOp .FloorDiv) (rI Qco fun i j => .int (i / j)) := opI fun i j _ _ _ _ _ hc q => by
  have h1 : (0 : Int) < j := hc.1
  have h2 : j < 1073741824 := hc.2
  exact floordiv_int (by omega) (by rw [Int.fdiv_eq_ediv_of_nonneg i (by omega)]; exact q) (.inl (PyProof.noPylong_small (by omega)))
theorem GZ : OpR X (binaryOp .Mod) (rI (fun _ j => 0 < j) fun i j => .int (i % j)) := opI fun i j _ _ _ _ _ hc q => by
  have h1 : (0 : Int) < j := hc
  exact mod_int' (by omega) (by rw [Int.fmod_eq_emod_of_nonneg i (by omega)]; exact q)
theorem Gw : OpR X (binaryOp .Pow) (rI Qb8 fun i j => .int (i ^ j.toNat)) := opI fun _ _ _ _ _ _ _ hc q => pow_int_small hc.1 hc.2.1 hc.2.2 q
end

section
variable {X : Cx} {a b c : Expr} {ta tb tc : TE} {pos : Pos}
theorem Gi {pins : List (Addr × Obj)} {σ : St} {H : Hp} {s : Shared} {Q : VK} {k k' : Bool} (I : Inv X pins σ H s) (q : Q (.bl k) H) (e : k = k') : EP X pins σ Q (.bool k') s := by
  subst e
  exact ⟨.bl k, H, I, rfl, q⟩
theorem op_lt : OpR X (compareOp .Lt) (rI0 fun i j => .bl (decide (i < j))) := QbP fun _ _ _ _ _ _ _ q => lt_int q
theorem QaL : OpR X (compareOp .Gt) (rI0 fun i j => .bl (decide (j < i))) := QbP fun _ _ _ _ _ _ _ q => gt_int q
theorem KS : OpR X (compareOp .Lt) (fun x y H Q => ∃ i j, x = .str i ∧ y = .str j ∧ Q (.bl (decide (i.cps.toList < j.cps.toList))) H) := by
  intro pins s σ H x y v u Q I rx ry h
  obtain ⟨i, j, rfl, rfl, q⟩ := h
  obtain ⟨t, rfl⟩ := rx
  obtain ⟨t', rfl⟩ := ry
  exact lt_str (Gi I q rfl)
theorem OpR.or {f : Value → Value → Sem Value} {r r' : R2} (h : OpR X f r) (h' : OpR X f r') : OpR X f (fun x y H Q => r x y H Q ∨ r' x y H Q) := by
  intro pins s σ H x y v u Q I rx ry q
  rcases q with q | q
  · exact h pins s σ H x y v u Q I rx ry q
  · exact h' pins s σ H x y v u Q I rx ry q

theorem W4 {op : CmpOp} {r : R2} (ho : OpR X (compareOp op) r) (ha : PE X a ta) (hb : PE X b tb) (hm : behindInMarks op b = false) : PE X (.Compare a [op] [b] pos) (tOp r ta tb) := by
  intro pins s σ H Q I h
  exact wpAny_Compare1 (Qa4 ha hb I h fun v u s2 x y H2 I2 rx ry q => ho pins s2 σ H2 x y v u Q I2 rx ry q) hm
noncomputable def Qay (t : TE) : TT := fun σ H Q => t σ H fun x H' => ∃ k, x = .bl k ∧ Q k H'
theorem UC {op : CmpOp} {r : R2} (ho : OpR X (compareOp op) r) (ha : PE X a ta) (hb : PE X b tb) (hm : behindInMarks op b = false) : PT X (.Compare a [op] [b] pos) (Qay (tOp r ta tb)) := by
  intro pins s σ H Q I h
  refine wpAny_isTrue_Compare1 (thn (ha pins s σ H _ I h) fun v s1 ⟨x, H1, I1, r1, q1⟩ => thn (hb pins s1 σ H1 _ I1 q1) fun u s2 ⟨y, H2, I2, r2, q2⟩ =>
    thn (ho pins s2 σ H2 x y v u _ I2 r1 r2 q2) fun c s3 ⟨z, H3, I3, r3, k, e, q3⟩ => ?_) hm
  subst e
  cases r3
  exact wpAny_truthy_bool ⟨H3, I3, q3⟩
theorem Xr : (sizeLine : Nat) < 2 ^ 63 := by rw [sizeLine_eq]; decide
theorem op_add_str : OpR X (binaryOp .Add) (fun x y H Q => ∃ i j, x = .str i ∧ y = .str j ∧ i.length + j.length ≤ sizeLine ∧ Q (.str (i ++ j)) H) := by
  intro pins s σ H x y v u Q I rx ry h
  obtain ⟨i, j, rfl, rfl, hz, q⟩ := h
  obtain ⟨t, rfl⟩ := rx
  obtain ⟨t', rfl⟩ := ry
  exact add_str (fun t' tk => ⟨.str (i ++ j), H, I.tok _, ⟨_, rfl⟩, q⟩) hz
theorem KB {x : V} {us : List Value} (r : Vals [x] us) : ∃ u, us = [u] ∧ RelV x u := by
  cases r with
  | cons r1 r2 => cases r2; exact ⟨_, rfl, r1⟩
theorem QaE {x y : V} {us : List Value} (r : Vals [x, y] us) : ∃ u w', us = [u, w'] ∧ RelV x u ∧ RelV y w' := by
  cases r with
  | cons r1 r2 =>
    cases r2 with
    | cons r3 r4 => cases r4; exact ⟨_, _, rfl, r1, r3⟩
end
end L2

namespace L2
open PySem PySem.Spec PyProof.Rows

structure ObjM (h : Heap) (x dx C : Addr) (mA : Str → Option Value) : Prop where
  obj : h.get? x = some (PySem.W.instObj C dx)
  ns : h.Ns1 dx mA
  ne : dx ≠ x

theorem KO {h : Heap} {dx : Addr} {mA : Str → Option Value} (n : h.Ns1 dx mA) : ∃ od, h.get? dx = some od ∧ ∀ name, PySem.W.lookIn name od = some (mA name) := by
  obtain ⟨o, es, ep, ho, hd, hk, _, hm⟩ := n
  refine ⟨o, ho, fun name => ?_⟩
  have e := hm name
  unfold nsFind findBy at e
  rw [← Array.find?_toList] at e
  unfold PySem.W.lookIn
  rw [hd]
  dsimp only
  split
  · rename_i y q
    rw [q] at e
    exact congrArg some e
  · rename_i q
    rw [q] at e
    have a : es.toList.any (·.refKey) = false := by
      rw [List.any_eq_false]
      intro y hy
      obtain ⟨z, t, hkey⟩ := hk y (Array.mem_toList_iff.mp hy)
      simp [DictEntry.refKey, hkey]
    have a' : ¬ es.toList.any (·.refKey) = true := by rw [a]; exact Bool.false_ne_true
    rw [if_neg a']
    exact congrArg some e

theorem ObjM.look {h : Heap} {x dx C : Addr} {mA : Str → Option Value} (I : ObjM h x dx C mA) : ∃ od, PySem.W.InstAt h x (PySem.W.instObj C dx) C (some od) ∧ ∀ name, PySem.W.lookIn name od = some (mA name) :=
  let ⟨od, ho, hl⟩ := KO I.ns
  ⟨od, ⟨I.obj, rfl, rfl, ho⟩, hl⟩

section
variable {prog : Program} {w : World} {A : Around} {E : Value → Shared → Prop} {s : Shared} {K : PySem.W.Frag} {x dx C f : Addr} {mA : Str → Option Value} {name : Str} {v : Value}

end

section
variable {P : Program} {w : World} {H H' : Hp} {h h' : Heap} {a C dx : Addr} {fs fs' : List (Str × V)}
theorem Ur (hok : HOk P w H h) (e : H a = some (.ins C dx fs)) : ∃ mA, ObjM h a dx C mA ∧ (∀ f, QaY (fs.lookup f) (mA f)) ∧ PySem.Within mA (fs.map (·.1)) ∧ fs.length ≤ 1000 ∧ H dx = some (.own a) := by
  obtain ⟨d, z, ne, ob, mA, n, r, q⟩ := (show ObjOk P w H h a (.ins C dx fs) from hok a _ e)
  exact ⟨mA, ⟨ob, n, ne⟩, r, q, z, d⟩
end

structure Cls (K : PySem.W.Frag) (C : Addr) : Prop where
  pg : PySem.W.plainGet K C Str.empty = true
  hd : PySem.W.hasDictIn K C = true
  po : PySem.W.plainOver K C = true
  sa : PySem.W.findIn K (.ref C) "__setattr__" = some (some (.builtin "object.__setattr__"))
theorem Cls.get {K : PySem.W.Frag} {C : Addr} (c : Cls K C) (f : Str) : PySem.W.plainGet K C f = true := c.pg
section
variable {X : Cx} {pins : List (Addr × Obj)} {σ : St} {H : Hp} {s : Shared} {a C dx : Addr} {fs : List (Str × V)} {f : Str} {v : V} {A : Around} {E : Value → Shared → Prop}

end

section
variable {X : Cx} {o e value : Expr} {f : Str} {pos pos' tpos : Pos} {ta tv : TE}
end

section
variable {X : Cx} {pins : List (Addr × Obj)} {σ : St} {H : Hp} {s : Shared} {A : Around} {E : Value → Shared → Prop} {Q : Value → Shared → Prop} {c : Value} {b : Bool}
inductive TyOf (K : PySem.W.Frag) (H : Hp) : V → Value → Prop where
  | non : TyOf K H .non (.type "NoneType")
  | bl (x : Bool) : TyOf K H (.bl x) (.type "bool")
  | int (i : Int) : TyOf K H (.int i) (.type "int")
  | str (x : Str) : TyOf K H (.str x) (.type "str")
  | flt (x : UInt64) : TyOf K H (.flt x) (.type "float")
  | lst {a : Addr} {xs : List V} (e : H a = some (.lst xs)) : TyOf K H (.ref a) (.type "list")
  | frz {a : Addr} {o : Obj} {xs : List V} (e : H a = some (.frz o (.lst xs))) : TyOf K H (.ref a) (.type "list")
  | tup {a : Addr} {xs : List V} (e : H a = some (.tup xs)) : TyOf K H (.ref a) (.type "tuple")
  | dK {a : Addr} {kvs : List (Key × V)} (e : H a = some (.dK kvs)) : TyOf K H (.ref a) (.type "dict")
  | dT {a : Addr} {kvs : List (Tr × Addr × V)} (e : H a = some (.dT kvs)) : TyOf K H (.ref a) (.type "dict")
  | ins {a C dx : Addr} {fs : List (Str × V)} (e : H a = some (.ins C dx fs)) (cl : Cls K C) (ha : PySem.W.findIn K (.ref C) "__class__" = some (some (.builtin "object.__class__")))
      (hn : PySem.W.specialIn K (.builtin "object.__class__") "__get__" = some (some (.builtin "getset_descriptor.__get__"))) (htk : PySem.W.takesIn K (.builtin "object.__class__") = some true)
      (hm : PySem.W.mroIn K C (.type "object") = some true) : TyOf K H (.ref a) (.ref C)
theorem KP {x : V} {u t : Value} (I : Inv X pins σ H s) (rx : RelV x u) (ty : TyOf X.K H x t) (e : PySem.W.kitOne X.K t c = some b) (h : ∀ tk, Q (.bool b) { s with toks := tk }) :
    wpAny (model X.prog X.w) A (call (.builtin "isinstance") [u, c]) Q E s := by
  cases ty with
  | non => cases (show u = Value.none from rx); exact PySem.W.kia_one PySem.W.kitx_none I.kIn True.intro e (fun z => nomatch z) h
  | bl y => cases (show u = Value.bool y from rx); exact PySem.W.kia_one PySem.W.kitx_bool I.kIn True.intro e (fun z => nomatch z) h
  | int i => obtain ⟨t, q⟩ := (show ∃ t, u = Value.int i t from rx); cases q; exact PySem.W.kia_one PySem.W.kitx_int I.kIn True.intro e (fun z => nomatch z) h
  | str y => obtain ⟨t, q⟩ := (show ∃ t, u = Value.str y t from rx); cases q; exact PySem.W.kia_one PySem.W.kitx_str I.kIn True.intro e (fun z => nomatch z) h
  | flt y => obtain ⟨t, q⟩ := (show ∃ t, u = Value.float y t from rx); cases q; exact PySem.W.kia_one PySem.W.kitx_float I.kIn True.intro e (fun z => nomatch z) h
  | @lst a xs ea =>
    cases (show u = Value.ref a from rx)
    obtain ⟨_, _, n, _, h1⟩ := (show ObjOk X.prog X.w H s.heap a (.lst xs) from I.hok a _ ea)
    exact PySem.W.kia_one PySem.W.kitx_list I.kIn ⟨_, h1, rfl⟩ e (fun z => nomatch z) h
  | @frz a ob xs ea =>
    cases (show u = Value.ref a from rx)
    obtain ⟨_, _, _, n, _, h1⟩ := (show ObjOk X.prog X.w H s.heap a (.frz ob (.lst xs)) from I.hok a _ ea)
    exact PySem.W.kia_one PySem.W.kitx_list I.kIn ⟨_, h1, rfl⟩ e (fun z => nomatch z) h
  | @tup a xs ea =>
    cases (show u = Value.ref a from rx)
    obtain ⟨_, _, _, p⟩ := (show ObjOk X.prog X.w H s.heap a (.tup xs) from I.hok a _ ea)
    obtain ⟨o, h1, h2, _⟩ := p
    exact PySem.W.kia_one PySem.W.kitx_tuple I.kIn ⟨o, h1, h2⟩ e (fun z => nomatch z) h
  | @dK a kvs ea =>
    cases (show u = Value.ref a from rx)
    obtain ⟨_, _, vs, _, p⟩ := (show ObjOk X.prog X.w H s.heap a (.dK kvs) from I.hok a _ ea)
    obtain ⟨o, es, ep, h1, h2, _⟩ := p
    exact PySem.W.kia_one PySem.W.kitx_dict I.kIn ⟨o, h1, h2.1⟩ e (fun z => nomatch z) h
  | @dT a kvs ea =>
    cases (show u = Value.ref a from rx)
    obtain ⟨_, _, xs, _, o, es, ep, h1, h2, _⟩ := (show ObjOk X.prog X.w H s.heap a (.dT kvs) from I.hok a _ ea)
    exact PySem.W.kia_one PySem.W.kitx_dict I.kIn ⟨o, h1, h2.1⟩ e (fun z => nomatch z) h
  | @ins a C dx fs ea cl ha hn htk hm =>
    cases (show u = Value.ref a from rx)
    obtain ⟨mA, O, _⟩ := Ur I.hok ea
    obtain ⟨od, J, _⟩ := O.look
    exact PySem.W.kia_one (PySem.W.kitx_own (cl.get _) cl.hd ha hn htk hm) I.kIn J e (fun z => nomatch z) h
end
end L2

namespace L2
open PySem PySem.Spec PyProof.Rows

structure Room (k : Nat) (A : Around) : Prop where
  hd : A.handled = none
  dp : A.depth + 3 * k + 5 < recursionLimit
  un : A.units + 16 * k + 200 < cLine
theorem Room.mono {j k : Nat} {A : Around} (r : Room k A) (h : j ≤ k) : Room j A := ⟨r.hd, by have := r.dp; omega, by have := r.un; omega⟩
theorem Room.deeper {k : Nat} {A : Around} (r : Room (k + 1) A) (env : Env) : Room k (A.deeper env) :=
  ⟨r.hd, by have := r.dp; show A.depth + 1 + 3 * k + 5 < _; omega, by have := r.un; show A.units + 3 + 16 * k + 200 < _; omega⟩
theorem Room.depth {k : Nat} {A : Around} (r : Room k A) : A.depth < recursionLimit := by have := r.dp; omega
theorem Room.units {k : Nat} {A : Around} (r : Room k A) : A.units + 64 < cLine := by have := r.un; omega
noncomputable def QcQ : TA := fun _ H Q => Q [] H
noncomputable def QaP (ta : TE) (tr : TA) : TA := fun σ H Q => ta σ H fun x H1 => tr σ H1 fun xs H2 => Q (x :: xs) H2
section
variable {X : Cx} {e : Expr} {es : List Expr} {te : TE} {t : TA} {pos : Pos}
theorem GJ : PA X [] QcQ := fun _ _ _ _ H Q I h => Calls.spliced_nil ⟨[], H, I, .nil, h⟩
theorem Ua (ha : PE X e te) (hr : PA X es t) (hs : starEach (e :: es) X.env = (false, eval e X.env) :: starEach es X.env := by rfl) : PA X (e :: es) (QaP te t) := by
  intro pos pins s σ H Q I h
  rw [hs]
  show wpAny _ _ (spliced ((false, eval e X.env) :: backTo pos (starEach es X.env))) _ _ s
  refine Calls.spliced_cons (thn (ha pins s σ H _ I h) fun u s1 ⟨x, H1, I1, r1, q1⟩ => ?_)
  exact thn (hr pos pins s1 σ H1 _ I1 q1) fun us s2 ⟨xs, H2, I2, r2, q2⟩ => ⟨x :: xs, H2, I2, .cons r1 r2, q2⟩

noncomputable def Qcp (t : TA) : TE := fun σ H Q => t σ H fun xs H1 => xs.length ≤ sizeLine ∧ ∀ p, H1 p = none → Q (.ref p) (upd H1 p (.tup xs))
noncomputable def Qb9 (t : TA) : TE := fun σ H Q => t σ H fun xs H1 => xs.length ≤ sizeLine ∧ ∀ p, H1 p = none → Q (.ref p) (upd H1 p (.lst xs))
theorem GV {x1} (h : PA X es t) : PE X (.Tuple es x1 pos) (Qcp t) := by
  intro pins s σ H Q I hq
  refine wpAny_Tuple_spliced (thn (h pos pins s σ H _ I hq) fun us s1 ⟨xs, H1, I1, r, z, q⟩ => ⟨by rw [← r.length]; exact z, ?_⟩)
  have hf : H1 s1.heap.objs.size = none := I1.hok.fresh (Nat.le_refl _)
  refine ⟨.ref s1.heap.objs.size, upd H1 s1.heap.objs.size (.tup xs), I1.laid (t' := s1.toks) (fun b u e => Heap.get?_push_of_some _ e) (Nat.le_refl _) ?_, rfl, q _ hf⟩
  exact ⟨z, us, r, ⟨_, Heap.get?_push_size _ rfl, rfl, _, rfl⟩⟩
theorem WB (h : PA X es t) : PE X (.List es pos) (Qb9 t) := by
  intro pins s σ H Q I hq
  refine wpAny_List_spliced (thn (h pos pins s σ H _ I hq) fun us s1 ⟨xs, H1, I1, r, z, q⟩ => ⟨by rw [← r.length]; exact z, ?_⟩)
  have hf : H1 s1.heap.objs.size = none := I1.hok.fresh (Nat.le_refl _)
  refine ⟨.ref s1.heap.objs.size, upd H1 s1.heap.objs.size (.lst xs), I1.laid (t' := s1.toks) (fun b u e => Heap.get?_push_of_some _ e) (Nat.le_refl _) ?_, rfl, q _ hf⟩
  exact ⟨z, us, 0, r, Heap.get?_push_size _ rfl⟩
end

noncomputable abbrev Sp := List V → Hp → VK → XK → Prop
noncomputable abbrev CXT := List Env → Hp → Shared → XK → Value → Shared → Prop

structure Env0 (P : Program) (w : World) (K : PySem.W.Frag) (mg : Str → Option Value) (base : Heap) (A : Around) (outer : List Env) (s : Shared) (H : Hp) : Prop where
  frames : A.frames = some outer
  mod : Mod K mg base
  bs : ∀ b o, base.get? b = some o → s.heap.get? b = some o ∧ H b = none
  bsz : base.objs.size ≤ s.heap.objs.size
  funs : s.heap.FunFrames base outer
  frf : ∀ b ∈ frs outer, H b = none
  hok : HOk P w H s.heap
  bare : AllBare s.gens
noncomputable def CE (outer : List Env) (P : Program) (w : World) (H : Hp) (s : Shared) (Q : VK) (u : Value) (s' : Shared) : Prop :=
  ∃ v H', s'.os = s.os ∧ AllBare s'.gens ∧ Un (frs outer) [] H H' s.heap s'.heap ∧ HOk P w H' s'.heap ∧ RelV v u ∧ Q v H'
noncomputable def CR (CX : CXT) (outer : List Env) (P : Program) (w : World) (H : Hp) (s : Shared) (Q : VK) (E : XK) (r : Result) (s' : Shared) : Prop :=
  match r with
  | .ok (.ret u) => CE outer P w H s Q u s'
  | .ok _ => False
  | .error e => CX outer H s E e s'
structure FnOk (P : Program) (w : World) (K : PySem.W.Frag) (mg : Str → Option Value) (base : Heap) (CX : CXT) (k : Nat) (f : Addr) (fd : FuncData) (ps : List Str) (sp : Sp) : Prop where
  len : ∀ vs H Q E, sp vs H Q E → vs.length = ps.length
  run : ∀ (A : Around) (outer : List Env) (s : Shared) (H : Hp) (args : Args) (us : List Value) (vs : List V) (Q : VK) (E : XK), Room k A → Env0 P w K mg base A outer s H → BindsTo s fd args (ps.zip us) → Vals vs us → sp vs H Q E →
    codeAny (model P w) A (.call (.ref f) args) (CR CX outer P w H s Q E) s
theorem FnOk.imp {P : Program} {w : World} {K : PySem.W.Frag} {mg : Str → Option Value} {base : Heap} {CX : CXT} {k : Nat} {f : Addr} {fd : FuncData} {ps : List Str} {sp sp' : Sp} (F : FnOk P w K mg base CX k f fd ps sp)
    (h : ∀ vs H Q E, sp' vs H Q E → sp vs H Q E) : FnOk P w K mg base CX k f fd ps sp' :=
  ⟨fun vs H Q E q => F.len vs H Q E (h _ _ _ _ q), fun A outer s H args us vs Q E hr he hb hv hs => F.run A outer s H args us vs Q E hr he hb hv (h _ _ _ _ hs)⟩

section
variable {X : Cx} {pins : List (Addr × Obj)} {σ : St} {H : Hp} {s s' : Shared}
theorem Inv.env0 (I : Inv X pins σ H s) : Env0 X.prog X.w X.K X.mg X.base X.A X.stack s H :=
  ⟨I.ok.frames, I.ok.mod, I.bs, Nat.le_trans I.ok.bsz I.sz, I.stack, I.stkFree, I.hok, I.bare⟩
theorem Inv.after {Q : VK} {u : Value} (I : Inv X pins σ H s) (h : CE X.stack X.prog X.w H s Q u s') : EP X pins σ Q u s' := by
  obtain ⟨v, H', os, bare, un, hok, r, q⟩ := h
  obtain ⟨hh, g, d, t, os'⟩ := s'
  obtain rfl : os' = s.os := os
  exact ⟨v, H', I.call (h' := hh) (g' := g) (d' := d) (t' := t) (ch := []) un hok bare (fun b z => absurd z (by simp)), r, q⟩
end

noncomputable def U9 (sp : Sp) (dvs : List V) (E : XK) (t : TA) : TE := fun σ H Q => t σ H fun vs H1 => sp (vs ++ dvs) H1 Q E
noncomputable def Binds (K : PySem.W.Frag) (fd : FuncData) (ps : List Str) (ds : List Value) : Prop :=
  ∀ (s : Shared) (us : List Value), K.In s.heap → (us ++ ds).length = ps.length → BindsTo s fd ⟨us, []⟩ (ps.zip (us ++ ds))
theorem Binds.all {K : PySem.W.Frag} {fd : FuncData} {ps : List Str} (h : ∀ us : List Value, us.length = ps.length → bindArgs fd ⟨us, []⟩ = pure (ps.zip us)) : Binds K fd ps [] := fun s us _ hl => by
  rw [List.append_nil] at hl ⊢
  exact .of_eq (h us hl)

noncomputable def XZ (CX : CXT) (X : Cx) (E : XK) : Prop := ∀ (pins : List (Addr × Obj)) (σ : St) (H : Hp) (s : Shared) (e : Value) (s' : Shared), Inv X pins σ H s → CX X.stack H s E e s' → X.xe e s'

section
variable {X : Cx} {CX : CXT} {k : Nat} {f C : Addr} {fd : FuncData} {ps : List Str} {sp : Sp} {dvs : List V} {ds : List Value} {E : XK} {x m : Str} {p pos apos : Pos} {e o : Expr} {es : List Expr} {ta : TE} {t : TA}

theorem G0 {pins : List (Addr × Obj)} {σ : St} {H : Hp} {s : Shared} {Q : VK} {us : List Value} {vs : List V} (F : FnOk X.prog X.w X.K X.mg X.base CX k f fd ps sp) (hr : Room k X.A) (hb : Binds X.K fd ps ds) (hd : Vals dvs ds) (hx : XZ CX X E)
    (I : Inv X pins σ H s) (r : Vals vs us) (h : sp (vs ++ dvs) H Q E) : wpAny (model X.prog X.w) X.A (call (.ref f) us) (EP X pins σ Q) X.xe s := by
  have r2 : Vals (vs ++ dvs) (us ++ ds) := r.append hd
  have hl : (us ++ ds).length = ps.length := by rw [← r2.length]; exact F.len _ _ _ _ h
  refine wpAny_call (codeAny_mono (F.run X.A X.stack s H ⟨us, []⟩ (us ++ ds) (vs ++ dvs) Q E hr I.env0 (hb s us I.kIn hl) r2 h) fun r s' hq => ?_)
  cases r with
  | error e => exact hx pins σ H s e s' I hq
  | ok fl =>
    cases fl with
    | ret u => exact I.after hq
    | next => exact False.elim hq
    | brk => exact False.elim hq
    | cont => exact False.elim hq

theorem W1 (F : FnOk X.prog X.w X.K X.mg X.base CX k f fd ps sp) (hr : Room k X.A) (hg : Gl X x) (hm : X.mg x = some (.ref f)) (hk : PySem.W.keepIn X.K (.ref f) = true) (hb : Binds X.K fd ps ds) (hd : Vals dvs ds) (hx : XZ CX X E)
    (ha : PA X (e :: es) t) (hdb : (x == ("__debug__" : Str)) = false := by decide) (he : starEach (e :: es) X.env = (false, eval e X.env) :: starEach es X.env := by rfl) (hpl : (backTo pos (starEach es X.env)).any (·.1) = false := by rfl) :
    PE X (.Call (.Name x p) (e :: es) [] pos) (U9 sp dvs E t) := by
  intro pins s σ H Q I h
  refine wpAny_Call_Name_kw (UP I hg hm ?_ hdb)
  refine PySem.W.callWith_K (h₀ := X.base) I.ok.mod.kin hk (thn (ha pos pins s σ H _ I h) fun us s1 ⟨vs, H1, I1, r, q⟩ => ⟨I1.kIn, ?_⟩) he hpl
  exact G0 F hr hb hd hx I1 r q
end

section
variable {X : Cx} {CX : CXT} {k : Nat} {f C : Addr} {fd : FuncData} {ps ks : List Str} {sp : Sp} {E : XK} {x m : Str} {p pos apos kpos : Pos} {e o : Expr} {es : List Expr} {kws : List Keyword} {te ta : TE} {t tk : TA} {nm : Option Str}
variable {g : List Value → List Value → List Value} {gV : List V → List V → List V}
end

structure FnScope (N P : List Str) (sc : Scope) : Prop where
  kind : sc.kind = .function
  co : sc.isCoroutine = false
  gen : sc.isGenerator = false
  nd : N.Nodup
  pre : N.take P.length = P
  par : ∀ x ∈ P, sc.names.lookup x = some .local ∨ sc.names.lookup x = some .cell
  nofree : ∀ y ∈ sc.names, y.2 ≠ .free

theorem Xa {kindOf : Str → Option NameKind} {x : Str} : ∀ {binds : List (Str × Value)} {m : Str → Option Value}, (∀ v, (x, v) ∉ binds) → bindL kindOf binds m x = m x
  | [], _, _ => rfl
  | (n, v) :: r, m, h => by
    unfold bindL
    rw [Xa fun w hw => h w (List.mem_cons_of_mem _ hw)]
    split
    · have : x ≠ n := by rintro rfl; exact h v List.mem_cons_self
      simp [this]
    · rfl
theorem Xj {kindOf : Str → Option NameKind} {x : Str} : ∀ {binds : List (Str × Value)} {m : Str → Option Value}, (∀ v, (x, v) ∉ binds) → bindC kindOf binds m x = m x
  | [], _, _ => rfl
  | (n, v) :: r, m, h => by
    unfold bindC
    rw [Xj fun w hw => h w (List.mem_cons_of_mem _ hw)]
    split
    · rfl
    · have : x ≠ n := by rintro rfl; exact h v List.mem_cons_self
      simp [this]
theorem Xz {kindOf : Str → Option NameKind} {x : Str} {v : Value} : ∀ {P : List Str} {vs : List Value} {i : Nat} {m : Str → Option Value}, P.Nodup → P[i]? = some x → vs[i]? = some v → kindOf x = some .local →
    bindL kindOf (P.zip vs) m x = some v
  | [], _, _, _, _, h, _, _ => by simp at h
  | _ :: _, [], _, _, _, _, h, _ => by simp at h
  | p :: P, w :: vs, 0, m, nd, h1, h2, hk => by
    simp at h1 h2; subst h1; subst h2
    show bindL kindOf ((p, w) :: P.zip vs) m p = _
    unfold bindL
    rw [Xa fun v hv => (List.nodup_cons.mp nd).1 (List.of_mem_zip hv).1, if_pos hk]
    simp
  | p :: P, w :: vs, i + 1, m, nd, h1, h2, hk => by
    show bindL kindOf ((p, w) :: P.zip vs) m x = _
    unfold bindL
    exact Xz (i := i) (List.nodup_cons.mp nd).2 (by simpa using h1) (by simpa using h2) hk
theorem V4 {kindOf : Str → Option NameKind} {x : Str} {v : Value} : ∀ {P : List Str} {vs : List Value} {i : Nat} {m : Str → Option Value}, P.Nodup → P[i]? = some x → vs[i]? = some v → kindOf x ≠ some .local →
    bindC kindOf (P.zip vs) m x = some v
  | [], _, _, _, _, h, _, _ => by simp at h
  | _ :: _, [], _, _, _, _, h, _ => by simp at h
  | p :: P, w :: vs, 0, m, nd, h1, h2, hk => by
    simp at h1 h2; subst h1; subst h2
    show bindC kindOf ((p, w) :: P.zip vs) m p = _
    unfold bindC
    rw [Xj fun v hv => (List.nodup_cons.mp nd).1 (List.of_mem_zip hv).1, if_neg hk]
    simp
  | p :: P, w :: vs, i + 1, m, nd, h1, h2, hk => by
    show bindC kindOf ((p, w) :: P.zip vs) m x = _
    unfold bindC
    exact V4 (i := i) (List.nodup_cons.mp nd).2 (by simpa using h1) (by simpa using h2) hk

noncomputable def start (N : List Str) (vs : List V) : St := vs.map some ++ List.replicate (N.length - vs.length) none

noncomputable def WJ (CX : CXT) (P : Program) (w : World) (K : PySem.W.Frag) (mg : Str → Option Value) (base : Heap) (N : List Str) (qual : Str) (scope : Scope) (f : Addr) (cd : Value) (A : Around) (outer : List Env) (s : Shared) (H : Hp) (E : XK) : Cx where
  prog := P
  w := w
  K := K
  mg := mg
  base := base
  A := A.deeper (envOfC qual scope s.heap.objs.size f cd)
  N := N
  s₀ := s
  H₀ := H
  env := envOfC qual scope s.heap.objs.size f cd
  outer := outer
  stack := envOfC qual scope s.heap.objs.size f cd :: outer
  ex := []
  calm := true
  fn := fun _ => true
  pn := []
  xe := fun e s' => wpAny (model P w) (A.deeper (envOfC qual scope s.heap.objs.size f cd)) (leaving (envOfC qual scope s.heap.objs.size f cd) e) (fun _ s'' => CX outer H s E e s'') (fun e' s'' => CX outer H s E e' s'') s'

theorem Kf {sc : Scope} {n : Nat} {x : Str} (h : sc.names.lookup x = some .cell) : ∃ c, (cellsFrom n sc.names []).lookup x = some c := by
  have q := PySem.W.cellsFrom_some sc.names n [] (.inl h)
  exact Option.isSome_iff_exists.mp q

theorem Ym {CX : CXT} {P : Program} {w : World} {K : PySem.W.Frag} {mg : Str → Option Value} {base : Heap} {N ps : List Str} {qual : Str} {scope : Scope} {f : Addr} {cd : Value} {A : Around} {outer : List Env} {s s1 : Shared} {H : Hp} {E : XK} {us : List Value} {vs : List V}
    (S : FnScope N ps scope) (hd : A.handled = none) (e0 : Env0 P w K mg base A outer s H) (hl : vs.length = ps.length) (r : Vals vs us)
    (x : InCallC s s.heap.objs.size (bindL (envOfC qual scope s.heap.objs.size f cd).kindOf (ps.zip us) fun _ => none) (cellsFrom (s.heap.objs.size + 1) scope.names []) (bindC (envOfC qual scope s.heap.objs.size f cd).kindOf (ps.zip us) fun _ => none) s1) :
    Inv (WJ CX P w K mg base N qual scope f cd A outer s H E) [] (start N vs) H s1 := by
  have hpl : ps.length ≤ N.length := by have := congrArg List.length S.pre; rw [List.length_take] at this; omega
  obtain ⟨h1, tk, rfl, hk⟩ := x.done
  have noA : ∀ b : Addr, b ∉ (WJ CX P w K mg base N qual scope f cd A outer s H E).ex := fun b z => absurd (show b ∈ ([] : List Addr) from z) (by simp)
  refine ⟨⟨e0.mod, S.kind, rfl, rfl, Nat.le_refl _, fun y z c h1 h2 => ?_, fun y hy => ?_, fun y c _ h => ?_, fun _ => hd, Around.frames_deeper e0.frames, .inr ⟨rfl, rfl⟩, fun b z => absurd z (noA b), e0.bs, e0.bsz, fun b _ _ => noA b, fun b z => absurd z (noA b), e0.funs, e0.frf⟩,
    rfl, e0.bare, Un.kept hk, ⟨_, x.toInCall.ns, fun i y v h1 h2 h3 => ?_⟩, fun y c h => ⟨_, x.cell y c h⟩, e0.hok.fresh (Nat.le_refl _), fun y c h => ?_, fun p hp => absurd (show p ∈ ([] : List (Addr × Obj)) from hp) (by simp), e0.hok.kept hk, ?_⟩
  · exact name_of_addr x.apart (PySem.mem_of_lookup h1) (PySem.mem_of_lookup h2)
  · have hy : scope.names.lookup y = some .cell ∨ scope.names.lookup y = some .free := hy
    rcases hy with hy | hy
    · exact Kf hy
    · exact absurd rfl (S.nofree _ (PySem.mem_of_lookup hy))
  · exact Nat.le_of_lt (x.above y c (PySem.mem_of_lookup h))
  · have hi : i < vs.length := by
      unfold start at h2
      by_cases hi : i < vs.length
      · exact hi
      · rw [List.getElem?_append_right (by simpa using hi)] at h2
        rw [List.getElem?_replicate] at h2
        split at h2 <;> cases h2
    have ha : vs[i]? = some v := by
      unfold start at h2
      rw [List.getElem?_append_left (by simpa using hi), List.getElem?_map] at h2
      cases e : vs[i]? with
      | none => rw [e] at h2; cases h2
      | some a => rw [e] at h2; cases h2; rfl
    obtain ⟨u, hu, rv⟩ := r.get ha
    have hp : ps[i]? = some y := by
      rw [← S.pre, List.getElem?_take_of_lt (by omega)]; exact h1
    have ndP : ps.Nodup := by rw [← S.pre]; exact S.nd.sublist (List.take_sublist _ _)
    refine ⟨u, rv, ?_⟩
    rcases S.par y (List.mem_of_getElem? hp) with k | k
    · exact .inl ⟨k, Xz ndP hp hu k⟩
    · obtain ⟨c, e⟩ := Kf (n := s.heap.objs.size + 1) k
      refine .inr ⟨.inl k, c, e, ?_⟩
      have q := x.cell y c e
      rw [V4 ndP hp hu (by show scope.names.lookup y ≠ _; rw [k]; decide)] at q
      exact q
  · exact e0.hok.fresh (Nat.le_of_lt (x.above y c (PySem.mem_of_lookup h)))
  · unfold start
    show _ = N.length
    rw [List.length_append, List.length_map, List.length_replicate]
    omega

theorem Qa1 {CX : CXT} {P : Program} {w : World} {K : PySem.W.Frag} {mg : Str → Option Value} {base : Heap} {k : Nat} {f : Addr} {name qual : Str} {params : Arguments} {body : List Stmt} {scope : Scope} {dV kV doc pm cdv ct oc : Value} {an od : Option Addr}
    {osl : Array (Option Value)} {N ps : List Str} {sp : Sp} (lk : K.lookup f = some ⟨oc, od, .func (PySem.W.fnOf name qual params body scope dV kV doc pm an cdv ct), osl⟩) (hcd : PySem.W.codeIn K cdv qual = true) (S : FnScope N ps scope)
    (len : ∀ vs H Q E, sp vs H Q E → vs.length = ps.length)
    (hbody : ∀ (A : Around) (outer : List Env) (s : Shared) (H : Hp) (vs : List V) (Q : VK) (E : XK), Room k (A.deeper (envOfC qual scope s.heap.objs.size f cdv)) → sp vs H Q E →
      ∃ t, PSs (WJ CX P w K mg base N qual scope f cdv A outer s H E) body t ∧ t { nx := fun _ H' => Q .non H', rt := Q } (start N vs) H) :
    FnOk P w K mg base CX (k + 1) f (PySem.W.fnOf name qual params body scope dV kV doc pm an cdv ct) ps sp := by
  refine ⟨len, fun A outer s H args us vs Q E hr e0 hb r hsp => ?_⟩
  have hl := len _ _ _ _ hsp
  have KX : K.In s.heap := e0.mod.kin.keeps fun b o e => (e0.bs b o e).1
  have lim : s.heap.NoLimit := e0.mod.nolimit.keeps fun b o e => (e0.bs b o e).1
  have hkind : ∀ y ∈ ps.zip us, scope.names.lookup y.1 = some .local ∨ (scope.names.lookup y.1 = some .cell ∧ ((cellsFrom (s.heap.objs.size + 1) scope.names []).lookup y.1).isSome = true) := fun ⟨n, v⟩ hy => by
    rcases S.par n (List.of_mem_zip hy).1 with q | q
    · exact .inl q
    · exact .inr ⟨q, PySem.W.cellsFrom_some _ _ _ (.inl q)⟩
  refine codeAny_call_function hr.depth (KX _ _ lk) rfl S.co S.gen rfl (PySem.W.codeRec_of KX hcd) (hb _ _ _ _ ?_)
  refine wpAny_newFunctionEnv_cells S.kind hkind fun env he s1 x => ?_
  subst he
  refine ⟨lim.keeps x.toInCall.keep, codeAny_func ?_⟩
  obtain ⟨t, ht, hq⟩ := hbody A outer s H vs Q E (hr.deeper _) hsp
  have I : Inv (WJ CX P w K mg base N qual scope f cdv A outer s H E) [] (start N vs) H s1 := Ym S hr.hd e0 hl r x
  refine wpAny_mono (ht [] s1 (start N vs) H _ I hq) (fun fl s' hs => ?_) fun e s' hs => hs
  have fin : ∀ {σ' : St} {H' : Hp} {v : V} {u : Value}, Inv (WJ CX P w K mg base N qual scope f cdv A outer s H E) [] σ' H' s' → RelV v u → Q v H' → CE outer P w H s Q u s' :=
    fun {σ' H' v u} J rv q => ⟨v, H', J.os, J.bare, J.base, J.hok, rv, q⟩
  cases fl with
  | ret u =>
    obtain ⟨v, σ', H', J, rv, q⟩ := hs
    exact fin J rv q
  | next =>
    obtain ⟨σ', H', J, q⟩ := hs
    exact fin (v := V.non) (u := Value.none) J rfl q
  | brk =>
    obtain ⟨_, _, _, q⟩ := hs
    exact False.elim q
  | cont =>
    obtain ⟨_, _, _, q⟩ := hs
    exact False.elim q
end L2

namespace L2
open PySem PySem.Spec PyProof.Rows
section
variable {X : Cx} {x : Str} {p pos : Pos} {e : Expr} {es : List Expr} {t : TA} {id T : String} {r : List V → Hp → VK → Prop}

noncomputable def tCB (r : List V → Hp → VK → Prop) (t : TA) : TE := fun σ H Q => t σ H fun vs H1 => r vs H1 Q
theorem Wp (hc : CallR X (.builtin id) r) (hg : Gl X x) (hm : X.mg x = none) (hv : bootBuiltins x = some (.builtin id)) (ha : PA X (e :: es) t) (hn : x ≠ "__name__" := by decide) (hdb : (x == ("__debug__" : Str)) = false := by decide)
    (he : starEach (e :: es) X.env = (false, eval e X.env) :: starEach es X.env := by rfl) (hpl : (backTo pos (starEach es X.env)).any (·.1) = false := by rfl) : PE X (.Call (.Name x p) (e :: es) [] pos) (tCB r t) := by
  intro pins s σ H Q I h
  refine wpAny_Call_Name_kw (JU I hg hm hv ?_ hn hdb)
  exact PyProof.Rows.callWith_builtin1 (thn (ha pos pins s σ H _ I h) fun us s1 ⟨vs, H1, I1, r1, q1⟩ => hc pins s1 σ H1 vs us Q I1 r1 q1) he hpl
theorem Yi (hc : CallR X (.type T) r) (hg : Gl X x) (hm : X.mg x = none) (hv : bootBuiltins x = some (.type T)) (ha : PA X (e :: es) t) (hn : x ≠ "__name__" := by decide) (hdb : (x == ("__debug__" : Str)) = false := by decide)
    (he : starEach (e :: es) X.env = (false, eval e X.env) :: starEach es X.env := by rfl) (hpl : (backTo pos (starEach es X.env)).any (·.1) = false := by rfl) : PE X (.Call (.Name x p) (e :: es) [] pos) (tCB r t) := by
  intro pins s σ H Q I h
  refine wpAny_Call_Name_kw (JU I hg hm hv ?_ hn hdb)
  exact PyProof.Rows.callWith_type1 (thn (ha pos pins s σ H _ I h) fun us s1 ⟨vs, H1, I1, r1, q1⟩ => hc pins s1 σ H1 vs us Q I1 r1 q1) he hpl
end
end L2

namespace HT
open PySem PyProof.Rows

section
open PySem.SeqAt
open PySem.AutoSeq1 (wpAny_loadPart')
open PySem.MeetsSeq PySem.MeetsSeq2 PySem.MeetsSeq3

end

section
variable {prog : Program} {w : World} {A : Around} {E : Value → Shared → Prop} {s : Shared}

theorem cat_tup {t b : Addr} {vs ws : List Value} {Q : Value → Shared → Prop} (ht : IsTup s.heap t vs.toArray) (hb : IsTup s.heap b ws.toArray) (hv : vs ≠ [])
    (h1 : ws = [] → Q (.ref t) s) (h2 : ws ≠ [] → Q (.ref s.heap.objs.size) { s with heap := s.heap.push { cls := .type "tuple", data := .seq (vs ++ ws).toArray } })
    (hsz : vs.length + ws.length ≤ sizeLine) : wpAny (model prog w) A (binaryOp .Add (.ref t) (.ref b)) Q E s := by
  obtain ⟨⟨cls, dd, data, sl⟩, ho, hc, n, hd⟩ := id ht
  obtain ⟨⟨cls2, dd2, data2, sl2⟩, ho2, hc2, n2, hd2⟩ := id hb
  simp only at hc hd hc2 hd2
  subst hc hd hc2 hd2
  have e : vs.toArray ++ ws.toArray = (vs ++ ws).toArray := by simp
  by_cases hw : ws = []
  · exact concat_meets ⟨_, ho, rfl⟩ ⟨_, ho2, rfl⟩ noFill_tuple_add seq_tuple_add PySem.F.slot_tuple_add PySem.F.entry_tuple_add (PySem.F.args_tuple_add_2 _ _)
      (tuple_addW1 t b vs.toArray ws.toArray n n2 dd dd2 sl sl2 (by simpa using hv) (by simp [hw])) ⟨ho, ho2, h1 hw⟩
  · refine concat_meets ⟨_, ho, rfl⟩ ⟨_, ho2, rfl⟩ noFill_tuple_add seq_tuple_add PySem.F.slot_tuple_add PySem.F.entry_tuple_add (PySem.F.args_tuple_add_2 _ _)
      (tuple_addW2 t b vs.toArray ws.toArray n n2 dd dd2 sl sl2 (by simpa using hv) (by simpa using hw) (by rw [List.size_toArray, List.size_toArray]; exact hsz)) ⟨ho, ho2, ?_⟩
    rw [e]
    exact h2 hw

noncomputable def sIx (n d : Nat) : Option Int → Nat
  | none => d
  | some v => if v < 0 then (v + (n : Int)).toNat else min v.toNat n
theorem sIx_none (n d : Nat) : sIx n d none = d := rfl
theorem sIx_nat (n d k : Nat) : sIx n d (some (k : Int)) = min k n := by
  show (if (k : Int) < 0 then ((k : Int) + (n : Int)).toNat else min (k : Int).toNat n) = min k n
  rw [if_neg (by omega), Int.toNat_natCast]
theorem G9 (n d : Nat) (hd : d ≤ n) (o : Option Int) : sIx n d o ≤ n := by
  cases o with
  | none => exact hd
  | some v =>
    show (if v < 0 then (v + (n : Int)).toNat else min v.toNat n) ≤ n
    by_cases hv : v < 0
    · rw [if_pos hv]; omega
    · rw [if_neg hv]; exact Nat.min_le_right _ _
theorem KZ (v : Int) (n d : Nat) : (if v < 0 then max (v + (n : Int)) 0 else min v (n : Int)) = ((sIx n d (some v) : Nat) : Int) := by
  show (if v < 0 then max (v + (n : Int)) 0 else min v (n : Int)) = (((if v < 0 then (v + (n : Int)).toNat else min v.toNat n) : Nat) : Int)
  by_cases hv : v < 0
  · simp only [if_pos hv]; omega
  · simp only [if_neg hv]; omega
theorem Kz (lo hi : Option Int) (n : Nat) : Builtin.Slice.sliceAdjust lo hi 1 (n : Int) = (((sIx n 0 lo : Nat) : Int), ((sIx n n hi : Nat) : Int)) := by
  have h1 : ¬ ((1 : Int) < 0) := by omega
  unfold Builtin.Slice.sliceAdjust
  simp only [h1, if_false]
  refine Prod.ext ?_ ?_
  · cases lo with
    | none => rfl
    | some v => exact KZ v n 0
  · cases hi with
    | none => rfl
    | some v => exact KZ v n n
theorem Ks (i j : Nat) : Builtin.Slice.slicePlaces (i : Int) (j : Int) 1 = j - i := by
  unfold Builtin.Slice.slicePlaces
  have h1 : (1 : Int) > 0 := by omega
  simp only [h1, if_true, Int.ediv_one]
  split <;> omega
theorem Vn {v : Value} {o : Option Int} {Q : Option Int → Shared → Prop} (p : IsPart v o) (h : Q o s) : wpAny (model prog w) A (Builtin.Slice.slicePartIndex v) Q E s := by
  cases p with
  | none => exact slicePart_none h
  | int i t => exact slicePart_int h
theorem sliceApplied_gen {sl : Addr} {vl vu : Value} {lo hi : Option Int} {n : Nat} {Q : Int × Int × Nat → Shared → Prop} (hs : s.heap.IsSliceOf sl vl vu .none) (pl : IsPart vl lo) (pu : IsPart vu hi)
    (h : Q (((sIx n 0 lo : Nat) : Int), 1, sIx n n hi - sIx n 0 lo) s) : wpAny (model prog w) A (Builtin.Slice.sliceApplied (.ref sl) (pure (n : Int))) Q E s := by
  obtain ⟨os, hos, hcs, hds⟩ := id hs
  unfold Builtin.Slice.sliceApplied Builtin.Slice.sliceFields
  refine wpAny_bind (wpAny_bind (wpAny_field hos hds (x := vl) rfl (wpAny_bind (wpAny_field hos hds (x := vu) rfl (wpAny_bind (wpAny_field hos hds (x := .none) rfl (wpAny_pure ?_)))))))
  refine wpAny_bind (slicePart_none ?_)
  show wpAny _ _ (if ((1 : Int) == 0) = true then _ else _) _ _ s
  rw [if_neg (by decide)]
  refine wpAny_bind (Vn pl (wpAny_bind (Vn pu (wpAny_bind (wpAny_pure ?_)))))
  show wpAny _ _ (match Builtin.Slice.sliceAdjust lo hi 1 (n : Int) with | (lo, hi) => pure (lo, (1 : Int), Builtin.Slice.slicePlaces lo hi 1)) _ _ s
  rw [Kz lo hi n]
  show wpAny _ _ (pure (((sIx n 0 lo : Nat) : Int), (1 : Int), Builtin.Slice.slicePlaces ((sIx n 0 lo : Nat) : Int) ((sIx n n hi : Nat) : Int) 1)) _ _ s
  rw [Ks]
  exact wpAny_pure h
theorem YQ (xs : Array Value) (i k : Nat) : ((List.range k).filterMap fun (m : Nat) => xs[((i : Int) + (m : Int) * 1).toNat]?).toArray = ((xs.toList.drop i).take k).toArray := by
  have e : (fun (m : Nat) => xs[((i : Int) + (m : Int) * 1).toNat]?) = fun m => xs[i + m]? := by
    funext m
    have : ((i : Int) + (m : Int) * 1).toNat = i + m := by omega
    rw [this]
  rw [e]
  have := pick_run xs i k
  rw [List.filterMap_map] at this
  have e2 : ((fun x => xs[x]?) ∘ fun x => i + x) = fun m => xs[i + m]? := rfl
  rw [e2] at this
  rw [this]

theorem getItem_tuple_cut {t sl : Addr} {items : Array Value} {vl vu : Value} {lo hi : Option Int} {Q : Value → Shared → Prop} (ht : IsTup s.heap t items) (hs : s.heap.IsSliceOf sl vl vu .none) (pl : IsPart vl lo) (pu : IsPart vu hi)
    (hw : ¬ (sIx items.size 0 lo = 0 ∧ sIx items.size items.size hi = items.size))
    (h : Q (.ref s.heap.objs.size) { s with heap := s.heap.push { cls := .type "tuple", data := .seq ((items.toList.drop (sIx items.size 0 lo)).take (sIx items.size items.size hi - sIx items.size 0 lo)).toArray } })
    (hsz : items.size ≤ sizeLine) : wpAny (model prog w) A (getItem (.ref t) (.ref sl)) Q E s := by
  have htake : sizeOk (.seq ((items.toList.drop (sIx items.size 0 lo)).take (sIx items.size items.size hi - sIx items.size 0 lo)).toArray) := by
    show ((items.toList.drop (sIx items.size 0 lo)).take (sIx items.size items.size hi - sIx items.size 0 lo)).toArray.size ≤ sizeLine
    rw [List.size_toArray, List.length_take, List.length_drop, Array.length_toList]
    omega
  have hj : sIx items.size items.size hi ≤ items.size := G9 _ _ (Nat.le_refl _) hi
  obtain ⟨os, hos, hcs, hds⟩ := id hs
  have hTs : s.TypeIs (.ref sl) "slice" := ⟨os, hos, hcs⟩
  unfold getItem
  try with_reducible refine wpAny_holding ?_
  first | refine wpAny_bind (wpAny_pure ?_) | skip
  refine wpAny_bind (wpAny_sequenceKey ht.typeIs (by decide) ?_)
  refine wpAny_bind (wpAny_callSpecial?_slot (name := Str.ofString "__getitem__") ht.typeIs PyProof.Rows.slot_tuple_getitem
    (wpAny_call_entry PyProof.Rows.slot_tuple_getitem ht.typeIs entry_tuple_getitem ?_ (args_tuple_getitem _ _)))
  show wpAny _ _ (Builtin.Tuple.tupleItemsOf (.ref t) >>= _) _ _ s
  refine wpAny_bind (tupleItemsOf_ ht ?_)
  refine wpAny_bind (wpAny_typeOf hTs ?_)
  rw [if_pos (by decide)]
  refine wpAny_bind (sliceApplied_gen hs pl pu ?_)
  have hno : ¬ ((((sIx items.size 0 lo : Nat) : Int) == 0 && (1 : Int) == 1 && (sIx items.size items.size hi - sIx items.size 0 lo) == items.size) = true) := by
    intro q
    rw [Bool.and_eq_true, Bool.and_eq_true] at q
    have q1 : ((sIx items.size 0 lo : Nat) : Int) = 0 := eq_of_beq q.1.1
    have q2 : sIx items.size items.size hi - sIx items.size 0 lo = items.size := eq_of_beq q.2
    exact hw ⟨by omega, by omega⟩
  show wpAny _ _ (if (((sIx items.size 0 lo : Nat) : Int) == 0 && (1 : Int) == 1 && (sIx items.size items.size hi - sIx items.size 0 lo) == items.size) = true then _ else _) _ _ s
  rw [if_neg hno, YQ]
  first
    | exact wpAny_bind (m := Builtin.Tuple.tupleExact _) (wpAny_newObj_type (wpAny_pure ⟨_, rfl, wpAny_pure h⟩) htake)
    | exact wpAny_bind (m := Builtin.Tuple.tupleExact _) (wpAny_newObj_type (wpAny_bind (wpAny_pure (wpAny_pure ⟨_, rfl, wpAny_pure h⟩))) htake)
    | exact wpAny_bind (wpAny_bind (m := Builtin.Tuple.tupleExact _) (wpAny_newObj_type (wpAny_pure (wpAny_pure ⟨_, rfl, wpAny_pure h⟩)) htake))
    | exact wpAny_bind (wpAny_bind (m := Builtin.Tuple.tupleExact _) (wpAny_newObj_type (wpAny_pure ⟨_, rfl, wpAny_pure h⟩) htake))
end
end HT

namespace L2
open PySem PySem.Spec PyProof.Rows

noncomputable abbrev TO := St → Hp → (Option Int → Hp → Prop) → Prop
noncomputable def PO (X : Cx) (e : Option Expr) (t : TO) : Prop :=
  ∀ (pins : List (Addr × Obj)) (s : Shared) (σ : St) (H : Hp) (Q : Option Int → Hp → Prop), Inv X pins σ H s → t σ H Q →
    wpAny (model X.prog X.w) X.A (evalPart e X.env) (fun u s' => ∃ o H', Inv X pins σ H' s' ∧ IsPart u o ∧ Q o H') X.xe s
noncomputable def Um : TO := fun _ H Q => Q none H
noncomputable def QaM (t : TE) : TO := fun σ H Q => t σ H fun x H1 => ∃ i, x = .int i ∧ Q (some i) H1

section
variable {X : Cx} {e : Expr} {te : TE} {lo hi : Option Expr} {tl th : TO} {pos p2 : Pos}

theorem Uu : PO X none Um := by
  intro pins s σ H Q I h
  rw [evalPart_none]
  exact wpAny_pure ⟨none, H, I, .none, h⟩
theorem W6 (h : PE X e te) : PO X (some e) (QaM te) := by
  intro pins s σ H Q I hw
  rw [evalPart_some]
  refine thn (h pins s σ H _ I hw) fun u s1 ⟨x, H1, I1, r1, q1⟩ => ?_
  obtain ⟨i, rfl, q⟩ := q1
  obtain ⟨t, rfl⟩ := r1
  exact ⟨some i, H1, I1, .int i t, q⟩

noncomputable def SlR (X : Cx) (r : V → Option Int → Option Int → Hp → VK → Prop) : Prop :=
  ∀ (pins : List (Addr × Obj)) (s : Shared) (σ : St) (H : Hp) (x : V) (v vl vu : Value) (lo hi : Option Int) (sl : Addr) (Q : VK), Inv X pins σ H s → RelV x v → s.heap.IsSliceOf sl vl vu .none → IsPart vl lo → IsPart vu hi → r x lo hi H Q →
    ∃ T id, typeLookup (.type T) "__getitem__" = pure (some (.builtin id)) ∧ s.TypeIs v T ∧ wpAny (model X.prog X.w) X.A (getItem v (.ref sl)) (EP X pins σ Q) X.xe s
theorem SlR.or {r r' : V → Option Int → Option Int → Hp → VK → Prop} (h : SlR X r) (h' : SlR X r') : SlR X (fun x lo hi H Q => r x lo hi H Q ∨ r' x lo hi H Q) := by
  intro pins s σ H x v vl vu lo hi sl Q I rx hs pl pu q
  rcases q with q | q
  · exact h pins s σ H x v vl vu lo hi sl Q I rx hs pl pu q
  · exact h' pins s σ H x v vl vu lo hi sl Q I rx hs pl pu q
noncomputable def tSl (r : V → Option Int → Option Int → Hp → VK → Prop) (te : TE) (tl th : TO) : TE := fun σ H Q => te σ H fun x H1 => tl σ H1 fun l H2 => th σ H2 fun u H3 => r x l u H3 Q
theorem Ww {r : V → Option Int → Option Int → Hp → VK → Prop} (hr : SlR X r) (he : PE X e te) (hl : PO X lo tl) (hu : PO X hi th) : PE X (.Subscript e (.Slice lo hi none p2) pos) (tSl r te tl th) := by
  intro pins s σ H Q I h
  refine Subscript_ (thn (he pins s σ H _ I h) fun v s1 ⟨x, H1, I1, r1, q1⟩ => ?_)
  refine wpAny_Slice (thn (hl pins s1 σ H1 _ I1 q1) fun vl s2 ⟨l, H2, I2, pl, q2⟩ => thn (hu pins s2 σ H2 _ I2 q2) fun vu s3 ⟨u, H3, I3, pu, q3⟩ => ?_)
  rw [evalPart_none]
  refine wpAny_pure ?_
  have I4 : Inv X pins σ H3 { s3 with heap := s3.heap.push { cls := .type "slice", data := .fields #[vl, vu, .none] } } := I3.kept (t' := s3.toks) fun b ob q => Heap.get?_push_of_some _ q
  obtain ⟨T, id, hT, ht, hg⟩ := hr pins { s3 with heap := s3.heap.push { cls := .type "slice", data := .fields #[vl, vu, .none] } } σ H3 x v vl vu l u s3.heap.objs.size Q I4 r1 (Heap.IsSliceOf.new ..) pl pu q3
  show wpAny (model X.prog X.w) X.A (subscriptTail e (.Slice lo hi none p2) v (.ref s3.heap.objs.size)) (EP X pins σ Q) X.xe { s3 with heap := s3.heap.push { cls := .type "slice", data := .fields #[vl, vu, .none] } }
  exact tail_any (ops := [.ref s3.heap.objs.size, v]) ht hT hg (by with_unfolding_all rfl)

noncomputable def Ws (xs : List V) (lo hi : Option Int) : List V := (xs.drop (HT.sIx xs.length 0 lo)).take (HT.sIx xs.length xs.length hi - HT.sIx xs.length 0 lo)
theorem JO (xs : List V) (lo hi : Option Int) : (Ws xs lo hi).length ≤ xs.length := by
  unfold Ws
  rw [List.length_take, List.length_drop]
  omega
noncomputable def Qb4 (K : PySem.W.Frag) : V → Option Int → Option Int → Hp → VK → Prop := fun x lo hi H Q => ∃ a xs, x = .ref a ∧ SqT K H a xs ∧
  ¬ (HT.sIx xs.length 0 lo = 0 ∧ HT.sIx xs.length xs.length hi = xs.length) ∧ ∀ p, H p = none → Q (.ref p) (upd H p (.tup (Ws xs lo hi)))
theorem Gb : SlR X (Qb4 X.K) := by
  intro pins s σ H x v vl vu lo hi sl Q I rx hs pl pu h
  obtain ⟨a, xs, rfl, hx, hw, q⟩ := h
  cases rx
  obtain ⟨its, r, ht, hz⟩ := I.tuple hx
  have hlen : its.toArray.size = xs.length := by rw [List.size_toArray]; exact r.length.symm
  refine ⟨"tuple", _, PyProof.Rows.slot_tuple_getitem.lookup, ht.typeIs, ?_⟩
  refine HT.getItem_tuple_cut ht hs pl pu (by rw [hlen]; exact hw) ?_ (by rw [hlen]; exact hz)
  rw [hlen]
  refine ⟨.ref s.heap.objs.size, _, I.laid (t' := s.toks) (o := .tup (Ws xs lo hi)) (fun b ob q => Heap.get?_push_of_some _ q) (Nat.le_refl _) ?_, rfl, q _ (I.hok.fresh (Nat.le_refl _))⟩
  exact ⟨Nat.le_trans (JO xs lo hi) hz, _, (r.drop (HT.sIx xs.length 0 lo)).take (HT.sIx xs.length xs.length hi - HT.sIx xs.length 0 lo), IsTup.new _ _⟩

noncomputable def QaG (K : PySem.W.Frag) : R2 := fun x y H Q => ∃ a b xs ys, x = .ref a ∧ y = .ref b ∧ SqT K H a xs ∧ SqT K H b ys ∧ xs ≠ [] ∧ xs.length + ys.length ≤ sizeLine ∧
  (ys = [] → Q (.ref a) H) ∧ (ys ≠ [] → ∀ p, H p = none → Q (.ref p) (upd H p (.tup (xs ++ ys))))
theorem Vals.nil_iff {xs : List V} {us : List Value} (r : Vals xs us) : us = [] ↔ xs = [] := by
  cases r with
  | nil => simp
  | cons _ _ => simp
theorem W5 : OpR X (binaryOp .Add) (QaG X.K) := by
  intro pins s σ H x y v u Q I rx ry h
  obtain ⟨a, b, xs, ys, rfl, rfl, ha, hb, hx, hz, q1, q2⟩ := h
  cases rx
  cases ry
  obtain ⟨its, r1, p1, _⟩ := I.tuple ha
  obtain ⟨its2, r2, p2, _⟩ := I.tuple hb
  refine HT.cat_tup p1 p2 (fun z => hx (r1.nil_iff.mp z)) (fun z => ⟨.ref a, H, I, rfl, q1 (r2.nil_iff.mp z)⟩) (fun z => ?_) (by rw [← r1.length, ← r2.length]; exact hz)
  refine ⟨.ref s.heap.objs.size, _, I.laid (t' := s.toks) (o := .tup (xs ++ ys)) (fun b ob q => Heap.get?_push_of_some _ q) (Nat.le_refl _) ?_, rfl, q2 (fun w => z (r2.nil_iff.mpr w)) _ (I.hok.fresh (Nat.le_refl _))⟩
  exact ⟨by rw [List.length_append]; exact hz, _, r1.append r2, IsTup.new _ _⟩
end
end L2

namespace L2
open PySem PySem.Spec PyProof.Rows

noncomputable def ixN (n : Nat) (i : Int) : Option Nat := if 0 ≤ i then (if i < n then some i.toNat else none) else if -(n : Int) ≤ i then some (i + n).toNat else none
noncomputable def atI {α : Type} (xs : List α) (i : Int) : Option α := (ixN xs.length i).bind fun j => xs[j]?
theorem Uc {n : Nat} {i : Int} {j : Nat} (h : ixN n i = some j) : seqIndex? i n = some j ∧ j < n ∧ -(n : Int) ≤ i ∧ i < n := by
  unfold ixN at h
  by_cases h0 : 0 ≤ i
  · rw [if_pos h0] at h
    by_cases h1 : i < n
    · rw [if_pos h1] at h
      have e : i.toNat = j := Option.some.inj h
      exact ⟨by rw [seqIndex_of h0 h1, e], by omega, by omega, h1⟩
    · rw [if_neg h1] at h; cases h
  · rw [if_neg h0] at h
    by_cases h1 : -(n : Int) ≤ i
    · rw [if_pos h1] at h
      have e : (i + n).toNat = j := Option.some.inj h
      exact ⟨by rw [seqIndex_neg (by omega) h1, e], by omega, h1, by omega⟩
    · rw [if_neg h1] at h; cases h
theorem XG {α : Type} {xs : List α} {i : Int} {v : α} (h : atI xs i = some v) : ∃ j, seqIndex? i xs.length = some j ∧ xs[j]? = some v ∧ j < xs.length ∧ -(xs.length : Int) ≤ i ∧ i < xs.length := by
  unfold atI at h
  cases e : ixN xs.length i with
  | none => rw [e] at h; cases h
  | some j =>
    rw [e] at h
    obtain ⟨h1, h2, h3, h4⟩ := Uc e
    exact ⟨j, h1, h, h2, h3, h4⟩
theorem Ut {α : Type} {xs : List α} {j : Nat} {v : α} (h : xs[j]? = some v) : atI xs (j : Int) = some v := by
  have hj : j < xs.length := (List.getElem?_eq_some_iff.mp h).1
  have e : ixN xs.length (j : Int) = some j := by
    unfold ixN
    rw [if_pos (by omega), if_pos (by omega)]; simp
  unfold atI; rw [e]; exact h
noncomputable def KM (b : Expr) : Prop := ∀ o i, subscripted b false o i = operate [o, i] (getItem o i)
noncomputable def IxR (X : Cx) (r : R2) : Prop :=
  ∀ (value slice : Expr) (pins : List (Addr × Obj)) (s : Shared) (σ : St) (H : Hp) (x y : V) (v u : Value) (Q : VK), Inv X pins σ H s → RelV x v → RelV y u → r x y H Q →
    subscripted slice false v u = operate [v, u] (getItem v u) → wpAny (model X.prog X.w) X.A (subscriptTail value slice v u) (EP X pins σ Q) X.xe s
noncomputable def MtR (X : Cx) (id : String) (r : V → List V → Hp → VK → Prop) : Prop :=
  ∀ (pins : List (Addr × Obj)) (s : Shared) (σ : St) (H : Hp) (x : V) (xs : List V) (v : Value) (us : List Value) (Q : VK), Inv X pins σ H s → RelV x v → Vals xs us → r x xs H Q →
    wpAny (model X.prog X.w) X.A (call (.builtin id) (v :: us)) (EP X pins σ Q) X.xe s
section
variable {X : Cx} {a b : Expr} {ta tb : TE} {pos : Pos}
theorem IxR.or {r r' : R2} (h : IxR X r) (h' : IxR X r') : IxR X (fun x y H Q => r x y H Q ∨ r' x y H Q) := by
  intro value slice pins s σ H x y v u Q I rx ry q hs
  rcases q with q | q
  · exact h value slice pins s σ H x y v u Q I rx ry q hs
  · exact h' value slice pins s σ H x y v u Q I rx ry q hs
theorem Qa9 {r : R2} (hr : IxR X r) (ha : PE X a ta) (hb : PE X b tb) (hs : KM b) : PE X (.Subscript a b pos) (tOp r ta tb) := by
  intro pins s σ H Q I h
  exact Subscript_ (Qa4 ha hb I h fun v u s2 x y H2 I2 rx ry q => hr a b pins s2 σ H2 x y v u Q I2 rx ry q (hs _ _))

noncomputable def QbG (K : PySem.W.Frag) : R2 := fun x y H Q => ∃ p xs i v, x = .ref p ∧ y = .int i ∧ SqL K H p xs ∧ atI xs i = some v ∧ Q v H
noncomputable def Qbq (K : PySem.W.Frag) : R2 := fun x y H Q => ∃ p xs i v, x = .ref p ∧ y = .int i ∧ SqT K H p xs ∧ atI xs i = some v ∧ Q v H
noncomputable def Qby : R2 := fun x y H Q => ∃ z i c, x = .str z ∧ y = .int i ∧ z.length ≤ sizeLine ∧ atI z.cps.toList i = some c ∧ Q (.str ⟨#[c]⟩) H
theorem ix_list : IxR X (QbG X.K) := by
  intro value slice pins s σ H x y v u Q I rx ry h hs
  obtain ⟨p, xs, i, z, rfl, rfl, hq, he, q⟩ := h
  cases rx
  obtain ⟨t, rfl⟩ := ry
  obtain ⟨its, r, pl, hz⟩ := I.list hq
  obtain ⟨j, h1, h2, h3, h4, h5⟩ := XG he
  obtain ⟨w, ew, rw'⟩ := r.get h2
  have hl := r.length
  have hn := Xr
  have fin : EP X pins σ Q w s := ⟨z, H, I, rw', q⟩
  by_cases h0 : 0 ≤ i
  · have hj : i.toNat = j := by
      rw [seqIndex_of h0 h5] at h1
      exact Option.some.inj h1
    exact item_listR pl.isList h0 (by omega) (by rw [hj]; simpa using ew) fin hs
  · have hj : (i + (its.toArray.size : Int)).toNat = j := by
      rw [seqIndex_neg (by omega) h4] at h1
      rw [List.size_toArray, ← hl]
      exact Option.some.inj h1
    exact subscriptTail_builtinR (x := w) pl.isList.typeIs slot_list_getitem.lookup
      (wpAny_getItem_list_neg (Q := fun r s' => r = w ∧ EP X pins σ Q r s') pl.isList (by omega) (by rw [List.size_toArray] <;> omega) (by omega) (by rw [hj]; simpa using ew) ⟨rfl, fin⟩) hs
theorem ix_tup : IxR X (Qbq X.K) := by
  intro value slice pins s σ H x y v u Q I rx ry h hs
  obtain ⟨p, xs, i, z, rfl, rfl, hq, he, q⟩ := h
  cases rx
  obtain ⟨t, rfl⟩ := ry
  obtain ⟨its, r, pl, hz⟩ := I.tuple hq
  obtain ⟨j, h1, h2, h3, h4, h5⟩ := XG he
  obtain ⟨w, ew, rw'⟩ := r.get h2
  have hl := r.length
  have hn := Xr
  have fin : EP X pins σ Q w s := ⟨z, H, I, rw', q⟩
  exact subscriptTail_builtinR (x := w) pl.typeIs slot_tuple_getitem.lookup
    (getItem_tuple (j := j) (Q := fun r s' => r = w ∧ EP X pins σ Q r s') pl (by omega) (by omega) (by rw [List.size_toArray, ← hl]; exact h1) (by simpa using ew) ⟨rfl, fin⟩) hs
theorem GF : IxR X Qby := by
  intro value slice pins s σ H x y v u Q I rx ry h hs
  obtain ⟨z, i, c, rfl, rfl, hz, he, q⟩ := h
  obtain ⟨t, rfl⟩ := rx
  obtain ⟨t', rfl⟩ := ry
  obtain ⟨j, h1, h2, h3, h4, h5⟩ := XG he
  have hl : z.cps.toList.length = z.length := by simp [Str.length]
  rw [hl] at h1 h4 h5
  have hn := Xr
  exact tail_any (typeIs_str s z t) slot_str_getitem.lookup (getItem_str (c := c) (by
    have e1 : decide (i < -(2 ^ 63 : Int)) = false := decide_eq_false (by omega)
    have e2 : decide (i ≥ 2 ^ 63) = false := decide_eq_false (by omega)
    rw [e1, e2, Bool.or_false]) (by rw [h1]; simpa using h2) ⟨.str ⟨#[c]⟩, H, I.tok _, ⟨_, rfl⟩, q⟩) hs
noncomputable def rIx (K : PySem.W.Frag) : R2 := fun x y H Q => QbG K x y H Q ∨ Qbq K x y H Q ∨ Qby x y H Q
theorem GH : IxR X (rIx X.K) := ix_list.or (ix_tup.or GF)

theorem Xl (lo hi : Option Int) (n : Nat) : (sliceBounds lo hi none n).1 = ((HT.sIx n 0 lo : Nat) : Int) ∧ (sliceBounds lo hi none n).2.1 = ((HT.sIx n n hi : Nat) : Int) ∧ (sliceBounds lo hi none n).2.2 = 1 := by
  refine ⟨?_, ?_, rfl⟩
  · cases lo with
    | none => simp [sliceBounds, HT.sIx]
    | some i =>
      simp only [sliceBounds, HT.sIx, Option.getD_none, show (1 : Int) > 0 by decide, if_true]
      by_cases h : i < 0
      · simp only [h, if_true] <;> omega
      · simp only [h, if_false] <;> omega
  · cases hi with
    | none => simp [sliceBounds, HT.sIx]
    | some i =>
      simp only [sliceBounds, HT.sIx, Option.getD_none, show (1 : Int) > 0 by decide, if_true]
      by_cases h : i < 0
      · simp only [h, if_true] <;> omega
      · simp only [h, if_false] <;> omega
theorem VH (its : List Value) (lo hi : Option Int) : slicePick its.toArray lo hi none = ((its.drop (HT.sIx its.length 0 lo)).take (HT.sIx its.length its.length hi - HT.sIx its.length 0 lo)).toArray := by
  obtain ⟨h1, h2, h3⟩ := Xl lo hi its.toArray.size
  unfold slicePick
  rw [h1, h2, h3]
  simp only [sliceRange_one, pick_run, List.size_toArray] <;> rfl
noncomputable def QcH (K : PySem.W.Frag) : V → Option Int → Option Int → Hp → VK → Prop := fun x lo hi H Q => ∃ a xs, x = .ref a ∧ SqL K H a xs ∧ ∀ p, H p = none → Q (.ref p) (upd H p (.lst (Ws xs lo hi)))
theorem sl_list : SlR X (QcH X.K) := by
  intro pins s σ H x v vl vu lo hi sl Q I rx hs pl pu h
  obtain ⟨a, xs, rfl, hx, q⟩ := h
  cases rx
  obtain ⟨its, r, ht, hz⟩ := I.list hx
  have hlen := r.length
  refine ⟨"list", _, slot_list_getitem.lookup, ht.isList.typeIs, ?_⟩
  refine wpAny_getItem_list_slice ht.isList hs pl pu .none (by simp) ?_ (by rw [List.size_toArray] <;> omega)
  rw [VH, ← hlen]
  refine ⟨.ref s.heap.objs.size, _, I.laid (t' := s.toks) (o := .lst (Ws xs lo hi)) (fun b ob q => Heap.get?_push_of_some _ q) (Nat.le_refl _) ?_, rfl, q _ (I.hok.fresh (Nat.le_refl _))⟩
  exact ⟨Nat.le_trans (JO xs lo hi) hz, _, 0, (r.drop (HT.sIx xs.length 0 lo)).take (HT.sIx xs.length xs.length hi - HT.sIx xs.length 0 lo), Heap.get?_push_size _ rfl⟩

noncomputable def Uv : V → Bool
  | .non => true
  | .bl _ => true
  | .int _ => true
  | .str _ => true
  | _ => false
noncomputable def eqV : V → V → Bool
  | .non, .non => true
  | .bl a, .bl b => a == b
  | .bl a, .int b => (if a then 1 else 0) == b
  | .int a, .bl b => a == (if b then 1 else 0)
  | .int a, .int b => a == b
  | .str a, .str b => a == b
  | _, _ => false
theorem GK {A : Around} {s : Shared} {y x : V} {u v : Value} (ry : RelV y u) (rx : RelV x v) (fy : Uv y = true) (fx : Uv x = true) : SeqAt.EqAt A s u v (eqV y x) := by
  cases y with
  | non =>
    cases ry
    cases x with
    | non => cases rx; exact SeqAt.EqAt.same _
    | bl b => cases rx; exact SeqAt.EqAt.none_bool b
    | int b => obtain ⟨t, rfl⟩ := rx; exact SeqAt.EqAt.none_int b t
    | str b => obtain ⟨t, rfl⟩ := rx; exact SeqAt.EqAt.none_str b t
    | _ => exact absurd (show false = true from fx) Bool.false_ne_true
  | bl a =>
    cases ry
    cases x with
    | non => cases rx; exact SeqAt.EqAt.bool_none a
    | bl b => cases rx; exact SeqAt.EqAt.bool_bool a b
    | int b => obtain ⟨t, rfl⟩ := rx; exact SeqAt.EqAt.bool_int a b t
    | str b => obtain ⟨t, rfl⟩ := rx; exact SeqAt.EqAt.bool_str a b t
    | _ => exact absurd (show false = true from fx) Bool.false_ne_true
  | int a =>
    obtain ⟨t', rfl⟩ := ry
    cases x with
    | non => cases rx; exact SeqAt.EqAt.int_none a t'
    | bl b => cases rx; exact SeqAt.EqAt.int_bool a t' b
    | int b => obtain ⟨t, rfl⟩ := rx; exact SeqAt.EqAt.int_int a t' b t
    | str b => obtain ⟨t, rfl⟩ := rx; exact SeqAt.EqAt.int_str a t' b t
    | _ => exact absurd (show false = true from fx) Bool.false_ne_true
  | str a =>
    obtain ⟨t', rfl⟩ := ry
    cases x with
    | non => cases rx; exact SeqAt.EqAt.str_none a t'
    | bl b => cases rx; exact SeqAt.EqAt.str_bool a t' b
    | int b => obtain ⟨t, rfl⟩ := rx; exact SeqAt.EqAt.str_int a t' b t
    | str b => obtain ⟨t, rfl⟩ := rx; exact SeqAt.EqAt.str_str a t' b t
    | _ => exact absurd (show false = true from fx) Bool.false_ne_true
  | _ => exact absurd (show false = true from fy) Bool.false_ne_true
theorem call_len_seq : CallR X (.builtin "len") (fun xs H Q => ∃ p ys, xs = [.ref p] ∧ (SqL X.K H p ys ∨ SqT X.K H p ys) ∧ Q (.int ys.length) H) := by
  intro pins s σ H xs us Q I r h
  obtain ⟨p, ys, rfl, hq, q⟩ := h
  obtain ⟨u, rfl, rx⟩ := KB r
  cases rx
  have hn := Xr
  rcases hq with hq | hq
  · obtain ⟨its, r', pl, hz⟩ := I.list hq
    have hlen := r'.length
    exact Calls.call_len_list pl.isList (by simp only [List.size_toArray] <;> omega) ⟨.int ys.length, H, I.tok _, ⟨s.toks + 1, by rw [List.size_toArray, hlen]⟩, q⟩
  · obtain ⟨its, r', pl, hz⟩ := I.tuple hq
    have hlen := r'.length
    exact len_tuple pl (by simp only [List.size_toArray] <;> omega) ⟨.int ys.length, H, I.tok _, ⟨s.toks + 1, by rw [List.size_toArray, hlen]⟩, q⟩
theorem V9 : CallR X (.builtin "len") (fun xs H Q => ∃ z, xs = [.str z] ∧ z.length ≤ sizeLine ∧ Q (.int z.length) H) := by
  intro pins s σ H xs us Q I r h
  obtain ⟨z, rfl, hz, q⟩ := h
  obtain ⟨u, rfl, t, rfl⟩ := KB r
  have hn := Xr
  exact len_str (by omega) ⟨.int z.length, H, I.tok _, ⟨_, rfl⟩, q⟩
theorem CallR.or {f : Value} {r r' : List V → Hp → VK → Prop} (h : CallR X f r) (h' : CallR X f r') : CallR X f (fun xs H Q => r xs H Q ∨ r' xs H Q) := by
  intro pins s σ H xs us Q I rs q
  rcases q with q | q
  · exact h pins s σ H xs us Q I rs q
  · exact h' pins s σ H xs us Q I rs q
theorem V5 : CallR X (.type "list") (fun xs H Q => ∃ p ys, xs = [.ref p] ∧ (SqL X.K H p ys ∨ SqT X.K H p ys) ∧ ∀ l, H l = none → Q (.ref l) (upd H l (.lst ys))) := by
  intro pins s σ H xs us Q I r h
  obtain ⟨p, ys, rfl, hq, q⟩ := h
  obtain ⟨u, rfl, rx⟩ := KB r
  cases rx
  have fin : ∀ (its : List Value), Vals ys its → ys.length ≤ sizeLine → ∀ (h' : Heap) (c' : Nat), (∀ b o', s.heap.get? b = some o' → h'.get? b = some o') →
      h'.get? s.heap.objs.size = some { cls := .type "list", dict := none, data := .seq its.toArray c', slots := #[] } → EP X pins σ Q (.ref s.heap.objs.size) { s with heap := h' } := fun its r' hz h' c' kp e =>
    ⟨.ref s.heap.objs.size, _, I.laid (t' := s.toks) kp (Nat.le_refl _) (show ObjOk X.prog X.w _ h' _ (.lst ys) from ⟨hz, its, c', r', e⟩), rfl, q _ (I.hok.fresh (Nat.le_refl _))⟩
  rcases hq with hq | hq
  · obtain ⟨its, r', pl, hz⟩ := I.list hq
    have hlen := r'.length
    obtain ⟨o, ho, hc, n, hd⟩ := pl.isList
    exact call_list_seq p (.inl rfl) ho hc hd (fun h' c' kp e => fin its r' hz h' c' kp e) (by simp only [List.size_toArray] <;> omega)
  · obtain ⟨its, r', pl, hz⟩ := I.tuple hq
    have hlen := r'.length
    obtain ⟨o, ho, hc, n, hd⟩ := pl
    exact call_list_seq p (.inr rfl) ho hc hd (fun h' c' kp e => fin its r' hz h' c' kp e) (by simp only [List.size_toArray] <;> omega)
theorem VA : CallR X (.type "tuple") (fun xs H Q => ∃ p ys, xs = [.ref p] ∧ ((SqL X.K H p ys ∧ ∀ l, H l = none → Q (.ref l) (upd H l (.tup ys))) ∨ (SqT X.K H p ys ∧ Q (.ref p) H))) := by
  intro pins s σ H xs us Q I r h
  obtain ⟨p, ys, rfl, h⟩ := h
  obtain ⟨u, rfl, rx⟩ := KB r
  cases rx
  rcases h with ⟨hq, q⟩ | ⟨hq, q⟩
  · obtain ⟨its, r', pl, hz⟩ := I.list hq
    have hlen := r'.length
    refine call_tuple_list pl.isList (fun h' kp => ?_) (by simp only [List.size_toArray] <;> omega)
    have I1 : Inv X pins σ H { s with heap := h' } := I.kept (t' := s.toks) kp
    have I2 : Inv X pins σ (upd H h'.objs.size (.tup ys)) { s with heap := h'.push { cls := .type "tuple", data := .seq its.toArray } } :=
      I1.laid (t' := s.toks) (fun b o e => Heap.get?_push_of_some _ e) (Nat.le_refl _) (show ObjOk X.prog X.w _ _ _ (.tup ys) from ⟨hz, its, r', IsTup.new _ _⟩)
    exact ⟨.ref h'.objs.size, _, I2, rfl, q _ (I1.hok.fresh (Nat.le_refl _))⟩
  · obtain ⟨its, r', pl, hz⟩ := I.tuple hq
    exact call_tuple_same pl ⟨.ref p, H, I, rfl, q⟩

noncomputable def tyV (K : PySem.W.Frag) (T : String) (x : V) (H : Hp) : Prop := match x with
  | .str _ => T = "str"
  | .int _ => T = "int"
  | .ref p => (T = "list" ∧ ∃ xs, SqL K H p xs) ∨ (T = "tuple" ∧ ∃ o, K.lookup p = some o ∧ o.cls = .type "tuple" ∧ o.dict = none) ∨
      (T = "dict" ∧ ((∃ kvs, H p = some (.dK kvs)) ∨ ∃ kvs, H p = some (.dT kvs))) ∨ (T = "set" ∧ ∃ S n, H p = some (.set S n))
  | _ => False
theorem GP {pins : List (Addr × Obj)} {σ : St} {H : Hp} {s : Shared} {T : String} {x : V} {v : Value} (I : Inv X pins σ H s) (r : RelV x v) (ty : tyV X.K T x H) :
    s.TypeIs v T ∧ ∀ a, v = .ref a → ∃ ob, s.heap.get? a = some ob ∧ ob.dict = none := by
  cases x with
  | str z =>
    obtain ⟨t, rfl⟩ := r
    cases (show T = "str" from ty)
    exact ⟨typeIs_str s z t, fun _ e => nomatch e⟩
  | int i =>
    obtain ⟨t, rfl⟩ := r
    cases (show T = "int" from ty)
    exact ⟨typeIs_int s i t, fun _ e => nomatch e⟩
  | ref p =>
    cases r
    rcases ty with ⟨rfl, xs, hq⟩ | ⟨rfl, o, hk, hc, hd⟩ | ⟨rfl, hk⟩ | ⟨rfl, S, n, hk⟩
    · obtain ⟨its, _, pl, _⟩ := I.list hq
      refine ⟨pl.isList.typeIs, fun a e => ?_⟩
      cases e
      obtain ⟨o, n, e, c, hd, _⟩ := pl
      exact ⟨o, e, hd⟩
    · refine ⟨⟨o, I.kIn p o hk, hc⟩, fun a e => ?_⟩
      cases e
      exact ⟨o, I.kIn _ o hk, hd⟩
    · have z : ∃ o, s.heap.get? p = some o ∧ o.ExactDict := by
        rcases hk with ⟨kvs, hk⟩ | ⟨kvs, hk⟩
        · obtain ⟨_, _, _, _, o, _, _, e, ex, _⟩ := I.hok p _ hk
          exact ⟨o, e, ex⟩
        · obtain ⟨_, _, _, _, o, _, _, e, ex, _⟩ := I.hok p _ hk
          exact ⟨o, e, ex⟩
      obtain ⟨o, e, ex⟩ := z
      refine ⟨⟨o, e, ex.1⟩, fun a e2 => ?_⟩
      cases e2
      exact ⟨o, e, ex.2.1⟩
    · obtain ⟨o, _, _, _, e, ex, _⟩ := I.hok p _ hk
      refine ⟨⟨o, e, ex.1⟩, fun a e2 => ?_⟩
      cases e2
      exact ⟨o, e, ex.2.1⟩
  | _ => exact False.elim ty
noncomputable def tBM (K : PySem.W.Frag) (T : String) (r : V → List V → Hp → VK → Prop) (to : TE) (t : TA) : TE := fun σ H Q => to σ H fun x H1 => tyV K T x H1 ∧ t σ H1 fun xs H2 => r x xs H2 Q
variable {o e : Expr} {es : List Expr} {to : TE} {t : TA} {name : Str} {apos cpos : Pos} {T id : String} {r : V → List V → Hp → VK → Prop}
theorem QaV (pa : PlainAttrs T) (slot : Slot T name id) (hty : typeOf (.builtin id) = pure (.type "method_descriptor")) (hm : MtR X id r) (ho : PE X o to) (ha : PA X (e :: es) t)
    (hbase : attributeBase o name X.env (eval o X.env) = eval o X.env := by rfl)
    (hfew : ((backTo cpos (starEach (e :: es) X.env)).all (fun x => !x.1) && (backToKw cpos (keywordEach [] X.env)).all (fun x => x.1.isSome)
      && decide ((e :: es).length + ([] : List Keyword).length + (if ([] : List Keyword).isEmpty then 0 else 1) < 30)) = true := by rfl)
    (hline : (apos.endLine == cpos.line) = true := by rfl) (hs : starEach (e :: es) X.env = (false, eval e X.env) :: starEach es X.env := by rfl) (hplain : (backTo cpos (starEach es X.env)).any (·.1) = false := by rfl) :
    PE X (.Call (.Attribute o name apos) (e :: es) [] cpos) (tBM X.K T r to t) := by
  intro pins s σ H Q I h
  refine wpAny_Call_method_late hbase hfew hline rfl (thn (ho pins s σ H _ I h) fun v s1 ⟨x, H1, I1, r1, ty, q1⟩ => ?_)
  obtain ⟨h1, h2⟩ := GP I1 r1 ty
  refine ⟨T, id, pa, slot, hty, h1, h2, ?_⟩
  have hA := ha cpos pins s1 σ H1 _ I1 q1
  rw [hs] at hA ⊢
  refine Calls.callWith_builtin (by show (false || (backTo cpos (starEach es X.env)).any (·.1)) = false; rw [hplain] <;> rfl) (Calls.evalArgs_plain ?_)
  exact thn hA fun us s2 ⟨vs, H2, I2, r2, q2⟩ => hm pins s2 σ H2 x vs v us Q I2 r1 r2 q2
end
end L2

namespace L2
open PySem PySem.Spec PyProof.Rows

noncomputable def MtM (X : Cx) (id : String) (r : V → List V → Hp → VK → Prop) : Prop :=
  ∀ (pins : List (Addr × Obj)) (s : Shared) (σ : St) (H : Hp) (x : V) (xs : List V) (v : Value) (us : List Value) (Q : VK), Inv X pins σ H s → RelV x v → Vals xs us → r x xs H Q →
    wpAny (model X.prog X.w) X.A (call (.builtin id) (v :: us)) (EP X pins σ Q) X.xe s

theorem Vals.one : ∀ {x : V} {us : List Value}, Vals [x] us → ∃ u, us = [u] ∧ RelV x u
  | _, _, .cons r .nil => ⟨_, rfl, r⟩
theorem Vals.eraseIdx : ∀ {xs : List V} {us : List Value} (i : Nat), Vals xs us → Vals (xs.eraseIdx i) (us.eraseIdx i)
  | _, _, _, .nil => .nil
  | _, _, 0, .cons _ t => t
  | _, _, i + 1, .cons r t => .cons r (Vals.eraseIdx i t)
section
variable {X : Cx} {pins : List (Addr × Obj)} {σ : St} {H : Hp} {s : Shared} {l b : Addr} {xs ys zs : List V}

theorem Inv.lset {its its' : List Value} {n : Nat} {f : Array Value → Array Value} {t' : Nat} (I : Inv X pins σ H s) (hH : H l = some (.lst xs))
    (e : s.heap.get? l = some { cls := .type "list", data := .seq its.toArray n }) (hf : f its.toArray = its'.toArray) (hv : Vals ys its') (hz : ys.length ≤ sizeLine) :
    Inv X pins σ (upd H l (.lst ys)) { s with heap := s.heap.update l (Obj.mapSeq f), toks := t' } := by
  have q := PySem.IsL.update e f
  rw [hf] at q
  refine I.write (x := l) (e := l) (by rw [hH]; exact trivial) (.inl rfl) (fun b' u hb hu => (Heap.get?_update_other s.heap (Obj.mapSeq f) (Ne.symm hb)).trans hu) ⟨_, q⟩ ?_
  exact ⟨hz, its', _, hv, q⟩
theorem Inv.lnew {its : List Value} {t' : Nat} (I : Inv X pins σ H s) (hv : Vals ys its) (hz : ys.length ≤ sizeLine) :
    Inv X pins σ (upd H s.heap.objs.size (.lst ys)) { s with heap := s.heap.push { cls := .type "list", data := .seq its.toArray }, toks := t' } :=
  I.laid (fun _ _ q => Heap.get?_push_of_some _ q) (Nat.le_refl _) ⟨hz, its, 0, hv, Heap.get?_push_size _ rfl⟩
theorem Inv.fresh (I : Inv X pins σ H s) : H s.heap.objs.size = none := I.hok.fresh (Nat.le_refl _)
theorem Inv.lstM (I : Inv X pins σ H s) (hH : H l = some (.lst xs)) : xs.length ≤ sizeLine ∧ ∃ (its : List Value) (n : Nat), Vals xs its ∧ xs.length = its.length ∧ s.heap.get? l = some { cls := .type "list", data := .seq its.toArray n } := by
  obtain ⟨z, its, n, r, e⟩ := I.hok l _ hH
  exact ⟨z, its, n, r, r.length, e⟩

theorem X9 {n : Nat} (h : n ≤ sizeLine) : Builtin.List.listTooLong n = false := by
  unfold Builtin.List.listTooLong
  exact decide_eq_false (by omega)
end

section
variable {X : Cx}

noncomputable def US : V → List V → Hp → VK → Prop := fun x vs H Q => ∃ l xs y, x = .ref l ∧ vs = [y] ∧ H l = some (.lst xs) ∧ xs.length < sizeLine ∧ Q .non (upd H l (.lst (xs ++ [y])))
theorem Yq : MtM X "list.append" US := by
  intro pins s σ H x vs v us Q I rx rv h
  obtain ⟨l, xs, y, rfl, rfl, hH, hz, q⟩ := h
  cases rx
  obtain ⟨u, rfl, ru⟩ := rv.one
  obtain ⟨z, its, n, r, hl, e⟩ := I.lstM hH
  refine call_meets F.slot_list_append ⟨_, e, rfl⟩ F.entry_list_append (F.args_list_append_2 _ _) (PySem.list_append l its.toArray n u (by rw [List.size_toArray]; omega)) ⟨e, ?_⟩
  refine ⟨.non, _, I.lset (its' := its ++ [u]) hH e (by simp) (r.append (.cons ru .nil)) ?_, rfl, q⟩
  rw [List.length_append, List.length_singleton]
  omega

noncomputable def WY : V → List V → Hp → VK → Prop := fun x vs H Q => ∃ l b xs zs, x = .ref l ∧ vs = [.ref b] ∧ H l = some (.lst xs) ∧ H b = some (.lst zs) ∧ xs.length + zs.length ≤ sizeLine ∧ Q .non (upd H l (.lst (xs ++ zs)))
theorem Yo : MtM X "list.extend" WY := by
  intro pins s σ H x vs v us Q I rx rv h
  obtain ⟨l, b, xs, zs, rfl, rfl, hH, hB, hz, q⟩ := h
  cases rx
  obtain ⟨u, rfl, ru⟩ := rv.one
  cases ru
  obtain ⟨z, its, n, r, hl, e⟩ := I.lstM hH
  obtain ⟨z2, its2, n2, r2, hl2, e2⟩ := I.lstM hB
  have hsz : its.toArray.size + its2.toArray.size ≤ sizeLine := by rw [List.size_toArray, List.size_toArray]; omega
  have hlong : ¬ (!its.toArray.isEmpty && Builtin.List.listTooLong (its.toArray.size + its2.toArray.size)) = true := by
    rw [X9 hsz, Bool.and_false]
    exact Bool.false_ne_true
  refine call_meets F.slot_list_extend ⟨_, e, rfl⟩ F.entry_list_extend (F.args_list_extend_2 _ _)
    (AutoSeq1.list_extend_list_list_0 l its.toArray n b its2.toArray n2 hlong (by rw [List.size_toArray]; omega) (by omega)) ⟨e, e2, ?_⟩
  refine ⟨.non, _, I.lset (its' := its ++ its2) hH e (by simp) (r.append r2) ?_, rfl, q⟩
  rw [List.length_append]
  omega

noncomputable def Qcr : R2 := fun x y H Q => ∃ l b xs zs, x = .ref l ∧ y = .ref b ∧ H l = some (.lst xs) ∧ H b = some (.lst zs) ∧ xs.length + zs.length ≤ sizeLine ∧ ∀ p, H p = none → Q (.ref p) (upd H p (.lst (xs ++ zs)))
theorem GE : OpR X (binaryOp .Add) Qcr := by
  intro pins s σ H x y v u Q I rx ry h
  obtain ⟨l, b, xs, zs, rfl, rfl, hH, hB, hz, q⟩ := h
  cases rx
  cases ry
  obtain ⟨z, its, n, r, hl, e⟩ := I.lstM hH
  obtain ⟨z2, its2, n2, r2, hl2, e2⟩ := I.lstM hB
  refine PySem.P.add_list e e2 ?_ (by rw [List.size_toArray, List.size_toArray]; omega)
  have ea : its.toArray ++ its2.toArray = (its ++ its2).toArray := by simp
  rw [ea]
  exact ⟨.ref _, _, I.lnew (t' := s.toks) (r.append r2) (by rw [List.length_append]; omega), rfl, q _ I.fresh⟩
end

section
variable {prog : Program} {w : World} {A : Around} {E : Value → Shared → Prop} {s : Shared}
end

section
variable {X : Cx}
end
end L2

namespace Att
open PySem PySem.W PySem.Calls PyProof.Rows

theorem JZ {P : Params} {h : Heap} : ∀ (ns : List Int) (vs : List Value), WellAll P h vs (ns.map WData.int) → IntsAre vs ns := by
  intro ns
  induction ns with
  | nil =>
    intro vs w
    rw [List.map_nil] at w
    cases w
    exact .nil
  | cons n ns ih =>
    intro vs w
    rw [List.map_cons] at w
    cases w with
    | cons a b =>
      cases a
      exact .cons _ _ (ih _ b)

theorem Yb {l : OpenLaw} {n : Nat} (hn : l.most = some n) {P : Params} {h : Heap} {args : List WData} {vals : List Value}
    (hpre : l.row.toRowW.claim.pre args = true) (hwl : WellAll P h vals args) :
    ∃ a vs ns, vals = [Value.ref a] ∧ args = [WData.list (ns.map WData.int)] ∧ h.get? a = some { cls := .type "list", data := .seq vs.toArray } ∧ IntsAre vs ns ∧ ns.length ≤ n := by
  have hsh : WShape.hasAll [] args [.list .int] = true := (pre_splitW hpre).1
  have hc : l.pre.holds [] { args := args } = true := (pre_splitW hpre).2
  obtain ⟨d, r, rfl, h1, h2⟩ := hasAllW_cons hsh
  obtain rfl := hasAllW_nil h2
  obtain ⟨xs, rfl, h3⟩ := hasW_list h1
  obtain ⟨ns, rfl⟩ := items_int h3
  have hlen : ns.length ≤ n := by
    unfold OpenLaw.pre at hc
    have h4 : (WTm.not (.lt (.lit (.int (n : Int))) (.len (.arg 0)))).holds [] { args := [.list (ns.map .int)] } = true := by
      have h4 := (holds_andW hc).1
      rw [hn] at h4
      exact h4
    have h5 := condW_of h4 (w_not (w_lt w_lit (w_len_list (w_arg rfl))))
    rw [List.length_map] at h5
    refine Nat.le_of_not_lt fun q => ?_
    have q' : (n : Int) < ((ns.length : Nat) : Int) := by omega
    first
      | (rw [decide_eq_true q'] at h5; exact absurd h5 (by decide))
      | (simp at h5; omega)
  cases hwl with
  | cons w1 w2 =>
    cases w2
    cases w1 with
    | list ho hall => exact ⟨_, _, ns, rfl, rfl, ho, JZ ns _ hall, hlen⟩

theorem Yf (l : OpenLaw) (args : List WData) : l.row.toRowW.claim.post args (.bool true) args = true :=
  postW_of (r := l.row.toRowW) (X := (true == true))
    (show WShape.has [] (.bool true) .bool = true by first | rfl | decide | simp [WShape.has, WShape.arms, WShape.armsAll])
    (show (WTm.eq .res (.lit (.bool true))).value [] { args := args, res := some (.bool true), after := args } = some (.bool (true == true)) from w_eq_bool (w_res rfl) w_lit) rfl

theorem attach_call {l : OpenLaw} {n : Nat} {q : Program} {loose : List Str} {XP : (Str → Option Value) → Heap → Prop} {YP : World → Heap → Prop} {d : DefRec}
    (hn : l.most = some n) (hdf : d.params.defaults = [])
    (call : ∀ (w : World) (s₀ s₁ : Shared) (mg mb : Str → Option Value) (fa : Addr) (o : Obj) (pm cd doc : Value) (a : Addr) (vs : List Value) (ns : List Int),
      Ground q loose [] XP w s₀ mg mb s₁.heap → YP w s₁.heap →
      s₁.heap.get? fa = some o → o.data = .func (docDef d.name d.params d.body d.scope pm cd doc) → s₁.heap.CodeRec cd d.name → mg d.name = some (.ref fa) →
      s₁.heap.get? a = some { cls := .type "list", data := .seq vs.toArray } → IntsAre vs ns → ns.length ≤ n → s₁.gens = #[] →
      codeAny (model l.prog w) callerA (.call (.ref fa) ⟨[.ref a], []⟩) (fun r s' => r = .ok (.ret (.bool true)) ∧ OldK s₁.heap s'.heap ∧ s'.os = s₁.os ∧ AllBare s'.gens) s₁) :
    WalkO q loose XP YP l.row.toRowW d [] (fun f vs => PySem.call f vs) := by
  intro w s₀ s₁ mg mb G Y fa o pm cd doc dV kV ho hd hcd hD hmg hg args vals as hpre hlay hrd hwl hlo
  obtain rfl : dV = .none := Dflts.none hD hdf
  obtain rfl : kV = .none := Dflts.noKw hD
  obtain ⟨a, vs, ns, rfl, rfl, hobj, hints, hlen⟩ := Yb hn hpre hwl
  refine enter_call (codeAny_mono (call w s₀ s₁ mg mb fa o pm cd doc a vs ns G Y ho (fd_plain hd) hcd hmg hobj hints hlen hg) fun r s' hq => ?_)
  obtain ⟨rfl, h2, h3, h4⟩ := hq
  exact ⟨.inl ⟨.bool true, .bool true, [], rfl, fun _ => rfl, .bool true, Yf l _, fun _ => ⟨List.Pairwise.nil, fun _ hm => (nomatch hm)⟩⟩, h2, h3, h4⟩

section
variable {prog : Program} {w : World} {A : Around} {E : Value → Shared → Prop} {s : Shared} {K : Frag}

end
end Att

namespace L2
open PySem PySem.Spec PyProof.Rows

theorem VU : ∀ {vs : List Value} {ns : List Int}, IntsAre vs ns → Vals (ns.map V.int) vs
  | _, _, .nil => .nil
  | _, _, .cons n t h => .cons ⟨t, rfl⟩ (VU h)

noncomputable def QaA (H : Hp) : Prop := ∀ b, H b = none ∨ ∃ o xs, H b = some (.frz o (.lst xs))

theorem Wm {P : Program} {w : World} {K : PySem.W.Frag} {mg mb : Str → Option Value} {CX : CXT} {k : Nat} {fa a : Addr} {fd : FuncData} {x : Str} {sp : Sp} {s₁ : Shared} {vs : List Value} {ns : List Int}
    (KX : K.In s₁.heap) (hns : s₁.heap.Ns mainGlobals mg) (hb : s₁.heap.Ns builtinsNs mb) (hbb : ∀ x : Str, x ≠ "__name__" → mb x = bootBuiltins x) (hlim : s₁.heap.NoLimit) (hg : s₁.gens = #[])
    (ha : s₁.heap.get? a = some { cls := .type "list", data := .seq vs.toArray }) (hi : IntsAre vs ns) (hl : ns.length ≤ sizeLine) (hr : Room k callerA)
    (F : ∀ base : Heap, K.In base → base.Ns mainGlobals mg → FnOk P w K mg base CX k fa fd [x] sp) (hbind : ∀ (s : Shared) (u : Value), BindsTo s fd ⟨[u], []⟩ [(x, u)])
    (hsp : ∀ H : Hp, QaA H → SqL K H a (ns.map V.int) → sp [.ref a] H (fun v _ => v = .bl true) fun _ _ _ => False)
    (hCX : ∀ H e s', CX [] H s₁ (fun _ _ _ => False) e s' → False) :
    codeAny (model P w) callerA (.call (.ref fa) ⟨[.ref a], []⟩) (fun r s' => r = .ok (.ret (.bool true)) ∧ OldK s₁.heap s'.heap ∧ s'.os = s₁.os ∧ AllBare s'.gens) s₁ := by
  have rv := VU hi
  have lenV := hi.length
  -- from an abstract heap in which nothing but the script may be tracked
  have core : ∀ H : Hp, QaA H → SqL K H a (ns.map V.int) → HOk P w H s₁.heap → (∀ b, H b ≠ none → b = a) → (H a ≠ none → K.lookup a = none) →
      codeAny (model P w) callerA (.call (.ref fa) ⟨[.ref a], []⟩) (fun r s' => r = .ok (.ret (.bool true)) ∧ OldK s₁.heap s'.heap ∧ s'.os = s₁.os ∧ AllBare s'.gens) s₁ := by
    intro H hO hS hok hA hK
    have base_of : ∀ {b : Addr} {o : Obj}, s₁.heap.get? b = some o → H b = none → (YO s₁.heap H).get? b = some o := fun e n => YW e n
    have noA : ∀ {b : Addr} {o : Obj} {es : Array DictEntry} {ep : Nat}, s₁.heap.get? b = some o → o.data = .dict es ep → H b = none := fun {b o es ep} e d => by
      cases q : H b with
      | none => rfl
      | some u =>
        have e' : b = a := hA b (by rw [q]; simp)
        subst e'
        rw [ha] at e; cases e
        have d' : Data.seq vs.toArray _ = Data.dict es ep := d
        cases d'
    have nsK : ∀ {b : Addr} {m : Str → Option Value}, s₁.heap.Ns b m → (YO s₁.heap H).Ns b m := fun {b m} ⟨o, es, ep, e, d, r⟩ => ⟨o, es, ep, base_of e (noA e d), d, r⟩
    have hKb : K.In (YO s₁.heap H) := fun b o e => base_of (KX b o e) (by
      cases q : H b with
      | none => rfl
      | some u =>
        have e' : b = a := hA b (by rw [q]; simp)
        subst e'
        rw [hK (by rw [q]; simp)] at e; cases e)
    have hM : Mod K mg (YO s₁.heap H) := ⟨hKb, nsK hns, ⟨mb, nsK hb, hbb⟩, let ⟨mc, h1, h2⟩ := hlim; ⟨mc, nsK h1, h2⟩⟩
    have e0 : Env0 P w K mg (YO s₁.heap H) callerA [] s₁ H := ⟨rfl, hM, fun b o e => UU e, Nat.le_of_eq (Yy _ _), trivial, fun b hb => absurd (show b ∈ ([] : List Addr) from hb) (by simp), hok, .of_eq hg⟩
    refine codeAny_mono ((F _ hKb (nsK hns)).run callerA [] s₁ H ⟨[.ref a], []⟩ [.ref a] [.ref a] _ _ hr e0 (hbind s₁ (.ref a)) (.cons rfl .nil) (hsp H hO hS)) fun r s' h => ?_
    cases r with
    | error e => exact (hCX H e s' h).elim
    | ok fl =>
      cases fl with
      | next => exact False.elim h
      | brk => exact False.elim h
      | cont => exact False.elim h
      | ret u =>
        obtain ⟨v, H', os, bare, un, hok', r', q⟩ := h
        have q' : v = .bl true := q
        subst q'
        obtain rfl : u = Value.bool true := r'
        refine ⟨rfl, OldK.of_keep fun b o e => ?_, os, bare⟩
        cases q : H b with
        | none => exact un.keep b o e q (by intro z; exact absurd (show b ∈ ([] : List Addr) from z) (by simp)) (by simp)
        | some u =>
          rcases hO b with z | ⟨ob, xs, z⟩
          · rw [q] at z; cases z
          · have z2 := un.frzs b ob _ z
            obtain ⟨e1, _⟩ := hok b _ z
            obtain ⟨e2, _⟩ := hok' b _ z2
            rw [e] at e1; cases e1
            exact e2
  cases hk : K.lookup a with
  | some o =>
    -- the script is one of the module's own objects
    have e := KX a o hk
    rw [ha] at e
    cases e
    refine core (fun _ => none) (fun _ => .inl rfl) (.inr ⟨_, vs.toArray, _, hk, rfl, rfl, rfl, by rw [List.size_toArray, lenV]; exact hl, by simpa using rv⟩) (fun b u z => by have z' : (none : Option HO) = some u := z; cases z') (fun b z => absurd rfl z) fun z => absurd rfl z
  | none =>
    refine core (fun b => if b = a then some (.frz { cls := .type "list", data := .seq vs.toArray } (.lst (ns.map V.int))) else none) (fun b => ?_) (.inl (.inr ⟨{ cls := .type "list", data := .seq vs.toArray }, if_pos rfl⟩)) (fun b u z => ?_) (fun b z => ?_) fun _ => hk
    · by_cases hb : b = a
      · exact .inr ⟨_, _, if_pos hb⟩
      · exact .inl (if_neg hb)
    · by_cases hb : b = a
      · have z' := (if_pos hb).symm.trans z
        cases z'
        subst hb
        exact ⟨ha, by rw [List.length_map]; exact hl, vs, _, rv, ha⟩
      · have z' := (if_neg hb).symm.trans z
        cases z'
    · by_cases hb : b = a
      · exact hb
      · exact absurd (if_neg hb) z
end L2

namespace L2
open PySem PySem.Spec PyProof.Rows

noncomputable abbrev KOf {K : PySem.W.Frag} {h : Heap} (_ : K.In h) : PySem.W.Frag := K

theorem UF {l : PySem.W.OpenLaw} {n k : Nat} {q : Program} {loose : List Str} {XP : (Str → Option Value) → Heap → Prop} {YP : World → Heap → Prop} {d : DefRec} {K : Params → PySem.W.Frag} {CX : World → CXT} {sp : World → Sp} {x : Str}
    (hn : l.most = some n) (hn2 : n ≤ sizeLine) (hdf : d.params.defaults = []) (hr : Room k callerA)
    (hY : ∀ (w : World) (h : Heap), YP w h → (K w.params).In h)
    (F : ∀ (w : World) (mg : Str → Option Value) (fa : Addr) (h : Heap), (K w.params).In h → h.Ns mainGlobals mg → mg d.name = some (.ref fa) →
      ∃ fd : FuncData, (∀ (s : Shared) (u : Value), BindsTo s fd ⟨[u], []⟩ [(x, u)]) ∧
        ∀ base : Heap, (K w.params).In base → base.Ns mainGlobals mg → FnOk l.prog w (K w.params) mg base (CX w) k fa fd [x] (sp w))
    (hsp : ∀ (w : World) (H : Hp) (a : Addr) (ns : List Int), ns.length ≤ n → QaA H → SqL (K w.params) H a (ns.map V.int) → sp w [.ref a] H (fun v _ => v = .bl true) fun _ _ _ => False)
    (hCX : ∀ (w : World) (H : Hp) (s : Shared) (e : Value) (s' : Shared), CX w [] H s (fun _ _ _ => False) e s' → False) :
    PySem.W.WalkO q loose XP YP l.row.toRowW d [] (fun f vs => PySem.call f vs) := by
  refine Att.attach_call hn hdf fun w s₀ s₁ mg mb fa o pm cd doc a vs ns G Y ho hd hcd hmg hobj hints hlen hg => ?_
  have KX := hY w _ Y
  obtain ⟨fd, hb, hF⟩ := F w mg fa _ KX G.T.g hmg
  exact Wm KX G.T.g G.T.b G.T.builtins G.T.nolimit hg hobj hints (Nat.le_trans hlen hn2) hr hF hb (fun H hO hS => hsp w H a ns hlen hO hS) fun H e s' => hCX w H s₁ e s'
end L2


namespace L2
open PySem PySem.Spec PyProof.Rows

noncomputable def Jc (s : Stmt) : Arguments := match s with
  | .FunctionDef _ a _ _ _ _ _ _ _ _ => a
  | _ => { posonlyargs := [], args := [], vararg := none, kwonlyargs := [], kw_defaults := [], kwarg := none, defaults := [] }
noncomputable def Zz (s : Stmt) : List Stmt := match s with
  | .FunctionDef _ _ b _ _ _ _ _ _ _ => b
  | _ => []
noncomputable def Ql (s : Stmt) : Scope := match s with
  | .FunctionDef _ _ _ _ _ _ sc _ _ _ => sc
  | _ => { kind := .function, names := [], isGenerator := false, isCoroutine := false }

noncomputable abbrev CX0 : CXT := fun _ _ _ _ _ _ => False
noncomputable abbrev E0 : XK := fun _ _ _ => False
theorem Qa3 {X : Cx} : XZ CX0 X E0 := fun _ _ _ _ _ _ _ h => h.elim

structure Fun (K : PySem.W.Frag) (x qual : Str) (st : Stmt) (f : Addr) (fd : FuncData) : Prop where
  ex : ∃ (oc : Value) (od : Option Addr) (kV doc pm : Value) (an : Option Addr) (cdv ct : Value) (osl : Array (Option Value)),
    fd = PySem.W.fnOf x qual (Jc st) (Zz st) (Ql st) .none kV doc pm an cdv ct ∧ K.lookup f = some ⟨oc, od, .func fd, osl⟩ ∧ PySem.W.codeIn K cdv qual = true
  kp : PySem.W.keepIn K (.ref f) = true
section
variable {P : Program} {w : World} {K : PySem.W.Frag} {mg : Str → Option Value} {base : Heap}
theorem Fun.ok {x qual : Str} {st : Stmt} {f : Addr} {fd : FuncData} {N ps : List Str} {k : Nat} {sp : Sp} (F : Fun K x qual st f fd) (S : FnScope N ps (Ql st)) (len : ∀ vs H Q E, sp vs H Q E → vs.length = ps.length)
    (hbody : ∀ (cdv : Value) (A : Around) (outer : List Env) (s : Shared) (H : Hp) (vs : List V) (Q : VK) (E : XK), Room k (A.deeper (envOfC qual (Ql st) s.heap.objs.size f cdv)) → sp vs H Q E →
      ∃ t, PSs (WJ CX0 P w K mg base N qual (Ql st) f cdv A outer s H E).nox (Zz st) t ∧ t { nx := fun _ H' => Q .non H', rt := Q } (start N vs) H) : FnOk P w K mg base CX0 (k + 1) f fd ps sp := by
  obtain ⟨oc, od, kV, doc, pm, an, cdv, ct, osl, rfl, lk, hcd⟩ := F.ex
  refine Qa1 lk hcd S len fun A outer s H vs Q E hr hsp => ?_
  obtain ⟨t, h, q⟩ := hbody cdv A outer s H vs Q E hr hsp
  exact ⟨t, h.nox, q⟩
theorem Fun.binds {x qual : Str} {st : Stmt} {f : Addr} {fd : FuncData} {ps : List Str} (F : Fun K x qual st f fd)
    (h : ∀ (kV doc pm : Value) (an : Option Addr) (cdv ct : Value) (us : List Value), us.length = ps.length → bindArgs (PySem.W.fnOf x qual (Jc st) (Zz st) (Ql st) .none kV doc pm an cdv ct) ⟨us, []⟩ = pure (ps.zip us)) : Binds K fd ps [] := by
  obtain ⟨oc, od, kV, doc, pm, an, cdv, ct, osl, rfl, lk, hcd⟩ := F.ex
  exact .all (h kV doc pm an cdv ct)
theorem WF {x qual : Str} {st : Stmt} {f : Addr} {oc : Value} {od an : Option Addr} {osl : Array (Option Value)} {kV doc pm cdv ct : Value} (l : K.lookup f = some ⟨oc, od, .func (PySem.W.fnOf x qual (Jc st) (Zz st) (Ql st) .none kV doc pm an cdv ct), osl⟩)
    (c : PySem.W.codeIn K cdv qual = true) (k : PySem.W.keepIn K (.ref f) = true) : Fun K x qual st f (PySem.W.fnOf x qual (Jc st) (Zz st) (Ql st) .none kV doc pm an cdv ct) := ⟨⟨oc, od, kV, doc, pm, an, cdv, ct, osl, rfl, l, c⟩, k⟩
end
section
variable {X : Cx}
end

theorem Qag {A B : Prop} (h : B) : if false = true then A else B := by
  rw [if_neg Bool.false_ne_true]
  exact h
theorem Qaf {A B : Prop} (h : A) : if true = true then A else B := by
  rw [if_pos rfl]
  exact h
end L2

namespace L2
open PySem PySem.Spec PyProof.Rows

section
variable {κ : Type} [DecidableEq κ]
end


section
variable {P : Program} {w : World} {H : Hp} {h : Heap} {a : Addr}
end

section
variable {X : Cx} {pins : List (Addr × Obj)} {σ : St} {H : Hp} {s : Shared} {a : Addr} {y v : V} {u r : Value} {o : Option V} {A : Around} {E : Value → Shared → Prop}

end

section
variable {X : Cx} {pins : List (Addr × Obj)} {σ : St} {H : Hp} {s : Shared} {a : Addr} {kvs : List (Key × V)} {k : Key} {u : Value} {A : Around} {E : Value → Shared → Prop}
end


section
variable {X : Cx} {o i e value : Expr} {pos pos' tpos : Pos} {td ty tv : TE}
end


section
variable {X : Cx} {pos : Pos}
end

structure M1 (X : Cx) (o : Expr) (m : Str) (apos : Pos) (e : Expr) (cpos : Pos) : Prop where
  base : attributeBase o m X.env (eval o X.env) = eval o X.env
  few : ((backTo cpos (starEach [e] X.env)).all (fun x => !x.1) && (backToKw cpos (keywordEach [] X.env)).all (fun x => x.1.isSome)
    && decide (([e] : List Expr).length + ([] : List Keyword).length + (if ([] : List Keyword).isEmpty then 0 else 1) < 30)) = true
  line : (apos.endLine == cpos.line) = true
  trees : backTo cpos (starEach [e] X.env) = [(false, eval e X.env)]
structure M2 (X : Cx) (o : Expr) (m : Str) (apos : Pos) (e f : Expr) (cpos : Pos) : Prop where
  base : attributeBase o m X.env (eval o X.env) = eval o X.env
  few : ((backTo cpos (starEach [e, f] X.env)).all (fun x => !x.1) && (backToKw cpos (keywordEach [] X.env)).all (fun x => x.1.isSome)
    && decide (([e, f] : List Expr).length + ([] : List Keyword).length + (if ([] : List Keyword).isEmpty then 0 else 1) < 30)) = true
  line : (apos.endLine == cpos.line) = true
  trees : backTo cpos (starEach [e, f] X.env) = [(false, eval e X.env), (false, eval f X.env)]

section
variable {X : Cx} {pins : List (Addr × Obj)} {σ : St} {H : Hp} {s : Shared} {a : Addr} {y d : V} {u r : Value} {o : Option V} {A : Around} {E : Value → Shared → Prop}
end

section
variable {X : Cx} {o e f : Expr} {apos cpos : Pos} {td ty tx : TE}
end

section
variable {X : Cx} {pins : List (Addr × Obj)} {σ : St} {H : Hp} {s : Shared} {a : Addr} {kvs : List (Key × V)} {A : Around} {E : Value → Shared → Prop}
end


section
variable {X : Cx} {pins : List (Addr × Obj)} {σ : St} {H : Hp} {s : Shared} {a : Addr} {y : V} {u : Value} {A : Around} {E : Value → Shared → Prop}
end
end L2

namespace L2
open PySem PySem.Spec PyProof.Rows
section
variable {X : Cx}
end
section
variable {κ : Type} [DecidableEq κ]
end
end L2

namespace Mi
open PySem PySem.Spec PyProof.Rows L2

inductive W where
  | non | bl (b : Bool) | int (i : Int) | str (x : Str) | tup (ws : List W) | lst (ws : List W) | frz (ws : List W) | ref (n : Nat) | ty (n : String)
inductive MO where
  | lst (ws : List W)
  | dic (kvs : List (Key × W))
  | dct (kvs : List (W × W))
noncomputable abbrev MH := List MO
noncomputable abbrev MSt := List (Option W)

structure Rn where
  ρ : Nat → Addr
  N : Nat
  F : Hp
  G : Hp
structure Ext (R R' : Rn) : Prop where
  n : R.N ≤ R'.N
  ρ : ∀ n, n < R.N → R'.ρ n = R.ρ n
  f : ∀ a o, R.F a = some o → R'.F a = some o
  g : R'.G = R.G
theorem Ext.refl (R : Rn) : Ext R R := ⟨Nat.le_refl _, fun _ _ => rfl, fun _ _ h => h, rfl⟩
theorem Ext.trans {R R1 R2 : Rn} (a : Ext R R1) (b : Ext R1 R2) : Ext R R2 :=
  ⟨Nat.le_trans a.n b.n, fun n h => (b.ρ n (Nat.lt_of_lt_of_le h a.n)).trans (a.ρ n h), fun x o h => b.f x o (a.f x o h), b.g.trans a.g⟩

theorem QR {K : PySem.W.Frag} {F F' : Hp} (e : ∀ a o, F a = some o → F' a = some o) {a : Addr} {xs : List V} (h : SqT K F a xs) : SqT K F' a xs := by
  rcases h with (h | ⟨o, h⟩) | h
  · exact .inl (.inl (e _ _ h))
  · exact .inl (.inr ⟨o, e _ _ h⟩)
  · exact .inr h
theorem Zr {K : PySem.W.Frag} {F F' : Hp} (e : ∀ a o, F a = some o → F' a = some o) {a : Addr} {xs : List V} (h : SqL K F a xs) : SqL K F' a xs := by
  rcases h with (h | ⟨o, h⟩) | h
  · exact .inl (.inl (e _ _ h))
  · exact .inl (.inr ⟨o, e _ _ h⟩)
  · exact .inr h

section
variable (K : PySem.W.Frag)
mutual
noncomputable def Rw (R : Rn) : W → V → Prop
  | .non, v => v = .non
  | .bl b, v => v = .bl b
  | .int i, v => v = .int i
  | .str x, v => v = .str x
  | .tup ws, v => ∃ a xs, v = .ref a ∧ SqT K R.F a xs ∧ Rws R ws xs
  | .lst ws, v => ∃ a xs, v = .ref a ∧ R.F a = some (.lst xs) ∧ Rws R ws xs
  | .frz ws, v => ∃ a xs, v = .ref a ∧ SqL K R.F a xs ∧ Rws R ws xs
  | .ref n, v => n < R.N ∧ v = .ref (R.ρ n)
  | .ty n, v => v = .ty n
noncomputable def Rws (R : Rn) : List W → List V → Prop
  | [], vs => vs = []
  | w :: ws, vs => ∃ v vs', vs = v :: vs' ∧ Rw R w v ∧ Rws R ws vs'
end
end
section
variable {K : PySem.W.Frag} {R R' : Rn}
mutual
theorem Rw.mono (e : Ext R R') : ∀ (w : W) (v : V), Rw K R w v → Rw K R' w v
  | .non, _, h => by unfold Rw at h ⊢; exact h
  | .bl _, _, h => by unfold Rw at h ⊢; exact h
  | .int _, _, h => by unfold Rw at h ⊢; exact h
  | .str _, _, h => by unfold Rw at h ⊢; exact h
  | .ty _, _, h => by unfold Rw at h ⊢; exact h
  | .tup ws, _, h => by
    unfold Rw at h ⊢
    obtain ⟨a, xs, e1, e2, e3⟩ := h
    exact ⟨a, xs, e1, QR e.f e2, Rws.mono e ws xs e3⟩
  | .lst ws, _, h => by
    unfold Rw at h ⊢
    obtain ⟨a, xs, e1, e2, e3⟩ := h
    exact ⟨a, xs, e1, e.f a _ e2, Rws.mono e ws xs e3⟩
  | .frz ws, _, h => by
    unfold Rw at h ⊢
    obtain ⟨a, xs, e1, e2, e3⟩ := h
    exact ⟨a, xs, e1, Zr e.f e2, Rws.mono e ws xs e3⟩
  | .ref n, _, h => by
    unfold Rw at h ⊢
    obtain ⟨e1, e2⟩ := h
    exact ⟨Nat.lt_of_lt_of_le e1 e.n, by rw [e.ρ n e1]; exact e2⟩
theorem Rws.mono (e : Ext R R') : ∀ (ws : List W) (vs : List V), Rws K R ws vs → Rws K R' ws vs
  | [], _, h => by unfold Rws at h ⊢; exact h
  | w :: ws, _, h => by
    unfold Rws at h ⊢
    obtain ⟨v, vs', e1, e2, e3⟩ := h
    exact ⟨v, vs', e1, Rw.mono e w v e2, Rws.mono e ws vs' e3⟩
end
theorem Rws.nil_iff {vs : List V} : Rws K R [] vs ↔ vs = [] := by unfold Rws; exact Iff.rfl
theorem Rws.cons_iff {w : W} {ws : List W} {vs : List V} : Rws K R (w :: ws) vs ↔ ∃ v vs', vs = v :: vs' ∧ Rw K R w v ∧ Rws K R ws vs' := by
  constructor
  · intro h; unfold Rws at h; exact h
  · intro h; unfold Rws; exact h
theorem Rws.nil : Rws K R [] [] := Rws.nil_iff.mpr rfl
theorem Rws.cons {w : W} {ws : List W} {v : V} {vs : List V} (a : Rw K R w v) (b : Rws K R ws vs) : Rws K R (w :: ws) (v :: vs) := Rws.cons_iff.mpr ⟨v, vs, rfl, a, b⟩
theorem Rws.paired : ∀ {ws : List W} {vs : List V}, Rws K R ws vs → Paired (Rw K R) ws vs
  | [], vs, h => by rw [Rws.nil_iff] at h; subst h; exact .nil
  | w :: ws, vs, h => by
    rw [Rws.cons_iff] at h
    obtain ⟨v, vs', rfl, a, b⟩ := h
    exact .cons a (Rws.paired b)
theorem Rws.of : ∀ {ws : List W} {vs : List V}, Paired (Rw K R) ws vs → Rws K R ws vs
  | _, _, .nil => Rws.nil
  | _, _, .cons a b => Rws.cons a (Rws.of b)
theorem Rws.length {ws : List W} {vs : List V} (h : Rws K R ws vs) : ws.length = vs.length := Paired.length h.paired
theorem Rws.get : ∀ {ws : List W} {vs : List V} {i : Nat} {w : W}, Rws K R ws vs → ws[i]? = some w → ∃ v, vs[i]? = some v ∧ Rw K R w v
  | [], _, _, _, _, e => by simp at e
  | w :: ws, vs, 0, x, h, e => by
    rw [Rws.cons_iff] at h
    obtain ⟨v, vs', rfl, a, b⟩ := h
    simp at e; subst e
    exact ⟨v, by simp, a⟩
  | w :: ws, vs, i + 1, x, h, e => by
    rw [Rws.cons_iff] at h
    obtain ⟨v, vs', rfl, a, b⟩ := h
    obtain ⟨y, h1, h2⟩ := Rws.get (i := i) b (by simpa using e)
    exact ⟨y, by simpa using h1, h2⟩
theorem Rws.append : ∀ {ws us : List W} {vs xs : List V}, Rws K R ws vs → Rws K R us xs → Rws K R (ws ++ us) (vs ++ xs)
  | [], us, vs, xs, h, q => by rw [Rws.nil_iff] at h; subst h; exact q
  | w :: ws, us, vs, xs, h, q => by
    rw [Rws.cons_iff] at h
    obtain ⟨v, vs', rfl, a, b⟩ := h
    exact Rws.cons a (Rws.append b q)
theorem Rws.take : ∀ {ws : List W} {vs : List V} (n : Nat), Rws K R ws vs → Rws K R (ws.take n) (vs.take n)
  | _, _, 0, _ => by simp; exact Rws.nil
  | [], vs, n + 1, h => by rw [Rws.nil_iff] at h; subst h; simp; exact Rws.nil
  | w :: ws, vs, n + 1, h => by
    rw [Rws.cons_iff] at h
    obtain ⟨v, vs', rfl, a, b⟩ := h
    exact Rws.cons a (Rws.take n b)
theorem Rws.drop : ∀ {ws : List W} {vs : List V} (n : Nat), Rws K R ws vs → Rws K R (ws.drop n) (vs.drop n)
  | _, _, 0, h => by simpa using h
  | [], vs, n + 1, h => by rw [Rws.nil_iff] at h; subst h; simp; exact Rws.nil
  | w :: ws, vs, n + 1, h => by
    rw [Rws.cons_iff] at h
    obtain ⟨v, vs', rfl, a, b⟩ := h
    exact Rws.drop n b
theorem Rws.set : ∀ {ws : List W} {vs : List V} {w : W} {v : V} (n : Nat), Rws K R ws vs → Rw K R w v → Rws K R (ws.set n w) (vs.set n v)
  | [], vs, _, _, n, h, _ => by rw [Rws.nil_iff] at h; subst h; simp; exact Rws.nil
  | x :: ws, vs, w, v, 0, h, q => by
    rw [Rws.cons_iff] at h
    obtain ⟨y, vs', rfl, a, b⟩ := h
    exact Rws.cons q b
  | x :: ws, vs, w, v, n + 1, h, q => by
    rw [Rws.cons_iff] at h
    obtain ⟨y, vs', rfl, a, b⟩ := h
    exact Rws.cons a (Rws.set n b q)
end

noncomputable def WP : Nat → W → Option Tr
  | 0, _ => none
  | _ + 1, .int i => some (.i i)
  | _ + 1, .bl b => some (.i (if b then 1 else 0))
  | _ + 1, .str x => some (.s x)
  | n + 1, .tup ws => (ws.mapM (WP n)).map .t
  | _ + 1, _ => none
noncomputable def nrm : W → Option Tr
  | .tup ws => WP 8 (.tup ws)
  | _ => none
section
variable (K : PySem.W.Frag)
noncomputable def Ro (R : Rn) : MO → Option HO → Prop
  | .lst ws, o => ∃ xs, o = some (.lst xs) ∧ Rws K R ws xs
  | .dic kvs, o => ∃ kx : List (Key × V), o = some (.dK kx) ∧ Paired (fun p q => p.1 = q.1 ∧ Rw K R p.2 q.2) kvs kx
  | .dct kvs, o => ∃ kx : List (Tr × Addr × V), o = some (.dT kx) ∧ Paired (fun p q => Rw K R p.1 (.ref q.2.1) ∧ nrm p.1 = some q.1 ∧ Rw K R p.2 q.2.2) kvs kx
structure Rh (R : Rn) (h : MH) (H : Hp) : Prop where
  len : R.N = h.length
  sub : ∀ a o, R.F a = some o → H a = some o
  sep : ∀ n, n < R.N → R.F (R.ρ n) = none
  inj : ∀ m n, m < R.N → n < R.N → R.ρ m = R.ρ n → m = n
  obj : ∀ n o, h[n]? = some o → Ro K R o (H (R.ρ n))
  gsub : ∀ a o, R.G a = some o → H a = some o
  gsep : ∀ n, n < R.N → R.G (R.ρ n) = none
  gf : ∀ a o, R.G a = some o → R.F a = none
noncomputable def Rst (R : Rn) (σi : MSt) (σ : L2.St) : Prop := σi.length = σ.length ∧ ∀ (i : Nat) (w : W), σi[i]? = some (some w) → ∃ v, σ[i]? = some (some v) ∧ Rw K R w v
end
section
variable {K : PySem.W.Frag} {R R' : Rn} {h : MH} {H : Hp} {σi : MSt} {σ : L2.St}
theorem Ro.mono (e : Ext R R') {o : MO} {u : Option HO} (q : Ro K R o u) : Ro K R' o u := by
  cases o with
  | lst ws => obtain ⟨xs, e1, e2⟩ := q; exact ⟨xs, e1, Rws.mono e ws xs e2⟩
  | dic kvs => obtain ⟨kx, e1, e2⟩ := q; exact ⟨kx, e1, Paired.mapP e2 fun a b z => ⟨z.1, Rw.mono e _ _ z.2⟩⟩
  | dct kvs => obtain ⟨kx, e1, e2⟩ := q; exact ⟨kx, e1, Paired.mapP e2 fun a b z => ⟨Rw.mono e _ _ z.1, z.2.1, Rw.mono e _ _ z.2.2⟩⟩
theorem Ro.some {o : MO} {u : Option HO} (q : Ro K R o u) : ∃ x, u = some x := by
  cases o with
  | lst ws => obtain ⟨xs, e1, e2⟩ := q; exact ⟨_, e1⟩
  | dic kvs => obtain ⟨kx, e1, e2⟩ := q; exact ⟨_, e1⟩
  | dct kvs => obtain ⟨kx, e1, e2⟩ := q; exact ⟨_, e1⟩
theorem Rst.mono (e : Ext R R') (q : Rst K R σi σ) : Rst K R' σi σ := ⟨q.1, fun i w h => by
  obtain ⟨v, h1, h2⟩ := q.2 i w h
  exact ⟨v, h1, Rw.mono e _ _ h2⟩⟩
theorem Rst.set {i : Nat} {w : W} {v : V} (q : Rst K R σi σ) (r : Rw K R w v) : Rst K R (σi.set i (some w)) (σ.set i (some v)) := by
  refine ⟨by rw [List.length_set, List.length_set]; exact q.1, fun j u e => ?_⟩
  rw [List.getElem?_set] at e ⊢
  by_cases hij : i = j
  · subst hij
    rw [if_pos rfl] at e ⊢
    by_cases hl : i < σi.length
    · rw [if_pos hl] at e
      rw [if_pos (q.1 ▸ hl)]
      cases e
      exact ⟨v, rfl, r⟩
    · rw [if_neg hl] at e; cases e
  · rw [if_neg hij] at e ⊢
    exact q.2 j u e
theorem Rh.there (q : Rh K R h H) {n : Nat} (hn : n < R.N) : ∃ o u, h[n]? = some o ∧ H (R.ρ n) = some u := by
  have hl : n < h.length := q.len ▸ hn
  obtain ⟨u, hu⟩ := (q.obj n h[n] (List.getElem?_eq_getElem hl)).some
  exact ⟨h[n], u, List.getElem?_eq_getElem hl, hu⟩
theorem Rh.ne (q : Rh K R h H) {p : Addr} (hp : H p = none) {n : Nat} (hn : n < R.N) : R.ρ n ≠ p := fun e => by
  obtain ⟨o, u, _, hu⟩ := q.there hn
  rw [e, hp] at hu; cases hu
theorem Rh.fix (q : Rh K R h H) {p : Addr} {o : HO} (hp : H p = none) :
    Ext R { R with F := upd R.F p o } ∧ Rh K { R with F := upd R.F p o } h (upd H p o) := by
  have hF : R.F p = none := by
    cases e : R.F p with
    | none => rfl
    | some u => have := q.sub p u e; rw [hp] at this; cases this
  have x : Ext R { R with F := upd R.F p o } := ⟨Nat.le_refl _, fun _ _ => rfl, fun a u e => by
    show upd R.F p o a = some u
    rw [Qs (fun z => by rw [z, hF] at e; cases e)]; exact e, rfl⟩
  have hG : ∀ a u, R.G a = some u → a ≠ p := fun a u e z => by have := q.gsub a u e; rw [z, hp] at this; cases this
  refine ⟨x, q.len, fun a u e => ?_, fun n hn => ?_, q.inj, fun n u e => ?_, fun a u e => ?_, q.gsep, fun a u e => ?_⟩
  rotate_right 2
  · rw [Qs (hG a u e)]; exact q.gsub a u e
  · show upd R.F p o a = none
    rw [Qs (hG a u e)]; exact q.gf a u e
  · by_cases z : a = p
    · subst z
      have e' : upd R.F a o a = some u := e
      rw [Zc] at e' ⊢; exact e'
    · have e' : upd R.F p o a = some u := e
      rw [Qs z] at e' ⊢; exact q.sub a u e'
  · show upd R.F p o (R.ρ n) = none
    rw [Qs (q.ne hp hn)]; exact q.sep n hn
  · have hn : n < R.N := by rw [q.len]; exact (List.getElem?_eq_some_iff.mp e).1
    show Ro K _ u (upd H p o (R.ρ n))
    rw [Qs (q.ne hp hn)]
    exact (q.obj n u e).mono x
theorem Rh.tup (q : Rh K R h H) {p : Addr} {ws : List W} {xs : List V} (hp : H p = none) (r : Rws K R ws xs) :
    ∃ R', Ext R R' ∧ Rh K R' h (upd H p (.tup xs)) ∧ Rw K R' (.tup ws) (.ref p) := by
  obtain ⟨x, y⟩ := q.fix (o := .tup xs) hp
  refine ⟨_, x, y, ?_⟩
  unfold Rw
  exact ⟨p, xs, rfl, SqT.of Zc, Rws.mono x _ _ r⟩
theorem Rh.lstI (q : Rh K R h H) {p : Addr} {ws : List W} {xs : List V} (hp : H p = none) (r : Rws K R ws xs) :
    ∃ R', Ext R R' ∧ Rh K R' h (upd H p (.lst xs)) ∧ Rw K R' (.lst ws) (.ref p) := by
  obtain ⟨x, y⟩ := q.fix (o := .lst xs) hp
  refine ⟨_, x, y, ?_⟩
  unfold Rw
  exact ⟨p, xs, rfl, Zc, Rws.mono x _ _ r⟩
theorem Rh.new (q : Rh K R h H) {p : Addr} {o : HO} {mo : MO} (hp : H p = none) (r : ∀ R', Ext R R' → Ro K R' mo (some o)) :
    ∃ R', Ext R R' ∧ Rh K R' (h ++ [mo]) (upd H p o) ∧ Rw K R' (.ref h.length) (.ref p) := by
  let R' : Rn := { ρ := fun n => if n = R.N then p else R.ρ n, N := R.N + 1, F := R.F, G := R.G }
  have hr : ∀ n, n < R.N → R'.ρ n = R.ρ n := fun n hn => if_neg (Nat.ne_of_lt hn)
  have hq : R'.ρ R.N = p := if_pos rfl
  have x : Ext R R' := ⟨Nat.le_succ _, hr, fun _ _ e => e, rfl⟩
  have hG : ∀ a u, R.G a = some u → a ≠ p := fun a u e z => by have := q.gsub a u e; rw [z, hp] at this; cases this
  have hF : R.F p = none := by
    cases e : R.F p with
    | none => rfl
    | some u => have := q.sub p u e; rw [hp] at this; cases this
  have below : ∀ n, n < R.N + 1 → n < R.N ∨ n = R.N := fun n hn => Nat.lt_or_eq_of_le (Nat.le_of_lt_succ hn)
  have hgs : ∀ n, n < R.N + 1 → R.G (R'.ρ n) = none := fun n hn => by
    rcases below n hn with hn | hn
    · rw [hr n hn]; exact q.gsep n hn
    · subst hn
      rw [hq]
      cases e : R.G p with
      | none => rfl
      | some u => exact absurd rfl (hG p u e)
  refine ⟨R', x, ⟨?_, fun a u e => ?_, fun n hn => ?_, fun m n hm hn e => ?_, fun n u e => ?_, fun a u e => by rw [Qs (hG a u e)]; exact q.gsub a u e, hgs, q.gf⟩, ?_⟩
  · show R.N + 1 = _
    rw [List.length_append, q.len]; rfl
  · have z : a ≠ p := fun z => by have e' : R.F a = some u := e; rw [z, hF] at e'; cases e'
    rw [Qs z]; exact q.sub a u e
  · rcases below n hn with hn | hn
    · rw [hr n hn]; exact q.sep n hn
    · subst hn; rw [hq]; exact hF
  · rcases below m hm with hm | hm <;> rcases below n hn with hn | hn
    · rw [hr m hm, hr n hn] at e; exact q.inj m n hm hn e
    · subst hn; rw [hr m hm, hq] at e; exact absurd e (q.ne hp hm)
    · subst hm; rw [hr n hn, hq] at e; exact absurd e.symm (q.ne hp hn)
    · rw [hm, hn]
  · have hn : n < R.N + 1 := by
      have := (List.getElem?_eq_some_iff.mp e).1
      rw [List.length_append, ← q.len] at this; exact this
    rcases below n hn with hn | hn
    · rw [hr n hn, Qs (q.ne hp hn)]
      rw [List.getElem?_append_left (by rw [← q.len]; exact hn)] at e
      exact (q.obj n u e).mono x
    · subst hn
      rw [hq, Zc]
      rw [List.getElem?_append_right (by rw [q.len]; exact Nat.le_refl _), q.len, Nat.sub_self] at e
      cases e
      exact r R' x
  · unfold Rw
    refine ⟨by rw [← q.len]; exact Nat.lt_succ_self _, ?_⟩
    rw [← q.len, hq]
theorem Rh.put (q : Rh K R h H) {n : Nat} {o : HO} {mo : MO} (hn : n < R.N) (r : Ro K R mo (some o)) : Rh K R (h.set n mo) (upd H (R.ρ n) o) := by
  refine ⟨by rw [List.length_set]; exact q.len, fun a u e => ?_, q.sep, q.inj, fun m u e => ?_, fun a u e => ?_, q.gsep, q.gf⟩
  rotate_right
  · have z : a ≠ R.ρ n := fun z => by rw [z, q.gsep n hn] at e; cases e
    rw [Qs z]; exact q.gsub a u e
  · have z : a ≠ R.ρ n := fun z => by rw [z, q.sep n hn] at e; cases e
    rw [Qs z]; exact q.sub a u e
  · by_cases z : n = m
    · subst z
      rw [Zc]
      rw [List.getElem?_set_self (by rw [← q.len]; exact hn)] at e
      cases e
      exact r
    · have hm : m < R.N := by
        have := (List.getElem?_eq_some_iff.mp e).1
        rw [List.length_set, ← q.len] at this; exact this
      rw [List.getElem?_set_ne z] at e
      rw [Qs (fun w => z (q.inj m n hm hn w).symm)]
      exact q.obj m u e
theorem Rh.tupAt (q : Rh K R h H) {ws : List W} {v : V} (r : Rw K R (.tup ws) v) : ∃ a xs, v = .ref a ∧ SqT K H a xs ∧ Rws K R ws xs := by
  unfold Rw at r
  obtain ⟨a, xs, e1, e2, e3⟩ := r
  exact ⟨a, xs, e1, QR q.sub e2, e3⟩
theorem Rh.lstAt (q : Rh K R h H) {ws : List W} {v : V} (r : Rw K R (.lst ws) v) : ∃ a xs, v = .ref a ∧ H a = some (.lst xs) ∧ Rws K R ws xs := by
  unfold Rw at r
  obtain ⟨a, xs, e1, e2, e3⟩ := r
  exact ⟨a, xs, e1, q.sub a _ e2, e3⟩
theorem Rh.frzAt (q : Rh K R h H) {ws : List W} {v : V} (r : Rw K R (.frz ws) v) : ∃ a xs, v = .ref a ∧ SqL K H a xs ∧ Rws K R ws xs := by
  unfold Rw at r
  obtain ⟨a, xs, e1, e2, e3⟩ := r
  exact ⟨a, xs, e1, Zr q.sub e2, e3⟩
noncomputable def lsW (h : MH) : W → Option (List W)
  | .lst ws => some ws
  | .frz ws => some ws
  | .ref n => match h[n]? with | some (.lst ws) => some ws | _ => none
  | _ => none
noncomputable def loW (h : MH) : W → Option (List W)
  | .lst ws => some ws
  | .ref n => match h[n]? with | some (.lst ws) => some ws | _ => none
  | _ => none
theorem Rh.loAt (q : Rh K R h H) {w : W} {v : V} {ws : List W} (r : Rw K R w v) (e : loW h w = some ws) : ∃ a xs, v = .ref a ∧ H a = some (.lst xs) ∧ Rws K R ws xs := by
  cases w with
  | lst us => cases e; exact q.lstAt r
  | ref n =>
    simp only [loW] at e
    split at e
    · rename_i us hn
      cases e
      unfold Rw at r
      obtain ⟨xs, h1, h2⟩ := q.obj n _ hn
      exact ⟨_, xs, r.2, h1, h2⟩
    · cases e
  | _ => cases e
theorem Rh.lsAt (q : Rh K R h H) {w : W} {v : V} {ws : List W} (r : Rw K R w v) (e : lsW h w = some ws) : ∃ a xs, v = .ref a ∧ SqL K H a xs ∧ Rws K R ws xs := by
  cases w with
  | lst us => cases e; obtain ⟨a, xs, e1, e2, e3⟩ := q.lstAt r; exact ⟨a, xs, e1, SqL.of e2, e3⟩
  | frz us => cases e; exact q.frzAt r
  | ref n =>
    simp only [lsW] at e
    split at e
    · rename_i us hn
      cases e
      unfold Rw at r
      obtain ⟨xs, h1, h2⟩ := q.obj n _ hn
      exact ⟨_, xs, r.2, SqL.of h1, h2⟩
    · cases e
  | _ => cases e
theorem Rh.refAt (q : Rh K R h H) {n : Nat} {v : V} {ws : List W} (r : Rw K R (.ref n) v) (e : h[n]? = some (.lst ws)) :
    n < R.N ∧ v = .ref (R.ρ n) ∧ ∃ xs, H (R.ρ n) = some (.lst xs) ∧ Rws K R ws xs := by
  unfold Rw at r
  exact ⟨r.1, r.2, q.obj n _ e⟩
end
theorem Rw.non_eq {K : PySem.W.Frag} {R : Rn} {v : V} (r : Rw K R .non v) : v = .non := by unfold Rw at r; exact r
theorem Rw.bl_eq {K : PySem.W.Frag} {R : Rn} {v : V} {b : Bool} (r : Rw K R (.bl b) v) : v = .bl b := by unfold Rw at r; exact r
theorem Rw.int_eq {K : PySem.W.Frag} {R : Rn} {v : V} {i : Int} (r : Rw K R (.int i) v) : v = .int i := by unfold Rw at r; exact r
theorem Rw.str_eq {K : PySem.W.Frag} {R : Rn} {v : V} {x : Str} (r : Rw K R (.str x) v) : v = .str x := by unfold Rw at r; exact r
theorem Rw.ty_eq {K : PySem.W.Frag} {R : Rn} {v : V} {n : String} (r : Rw K R (.ty n) v) : v = .ty n := by unfold Rw at r; exact r
theorem Rw.ty {K : PySem.W.Frag} {R : Rn} (n : String) : Rw K R (.ty n) (.ty n) := by unfold Rw; rfl
theorem Rw.non {K : PySem.W.Frag} {R : Rn} : Rw K R .non .non := by unfold Rw; rfl
theorem Rw.bl {K : PySem.W.Frag} {R : Rn} (b : Bool) : Rw K R (.bl b) (.bl b) := by unfold Rw; rfl
theorem Rw.int {K : PySem.W.Frag} {R : Rn} (i : Int) : Rw K R (.int i) (.int i) := by unfold Rw; rfl
theorem Rw.str {K : PySem.W.Frag} {R : Rn} (x : Str) : Rw K R (.str x) (.str x) := by unfold Rw; rfl
end Mi

namespace Mi
open PySem PySem.Spec PyProof.Rows L2

noncomputable abbrev ME := MSt → MH → Option (W × MH)
noncomputable abbrev MT := MSt → MH → Option (Bool × MH)
noncomputable abbrev MA := MSt → MH → Option (List W × MH)
inductive MF where
  | nx (σ : MSt) (h : MH) | rt (w : W) (h : MH) | bk (σ : MSt) (h : MH) | ct (σ : MSt) (h : MH)
noncomputable abbrev SM := MSt → MH → Option MF
noncomputable abbrev FM := List W → MH → Option (W × MH)

section
variable (K : PySem.W.Frag)
noncomputable def After (R : Rn) (w : W) (h' : MH) (Q : VK) : Prop := ∀ R' H' v, Ext R R' → Rh K R' h' H' → Rw K R' w v → Q v H'
noncomputable def tI (m : ME) : TE := fun σ H Q => ∃ R σi h w h', Rh K R h H ∧ Rst K R σi σ ∧ m σi h = some (w, h') ∧ After K R w h' Q
noncomputable def tIT (m : MT) : TT := fun σ H Q => ∃ R σi h b h', Rh K R h H ∧ Rst K R σi σ ∧ m σi h = some (b, h') ∧ ∀ R' H', Ext R R' → Rh K R' h' H' → Q b H'
noncomputable def tIA (m : MA) : TA := fun σ H Q => ∃ R σi h ws h', Rh K R h H ∧ Rst K R σi σ ∧ m σi h = some (ws, h') ∧ ∀ R' H' vs, Ext R R' → Rh K R' h' H' → Rws K R' ws vs → Q vs H'
noncomputable def Ends (R : Rn) (D : L2.Ends) : MF → Prop
  | .nx σi h => ∀ R' H' σ, Ext R R' → Rh K R' h H' → Rst K R' σi σ → D.nx σ H'
  | .bk σi h => ∀ R' H' σ, Ext R R' → Rh K R' h H' → Rst K R' σi σ → D.bk σ H'
  | .ct σi h => ∀ R' H' σ, Ext R R' → Rh K R' h H' → Rst K R' σi σ → D.ct σ H'
  | .rt w h => After K R w h D.rt
noncomputable def tS (m : SM) : TS := fun D σ H => ∃ R σi h r, Rh K R h H ∧ Rst K R σi σ ∧ m σi h = some r ∧ Ends K R D r
noncomputable def spM (n : Nat) (m : FM) : Sp := fun vs H Q _ => ∃ R ws h w h', ws.length = n ∧ Rh K R h H ∧ Rws K R ws vs ∧ m ws h = some (w, h') ∧ After K R w h' Q
end
noncomputable def PM (X : Cx) (e : Expr) (m : ME) : Prop := PE X e (tI X.K m)
noncomputable def PMT (X : Cx) (e : Expr) (m : MT) : Prop := PT X e (tIT X.K m)
noncomputable def PMA (X : Cx) (es : List Expr) (m : MA) : Prop := PA X es (tIA X.K m)
noncomputable def PMS (X : Cx) (st : Stmt) (m : SM) : Prop := PS X st (tS X.K m)
noncomputable def Wq (X : Cx) (st : List Stmt) (m : SM) : Prop := PSs X st (tS X.K m)

section
variable {K : PySem.W.Frag} {R R1 R2 : Rn}
theorem After.ext {w : W} {h' : MH} {Q : VK} (a : After K R w h' Q) (x : Ext R R1) : After K R1 w h' Q := fun R' H' v e => a R' H' v (x.trans e)
theorem Ends.ext {D : L2.Ends} {r : MF} (a : Ends K R D r) (x : Ext R R1) : Ends K R1 D r := by
  cases r with
  | nx σ h => exact fun R' H' v e => a R' H' v (x.trans e)
  | bk σ h => exact fun R' H' v e => a R' H' v (x.trans e)
  | ct σ h => exact fun R' H' v e => a R' H' v (x.trans e)
  | rt w h => exact After.ext a x
end
theorem QZ {X : Cx} {e : Expr} {t t' : TE} (h : PE X e t) (i : ∀ σ H Q, t' σ H Q → t σ H Q) : PE X e t' := fun pins s σ H Q I q => h pins s σ H Q I (i _ _ _ q)
theorem GY {X : Cx} {e : Expr} {t t' : TT} (h : PT X e t) (i : ∀ σ H Q, t' σ H Q → t σ H Q) : PT X e t' := fun pins s σ H Q I q => h pins s σ H Q I (i _ _ _ q)
theorem WD {X : Cx} {e : Expr} {t t' : TT} (h : PW X e t) (i : ∀ σ H Q, t' σ H Q → t σ H Q) : PW X e t' := fun wh pins s σ H Q I q => h wh pins s σ H Q I (i _ _ _ q)
theorem WA {X : Cx} {es : List Expr} {t t' : TA} (h : PA X es t) (i : ∀ σ H Q, t' σ H Q → t σ H Q) : PA X es t' := fun pos pins s σ H Q I q => h pos pins s σ H Q I (i _ _ _ q)
theorem VV {X : Cx} {st : Stmt} {t t' : TS} (h : PS X st t) (i : ∀ D σ H, t' D σ H → t D σ H) : PS X st t' := fun pins s σ H D I q => h pins s σ H D I (i _ _ _ q)
theorem KT {X : Cx} {st : List Stmt} {t t' : TS} (h : PSs X st t) (i : ∀ D σ H, t' D σ H → t D σ H) : PSs X st t' := fun pins s σ H D I q => h pins s σ H D I (i _ _ _ q)

noncomputable def Qg (i : Nat) : ME := fun σ h => match σ[i]? with | some (some w) => some (w, h) | _ => none
noncomputable def mC (w : W) : ME := fun _ h => some (w, h)
section
variable {X : Cx}
theorem Qd (i : Nat) {x : Str} {pos : Pos} (hN : X.N[i]? = some x := by rfl) (hv : Vis X.env.scope x := by first | exact Or.inl rfl | exact Or.inr (Or.inl rfl) | exact Or.inr (Or.inr rfl)) (hd : (x == ("__debug__" : Str)) = false := by decide)
    (hcd : (x == ("__classdict__" : Str)) = false := by decide) : PM X (.Name x pos) (Qg i) := QZ (Gn hN hv hd hcd) <| by
  rintro σ H Q ⟨R, σi, h, w, h', rh, st, e, k⟩
  unfold Qg at e
  split at e
  · rename_i w' e'
    cases e
    obtain ⟨v, h1, h2⟩ := st.2 i _ e'
    exact ⟨v, h1, k R H v (Ext.refl _) rh h2⟩
  · cases e
theorem Wl {w : W} {v : V} (r : ∀ R, Rw X.K R w v) {σ : L2.St} {H : Hp} {Q : VK} (q : tI X.K (mC w) σ H Q) : tC v σ H Q := by
  obtain ⟨R, σi, h, w', h', rh, st, e, k⟩ := q
  cases e
  exact k R H v (Ext.refl _) rh (r R)
theorem Qi {i j pos} : PM X (.Constant (.int i) j pos) (mC (.int i)) := QZ GM fun _ _ _ => Wl fun _ => Rw.int _
theorem Y5 {b j pos} : PM X (.Constant (.bool b) j pos) (mC (.bl b)) := QZ Qa7 fun _ _ _ => Wl fun _ => Rw.bl _
theorem W3 {x : Str} {w : W} {v : V} {u : Value} {pos : Pos} (hg : Gl X x) (hm : X.mg x = none) (hv : bootBuiltins x = some u) (r : RelV v u) (rw : ∀ R, Rw X.K R w v) (hn : x ≠ "__name__" := by decide) (hd : (x == ("__debug__" : Str)) = false := by decide) : PM X (.Name x pos) (mC w) :=
  QZ (Up hg hm hv r hn hd) fun _ _ _ => Wl rw
theorem Qf {x j pos} : PM X (.Constant (.str x) j pos) (mC (.str x)) := QZ Gz fun _ _ _ => Wl fun _ => Rw.str _
end

noncomputable def Qo (f : W → W → MH → Option (W × MH)) (ma mb : ME) : ME := fun σ h => (ma σ h).bind fun p => (mb σ p.2).bind fun q => f p.1 q.1 q.2
noncomputable def F2 (K : PySem.W.Frag) (f : W → W → MH → Option (W × MH)) (x y : V) (H : Hp) (Q : VK) : Prop := ∃ R h a b w h', Rh K R h H ∧ Rw K R a x ∧ Rw K R b y ∧ f a b h = some (w, h') ∧ After K R w h' Q
noncomputable def Fs (K : PySem.W.Frag) (f : List W → MH → Option (W × MH)) (xs : List V) (H : Hp) (Q : VK) : Prop := ∃ R h ws w h', Rh K R h H ∧ Rws K R ws xs ∧ f ws h = some (w, h') ∧ After K R w h' Q
noncomputable def mFn (f : List W → MH → Option (W × MH)) (ma : MA) : ME := fun σ h => (ma σ h).bind fun p => f p.1 p.2
section
variable {K : PySem.W.Frag} {σ : L2.St} {H : Hp} {Q : VK}
theorem Qaj {f : W → W → MH → Option (W × MH)} {ma mb : ME} (q : tI K (Qo f ma mb) σ H Q) : tI K ma σ H fun x H1 => tI K mb σ H1 fun y H2 => F2 K f x y H2 Q := by
  obtain ⟨R, σi, h, w, h', rh, st, e, k⟩ := q
  obtain ⟨⟨a, h1⟩, ea, e2⟩ := Option.bind_eq_some_iff.mp e
  obtain ⟨⟨b, h2⟩, eb, e3⟩ := Option.bind_eq_some_iff.mp e2
  exact ⟨R, σi, h, a, h1, rh, st, ea, fun R1 H1 x x1 rh1 rx => ⟨R1, σi, h1, b, h2, rh1, st.mono x1, eb, fun R2 H2 y x2 rh2 ry =>
    ⟨R2, h2, a, b, w, h', rh2, Rw.mono x2 _ _ rx, ry, e3, k.ext (x1.trans x2)⟩⟩⟩
theorem KE {f : List W → MH → Option (W × MH)} {ma : MA} (q : tI K (mFn f ma) σ H Q) : tIA K ma σ H fun xs H1 => Fs K f xs H1 Q := by
  obtain ⟨R, σi, h, w, h', rh, st, e, k⟩ := q
  obtain ⟨⟨a, h1⟩, ea, e2⟩ := Option.bind_eq_some_iff.mp e
  exact ⟨R, σi, h, a, h1, rh, st, ea, fun R1 H1 x x1 rh1 rx => ⟨R1, h1, a, w, h', rh1, rx, e2, k.ext x1⟩⟩
end
noncomputable def ZS : Expr → Bool
  | .Starred .. => true
  | _ => false
noncomputable def Z9 (es : List Expr) : Bool := es.all fun e => !ZS e
theorem QK {e : Expr} {es : List Expr} {env : Env} (h : ZS e = false) : starEach (e :: es) env = (false, eval e env) :: starEach es env := by
  cases e <;> first | rfl | cases h
theorem ZE {es : List Expr} {env : Env} {pos : Pos} (h : Z9 es = true) : (backTo pos (starEach es env)).any (·.1) = false := by
  induction es with
  | nil => rfl
  | cons e es ih =>
    unfold Z9 at h ih
    rw [List.all_cons, Bool.and_eq_true] at h
    have he : ZS e = false := by simpa using h.1
    rw [QK he]
    have := ih h.2
    unfold backTo at this ⊢
    rw [List.map_cons, List.any_cons, this]; rfl
theorem Wx {es : List Expr} {env : Env} {pos : Pos} (h : Z9 es = true) : (backTo pos (starEach es env)).all (fun x => !x.1) = true := by
  have := ZE (env := env) (pos := pos) h
  rw [List.all_eq_not_any_not]
  simp only [Bool.not_not]
  rw [this]; rfl
noncomputable def Qn : MA := fun _ h => some ([], h)
noncomputable def Qb (ma : ME) (mr : MA) : MA := fun σ h => (ma σ h).bind fun p => (mr σ p.2).bind fun q => some (p.1 :: q.1, q.2)
section
variable {X : Cx} {e : Expr} {es : List Expr} {m : ME} {ms : MA} {pos : Pos}
theorem Qc : PMA X [] Qn := WA GJ <| by
  rintro σ H Q ⟨R, σi, h, ws, h', rh, st, e, k⟩
  cases e
  exact k R H [] (Ext.refl _) rh Rws.nil
theorem Qa (ha : PM X e m) (hr : PMA X es ms) (hs : ZS e = false := by rfl) : PMA X (e :: es) (Qb m ms) :=
  WA (Ua ha hr (QK hs)) fun σ H Q ⟨R, σi, h, ws, h', rh, st, e, k⟩ => by
    obtain ⟨⟨a, h1⟩, ea, e2⟩ := Option.bind_eq_some_iff.mp e
    obtain ⟨⟨b, h2⟩, eb, e3⟩ := Option.bind_eq_some_iff.mp e2
    cases e3
    exact ⟨R, σi, h, a, h1, rh, st, ea, fun R1 H1 x x1 rh1 rx => ⟨R1, σi, h1, b, h2, rh1, st.mono x1, eb, fun R2 H2 ys x2 rh2 ry =>
      k R2 H2 (x :: ys) (x1.trans x2) rh2 (Rws.cons (Rw.mono x2 _ _ rx) ry)⟩⟩
noncomputable def Z8 (ws : List W) (h : MH) : Option (W × MH) := if ws.length ≤ sizeLine then some (.tup ws, h) else none
noncomputable def J8 (ws : List W) (h : MH) : Option (W × MH) := if ws.length ≤ sizeLine then some (.lst ws, h) else none
noncomputable def KK (ws : List W) (h : MH) : Option (W × MH) := if ws.length ≤ sizeLine then some (.ref h.length, h ++ [.lst ws]) else none
theorem QH {x1} (h : PMA X es ms) : PM X (.Tuple es x1 pos) (mFn Z8 ms) := QZ (GV h) fun σ H Q q => by
  obtain ⟨R, σi, h0, ws, h1, rh, st, e, k⟩ := KE q
  refine ⟨R, σi, h0, ws, h1, rh, st, e, fun R1 H1 vs x1 rh1 rx => ?_⟩
  obtain ⟨R2, h2, ws2, w, h3, rh2, rx2, e2, k2⟩ := k R1 H1 vs x1 rh1 rx
  unfold Z8 at e2
  split at e2
  · rename_i hl
    cases e2
    refine ⟨by rw [← rx2.length]; exact hl, fun p hp => ?_⟩
    obtain ⟨R3, x3, rh3, rw3⟩ := rh2.tup hp rx2
    exact k2 R3 _ _ x3 rh3 rw3
  · cases e2
theorem Zt (h : PMA X es ms) : PM X (.List es pos) (mFn J8 ms) := QZ (WB h) fun σ H Q q => by
  obtain ⟨R, σi, h0, ws, h1, rh, st, e, k⟩ := KE q
  refine ⟨R, σi, h0, ws, h1, rh, st, e, fun R1 H1 vs x1 rh1 rx => ?_⟩
  obtain ⟨R2, h2, ws2, w, h3, rh2, rx2, e2, k2⟩ := k R1 H1 vs x1 rh1 rx
  unfold J8 at e2
  split at e2
  · rename_i hl
    cases e2
    refine ⟨by rw [← rx2.length]; exact hl, fun p hp => ?_⟩
    obtain ⟨R3, x3, rh3, rw3⟩ := rh2.lstI hp rx2
    exact k2 R3 _ _ x3 rh3 rw3
  · cases e2
theorem Jw (h : PMA X es ms) : PM X (.List es pos) (mFn KK ms) := QZ (WB h) fun σ H Q q => by
  obtain ⟨R, σi, h0, ws, h1, rh, st, e, k⟩ := KE q
  refine ⟨R, σi, h0, ws, h1, rh, st, e, fun R1 H1 vs x1 rh1 rx => ?_⟩
  obtain ⟨R2, h2, ws2, w, h3, rh2, rx2, e2, k2⟩ := k R1 H1 vs x1 rh1 rx
  unfold KK at e2
  split at e2
  · rename_i hl
    cases e2
    refine ⟨by rw [← rx2.length]; exact hl, fun p hp => ?_⟩
    obtain ⟨R3, x3, rh3, rw3⟩ := rh2.new (mo := .lst ws2) (o := .lst vs) hp fun R' x' => ⟨vs, rfl, Rws.mono x' _ _ rx2⟩
    exact k2 R3 _ _ x3 rh3 rw3
  · cases e2
end
noncomputable def OpM (K : PySem.W.Frag) (r : R2) (f : W → W → MH → Option (W × MH)) : Prop := ∀ x y H Q, F2 K f x y H Q → r x y H Q
noncomputable def Uz (K : PySem.W.Frag) (r : List V → Hp → VK → Prop) (f : List W → MH → Option (W × MH)) : Prop := ∀ xs H Q, Fs K f xs H Q → r xs H Q
section
variable {X : Cx} {a b c : Expr} {ma mb mc : ME} {pos : Pos}
theorem ZR {K : PySem.W.Frag} {m : ME} {σ : L2.St} {H : Hp} {Q Q' : VK} (h : tI K m σ H Q) (i : ∀ v H, Q v H → Q' v H) : tI K m σ H Q' := by
  obtain ⟨R, σi, h, w, h', rh, st, e, k⟩ := h
  exact ⟨R, σi, h, w, h', rh, st, e, fun R' H' v a b c => i _ _ (k R' H' v a b c)⟩
theorem VB {K : PySem.W.Frag} {m : MA} {σ : L2.St} {H : Hp} {Q Q' : List V → Hp → Prop} (h : tIA K m σ H Q) (i : ∀ v H, Q v H → Q' v H) : tIA K m σ H Q' := by
  obtain ⟨R, σi, h, w, h', rh, st, e, k⟩ := h
  exact ⟨R, σi, h, w, h', rh, st, e, fun R' H' v a b c => i _ _ (k R' H' v a b c)⟩
theorem QD {op : Operator} {r : R2} {f : W → W → MH → Option (W × MH)} (ho : OpR X (binaryOp op) r) (hf : OpM X.K r f) (ha : PM X a ma) (hb : PM X b mb) : PM X (.BinOp a op b pos) (Qo f ma mb) :=
  QZ (Qbd ho ha hb) fun _ _ _ q => ZR (Qaj q) fun _ _ q1 => ZR q1 fun _ _ q2 => hf _ _ _ _ q2
theorem U4 {op : CmpOp} {r : R2} {f : W → W → MH → Option (W × MH)} (ho : OpR X (compareOp op) r) (hf : OpM X.K r f) (ha : PM X a ma) (hb : PM X b mb) (hm : behindInMarks op b = false := by rfl) : PM X (.Compare a [op] [b] pos) (Qo f ma mb) :=
  QZ (W4 ho ha hb hm) fun _ _ _ q => ZR (Qaj q) fun _ _ q1 => ZR q1 fun _ _ q2 => hf _ _ _ _ q2
noncomputable def QV (m : ME) : MT := fun σ h => (m σ h).bind fun p => match p.1 with | .bl b => some (b, p.2) | _ => none
theorem YV {K : PySem.W.Frag} {m : ME} {σ : L2.St} {H : Hp} {Q : Bool → Hp → Prop} (q : tIT K (QV m) σ H Q) : tI K m σ H fun x H' => ∃ k, x = .bl k ∧ Q k H' := by
  obtain ⟨R, σi, h, b, h', rh, st, e, k⟩ := q
  obtain ⟨⟨w, h1⟩, ew, e2⟩ := Option.bind_eq_some_iff.mp e
  cases w <;> simp only at e2 <;> first | (cases e2; exact ⟨R, σi, h, _, _, rh, st, ew, fun R' H' v x rh' rv => ⟨_, rv.bl_eq, k R' H' x rh'⟩⟩) | (cases e2)
theorem QQ {op : CmpOp} {r : R2} {f : W → W → MH → Option (W × MH)} (ho : OpR X (compareOp op) r) (hf : OpM X.K r f) (ha : PM X a ma) (hb : PM X b mb) (hm : behindInMarks op b = false := by rfl) : PMT X (.Compare a [op] [b] pos) (QV (Qo f ma mb)) :=
  GY (UC ho ha hb hm) fun _ _ _ q => ZR (Qaj (YV q)) fun _ _ q1 => ZR q1 fun _ _ q2 => hf _ _ _ _ q2
noncomputable def KH (ma mb : MT) : MT := fun σ h => (ma σ h).bind fun p => match p.1 with | true => mb σ p.2 | false => some (false, p.2)
noncomputable def Ge (ma mb : MT) : MT := fun σ h => (ma σ h).bind fun p => match p.1 with | true => some (true, p.2) | false => mb σ p.2
variable {rest : List Expr} {ta tb : MT}
noncomputable def PMW (X : Cx) (e : Expr) (m : MT) : Prop := PW X e (tIT X.K m)
theorem PMW.pt {e : Expr} {m : MT} (h : PMW X e m) : PMT X e m := PW.pt h
theorem Uf {K : PySem.W.Frag} {σ : L2.St} {H : Hp} {Q : Bool → Hp → Prop} (q : tIT K (KH ta tb) σ H Q) : QbJ (tIT K ta) (tIT K tb) σ H Q := by
  obtain ⟨R, σi, h, w, h', rh, st, e, k⟩ := q
  obtain ⟨⟨a, h1⟩, ea, e2⟩ := Option.bind_eq_some_iff.mp e
  refine ⟨R, σi, h, a, h1, rh, st, ea, fun R1 H1 x1 rh1 => ?_⟩
  cases a with
  | true => exact Qaf ⟨R1, σi, h1, w, h', rh1, st.mono x1, e2, fun R2 H2 x2 => k R2 H2 (x1.trans x2)⟩
  | false => cases e2; exact Qag (k R1 H1 x1 rh1)
theorem GG {K : PySem.W.Frag} {σ : L2.St} {H : Hp} {Q : Bool → Hp → Prop} (q : tIT K (Ge ta tb) σ H Q) : tOr (tIT K ta) (tIT K tb) σ H Q := by
  obtain ⟨R, σi, h, w, h', rh, st, e, k⟩ := q
  obtain ⟨⟨a, h1⟩, ea, e2⟩ := Option.bind_eq_some_iff.mp e
  refine ⟨R, σi, h, a, h1, rh, st, ea, fun R1 H1 x1 rh1 => ?_⟩
  cases a with
  | true => cases e2; exact Qaf (k R1 H1 x1 rh1)
  | false => exact Qag ⟨R1, σi, h1, w, h', rh1, st.mono x1, e2, fun R2 H2 x2 => k R2 H2 (x1.trans x2)⟩
theorem YX (ha : PMT X a ta) : PMW X (.BoolOp .And [a] pos) ta := WX ha
theorem W0 (ha : PMT X a ta) : PMW X (.BoolOp .Or [a] pos) ta := GI ha
theorem UA (ha : PMT X a ta) (hb : PMW X (.BoolOp .And (b :: rest) pos) tb) : PMW X (.BoolOp .And (a :: b :: rest) pos) (KH ta tb) := WD (G6 ha hb) fun _ _ _ => Uf
theorem Gx (ha : PMT X a ta) (hb : PMW X (.BoolOp .Or (b :: rest) pos) tb) : PMW X (.BoolOp .Or (a :: b :: rest) pos) (Ge ta tb) := WD (QaF ha hb) fun _ _ _ => GG
theorem Rws.isEmpty {K : PySem.W.Frag} {R : Rn} {ws : List W} {vs : List V} (r : Rws K R ws vs) : ws.isEmpty = vs.isEmpty := by
  have := r.length
  cases ws <;> cases vs <;> simp at this ⊢
end
end Mi

namespace Mi
open PySem PySem.Spec PyProof.Rows L2

noncomputable def KR : Expr → Bool
  | .ListComp .. => true
  | .SetComp .. => true
  | .DictComp .. => true
  | _ => false
theorem X4 {e : Expr} {t : Option Expr} {l : Nat} {env : Env} (h : KR e = false) : swapsWith e t l env = pure false := by
  cases e <;> first | rfl | cases h
noncomputable def Jb : SM := fun σ h => some (.nx σ h)
noncomputable def Zw (a b : SM) : SM := fun σ h => (a σ h).bind fun r => match r with | .nx σ' h' => b σ' h' | r => some r
noncomputable def VT (m : ME) : SM := fun σ h => (m σ h).map fun p => .rt p.1 p.2
noncomputable def XC (t : MT) (a b : SM) : SM := fun σ h => (t σ h).bind fun p => match p.1 with | true => a σ p.2 | false => b σ p.2
noncomputable def ZO (m : ME) : SM := fun σ h => (m σ h).map fun p => .nx σ p.2
noncomputable def J5 (i : Nat) (m : ME) : SM := fun σ h => (m σ h).map fun p => .nx (σ.set i (some p.1)) p.2
noncomputable def Qdf (i : Nat) (f : W → W → MH → Option (W × MH)) (m : ME) : SM := fun σ h => match σ[i]? with
  | some (some x) => (m σ h).bind fun p => (f x p.1 p.2).map fun q => .nx (σ.set i (some q.1)) q.2
  | _ => none
section
variable {X : Cx} {st : Stmt} {rest : List Stmt} {a b : SM} {e : Expr} {m : ME} {pos : Pos}
theorem Zl : Wq X [] Jb := KT UO <| by
  rintro D σ H ⟨R, σi, h, r, rh, s, e, k⟩
  cases e
  exact k R H σ (Ext.refl _) rh s
theorem GT {K : PySem.W.Frag} {D : L2.Ends} {σ : L2.St} {H : Hp} (q : tS K (Zw a b) D σ H) : Qbp (tS K a) (tS K b) D σ H := by
  obtain ⟨R, σi, h, r, rh, s, e, k⟩ := q
  obtain ⟨r1, e1, e2⟩ := Option.bind_eq_some_iff.mp e
  refine ⟨R, σi, h, r1, rh, s, e1, ?_⟩
  cases r1 with
  | nx σ1 h1 => exact fun R1 H1 σ' x1 rh1 s1 => ⟨R1, σ1, h1, r, rh1, s1, e2, Ends.ext k x1⟩
  | rt w h1 => cases e2; exact k
  | bk σ1 h1 => cases e2; exact k
  | ct σ1 h1 => cases e2; exact k
theorem Qh (h1 : PMS X st a) (h2 : Wq X rest b) : Wq X (st :: rest) (Zw a b) := KT (YY h1 h2) fun _ _ _ => GT
theorem Qp (h1 : PMS X st a) : Wq X [st] a := Us h1
theorem QC (he : PM X e m) (hs : KR e = false := by rfl) : PMS X (.Expr e pos) (ZO m) := VV (WZ he (X4 hs)) <| by
  rintro D σ H ⟨R, σi, h, r, rh, s, e, k⟩
  obtain ⟨⟨w, h1⟩, e1, e2⟩ := Option.map_eq_some_iff.mp e
  cases e2
  exact ⟨R, σi, h, w, h1, rh, s, e1, fun R1 H1 v x1 rh1 _ => k R1 H1 σ x1 rh1 (s.mono x1)⟩
theorem QI (he : PM X e m) : PMS X (.Return (some e) pos) (VT m) := VV (Gu he) <| by
  rintro D σ H ⟨R, σi, h, r, rh, s, e, k⟩
  obtain ⟨⟨w, h1⟩, e1, e2⟩ := Option.map_eq_some_iff.mp e
  cases e2
  exact ⟨R, σi, h, w, h1, rh, s, e1, k⟩
theorem ZW {c : Expr} {sa sb : List Stmt} {t : MT} (hc : PMT X c t) (ha : Wq X sa a) (hb : Wq X sb b) : PMS X (.If c sa sb pos) (XC t a b) := VV (QaB hc ha hb) <| by
  rintro D σ H ⟨R, σi, h, r, rh, s, e, k⟩
  obtain ⟨⟨z, h1⟩, e1, e2⟩ := Option.bind_eq_some_iff.mp e
  refine ⟨R, σi, h, z, h1, rh, s, e1, fun R1 H1 x1 rh1 => ?_⟩
  cases z with
  | true => exact Qaf ⟨R1, σi, h1, r, rh1, s.mono x1, e2, Ends.ext k x1⟩
  | false => exact Qag ⟨R1, σi, h1, r, rh1, s.mono x1, e2, Ends.ext k x1⟩
theorem QB {i : Nat} {x : Str} {pos' : Pos} (hN : X.N.Nodup) (hi : X.N[i]? = some x) (hx : Loc X.env.scope x) (he : PM X e m) (hs : KR e = false := by rfl) (hf : X.fn x = true ∨ X.env.scope.names.lookup x = some .local := by first | exact .inl rfl | exact .inr rfl | assumption) :
    PMS X (.Assign [.Name x pos'] e pos) (J5 i m) := VV (GS hN hi hx he (X4 hs) hf) <| by
  rintro D σ H ⟨R, σi, h, r, rh, s, e, k⟩
  obtain ⟨⟨w, h1⟩, e1, e2⟩ := Option.map_eq_some_iff.mp e
  cases e2
  exact ⟨R, σi, h, w, h1, rh, s, e1, fun R1 H1 v x1 rh1 rv => k R1 H1 _ x1 rh1 ((s.mono x1).set rv)⟩
end

noncomputable def Qah (r : Option MF) : Option (W × MH) := match r with | some (.rt w h) => some (w, h) | some (.nx _ h) => some (.non, h) | _ => none
noncomputable def Jl (more : Nat) (m : SM) : FM := fun ws h => Qah (m (ws.map some ++ List.replicate more none) h)
theorem Rst.start {K : PySem.W.Frag} {R : Rn} {ws : List W} {vs : List V} {N : List Str} (r : Rws K R ws vs) (k : Nat) (hk : N.length = ws.length + k) : Rst K R (ws.map some ++ List.replicate k none) (start N vs) := by
  have hl := r.length
  unfold L2.start
  refine ⟨by simp [hk, hl], fun i w e => ?_⟩
  by_cases hi : i < ws.length
  · rw [List.getElem?_append_left (by simpa using hi)] at e
    rw [List.getElem?_append_left (by simpa [← hl] using hi)]
    rw [List.getElem?_map] at e ⊢
    obtain ⟨w', hw', e'⟩ := Option.map_eq_some_iff.mp e
    cases e'
    obtain ⟨v, h1, h2⟩ := r.get hw'
    exact ⟨v, by rw [h1]; rfl, h2⟩
  · rw [List.getElem?_append_right (by simpa using hi)] at e
    rw [List.getElem?_replicate] at e
    split at e <;> cases e
section
variable {P : Program} {w : World} {K : PySem.W.Frag} {mg : Str → Option Value} {base : Heap}
theorem QaW {x qual : Str} {st : Stmt} {f : Addr} {fd : FuncData} {N ps : List Str} {k more : Nat} {m : SM} (F : Fun K x qual st f fd) (S : FnScope N ps (Ql st)) (hN : N.length = ps.length + more)
    (hbody : ∀ (cdv : Value) (A : Around) (outer : List Env) (s : Shared) (H : Hp) (E : XK), Room k (A.deeper (envOfC qual (Ql st) s.heap.objs.size f cdv)) → Wq (WJ CX0 P w K mg base N qual (Ql st) f cdv A outer s H E).nox (Zz st) m) :
    FnOk P w K mg base CX0 (k + 1) f fd ps (spM K ps.length (Jl more m)) := by
  refine F.ok S (fun vs H Q E q => ?_) (fun cdv A outer s H vs Q E hr q => ?_)
  · obtain ⟨R, ws, h, w, h', hl, rh, rws, _⟩ := q
    rw [← rws.length]; exact hl
  · refine ⟨_, hbody cdv A outer s H E hr, ?_⟩
    obtain ⟨R, ws, h, w, h', hl, rh, rws, e, kk⟩ := q
    have st := Rst.start (N := N) rws more (by rw [hN, hl])
    unfold Jl Qah at e
    split at e
    · rename_i w' h1 e1
      cases e
      exact ⟨R, _, h, _, rh, st, e1, kk⟩
    · rename_i σ1 h1 e1
      cases e
      exact ⟨R, _, h, _, rh, st, e1, fun R1 H1 σ' x1 rh1 _ => kk R1 H1 .non x1 rh1 Rw.non⟩
    · cases e
end
section
variable {X : Cx} {CX : CXT} {k : Nat} {f : Addr} {fd : FuncData} {ps : List Str} {g : FM} {E : XK} {x : Str} {p pos : Pos} {e : Expr} {es : List Expr} {ms : MA}
noncomputable def Qw (n : Nat) (g : FM) (ms : MA) : ME := mFn (fun ws h => if ws.length = n then g ws h else none) ms
theorem W9 {K : PySem.W.Frag} {n : Nat} {σ : L2.St} {H : Hp} {Q : VK} (q : tI K (Qw n g ms) σ H Q) : U9 (spM K n g) [] E (tIA K ms) σ H Q := by
  refine VB (KE q) fun vs H1 ⟨R, h, ws, w, h', rh, rws, e, k⟩ => ?_
  dsimp only at e
  split at e
  · rename_i hl
    exact ⟨R, ws, h, w, h', hl, rh, by rw [List.append_nil]; exact rws, e, k⟩
  · cases e
theorem UI (F : FnOk X.prog X.w X.K X.mg X.base CX k f fd ps (spM X.K ps.length g)) (hr : Room k X.A) (hg : Gl X x) (hm : X.mg x = some (.ref f)) (hk : PySem.W.keepIn X.K (.ref f) = true) (hb : Binds X.K fd ps []) (hx : XZ CX X E)
    (ha : PMA X (e :: es) ms) (hdb : (x == ("__debug__" : Str)) = false := by decide) (he : ZS e = false := by rfl) (hpl : Z9 es = true := by rfl) :
    PM X (.Call (.Name x p) (e :: es) [] pos) (Qw ps.length g ms) := QZ (W1 F hr hg hm hk hb .nil hx ha hdb (QK he) (ZE hpl)) fun _ _ _ => W9
end
section
variable {X : Cx} {x : Str} {p pos : Pos} {e : Expr} {es : List Expr} {ms : MA} {id T : String} {r : List V → Hp → VK → Prop} {f : List W → MH → Option (W × MH)}
theorem Zs (hc : CallR X (.builtin id) r) (hf : Uz X.K r f) (hg : Gl X x) (hm : X.mg x = none) (hv : bootBuiltins x = some (.builtin id)) (ha : PMA X (e :: es) ms) (hn : x ≠ "__name__" := by decide) (hdb : (x == ("__debug__" : Str)) = false := by decide)
    (he : ZS e = false := by rfl) (hpl : Z9 es = true := by rfl) : PM X (.Call (.Name x p) (e :: es) [] pos) (mFn f ms) :=
  QZ (Wp hc hg hm hv ha hn hdb (QK he) (ZE hpl)) fun _ _ _ q => VB (KE q) fun _ _ q1 => hf _ _ _ q1
theorem JV (hc : CallR X (.type T) r) (hf : Uz X.K r f) (hg : Gl X x) (hm : X.mg x = none) (hv : bootBuiltins x = some (.type T)) (ha : PMA X (e :: es) ms) (hn : x ≠ "__name__" := by decide) (hdb : (x == ("__debug__" : Str)) = false := by decide)
    (he : ZS e = false := by rfl) (hpl : Z9 es = true := by rfl) : PM X (.Call (.Name x p) (e :: es) [] pos) (mFn f ms) :=
  QZ (Yi hc hg hm hv ha hn hdb (QK he) (ZE hpl)) fun _ _ _ q => VB (KE q) fun _ _ q1 => hf _ _ _ q1
end
noncomputable def YH (src : Option Nat) (items : List W) (h : MH) : Prop := ∀ n, src = some n → h[n]? = some (.lst items)
noncomputable abbrev MI := MSt → MH → Option (List W × Option Nat × MH)
structure ItOk (K : PySem.W.Frag) (R : Rn) (J : It) (items : List W) (src : Option Nat) : Prop where
  go : ∀ i w R' h H, Ext R R' → Rh K R' h H → YH src items h → items[i]? = some w → J.go i H
  yld : ∀ i w R' h H x H', Ext R R' → Rh K R' h H → YH src items h → items[i]? = some w → J.yld i H x H' → ∃ R'', Ext R' R'' ∧ Rh K R'' h H' ∧ Rw K R'' w x
  stop : ∀ i R' h H, Ext R R' → Rh K R' h H → YH src items h → items.length ≤ i → J.stop i H
noncomputable def tII (K : PySem.W.Frag) (m : MI) : TI := fun σ H C => ∃ R σi h items src h', Rh K R h H ∧ Rst K R σi σ ∧ m σi h = some (items, src, h') ∧ ∀ R' H' J, Ext R R' → Rh K R' h' H' → ItOk K R' J items src → C J H'
noncomputable def PMI (X : Cx) (tg iter : Expr) (m : MI) : Prop := PI X tg iter (tII X.K m)
theorem WQ {X : Cx} {tg iter : Expr} {t t' : TI} (h : PI X tg iter t) (i : ∀ σ H C, t' σ H C → t σ H C) : PI X tg iter t' := fun pins s σ H C I q => h pins s σ H C I (i _ _ _ q)
noncomputable abbrev MG := W → MSt → MH → Option MSt
noncomputable def tIG (K : PySem.W.Frag) (b : MG) : TG := fun v σ H C => ∃ R σi h w σ1, Rh K R h H ∧ Rst K R σi σ ∧ Rw K R w v ∧ b w σi h = some σ1 ∧ ∀ R' H' σ', Ext R R' → Rh K R' h H' → Rst K R' σ1 σ' → C σ' H'
noncomputable def PMG (X : Cx) (tg : Expr) (b : MG) : Prop := PG X tg (tIG X.K b)
theorem WN {X : Cx} {tg : Expr} {t t' : TG} (h : PG X tg t) (i : ∀ v σ H C, t' v σ H C → t v σ H C) : PG X tg t' := fun pins s σ H v u C I r q => h pins s σ H v u C I r (i _ _ _ _ q)
noncomputable def Je (i : Nat) : MG := fun w σ _ => some (σ.set i (some w))
theorem QF {X : Cx} {i : Nat} {x : Str} {pos : Pos} (hN : X.N.Nodup) (hi : X.N[i]? = some x) (hx : Loc X.env.scope x) (hf : X.fn x = true ∨ X.env.scope.names.lookup x = some .local := by first | exact .inl rfl | exact .inr rfl | assumption) :
    PMG X (.Name x pos) (Je i) := WN (K4 hN hi hx hf) <| by
  rintro v σ H C ⟨R, σi, h, w, σ1, rh, st, rw, e, k⟩
  cases e
  exact k R H _ (Ext.refl _) rh (st.set rw)
open Classical in
noncomputable def ZY (items : List W) (src : Option Nat) (b : MG) (body : SM) : List W → SM
  | [], σ, h => if YH src items h then some (.nx σ h) else none
  | w :: r, σ, h => if YH src items h then (b w σ h).bind fun σ1 => (body σ1 h).bind fun z => match z with
      | .nx σ2 h2 => ZY items src b body r σ2 h2
      | .ct σ2 h2 => ZY items src b body r σ2 h2
      | .bk σ2 h2 => some (.nx σ2 h2)
      | .rt v h2 => some (.rt v h2)
    else none
noncomputable def J4 (mi : MI) (b : MG) (body : SM) : SM := fun σ h => (mi σ h).bind fun p => ZY p.1 p.2.1 b body p.1 σ p.2.2
section
variable {X : Cx} {tg iter : Expr} {body : List Stmt} {mi : MI} {b : MG} {m : SM} {pos : Pos}
theorem Gq {K : PySem.W.Frag} {D : L2.Ends} {σ : L2.St} {H : Hp} (q : tS K (J4 mi b m) D σ H) : QbI (tII K mi) (tIG K b) (tS K m) D σ H := by
  obtain ⟨R, σi, h, r, rh, s, e, k⟩ := q
  obtain ⟨⟨items, src, h1⟩, e1, e2⟩ := Option.bind_eq_some_iff.mp e
  refine ⟨R, σi, h, items, src, h1, rh, s, e1, fun R1 H1 J x1 rh1 it => ?_⟩
  refine ⟨fun i n σ H => i + n = items.length ∧ ∃ R2 σ2 h2, Ext R1 R2 ∧ Rh K R2 h2 H ∧ Rst K R2 σ2 σ ∧ ∃ r, ZY items src b m (items.drop i) σ2 h2 = some r ∧ Ends K R2 D r, ⟨items.length, by simp, R1, σi, h1, Ext.refl _, rh1, s.mono x1, r, by simpa using e2, Ends.ext k x1⟩, ?_⟩
  rintro i n σ2' H2 ⟨hin, R2, σ2, h2, x2, rh2, s2, r2, e3, k2⟩
  by_cases hi : i < items.length
  · obtain ⟨w, hw⟩ : ∃ w, items[i]? = some w := ⟨items[i], List.getElem?_eq_getElem hi⟩
    have hd : items.drop i = w :: items.drop (i + 1) := by
      rw [List.drop_eq_getElem_cons hi]
      rw [List.getElem?_eq_getElem hi] at hw
      cases hw; rfl
    rw [hd] at e3
    unfold ZY at e3
    split at e3
    · rename_i hl
      obtain ⟨σ3, e4, e5⟩ := Option.bind_eq_some_iff.mp e3
      obtain ⟨z, e6, e7⟩ := Option.bind_eq_some_iff.mp e5
      refine .inr ⟨it.go i w R2 h2 H2 x2 rh2 hl hw, fun σ' H' => ∃ R3 σ4 h4, Ext R1 R3 ∧ Rh K R3 h4 H' ∧ Rst K R3 σ4 σ' ∧ ∃ r, ZY items src b m (items.drop (i + 1)) σ4 h4 = some r ∧ Ends K R3 D r, fun σ' H' hn => ⟨n - 1, by omega, by omega, hn⟩, fun x H' hy => ?_⟩
      obtain ⟨R3, x3, rh3, rw3⟩ := it.yld i w R2 h2 H2 x H' x2 rh2 hl hw hy
      refine ⟨R3, σ2, h2, w, σ3, rh3, s2.mono x3, rw3, e4, fun R4 H4 σ4' x4 rh4 s4 => ?_⟩
      refine ⟨R4, σ3, h2, z, rh4, s4, e6, ?_⟩
      cases z with
      | nx σ5 h5 => exact fun R5 H5 σ5' x5 rh5 s5 => ⟨R5, σ5, h5, x2.trans (x3.trans (x4.trans x5)), rh5, s5, r2, e7, Ends.ext k2 (x3.trans (x4.trans x5))⟩
      | ct σ5 h5 => exact fun R5 H5 σ5' x5 rh5 s5 => ⟨R5, σ5, h5, x2.trans (x3.trans (x4.trans x5)), rh5, s5, r2, e7, Ends.ext k2 (x3.trans (x4.trans x5))⟩
      | bk σ5 h5 => cases e7; exact fun R5 H5 σ5' x5 rh5 s5 => k2 R5 H5 σ5' (x3.trans (x4.trans x5)) rh5 s5
      | rt v h5 => cases e7; exact After.ext k2 (x3.trans x4)
    · cases e3
  · have hd : items.drop i = [] := List.drop_eq_nil_of_le (by omega)
    rw [hd] at e3
    unfold ZY at e3
    split at e3
    · rename_i hl
      cases e3
      exact .inl ⟨it.stop i R2 h2 H2 x2 rh2 hl (by omega), k2 R2 H2 σ2' (Ext.refl _) rh2 s2⟩
    · cases e3
theorem ZJ (hp : PassesOwn (model X.prog X.w) X.A X.env X.xe) (hc : X.calm = true) (hi : PMI X tg iter mi) (hg : PMG X tg b) (hb : Wq X body m)
    (hs : ∀ x, foldedSetIterable iter X.env x = pure x := by intro _; rfl) : PMS X (.For tg iter body [] pos) (J4 mi b m) := VV (GB hp hc hi hg hb hs) fun _ _ _ => Gq
end
section
variable {X : Cx} {c : Expr} {body : List Stmt} {t : MT} {m : SM} {pos : Pos}
end
end Mi

namespace Mi
open PySem PySem.Spec PyProof.Rows L2

section
variable {prog : Program} {w : World} {A : Around} {E : Value → Shared → Prop} {R : Result → Shared → Prop} {s : Shared}
theorem XU {elt target iter : Expr} {ifs : List Expr} {scope : Scope} {pos : Pos} {it acc : Value} {env : Env} (I : Nat → Shared → Prop)
    (turn : ∀ n s, I n s → wpAny (model prog w) A (pyNext it) (fun r s₁ => match r with
      | none => R (.ok .next) s₁
      | some v => wpAny (model prog w) A (letOwnedTupleGo target it v) (fun _ s₁' => wpAny (model prog w) A (assign target env v) (fun _ s₂ =>
          wpAny (model prog w) A (forIn ifs true fun c r => if r = true then do let ok ← isTrue c env (eval c env); pure (ForInStep.yield ok) else pure (ForInStep.yield r)) (fun ok s₃ =>
            if ok = true then wpAny (model prog w) A (eval elt env) (fun x s₄ =>
              wpAny (model prog w) A (call (.builtin "list.append") [acc, x]) (fun _ s₅ => ∃ m, m < n ∧ I m s₅) (fun _ _ => False) s₄) (fun _ _ => False) s₃
            else ∃ m, m < n ∧ I m s₃) (fun _ _ => False) s₂) (fun _ _ => False) s₁') (fun _ _ => False) s₁) (fun _ _ => False) s)
    (n : Nat) (h : I n s) :
    codeAny (model prog w) A (.compLoop (.ListComp elt [⟨target, iter, ifs, 0⟩] scope pos) 0 it acc env) R s := by
  refine codeAny_loop rfl I (fun n s hI => ?_) n h
  show wpAny _ A ((compTurn (.ListComp elt [⟨target, iter, ifs, 0⟩] scope pos) 0 it acc env).onRaise (fun x => do noteFrame x env; theTreesLotGoes x)) _ _ s
  refine wpAny_noted ?_
  rw [compTurn_list]
  refine wpAny_bind (wpAny_standAt (wpAny_bind (wpAny_mono (turn n s hI) (fun r s₁ h₁ => ?_) fun _ _ h' => h'.elim)))
  cases r with
  | none => exact wpAny_pure h₁
  | some v =>
    refine wpAny_bind (wpAny_mono h₁ (fun _ s₁' h₁' => ?_) fun _ _ h' => h'.elim)
    refine wpAny_bind (wpAny_mono h₁' (fun _ s₂ h₂ => wpAny_bind (wpAny_mono h₂ (fun ok s₃ h₃ => ?_) fun _ _ h' => h'.elim)) fun _ _ h' => h'.elim)
    cases ok with
    | false => exact wpAny_pure ⟨rfl, h₃⟩
    | true =>
      exact wpAny_bind (wpAny_bind (wpAny_mono h₃ (fun x s₄ h₄ => wpAny_bind (wpAny_mono h₄ (fun _ s₅ h₅ => wpAny_pure (wpAny_pure ⟨rfl, h₅⟩)) fun _ _ h' => h'.elim)) fun _ _ h' => h'.elim))
end

theorem sz {h : Heap} {b : Addr} {o : Obj} {n : Nat} (e : h.get? b = some o) (hn : h.objs.size ≤ n) : ¬ b = n := fun z => by
  have h1 : @LT.lt Nat instLTNat b h.objs.size := Heap.lt_size e
  subst z
  exact Nat.lt_irrefl _ (Nat.lt_of_lt_of_le h1 hn)
noncomputable abbrev blk (X : Cx) (scope : Scope) (cl : List (Str × Addr)) (Nb : List Str) (s₀ : Shared) (H₀ : Hp) (C : Addr) (ex : List Addr) (pn : List (Addr × Obj)) : Cx :=
  { X with N := Nb, s₀ := s₀, H₀ := H₀, env := compEnvC scope cl C X.env, outer := X.stack, stack := X.stack, ex := ex, fn := fun _ => false, pn := pn, xe := fun _ _ => False }

structure BlkOk (X : Cx) (scope : Scope) (cl : List (Str × Addr)) (Nb : List Str) (cp : List (Option Nat)) : Prop where
  clos : closureFor scope X.env = pure cl
  cell : ∀ y ∈ scope.names, y.2 ≠ .cell
  kind : scope.kind = .function
  names : ∀ y ∈ scope.names, y.2 = .local → scope.names.lookup y.1 = some .local
  sub : ∀ x c, cl.lookup x = some c → X.env.cells.lookup x = some c
  has : ∀ x, ((relabel scope X.env).names.lookup x = some .cell ∨ (relabel scope X.env).names.lookup x = some .free) → ∃ c, cl.lookup x = some c
  len : cp.length = Nb.length
  cap : ∀ (i j : Nat) (x : Str), cp[i]? = some (some j) → Nb[i]? = some x → X.N[j]? = some x ∧ Vis X.env.scope x ∧ (X.env.kindOf x = some .cell ∨ X.env.kindOf x = some .free) ∧ ((relabel scope X.env).names.lookup x = some .cell ∨ (relabel scope X.env).names.lookup x = some .free)

noncomputable def Xo (cp : List (Option Nat)) (σ : L2.St) : L2.St := cp.map fun o => match o with | none => none | some j => match σ[j]? with | some v => v | none => none

noncomputable def UH (wi : TI) (cp : List (Option Nat)) (g : TG) (tt : TT) (te : TE) : TE := fun σ H Q => wi σ H fun J H1 => ∃ W : Nat → Nat → List V → L2.St → Hp → Prop, (∃ m, W 0 m [] (Xo cp σ) H1) ∧ ∀ i m acc τ H, W i m acc τ H →
  (J.stop i H ∧ ∀ D, H D = none → Q (.ref D) (upd H D (.lst acc))) ∨
  (J.go i H ∧ ∀ x H', J.yld i H x H' → g x τ H' fun τ2 H2 => tt τ2 H2 fun b H3 => if b = true then te τ2 H3 fun v H4 => acc.length < sizeLine ∧ ∃ m', m' < m ∧ W (i + 1) m' (acc ++ [v]) τ2 H4 else ∃ m', m' < m ∧ W (i + 1) m' acc τ2 H3)

theorem Inv.track {X : Cx} {pins : List (Addr × Obj)} {σ : L2.St} {H : Hp} {s : Shared} {D : Addr} {o : HO} (I : Inv X pins σ H s) (hn : H D = none) (h0 : X.s₀.heap.objs.size ≤ D) (hL : X.env.locals ≠ D) (hc : ∀ x c, X.env.cells.lookup x = some c → c ≠ D)
    (hp : ∀ p ∈ X.pn ++ pins, p.1 ≠ D) (ob : ObjOk X.prog X.w (upd H D o) s.heap D o) : Inv X pins σ (upd H D o) s where
  ok := I.ok
  os := I.os
  bare := I.bare
  base := {
    keep := I.base.keep
    slot := I.base.slot
    free := fun b q e n nx => by
      have : b ≠ D := sz e h0
      rw [Qs this]; exact I.base.free b q e n nx
    there := I.base.there
    tups := fun b xs e => by
      have q := I.base.tups b xs e
      rw [Qs (fun z => by rw [z, hn] at q; cases q)]; exact q
    frzs := fun b q u e => by
      have z := I.base.frzs b q u e
      rw [Qs (fun y => by rw [y, hn] at z; cases z)]; exact z
    tbls := fun b ps e => by
      obtain ⟨more, q⟩ := I.base.tbls b ps e
      exact ⟨more, by rw [Qs (fun z => by rw [z, hn] at q; cases q)]; exact q⟩ }
  loc := I.loc
  cell := I.cell
  free := by rw [Qs hL]; exact I.free
  freeC := fun x c e => by rw [Qs (hc x c e)]; exact I.freeC x c e
  pin := fun p hp' => by
    obtain ⟨a, b, c⟩ := I.pin p hp'
    exact ⟨a, by rw [Qs (hp p hp')]; exact b, c⟩
  hok := fun a u e => by
    by_cases z : a = D
    · subst z
      rw [Zc] at e; cases e
      exact ob
    · rw [Qs z] at e
      refine (I.hok a u e).stay (fun _ _ _ q => q) (fun b q => ?_) (fun b xs q => ?_)
      · rw [Qs (fun y => by rw [y, hn] at q; cases q)]; exact q
      · rw [Qs (fun y => by rw [y, hn] at q; cases q)]; exact q
  len := I.len

section
variable {X : Cx} {elt tg iter : Expr} {ifs : List Expr} {scope : Scope} {pos : Pos} {cl : List (Str × Addr)} {Nb : List Str} {cp : List (Option Nat)} {wi : TI} {g : TG} {tt : TT} {te : TE}

theorem Cx.Ok.blk {pins : List (Addr × Obj)} {σ : L2.St} {H : Hp} {s : Shared} {C : Addr} {fp : List Addr} {pn : List (Addr × Obj)} (B : BlkOk X scope cl Nb cp) (I : Inv X pins σ H s) (hf : ∀ b ∈ fp, KJ X pins H b) (hfs : ∀ b ∈ fp, b < s.heap.objs.size) (hC : s.heap.objs.size ≤ C) :
    (blk X scope cl Nb s H C fp pn).Ok where
  mod := I.ok.mod
  kind := B.kind
  glob := I.ok.glob
  blt := I.ok.blt
  above := hC
  inj := fun x y c h1 h2 => I.ok.inj x y c (B.sub x c h1) (B.sub y c h2)
  has := fun x h => B.has x h
  cab := fun x c h => absurd h (by simp)
  hd := I.ok.hd
  frames := I.ok.frames
  stk := .inl rfl
  exf := fun b hb => ⟨fun z => by have := hfs b hb; rw [z] at this; exact absurd hC (Nat.not_le.mpr this), fun x c e => (hf b hb).2.2.2.2.1 x c (B.sub x c e)⟩
  bs := I.bs
  bsz := Nat.le_trans I.ok.bsz I.sz
  noex := fun b o e hb => by
    rcases (hf b hb).2.2.2.1 with z | z
    · exact I.ok.noex b o e z
    · exact sz e (Nat.le_trans I.ok.bsz z) rfl
  exfs := fun b hb z => by
    have := I.stkSub b z
    rcases List.mem_cons.mp this with q | q
    · exact (hf b hb).2.1 q
    · exact (hf b hb).2.2.1 q
  funs := I.stack
  frf := fun b hb => I.stkFree b hb

theorem KY {cp : List (Option Nat)} {σ : L2.St} {i : Nat} {v : V} (e : (Xo cp σ)[i]? = some (some v)) : ∃ j, cp[i]? = some (some j) ∧ σ[j]? = some (some v) := by
  unfold Xo at e
  rw [List.getElem?_map] at e
  obtain ⟨o, h1, h2⟩ := Option.map_eq_some_iff.mp e
  cases o with
  | none => cases h2
  | some j =>
    refine ⟨j, h1, ?_⟩
    simp only at h2
    split at h2
    · rename_i u hu; rw [hu, h2]
    · cases h2

theorem Inv.blk {pins : List (Addr × Obj)} {σ : L2.St} {H : Hp} {s : Shared} {C : Addr} {fp : List Addr} {h' : Heap} {m : Str → Option Value} {tk : Nat} (B : BlkOk X scope cl Nb cp) (I : Inv X pins σ H s) (hf : ∀ b ∈ fp, KJ X pins H b) (hfs : ∀ b ∈ fp, b < s.heap.objs.size)
    (hC : s.heap.objs.size ≤ C) (hns : h'.Ns C m) (hk : ∀ b o, s.heap.get? b = some o → h'.get? b = some o) : Inv (Mi.blk X scope cl Nb s H C fp (X.pn ++ pins)) [] (Xo cp σ) H { s with heap := h', toks := tk } where
  ok := Cx.Ok.blk B I hf hfs hC
  os := rfl
  bare := I.bare
  base := Un.kept hk
  loc := by
    refine ⟨m, hns, fun i x v hN e hv => ?_⟩
    obtain ⟨j, h1, h2⟩ := KY e
    obtain ⟨hX, hvis, hkd, hkb⟩ := B.cap i j x h1 hN
    obtain ⟨m0, n0, lk⟩ := I.loc
    obtain ⟨u, r, l⟩ := lk j x v hX h2 hvis
    refine ⟨u, r, ?_⟩
    rcases l with ⟨h, _⟩ | ⟨_, c, hc, hcell⟩
    · rcases hkd with z | z <;> rw [z] at h <;> cases h
    · refine .inr ⟨hkb, ?_⟩
      obtain ⟨c', hc'⟩ := B.has x hkb
      have := B.sub x c' hc'
      rw [hc] at this; cases this
      exact ⟨c, hc', by
        obtain ⟨o, h3, h4⟩ := hcell
        exact ⟨o, hk _ _ h3, h4⟩⟩
  cell := fun x c e => by
    obtain ⟨v, o, h3, h4⟩ := I.cell x c (B.sub x c e)
    exact ⟨v, o, hk _ _ h3, h4⟩
  free := I.hok.fresh hC
  freeC := fun x c e => I.freeC x c (B.sub x c e)
  pin := fun p hp => by
    rw [List.append_nil] at hp
    obtain ⟨a, b, c, d, e⟩ := I.pin p hp
    refine ⟨hk _ _ a, b, fun z => ?_, fun z => ?_, e⟩
    · have := Heap.lt_size a; rw [z] at this; exact absurd hC (Nat.not_le.mpr this)
    · rcases List.mem_cons.mp (I.stkSub _ z) with q | q
      · exact c q
      · exact d q
  hok := I.hok.kept hk
  len := by unfold Xo; rw [List.length_map]; exact B.len

noncomputable def QaT (X : Cx) (pins : List (Addr × Obj)) (σ : L2.St) (use : Option (Value → Sem Unit)) (Q : VK) (Q' : Value → Shared → Prop) : Prop :=
  ∀ (D C : Addr) (H' : Hp) (s' : Shared) (m : Str → Option Value), Inv X pins σ H' s' → s'.heap.Ns C m → H' C = none → ¬ C = X.env.locals → X.s₀.heap.objs.size ≤ C → (∀ x c, X.env.cells.lookup x = some c → c ≠ C) → (∀ p ∈ X.pn ++ pins, p.1 ≠ C) → Q (.ref D) H' →
    compPost (model X.prog X.w) X.A X.xe use Q' (.ref D) C (.ok .next) s'
theorem Wc {use : Option (Value → Sem Unit)} {Q' : Value → Shared → Prop} {pins : List (Addr × Obj)} {s : Shared} {σ : L2.St} {H : Hp} {Q : VK} {newp : Pos} (hc : X.calm = true) (B : BlkOk X scope cl Nb cp) (hi : PI X tg iter wi) (hg : ∀ s₀ H₀ C ex pn, PG (Mi.blk X scope cl Nb s₀ H₀ C ex pn) tg g)
    (ht : ∀ s₀ H₀ C ex pn, ∀ (pins : List (Addr × Obj)) (s : Shared) (τ : L2.St) (H : Hp) (Q : Bool → Hp → Prop), Inv (Mi.blk X scope cl Nb s₀ H₀ C ex pn) pins τ H s → tt τ H Q →
      wpAny (model X.prog X.w) X.A (forIn ifs true fun c r => if r = true then do let ok ← isTrue c (compEnvC scope cl C X.env) (eval c (compEnvC scope cl C X.env)); pure (ForInStep.yield ok) else pure (ForInStep.yield r)) (TP (Mi.blk X scope cl Nb s₀ H₀ C ex pn) pins τ Q) (fun _ _ => False) s)
    (he : ∀ s₀ H₀ C ex pn, PE (Mi.blk X scope cl Nb s₀ H₀ C ex pn) elt te) (hs : ∀ x, foldedSetIterable iter X.env x = pure x)
    (I : Inv X pins σ H s) (h : UH wi cp g tt te σ H Q) (hfin : QaT X pins σ use Q Q') :
    wpAny (model X.prog X.w) X.A (comprehension (.ListComp elt [⟨tg, iter, ifs, 0⟩] scope pos) scope X.env newp (newList []) false (eval iter X.env) use) Q' X.xe s := by
  refine wpAny_comprehension_free (use := use) rfl hs B.clos B.kind B.names (wpAny_mono (hi pins s σ H _ I h) (fun xv s₁ h₁ => wpAny_mono h₁ (fun itv s₂ h₂ => ?_) fun _ _ e => e) fun _ _ e => e)
  obtain ⟨it, fp, tn, J, H2, rfl, I2, T, st2, f2, W, ⟨m0, w0⟩, turn⟩ := h₂
  have hfs : ∀ b ∈ fp, b < s₂.heap.objs.size := fun b hb => by
    obtain ⟨o, e, _⟩ := T.obj _ _ st2 b hb
    exact Heap.lt_size e
  refine wpAny_newObj_type (wpAny_newFunctionEnv B.cell (by intro y hy; simp at hy) (fun h₁ hns₁ hsb₁ => ?_) B.kind)
  dsimp only at hns₁ hsb₁ ⊢
  generalize hH2 : s₂.heap.push { cls := .type "list", dict := none, data := .seq ([] : List Value).toArray } = G2 at hns₁ hsb₁ ⊢
  have hCz : G2.objs.size = s₂.heap.objs.size + 1 := by rw [← hH2, Heap.size_push]
  generalize hCC : G2.objs.size = C at hns₁ hsb₁ ⊢
  rw [hCC] at hCz
  have hCle : s₂.heap.objs.size ≤ C := by omega
  have hDC : s₂.heap.objs.size ≠ C := by omega
  have old : ∀ b o, s₂.heap.get? b = some o → h₁.get? b = some o := fun b o e => hsb₁.extBut b o (sz e hCle) (Heap.get?_push_of_some _ (hH2 ▸ Heap.get?_push_of_some _ e))
  have hacc : h₁.get? s₂.heap.objs.size = some { cls := .type "list", data := .seq ([] : List Value).toArray } := hsb₁.extBut _ _ hDC (Heap.get?_push_of_some _ (hH2 ▸ Heap.get?_push_size _ rfl))
  generalize hD : s₂.heap.objs.size = D at hacc hDC hCle hCz ⊢
  have hDle : s₂.heap.objs.size ≤ D := Nat.le_of_eq hD
  have hCle2 : s₂.heap.objs.size ≤ C := Nat.le_trans hDle hCle
  -- the block's context
  have I3 := Inv.blk (tk := s₂.toks + ([] : List (Str × Value)).length) B I2 f2 hfs (C := C) (Nat.le_trans (Nat.le_of_eq hD) hCle) hns₁ old
  have hDfp : D ∉ fp := fun z => Nat.lt_irrefl _ (Nat.lt_of_lt_of_le (hfs D z) hDle)
  have hCfp : C ∉ fp := fun z => Nat.lt_irrefl _ (Nat.lt_of_lt_of_le (hfs C z) hCle2)
  -- D in the block: not a frame's, not a cell's, not pinned
  have dcell : ∀ x c, cl.lookup x = some c → c ≠ D := fun x c e z => by
    obtain ⟨v, o, h3, _⟩ := I2.cell x c (B.sub x c e)
    exact sz h3 hDle z
  have dpin : ∀ p ∈ X.pn ++ pins, p.1 ≠ D := fun p hp z => sz (I2.pin p hp).1 hDle z
  have cpin : ∀ p ∈ X.pn ++ pins, p.1 ≠ C := fun p hp z => sz (I2.pin p hp).1 hCle2 z
  have dfs : D ∉ frs X.stack := fun z => by
    rcases List.mem_cons.mp (I2.stkSub _ z) with q | q
    · exact Nat.lt_irrefl _ (Nat.lt_of_lt_of_le (q ▸ I2.lt : D < s₂.heap.objs.size) hDle)
    · exact I2.nofs hDle q
  have fpst : ∀ {H' : Hp} {pl : List (Addr × Obj)}, (∀ b ∈ fp, H' b = none) → (∀ p ∈ pl, p.1 = D) → ∀ b ∈ fp, KJ (Mi.blk X scope cl Nb s₂ H2 C fp (X.pn ++ pins)) pl H' b := fun {H' pl} hn hpl b hb =>
    ⟨hn b hb, fun (z : b = C) => hCfp (z ▸ hb), fun z => by
      rcases List.mem_cons.mp (I2.stkSub _ z) with q | q
      · exact (f2 b hb).2.1 q
      · exact (f2 b hb).2.2.1 q, .inl hb, fun x c e => (f2 b hb).2.2.2.2.1 x c (B.sub x c e), fun p hp z => by
      rcases List.mem_append.mp hp with q | q
      · exact (f2 b hb).2.2.2.2.2 p q z
      · rw [hpl p q] at z; exact hDfp (z ▸ hb)⟩
  have fp0 : ∀ {H' : Hp}, (∀ b ∈ fp, H' b = none) → ∀ b ∈ fp, KJ X pins H' b := fun hn b hb => ⟨hn b hb, (f2 b hb).2⟩
  -- the end
  have fin : ∀ {τ : L2.St} {H' : Hp} {s' : Shared} {acc : List V} {its : List Value} {n : Nat} {mC : Str → Option Value}, Inv (Mi.blk X scope cl Nb s₂ H2 C fp (X.pn ++ pins)) [] τ H' s' → H' D = none → s'.heap.get? D = some { cls := .type "list", data := .seq its.toArray n } → Vals acc its → acc.length ≤ sizeLine → s'.heap.Ns C mC →
      (∀ D, H' D = none → Q (.ref D) (upd H' D (.lst acc))) → compPost (model X.prog X.w) X.A X.xe use Q' (.ref D) C (.ok .next) s' := by
    intro τ H' s' acc its n mC Ib hDH hDo r hz hns q
    have Ie : Inv X pins σ H' s' := I2.call' (ch := fp) (Ib.os) Ib.base Ib.hok Ib.bare fun b hb => ⟨(f2 b hb).2.2.2.1, (f2 b hb).2.1, (f2 b hb).2.2.2.2.1, (f2 b hb).2.2.2.2.2⟩
    have hsz : X.s₀.heap.objs.size ≤ s₂.heap.objs.size := I2.sz
    have It : Inv X pins σ (upd H' D (.lst acc)) s' := Inv.track Ie hDH (Nat.le_trans hsz hDle) (fun z => Nat.lt_irrefl _ (Nat.lt_of_lt_of_le (z ▸ I2.lt : D < s₂.heap.objs.size) hDle)) (fun x c e z => by
      obtain ⟨v, o, h3, _⟩ := I2.cell x c e
      exact sz h3 hDle z) dpin ⟨hz, its, n, r, hDo⟩
    exact hfin D C _ s' mC It hns (by rw [Qs (Ne.symm hDC)]; exact Ib.free) (fun z => Nat.lt_irrefl _ (Nat.lt_of_lt_of_le (z ▸ I2.lt : C < s₂.heap.objs.size) hCle2)) (Nat.le_trans hsz hCle2) (fun x c e z => by
      obtain ⟨v, o, h3, _⟩ := I2.cell x c e
      exact sz h3 hCle2 z) cpin (q D hDH)
  have loop : ∀ s₃ : Shared, s₃ = { s₂ with heap := h₁, toks := s₂.toks + ([] : List (Str × Value)).length } →
      codeAny (model X.prog X.w) X.A (.compLoop (.ListComp elt [⟨tg, iter, ifs, 0⟩] scope pos) 0 (.ref it) (.ref D) (compEnvC scope cl C X.env))
        (compPost (model X.prog X.w) X.A X.xe use Q' (.ref D) C) s₃ := by
    rintro s₃ rfl
    refine XU (fun n s' => ∃ i τ H' acc its k, Inv (Mi.blk X scope cl Nb s₂ H2 C fp (X.pn ++ pins)) [] τ H' s' ∧ tn i s'.heap ∧ (∀ b ∈ fp, H' b = none) ∧ H' D = none ∧ s'.heap.get? D = some { cls := .type "list", data := .seq (its : List Value).toArray k } ∧ Vals acc its ∧ acc.length ≤ sizeLine ∧ W i n acc τ H') ?_ m0
      ⟨0, Xo cp σ, H2, [], [], _, I3, T.keep _ _ _ st2 (fun b hb o e => old b o e), fun b hb => (f2 b hb).1, I2.hok.fresh hDle, hacc, .nil, Nat.zero_le _, w0⟩
    rintro n s3 ⟨i, τ, H3, acc, its, k, Ib, st3, fr3, hDH, hDo, r3, hz3, w3⟩
    have pinD : ∀ {τ' : L2.St} {H' : Hp} {s' : Shared}, Inv (Mi.blk X scope cl Nb s₂ H2 C fp (X.pn ++ pins)) [] τ' H' s' → H' D = none → s'.heap.get? D = some { cls := .type "list", data := .seq its.toArray k } →
        Inv (Mi.blk X scope cl Nb s₂ H2 C fp (X.pn ++ pins)) [(D, { cls := .type "list", data := .seq its.toArray k })] τ' H' s' := fun {τ' H' s'} I' hn ho => I'.pins_of fun p hp => by
      rw [List.mem_singleton] at hp; subst hp
      exact ⟨ho, hn, hDC, dfs, by intro v; simp⟩
    have IbD := pinD Ib hDH hDo
    have onlyD : ∀ p ∈ [(D, ({ cls := .type "list", data := .seq its.toArray k } : Obj))], p.1 = D := fun p hp => by rw [List.mem_singleton] at hp; subst hp; rfl
    have ofD : ∀ {τ' : L2.St} {H' : Hp} {s' : Shared}, Inv (Mi.blk X scope cl Nb s₂ H2 C fp (X.pn ++ pins)) [(D, { cls := .type "list", data := .seq its.toArray k })] τ' H' s' → s'.heap.get? D = some { cls := .type "list", data := .seq its.toArray k } ∧ H' D = none := fun I' => by
      obtain ⟨a, b, _⟩ := I'.pin (D, _) (List.mem_append_right _ (List.mem_singleton.mpr rfl))
      exact ⟨a, b⟩
    rcases turn i n acc τ H3 w3 with ⟨stop, qn⟩ | ⟨go, step⟩
    · refine wpAny_mono (T.done (Mi.blk X scope cl Nb s₂ H2 C fp (X.pn ++ pins)) rfl rfl rfl hc i _ s3 τ H3 (fun _ _ => False) IbD (fpst fr3 onlyD) st3 stop) (fun r s4 ⟨hr, I4⟩ => ?_) fun _ _ z => z.elim
      subst hr
      obtain ⟨o4, n4⟩ := ofD I4
      obtain ⟨m4, ns4, _⟩ := I4.loc
      have I4' : Inv (Mi.blk X scope cl Nb s₂ H2 C fp (X.pn ++ pins)) [] τ H3 s4 := I4.pins_of fun p hp => by cases hp
      exact fin I4' n4 o4 r3 hz3 ns4 qn
    · refine wpAny_mono (T.item (Mi.blk X scope cl Nb s₂ H2 C fp (X.pn ++ pins)) rfl rfl rfl hc i _ s3 τ H3 (fun _ _ => False) IbD (fpst fr3 onlyD) st3 go) (fun r s4 ⟨u, hr, h4⟩ => ?_) fun _ _ z => z.elim
      subst hr
      refine wpAny_mono h4 (fun _ s5 ⟨x, H5, I5, r5, y5, st5, fr5⟩ => ?_) fun _ _ z => z.elim
      have I5' := I5.pinned (fpst fr5 onlyD) (T.obj _ _ st5)
      refine wpAny_mono (hg s₂ H2 C fp (X.pn ++ pins) _ s5 τ H5 x u _ I5' r5 (step x H5 y5)) (fun _ s6 ⟨τ6, H6, I6, q6⟩ => ?_) fun _ _ z => z.elim
      refine wpAny_mono (ht s₂ H2 C fp (X.pn ++ pins) _ s6 τ6 H6 _ I6 q6) (fun ok s7 ⟨H7, I7, q7⟩ => ?_) fun _ _ z => z.elim
      have keepT : ∀ {τ' : L2.St} {H' : Hp} {s' : Shared}, Inv (Mi.blk X scope cl Nb s₂ H2 C fp (X.pn ++ pins)) ([(D, { cls := .type "list", data := .seq its.toArray k })] ++ XB fp s5.heap) τ' H' s' → tn (i + 1) s'.heap ∧ (∀ b ∈ fp, H' b = none) ∧ s'.heap.get? D = some { cls := .type "list", data := .seq its.toArray k } ∧ H' D = none := fun {τ' H' s'} I' => by
        refine ⟨T.keep _ _ _ st5 fun b hb o e => (I'.pin (b, o) (List.mem_append_right _ (List.mem_append_right _ (Z2 hb e)))).1, fun b hb => ?_, ?_⟩
        · obtain ⟨o, e, d⟩ := T.obj _ _ st5 b hb
          exact (I'.pin (b, o) (List.mem_append_right _ (List.mem_append_right _ (Z2 hb e)))).2.1
        · obtain ⟨a, b, _⟩ := I'.pin (D, { cls := .type "list", data := .seq its.toArray k }) (List.mem_append_right _ (List.mem_append_left _ (List.mem_singleton.mpr rfl)))
          exact ⟨a, b⟩
      cases ok with
      | false =>
        rw [if_neg Bool.false_ne_true] at q7 ⊢
        obtain ⟨m', hm, w7⟩ := q7
        obtain ⟨t7, f7, o7, n7⟩ := keepT I7
        exact ⟨m', hm, i + 1, τ6, H7, acc, its, k, I7.pins_of (fun p hp => by cases hp), t7, f7, n7, o7, r3, hz3, w7⟩
      | true =>
        rw [if_pos rfl] at q7 ⊢
        refine wpAny_mono (he s₂ H2 C fp (X.pn ++ pins) _ s7 τ6 H7 _ I7 q7) (fun y s8 ⟨v8, H8, I8, r8, hlt, m', hm, w8⟩ => ?_) fun _ _ z => z.elim
        obtain ⟨t8, f8, o8, n8⟩ := keepT I8
        have hlen := r3.length
        refine call_meets F.slot_list_append ⟨_, o8, rfl⟩ F.entry_list_append (F.args_list_append_2 _ _) (PySem.list_append D its.toArray k y (by rw [List.size_toArray]; omega)) ⟨o8, ?_⟩
        have q := PySem.IsL.update o8 (·.push y)
        have hf : its.toArray.push y = (its ++ [y]).toArray := by simp
        rw [hf] at q
        have I8' : Inv (Mi.blk X scope cl Nb s₂ H2 C fp (X.pn ++ pins)) [] τ6 H8 s8 := I8.pins_of fun p hp => by cases hp
        have I9 : Inv (Mi.blk X scope cl Nb s₂ H2 C fp (X.pn ++ pins)) [] τ6 H8 { s8 with heap := s8.heap.update D (Obj.mapSeq (·.push y)), toks := s8.toks } :=
          I8'.turned (it := D) (fun b o hb e => (Heap.get?_update_other s8.heap (Obj.mapSeq (·.push y)) (Ne.symm hb)).trans e) n8 hDC (.inr hDle) (fun x c e => dcell x c e) fun p hp => by
            rw [List.append_nil] at hp; exact dpin p hp
        refine ⟨m', hm, i + 1, τ6, H8, acc ++ [v8], its ++ [y], _, I9, T.keep _ _ _ t8 (fun b hb o e => (Heap.get?_update_other s8.heap (Obj.mapSeq (·.push y)) (fun (z : D = b) => hDfp (z ▸ hb))).trans e), f8, n8, q, r3.append (.cons r8 .nil), by rw [List.length_append, List.length_singleton]; omega, w8⟩
  exact codeAny_compStart_list (loop _ rfl) (T.self _ 0 _ _ _ (T.keep _ _ _ st2 (fun b hb o e => old b o e)) (loop _ rfl))
theorem KU (hc : X.calm = true) (B : BlkOk X scope cl Nb cp) (hi : PI X tg iter wi) (hg : ∀ s₀ H₀ C ex pn, PG (Mi.blk X scope cl Nb s₀ H₀ C ex pn) tg g)
    (ht : ∀ s₀ H₀ C ex pn, ∀ (pins : List (Addr × Obj)) (s : Shared) (τ : L2.St) (H : Hp) (Q : Bool → Hp → Prop), Inv (Mi.blk X scope cl Nb s₀ H₀ C ex pn) pins τ H s → tt τ H Q →
      wpAny (model X.prog X.w) X.A (forIn ifs true fun c r => if r = true then do let ok ← isTrue c (compEnvC scope cl C X.env) (eval c (compEnvC scope cl C X.env)); pure (ForInStep.yield ok) else pure (ForInStep.yield r)) (TP (Mi.blk X scope cl Nb s₀ H₀ C ex pn) pins τ Q) (fun _ _ => False) s)
    (he : ∀ s₀ H₀ C ex pn, PE (Mi.blk X scope cl Nb s₀ H₀ C ex pn) elt te) (hs : ∀ x, foldedSetIterable iter X.env x = pure x := by intro _; rfl) :
    PE X (.ListComp elt [⟨tg, iter, ifs, 0⟩] scope pos) (UH wi cp g tt te) := by
  intro pins s σ H Q I h
  rw [eval_ListComp]
  refine Wc hc B hi hg ht he hs I h fun D C H' s' m I' hns hn hL h0 hcell hp q => ⟨m, hns, fun h'' sb => ?_⟩
  exact ⟨.ref D, H', I'.turned (t' := s'.toks) (it := C) (fun b o hb e => sb.extBut b o hb e) hn hL (.inr h0) hcell hp, rfl, q⟩
end
end Mi

namespace Mi
open PySem PySem.Spec PyProof.Rows L2

noncomputable def IterR (X : Cx) (tg : Expr) (r : V → Hp → (It → Hp → Prop) → Prop) : Prop :=
  ∀ (pins : List (Addr × Obj)) (s : Shared) (σ : L2.St) (H : Hp) (x : V) (v : Value) (C : It → Hp → Prop), Inv X pins σ H s → RelV x v → r x H C → wpAny (model X.prog X.w) X.A (pyIter v) (PIE X pins σ tg C) X.xe s
section
variable {X : Cx} {tg : Expr}
theorem IterR.or {r r' : V → Hp → (It → Hp → Prop) → Prop} (h : IterR X tg r) (h' : IterR X tg r') : IterR X tg (fun x H C => r x H C ∨ r' x H C) := fun pins s σ H x v C I rx q => by
  rcases q with q | q
  · exact h pins s σ H x v C I rx q
  · exact h' pins s σ H x v C I rx q
theorem it_list : IterR X tg (fun x H C => ∃ a, x = .ref a ∧ (∃ xs, SqL X.K H a xs) ∧ C (Itl X.K a) H) := by
  intro pins s1 σ H1 x v C I1 r1 q1
  obtain ⟨a, e, ⟨xs, hq⟩, q⟩ := q1
  subst e
  cases r1
  obtain ⟨its, rv, p, hz⟩ := I1.list hq
  refine wpAny_pyIter_list p.isList ?_
  refine ⟨s1.heap.objs.size, [s1.heap.objs.size], _, _, H1, rfl, I1.kept (t' := s1.toks) fun b o e => Heap.get?_push_of_some _ e, Yt a _, ⟨_, Heap.get?_push_size _ rfl, rfl, rfl⟩, fun b hb => ?_, q⟩
  have e : b = s1.heap.objs.size := by simpa using hb
  subst e
  exact I1.fpOk (Nat.le_refl _) (I1.hok.fresh (Nat.le_refl _))
theorem Ga : IterR X tg (fun x H C => ∃ a, x = .ref a ∧ (∃ xs, SqT X.K H a xs) ∧ C (Itt X.K a) H) := by
  intro pins s1 σ H1 x v C I1 r1 q1
  obtain ⟨a, e, ⟨xs, hq⟩, q⟩ := q1
  subst e
  cases r1
  obtain ⟨its, rv, p, hz⟩ := I1.tuple hq
  refine wpAny_pyIter_tuple (show s1.heap.IsTuple a its.toArray from p) ?_
  refine ⟨s1.heap.objs.size, [s1.heap.objs.size], _, _, H1, rfl, I1.kept (t' := s1.toks) fun b o e => Heap.get?_push_of_some _ e, Kw a _, ⟨_, Heap.get?_push_size _ rfl, rfl, rfl⟩, fun b hb => ?_, q⟩
  have e : b = s1.heap.objs.size := by simpa using hb
  subst e
  exact I1.fpOk (Nat.le_refl _) (I1.hok.fresh (Nat.le_refl _))
noncomputable def Its (x : Str) : It := ⟨fun i _ => i < x.cps.size, fun i H v H' => H' = H ∧ ∃ c, x.cps[i]? = some c ∧ v = .str ⟨#[c]⟩, fun i _ => x.cps.size ≤ i⟩
noncomputable def Xw (x : Str) : List W := x.cps.toList.map fun c => .str ⟨#[c]⟩
theorem Wn {P : Program} {w : World} {K : PySem.W.Frag} {tg : Expr} (it : Addr) (x : Str) (ty : String) (t : Tok) (hty : ty = "str_ascii_iterator" ∨ ty = "str_iterator") :
    Turn P w K tg (Its x) [it] it (fun i h => i ≤ x.cps.size ∧ h.IsStrIter it ty x t i) where
  mem := by simp
  obj := fun i h st b hb => by
    have e : b = it := by simpa using hb
    subst e
    obtain ⟨_, o, e, c, d⟩ := st
    exact ⟨o, e, fun v z => by rw [d] at z; cases z⟩
  keep := fun i h h' st k => ⟨st.1, let ⟨o, ho, r⟩ := st.2; ⟨o, k it (by simp) o ho, r⟩⟩
  item := by
    intro X hP hw hK hc i pins s σ H E I hf st hg
    subst hP hw hK
    obtain ⟨hi, st⟩ := st
    obtain ⟨f0, f1, f2, f3, f4, f5⟩ := hf it (by simp)
    have hg' : i < x.cps.size := hg
    have hx : x.cps[i]? = some (x.cps[i]'hg') := Array.getElem?_eq_getElem hg'
    have fin : ∀ h' : Heap, h'.IsStrIter it ty x t (i + 1) → Heap.SameBut it s.heap h' → ∃ u, some (Value.str ⟨#[x.cps[i]'hg']⟩ s.toks) = some u ∧ wpAny (model X.prog X.w) X.A (letOwnedTupleGo tg (.ref it) u) (fun _ s2 => ∃ y H', Inv X pins σ H' s2 ∧ RelV y u ∧ (Its x).yld i H y H' ∧ (i + 1 ≤ x.cps.size ∧ s2.heap.IsStrIter it ty x t (i + 1)) ∧ ∀ b ∈ [it], H' b = none) E { s with heap := h', toks := s.toks + 1 } := fun h' st' sb => by
      have I1 : Inv X pins σ H { s with heap := h', toks := s.toks + 1 } := I.turned (fun b o hb e => (sb.2 b hb).trans e) f0 f1 f3 f4 f5
      obtain ⟨o, e, c, d⟩ := id st'
      refine ⟨_, rfl, YZ (s := { s with heap := h', toks := s.toks + 1 }) e c d (by rcases hty with z | z <;> rw [z] <;> decide) ⟨.str ⟨#[x.cps[i]'hg']⟩, H, I1, ⟨_, rfl⟩, ⟨rfl, _, hx, rfl⟩, ⟨hg, st'⟩, fun b hb => (hf b hb).1⟩⟩
    rcases hty with z | z
    · subst z
      exact wpAny_pyNext_ascii_item st hx fin
    · subst z
      exact wpAny_pyNext_wide_item st hx fin
  done := by
    intro X hP hw hK hc i pins s σ H E I hf st hg
    subst hP hw hK
    obtain ⟨hi, st⟩ := st
    obtain ⟨f0, f1, f2, f3, f4, f5⟩ := hf it (by simp)
    have hx : x.cps[i]? = none := by have : x.cps.size ≤ i := hg; simp; omega
    rcases hty with z | z
    · subst z
      exact wpAny_pyNext_ascii_end (I.ok.hd hc) st hx fun h' eb => ⟨rfl, I.turned (t' := s.toks) (fun b o hb e => eb b o hb e) f0 f1 f3 f4 f5⟩
    · subst z
      exact wpAny_pyNext_wide_end (I.ok.hd hc) st hx fun h' eb => ⟨rfl, I.turned (t' := s.toks) (fun b o hb e => eb b o hb e) f0 f1 f3 f4 f5⟩
  self := fun _ _ _ _ _ st h => by
    rcases hty with z | z
    · subst z; exact wpAny_pyIter_striter_ascii st.2 h
    · subst z; exact wpAny_pyIter_striter_wide st.2 h
theorem Qaa : IterR X tg (fun x H C => ∃ y, x = .str y ∧ C (Its y) H) := by
  intro pins s1 σ H1 x v C I1 r1 q1
  obtain ⟨y, rfl, q⟩ := q1
  obtain ⟨t, rfl⟩ := r1
  have fin : ∀ ty, (ty = "str_ascii_iterator" ∨ ty = "str_iterator") → PIE X pins σ tg C (.ref s1.heap.objs.size) { s1 with heap := s1.heap.push { cls := .type ty, data := .fields #[.str y t, .int 0 0] } } := fun ty hty => by
    refine ⟨s1.heap.objs.size, [s1.heap.objs.size], _, _, H1, rfl, I1.kept (t' := s1.toks) fun b o e => Heap.get?_push_of_some _ e, Wn _ y ty t hty, ⟨Nat.zero_le _, _, Heap.get?_push_size _ rfl, rfl, rfl⟩, fun b hb => ?_, q⟩
    have e : b = s1.heap.objs.size := by simpa using hb
    subst e
    exact I1.fpOk (Nat.le_refl _) (I1.hok.fresh (Nat.le_refl _))
  cases ha : y.cps.all (· < 128)
  · exact wpAny_pyIter_wide ha (fin _ (.inr rfl))
  · exact wpAny_pyIter_ascii ha (fin _ (.inl rfl))
end
noncomputable def Yd (h : MH) : W → Option (List W × Option Nat)
  | .tup ws => some (ws, none)
  | .lst ws => some (ws, none)
  | .frz ws => some (ws, none)
  | .str x => some (Xw x, none)
  | .ref n => match h[n]? with | some (.lst ws) => some (ws, some n) | _ => none
  | _ => none
noncomputable def Zx (m : ME) : MI := fun σ h => (m σ h).bind fun p => (Yd p.2 p.1).map fun q => (q.1, q.2, p.2)
section
variable {K : PySem.W.Frag} {R : Rn}
theorem Xt {a : Addr} {xs : List V} {ws : List W} (hq : SqL K R.F a xs) (r : Rws K R ws xs) : ItOk K R (Itl K a) ws none where
  go := fun i w R' h H x rh _ e => by
    obtain ⟨v, h1, _⟩ := r.get e
    exact ⟨xs, v, Zr (fun b o z => rh.sub b o (x.f b o z)) hq, h1⟩
  yld := fun i w R' h H x H' e rh _ ew hy => by
    obtain ⟨rfl, hx⟩ := hy
    obtain ⟨v, h1, h2⟩ := r.get ew
    have := hx xs (Zr (fun b o z => rh.sub b o (e.f b o z)) hq)
    rw [h1] at this; cases this
    exact ⟨R', Ext.refl _, rh, Rw.mono e _ _ h2⟩
  stop := fun i R' h H x rh _ hl => ⟨xs, Zr (fun b o z => rh.sub b o (x.f b o z)) hq, by rw [← r.length]; exact hl⟩
theorem We {a : Addr} {xs : List V} {ws : List W} (hq : SqT K R.F a xs) (r : Rws K R ws xs) : ItOk K R (Itt K a) ws none where
  go := fun i w R' h H x rh _ e => by
    obtain ⟨v, h1, _⟩ := r.get e
    exact ⟨xs, v, QR (fun b o z => rh.sub b o (x.f b o z)) hq, h1⟩
  yld := fun i w R' h H x H' e rh _ ew hy => by
    obtain ⟨rfl, hx⟩ := hy
    obtain ⟨v, h1, h2⟩ := r.get ew
    have := hx xs (QR (fun b o z => rh.sub b o (e.f b o z)) hq)
    rw [h1] at this; cases this
    exact ⟨R', Ext.refl _, rh, Rw.mono e _ _ h2⟩
  stop := fun i R' h H x rh _ hl => ⟨xs, QR (fun b o z => rh.sub b o (x.f b o z)) hq, by rw [← r.length]; exact hl⟩
theorem YK {n : Nat} {ws : List W} (hn : n < R.N) : ItOk K R (Itl K (R.ρ n)) ws (some n) where
  go := fun i w R' h H x rh hl e => by
    obtain ⟨xs, h1, h2⟩ := rh.obj n _ (hl n rfl)
    obtain ⟨v, h3, _⟩ := h2.get e
    rw [x.ρ n hn] at h1
    exact ⟨xs, v, SqL.of h1, h3⟩
  yld := fun i w R' h H x H' e rh hl ew hy => by
    obtain ⟨rfl, hx⟩ := hy
    obtain ⟨xs, h1, h2⟩ := rh.obj n _ (hl n rfl)
    obtain ⟨v, h3, h4⟩ := h2.get ew
    rw [e.ρ n hn] at h1
    have := hx xs (SqL.of h1)
    rw [h3] at this; cases this
    exact ⟨R', Ext.refl _, rh, h4⟩
  stop := fun i R' h H x rh hl hle => by
    obtain ⟨xs, h1, h2⟩ := rh.obj n _ (hl n rfl)
    rw [x.ρ n hn] at h1
    exact ⟨xs, SqL.of h1, by rw [← h2.length]; exact hle⟩
theorem Wv {x : Str} : ItOk K R (Its x) (Xw x) none where
  go := fun i w R' h H _ _ _ e => by
    have := (List.getElem?_eq_some_iff.mp e).1
    show i < x.cps.size
    simpa [Xw] using this
  yld := fun i w R' h H v H' e rh _ ew hy => by
    obtain ⟨rfl, c, hc, rfl⟩ := hy
    unfold Xw at ew
    rw [List.getElem?_map, Array.getElem?_toList, hc] at ew
    cases ew
    exact ⟨R', Ext.refl _, rh, Rw.str _⟩
  stop := fun i R' h H _ _ _ hl => by
    show x.cps.size ≤ i
    simpa [Xw] using hl
theorem KA {lo : Int} {n : Nat} : ItOk K R (Itr lo n) ((List.range n).map fun (i : Nat) => W.int (lo + (i : Int))) none where
  go := fun i w R' h H _ _ _ e => by
    have := (List.getElem?_eq_some_iff.mp e).1
    show i < n
    simpa using this
  yld := fun i w R' h H v H' e rh _ ew hy => by
    obtain ⟨rfl, rfl⟩ := hy
    rw [List.getElem?_map] at ew
    obtain ⟨j, hj, e2⟩ := Option.map_eq_some_iff.mp ew
    rw [List.getElem?_range (by have := (List.getElem?_eq_some_iff.mp hj).1; simpa using this)] at hj
    cases hj
    cases e2
    exact ⟨R', Ext.refl _, rh, Rw.int _⟩
  stop := fun i R' h H _ _ _ hl => by
    show n ≤ i
    simpa using hl
end
section
variable {X : Cx} {tg a b c : Expr} {ma : ME} {ms : MA} {pos p : Pos}
theorem Jd (ha : PM X a ma) : PMI X tg a (Zx ma) := by
  intro pins s σ H C I q
  obtain ⟨R, σi, h, items, src, h', rh, st, e, k⟩ := q
  obtain ⟨⟨w, h1⟩, e1, e2⟩ := Option.bind_eq_some_iff.mp e
  obtain ⟨⟨its, sr⟩, e3, e4⟩ := Option.map_eq_some_iff.mp e2
  cases e4
  refine thn (ha pins s σ H _ I ⟨R, σi, h, w, h1, rh, st, e1, fun R1 H1 v x1 rh1 rv => ?_⟩) fun v s1 ⟨x, H1, I1, r1, q1⟩ => ((it_list.or Ga).or Qaa) pins s1 σ H1 x v C I1 r1 q1
  cases w with
  | tup ws =>
    cases e3
    obtain ⟨ad, xs, rfl, h2, h3⟩ := rh1.tupAt rv
    unfold Rw at rv
    obtain ⟨ad', xs', e5, e6, e7⟩ := rv
    cases e5
    exact .inl (.inr ⟨_, rfl, ⟨xs, h2⟩, k R1 H1 _ x1 rh1 (We e6 e7)⟩)
  | lst ws =>
    cases e3
    unfold Rw at rv
    obtain ⟨ad', xs', rfl, e6, e7⟩ := rv
    exact .inl (.inl ⟨_, rfl, ⟨xs', SqL.of (rh1.sub _ _ e6)⟩, k R1 H1 _ x1 rh1 (Xt (SqL.of e6) e7)⟩)
  | frz ws =>
    cases e3
    unfold Rw at rv
    obtain ⟨ad', xs', rfl, e6, e7⟩ := rv
    exact .inl (.inl ⟨_, rfl, ⟨xs', Zr rh1.sub e6⟩, k R1 H1 _ x1 rh1 (Xt e6 e7)⟩)
  | str y =>
    cases e3
    rw [rv.str_eq]
    exact .inr ⟨y, rfl, k R1 H1 _ x1 rh1 Wv⟩
  | ref n =>
    simp only [Yd] at e3
    split at e3
    · rename_i ws hn
      cases e3
      obtain ⟨hlt, rfl, xs, h2, h3⟩ := rh1.refAt rv hn
      exact .inl (.inl ⟨_, rfl, ⟨xs, SqL.of h2⟩, k R1 H1 _ x1 rh1 (YK hlt)⟩)
    · cases e3
  | _ => cases e3
noncomputable def QA (lo : Int) (n : Nat) : List W := (List.range n).map fun (i : Nat) => W.int (lo + (i : Int))
noncomputable def XD (ms : MA) : MI := fun σ h => (ms σ h).bind fun p => match p.1 with
  | [.int j] => if -(2 ^ 62) ≤ j ∧ j < 2 ^ 62 then some (QA 0 j.toNat, none, p.2) else none
  | _ => none
theorem Vj (hg : Gl X "range") (hm : X.mg "range" = none) (ha : PMA X [a] ms) (hs : starEach [a] X.env = [(false, eval a X.env)] := by rfl) : PMI X tg (.Call (.Name "range" p) [a] [] pos) (XD ms) :=
  WQ (KQ hg hm ha hs) fun σ H C ⟨R, σi, h, items, src, h', rh, st, e, k⟩ => by
    obtain ⟨⟨ws, h1⟩, e1, e2⟩ := Option.bind_eq_some_iff.mp e
    refine ⟨R, σi, h, ws, h1, rh, st, e1, fun R1 H1 vs x1 rh1 rv => ?_⟩
    split at e2
    · rename_i j hj
      simp only at hj
      subst hj
      split at e2
      · rename_i hb
        cases e2
        rw [Rws.cons_iff] at rv
        obtain ⟨v, vs', rfl, r1, r2⟩ := rv
        rw [Rws.nil_iff] at r2
        subst r2
        rw [r1.int_eq]
        exact ⟨j, rfl, hb.1, hb.2, k R1 H1 _ x1 rh1 KA⟩
      · cases e2
    · cases e2
end
noncomputable def UX (cp : List (Option Nat)) (σ : MSt) : MSt := cp.map fun o => match o with | none => none | some j => match σ[j]? with | some v => v | none => none
theorem Rst.cap {K : PySem.W.Frag} {R : Rn} {σi : MSt} {σ : L2.St} (s : Rst K R σi σ) (cp : List (Option Nat)) : Rst K R (UX cp σi) (Xo cp σ) := by
  unfold UX Xo
  refine ⟨by simp, fun i w e => ?_⟩
  rw [List.getElem?_map] at e ⊢
  obtain ⟨o, h1, h2⟩ := Option.map_eq_some_iff.mp e
  rw [h1]
  cases o with
  | none => cases h2
  | some j =>
    simp only at h2
    split at h2
    · rename_i u hu
      subst h2
      obtain ⟨v, h3, h4⟩ := s.2 j w hu
      exact ⟨v, by simp [h3], h4⟩
    · cases h2
open Classical in
noncomputable def Zp (fin : List W → MH → Option (W × MH)) (items : List W) (src : Option Nat) (b : MG) (mt : MT) (me : ME) : List W → List W → MSt → MH → Option (W × MH)
  | [], acc, _, h => if YH src items h then fin acc h else none
  | w :: r, acc, τ, h => if YH src items h then (b w τ h).bind fun τ1 => (mt τ1 h).bind fun q => match q.1 with
      | true => (me τ1 q.2).bind fun v => if acc.length < sizeLine then Zp fin items src b mt me r (acc ++ [v.1]) τ1 v.2 else none
      | false => Zp fin items src b mt me r acc τ1 q.2
    else none
noncomputable def Jh (fin : List W → MH → Option (W × MH)) (mi : MI) (cp : List (Option Nat)) (b : MG) (mt : MT) (me : ME) : ME := fun σ h => (mi σ h).bind fun p => Zp fin p.1 p.2.1 b mt me p.1 [] (UX cp σ) p.2.2
noncomputable def YJ : MT := fun _ h => some (true, h)
noncomputable def Ki (acc : List W) (h : MH) : Option (W × MH) := some (.lst acc, h)
noncomputable def YU (K : PySem.W.Frag) (fin : List W → MH → Option (W × MH)) : Prop := ∀ R h H acc accV w h' D, Rh K R h H → Rws K R acc accV → fin acc h = some (w, h') → H D = none → ∃ R', Ext R R' ∧ Rh K R' h' (upd H D (.lst accV)) ∧ Rw K R' w (.ref D)
theorem J3 {K : PySem.W.Frag} : YU K Ki := fun R h H acc accV w h' D rh r e hD => by
  cases e
  exact rh.lstI hD r
section
variable {X : Cx} {elt tg iter c : Expr} {scope : Scope} {pos : Pos} {cl : List (Str × Addr)} {Nb : List Str} {cp : List (Option Nat)} {mi : MI} {b : MG} {mt : MT} {me : ME} {fin : List W → MH → Option (W × MH)}
theorem K0 {K : PySem.W.Frag} (hf : YU K fin) {σ : L2.St} {H : Hp} {Q : VK} (q : tI K (Jh fin mi cp b mt me) σ H Q) : UH (tII K mi) cp (tIG K b) (tIT K mt) (tI K me) σ H Q := by
  obtain ⟨R, σi, h, w, h', rh, s, e, k⟩ := q
  obtain ⟨⟨items, src, h1⟩, e1, e2⟩ := Option.bind_eq_some_iff.mp e
  refine ⟨R, σi, h, items, src, h1, rh, s, e1, fun R1 H1 J x1 rh1 it => ?_⟩
  refine ⟨fun i n acc τ H => i + n = items.length ∧ ∃ R2 σ2 h2 accW, Ext R1 R2 ∧ Rh K R2 h2 H ∧ Rst K R2 σ2 τ ∧ Rws K R2 accW acc ∧ Zp fin items src b mt me (items.drop i) accW σ2 h2 = some (w, h') ∧ After K R2 w h' Q, ⟨items.length, by simp, R1, UX cp σi, h1, [], Ext.refl _, rh1, (s.mono x1).cap cp, Rws.nil, by simpa using e2, k.ext x1⟩, ?_⟩
  rintro i n acc τ H2 ⟨hin, R2, σ2, h2, accW, x2, rh2, s2, ra, e3, k2⟩
  by_cases hi : i < items.length
  · obtain ⟨y, hy⟩ : ∃ y, items[i]? = some y := ⟨items[i], List.getElem?_eq_getElem hi⟩
    have hd : items.drop i = y :: items.drop (i + 1) := by
      rw [List.drop_eq_getElem_cons hi]
      rw [List.getElem?_eq_getElem hi] at hy
      cases hy; rfl
    rw [hd] at e3
    unfold Zp at e3
    split at e3
    · rename_i hl
      obtain ⟨σ3, e4, e5⟩ := Option.bind_eq_some_iff.mp e3
      obtain ⟨⟨t, h3⟩, e6, e7⟩ := Option.bind_eq_some_iff.mp e5
      refine .inr ⟨it.go i y R2 h2 H2 x2 rh2 hl hy, fun x H' hyl => ?_⟩
      obtain ⟨R3, x3, rh3, rw3⟩ := it.yld i y R2 h2 H2 x H' x2 rh2 hl hy hyl
      refine ⟨R3, σ2, h2, y, σ3, rh3, s2.mono x3, rw3, e4, fun R4 H4 τ4 x4 rh4 s4 => ?_⟩
      refine ⟨R4, σ3, h2, t, h3, rh4, s4, e6, fun R5 H5 x5 rh5 => ?_⟩
      cases t with
      | true =>
        obtain ⟨⟨v, h4⟩, e8, e9⟩ := Option.bind_eq_some_iff.mp e7
        dsimp only at e9
        split at e9
        · rename_i hz
          refine Qaf ⟨R5, σ3, h3, v, h4, rh5, s4.mono x5, e8, fun R6 H6 u x6 rh6 rv => ⟨by rw [← ra.length]; exact hz, n - 1, by omega, by omega, R6, σ3, h4, accW ++ [v], x2.trans (x3.trans (x4.trans (x5.trans x6))), rh6, s4.mono (x5.trans x6), ?_, e9, k2.ext (x3.trans (x4.trans (x5.trans x6)))⟩⟩
          exact Rws.append (Rws.mono (x3.trans (x4.trans (x5.trans x6))) _ _ ra) (Rws.cons rv Rws.nil)
        · cases e9
      | false =>
        exact Qag ⟨n - 1, by omega, by omega, R5, σ3, h3, accW, x2.trans (x3.trans (x4.trans x5)), rh5, s4.mono x5, Rws.mono (x3.trans (x4.trans x5)) _ _ ra, e7, k2.ext (x3.trans (x4.trans x5))⟩
    · cases e3
  · have hd : items.drop i = [] := List.drop_eq_nil_of_le (by omega)
    rw [hd] at e3
    unfold Zp at e3
    split at e3
    · rename_i hl
      refine .inl ⟨it.stop i R2 h2 H2 x2 rh2 hl (by omega), fun D hD => ?_⟩
      obtain ⟨R3, x3, rh3, rw3⟩ := hf R2 h2 H2 accW acc w h' D rh2 ra e3 hD
      exact k2 R3 _ _ x3 rh3 rw3
    · cases e3
theorem JI (hf : YU X.K fin) (hc : X.calm = true) (B : BlkOk X scope cl Nb cp) (hi : PMI X tg iter mi) (hg : ∀ s₀ H₀ C ex pn, PMG (Mi.blk X scope cl Nb s₀ H₀ C ex pn) tg b)
    (he : ∀ s₀ H₀ C ex pn, PM (Mi.blk X scope cl Nb s₀ H₀ C ex pn) elt me) (hs : ∀ x, foldedSetIterable iter X.env x = pure x := by intro _; rfl) :
    PM X (.ListComp elt [⟨tg, iter, [], 0⟩] scope pos) (Jh fin mi cp b YJ me) :=
  QZ (KU (g := tIG X.K b) (te := tI X.K me) (tt := tIT X.K YJ) hc B hi hg (fun s₀ H₀ C ex pn pins s τ H Q I q => wpAny_tests_nil (by
    obtain ⟨R, σi, h, t, h', rh, st, e, k⟩ := q
    cases e
    exact ⟨H, I, k R H (Ext.refl _) rh⟩)) he hs) fun _ _ _ q => K0 hf q
theorem Y9 (hf : YU X.K fin) (hc : X.calm = true) (B : BlkOk X scope cl Nb cp) (hi : PMI X tg iter mi) (hg : ∀ s₀ H₀ C ex pn, PMG (Mi.blk X scope cl Nb s₀ H₀ C ex pn) tg b)
    (ht : ∀ s₀ H₀ C ex pn, PMT (Mi.blk X scope cl Nb s₀ H₀ C ex pn) c mt)
    (he : ∀ s₀ H₀ C ex pn, PM (Mi.blk X scope cl Nb s₀ H₀ C ex pn) elt me) (hs : ∀ x, foldedSetIterable iter X.env x = pure x := by intro _; rfl) :
    PM X (.ListComp elt [⟨tg, iter, [c], 0⟩] scope pos) (Jh fin mi cp b mt me) :=
  QZ (KU (g := tIG X.K b) (te := tI X.K me) (tt := tIT X.K mt) hc B hi hg (fun s₀ H₀ C ex pn pins s τ H Q I q => wpAny_tests_one (ht s₀ H₀ C ex pn pins s τ H Q I q)) he hs) fun _ _ _ q => K0 hf q
end
end Mi

namespace Mi
open PySem PySem.Spec PyProof.Rows L2 PySem.SeqAt

mutual
noncomputable def eqW : W → W → Bool
  | .non, .non => true
  | .bl a, .bl b => a == b
  | .bl a, .int b => (if a then 1 else 0) == b
  | .int a, .bl b => a == (if b then 1 else 0)
  | .int a, .int b => a == b
  | .str a, .str b => a == b
  | .tup a, .tup b => Vf a b
  | .lst a, .lst b => Vf a b
  | _, _ => false
noncomputable def Vf : List W → List W → Bool
  | [], [] => true
  | x :: xs, y :: ys => eqW x y && Vf xs ys
  | _, _ => false
end
noncomputable def QW {α β : Type} (f : α → Option β) : List α → Option (List β)
  | [] => some []
  | x :: xs => (f x).bind fun y => (QW f xs).map (y :: ·)
noncomputable def drf (h : MH) : Nat → W → Option W
  | 0, _ => none
  | n + 1, w => match w with
    | .tup ws => (QW (drf h n) ws).map .tup
    | .lst ws => (QW (drf h n) ws).map .lst
    | .frz ws => (QW (drf h n) ws).map .lst
    | .ref k => match h[k]? with | some (.lst ws) => (QW (drf h n) ws).map .lst | _ => none
    | .ty _ => none
    | .non => some .non
    | .bl b => some (.bl b)
    | .int i => some (.int i)
    | .str x => some (.str x)
theorem Qt {α β : Type} {f : α → Option β} : ∀ {xs : List α} {ys : List β}, QW f xs = some ys → xs.length = ys.length ∧ ∀ (i : Nat) x, xs[i]? = some x → ∃ y, ys[i]? = some y ∧ f x = some y
  | [], ys, e => by cases e; exact ⟨rfl, fun i x h => by simp at h⟩
  | x :: xs, ys, e => by
    obtain ⟨y, h1, h2⟩ := Option.bind_eq_some_iff.mp e
    obtain ⟨zs, h3, h4⟩ := Option.map_eq_some_iff.mp h2
    subst h4
    obtain ⟨l, q⟩ := Qt h3
    refine ⟨by simp [l], fun i z hz => ?_⟩
    cases i with
    | zero => simp at hz; subst hz; exact ⟨y, by simp, h1⟩
    | succ i => simp at hz; obtain ⟨u, h5, h6⟩ := q i z hz; exact ⟨u, by simp [h5], h6⟩
theorem Jj : ∀ {a b : List W}, a.length ≠ b.length → Vf a b = false
  | [], [], h => absurd rfl h
  | [], _ :: _, _ => by unfold Vf; rfl
  | _ :: _, [], _ => by unfold Vf; rfl
  | x :: xs, y :: ys, h => by
    unfold Vf
    rw [Jj (a := xs) (b := ys) (fun z => h (by simp [z])), Bool.and_false]
theorem Jk : ∀ {a b : List W}, a.length = b.length → Vf a b = (List.range a.length).all fun j => match a[j]?, b[j]? with | some x, some y => eqW x y | _, _ => false
  | [], [], _ => by unfold Vf; rfl
  | x :: xs, y :: ys, h => by
    have ih := Jk (a := xs) (b := ys) (by simpa using h)
    unfold Vf
    rw [ih, List.length_cons, List.range_succ_eq_map, List.all_cons, List.all_map]
    simp [Function.comp_def]
inductive Kd (K : PySem.W.Frag) (R : Rn) (h : MH) (H : Hp) (n : Nat) (v : V) : W → Prop where
  | flat {a : W} (f : Uv v = true) (e : (v = .non ∧ a = .non) ∨ (∃ b, v = .bl b ∧ a = .bl b) ∨ (∃ i, v = .int i ∧ a = .int i) ∨ ∃ x, v = .str x ∧ a = .str x) : Kd K R h H n v a
  | lst {ad : Addr} {xs : List V} {ws as : List W} (e : v = .ref ad) (q : SqL K H ad xs) (r : Rws K R ws xs) (m : QW (drf h n) ws = some as) : Kd K R h H n v (.lst as)
  | tup {ad : Addr} {xs : List V} {ws as : List W} (e : v = .ref ad) (q : SqT K H ad xs) (r : Rws K R ws xs) (m : QW (drf h n) ws = some as) : Kd K R h H n v (.tup as)
theorem Z5 {K : PySem.W.Frag} {R : Rn} {h : MH} {H : Hp} {n : Nat} {w a : W} {v : V} (rh : Rh K R h H) (r : Rw K R w v) (e : drf h (n + 1) w = some a) : Kd K R h H n v a := by
  cases w with
  | non => rw [r.non_eq]; cases e; exact .flat rfl (.inl ⟨rfl, rfl⟩)
  | bl b => rw [r.bl_eq]; cases e; exact .flat rfl (.inr (.inl ⟨b, rfl, rfl⟩))
  | int i => rw [r.int_eq]; cases e; exact .flat rfl (.inr (.inr (.inl ⟨i, rfl, rfl⟩)))
  | str x => rw [r.str_eq]; cases e; exact .flat rfl (.inr (.inr (.inr ⟨x, rfl, rfl⟩)))
  | tup ws =>
    obtain ⟨ad, xs, e1, q, r1⟩ := rh.tupAt r
    obtain ⟨as, m, e2⟩ := Option.map_eq_some_iff.mp e
    subst e2
    exact .tup e1 q r1 m
  | lst ws =>
    obtain ⟨ad, xs, e1, q, r1⟩ := rh.lstAt r
    obtain ⟨as, m, e2⟩ := Option.map_eq_some_iff.mp e
    subst e2
    exact .lst e1 (SqL.of q) r1 m
  | frz ws =>
    obtain ⟨ad, xs, e1, q, r1⟩ := rh.frzAt r
    obtain ⟨as, m, e2⟩ := Option.map_eq_some_iff.mp e
    subst e2
    exact .lst e1 q r1 m
  | ref k =>
    simp only [drf] at e
    split at e
    · rename_i ws hk
      obtain ⟨as, m, e2⟩ := Option.map_eq_some_iff.mp e
      subst e2
      obtain ⟨_, e1, xs, q, r1⟩ := rh.refAt r hk
      exact .lst e1 (SqL.of q) r1 m
    · cases e
  | ty _ => cases e
section
variable {X : Cx} {pins : List (Addr × Obj)} {σ : L2.St} {H : Hp} {s : Shared} {R : Rn} {h : MH}
theorem JW {K : PySem.W.Frag} {n : Nat} (ih : ∀ w1 w2 v a b, Rw K R w1 v → Rw K R w2 v → drf h n w1 = some a → drf h n w2 = some b → a = b) :
    ∀ {ws1 ws2 : List W} {xs : List V} {a b : List W}, Rws K R ws1 xs → Rws K R ws2 xs → QW (drf h n) ws1 = some a → QW (drf h n) ws2 = some b → a = b
  | [], ws2, xs, a, b, r1, r2, m1, m2 => by
    rw [Rws.nil_iff] at r1; subst r1
    cases ws2 with
    | nil => cases m1; cases m2; rfl
    | cons w ws => rw [Rws.cons_iff] at r2; obtain ⟨_, _, z, _⟩ := r2; cases z
  | w :: ws1, ws2, xs, a, b, r1, r2, m1, m2 => by
    rw [Rws.cons_iff] at r1
    obtain ⟨v, xs', rfl, p1, p2⟩ := r1
    cases ws2 with
    | nil => rw [Rws.nil_iff] at r2; cases r2
    | cons w' ws2 =>
      rw [Rws.cons_iff] at r2
      obtain ⟨_, _, z, q1, q2⟩ := r2
      cases z
      obtain ⟨y, h1, h2⟩ := Option.bind_eq_some_iff.mp m1
      obtain ⟨zs, h3, h4⟩ := Option.map_eq_some_iff.mp h2
      obtain ⟨y', h1', h2'⟩ := Option.bind_eq_some_iff.mp m2
      obtain ⟨zs', h3', h4'⟩ := Option.map_eq_some_iff.mp h2'
      subst h4 h4'
      rw [ih w w' v y y' p1 q1 h1 h1', JW ih p2 q2 h3 h3']
theorem Jz (I : Inv X pins σ H s) {a : Addr} {xs ys : List V} (q : SqL X.K H a xs) (q' : SqT X.K H a ys) : False := by
  obtain ⟨its, _, p, _⟩ := I.list q
  obtain ⟨its', _, p', _⟩ := I.tuple q'
  obtain ⟨o, n, h1, h2, _⟩ := p
  obtain ⟨o', h1', h2', _⟩ := p'
  rw [h1] at h1'; cases h1'
  rw [h2] at h2'
  exact absurd h2' (by simp)
theorem JG (I : Inv X pins σ H s) (rh : Rh X.K R h H) : ∀ (n : Nat) (w1 w2 : W) (v : V) (a b : W), Rw X.K R w1 v → Rw X.K R w2 v → drf h n w1 = some a → drf h n w2 = some b → a = b
  | 0, _, _, _, _, _, _, _, e, _ => by cases e
  | n + 1, w1, w2, v, a, b, r1, r2, e1, e2 => by
    have ih := JG I rh n
    cases Z5 rh r1 e1 with
    | flat f z =>
      cases Z5 rh r2 e2 with
      | flat f' z' =>
        rcases z with ⟨rfl, rfl⟩ | ⟨_, rfl, rfl⟩ | ⟨_, rfl, rfl⟩ | ⟨_, rfl, rfl⟩ <;> rcases z' with ⟨z1, rfl⟩ | ⟨_, z1, rfl⟩ | ⟨_, z1, rfl⟩ | ⟨_, z1, rfl⟩ <;> cases z1 <;> rfl
      | lst e => subst e; cases f
      | tup e => subst e; cases f
    | lst e q r m =>
      subst e
      cases Z5 rh r2 e2 with
      | flat f => cases f
      | lst e' q' r' m' => cases e'; have := I.list_inj q q'; subst this; rw [JW ih r r' m m']
      | tup e' q' => cases e'; exact (Jz I q q').elim
    | tup e q r m =>
      subst e
      cases Z5 rh r2 e2 with
      | flat f => cases f
      | lst e' q' => cases e'; exact (Jz I q' q).elim
      | tup e' q' r' m' => cases e'; have := I.tuple_inj q q'; subst this; rw [JW ih r r' m m']
mutual
theorem VF : ∀ (n : Nat) (w a : W), drf h n w = some a → eqW a a = true
  | 0, _, _, e => by cases e
  | n + 1, w, a, e => by
    cases w with
    | non => cases e; unfold eqW; rfl
    | bl b => cases e; unfold eqW; simp
    | int i => cases e; unfold eqW; simp
    | str x => cases e; unfold eqW; simp
    | tup ws => obtain ⟨as, m, e2⟩ := Option.map_eq_some_iff.mp e; subst e2; unfold eqW; exact ZX n ws as m
    | lst ws => obtain ⟨as, m, e2⟩ := Option.map_eq_some_iff.mp e; subst e2; unfold eqW; exact ZX n ws as m
    | frz ws => obtain ⟨as, m, e2⟩ := Option.map_eq_some_iff.mp e; subst e2; unfold eqW; exact ZX n ws as m
    | ref k =>
      simp only [drf] at e
      split at e
      · rename_i ws hk
        obtain ⟨as, m, e2⟩ := Option.map_eq_some_iff.mp e; subst e2; unfold eqW; exact ZX n ws as m
      · cases e
    | ty _ => cases e
theorem ZX : ∀ (n : Nat) (ws as : List W), QW (drf h n) ws = some as → Vf as as = true
  | n, [], _, m => by cases m; unfold Vf; rfl
  | n, w :: ws, _, m => by
    obtain ⟨y, h1, h2⟩ := Option.bind_eq_some_iff.mp m
    obtain ⟨zs, h3, h4⟩ := Option.map_eq_some_iff.mp h2
    subst h4
    unfold Vf
    rw [VF n w y h1, ZX n ws zs h3]; rfl
end
theorem Z1 {n : Nat} {A : Around} (ih : ∀ w1 w2 v1 v2 u1 u2 a b, Rw X.K R w1 v1 → Rw X.K R w2 v2 → RelV v1 u1 → RelV v2 u2 → drf h n w1 = some a → drf h n w2 = some b → EqAt A s u1 u2 (eqW a b))
    {ws1 ws2 as bs : List W} {xs ys : List V} {its its2 : List Value} (r1 : Rws X.K R ws1 xs) (r2 : Rws X.K R ws2 ys) (v1 : Vals xs its) (v2 : Vals ys its2) (m1 : QW (drf h n) ws1 = some as) (m2 : QW (drf h n) ws2 = some bs)
    (j : Nat) (h1 : j < its.toArray.size) (h2 : j < its2.toArray.size) : EqAt A s its.toArray[j] its2.toArray[j] (match as[j]?, bs[j]? with | some x, some y => eqW x y | _, _ => false) := by
  have l1 := r1.length; have l2 := v1.length; have l3 := r2.length; have l4 := v2.length
  rw [List.size_toArray] at h1 h2
  obtain ⟨w1, hw1⟩ : ∃ w, ws1[j]? = some w := ⟨ws1[j]'(by omega), List.getElem?_eq_getElem _⟩
  obtain ⟨w2, hw2⟩ : ∃ w, ws2[j]? = some w := ⟨ws2[j]'(by omega), List.getElem?_eq_getElem _⟩
  obtain ⟨x, hx, rx⟩ := r1.get hw1
  obtain ⟨y, hy, ry⟩ := r2.get hw2
  obtain ⟨u, hu, ru⟩ := v1.get hx
  obtain ⟨t, ht, rt⟩ := v2.get hy
  obtain ⟨a, ha, ea⟩ := (Qt m1).2 j w1 hw1
  obtain ⟨b, hb, eb⟩ := (Qt m2).2 j w2 hw2
  rw [ha, hb]
  have e1 : its.toArray[j] = u := by
    have := hu; rw [List.getElem?_eq_getElem h1] at this; simpa using this
  have e2 : its2.toArray[j] = t := by
    have := ht; rw [List.getElem?_eq_getElem h2] at this; simpa using this
  rw [e1, e2]
  exact ih w1 w2 x y u t a b rx ry ru rt ea eb
theorem X0 (I : Inv X pins σ H s) {n : Nat} {A : Around} (hu : A.units < cLine) (ih : ∀ w1 w2 v1 v2 u1 u2 a b, Rw X.K R w1 v1 → Rw X.K R w2 v2 → RelV v1 u1 → RelV v2 u2 → drf h n w1 = some a → drf h n w2 = some b → EqAt A.in1 s u1 u2 (eqW a b))
    {ad bd : Addr} {ws1 ws2 as bs : List W} {xs ys : List V} (q1 : SqL X.K H ad xs) (q2 : SqL X.K H bd ys) (r1 : Rws X.K R ws1 xs) (r2 : Rws X.K R ws2 ys) (m1 : QW (drf h n) ws1 = some as) (m2 : QW (drf h n) ws2 = some bs) : RcAt A s (.ref ad) (.ref bd) (Vf as bs) := by
  obtain ⟨its, v1, p1, _⟩ := I.list q1
  obtain ⟨its2, v2, p2, _⟩ := I.list q2
  have l1 := r1.length; have l2 := v1.length; have l3 := r2.length; have l4 := v2.length
  have l5 := (Qt m1).1; have l6 := (Qt m2).1
  by_cases hl : as.length = bs.length
  · rw [Jk hl]
    have := RcAt.lists (A := A) p1.isList p2.isList (by rw [List.size_toArray, List.size_toArray]; omega) hu (fun j h1 h2 => Z1 ih r1 r2 v1 v2 m1 m2 j h1 h2)
    rw [List.size_toArray] at this
    rw [show as.length = its.length by omega]
    exact this
  · rw [Jj hl]
    exact RcAt.lists_lengths p1.isList p2.isList (by rw [List.size_toArray, List.size_toArray]; simp; omega) hu
theorem Yg (I : Inv X pins σ H s) {n : Nat} {A : Around} (hu : A.units < cLine) (ih : ∀ w1 w2 v1 v2 u1 u2 a b, Rw X.K R w1 v1 → Rw X.K R w2 v2 → RelV v1 u1 → RelV v2 u2 → drf h n w1 = some a → drf h n w2 = some b → EqAt A.in1 s u1 u2 (eqW a b))
    {ad bd : Addr} {ws1 ws2 as bs : List W} {xs ys : List V} (q1 : SqT X.K H ad xs) (q2 : SqT X.K H bd ys) (r1 : Rws X.K R ws1 xs) (r2 : Rws X.K R ws2 ys) (m1 : QW (drf h n) ws1 = some as) (m2 : QW (drf h n) ws2 = some bs) : RcAt A s (.ref ad) (.ref bd) (Vf as bs) := by
  obtain ⟨its, v1, p1, _⟩ := I.tuple q1
  obtain ⟨its2, v2, p2, _⟩ := I.tuple q2
  have l1 := r1.length; have l2 := v1.length; have l3 := r2.length; have l4 := v2.length
  have l5 := (Qt m1).1; have l6 := (Qt m2).1
  have := RcAt.tuples (A := A) (show s.heap.IsTuple ad its.toArray from p1) (show s.heap.IsTuple bd its2.toArray from p2) hu (fun j h1 h2 => Z1 ih r1 r2 v1 v2 m1 m2 j h1 h2)
  rw [List.size_toArray, List.size_toArray] at this
  by_cases hl : as.length = bs.length
  · rw [Jk hl]
    rw [show min its.length its2.length = as.length by omega, show (its.length == its2.length) = true by simp; omega, Bool.and_true] at this
    exact this
  · rw [Jj hl]
    rw [show (its.length == its2.length) = false by simp; omega, Bool.and_false] at this
    exact this
theorem Km (I : Inv X pins σ H s) (rh : Rh X.K R h H) : ∀ (n : Nat) (A : Around), A.units + n < cLine → ∀ (w1 w2 : W) (v1 v2 : V) (u1 u2 : Value) (a b : W), Rw X.K R w1 v1 → Rw X.K R w2 v2 → RelV v1 u1 → RelV v2 u2 → drf h n w1 = some a → drf h n w2 = some b → EqAt A s u1 u2 (eqW a b)
  | 0, _, _, _, _, _, _, _, _, _, _, _, _, _, _, e, _ => by cases e
  | n + 1, A, hu, w1, w2, v1, v2, u1, u2, a, b, r1, r2, t1, t2, e1, e2 => by
    have hu0 : A.units < cLine := by omega
    have ih := Km I rh n A.in1 (by show A.units + 1 + n < cLine; omega)
    have isl : ∀ {ad : Addr} {xs : List V}, SqL X.K H ad xs → ∃ its : Array Value, s.heap.IsList ad its := fun q => by
      obtain ⟨its, _, p, _⟩ := I.list q; exact ⟨_, p.isList⟩
    have ist : ∀ {ad : Addr} {xs : List V}, SqT X.K H ad xs → ∃ its : Array Value, s.heap.IsTuple ad its := fun q => by
      obtain ⟨its, _, p, _⟩ := I.tuple q; exact ⟨_, p⟩
    cases Z5 rh r1 e1 with
    | flat f z =>
      cases Z5 rh r2 e2 with
      | flat f' z' =>
        have := GK (A := A) (s := s) t1 t2 f f'
        rcases z with ⟨rfl, rfl⟩ | ⟨_, rfl, rfl⟩ | ⟨_, rfl, rfl⟩ | ⟨_, rfl, rfl⟩ <;> rcases z' with ⟨rfl, rfl⟩ | ⟨_, rfl, rfl⟩ | ⟨_, rfl, rfl⟩ | ⟨_, rfl, rfl⟩ <;> (unfold eqW; exact this)
      | lst e q =>
        subst e
        cases t2
        obtain ⟨its, p⟩ := isl q
        rcases z with ⟨rfl, rfl⟩ | ⟨_, rfl, rfl⟩ | ⟨_, rfl, rfl⟩ | ⟨_, rfl, rfl⟩
        · cases t1; unfold eqW; exact EqAt.none_list p hu0
        · cases t1; unfold eqW; exact EqAt.bool_list _ p hu0
        · obtain ⟨t, rfl⟩ := t1; unfold eqW; exact EqAt.int_list _ t p hu0
        · obtain ⟨t, rfl⟩ := t1; unfold eqW; exact EqAt.str_list _ t p hu0
      | tup e q =>
        subst e
        cases t2
        obtain ⟨its, p⟩ := ist q
        rcases z with ⟨rfl, rfl⟩ | ⟨_, rfl, rfl⟩ | ⟨_, rfl, rfl⟩ | ⟨_, rfl, rfl⟩
        · cases t1; unfold eqW; exact EqAt.none_tuple p hu0
        · cases t1; unfold eqW; exact EqAt.bool_tuple _ p hu0
        · obtain ⟨t, rfl⟩ := t1; unfold eqW; exact EqAt.int_tuple _ t p hu0
        · obtain ⟨t, rfl⟩ := t1; unfold eqW; exact EqAt.str_tuple _ t p hu0
    | @lst ad1 _ _ _ e q r m =>
      subst e
      cases t1
      obtain ⟨its, p⟩ := isl q
      have k2 := Z5 rh r2 e2
      cases k2 with
      | flat f' z' =>
        rcases z' with ⟨rfl, rfl⟩ | ⟨_, rfl, rfl⟩ | ⟨_, rfl, rfl⟩ | ⟨_, rfl, rfl⟩
        · cases t2; unfold eqW; exact EqAt.list_none p hu0
        · cases t2; unfold eqW; exact EqAt.list_bool _ p hu0
        · obtain ⟨t, rfl⟩ := t2; unfold eqW; exact EqAt.list_int _ t p hu0
        · obtain ⟨t, rfl⟩ := t2; unfold eqW; exact EqAt.list_str _ t p hu0
      | @lst ad2 _ _ _ e' q' r' m' =>
        subst e'
        cases t2
        by_cases hab : ad1 = ad2
        · subst hab
          have := JG I rh (n + 1) w1 w2 _ _ _ r1 r2 e1 e2
          rw [this, VF (n + 1) w2 _ e2]
          exact EqAt.same _
        · unfold eqW
          exact EqAt.of_refs hab (X0 I hu0 ih q q' r r' m m')
      | tup e' q' =>
        subst e'
        cases t2
        obtain ⟨its', p'⟩ := ist q'
        unfold eqW; exact EqAt.list_tuple p p' hu0
    | @tup ad1 _ _ _ e q r m =>
      subst e
      cases t1
      obtain ⟨its, p⟩ := ist q
      have k2 := Z5 rh r2 e2
      cases k2 with
      | flat f' z' =>
        rcases z' with ⟨rfl, rfl⟩ | ⟨_, rfl, rfl⟩ | ⟨_, rfl, rfl⟩ | ⟨_, rfl, rfl⟩
        · cases t2; unfold eqW; exact EqAt.tuple_none p hu0
        · cases t2; unfold eqW; exact EqAt.tuple_bool _ p hu0
        · obtain ⟨t, rfl⟩ := t2; unfold eqW; exact EqAt.tuple_int _ t p hu0
        · obtain ⟨t, rfl⟩ := t2; unfold eqW; exact EqAt.tuple_str _ t p hu0
      | lst e' q' =>
        subst e'
        cases t2
        obtain ⟨its', p'⟩ := isl q'
        unfold eqW; exact EqAt.tuple_list p p' hu0
      | @tup ad2 _ _ _ e' q' r' m' =>
        subst e'
        cases t2
        by_cases hab : ad1 = ad2
        · subst hab
          have := JG I rh (n + 1) w1 w2 _ _ _ r1 r2 e1 e2
          rw [this, VF (n + 1) w2 _ e2]
          exact EqAt.same _
        · unfold eqW
          exact EqAt.of_refs hab (Yg I hu0 ih q q' r r' m m')
end
end Mi

namespace Mi
open PySem PySem.Spec PyProof.Rows L2 PySem.SeqAt
section
variable {X : Cx} {pins : List (Addr × Obj)} {σ : L2.St} {H : Hp} {s : Shared} {R : Rn} {h : MH}
theorem Kv (I : Inv X pins σ H s) {n : Nat} {A : Around} (hu : A.units < cLine) (ih : ∀ w1 w2 v1 v2 u1 u2 a b, Rw X.K R w1 v1 → Rw X.K R w2 v2 → RelV v1 u1 → RelV v2 u2 → drf h n w1 = some a → drf h n w2 = some b → EqAt A.in1 s u1 u2 (eqW a b))
    {ad bd : Addr} {ws1 ws2 as bs : List W} {xs ys : List V} (q1 : SqL X.K H ad xs) (q2 : SqL X.K H bd ys) (r1 : Rws X.K R ws1 xs) (r2 : Rws X.K R ws2 ys) (m1 : QW (drf h n) ws1 = some as) (m2 : QW (drf h n) ws2 = some bs) : RcNeAt A s (.ref ad) (.ref bd) (!Vf as bs) := by
  obtain ⟨its, v1, p1, _⟩ := I.list q1
  obtain ⟨its2, v2, p2, _⟩ := I.list q2
  have l1 := r1.length; have l2 := v1.length; have l3 := r2.length; have l4 := v2.length
  have l5 := (Qt m1).1; have l6 := (Qt m2).1
  by_cases hl : as.length = bs.length
  · rw [Jk hl]
    have := RcNeAt.lists (A := A) p1.isList p2.isList (by rw [List.size_toArray, List.size_toArray]; omega) hu (fun j h1 h2 => Z1 ih r1 r2 v1 v2 m1 m2 j h1 h2)
    rw [List.size_toArray] at this
    rw [show as.length = its.length by omega]
    exact this
  · rw [Jj hl]
    exact RcNeAt.lists_lengths p1.isList p2.isList (by rw [List.size_toArray, List.size_toArray]; simp; omega) hu
theorem K3 (I : Inv X pins σ H s) {n : Nat} {A : Around} (hu : A.units < cLine) (ih : ∀ w1 w2 v1 v2 u1 u2 a b, Rw X.K R w1 v1 → Rw X.K R w2 v2 → RelV v1 u1 → RelV v2 u2 → drf h n w1 = some a → drf h n w2 = some b → EqAt A.in1 s u1 u2 (eqW a b))
    {ad bd : Addr} {ws1 ws2 as bs : List W} {xs ys : List V} (q1 : SqT X.K H ad xs) (q2 : SqT X.K H bd ys) (r1 : Rws X.K R ws1 xs) (r2 : Rws X.K R ws2 ys) (m1 : QW (drf h n) ws1 = some as) (m2 : QW (drf h n) ws2 = some bs) : RcNeAt A s (.ref ad) (.ref bd) (!Vf as bs) := by
  obtain ⟨its, v1, p1, _⟩ := I.tuple q1
  obtain ⟨its2, v2, p2, _⟩ := I.tuple q2
  have l1 := r1.length; have l2 := v1.length; have l3 := r2.length; have l4 := v2.length
  have l5 := (Qt m1).1; have l6 := (Qt m2).1
  have := RcNeAt.tuples (A := A) (show s.heap.IsTuple ad its.toArray from p1) (show s.heap.IsTuple bd its2.toArray from p2) hu (fun j h1 h2 => Z1 ih r1 r2 v1 v2 m1 m2 j h1 h2)
  rw [List.size_toArray, List.size_toArray] at this
  by_cases hl : as.length = bs.length
  · rw [Jk hl]
    rw [show min its.length its2.length = as.length by omega, show (its.length == its2.length) = true by simp; omega, Bool.and_true] at this
    exact this
  · rw [Jj hl]
    rw [show (its.length == its2.length) = false by simp; omega, Bool.and_false] at this
    exact this
theorem Gy (I : Inv X pins σ H s) (rh : Rh X.K R h H) (n : Nat) (A : Around) (hu : A.units + n < cLine) (w1 w2 : W) (v1 v2 : V) (u1 u2 : Value) (a b : W) (r1 : Rw X.K R w1 v1) (r2 : Rw X.K R w2 v2) (t1 : RelV v1 u1) (t2 : RelV v2 u2) (e1 : drf h n w1 = some a) (e2 : drf h n w2 = some b) : RcAt A s u1 u2 (eqW a b) := by
  cases n with
  | zero => cases e1
  | succ n =>
    have hu0 : A.units < cLine := by omega
    have ih := Km I rh n A.in1 (by show A.units + 1 + n < cLine; omega)
    have isl : ∀ {ad : Addr} {xs : List V}, SqL X.K H ad xs → ∃ its : Array Value, s.heap.IsList ad its := fun q => by
      obtain ⟨its, _, p, _⟩ := I.list q; exact ⟨_, p.isList⟩
    have ist : ∀ {ad : Addr} {xs : List V}, SqT X.K H ad xs → ∃ its : Array Value, s.heap.IsTuple ad its := fun q => by
      obtain ⟨its, _, p, _⟩ := I.tuple q; exact ⟨_, p⟩
    cases Z5 rh r1 e1 with
    | flat f z =>
      cases Z5 rh r2 e2 with
      | flat f' z' =>
        rcases z with ⟨rfl, rfl⟩ | ⟨_, rfl, rfl⟩ | ⟨_, rfl, rfl⟩ | ⟨_, rfl, rfl⟩ <;> rcases z' with ⟨rfl, rfl⟩ | ⟨_, rfl, rfl⟩ | ⟨_, rfl, rfl⟩ | ⟨_, rfl, rfl⟩ <;> first | (obtain ⟨t1', rfl⟩ := t1) | cases t1
        · first | (obtain ⟨t2', rfl⟩ := t2) | cases t2
          unfold eqW; exact RcAt.none_none
        · first | (obtain ⟨t2', rfl⟩ := t2) | cases t2
          unfold eqW; exact RcAt.none_bool _
        · first | (obtain ⟨t2', rfl⟩ := t2) | cases t2
          unfold eqW; exact RcAt.none_int _ _
        · first | (obtain ⟨t2', rfl⟩ := t2) | cases t2
          unfold eqW; exact RcAt.none_str _ _
        · first | (obtain ⟨t2', rfl⟩ := t2) | cases t2
          unfold eqW; exact RcAt.bool_none _
        · first | (obtain ⟨t2', rfl⟩ := t2) | cases t2
          unfold eqW; exact RcAt.bool_bool _ _
        · first | (obtain ⟨t2', rfl⟩ := t2) | cases t2
          unfold eqW; exact RcAt.bool_int _ _ _
        · first | (obtain ⟨t2', rfl⟩ := t2) | cases t2
          unfold eqW; exact RcAt.bool_str _ _ _
        · first | (obtain ⟨t2', rfl⟩ := t2) | cases t2
          unfold eqW; exact RcAt.int_none _ _
        · first | (obtain ⟨t2', rfl⟩ := t2) | cases t2
          unfold eqW; exact RcAt.int_bool _ _ _
        · first | (obtain ⟨t2', rfl⟩ := t2) | cases t2
          unfold eqW; exact RcAt.int_int _ _ _ _
        · first | (obtain ⟨t2', rfl⟩ := t2) | cases t2
          unfold eqW; exact RcAt.int_str _ _ _ _
        · first | (obtain ⟨t2', rfl⟩ := t2) | cases t2
          unfold eqW; exact RcAt.str_none _ _
        · first | (obtain ⟨t2', rfl⟩ := t2) | cases t2
          unfold eqW; exact RcAt.str_bool _ _ _
        · first | (obtain ⟨t2', rfl⟩ := t2) | cases t2
          unfold eqW; exact RcAt.str_int _ _ _ _
        · first | (obtain ⟨t2', rfl⟩ := t2) | cases t2
          unfold eqW; exact RcAt.str_str _ _ _ _
      | lst e q =>
        subst e
        cases t2
        obtain ⟨its, p⟩ := isl q
        rcases z with ⟨rfl, rfl⟩ | ⟨_, rfl, rfl⟩ | ⟨_, rfl, rfl⟩ | ⟨_, rfl, rfl⟩
        · cases t1; unfold eqW; exact RcAt.none_list p hu0
        · cases t1; unfold eqW; exact RcAt.bool_list _ p hu0
        · obtain ⟨t, rfl⟩ := t1; unfold eqW; exact RcAt.int_list _ t p hu0
        · obtain ⟨t, rfl⟩ := t1; unfold eqW; exact RcAt.str_list _ t p hu0
      | tup e q =>
        subst e
        cases t2
        obtain ⟨its, p⟩ := ist q
        rcases z with ⟨rfl, rfl⟩ | ⟨_, rfl, rfl⟩ | ⟨_, rfl, rfl⟩ | ⟨_, rfl, rfl⟩
        · cases t1; unfold eqW; exact RcAt.none_tuple p hu0
        · cases t1; unfold eqW; exact RcAt.bool_tuple _ p hu0
        · obtain ⟨t, rfl⟩ := t1; unfold eqW; exact RcAt.int_tuple _ t p hu0
        · obtain ⟨t, rfl⟩ := t1; unfold eqW; exact RcAt.str_tuple _ t p hu0
    | @lst ad1 _ _ _ e q r m =>
      subst e
      cases t1
      obtain ⟨its, p⟩ := isl q
      have k2 := Z5 rh r2 e2
      cases k2 with
      | flat f' z' =>
        rcases z' with ⟨rfl, rfl⟩ | ⟨_, rfl, rfl⟩ | ⟨_, rfl, rfl⟩ | ⟨_, rfl, rfl⟩
        · cases t2; unfold eqW; exact RcAt.list_none p hu0
        · cases t2; unfold eqW; exact RcAt.list_bool _ p hu0
        · obtain ⟨t, rfl⟩ := t2; unfold eqW; exact RcAt.list_int _ t p hu0
        · obtain ⟨t, rfl⟩ := t2; unfold eqW; exact RcAt.list_str _ t p hu0
      | tup e' q' =>
        subst e'
        cases t2
        obtain ⟨its', p'⟩ := ist q'
        unfold eqW; exact RcAt.list_tuple p p' hu0
      | lst e' q' r' m' =>
        subst e'
        cases t2
        unfold eqW
        exact X0 I hu0 ih q q' r r' m m'
    | @tup ad1 _ _ _ e q r m =>
      subst e
      cases t1
      obtain ⟨its, p⟩ := ist q
      have k2 := Z5 rh r2 e2
      cases k2 with
      | flat f' z' =>
        rcases z' with ⟨rfl, rfl⟩ | ⟨_, rfl, rfl⟩ | ⟨_, rfl, rfl⟩ | ⟨_, rfl, rfl⟩
        · cases t2; unfold eqW; exact RcAt.tuple_none p hu0
        · cases t2; unfold eqW; exact RcAt.tuple_bool _ p hu0
        · obtain ⟨t, rfl⟩ := t2; unfold eqW; exact RcAt.tuple_int _ t p hu0
        · obtain ⟨t, rfl⟩ := t2; unfold eqW; exact RcAt.tuple_str _ t p hu0
      | lst e' q' =>
        subst e'
        cases t2
        obtain ⟨its', p'⟩ := isl q'
        unfold eqW; exact RcAt.tuple_list p p' hu0
      | tup e' q' r' m' =>
        subst e'
        cases t2
        unfold eqW
        exact Yg I hu0 ih q q' r r' m m'
theorem Wg (I : Inv X pins σ H s) (rh : Rh X.K R h H) (n : Nat) (A : Around) (hu : A.units + n < cLine) (w1 w2 : W) (v1 v2 : V) (u1 u2 : Value) (a b : W) (r1 : Rw X.K R w1 v1) (r2 : Rw X.K R w2 v2) (t1 : RelV v1 u1) (t2 : RelV v2 u2) (e1 : drf h n w1 = some a) (e2 : drf h n w2 = some b) : RcNeAt A s u1 u2 (!eqW a b) := by
  cases n with
  | zero => cases e1
  | succ n =>
    have hu0 : A.units < cLine := by omega
    have ih := Km I rh n A.in1 (by show A.units + 1 + n < cLine; omega)
    have isl : ∀ {ad : Addr} {xs : List V}, SqL X.K H ad xs → ∃ its : Array Value, s.heap.IsList ad its := fun q => by
      obtain ⟨its, _, p, _⟩ := I.list q; exact ⟨_, p.isList⟩
    have ist : ∀ {ad : Addr} {xs : List V}, SqT X.K H ad xs → ∃ its : Array Value, s.heap.IsTuple ad its := fun q => by
      obtain ⟨its, _, p, _⟩ := I.tuple q; exact ⟨_, p⟩
    cases Z5 rh r1 e1 with
    | flat f z =>
      cases Z5 rh r2 e2 with
      | flat f' z' =>
        rcases z with ⟨rfl, rfl⟩ | ⟨_, rfl, rfl⟩ | ⟨_, rfl, rfl⟩ | ⟨_, rfl, rfl⟩ <;> rcases z' with ⟨rfl, rfl⟩ | ⟨_, rfl, rfl⟩ | ⟨_, rfl, rfl⟩ | ⟨_, rfl, rfl⟩ <;> first | (obtain ⟨t1', rfl⟩ := t1) | cases t1
        · first | (obtain ⟨t2', rfl⟩ := t2) | cases t2
          unfold eqW; exact RcNeAt.none_none
        · first | (obtain ⟨t2', rfl⟩ := t2) | cases t2
          unfold eqW; exact RcNeAt.none_bool _
        · first | (obtain ⟨t2', rfl⟩ := t2) | cases t2
          unfold eqW; exact RcNeAt.none_int _ _
        · first | (obtain ⟨t2', rfl⟩ := t2) | cases t2
          unfold eqW; exact RcNeAt.none_str _ _
        · first | (obtain ⟨t2', rfl⟩ := t2) | cases t2
          unfold eqW; exact RcNeAt.bool_none _
        · first | (obtain ⟨t2', rfl⟩ := t2) | cases t2
          unfold eqW; exact RcNeAt.bool_bool _ _
        · first | (obtain ⟨t2', rfl⟩ := t2) | cases t2
          unfold eqW; exact RcNeAt.bool_int _ _ _
        · first | (obtain ⟨t2', rfl⟩ := t2) | cases t2
          unfold eqW; exact RcNeAt.bool_str _ _ _
        · first | (obtain ⟨t2', rfl⟩ := t2) | cases t2
          unfold eqW; exact RcNeAt.int_none _ _
        · first | (obtain ⟨t2', rfl⟩ := t2) | cases t2
          unfold eqW; exact RcNeAt.int_bool _ _ _
        · first | (obtain ⟨t2', rfl⟩ := t2) | cases t2
          unfold eqW; exact RcNeAt.int_int _ _ _ _
        · first | (obtain ⟨t2', rfl⟩ := t2) | cases t2
          unfold eqW; exact RcNeAt.int_str _ _ _ _
        · first | (obtain ⟨t2', rfl⟩ := t2) | cases t2
          unfold eqW; exact RcNeAt.str_none _ _
        · first | (obtain ⟨t2', rfl⟩ := t2) | cases t2
          unfold eqW; exact RcNeAt.str_bool _ _ _
        · first | (obtain ⟨t2', rfl⟩ := t2) | cases t2
          unfold eqW; exact RcNeAt.str_int _ _ _ _
        · first | (obtain ⟨t2', rfl⟩ := t2) | cases t2
          unfold eqW; exact RcNeAt.str_str _ _ _ _
      | lst e q =>
        subst e
        cases t2
        obtain ⟨its, p⟩ := isl q
        rcases z with ⟨rfl, rfl⟩ | ⟨_, rfl, rfl⟩ | ⟨_, rfl, rfl⟩ | ⟨_, rfl, rfl⟩
        · cases t1; unfold eqW; exact RcNeAt.none_list p hu0
        · cases t1; unfold eqW; exact RcNeAt.bool_list _ p hu0
        · obtain ⟨t, rfl⟩ := t1; unfold eqW; exact RcNeAt.int_list _ t p hu0
        · obtain ⟨t, rfl⟩ := t1; unfold eqW; exact RcNeAt.str_list _ t p hu0
      | tup e q =>
        subst e
        cases t2
        obtain ⟨its, p⟩ := ist q
        rcases z with ⟨rfl, rfl⟩ | ⟨_, rfl, rfl⟩ | ⟨_, rfl, rfl⟩ | ⟨_, rfl, rfl⟩
        · cases t1; unfold eqW; exact RcNeAt.none_tuple p hu0
        · cases t1; unfold eqW; exact RcNeAt.bool_tuple _ p hu0
        · obtain ⟨t, rfl⟩ := t1; unfold eqW; exact RcNeAt.int_tuple _ t p hu0
        · obtain ⟨t, rfl⟩ := t1; unfold eqW; exact RcNeAt.str_tuple _ t p hu0
    | @lst ad1 _ _ _ e q r m =>
      subst e
      cases t1
      obtain ⟨its, p⟩ := isl q
      have k2 := Z5 rh r2 e2
      cases k2 with
      | flat f' z' =>
        rcases z' with ⟨rfl, rfl⟩ | ⟨_, rfl, rfl⟩ | ⟨_, rfl, rfl⟩ | ⟨_, rfl, rfl⟩
        · cases t2; unfold eqW; exact RcNeAt.list_none p hu0
        · cases t2; unfold eqW; exact RcNeAt.list_bool _ p hu0
        · obtain ⟨t, rfl⟩ := t2; unfold eqW; exact RcNeAt.list_int _ t p hu0
        · obtain ⟨t, rfl⟩ := t2; unfold eqW; exact RcNeAt.list_str _ t p hu0
      | tup e' q' =>
        subst e'
        cases t2
        obtain ⟨its', p'⟩ := ist q'
        unfold eqW; exact RcNeAt.list_tuple p p' hu0
      | lst e' q' r' m' =>
        subst e'
        cases t2
        unfold eqW
        exact Kv I hu0 ih q q' r r' m m'
    | @tup ad1 _ _ _ e q r m =>
      subst e
      cases t1
      obtain ⟨its, p⟩ := ist q
      have k2 := Z5 rh r2 e2
      cases k2 with
      | flat f' z' =>
        rcases z' with ⟨rfl, rfl⟩ | ⟨_, rfl, rfl⟩ | ⟨_, rfl, rfl⟩ | ⟨_, rfl, rfl⟩
        · cases t2; unfold eqW; exact RcNeAt.tuple_none p hu0
        · cases t2; unfold eqW; exact RcNeAt.tuple_bool _ p hu0
        · obtain ⟨t, rfl⟩ := t2; unfold eqW; exact RcNeAt.tuple_int _ t p hu0
        · obtain ⟨t, rfl⟩ := t2; unfold eqW; exact RcNeAt.tuple_str _ t p hu0
      | lst e' q' =>
        subst e'
        cases t2
        obtain ⟨its', p'⟩ := isl q'
        unfold eqW; exact RcNeAt.tuple_list p p' hu0
      | tup e' q' r' m' =>
        subst e'
        cases t2
        unfold eqW
        exact K3 I hu0 ih q q' r r' m m'
end
noncomputable def wEq (a b : W) (h : MH) : Option (W × MH) := (drf h 40 a).bind fun x => (drf h 40 b).map fun y => (.bl (eqW x y), h)
noncomputable def wNe (a b : W) (h : MH) : Option (W × MH) := (drf h 40 a).bind fun x => (drf h 40 b).map fun y => (.bl (!eqW x y), h)
theorem Qk {K : PySem.W.Frag} {f : W → W → MH → Option (W × MH)} : OpM K (F2 K f) f := fun _ _ _ _ q => q
section
variable {X : Cx}
theorem VX (hu : X.A.units + 64 < cLine) : OpR X (compareOp .Eq) (F2 X.K wEq) := by
  intro pins s σ H x y v u Q I rx ry q
  obtain ⟨R, h, a, b, w, h', rh, ra, rb, e, k⟩ := q
  obtain ⟨a', e1, e2⟩ := Option.bind_eq_some_iff.mp e
  obtain ⟨b', e3, e4⟩ := Option.map_eq_some_iff.mp e2
  cases e4
  exact Gy I rh 40 X.A (by omega) a b x y v u a' b' ra rb rx ry e1 e3 _ _ _ _ ⟨.bl _, H, I, rfl, k R H _ (Ext.refl _) rh (Rw.bl _)⟩
theorem Go (hu : X.A.units + 64 < cLine) : OpR X (compareOp .NotEq) (F2 X.K wNe) := by
  intro pins s σ H x y v u Q I rx ry q
  obtain ⟨R, h, a, b, w, h', rh, ra, rb, e, k⟩ := q
  obtain ⟨a', e1, e2⟩ := Option.bind_eq_some_iff.mp e
  obtain ⟨b', e3, e4⟩ := Option.map_eq_some_iff.mp e2
  cases e4
  exact Wg I rh 40 X.A (by omega) a b x y v u a' b' ra rb rx ry e1 e3 _ _ _ _ ⟨.bl _, H, I, rfl, k R H _ (Ext.refl _) rh (Rw.bl _)⟩
noncomputable def inW (x : W) (xs : List W) : Bool := xs.any fun y => eqW y x
noncomputable def wIn (neg : Bool) (a b : W) (h : MH) : Option (W × MH) := match b with
  | .tup ys => (drf h 40 a).bind fun x => (QW (drf h 40) ys).map fun zs => (.bl (if neg then !inW x zs else inW x zs), h)
  | b => (lsW h b).bind fun ys => (drf h 40 a).bind fun x => (QW (drf h 40) ys).map fun zs => (.bl (if neg then !inW x zs else inW x zs), h)
open Classical in
noncomputable def YI (K : PySem.W.Frag) (R : Rn) (h : MH) (x : W) (u : Value) : Bool := decide (∃ w v a, Rw K R w v ∧ RelV v u ∧ drf h 40 w = some a ∧ eqW a x = true)
open Classical in
theorem Yn {pins : List (Addr × Obj)} {σ : L2.St} {H : Hp} {s : Shared} {R : Rn} {h : MH} (I : Inv X pins σ H s) (rh : Rh X.K R h H) {x w a : W} {v : V} {u : Value} (r : Rw X.K R w v) (t : RelV v u) (e : drf h 40 w = some a) : YI X.K R h x u = eqW a x := by
  unfold YI
  by_cases q : eqW a x = true
  · rw [q]; exact decide_eq_true ⟨w, v, a, r, t, e, q⟩
  · have q' : eqW a x = false := by simpa using q
    rw [q']
    refine decide_eq_false fun ⟨w', v', a', r', t', e', z⟩ => ?_
    have := t.inj t'
    subst this
    rw [JG I rh 40 w w' v a a' r r' e e', z] at q'
    cases q'
theorem XR {pins : List (Addr × Obj)} {σ : L2.St} {H : Hp} {s : Shared} {R : Rn} {h : MH} (I : Inv X pins σ H s) (rh : Rh X.K R h H) {x : W} : ∀ {ws as : List W} {xs : List V} {us : List Value}, Rws X.K R ws xs → Vals xs us → QW (drf h 40) ws = some as → us.any (YI X.K R h x) = inW x as
  | [], _, _, _, r, t, m => by
    rw [Rws.nil_iff] at r; subst r; cases t; cases m; rfl
  | w :: ws, _, _, _, r, t, m => by
    rw [Rws.cons_iff] at r
    obtain ⟨v, xs', rfl, r1, r2⟩ := r
    cases t with
    | cons t1 t2 =>
      obtain ⟨y, h1, h2⟩ := Option.bind_eq_some_iff.mp m
      obtain ⟨zs, h3, h4⟩ := Option.map_eq_some_iff.mp h2
      subst h4
      have ih := XR I rh (x := x) r2 t2 h3
      unfold inW at ih ⊢
      rw [List.any_cons, List.any_cons, Yn I rh r1 t1 h1, ih]
theorem JH {pins : List (Addr × Obj)} {σ : L2.St} {H : Hp} {s : Shared} {R : Rn} {h : MH} (I : Inv X pins σ H s) (rh : Rh X.K R h H) {A : Around} (hu : A.units + 40 < cLine) {a x : W} {v : V} {u : Value} (ra : Rw X.K R a v) (ta : RelV v u) (ea : drf h 40 a = some x) {ws as : List W} {xs : List V} {us : List Value}
    (r : Rws X.K R ws xs) (t : Vals xs us) (m : QW (drf h 40) ws = some as) : ∀ y ∈ us, EqAt A s y u (YI X.K R h x y) := by
  intro y hy
  obtain ⟨i, hi, e⟩ := List.mem_iff_getElem.mp hy
  have l1 := r.length; have l2 := t.length
  obtain ⟨w, hw⟩ : ∃ w, ws[i]? = some w := ⟨ws[i]'(by omega), List.getElem?_eq_getElem _⟩
  obtain ⟨v', hv, rv⟩ := r.get hw
  obtain ⟨u', hu', ru⟩ := t.get hv
  rw [List.getElem?_eq_getElem hi, e] at hu'
  cases hu'
  obtain ⟨b, hb, eb⟩ := (Qt m).2 i w hw
  rw [Yn I rh rv ru eb]
  exact Km I rh 40 A hu w a v' v y u b x rv ra ru ta eb ea
theorem V8 (hu : X.A.units + 64 < cLine) : OpR X (compareOp .In) (F2 X.K (wIn false)) := by
  intro pins s σ H x y v u Q I rx ry q
  obtain ⟨R, h, a, b, w, h', rh, ra, rb, e, k⟩ := q
  have hu' : X.A.in1.units + 40 < cLine := by show X.A.units + 1 + 40 < cLine; omega
  have main : ∀ ys, ((drf h 40 a).bind fun x => (QW (drf h 40) ys).map fun zs => ((W.bl (if false then !inW x zs else inW x zs), h) : W × MH)) = some (w, h') → ∃ x' zs, drf h 40 a = some x' ∧ QW (drf h 40) ys = some zs ∧ w = .bl (inW x' zs) ∧ h' = h := fun ys e => by
    obtain ⟨x', e1, e2⟩ := Option.bind_eq_some_iff.mp e
    obtain ⟨zs, e3, e4⟩ := Option.map_eq_some_iff.mp e2
    cases e4
    exact ⟨x', zs, e1, e3, rfl, rfl⟩
  have fin : ∀ {x' : W} {zs ws : List W} {xs : List V} {its : List Value}, Rws X.K R ws xs → Vals xs its → drf h 40 a = some x' → QW (drf h 40) ws = some zs → w = .bl (inW x' zs) → h' = h → EP X pins σ Q (.bool (its.toArray.any (YI X.K R h x'))) s := fun {x' zs ws xs its} r t ea em ew eh => by
    subst ew eh
    rw [List.any_toArray, XR I rh r t em]
    exact ⟨.bl _, H, I, rfl, k R H _ (Ext.refl _) rh (Rw.bl _)⟩
  unfold wIn at e
  split at e
  · rename_i ys
    obtain ⟨x', zs, e1, e3, ew, eh⟩ := main ys e
    obtain ⟨ad, xs, rfl, q1, r1⟩ := rh.tupAt rb
    cases ry
    obtain ⟨its, t1, p1, _⟩ := I.tuple q1
    exact in_tupleAt (YI X.K R h x') (show s.heap.IsTuple ad its.toArray from p1) (fun z hz => JH I rh hu' ra rx e1 r1 t1 e3 z (by simpa using hz)) (fin r1 t1 e1 e3 ew eh)
  · obtain ⟨ys, e0, e⟩ := Option.bind_eq_some_iff.mp e
    obtain ⟨x', zs, e1, e3, ew, eh⟩ := main ys e
    obtain ⟨ad, xs, rfl, q1, r1⟩ := rh.lsAt rb e0
    cases ry
    obtain ⟨its, t1, p1, _⟩ := I.list q1
    exact in_listAt (YI X.K R h x') p1.isList (fun z hz => JH I rh hu' ra rx e1 r1 t1 e3 z (by simpa using hz)) (fin r1 t1 e1 e3 ew eh)
theorem Yu (hu : X.A.units + 64 < cLine) : OpR X (compareOp .NotIn) (F2 X.K (wIn true)) := by
  intro pins s σ H x y v u Q I rx ry q
  obtain ⟨R, h, a, b, w, h', rh, ra, rb, e, k⟩ := q
  have hu' : X.A.in1.units + 40 < cLine := by show X.A.units + 1 + 40 < cLine; omega
  have main : ∀ ys, ((drf h 40 a).bind fun x => (QW (drf h 40) ys).map fun zs => ((W.bl (if true then !inW x zs else inW x zs), h) : W × MH)) = some (w, h') → ∃ x' zs, drf h 40 a = some x' ∧ QW (drf h 40) ys = some zs ∧ w = .bl (!inW x' zs) ∧ h' = h := fun ys e => by
    obtain ⟨x', e1, e2⟩ := Option.bind_eq_some_iff.mp e
    obtain ⟨zs, e3, e4⟩ := Option.map_eq_some_iff.mp e2
    cases e4
    exact ⟨x', zs, e1, e3, rfl, rfl⟩
  have fin : ∀ {x' : W} {zs ws : List W} {xs : List V} {its : List Value}, Rws X.K R ws xs → Vals xs its → drf h 40 a = some x' → QW (drf h 40) ws = some zs → w = .bl (!inW x' zs) → h' = h → EP X pins σ Q (.bool (!its.toArray.any (YI X.K R h x'))) s := fun {x' zs ws xs its} r t ea em ew eh => by
    subst ew eh
    rw [List.any_toArray, XR I rh r t em]
    exact ⟨.bl _, H, I, rfl, k R H _ (Ext.refl _) rh (Rw.bl _)⟩
  unfold wIn at e
  split at e
  · rename_i ys
    obtain ⟨x', zs, e1, e3, ew, eh⟩ := main ys e
    obtain ⟨ad, xs, rfl, q1, r1⟩ := rh.tupAt rb
    cases ry
    obtain ⟨its, t1, p1, _⟩ := I.tuple q1
    exact notIn_tupleAt (YI X.K R h x') (show s.heap.IsTuple ad its.toArray from p1) (fun z hz => JH I rh hu' ra rx e1 r1 t1 e3 z (by simpa using hz)) (fin r1 t1 e1 e3 ew eh)
  · obtain ⟨ys, e0, e⟩ := Option.bind_eq_some_iff.mp e
    obtain ⟨x', zs, e1, e3, ew, eh⟩ := main ys e
    obtain ⟨ad, xs, rfl, q1, r1⟩ := rh.lsAt rb e0
    cases ry
    obtain ⟨its, t1, p1, _⟩ := I.list q1
    exact notIn_listAt (YI X.K R h x') p1.isList (fun z hz => JH I rh hu' ra rx e1 r1 t1 e3 z (by simpa using hz)) (fin r1 t1 e1 e3 ew eh)
end
end Mi

namespace Mi
open PySem PySem.Spec PyProof.Rows L2

noncomputable def JA (a b : W) (h : MH) : Option (W × MH) := match a, b with
  | .int i, .int j => some (.int (i + j), h)
  | .str x, .str y => if x.length + y.length ≤ sizeLine then some (.str (x ++ y), h) else none
  | .tup xs, .tup ys => if xs.length + ys.length ≤ sizeLine then some (.tup (xs ++ ys), h) else none
  | a, b => (loW h a).bind fun xs => (loW h b).bind fun ys => if xs.length + ys.length ≤ sizeLine then some (.lst (xs ++ ys), h) else none
noncomputable def Qc3 (a b : W) (h : MH) : Option (W × MH) := match a, b with | .int i, .int j => some (.int (i - j), h) | _, _ => none
noncomputable def Gs (a b : W) (h : MH) : Option (W × MH) := match a, b with | .int i, .int j => if (-(2 ^ 64) < i ∧ i < 2 ^ 64) ∨ (-(2 ^ 64) < j ∧ j < 2 ^ 64) then some (.int (i * j), h) else none | _, _ => none
noncomputable def XH (a b : W) (h : MH) : Option (W × MH) := match a, b with | .int i, .int j => if 0 < j ∧ j < 1073741824 then some (.int (i / j), h) else none | _, _ => none
noncomputable def JN (a b : W) (h : MH) : Option (W × MH) := match a, b with | .int i, .int j => if 0 < j then some (.int (i % j), h) else none | _, _ => none
noncomputable def UY (a b : W) (h : MH) : Option (W × MH) := match a, b with | .int i, .int j => if 0 ≤ j ∧ j ≤ 1000000 ∧ i.natAbs < 2 ^ 64 then some (.int (i ^ j.toNat), h) else none | _, _ => none
noncomputable def wLt (a b : W) (h : MH) : Option (W × MH) := match a, b with | .int i, .int j => some (.bl (decide (i < j)), h) | .str x, .str y => some (.bl (decide (x.cps.toList < y.cps.toList)), h) | _, _ => none
noncomputable def wGt (a b : W) (h : MH) : Option (W × MH) := match a, b with | .int i, .int j => some (.bl (decide (j < i)), h) | _, _ => none
section
variable {X : Cx}
noncomputable def Qbb (K : PySem.W.Frag) : R2 := fun x y H Q => ∃ a b xs ys, x = .ref a ∧ y = .ref b ∧ SqT K H a xs ∧ SqT K H b ys ∧ xs.length + ys.length ≤ sizeLine ∧
  (xs = [] → Q (.ref b) H) ∧ (xs ≠ [] → ys = [] → Q (.ref a) H) ∧ (xs ≠ [] → ys ≠ [] → ∀ p, H p = none → Q (.ref p) (upd H p (.tup (xs ++ ys))))
theorem op_catA : OpR X (binaryOp .Add) (Qbb X.K) := by
  intro pins s σ H x y v u Q I rx ry h
  obtain ⟨a, b, xs, ys, rfl, rfl, ha, hb, hz, q0, q1, q2⟩ := h
  by_cases hx : xs = []
  · subst hx
    cases rx
    cases ry
    obtain ⟨its, r1, p1, _⟩ := I.tuple ha
    obtain ⟨its2, r2, p2, _⟩ := I.tuple hb
    cases r1
    obtain ⟨⟨cls, dd, data, sl⟩, ho, hc, n, hd⟩ := id p1
    obtain ⟨⟨cls2, dd2, data2, sl2⟩, ho2, hc2, n2, hd2⟩ := id p2
    simp only at hc hd hc2 hd2
    subst hc hd hc2 hd2
    exact concat_meets ⟨_, ho, rfl⟩ ⟨_, ho2, rfl⟩ noFill_tuple_add seq_tuple_add PySem.F.slot_tuple_add PySem.F.entry_tuple_add (PySem.F.args_tuple_add_2 _ _)
      (tuple_addW0 a b #[] its2.toArray n n2 dd dd2 sl sl2 (by simp)) ⟨ho, ho2, ⟨.ref b, H, I, rfl, q0 rfl⟩⟩
  · exact W5 pins s σ H _ _ v u Q I rx ry ⟨a, b, xs, ys, rfl, rfl, ha, hb, hx, hz, q1 hx, q2 hx⟩
theorem Zb : OpR X (binaryOp .Add) (F2 X.K JA) := by
  intro pins s σ H x y v u Q I rx ry q
  refine (op_add.or (op_add_str.or (op_catA.or GE))) pins s σ H x y v u Q I rx ry ?_
  obtain ⟨R, h, a, b, w, h', rh, ra, rb, e, k⟩ := q
  unfold JA at e
  split at e
  · cases e
    exact .inl ⟨_, _, ra.int_eq, rb.int_eq, k R H _ (Ext.refl _) rh (Rw.int _)⟩
  · split at e
    · rename_i hl
      cases e
      exact .inr (.inl ⟨_, _, ra.str_eq, rb.str_eq, hl, k R H _ (Ext.refl _) rh (Rw.str _)⟩)
    · cases e
  · split at e
    · rename_i xs ys hl
      cases e
      obtain ⟨ad, xv, e1, q1, r1⟩ := rh.tupAt ra
      obtain ⟨bd, yv, e2, q2, r2⟩ := rh.tupAt rb
      have l1 := r1.length; have l2 := r2.length
      refine .inr (.inr (.inl ⟨ad, bd, xv, yv, e1, e2, q1, q2, by omega, fun z => ?_, fun _ z => ?_, fun _ _ p hp => ?_⟩))
      · subst z
        have : xs = [] := List.length_eq_zero_iff.mp l1
        subst this
        exact k R H _ (Ext.refl _) rh (e2 ▸ rb)
      · subst z
        have : ys = [] := List.length_eq_zero_iff.mp l2
        subst this
        rw [List.append_nil] at k
        exact k R H _ (Ext.refl _) rh (e1 ▸ ra)
      · obtain ⟨R3, x3, rh3, rw3⟩ := rh.tup hp (Rws.append r1 r2)
        exact k R3 _ _ x3 rh3 rw3
    · cases e
  · obtain ⟨xs, e1, e⟩ := Option.bind_eq_some_iff.mp e
    obtain ⟨ys, e2, e⟩ := Option.bind_eq_some_iff.mp e
    split at e
    · rename_i hl
      cases e
      obtain ⟨ad, xv, f1, q1, r1⟩ := rh.loAt ra e1
      obtain ⟨bd, yv, f2, q2, r2⟩ := rh.loAt rb e2
      have l1 := r1.length; have l2 := r2.length
      refine .inr (.inr (.inr ⟨ad, bd, xv, yv, f1, f2, q1, q2, by omega, fun p hp => ?_⟩))
      obtain ⟨R3, x3, rh3, rw3⟩ := rh.lstI hp (Rws.append r1 r2)
      exact k R3 _ _ x3 rh3 rw3
    · cases e
theorem Uk : OpR X (binaryOp .Mult) (F2 X.K Gs) := by
  intro pins s σ H x y v u Q I rx ry q
  refine Gc pins s σ H x y v u Q I rx ry ?_
  obtain ⟨R, h, a, b, w, h', rh, ra, rb, e, k⟩ := q
  unfold Gs at e
  split at e
  · split at e
    · rename_i hl
      cases e
      exact ⟨_, _, ra.int_eq, rb.int_eq, hl, k R H _ (Ext.refl _) rh (Rw.int _)⟩
    · cases e
  · cases e
theorem ZQ : OpR X (binaryOp .FloorDiv) (F2 X.K XH) := by
  intro pins s σ H x y v u Q I rx ry q
  refine WT pins s σ H x y v u Q I rx ry ?_
  obtain ⟨R, h, a, b, w, h', rh, ra, rb, e, k⟩ := q
  unfold XH at e
  split at e
  · split at e
    · rename_i hl
      cases e
      exact ⟨_, _, ra.int_eq, rb.int_eq, hl, k R H _ (Ext.refl _) rh (Rw.int _)⟩
    · cases e
  · cases e
theorem Q9 : OpR X (binaryOp .Mod) (F2 X.K JN) := by
  intro pins s σ H x y v u Q I rx ry q
  refine GZ pins s σ H x y v u Q I rx ry ?_
  obtain ⟨R, h, a, b, w, h', rh, ra, rb, e, k⟩ := q
  unfold JN at e
  split at e
  · split at e
    · rename_i hl
      cases e
      exact ⟨_, _, ra.int_eq, rb.int_eq, hl, k R H _ (Ext.refl _) rh (Rw.int _)⟩
    · cases e
  · cases e
theorem Ug : OpR X (binaryOp .Pow) (F2 X.K UY) := by
  intro pins s σ H x y v u Q I rx ry q
  refine Gw pins s σ H x y v u Q I rx ry ?_
  obtain ⟨R, h, a, b, w, h', rh, ra, rb, e, k⟩ := q
  unfold UY at e
  split at e
  · split at e
    · rename_i hl
      cases e
      exact ⟨_, _, ra.int_eq, rb.int_eq, hl, k R H _ (Ext.refl _) rh (Rw.int _)⟩
    · cases e
  · cases e
theorem WL : OpR X (compareOp .Lt) (F2 X.K wLt) := by
  intro pins s σ H x y v u Q I rx ry q
  refine (op_lt.or KS) pins s σ H x y v u Q I rx ry ?_
  obtain ⟨R, h, a, b, w, h', rh, ra, rb, e, k⟩ := q
  unfold wLt at e
  split at e
  · cases e
    exact .inl ⟨_, _, ra.int_eq, rb.int_eq, k R H _ (Ext.refl _) rh (Rw.bl _)⟩
  · cases e
    exact .inr ⟨_, _, ra.str_eq, rb.str_eq, k R H _ (Ext.refl _) rh (Rw.bl _)⟩
  · cases e
theorem Gm : OpR X (compareOp .Gt) (F2 X.K wGt) := by
  intro pins s σ H x y v u Q I rx ry q
  refine QaL pins s σ H x y v u Q I rx ry ?_
  obtain ⟨R, h, a, b, w, h', rh, ra, rb, e, k⟩ := q
  unfold wGt at e
  split at e
  · cases e
    exact ⟨_, _, ra.int_eq, rb.int_eq, k R H _ (Ext.refl _) rh (Rw.bl _)⟩
  · cases e
noncomputable def QcZ (a : W) (h : MH) : Option (W × MH) := match a with | .int i => some (.int (-i), h) | _ => none
noncomputable def wIx (a b : W) (h : MH) : Option (W × MH) := match b with
  | .int i => match a with
    | .tup ws => (atI ws i).map fun w => (w, h)
    | .str x => if x.length ≤ sizeLine then (atI x.cps.toList i).map fun c => (.str ⟨#[c]⟩, h) else none
    | a => (lsW h a).bind fun ws => (atI ws i).map fun w => (w, h)
  | _ => none
theorem Ye {K : PySem.W.Frag} {R : Rn} {ws : List W} {xs : List V} (r : Rws K R ws xs) {i : Int} {w : W} (e : atI ws i = some w) : ∃ v, atI xs i = some v ∧ Rw K R w v := by
  unfold atI at e ⊢
  rw [← r.length]
  obtain ⟨j, e1, e2⟩ := Option.bind_eq_some_iff.mp e
  obtain ⟨v, e3, e4⟩ := r.get e2
  exact ⟨v, by rw [e1]; exact e3, e4⟩
theorem UB : IxR X (F2 X.K wIx) := by
  intro value slice pins s σ H x y v u Q I rx ry q hs
  refine GH value slice pins s σ H x y v u Q I rx ry ?_ hs
  obtain ⟨R, h, a, b, w, h', rh, ra, rb, e, k⟩ := q
  unfold wIx at e
  split at e
  · rename_i i
    split at e
    · rename_i ws
      obtain ⟨w1, e1, e2⟩ := Option.map_eq_some_iff.mp e
      cases e2
      obtain ⟨ad, xs, rfl, q1, r1⟩ := rh.tupAt ra
      obtain ⟨v1, e3, r3⟩ := Ye r1 e1
      exact .inr (.inl ⟨ad, xs, i, v1, rfl, rb.int_eq, q1, e3, k R H _ (Ext.refl _) rh r3⟩)
    · split at e
      · rename_i hl
        obtain ⟨c, e1, e2⟩ := Option.map_eq_some_iff.mp e
        cases e2
        exact .inr (.inr ⟨_, i, c, ra.str_eq, rb.int_eq, hl, e1, k R H _ (Ext.refl _) rh (Rw.str _)⟩)
      · cases e
    · obtain ⟨ws, e0, e⟩ := Option.bind_eq_some_iff.mp e
      obtain ⟨w1, e1, e2⟩ := Option.map_eq_some_iff.mp e
      cases e2
      obtain ⟨ad, xs, rfl, q1, r1⟩ := rh.lsAt ra e0
      obtain ⟨v1, e3, r3⟩ := Ye r1 e1
      exact .inl ⟨ad, xs, i, v1, rfl, rb.int_eq, q1, e3, k R H _ (Ext.refl _) rh r3⟩
  · cases e
theorem QP {a b : Expr} {ma mb : ME} {pos : Pos} (ha : PM X a ma) (hb : PM X b mb) (hs : KM b := by intro _ _; rfl) : PM X (.Subscript a b pos) (Qo wIx ma mb) :=
  QZ (Qa9 UB ha hb hs) fun _ _ _ q => ZR (Qaj q) fun _ _ q1 => ZR q1 fun _ _ q2 => q2
noncomputable def KW (ws : List W) (h : MH) : Option (W × MH) := match ws with
  | [.str x] => if x.length ≤ sizeLine then some (.int x.length, h) else none
  | [.tup ws] => some (.int ws.length, h)
  | [a] => (lsW h a).map fun ws => (.int ws.length, h)
  | _ => none
theorem QT {K : PySem.W.Frag} {f : List W → MH → Option (W × MH)} : Uz K (Fs K f) f := fun _ _ _ q => q
theorem Ky {K : PySem.W.Frag} {R : Rn} {a : W} {xs : List V} (r : Rws K R [a] xs) : ∃ v, xs = [v] ∧ Rw K R a v := by
  rw [Rws.cons_iff] at r
  obtain ⟨v, vs, rfl, r1, r2⟩ := r
  rw [Rws.nil_iff] at r2
  subst r2
  exact ⟨v, rfl, r1⟩
theorem Qch {K : PySem.W.Frag} {R : Rn} {a b : W} {xs : List V} (r : Rws K R [a, b] xs) : ∃ v u, xs = [v, u] ∧ Rw K R a v ∧ Rw K R b u := by
  rw [Rws.cons_iff] at r
  obtain ⟨v, vs, rfl, r1, r2⟩ := r
  obtain ⟨u, rfl, r3⟩ := Ky r2
  exact ⟨v, u, rfl, r1, r3⟩
theorem Jn : CallR X (.builtin "len") (Fs X.K KW) := by
  intro pins s σ H xs us Q I r q
  refine (call_len_seq.or V9) pins s σ H xs us Q I r ?_
  obtain ⟨R, h, ws, w, h', rh, rw, e, k⟩ := q
  unfold KW at e
  split at e
  · split at e
    · rename_i hl
      cases e
      obtain ⟨v, rfl, r1⟩ := Ky rw
      exact .inr ⟨_, by rw [r1.str_eq], hl, k R H _ (Ext.refl _) rh (Rw.int _)⟩
    · cases e
  · cases e
    obtain ⟨v, rfl, r1⟩ := Ky rw
    obtain ⟨ad, xs, rfl, q1, r2⟩ := rh.tupAt r1
    exact .inl ⟨ad, xs, rfl, .inr q1, by rw [← r2.length]; exact k R H _ (Ext.refl _) rh (Rw.int _)⟩
  · obtain ⟨ys, e1, e2⟩ := Option.map_eq_some_iff.mp e
    cases e2
    obtain ⟨v, rfl, r1⟩ := Ky rw
    obtain ⟨ad, xs, rfl, q1, r2⟩ := rh.lsAt r1 e1
    exact .inl ⟨ad, xs, rfl, .inl q1, by rw [← r2.length]; exact k R H _ (Ext.refl _) rh (Rw.int _)⟩
  · cases e
noncomputable def JP (ws : List W) (h : MH) : Option (W × MH) := match ws with
  | [.tup ws] => some (.tup ws, h)
  | [a] => (lsW h a).map fun ws => (.tup ws, h)
  | _ => none
noncomputable def Wy (ws : List W) (h : MH) : Option (W × MH) := match ws with
  | [.tup ws] => some (.lst ws, h)
  | [a] => (lsW h a).map fun ws => (.lst ws, h)
  | _ => none
theorem J1 : CallR X (.type "tuple") (Fs X.K JP) := by
  intro pins s σ H xs us Q I r q
  refine VA pins s σ H xs us Q I r ?_
  obtain ⟨R, h, ws, w, h', rh, rw, e, k⟩ := q
  unfold JP at e
  split at e
  · cases e
    obtain ⟨v, rfl, r1⟩ := Ky rw
    obtain ⟨ad, xs, rfl, q1, r2⟩ := rh.tupAt r1
    exact ⟨ad, xs, rfl, .inr ⟨q1, k R H _ (Ext.refl _) rh r1⟩⟩
  · obtain ⟨ys, e1, e2⟩ := Option.map_eq_some_iff.mp e
    cases e2
    obtain ⟨v, rfl, r1⟩ := Ky rw
    obtain ⟨ad, xs, rfl, q1, r2⟩ := rh.lsAt r1 e1
    refine ⟨ad, xs, rfl, .inl ⟨q1, fun p hp => ?_⟩⟩
    obtain ⟨R3, x3, rh3, rw3⟩ := rh.tup hp r2
    exact k R3 _ _ x3 rh3 rw3
  · cases e
theorem Kr : CallR X (.type "list") (Fs X.K Wy) := by
  intro pins s σ H xs us Q I r q
  refine V5 pins s σ H xs us Q I r ?_
  obtain ⟨R, h, ws, w, h', rh, rw, e, k⟩ := q
  unfold Wy at e
  split at e
  · cases e
    obtain ⟨v, rfl, r1⟩ := Ky rw
    obtain ⟨ad, xs, rfl, q1, r2⟩ := rh.tupAt r1
    refine ⟨ad, xs, rfl, .inr q1, fun p hp => ?_⟩
    obtain ⟨R3, x3, rh3, rw3⟩ := rh.lstI hp r2
    exact k R3 _ _ x3 rh3 rw3
  · obtain ⟨ys, e1, e2⟩ := Option.map_eq_some_iff.mp e
    cases e2
    obtain ⟨v, rfl, r1⟩ := Ky rw
    obtain ⟨ad, xs, rfl, q1, r2⟩ := rh.lsAt r1 e1
    refine ⟨ad, xs, rfl, .inl q1, fun p hp => ?_⟩
    obtain ⟨R3, x3, rh3, rw3⟩ := rh.lstI hp r2
    exact k R3 _ _ x3 rh3 rw3
  · cases e
end
end Mi

namespace Mi
open PySem PySem.Spec PyProof.Rows L2

section
variable {prog : Program} {w : World} {A : Around} {E : Value → Shared → Prop} {s : Shared}
theorem Ja {t sl : Addr} {items : Array Value} {vl vu : Value} {lo hi : Option Int} {Q : Value → Shared → Prop} (ht : IsTup s.heap t items) (hs : s.heap.IsSliceOf sl vl vu .none) (pl : IsPart vl lo) (pu : IsPart vu hi)
    (hw : HT.sIx items.size 0 lo = 0 ∧ HT.sIx items.size items.size hi = items.size) (h : Q (.ref t) s) : wpAny (model prog w) A (getItem (.ref t) (.ref sl)) Q E s := by
  obtain ⟨os, hos, hcs, hds⟩ := id hs
  have hTs : s.TypeIs (.ref sl) "slice" := ⟨os, hos, hcs⟩
  unfold getItem
  try with_reducible refine wpAny_holding ?_
  first | refine wpAny_bind (wpAny_pure ?_) | skip
  refine wpAny_bind (wpAny_sequenceKey ht.typeIs (by decide) ?_)
  refine wpAny_bind (wpAny_callSpecial?_slot (name := Str.ofString "__getitem__") ht.typeIs PyProof.Rows.slot_tuple_getitem
    (wpAny_call_entry PyProof.Rows.slot_tuple_getitem ht.typeIs entry_tuple_getitem ?_ (args_tuple_getitem _ _)))
  show wpAny _ _ (Builtin.Tuple.tupleItemsOf (.ref t) >>= _) _ _ s
  refine wpAny_bind (tupleItemsOf_ ht ?_)
  refine wpAny_bind (wpAny_typeOf hTs ?_)
  rw [if_pos (by decide)]
  refine wpAny_bind (HT.sliceApplied_gen hs pl pu ?_)
  have hno : ((((HT.sIx items.size 0 lo : Nat) : Int) == 0 && (1 : Int) == 1 && (HT.sIx items.size items.size hi - HT.sIx items.size 0 lo) == items.size) = true) := by
    rw [hw.1, hw.2]; simp
  show wpAny _ _ (if (((HT.sIx items.size 0 lo : Nat) : Int) == 0 && (1 : Int) == 1 && (HT.sIx items.size items.size hi - HT.sIx items.size 0 lo) == items.size) = true then _ else _) _ _ s
  rw [if_pos hno]
  refine wpAny_bind (m := Builtin.Tuple.tupleIsExact _) ?_
  unfold Builtin.Tuple.tupleIsExact
  refine wpAny_bind (wpAny_typeOf ht.typeIs (wpAny_pure ?_))
  rw [if_pos (by decide)]
  exact wpAny_bind (wpAny_rule (wpAny_pure ⟨_, rfl, wpAny_pure h⟩))
end
noncomputable def YG {α : Type} (xs : List α) (lo hi : Option Int) : List α := (xs.drop (HT.sIx xs.length 0 lo)).take (HT.sIx xs.length xs.length hi - HT.sIx xs.length 0 lo)
noncomputable def wSl (a : W) (lo hi : Option Int) (h : MH) : Option (W × MH) := match a with
  | .tup ws => some (.tup (YG ws lo hi), h)
  | .str x => if x.length ≤ sizeLine then some (.str (Txt.slice x lo hi), h) else none
  | a => (lsW h a).map fun ws => (.lst (YG ws lo hi), h)
theorem Yc {K : PySem.W.Frag} {R : Rn} {ws : List W} {xs : List V} (r : Rws K R ws xs) (lo hi : Option Int) : Rws K R (YG ws lo hi) (Ws xs lo hi) := by
  unfold YG Ws
  rw [r.length]
  exact (r.drop _).take _
theorem KI {α : Type} {xs : List α} {lo hi : Option Int} (h : HT.sIx xs.length 0 lo = 0 ∧ HT.sIx xs.length xs.length hi = xs.length) : YG xs lo hi = xs := by
  unfold YG
  rw [h.1, h.2]; simp
noncomputable abbrev MOp := MSt → MH → Option (Option Int × MH)
noncomputable def tIO (K : PySem.W.Frag) (m : MOp) : TO := fun σ H Q => ∃ R σi h o h', Rh K R h H ∧ Rst K R σi σ ∧ m σi h = some (o, h') ∧ ∀ R' H', Ext R R' → Rh K R' h' H' → Q o H'
noncomputable def PMO (X : Cx) (e : Option Expr) (m : MOp) : Prop := PO X e (tIO X.K m)
noncomputable def UW : MOp := fun _ h => some (none, h)
noncomputable def W2 (m : ME) : MOp := fun σ h => (m σ h).bind fun p => match p.1 with | .int i => some (some i, p.2) | _ => none
noncomputable def mSl (ma : ME) (ml mh : MOp) : ME := fun σ h => (ma σ h).bind fun p => (ml σ p.2).bind fun q => (mh σ q.2).bind fun r => wSl p.1 q.1 r.1 r.2
section
variable {X : Cx}
theorem sl_tupA : SlR X (fun x lo hi H Q => ∃ a xs, x = .ref a ∧ SqT X.K H a xs ∧ ((HT.sIx xs.length 0 lo = 0 ∧ HT.sIx xs.length xs.length hi = xs.length) → Q (.ref a) H) ∧
    (¬ (HT.sIx xs.length 0 lo = 0 ∧ HT.sIx xs.length xs.length hi = xs.length) → ∀ p, H p = none → Q (.ref p) (upd H p (.tup (Ws xs lo hi))))) := by
  intro pins s σ H x v vl vu lo hi sl Q I rx hs pl pu h
  obtain ⟨a, xs, rfl, hx, q1, q2⟩ := h
  by_cases hw : HT.sIx xs.length 0 lo = 0 ∧ HT.sIx xs.length xs.length hi = xs.length
  · cases rx
    obtain ⟨its, r, ht, hz⟩ := I.tuple hx
    have hlen : its.toArray.size = xs.length := by rw [List.size_toArray]; exact r.length.symm
    refine ⟨"tuple", _, PyProof.Rows.slot_tuple_getitem.lookup, ht.typeIs, ?_⟩
    exact Ja ht hs pl pu (by rw [hlen]; exact hw) ⟨.ref a, H, I, rfl, q1 hw⟩
  · exact Gb pins s σ H (.ref a) v vl vu lo hi sl Q I rx hs pl pu ⟨a, xs, rfl, hx, hw, q2 hw⟩
theorem GD : SlR X (fun x lo hi H Q => ∃ z, x = .str z ∧ z.length ≤ sizeLine ∧ Q (.str (Txt.slice z lo hi)) H) := by
  intro pins s σ H x v vl vu lo hi sl Q I rx hs pl pu h
  obtain ⟨z, rfl, hz, q⟩ := h
  obtain ⟨t, rfl⟩ := rx
  refine ⟨"str", _, PySem.F.slot_str_getitem.lookup, typeIs_str _ _ _, ?_⟩
  have fin : ∀ (t' : Tok) (k : Nat), EP X pins σ Q (.str (Txt.slice z lo hi) t') { s with toks := k } := fun t' k => ⟨.str _, H, I.tok _, ⟨t', rfl⟩, q⟩
  cases pl with
  | none =>
    cases pu with
    | none => exact wpAny_getItem_str_slice (l := none) (u := none) (st := none) hs rfl (post_val_or_str ⟨Nat.le_trans (Txt.slice_le z _ _) hz, fin⟩)
    | int j tj => exact wpAny_getItem_str_slice (l := none) (u := some (j, tj)) (st := none) hs rfl (post_val_or_str ⟨Nat.le_trans (Txt.slice_le z _ _) hz, fin⟩)
  | int i ti =>
    cases pu with
    | none => exact wpAny_getItem_str_slice (l := some (i, ti)) (u := none) (st := none) hs rfl (post_val_or_str ⟨Nat.le_trans (Txt.slice_le z _ _) hz, fin⟩)
    | int j tj => exact wpAny_getItem_str_slice (l := some (i, ti)) (u := some (j, tj)) (st := none) hs rfl (post_val_or_str ⟨Nat.le_trans (Txt.slice_le z _ _) hz, fin⟩)
theorem Y3 : PMO X none UW := fun pins s σ H Q I ⟨R, σi, h, o, h', rh, st, e, k⟩ => by
  cases e
  exact Uu pins s σ H Q I (k R H (Ext.refl _) rh)
theorem YT {e : Expr} {m : ME} (he : PM X e m) : PMO X (some e) (W2 m) := fun pins s σ H Q I ⟨R, σi, h, o, h', rh, st, e1, k⟩ => by
  refine W6 he pins s σ H Q I ?_
  obtain ⟨⟨w, h1⟩, e2, e3⟩ := Option.bind_eq_some_iff.mp e1
  refine ⟨R, σi, h, w, h1, rh, st, e2, fun R1 H1 v x1 rh1 rv => ?_⟩
  cases w <;> simp only at e3 <;> first | (cases e3; exact ⟨_, rv.int_eq, k R1 H1 x1 rh1⟩) | cases e3
theorem Wi {a : Expr} {lo hi : Option Expr} {ma : ME} {ml mh : MOp} {pos p2 : Pos} (ha : PM X a ma) (hl : PMO X lo ml) (hh : PMO X hi mh) : PM X (.Subscript a (.Slice lo hi none p2) pos) (mSl ma ml mh) :=
  QZ (Ww (sl_list.or (sl_tupA.or GD)) ha hl hh) fun σ H Q ⟨R, σi, h, w, h', rh, st, e, k⟩ => by
    obtain ⟨⟨a, h1⟩, ea, e2⟩ := Option.bind_eq_some_iff.mp e
    obtain ⟨⟨l, h2⟩, el, e3⟩ := Option.bind_eq_some_iff.mp e2
    obtain ⟨⟨u, h3⟩, eu, e4⟩ := Option.bind_eq_some_iff.mp e3
    refine ⟨R, σi, h, a, h1, rh, st, ea, fun R1 H1 x x1 rh1 rx => ⟨R1, σi, h1, l, h2, rh1, st.mono x1, el, fun R2 H2 x2 rh2 => ⟨R2, σi, h2, u, h3, rh2, st.mono (x1.trans x2), eu, fun R3 H3 x3 rh3 => ?_⟩⟩⟩
    have rx3 := Rw.mono (x2.trans x3) _ _ rx
    have k3 := k.ext (x1.trans (x2.trans x3))
    dsimp only at e4
    unfold wSl at e4
    split at e4
    · cases e4
      obtain ⟨ad, xs, rfl, q1, r1⟩ := rh3.tupAt rx3
      refine .inr (.inl ⟨ad, xs, rfl, q1, fun hw => ?_, fun _ p hp => ?_⟩)
      · rw [KI (by rw [r1.length]; exact hw)] at k3
        exact k3 R3 H3 _ (Ext.refl _) rh3 rx3
      · obtain ⟨R4, x4, rh4, rw4⟩ := rh3.tup hp (Yc r1 l u)
        exact k3 R4 _ _ x4 rh4 rw4
    · split at e4
      · rename_i hz
        cases e4
        exact .inr (.inr ⟨_, rx3.str_eq, hz, k3 R3 H3 _ (Ext.refl _) rh3 (Rw.str _)⟩)
      · cases e4
    · obtain ⟨ys, e5, e6⟩ := Option.map_eq_some_iff.mp e4
      cases e6
      obtain ⟨ad, xs, rfl, q1, r1⟩ := rh3.lsAt rx3 e5
      refine .inl ⟨ad, xs, rfl, q1, fun p hp => ?_⟩
      obtain ⟨R4, x4, rh4, rw4⟩ := rh3.lstI hp (Yc r1 l u)
      exact k3 R4 _ _ x4 rh4 rw4
end
noncomputable def Qac (X : Cx) (id : String) (f : W → List W → MH → Option (W × MH)) : Prop :=
  MtR X id (fun x xs H Q => ∃ R h a ws w h', Rh X.K R h H ∧ Rw X.K R a x ∧ Rws X.K R ws xs ∧ f a ws h = some (w, h') ∧ After X.K R w h' Q)
noncomputable def tyW (h : MH) (T : String) : W → Bool
  | .str _ => T == "str"
  | .int _ => T == "int"
  | .lst _ => T == "list"
  | .frz _ => T == "list"
  | .ref n => match h[n]? with | some (.lst _) => T == "list" | some (.dic _) => T == "dict" | some (.dct _) => T == "dict" | none => false
  | _ => false
noncomputable def mMt (T : String) (f : W → List W → MH → Option (W × MH)) (mo : ME) (ms : MA) : ME := fun σ h => (mo σ h).bind fun p => if tyW p.2 T p.1 = true then (ms σ p.2).bind fun q => f p.1 q.1 q.2 else none
theorem GQ {K : PySem.W.Frag} {R : Rn} {h : MH} {H : Hp} {T : String} {a : W} {x : V} (rh : Rh K R h H) (r : Rw K R a x) (e : tyW h T a = true) : tyV K T x H := by
  cases a with
  | str _ => rw [r.str_eq]; exact eq_of_beq e
  | int _ => rw [r.int_eq]; exact eq_of_beq e
  | lst _ =>
    obtain ⟨ad, xs, rfl, q, _⟩ := rh.lstAt r
    exact .inl ⟨eq_of_beq e, xs, SqL.of q⟩
  | frz _ =>
    obtain ⟨ad, xs, rfl, q, _⟩ := rh.frzAt r
    exact .inl ⟨eq_of_beq e, xs, q⟩
  | ref n =>
    simp only [tyW] at e
    split at e
    · rename_i ws hn
      obtain ⟨_, rfl, xs, h1, _⟩ := rh.refAt r hn
      exact .inl ⟨eq_of_beq e, xs, SqL.of h1⟩
    · rename_i kvs hn
      unfold Rw at r
      obtain ⟨kx, h1, _⟩ := rh.obj n _ hn
      rw [r.2]
      exact .inr (.inr (.inl ⟨eq_of_beq e, .inl ⟨kx, h1⟩⟩))
    · rename_i kvs hn
      unfold Rw at r
      obtain ⟨kx, h1, _⟩ := rh.obj n _ hn
      rw [r.2]
      exact .inr (.inr (.inl ⟨eq_of_beq e, .inr ⟨kx, h1⟩⟩))
    · cases e
  | _ => cases e
section
variable {X : Cx} {o e : Expr} {es : List Expr} {mo : ME} {ms : MA} {name : Str} {apos cpos : Pos} {T id : String} {f : W → List W → MH → Option (W × MH)}
theorem GO {X : Cx} {e : Expr} {es : List Expr} {cpos : Pos} (hfew : decide ((e :: es).length < 30) = true) (hs : ZS e = false) (hp : Z9 es = true) :
    ((backTo cpos (starEach (e :: es) X.env)).all (fun x => !x.1) && (backToKw cpos (keywordEach [] X.env)).all (fun x => x.1.isSome)
      && decide ((e :: es).length + ([] : List Keyword).length + (if ([] : List Keyword).isEmpty then 0 else 1) < 30)) = true := by
  rw [Wx (by unfold Z9 at hp ⊢; rw [List.all_cons, hs, hp]; rfl)]
  exact hfew
theorem Vz (pa : PlainAttrs T) (slot : Slot T name id) (hty : typeOf (.builtin id) = pure (.type "method_descriptor")) (hm : Qac X id f) (ho : PM X o mo) (ha : PMA X (e :: es) ms)
    (hbase : attributeBase o name X.env (eval o X.env) = eval o X.env := by rfl) (hfew : decide ((e :: es).length < 30) = true := by rfl)
    (hline : (apos.endLine == cpos.line) = true := by rfl) (hs : ZS e = false := by rfl) (hplain : Z9 es = true := by rfl) :
    PM X (.Call (.Attribute o name apos) (e :: es) [] cpos) (mMt T f mo ms) :=
  QZ (QaV pa slot hty hm ho ha hbase (GO hfew hs hplain) hline (QK hs) (ZE hplain)) fun σ H Q ⟨R, σi, h, w, h', rh, st, e, k⟩ => by
    obtain ⟨⟨a, h1⟩, ea, e2⟩ := Option.bind_eq_some_iff.mp e
    dsimp only at e2
    split at e2
    · rename_i ht
      obtain ⟨⟨ws, h2⟩, es, e3⟩ := Option.bind_eq_some_iff.mp e2
      exact ⟨R, σi, h, a, h1, rh, st, ea, fun R1 H1 x x1 rh1 rx => ⟨GQ rh1 rx ht, R1, σi, h1, ws, h2, rh1, st.mono x1, es, fun R2 H2 xs x2 rh2 rxs => ⟨R2, h2, a, ws, w, h', rh2, Rw.mono x2 _ _ rx, rxs, e3, k.ext (x1.trans x2)⟩⟩⟩
    · cases e2
end
noncomputable def Zy (a : W) (ws : List W) (h : MH) : Option (W × MH) := match a, ws with
  | .ref n, [w] => match h[n]? with | some (.lst xs) => if xs.length < sizeLine then some (.non, h.set n (.lst (xs ++ [w]))) else none | _ => none
  | _, _ => none
noncomputable def Jp (a : W) (ws : List W) (h : MH) : Option (W × MH) := match a, ws with
  | .ref n, [w] => match h[n]? with | some (.lst xs) => (loW h w).bind fun ys => if xs.length + ys.length ≤ sizeLine then some (.non, h.set n (.lst (xs ++ ys))) else none | _ => none
  | _, _ => none
section
variable {X : Cx}
theorem Rws.dropLast {K : PySem.W.Frag} {R : Rn} {ws : List W} {vs : List V} (r : Rws K R ws vs) : Rws K R ws.dropLast vs.dropLast := by
  rw [List.dropLast_eq_take, List.dropLast_eq_take, r.length]
  exact r.take _
theorem ZC : Qac X "list.append" Zy := by
  intro pins s σ H x xs v us Q I rx rv q
  refine Yq pins s σ H x xs v us Q I rx rv ?_
  obtain ⟨R, h, a, ws, w, h', rh, ra, rws, e, k⟩ := q
  unfold Zy at e
  split at e
  · rename_i n w1
    split at e
    · rename_i ys hn
      split at e
      · rename_i hl
        cases e
        obtain ⟨hlt, rfl, xv, h1, r1⟩ := rh.refAt ra hn
        obtain ⟨y, rfl, ry⟩ := Ky rws
        refine ⟨_, xv, y, rfl, rfl, h1, by rw [← r1.length]; exact hl, ?_⟩
        exact k R _ _ (Ext.refl _) (rh.put hlt ⟨_, rfl, Rws.append r1 (Rws.cons ry Rws.nil)⟩) Rw.non
      · cases e
    · cases e
  · cases e
theorem Js : Qac X "list.extend" Jp := by
  intro pins s σ H x xs v us Q I rx rv q
  refine Yo pins s σ H x xs v us Q I rx rv ?_
  obtain ⟨R, h, a, ws, w, h', rh, ra, rws, e, k⟩ := q
  unfold Jp at e
  split at e
  · rename_i n w1
    split at e
    · rename_i ys hn
      obtain ⟨zs, e1, e⟩ := Option.bind_eq_some_iff.mp e
      split at e
      · rename_i hl
        cases e
        obtain ⟨hlt, rfl, xv, h1, r1⟩ := rh.refAt ra hn
        obtain ⟨y, rfl, ry⟩ := Ky rws
        obtain ⟨bd, yv, rfl, h2, r2⟩ := rh.loAt ry e1
        refine ⟨_, bd, xv, yv, rfl, rfl, h1, h2, by rw [← r1.length, ← r2.length]; exact hl, ?_⟩
        exact k R _ _ (Ext.refl _) (rh.put hlt ⟨_, rfl, Rws.append r1 r2⟩) Rw.non
      · cases e
    · cases e
  · cases e
end
noncomputable def Yj (h : MH) : W → Option String
  | .non => some "NoneType"
  | .bl _ => some "bool"
  | .int _ => some "int"
  | .str _ => some "str"
  | .tup _ => some "tuple"
  | .lst _ => some "list"
  | .frz _ => some "list"
  | .ref n => match h[n]? with | some (.lst _) => some "list" | some (.dic _) => some "dict" | some (.dct _) => some "dict" | none => none
  | .ty _ => none
noncomputable def ZT (k T : String) : Bool := k == T || (k == "bool" && T == "int")
noncomputable def Vk (T : String) : Bool := T == "str" || T == "int" || T == "bool" || T == "list" || T == "tuple" || T == "dict"
noncomputable def Wr (ws : List W) (h : MH) : Option (W × MH) := match ws with
  | [a, .ty T] => if Vk T = true then (Yj h a).map fun k => (.bl (ZT k T), h) else none
  | _ => none
theorem JR {K : PySem.W.Frag} {k T : String} (hk : k = "NoneType" ∨ k = "bool" ∨ k = "int" ∨ k = "str" ∨ k = "tuple" ∨ k = "list" ∨ k = "dict") (hT : Vk T = true) : PySem.W.kitOne K (.type k) (.type T) = some (ZT k T) := by
  have hT' : T = "str" ∨ T = "int" ∨ T = "bool" ∨ T = "list" ∨ T = "tuple" ∨ T = "dict" := by
    unfold Vk at hT
    simp only [Bool.or_eq_true, beq_iff_eq] at hT
    rcases hT with ((((h | h) | h) | h) | h) | h <;> simp [h]
  rcases hk with rfl | rfl | rfl | rfl | rfl | rfl | rfl <;> rcases hT' with rfl | rfl | rfl | rfl | rfl | rfl <;> first | rfl | decide +kernel
section
variable {X : Cx}
theorem V3 : CallR X (.builtin "isinstance") (Fs X.K Wr) := by
  intro pins s σ H xs us Q I r q
  obtain ⟨R, h, ws, w, h', rh, rws, e, k⟩ := q
  unfold Wr at e
  split at e
  · rename_i a T
    split at e
    · rename_i hT
      obtain ⟨kd, e1, e2⟩ := Option.map_eq_some_iff.mp e
      cases e2
      obtain ⟨x, y, rfl, ra, rb⟩ := Qch rws
      obtain ⟨u, u2, rfl, ru, ru2⟩ := QaE r
      rw [rb.ty_eq] at ru2
      cases ru2
      have fin : ∀ tk, EP X pins σ Q (.bool (ZT kd T)) { s with toks := tk } := fun tk => ⟨.bl _, H, I.tok _, rfl, k R H _ (Ext.refl _) rh (Rw.bl _)⟩
      have one : ∀ {t : String}, TyOf X.K H x (.type t) → kd = t → (t = "NoneType" ∨ t = "bool" ∨ t = "int" ∨ t = "str" ∨ t = "tuple" ∨ t = "list" ∨ t = "dict") → wpAny (model X.prog X.w) X.A (call (.builtin "isinstance") [u, .type T]) (EP X pins σ Q) X.xe s := fun {t} ty et ht => by
        subst et
        exact KP I ru ty (JR ht hT) fin
      cases a with
      | non => cases e1; rw [ra.non_eq] at one; exact one .non rfl (by simp)
      | bl b => cases e1; rw [ra.bl_eq] at one; exact one (.bl b) rfl (by simp)
      | int i => cases e1; rw [ra.int_eq] at one; exact one (.int i) rfl (by simp)
      | str z => cases e1; rw [ra.str_eq] at one; exact one (.str z) rfl (by simp)
      | tup ys =>
        cases e1
        obtain ⟨ad, yv, rfl, q1, _⟩ := rh.tupAt ra
        cases ru
        obtain ⟨its, _, p, _⟩ := I.tuple q1
        obtain ⟨o, h1, h2, _⟩ := p
        exact PySem.W.kia_one PySem.W.kitx_tuple I.kIn ⟨o, h1, h2⟩ (JR (by simp) hT) (fun z => nomatch z) fin
      | lst ys =>
        cases e1
        obtain ⟨ad, yv, rfl, q1, _⟩ := rh.lstAt ra
        exact one (.lst q1) rfl (by simp)
      | frz ys =>
        cases e1
        obtain ⟨ad, yv, rfl, q1, _⟩ := rh.frzAt ra
        cases ru
        obtain ⟨its, _, p, _⟩ := I.list q1
        obtain ⟨o, n, h1, h2, _⟩ := p
        exact PySem.W.kia_one PySem.W.kitx_list I.kIn ⟨o, h1, h2⟩ (JR (by simp) hT) (fun z => nomatch z) fin
      | ref n =>
        simp only [Yj] at e1
        split at e1
        · rename_i ys hn
          cases e1
          obtain ⟨_, rfl, yv, h1, _⟩ := rh.refAt ra hn
          exact one (.lst h1) rfl (by simp)
        · rename_i kvs hn
          cases e1
          unfold Rw at ra
          obtain ⟨kx, h1, _⟩ := rh.obj n _ hn
          rw [ra.2] at one
          exact one (.dK h1) rfl (by simp)
        · rename_i kvs hn
          cases e1
          unfold Rw at ra
          obtain ⟨kx, h1, _⟩ := rh.obj n _ hn
          rw [ra.2] at one
          exact one (.dT h1) rfl (by simp)
        · cases e1
      | ty _ => cases e1
    · cases e
  · cases e
end
end Mi

namespace Mi
open PySem PySem.Spec PyProof.Rows L2

structure Cal (P : Program) (w : World) (K : PySem.W.Frag) (mg : Str → Option Value) (base : Heap) (k : Nat) (x : Str) (ps : List Str) (g : FM) : Prop where
  ex : ∃ (f : Addr) (fd : FuncData), FnOk P w K mg base CX0 k f fd ps (spM K ps.length g) ∧ mg x = some (.ref f) ∧ PySem.W.keepIn K (.ref f) = true ∧ Binds K fd ps [] ∧ ∃ (oc : Value) (od : Option Addr) (osl : Array (Option Value)), K.lookup f = some ⟨oc, od, .func fd, osl⟩
structure DefAt (K : PySem.W.Frag) (mg : Str → Option Value) (x : Str) (st : Stmt) (ps : List Str) : Prop where
  ex : ∃ (f : Addr) (fd : FuncData), Fun K x x st f fd ∧ mg x = some (.ref f) ∧ Binds K fd ps []
theorem QL {K : PySem.W.Frag} {h : Heap} {mg : Str → Option Value} {x : Str} {st : Stmt} {ps : List Str} {f : Addr} {oc : Value} {od an : Option Addr} {sl : Array (Option Value)} {kV doc pm cd ct : Value} (X : K.In h) (G : h.Ns mainGlobals mg)
    (a : PySem.W.nsIn K mainGlobals x = some (some (.ref f))) (l : K.lookup f = some ⟨oc, od, .func (PySem.W.fnOf x x (Jc st) (Zz st) (Ql st) .none kV doc pm an cd ct), sl⟩) (c : PySem.W.codeIn K cd x = true) (k : PySem.W.keepIn K (.ref f) = true)
    (b : ∀ (kV doc pm : Value) (an : Option Addr) (cdv ct : Value) (us : List Value), us.length = ps.length → bindArgs (PySem.W.fnOf x x (Jc st) (Zz st) (Ql st) .none kV doc pm an cdv ct) ⟨us, []⟩ = pure (ps.zip us)) : DefAt K mg x st ps :=
  ⟨f, _, WF l c k, PySem.W.mg_of X G a, (WF l c k).binds b⟩
structure Glob (K : PySem.W.Frag) (mg : Str → Option Value) (x : Str) (w : W) : Prop where
  ex : ∃ (v : V) (u : Value), mg x = some u ∧ RelV v u ∧ ∀ R, Rw K R w v
theorem Qad {K : PySem.W.Frag} {h : Heap} {mg : Str → Option Value} {x : Str} {i : Int} {t : Tok} (X : K.In h) (G : h.Ns mainGlobals mg) (a : PySem.W.nsIn K mainGlobals x = some (some (.int i t))) : Glob K mg x (.int i) :=
  ⟨.int i, _, PySem.W.mg_of X G a, ⟨t, rfl⟩, fun _ => Rw.int i⟩
noncomputable def G7 : List Str → List W := List.map W.str
theorem Kl {K : PySem.W.Frag} {R : Rn} : ∀ (ys : List Str), Rws K R (G7 ys) (ys.map V.str)
  | [] => Rws.nil
  | y :: ys => Rws.cons (Rw.str y) (Kl ys)
theorem Xe : ∀ {its : List Value} {ys : List Str}, StrsAre its ys → Vals (ys.map V.str) its
  | _, _, .nil => .nil
  | _, _, .cons y t r => .cons ⟨t, rfl⟩ (Xe r)
theorem G4 {K : PySem.W.Frag} {h : Heap} {mg : Str → Option Value} {x : Str} {c : Addr} {dd : Option Addr} {its : Array Value} {n : Nat} {sl : Array (Option Value)} {ys : List Str} (X : K.In h) (G : h.Ns mainGlobals mg) (a : PySem.W.nsIn K mainGlobals x = some (some (.ref c)))
    (l : K.lookup c = some ⟨.type "tuple", dd, .seq its n, sl⟩) (hz : its.size ≤ sizeLine) (hs : StrsAre its.toList ys) : Glob K mg x (.tup (G7 ys)) :=
  ⟨.ref c, _, PySem.W.mg_of X G a, rfl, fun R => by
    unfold Rw
    exact ⟨c, _, rfl, .inr ⟨_, its, n, l, rfl, rfl, hz, Xe hs⟩, Kl ys⟩⟩
section
variable {X : Cx} {k n : Nat} {g : FM} {x : Str} {ps : List Str} {p pos : Pos} {e : Expr} {es : List Expr} {ms : MA}
theorem Qr (C : Cal X.prog X.w X.K X.mg X.base k x ps g) (hr : Room k X.A) (hg : Gl X x) (ha : PMA X (e :: es) ms) (hn : ps.length = n := by rfl)
    (hdb : (x == ("__debug__" : Str)) = false := by decide) (he : ZS e = false := by rfl) (hpl : Z9 es = true := by rfl) :
    PM X (.Call (.Name x p) (e :: es) [] pos) (Qw n g ms) := by
  obtain ⟨f, fd, F, hm, hk, hb, _⟩ := C.ex
  subst hn
  exact UI F hr hg hm hk hb Qa3 ha hdb he hpl
theorem G1 {T : String} (hg : Gl X x) (hm : X.mg x = none) (hv : bootBuiltins x = some (.type T)) (hn : x ≠ "__name__" := by decide) (hd : (x == ("__debug__" : Str)) = false := by decide) : PM X (.Name x pos) (mC (.ty T)) :=
  W3 hg hm hv (v := .ty T) rfl (fun _ => Rw.ty _) hn hd
end
section
variable {P : Program} {w : World} {K : PySem.W.Frag} {mg : Str → Option Value} {base : Heap}
theorem ZN {x : Str} {st : Stmt} {N ps : List Str} {k more : Nat} {m : SM} (d : DefAt K mg x st ps) (S : FnScope N ps (Ql st)) (hN : N.length = ps.length + more)
    (hbody : ∀ (f : Addr) (cdv : Value) (A : Around) (outer : List Env) (s : Shared) (H : Hp) (E : XK), Room k (A.deeper (envOfC x (Ql st) s.heap.objs.size f cdv)) → Wq (WJ CX0 P w K mg base N x (Ql st) f cdv A outer s H E).nox (Zz st) m) :
    Cal P w K mg base (k + 1) x ps (Jl more m) := by
  obtain ⟨f, fd, F, hm, hb⟩ := d.ex
  obtain ⟨oc, od, kV, doc, pm, an, cdv, ct, osl, e, lk, hcd⟩ := F.ex
  exact ⟨f, fd, QaW F S hN (fun cdv A outer s H E hr => hbody f cdv A outer s H E hr), hm, F.kp, hb, oc, od, osl, lk⟩
theorem Cal.imp {x : Str} {ps : List Str} {k : Nat} {g g' : FM} (C : Cal P w K mg base k x ps g) (h : ∀ vs H Q E, spM K ps.length g' vs H Q E → spM K ps.length g vs H Q E) : Cal P w K mg base k x ps g' := by
  obtain ⟨f, fd, F, r⟩ := C.ex
  exact ⟨f, fd, F.imp h, r⟩
theorem Cal.eq {x : Str} {ps : List Str} {k : Nat} {g g' : FM} (C : Cal P w K mg base k x ps g) (h : ∀ ws hp r, ws.length = ps.length → g' ws hp = some r → g ws hp = some r) : Cal P w K mg base k x ps g' :=
  C.imp fun _ _ _ _ ⟨R, ws, hp, w, h', hl, rh, rws, e, k⟩ => ⟨R, ws, hp, w, h', hl, rh, rws, h ws hp _ hl e, k⟩
end
theorem X5 {K : PySem.W.Frag} {R : Rn} : ∀ (ns : List Int), Rws K R (ns.map W.int) (ns.map V.int)
  | [] => Rws.nil
  | n :: ns => Rws.cons (Rw.int n) (X5 ns)
theorem Qas {l : PySem.W.OpenLaw} {q : Program} {loose : List Str} {XP : (Str → Option Value) → Heap → Prop} {YP : World → Heap → Prop} {d : DefRec} {K : Params → PySem.W.Frag} {st : Stmt} {sem : FM} {k : Nat} (hn : l.most = some 63) (hdf : d.params.defaults = []) (hr : Room k callerA) (hdn : d.name = "law")
    (hY : ∀ (w : World) (h : Heap), YP w h → (K w.params).In h)
    (hb : ∀ (kV doc pm : Value) (an : Option Addr) (cdv ct : Value) (s : Shared) (u : Value), BindsTo s (PySem.W.fnOf "law" "law" (Jc st) (Zz st) (Ql st) .none kV doc pm an cdv ct) ⟨[u], []⟩ [("script", u)])
    (F : ∀ (w : World) (mg : Str → Option Value) (h : Heap), (K w.params).In h → h.Ns mainGlobals mg →
      DefAt (K w.params) mg "law" st ["script"] ∧ ∀ base : Heap, (K w.params).In base → base.Ns mainGlobals mg → Cal l.prog w (K w.params) mg base k "law" ["script"] sem)
    (main : ∀ ns : List Int, ns.length ≤ 63 → ∃ h', sem [.frz (ns.map W.int)] [] = some (.bl true, h')) :
    PySem.W.WalkO q loose XP YP l.row.toRowW d [] (fun f vs => PySem.call f vs) := by
  refine L2.UF (n := 63) (k := k) (x := "script") (CX := fun _ => CX0) (sp := fun w => spM (K w.params) 1 sem) hn (by decide) hdf hr hY ?_ ?_ fun _ _ _ _ _ z => z
  · intro w mg fa h KX G hmg
    obtain ⟨D, Fn⟩ := F w mg h KX G
    obtain ⟨f, fd, Fu, hm, _⟩ := D.ex
    rw [hdn] at hmg
    rw [hm] at hmg
    cases hmg
    obtain ⟨oc, od, kV, doc, pm, an, cdv, ct, osl, e, lk, hcd⟩ := Fu.ex
    refine ⟨fd, fun s u => ?_, fun base kb nb => ?_⟩
    rotate_left
    · obtain ⟨f', fd', F', hm', _, _, oc', od', osl', lk'⟩ := (Fn base kb nb).ex
      rw [hm] at hm'
      cases hm'
      rw [lk] at lk'
      cases lk'
      exact F'
    rw [e]
    exact hb kV doc pm an cdv ct s u
  · intro w H a ns hl hO hS
    obtain ⟨h', e⟩ := main ns hl
    refine ⟨⟨fun _ => 0, 0, H, fun _ => none⟩, [.frz (ns.map W.int)], [], .bl true, h', rfl, ⟨rfl, fun _ _ z => z, fun n hn => absurd hn (Nat.not_lt_zero _), fun m n hm => absurd hm (Nat.not_lt_zero _), (fun n o z => by simp at z), (fun _ _ z => by cases z), (fun _ _ => rfl), (fun _ _ z => by cases z)⟩, ?_, e, fun R' H' v _ _ rv => rv.bl_eq⟩
    refine Rws.cons ?_ Rws.nil
    unfold Rw
    exact ⟨a, _, rfl, hS, X5 ns⟩
end Mi

namespace Mi
open PySem PySem.Spec PyProof.Rows L2

noncomputable def KN (scope : Scope) : Bool := scope.names.all fun y => y.2 != .cell && (y.2 != .local || scope.names.lookup y.1 == some .local)
noncomputable def Qa8 (N : List Str) (xs scope : Scope) (cp : List (Option Nat)) (Nb : List Str) : Bool := (cp.zip Nb).all fun p => match p.1 with
  | none => true
  | some j => N[j]? == some p.2 && (xs.names.lookup p.2 == some .cell || xs.names.lookup p.2 == some .free) && scope.names.lookup p.2 == some .free
noncomputable def WM (scope : Scope) (ks : List Str) : Bool := scope.names.all fun y => y.2 != .free || ks.contains y.1
theorem Zj {env : Env} : ∀ {names : List (Str × NameKind)} {x : Str}, names.lookup x = some .free →
    (names.map fun (n, k) => if (k == NameKind.free && env.scope.kind == .function && env.kindOf n == some .cell) then (n, NameKind.cell) else (n, k)).lookup x = some .cell ∨
    (names.map fun (n, k) => if (k == NameKind.free && env.scope.kind == .function && env.kindOf n == some .cell) then (n, NameKind.cell) else (n, k)).lookup x = some .free
  | [], _, h => by simp at h
  | (n, k) :: r, x, h => by
    have ih := @Zj env r x
    rw [List.map_cons]
    dsimp only
    cases hx : x == n with
    | true =>
      simp only [List.lookup_cons, hx] at h
      cases h
      by_cases hc : (NameKind.free == NameKind.free && env.scope.kind == .function && env.kindOf n == some .cell) = true
      · rw [if_pos hc]; exact .inl (by simp [List.lookup_cons, hx])
      · rw [if_neg hc]; exact .inr (by simp [List.lookup_cons, hx])
    | false =>
      simp only [List.lookup_cons, hx] at h
      by_cases hc : (k == NameKind.free && env.scope.kind == .function && env.kindOf n == some .cell) = true
      · rw [if_pos hc]; simp only [List.lookup_cons, hx]; exact ih h
      · rw [if_neg hc]; simp only [List.lookup_cons, hx]; exact ih h
theorem QJ {env : Env} : ∀ {names : List (Str × NameKind)} {x : Str} {k' : NameKind}, (∀ y ∈ names, y.2 ≠ .cell) → (k' = .cell ∨ k' = .free) →
    (names.map fun (n, k) => if (k == NameKind.free && env.scope.kind == .function && env.kindOf n == some .cell) then (n, NameKind.cell) else (n, k)).lookup x = some k' → (x, NameKind.free) ∈ names
  | [], _, _, _, _, h => by simp at h
  | (n, k) :: r, x, k', hn, hk, h => by
    rw [List.map_cons] at h
    dsimp only at h
    have ih := @QJ env r x k' (fun y hy => hn y (List.mem_cons_of_mem _ hy)) hk
    cases hx : x == n with
    | true =>
      have : x = n := eq_of_beq hx
      subst this
      by_cases hc : (k == NameKind.free && env.scope.kind == .function && env.kindOf x == some .cell) = true
      · have : k = .free := by
          simp only [Bool.and_eq_true, beq_iff_eq] at hc; exact hc.1.1
        subst this
        exact List.mem_cons_self
      · rw [if_neg hc] at h
        simp [List.lookup_cons] at h
        subst h
        rcases hk with z | z
        · exact absurd z (hn (x, k) List.mem_cons_self)
        · subst z; exact List.mem_cons_self
    | false =>
      refine List.mem_cons_of_mem _ (ih ?_)
      by_cases hc : (k == NameKind.free && env.scope.kind == .function && env.kindOf n == some .cell) = true
      · rw [if_pos hc] at h; simpa only [List.lookup_cons, hx] using h
      · rw [if_neg hc] at h; simpa only [List.lookup_cons, hx] using h
theorem Kp {cl : List (Str × Addr)} {x : Str} {c : Addr} (h : cl.lookup x = some c) : (x, c) ∈ cl := by
  induction cl with
  | nil => simp at h
  | cons p r ih =>
    obtain ⟨n, a⟩ := p
    cases hx : x == n with
    | true =>
      simp only [List.lookup_cons, hx] at h
      cases h
      rw [eq_of_beq hx]; exact List.mem_cons_self
    | false =>
      simp only [List.lookup_cons, hx] at h
      exact List.mem_cons_of_mem _ (ih h)
theorem VL {cl : List (Str × Addr)} {x : Str} (h : x ∈ cl.map (·.1)) : ∃ c, cl.lookup x = some c := by
  induction cl with
  | nil => simp at h
  | cons p r ih =>
    obtain ⟨n, a⟩ := p
    cases hx : x == n with
    | true => exact ⟨a, by simp only [List.lookup_cons, hx]⟩
    | false =>
      rcases List.mem_cons.mp h with z | z
      · dsimp only at z; rw [z, beq_self_eq_true] at hx; cases hx
      · obtain ⟨c, hc⟩ := ih z
        exact ⟨c, by simp only [List.lookup_cons, hx]; exact hc⟩
theorem WI {X : Cx} {scope xs : Scope} {cl : List (Str × Addr)} {N Nb ks : List Str} {cp : List (Option Nat)} (clos : closureFor scope X.env = pure cl) (kind : scope.kind = .function) (hs : KN scope = true) (hk : cl.map (·.1) = ks) (hks : WM scope ks = true)
    (hsub : ∀ p ∈ cl, X.env.cells.lookup p.1 = some p.2) (hN : X.N = N) (hx : X.env.scope = xs) (hl : cp.length = Nb.length) (hc : Qa8 N xs scope cp Nb = true) : BlkOk X scope cl Nb cp := by
  have hcell : ∀ y ∈ scope.names, y.2 ≠ .cell := fun y hy => by
    have := List.all_eq_true.mp hs y hy
    simp only [Bool.and_eq_true, bne_iff_ne] at this
    exact this.1
  refine ⟨clos, hcell, kind, fun y hy hl => ?_, fun x c h => hsub _ (Kp h), fun x h => ?_, hl, fun i j x h1 h2 => ?_⟩
  · have := List.all_eq_true.mp hs y hy
    simp only [Bool.and_eq_true, Bool.or_eq_true, bne_iff_ne, beq_iff_eq] at this
    rcases this.2 with z | z
    · exact absurd hl z
    · exact z
  · have hm : (x, NameKind.free) ∈ scope.names := by
      rcases h with h | h
      · exact QJ hcell (.inl rfl) h
      · exact QJ hcell (.inr rfl) h
    have := List.all_eq_true.mp hks _ hm
    simp only [Bool.or_eq_true, bne_iff_ne, ne_eq, not_true_eq_false, false_or, List.contains_iff_mem] at this
    exact VL (by rw [hk]; exact this)
  · have hz : (cp.zip Nb)[i]? = some (some j, x) := by rw [List.getElem?_zip_eq_some]; exact ⟨h1, h2⟩
    have := List.all_eq_true.mp hc _ (List.mem_of_getElem? hz)
    simp only [Bool.and_eq_true, Bool.or_eq_true, beq_iff_eq] at this
    obtain ⟨⟨a, b⟩, c⟩ := this
    refine ⟨by rw [hN]; exact a, ?_, ?_, Zj c⟩
    · rw [hx]
      rcases b with b | b
      · exact .inr (.inl b)
      · exact .inr (.inr b)
    · unfold Env.kindOf
      rw [hx]; exact b
theorem JS {X : Cx} {scope : Scope} {Nb : List Str} {cp : List (Option Nat)} (kind : scope.kind = .function) (hs : KN scope = true) (hks : WM scope [] = true) (hl : cp.length = Nb.length) (hc : cp.all (·.isNone) = true) : BlkOk X scope [] Nb cp := by
  have hfree : ∀ y ∈ scope.names, y.2 ≠ .free := fun y hy z => by
    have := List.all_eq_true.mp hks y hy
    simp [z] at this
  have hcell : ∀ y ∈ scope.names, y.2 ≠ .cell := fun y hy => by
    have := List.all_eq_true.mp hs y hy
    simp only [Bool.and_eq_true, bne_iff_ne] at this
    exact this.1
  refine ⟨closureFor_none hfree, hcell, kind, fun y hy hl => ?_, fun x c h => by simp at h, fun x h => ?_, hl, fun i j x h1 h2 => ?_⟩
  · have := List.all_eq_true.mp hs y hy
    simp only [Bool.and_eq_true, Bool.or_eq_true, bne_iff_ne, beq_iff_eq] at this
    rcases this.2 with z | z
    · exact absurd hl z
    · exact z
  · have hm : (x, NameKind.free) ∈ scope.names := by
      rcases h with h | h
      · exact QJ hcell (.inl rfl) h
      · exact QJ hcell (.inr rfl) h
    exact absurd rfl (hfree _ hm)
  · have := List.all_eq_true.mp hc _ (List.mem_of_getElem? h1)
    simp at this
end Mi

namespace Mi
open PySem PySem.Spec PyProof.Rows L2
theorem Zk (items : List W) (h : MH) : YH none items h := fun _ z => by cases z
theorem Jr {fin : List W → MH → Option (W × MH)} {items : List W} {mt : MT} {me : ME} {caps : MSt} {h : MH} {f : W → W} {p : W → Bool} : ∀ (rest acc : List W) (o : Option W),
    (∀ w ∈ rest, mt (some w :: caps) h = some (p w, h)) → (∀ w ∈ rest, p w = true → me (some w :: caps) h = some (f w, h)) → acc.length + rest.length ≤ sizeLine →
    Zp fin items none (Je 0) mt me rest acc (o :: caps) h = fin (acc ++ (rest.filter p).map f) h
  | [], acc, o, _, _, _ => by
    unfold Zp
    rw [if_pos (Zk _ _)]; simp
  | w :: rest, acc, o, ht, he, hl => by
    unfold Zp
    rw [if_pos (Zk _ _)]
    have h1 : Je 0 w (o :: caps) h = some (some w :: caps) := rfl
    rw [h1, Option.bind_some, ht w List.mem_cons_self, Option.bind_some]
    have hl' : acc.length + (rest.length + 1) ≤ sizeLine := by simpa using hl
    cases hp : p w with
    | true =>
      simp only [hp]
      rw [he w List.mem_cons_self hp, Option.bind_some, if_pos (by omega)]
      rw [Jr rest (acc ++ [f w]) (some w) (fun x hx => ht x (List.mem_cons_of_mem _ hx)) (fun x hx => he x (List.mem_cons_of_mem _ hx)) (by simp; omega)]
      simp [List.filter_cons, hp]
    | false =>
      simp only [hp]
      rw [Jr rest acc (some w) (fun x hx => ht x (List.mem_cons_of_mem _ hx)) (fun x hx => he x (List.mem_cons_of_mem _ hx)) (by omega)]
      simp [List.filter_cons, hp]
theorem ZV {items : List W} {b : MG} {body : SM} {w : W} {r : List W} {σ σ1 σ2 : MSt} {h h2 : MH} (hb : b w σ h = some σ1) (hy : body σ1 h = some (.nx σ2 h2)) : ZY items none b body (w :: r) σ h = ZY items none b body r σ2 h2 := by
  rw [ZY, if_pos (Zk _ _), hb, Option.bind_some, hy, Option.bind_some]
theorem JF {items : List W} {b : MG} {body : SM} {σ : MSt} {h : MH} : ZY items none b body [] σ h = some (.nx σ h) := by
  rw [ZY, if_pos (Zk _ _)]
end Mi

namespace Mi
open PySem PySem.Spec PyProof.Rows L2
section
variable {σ σ1 : MSt} {h h1 h2 h3 : MH} {a b c w : W} {ws : List W} {ma mb mc : ME} {ms : MA} {mt mu : MT} {s1 s2 : SM} {f f' : W → W → MH → Option (W × MH)} {g : List W → MH → Option (W × MH)} {z : MF}
end
theorem Uw {i j : Int} {h : MH} (c : (-(2 ^ 64) < i ∧ i < 2 ^ 64) ∨ (-(2 ^ 64) < j ∧ j < 2 ^ 64)) : Gs (.int i) (.int j) h = some (.int (i * j), h) := by unfold Gs; exact if_pos c
theorem W8 {i j : Int} {h : MH} (c : 0 < j ∧ j < 1073741824) : XH (.int i) (.int j) h = some (.int (i / j), h) := by unfold XH; exact if_pos c
theorem W7 {i j : Int} {h : MH} (c : 0 < j) : JN (.int i) (.int j) h = some (.int (i % j), h) := by unfold JN; exact if_pos c
theorem Ud {i j : Int} {h : MH} (c : 0 ≤ j ∧ j ≤ 1000000 ∧ i.natAbs < 2 ^ 64) : UY (.int i) (.int j) h = some (.int (i ^ j.toNat), h) := by unfold UY; exact if_pos c
end Mi

namespace Mi
open PySem PySem.Spec PyProof.Rows L2
section
variable {X : Cx} {o i e : Expr} {mo mi mv : ME} {pos pos' : Pos}
end
section
variable {X : Cx} {o i e : Expr} {mo mi mv : ME} {pos pos' : Pos}
end
end Mi

namespace Mi
open PySem PySem.Spec PyProof.Rows L2
end Mi

namespace Mi
open PySem PySem.Spec PyProof.Rows L2 PySem.SeqAt
end Mi

namespace Mi
open PySem PySem.Spec PyProof.Rows L2
inductive TabIs : List DictEntry → List (Str × Int) → Prop where
  | nil : TabIs [] []
  | cons {e : DictEntry} {x : Str} {i : Int} {t t' : Tok} {es : List DictEntry} {tab : List (Str × Int)} (hk : e.key = .str x t) (hv : e.val = .int i t') (r : TabIs es tab) : TabIs (e :: es) ((x, i) :: tab)
structure GTab (w : World) (K : PySem.W.Frag) (mg : Str → Option Value) (x : Str) (tab : List (Str × Int)) : Prop where
  ex : ∃ (a : Addr) (es : List DictEntry) (n : Nat), mg x = some (.ref a) ∧ K.lookup a = some ⟨.type "dict", none, .dict es.toArray n, #[]⟩ ∧ PySem.W.KeysLit w.params es ∧ (a == sysModules) = false ∧ TabIs es tab
theorem QaZ {w : World} {K : PySem.W.Frag} {h : Heap} {mg : Str → Option Value} {x : Str} {c : Addr} {es : List DictEntry} {n : Nat} {tab : List (Str × Int)} (X : K.In h) (G : h.Ns mainGlobals mg) (a : PySem.W.nsIn K mainGlobals x = some (some (.ref c)))
    (l : K.lookup c = some ⟨.type "dict", none, .dict es.toArray n, #[]⟩) (k : PySem.W.KeysLit w.params es) (s : (c == sysModules) = false) (t : TabIs es tab) : GTab w K mg x tab :=
  ⟨c, es, n, PySem.W.mg_of X G a, l, k, s, t⟩
section
variable {X : Cx} {c : Addr} {es : List DictEntry} {n : Nat} {tab : List (Str × Int)}
variable {a : Expr} {ma : ME} {x : Str} {pos pos' : Pos}
end
end Mi

namespace Mi
open PySem PySem.Spec PyProof.Rows L2
theorem WS (a b : Int) (h : MH) : wEq (.int a) (.int b) h = some (.bl (a == b), h) := by unfold wEq; simp [drf, eqW]
theorem Ux (a b : Str) (h : MH) : wEq (.str a) (.str b) h = some (.bl (a == b), h) := by unfold wEq; simp [drf, eqW]
end Mi

namespace Mi
open PySem PySem.Spec PyProof.Rows L2
end Mi

namespace Mi
open PySem PySem.Spec PyProof.Rows L2
section
variable {X : Cx} {tg : Expr}
end
section
variable {K : PySem.W.Frag} {R : Rn}
end
section
variable {X : Cx} {tg a b d : Expr} {ms : MA} {p pos : Pos}
end
end Mi

namespace Mi
open PySem PySem.Spec PyProof.Rows L2
section
variable {K : PySem.W.Frag} {R : Rn}
noncomputable abbrev DicR (K : PySem.W.Frag) (R : Rn) : List (Key × W) → List (Key × V) → Prop := Paired fun p q => p.1 = q.1 ∧ Rw K R p.2 q.2
end
section
variable {X : Cx} {o i e a b : Expr} {mo mi mv ma mb : ME} {pos pos' : Pos}
end
end Mi

namespace Mi
open PySem PySem.Spec PyProof.Rows L2
theorem Uo {h : MH} {n : Nat} {ws : List W} (e : h[n]? = some (.lst ws)) : lsW h (.ref n) = some ws := by unfold lsW; simp only [e]
end Mi

namespace Mi
open PySem PySem.Spec PyProof.Rows L2
mutual
noncomputable def pur : W → Bool
  | .tup ws => ZB ws
  | .lst ws => ZB ws
  | .frz ws => ZB ws
  | .ref _ => false
  | _ => true
noncomputable def ZB : List W → Bool
  | [] => true
  | w :: ws => pur w && ZB ws
end
noncomputable def UZ : MO → Bool
  | .lst ws => ZB ws
  | .dic kvs => ZB (kvs.map (·.2))
  | .dct kvs => ZB (kvs.map (·.2))
mutual
noncomputable def th (f : Nat → Option W) : W → Option W
  | .tup ws => (ths f ws).map .tup
  | .lst ws => (ths f ws).map .lst
  | .frz ws => (ths f ws).map .frz
  | .ref j => f j
  | w => some w
noncomputable def ths (f : Nat → Option W) : List W → Option (List W)
  | [] => some []
  | w :: ws => (th f w).bind fun x => (ths f ws).map (x :: ·)
end
noncomputable def thO (f : Nat → Option W) : MO → Option MO
  | .lst ws => (ths f ws).map .lst
  | .dic kvs => (ths f (kvs.map (·.2))).map fun vs => .dic ((kvs.map (·.1)).zip vs)
  | .dct kvs => (ths f (kvs.map (·.2))).map fun vs => .dct ((kvs.map (·.1)).zip vs)
noncomputable def res (kp : Nat → Option Nat) (g : MH) : Nat → Nat → Option W
  | 0, j => (kp j).map .ref
  | d + 1, j => match kp j with
    | some n => some (.ref n)
    | none => match g[j]? with
      | some (.lst ws) => (ths (res kp g d) ws).map .lst
      | _ => none
noncomputable def VS (ns js : List Nat) (N j : Nat) : Option Nat := match ns[j]? with
  | some n => some n
  | none => (js.findIdx? (· == j)).map (N + ·)
noncomputable def JK : Nat → List W → Option (List W × List Nat)
  | _, [] => some ([], [])
  | k, .ref n :: ws => (JK (k + 1) ws).map fun p => (.ref k :: p.1, n :: p.2)
  | k, w :: ws => if pur w then (JK k ws).map fun p => (w :: p.1, p.2) else none
noncomputable def Qz : List Nat → List MO → MH → MH
  | n :: ns, o :: os, h => Qz ns os (h.set n o)
  | _, _, h => h
noncomputable def U1 (h : MH) (n : Nat) : Option MO := match h[n]? with | some o => if UZ o then some o else none | none => none
noncomputable def Ul (fr : W → List Nat) (m : FM) (as : List W) (ns : List Nat) (h : MH) : Option (W × MH) :=
  if ns.Nodup then (QW (U1 h) ns).bind fun h0 => (m as h0).bind fun p =>
    if (fr p.1).Nodup ∧ (∀ j ∈ fr p.1, ns.length ≤ j) then
      (th (res (VS ns (fr p.1) h.length) p.2 3) p.1).bind fun w =>
      (QW (fun j => (p.2[j]?).bind (thO (res (VS ns (fr p.1) h.length) p.2 3))) (List.range ns.length)).bind fun os =>
      (QW (fun j => (p.2[j]?).bind (thO (res (VS ns (fr p.1) h.length) p.2 3))) (fr p.1)).map fun us =>
      (w, Qz ns os h ++ us)
    else none
  else none
noncomputable def box (fr : W → List Nat) (m : FM) : FM := fun ws h => (JK 0 ws).bind fun a => Ul fr m a.1 a.2 h
section
variable {K : PySem.W.Frag} {R R' : Rn}
mutual
theorem Rw.pur_mono (hf : ∀ a o, R.F a = some o → R'.F a = some o) : ∀ (w : W) (v : V), pur w = true → Rw K R w v → Rw K R' w v
  | .non, _, _, h => by unfold Rw at h ⊢; exact h
  | .bl _, _, _, h => by unfold Rw at h ⊢; exact h
  | .int _, _, _, h => by unfold Rw at h ⊢; exact h
  | .str _, _, _, h => by unfold Rw at h ⊢; exact h
  | .ty _, _, _, h => by unfold Rw at h ⊢; exact h
  | .tup ws, _, p, h => by
    unfold Rw at h ⊢
    obtain ⟨a, xs, e1, e2, e3⟩ := h
    exact ⟨a, xs, e1, QR hf e2, Rws.pur_mono hf ws xs (by unfold pur at p; exact p) e3⟩
  | .lst ws, _, p, h => by
    unfold Rw at h ⊢
    obtain ⟨a, xs, e1, e2, e3⟩ := h
    exact ⟨a, xs, e1, hf a _ e2, Rws.pur_mono hf ws xs (by unfold pur at p; exact p) e3⟩
  | .frz ws, _, p, h => by
    unfold Rw at h ⊢
    obtain ⟨a, xs, e1, e2, e3⟩ := h
    exact ⟨a, xs, e1, Zr hf e2, Rws.pur_mono hf ws xs (by unfold pur at p; exact p) e3⟩
  | .ref n, _, p, h => by unfold pur at p; cases p
theorem Rws.pur_mono (hf : ∀ a o, R.F a = some o → R'.F a = some o) : ∀ (ws : List W) (vs : List V), ZB ws = true → Rws K R ws vs → Rws K R' ws vs
  | [], _, _, h => by unfold Rws at h ⊢; exact h
  | w :: ws, _, p, h => by
    unfold Rws at h ⊢
    obtain ⟨v, vs', e1, e2, e3⟩ := h
    unfold ZB at p
    rw [Bool.and_eq_true] at p
    exact ⟨v, vs', e1, Rw.pur_mono hf w v p.1 e2, Rws.pur_mono hf ws vs' p.2 e3⟩
end
mutual
theorem Rw.th_ok {f : Nat → Option W} (hf : ∀ a o, R.F a = some o → R'.F a = some o) (hr : ∀ j v w, Rw K R (.ref j) v → f j = some w → Rw K R' w v) : ∀ (w : W) (v : V) (w' : W), th f w = some w' → Rw K R w v → Rw K R' w' v
  | .non, _, _, e, h => by unfold th at e; cases e; unfold Rw at h ⊢; exact h
  | .bl _, _, _, e, h => by unfold th at e; cases e; unfold Rw at h ⊢; exact h
  | .int _, _, _, e, h => by unfold th at e; cases e; unfold Rw at h ⊢; exact h
  | .str _, _, _, e, h => by unfold th at e; cases e; unfold Rw at h ⊢; exact h
  | .ty _, _, _, e, h => by unfold th at e; cases e; unfold Rw at h ⊢; exact h
  | .tup ws, _, _, e, h => by
    unfold th at e
    obtain ⟨us, h1, h2⟩ := Option.map_eq_some_iff.mp e
    subst h2
    unfold Rw at h ⊢
    obtain ⟨a, xs, e1, e2, e3⟩ := h
    exact ⟨a, xs, e1, QR hf e2, Rws.th_ok hf hr ws xs us h1 e3⟩
  | .lst ws, _, _, e, h => by
    unfold th at e
    obtain ⟨us, h1, h2⟩ := Option.map_eq_some_iff.mp e
    subst h2
    unfold Rw at h ⊢
    obtain ⟨a, xs, e1, e2, e3⟩ := h
    exact ⟨a, xs, e1, hf a _ e2, Rws.th_ok hf hr ws xs us h1 e3⟩
  | .frz ws, _, _, e, h => by
    unfold th at e
    obtain ⟨us, h1, h2⟩ := Option.map_eq_some_iff.mp e
    subst h2
    unfold Rw at h ⊢
    obtain ⟨a, xs, e1, e2, e3⟩ := h
    exact ⟨a, xs, e1, Zr hf e2, Rws.th_ok hf hr ws xs us h1 e3⟩
  | .ref n, v, w', e, h => by unfold th at e; exact hr n v w' h e
theorem Rws.th_ok {f : Nat → Option W} (hf : ∀ a o, R.F a = some o → R'.F a = some o) (hr : ∀ j v w, Rw K R (.ref j) v → f j = some w → Rw K R' w v) : ∀ (ws : List W) (vs : List V) (ws' : List W), ths f ws = some ws' → Rws K R ws vs → Rws K R' ws' vs
  | [], _, _, e, h => by unfold ths at e; cases e; unfold Rws at h ⊢; exact h
  | w :: ws, _, _, e, h => by
    unfold ths at e
    obtain ⟨x, h1, h2⟩ := Option.bind_eq_some_iff.mp e
    obtain ⟨us, h3, h4⟩ := Option.map_eq_some_iff.mp h2
    subst h4
    unfold Rws at h
    obtain ⟨v, vs', e1, e2, e3⟩ := h
    subst e1
    exact Rws.cons (Rw.th_ok hf hr w v x h1 e2) (Rws.th_ok hf hr ws vs' us h3 e3)
end
theorem DicR.vals : ∀ {kvs : List (Key × W)} {kx : List (Key × V)}, Paired (fun p q => p.1 = q.1 ∧ Rw K R p.2 q.2) kvs kx → Rws K R (kvs.map (·.2)) (kx.map (·.2)) ∧ kvs.map (·.1) = kx.map (·.1)
  | _, _, .nil => ⟨Rws.nil, rfl⟩
  | _, _, .cons h t => by
    obtain ⟨a, b⟩ := DicR.vals t
    exact ⟨Rws.cons h.2 a, by rw [List.map_cons, List.map_cons, b, h.1]⟩
theorem DicR.zip : ∀ {ks : List Key} {kx : List (Key × V)} {us : List W}, ks = kx.map (·.1) → Rws K R us (kx.map (·.2)) → Paired (fun p q => p.1 = q.1 ∧ Rw K R p.2 q.2) (ks.zip us) kx
  | _, [], us, e, h => by
    subst e
    exact .nil
  | _, q :: kx, us, e, h => by
    subst e
    rw [List.map_cons] at h
    cases us with
    | nil => rw [Rws.nil_iff] at h; cases h
    | cons u us =>
      rw [Rws.cons_iff] at h
      obtain ⟨v, vs, e1, e2, e3⟩ := h
      cases e1
      exact .cons ⟨rfl, e2⟩ (DicR.zip rfl e3)
theorem X6 : ∀ (n : Nat) (w : W) (k : Tr), WP n w = some k → pur w = true
  | 0, _, _, e => by simp [WP] at e
  | n + 1, w, k, e => by
    cases w with
    | tup ws =>
      simp only [WP] at e
      obtain ⟨ks, e1, hk⟩ := Option.map_eq_some_iff.mp e
      unfold pur
      clear e hk
      induction ws generalizing ks with
      | nil => rfl
      | cons x ws ih =>
        rw [List.mapM_cons] at e1
        obtain ⟨k1, h1, e2⟩ := Option.bind_eq_some_iff.mp e1
        obtain ⟨ks1, h2, _⟩ := Option.bind_eq_some_iff.mp e2
        unfold ZB
        rw [X6 n x k1 h1, ih ks1 h2]; rfl
    | lst ws => simp [WP] at e
    | frz ws => simp [WP] at e
    | ref j => simp [WP] at e
    | _ => rfl
theorem Yr {w : W} {k : Tr} (e : nrm w = some k) : pur w = true := by
  cases w with
  | tup ws => exact X6 8 _ k e
  | _ => cases e
theorem DctR.vals : ∀ {kvs : List (W × W)} {kx : List (Tr × Addr × V)}, Paired (fun p q => Rw K R p.1 (.ref q.2.1) ∧ nrm p.1 = some q.1 ∧ Rw K R p.2 q.2.2) kvs kx → Rws K R (kvs.map (·.2)) (kx.map (·.2.2)) ∧ Paired (fun p q => Rw K R p (.ref q.2.1) ∧ nrm p = some q.1) (kvs.map (·.1)) kx
  | _, _, .nil => ⟨Rws.nil, .nil⟩
  | _, _, .cons h t => by
    obtain ⟨a, b⟩ := DctR.vals t
    exact ⟨Rws.cons h.2.2 a, .cons ⟨h.1, h.2.1⟩ b⟩
theorem DctR.zip : ∀ {ks : List W} {kx : List (Tr × Addr × V)} {us : List W}, Paired (fun p q => Rw K R p (.ref q.2.1) ∧ nrm p = some q.1) ks kx → Rws K R us (kx.map (·.2.2)) → Paired (fun p q => Rw K R p.1 (.ref q.2.1) ∧ nrm p.1 = some q.1 ∧ Rw K R p.2 q.2.2) (ks.zip us) kx
  | _, [], us, .nil, h => .nil
  | _, q :: kx, us, .cons e t, h => by
    rw [List.map_cons] at h
    cases us with
    | nil => rw [Rws.nil_iff] at h; cases h
    | cons u us =>
      rw [Rws.cons_iff] at h
      obtain ⟨v, vs, e1, e2, e3⟩ := h
      cases e1
      exact .cons ⟨e.1, e.2, e2⟩ (DctR.zip t e3)
theorem X3 {f : Nat → Option W} (hf : ∀ a o, R.F a = some o → R'.F a = some o) (hr : ∀ j v w, Rw K R (.ref j) v → f j = some w → Rw K R' w v) {o o' : MO} {u : Option HO} (e : thO f o = some o') (h : Ro K R o u) : Ro K R' o' u := by
  cases o with
  | lst ws =>
    unfold thO at e
    obtain ⟨us, h1, h2⟩ := Option.map_eq_some_iff.mp e
    subst h2
    obtain ⟨xs, e1, e2⟩ := h
    exact ⟨xs, e1, Rws.th_ok hf hr ws xs us h1 e2⟩
  | dic kvs =>
    unfold thO at e
    obtain ⟨us, h1, h2⟩ := Option.map_eq_some_iff.mp e
    subst h2
    obtain ⟨kx, e1, e2⟩ := h
    obtain ⟨a, b⟩ := DicR.vals e2
    exact ⟨kx, e1, DicR.zip b (Rws.th_ok hf hr _ _ us h1 a)⟩
  | dct kvs =>
    unfold thO at e
    obtain ⟨us, h1, h2⟩ := Option.map_eq_some_iff.mp e
    subst h2
    obtain ⟨kx, e1, e2⟩ := h
    obtain ⟨a, b⟩ := DctR.vals e2
    exact ⟨kx, e1, DctR.zip (Paired.mapP b fun p q z => ⟨Rw.pur_mono hf _ _ (Yr z.2) z.1, z.2⟩) (Rws.th_ok hf hr _ _ us h1 a)⟩
theorem XO (hf : ∀ a o, R.F a = some o → R'.F a = some o) {o : MO} {u : Option HO} (p : UZ o = true) (h : Ro K R o u) : Ro K R' o u := by
  cases o with
  | lst ws =>
    obtain ⟨xs, e1, e2⟩ := h
    exact ⟨xs, e1, Rws.pur_mono hf ws xs p e2⟩
  | dic kvs =>
    obtain ⟨kx, e1, e2⟩ := h
    refine ⟨kx, e1, ?_⟩
    have p' : ZB (kvs.map (·.2)) = true := p
    clear p e1
    revert p'
    induction e2 with
    | nil => exact fun _ => .nil
    | cons h t ih =>
      intro p'
      rw [List.map_cons] at p'
      unfold ZB at p'
      rw [Bool.and_eq_true] at p'
      exact .cons ⟨h.1, Rw.pur_mono hf _ _ p'.1 h.2⟩ (ih p'.2)
  | dct kvs =>
    obtain ⟨kx, e1, e2⟩ := h
    refine ⟨kx, e1, ?_⟩
    have p' : ZB (kvs.map (·.2)) = true := p
    clear p e1
    revert p'
    induction e2 with
    | nil => exact fun _ => .nil
    | cons h t ih =>
      intro p'
      rw [List.map_cons] at p'
      unfold ZB at p'
      rw [Bool.and_eq_true] at p'
      exact .cons ⟨Rw.pur_mono hf _ _ (Yr h.2.1) h.1, h.2.1, Rw.pur_mono hf _ _ p'.1 h.2.2⟩ (ih p'.2)
theorem XW {R0 : Rn} (hf : ∀ a o, R.F a = some o → R0.F a = some o) {all : List Nat} (hρ : ∀ (i n : Nat), all[i]? = some n → i < R0.N ∧ R0.ρ i = R.ρ n) : ∀ {ws : List W} {vs : List V} {pre : List Nat} {as : List W} {ns : List Nat}, JK pre.length ws = some (as, ns) → all = pre ++ ns → Rws K R ws vs → Rws K R0 as vs
  | [], vs, pre, as, ns, e, ha, h => by
    unfold JK at e; cases e
    rw [Rws.nil_iff] at h; subst h
    exact Rws.nil
  | w :: ws, vs, pre, as, ns, e, ha, h => by
    rw [Rws.cons_iff] at h
    obtain ⟨v, vs', rfl, h1, h2⟩ := h
    by_cases hw : ∃ n, w = .ref n
    · obtain ⟨n, rfl⟩ := hw
      unfold JK at e
      obtain ⟨⟨as', ns'⟩, e1, e2⟩ := Option.map_eq_some_iff.mp e
      cases e2
      refine Rws.cons ?_ (XW hf hρ (pre := pre ++ [n]) (ns := ns') (by rw [List.length_append]; exact e1) (by rw [ha]; simp) h2)
      obtain ⟨z1, z2⟩ := hρ pre.length n (by rw [ha]; simp)
      unfold Rw at h1 ⊢
      exact ⟨z1, by rw [z2]; exact h1.2⟩
    · have e' : (if pur w then (JK pre.length ws).map fun p => (w :: p.1, p.2) else none) = some (as, ns) := by
        rw [← e]
        cases w <;> first | (exact absurd ⟨_, rfl⟩ hw) | (conv => rhs; unfold JK)
      split at e'
      · rename_i hp
        obtain ⟨⟨as', ns'⟩, e1, e2⟩ := Option.map_eq_some_iff.mp e'
        cases e2
        exact Rws.cons (Rw.pur_mono hf w v hp h1) (XW hf hρ e1 ha h2)
      · cases e'
theorem Q1 : ∀ (ns : List Nat) (os : List MO) (h : MH), (Qz ns os h).length = h.length
  | [], _, h => by unfold Qz; rfl
  | _ :: _, [], h => by unfold Qz; rfl
  | n :: ns, o :: os, h => by unfold Qz; rw [Q1 ns os, List.length_set]
theorem Ji : ∀ (ns : List Nat) (os : List MO) (h : MH) (n : Nat), n ∉ ns → (Qz ns os h)[n]? = h[n]?
  | [], _, h, n, _ => by unfold Qz; rfl
  | _ :: _, [], h, n, _ => by unfold Qz; rfl
  | m :: ns, o :: os, h, n, hn => by
    unfold Qz
    rw [Ji ns os _ n (fun z => hn (List.mem_cons_of_mem _ z)), List.getElem?_set_ne (fun z => hn (by rw [z]; exact List.mem_cons_self))]
theorem Vl : ∀ (ns : List Nat) (os : List MO) (h : MH) (i n : Nat), ns.Nodup → ns.length = os.length → ns[i]? = some n → n < h.length → (Qz ns os h)[n]? = os[i]?
  | [], _, h, i, n, _, _, e, _ => by simp at e
  | m :: ns, [], h, i, n, _, hl, _, _ => by simp at hl
  | m :: ns, o :: os, h, 0, n, hd, hl, e, hn => by
    simp at e; subst e
    unfold Qz
    rw [Ji ns os _ m (List.nodup_cons.mp hd).1, List.getElem?_set_self hn]; rfl
  | m :: ns, o :: os, h, i + 1, n, hd, hl, e, hn => by
    unfold Qz
    rw [Vl ns os (h.set m o) i n (List.nodup_cons.mp hd).2 (by simpa using hl) (by simpa using e) (by rw [List.length_set]; exact hn)]
    simp
end
end Mi

namespace Mi
open PySem PySem.Spec PyProof.Rows L2
theorem VO : ∀ {ws : List W} {k : Nat} {as : List W} {ns : List Nat}, JK k ws = some (as, ns) → as.length = ws.length
  | [], k, as, ns, e => by unfold JK at e; cases e; rfl
  | w :: ws, k, as, ns, e => by
    cases w <;> unfold JK at e <;> first
      | (obtain ⟨⟨as', ns'⟩, e1, e2⟩ := Option.map_eq_some_iff.mp e
         cases e2
         simp [VO e1])
      | (split at e
         · obtain ⟨⟨as', ns'⟩, e1, e2⟩ := Option.map_eq_some_iff.mp e
           cases e2
           simp [VO e1]
         · cases e)
theorem V7 {js : List Nat} {j i : Nat} (e : js.findIdx? (· == j) = some i) : js[i]? = some j := by
  rw [List.findIdx?_eq_some_iff_getElem] at e
  obtain ⟨h, h1, _⟩ := e
  rw [List.getElem?_eq_getElem h]
  simp at h1
  rw [h1]
theorem V6 {js : List Nat} {j : Nat} (e : js.findIdx? (· == j) = none) : j ∉ js := by
  rw [List.findIdx?_eq_none_iff] at e
  intro z
  have := e j z
  simp at this
theorem KL {h : MH} {n : Nat} {o : MO} (e : U1 h n = some o) : h[n]? = some o ∧ UZ o = true := by
  unfold U1 at e
  split at e
  · rename_i o' h'
    split at e
    · rename_i hp; cases e; exact ⟨h', hp⟩
    · cases e
  · cases e
theorem Xy {js : List Nat} (h : js.Nodup) {i i' j : Nat} (e : js[i]? = some j) (e' : js[i']? = some j) : i = i' :=
  (List.getElem?_inj (List.getElem?_eq_some_iff.mp e).1 h).mp (e.trans e'.symm)
section
variable {K : PySem.W.Frag}
open Classical in
theorem GR {n : Nat} {fr : W → List Nat} {m : FM} {vs : List V} {H : Hp} {Q : VK} {E : XK} (q : spM K n (box fr m) vs H Q E) : spM K n m vs H Q E := by
  obtain ⟨R, ws, h, wx, h2, hl, rh, rws, e, k⟩ := q
  unfold box at e
  obtain ⟨⟨as, ns⟩, e1, e2⟩ := Option.bind_eq_some_iff.mp e
  unfold Ul at e2
  split at e2
  case isFalse => cases e2
  rename_i hd
  obtain ⟨h0, e3, e4⟩ := Option.bind_eq_some_iff.mp e2
  obtain ⟨⟨w, g⟩, e5, e6⟩ := Option.bind_eq_some_iff.mp e4
  dsimp only at e6
  split at e6
  case isFalse => cases e6
  rename_i hj
  obtain ⟨hjd, hjk⟩ := hj
  obtain ⟨wy, e7, e8⟩ := Option.bind_eq_some_iff.mp e6
  obtain ⟨os, e9, e10⟩ := Option.bind_eq_some_iff.mp e8
  obtain ⟨us, e11, e12⟩ := Option.map_eq_some_iff.mp e10
  cases e12
  generalize hjs : fr w = js at *
  have hns : ∀ (i x : Nat), ns[i]? = some x → x < R.N ∧ ∃ o, h[x]? = some o ∧ h0[i]? = some o ∧ UZ o = true := fun i x hx => by
    obtain ⟨o, z1, z2⟩ := (Qt e3).2 i x hx
    obtain ⟨z3, z4⟩ := KL z2
    exact ⟨by rw [rh.len]; exact (List.getElem?_eq_some_iff.mp z3).1, o, z3, z1, z4⟩
  have hmem : ∀ x, x ∈ ns → ∃ i : Nat, ns[i]? = some x := fun x hx => List.mem_iff_getElem?.mp hx
  let R0 : Rn := { ρ := fun i => R.ρ (ns.getD i 0), N := ns.length, F := R.F, G := fun a => if ∃ x, x < R.N ∧ x ∉ ns ∧ R.ρ x = a then H a else R.G a }
  have hρ : ∀ (i x : Nat), ns[i]? = some x → i < R0.N ∧ R0.ρ i = R.ρ x := fun i x hx => by
    refine ⟨(List.getElem?_eq_some_iff.mp hx).1, ?_⟩
    show R.ρ (ns.getD i 0) = _
    rw [List.getD_eq_getElem?_getD, hx]; rfl
  have hat : ∀ i : Nat, i < ns.length → ∃ x, ns[i]? = some x := fun i hi => ⟨ns[i], List.getElem?_eq_getElem hi⟩
  have hGo : ∀ x, x < R.N → x ∉ ns → R0.G (R.ρ x) = H (R.ρ x) := fun x hx hn => if_pos ⟨x, hx, hn, rfl⟩
  have hGs : ∀ a o, R.G a = some o → R0.G a = some o := fun a o z => by
    show (if ∃ x, x < R.N ∧ x ∉ ns ∧ R.ρ x = a then H a else R.G a) = some o
    split
    · exact rh.gsub a o z
    · exact z
  have rh0 : Rh K R0 h0 H := by
    refine ⟨(Qt e3).1, rh.sub, fun i hi => ?_, fun i j hi hj ee => ?_, fun i o hi => ?_, fun a o ha => ?_, fun i hi => ?_, fun a o ha => ?_⟩
    · obtain ⟨x, hx⟩ := hat i hi
      rw [(hρ i x hx).2]
      exact rh.sep x (hns i x hx).1
    · obtain ⟨x, hx⟩ := hat i hi
      obtain ⟨y, hy⟩ := hat j hj
      rw [(hρ i x hx).2, (hρ j y hy).2] at ee
      have := rh.inj x y (hns i x hx).1 (hns j y hy).1 ee
      subst this
      exact Xy hd hx hy
    · have hi' : i < ns.length := by rw [(Qt e3).1]; exact (List.getElem?_eq_some_iff.mp hi).1
      obtain ⟨x, hx⟩ := hat i hi'
      obtain ⟨_, o', z1, z2, z3⟩ := hns i x hx
      rw [hi] at z2; cases z2
      rw [(hρ i x hx).2]
      exact XO (R := R) (R' := R0) (fun _ _ z => z) z3 (rh.obj x o z1)
    · have ha' : (if ∃ x, x < R.N ∧ x ∉ ns ∧ R.ρ x = a then H a else R.G a) = some o := ha
      split at ha'
      · exact ha'
      · exact rh.gsub a o ha'
    · obtain ⟨x, hx⟩ := hat i hi
      rw [(hρ i x hx).2]
      show (if ∃ y, y < R.N ∧ y ∉ ns ∧ R.ρ y = R.ρ x then H (R.ρ x) else R.G (R.ρ x)) = none
      rw [if_neg]
      · exact rh.gsep x (hns i x hx).1
      · rintro ⟨y, hy, hyn, ey⟩
        have := rh.inj y x hy (hns i x hx).1 ey
        subst this
        exact hyn (List.mem_iff_getElem?.mpr ⟨i, hx⟩)
    · have ha' : (if ∃ x, x < R.N ∧ x ∉ ns ∧ R.ρ x = a then H a else R.G a) = some o := ha
      split at ha'
      · rename_i hx
        obtain ⟨x, hx, _, rfl⟩ := hx
        exact rh.sep x hx
      · exact rh.gf a o ha'
  refine ⟨R0, as, h0, w, g, (VO e1).trans hl, rh0, XW (R := R) (R0 := R0) (pre := []) (fun _ _ z => z) hρ e1 rfl rws, e5, fun R1 H1 v x1 rh1 rv => ?_⟩
  have hG1 : R1.G = R0.G := x1.g
  have hρ1 : ∀ (i x : Nat), ns[i]? = some x → i < R1.N ∧ R1.ρ i = R.ρ x := fun i x hx => by
    obtain ⟨z1, z2⟩ := hρ i x hx
    exact ⟨Nat.lt_of_lt_of_le z1 x1.n, (x1.ρ i z1).trans z2⟩
  have hj1 : ∀ (i j : Nat), js[i]? = some j → ns.length ≤ j ∧ j < R1.N ∧ ∃ o u, us[i]? = some u ∧ g[j]? = some o ∧ thO (res (VS ns js h.length) g 3) o = some u := fun i j hij => by
    obtain ⟨u, z1, z2⟩ := (Qt e11).2 i j hij
    obtain ⟨o, z3, z4⟩ := Option.bind_eq_some_iff.mp z2
    exact ⟨hjk j (List.mem_iff_getElem?.mpr ⟨i, hij⟩), by rw [rh1.len]; exact (List.getElem?_eq_some_iff.mp z3).1, o, u, z1, z3, z4⟩
  have hapart : ∀ x, x < R.N → ∀ j, ns.length ≤ j → j < R1.N → R1.ρ j ≠ R.ρ x := fun x hx j hj hjn ee => by
    by_cases hm : x ∈ ns
    · obtain ⟨i, hi⟩ := hmem x hm
      obtain ⟨z1, z2⟩ := hρ1 i x hi
      have := rh1.inj j i hjn z1 (ee.trans z2.symm)
      have := (List.getElem?_eq_some_iff.mp hi).1
      omega
    · have z := rh1.gsep j hjn
      rw [hG1, ee, hGo x hx hm] at z
      obtain ⟨_, u, _, hu⟩ := rh.there hx
      rw [hu] at z; cases z
  let R2 : Rn := { ρ := fun n => if n < R.N then R.ρ n else R1.ρ (js.getD (n - R.N) 0), N := R.N + js.length, F := fun a => match R1.F a with | some o => some o | none => if ∃ j, ns.length ≤ j ∧ j < R1.N ∧ j ∉ js ∧ R1.ρ j = a then H1 a else none, G := R.G }
  have r2lo : ∀ x, x < R.N → R2.ρ x = R.ρ x := fun x hx => if_pos hx
  have r2hi : ∀ (i j : Nat), js[i]? = some j → R2.ρ (R.N + i) = R1.ρ j := fun i j hij => by
    show (if R.N + i < R.N then R.ρ (R.N + i) else R1.ρ (js.getD (R.N + i - R.N) 0)) = _
    rw [if_neg (by omega), Nat.add_sub_cancel_left, List.getD_eq_getElem?_getD, hij]; rfl
  have f1 : ∀ a o, R1.F a = some o → R2.F a = some o := fun a o z => by
    show (match R1.F a with | some o => some o | none => if ∃ j, ns.length ≤ j ∧ j < R1.N ∧ j ∉ js ∧ R1.ρ j = a then H1 a else none) = some o
    rw [z]
  have fnone : ∀ a, R1.F a = none → (¬ ∃ j, ns.length ≤ j ∧ j < R1.N ∧ j ∉ js ∧ R1.ρ j = a) → R2.F a = none := fun a z1 z2 => by
    show (match R1.F a with | some o => some o | none => if ∃ j, ns.length ≤ j ∧ j < R1.N ∧ j ∉ js ∧ R1.ρ j = a then H1 a else none) = none
    rw [z1]; exact if_neg z2
  have fnew : ∀ j, ns.length ≤ j → j < R1.N → j ∉ js → R2.F (R1.ρ j) = H1 (R1.ρ j) := fun j a b c => by
    show (match R1.F (R1.ρ j) with | some o => some o | none => if ∃ j', ns.length ≤ j' ∧ j' < R1.N ∧ j' ∉ js ∧ R1.ρ j' = R1.ρ j then H1 (R1.ρ j) else none) = _
    rw [rh1.sep j b]; exact if_pos ⟨j, a, b, c, rfl⟩
  have hx2 : Ext R R2 := ⟨Nat.le_add_right _ _, fun x hx => r2lo x hx, fun a o z => f1 a o (x1.f a o z), rfl⟩
  have split2 : ∀ x, x < R2.N → x < R.N ∨ ∃ i j : Nat, x = R.N + i ∧ js[i]? = some j := fun x hx => by
    have hx' : x < R.N + js.length := hx
    by_cases z : x < R.N
    · exact .inl z
    · exact .inr ⟨x - R.N, js[x - R.N]'(by omega), by omega, List.getElem?_eq_getElem (by omega)⟩
  have hr : ∀ d j v w, Rw K R1 (.ref j) v → res (VS ns js h.length) g d j = some w → Rw K R2 w v := by
    have kp_ok : ∀ j v x, Rw K R1 (.ref j) v → VS ns js h.length j = some x → Rw K R2 (.ref x) v := fun j v x r z => by
      unfold Rw at r ⊢
      unfold VS at z
      split at z
      · rename_i y hy
        cases z
        obtain ⟨z1, z2⟩ := hρ1 j x hy
        have hxn := (hns j x hy).1
        exact ⟨Nat.lt_of_lt_of_le hxn hx2.n, by rw [r2lo x hxn, ← z2]; exact r.2⟩
      · obtain ⟨i, z1, z2⟩ := Option.map_eq_some_iff.mp z
        have hij := V7 z1
        subst z2
        rw [← rh.len, r2hi i j hij]
        exact ⟨Nat.add_lt_add_left (List.getElem?_eq_some_iff.mp hij).1 _, r.2⟩
    intro d
    induction d with
    | zero =>
      intro j v w r z
      unfold res at z
      obtain ⟨x, z1, z2⟩ := Option.map_eq_some_iff.mp z
      subst z2
      exact kp_ok j v x r z1
    | succ d ih =>
      intro j v w r z
      unfold res at z
      split at z
      · rename_i x hx
        cases z
        exact kp_ok j v x r hx
      · rename_i hnone
        split at z
        · rename_i ws' hg
          obtain ⟨us', z1, z2⟩ := Option.map_eq_some_iff.mp z
          subst z2
          obtain ⟨xs, o1, o2⟩ := rh1.obj j _ hg
          have hr1 : j < R1.N ∧ v = .ref (R1.ρ j) := by unfold Rw at r; exact r
          unfold VS at hnone
          split at hnone
          · cases hnone
          · rename_i hnj
            have hnj' : j ∉ js := V6 (by simpa using hnone)
            unfold Rw
            refine ⟨R1.ρ j, xs, hr1.2, ?_, Rws.th_ok f1 ih ws' xs us' z1 o2⟩
            rw [fnew j (List.getElem?_eq_none_iff.mp hnj) hr1.1 hnj']
            exact o1
        · cases z
  refine k R2 H1 v hx2 ⟨?_, fun a o ha => ?_, fun x hx => ?_, fun x y hx hy ee => ?_, fun x o hx => ?_, fun a o ha => ?_, fun x hx => ?_, fun a o ha => ?_⟩ (Rw.th_ok f1 (hr 3) w v _ e7 rv)
  · show R.N + js.length = _
    rw [List.length_append, Q1, ← (Qt e11).1, rh.len]
  · have ha' : (match R1.F a with | some o => some o | none => if ∃ j, ns.length ≤ j ∧ j < R1.N ∧ j ∉ js ∧ R1.ρ j = a then H1 a else none) = some o := ha
    split at ha'
    · rename_i o' ho'
      cases ha'
      exact rh1.sub a _ ho'
    · split at ha'
      · exact ha'
      · cases ha'
  · rcases split2 x hx with hx | ⟨i, j, rfl, hij⟩
    · rw [r2lo x hx]
      refine fnone _ ?_ (fun ⟨j, a, b, _, c⟩ => hapart x hx j a b c)
      by_cases hm : x ∈ ns
      · obtain ⟨i, hi⟩ := hmem x hm
        obtain ⟨z1, z2⟩ := hρ1 i x hi
        rw [← z2]; exact rh1.sep i z1
      · obtain ⟨_, u, _, hu⟩ := rh.there hx
        exact rh1.gf _ u (by rw [hG1, hGo x hx hm]; exact hu)
    · obtain ⟨z1, z2, _⟩ := hj1 i j hij
      rw [r2hi i j hij]
      refine fnone _ (rh1.sep j z2) (fun ⟨j', a, b, c, d⟩ => ?_)
      have := rh1.inj j' j b z2 d
      subst this
      exact c (List.mem_iff_getElem?.mpr ⟨i, hij⟩)
  · rcases split2 x hx with hx | ⟨i, j, rfl, hij⟩ <;> rcases split2 y hy with hy | ⟨i', j', rfl, hij'⟩
    · rw [r2lo x hx, r2lo y hy] at ee; exact rh.inj x y hx hy ee
    · rw [r2lo x hx, r2hi i' j' hij'] at ee
      obtain ⟨z1, z2, _⟩ := hj1 i' j' hij'
      exact absurd ee.symm (hapart x hx j' z1 z2)
    · rw [r2lo y hy, r2hi i j hij] at ee
      obtain ⟨z1, z2, _⟩ := hj1 i j hij
      exact absurd ee (hapart y hy j z1 z2)
    · rw [r2hi i j hij, r2hi i' j' hij'] at ee
      obtain ⟨_, z2, _⟩ := hj1 i j hij
      obtain ⟨_, z2', _⟩ := hj1 i' j' hij'
      have := rh1.inj j j' z2 z2' ee
      subst this
      rw [Xy hjd hij hij']
  · have hx' : x < R2.N := by
      have := (List.getElem?_eq_some_iff.mp hx).1
      rw [List.length_append, Q1, ← (Qt e11).1, ← rh.len] at this
      exact this
    rcases split2 x hx' with hn | ⟨i, j, rfl, hij⟩
    · rw [List.getElem?_append_left (by rw [Q1, ← rh.len]; exact hn)] at hx
      rw [r2lo x hn]
      by_cases hm : x ∈ ns
      · obtain ⟨i, hi⟩ := hmem x hm
        obtain ⟨z1, z2⟩ := hρ1 i x hi
        have hil := (List.getElem?_eq_some_iff.mp hi).1
        rw [Vl ns os h i x hd (by rw [← (Qt e9).1, List.length_range]) hi (by rw [← rh.len]; exact hn)] at hx
        obtain ⟨u, y1, y2⟩ := (Qt e9).2 i i (by rw [List.getElem?_range hil])
        rw [hx] at y1; cases y1
        obtain ⟨o', y3, y4⟩ := Option.bind_eq_some_iff.mp y2
        rw [← z2]
        exact X3 f1 (hr 3) y4 (rh1.obj i o' y3)
      · rw [Ji ns os h x hm] at hx
        obtain ⟨_, u, _, hu⟩ := rh.there hn
        have hu1 : H1 (R.ρ x) = some u := rh1.gsub _ u (by rw [hG1, hGo x hn hm]; exact hu)
        have := rh.obj x o hx
        rw [hu] at this
        rw [hu1]
        exact this.mono hx2
    · obtain ⟨z1, z2, o', u, y1, y2, y3⟩ := hj1 i j hij
      rw [List.getElem?_append_right (by rw [Q1, ← rh.len]; omega), Q1, ← rh.len, Nat.add_sub_cancel_left, y1] at hx
      cases hx
      rw [r2hi i j hij]
      exact X3 f1 (hr 3) y3 (rh1.obj j o' y2)
  · exact rh1.gsub a o (by rw [hG1]; exact hGs a o ha)
  · rcases split2 x hx with hx | ⟨i, j, rfl, hij⟩
    · rw [r2lo x hx]; exact rh.gsep x hx
    · rw [r2hi i j hij]
      obtain ⟨_, z2, _⟩ := hj1 i j hij
      cases z : R2.G (R1.ρ j) with
      | none => rfl
      | some u =>
        have z3 := rh1.gsep j z2
        rw [hG1, hGs _ u z] at z3; cases z3
  · have hg : R1.G a = some o := by rw [hG1]; exact hGs a o ha
    refine fnone a (rh1.gf a o hg) (fun ⟨j, _, b, _, d⟩ => ?_)
    have z3 := rh1.gsep j b
    rw [d, hg] at z3; cases z3
theorem Cal.box {P : Program} {w : World} {mg : Str → Option Value} {base : Heap} {x : Str} {ps : List Str} {k : Nat} {g : FM} (fr : W → List Nat) (C : Cal P w K mg base k x ps g) : Cal P w K mg base k x ps (Mi.box fr g) :=
  C.imp fun _ _ _ _ q => GR q
end
noncomputable def frN : W → List Nat := fun _ => []
noncomputable def frR : W → List Nat
  | .ref j => [j]
  | _ => []
end Mi

namespace Mi
open PySem PySem.Spec PyProof.Rows L2
noncomputable def YS : List Nat → List W → MSt → Option MSt
  | [], [], σ => some σ
  | i :: is, w :: ws, σ => YS is ws (σ.set i (some w))
  | _, _, _ => none
noncomputable def YM (is : List Nat) : MG := fun w σ _ => match w with | .tup ws => YS is ws σ | _ => none
noncomputable def KC : List Nat → TGs
  | [] => Qbr
  | i :: is => Gj (Uj i) (KC is)
theorem Wt {X : Cx} : PGs X [] (KC []) := WU
theorem Xm {X : Cx} {i : Nat} {x : Str} {pos : Pos} {es : List Expr} {is : List Nat} (hN : X.N.Nodup) (hi : X.N[i]? = some x) (hx : Loc X.env.scope x) (h : PGs X es (KC is)) (hf : X.fn x = true ∨ X.env.scope.names.lookup x = some .local)
    : PGs X (.Name x pos :: es) (KC (i :: is)) := Wo (K4 hN hi hx hf) h
theorem Kg {K : PySem.W.Frag} {R : Rn} {H : Hp} {C : L2.St → Hp → Prop} : ∀ {is : List Nat} {ws : List W} {xs : List V} {σi σ1 : MSt} {σ : L2.St}, YS is ws σi = some σ1 → Rws K R ws xs → Rst K R σi σ → (∀ σ', Rst K R σ1 σ' → C σ' H) → KC is xs σ H C
  | [], [], xs, σi, σ1, σ, e, r, s, k => by
    cases e
    rw [Rws.nil_iff] at r
    exact ⟨r, k σ s⟩
  | i :: is, w :: ws, xs, σi, σ1, σ, e, r, s, k => by
    rw [Rws.cons_iff] at r
    obtain ⟨v, vs, rfl, r1, r2⟩ := r
    exact ⟨v, vs, rfl, Kg (is := is) e r2 (s.set r1) k⟩
  | [], _ :: _, _, _, _, _, e, _, _, _ => by cases e
  | _ :: _, [], _, _, _, _, e, _, _, _ => by cases e
theorem V1 : ∀ {is : List Nat} {ws : List W} {σ σ1 : MSt}, YS is ws σ = some σ1 → ws.length = is.length
  | [], [], _, _, _ => rfl
  | i :: is, w :: ws, σ, σ1, e => by
    have := V1 (is := is) (ws := ws) e
    simp [this]
  | [], _ :: _, _, _, e => by cases e
  | _ :: _, [], _, _, e => by cases e
theorem Wz {X : Cx} {es : List Expr} {is : List Nat} {k : Nat} {pos : Pos} (hc : X.calm = true) (h : PGs X es (KC is)) (hn : (assignEach es X.env).length = is.length) (hs : (assignEach es X.env).findIdx? (·.1) = none) : PMG X (.Tuple es k pos) (YM is) :=
  WN (GC hc h hn hs) fun v σ H C ⟨R, σi, h, w, σ1, rh, st, rw, e, q⟩ => by
    unfold YM at e
    split at e
    · rename_i ws
      obtain ⟨ad, xs, rfl, q1, r1⟩ := rh.tupAt rw
      exact ⟨ad, xs, rfl, q1, by rw [← r1.length]; exact V1 e, Kg e r1 st fun σ' s' => q R H σ' (Ext.refl _) rh s'⟩
    · cases e
noncomputable def Qda (ws : List W) (h : MH) : Option (W × MH) := match ws with
  | [.int i, .int j] => some (.int (if j > i then j else i), h)
  | _ => none
section
variable {X : Cx}
noncomputable def rep (x : Str) (n : Int) : Str := ⟨((List.replicate n.toNat x.cps.toList).flatten).toArray⟩
theorem Xf : ∀ (l : List (Array Nat)) (a : Array Nat), l.foldl (· ++ ·) a = (a.toList ++ (l.map Array.toList).flatten).toArray
  | [], a => by simp
  | b :: l, a => by rw [List.foldl_cons, Xf l]; simp
theorem WH (x : Str) (n : Int) : (⟨(List.replicate n.toNat x.cps).foldl (· ++ ·) #[]⟩ : Str) = rep x n := by
  unfold rep
  rw [Xf]
  simp
theorem YR (x : Str) {n : Int} (h : n < 1) : Str.empty = rep x n := by
  unfold rep
  rw [show n.toNat = 0 by omega]; rfl
theorem WV (x : Str) : x = rep x 1 := by
  unfold rep
  simp
theorem UL {x : Str} (n : Int) (h : (x.length == 0) = true) : x = rep x n := by
  unfold rep
  have : x.cps = #[] := by
    have : x.cps.size = 0 := by simpa [Str.length] using h
    exact Array.eq_empty_of_size_eq_zero this
  obtain ⟨c⟩ := x
  simp at this
  subst this
  simp
noncomputable def VY (a b : W) (h : MH) : Option (W × MH) := match a, b with
  | .str x, .int n => if n < 1000 ∧ -1000 < n ∧ x.length < 1000 then some (.str (rep x n), h) else none
  | a, b => Gs a b h
theorem WW : OpR X (binaryOp .Mult) (fun x y H Q => ∃ z n, x = .str z ∧ y = .int n ∧ (n < 1000 ∧ -1000 < n ∧ z.length < 1000) ∧ Q (.str (rep z n)) H) := by
  intro pins s σ H x y v u Q I rx ry ⟨z, n, e1, e2, ⟨h1, h2, h3⟩, q⟩
  subst e1 e2
  obtain ⟨t, rfl⟩ := rx
  obtain ⟨t', rfl⟩ := ry
  have hm : z.length * n.toNat < 1000000 := by
    calc z.length * n.toNat ≤ 999 * 999 := Nat.mul_le_mul (by omega) (by omega)
      _ < 1000000 := by decide
  refine PySem.P.mul_str (by rw [decide_eq_false (by omega), decide_eq_false (by omega)]; rfl) (fun a _ => ?_) (fun a _ => ?_) ?_
  · have : (2 ^ 63 - 1) / n ≥ 1000 := by
      rw [ge_iff_le, Int.le_ediv_iff_mul_le (by omega)]; omega
    omega
  · unfold Builtin.Str.tooLong
    exact decide_eq_false (by show ¬ _; have : sizeLine = 16777216 := by decide
                              omega)
  · have done : ∀ (y : Str) (tk : Tok) (s' : Shared), y = rep z n → Inv X pins σ H s' → EP X pins σ Q (.str y tk) s' := fun y tk s' ey I' => ⟨.str y, H, I', ⟨_, rfl⟩, by rw [ey]; exact q⟩
    split
    · rename_i hn
      exact ⟨by decide, done _ _ _ (YR z hn) (I.tok _)⟩
    · split
      · rename_i hn ho
        rw [Bool.or_eq_true] at ho
        refine done _ _ _ ?_ I
        rcases ho with ho | ho
        · have : n = 1 := by simpa using ho
          subst this; exact WV z
        · exact UL n ho
      · refine ⟨?_, done _ _ _ (WH z n) (I.tok _)⟩
        rw [WH]
        have hl : (rep z n).length = n.toNat * z.length := by
          unfold rep Str.length
          simp
        rw [hl, Nat.mul_comm]
        have : sizeLine = 16777216 := by decide
        omega
theorem VE : OpR X (binaryOp .Mult) (F2 X.K VY) := by
  intro pins s σ H x y v u Q I rx ry q
  obtain ⟨R, h, a, b, w, h', rh, ra, rb, e, k⟩ := q
  unfold VY at e
  split at e
  · split at e
    · rename_i hl
      cases e
      exact WW pins s σ H x y v u Q I rx ry ⟨_, _, ra.str_eq, rb.int_eq, hl, k R H _ (Ext.refl _) rh (Rw.str _)⟩
    · cases e
  · exact Uk pins s σ H x y v u Q I rx ry ⟨R, h, a, b, w, h', rh, ra, rb, e, k⟩
end
section
variable {X : Cx} {elt tg iter c : Expr} {scope : Scope} {pos pos' spos : Pos} {cl : List (Str × Addr)} {Nb : List Str} {cp : List (Option Nat)} {mi : MI} {b : MG} {mt : MT} {me m : ME} {fin : List W → MH → Option (W × MH)} {i : Nat} {x : Str} {e : Expr}
end
end Mi

namespace Mi
open PySem PySem.Spec PyProof.Rows L2
set_option checkBinderAnnotations false in
noncomputable def ob {α β : Type} [f : α → Option β] (x : Option α) : Option β := x.bind f
set_option checkBinderAnnotations false in
noncomputable def om {α β : Type} [f : α → β] (x : Option α) : Option β := x.map f
@[simp] theorem Qbi {α β : Type} {a : α} {f : α → Option β} : @ob _ _ f (some a) = f a := id rfl
@[simp] theorem QaK {α β : Type} {a : α} {f : α → β} : @om _ _ f (some a) = some (f a) := id rfl
noncomputable def Qa0 (b : SM) : MF → Option MF
  | .nx σ h => b σ h
  | r => some r
section
variable {σ σ' : MSt} {h h' : MH} {a b : SM} {m ma mb mc : ME} {t u : MT} {ms : MA} {w x y : W} {ws : List W}
@[simp] theorem Qbg : Qa0 b (.nx σ h) = b σ h := id rfl
@[simp] theorem Qba : Qa0 b (.rt w h) = some (.rt w h) := id rfl
@[simp] theorem Qcy : Zw a b σ h = @ob _ _ (Qa0 b) (a σ h) := by
  unfold Zw
  refine congrArg (fun f_ => @ob _ _ f_ (a σ h)) (funext fun r => ?_)
  cases r <;> rfl
@[simp] theorem Qbz : Jb σ h = some (.nx σ h) := id rfl
@[simp] theorem Qb2 : VT m σ h = @om _ _ (fun p => .rt p.1 p.2) (m σ h) := id rfl
noncomputable def onB (a b : SM) (σ : MSt) (p : Bool × MH) : Option MF := if p.1 = true then a σ p.2 else b σ p.2
@[simp] theorem Qaq (c : Bool) : onB a b σ (c, h) = if c = true then a σ h else b σ h := id rfl
@[simp] theorem Qb6 : XC t a b σ h = @ob _ _ (onB a b σ) (t σ h) := by
  unfold XC
  refine congrArg (fun f_ => @ob _ _ f_ (t σ h)) (funext fun p => ?_)
  obtain ⟨c, h⟩ := p
  cases c <;> rfl
@[simp] theorem Qbv : ZO m σ h = @om _ _ (fun p => .nx σ p.2) (m σ h) := id rfl
@[simp 500] theorem QcU {i : Nat} : J5 i m σ h = @om _ _ (fun p => .nx (σ.set i (some p.1)) p.2) (m σ h) := id rfl
@[simp 1100] theorem Qb7 {v0 v1 x : Option W} {r : MSt} : List.set (v0 :: v1 :: r) 1 x = v0 :: x :: r := id rfl
@[simp 1100] theorem QcP {v0 v1 v2 x : Option W} {r : MSt} : List.set (v0 :: v1 :: v2 :: r) 2 x = v0 :: v1 :: x :: r := id rfl
@[simp 1100] theorem QcN {v0 v1 v2 v3 x : Option W} {r : MSt} : List.set (v0 :: v1 :: v2 :: v3 :: r) 3 x = v0 :: v1 :: v2 :: x :: r := id rfl
@[simp 1100] theorem QcC {v0 v1 v2 v3 v4 x : Option W} {r : MSt} : List.set (v0 :: v1 :: v2 :: v3 :: v4 :: r) 4 x = v0 :: v1 :: v2 :: v3 :: x :: r := id rfl
@[simp 1100] theorem QcJ {v0 v1 v2 v3 v4 v5 x : Option W} {r : MSt} : List.set (v0 :: v1 :: v2 :: v3 :: v4 :: v5 :: r) 5 x = v0 :: v1 :: v2 :: v3 :: v4 :: x :: r := id rfl
@[simp 1100] theorem QcW {v0 v1 v2 v3 v4 v5 v6 x : Option W} {r : MSt} : List.set (v0 :: v1 :: v2 :: v3 :: v4 :: v5 :: v6 :: r) 6 x = v0 :: v1 :: v2 :: v3 :: v4 :: v5 :: x :: r := id rfl
@[simp] theorem QbL {o : W} {r : MSt} : Qg 0 (some o :: r) h = some (o, h) := id rfl
@[simp] theorem QbM {v0 : Option W} {o : W} {r : MSt} : Qg 1 (v0 :: some o :: r) h = some (o, h) := id rfl
@[simp] theorem Qbo {v0 v1 : Option W} {o : W} {r : MSt} : Qg 2 (v0 :: v1 :: some o :: r) h = some (o, h) := id rfl
@[simp] theorem Qbw {v0 v1 v2 : Option W} {o : W} {r : MSt} : Qg 3 (v0 :: v1 :: v2 :: some o :: r) h = some (o, h) := id rfl
@[simp] theorem QbA {v0 v1 v2 v3 : Option W} {o : W} {r : MSt} : Qg 4 (v0 :: v1 :: v2 :: v3 :: some o :: r) h = some (o, h) := id rfl
@[simp] theorem Qbu {v0 v1 v2 v3 v4 : Option W} {o : W} {r : MSt} : Qg 5 (v0 :: v1 :: v2 :: v3 :: v4 :: some o :: r) h = some (o, h) := id rfl
@[simp] theorem QbT {v0 v1 v2 v3 v4 v5 : Option W} {o : W} {r : MSt} : Qg 6 (v0 :: v1 :: v2 :: v3 :: v4 :: v5 :: some o :: r) h = some (o, h) := id rfl
@[simp] theorem s_c : mC w σ h = some (w, h) := id rfl
@[simp 500] theorem Qcc {f : W → W → MH → Option (W × MH)} : Qo f ma mb σ h = @ob _ _ (fun p => @ob _ _ (fun q => f p.1 q.1 q.2) (mb σ p.2)) (ma σ h) := id rfl
@[simp] theorem Qc2 {f : List W → MH → Option (W × MH)} : mFn f ms σ h = @ob _ _ (fun p => f p.1 p.2) (ms σ h) := id rfl
@[simp] theorem QbF {n : Nat} {g : FM} : Qw n g ms σ h = @ob _ _ (fun p => if p.1.length = n then g p.1 p.2 else none) (ms σ h) := id rfl
@[simp] theorem Qct : Qn σ h = some ([], h) := id rfl
@[simp 600] theorem Qbt {f : W → W → MH → Option (W × MH)} : Qo f ma (mC w) σ h = @ob _ _ (fun p => f p.1 w p.2) (ma σ h) := id rfl
@[simp 600] theorem Qbk : Qb (mC w) ms σ h = @ob _ _ (fun q => some (w :: q.1, q.2)) (ms σ h) := id rfl
@[simp 610] theorem Qa2 : Qb m Qn σ h = @ob _ _ (fun p => some ([p.1], p.2)) (m σ h) := id rfl
@[simp 620] theorem Qao : Qb (mC w) Qn σ h = some ([w], h) := id rfl
@[simp 500] theorem QbN : Qb m ms σ h = @ob _ _ (fun p => @ob _ _ (fun q => some (p.1 :: q.1, q.2)) (ms σ p.2)) (m σ h) := id rfl
noncomputable def asB (p : W × MH) : Option (Bool × MH) := match p.1 with | .bl b => some (b, p.2) | _ => none
@[simp] theorem QbC (c : Bool) : asB (.bl c, h) = some (c, h) := id rfl
@[simp 500] theorem QbX : QV m σ h = @ob _ _ asB (m σ h) := id rfl
noncomputable def Gd (u : MT) (σ : MSt) (p : Bool × MH) : Option (Bool × MH) := if p.1 = true then u σ p.2 else some (false, p.2)
noncomputable def Qbs (u : MT) (σ : MSt) (p : Bool × MH) : Option (Bool × MH) := if p.1 = true then some (true, p.2) else u σ p.2
@[simp] theorem G8 (c : Bool) : Gd u σ (c, h) = if c = true then u σ h else some (false, h) := id rfl
@[simp] theorem Qal (c : Bool) : Qbs u σ (c, h) = if c = true then some (true, h) else u σ h := id rfl
@[simp 500] theorem QbB : KH t u σ h = @ob _ _ (Gd u σ) (t σ h) := by
  unfold KH
  refine congrArg (fun f_ => @ob _ _ f_ (t σ h)) (funext fun p => ?_)
  obtain ⟨c, h⟩ := p
  cases c <;> rfl
@[simp 500] theorem Qb0 : Ge t u σ h = @ob _ _ (Qbs u σ) (t σ h) := by
  unfold Ge
  refine congrArg (fun f_ => @ob _ _ f_ (t σ h)) (funext fun p => ?_)
  obtain ⟨c, h⟩ := p
  cases c <;> rfl
@[simp] theorem Qc1 {T : String} {f : W → List W → MH → Option (W × MH)} : mMt T f m ms σ h = @ob _ _ (fun p => if tyW p.2 T p.1 = true then @ob _ _ (fun q => f p.1 q.1 q.2) (ms σ p.2) else none) (m σ h) := id rfl
end
section
variable {h : MH} {i j : Int} {x y : Str} {ws us : List W} {w : W}
@[simp] theorem QcG : JA (.int i) (.int j) h = some (.int (i + j), h) := id rfl
@[simp] theorem Qc0 : wLt (.int i) (.int j) h = some (.bl (decide (i < j)), h) := id rfl
@[simp] theorem Qdd : wGt (.int i) (.int j) h = some (.bl (decide (j < i)), h) := id rfl
@[simp] theorem QcK (c : 0 < j) : JN (.int i) (.int j) h = some (.int (i % j), h) := W7 c
@[simp] theorem Qcz (c : 0 < j) (c' : j < 1073741824) : XH (.int i) (.int j) h = some (.int (i / j), h) := W8 ⟨c, c'⟩
@[simp] theorem QbV (c : -18446744073709551616 < j) (c' : j < 18446744073709551616) : VY (.int i) (.int j) h = some (.int (i * j), h) := Uw (.inr ⟨c, c'⟩)
@[simp] theorem QcF (c : 0 ≤ j) (c' : j ≤ 1000000) (c'' : i.natAbs < 18446744073709551616) : UY (.int i) (.int j) h = some (.int (i ^ j.toNat), h) := Ud ⟨c, c', c''⟩
@[simp] theorem QcR : Z8 ws h = if ws.length ≤ sizeLine then some (.tup ws, h) else none := id rfl
@[simp] theorem Qcu : J8 ws h = if ws.length ≤ sizeLine then some (.lst ws, h) else none := id rfl
@[simp] theorem QcE : KK ws h = if ws.length ≤ sizeLine then some (.ref h.length, h ++ [.lst ws]) else none := id rfl
@[simp] theorem QcO : wIx (.tup ws) (.int i) h = @om _ _ (fun w => (w, h)) (atI ws i) := id rfl
@[simp] theorem Qcb : wIx (.lst ws) (.int i) h = @om _ _ (fun w => (w, h)) (atI ws i) := id rfl
@[simp] theorem Qcw : wIx (.frz ws) (.int i) h = @om _ _ (fun w => (w, h)) (atI ws i) := id rfl
@[simp] theorem Qcd {n : Nat} : wIx (.ref n) (.int i) h = @ob _ _ (fun (ws : List W) => @om _ _ (fun w => (w, h)) (atI ws i)) (match h[n]? with | some (.lst ws) => some ws | _ => none) := id rfl
@[simp] theorem QbK : KW [.tup ws] h = some (.int ws.length, h) := id rfl
@[simp] theorem QbD : KW [.frz ws] h = some (.int ws.length, h) := id rfl
theorem Zu {α : Type} {xs : List α} {n : Nat} : atI xs (n : Int) = xs[n]? := by
  cases e : xs[n]? with
  | some x => exact Ut e
  | none =>
    unfold atI ixN
    have : xs.length ≤ n := List.getElem?_eq_none_iff.mp e
    rw [if_pos (by omega)]
    rw [if_neg (by omega)]
    rfl
@[simp] theorem Qc4 {α : Type} {xs : List α} : atI xs 0 = xs[0]? := Zu (n := 0)
@[simp] theorem Qc9 {α : Type} {xs : List α} : atI xs 1 = xs[1]? := Zu (n := 1)
noncomputable def Qcn (o i v : W) (σ : MSt) (h : MH) : Option MF := match o, i with
  | .ref n, .int k => match h[n]? with
    | some (.lst xs) => @om _ _ (fun j => .nx σ (h.set n (.lst (xs.set j v)))) (ixN xs.length k)
    | _ => none
  | _, _ => none
@[simp] theorem QbR {w : W} : Qah (some (.rt w h)) = some (w, h) := id rfl
@[simp] theorem QbW {σ : MSt} : Qah (some (.nx σ h)) = some (.non, h) := id rfl
@[simp] theorem Qak {n : Nat} {w : W} : Zy (.ref n) [w] h = match h[n]? with | some (.lst xs) => if xs.length < sizeLine then some (.non, h.set n (.lst (xs ++ [w]))) else none | _ => none := id rfl
@[simp] theorem Qap {n : Nat} {w : W} : Jp (.ref n) [w] h = match h[n]? with | some (.lst xs) => @ob _ _ (fun ys => if xs.length + ys.length ≤ sizeLine then some (.non, h.set n (.lst (xs ++ ys))) else none) (loW h w) | _ => none := id rfl
@[simp] theorem QcA : loW h (.lst ws) = some ws := id rfl
@[simp] theorem Qbl {n : Nat} : loW h (.ref n) = match h[n]? with | some (.lst ws) => some ws | _ => none := id rfl
@[simp] theorem QcM {n : Nat} {T : String} : tyW h T (.ref n) = match h[n]? with | some (.lst _) => T == "list" | some (.dic _) => T == "dict" | some (.dct _) => T == "dict" | none => false := id rfl
@[simp] theorem Qan : JP [.lst ws] h = some (.tup ws, h) := id rfl
@[simp] theorem Qae {n : Nat} : JP [.ref n] h = @om _ _ (fun (ws : List W) => (.tup ws, h)) (match h[n]? with | some (.lst ws) => some ws | _ => none) := id rfl
@[simp] theorem Qc6 {ma : ME} {ml mh : MOp} {σ : MSt} : mSl ma ml mh σ h = @ob _ _ (fun p => @ob _ _ (fun q => @ob _ _ (fun r => wSl p.1 q.1 r.1 r.2) (mh σ q.2)) (ml σ p.2)) (ma σ h) := id rfl
@[simp] theorem Qde {σ : MSt} : UW σ h = some (none, h) := id rfl
noncomputable def asI (p : W × MH) : Option (Option Int × MH) := match p.1 with | .int i => some (some i, p.2) | _ => none
@[simp] theorem Qbc : asI (.int i, h) = some (some i, h) := id rfl
@[simp] theorem Qc5 {m : ME} {σ : MSt} : W2 m σ h = @ob _ _ asI (m σ h) := id rfl
@[simp] theorem QcT {lo hi : Option Int} : wSl (.tup ws) lo hi h = some (.tup (YG ws lo hi), h) := id rfl
@[simp] theorem Qce {a : W} {T : String} : Wr [a, .ty T] h = if Vk T = true then @om _ _ (fun k => (.bl (ZT k T), h)) (Yj h a) else none := id rfl
@[simp] theorem QcI : Yj h (.tup ws) = some "tuple" := id rfl
@[simp] theorem QbZ {n : Nat} : Yj h (.ref n) = match h[n]? with | some (.lst _) => some "list" | some (.dic _) => some "dict" | some (.dct _) => some "dict" | none => none := id rfl
@[simp] theorem Qc8 : Vk "list" = true := by decide
@[simp] theorem Qc7 : Vk "tuple" = true := by decide
end
mutual
noncomputable def pln : W → Bool
  | .tup ws => Jo ws
  | .lst ws => Jo ws
  | .frz _ => false
  | .ref _ => false
  | .ty _ => false
  | _ => true
noncomputable def Jo : List W → Bool
  | [] => true
  | w :: ws => pln w && Jo ws
end
mutual
noncomputable def dep : W → Nat
  | .tup ws => Vb ws + 1
  | .lst ws => Vb ws + 1
  | _ => 1
noncomputable def Vb : List W → Nat
  | [] => 0
  | w :: ws => max (dep w) (Vb ws)
end
mutual
theorem Jf (h : MH) : ∀ (w : W) (n : Nat), pln w = true → dep w ≤ n → drf h n w = some w
  | .non, n + 1, _, _ => rfl
  | .bl _, n + 1, _, _ => rfl
  | .int _, n + 1, _, _ => rfl
  | .str _, n + 1, _, _ => rfl
  | .tup ws, n + 1, p, d => by
    unfold pln at p
    unfold dep at d
    show (QW (drf h n) ws).map W.tup = _
    rw [ZK h ws n p (by omega)]; rfl
  | .lst ws, n + 1, p, d => by
    unfold pln at p
    unfold dep at d
    show (QW (drf h n) ws).map W.lst = _
    rw [ZK h ws n p (by omega)]; rfl
  | .frz _, _, p, _ => by unfold pln at p; cases p
  | .ref _, _, p, _ => by unfold pln at p; cases p
  | .ty _, _, p, _ => by unfold pln at p; cases p
  | .non, 0, _, d => by unfold dep at d; omega
  | .bl _, 0, _, d => by unfold dep at d; omega
  | .int _, 0, _, d => by unfold dep at d; omega
  | .str _, 0, _, d => by unfold dep at d; omega
  | .tup _, 0, _, d => by unfold dep at d; omega
  | .lst _, 0, _, d => by unfold dep at d; omega
theorem ZK (h : MH) : ∀ (ws : List W) (n : Nat), Jo ws = true → Vb ws ≤ n → QW (drf h n) ws = some ws
  | [], _, _, _ => rfl
  | w :: ws, n, p, d => by
    unfold Jo at p
    unfold Vb at d
    rw [Bool.and_eq_true] at p
    rw [QW, Jf h w n p.1 (by omega), Option.bind_some, ZK h ws n p.2 (by omega)]; rfl
end
mutual
theorem Vr : ∀ (w : W), pln w = true → eqW w w = true
  | .non, _ => by unfold eqW; rfl
  | .bl _, _ => by unfold eqW; simp
  | .int _, _ => by unfold eqW; simp
  | .str _, _ => by unfold eqW; simp
  | .tup ws, p => by unfold pln at p; unfold eqW; exact JX ws p
  | .lst ws, p => by unfold pln at p; unfold eqW; exact JX ws p
  | .frz _, p => by unfold pln at p; cases p
  | .ref _, p => by unfold pln at p; cases p
  | .ty _, p => by unfold pln at p; cases p
theorem JX : ∀ (ws : List W), Jo ws = true → Vf ws ws = true
  | [], _ => by unfold Vf; rfl
  | w :: ws, p => by
    unfold Jo at p
    rw [Bool.and_eq_true] at p
    unfold Vf
    rw [Vr w p.1, JX ws p.2]; rfl
end
theorem Qb1 {a b : W} {h : MH} (pa : pln a = true) (pb : pln b = true) (da : dep a ≤ 40) (db : dep b ≤ 40) : wEq a b h = some (.bl (eqW a b), h) := by
  unfold wEq; rw [Jf h a 40 pa da, Jf h b 40 pb db]; rfl
@[simp] theorem Qav {i j : Int} {h : MH} : wEq (.int i) (.int j) h = some (.bl (i == j), h) := WS i j h
@[simp] theorem Qaw {x y : Str} {h : MH} : wEq (.str x) (.str y) h = some (.bl (x == y), h) := Ux x y h
mutual
theorem VJ : ∀ (w : W), pln w = true → pur w = true
  | .non, _ => rfl
  | .bl _, _ => rfl
  | .int _, _ => rfl
  | .str _, _ => rfl
  | .tup ws, p => by unfold pln at p; unfold pur; exact Zg ws p
  | .lst ws, p => by unfold pln at p; unfold pur; exact Zg ws p
  | .frz _, p => by unfold pln at p; cases p
  | .ref _, p => by unfold pln at p; cases p
  | .ty _, p => by unfold pln at p; cases p
theorem Zg : ∀ (ws : List W), Jo ws = true → ZB ws = true
  | [], _ => rfl
  | w :: ws, p => by
    unfold Jo at p
    rw [Bool.and_eq_true] at p
    unfold ZB
    rw [VJ w p.1, Zg ws p.2]; rfl
end
mutual
theorem YB (f : Nat → Option W) : ∀ (w : W), pur w = true → th f w = some w
  | .non, _ => rfl
  | .bl _, _ => rfl
  | .int _, _ => rfl
  | .str _, _ => rfl
  | .ty _, _ => rfl
  | .tup ws, p => by unfold pur at p; unfold th; rw [ZD f ws p]; rfl
  | .lst ws, p => by unfold pur at p; unfold th; rw [ZD f ws p]; rfl
  | .frz ws, p => by unfold pur at p; unfold th; rw [ZD f ws p]; rfl
  | .ref _, p => by unfold pur at p; cases p
theorem ZD (f : Nat → Option W) : ∀ (ws : List W), ZB ws = true → ths f ws = some ws
  | [], _ => rfl
  | w :: ws, p => by
    unfold ZB at p
    rw [Bool.and_eq_true] at p
    unfold ths
    rw [YB f w p.1, ZD f ws p.2]; rfl
end
theorem Z3 {m : FM} {ws : List W} {w : W} {g h : MH} (hp : ZB ws = true) (e : m ws [] = some (w, g)) (hw : pur w = true) : box frN m ws h = some (w, h) := by
  have hr : JK 0 ws = some (ws, []) := by
    generalize 0 = k
    clear e
    induction ws with
    | nil => rfl
    | cons a r ih =>
      unfold ZB at hp
      rw [Bool.and_eq_true] at hp
      have := ih hp.2
      cases a <;> first | (unfold pur at hp; cases hp.1; done) | (unfold JK; rw [if_pos hp.1, this]; rfl)
  unfold box
  rw [hr, Option.bind_some]
  unfold Ul
  rw [if_pos List.nodup_nil]
  simp only [QW, Option.bind_some, e, frN, List.length_nil, List.range_zero]
  rw [if_pos ⟨List.nodup_nil, by simp⟩, YB _ w hw]
  simp [Qz]
theorem Y6 {m : FM} {ws us : List W} {j : Nat} {g h : MH} (hp : ZB ws = true) (e : m ws [] = some (.ref j, g)) (hj : g[j]? = some (.lst us)) (hu : ZB us = true) : box frN m ws h = some (.lst us, h) := by
  have hr : JK 0 ws = some (ws, []) := by
    generalize 0 = k
    clear e
    induction ws with
    | nil => rfl
    | cons a r ih =>
      unfold ZB at hp
      rw [Bool.and_eq_true] at hp
      have := ih hp.2
      cases a <;> first | (unfold pur at hp; cases hp.1; done) | (unfold JK; rw [if_pos hp.1, this]; rfl)
  unfold box
  rw [hr, Option.bind_some]
  unfold Ul
  rw [if_pos List.nodup_nil]
  simp only [QW, Option.bind_some, e, frN, List.length_nil, List.range_zero]
  rw [if_pos ⟨List.nodup_nil, by simp⟩]
  have : th (res (VS [] [] h.length) g 3) (.ref j) = some (.lst us) := by
    unfold th res
    simp only [VS, List.getElem?_nil, List.findIdx?_nil, Option.map_none, hj]
    rw [ZD _ us hu]; rfl
  rw [this]
  simp [Qz]
theorem UR {m : FM} {ws : List W} {w : W} {o o' : MO} {n : Nat} {g h : MH} (hp : ZB ws = true) (hn : h[n]? = some o) (ho : UZ o = true) (e : m (.ref 0 :: ws) [o] = some (w, o' :: g)) (hw : pur w = true) (ho' : ∃ us, o' = .lst us ∧ ZB us = true) : box frN m (.ref n :: ws) h = some (w, h.set n o') := by
  obtain ⟨us, rfl, hus⟩ := ho'
  have hr : ∀ k, JK k ws = some (ws, []) := by
    clear e
    induction ws with
    | nil => intro k; rfl
    | cons a r ih =>
      intro k
      unfold ZB at hp
      rw [Bool.and_eq_true] at hp
      have := ih hp.2 k
      cases a <;> first | (unfold pur at hp; cases hp.1; done) | (unfold JK; rw [if_pos hp.1, this]; rfl)
  unfold box
  have hr' : JK 0 (.ref n :: ws) = some (.ref 0 :: ws, [n]) := by
    unfold JK
    rw [hr]; rfl
  rw [hr', Option.bind_some]
  unfold Ul
  rw [if_pos (by simp)]
  have hpk : U1 h n = some o := by unfold U1; rw [hn]; simp [ho]
  simp only [QW, hpk, Option.bind_some, Option.map_some, e, frN, List.length_singleton]
  rw [if_pos ⟨List.nodup_nil, by simp⟩, YB _ w hw]
  simp [Qz, List.range_succ, QW, thO, ZD _ us hus]
theorem Ue {m : FM} {args as : List W} {ns : List Nat} {os os' : List MO} {g h : MH} {w w' : W} (hr : JK 0 args = some (as, ns)) (hd : ns.Nodup) (ho : QW (U1 h) ns = some os) (e : m as os = some (w, os' ++ g)) (hl : os'.length = ns.length)
    (hos : ∀ o ∈ os', ∃ us, o = .lst us ∧ ZB us = true) (hw : th (res (VS ns [] h.length) (os' ++ g) 3) w = some w') : box frN m args h = some (w', Qz ns os' h) := by
  unfold box
  rw [hr, Option.bind_some]
  unfold Ul
  rw [if_pos hd, ho]
  simp only [Option.bind_some, e]
  rw [if_pos (show (frN w).Nodup ∧ ∀ j ∈ frN w, ns.length ≤ j from ⟨List.nodup_nil, fun j hj => by simp [frN] at hj⟩)]
  show (th (res (VS ns [] h.length) (os' ++ g) 3) w).bind _ = _
  rw [hw, Option.bind_some]
  show (QW (fun j => ((os' ++ g)[j]?).bind (thO (res (VS ns [] h.length) (os' ++ g) 3))) (List.range ns.length)).bind (fun os => (QW (fun j => ((os' ++ g)[j]?).bind (thO (res (VS ns [] h.length) (os' ++ g) 3))) []).map fun us => (w', Qz ns os h ++ us)) = _
  have : QW (fun j => ((os' ++ g)[j]?).bind (thO (res (VS ns [] h.length) (os' ++ g) 3))) (List.range ns.length) = some os' := by
    rw [← hl]
    have key : ∀ (k : Nat) (xs : List MO), (∀ i o, xs[i]? = some o → (os' ++ g)[k + i]? = some o) → (∀ o ∈ xs, ∃ us, o = .lst us ∧ ZB us = true) → QW (fun j => ((os' ++ g)[j]?).bind (thO (res (VS ns [] h.length) (os' ++ g) 3))) (List.range' k xs.length) = some xs := by
      intro k xs
      induction xs generalizing k with
      | nil => intro _ _; rfl
      | cons x xs ih =>
        intro h1 h2
        obtain ⟨us, hu, hp⟩ := h2 x List.mem_cons_self
        rw [List.length_cons, List.range'_succ]
        unfold QW
        have h0 := h1 0 x rfl
        rw [Nat.add_zero] at h0
        rw [h0, Option.bind_some, ih (k + 1) (fun i o hi => by have := h1 (i + 1) o (by simpa using hi); rw [show k + 1 + i = k + (i + 1) by omega]; exact this) fun o hx => h2 o (List.mem_cons_of_mem _ hx), hu]
        show ((ths _ us).map MO.lst).bind _ = _
        rw [ZD _ us hp]; rfl
    rw [List.range_eq_range']
    exact key 0 os' (fun i o hi => by rw [Nat.zero_add, List.getElem?_append_left (List.getElem?_eq_some_iff.mp hi).1]; exact hi) hos
  rw [this]
  simp [QW]
theorem Kj {fin : List W → MH → Option (W × MH)} {mi : MI} {cp : List (Option Nat)} {me : ME} {σ caps : MSt} {h : MH} {items : List W} (f : W → W) (hi : mi σ h = some (items, none, h)) (hc : ∃ o, UX cp σ = o :: caps) (he : ∀ w ∈ items, me (some w :: caps) h = some (f w, h)) (hl : items.length ≤ sizeLine) :
    Jh fin mi cp (Je 0) YJ me σ h = fin (items.map f) h := by
  obtain ⟨o, hc⟩ := hc
  unfold Jh
  rw [hi, Option.bind_some]
  simp only [hc]
  rw [Jr (p := fun _ => true) (f := f) items [] o (fun _ _ => rfl) (fun w hw _ => he w hw) (by simpa using hl), List.filter_eq_self.mpr (fun _ _ => rfl)]
  rfl
theorem Jg {items : List W} {b : MG} {body : SM} (P : Nat → MSt → MH → Prop) : ∀ (r : List W) (n : Nat) (σ : MSt) (h : MH), P n σ h →
    (∀ (j : Nat) (w : W), r[j]? = some w → ∀ σ h, P (n + j) σ h → ∃ σ1, b w σ h = some σ1 ∧ ∃ σ2 h2, (body σ1 h = some (.nx σ2 h2) ∨ body σ1 h = some (.ct σ2 h2)) ∧ P (n + j + 1) σ2 h2) →
    ∃ σ' h', ZY items none b body r σ h = some (.nx σ' h') ∧ P (n + r.length) σ' h'
  | [], n, σ, h, hp, _ => ⟨σ, h, JF, hp⟩
  | w :: r, n, σ, h, hp, hs => by
    obtain ⟨σ1, e1, σ2, h2, e2, p2⟩ := hs 0 w rfl σ h hp
    obtain ⟨σ', h', e3, p3⟩ := Jg (items := items) (b := b) (body := body) P r (n + 1) σ2 h2 p2 fun j x hx σ h hp => by
      have := hs (j + 1) x (by simpa using hx) σ h (by rw [show n + (j + 1) = n + 1 + j by omega]; exact hp)
      rw [show n + (j + 1) + 1 = n + 1 + j + 1 by omega] at this
      exact this
    refine ⟨σ', h', ?_, by rw [List.length_cons, show n + (r.length + 1) = n + 1 + r.length by omega]; exact p3⟩
    rw [ZY, if_pos (Zk _ _), e1, Option.bind_some]
    rcases e2 with e2 | e2 <;> rw [e2] <;> exact e3
noncomputable def eqS (y : Str) (p : W × MH) : Option (Bool × MH) := @ob _ _ asB (wEq p.1 (.str y) p.2)
noncomputable def eqN (j : Int) (p : W × MH) : Option (Bool × MH) := @ob _ _ asB (wEq p.1 (.int j) p.2)
@[simp 650] theorem QbE {ma : ME} {σ : MSt} {h : MH} {y : Str} : QV (Qo wEq ma (mC (.str y))) σ h = @ob _ _ (eqS y) (ma σ h) := by
  unfold QV Qo mC eqS ob
  cases ma σ h <;> rfl
@[simp 650] theorem Qbm {ma : ME} {σ : MSt} {h : MH} {j : Int} : QV (Qo wEq ma (mC (.int j))) σ h = @ob _ _ (eqN j) (ma σ h) := by
  unfold QV Qo mC eqN ob
  cases ma σ h <;> rfl
@[simp] theorem Qax {x y : Str} {h : MH} : eqS y (.str x, h) = some (x == y, h) := by unfold eqS; rw [Qaw]; rfl
@[simp] theorem QaH {i j : Int} {h : MH} : eqN j (.int i, h) = some (i == j, h) := by unfold eqN; rw [Qav]; rfl
end Mi

namespace Mi
open PySem PySem.Spec PyProof.Rows L2
noncomputable def Qbx (ws : List W) (h : MH) : Option (W × MH) := match ws with
  | [.tup ws] => some (.ref h.length, h ++ [.lst ws])
  | [a] => (lsW h a).map fun ws => (.ref h.length, h ++ [.lst ws])
  | _ => none
noncomputable def Qci (a : W) (ws : List W) (h : MH) : Option (W × MH) := match a, ws with
  | .ref n, [.int 0] => match h[n]? with | some (.lst (x :: xs)) => some (x, h.set n (.lst xs)) | _ => none
  | _, _ => none
section
variable {X : Cx}
end
end Mi
namespace Mi
open PySem PySem.Spec PyProof.Rows L2
end Mi
namespace Mi
open PySem PySem.Spec PyProof.Rows L2
section
open PySem.AutoSeq1
theorem Kq (l : Addr) (its : Array Value) (n : Nat) (b : Addr) (its2 : Array Value) (n2 : Nat) (o2 : Obj) (hc : o2.cls = .type "tuple") (hd : o2.data = .seq its2 n2) (hs0 : ¬(!its.isEmpty && Builtin.List.listTooLong (its.size + its2.size)) = true) (hs1 : its.size ≤ sizeLine) (hs2 : its.size + its2.size ≤ sizeLine + 1) :
    Meets (Builtin.«list.extend» ⟨[.ref l, .ref b], []⟩) (fun _ R s => s.heap.get? l = some { cls := .type "list", dict := none, data := .seq its n, slots := #[] } ∧ s.heap.get? b = some o2 ∧
      R (.ok (.ret Value.none)) { s with heap := s.heap.update l (Obj.mapSeq fun x => x ++ its2), toks := s.toks }) :=
  .of_wp fun prog w A R s h => by
    obtain ⟨c2, d2, dt2, sl2⟩ := o2
    subst hc hd
    obtain ⟨hp, g, d, tk, os⟩ := s
    obtain ⟨hl, hb, h⟩ := h
    have f1 := idx_int
    have f2 := AutoSeq1.sub_tuple_tuple
    have f3 := AutoSeq1.sub_list_list
    have f4 := AutoSeq1.sub_tuple_list
    have f5 := AutoSeq1.sub_list_tuple
    have hz' : (its ++ its2).size ≤ sizeLine + 1 := by rw [Array.size_append]; exact hs2
    wp_walk using (wpAny_updateSeq hl rfl (hz := hs1) (_hz' := hz')), wpAny_loadPart' hl, wpAny_loadPart' hb
    exact ⟨_, rfl, h⟩
end
section
variable {X : Cx}
theorem KF : MtM X "list.extend" (fun x vs H Q => ∃ l b xs zs, x = .ref l ∧ vs = [.ref b] ∧ H l = some (.lst xs) ∧ SqT X.K H b zs ∧ xs.length + zs.length ≤ sizeLine ∧ Q .non (upd H l (.lst (xs ++ zs)))) := by
  intro pins s σ H x vs v us Q I rx rv h
  obtain ⟨l, b, xs, zs, rfl, rfl, hH, hB, hz, q⟩ := h
  cases rx
  obtain ⟨u, rfl, ru⟩ := rv.one
  cases ru
  obtain ⟨z, its, n, r, hl, e⟩ := I.lstM hH
  obtain ⟨its2, r2, ⟨o2, e2, hc, n2, hd⟩, hl2⟩ := I.tuple hB
  have hlen := r2.length
  have hsz : its.toArray.size + its2.toArray.size ≤ sizeLine := by rw [List.size_toArray, List.size_toArray]; omega
  have hlong : ¬ (!its.toArray.isEmpty && Builtin.List.listTooLong (its.toArray.size + its2.toArray.size)) = true := by
    rw [X9 hsz, Bool.and_false]
    exact Bool.false_ne_true
  refine call_meets F.slot_list_extend ⟨_, e, rfl⟩ F.entry_list_extend (F.args_list_extend_2 _ _)
    (Kq l its.toArray n b its2.toArray n2 o2 hc hd hlong (by rw [List.size_toArray]; omega) (by omega)) ⟨e, e2, ?_⟩
  refine ⟨.non, _, I.lset (its' := its ++ its2) hH e (by simp) (r.append r2) ?_, rfl, q⟩
  rw [List.length_append]
  omega
noncomputable def JE (a : W) (ws : List W) (h : MH) : Option (W × MH) := match a, ws with
  | .ref n, [.tup ys] => match h[n]? with | some (.lst xs) => if xs.length + ys.length ≤ sizeLine then some (.non, h.set n (.lst (xs ++ ys))) else none | _ => none
  | _, _ => none
theorem XL : Qac X "list.extend" JE := by
  intro pins s σ H x xs v us Q I rx rv q
  refine KF pins s σ H x xs v us Q I rx rv ?_
  obtain ⟨R, h, a, ws, w, h', rh, ra, rws, e, k⟩ := q
  unfold JE at e
  split at e
  · rename_i n zs
    split at e
    · rename_i ys hn
      split at e
      · rename_i hl
        cases e
        obtain ⟨hlt, rfl, xv, h1, r1⟩ := rh.refAt ra hn
        obtain ⟨y, rfl, ry⟩ := Ky rws
        obtain ⟨bd, yv, rfl, h2, r2⟩ := rh.tupAt ry
        refine ⟨_, bd, xv, yv, rfl, rfl, h1, h2, by rw [← r1.length, ← r2.length]; exact hl, ?_⟩
        exact k R _ _ (Ext.refl _) (rh.put hlt ⟨_, rfl, Rws.append r1 r2⟩) Rw.non
      · cases e
    · cases e
  · cases e
end
end Mi

namespace L2
open PySem PySem.Spec PyProof.Rows
noncomputable def RawD (h : Heap) (d : Addr) (es : Array DictEntry) (ep : Nat) : Prop := ∃ o, h.get? d = some o ∧ o.ExactDict ∧ o.data = .dict es ep
theorem RawD.typeIs {s : Shared} {d : Addr} {es : Array DictEntry} {ep : Nat} (m : RawD s.heap d es ep) : s.TypeIs (.ref d) "dict" := let ⟨o, ho, hc, _⟩ := m; ⟨o, ho, hc.1⟩
theorem RawD.lt {h : Heap} {d : Addr} {es : Array DictEntry} {ep : Nat} (m : RawD h d es ep) : d < h.objs.size := let ⟨_, ho, _⟩ := m; Heap.lt_size ho
theorem RawD.at {h h' : Heap} {d : Addr} {es : Array DictEntry} {ep : Nat} (m : RawD h d es ep) (k : ∀ o, h.get? d = some o → h'.get? d = some o) : RawD h' d es ep := let ⟨o, ho, r⟩ := m; ⟨o, k o ho, r⟩
section
variable {prog : Program} {w : World} {A : Around} {E : Value → Shared → Prop} {s : Shared} {it d : Addr} {es : Array DictEntry} {i ep : Nat}
end
end L2

namespace Mi
open PySem PySem.Spec PyProof.Rows L2
section
variable {X : Cx} {pins : List (Addr × Obj)} {σ : L2.St} {H : Hp} {s : Shared}
end
section
variable {K : PySem.W.Frag} {R : Rn} {h : MH} {H : Hp}
end
noncomputable abbrev DctR (K : PySem.W.Frag) (R : Rn) : List (W × W) → List (Tr × Addr × V) → Prop := Paired fun p q => Rw K R p.1 (.ref q.2.1) ∧ nrm p.1 = some q.1 ∧ Rw K R p.2 q.2.2
section
variable {K : PySem.W.Frag} {R : Rn}
end
section
variable {X : Cx} {pins : List (Addr × Obj)} {σ : L2.St} {H : Hp} {s : Shared} {R : Rn} {h : MH}
end
section
variable {X : Cx} {o i e a b : Expr} {mo mi mv ma mb : ME} {pos pos' : Pos}
end
section
variable {prog : Program} {w : World} {A : Around} {E : Value → Shared → Prop} {s : Shared} {d a : Addr} {k : Tr} {xs : List (Tr × Addr × Value)}
end
section
variable {X : Cx}
end
end Mi

namespace L2
open PySem PySem.Spec PyProof.Rows
section
variable {X : Cx} {pins : List (Addr × Obj)} {σ : St} {H : Hp} {s : Shared} {h' : Heap} {t' : Nat} {ch : List Addr}
theorem Inv.turnedL {H' : Hp} (I : Inv X pins σ H s) (k : ∀ b o, b ∉ ch → s.heap.get? b = some o → h'.get? b = some o) (hf : ∀ b ∈ ch, KJ X pins H b) (hs : ∀ b u, H b = some u → H' b = some u) (hn : ∀ b o, s.heap.get? b = some o → H b = none → H' b = none)
    (new : ∀ b u, H b = none → H' b = some u → ObjOk X.prog X.w H' h' b u) : Inv X pins σ H' { s with heap := h', toks := t' } := by
  have nit : ∀ b u, H b = some u → b ∉ ch := fun b u e z => by rw [(hf b z).1] at e; cases e
  refine I.step (g' := s.gens) (d' := s.drawn) (ch := ch) (fun b hb => ⟨(hf b hb).2.2.2.1, (hf b hb).2.1, (hf b hb).2.2.2.2.1, (hf b hb).2.2.2.2.2⟩) (fun b o _ _ hc e _ => k b o hc e) (fun b o _ _ hc e _ => ⟨o.slots, k b o hc e⟩) (fun b o _ e n => hn b o e n)
    (fun b o hc e => ⟨o, k b o hc e⟩) (fun b xs e => hs b _ e) (fun b o u e => hs b _ e) (fun b ps e => ⟨#[], by rw [hs b _ e]; simp⟩) (fun m hm => ?_) (fun b u e => ?_) I.bare
  · obtain ⟨o, es, ep, ho, r⟩ := hm
    exact ⟨o, es, ep, k _ o (fun z => (hf _ z).2.1 rfl) ho, r⟩
  · cases q : H b with
    | none => exact new b u q e
    | some u' =>
      rw [hs b u' q] at e
      cases e
      refine (I.hok b _ q).stay (fun c v hc q' => k c v ?_ q') (fun c z => hs c _ z) fun c xs z => hs c _ z
      rcases hc with z | z
      · rw [z]; exact nit b _ q
      · exact nit c _ z
theorem Inv.turnedN {T : Addr} {xs : List V} (I : Inv X pins σ H s) (k : ∀ b o, b ∉ ch → s.heap.get? b = some o → h'.get? b = some o) (hf : ∀ b ∈ ch, KJ X pins H b) (hT : s.heap.objs.size ≤ T) (new : ObjOk X.prog X.w (upd H T (.tup xs)) h' T (.tup xs)) :
    Inv X pins σ (upd H T (.tup xs)) { s with heap := h', toks := t' } := by
  have hn := I.hok.fresh hT
  refine I.turnedL k hf (fun b u e => by rw [Qs (Ze e hn)]; exact e) (fun b o e n => by rw [Qs (fun z => by rw [z] at e; exact absurd (Heap.lt_size e) (Nat.not_lt.mpr hT))]; exact n) fun b u n e => ?_
  by_cases z : b = T
  · subst z; rw [Zc] at e; cases e; exact new
  · rw [Qs z, n] at e; cases e
end
end L2
namespace Mi
open PySem PySem.Spec PyProof.Rows L2
section
variable {K : PySem.W.Frag} {R : Rn}
end
section
variable {X : Cx} {tg a b : Expr} {ms : MA} {p pos tpos : Pos} {elts : List Expr} {kk : Nat}
end
end Mi

namespace Mi
open PySem PySem.Spec PyProof.Rows L2
section
variable {prog : Program} {w : World} {A : Around} {E : Value → Shared → Prop} {s : Shared}
end
section
variable {X : Cx} {k v : Expr} {mk mv : ME} {pos : Pos}
end
end Mi

namespace St
open PySem PySem.Spec PyProof.Rows
theorem J6 (t : SetTable) (n : Nat) : (t.orStandIn n).led = t.led ∧ (t.plain = false → (t.orStandIn n).plain = false) := by
  unfold SetTable.orStandIn
  split
  · exact ⟨rfl, id⟩
  · exact ⟨rfl, fun _ => rfl⟩
theorem XN (t : SetTable) (es : Array (Int × Value)) (g : Int) (x : Value) : (layNew t es g x).2.1.led = t.led ∧ (t.plain = false → (layNew t es g x).2.1.plain = false) := by
  unfold layNew
  split
  · exact J6 _ _
  · exact ⟨rfl, fun _ => rfl⟩
theorem YA {m f v : Nat} {l p : Bool} {hs : Array Int} {r : SetTable × Array Nat} (e : SetTable.laid m f v l p hs = some r) : r.1.led = l ∧ r.1.plain = p := by
  unfold SetTable.laid at e
  obtain ⟨o, _, e2⟩ := Option.bind_eq_some_iff.mp e
  cases e2
  exact ⟨rfl, rfl⟩
theorem Vq (t : SetTable) (es : Array (Int × Value)) (n : Nat) : (relayAll t es n).2.1.led = t.led ∧ (t.plain = false → (relayAll t es n).2.1.plain = false) := by
  unfold relayAll
  split
  · rename_i t' od e
    have hk := YA e
    dsimp only
    split
    · exact ⟨hk.1, fun hp => hk.2.trans hp⟩
    · exact ⟨rfl, fun _ => rfl⟩
  · exact ⟨rfl, fun _ => rfl⟩
section
variable {prog : Program} {w : World} {A : Around} {E : Value → Shared → Prop} {s : Shared}
noncomputable def SetL (prog : Program) (w : World) (h : Heap) (a : Addr) (ks : List Str) (led : Bool) : Prop :=
  ∃ o es ep t, h.get? a = some o ∧ o.ExactSet ∧ o.data = .set es ep t ∧ ElemsOf (strKind prog w) es.toList ∧ es.size < scanBound ∧ t.fits es.size = true ∧ t.led = led ∧ (es.size = 0 ∨ t.plain = false) ∧ ks.Nodup ∧ es.size = ks.length ∧ ∀ k, k ∈ ks ↔ ∃ e ∈ es.toList, (strKind prog w).is k e.2 = true
theorem SetL.at {h h' : Heap} {a : Addr} {ks : List Str} {led : Bool} (x : SetL prog w h a ks led) (e : ∀ o, h.get? a = some o → h'.get? a = some o) : SetL prog w h' a ks led := let ⟨o, es, ep, t, ho, r⟩ := x; ⟨o, es, ep, t, e _ ho, r⟩
theorem SetL.lt {h : Heap} {a : Addr} {ks : List Str} {led : Bool} (x : SetL prog w h a ks led) : a < h.objs.size := let ⟨_, _, _, _, ho, _⟩ := x; Heap.lt_size ho
theorem SetL.typeIs {a : Addr} {ks : List Str} {led : Bool} (x : SetL prog w s.heap a ks led) : s.TypeIs (.ref a) "set" := let ⟨o, _, _, _, ho, hx, _⟩ := x; ⟨o, ho, hx.1⟩
theorem Yl {h : Heap} {a : Addr} {o : Obj} {es es' : Array (Int × Value)} {ep : Nat} {t t' : SetTable} {ks : List Str} (ho : h.get? a = some o) (hx : o.ExactSet) (hd : o.data = .set es ep t) (h1 : ElemsOf (strKind prog w) es'.toList) (h2 : es'.size < scanBound) (h3 : t'.fits es'.size = true) (h5 : es'.size = 0 ∨ t'.plain = false) (h6 : ks.Nodup) (h7 : es'.size = ks.length) (h8 : ∀ k, k ∈ ks ↔ ∃ e ∈ es'.toList, (strKind prog w).is k e.2 = true) :
    (h.update a (Obj.putSet es' t')).get? a = some (Obj.putSet es' t' o) ∧ (Obj.putSet es' t' o).ExactSet ∧ (∃ ep', (Obj.putSet es' t' o).data = .set es' ep' t') ∧ SetL prog w (h.update a (Obj.putSet es' t')) a ks t'.led := by
  have g1 : (h.update a (Obj.putSet es' t')).get? a = some (Obj.putSet es' t' o) := Heap.get?_update_self _ ho (by rw [putSet_of es' t' hd]; rfl)
  have g2 : (Obj.putSet es' t' o).ExactSet := by rw [putSet_of es' t' hd]; exact hx
  have g3 : ∃ ep', (Obj.putSet es' t' o).data = .set es' ep' t' := by rw [putSet_of es' t' hd]; exact ⟨_, rfl⟩
  obtain ⟨ep', g4⟩ := g3
  exact ⟨g1, g2, ⟨ep', g4⟩, _, es', ep', t', g1, g2, g4, h1, h2, h3, rfl, h5, h6, h7, h8⟩
theorem WC (x : Str) (c : Tok) : (strKind prog w).is x (.str x c) = true := by
  show Value.isStrOf x (.str x c) = true
  simp [Value.isStrOf]
theorem Qb5 {a : Addr} {ks : List Str} {led : Bool} {x : Str} {c : Tok} {Q : Bool → Shared → Prop} (hS : SetL prog w s.heap a ks led) (room : ks.length + 1 < scanBound)
    (h : ∀ b h', Heap.SameBut a s.heap h' → SetL prog w h' a (if x ∈ ks then ks else ks ++ [x]) led → Q b { s with heap := h' }) :
    wpAny (model prog w) A (setAddHashed a (.str x c) ((strKind prog w).hash x)) Q E s := by
  obtain ⟨o, es, ep, t, ho, hx, hd, hel, hb, hf, hled, hpl, hnd, hn, hmem⟩ := hS
  have hk : (strKind prog w).is x (.str x c) = true := WC x c
  have hsc : (Value.str x c).scannable = true := rfl
  have quiet : ∀ (b : Bool) {s₁ : Shared} {Q₁ : Unit → Shared → Prop}, Q₁ () s₁ → wpAny (model prog w) A (match b with | true => rule "set.scan.the-table-gave-way" | false => pure ()) Q₁ E s₁ := fun b _ _ q => by cases b <;> first | exact wpAny_pure q | exact wpAny_rule q
  unfold setAddHashed setAddHashedIn
  refine wpAny_holding (wpAny_bind (wpAny_setState_of ho hd hf ?_))
  dsimp only
  rw [byScan_of hsc hb hel, if_pos rfl]
  unfold setAddByScan
  refine wpAny_bind (wpAny_bind (wpAny_rule (wpAny_bind (wpAny_setScan_of hk ho hd hf hel ?_))))
  cases hr : List.findIdx? (fun e => (strKind prog w).is x e.2) es.toList with
  | some j =>
    obtain ⟨hj, pj, _⟩ := List.findIdx?_eq_some_iff_getElem.mp hr
    have hin : x ∈ ks := (hmem x).mpr ⟨es.toList[j], List.getElem_mem hj, pj⟩
    refine wpAny_pure (wpAny_pure ?_)
    have q := h false s.heap (Heap.SameBut.refl a s.heap) ⟨o, es, ep, t, ho, hx, hd, hel, hb, hf, hled, hpl, by rw [if_pos hin]; exact hnd, by rw [if_pos hin]; exact hn, by rw [if_pos hin]; exact hmem⟩
    exact q
  | none =>
    have hin : x ∉ ks := fun hin => by
      obtain ⟨e, he, p⟩ := (hmem x).mp hin
      have := List.findIdx?_eq_none_iff.mp hr e he
      rw [p] at this; cases this
    rw [if_neg hin] at h
    have pm := layNew_perm t es ((strKind prog w).hash x) (.str x c)
    have ft := layNew_fits t es ((strKind prog w).hash x) (.str x c)
    have kp := XN t es ((strKind prog w).hash x) (.str x c)
    dsimp only
    generalize layNew t es ((strKind prog w).hash x) (.str x c) = L at pm ft kp ⊢
    obtain ⟨es1, t1, dum, gv⟩ := L
    dsimp only at pm ft kp ⊢
    rw [Array.toList_push] at pm
    have el1 : ElemsOf (strKind prog w) es1.toList := (hel.push hk hsc).perm pm
    have sz1 : es1.size = (ks ++ [x]).length := by rw [← Array.length_toList, pm.length_eq, List.length_append, Array.length_toList, List.length_append, hn]; rfl
    have b1 : es1.size < scanBound := by rw [sz1, List.length_append, List.length_singleton]; exact room
    have nd1 : (ks ++ [x]).Nodup := by
      rw [List.nodup_append]
      exact ⟨hnd, by simp, fun u hu v hv e => hin (by rw [List.mem_singleton.mp hv] at e; rw [← e]; exact hu)⟩
    have mem1 : ∀ k, k ∈ ks ++ [x] ↔ ∃ e ∈ es1.toList, (strKind prog w).is k e.2 = true := fun k => by
      rw [List.mem_append, List.mem_singleton, hmem k]
      constructor
      · rintro (⟨e, he, p⟩ | rfl)
        · exact ⟨e, pm.mem_iff.mpr (List.mem_append_left _ he), p⟩
        · exact ⟨_, pm.mem_iff.mpr (List.mem_append_right _ (List.mem_singleton.mpr rfl)), hk⟩
      · rintro ⟨e, he, p⟩
        rcases List.mem_append.mp (pm.mem_iff.mp he) with q | q
        · exact .inl ⟨e, q, p⟩
        · rw [List.mem_singleton.mp q] at p
          exact .inr ((strKind prog w).inj _ _ _ p hk)
    -- the table is Yl, and laid anew where it is too full
    have fin : ∀ (t2 : SetTable), t2.fits es1.size = true → t2.led = led → t2.plain = false → wpAny (model prog w) A (do
        storeSet a es1 t2
        if (!dum && t2.tooFull) = true then do
            (match (relayAll t2 es1 (SetTable.grown es1.size)).2.2 with | true => rule "set.scan.the-table-gave-way" | false => pure ())
            storeSet a (relayAll t2 es1 (SetTable.grown es1.size)).1 (relayAll t2 es1 (SetTable.grown es1.size)).2.1
            pure (some true)
          else pure (some true)) (fun r s' => ∃ v, r = some v ∧ ∃ h', Heap.SameBut a s.heap h' ∧ SetL prog w h' a (ks ++ [x]) led ∧ s' = { s with heap := h' }) E s := by
      intro t2 f2 l2 p2
      refine wpAny_bind (wpAny_storeSet_of ho hd ?_ (fits_of_scanBound b1))
      obtain ⟨g1, g2, ⟨ep1, g3⟩, g4⟩ := Yl (prog := prog) (w := w) ho hx hd el1 b1 f2 (.inr p2) nd1 sz1 mem1
      rw [l2] at g4
      have sb := Heap.SameBut.update s.heap a (Obj.putSet es1 t2)
      split
      · have pm2 := relayAll_perm t2 es1 (SetTable.grown es1.size)
        have ft2 := relayAll_fits t2 es1 (SetTable.grown es1.size)
        have kp2 := Vq t2 es1 (SetTable.grown es1.size)
        generalize relayAll t2 es1 (SetTable.grown es1.size) = R at pm2 ft2 kp2 ⊢
        obtain ⟨es2, t3, gv2⟩ := R
        dsimp only at pm2 ft2 kp2 ⊢
        have sz2 : es2.size = es1.size := by rw [← Array.length_toList, pm2.length_eq, Array.length_toList]
        have b2 : es2.size < scanBound := by rw [sz2]; exact b1
        refine wpAny_bind (quiet _ (wpAny_bind (wpAny_storeSet_of g1 g3 (wpAny_pure ⟨true, rfl, _, sb.trans (Heap.SameBut.update _ a _), ?_, rfl⟩) (fits_of_scanBound b2))))
        obtain ⟨_, _, _, g5⟩ := Yl (prog := prog) (w := w) (ks := ks ++ [x]) g1 g2 g3 (el1.perm pm2) b2 ft2 (.inr (kp2.2 p2)) nd1 (sz2.trans sz1) (fun k => (mem1 k).trans ⟨fun ⟨e, he, q⟩ => ⟨e, pm2.mem_iff.mpr he, q⟩, fun ⟨e, he, q⟩ => ⟨e, pm2.mem_iff.mp he, q⟩⟩)
        rw [kp2.1, l2] at g5
        exact g5
      · exact wpAny_pure ⟨true, rfl, _, sb, g4, rfl⟩
    have out : ∀ r s', (∃ v, r = some v ∧ ∃ h', Heap.SameBut a s.heap h' ∧ SetL prog w h' a (ks ++ [x]) led ∧ s' = { s with heap := h' }) → wpAny (model prog w) A (match r with | some added => pure added | none => setAddHashedIn a (.str x c) ((strKind prog w).hash x) 99999) Q E s' := by
      rintro r s' ⟨v, rfl, h', q1, q2, rfl⟩
      exact wpAny_pure (h v h' q1 q2)
    refine wpAny_bind (quiet _ ?_)
    cases hp : t1.plain with
    | true =>
      rw [if_pos rfl, hashByValue_scannable 8 hsc]
      refine wpAny_bind (wpAny_pure ?_)
      exact wpAny_mono (fin { t1 with plain := false } (SetTable.fits_plain_off ft) (kp.1.trans hled) rfl) out fun _ _ q => q
    | false =>
      rw [if_neg (by simp)]
      refine wpAny_bind (wpAny_pure ?_)
      exact wpAny_mono (fin t1 ft (kp.1.trans hled) hp) out fun _ _ q => q
end
end St

namespace St
open PySem PySem.Spec PyProof.Rows
noncomputable def uniq (l : List Str) : List Str := l.foldl (fun u x => if x ∈ u then u else u ++ [x]) []
theorem uniq_snoc (l : List Str) (x : Str) : uniq (l ++ [x]) = if x ∈ uniq l then uniq l else uniq l ++ [x] := by unfold uniq; rw [List.foldl_append]; rfl
theorem uniq_len : ∀ (n : Nat) (l : List Str), l.length = n → (uniq l).length ≤ n := by
  intro n
  induction n with
  | zero => intro l h; rw [List.length_eq_zero_iff.mp h]; exact Nat.le_refl _
  | succ n ih =>
    intro l h
    obtain ⟨u, x, rfl⟩ : ∃ u x, l = u ++ [x] := ⟨l.dropLast, l.getLast (fun z => by rw [z] at h; cases h), (List.dropLast_concat_getLast _).symm⟩
    rw [uniq_snoc]
    have := ih u (by simp at h; exact h)
    split
    · omega
    · rw [List.length_append, List.length_singleton]; omega
theorem uniq_mem : ∀ (n : Nat) (l : List Str), l.length = n → ∀ y, y ∈ uniq l ↔ y ∈ l := by
  intro n
  induction n with
  | zero => intro l h y; rw [List.length_eq_zero_iff.mp h]; exact Iff.rfl
  | succ n ih =>
    intro l h y
    obtain ⟨u, x, rfl⟩ : ∃ u x, l = u ++ [x] := ⟨l.dropLast, l.getLast (fun z => by rw [z] at h; cases h), (List.dropLast_concat_getLast _).symm⟩
    have q := ih u (by simp at h; exact h)
    rw [uniq_snoc, List.mem_append, List.mem_singleton]
    split
    · rename_i hx
      rw [q y]
      exact ⟨.inl, fun z => z.elim id fun e => by rw [e]; exact (q x).mp hx⟩
    · rw [List.mem_append, List.mem_singleton, q y]
section
variable {prog : Program} {w : World} {A : Around} {R : Result → Shared → Prop} {I : Addr} {fp wr : List Addr} {G : Array GenState → Array GenState → Prop} {n : Nat} {P : Nat → Value → Prop} {St' : Nat → Shared → Prop}
theorem QaR (W : WalksS prog w A.in1 I fp wr G n P St') (S : Addr) (hSf : S ∉ fp) (led : Bool) (l : List Str) (hl : l.length = n) (hv : ∀ i v, P i v → ∃ x c, l[i]? = some x ∧ v = .str x c) (hb : n + 1 < scanBound) :
    ∀ (k i : Nat) (s : Shared), n - i = k → i ≤ n → St' i s → SetL prog w s.heap S (uniq (l.take i)) led →
      (∀ s', Moved (S :: wr) G s s' → SetL prog w s'.heap S (uniq l) led → R (.ok (.ret .none)) s') →
      codeAny (model prog w) A (.builtin "set.update.loop" ⟨[.ref S, .ref I], []⟩) R s := by
  have nw : S ∉ wr := fun z => hSf (W.sub _ z)
  have sub : ∀ b ∈ wr, b ∈ S :: wr := fun b z => List.mem_cons_of_mem _ z
  intro k
  induction k with
  | zero =>
    intro i s hk hi st hS hR
    obtain rfl : i = n := by omega
    refine codeAny_builtin F.entry_set_update_loop ?_
    rw [Around.under_plainId F.plain_set_update_loop _]
    show wpAny _ A.in1 (pyNext (.ref I) >>= _) _ _ s
    refine wpAny_bind (W.done s _ _ st fun s' hm => wpAny_pure (hR s' (hm.mono sub) ?_))
    rw [List.take_of_length_le (by omega)] at hS
    exact hS.at fun o e => hm.heap S _ nw e
  | succ k ih =>
    intro i s hk hi st hS hR
    have lt : i < n := by omega
    refine codeAny_builtin F.entry_set_update_loop ?_
    rw [Around.under_plainId F.plain_set_update_loop _]
    show wpAny _ A.in1 (pyNext (.ref I) >>= _) _ _ s
    refine wpAny_bind (W.item i s _ _ lt st fun v s' hP st' hm => ?_)
    obtain ⟨x, c, hx, rfl⟩ := hv i v hP
    have hS' : SetL prog w s'.heap S (uniq (l.take i)) led := hS.at fun o e => hm.heap S _ nw e
    show wpAny _ A.in1 (holding [Value.str x c] (setAdd S (.str x c)) >>= _) _ _ s'
    refine wpAny_bind (wpAny_holding ?_)
    unfold setAdd
    refine wpAny_holding (wpAny_bind ((strKind prog w).pyHash (k := x) (WC x c) ?_))
    have room : (uniq (l.take i)).length + 1 < scanBound := by
      have := uniq_len _ (l.take i) rfl
      rw [List.length_take] at this
      omega
    refine Qb5 (s := { s' with toks := s'.toks + 1 }) hS' room fun b h' sb hS2 => ?_
    have hS3 : SetL prog w h' S (uniq (l.take (i + 1))) led := by
      rw [List.take_add_one, hx, Option.toList_some, uniq_snoc]; exact hS2
    refine wpAny_pure ⟨plainId_quiet F.plain_set_update_loop _, ih (i + 1) _ (by omega) lt (W.frame _ s' _ _ st' (Nat.le_succ _) fun b z o e => ?_) hS3 fun s'' hm2 q => ?_⟩
    · exact (sb.2 b (fun e' : b = S => hSf (by rw [← e']; exact z))).trans e
    · refine hR s'' (Moved.trans W.gtrans ((hm.mono sub).then_heap (Nat.le_succ _) fun b o z e => ?_) hm2) q
      exact (sb.2 b (fun e' : b = S => z (by rw [e']; exact List.mem_cons_self))).trans e
end
end St

namespace St
open PySem PySem.Spec PyProof.Rows
section
variable {prog : Program} {w : World} {A : Around} {E : Value → Shared → Prop} {s : Shared}
noncomputable abbrev JQ (w : World) : Bool := !(w.params.followText "set-order")
noncomputable abbrev Qu (b : Bool) : Obj := { cls := .type "set", dict := none, data := .set #[] 0 (.fresh 0 0 b) }
theorem QcX (a : Value) {Q₁ : Value → Shared → Prop} (h : Q₁ (.ref s.heap.objs.size) { s with heap := s.heap.push (Qu (JQ w)) }) :
    codeAny (model prog w) A (.call (.builtin "set.__new__") ⟨[.type "set", a], []⟩) (wants Q₁ E) s := by
  refine codeAny_of_tree (show wpAny _ A.in1 (do checkBuiltinCall "set.__new__" ⟨[.type "set", a], []⟩; again (.builtin "set.__new__" ⟨[.type "set", a], []⟩)) _ _ s from ?_)
  refine wpAny_bind (wpAny_of_eq (F.newCall_set_1 a) (wpAny_pure ⟨plainId_quiet F.plain_set_new _, codeAny_builtin (F.entry_set_new) ?_⟩))
  rw [Around.under_plainId F.plain_set_new _]; unfold Builtin.«set.__new__» Builtin.Frozenset.newClass
  have hsub := sub_set_self
  obtain ⟨hp, g, d, tk, os⟩ := s
  dsimp only
  wp_walk
  refine wpAny_askSetting (wpAny_pure ?_)
  dsimp only
  simp only [newObj]
  exact wpAny_bind (wpAny_alloc (wpAny_pure (wpAny_pure h)))
theorem KG {h : Heap} {a : Addr} {b : Bool} (e : h.get? a = some (Qu b)) : SetL prog w h a [] b :=
  ⟨_, #[], 0, _, e, ⟨rfl, rfl, rfl⟩, rfl, fun x hx => by simp at hx, by decide, rfl, rfl, .inl rfl, List.nodup_nil, rfl, fun k => by simp⟩
theorem QaQ {l : Addr} {items : Array Value} {ss : List Str} {Q : Value → Shared → Prop} (hh : A.handled = none) (hl : s.heap.IsList l items) (hi : StrsAre items.toList ss) (hb : items.size + 1 < scanBound)
    (h : ∀ (h' : Heap) (tk : Nat), SetL prog w h' s.heap.objs.size (uniq ss) (JQ w) → (∀ b o, b < s.heap.objs.size → s.heap.get? b = some o → h'.get? b = some o) → Q (.ref s.heap.objs.size) { s with heap := h', toks := tk }) :
    wpAny (model prog w) A (Builtin.«set.__init__» ⟨[.ref s.heap.objs.size, .ref l], []⟩) (fun fin s' => fin = .done (.ret .none) ∧ Q (.ref s.heap.objs.size) s') E { s with heap := s.heap.push (Qu (JQ w)) } := by
  have hS : (s.heap.push (Qu (JQ w))).get? s.heap.objs.size = some (Qu (JQ w)) := Heap.get?_push_size _ rfl
  have hT : Shared.TypeIs { s with heap := s.heap.push (Qu (JQ w)) } (.ref s.heap.objs.size) "set" := ⟨_, hS, rfl⟩
  obtain ⟨ol, hol, hcl, nl, hdl⟩ := hl
  obtain ⟨ocls, odict, odata, oslots⟩ := ol
  simp only at hcl hdl
  subst hcl hdl
  have hol' : (s.heap.push (Qu (JQ w))).get? l = some { cls := .type "list", dict := odict, data := .seq items nl, slots := oslots } := Heap.get?_push_of_some _ hol
  have hl1 : (s.heap.push (Qu (JQ w))).IsList l items := ⟨_, hol', rfl, nl, rfl⟩
  have n1 := F.sub_list_set
  have n2 := F.sub_list_frozenset
  have n3 : (Value.type "list" == Value.type "dict") = false := by decide
  unfold Builtin.«set.__init__» noKeywords Builtin.Frozenset.updateFrom
  generalize hPI : pyIter = PI
  wp_walk
  subst hPI
  refine wpAny_pyIter_list hl1 (wpAny_bind (wpAny_runValue ?_))
  have hlS : l < s.heap.objs.size := Heap.lt_size hol
  have szp : (s.heap.push (Qu (JQ w))).objs.size = s.heap.objs.size + 1 := Heap.size_push _ _
  have ne1 : l ≠ (s.heap.push (Qu (JQ w))).objs.size := by rw [szp]; exact Nat.ne_of_lt (Nat.lt_succ_of_lt hlS)
  have nf : s.heap.objs.size ∉ [(s.heap.push (Qu (JQ w))).objs.size, l] := by
    rw [szp]
    simp only [List.mem_cons, List.not_mem_nil, or_false, not_or]
    exact ⟨Nat.ne_of_lt (Nat.lt_succ_self _), Nat.ne_of_gt hlS⟩
  have hln : ss.length = items.size := by have := StrsAre.length hi; rw [Array.length_toList] at this; exact this.symm
  have hv : ∀ (i : Nat) (v : Value), items[i]? = some v → ∃ x c, ss[i]? = some x ∧ v = .str x c := fun i v e => by
    have e' : items.toList[i]? = some v := by rw [Array.getElem?_toList]; exact e
    obtain ⟨x, c, rfl⟩ := hi.all v (List.mem_iff_getElem?.mpr ⟨i, e'⟩)
    refine ⟨x, c, ?_, rfl⟩
    rw [← hi.strs, List.getElem?_map, e']
    rfl
  refine QaR ((Walks.list (show A.in1.handled = none by simp [hh]) _ l ne1 items).toS) s.heap.objs.size nf (JQ w) ss hln hv hb (items.size - 0) 0 _ (by omega) (Nat.zero_le _) ⟨⟨_, Heap.get?_push_size _ rfl, rfl, rfl⟩, hl1.push _⟩ (KG (Heap.get?_push_of_some _ hS)) fun s' hm hS' => ?_
  obtain ⟨h', g', d', tk', os'⟩ := s'
  have eg : g' = s.gens := hm.gens
  have ed : d' = s.drawn := hm.drawn
  have eo : os' = s.os := hm.os
  subst eg ed eo
  refine wpAny_pure (wpAny_pure ⟨rfl, h h' tk' hS' fun b o lt e => ?_⟩)
  refine hm.heap b o ?_ (Heap.get?_push_of_some _ (Heap.get?_push_of_some _ e))
  simp only [List.mem_cons, List.not_mem_nil, or_false, not_or]
  exact ⟨Nat.ne_of_lt lt, by rw [szp]; exact Nat.ne_of_lt (Nat.lt_succ_of_lt lt)⟩
theorem set_list {l : Addr} {items : Array Value} {ss : List Str} {Q : Value → Shared → Prop} (hh : A.handled = none) (hl : s.heap.IsList l items) (hi : StrsAre items.toList ss) (hb : items.size + 1 < scanBound)
    (h : ∀ (h' : Heap) (tk : Nat), SetL prog w h' s.heap.objs.size (uniq ss) (JQ w) → (∀ b o, b < s.heap.objs.size → s.heap.get? b = some o → h'.get? b = some o) → Q (.ref s.heap.objs.size) { s with heap := h', toks := tk }) :
    wpAny (model prog w) A (call (.type "set") [.ref l]) Q E s := by
  have body : ∀ (A' : Around), A'.handled = none → wpAny (model prog w) A' (Builtin.«set.__init__» ⟨[.ref s.heap.objs.size, .ref l], []⟩) (fun fin s' => fin = .done (.ret .none) ∧ Q (.ref s.heap.objs.size) s') E { s with heap := s.heap.push (Qu (JQ w)) } := by
    intro A' hA
    exact QaQ hA hl hi hb h
  obtain ⟨c, tl, hmro⟩ := F.called_set.mro
  have m1 := F.called_set.made
  have m2 := F.called_set.sub
  refine wpAny_call (codeAny_of_tree (show wpAny _ _ (callAny (.type "set") _) _ _ _ from ?_))
  refine wpAny_pure ⟨Code.quiet_builtin _ (by decide +kernel), codeAny_builtin (F.entry_type_call) ?_⟩
  rw [Around.under_plain (weight_type_call_type "set" [Value.ref l] []) rfl]
  have m3 := F.called_set.notType
  have m4 := F.called_set.canCreate
  have m5 := F.typeCall_set_1 (Value.ref l)
  repeat (any_goals (first | assumption | wp_step))
  refine codeAny_mono (QcX (Value.ref l) (E := E) (Q₁ := fun obj s₁ => obj = .ref s.heap.objs.size ∧ s₁ = { s with heap := s.heap.push (Qu (JQ w)) }) ⟨rfl, rfl⟩) fun r s₁ hr => ?_
  cases r with
  | error e => exact hr
  | ok fl =>
    cases fl with
    | ret obj =>
      obtain ⟨rfl, rfl⟩ := hr
      have hS : (s.heap.push (Qu (JQ w))).get? s.heap.objs.size = some (Qu (JQ w)) := Heap.get?_push_size _ rfl
      have hT : Shared.TypeIs { s with heap := s.heap.push (Qu (JQ w)) } (.ref s.heap.objs.size) "set" := ⟨_, hS, rfl⟩
      have m6 := F.called_set.init.lookup
      have m7 := F.called_set.init.bind (.ref s.heap.objs.size)
      repeat (any_goals (first | assumption | wp_step))
      refine codeAny_mono (codeAny_call_builtin (R := wants (fun r s₂ => r = .none ∧ Q (.ref s.heap.objs.size) s₂) E) F.called_set.init.plain F.entry_set_init (check_set_init_1 hT (wpAny_mono (body _ (by simp [hh])) (fun fin s' q => ?_) fun _ _ q => q))) fun r₂ s₂ hr₂ => ?_
      · obtain ⟨rfl, q⟩ := q
        exact ⟨rfl, q⟩
      · cases r₂ with
        | error e => exact hr₂
        | ok fl₂ =>
          cases fl₂ with
          | ret r =>
            obtain ⟨rfl, q⟩ := hr₂
            repeat (any_goals (first | assumption | wp_step))
          | _ => exact hr₂.elim
    | _ => exact hr.elim
end
end St

namespace St
open PySem PySem.Spec PyProof.Rows
theorem slotN : Slot "set_iterator" "__next__" "set_iterator.__next__" := .of (owner := "set_iterator") (n := "__next__") (by rw [typeLookup_type, builtinLookup_eq_fast]; kernel_rfl) (by decide +kernel) (by decide +kernel) (by decide +kernel) (by first | exact .inl (by decide +kernel) | exact .inr (by decide +kernel)) (by rw [isSubtype_type]; kernel_rfl)
theorem WK : entryFor table "set_iterator.__next__" = some Builtin.«set_iterator.__next__» := entryFor_of_tree (by kernel_rfl)
theorem Gv (a : Value) : argsOk "set_iterator.__next__" ⟨[a], []⟩ := by unfold argsOk; kernel_rfl
theorem Gf : entryFor table "set.__iter__" = some Builtin.«frozenset.__iter__» := entryFor_alias (id' := "frozenset.__iter__") (by kernel_rfl) rfl (by decide +kernel) (by kernel_rfl)
theorem Vi {α : Type} {l : List α} {j : Nat} (lt : j < l.length) : List.Perm (l[j] :: l.eraseIdx j) l := by
  rw [List.eraseIdx_eq_take_drop_succ]
  have e : l = l.take j ++ l[j] :: l.drop (j + 1) := by rw [← List.drop_eq_getElem_cons lt, List.take_append_drop]
  conv => rhs; rw [e]
  exact List.perm_middle.symm
theorem YD {α : Type} (nx : Nat → Nat) : ∀ (f k : Nat) (l : List α) (o : Array α), f = l.length → List.Perm (pickOrder.go nx f k l o).toList (o.toList ++ l)
  | 0, k, l, o, h => by
    rw [List.length_eq_zero_iff.mp h.symm, List.append_nil]; exact .rfl
  | f + 1, k, l, o, h => by
    unfold pickOrder.go
    have lt : nx k % l.length < l.length := Nat.mod_lt _ (by omega)
    generalize nx k % l.length = j at lt
    rw [List.getElem?_eq_getElem lt]
    refine (YD nx f (k + 1) (l.eraseIdx j) (o.push l[j]) (by rw [List.length_eraseIdx_of_lt lt]; omega)).trans ?_
    rw [Array.toList_push, List.append_assoc, List.singleton_append]
    exact List.Perm.append_left _ (Vi lt)
theorem Yz {α : Type} (nx : Nat → Nat) (xs : Array α) : List.Perm (pickOrder nx xs).toList xs.toList := by
  have := YD nx xs.size 0 xs.toList #[] (by simp)
  simpa [pickOrder] using this
section
variable {prog : Program} {w : World} {A : Around} {E : Value → Shared → Prop} {s : Shared}
theorem G3 {M : Model} {src : Source} {n : Nat} {Q : Nat → Shared → Prop} (hn : n ≠ 0) (h : ∀ j d, j < n → Q j { s with drawn := d }) : wpAny M A (choose src n) Q E s := fun Γ p _ => by
  show Sem.wp M Γ (.choose src n fun i => pure i) _ _ p s
  rw [Sem.wp_choose]
  exact ⟨hn, h _ _ (Nat.mod_lt _ (Nat.pos_of_ne_zero hn))⟩
theorem VZ {α : Type} : ∀ (n : Nat) (xs : List α) (s : Shared) (Q : List α → Shared → Prop), n = xs.length → (∀ ys d, List.Perm ys xs → Q ys { s with drawn := d }) → wpAny (model prog w) A (drawOrder n xs) Q E s
  | 0, xs, s, Q, hn, h => by
    have e := List.length_eq_zero_iff.mp hn.symm
    subst e
    exact wpAny_pure (h [] s.drawn .rfl)
  | n + 1, [], s, Q, hn, h => by cases hn
  | n + 1, x :: xs, s, Q, hn, h => by
    unfold drawOrder
    refine wpAny_bind (G3 (by simp) fun j d0 lt => ?_)
    rw [List.getElem?_eq_getElem lt]
    refine wpAny_bind (VZ n _ _ _ (by rw [List.length_eraseIdx_of_lt lt]; simp at hn ⊢; omega) fun ys d p => wpAny_pure (h _ d ?_))
    exact (p.cons _).trans (Vi lt)
end
end St

namespace St
open PySem PySem.Spec PyProof.Rows
section
variable {prog : Program} {w : World} {A : Around} {E : Value → Shared → Prop} {s : Shared}
noncomputable abbrev Y4 (f : Value) (i : Nat) (S : Addr) (n ep : Nat) : Obj := { cls := .type "set_iterator", data := .fields #[f, .int i 0, .ref S, .int n 0, .int ep 0] }
inductive How (w : World) (S T : Addr) (h : Heap) (es : Array (Int × Value)) (ep : Nat) (t : SetTable) (vs : List Value) : Nat → Value → Prop where
  | tup {i : Nat} {ps : List Nat} (hT : h.get? T = some { cls := .type "tuple", data := .seq (ps.map fun (p : Nat) => rawInt p).toArray 0 }) (hl : ps.length = vs.length) (hp : ∀ (j p : Nat), ps[j]? = some p → ∃ e, es[p]? = some e ∧ vs[j]? = some e.2) : How w S T h es ep t vs i (.ref T)
  | text {i : Nat} (c : Nat) (hb : w.params.followText "set-order" = true) (hv : vs = (pickOrder (w.params.setOrder S ep) es).toList.map (·.2)) : How w S T h es ep t vs i (.int c 0)
  | few {i : Nat} (c : Nat) (hb : w.params.followText "set-order" = false) (hled : t.led = true) (hs : es.size ≤ 1) (hpl : t.place.size = es.size) (hv : vs = es.toList.map (·.2)) (hc : (i = 0 ∧ c = 0) ∨ (∃ j, t.place = #[j] ∧ i = 1 ∧ c = j + 1)) : How w S T h es ep t vs i (.int c 0)
noncomputable def ItS (w : World) (I S T : Addr) (vs : List Value) (i : Nat) (h : Heap) : Prop :=
  ∃ f o es ep t, h.get? I = some (Y4 f i S vs.length ep) ∧ h.get? S = some o ∧ o.data = .set es ep t ∧ t.fits es.size = true ∧ es.size = vs.length ∧ How w S T h es ep t vs i f
theorem How.keep {S T : Addr} {h h' : Heap} {es : Array (Int × Value)} {ep : Nat} {t : SetTable} {vs : List Value} {i : Nat} {f : Value} (x : How w S T h es ep t vs i f) (k : ∀ o, h.get? T = some o → h'.get? T = some o) : How w S T h' es ep t vs i f := by
  cases x with
  | tup hT hl hp => exact .tup (k _ hT) hl hp
  | text c hb hv => exact .text c hb hv
  | few c hb hled hs hpl hv hc => exact .few c hb hled hs hpl hv hc
theorem Ub (k : Nat) : rawInt (k : Int) = Value.int k 0 := rfl
theorem Qcl {f x a b c d : Value} : (#[f, a, b, c, d] : Array Value).setIfInBounds 0 x = #[x, a, b, c, d] := by rfl
theorem Qcf {f x a b c d : Value} : (#[f, a, b, c, d] : Array Value).setIfInBounds 1 x = #[f, x, b, c, d] := by rfl
theorem XY {h : Heap} {I S : Addr} {f : Value} {i n ep : Nat} (e : h.get? I = some (Y4 f i S n ep)) (k : Nat) (x : Value) : (h.update I (Obj.mapFields (·.setIfInBounds k x))).get? I = some { cls := .type "set_iterator", data := .fields ((#[f, .int i 0, .ref S, .int n 0, .int ep 0] : Array Value).setIfInBounds k x) } := Heap.get?_update_self _ e rfl
theorem GW (j : Nat) : SetTable.below #[j] 0 = 0 := by simp [SetTable.below, SetTable.below.go]
theorem Gr (j : Nat) : SetTable.below #[j] (j + 1) = 1 := by simp [SetTable.below, SetTable.below.go]
theorem Qcm {h : Heap} {I S : Addr} {f x y : Value} {i n ep : Nat} (e : h.get? I = some (Y4 f i S n ep)) : ((h.update I (Obj.mapFields (·.setIfInBounds 0 x))).update I (Obj.mapFields (·.setIfInBounds 1 y))).get? I = some { cls := .type "set_iterator", data := .fields #[x, y, .ref S, .int n 0, .int ep 0] } := by
  have g1 := XY e 0 x
  rw [Qcl] at g1
  exact Heap.get?_update_self (Obj.mapFields (·.setIfInBounds 1 y)) g1 rfl
theorem Jy {S : Addr} {o : Obj} {es : Array (Int × Value)} {ep c i : Nat} {t : SetTable} {Q : Option (Value × Nat) → Shared → Prop} (e2 : s.heap.get? S = some o) (e3 : o.data = .set es ep t) (ft : t.fits es.size = true) (hb : w.params.followText "set-order" = true)
    (h : Q (((pickOrder (w.params.setOrder S ep) es)[i]?).map fun e => (e.2, c)) s) : wpAny (model prog w) A (setNext S c i ep) Q E s := by
  unfold setNext
  refine wpAny_bind (wpAny_setState_of e2 e3 ft ?_)
  dsimp only
  unfold setsByText
  refine wpAny_bind (wpAny_bind (wpAny_askSetting (wpAny_pure ?_)))
  show wpAny _ _ (if (w.params.followText "set-order") = true then _ else _) _ _ _
  rw [if_pos hb]
  rw [if_neg (by simp)]
  refine wpAny_bind ?_
  unfold setWalk
  refine wpAny_bind (wpAny_setState_of e2 e3 ft ?_)
  dsimp only
  unfold setsByText
  refine wpAny_bind (wpAny_bind (wpAny_askSetting (wpAny_pure ?_)))
  show wpAny _ _ (if (w.params.followText "set-order") = true then _ else _) _ _ _
  rw [if_pos hb]
  refine wpAny_bind (wpAny_askSetting (wpAny_pure ?_))
  exact wpAny_pure h
theorem JM {S : Addr} {o : Obj} {es : Array (Int × Value)} {ep c i : Nat} {t : SetTable} {Q : Option (Value × Nat) → Shared → Prop} (e2 : s.heap.get? S = some o) (e3 : o.data = .set es ep t) (ft : t.fits es.size = true) (hb : w.params.followText "set-order" = false) (hled : t.led = true) (hs : es.size ≤ 1)
    (h : Q (match es[SetTable.below t.place c]?, t.place[SetTable.below t.place c]? with | some (_, x), some j => some (x, j + 1) | _, _ => none) s) : wpAny (model prog w) A (setNext S c i ep) Q E s := by
  unfold setNext
  refine wpAny_bind (wpAny_setState_of e2 e3 ft ?_)
  dsimp only
  unfold setsByText
  refine wpAny_bind (wpAny_bind (wpAny_askSetting (wpAny_pure ?_)))
  show wpAny _ _ (if (w.params.followText "set-order") = true then _ else _) _ _ _
  rw [if_neg (by rw [hb]; simp)]
  show wpAny _ _ (if (!t.plain && decide (es.size > 1)) = true then _ else _) _ _ _
  rw [if_neg (by have : ¬ es.size > 1 := by omega
                 simp [this])]
  show wpAny _ _ ((if (!t.led && !es.isEmpty) = true then unsupported "set:maker-not-led" else pure ()) >>= _) _ _ _
  rw [if_neg (by rw [hled]; simp)]
  exact wpAny_bind (wpAny_pure (wpAny_pure h))
theorem VC {S : Addr} {o : Obj} {es : Array (Int × Value)} {ep p : Nat} {t : SetTable} {e : Int × Value} {Q : Value → Shared → Prop} (e2 : s.heap.get? S = some o) (e3 : o.data = .set es ep t) (ft : t.fits es.size = true) (hp : es[p]? = some e) (h : Q e.2 s) : wpAny (model prog w) A (setNextDrawn S p ep) Q E s := by
  unfold setNextDrawn
  refine wpAny_bind (wpAny_setState_of e2 e3 ft ?_)
  dsimp only
  rw [if_neg (by simp), hp]
  exact wpAny_pure h
theorem Yh {I S T : Addr} {vs : List Value} {i : Nat} {Q : Option Value → Shared → Prop} (hIS : S ≠ I) (hIT : T ≠ I) (st : ItS w I S T vs i s.heap) (hi : i < vs.length)
    (hQ : ∀ v h', vs[i]? = some v → ItS w I S T vs (i + 1) h' → Heap.SameBut I s.heap h' → Q (some v) { s with heap := h' }) : wpAny (model prog w) A (pyNext (.ref I)) Q E s := by
  obtain ⟨f, o, es, ep, t, e1, e2, e3, ft, hsz, hw⟩ := st
  have hT : s.TypeIs (.ref I) "set_iterator" := ⟨_, e1, rfl⟩
  unfold pyNext
  refine wpAny_bind (wpAny_attempt (wpAny_callSpecial?_slot (name := Str.ofString "__next__") hT slotN (wpAny_call_entry slotN hT WK ?_ (Gv _))))
  unfold Builtin.«set_iterator.__next__»
  refine wpAny_bind (wpAny_pure (wpAny_bind (wpAny_fieldsOf e1 rfl ?_)))
  dsimp only
  refine wpAny_bind (wpAny_setEntries_of e2 e3 ft ?_)
  rw [if_neg (by simp [hsz])]
  have two : ∀ (x y : Value), Heap.SameBut I s.heap ((s.heap.update I (Obj.mapFields (·.setIfInBounds 0 x))).update I (Obj.mapFields (·.setIfInBounds 1 y))) := fun x y => (Heap.SameBut.update ..).trans (Heap.SameBut.update ..)
  have on : ∀ (x : Value) (nx : Nat), vs[i]? = some x → How w S T s.heap es ep t vs (i + 1) (.int nx 0) → wpAny (model prog w) A.in1 (do
      setField (Value.ref I) 0 (rawInt (nx : Int))
      setField (Value.ref I) 1 (rawInt ((i : Int) + 1))
      ret x) (fun fin s' => ∃ v, fin = Fin.done (Flow.ret v) ∧ wpAny (model prog w) A (pure (some v)) Q E s') (fun e s' => wpAny (model prog w) A (do if (← isInstance e (Value.type "StopIteration")) = true then pure none else throw e) Q E s') s := by
    intro x nx hx hw'
    refine wpAny_bind (wpAny_setField e1 rfl (by simp) (wpAny_bind (wpAny_setField (XY e1 0 _) rfl (by simp) (wpAny_pure ⟨x, rfl, wpAny_pure (hQ x _ hx ?_ (two _ _))⟩))))
    refine ⟨.int nx 0, o, es, ep, t, Qcm e1, ?_, e3, ft, hsz, hw'.keep fun o' e => ?_⟩
    · rw [(two _ _).2 S hIS]; exact e2
    · rw [(two _ _).2 T hIT]; exact e
  cases hw with
  | @tup ps hTT hl hp =>
    simp only [Int.toNat_natCast]
    refine wpAny_bind (wpAny_seqItems hTT rfl ?_)
    dsimp only
    have hpi : ps[i]? = some ps[i] := List.getElem?_eq_getElem (by omega)
    generalize ps[i] = q at hpi
    obtain ⟨e, he, hv⟩ := hp i q hpi
    have : ((ps.map fun (p : Nat) => rawInt p).toArray)[i]? = some (Value.int (q : Int) 0) := by simp [hpi, Ub]
    rw [this]
    dsimp only
    refine wpAny_bind (VC e2 e3 ft (p := q) he (wpAny_bind (wpAny_setField e1 rfl (by simp) (wpAny_pure ⟨e.2, rfl, wpAny_pure (hQ e.2 _ hv ?_ (Heap.SameBut.update ..))⟩))))
    have sb : Heap.SameBut I s.heap (s.heap.update I (Obj.mapFields (·.setIfInBounds 1 (rawInt ((i : Int) + 1))))) := Heap.SameBut.update ..
    refine ⟨.ref T, o, es, ep, t, ?_, by rw [sb.2 S hIS]; exact e2, e3, ft, hsz, How.keep (.tup hTT hl hp) fun o' e => by rw [sb.2 T hIT]; exact e⟩
    have g := XY e1 1 (rawInt ((i : Int) + 1))
    rw [Qcf] at g
    exact g
  | text c hb hv =>
    simp only [Int.toNat_natCast]
    refine wpAny_bind (Jy e2 e3 ft (i := i) (c := c) hb ?_)
    subst hv
    have hlt : i < (pickOrder (w.params.setOrder S ep) es).size := by simpa using hi
    rw [Array.getElem?_eq_getElem hlt]
    exact on _ c (by rw [List.getElem?_map, Array.getElem?_toList, Array.getElem?_eq_getElem hlt]; rfl) (.text c hb rfl)
  | few c hb hled hs hpl hv hc =>
    simp only [Int.toNat_natCast]
    refine wpAny_bind (JM e2 e3 ft (i := i) (c := c) hb hled hs ?_)
    subst hv
    have h1 : es.size = 1 := by rw [List.length_map, Array.length_toList] at hi; omega
    have i0 : i = 0 := by rw [List.length_map, Array.length_toList] at hi; omega
    subst i0
    rcases hc with ⟨_, rfl⟩ | ⟨j, _, z, _⟩
    · obtain ⟨j, hj⟩ : ∃ j, t.place = #[j] := by
        have hz : t.place.toList.length = 1 := by rw [Array.length_toList]; omega
        obtain ⟨j, hj⟩ := List.length_eq_one_iff.mp hz
        exact ⟨j, Array.toList_inj.mp hj⟩
      obtain ⟨e, he⟩ : ∃ e, es[0]? = some e := ⟨es[0], Array.getElem?_eq_getElem (by omega)⟩
      rw [hj, GW, he]
      exact on e.2 (j + 1) (by rw [List.getElem?_map, Array.getElem?_toList, he]; rfl) (.few (j + 1) hb hled hs hpl rfl (.inr ⟨j, hj, rfl, rfl⟩))
    · omega
end
end St

namespace St
open PySem PySem.Spec PyProof.Rows
section
variable {prog : Program} {w : World} {A : Around} {E : Value → Shared → Prop} {s : Shared}
theorem Kb {B : Around} {Q : Option Value → Shared → Prop} (hh : B.handled = none) (hQ : ∀ h', (∀ b o, s.heap.get? b = some o → h'.get? b = some o) → Q none { s with heap := h' }) :
    wpAny (model prog w) B (newExc (.type "StopIteration") [] >>= raiseNew) (fun (fin : Fin) s' => ∃ v, fin = Fin.done (Flow.ret v) ∧ wpAny (model prog w) A (pure (some v)) Q E s') (fun e s' => wpAny (model prog w) A (do if (← isInstance e (Value.type "StopIteration")) = true then pure none else throw e) Q E s') s := by
  refine wpAny_bind ?_
  simp only [newExc, newTuple]
  refine wpAny_bind (wpAny_newObj_type ?_ (by size_fits))
  refine wpAny_bind (m := firstArgMember _ _) (wpAny_of_eq (a := Value.none) (by first | rfl | (simp only [firstArgMember]; rfl)) (wpAny_newObj_type ?_ (by size_fits)))
  simp only [raiseNew]
  refine wpAny_bind (wpAny_handled ?_)
  rw [hh]
  refine wpAny_bind (wpAny_pure (wpAny_throw ?_)); refine wpAny_bind (wpAny_isInstance (T := "StopIteration") (b := true) ⟨_, Heap.get?_push_size _ rfl, rfl⟩ isSubtype_stop ?_)
  refine wpAny_pure (hQ _ ?_)
  exact fun b o e => Heap.get?_push_of_some _ (Heap.get?_push_of_some _ e)
theorem Y1 {I S T : Addr} {vs : List Value} {Q : Option Value → Shared → Prop} (hh : A.handled = none) (hIS : S ≠ I) (hIT : T ≠ I) (st : ItS w I S T vs vs.length s.heap)
    (hQ : ∀ h', Heap.ExtBut I s.heap h' → Q none { s with heap := h' }) : wpAny (model prog w) A (pyNext (.ref I)) Q E s := by
  obtain ⟨f, o, es, ep, t, e1, e2, e3, ft, hsz, hw⟩ := st
  have hT : s.TypeIs (.ref I) "set_iterator" := ⟨_, e1, rfl⟩
  unfold pyNext
  refine wpAny_bind (wpAny_attempt (wpAny_callSpecial?_slot (name := Str.ofString "__next__") hT slotN (wpAny_call_entry slotN hT WK ?_ (Gv _))))
  unfold Builtin.«set_iterator.__next__»
  refine wpAny_bind (wpAny_pure (wpAny_bind (wpAny_fieldsOf e1 rfl ?_)))
  dsimp only
  refine wpAny_bind (wpAny_setEntries_of e2 e3 ft ?_)
  rw [if_neg (by simp [hsz])]
  have hA : A.in1.handled = none := hh
  have one : wpAny (model prog w) A.in1 (do
      setField (Value.ref I) 2 Value.none
      raiseNew (← newExc (Value.type "StopIteration") [])) (fun (fin : Fin) s' => ∃ v, fin = Fin.done (Flow.ret v) ∧ wpAny (model prog w) A (pure (some v)) Q E s') (fun e s' => wpAny (model prog w) A (do if (← isInstance e (Value.type "StopIteration")) = true then pure none else throw e) Q E s') s := by
    refine wpAny_bind (wpAny_setField e1 rfl (by simp) (Kb hA fun h' k => hQ h' fun b o' hb e => k b o' ?_))
    rw [(Heap.SameBut.update ..).2 b hb]; exact e
  cases hw with
  | @tup ps hTT hl hp =>
    simp only [Int.toNat_natCast]
    refine wpAny_bind (wpAny_seqItems hTT rfl ?_)
    dsimp only
    rw [show ((ps.map fun (p : Nat) => rawInt p).toArray)[vs.length]? = none by simp [hl]]
    refine wpAny_bind (wpAny_setField e1 rfl (by simp) (wpAny_bind (wpAny_setField (XY e1 0 _) rfl (by simp) (Kb hA fun h' k => hQ h' fun b o' hb e => k b o' ?_))))
    rw [((Heap.SameBut.update s.heap I _).trans (Heap.SameBut.update ..)).2 b hb]; exact e
  | text c hb hv =>
    simp only [Int.toNat_natCast]
    refine wpAny_bind (Jy e2 e3 ft (i := vs.length) (c := c) hb ?_)
    rw [show (pickOrder (w.params.setOrder S ep) es)[vs.length]? = none by rw [hv]; simp]
    exact one
  | few c hb hled hs hpl hv hc =>
    simp only [Int.toNat_natCast]
    refine wpAny_bind (JM e2 e3 ft (i := vs.length) (c := c) hb hled hs ?_)
    rcases hc with ⟨z, rfl⟩ | ⟨j, hj, z, rfl⟩
    · have h0 : es = #[] := Array.size_eq_zero_iff.mp (by omega)
      subst h0
      exact one
    · rw [hj, Gr, show es[1]? = none from Array.getElem?_eq_none (by omega)]
      exact one
theorem Gk (hh : A.handled = none) (I S T : Addr) (hIS : S ≠ I) (hIT : T ≠ I) (vs : List Value) (self : ∀ i (s : Shared) (Q : Value → Shared → Prop) (E : Value → Shared → Prop), ItS w I S T vs i s.heap → Q (.ref I) s → wpAny (model prog w) A (pyIter (.ref I)) Q E s) :
    Walks prog w A I [I, S, T] [I] vs.length (fun i v => vs[i]? = some v) (fun i h => ItS w I S T vs i h) where
  sub := fun b hb => by simp at hb; simp [hb]
  frame := fun i h h' ⟨f, o, es, ep, t, e1, e2, e3, ft, hsz, hw⟩ k => ⟨f, o, es, ep, t, k I (by simp) _ e1, k S (by simp) _ e2, e3, ft, hsz, hw.keep fun o e => k T (by simp) o e⟩
  item := fun i s Q E hi st hQ => Yh hIS hIT st hi fun v h' hv st' sb => hQ v h' s.toks hv st' fun b o hb e => by rw [sb.2 b (fun z => hb (by simp [z]))]; exact e
  done := fun s Q E st hQ => Y1 hh hIS hIT st fun h' x => hQ h' s.toks fun b o hb e => x b o (fun z => hb (by simp [z])) e
  self := self
end
end St

namespace St
open PySem PySem.Spec PyProof.Rows
theorem WE : Slot "set_iterator" "__iter__" "set_iterator.__iter__" := .of (owner := "set_iterator") (n := "__iter__") (by rw [typeLookup_type, builtinLookup_eq_fast]; kernel_rfl) (by decide +kernel) (by decide +kernel) (by decide +kernel) (by first | exact .inl (by decide +kernel) | exact .inr (by decide +kernel)) (by rw [isSubtype_type]; kernel_rfl)
theorem UN : entryFor table "set_iterator.__iter__" = some Builtin.«dict_keyiterator.__iter__» := entryFor_alias (id' := "dict_keyiterator.__iter__") (by kernel_rfl) rfl (by decide +kernel) (by kernel_rfl)
theorem U3 (a : Value) : argsOk "set_iterator.__iter__" ⟨[a], []⟩ := by unfold argsOk; kernel_rfl
theorem Ve : ∀ (ks ks' : List Str), ks.Nodup → (∀ k ∈ ks, k ∈ ks') → ks'.length = ks.length → ks'.Perm ks
  | [], ks', _, _, h => by rw [List.length_eq_zero_iff.mp h]
  | k :: r, ks', nd, c, h => by
    have hk := c k List.mem_cons_self
    rw [List.nodup_cons] at nd
    refine (List.perm_cons_erase hk).trans (List.Perm.cons k (Ve r (ks'.erase k) nd.2 (fun x hx => ?_) ?_))
    · exact (List.mem_erase_of_ne (fun z => nd.1 (by rw [← z]; exact hx))).mpr (c x (List.mem_cons_of_mem _ hx))
    · rw [List.length_erase_of_mem hk, h]; rfl
section
variable {prog : Program} {w : World} {A : Around} {E : Value → Shared → Prop} {s : Shared}
theorem QaC {I S T : Addr} {vs : List Value} {i : Nat} {Q : Value → Shared → Prop} (st : ItS w I S T vs i s.heap) (h : Q (.ref I) s) : wpAny (model prog w) A (pyIter (.ref I)) Q E s := by
  obtain ⟨f, o, es, ep, t, e1, _⟩ := st
  have hT : s.TypeIs (.ref I) "set_iterator" := ⟨_, e1, rfl⟩
  refine wpAny_pyIter_slot hT WE (wpAny_call_entry WE hT UN ?_ (U3 _))
  exact wpAny_pure ⟨_, rfl, "set_iterator", _, hT, slotN.lookup, h⟩
theorem UK {h : Heap} {a : Addr} {ks : List Str} {led : Bool} {es : Array (Int × Value)} {vs : List Value} (h1 : ElemsOf (strKind prog w) es.toList) (h6 : ks.Nodup) (h7 : es.size = ks.length) (h8 : ∀ k, k ∈ ks ↔ ∃ e ∈ es.toList, (strKind prog w).is k e.2 = true) (p : vs.Perm (es.toList.map (·.2))) : ∃ ss, StrsAre vs ss ∧ ss.Perm ks := by
  have hv : ∀ v ∈ vs, ∃ x c, v = .str x c := fun v hv => by
    obtain ⟨e, he, rfl⟩ := List.mem_map.mp (p.mem_iff.mp hv)
    obtain ⟨⟨k, hk, _⟩, _⟩ := h1 e he
    obtain ⟨c, hc⟩ := Value.isStrOf_shape hk
    exact ⟨k, c, hc⟩
  refine ⟨vs.map strOf, strsAre_map vs hv, Ve ks _ h6 (fun k hk => ?_) ?_⟩
  · obtain ⟨e, he, hke⟩ := (h8 k).mp hk
    obtain ⟨c, hc⟩ := Value.isStrOf_shape hke
    exact List.mem_map.mpr ⟨e.2, p.mem_iff.mpr (List.mem_map.mpr ⟨e, he, rfl⟩), by rw [hc]; rfl⟩
  · rw [List.length_map, p.length_eq, List.length_map, Array.length_toList, h7]
noncomputable abbrev atP (es : Array (Int × Value)) (i : Nat) : Value := (es.getD i (0, .none)).2
theorem KD {es : Array (Int × Value)} {ps : List Nat} (p : ps.Perm (List.range es.size)) : (ps.map (atP es)).Perm (es.toList.map (·.2)) ∧ ∀ (j q : Nat), ps[j]? = some q → ∃ e, es[q]? = some e ∧ (ps.map (atP es))[j]? = some e.2 := by
  constructor
  · refine (p.map _).trans ?_
    have : (List.range es.size).map (atP es) = es.toList.map (·.2) := by
      apply List.ext_getElem?
      intro j
      rw [List.getElem?_map, List.getElem?_map]
      by_cases lt : j < es.size
      · simp [atP, Array.getD, lt]
      · rw [List.getElem?_eq_none (by simpa using lt), List.getElem?_eq_none (by simpa using lt)]
        rfl
    rw [this]
  · intro j q hq
    have lt : q < es.size := List.mem_range.mp (p.mem_iff.mp (List.mem_iff_getElem?.mpr ⟨j, hq⟩))
    refine ⟨es[q], Array.getElem?_eq_getElem lt, ?_⟩
    rw [List.getElem?_map, hq]
    simp [atP, Array.getD, lt]
theorem Qa5 {S : Addr} {ks : List Str} {Q : Value → Shared → Prop} (hS : SetL prog w s.heap S ks (JQ w))
    (h : ∀ h' d I T vs, (∀ b o, s.heap.get? b = some o → h'.get? b = some o) → s.heap.objs.size ≤ I → (T = S ∨ s.heap.objs.size ≤ T) → S ≠ I → T ≠ I → (∃ ss, StrsAre vs ss ∧ ss.Perm ks) → vs.length = ks.length → ItS w I S T vs 0 h' → Q (.ref I) { s with heap := h', drawn := d }) :
    wpAny (model prog w) A (pyIter (.ref S)) Q E s := by
  have hT := hS.typeIs
  obtain ⟨o, es, ep, t, e2, hx, e3, hel, hb, ft, hled, hpl, hnd, hn, hmem⟩ := hS
  have str : ∀ {vs : List Value}, vs.Perm (es.toList.map (·.2)) → ∃ ss, StrsAre vs ss ∧ ss.Perm ks := fun p => UK (h := s.heap) (a := S) (led := true) hel hnd hn hmem p
  have fp : t.place.size = es.size := by
    simp only [SetTable.fits, Bool.and_eq_true, beq_iff_eq] at ft
    exact ft.1
  have hlt := Heap.lt_size e2
  refine wpAny_pyIter_slot hT F.slot_set_iter (wpAny_call_entry F.slot_set_iter hT Gf ?_ (F.args_set_iter_1 _))
  unfold Builtin.«frozenset.__iter__» Builtin.Frozenset.slot0
  refine wpAny_bind (wpAny_bind (wpAny_pure (wpAny_pure ?_)))
  unfold Builtin.Frozenset.sizeOf
  refine wpAny_bind (wpAny_bind (wpAny_setEntries_of e2 e3 ft (wpAny_pure ?_)))
  refine wpAny_bind (wpAny_bind (wpAny_setState_of e2 e3 ft ?_))
  dsimp only
  unfold setsByText
  refine wpAny_bind (wpAny_bind (wpAny_askSetting (wpAny_pure (wpAny_pure ?_))))
  show wpAny _ _ (if (!(w.params.followText "set-order") && (!t.plain && decide (es.size > 1))) = true then _ else _) _ _ _
  have made : ∀ (c : Int) (vs : List Value), c = 0 → vs.Perm (es.toList.map (·.2)) → How w S S (s.heap.push (Y4 (.int (0 : Nat) 0) 0 S es.size ep)) es ep t vs 0 (.int (0 : Nat) 0) → wpAny (model prog w) A.in1 (do
      let first ← pure (rawInt c)
      ret (← newFields "set_iterator" [first, rawInt 0, Value.ref S, rawInt (es.size : Int), rawInt ((← setEpoch S) : Int)])) (fun fin s' => ∃ v, fin = Fin.done (Flow.ret v) ∧ ∃ T' r, s'.TypeIs v T' ∧ typeLookup (Value.type T') (Str.ofString "__next__") = pure (some r) ∧ Q v s') E s := by
    intro c vs hc p hw
    subst hc
    refine wpAny_bind (wpAny_pure (wpAny_bind (wpAny_setEpoch_of e2 e3 ft (wpAny_bind (wpAny_newObj_type (wpAny_pure ⟨_, rfl, "set_iterator", _, ⟨_, Heap.get?_push_size _ rfl, rfl⟩, slotN.lookup, ?_⟩))))))
    have hvl : es.size = vs.length := by rw [p.length_eq, List.length_map, Array.length_toList]
    refine h _ s.drawn s.heap.objs.size S vs (fun b o' e => Heap.get?_push_of_some _ e) (Nat.le_refl _) (.inl rfl) (Nat.ne_of_lt hlt) (Nat.ne_of_lt hlt) (str p) (by rw [← hvl, hn]) ?_
    exact ⟨.int (0 : Nat) 0, o, es, ep, t, by rw [← hvl]; exact Heap.get?_push_size _ rfl, Heap.get?_push_of_some _ e2, e3, ft, hvl, hw⟩
  cases hbt : w.params.followText "set-order" with
  | true =>
    rw [if_neg (by simp)]
    exact made 0 ((pickOrder (w.params.setOrder S ep) es).toList.map (·.2)) rfl ((Yz _ es).map _) (.text 0 hbt rfl)
  | false =>
    by_cases hs : es.size > 1
    · have hp : t.plain = false := by
        rcases hpl with z | z
        · omega
        · exact z
      rw [if_pos (by simp [hp, hs])]
      refine wpAny_bind (VZ es.size (List.range es.size) s _ (by simp) fun ps d p => ?_)
      have pl : ps.length = es.size := by rw [p.length_eq, List.length_range]
      refine wpAny_bind (wpAny_newTuple ?_ (by rw [List.length_map, pl]; exact fits_of_scanBound hb))
      refine wpAny_bind (wpAny_setEpoch_of (s := { s with drawn := d, heap := s.heap.push { cls := .type "tuple", data := .seq (ps.map fun (i : Nat) => rawInt i).toArray } }) (Heap.get?_push_of_some _ e2) e3 ft ?_)
      refine wpAny_bind (wpAny_newObj_type (wpAny_pure ⟨_, rfl, "set_iterator", _, ⟨_, Heap.get?_push_size _ rfl, rfl⟩, slotN.lookup, ?_⟩))
      obtain ⟨q1, q2⟩ := KD p
      have hvl : es.size = (ps.map (atP es)).length := by rw [List.length_map, pl]
      have szp : (s.heap.push { cls := .type "tuple", data := .seq (ps.map fun (i : Nat) => rawInt i).toArray }).objs.size = s.heap.objs.size + 1 := Heap.size_push _ _
      refine h _ d _ s.heap.objs.size (ps.map (atP es)) (fun b o' e => Heap.get?_push_of_some _ (Heap.get?_push_of_some _ e)) (by show s.heap.objs.size ≤ (s.heap.push _).objs.size; rw [szp]; omega) (.inr (Nat.le_refl _)) (by show S ≠ (s.heap.push _).objs.size; rw [szp]; exact Nat.ne_of_lt (Nat.lt_succ_of_lt hlt)) (by show s.heap.objs.size ≠ (s.heap.push _).objs.size; rw [szp]; exact Nat.ne_of_lt (Nat.lt_succ_self _)) (str q1) (by rw [← hvl, hn]) ?_
      refine ⟨.ref s.heap.objs.size, o, es, ep, t, by rw [← hvl]; exact Heap.get?_push_size _ rfl, Heap.get?_push_of_some _ (Heap.get?_push_of_some _ e2), e3, ft, hvl, .tup (ps := ps) (Heap.get?_push_of_some _ (Heap.get?_push_size _ rfl)) (by rw [← hvl, pl]) q2⟩
    · rw [if_neg (by simp [hs])]
      exact made 0 (es.toList.map (·.2)) rfl .rfl (.few 0 hbt (by rw [hled]; simp [JQ, hbt]) (by omega) fp rfl (.inl ⟨rfl, rfl⟩))
end
end St

namespace St
open PySem PySem.Spec PyProof.Rows
section
variable {prog : Program} {w : World} {A : Around} {E : Value → Shared → Prop} {s : Shared}
theorem QaI {S : Addr} {Q : Bool → Shared → Prop} (hT : s.TypeIs (.ref S) "set") (h : Q false s) : wpAny (model prog w) A (Builtin.List.listLengthHint (.ref S)) Q E s := by
  unfold Builtin.List.listLengthHint
  refine wpAny_bind (wpAny_specialOf hT F.slot_set_len.lookup ?_)
  generalize hid : ("set.__len__" : String) = id1
  wp_delta
  rw [show splitId id1 = some ("set", "__len__") from by subst hid; decide +kernel]
  subst hid
  refine wpAny_bind (wpAny_isInstance (T := "set") (b := true) hT (by rw [isSubtype_type]; kernel_rfl) ?_)
  refine wpAny_ite_split (fun z => absurd z (by decide)) (fun _ => wpAny_ite_split (fun _ => ?_) (fun z => absurd (by decide +kernel) z))
  exact wpAny_bind (wpAny_typeOf hT (wpAny_pure h))
noncomputable abbrev lsO (xs : Array Value) (c : Nat) : Obj := { cls := .type "list", dict := none, data := .seq xs c, slots := #[] }
theorem UM {R : Result → Shared → Prop} {S N : Addr} {ks : List Str} (hh : A.handled = none) (hS : SetL prog w s.heap S ks (JQ w)) (hNS : N ≠ S) (res : Value) (c₀ : Nat) (hN : s.heap.get? N = some (lsO #[] c₀)) (hz : ks.length ≤ sizeLine)
    (hR : ∀ h' d tk vs c', (∃ ss, StrsAre vs ss ∧ ss.Perm ks) → (∀ b o, b ≠ N → s.heap.get? b = some o → h'.get? b = some o) → h'.get? N = some (lsO vs.toArray c') → R (.ok (.ret res)) { s with heap := h', drawn := d, toks := tk }) :
    wpAny (model prog w) A.in1 (Builtin.List.listExtendWith (.ref N) (.ref S) res) (fun fin s' => match fin with | .done f => R (.ok f) s' | .again c' => c'.quiet = true ∧ codeAny (model prog w) A c' R s') (fun e s' => R (.error e) s') s := by
  unfold Builtin.List.listExtendWith
  refine wpAny_bind (wpAny_typeOf (T := "set") hS.typeIs ?_)
  have n1 : Builtin.List.listSameRef (.ref N) (.ref S) = false := by simp [Builtin.List.listSameRef, hNS]
  have n2 : (Value.type "set" == Value.type "list") = false := by decide
  have n3 : (Value.type "set" == Value.type "tuple") = false := by decide
  simp only [n1, n2, n3, Bool.or_false, Bool.false_eq_true, if_false]
  refine wpAny_bind (Qa5 hS fun h1 d I T vs k1 hI hTT hSI hTI str hvl st => ?_)
  have hN1 := k1 _ _ hN
  have nlt : N < s.heap.objs.size := Heap.lt_size hN
  have hNI : N ≠ I := fun z => absurd hI (by rw [← z]; exact Nat.not_le.mpr nlt)
  have hNT : N ≠ T := by
    rcases hTT with z | z
    · rw [z]; exact hNS
    · exact fun e => absurd z (by rw [← e]; exact Nat.not_le.mpr nlt)
  have nf : N ∉ [I, S, T] := by
    simp only [List.mem_cons, List.not_mem_nil, or_false, not_or]
    exact ⟨hNI, hNS, hNT⟩
  have W := Gk (prog := prog) (w := w) (A := A.in1.in1) (by simp [hh]) I S T hSI hTI vs (fun i s Q E st q => QaC st q)
  have key : ∀ (h2 : Heap) (c₁ : Nat), ItS w I S T vs 0 h2 → (∀ b o, b ≠ N → s.heap.get? b = some o → h2.get? b = some o) → h2.get? N = some (lsO #[] c₁) → codeAny (model prog w) A (.builtin "list.extend.loop" ⟨[.ref N, .ref I, res], []⟩) R { s with heap := h2, drawn := d } := by
    intro h2 c₁ st2 k2 hN2
    refine codeAny_extend_loopS (Walks.of_in1 W).toS (by rw [hvl]; exact hz) N nf res vs.length 0 _ #[] c₁ rfl (Nat.zero_le _) st2 hN2 (ItemsOf.nil _) fun s' acc c' hm hN' hacc => ?_
    rw [Moved.eq_with hm]
    have ea : acc = vs.toArray := by
      apply Array.ext_getElem?
      intro j
      by_cases hj : j < acc.size
      · have q := hacc.2 j acc[j] (Array.getElem?_eq_getElem hj)
        rw [Array.getElem?_eq_getElem hj, List.getElem?_toArray, q]
      · rw [Array.getElem?_eq_none (by omega), List.getElem?_toArray, List.getElem?_eq_none (by have := hacc.1; omega)]
    rw [ea] at hN'
    refine hR s'.heap d s'.toks vs c' str (fun b o hb e => hm.heap b o (fun hmem => ?_) (k2 b o hb e)) hN'
    rcases List.mem_cons.mp hmem with z | z
    · exact hb z
    · rw [List.mem_singleton.mp z] at e
      exact absurd (Heap.lt_size e) (Nat.not_lt.mpr hI)
  refine wpAny_bind (wpAny_holding (QaI (hS.at fun o e => k1 _ _ e).typeIs ?_))
  refine wpAny_ite_split (fun _ => ?_) (fun _ => wpAny_pure ⟨plainId_quiet F.plain_extend_loop _, key h1 c₀ st (fun b o _ e => k1 b o e) hN1⟩)
  refine wpAny_bind (wpAny_rule (wpAny_bind ?_))
  show wpAny _ _ (updateSeq N (·.push .none) >>= fun _ => updateSeq N (·.pop)) _ _ _
  refine wpAny_bind (wpAny_updateSeq hN1 rfl ?_)
  have hN2 := Heap.get?_update_self (Obj.mapSeq (·.push Value.none)) hN1 rfl
  refine wpAny_updateSeq (hz := by seq_fits) hN2 rfl ?_
  have hN3 := Heap.get?_update_self (Obj.mapSeq (·.pop)) hN2 rfl
  have oth : ∀ b o, b ≠ N → h1.get? b = some o → ((h1.update N (Obj.mapSeq (·.push Value.none))).update N (Obj.mapSeq (·.pop))).get? b = some o := fun b o hb e => (Heap.get?_update_other _ _ (Ne.symm hb)).trans ((Heap.get?_update_other _ _ (Ne.symm hb)).trans e)
  refine wpAny_pure ⟨plainId_quiet F.plain_extend_loop _, key _ _ (W.frame 0 _ _ st fun b hb o e => oth b o (fun z => nf (by rw [← z]; exact hb)) e) (fun b o hb e => oth b o hb (k1 b o e)) hN3⟩
end
end St

namespace St
open PySem PySem.Spec PyProof.Rows
section
variable {prog : Program} {w : World} {A : Around} {E : Value → Shared → Prop} {s : Shared}
theorem YL {S : Addr} {ks : List Str} {Q : List Value → Shared → Prop} (hh : A.handled = none) (hS : SetL prog w s.heap S ks (JQ w)) (hz : ks.length ≤ sizeLine)
    (h : ∀ h' d tk vs, (∃ ss, StrsAre vs ss ∧ ss.Perm ks) → (∀ b o, s.heap.get? b = some o → h'.get? b = some o) → s.heap.objs.size ≤ h'.objs.size → Q vs { s with heap := h', drawn := d, toks := tk }) : wpAny (model prog w) A (collect (.ref S)) Q E s := by
  unfold collect
  refine wpAny_bind (wpAny_runValue (codeAny_builtin entry_proto_collect' (show wpAny _ _ (do again (.builtin "list.__iadd__" ⟨[← newList [], .ref S], []⟩)) _ _ s from ?_)))
  refine wpAny_bind (wpAny_newList (wpAny_pure ⟨Code.quiet_builtin _ (by decide +kernel), codeAny_builtin (entry_list_iadd') ?_⟩))
  have hlt := hS.lt
  rw [Around.under_plainId F.plain_list_iadd _]
  have fin : ∀ (r : Result) (s' : Shared), (r = .ok (.ret (.ref s.heap.objs.size)) ∧ ∃ h' d tk vs c', (∃ ss, StrsAre vs ss ∧ ss.Perm ks) ∧ (∀ b o, s.heap.get? b = some o → h'.get? b = some o) ∧ h'.get? s.heap.objs.size = some (lsO vs.toArray c') ∧ s' = { s with heap := h', drawn := d, toks := tk }) → (match r with
      | .ok (.ret v) => wpAny (model prog w) A (match v with
        | .ref a => do
          match (← load a).data with
          | .seq xs _ => pure xs.toList
          | _ => unsupported "internal:collect"
        | _ => unsupported "internal:collect") Q E s'
      | .ok _ => False
      | .error e => E e s') := by
    rintro r s' ⟨rfl, h', d, tk, vs, c', str, k, hN, rfl⟩
    refine wpAny_bind (wpAny_load hN ?_)
    show wpAny _ _ (pure vs.toArray.toList) Q E _
    rw [List.toList_toArray]
    exact wpAny_pure (h h' d tk vs str k (Nat.le_of_lt (Heap.lt_size hN)))
  refine wpAny_mono (UM (A := A) (s := { s with heap := s.heap.push (lsO #[] 0) }) (R := fun r s' => r = .ok (.ret (.ref s.heap.objs.size)) ∧ ∃ h' d tk vs c', (∃ ss, StrsAre vs ss ∧ ss.Perm ks) ∧ (∀ b o, s.heap.get? b = some o → h'.get? b = some o) ∧ h'.get? s.heap.objs.size = some (lsO vs.toArray c') ∧ s' = { s with heap := h', drawn := d, toks := tk }) hh (hS.at fun o e => Heap.get?_push_of_some _ e) (Nat.ne_of_gt hlt) (.ref s.heap.objs.size) 0 (Heap.get?_push_size _ rfl) hz fun h' d tk vs c' str k hN => ⟨rfl, h', d, tk, vs, c', str, fun b o e => k b o (Nat.ne_of_lt (Heap.lt_size e)) (Heap.get?_push_of_some _ e), hN, rfl⟩) ?_ ?_
  · intro f s' q
    cases f with
    | done f => exact fin _ _ q
    | again c' => exact ⟨q.1, codeAny_mono q.2 fun r s₁ hr => fin r s₁ hr⟩
  · intro e s' q
    exact fin _ _ q
theorem sortedS' {S : Addr} {ks : List Str} {Q : Value → Shared → Prop} (hh : A.handled = none) (hS : SetL prog w s.heap S ks (JQ w)) (hz : ks.length < 64)
    (h : ∀ (D : Addr) h' d tk (vs : List Value) (ss : List Str) c, StrsAre vs ss → ss.Perm ks → sortedS ss = true → (∀ b o, s.heap.get? b = some o → h'.get? b = some o) → s.heap.objs.size ≤ D → h'.get? D = some (lsO vs.toArray c) → Q (.ref D) { s with heap := h', drawn := d, toks := tk }) :
    wpAny (model prog w) A (call (.builtin "sorted") [.ref S]) Q E s := by
  refine Calls.call_function_entry kind_sorted plain_sorted entry_sorted (args_sorted1 _) ?_
  unfold Builtin.«sorted»
  refine wpAny_bind (m := checkCount "sorted" 1 1 _) (wpAny_pure (wpAny_bind (YL (by simp [hh]) hS (by rw [sizeLine_eq]; omega) fun h1 d tk vs str k1 hle => ?_)))
  obtain ⟨ss, st, pm⟩ := str
  have hvl : vs.length < 64 := by rw [StrsAre.length st, pm.length_eq]; exact hz
  refine wpAny_bind (wpAny_newList ?_ (by rw [sizeLine_eq]; omega))
  have hoL : (h1.push (seqObj "list" vs.toArray 0)).get? h1.objs.size = some (seqObj "list" vs.toArray 0) := Heap.get?_push_size _ rfl
  refine wpAny_bind (wpAny_holding (wpAny_call_entry slot_list_sort ⟨_, hoL, rfl⟩ entry_list_sort (list_sort_treeK (κ := PyProof.Rows.strKind) strKind_oneLt hoL st.keysOf (fun v₁ v₂ rest e => keyKind_strs (by rw [← e]; exact st)) hvl fun st' a1 a2 => ⟨_, rfl, ?_⟩) (args_list_sort _)))
  obtain ⟨ss', b1, b2, b3⟩ := sorted_out_str st a1 a2
  obtain ⟨c, hc⟩ := sortedHeap_at (out := (arrOf st').map (·.2)) hoL
  refine wpAny_pure ⟨_, rfl, h h1.objs.size _ d tk ((arrOf st').map (·.2)).toList ss' c b1 (b2.trans pm) b3 (fun b o e => ?_) hle ?_⟩
  · have e1 := Heap.get?_push_of_some (seqObj "list" vs.toArray 0) (k1 b o e)
    rw [sortedHeap_old (Nat.ne_of_lt (Heap.lt_size (k1 b o e))) (Heap.lt_size e1)]
    exact e1
  · rw [Array.toArray_toList]; exact hc
end
end St

namespace St
open PySem PySem.Spec PyProof.Rows
theorem le_of_lt {a b : Str} : ltCps b.cps.toList a.cps.toList = false ↔ a.cps.toList ≤ b.cps.toList := by
  rw [ltCps_eq, decide_eq_false_iff_not]
  exact Iff.rfl
theorem Jq : ∀ (x : Str) (r : List Str), risingS x r = true → ∀ z ∈ r, x.cps.toList ≤ z.cps.toList
  | x, [], _, z, hz => by cases hz
  | x, y :: r, h, z, hz => by
    have h' : (!ltCps y.cps.toList x.cps.toList && risingS y r) = true := h
    rw [Bool.and_eq_true, Bool.not_eq_true'] at h'
    have xy := le_of_lt.mp h'.1
    rcases List.mem_cons.mp hz with rfl | hz
    · exact xy
    · exact List.le_trans xy (Jq y r h'.2 z hz)
theorem JT {x : Str} {r : List Str} (h : sortedS (x :: r) = true) : sortedS r = true := by
  cases r with
  | nil => rfl
  | cons y r =>
    have h' : (!ltCps y.cps.toList x.cps.toList && risingS y r) = true := h
    rw [Bool.and_eq_true] at h'
    exact h'.2
theorem str_eq {a b : Str} (h : a.cps.toList = b.cps.toList) : a = b := by
  obtain ⟨a⟩ := a
  obtain ⟨b⟩ := b
  congr 1
  exact Array.toList_inj.mp h
theorem Vp : ∀ (a b : List Str), a.Perm b → sortedS a = true → sortedS b = true → a = b
  | [], b, p, _, _ => (List.nil_perm.mp p).symm
  | x :: r, [], p, _, _ => by cases List.perm_nil.mp p
  | x :: r, y :: t, p, ha, hb => by
    have hx : x = y := by
      have h1 : y ∈ x :: r := p.mem_iff.mpr List.mem_cons_self
      have h2 : x ∈ y :: t := p.mem_iff.mp List.mem_cons_self
      rcases List.mem_cons.mp h1 with z | z
      · exact z.symm
      · rcases List.mem_cons.mp h2 with q | q
        · exact q
        · exact str_eq (List.le_antisymm (Jq x r ha y z) (Jq y t hb x q))
    subst hx
    rw [Vp r t (List.Perm.cons_inv p) (JT ha) (JT hb)]
open Classical in
noncomputable def srt (ks : List Str) : List Str := if h : ∃ ss : List Str, ss.Perm ks ∧ sortedS ss = true then h.choose else []
theorem srt_eq {ss ks : List Str} (p : ss.Perm ks) (h : sortedS ss = true) : srt ks = ss := by
  have hx : ∃ ss : List Str, ss.Perm ks ∧ sortedS ss = true := ⟨ss, p, h⟩
  unfold srt
  rw [dif_pos hx]
  exact Vp _ _ (hx.choose_spec.1.trans p.symm) hx.choose_spec.2 h
theorem srt_perm {a b : List Str} (p : a.Perm b) : srt a = srt b := by
  by_cases hx : ∃ ss : List Str, ss.Perm a ∧ sortedS ss = true
  · obtain ⟨ss, q, h⟩ := hx
    rw [srt_eq q h, srt_eq (q.trans p) h]
  · have hy : ¬ ∃ ss : List Str, ss.Perm b ∧ sortedS ss = true := fun ⟨ss, q, h⟩ => hx ⟨ss, q.trans p.symm, h⟩
    unfold srt
    rw [dif_neg hx, dif_neg hy]
end St
namespace Mi
open PySem PySem.Spec PyProof.Rows L2
noncomputable def txW : List W → Option (List Str)
  | [] => some []
  | .str x :: r => (txW r).map (x :: ·)
  | _ => none
@[simp] theorem K8 (l : List Str) : txW (l.map .str) = some l := by
  induction l with
  | nil => rfl
  | cons x l ih => rw [List.map_cons, txW, ih]; rfl
theorem K1 : ∀ {ws : List W} {ss : List Str}, txW ws = some ss → ws = ss.map .str
  | [], ss, e => by cases e; rfl
  | .str x :: r, ss, e => by
    obtain ⟨t, e1, e2⟩ := Option.map_eq_some_iff.mp e
    subst e2
    rw [K1 e1]; rfl
theorem Yp {K : PySem.W.Frag} {R : Rn} : ∀ {ss : List Str} {xs : List V} {us : List Value}, Rws K R (ss.map .str) xs → Vals xs us → StrsAre us ss
  | [], xs, us, r, v => by
    rw [List.map_nil, Rws.nil_iff] at r
    subst r
    cases v
    exact .nil
  | x :: ss, xs, us, r, v => by
    rw [List.map_cons] at r
    unfold Rws at r
    obtain ⟨y, ys, rfl, r1, r2⟩ := r
    unfold Rw at r1
    subst r1
    cases v with
    | cons h t =>
      obtain ⟨c, rfl⟩ := h
      exact .cons x c (Yp r2 t)
theorem JY {K : PySem.W.Frag} {R : Rn} : ∀ {ss : List Str} {us : List Value}, StrsAre us ss → Vals (ss.map V.str) us ∧ Rws K R (ss.map W.str) (ss.map V.str)
  | [], _, .nil => ⟨.nil, by unfold Rws; rfl⟩
  | _ :: _, _, .cons x c h => by
    obtain ⟨a, b⟩ := JY (K := K) (R := R) h
    refine ⟨.cons ⟨c, rfl⟩ a, ?_⟩
    rw [List.map_cons, List.map_cons]
    unfold Rws
    exact ⟨_, _, rfl, by unfold Rw; rfl, b⟩
noncomputable def Xg (ws : List W) (h : MH) : Option (W × MH) := match ws with
  | [a] => (lsW h a).bind fun ys => (txW ys).bind fun ss => if ss.length < 64 then some (.lst ((St.srt ss).map .str), h) else none
  | _ => none
noncomputable def Zo (ws : List W) (h : MH) : Option (W × MH) := match ws with
  | [a] => (lsW h a).bind fun ys => (txW ys).bind fun ss => if ss.length < 4000 ∧ (St.uniq ss).length < 64 then some (.ref h.length, h ++ [.lst ((St.srt (St.uniq ss)).map .str)]) else none
  | _ => none
section
variable {X : Cx}
theorem Vo : CallR X (.builtin "sorted") (Fs X.K Xg) := by
  intro pins s σ H xs us Q I r q
  obtain ⟨R, h, ws, w, h', rh, rws, e, k⟩ := q
  unfold Xg at e
  split at e
  · obtain ⟨ys, e1, e2⟩ := Option.bind_eq_some_iff.mp e
    obtain ⟨ss, e3, e4⟩ := Option.bind_eq_some_iff.mp e2
    split at e4
    · rename_i hz
      cases e4
      obtain ⟨v, rfl, r1⟩ := Ky rws
      obtain ⟨ad, xs, rfl, q1, r2⟩ := rh.lsAt r1 e1
      obtain ⟨u, rfl, ru⟩ := KB r
      cases ru
      rw [K1 e3] at r2
      obtain ⟨its, rv, pl, hl⟩ := I.list q1
      have hS := Yp r2 rv
      refine sorted_strs pl.isList hS (by rw [StrsAre.length hS]; exact hz) fun out ss' a1 a2 a3 => ?_
      obtain ⟨c, hc⟩ := sortedAll_at s.heap its out
      obtain ⟨b1, _⟩ := JY (K := X.K) (R := R) a1
      have hp := I.hok.fresh (Nat.le_succ s.heap.objs.size)
      obtain ⟨R3, x3, rh3, rw3⟩ := rh.lstI hp (JY (K := X.K) (R := R) a1).2
      have := St.srt_eq a2 a3
      rw [this] at k
      refine ⟨.ref (s.heap.objs.size + 1), _, I.laid (t' := s.toks) (fun b o e => sortedAll_old e) (Nat.le_succ _) (show ObjOk X.prog X.w _ _ _ (.lst _) from ⟨?_, out.toList, c, b1, by rw [Array.toArray_toList]; exact hc⟩), rfl, k R3 _ _ x3 rh3 rw3⟩
      rw [List.length_map, a2.length_eq, sizeLine_eq]; omega
    · cases e4
  · cases e
theorem Inv.drew {pins : List (Addr × Obj)} {σ : L2.St} {H : Hp} {s : Shared} (I : Inv X pins σ H s) (d : Drawn) : Inv X pins σ H { s with drawn := d } := ⟨I.ok, I.os, I.bare, I.base, I.loc, I.cell, I.free, I.freeC, I.pin, I.hok, I.len⟩
theorem Jx {e : Expr} {me : ME} {p1 p2 pos1 pos2 : Pos} (hc : X.calm = true) (hg : Gl X "sorted") (hm : X.mg "sorted" = none) (hg2 : Gl X "set") (hm2 : X.mg "set" = none) (he : PM X e me) (hs : ZS e = false := by rfl) :
    PM X (.Call (.Name "sorted" p1) [.Call (.Name "set" p2) [e] [] pos2] [] pos1) (mFn Zo (Qb me Qn)) := by
  intro pins s σ H Q I ⟨R, σi, h, w, h', rh, st, e1, kk⟩
  obtain ⟨⟨as, h2⟩, e2, e3⟩ := Option.bind_eq_some_iff.mp e1
  obtain ⟨⟨a, h1⟩, e4, e5⟩ := Option.bind_eq_some_iff.mp e2
  obtain ⟨⟨bs, h3⟩, e6, e7⟩ := Option.bind_eq_some_iff.mp e5
  cases e6
  cases e7
  refine wpAny_Call_Name_kw (JU I hg hm boot_sorted (PyProof.Rows.callWith_builtin1 ?_ (QK rfl) (ZE rfl)) (by decide) (by decide))
  rw [QK (e := .Call (.Name "set" p2) [e] [] pos2) rfl]
  refine Calls.spliced_cons (wpAny_Call_Name_kw (JU I hg2 hm2 boot_set (PyProof.Rows.callWith_type1 ?_ (QK hs) (ZE rfl)) (by decide) (by decide)))
  rw [QK hs]
  refine Calls.spliced_cons (thn (he pins s σ H (fun v H2 => ∃ R2, Ext R R2 ∧ Rh X.K R2 h1 H2 ∧ Rw X.K R2 a v) I ⟨R, σi, h, a, h1, rh, st, e4, fun R2 H2 v x rh2 ra => ⟨R2, x, rh2, ra⟩⟩) fun u s1 ⟨v, H1, I1, ru, R2, x2, rh2, ra⟩ => Calls.spliced_nil ?_)
  obtain ⟨ys, e8, e9⟩ := Option.bind_eq_some_iff.mp e3
  obtain ⟨ss, e10, e11⟩ := Option.bind_eq_some_iff.mp e9
  split at e11
  · rename_i hz
    cases e11
    obtain ⟨ad, xs, rfl, q1, r2⟩ := rh2.lsAt ra e8
    cases ru
    rw [K1 e10] at r2
    obtain ⟨its, rv, pl, hl⟩ := I1.list q1
    have hS := Yp r2 rv
    have hln := StrsAre.length hS
    refine St.set_list (I1.ok.hd hc) pl.isList (by rw [List.toList_toArray]; exact hS) (by rw [List.size_toArray, hln]; show ss.length + 1 < 4096; omega) fun g1 tk1 hSet k1 => Calls.spliced_nil ?_
    refine St.sortedS' (s := { s1 with heap := g1, toks := tk1 }) (I1.ok.hd hc) hSet hz.2 fun D g2 d tk2 vs so c b1 b2 b3 k2 hle hD => ?_
    obtain ⟨v1, v2⟩ := JY (K := X.K) (R := R2) b1
    have hD' : s1.heap.objs.size ≤ D := Nat.le_trans (Nat.le_of_lt hSet.lt) hle
    have hp := I1.hok.fresh hD'
    have eq := St.srt_eq b2 b3
    obtain ⟨R3, x3, rh3, rw3⟩ := rh2.new (mo := .lst (so.map .str)) (o := .lst (so.map V.str)) hp fun R' x' => ⟨_, rfl, (JY (K := X.K) (R := R') b1).2⟩
    rw [eq] at kk
    refine ⟨.ref D, _, Inv.drew (I1.laid (t' := tk2) (fun b o e => k2 b o (k1 b o (Heap.lt_size e) e)) hD' (show ObjOk X.prog X.w _ _ _ (.lst _) from ⟨?_, vs, c, v1, hD⟩)) d, rfl, kk R3 _ _ (x2.trans x3) rh3 rw3⟩
    rw [List.length_map, b2.length_eq, sizeLine_eq]; omega
  · cases e11
end
end Mi

namespace St
open PySem PySem.Spec PyProof.Rows
open AutoSeq1 (wpAny_loadPart')
theorem Y2 (l : Addr) (items : Array Value) (n : Nat) (dct : Option Addr) (sl : Array (Option Value)) :
    Meets (Builtin.«enumerate.__new__» ⟨[.type "enumerate", .ref l], []⟩) (fun _ R s => s.heap.get? l = some { cls := .type "tuple", dict := dct, data := .seq items n, slots := sl } ∧
      R (.ok (.ret (.ref (s.heap.push { cls := .type "tuple_iterator", data := .fields #[.ref l, .int 0 0] }).objs.size)))
        { s with heap := (s.heap.push { cls := .type "tuple_iterator", data := .fields #[.ref l, .int 0 0] }).push { cls := .type "enumerate", data := .fields #[.none, .bool false, .ref s.heap.objs.size, rawInt 0, .none, .none] } }) :=
  .of_wp fun prog w A R s h => by
    obtain ⟨hp, g, d, tk, os⟩ := s
    obtain ⟨hl, h⟩ := h
    have hsub := sub_enumerate
    have hT : Heap.IsTuple (Shared.heap ⟨hp, g, d, tk, os⟩) l items := ⟨_, hl, rfl, n, rfl⟩
    wp_walk using wpAny_loadPart' hl
    refine wpAny_stack_any fun st => wpAny_pure ?_
    split
    · rename_i c _ _ _ _ _
      cases (c == Value.type "enumerate")
      · wp_walk using wpAny_loadPart' hl, wpAny_pyIter_tuple hT
        exact ⟨_, rfl, h⟩
      · wp_walk using wpAny_loadPart' hl, wpAny_pyIter_tuple hT
        exact ⟨_, rfl, h⟩
    · wp_walk using wpAny_loadPart' hl, wpAny_pyIter_tuple hT
      exact ⟨_, rfl, h⟩
section
variable {prog : Program} {w : World} {A : Around} {E : Value → Shared → Prop} {s : Shared}
theorem enumT {l : Addr} {items : Array Value} {Q : Value → Shared → Prop} (hL : s.heap.IsTuple l items)
    (h : ∀ h', IsEnum h' (s.heap.objs.size + 1) s.heap.objs.size 0 .none → h'.IsTupleIter s.heap.objs.size l 0 → (∀ b o, s.heap.get? b = some o → h'.get? b = some o) → Q (.ref (s.heap.objs.size + 1)) { s with heap := h' }) :
    wpAny (model prog w) A (call (.type "enumerate") [.ref l]) Q E s := by
  obtain ⟨⟨c, dct, dt, sl⟩, hl, hc, n, hd⟩ := hL
  simp only at hc hd
  subst hc hd
  refine callType_new F.called_enumerate (by decide) (F.typeCall_enumerate_1 _) (F.newCall_enumerate_1 _) (fun obj => F.args_object_init_2 obj _) F.entry_enumerate_new (Y2 l items n dct sl) ⟨hl, ?_⟩
  have hz : (s.heap.push { cls := .type "tuple_iterator", data := .fields #[.ref l, .int 0 0] }).objs.size = s.heap.objs.size + 1 := Heap.size_push ..
  show _ ∧ _
  rw [hz]
  have he : IsEnum ((s.heap.push { cls := .type "tuple_iterator", data := .fields #[.ref l, .int 0 0] }).push { cls := .type "enumerate", data := .fields #[.none, .bool false, .ref s.heap.objs.size, rawInt 0, .none, .none] }) (s.heap.objs.size + 1) s.heap.objs.size 0 .none := by
    rw [← hz]; exact Heap.get?_push_size _ rfl
  exact ⟨⟨_, he, rfl⟩, h _ he ⟨_, Heap.get?_push_of_some _ (Heap.get?_push_size _ rfl), rfl, rfl⟩ fun b o x => Heap.get?_push_of_some _ (Heap.get?_push_of_some _ x)⟩
theorem Kx {it l : Addr} {i : Nat} {items : Array Value} {x : Value} {Q : Value → Shared → Prop} (hit : s.heap.IsTupleIter it l i) (hl : s.heap.IsTuple l items) (hx : items[i]? = some x)
    (hQ : ∀ h', h'.IsTupleIter it l (i + 1) → Heap.SameBut it s.heap h' → Q x { s with heap := h' }) : wpAny (model prog w) A (Builtin.SmallTypes.nextOf (.ref it)) Q E s := by
  obtain ⟨o, ho, hc, hd⟩ := id hit
  obtain ⟨ol, hol, _, nl, hdl⟩ := hl
  unfold Builtin.SmallTypes.nextOf
  refine wpAny_bind (wpAny_callSpecial?_slot (name := Str.ofString "__next__") hit.typeIs F.slot_tuple_iterator_next (wpAny_call_entry F.slot_tuple_iterator_next hit.typeIs F.entry_tuple_iterator_next ?_ (F.args_tuple_iterator_next_1 _)))
  refine (show wpAny _ _ (field (.ref it) 0 >>= _) _ _ s from wpAny_bind (wpAny_field ho hd (x := .ref l) rfl (show wpAny _ _ (if (Value.ref l == Value.none) = true then _ else _) _ _ s from ?_)))
  rw [if_neg (show ¬ ((Value.ref l == Value.none) = true) from Bool.false_ne_true)]; refine (show wpAny _ _ (field (.ref it) 1 >>= _) _ _ s from wpAny_bind (wpAny_field ho hd (x := .int i 0) rfl ?_))
  refine (show wpAny _ _ (seqItems? (.ref l) >>= _) _ _ s from wpAny_bind (wpAny_seqItems hol hdl ?_)); simp only [Int.toNat_natCast, hx]
  refine wpAny_bind (wpAny_setField ho hd (by simp) (wpAny_pure ⟨x, rfl, wpAny_pure (hQ _ ⟨_, Heap.get?_update_self _ ho (Obj.isFreed_of_fields (Obj.data_mapFields hd _)), (Obj.cls_mapFields ..).trans hc, by rw [Obj.data_mapFields hd]; simp [rawInt]⟩ (Heap.SameBut.update ..))⟩))
theorem K5 {it l : Addr} {i : Nat} {items : Array Value} {Q : Value → Shared → Prop} (hh : A.handled = none) (hit : s.heap.IsTupleIter it l i) (hl : s.heap.IsTuple l items) (hx : items[i]? = none)
    (hE : ∀ h' e, Heap.ExtBut it s.heap h' → (∃ o, h'.get? e = some o ∧ o.cls = .type "StopIteration") → E (.ref e) { s with heap := h' }) : wpAny (model prog w) A (Builtin.SmallTypes.nextOf (.ref it)) Q E s := by
  obtain ⟨o, ho, hc, hd⟩ := id hit
  obtain ⟨ol, hol, _, nl, hdl⟩ := hl
  unfold Builtin.SmallTypes.nextOf
  refine wpAny_bind (wpAny_callSpecial?_slot (name := Str.ofString "__next__") hit.typeIs F.slot_tuple_iterator_next (wpAny_call_entry F.slot_tuple_iterator_next hit.typeIs F.entry_tuple_iterator_next ?_ (F.args_tuple_iterator_next_1 _)))
  refine (show wpAny _ _ (field (.ref it) 0 >>= _) _ _ s from wpAny_bind (wpAny_field ho hd (x := .ref l) rfl (show wpAny _ _ (if (Value.ref l == Value.none) = true then _ else _) _ _ s from ?_)))
  rw [if_neg (show ¬ ((Value.ref l == Value.none) = true) from Bool.false_ne_true)]; refine (show wpAny _ _ (field (.ref it) 1 >>= _) _ _ s from wpAny_bind (wpAny_field ho hd (x := .int i 0) rfl ?_))
  refine (show wpAny _ _ (seqItems? (.ref l) >>= _) _ _ s from wpAny_bind (wpAny_seqItems hol hdl ?_)); simp only [Int.toNat_natCast, hx]
  refine wpAny_bind (wpAny_rule (wpAny_bind (wpAny_setField ho hd (by simp) (wpAny_bind ?_))))
  simp only [newExc, newTuple]
  refine wpAny_bind (wpAny_newObj_type ?_ (by size_fits))
  refine wpAny_bind (m := firstArgMember _ _) (wpAny_of_eq (a := Value.none) (by first | rfl | (simp only [firstArgMember]; rfl)) (wpAny_newObj_type ?_ (by size_fits)))
  simp only [raiseNew]
  refine wpAny_bind (wpAny_handled ?_)
  first | rw [show A.in1.handled = none from hh] | rw [hh]
  exact wpAny_bind (wpAny_pure (wpAny_throw (hE _ _ (((Heap.SameBut.update ..).extBut.push _).push _) ⟨_, Heap.get?_push_size _ rfl, rfl⟩)))
theorem tit_at {h h' : Heap} {a t : Addr} {i : Nat} (x : h.IsTupleIter a t i) (e : ∀ o, h.get? a = some o → h'.get? a = some o) : h'.IsTupleIter a t i := let ⟨o, ho, r⟩ := x; ⟨o, e _ ho, r⟩
theorem Gp {h h' : Heap} {a : Addr} {items : Array Value} (x : h.IsTuple a items) (e : ∀ o, h.get? a = some o → h'.get? a = some o) : h'.IsTuple a items := let ⟨o, ho, r⟩ := x; ⟨o, e _ ho, r⟩
theorem drawsT (hh : A.handled = none) (it l : Addr) (hne : l ≠ it) (items : Array Value) : Draws prog w A it [it, l] items.size (fun i v => items[i]? = some v) (fun i h => h.IsTupleIter it l i ∧ h.IsTuple l items) where
  live := fun _ _ x => let ⟨o, h, _⟩ := x.1; ⟨o, h⟩
  frame := fun _ _ _ st hk => ⟨tit_at st.1 fun o e => hk it (by simp) o e, Gp st.2 fun o e => hk l (by simp) o e⟩
  item := fun i s Q E hi st hQ => Kx st.1 st.2 (x := items[i]) (by simp [hi]) fun h' hit' sb => hQ _ h' s.toks (by simp [hi]) ⟨hit', st.2.extBut sb.extBut hne⟩ sb
  done := fun s Q E st hE => K5 hh st.1 st.2 (by simp) hE
end
end St

namespace L2
open PySem PySem.Spec PyProof.Rows
noncomputable def Ite (K : PySem.W.Frag) (a : Addr) (n : Nat) : It :=
  ⟨fun i H => i < n ∧ ∃ xs, SqT K H a xs ∧ xs.length = n,
   fun i H v H' => ∃ T x, v = .ref T ∧ H T = none ∧ H' = upd H T (.tup [.int i, x]) ∧ ∀ xs, SqT K H a xs → xs[i]? = some x,
   fun i H => n ≤ i ∧ ∃ xs, SqT K H a xs ∧ xs.length = n⟩
theorem YF {P : Program} {w : World} {K : PySem.W.Frag} {elts : List Expr} {kk : Nat} {pos : Pos} (l e it : Addr) (n : Nat) (hei : e ≠ it) (hle : l ≠ e) (hli : l ≠ it) : Turn P w K (.Tuple elts kk pos) (Ite K l n) [e, it] e (fun i h => i ≤ n ∧ (∃ old, IsEnum h e it i old) ∧ h.IsTupleIter it l i) where
  mem := by simp
  obj := fun i h st b hb => by
    obtain ⟨_, ⟨old, he⟩, ⟨o1, e1, c1, d1⟩⟩ := st
    have hb' : b = e ∨ b = it := by simpa using hb
    rcases hb' with rfl | rfl
    · exact ⟨_, he, fun v q => nomatch q⟩
    · exact ⟨o1, e1, fun v q => by rw [d1] at q; cases q⟩
  keep := fun i h h' st k => by
    obtain ⟨hi, ⟨old, he⟩, h1⟩ := st
    exact ⟨hi, ⟨old, k e (by simp) _ he⟩, St.tit_at h1 fun o x => k it (by simp) o x⟩
  item := by
    intro X hP hw hK hc i pins s σ H E I hf st hg
    subst hP hw hK
    obtain ⟨hi, xs, hq, hn⟩ := hg
    obtain ⟨its, rv, p, hz⟩ := I.tuple hq
    have hl := rv.length
    obtain ⟨_, se, s1⟩ := st
    have W := WalksT.enumerateD (prog := X.prog) (w := X.w) (St.drawsT (A := X.A.in1) (I.ok.hd hc) it l hli its.toArray) e hei (by simp [hei, Ne.symm hle]) (by simp)
    refine W.item i s _ _ (by rw [List.size_toArray]; omega) ⟨se, s1, p⟩ fun T vals h' tk hP hT hTup hMid hk => ?_
    obtain ⟨t, u, hu, rfl⟩ := hP
    refine ⟨.ref T, rfl, W.go elts kk pos i T _ _ _ hMid fun h'' hSt hk2 => ?_⟩
    obtain ⟨x, hx⟩ : ∃ x, xs[i]? = some x := ⟨xs[i]'(by omega), List.getElem?_eq_getElem _⟩
    obtain ⟨v, hv, r⟩ := rv.get hx
    have e1 : v = u := by have := hu; rw [List.getElem?_toArray, hv] at this; exact Option.some.inj this
    subst e1
    have hTw := W.apart i T _ hMid
    have hT2 : IsTup h'' T #[.int i t, v] := by
      obtain ⟨o, ho, hc', q⟩ := hTup
      exact ⟨o, hk2 T o hTw ho, hc', q⟩
    have hHT := I.hok.fresh hT
    refine ⟨.ref T, _, I.turnedN (ch := [e, it]) (t' := tk) (xs := [.int i, x]) (fun b o hb e => hk2 b o hb (hk b o hb e)) hf hT ⟨by simp [sizeLine_eq], [.int i t, v], .cons ⟨t, rfl⟩ (.cons r .nil), hT2⟩, rfl, ⟨T, x, rfl, hHT, rfl, fun ys hy => by rw [I.tuple_inj hy hq]; exact hx⟩, ⟨hi, hSt.1, hSt.2.1⟩, fun b hb => ?_⟩
    rw [Qs (fun q => ?_)]
    · exact (hf b hb).1
    · obtain ⟨o, ho, _⟩ : ∃ o, s.heap.get? b = some o ∧ True := by
        obtain ⟨old, he⟩ := se
        obtain ⟨o1, e1, _⟩ := s1
        have hb' : b = e ∨ b = it := by simpa using hb
        rcases hb' with rfl | rfl
        · exact ⟨_, he, trivial⟩
        · exact ⟨o1, e1, trivial⟩
      rw [q] at ho
      exact absurd (Heap.lt_size ho) (Nat.not_lt.mpr hT)
  done := by
    intro X hP hw hK hc i pins s σ H E I hf st hg
    subst hP hw hK
    obtain ⟨hi, xs, hq, hn⟩ := hg
    obtain ⟨its, rv, p, hz⟩ := I.tuple hq
    have hl := rv.length
    obtain ⟨hi2, se, s1⟩ := st
    have W := WalksT.enumerateD (prog := X.prog) (w := X.w) (St.drawsT (A := X.A.in1) (I.ok.hd hc) it l hli its.toArray) e hei (by simp [hei, Ne.symm hle]) (by simp)
    have hin : its.toArray.size = i := by rw [List.size_toArray]; omega
    refine W.done s _ _ (by rw [hin]; exact ⟨se, s1, p⟩) fun h' tk hk => ⟨rfl, ?_⟩
    exact I.turnedL (ch := [e, it]) (fun b o hb e => hk b o hb e) hf (fun _ _ e => e) (fun _ _ _ n => n) fun b u n e => by rw [n] at e; cases e
  self := fun _ _ _ _ _ st h => let ⟨_, he⟩ := st.2.1; wpAny_pyIter_enum he h
noncomputable def Qar (K : PySem.W.Frag) (ta : TA) : TI := fun σ H R => ta σ H fun vs H1 => ∃ a xs, vs = [.ref a] ∧ SqT K H1 a xs ∧ R (Ite K a xs.length) H1
theorem UJ {X : Cx} {elts : List Expr} {kk : Nat} {tpos : Pos} {a : Expr} {ta : TA} {p pos : Pos} (hg : Gl X "enumerate") (hm : X.mg "enumerate" = none) (ha : PA X [a] ta) (hs : starEach [a] X.env = [(false, eval a X.env)] := by rfl) :
    PI X (.Tuple elts kk tpos) (.Call (.Name "enumerate" p) [a] [] pos) (Qar X.K ta) := by
  intro pins s σ H R I h
  refine Call_ (JU I hg hm boot_enumerate (PyProof.Rows.callWith_type1 (thn (ha pos pins s σ H _ I h) fun us s1 ⟨vs, H1, I1, r1, q1⟩ => ?_) hs rfl))
  obtain ⟨ad, xs, e, hq, q⟩ := q1
  subst e
  obtain ⟨u, rfl, ru⟩ := KB r1
  cases ru
  obtain ⟨its, rv, pl, hz⟩ := I1.tuple hq
  have hlt : ad < s1.heap.objs.size := let ⟨_, ho, _⟩ := pl; Heap.lt_size ho
  refine St.enumT pl fun h' he hit hk => wpAny_pyIter_enum he ?_
  refine ⟨s1.heap.objs.size + 1, [s1.heap.objs.size + 1, s1.heap.objs.size], _, _, H1, rfl, I1.kept (t' := s1.toks) hk, YF ad _ _ xs.length (Nat.succ_ne_self _) (Nat.ne_of_lt (Nat.lt_succ_of_lt hlt)) (Nat.ne_of_lt hlt), ⟨Nat.zero_le _, ⟨_, he⟩, hit⟩, fun b hb => ?_, q⟩
  have hb' : s1.heap.objs.size ≤ b := by
    simp at hb
    rcases hb with h | h <;> (rw [h]; first | exact Nat.le_refl _ | exact Nat.le_add_right _ _)
  exact I1.fpOk hb' (I1.hok.fresh hb')
end L2
namespace Mi
open PySem PySem.Spec PyProof.Rows L2
noncomputable def JB (ws : List W) : List W := ws.zipIdx.map fun q => .tup [.int q.2, q.1]
noncomputable def Kk (ms : MA) : MI := fun σ h => (ms σ h).bind fun p => match p.1 with
  | [.tup ws] => some (JB ws, none, p.2)
  | _ => none
section
variable {K : PySem.W.Frag} {R : Rn}
theorem Yw {a : Addr} {xs : List V} {ws : List W} (hq : SqT K R.F a xs) (r : Rws K R ws xs) : ItOk K R (Ite K a xs.length) (JB ws) none where
  go := fun i w R' h H x rh _ e => by
    have hl := (List.getElem?_eq_some_iff.mp e).1
    have l1 := r.length
    unfold JB at hl
    rw [List.length_map, List.length_zipIdx] at hl
    exact ⟨by omega, xs, QR (fun b o z => rh.sub b o (x.f b o z)) hq, rfl⟩
  yld := fun i w R' h H x H' e rh _ ew hy => by
    obtain ⟨T, x1, rfl, hT, rfl, hx⟩ := hy
    unfold JB at ew
    rw [List.getElem?_map, List.getElem?_zipIdx] at ew
    obtain ⟨⟨w1, j⟩, h1, rfl⟩ := Option.map_eq_some_iff.mp ew
    obtain ⟨w2, h2, h3⟩ := Option.map_eq_some_iff.mp h1
    cases h3
    obtain ⟨v, g1, g2⟩ := r.get h2
    have e1 := hx xs (QR (fun b o z => rh.sub b o (e.f b o z)) hq)
    rw [g1] at e1; cases e1
    rw [Nat.zero_add]
    exact rh.tup hT (Rws.cons (by unfold Rw; rfl) (Rws.cons (Rw.mono e _ _ g2) Rws.nil))
  stop := fun i R' h H x rh _ hl => by
    have l1 := r.length
    unfold JB at hl
    rw [List.length_map, List.length_zipIdx] at hl
    exact ⟨by omega, xs, QR (fun b o z => rh.sub b o (x.f b o z)) hq, rfl⟩
end
section
variable {X : Cx} {tg a : Expr} {ms : MA} {p pos tpos : Pos} {elts : List Expr} {kk : Nat}
theorem Y8 (hg : Gl X "enumerate") (hm : X.mg "enumerate" = none) (ha : PMA X [a] ms) (hs : starEach [a] X.env = [(false, eval a X.env)] := by rfl) : PMI X (.Tuple elts kk tpos) (.Call (.Name "enumerate" p) [a] [] pos) (Kk ms) :=
  WQ (UJ hg hm ha hs) fun σ H C ⟨R, σi, h, items, src, h', rh, st, e, k⟩ => by
    obtain ⟨⟨ws, h1⟩, e1, e2⟩ := Option.bind_eq_some_iff.mp e
    refine ⟨R, σi, h, ws, h1, rh, st, e1, fun R1 H1 vs x1 rh1 rv => ?_⟩
    split at e2
    · rename_i us hj
      simp only at hj
      subst hj
      cases e2
      obtain ⟨v, rfl, r1⟩ := Ky rv
      unfold Rw at r1
      obtain ⟨ad, xs, rfl, hF, rr⟩ := r1
      exact ⟨ad, xs, rfl, QR rh1.sub hF, k R1 H1 _ x1 rh1 (Yw hF rr)⟩
    · cases e2
end
end Mi

namespace My
open PySem PySem.Spec PyProof.Rows L2 Mi
noncomputable def top (i : Nat) : Stmt := PySem.Challenge.pw_doneroom_k05_what_programs_have.main.body.getD i (.Pass ⟨0, 0, 0, 0⟩)
section
variable {P : Program} {w : World} {K : PySem.W.Frag} {mg : Str → Option Value} {base : Heap}
noncomputable abbrev QU : Stmt := top 8
theorem Vt : FnScope ["cell"] ["cell"] (Ql QU) := ⟨rfl, rfl, rfl, by decide +kernel, rfl, by decide +kernel, by decide +kernel⟩
noncomputable def ZA : FM := Jl 0
    (VT (Qo wIx (mFn J8 (Qb (mFn J8 (Qb (mC (.str "z")) (Qb (mC (.str "a")) (Qb (mC (.str "zz")) (Qb (mC (.str "az")) (Qb (mC (.str "b")) Qn)))))) (Qb (mFn J8 (Qb (mC (.str "e")) (Qb (mC (.str "d")) (Qb (mC (.str "c")) (Qb (mC (.str "b")) (Qb (mC (.str "a")) Qn)))))) (Qb (mFn J8 (Qb (mC (.str "ab")) (Qb (mC (.str "a")) (Qb (mC (.str "abcdefgh")) (Qb (mC (.str "abc")) (Qb (mC (.str "b")) Qn)))))) (Qb (mFn J8 (Qb (mC (.str "q")) (Qb (mC (.str "w")) (Qb (mC (.str "e")) (Qb (mC (.str "r")) (Qb (mC (.str "t")) Qn)))))) Qn))))) (Qo JN (Qg 0) (mC (.int 4)))))
set_option maxHeartbeats 4000000 in
theorem Vc (d : DefAt K mg "_law_names" QU ["cell"]) : Cal P w K mg base 1 "_law_names" ["cell"] ZA := by
  refine ZN (k := 0) (more := 0) d Vt rfl fun f cdv A outer s H E hr => ?_
  have hu := hr.units
  refine Qp ?_
  refine QI ?_
  refine QP ?_ ?_
  refine Zt ?_
  refine Qa ?_ ?_
  refine Zt ?_
  refine Qa ?_ ?_
  exact Qf
  refine Qa ?_ ?_
  exact Qf
  refine Qa ?_ ?_
  exact Qf
  refine Qa ?_ ?_
  exact Qf
  refine Qa ?_ ?_
  exact Qf
  exact Qc
  refine Qa ?_ ?_
  refine Zt ?_
  refine Qa ?_ ?_
  exact Qf
  refine Qa ?_ ?_
  exact Qf
  refine Qa ?_ ?_
  exact Qf
  refine Qa ?_ ?_
  exact Qf
  refine Qa ?_ ?_
  exact Qf
  exact Qc
  refine Qa ?_ ?_
  refine Zt ?_
  refine Qa ?_ ?_
  exact Qf
  refine Qa ?_ ?_
  exact Qf
  refine Qa ?_ ?_
  exact Qf
  refine Qa ?_ ?_
  exact Qf
  refine Qa ?_ ?_
  exact Qf
  exact Qc
  refine Qa ?_ ?_
  refine Zt ?_
  refine Qa ?_ ?_
  exact Qf
  refine Qa ?_ ?_
  exact Qf
  refine Qa ?_ ?_
  exact Qf
  refine Qa ?_ ?_
  exact Qf
  refine Qa ?_ ?_
  exact Qf
  exact Qc
  exact Qc
  refine QD Q9 Qk ?_ ?_
  exact Qd 0
  exact Qi
noncomputable def Qy : FM := box frN ZA
theorem J9 (d : DefAt K mg "_law_names" QU ["cell"]) : Cal P w K mg base 1 "_law_names" ["cell"] Qy := (Vc d).box frN
noncomputable abbrev Q7 : Stmt := top 7
theorem Xd : FnScope ["script", "k"] ["script", "k"] (Ql Q7) := ⟨rfl, rfl, rfl, by decide +kernel, rfl, by decide +kernel, by decide +kernel⟩
noncomputable def Zd : FM := Jl 0
    (Zw (XC (QV (Qo wLt (Qg 1) (mFn KW (Qb (Qg 0) Qn)))) (VT (Qo JN (Qo wIx (Qg 0) (Qg 1)) (Qo UY (mC (.int 10)) (mC (.int 40))))) Jb)
    (VT (Qo XH (Qo VY (Qo VY (Qo JA (Qg 1) (mC (.int 2))) (mC (.int 86028121))) (Qo JA (Qg 1) (mC (.int 6)))) (mC (.int 11)))))
set_option maxHeartbeats 4000000 in
theorem Vv (d : DefAt K mg "_law_cell" Q7 ["script", "k"]) (b_len : mg "len" = none) : Cal P w K mg base 1 "_law_cell" ["script", "k"] Zd := by
  refine ZN (k := 0) (more := 0) d Xd rfl fun f cdv A outer s H E hr => ?_
  have hu := hr.units
  refine Qh ?_ ?_
  refine ZW ?_ ?_ ?_
  refine QQ WL Qk ?_ ?_
  exact Qd 1
  refine Zs Jn QT ?_ ?_ PySem.boot_len ?_ ?_ ?_ ?_ ?_
  exact rfl
  exact b_len
  refine Qa ?_ ?_
  exact Qd 0
  exact Qc
  decide
  decide
  exact rfl
  exact rfl
  refine Qp ?_
  refine QI ?_
  refine QD Q9 Qk ?_ ?_
  refine QP ?_ ?_
  exact Qd 0
  exact Qd 1
  refine QD Ug Qk ?_ ?_
  exact Qi
  exact Qi
  exact Zl
  refine Qp ?_
  refine QI ?_
  refine QD ZQ Qk ?_ ?_
  refine QD VE Qk ?_ ?_
  refine QD VE Qk ?_ ?_
  refine QD Zb Qk ?_ ?_
  exact Qd 1
  exact Qi
  exact Qi
  refine QD Zb Qk ?_ ?_
  exact Qd 1
  exact Qi
  exact Qi
noncomputable def Qe : FM := box frN Zd
theorem Vy (d : DefAt K mg "_law_cell" Q7 ["script", "k"]) (b_len : mg "len" = none) : Cal P w K mg base 1 "_law_cell" ["script", "k"] Qe := (Vv d b_len).box frN
noncomputable abbrev Q8 : Stmt := top 9
theorem sc__law_line : FnScope ["cell", "boxes", "words", "x", "y", "z", "w"] ["cell", "boxes", "words"] (Ql Q8) := ⟨rfl, rfl, rfl, by decide +kernel, rfl, by decide +kernel, by decide +kernel⟩
noncomputable def ZH : FM := Jl 4
    (Zw (J5 3 (Qo wIx (Qg 1) (Qo JN (Qo XH (Qg 0) (mC (.int 12))) (mC (.int 5)))))
    (Zw (J5 4 (Qo wIx (Qg 1) (Qo JN (Qo XH (Qg 0) (mC (.int 60))) (mC (.int 5)))))
    (Zw (J5 5 (Qo wIx (Qg 1) (Qo JN (Qo XH (Qg 0) (mC (.int 300))) (mC (.int 5)))))
    (Zw (J5 6 (Qo wIx (Qg 2) (Qo JN (Qo XH (Qg 0) (mC (.int 1500))) (mC (.int 5)))))
    (VT (Qo wIx (mFn J8 (Qb (mFn Z8 (Qb (mC (.str "pair")) (Qb (Qg 3) (Qb (Qg 6) (Qb (Qg 4) (Qb (Qg 5) Qn)))))) (Qb (mFn Z8 (Qb (mC (.str "first")) (Qb (Qg 3) (Qb (Qg 4) Qn)))) (Qb (mFn Z8 (Qb (mC (.str "second")) (Qb (Qg 3) (Qb (Qg 4) Qn)))) (Qb (mFn Z8 (Qb (mC (.str "same")) (Qb (Qg 3) (Qb (Qg 4) Qn)))) (Qb (mFn Z8 (Qb (mC (.str "none")) (Qb (Qg 3) Qn))) (Qb (mFn Z8 (Qb (mC (.str "tell")) (Qb (Qg 4) Qn))) (Qb (mFn Z8 (Qb (mC (.str "back")) (Qb (Qg 6) Qn))) (Qb (mFn Z8 (Qb (mC (.str "same")) (Qb (Qg 5) (Qb (Qg 3) Qn)))) (Qb (mFn Z8 (Qb (mC (.str "back")) (Qb (Qg 6) Qn))) (Qb (mFn Z8 (Qb (mC (.str "pair")) (Qb (Qg 3) (Qb (Qg 6) (Qb (Qg 3) (Qb (Qg 3) Qn)))))) (Qb (mFn Z8 (Qb (mC (.str "tell")) (Qb (Qg 3) Qn))) (Qb (mFn Z8 (Qb (mC (.str "none")) (Qb (Qg 5) Qn))) Qn))))))))))))) (Qo JN (Qg 0) (mC (.int 12)))))))))
set_option maxHeartbeats 4000000 in
theorem VI (d : DefAt K mg "_law_line" Q8 ["cell", "boxes", "words"]) : Cal P w K mg base 1 "_law_line" ["cell", "boxes", "words"] ZH := by
  refine ZN (k := 0) (more := 4) d sc__law_line rfl fun f cdv A outer s H E hr => ?_
  have hu := hr.units
  refine Qh ?_ ?_
  refine QB ?_ ?_ ?_ ?_ ?_ ?_
  exact sc__law_line.nd
  exact rfl
  exact (Or.inl rfl)
  refine QP ?_ ?_
  exact Qd 1
  refine QD Q9 Qk ?_ ?_
  refine QD ZQ Qk ?_ ?_
  exact Qd 0
  exact Qi
  exact Qi
  exact rfl
  first | exact .inl rfl | exact .inr rfl
  refine Qh ?_ ?_
  refine QB ?_ ?_ ?_ ?_ ?_ ?_
  exact sc__law_line.nd
  exact rfl
  exact (Or.inl rfl)
  refine QP ?_ ?_
  exact Qd 1
  refine QD Q9 Qk ?_ ?_
  refine QD ZQ Qk ?_ ?_
  exact Qd 0
  exact Qi
  exact Qi
  exact rfl
  first | exact .inl rfl | exact .inr rfl
  refine Qh ?_ ?_
  refine QB ?_ ?_ ?_ ?_ ?_ ?_
  exact sc__law_line.nd
  exact rfl
  exact (Or.inl rfl)
  refine QP ?_ ?_
  exact Qd 1
  refine QD Q9 Qk ?_ ?_
  refine QD ZQ Qk ?_ ?_
  exact Qd 0
  exact Qi
  exact Qi
  exact rfl
  first | exact .inl rfl | exact .inr rfl
  refine Qh ?_ ?_
  refine QB ?_ ?_ ?_ ?_ ?_ ?_
  exact sc__law_line.nd
  exact rfl
  exact (Or.inl rfl)
  refine QP ?_ ?_
  exact Qd 2
  refine QD Q9 Qk ?_ ?_
  refine QD ZQ Qk ?_ ?_
  exact Qd 0
  exact Qi
  exact Qi
  exact rfl
  first | exact .inl rfl | exact .inr rfl
  refine Qp ?_
  refine QI ?_
  refine QP ?_ ?_
  refine Zt ?_
  refine Qa ?_ ?_
  refine QH ?_
  refine Qa ?_ ?_
  exact Qf
  refine Qa ?_ ?_
  exact Qd 3
  refine Qa ?_ ?_
  exact Qd 6
  refine Qa ?_ ?_
  exact Qd 4
  refine Qa ?_ ?_
  exact Qd 5
  exact Qc
  refine Qa ?_ ?_
  refine QH ?_
  refine Qa ?_ ?_
  exact Qf
  refine Qa ?_ ?_
  exact Qd 3
  refine Qa ?_ ?_
  exact Qd 4
  exact Qc
  refine Qa ?_ ?_
  refine QH ?_
  refine Qa ?_ ?_
  exact Qf
  refine Qa ?_ ?_
  exact Qd 3
  refine Qa ?_ ?_
  exact Qd 4
  exact Qc
  refine Qa ?_ ?_
  refine QH ?_
  refine Qa ?_ ?_
  exact Qf
  refine Qa ?_ ?_
  exact Qd 3
  refine Qa ?_ ?_
  exact Qd 4
  exact Qc
  refine Qa ?_ ?_
  refine QH ?_
  refine Qa ?_ ?_
  exact Qf
  refine Qa ?_ ?_
  exact Qd 3
  exact Qc
  refine Qa ?_ ?_
  refine QH ?_
  refine Qa ?_ ?_
  exact Qf
  refine Qa ?_ ?_
  exact Qd 4
  exact Qc
  refine Qa ?_ ?_
  refine QH ?_
  refine Qa ?_ ?_
  exact Qf
  refine Qa ?_ ?_
  exact Qd 6
  exact Qc
  refine Qa ?_ ?_
  refine QH ?_
  refine Qa ?_ ?_
  exact Qf
  refine Qa ?_ ?_
  exact Qd 5
  refine Qa ?_ ?_
  exact Qd 3
  exact Qc
  refine Qa ?_ ?_
  refine QH ?_
  refine Qa ?_ ?_
  exact Qf
  refine Qa ?_ ?_
  exact Qd 6
  exact Qc
  refine Qa ?_ ?_
  refine QH ?_
  refine Qa ?_ ?_
  exact Qf
  refine Qa ?_ ?_
  exact Qd 3
  refine Qa ?_ ?_
  exact Qd 6
  refine Qa ?_ ?_
  exact Qd 3
  refine Qa ?_ ?_
  exact Qd 3
  exact Qc
  refine Qa ?_ ?_
  refine QH ?_
  refine Qa ?_ ?_
  exact Qf
  refine Qa ?_ ?_
  exact Qd 3
  exact Qc
  refine Qa ?_ ?_
  refine QH ?_
  refine Qa ?_ ?_
  exact Qf
  refine Qa ?_ ?_
  exact Qd 5
  exact Qc
  exact Qc
  refine QD Q9 Qk ?_ ?_
  exact Qd 0
  exact Qi
noncomputable def QN : FM := box frN ZH
theorem Vx (d : DefAt K mg "_law_line" Q8 ["cell", "boxes", "words"]) : Cal P w K mg base 1 "_law_line" ["cell", "boxes", "words"] QN := (VI d).box frN
noncomputable abbrev QE : Stmt := top 10
theorem sc__law_program : FnScope ["script", "boxes", "words", "parts", "k", "lines", "j"] ["script"] (Ql QE) := ⟨rfl, rfl, rfl, by decide +kernel, rfl, by decide +kernel, by decide +kernel⟩
noncomputable abbrev Q2 : SM := (ZO (mMt "list" Zy (Qg 5) (Qb (Qw 3 QN (Qb (Qw 2 Qe (Qb (Qg 0) (Qb (Qo JA (Qo JA (mC (.int 7)) (Qo VY (mC (.int 6)) (Qg 4))) (Qg 6)) Qn))) (Qb (Qg 1) (Qb (Qg 2) Qn)))) Qn)))
noncomputable abbrev QG : SM := (Zw (J5 5 (mFn KK Qn))
    (Zw (J4 (XD (Qb (Qo JN (Qw 2 Qe (Qb (Qg 0) (Qb (Qo JA (mC (.int 2)) (Qg 4)) Qn))) (mC (.int 7))) Qn)) (Je 6)
    Q2)
    (Zw (XC (KH (QV (Qo wLt (Qg 4) (Qo JN (Qw 2 Qe (Qb (Qg 0) (Qb (mC (.int 1)) Qn))) (mC (.int 5))))) (QV (Qo wGt (Qo JN (Qo XH (Qw 2 Qe (Qb (Qg 0) (Qb (Qo JA (mC (.int 2)) (Qg 4)) Qn))) (mC (.int 7))) (mC (.int 3))) (mC (.int 0))))) (ZO (mMt "list" Zy (Qg 5) (Qb (mFn Z8 (Qb (mC (.str "do")) (Qb (Qo wIx (mFn J8 (Qb (mC (.str "l")) (Qb (mC (.str "k")) (Qb (mC (.str "a")) (Qb (mC (.str "zz")) Qn))))) (Qg 4)) Qn))) Qn))) Jb)
    (Zw (XC (QV (Qo wEq (Qo JN (Qo XH (Qw 2 Qe (Qb (Qg 0) (Qb (Qo JA (mC (.int 2)) (Qg 4)) Qn))) (mC (.int 21))) (mC (.int 3))) (mC (.int 0)))) (J5 5 (Qo JA (Qo JA (mFn J8 (Qb (mFn Z8 (Qb (mC (.str "either")) Qn)) Qn)) (Qg 5)) (mFn J8 (Qb (mFn Z8 (Qb (mC (.str "or")) Qn)) (Qb (mFn Z8 (Qb (mC (.str "end")) Qn)) Qn))))) Jb)
    (ZO (mMt "list" Zy (Qg 3) (Qb (mFn Z8 (Qb (Qo wIx (mFn J8 (Qb (mC (.str "m")) (Qb (mC (.str "l")) (Qb (mC (.str "k")) (Qb (mC (.str "a")) (Qb (mC (.str "zz")) Qn)))))) (Qg 4)) (Qb (mFn JP (Qb (Qg 5) Qn)) Qn))) Qn)))))))
noncomputable def Za : FM := Jl 6
    (Zw (J5 1 (Qw 1 Qy (Qb (Qw 2 Qe (Qb (Qg 0) (Qb (mC (.int 0)) Qn))) Qn)))
    (Zw (J5 2 (Qw 1 Qy (Qb (Qo XH (Qw 2 Qe (Qb (Qg 0) (Qb (mC (.int 0)) Qn))) (mC (.int 4))) Qn)))
    (Zw (J5 3 (mFn KK Qn))
    (Zw (J4 (XD (Qb (Qo JA (mC (.int 1)) (Qo JN (Qw 2 Qe (Qb (Qg 0) (Qb (mC (.int 1)) Qn))) (mC (.int 5)))) Qn)) (Je 4)
    QG)
    (VT (mFn JP (Qb (Qg 3) Qn)))))))
set_option maxHeartbeats 4000000 in
theorem JD (d : DefAt K mg "_law_program" QE ["script"]) (b_range : mg "range" = none) (b_tuple : mg "tuple" = none) (c__law_cell : Cal P w K mg base 1 "_law_cell" ["script", "k"] Qe) (c__law_line : Cal P w K mg base 1 "_law_line" ["cell", "boxes", "words"] QN) (c__law_names : Cal P w K mg base 1 "_law_names" ["cell"] Qy) : Cal P w K mg base 2 "_law_program" ["script"] Za := by
  refine ZN (k := 1) (more := 6) d sc__law_program rfl fun f cdv A outer s H E hr => ?_
  have hu := hr.units
  refine Qh ?_ ?_
  refine QB ?_ ?_ ?_ ?_ ?_ ?_
  exact sc__law_program.nd
  exact rfl
  exact (Or.inl rfl)
  refine Qr (k := 1) (ps := ["cell"]) ?_ ?_ ?_ ?_ ?_ ?_ ?_ ?_
  exact c__law_names
  exact hr.mono (by decide)
  exact rfl
  refine Qa ?_ ?_
  refine Qr (k := 1) (ps := ["script", "k"]) ?_ ?_ ?_ ?_ ?_ ?_ ?_ ?_
  exact c__law_cell
  exact hr.mono (by decide)
  exact rfl
  refine Qa ?_ ?_
  exact Qd 0
  refine Qa ?_ ?_
  exact Qi
  exact Qc
  exact rfl
  decide
  exact rfl
  exact rfl
  exact Qc
  exact rfl
  decide
  exact rfl
  exact rfl
  exact rfl
  first | exact .inl rfl | exact .inr rfl
  refine Qh ?_ ?_
  refine QB ?_ ?_ ?_ ?_ ?_ ?_
  exact sc__law_program.nd
  exact rfl
  exact (Or.inl rfl)
  refine Qr (k := 1) (ps := ["cell"]) ?_ ?_ ?_ ?_ ?_ ?_ ?_ ?_
  exact c__law_names
  exact hr.mono (by decide)
  exact rfl
  refine Qa ?_ ?_
  refine QD ZQ Qk ?_ ?_
  refine Qr (k := 1) (ps := ["script", "k"]) ?_ ?_ ?_ ?_ ?_ ?_ ?_ ?_
  exact c__law_cell
  exact hr.mono (by decide)
  exact rfl
  refine Qa ?_ ?_
  exact Qd 0
  refine Qa ?_ ?_
  exact Qi
  exact Qc
  exact rfl
  decide
  exact rfl
  exact rfl
  exact Qi
  exact Qc
  exact rfl
  decide
  exact rfl
  exact rfl
  exact rfl
  first | exact .inl rfl | exact .inr rfl
  refine Qh ?_ ?_
  refine QB ?_ ?_ ?_ ?_ ?_ ?_
  exact sc__law_program.nd
  exact rfl
  exact (Or.inl rfl)
  refine Jw ?_
  exact Qc
  exact rfl
  first | exact .inl rfl | exact .inr rfl
  refine Qh ?_ ?_
  refine ZJ ?_ ?_ ?_ ?_ ?_ ?_
  exact PassesOwn.never
  exact rfl
  refine Vj ?_ ?_ ?_ ?_
  exact rfl
  exact b_range
  refine Qa ?_ ?_
  refine QD Zb Qk ?_ ?_
  exact Qi
  refine QD Q9 Qk ?_ ?_
  refine Qr (k := 1) (ps := ["script", "k"]) ?_ ?_ ?_ ?_ ?_ ?_ ?_ ?_
  exact c__law_cell
  exact hr.mono (by decide)
  exact rfl
  refine Qa ?_ ?_
  exact Qd 0
  refine Qa ?_ ?_
  exact Qi
  exact Qc
  exact rfl
  decide
  exact rfl
  exact rfl
  exact Qi
  exact Qc
  exact rfl
  exact QF (i := 4) (x := "k") sc__law_program.nd rfl (Or.inl rfl)
  refine Qh ?_ ?_
  refine QB ?_ ?_ ?_ ?_ ?_ ?_
  exact sc__law_program.nd
  exact rfl
  exact (Or.inl rfl)
  refine Jw ?_
  exact Qc
  exact rfl
  first | exact .inl rfl | exact .inr rfl
  refine Qh ?_ ?_
  refine ZJ ?_ ?_ ?_ ?_ ?_ ?_
  exact PassesOwn.never
  exact rfl
  refine Vj ?_ ?_ ?_ ?_
  exact rfl
  exact b_range
  refine Qa ?_ ?_
  refine QD Q9 Qk ?_ ?_
  refine Qr (k := 1) (ps := ["script", "k"]) ?_ ?_ ?_ ?_ ?_ ?_ ?_ ?_
  exact c__law_cell
  exact hr.mono (by decide)
  exact rfl
  refine Qa ?_ ?_
  exact Qd 0
  refine Qa ?_ ?_
  refine QD Zb Qk ?_ ?_
  exact Qi
  exact Qd 4
  exact Qc
  exact rfl
  decide
  exact rfl
  exact rfl
  exact Qi
  exact Qc
  exact rfl
  exact QF (i := 6) (x := "j") sc__law_program.nd rfl (Or.inl rfl)
  refine Qp ?_
  refine QC ?_
  refine Vz PySem.F.plainAttrs_list PySem.F.slot_list_append PySem.F.type_list_append ZC ?_ ?_
  exact Qd 5
  refine Qa ?_ ?_
  refine Qr (k := 1) (ps := ["cell", "boxes", "words"]) ?_ ?_ ?_ ?_ ?_ ?_ ?_ ?_
  exact c__law_line
  exact hr.mono (by decide)
  exact rfl
  refine Qa ?_ ?_
  refine Qr (k := 1) (ps := ["script", "k"]) ?_ ?_ ?_ ?_ ?_ ?_ ?_ ?_
  exact c__law_cell
  exact hr.mono (by decide)
  exact rfl
  refine Qa ?_ ?_
  exact Qd 0
  refine Qa ?_ ?_
  refine QD Zb Qk ?_ ?_
  refine QD Zb Qk ?_ ?_
  exact Qi
  refine QD VE Qk ?_ ?_
  exact Qi
  exact Qd 4
  exact Qd 6
  exact Qc
  exact rfl
  decide
  exact rfl
  exact rfl
  refine Qa ?_ ?_
  exact Qd 1
  refine Qa ?_ ?_
  exact Qd 2
  exact Qc
  exact rfl
  decide
  exact rfl
  exact rfl
  exact Qc
  exact fun _ => rfl
  refine Qh ?_ ?_
  refine ZW ?_ ?_ ?_
  refine PMW.pt ?_
  refine UA ?_ ?_
  refine QQ WL Qk ?_ ?_
  exact Qd 4
  refine QD Q9 Qk ?_ ?_
  refine Qr (k := 1) (ps := ["script", "k"]) ?_ ?_ ?_ ?_ ?_ ?_ ?_ ?_
  exact c__law_cell
  exact hr.mono (by decide)
  exact rfl
  refine Qa ?_ ?_
  exact Qd 0
  refine Qa ?_ ?_
  exact Qi
  exact Qc
  exact rfl
  decide
  exact rfl
  exact rfl
  exact Qi
  refine YX ?_
  refine QQ Gm Qk ?_ ?_
  refine QD Q9 Qk ?_ ?_
  refine QD ZQ Qk ?_ ?_
  refine Qr (k := 1) (ps := ["script", "k"]) ?_ ?_ ?_ ?_ ?_ ?_ ?_ ?_
  exact c__law_cell
  exact hr.mono (by decide)
  exact rfl
  refine Qa ?_ ?_
  exact Qd 0
  refine Qa ?_ ?_
  refine QD Zb Qk ?_ ?_
  exact Qi
  exact Qd 4
  exact Qc
  exact rfl
  decide
  exact rfl
  exact rfl
  exact Qi
  exact Qi
  exact Qi
  refine Qp ?_
  refine QC ?_
  refine Vz PySem.F.plainAttrs_list PySem.F.slot_list_append PySem.F.type_list_append ZC ?_ ?_
  exact Qd 5
  refine Qa ?_ ?_
  refine QH ?_
  refine Qa ?_ ?_
  exact Qf
  refine Qa ?_ ?_
  refine QP ?_ ?_
  refine Zt ?_
  refine Qa ?_ ?_
  exact Qf
  refine Qa ?_ ?_
  exact Qf
  refine Qa ?_ ?_
  exact Qf
  refine Qa ?_ ?_
  exact Qf
  exact Qc
  exact Qd 4
  exact Qc
  exact Qc
  exact Zl
  refine Qh ?_ ?_
  refine ZW ?_ ?_ ?_
  refine QQ (VX ?_) Qk ?_ ?_
  exact hu
  refine QD Q9 Qk ?_ ?_
  refine QD ZQ Qk ?_ ?_
  refine Qr (k := 1) (ps := ["script", "k"]) ?_ ?_ ?_ ?_ ?_ ?_ ?_ ?_
  exact c__law_cell
  exact hr.mono (by decide)
  exact rfl
  refine Qa ?_ ?_
  exact Qd 0
  refine Qa ?_ ?_
  refine QD Zb Qk ?_ ?_
  exact Qi
  exact Qd 4
  exact Qc
  exact rfl
  decide
  exact rfl
  exact rfl
  exact Qi
  exact Qi
  exact Qi
  refine Qp ?_
  refine QB ?_ ?_ ?_ ?_ ?_ ?_
  exact sc__law_program.nd
  exact rfl
  exact (Or.inl rfl)
  refine QD Zb Qk ?_ ?_
  refine QD Zb Qk ?_ ?_
  refine Zt ?_
  refine Qa ?_ ?_
  refine QH ?_
  refine Qa ?_ ?_
  exact Qf
  exact Qc
  exact Qc
  exact Qd 5
  refine Zt ?_
  refine Qa ?_ ?_
  refine QH ?_
  refine Qa ?_ ?_
  exact Qf
  exact Qc
  refine Qa ?_ ?_
  refine QH ?_
  refine Qa ?_ ?_
  exact Qf
  exact Qc
  exact Qc
  exact rfl
  first | exact .inl rfl | exact .inr rfl
  exact Zl
  refine Qp ?_
  refine QC ?_
  refine Vz PySem.F.plainAttrs_list PySem.F.slot_list_append PySem.F.type_list_append ZC ?_ ?_
  exact Qd 3
  refine Qa ?_ ?_
  refine QH ?_
  refine Qa ?_ ?_
  refine QP ?_ ?_
  refine Zt ?_
  refine Qa ?_ ?_
  exact Qf
  refine Qa ?_ ?_
  exact Qf
  refine Qa ?_ ?_
  exact Qf
  refine Qa ?_ ?_
  exact Qf
  refine Qa ?_ ?_
  exact Qf
  exact Qc
  exact Qd 4
  refine Qa ?_ ?_
  refine JV J1 QT ?_ ?_ PyProof.Rows.boot_tuple ?_ ?_ ?_ ?_ ?_
  exact rfl
  exact b_tuple
  refine Qa ?_ ?_
  exact Qd 5
  exact Qc
  decide
  decide
  exact rfl
  exact rfl
  exact Qc
  exact Qc
  exact fun _ => rfl
  refine Qp ?_
  refine QI ?_
  refine JV J1 QT ?_ ?_ PyProof.Rows.boot_tuple ?_ ?_ ?_ ?_ ?_
  exact rfl
  exact b_tuple
  refine Qa ?_ ?_
  exact Qd 3
  exact Qc
  decide
  decide
  exact rfl
  exact rfl
noncomputable def Qv : FM := box frN Za
theorem JC (d : DefAt K mg "_law_program" QE ["script"]) (b_range : mg "range" = none) (b_tuple : mg "tuple" = none) (c__law_cell : Cal P w K mg base 1 "_law_cell" ["script", "k"] Qe) (c__law_line : Cal P w K mg base 1 "_law_line" ["cell", "boxes", "words"] QN) (c__law_names : Cal P w K mg base 1 "_law_names" ["cell"] Qy) : Cal P w K mg base 2 "_law_program" ["script"] Qv := (JD d b_range b_tuple c__law_cell c__law_line c__law_names).box frN
noncomputable abbrev QS : Stmt := top 11
theorem VD : FnScope ["found", "name"] ["found", "name"] (Ql QS) := ⟨rfl, rfl, rfl, by decide +kernel, rfl, by decide +kernel, by decide +kernel⟩
noncomputable def Q4 : FM := Jl 0
    (XC (QV (Qo (wIn true) (Qg 1) (Qg 0))) (ZO (mMt "list" Zy (Qg 0) (Qb (Qg 1) Qn))) Jb)
set_option maxHeartbeats 4000000 in
theorem J7 (d : DefAt K mg "_law_added" QS ["found", "name"]) : Cal P w K mg base 1 "_law_added" ["found", "name"] Q4 := by
  refine ZN (k := 0) (more := 0) d VD rfl fun f cdv A outer s H E hr => ?_
  have hu := hr.units
  refine Qp ?_
  refine ZW ?_ ?_ ?_
  refine QQ (Yu ?_) Qk ?_ ?_
  exact hu
  exact Qd 1
  exact Qd 0
  refine Qp ?_
  refine QC ?_
  refine Vz PySem.F.plainAttrs_list PySem.F.slot_list_append PySem.F.type_list_append ZC ?_ ?_
  exact Qd 0
  refine Qa ?_ ?_
  exact Qd 1
  exact Qc
  exact Zl
noncomputable def Qj : FM := box frN Q4
theorem Va (d : DefAt K mg "_law_added" QS ["found", "name"]) : Cal P w K mg base 1 "_law_added" ["found", "name"] Qj := (J7 d).box frN
noncomputable abbrev Q0 : Stmt := top 12
theorem sc__law_due : FnScope ["program", "boxes", "words", "places", "number", "part", "line"] ["program"] (Ql Q0) := ⟨rfl, rfl, rfl, by decide +kernel, rfl, by decide +kernel, by decide +kernel⟩
noncomputable abbrev ZM : SM := (Zw (XC (QV (Qo wEq (Qo wIx (Qg 6) (mC (.int 0))) (mC (.str "pair")))) (Zw (ZO (Qw 2 Qj (Qb (Qg 2) (Qb (Qo wIx (Qg 6) (mC (.int 2))) Qn))))
    (Zw (ZO (Qw 2 Qj (Qb (Qg 1) (Qb (Qo wIx (Qg 6) (mC (.int 3))) Qn))))
    (ZO (Qw 2 Qj (Qb (Qg 1) (Qb (Qo wIx (Qg 6) (mC (.int 4))) Qn)))))) Jb)
    (Zw (XC (QV (Qo (wIn false) (Qo wIx (Qg 6) (mC (.int 0))) (mFn Z8 (Qb (mC (.str "pair")) (Qb (mC (.str "first")) (Qb (mC (.str "second")) (Qb (mC (.str "same")) (Qb (mC (.str "none")) (Qb (mC (.str "tell")) Qn))))))))) (ZO (Qw 2 Qj (Qb (Qg 1) (Qb (Qo wIx (Qg 6) (mC (.int 1))) Qn)))) Jb)
    (XC (QV (Qo (wIn false) (Qo wIx (Qg 6) (mC (.int 0))) (mFn Z8 (Qb (mC (.str "first")) (Qb (mC (.str "second")) (Qb (mC (.str "same")) Qn)))))) (ZO (Qw 2 Qj (Qb (Qg 1) (Qb (Qo wIx (Qg 6) (mC (.int 2))) Qn)))) Jb)))
noncomputable abbrev ZF : SM := (Zw (J4 (Zx (Qo wIx (Qg 5) (mC (.int 1)))) (Je 6)
    ZM)
    (ZO (mMt "list" Jp (Qg 3) (Qb (Jh Ki (XD (Qb (Qo JA (mFn KW (Qb (Qo wIx (Qg 5) (mC (.int 1))) Qn)) (mC (.int 1))) Qn)) [none, some 4] (Je 0) YJ (mFn Z8 (Qb (Qg 1) (Qb (Qg 0) Qn)))) Qn))))
noncomputable def ZZ : FM := Jl 6
    (Zw (J5 1 (mFn KK Qn))
    (Zw (J5 2 (mFn KK Qn))
    (Zw (J5 3 (mFn KK Qn))
    (Zw (J4 (Kk (Qb (Qg 0) Qn)) (YM [4, 5])
    ZF)
    (VT (mFn J8 (Qb (mFn Xg (Qb (Qg 1) Qn)) (Qb (mFn Xg (Qb (Qg 2) Qn)) (Qb (Qg 3) Qn)))))))))
set_option maxHeartbeats 4000000 in
theorem Xc (d : DefAt K mg "_law_due" Q0 ["program"]) (b_enumerate : mg "enumerate" = none) (b_len : mg "len" = none) (b_range : mg "range" = none) (b_sorted : mg "sorted" = none) (c__law_added : Cal P w K mg base 1 "_law_added" ["found", "name"] Qj) : Cal P w K mg base 2 "_law_due" ["program"] ZZ := by
  refine ZN (k := 1) (more := 6) d sc__law_due rfl fun f cdv A outer s H E hr => ?_
  have hu := hr.units
  refine Qh ?_ ?_
  refine QB ?_ ?_ ?_ ?_ ?_ ?_
  exact sc__law_due.nd
  exact rfl
  exact (Or.inl rfl)
  refine Jw ?_
  exact Qc
  exact rfl
  first | exact .inl rfl | exact .inr rfl
  refine Qh ?_ ?_
  refine QB ?_ ?_ ?_ ?_ ?_ ?_
  exact sc__law_due.nd
  exact rfl
  exact (Or.inl rfl)
  refine Jw ?_
  exact Qc
  exact rfl
  first | exact .inl rfl | exact .inr rfl
  refine Qh ?_ ?_
  refine QB ?_ ?_ ?_ ?_ ?_ ?_
  exact sc__law_due.nd
  exact rfl
  exact (Or.inl rfl)
  refine Jw ?_
  exact Qc
  exact rfl
  first | exact .inl rfl | exact .inr rfl
  refine Qh ?_ ?_
  refine ZJ ?_ ?_ ?_ ?_ ?_ ?_
  exact PassesOwn.never
  exact rfl
  refine Y8 ?_ ?_ ?_ ?_
  exact rfl
  exact b_enumerate
  refine Qa ?_ ?_
  exact Qd 0
  exact Qc
  exact rfl
  refine Wz (is := [4, 5]) ?_ ?_ ?_ ?_
  exact rfl
  refine Xm (i := 4) (x := "number") sc__law_due.nd rfl (Or.inr rfl) ?_ ?_
  refine Xm (i := 5) (x := "part") sc__law_due.nd rfl (Or.inl rfl) ?_ ?_
  exact Wt
  first | exact .inl rfl | exact .inr rfl
  first | exact .inl rfl | exact .inr rfl
  exact rfl
  exact rfl
  refine Qh ?_ ?_
  refine ZJ ?_ ?_ ?_ ?_ ?_ ?_
  exact PassesOwn.never
  exact rfl
  refine Jd ?_
  refine QP ?_ ?_
  exact Qd 5
  exact Qi
  exact QF (i := 6) (x := "line") sc__law_due.nd rfl (Or.inl rfl)
  refine Qh ?_ ?_
  refine ZW ?_ ?_ ?_
  refine QQ (VX ?_) Qk ?_ ?_
  exact hu
  refine QP ?_ ?_
  exact Qd 6
  exact Qi
  exact Qf
  refine Qh ?_ ?_
  refine QC ?_
  refine Qr (k := 1) (ps := ["found", "name"]) ?_ ?_ ?_ ?_ ?_ ?_ ?_ ?_
  exact c__law_added
  exact hr.mono (by decide)
  exact rfl
  refine Qa ?_ ?_
  exact Qd 2
  refine Qa ?_ ?_
  refine QP ?_ ?_
  exact Qd 6
  exact Qi
  exact Qc
  exact rfl
  decide
  exact rfl
  exact rfl
  refine Qh ?_ ?_
  refine QC ?_
  refine Qr (k := 1) (ps := ["found", "name"]) ?_ ?_ ?_ ?_ ?_ ?_ ?_ ?_
  exact c__law_added
  exact hr.mono (by decide)
  exact rfl
  refine Qa ?_ ?_
  exact Qd 1
  refine Qa ?_ ?_
  refine QP ?_ ?_
  exact Qd 6
  exact Qi
  exact Qc
  exact rfl
  decide
  exact rfl
  exact rfl
  refine Qp ?_
  refine QC ?_
  refine Qr (k := 1) (ps := ["found", "name"]) ?_ ?_ ?_ ?_ ?_ ?_ ?_ ?_
  exact c__law_added
  exact hr.mono (by decide)
  exact rfl
  refine Qa ?_ ?_
  exact Qd 1
  refine Qa ?_ ?_
  refine QP ?_ ?_
  exact Qd 6
  exact Qi
  exact Qc
  exact rfl
  decide
  exact rfl
  exact rfl
  exact Zl
  refine Qh ?_ ?_
  refine ZW ?_ ?_ ?_
  refine QQ (V8 ?_) Qk ?_ ?_
  exact hu
  refine QP ?_ ?_
  exact Qd 6
  exact Qi
  refine QH ?_
  refine Qa ?_ ?_
  exact Qf
  refine Qa ?_ ?_
  exact Qf
  refine Qa ?_ ?_
  exact Qf
  refine Qa ?_ ?_
  exact Qf
  refine Qa ?_ ?_
  exact Qf
  refine Qa ?_ ?_
  exact Qf
  exact Qc
  refine Qp ?_
  refine QC ?_
  refine Qr (k := 1) (ps := ["found", "name"]) ?_ ?_ ?_ ?_ ?_ ?_ ?_ ?_
  exact c__law_added
  exact hr.mono (by decide)
  exact rfl
  refine Qa ?_ ?_
  exact Qd 1
  refine Qa ?_ ?_
  refine QP ?_ ?_
  exact Qd 6
  exact Qi
  exact Qc
  exact rfl
  decide
  exact rfl
  exact rfl
  exact Zl
  refine Qp ?_
  refine ZW ?_ ?_ ?_
  refine QQ (V8 ?_) Qk ?_ ?_
  exact hu
  refine QP ?_ ?_
  exact Qd 6
  exact Qi
  refine QH ?_
  refine Qa ?_ ?_
  exact Qf
  refine Qa ?_ ?_
  exact Qf
  refine Qa ?_ ?_
  exact Qf
  exact Qc
  refine Qp ?_
  refine QC ?_
  refine Qr (k := 1) (ps := ["found", "name"]) ?_ ?_ ?_ ?_ ?_ ?_ ?_ ?_
  exact c__law_added
  exact hr.mono (by decide)
  exact rfl
  refine Qa ?_ ?_
  exact Qd 1
  refine Qa ?_ ?_
  refine QP ?_ ?_
  exact Qd 6
  exact Qi
  exact Qc
  exact rfl
  decide
  exact rfl
  exact rfl
  exact Zl
  exact fun _ => rfl
  refine Qp ?_
  refine QC ?_
  refine Vz PySem.F.plainAttrs_list PySem.F.slot_list_extend PySem.F.type_list_extend Js ?_ ?_
  exact Qd 3
  refine Qa ?_ ?_
  refine JI J3 ?_ (WI (ks := ["number"]) (Nb := ["k", "number"]) (cp := [none, some 4]) (N := ["program", "boxes", "words", "places", "number", "part", "line"]) (xs := (Ql Q0)) rfl rfl (by decide +kernel) rfl (by decide +kernel) (by intro p hp; simp only [List.mem_cons, List.not_mem_nil, or_false] at hp; rcases hp with rfl <;> rfl) rfl rfl rfl (by decide +kernel)) ?_ (fun _ _ _ _ _ => ?_) (fun _ _ _ _ _ => ?_)
  exact rfl
  refine Vj ?_ ?_ ?_ ?_
  exact rfl
  exact b_range
  refine Qa ?_ ?_
  refine QD Zb Qk ?_ ?_
  refine Zs Jn QT ?_ ?_ PySem.boot_len ?_ ?_ ?_ ?_ ?_
  exact rfl
  exact b_len
  refine Qa ?_ ?_
  refine QP ?_ ?_
  exact Qd 5
  exact Qi
  exact Qc
  decide
  decide
  exact rfl
  exact rfl
  exact Qi
  exact Qc
  exact rfl
  exact QF (i := 0) (x := "k") (show List.Nodup (["k", "number"] : List Str) from by decide +kernel) rfl (Or.inl rfl)
  refine QH ?_
  refine Qa ?_ ?_
  exact Qd 1
  refine Qa ?_ ?_
  exact Qd 0
  exact Qc
  exact Qc
  exact fun _ => rfl
  refine Qp ?_
  refine QI ?_
  refine Zt ?_
  refine Qa ?_ ?_
  refine Zs Vo QT ?_ ?_ PyProof.Rows.boot_sorted ?_ ?_ ?_ ?_ ?_
  exact rfl
  exact b_sorted
  refine Qa ?_ ?_
  exact Qd 1
  exact Qc
  decide
  decide
  exact rfl
  exact rfl
  refine Qa ?_ ?_
  refine Zs Vo QT ?_ ?_ PyProof.Rows.boot_sorted ?_ ?_ ?_ ?_ ?_
  exact rfl
  exact b_sorted
  refine Qa ?_ ?_
  exact Qd 2
  exact Qc
  decide
  decide
  exact rfl
  exact rfl
  refine Qa ?_ ?_
  exact Qd 3
  exact Qc
noncomputable def Q3 : FM := box frN ZZ
theorem Xp (d : DefAt K mg "_law_due" Q0 ["program"]) (b_enumerate : mg "enumerate" = none) (b_len : mg "len" = none) (b_range : mg "range" = none) (b_sorted : mg "sorted" = none) (c__law_added : Cal P w K mg base 1 "_law_added" ["found", "name"] Qj) : Cal P w K mg base 2 "_law_due" ["program"] Q3 := (Xc d b_enumerate b_len b_range b_sorted c__law_added).box frN
noncomputable abbrev Q6 : Stmt := top 4
theorem sc_all_lines : FnScope ["program", "lines", "part"] ["program"] (Ql Q6) := ⟨rfl, rfl, rfl, by decide +kernel, rfl, by decide +kernel, by decide +kernel⟩
noncomputable abbrev Z7 : SM := (ZO (mMt "list" JE (Qg 1) (Qb (Qo wIx (Qg 2) (mC (.int 1))) Qn)))
noncomputable def ZI : FM := Jl 2
    (Zw (J5 1 (mFn KK Qn))
    (Zw (J4 (Zx (Qg 0)) (Je 2)
    Z7)
    (VT (Qg 1))))
set_option maxHeartbeats 4000000 in
theorem VG (d : DefAt K mg "all_lines" Q6 ["program"]) : Cal P w K mg base 1 "all_lines" ["program"] ZI := by
  refine ZN (k := 0) (more := 2) d sc_all_lines rfl fun f cdv A outer s H E hr => ?_
  have hu := hr.units
  refine Qh ?_ ?_
  refine QB ?_ ?_ ?_ ?_ ?_ ?_
  exact sc_all_lines.nd
  exact rfl
  exact (Or.inl rfl)
  refine Jw ?_
  exact Qc
  exact rfl
  first | exact .inl rfl | exact .inr rfl
  refine Qh ?_ ?_
  refine ZJ ?_ ?_ ?_ ?_ ?_ ?_
  exact PassesOwn.never
  exact rfl
  refine Jd ?_
  exact Qd 0
  exact QF (i := 2) (x := "part") sc_all_lines.nd rfl (Or.inl rfl)
  refine Qp ?_
  refine QC ?_
  refine Vz PySem.F.plainAttrs_list PySem.F.slot_list_extend PySem.F.type_list_extend XL ?_ ?_
  exact Qd 1
  refine Qa ?_ ?_
  refine QP ?_ ?_
  exact Qd 2
  exact Qi
  exact Qc
  exact fun _ => rfl
  refine Qp ?_
  refine QI ?_
  exact Qd 1
noncomputable def Qm : FM := box frN ZI
theorem VP (d : DefAt K mg "all_lines" Q6 ["program"]) : Cal P w K mg base 1 "all_lines" ["program"] Qm := (VG d).box frN
noncomputable abbrev Zh : Stmt := top 5
theorem XF : FnScope ["line"] ["line"] (Ql Zh) := ⟨rfl, rfl, rfl, by decide +kernel, rfl, by decide +kernel, by decide +kernel⟩
noncomputable def Z0 : FM := Jl 0
    (Zw (XC (QV (Qo wEq (Qo wIx (Qg 0) (mC (.int 0))) (mC (.str "pair")))) (VT (mFn J8 (Qb (Qo wIx (Qg 0) (mC (.int 1))) (Qb (Qo wIx (Qg 0) (mC (.int 3))) (Qb (Qo wIx (Qg 0) (mC (.int 4))) Qn))))) Jb)
    (Zw (XC (QV (Qo (wIn false) (Qo wIx (Qg 0) (mC (.int 0))) (mFn Z8 (Qb (mC (.str "first")) (Qb (mC (.str "second")) (Qb (mC (.str "same")) (Qb (mC (.str "none")) (Qb (mC (.str "tell")) Qn)))))))) (VT (mFn Wy (Qb (mSl (Qg 0) (W2 (mC (.int 1))) UW) Qn))) Jb)
    (VT (mFn J8 Qn))))
set_option maxHeartbeats 4000000 in
theorem Xn (d : DefAt K mg "boxes_in" Zh ["line"]) (b_list : mg "list" = none) : Cal P w K mg base 1 "boxes_in" ["line"] Z0 := by
  refine ZN (k := 0) (more := 0) d XF rfl fun f cdv A outer s H E hr => ?_
  have hu := hr.units
  refine Qh ?_ ?_
  refine ZW ?_ ?_ ?_
  refine QQ (VX ?_) Qk ?_ ?_
  exact hu
  refine QP ?_ ?_
  exact Qd 0
  exact Qi
  exact Qf
  refine Qp ?_
  refine QI ?_
  refine Zt ?_
  refine Qa ?_ ?_
  refine QP ?_ ?_
  exact Qd 0
  exact Qi
  refine Qa ?_ ?_
  refine QP ?_ ?_
  exact Qd 0
  exact Qi
  refine Qa ?_ ?_
  refine QP ?_ ?_
  exact Qd 0
  exact Qi
  exact Qc
  exact Zl
  refine Qh ?_ ?_
  refine ZW ?_ ?_ ?_
  refine QQ (V8 ?_) Qk ?_ ?_
  exact hu
  refine QP ?_ ?_
  exact Qd 0
  exact Qi
  refine QH ?_
  refine Qa ?_ ?_
  exact Qf
  refine Qa ?_ ?_
  exact Qf
  refine Qa ?_ ?_
  exact Qf
  refine Qa ?_ ?_
  exact Qf
  refine Qa ?_ ?_
  exact Qf
  exact Qc
  refine Qp ?_
  refine QI ?_
  refine JV Kr QT ?_ ?_ PyProof.Rows.boot_list ?_ ?_ ?_ ?_ ?_
  exact rfl
  exact b_list
  refine Qa ?_ ?_
  refine Wi ?_ ?_ ?_
  exact Qd 0
  refine YT ?_
  exact Qi
  exact Y3
  exact Qc
  decide
  decide
  exact rfl
  exact rfl
  exact Zl
  refine Qp ?_
  refine QI ?_
  refine Zt ?_
  exact Qc
noncomputable def QM : FM := box frN Z0
theorem Xq (d : DefAt K mg "boxes_in" Zh ["line"]) (b_list : mg "list" = none) : Cal P w K mg base 1 "boxes_in" ["line"] QM := (Xn d b_list).box frN
noncomputable abbrev Zm : Stmt := top 1
theorem sc_boxes_of : FnScope ["program", "boxes", "line"] ["program"] (Ql Zm) := ⟨rfl, rfl, rfl, by decide +kernel, rfl, by decide +kernel, by decide +kernel⟩
noncomputable abbrev Jm : SM := (ZO (mMt "list" Jp (Qg 1) (Qb (Qw 1 QM (Qb (Qg 2) Qn)) Qn)))
noncomputable def ZU : FM := Jl 2
    (Zw (J5 1 (mFn KK Qn))
    (Zw (J4 (Zx (Qw 1 Qm (Qb (Qg 0) Qn))) (Je 2)
    Jm)
    (VT (mFn Zo (Qb (Qg 1) Qn)))))
set_option maxHeartbeats 4000000 in
theorem Xh (d : DefAt K mg "boxes_of" Zm ["program"]) (b_set : mg "set" = none) (b_sorted : mg "sorted" = none) (c_all_lines : Cal P w K mg base 1 "all_lines" ["program"] Qm) (c_boxes_in : Cal P w K mg base 1 "boxes_in" ["line"] QM) : Cal P w K mg base 2 "boxes_of" ["program"] ZU := by
  refine ZN (k := 1) (more := 2) d sc_boxes_of rfl fun f cdv A outer s H E hr => ?_
  have hu := hr.units
  refine Qh ?_ ?_
  refine QB ?_ ?_ ?_ ?_ ?_ ?_
  exact sc_boxes_of.nd
  exact rfl
  exact (Or.inl rfl)
  refine Jw ?_
  exact Qc
  exact rfl
  first | exact .inl rfl | exact .inr rfl
  refine Qh ?_ ?_
  refine ZJ ?_ ?_ ?_ ?_ ?_ ?_
  exact PassesOwn.never
  exact rfl
  refine Jd ?_
  refine Qr (k := 1) (ps := ["program"]) ?_ ?_ ?_ ?_ ?_ ?_ ?_ ?_
  exact c_all_lines
  exact hr.mono (by decide)
  exact rfl
  refine Qa ?_ ?_
  exact Qd 0
  exact Qc
  exact rfl
  decide
  exact rfl
  exact rfl
  exact QF (i := 2) (x := "line") sc_boxes_of.nd rfl (Or.inl rfl)
  refine Qp ?_
  refine QC ?_
  refine Vz PySem.F.plainAttrs_list PySem.F.slot_list_extend PySem.F.type_list_extend Js ?_ ?_
  exact Qd 1
  refine Qa ?_ ?_
  refine Qr (k := 1) (ps := ["line"]) ?_ ?_ ?_ ?_ ?_ ?_ ?_ ?_
  exact c_boxes_in
  exact hr.mono (by decide)
  exact rfl
  refine Qa ?_ ?_
  exact Qd 2
  exact Qc
  exact rfl
  decide
  exact rfl
  exact rfl
  exact Qc
  exact fun _ => rfl
  refine Qp ?_
  refine QI ?_
  refine Jx ?_ ?_ ?_ ?_ ?_ ?_ ?_
  exact rfl
  exact rfl
  exact b_sorted
  exact rfl
  exact b_set
  exact Qd 1
  exact rfl
noncomputable def Zi : FM := box frR ZU
theorem XA (d : DefAt K mg "boxes_of" Zm ["program"]) (b_set : mg "set" = none) (b_sorted : mg "sorted" = none) (c_all_lines : Cal P w K mg base 1 "all_lines" ["program"] Qm) (c_boxes_in : Cal P w K mg base 1 "boxes_in" ["line"] QM) : Cal P w K mg base 2 "boxes_of" ["program"] Zi := (Xh d b_set b_sorted c_all_lines c_boxes_in).box frR
noncomputable abbrev Zn : Stmt := top 2
theorem XQ : FnScope ["program"] ["program"] (Ql Zn) := ⟨rfl, rfl, rfl, by decide +kernel, rfl, by decide +kernel, by decide +kernel⟩
noncomputable def ZP : FM := Jl 0
    (VT (mFn Zo (Qb (Jh Ki (Zx (Qw 1 Qm (Qb (Qg 0) Qn))) [none] (Je 0) (QV (Qo wEq (Qo wIx (Qg 0) (mC (.int 0))) (mC (.str "pair")))) (Qo wIx (Qg 0) (mC (.int 2)))) Qn)))
set_option maxHeartbeats 4000000 in
theorem Xu (d : DefAt K mg "words_of" Zn ["program"]) (b_set : mg "set" = none) (b_sorted : mg "sorted" = none) (c_all_lines : Cal P w K mg base 1 "all_lines" ["program"] Qm) : Cal P w K mg base 2 "words_of" ["program"] ZP := by
  refine ZN (k := 1) (more := 0) d XQ rfl fun f cdv A outer s H E hr => ?_
  have hu := hr.units
  refine Qp ?_
  refine QI ?_
  refine Jx ?_ ?_ ?_ ?_ ?_ ?_ ?_
  exact rfl
  exact rfl
  exact b_sorted
  exact rfl
  exact b_set
  refine Y9 J3 ?_ (JS (Nb := ["line"]) (cp := [none]) rfl (by decide +kernel) (by decide +kernel) rfl rfl) ?_ (fun _ _ _ _ _ => ?_) (fun _ _ _ _ _ => ?_) (fun _ _ _ _ _ => ?_)
  exact rfl
  refine Jd ?_
  refine Qr (k := 1) (ps := ["program"]) ?_ ?_ ?_ ?_ ?_ ?_ ?_ ?_
  exact c_all_lines
  exact hr.mono (by decide)
  exact rfl
  refine Qa ?_ ?_
  exact Qd 0
  exact Qc
  exact rfl
  decide
  exact rfl
  exact rfl
  exact QF (i := 0) (x := "line") (show List.Nodup (["line"] : List Str) from by decide +kernel) rfl (Or.inl rfl)
  refine QQ (VX ?_) Qk ?_ ?_
  exact hu
  refine QP ?_ ?_
  exact Qd 0
  exact Qi
  exact Qf
  refine QP ?_ ?_
  exact Qd 0
  exact Qi
  exact rfl
noncomputable def Zf : FM := box frR ZP
theorem Xk (d : DefAt K mg "words_of" Zn ["program"]) (b_set : mg "set" = none) (b_sorted : mg "sorted" = none) (c_all_lines : Cal P w K mg base 1 "all_lines" ["program"] Qm) : Cal P w K mg base 2 "words_of" ["program"] Zf := (Xu d b_set b_sorted c_all_lines).box frR
noncomputable abbrev QO : Stmt := top 3
theorem sc_places_of : FnScope ["program", "places", "part"] ["program"] (Ql QO) := ⟨rfl, rfl, rfl, by decide +kernel, rfl, by decide +kernel, by decide +kernel⟩
noncomputable abbrev Z6 : SM := (ZO (mMt "list" Jp (Qg 1) (Qb (Jh Ki (XD (Qb (Qo JA (mFn KW (Qb (Qo wIx (Qo wIx (Qg 0) (Qg 2)) (mC (.int 1))) Qn)) (mC (.int 1))) Qn)) [none, some 2] (Je 0) YJ (mFn Z8 (Qb (Qg 1) (Qb (Qg 0) Qn)))) Qn)))
noncomputable def ZL : FM := Jl 2
    (Zw (J5 1 (mFn KK Qn))
    (Zw (J4 (XD (Qb (mFn KW (Qb (Qg 0) Qn)) Qn)) (Je 2)
    Z6)
    (VT (Qg 1))))
set_option maxHeartbeats 4000000 in
theorem VR (d : DefAt K mg "places_of" QO ["program"]) (b_len : mg "len" = none) (b_range : mg "range" = none) : Cal P w K mg base 1 "places_of" ["program"] ZL := by
  refine ZN (k := 0) (more := 2) d sc_places_of rfl fun f cdv A outer s H E hr => ?_
  have hu := hr.units
  refine Qh ?_ ?_
  refine QB ?_ ?_ ?_ ?_ ?_ ?_
  exact sc_places_of.nd
  exact rfl
  exact (Or.inl rfl)
  refine Jw ?_
  exact Qc
  exact rfl
  first | exact .inl rfl | exact .inr rfl
  refine Qh ?_ ?_
  refine ZJ ?_ ?_ ?_ ?_ ?_ ?_
  exact PassesOwn.never
  exact rfl
  refine Vj ?_ ?_ ?_ ?_
  exact rfl
  exact b_range
  refine Qa ?_ ?_
  refine Zs Jn QT ?_ ?_ PySem.boot_len ?_ ?_ ?_ ?_ ?_
  exact rfl
  exact b_len
  refine Qa ?_ ?_
  exact Qd 0
  exact Qc
  decide
  decide
  exact rfl
  exact rfl
  exact Qc
  exact rfl
  exact QF (i := 2) (x := "part") sc_places_of.nd rfl (Or.inr rfl)
  refine Qp ?_
  refine QC ?_
  refine Vz PySem.F.plainAttrs_list PySem.F.slot_list_extend PySem.F.type_list_extend Js ?_ ?_
  exact Qd 1
  refine Qa ?_ ?_
  refine JI J3 ?_ (WI (ks := ["part"]) (Nb := ["gap", "part"]) (cp := [none, some 2]) (N := ["program", "places", "part"]) (xs := (Ql QO)) rfl rfl (by decide +kernel) rfl (by decide +kernel) (by intro p hp; simp only [List.mem_cons, List.not_mem_nil, or_false] at hp; rcases hp with rfl <;> rfl) rfl rfl rfl (by decide +kernel)) ?_ (fun _ _ _ _ _ => ?_) (fun _ _ _ _ _ => ?_)
  exact rfl
  refine Vj ?_ ?_ ?_ ?_
  exact rfl
  exact b_range
  refine Qa ?_ ?_
  refine QD Zb Qk ?_ ?_
  refine Zs Jn QT ?_ ?_ PySem.boot_len ?_ ?_ ?_ ?_ ?_
  exact rfl
  exact b_len
  refine Qa ?_ ?_
  refine QP ?_ ?_
  refine QP ?_ ?_
  exact Qd 0
  exact Qd 2
  exact Qi
  exact Qc
  decide
  decide
  exact rfl
  exact rfl
  exact Qi
  exact Qc
  exact rfl
  exact QF (i := 0) (x := "gap") (show List.Nodup (["gap", "part"] : List Str) from by decide +kernel) rfl (Or.inl rfl)
  refine QH ?_
  refine Qa ?_ ?_
  exact Qd 1
  refine Qa ?_ ?_
  exact Qd 0
  exact Qc
  exact Qc
  exact fun _ => rfl
  refine Qp ?_
  refine QI ?_
  exact Qd 1
noncomputable def Q5 : FM := box frR ZL
theorem VN (d : DefAt K mg "places_of" QO ["program"]) (b_len : mg "len" = none) (b_range : mg "range" = none) : Cal P w K mg base 1 "places_of" ["program"] Q5 := (VR d b_len b_range).box frR
noncomputable abbrev VW : Stmt := top 13
theorem sc_law : FnScope ["script", "program", "due", "turn", "found", "one"] ["script"] (Ql VW) := ⟨rfl, rfl, rfl, by decide +kernel, rfl, by decide +kernel, by decide +kernel⟩
noncomputable abbrev Vw : SM := (ZO (mMt "list" Zy (Qg 5) (Qb (mC (.str "x")) Qn)))
noncomputable abbrev VM : SM := (Zw (J5 4 (mFn J8 (Qb (Qw 1 Zi (Qb (Qg 1) Qn)) (Qb (Qw 1 Zf (Qb (Qg 1) Qn)) (Qb (Qw 1 Q5 (Qb (Qg 1) Qn)) Qn)))))
    (Zw (XC (Ge (QV (Qo wNe (Qg 4) (Qg 2))) (QV (Qo (wIn false) (mC (.bl false)) (Jh Ki (Zx (Qg 4)) [none] (Je 0) YJ (mFn Wr (Qb (Qg 0) (Qb (mC (.ty "list")) Qn))))))) (VT (mC (.bl false))) Jb)
    (Zw (XC (QV (Qo (wIn false) (mC (.bl false)) (Jh Ki (Zx (Qo wIx (Qg 4) (mC (.int 2)))) [none] (Je 0) YJ (mFn Wr (Qb (Qg 0) (Qb (mC (.ty "tuple")) Qn)))))) (VT (mC (.bl false))) Jb)
    (J4 (Zx (Qg 4)) (Je 5)
    Vw))))
noncomputable def Ju : FM := Jl 5
    (Zw (J5 1 (Qw 1 Qv (Qb (Qg 0) Qn)))
    (Zw (J5 2 (Qw 1 Q3 (Qb (Qg 1) Qn)))
    (Zw (J4 (XD (Qb (mC (.int 2)) Qn)) (Je 3)
    VM)
    (VT (Qo wEq (Qg 1) (Qw 1 Qv (Qb (Qg 0) Qn)))))))
set_option maxHeartbeats 4000000 in
theorem Ui (d : DefAt K mg "law" VW ["script"]) (b_isinstance : mg "isinstance" = none) (b_list : mg "list" = none) (b_range : mg "range" = none) (b_tuple : mg "tuple" = none) (c__law_due : Cal P w K mg base 2 "_law_due" ["program"] Q3) (c__law_program : Cal P w K mg base 2 "_law_program" ["script"] Qv) (c_boxes_of : Cal P w K mg base 2 "boxes_of" ["program"] Zi) (c_places_of : Cal P w K mg base 1 "places_of" ["program"] Q5) (c_words_of : Cal P w K mg base 2 "words_of" ["program"] Zf) : Cal P w K mg base 3 "law" ["script"] Ju := by
  refine ZN (k := 2) (more := 5) d sc_law rfl fun f cdv A outer s H E hr => ?_
  have hu := hr.units
  refine Qh ?_ ?_
  refine QB ?_ ?_ ?_ ?_ ?_ ?_
  exact sc_law.nd
  exact rfl
  exact (Or.inl rfl)
  refine Qr (k := 2) (ps := ["script"]) ?_ ?_ ?_ ?_ ?_ ?_ ?_ ?_
  exact c__law_program
  exact hr.mono (by decide)
  exact rfl
  refine Qa ?_ ?_
  exact Qd 0
  exact Qc
  exact rfl
  decide
  exact rfl
  exact rfl
  exact rfl
  first | exact .inl rfl | exact .inr rfl
  refine Qh ?_ ?_
  refine QB ?_ ?_ ?_ ?_ ?_ ?_
  exact sc_law.nd
  exact rfl
  exact (Or.inl rfl)
  refine Qr (k := 2) (ps := ["program"]) ?_ ?_ ?_ ?_ ?_ ?_ ?_ ?_
  exact c__law_due
  exact hr.mono (by decide)
  exact rfl
  refine Qa ?_ ?_
  exact Qd 1
  exact Qc
  exact rfl
  decide
  exact rfl
  exact rfl
  exact rfl
  first | exact .inl rfl | exact .inr rfl
  refine Qh ?_ ?_
  refine ZJ ?_ ?_ ?_ ?_ ?_ ?_
  exact PassesOwn.never
  exact rfl
  refine Vj ?_ ?_ ?_ ?_
  exact rfl
  exact b_range
  refine Qa ?_ ?_
  exact Qi
  exact Qc
  exact rfl
  exact QF (i := 3) (x := "turn") sc_law.nd rfl (Or.inl rfl)
  refine Qh ?_ ?_
  refine QB ?_ ?_ ?_ ?_ ?_ ?_
  exact sc_law.nd
  exact rfl
  exact (Or.inl rfl)
  refine Zt ?_
  refine Qa ?_ ?_
  refine Qr (k := 2) (ps := ["program"]) ?_ ?_ ?_ ?_ ?_ ?_ ?_ ?_
  exact c_boxes_of
  exact hr.mono (by decide)
  exact rfl
  refine Qa ?_ ?_
  exact Qd 1
  exact Qc
  exact rfl
  decide
  exact rfl
  exact rfl
  refine Qa ?_ ?_
  refine Qr (k := 2) (ps := ["program"]) ?_ ?_ ?_ ?_ ?_ ?_ ?_ ?_
  exact c_words_of
  exact hr.mono (by decide)
  exact rfl
  refine Qa ?_ ?_
  exact Qd 1
  exact Qc
  exact rfl
  decide
  exact rfl
  exact rfl
  refine Qa ?_ ?_
  refine Qr (k := 1) (ps := ["program"]) ?_ ?_ ?_ ?_ ?_ ?_ ?_ ?_
  exact c_places_of
  exact hr.mono (by decide)
  exact rfl
  refine Qa ?_ ?_
  exact Qd 1
  exact Qc
  exact rfl
  decide
  exact rfl
  exact rfl
  exact Qc
  exact rfl
  first | exact .inl rfl | exact .inr rfl
  refine Qh ?_ ?_
  refine ZW ?_ ?_ ?_
  refine PMW.pt ?_
  refine Gx ?_ ?_
  refine QQ (Go ?_) Qk ?_ ?_
  exact hu
  exact Qd 4
  exact Qd 2
  refine W0 ?_
  refine QQ (V8 ?_) Qk ?_ ?_
  exact hu
  exact Y5
  refine JI J3 ?_ (JS (Nb := ["one"]) (cp := [none]) rfl (by decide +kernel) (by decide +kernel) rfl rfl) ?_ (fun _ _ _ _ _ => ?_) (fun _ _ _ _ _ => ?_)
  exact rfl
  refine Jd ?_
  exact Qd 4
  exact QF (i := 0) (x := "one") (show List.Nodup (["one"] : List Str) from by decide +kernel) rfl (Or.inl rfl)
  refine Zs V3 QT ?_ ?_ PyProof.Rows.boot_isinstance ?_ ?_ ?_ ?_ ?_
  exact rfl
  exact b_isinstance
  refine Qa ?_ ?_
  exact Qd 0
  refine Qa ?_ ?_
  exact G1 rfl b_list PyProof.Rows.boot_list
  exact Qc
  decide
  decide
  exact rfl
  exact rfl
  refine Qp ?_
  refine QI ?_
  exact Y5
  exact Zl
  refine Qh ?_ ?_
  refine ZW ?_ ?_ ?_
  refine QQ (V8 ?_) Qk ?_ ?_
  exact hu
  exact Y5
  refine JI J3 ?_ (JS (Nb := ["place"]) (cp := [none]) rfl (by decide +kernel) (by decide +kernel) rfl rfl) ?_ (fun _ _ _ _ _ => ?_) (fun _ _ _ _ _ => ?_)
  exact rfl
  refine Jd ?_
  refine QP ?_ ?_
  exact Qd 4
  exact Qi
  exact QF (i := 0) (x := "place") (show List.Nodup (["place"] : List Str) from by decide +kernel) rfl (Or.inl rfl)
  refine Zs V3 QT ?_ ?_ PyProof.Rows.boot_isinstance ?_ ?_ ?_ ?_ ?_
  exact rfl
  exact b_isinstance
  refine Qa ?_ ?_
  exact Qd 0
  refine Qa ?_ ?_
  exact G1 rfl b_tuple PyProof.Rows.boot_tuple
  exact Qc
  decide
  decide
  exact rfl
  exact rfl
  refine Qp ?_
  refine QI ?_
  exact Y5
  exact Zl
  refine Qp ?_
  refine ZJ ?_ ?_ ?_ ?_ ?_ ?_
  exact PassesOwn.never
  exact rfl
  refine Jd ?_
  exact Qd 4
  exact QF (i := 5) (x := "one") sc_law.nd rfl (Or.inl rfl)
  refine Qp ?_
  refine QC ?_
  refine Vz PySem.F.plainAttrs_list PySem.F.slot_list_append PySem.F.type_list_append ZC ?_ ?_
  exact Qd 5
  refine Qa ?_ ?_
  exact Qf
  exact Qc
  exact fun _ => rfl
  exact fun _ => rfl
  refine Qp ?_
  refine QI ?_
  refine U4 (VX ?_) Qk ?_ ?_
  exact hu
  exact Qd 1
  refine Qr (k := 2) (ps := ["script"]) ?_ ?_ ?_ ?_ ?_ ?_ ?_ ?_
  exact c__law_program
  exact hr.mono (by decide)
  exact rfl
  refine Qa ?_ ?_
  exact Qd 0
  exact Qc
  exact rfl
  decide
  exact rfl
  exact rfl
end

theorem UV {P : Program} {w : World} {K : PySem.W.Frag} {mg : Str → Option Value} {base : Heap} (d__law_names : DefAt K mg "_law_names" QU ["cell"]) (d__law_cell : DefAt K mg "_law_cell" Q7 ["script", "k"]) (d__law_line : DefAt K mg "_law_line" Q8 ["cell", "boxes", "words"]) (d__law_program : DefAt K mg "_law_program" QE ["script"]) (d__law_added : DefAt K mg "_law_added" QS ["found", "name"]) (d__law_due : DefAt K mg "_law_due" Q0 ["program"]) (d_all_lines : DefAt K mg "all_lines" Q6 ["program"]) (d_boxes_in : DefAt K mg "boxes_in" Zh ["line"]) (d_boxes_of : DefAt K mg "boxes_of" Zm ["program"]) (d_words_of : DefAt K mg "words_of" Zn ["program"]) (d_places_of : DefAt K mg "places_of" QO ["program"]) (d_law : DefAt K mg "law" VW ["script"]) (b_enumerate : mg "enumerate" = none) (b_isinstance : mg "isinstance" = none) (b_len : mg "len" = none) (b_list : mg "list" = none) (b_range : mg "range" = none) (b_set : mg "set" = none) (b_sorted : mg "sorted" = none) (b_tuple : mg "tuple" = none) : Cal P w K mg base 3 "law" ["script"] Ju := by
  have c__law_names : Cal P w K mg base 1 "_law_names" ["cell"] Qy := J9 d__law_names
  have c__law_cell : Cal P w K mg base 1 "_law_cell" ["script", "k"] Qe := Vy d__law_cell b_len
  have c__law_line : Cal P w K mg base 1 "_law_line" ["cell", "boxes", "words"] QN := Vx d__law_line
  have c__law_program : Cal P w K mg base 2 "_law_program" ["script"] Qv := JC d__law_program b_range b_tuple c__law_cell c__law_line c__law_names
  have c__law_added : Cal P w K mg base 1 "_law_added" ["found", "name"] Qj := Va d__law_added
  have c__law_due : Cal P w K mg base 2 "_law_due" ["program"] Q3 := Xp d__law_due b_enumerate b_len b_range b_sorted c__law_added
  have c_all_lines : Cal P w K mg base 1 "all_lines" ["program"] Qm := VP d_all_lines
  have c_boxes_in : Cal P w K mg base 1 "boxes_in" ["line"] QM := Xq d_boxes_in b_list
  have c_boxes_of : Cal P w K mg base 2 "boxes_of" ["program"] Zi := XA d_boxes_of b_set b_sorted c_all_lines c_boxes_in
  have c_words_of : Cal P w K mg base 2 "words_of" ["program"] Zf := Xk d_words_of b_set b_sorted c_all_lines
  have c_places_of : Cal P w K mg base 1 "places_of" ["program"] Q5 := VN d_places_of b_len b_range
  have c_law : Cal P w K mg base 3 "law" ["script"] Ju := Ui d_law b_isinstance b_list b_range b_tuple c__law_due c__law_program c_boxes_of c_places_of c_words_of
  exact c_law

end My

namespace My
open PySem PySem.Spec PyProof.Rows L2 Mi
noncomputable abbrev Ln := List Str
noncomputable def QY (l : Ln) : W := .tup (l.map .str)
noncomputable def V2 (xs : List Str) : W := .lst (xs.map .str)
noncomputable abbrev Pt := Str × List Ln
noncomputable def Zv (p : Pt) : W := .tup [.str p.1, .tup (p.2.map QY)]
noncomputable def QX (p : List Pt) : W := .tup (p.map Zv)
theorem VQ : ∀ {ws : List W}, (∀ w ∈ ws, pln w = true) → Jo ws = true
  | [], _ => rfl
  | w :: ws, h => by unfold Jo; rw [h w List.mem_cons_self, VQ fun x hx => h x (List.mem_cons_of_mem _ hx)]; rfl
theorem Vs {n : Nat} : ∀ {ws : List W}, (∀ w ∈ ws, dep w ≤ n) → Vb ws ≤ n
  | [], _ => Nat.zero_le _
  | w :: ws, h => by unfold Vb; exact Nat.max_le.mpr ⟨h w List.mem_cons_self, Vs fun x hx => h x (List.mem_cons_of_mem _ hx)⟩
theorem ZG {α : Type} {f : α → W} {xs : List α} (h : ∀ x, pln (f x) = true) : Jo (xs.map f) = true := VQ fun w hw => by obtain ⟨x, _, rfl⟩ := List.mem_map.mp hw; exact h x
theorem JJ {α : Type} {f : α → W} {xs : List α} {n : Nat} (h : ∀ x, dep (f x) ≤ n) : Vb (xs.map f) ≤ n := Vs fun w hw => by obtain ⟨x, _, rfl⟩ := List.mem_map.mp hw; exact h x
@[simp] theorem Zq {xs : List Str} : Jo (xs.map .str) = true := ZG fun _ => rfl
theorem Z4 {xs : List Str} : Vb (xs.map .str) ≤ 1 := JJ fun _ => Nat.le_refl _
@[simp] theorem Uh {l : Ln} : pln (QY l) = true := by unfold QY pln; exact Zq
theorem QaU {l : Ln} : dep (QY l) ≤ 2 := by unfold QY dep; have := Z4 (xs := l); omega
@[simp] theorem Y7 {xs : List Str} : pln (V2 xs) = true := by unfold V2 pln; exact Zq
@[simp] theorem QaO {ls : List Ln} : Jo (ls.map QY) = true := ZG fun _ => Uh
theorem UD {ls : List Ln} : Vb (ls.map QY) ≤ 2 := JJ fun _ => QaU
@[simp] theorem Qaz {p : Pt} : pln (Zv p) = true := by simp [Zv, pln, Jo]
theorem Qau {p : Pt} : dep (Zv p) ≤ 4 := by simp [Zv, dep, Vb]; have := UD (ls := p.2); omega
@[simp] theorem UT {ps : List Pt} : Jo (ps.map Zv) = true := ZG fun _ => Qaz
@[simp] theorem Wu {ps : List Pt} : pln (QX ps) = true := by unfold QX pln; exact UT
theorem Gg {ps : List Pt} : dep (QX ps) ≤ 5 := by unfold QX dep; have := JJ (xs := ps) (n := 4) (fun x => Qau (p := x)); omega
@[simp] theorem Qb3 {l : Ln} : pur (QY l) = true := VJ _ Uh
@[simp] theorem Qam {xs : List Str} : pur (V2 xs) = true := VJ _ Y7
@[simp] theorem QcB {ps : List Pt} : pur (QX ps) = true := VJ _ Wu
@[simp] theorem Qai {xs : List Str} : ZB (xs.map .str) = true := Zg _ Zq
@[simp] theorem QcS {i : Int} : pur (.int i) = true := id rfl
@[simp] theorem Qck {x : Str} : pur (.str x) = true := id rfl
@[simp] theorem Qca {ws : List W} : pur (.lst ws) = ZB ws := by unfold pur; rfl
@[simp] theorem QbS : ZB [] = true := id rfl
@[simp] theorem QaN {w : W} {ws : List W} : ZB (w :: ws) = (pur w && ZB ws) := by rw [ZB]
@[simp] theorem U6 {ns : List Int} : ZB (ns.map .int) = true := by
  induction ns with
  | nil => rfl
  | cons n ns ih => simp [ih]
@[simp] theorem QbY : 2 ≤ sizeLine := by decide
@[simp] theorem Qbn : 3 ≤ sizeLine := by decide
@[simp] theorem QbH : 5 ≤ sizeLine := by decide
@[simp] theorem QbO : 6 ≤ sizeLine := by decide
theorem Xv {α : Type} {xs : List α} {i : Int} {P : α → Prop} {f : α → W} (h0 : 0 ≤ i) (h1 : i < xs.length) (hp : ∀ x ∈ xs, P x) : ∃ x, x ∈ xs ∧ P x ∧ atI (xs.map f) i = some (f x) := by
  obtain ⟨n, rfl⟩ : ∃ n : Nat, i = n := ⟨i.toNat, by omega⟩
  have hn : n < xs.length := by omega
  exact ⟨xs[n], List.getElem_mem hn, hp _ (List.getElem_mem hn), by rw [Zu, List.getElem?_map, List.getElem?_eq_getElem hn]; rfl⟩
theorem QaX {neg : Bool} {a : W} {ys : List W} {h : MH} (pa : pln a = true) (py : Jo ys = true) (da : dep a ≤ 40) (dy : Vb ys ≤ 40) : wIn neg a (.lst ys) h = some (.bl (if neg = true then !inW a ys else inW a ys), h) := by
  show ((lsW h (.lst ys)).bind fun ys => (drf h 40 a).bind fun x => (QW (drf h 40) ys).map fun zs => (W.bl (if neg then !inW x zs else inW x zs), h)) = _
  simp only [lsW, Option.bind_some]
  rw [Jf h a 40 pa da, ZK h ys 40 py dy]; rfl
theorem U8 {neg : Bool} {a : W} {ys : List W} {h : MH} (pa : pln a = true) (py : Jo ys = true) (da : dep a ≤ 40) (dy : Vb ys ≤ 40) : wIn neg a (.tup ys) h = some (.bl (if neg = true then !inW a ys else inW a ys), h) := by
  show ((drf h 40 a).bind fun x => (QW (drf h 40) ys).map fun zs => (W.bl (if neg then !inW x zs else inW x zs), h)) = _
  rw [Jf h a 40 pa da, ZK h ys 40 py dy]; rfl
theorem Qbf {neg : Bool} {a : W} {ys : List W} {h : MH} {n : Nat} (hn : h[n]? = some (.lst ys)) (pa : pln a = true) (py : Jo ys = true) (da : dep a ≤ 40) (dy : Vb ys ≤ 40) : wIn neg a (.ref n) h = some (.bl (if neg = true then !inW a ys else inW a ys), h) := by
  show ((lsW h (.ref n)).bind fun ys => (drf h 40 a).bind fun x => (QW (drf h 40) ys).map fun zs => (W.bl (if neg then !inW x zs else inW x zs), h)) = _
  rw [Uo hn, Option.bind_some, Jf h a 40 pa da, ZK h ys 40 py dy]; rfl
@[simp] theorem QbU {xs : List Str} {i : Int} {h : MH} : wIx (V2 xs) (.int i) h = @om _ _ (fun w => (w, h)) (atI (xs.map .str) i) := by unfold V2; simp
@[simp] theorem QcY {α : Type} {xs : List α} : atI xs 2 = xs[2]? := Zu (n := 2)
@[simp] theorem Qdc {α : Type} {xs : List α} : atI xs 3 = xs[3]? := Zu (n := 3)
@[simp] theorem Qdb {α : Type} {xs : List α} : atI xs 4 = xs[4]? := Zu (n := 4)
theorem Xx {a : Int} {n j : Nat} {w : W} (h : (QA a n)[j]? = some w) : j < n ∧ w = .int (a + j) := by
  have hl := (List.getElem?_eq_some_iff.mp h).1
  simp [QA] at hl
  refine ⟨hl, ?_⟩
  unfold QA at h
  rw [List.getElem?_map, List.getElem?_range hl] at h
  cases h; rfl
theorem Uy {a b : Char} (h : a.toNat = b.toNat) : a = b := by
  have : a.val = b.val := by
    apply UInt32.toNat_inj.mp
    exact h
  exact Char.ext this
theorem JL : ∀ {a b : List Char}, a.map Char.toNat = b.map Char.toNat → a = b
  | [], [], _ => rfl
  | [], _ :: _, h => by simp at h
  | _ :: _, [], h => by simp at h
  | x :: a, y :: b, h => by
    simp only [List.map_cons, List.cons.injEq] at h
    rw [Uy h.1, JL h.2]
@[simp] theorem QaD {a b : String} : (Str.ofString a = Str.ofString b) ↔ a = b := by
  constructor
  · intro h
    rw [Str.ofString_eq_toList, Str.ofString_eq_toList] at h
    have h1 := JL (List.toArray_inj (Str.mk.inj h))
    exact String.toList_inj.mp h1
  · intro h; rw [h]
end My

namespace My
open PySem PySem.Spec PyProof.Rows L2 Mi
inductive Li where
  | pair (x w y z : Str) | first (x y : Str) | second (x y : Str) | same (x y : Str) | non (x : Str) | tell (x : Str) | back (w : Str) | doo (n : Str) | either | or | fin
noncomputable def ln : Li → Ln
  | .pair x w y z => [("pair" : Str), x, w, y, z]
  | .first x y => [("first" : Str), x, y]
  | .second x y => [("second" : Str), x, y]
  | .same x y => [("same" : Str), x, y]
  | .non x => [("none" : Str), x]
  | .tell x => [("tell" : Str), x]
  | .back w => [("back" : Str), w]
  | .doo n => [("do" : Str), n]
  | .either => [("either" : Str)]
  | .or => [("or" : Str)]
  | .fin => [("end" : Str)]
noncomputable def bx : Li → List Str
  | .pair x _ y z => [x, y, z]
  | .first x y | .second x y | .same x y => [x, y]
  | .non x | .tell x => [x]
  | _ => []
noncomputable def bx2 : Li → List Str
  | .pair x _ y z => [y, z, x]
  | l => bx l
noncomputable def wd : Li → List Str
  | .pair _ w _ _ => [w]
  | _ => []
theorem bx2_mem {l : Li} {y : Str} : y ∈ bx2 l ↔ y ∈ bx l := by
  cases l <;> simp [bx2, bx]
  exact ⟨fun h => by rcases h with h | h | h <;> simp [h], fun h => by rcases h with h | h | h <;> simp [h]⟩
theorem K9 : ∀ (a b : List Str), a.Nodup → b.Nodup → (∀ y, y ∈ a ↔ y ∈ b) → b.Perm a
  | [], b, _, _, h => by
    cases b with
    | nil => exact .rfl
    | cons y r => exact absurd ((h y).mpr List.mem_cons_self) (by simp)
  | k :: r, b, na, nb, h => by
    have hk : k ∈ b := (h k).mp List.mem_cons_self
    rw [List.nodup_cons] at na
    refine (List.perm_cons_erase hk).trans (List.Perm.cons k (K9 r (b.erase k) na.2 (nb.erase k) fun y => ?_))
    rw [List.Nodup.mem_erase_iff nb]
    constructor
    · exact fun hy => ⟨fun z => na.1 (by rw [← z]; exact hy), (h y).mp (List.mem_cons_of_mem _ hy)⟩
    · intro ⟨ne, hy⟩
      rcases List.mem_cons.mp ((h y).mpr hy) with z | z
      · exact absurd z ne
      · exact z
theorem GA : ∀ (a b : List Str), a.Nodup → (∀ y ∈ a, y ∈ b) → a.length ≤ b.length
  | [], b, _, _ => Nat.zero_le _
  | k :: r, b, na, h => by
    have hk := h k List.mem_cons_self
    rw [List.nodup_cons] at na
    have := GA r (b.erase k) na.2 fun y hy => (List.mem_erase_of_ne (fun z => na.1 (by rw [← z]; exact hy))).mpr (h y (List.mem_cons_of_mem _ hy))
    rw [List.length_erase_of_mem hk] at this
    have := List.length_pos_of_mem hk
    rw [List.length_cons]
    omega
theorem XT : ∀ (n : Nat) (l : List Str), l.length = n → (St.uniq l).Nodup := by
  intro n
  induction n with
  | zero => intro l h; rw [List.length_eq_zero_iff.mp h]; exact List.nodup_nil
  | succ n ih =>
    intro l h
    obtain ⟨u, x, rfl⟩ : ∃ u x, l = u ++ [x] := ⟨l.dropLast, l.getLast (fun z => by rw [z] at h; cases h), (List.dropLast_concat_getLast _).symm⟩
    have q := ih u (by simp at h; exact h)
    rw [St.uniq_snoc]
    split
    · exact q
    · rename_i hx
      rw [List.nodup_append]
      exact ⟨q, by simp, fun a ha b hb e => hx (by rw [List.mem_singleton.mp hb] at e; rw [← e]; exact ha)⟩
theorem Wa {a b : List Str} (h : ∀ y, y ∈ a ↔ y ∈ b) : St.srt (St.uniq a) = St.srt (St.uniq b) :=
  St.srt_perm (K9 _ _ (XT _ b rfl) (XT _ a rfl) fun y => by rw [St.uniq_mem _ b rfl, St.uniq_mem _ a rfl, h y])
noncomputable abbrev Pr := Str × List Li
noncomputable def pp (p : List Pr) : List Pt := p.map fun x => (x.1, x.2.map ln)
noncomputable def als (p : List Pr) : List Li := p.flatMap (·.2)
structure G5 (B Wd : List Str) (p : List Pr) : Prop where
  len : p.length ≤ 5
  sz : ∀ x ∈ p, x.2.length ≤ 20
  b : ∀ l ∈ als p, ∀ y ∈ bx l, y ∈ B
  w : ∀ l ∈ als p, ∀ y ∈ wd l, y ∈ Wd
noncomputable def plc (p : List Pr) : List (Nat × Nat) := p.zipIdx.flatMap fun q => (List.range (q.1.2.length + 1)).map fun k => (q.2, k)
noncomputable def ePl (q : Nat × Nat) : W := .tup [.int q.1, .int q.2]
end My

namespace My
open PySem PySem.Spec PyProof.Rows L2 Mi
theorem szS {n : Nat} (h : n ≤ 100000) : n < sizeLine := Nat.lt_of_le_of_lt h (by decide)
@[simp] theorem Qbj {ws : List W} {h : MH} : Wy [.tup ws] h = some (.lst ws, h) := id rfl
theorem inS {g : Bool} {x : Str} {l : List Str} {h : MH} : wIn g (.str x) (.tup (l.map .str)) h = some (.bl (if g = true then !decide (x ∈ l) else decide (x ∈ l)), h) := by
  rw [U8 rfl Zq (by simp [dep]) (Nat.le_trans Z4 (by decide))]
  have : inW (.str x) (l.map .str) = decide (x ∈ l) := by
    induction l with
    | nil => rfl
    | cons y l ih =>
      unfold inW at ih ⊢
      rw [List.map_cons, List.any_cons, ih]
      show ((y == x) || _) = _
      by_cases e : y = x
      · subst e; simp
      · have e' : ¬ x = y := fun z => e z.symm
        rw [show (y == x) = false from beq_eq_false_iff_ne.mpr e, Bool.false_or, Bool.eq_iff_iff, decide_eq_true_eq, decide_eq_true_eq, List.mem_cons]
        exact ⟨.inr, fun z => z.elim (fun q => absurd q e') id⟩
  rw [this]
theorem Wb {α : Type} (xs : List α) (k : Nat) : YG xs (some (k : Int)) none = xs.drop k := by
  unfold YG
  rw [HT.sIx_nat, HT.sIx_none]
  by_cases h : k ≤ xs.length
  · rw [Nat.min_eq_left h, List.take_of_length_le (by simp)]
  · rw [Nat.min_eq_right (by omega), List.drop_eq_nil_of_le (Nat.le_refl _), List.drop_eq_nil_of_le (by omega)]; simp
theorem in5 {x : Str} {h : MH} : wIn false (.str x) (.tup [.str "first", .str "second", .str "same", .str "none", .str "tell"]) h = some (.bl (decide (x ∈ [("first" : Str), "second", "same", "none", "tell"])), h) := by
  have := inS (g := false) (x := x) (l := [("first" : Str), "second", "same", "none", "tell"]) (h := h)
  simpa using this
theorem XS {l : Li} {h : MH} : QM [QY (ln l)] h = some (.lst ((bx l).map .str), h) := by
  refine Z3 (g := []) (by simp) ?_ (by simp)
  have c1 : ∀ (a : W) (r : List W), YG (a :: r) (some 1) none = r := fun a r => Wb (a :: r) 1
  cases l <;> simp [Z0, Jl, QY, ln, bx, in5, c1]
theorem Kc {p : List Pr} {B Wd : List Str} (hg : G5 B Wd p) {h : MH} : Qm [QX (pp p)] h = some (.lst ((als p).map fun l => QY (ln l)), h) := by
  have hl := hg.len
  have key := Jg (items := (pp p).map Zv) (b := Je 2) (body := Z7) (fun j σ h => ∃ x, σ = [some (QX (pp p)), some (.ref 0), x] ∧ h = [.lst ((als (p.take j)).map fun l => QY (ln l))] ∧ (als (p.take j)).length ≤ 20 * j) ((pp p).map Zv) 0 [some (QX (pp p)), some (.ref 0), none] [.lst []] ⟨_, rfl, rfl, by simp [als]⟩ (by
    rintro j w hj σ h ⟨x, rfl, rfl, hle⟩
    rw [List.getElem?_map] at hj
    obtain ⟨y, hy, rfl⟩ := Option.map_eq_some_iff.mp hj
    unfold pp at hy
    rw [List.getElem?_map] at hy
    obtain ⟨z, hz, rfl⟩ := Option.map_eq_some_iff.mp hy
    have hjl := (List.getElem?_eq_some_iff.mp hz).1
    have hzs := hg.sz z (List.mem_iff_getElem?.mpr ⟨j, hz⟩)
    rw [Nat.zero_add] at hle ⊢
    have ha : als (p.take (j + 1)) = als (p.take j) ++ z.2 := by
      unfold als
      rw [List.take_add_one, hz, List.flatMap_append]
      simp
    have sz : ((als (p.take j)).length + z.2.length) ≤ sizeLine := Nat.le_of_lt (szS (by omega))
    refine ⟨[some (QX (pp p)), some (.ref 0), some (Zv (z.1, z.2.map ln))], rfl, [some (QX (pp p)), some (.ref 0), some (Zv (z.1, z.2.map ln))], [.lst ((als (p.take (j + 1))).map fun l => QY (ln l))], .inl ?_, _, rfl, rfl, by rw [ha, List.length_append]; omega⟩
    rw [ha]
    simp [Zv, sz, JE])
  obtain ⟨σ', h', el, x, rfl, rfl, _⟩ := key
  rw [List.length_map, Nat.zero_add] at el
  have ht : p.take (pp p).length = p := List.take_of_length_le (by unfold pp; simp)
  rw [ht] at el
  refine Y6 (j := 0) (g := [.lst ((als p).map fun l => QY (ln l))]) (by simp) ?_ rfl (Zg _ (ZG fun _ => Uh))
  have ei : Zx (Qg 0) [some (QX (pp p)), some (.ref 0), none] [.lst []] = some ((pp p).map Zv, none, [.lst []]) := rfl
  simp [ZI, Jl, J4, ei, el]
end My

namespace My
open PySem PySem.Spec PyProof.Rows L2 Mi
theorem Vu {m : FM} {ws us : List W} {j : Nat} {g h : MH} (hp : ZB ws = true) (e : m ws [] = some (.ref j, g)) (hj : g[j]? = some (.lst us)) (hu : ZB us = true) : box frR m ws h = some (.ref h.length, h ++ [.lst us]) := by
  have hr : JK 0 ws = some (ws, []) := by
    generalize 0 = k
    clear e
    induction ws with
    | nil => rfl
    | cons w ws ih =>
      unfold ZB at hp
      rw [Bool.and_eq_true] at hp
      cases w with
      | ref n => have := hp.1; unfold pur at this; cases this
      | _ => unfold JK; rw [if_pos hp.1, ih hp.2]; rfl
  unfold box
  rw [hr, Option.bind_some]
  unfold Ul
  rw [if_pos List.nodup_nil]
  simp only [QW, Option.bind_some, e]
  rw [if_pos ⟨by simp [frR], by simp [frR]⟩]
  have h1 : ∀ f, ths f us = some us := fun f => ZD f us hu
  simp [frR, th, res, VS, QW, thO, Qz, hj, h1]

theorem Vh {a : W} {ss : List Str} {h : MH} (hn : lsW h a = some (ss.map .str)) (h1 : ss.length < 4000) (h2 : (St.uniq ss).length < 64) : Zo [a] h = some (.ref h.length, h ++ [.lst ((St.srt (St.uniq ss)).map .str)]) := by
  unfold Zo
  simp only [hn, Option.bind_some, K8]
  rw [if_pos ⟨h1, h2⟩]
theorem Ke {p : List Pr} {B Wd : List Str} (hg : G5 B Wd p) : (als p).length ≤ 100 := by
  have key : ∀ (q : List Pr), (∀ x ∈ q, x.2.length ≤ 20) → (als q).length ≤ 20 * q.length := by
    intro q
    induction q with
    | nil => intro _; simp [als]
    | cons x q ih =>
      intro h
      have h1 := ih fun y hy => h y (List.mem_cons_of_mem _ hy)
      have h2 := h x List.mem_cons_self
      unfold als at h1 ⊢
      rw [List.flatMap_cons, List.length_append, List.length_cons]
      omega
  have h1 := key p hg.sz
  have h2 := hg.len
  omega
theorem U7 (l : Li) : (bx l).length ≤ 3 := by cases l <;> simp [bx]
theorem Kh : ∀ (ls : List Li), (ls.flatMap bx).length ≤ 3 * ls.length
  | [] => by simp
  | l :: ls => by
    have h1 := Kh ls
    have h2 := U7 l
    rw [List.flatMap_cons, List.length_append, List.length_cons]
    omega
theorem X7 {l B : List Str} (h : ∀ y ∈ l, y ∈ B) (hB : B.length ≤ 5) : (St.uniq l).length < 64 := by
  have := GA _ B (XT _ l rfl) fun y hy => h y ((St.uniq_mem _ l rfl y).mp hy)
  omega
theorem XM {p : List Pr} {B Wd : List Str} (hg : G5 B Wd p) (hB : B.length ≤ 5) {h : MH} : Zi [QX (pp p)] h = some (.ref h.length, h ++ [.lst ((St.srt (St.uniq ((als p).flatMap bx))).map .str)]) := by
  have hl := Ke hg
  have key := Jg (items := (als p).map fun l => QY (ln l)) (b := Je 2) (body := Jm) (fun j σ h => ∃ x, σ = [some (QX (pp p)), some (.ref 0), x] ∧ h = [.lst ((((als p).take j).flatMap bx).map .str)]) ((als p).map fun l => QY (ln l)) 0 [some (QX (pp p)), some (.ref 0), none] [.lst []] ⟨_, rfl, by simp⟩ (by
    rintro j w hj σ h ⟨x, rfl, rfl⟩
    rw [List.getElem?_map] at hj
    obtain ⟨z, hz, rfl⟩ := Option.map_eq_some_iff.mp hj
    have hjl := (List.getElem?_eq_some_iff.mp hz).1
    rw [Nat.zero_add]
    have ha : ((als p).take (j + 1)).flatMap bx = ((als p).take j).flatMap bx ++ bx z := by
      rw [List.take_add_one, hz, List.flatMap_append]
      simp
    have h1 := Kh ((als p).take j)
    rw [List.length_take] at h1
    have h2 := U7 z
    have sz : ((((als p).take j).flatMap bx).map W.str).length + ((bx z).map W.str).length ≤ sizeLine := by rw [List.length_map, List.length_map]; exact Nat.le_of_lt (szS (by omega))
    refine ⟨[some (QX (pp p)), some (.ref 0), some (QY (ln z))], rfl, [some (QX (pp p)), some (.ref 0), some (QY (ln z))], [.lst ((((als p).take (j + 1)).flatMap bx).map .str)], .inl ?_, _, rfl, rfl⟩
    rw [ha, List.map_append]
    have eb : ∀ h, QM [QY (ln z)] h = some (.lst ((bx z).map .str), h) := fun h => XS
    generalize (bx z).map W.str = Y at *
    generalize (((als p).take j).flatMap bx).map W.str = X at *
    simp [eb, sz])
  obtain ⟨σ', h', el, x, rfl, rfl⟩ := key
  rw [List.length_map, Nat.zero_add, List.take_length] at el
  have hm : ∀ y ∈ (als p).flatMap bx, y ∈ B := fun y hy => by
    obtain ⟨l, hl, hy⟩ := List.mem_flatMap.mp hy
    exact hg.b l hl y hy
  have h3 := Kh (als p)
  refine Vu (j := 1) (g := [.lst (((als p).flatMap bx).map .str), .lst ((St.srt (St.uniq ((als p).flatMap bx))).map .str)]) (by simp) ?_ rfl (by simp)
  have ea : ∀ h, Qm [QX (pp p)] h = some (.lst ((als p).map fun l => QY (ln l)), h) := fun h => Kc hg
  have ei : Zx (Qw 1 Qm (Qb (Qg 0) Qn)) [some (QX (pp p)), some (.ref 0), none] [.lst []] = some ((als p).map fun l => QY (ln l), none, [.lst []]) := by
    have : Qw 1 Qm (Qb (Qg 0) Qn) [some (QX (pp p)), some (.ref 0), none] [.lst []] = some (.lst ((als p).map fun l => QY (ln l)), [.lst []]) := by simp [ea]
    unfold Zx; rw [this]; rfl
  have es : Zo [.ref 0] [.lst (((als p).flatMap bx).map .str)] = some (.ref 1, [.lst (((als p).flatMap bx).map .str), .lst ((St.srt (St.uniq ((als p).flatMap bx))).map .str)]) := by
    exact Vh rfl (by omega) (X7 hm hB)
  generalize (als p).flatMap bx = FB at *
  simp [ZU, Jl, J4, ei, el, es]
theorem XE {p : List Pr} {B Wd : List Str} (hg : G5 B Wd p) (hW : Wd.length ≤ 5) {h : MH} : Zf [QX (pp p)] h = some (.ref h.length, h ++ [.lst ((St.srt (St.uniq ((als p).flatMap wd))).map .str)]) := by
  have hl := Ke hg
  have ea : ∀ h, Qm [QX (pp p)] h = some (.lst ((als p).map fun l => QY (ln l)), h) := fun h => Kc hg
  have ei : Zx (Qw 1 Qm (Qb (Qg 0) Qn)) [some (QX (pp p))] [] = some ((als p).map fun l => QY (ln l), none, []) := by
    have : Qw 1 Qm (Qb (Qg 0) Qn) [some (QX (pp p))] [] = some (.lst ((als p).map fun l => QY (ln l)), []) := by simp [ea]
    unfold Zx; rw [this]; rfl
  have key : ∀ (r acc : List Li) (τ : Option W), acc.length + r.length ≤ 100 → Zp Ki ((als p).map fun l => QY (ln l)) none (Je 0) (QV (Qo wEq (Qo wIx (Qg 0) (mC (.int 0))) (mC (.str "pair")))) (Qo wIx (Qg 0) (mC (.int 2))) (r.map fun l => QY (ln l)) ((acc.flatMap wd).map .str) [τ] [] = some (.lst (((acc ++ r).flatMap wd).map .str), []) := by
    intro r
    induction r with
    | nil => intro acc τ _; rw [List.map_nil, Zp, if_pos (Zk _ _), List.append_nil]; rfl
    | cons l r ih =>
      intro acc τ hle
      rw [List.length_cons] at hle
      have wl : ∀ (q : List Li), (q.flatMap wd).length ≤ q.length := by
        intro q
        induction q with
        | nil => simp
        | cons a q ihq =>
          rw [List.flatMap_cons, List.length_append, List.length_cons]
          have : (wd a).length ≤ 1 := by cases a <;> simp [wd]
          omega
      rw [List.map_cons, Zp, if_pos (Zk _ _)]
      show (some [some (QY (ln l))]).bind _ = _
      rw [Option.bind_some]
      have nxt := ih (acc ++ [l]) (some (QY (ln l))) (by simp; omega)
      rw [List.append_assoc, List.flatMap_append, List.map_append] at nxt
      have sz : ((acc.flatMap wd).map W.str).length < sizeLine := by rw [List.length_map]; have := wl acc; exact szS (by omega)
      cases l with
      | pair x w y z =>
        have e1 : QV (Qo wEq (Qo wIx (Qg 0) (mC (.int 0))) (mC (.str "pair"))) [some (QY (ln (.pair x w y z)))] [] = some (true, []) := by simp [QY, ln]
        have e2 : Qo wIx (Qg 0) (mC (.int 2)) [some (QY (ln (.pair x w y z)))] [] = some (.str w, []) := by simp [QY, ln]
        rw [e1, Option.bind_some]
        show (Qo wIx (Qg 0) (mC (.int 2)) [some (QY (ln (.pair x w y z)))] []).bind _ = _
        rw [e2, Option.bind_some, if_pos sz]
        exact nxt
      | _ =>
        rw [show QV (Qo wEq (Qo wIx (Qg 0) (mC (.int 0))) (mC (.str "pair"))) [some (QY (ln _))] [] = some (false, []) by simp [QY, ln], Option.bind_some]
        simpa [wd] using nxt
  have ec : Jh Ki (Zx (Qw 1 Qm (Qb (Qg 0) Qn))) [none] (Je 0) (QV (Qo wEq (Qo wIx (Qg 0) (mC (.int 0))) (mC (.str "pair")))) (Qo wIx (Qg 0) (mC (.int 2))) [some (QX (pp p))] [] = some (.lst (((als p).flatMap wd).map .str), []) := by
    unfold Jh
    rw [ei, Option.bind_some]
    exact key (als p) [] none (by simpa using hl)
  have hm : ∀ y ∈ (als p).flatMap wd, y ∈ Wd := fun y hy => by
    obtain ⟨l, hl, hy⟩ := List.mem_flatMap.mp hy
    exact hg.w l hl y hy
  have h3 : ((als p).flatMap wd).length < 4000 := by
    have : ∀ (q : List Li), (q.flatMap wd).length ≤ q.length := by
      intro q
      induction q with
      | nil => simp
      | cons a q ihq =>
        rw [List.flatMap_cons, List.length_append, List.length_cons]
        have : (wd a).length ≤ 1 := by cases a <;> simp [wd]
        omega
    have := this (als p)
    omega
  refine Vu (j := 0) (g := [.lst ((St.srt (St.uniq ((als p).flatMap wd))).map .str)]) (by simp) ?_ rfl (by simp)
  have es : Zo [.lst (((als p).flatMap wd).map .str)] [] = some (.ref 0, [.lst ((St.srt (St.uniq ((als p).flatMap wd))).map .str)]) := Vh rfl h3 (X7 hm hW)
  simp [ZP, Jl, ec, es]
end My

namespace My
open PySem PySem.Spec PyProof.Rows L2 Mi
theorem Jt {ms : MA} {σ : MSt} {h h' : MH} {j : Nat} (e : ms σ h = some ([.int j], h')) (hj : j < 1000000) : XD ms σ h = some (QA 0 j, none, h') := by
  unfold XD
  rw [e, Option.bind_some]
  exact (if_pos ⟨by omega, by omega⟩).trans (by simp)
theorem J0 {a : Int} {n : Nat} : (QA a n).length = n := by simp [QA]
theorem Ka {p : List Pr} {j : Nat} {z : Pr} (hz : p[j]? = some z) : plc (p.take (j + 1)) = plc (p.take j) ++ (List.range (z.2.length + 1)).map fun k => (j, k) := by
  have hj := (List.getElem?_eq_some_iff.mp hz).1
  unfold plc
  rw [List.take_add_one, hz, Option.toList_some, List.zipIdx_append, List.flatMap_append, List.length_take, Nat.min_eq_left (by omega)]
  simp
theorem WG {p : List Pr} {σ : MSt} {h : MH} {mi : MI} {c j n : Nat} (hi : mi σ h = some (QA 0 n, none, h)) (hc : σ[c]? = some (some (.int j))) (hn : n ≤ 1000) :
    Jh Ki mi [none, some c] (Je 0) YJ (mFn Z8 (Qb (Qg 1) (Qb (Qg 0) Qn))) σ h = some (.lst (((List.range n).map fun k => (j, k)).map ePl), h) := by
  have k2 : 2 ≤ sizeLine := by decide
  have ec := Kj (fin := Ki) (mi := mi) (cp := [none, some c]) (me := mFn Z8 (Qb (Qg 1) (Qb (Qg 0) Qn))) (σ := σ) (caps := [some (.int j)]) (h := h) (items := QA 0 n) (fun w => W.tup [.int j, w]) hi ⟨none, by simp [UX, hc]⟩ (fun w hw => by simp) (by rw [J0]; exact Nat.le_of_lt (szS (by omega)))
  rw [ec]
  show some (W.lst _, h) = _
  congr 3
  unfold QA
  rw [List.map_map, List.map_map]
  apply List.map_congr_left
  intro k _
  simp [ePl]
theorem K6 {p : List Pr} {B Wd : List Str} (hg : G5 B Wd p) {h : MH} : Q5 [QX (pp p)] h = some (.ref h.length, h ++ [.lst ((plc p).map ePl)]) := by
  have hl := hg.len
  have hpl : (pp p).length = p.length := by simp [pp]
  have key := Jg (items := QA 0 p.length) (b := Je 2) (body := Z6) (fun j σ h => ∃ x, σ = [some (QX (pp p)), some (.ref 0), x] ∧ h = [.lst ((plc (p.take j)).map ePl)] ∧ (plc (p.take j)).length ≤ 21 * j) (QA 0 p.length) 0 [some (QX (pp p)), some (.ref 0), none] [.lst []] ⟨_, rfl, rfl, by simp [plc]⟩ (by
    rintro j w hj σ h ⟨x, rfl, rfl, hle⟩
    obtain ⟨hjl, rfl⟩ := Xx hj
    have hz : p[j]? = some p[j] := List.getElem?_eq_getElem hjl
    generalize p[j] = z at hz
    have hzs := hg.sz z (List.mem_iff_getElem?.mpr ⟨j, hz⟩)
    rw [Nat.zero_add] at hle ⊢
    have ha := Ka hz
    have sz : (plc (p.take j)).length + (z.2.length + 1) ≤ sizeLine := Nat.le_of_lt (szS (by omega))
    have ew : (0 : Int) + (j : Int) = (j : Int) := by omega
    rw [ew]
    have at1 : atI ((pp p).map Zv) (j : Int) = some (Zv (z.1, z.2.map ln)) := by
      rw [Zu, List.getElem?_map]; unfold pp; rw [List.getElem?_map, hz]; rfl
    refine ⟨[some (QX (pp p)), some (.ref 0), some (.int j)], rfl, [some (QX (pp p)), some (.ref 0), some (.int j)], [.lst ((plc (p.take (j + 1))).map ePl)], .inl ?_, _, rfl, rfl, by rw [ha, List.length_append, List.length_map, List.length_range]; omega⟩
    have er : XD (Qb (Qo JA (mFn KW (Qb (Qo wIx (Qo wIx (Qg 0) (Qg 2)) (mC (.int 1))) Qn)) (mC (.int 1))) Qn) [some (QX (pp p)), some (.ref 0), some (.int j)] [.lst ((plc (p.take j)).map ePl)] = some (QA 0 (z.2.length + 1), none, [.lst ((plc (p.take j)).map ePl)]) := Jt (by
      simp [QX, at1, Zv]) (by omega)
    have ec := WG (p := p) (c := 2) (j := j) er rfl (by omega)
    rw [ha, List.map_append]
    have sz' : ((plc (p.take j)).map ePl).length + (((List.range (z.2.length + 1)).map fun k => (j, k)).map ePl).length ≤ sizeLine := by simpa using sz
    generalize ((List.range (z.2.length + 1)).map fun k => (j, k)).map ePl = Y at *
    generalize (plc (p.take j)).map ePl = X at *
    simp [ec, sz'])
  obtain ⟨σ', h', el, x, rfl, rfl, _⟩ := key
  rw [J0, Nat.zero_add, List.take_length] at el
  refine Vu (j := 0) (g := [.lst ((plc p).map ePl)]) (by simp) ?_ rfl (Zg _ (ZG fun _ => by simp [ePl, pln, Jo]))
  have er : ∀ h, XD (Qb (mFn KW (Qb (Qg 0) Qn)) Qn) [some (QX (pp p)), some (.ref 0), none] h = some (QA 0 p.length, none, h) := fun h => Jt (by simp [QX, hpl]) (by omega)
  simp [ZL, Jl, J4, er, el]
end My

namespace My
open PySem PySem.Spec PyProof.Rows L2 Mi
noncomputable def adl (u : List Str) (x : Str) : List Str := if x ∈ u then u else u ++ [x]
theorem XI {u : List Str} {x : Str} : (adl u x).length ≤ u.length + 1 := by unfold adl; split <;> simp
theorem Vm (a b : List Str) : St.uniq (a ++ b) = b.foldl adl (St.uniq a) := by unfold St.uniq; rw [List.foldl_append]; rfl
theorem X1 {L : List Str} {x : Str} {h : MH} {n : Nat} (hn : h[n]? = some (.lst (L.map .str))) (hl : L.length ≤ 1000) : Qj [.ref n, .str x] h = some (.non, h.set n (.lst ((adl L x).map .str))) := by
  have hin : inW (.str x) (L.map .str) = decide (x ∈ L) := by
    have := inS (g := false) (x := x) (l := L) (h := [])
    rw [U8 rfl Zq (by simp [dep]) (Nat.le_trans Z4 (by decide))] at this
    simpa using this
  have e1 : ∀ (h : MH), h[0]? = some (.lst (L.map .str)) → wIn true (.str x) (.ref 0) h = some (.bl (!decide (x ∈ L)), h) := fun h e => by
    rw [Qbf e rfl Zq (by simp [dep]) (Nat.le_trans Z4 (by decide)), hin]; rfl
  refine UR (o := .lst (L.map .str)) (o' := .lst ((adl L x).map .str)) (g := []) (by simp) hn (by simp [UZ]) ?_ rfl ⟨_, rfl, by simp⟩
  have e2 := e1 [.lst (L.map .str)] rfl
  have sz : L.length < sizeLine := szS (by omega)
  by_cases hx : x ∈ L
  · have : adl L x = L := by unfold adl; rw [if_pos hx]
    rw [this]
    simp [Q4, Jl, e2, hx]
  · have : adl L x = L ++ [x] := by unfold adl; rw [if_neg hx]
    rw [this, List.map_append]
    simp [Q4, Jl, e2, hx, sz]
theorem a0 {L : List Str} {x : Str} {a b : MO} (hl : L.length ≤ 1000) : Qj [.ref 0, .str x] [.lst (L.map .str), a, b] = some (.non, [.lst ((adl L x).map .str), a, b]) := X1 (n := 0) rfl hl
theorem a1 {L : List Str} {x : Str} {a b : MO} (hl : L.length ≤ 1000) : Qj [.ref 1, .str x] [a, .lst (L.map .str), b] = some (.non, [a, .lst ((adl L x).map .str), b]) := X1 (n := 1) rfl hl
theorem in6 {x : Str} {h : MH} : wIn false (.str x) (.tup [.str "pair", .str "first", .str "second", .str "same", .str "none", .str "tell"]) h = some (.bl (decide (x ∈ [("pair" : Str), "first", "second", "same", "none", "tell"])), h) := by
  have := inS (g := false) (x := x) (l := [("pair" : Str), "first", "second", "same", "none", "tell"]) (h := h)
  simpa using this
theorem in3 {x : Str} {h : MH} : wIn false (.str x) (.tup [.str "first", .str "second", .str "same"]) h = some (.bl (decide (x ∈ [("first" : Str), "second", "same"])), h) := by
  have := inS (g := false) (x := x) (l := [("first" : Str), "second", "same"]) (h := h)
  simpa using this
noncomputable abbrev H5 (D : List Li) (P : List (Nat × Nat)) : MH := [.lst ((St.uniq (D.flatMap bx2)).map .str), .lst ((St.uniq (D.flatMap wd)).map .str), .lst (P.map ePl)]
theorem GL (l : Li) : (bx2 l).length ≤ 3 := by cases l <;> simp [bx2, bx]
theorem Wj {f : Li → List Str} (hf : ∀ l, (f l).length ≤ 3) : ∀ (ls : List Li), (ls.flatMap f).length ≤ 3 * ls.length
  | [] => by simp
  | l :: ls => by
    have h1 := Wj hf ls
    have h2 := hf l
    rw [List.flatMap_cons, List.length_append, List.length_cons]
    omega
theorem Yk {p : List Pr} {n : W} {pt : W} {l : Li} {D : List Li} {P : List (Nat × Nat)} (hD : D.length ≤ 200) :
    ZM [some (QX (pp p)), some (.ref 0), some (.ref 1), some (.ref 2), some n, some pt, some (QY (ln l))] (H5 D P) = some (.nx [some (QX (pp p)), some (.ref 0), some (.ref 1), some (.ref 2), some n, some pt, some (QY (ln l))] (H5 (D ++ [l]) P)) := by
  have hU : (St.uniq (D.flatMap bx2)).length ≤ 600 := by have h1 := St.uniq_len _ (D.flatMap bx2) rfl; have h2 := Wj GL D; omega
  have hW : (St.uniq (D.flatMap wd)).length ≤ 600 := by have h1 := St.uniq_len _ (D.flatMap wd) rfl; have h2 := Wj (f := wd) (fun l => by cases l <;> simp [wd]) D; omega
  have eu : St.uniq ((D ++ [l]).flatMap bx2) = (bx2 l).foldl adl (St.uniq (D.flatMap bx2)) := by rw [List.flatMap_append, Vm]; simp
  have ew : St.uniq ((D ++ [l]).flatMap wd) = (wd l).foldl adl (St.uniq (D.flatMap wd)) := by rw [List.flatMap_append, Vm]; simp
  unfold H5
  rw [eu, ew]
  generalize St.uniq (D.flatMap bx2) = U at *
  generalize St.uniq (D.flatMap wd) = V at *
  have z1 : ∀ x a b, Qj [.ref 0, .str x] [.lst (U.map .str), a, b] = some (.non, [.lst ((adl U x).map .str), a, b]) := fun x a b => a0 (by omega)
  have z2 : ∀ x y a b, Qj [.ref 0, .str y] [.lst ((adl U x).map .str), a, b] = some (.non, [.lst ((adl (adl U x) y).map .str), a, b]) := fun x y a b => a0 (by have := XI (u := U) (x := x); omega)
  have z3 : ∀ x y z a b, Qj [.ref 0, .str z] [.lst ((adl (adl U x) y).map .str), a, b] = some (.non, [.lst ((adl (adl (adl U x) y) z).map .str), a, b]) := fun x y z a b => a0 (by have := XI (u := U) (x := x); have := XI (u := adl U x) (x := y); omega)
  have z4 : ∀ x a b, Qj [.ref 1, .str x] [a, .lst (V.map .str), b] = some (.non, [a, .lst ((adl V x).map .str), b]) := fun x a b => a1 (by omega)
  cases l <;> simp [QY, ln, bx2, bx, wd, in6, in3, z1, z2, z3, z4]
end My

namespace My
open PySem PySem.Spec PyProof.Rows L2 Mi
noncomputable abbrev dS (p : List Pr) (a b c : Option W) : MSt := [some (QX (pp p)), some (.ref 0), some (.ref 1), some (.ref 2), a, b, c]
theorem Vd {p : List Pr} {a b : W} {items : List W} {P : List (Nat × Nat)} : ∀ (ls D : List Li) (c : Option W), D.length + ls.length ≤ 200 → ∃ c', ZY items none (Je 6) ZM (ls.map fun l => QY (ln l)) (dS p (some a) (some b) c) (H5 D P) = some (.nx (dS p (some a) (some b) c') (H5 (D ++ ls) P))
  | [], D, c, _ => ⟨c, by rw [List.append_nil]; exact JF⟩
  | l :: ls, D, c, h => by
    rw [List.length_cons] at h
    obtain ⟨c', e⟩ := Vd (p := p) (a := a) (b := b) (items := items) (P := P) ls (D ++ [l]) (some (QY (ln l))) (by simp; omega)
    refine ⟨c', ?_⟩
    rw [List.map_cons, ZV (σ1 := dS p (some a) (some b) (some (QY (ln l)))) rfl (Yk (by omega)), e, List.append_assoc]
    rfl
theorem K7 {p : List Pr} {z : Pr} {j : Nat} {c : Option W} {D : List Li} {P : List (Nat × Nat)} (hD : D.length + z.2.length ≤ 200) (hP : P.length ≤ 1000) (hz : z.2.length ≤ 20) :
    ∃ c', ZF (dS p (some (.int j)) (some (Zv (z.1, z.2.map ln))) c) (H5 D P) = some (.nx (dS p (some (.int j)) (some (Zv (z.1, z.2.map ln))) c') (H5 (D ++ z.2) (P ++ (List.range (z.2.length + 1)).map fun k => (j, k)))) := by
  obtain ⟨c', e⟩ := Vd (p := p) (a := .int j) (b := Zv (z.1, z.2.map ln)) (items := z.2.map fun l => QY (ln l)) (P := P) z.2 D c hD
  refine ⟨c', ?_⟩
  have ei : Zx (Qo wIx (Qg 5) (mC (.int 1))) (dS p (some (.int j)) (some (Zv (z.1, z.2.map ln))) c) (H5 D P) = some (z.2.map fun l => QY (ln l), none, H5 D P) := by
    have : Qo wIx (Qg 5) (mC (.int 1)) (dS p (some (.int j)) (some (Zv (z.1, z.2.map ln))) c) (H5 D P) = some (.tup (z.2.map fun l => QY (ln l)), H5 D P) := by simp [Zv, Function.comp_def]
    unfold Zx; rw [this]; rfl
  have er : XD (Qb (Qo JA (mFn KW (Qb (Qo wIx (Qg 5) (mC (.int 1))) Qn)) (mC (.int 1))) Qn) (dS p (some (.int j)) (some (Zv (z.1, z.2.map ln))) c') (H5 (D ++ z.2) P) = some (QA 0 (z.2.length + 1), none, H5 (D ++ z.2) P) := Jt (by simp [Zv]) (by omega)
  have ec := WG (p := p) (c := 4) (j := j) er rfl (by omega)
  have sz' : (P.map ePl).length + (((List.range (z.2.length + 1)).map fun k => (j, k)).map ePl).length ≤ sizeLine := by simp; exact Nat.le_of_lt (szS (by omega))
  unfold H5 at *
  rw [List.map_append]
  simp only [dS] at *
  generalize ((List.range (z.2.length + 1)).map fun k => (j, k)).map ePl = Y at *
  generalize P.map ePl = X at *
  generalize (St.uniq ((D ++ z.2).flatMap bx2)).map W.str = U at *
  generalize (St.uniq ((D ++ z.2).flatMap wd)).map W.str = V at *
  generalize (St.uniq (D.flatMap bx2)).map W.str = U0 at *
  generalize (St.uniq (D.flatMap wd)).map W.str = V0 at *
  simp [J4, ei, e, ec, sz']
theorem Ya {a : W} {ss : List Str} {h : MH} (hn : lsW h a = some (ss.map .str)) (h1 : ss.length < 64) : Xg [a] h = some (.lst ((St.srt ss).map .str), h) := by
  unfold Xg
  simp only [hn, Option.bind_some, K8]
  rw [if_pos h1]
noncomputable def UE (p : List Pr) : W := .lst [.lst ((St.srt (St.uniq ((als p).flatMap bx))).map .str), .lst ((St.srt (St.uniq ((als p).flatMap wd))).map .str), .lst ((plc p).map ePl)]
theorem Wf {ws : List W} {j : Nat} {w : W} (h : (JB ws)[j]? = some w) : ∃ x, ws[j]? = some x ∧ w = .tup [.int j, x] := by
  unfold JB at h
  rw [List.getElem?_map, List.getElem?_zipIdx] at h
  obtain ⟨⟨x, k⟩, h1, rfl⟩ := Option.map_eq_some_iff.mp h
  obtain ⟨y, h2, h3⟩ := Option.map_eq_some_iff.mp h1
  cases h3
  exact ⟨x, h2, by simp⟩
theorem U5 {p : List Pr} {B Wd : List Str} (hg : G5 B Wd p) (hB : B.length ≤ 5) (hW : Wd.length ≤ 5) {h : MH} : Q3 [QX (pp p)] h = some (UE p, h) := by
  have hl := hg.len
  have key := Jg (items := JB ((pp p).map Zv)) (b := YM [4, 5]) (body := ZF) (fun j σ h => ∃ a b c, σ = dS p a b c ∧ h = H5 (als (p.take j)) (plc (p.take j)) ∧ (als (p.take j)).length ≤ 20 * j ∧ (plc (p.take j)).length ≤ 21 * j) (JB ((pp p).map Zv)) 0 (dS p none none none) (H5 [] []) ⟨_, _, _, rfl, rfl, by simp [als], by simp [plc]⟩ (by
    rintro j w hj σ h ⟨a, b, c, rfl, rfl, h1, h2⟩
    obtain ⟨x, hx, rfl⟩ := Wf hj
    rw [List.getElem?_map] at hx
    obtain ⟨y, hy, rfl⟩ := Option.map_eq_some_iff.mp hx
    unfold pp at hy
    rw [List.getElem?_map] at hy
    obtain ⟨z, hz, rfl⟩ := Option.map_eq_some_iff.mp hy
    have hjl := (List.getElem?_eq_some_iff.mp hz).1
    have hzs := hg.sz z (List.mem_iff_getElem?.mpr ⟨j, hz⟩)
    rw [Nat.zero_add] at h1 h2 ⊢
    have ha : als (p.take (j + 1)) = als (p.take j) ++ z.2 := by
      unfold als
      rw [List.take_add_one, hz, List.flatMap_append]
      simp
    have hp := Ka hz
    obtain ⟨c', e⟩ := K7 (p := p) (z := z) (j := j) (c := c) (D := als (p.take j)) (P := plc (p.take j)) (by omega) (by omega) hzs
    exact ⟨dS p (some (.int j)) (some (Zv (z.1, z.2.map ln))) c, rfl, _, _, .inl e, _, _, _, rfl, by rw [ha, hp], by rw [ha, List.length_append]; omega, by rw [hp, List.length_append, List.length_map, List.length_range]; omega⟩)
  obtain ⟨σ', h', el, a, b, c, rfl, rfl, _⟩ := key
  have ht : p.take (0 + (JB ((pp p).map Zv)).length) = p := List.take_of_length_le (by simp [JB, pp])
  rw [ht] at el
  have hU : (St.uniq ((als p).flatMap bx2)).length < 64 := X7 (B := B) (fun y hy => by
    obtain ⟨l, hl, hy⟩ := List.mem_flatMap.mp hy
    exact hg.b l hl y (bx2_mem.mp hy)) hB
  have hV : (St.uniq ((als p).flatMap wd)).length < 64 := X7 (B := Wd) (fun y hy => by
    obtain ⟨l, hl, hy⟩ := List.mem_flatMap.mp hy
    exact hg.w l hl y hy) hW
  have eq : St.srt (St.uniq ((als p).flatMap bx2)) = St.srt (St.uniq ((als p).flatMap bx)) := Wa fun y => by
    simp only [List.mem_flatMap, bx2_mem]
  have s1 : Xg [.ref 0] (H5 (als p) (plc p)) = some (.lst ((St.srt (St.uniq ((als p).flatMap bx))).map .str), H5 (als p) (plc p)) := by rw [← eq]; exact Ya rfl hU
  have s2 : Xg [.ref 1] (H5 (als p) (plc p)) = some (.lst ((St.srt (St.uniq ((als p).flatMap wd))).map .str), H5 (als p) (plc p)) := Ya rfl hV
  have hpl : ZB ((plc p).map ePl) = true := Zg _ (ZG fun _ => by simp [ePl, pln, Jo])
  have hr : JK 0 [QX (pp p)] = some ([QX (pp p)], []) := by
    unfold QX; unfold JK; rw [if_pos (by show pur (QX (pp p)) = true; simp)]; rfl
  refine (Ue (os := []) (os' := []) (g := H5 (als p) (plc p)) (w := .lst [.lst ((St.srt (St.uniq ((als p).flatMap bx))).map .str), .lst ((St.srt (St.uniq ((als p).flatMap wd))).map .str), .ref 2]) (w' := UE p) hr (by simp) rfl ?_ rfl (by simp) ?_).trans rfl
  · have ei : Kk (Qb (Qg 0) Qn) (dS p none none none) (H5 [] []) = some (JB ((pp p).map Zv), none, H5 [] []) := by
      have : (Qb (Qg 0) Qn) (dS p none none none) (H5 [] []) = some ([.tup ((pp p).map Zv)], H5 [] []) := by simp [QX]
      unfold Kk; rw [this]; rfl
    have k3 : 3 ≤ sizeLine := by decide
    have h0 : H5 [] [] = [.lst [], .lst [], .lst []] := rfl
    rw [h0] at ei el
    generalize H5 (als p) (plc p) = HH at *
    simp only [dS] at ei el
    simp [ZZ, Jl, J4, ei, el, s1, s2, k3]
  · unfold UE
    simp [th, ths, res, VS, ZD, hpl]
end My

namespace My
open PySem PySem.Spec PyProof.Rows L2 Mi
theorem J2 (ns : List Int) (k : Nat) (hk : k < 1000) : ∃ c : Int, 0 ≤ c ∧ ∀ h : MH, Qe [.frz (ns.map .int), .int k] h = some (.int c, h) := by
  by_cases hl : k < ns.length
  · refine ⟨ns[k] % 10 ^ 40, Int.emod_nonneg _ (by decide), fun h => Z3 (g := []) (by simp [ZB, pur]) ?_ rfl⟩
    have at1 : atI (ns.map W.int) (k : Int) = some (.int ns[k]) := by rw [Zu, List.getElem?_map, List.getElem?_eq_getElem hl]; rfl
    have hl' : (k : Int) < ns.length := by omega
    generalize ns[k] = v at at1
    simp [Zd, Jl, hl', at1]
  · refine ⟨((k : Int) + 2) * 86028121 * ((k : Int) + 6) / 11, Int.ediv_nonneg (Int.mul_nonneg (by omega) (by omega)) (by decide), fun h => Z3 (g := []) (by simp [ZB, pur]) ?_ rfl⟩
    have hl' : ¬ (k : Int) < ns.length := by omega
    have mm : ∀ a : Int, VY (.int a) (.int ((k : Int) + 6)) [] = some (.int (a * ((k : Int) + 6)), []) := fun a => (if_pos (.inr ⟨by omega, by omega⟩) : (if (-(2 ^ 64) < a ∧ a < 2 ^ 64) ∨ (-(2 ^ 64) < ((k : Int) + 6) ∧ ((k : Int) + 6) < 2 ^ 64) then some (W.int (a * ((k : Int) + 6)), ([] : MH)) else none) = _)
    simp [Zd, Jl, hl', mm]
theorem Kn {c : Int} (hc : 0 ≤ c) : ∃ N : List Str, N.length = 5 ∧ ∀ h : MH, Qy [.int c] h = some (V2 N, h) := by
  have h1 : 0 ≤ c % 4 := Int.emod_nonneg _ (by decide)
  have h2 : c % 4 < 4 := Int.emod_lt_of_pos _ (by decide)
  obtain ⟨N, _, hN, e⟩ := Xv (xs := [[("z" : Str), "a", "zz", "az", "b"], ["e", "d", "c", "b", "a"], ["ab", "a", "abcdefgh", "abc", "b"], ["q", "w", "e", "r", "t"]]) (i := c % 4) (P := fun N => N.length = 5) (f := V2) h1 (by simpa using h2) (by simp)
  refine ⟨N, hN, fun h => Z3 (g := []) (by simp) ?_ (by simp)⟩
  have k5 : 5 ≤ sizeLine := by decide
  have k4 : 4 ≤ sizeLine := by decide
  simp [V2] at e
  simp [ZA, Jl, k5, k4, e, V2]
theorem Uq {c : Int} {B Wd : List Str} (hB : B.length = 5) (hW : Wd.length = 5) (hc : 0 ≤ c) : ∃ l : Li, (∀ y ∈ bx l, y ∈ B) ∧ (∀ y ∈ wd l, y ∈ Wd) ∧ ∀ h : MH, QN [.int c, V2 B, V2 Wd] h = some (QY (ln l), h) := by
  have m : ∀ d : Int, 0 < d → 0 ≤ c / d % 5 ∧ c / d % 5 < 5 := fun d hd => ⟨Int.emod_nonneg _ (by decide), Int.emod_lt_of_pos _ (by decide)⟩
  obtain ⟨x, hx, _, ex⟩ := Xv (xs := B) (i := c / 12 % 5) (P := fun _ => True) (f := W.str) (m 12 (by decide)).1 (by have := (m 12 (by decide)).2; omega) (fun _ _ => trivial)
  obtain ⟨y, hy, _, ey⟩ := Xv (xs := B) (i := c / 60 % 5) (P := fun _ => True) (f := W.str) (m 60 (by decide)).1 (by have := (m 60 (by decide)).2; omega) (fun _ _ => trivial)
  obtain ⟨z, hz, _, ez⟩ := Xv (xs := B) (i := c / 300 % 5) (P := fun _ => True) (f := W.str) (m 300 (by decide)).1 (by have := (m 300 (by decide)).2; omega) (fun _ _ => trivial)
  obtain ⟨w, hw, _, ew⟩ := Xv (xs := Wd) (i := c / 1500 % 5) (P := fun _ => True) (f := W.str) (m 1500 (by decide)).1 (by have := (m 1500 (by decide)).2; omega) (fun _ _ => trivial)
  obtain ⟨l, hl, hP, el⟩ := Xv (xs := [Li.pair x w y z, .first x y, .second x y, .same x y, .non x, .tell y, .back w, .same z x, .back w, .pair x w x x, .tell x, .non z]) (i := c % 12) (P := fun l => (∀ y ∈ bx l, y ∈ B) ∧ (∀ y ∈ wd l, y ∈ Wd)) (f := fun l => QY (ln l)) (Int.emod_nonneg _ (by decide)) (by have := Int.emod_lt_of_pos c (b := 12) (by decide); simpa using this) (by simp [bx, wd, hx, hy, hz, hw])
  refine ⟨l, hP.1, hP.2, fun h => Z3 (g := []) (by simp) ?_ (by simp)⟩
  have k5 : 5 ≤ sizeLine := by decide
  have k3 : 3 ≤ sizeLine := by decide
  have k2 : 2 ≤ sizeLine := by decide
  have k12 : 12 ≤ sizeLine := by decide
  generalize QY (ln l) = RR at el ⊢
  simp [QY, ln] at el
  simp [ZH, Jl, ex, ey, ez, ew, k5, k3, k2, k12, el]
noncomputable abbrev gS (ns : List Int) (B Wd : List Str) (a b c : Option W) : MSt := [some (.frz (ns.map .int)), some (V2 B), some (V2 Wd), some (.ref 0), a, b, c]
theorem X8 {ns : List Int} {B Wd : List Str} {k : Nat} {h0 : MH} {items : List W} (hB : B.length = 5) (hW : Wd.length = 5) (hk : k < 10) : ∀ (n j : Nat) (ls : List Li) (c : Option W), j + n ≤ 7 → ls.length ≤ j → (∀ l ∈ ls, (∀ y ∈ bx l, y ∈ B) ∧ ∀ y ∈ wd l, y ∈ Wd) →
    ∃ (c' : Option W) (ls' : List Li), (∀ l ∈ ls', (∀ y ∈ bx l, y ∈ B) ∧ ∀ y ∈ wd l, y ∈ Wd) ∧ ls'.length ≤ j + n ∧ ZY items none (Je 6) Q2 ((List.range' j n).map fun (i : Nat) => W.int i) (gS ns B Wd (some (.int k)) (some (.ref h0.length)) c) (h0 ++ [.lst (ls.map fun l => QY (ln l))]) = some (.nx (gS ns B Wd (some (.int k)) (some (.ref h0.length)) c') (h0 ++ [.lst (ls'.map fun l => QY (ln l))]))
  | 0, j, ls, c, _, h1, h2 => ⟨c, ls, h2, by omega, JF⟩
  | n + 1, j, ls, c, h, h1, h2 => by
    obtain ⟨v, hv, ev⟩ := J2 ns (7 + 6 * k + j) (by omega)
    obtain ⟨l, b1, b2, el⟩ := Uq hB hW hv
    obtain ⟨c', ls', q1, q2, e⟩ := X8 (ns := ns) (h0 := h0) (items := items) hB hW hk n (j + 1) (ls ++ [l]) (some (.int j)) (by omega) (by simp; omega) (fun x hx => by
      rcases List.mem_append.mp hx with z | z
      · exact h2 x z
      · rw [List.mem_singleton.mp z]; exact ⟨b1, b2⟩)
    refine ⟨c', ls', q1, by omega, ?_⟩
    have ev' : ∀ h, Qe [.frz (ns.map .int), .int (7 + 6 * (k : Int) + (j : Int))] h = some (.int v, h) := fun h => by
      have := ev h
      push_cast at this
      exact this
    have mm : ∀ h, VY (.int 6) (.int (k : Int)) h = some (.int (6 * (k : Int)), h) := fun h => (if_pos (.inl ⟨by decide, by decide⟩) : (if (-(2 ^ 64) < (6 : Int) ∧ (6 : Int) < 2 ^ 64) ∨ (-(2 ^ 64) < (k : Int) ∧ (k : Int) < 2 ^ 64) then some (W.int (6 * (k : Int)), h) else none) = _)
    have sz : ls.length < sizeLine := szS (by omega)
    rw [List.range'_succ, List.map_cons, ZV (σ1 := gS ns B Wd (some (.int k)) (some (.ref h0.length)) (some (.int j))) (σ2 := gS ns B Wd (some (.int k)) (some (.ref h0.length)) (some (.int j))) (h2 := h0 ++ [.lst ((ls ++ [l]).map fun l => QY (ln l))]) rfl ?_, e]
    simp only [gS]
    generalize hL : V2 B = SB at *
    generalize hM : V2 Wd = SW at *
    simp [mm, ev', el, sz]
end My

namespace My
open PySem PySem.Spec PyProof.Rows L2 Mi
theorem Qa6 {a b : List W} {n : Nat} {h : MH} (hn : h[n]? = some (.lst b)) (hl : a.length + b.length ≤ sizeLine) : JA (.lst a) (.ref n) h = some (.lst (a ++ b), h) := by
  show ((some a).bind fun xs => (loW h (.ref n)).bind fun ys => if xs.length + ys.length ≤ sizeLine then some (W.lst (xs ++ ys), h) else none) = _
  rw [Option.bind_some, Qbl]
  simp only [hn, Option.bind_some]
  rw [if_pos hl]
@[simp] theorem QaS {a b : List W} {h : MH} : JA (.lst a) (.lst b) h = if a.length + b.length ≤ sizeLine then some (.lst (a ++ b), h) else none := id rfl
noncomputable abbrev Okl (B Wd : List Str) (ls : List Li) : Prop := ∀ l ∈ ls, (∀ y ∈ bx l, y ∈ B) ∧ ∀ y ∈ wd l, y ∈ Wd
noncomputable abbrev fL : Li → W := fun l => QY (ln l)
noncomputable def Qbe : SM := (XC (KH (QV (Qo wLt (Qg 4) (Qo JN (Qw 2 Qe (Qb (Qg 0) (Qb (mC (.int 1)) Qn))) (mC (.int 5))))) (QV (Qo wGt (Qo JN (Qo XH (Qw 2 Qe (Qb (Qg 0) (Qb (Qo JA (mC (.int 2)) (Qg 4)) Qn))) (mC (.int 7))) (mC (.int 3))) (mC (.int 0))))) (ZO (mMt "list" Zy (Qg 5) (Qb (mFn Z8 (Qb (mC (.str "do")) (Qb (Qo wIx (mFn J8 (Qb (mC (.str "l")) (Qb (mC (.str "k")) (Qb (mC (.str "a")) (Qb (mC (.str "zz")) Qn))))) (Qg 4)) Qn))) Qn))) Jb)
theorem K2 : QG = (Zw (J5 5 (mFn KK Qn))
    (Zw (J4 (XD (Qb (Qo JN (Qw 2 Qe (Qb (Qg 0) (Qb (Qo JA (mC (.int 2)) (Qg 4)) Qn))) (mC (.int 7))) Qn)) (Je 6)
    Q2)
    (Zw Qbe
    (Zw (XC (QV (Qo wEq (Qo JN (Qo XH (Qw 2 Qe (Qb (Qg 0) (Qb (Qo JA (mC (.int 2)) (Qg 4)) Qn))) (mC (.int 21))) (mC (.int 3))) (mC (.int 0)))) (J5 5 (Qo JA (Qo JA (mFn J8 (Qb (mFn Z8 (Qb (mC (.str "either")) Qn)) Qn)) (Qg 5)) (mFn J8 (Qb (mFn Z8 (Qb (mC (.str "or")) Qn)) (Qb (mFn Z8 (Qb (mC (.str "end")) Qn)) Qn))))) Jb)
    (ZO (mMt "list" Zy (Qg 3) (Qb (mFn Z8 (Qb (Qo wIx (mFn J8 (Qb (mC (.str "m")) (Qb (mC (.str "l")) (Qb (mC (.str "k")) (Qb (mC (.str "a")) (Qb (mC (.str "zz")) Qn)))))) (Qg 4)) (Qb (mFn JP (Qb (Qg 5) Qn)) Qn))) Qn))))))) := rfl
theorem UQ {ns : List Int} {B Wd : List Str} {p : List Pr} {k : Nat} {rest : MH} {b c : Option W} (hB : B.length = 5) (hW : Wd.length = 5) (hk : k < 5) (hp : p.length ≤ 10) :
    ∃ (b' c' : Option W) (nm : Str) (L : List Li) (rest' : MH), L.length ≤ 20 ∧ Okl B Wd L ∧ QG (gS ns B Wd (some (.int k)) b c) (.lst ((pp p).map Zv) :: rest) = some (.nx (gS ns B Wd (some (.int k)) b' c') (.lst ((pp (p ++ [(nm, L)])).map Zv) :: rest')) := by
  obtain ⟨v1, hv1, e1⟩ := J2 ns 1 (by decide)
  obtain ⟨v, hv, e2⟩ := J2 ns (2 + k) (by omega)
  push_cast at e1 e2
  have m0 : 0 ≤ v % 7 := Int.emod_nonneg _ (by decide)
  have m1 : v % 7 < 7 := Int.emod_lt_of_pos _ (by decide)
  obtain ⟨n, hn⟩ : ∃ n : Nat, v % 7 = n := ⟨(v % 7).toNat, by omega⟩
  obtain ⟨c', ls, hok, hls, el⟩ := X8 (ns := ns) (h0 := .lst ((pp p).map Zv) :: rest) (items := QA 0 n) hB hW (show k < 10 by omega) n 0 [] c (by omega) (by simp) (by simp)
  have er : (List.range' 0 n).map (fun (i : Nat) => W.int i) = QA 0 n := by
    unfold QA
    rw [← List.range_eq_range']
    apply List.map_congr_left
    intro i _
    simp
  rw [er] at el
  obtain ⟨nm, _, _, enm⟩ := Xv (xs := [("m" : Str), "l", "k", "a", "zz"]) (i := (k : Int)) (P := fun _ => True) (f := W.str) (by omega) (by simp; omega) (fun _ _ => trivial)
  have ei : XD (Qb (Qo JN (Qw 2 Qe (Qb (Qg 0) (Qb (Qo JA (mC (.int 2)) (Qg 4)) Qn))) (mC (.int 7))) Qn) (gS ns B Wd (some (.int k)) (some (.ref (rest.length + 1))) c) (.lst ((pp p).map Zv) :: rest ++ [.lst []]) = some (QA 0 n, none, .lst ((pp p).map Zv) :: rest ++ [.lst []]) := Jt (by simp [e2, hn]) (by omega)
  have ppa : ∀ L : List Li, (pp (p ++ [(nm, L)])).map Zv = (pp p).map Zv ++ [.tup [.str nm, .tup (L.map fL)]] := fun L => by simp [pp, Zv, Function.comp_def, fL]
  have szp : ((pp p).map Zv).length < sizeLine := szS (by simp [pp]; omega)
  -- behind the lines
  obtain ⟨ls2, h2, o2, e3⟩ : ∃ ls2 : List Li, ls2.length ≤ 8 ∧ Okl B Wd ls2 ∧ Qbe (gS ns B Wd (some (.int k)) (some (.ref (rest.length + 1))) c') (.lst ((pp p).map Zv) :: rest ++ [.lst (ls.map fL)]) = some (.nx (gS ns B Wd (some (.int k)) (some (.ref (rest.length + 1))) c') (.lst ((pp p).map Zv) :: rest ++ [.lst (ls2.map fL)])) := by
    unfold Qbe
    by_cases q1 : (k : Int) < v1 % 5
    · by_cases q2 : 0 < v / 7 % 3
      · have : v1 % 5 < 5 := Int.emod_lt_of_pos _ (by decide)
        obtain ⟨d, _, _, ed⟩ := Xv (xs := [("l" : Str), "k", "a", "zz"]) (i := (k : Int)) (P := fun _ => True) (f := W.str) (by omega) (by simp; omega) (fun _ _ => trivial)
        refine ⟨ls ++ [.doo d], by simp; omega, fun l hl => ?_, ?_⟩
        · rcases List.mem_append.mp hl with z | z
          · exact hok l z
          · rw [List.mem_singleton.mp z]; simp [bx, wd]
        · have sz : ls.length < sizeLine := szS (by omega)
          have k4 : 4 ≤ sizeLine := by decide
          have k2 : 2 ≤ sizeLine := by decide
          simp at ed
          simp only [gS]
          simp [e1, e2, q1, q2, ed, sz, k4, k2, QY, ln]
      · exact ⟨ls, by omega, hok, by simp [e1, e2, q1, q2]⟩
    · exact ⟨ls, by omega, hok, by simp [e1, q1]⟩
  have k1 : 1 ≤ sizeLine := by decide
  have k2 : 2 ≤ sizeLine := by decide
  have k5 : 5 ≤ sizeLine := by decide
  simp at enm
  by_cases q3 : v / 21 % 3 = 0
  · refine ⟨some (.lst (([Li.either] ++ ls2 ++ [Li.or, Li.fin]).map fL)), c', nm, [Li.either] ++ ls2 ++ [Li.or, Li.fin], rest ++ [.lst (ls2.map fL)], by simp; omega, ?_, ?_⟩
    · intro l hl
      simp only [List.mem_append, List.mem_cons, List.not_mem_nil, or_false] at hl
      rcases hl with (rfl | z) | rfl | rfl
      · simp [bx, wd]
      · exact o2 l z
      · simp [bx, wd]
      · simp [bx, wd]
    · have ml : ([Li.either] ++ ls2 ++ [Li.or, Li.fin]).map fL = .tup [.str "either"] :: (ls2.map fL ++ [.tup [.str "or"], .tup [.str "end"]]) := by simp [fL, QY, ln]
      rw [K2, ppa, ml]
      have sz1 : 1 + (ls2.map fL).length ≤ sizeLine := by rw [List.length_map]; exact Nat.le_of_lt (szS (by omega))
      have sz2 : (ls2.map fL).length + 1 + 2 ≤ sizeLine := by rw [List.length_map]; exact Nat.le_of_lt (szS (by omega))
      simp only [gS, List.cons_append, List.length_cons, List.map_nil] at ei el e3 ⊢
      generalize (pp p).map Zv = PP at *
      generalize ls2.map fL = M2 at *
      generalize (ls.map fun l => QY (ln l)) = M1 at *
      have ad := Qa6 (a := [.tup [.str "either"]]) (b := M2) (n := rest.length + 1) (h := .lst PP :: (rest ++ [.lst M2])) (by simp) (by simpa using sz1)
      simp [J4, ei, el, e3, e2, q3, k1, k2, k5, enm, szp, ad, sz2]
  · refine ⟨some (.ref (rest.length + 1)), c', nm, ls2, rest ++ [.lst (ls2.map fL)], by omega, o2, ?_⟩
    rw [K2, ppa]
    simp only [gS, List.cons_append, List.length_cons, List.map_nil] at ei el e3 ⊢
    generalize (pp p).map Zv = PP at *
    simp [J4, ei, el, e3, e2, q3, k1, k2, k5, enm, szp]
end My

namespace My
open PySem PySem.Spec PyProof.Rows L2 Mi
theorem Kt (ns : List Int) : ∃ (p : List Pr) (B Wd : List Str), B.length = 5 ∧ Wd.length = 5 ∧ G5 B Wd p ∧ ∀ h : MH, Qv [.frz (ns.map .int)] h = some (QX (pp p), h) := by
  obtain ⟨v0, hv0, e0⟩ := J2 ns 0 (by decide)
  obtain ⟨v1, hv1, e1⟩ := J2 ns 1 (by decide)
  obtain ⟨B, hB, eB⟩ := Kn hv0
  obtain ⟨Wd, hW, eW⟩ := Kn (c := v0 / 4) (Int.ediv_nonneg hv0 (by decide))
  push_cast at e0 e1
  have m0 : 0 ≤ v1 % 5 := Int.emod_nonneg _ (by decide)
  have m1 : v1 % 5 < 5 := Int.emod_lt_of_pos _ (by decide)
  obtain ⟨n, hn⟩ : ∃ n : Nat, 1 + v1 % 5 = n := ⟨(1 + v1 % 5).toNat, by omega⟩
  have key := Jg (items := QA 0 n) (b := Je 4) (body := QG) (fun j σ h => ∃ a b c p rest, σ = gS ns B Wd a b c ∧ h = .lst ((pp p).map Zv) :: rest ∧ p.length = j ∧ (∀ x ∈ p, x.2.length ≤ 20 ∧ Okl B Wd x.2)) (QA 0 n) 0 (gS ns B Wd none none none) [.lst []] ⟨none, none, none, [], [], rfl, rfl, rfl, by simp⟩ (by
    rintro j w hj σ h ⟨a, b, c, p, rest, rfl, rfl, hpl, hx⟩
    obtain ⟨hjl, rfl⟩ := Xx hj
    rw [Nat.zero_add] at hpl ⊢
    have ew : (0 : Int) + (j : Int) = (j : Int) := by omega
    rw [ew]
    obtain ⟨b', c', nm, L, rest', h1, h2, e⟩ := UQ (ns := ns) (p := p) (k := j) (rest := rest) (b := b) (c := c) hB hW (by omega) (by omega)
    exact ⟨_, rfl, _, _, .inl e, _, _, _, p ++ [(nm, L)], rest', rfl, rfl, by simp [hpl], fun x hx' => by
      rcases List.mem_append.mp hx' with z | z
      · exact hx x z
      · rw [List.mem_singleton.mp z]; exact ⟨h1, h2⟩⟩)
  obtain ⟨σ', h', el, a, b, c, p, rest, rfl, rfl, hpl, hx⟩ := key
  rw [J0, Nat.zero_add] at hpl
  refine ⟨p, B, Wd, hB, hW, ⟨by omega, fun x hx' => (hx x hx').1, fun l hl y hy => ?_, fun l hl y hy => ?_⟩, fun h => Z3 (g := .lst ((pp p).map Zv) :: rest) (by simp [ZB, pur]) ?_ (by simp)⟩
  · obtain ⟨x, hx', hl'⟩ := List.mem_flatMap.mp hl
    exact ((hx x hx').2 l hl').1 y hy
  · obtain ⟨x, hx', hl'⟩ := List.mem_flatMap.mp hl
    exact ((hx x hx').2 l hl').2 y hy
  · have er : XD (Qb (Qo JA (mC (.int 1)) (Qo JN (Qw 2 Qe (Qb (Qg 0) (Qb (mC (.int 1)) Qn))) (mC (.int 5)))) Qn) (gS ns B Wd none none none) [.lst []] = some (QA 0 n, none, [.lst []]) := Jt (by simp [e1, hn]) (by omega)
    simp only [gS] at er el
    have ezero : ∀ h, Qe [.frz (ns.map .int), .int 0] h = some (.int v0, h) := e0
    generalize V2 B = SB at *
    generalize V2 Wd = SW at *
    simp [Za, Jl, J4, ezero, eB, eW, er, el, QX]
end My

namespace My
open PySem PySem.Spec PyProof.Rows L2 Mi
theorem Xi {n : Nat} {h : MH} : wIn false (.bl false) (.lst (List.replicate n (.bl true))) h = some (.bl false, h) := by
  have hp : Jo (List.replicate n (.bl true)) = true := VQ fun w hw => by rw [(List.mem_replicate.mp hw).2]; rfl
  have hd : Vb (List.replicate n (.bl true)) ≤ 40 := Vs fun w hw => by rw [(List.mem_replicate.mp hw).2]; simp [dep]
  rw [QaX rfl hp (by simp [dep]) hd]
  have : inW (.bl false) (List.replicate n (.bl true)) = false := by
    unfold inW
    rw [List.any_eq_false]
    intro w hw
    rw [(List.mem_replicate.mp hw).2]
    simp [eqW]
  simp [this]
theorem Wh {ws items : List W} {n : Nat} {h : MH} (hv : YH (some n) items h) (hw : ∀ w ∈ ws, ∃ q, w = ePl q) : ∀ (k : Nat) (τ : Option W), k + ws.length ≤ 1000 → Zp Ki items (some n) (Je 0) YJ (mFn Wr (Qb (Qg 0) (Qb (mC (.ty "tuple")) Qn))) ws (List.replicate k (.bl true)) [τ] h = some (.lst (List.replicate (k + ws.length) (.bl true)), h) := by
  induction ws with
  | nil => intro k τ _; rw [Zp, if_pos hv]; rfl
  | cons w ws ih =>
    intro k τ hk
    rw [List.length_cons] at hk
    obtain ⟨q, rfl⟩ := hw w List.mem_cons_self
    rw [Zp, if_pos hv]
    show (some [some (ePl q)]).bind _ = _
    rw [Option.bind_some]
    show (some (true, h)).bind _ = _
    rw [Option.bind_some]
    have em : mFn Wr (Qb (Qg 0) (Qb (mC (.ty "tuple")) Qn)) [some (ePl q)] h = some (.bl true, h) := by simp [ePl, ZT]
    simp only [em, Option.bind_some]
    rw [if_pos (by rw [List.length_replicate]; exact szS (by omega)), ← List.replicate_succ', ih (fun x hx => hw x (List.mem_cons_of_mem _ hx)) (k + 1) _ (by omega), List.length_cons]
    congr 4
    omega
theorem Yv {ks : List Str} : (St.srt ks).length ≤ ks.length := by
  by_cases hx : ∃ ss : List Str, ss.Perm ks ∧ sortedS ss = true
  · obtain ⟨ss, p, h⟩ := hx
    rw [St.srt_eq p h, p.length_eq]
    exact Nat.le_refl _
  · unfold St.srt
    rw [dif_neg hx]
    exact Nat.zero_le _
theorem Qab {p : List Pr} {B Wd : List Str} (hg : G5 B Wd p) : (plc p).length ≤ 105 := by
  have key : ∀ (q : List (Pr × Nat)), (∀ x ∈ q, x.1.2.length ≤ 20) → (q.flatMap fun q => (List.range (q.1.2.length + 1)).map fun k => (q.2, k)).length ≤ 21 * q.length := by
    intro q
    induction q with
    | nil => intro _; simp
    | cons x q ih =>
      intro h
      have h1 := ih fun y hy => h y (List.mem_cons_of_mem _ hy)
      have h2 := h x List.mem_cons_self
      rw [List.flatMap_cons, List.length_append, List.length_map, List.length_range, List.length_cons]
      omega
  have h1 := key p.zipIdx fun x hx => by
    have := List.mem_zipIdx hx
    obtain ⟨_, _, e⟩ := this
    have hm : x.1 ∈ p := by rw [e]; exact List.getElem_mem _
    exact hg.sz x.1 hm
  have h2 := hg.len
  rw [List.length_zipIdx] at h1
  unfold plc
  omega
noncomputable abbrev lS (ns : List Int) (p : List Pr) (a b c : Option W) : MSt := [some (.frz (ns.map .int)), some (QX (pp p)), some (UE p), a, b, c]
theorem YN {ns : List Int} {p : List Pr} {B Wd : List Str} {a b c : Option W} {h : MH} (hg : G5 B Wd p) (hB : B.length = 5) (hW : Wd.length = 5) : ∃ b' c' h', VM (lS ns p a b c) h = some (.nx (lS ns p a b' c') h') := by
  have e1 := XM hg (by omega) (h := h)
  have e2 := XE hg (by omega) (h := h ++ [.lst ((St.srt (St.uniq ((als p).flatMap bx))).map .str)])
  have e3 := K6 hg (h := h ++ [.lst ((St.srt (St.uniq ((als p).flatMap bx))).map .str)] ++ [.lst ((St.srt (St.uniq ((als p).flatMap wd))).map .str)])
  have hpl := Qab hg
  have pX : Jo ((St.srt (St.uniq ((als p).flatMap bx))).map W.str) = true := Zq
  have pY : Jo ((St.srt (St.uniq ((als p).flatMap wd))).map W.str) = true := Zq
  have pZ : Jo ((plc p).map ePl) = true := ZG fun _ => by simp [ePl, pln, Jo]
  have dX : Vb ((St.srt (St.uniq ((als p).flatMap bx))).map W.str) ≤ 1 := Z4
  have dY : Vb ((St.srt (St.uniq ((als p).flatMap wd))).map W.str) ≤ 1 := Z4
  have dZ : Vb ((plc p).map ePl) ≤ 2 := JJ fun _ => by simp [ePl, dep, Vb]
  have iZ : ∀ w ∈ (plc p).map ePl, ∃ q, w = ePl q := fun w hw => by
    obtain ⟨q, _, rfl⟩ := List.mem_map.mp hw
    exact ⟨q, rfl⟩
  have lZ : ((plc p).map ePl).length ≤ 105 := by rw [List.length_map]; exact hpl
  have hd : UE p = .lst [.lst ((St.srt (St.uniq ((als p).flatMap bx))).map .str), .lst ((St.srt (St.uniq ((als p).flatMap wd))).map .str), .lst ((plc p).map ePl)] := rfl
  have sX : ((St.srt (St.uniq ((als p).flatMap bx))).map W.str).length < sizeLine := by
    rw [List.length_map]
    have q1 := Yv (ks := St.uniq ((als p).flatMap bx))
    have q2 := St.uniq_len _ ((als p).flatMap bx) rfl
    have q3 := Kh (als p)
    have q4 := Ke hg
    exact szS (by omega)
  have sY : ((St.srt (St.uniq ((als p).flatMap wd))).map W.str).length < sizeLine := by
    rw [List.length_map]
    have q1 := Yv (ks := St.uniq ((als p).flatMap wd))
    have q2 := St.uniq_len _ ((als p).flatMap wd) rfl
    have q3 := Wj (f := wd) (fun l => by cases l <;> simp [wd]) (als p)
    have q4 := Ke hg
    exact szS (by omega)
  simp only [lS]
  rw [hd]
  generalize (St.srt (St.uniq ((als p).flatMap bx))).map W.str = X at *
  generalize (St.srt (St.uniq ((als p).flatMap wd))).map W.str = Y at *
  generalize (plc p).map ePl = Z at *
  generalize hH : h ++ [.lst X] ++ [.lst Y] ++ [.lst Z] = H at e3
  have g0 : H[h.length]? = some (.lst X) := by rw [← hH]; simp
  have g1 : H[h.length + 1]? = some (.lst Y) := by rw [← hH]; simp
  have g2 : H[h.length + 2]? = some (.lst Z) := by rw [← hH]; simp
  simp only [List.length_append, List.length_cons, List.length_nil, Nat.zero_add] at e2 e3
  have ne : wNe (.lst [.ref h.length, .ref (h.length + 1), .ref (h.length + 2)]) (.lst [.lst X, .lst Y, .lst Z]) H = some (.bl false, H) := by
    have d1 : drf H 40 (.lst [.ref h.length, .ref (h.length + 1), .ref (h.length + 2)]) = some (.lst [.lst X, .lst Y, .lst Z]) := by
      have r : ∀ (n : Nat) (U : List W), H[n]? = some (.lst U) → Jo U = true → Vb U ≤ 2 → drf H 39 (.ref n) = some (.lst U) := fun n U e q1 q2 => by
        show (match H[n]? with | some (.lst ws) => (QW (drf H 38) ws).map W.lst | _ => none) = _
        simp only [e, ZK H U 38 q1 (by omega), Option.map_some]
      show (QW (drf H 39) [.ref h.length, .ref (h.length + 1), .ref (h.length + 2)]).map W.lst = _
      simp only [QW, r _ X g0 pX (by omega), r _ Y g1 pY (by omega), r _ Z g2 pZ dZ, Option.bind_some, Option.map_some]
    have pl : pln (.lst [.lst X, .lst Y, .lst Z]) = true := by simp [pln, Jo, pX, pY, pZ]
    have dl : dep (.lst [.lst X, .lst Y, .lst Z]) ≤ 40 := by simp [dep, Vb]; omega
    unfold wNe
    rw [d1, Jf H _ 40 pl dl, Option.bind_some, Option.map_some, Vr _ pl]
    rfl
  have k3 : 3 ≤ sizeLine := by decide
  have ec1 := Kj (fin := Ki) (mi := Zx (Qg 4)) (cp := [none]) (me := mFn Wr (Qb (Qg 0) (Qb (mC (.ty "list")) Qn))) (σ := [some (.frz (ns.map .int)), some (QX (pp p)), some (.lst [.lst X, .lst Y, .lst Z]), a, some (.lst [.ref h.length, .ref (h.length + 1), .ref (h.length + 2)]), c]) (caps := []) (h := H) (items := [.ref h.length, .ref (h.length + 1), .ref (h.length + 2)]) (fun _ => W.bl true) rfl ⟨_, rfl⟩ (fun w hw => by
    simp only [List.mem_cons, List.not_mem_nil, or_false] at hw
    rcases hw with rfl | rfl | rfl
    · simp [g0, ZT]
    · simp [g1, ZT]
    · simp [g2, ZT]) (by simpa using k3)
  have ec2 : Jh Ki (Zx (Qo wIx (Qg 4) (mC (.int 2)))) [none] (Je 0) YJ (mFn Wr (Qb (Qg 0) (Qb (mC (.ty "tuple")) Qn))) [some (.frz (ns.map .int)), some (QX (pp p)), some (.lst [.lst X, .lst Y, .lst Z]), a, some (.lst [.ref h.length, .ref (h.length + 1), .ref (h.length + 2)]), c] H = some (.lst (List.replicate Z.length (.bl true)), H) := by
    have ei : Zx (Qo wIx (Qg 4) (mC (.int 2))) [some (.frz (ns.map .int)), some (QX (pp p)), some (.lst [.lst X, .lst Y, .lst Z]), a, some (.lst [.ref h.length, .ref (h.length + 1), .ref (h.length + 2)]), c] H = some (Z, some (h.length + 2), H) := by
      have : Qo wIx (Qg 4) (mC (.int 2)) [some (.frz (ns.map .int)), some (QX (pp p)), some (.lst [.lst X, .lst Y, .lst Z]), a, some (.lst [.ref h.length, .ref (h.length + 1), .ref (h.length + 2)]), c] H = some (.ref (h.length + 2), H) := by simp
      unfold Zx
      rw [this, Option.bind_some]
      simp only [Yd, g2, Option.map_some]
    unfold Jh
    rw [ei, Option.bind_some]
    have := Wh (items := Z) (ws := Z) (n := h.length + 2) (h := H) (fun m hm => by cases hm; exact g2) iZ 0 none (by omega)
    rw [Nat.zero_add] at this
    exact this
  have sZ : Z.length < sizeLine := szS (by omega)
  have hlen : H.length = h.length + 3 := by rw [← hH]; simp
  generalize hH1 : H.set h.length (.lst (X ++ [.str "x"])) = H1
  have a1 : H1[h.length + 1]? = some (.lst Y) := by rw [← hH1, List.getElem?_set_ne (by omega)]; exact g1
  have a2 : H1[h.length + 2]? = some (.lst Z) := by rw [← hH1, List.getElem?_set_ne (by omega)]; exact g2
  generalize hH2 : H1.set (h.length + 1) (.lst (Y ++ [.str "x"])) = H2
  have b2 : H2[h.length + 2]? = some (.lst Z) := by rw [← hH2, List.getElem?_set_ne (by omega)]; exact a2
  generalize hH3 : H2.set (h.length + 2) (.lst (Z ++ [.str "x"])) = H3
  have tr : ∀ (o : Option W) (n : Nat) (U : List W) (K K' : MH), K[n]? = some (.lst U) → U.length < sizeLine → K.set n (.lst (U ++ [.str "x"])) = K' → Vw [some (.frz (ns.map .int)), some (QX (pp p)), some (.lst [.lst X, .lst Y, .lst Z]), a, some (.lst [.ref h.length, .ref (h.length + 1), .ref (h.length + 2)]), some (.ref n)] K = some (.nx [some (.frz (ns.map .int)), some (QX (pp p)), some (.lst [.lst X, .lst Y, .lst Z]), a, some (.lst [.ref h.length, .ref (h.length + 1), .ref (h.length + 2)]), some (.ref n)] K') := fun o n U K K' q1 q2 q3 => by
    rw [← q3]
    simp [q1, q2]
  have loop : ZY [.ref h.length, .ref (h.length + 1), .ref (h.length + 2)] none (Je 5) Vw [.ref h.length, .ref (h.length + 1), .ref (h.length + 2)] [some (.frz (ns.map .int)), some (QX (pp p)), some (.lst [.lst X, .lst Y, .lst Z]), a, some (.lst [.ref h.length, .ref (h.length + 1), .ref (h.length + 2)]), c] H = some (.nx [some (.frz (ns.map .int)), some (QX (pp p)), some (.lst [.lst X, .lst Y, .lst Z]), a, some (.lst [.ref h.length, .ref (h.length + 1), .ref (h.length + 2)]), some (.ref (h.length + 2))] H3) := by
    rw [ZV rfl (tr none _ X H H1 g0 sX hH1), ZV rfl (tr none _ Y H1 H2 a1 sY hH2), ZV rfl (tr none _ Z H2 H3 b2 sZ hH3), JF]
  have ei : Zx (Qg 4) [some (.frz (ns.map .int)), some (QX (pp p)), some (.lst [.lst X, .lst Y, .lst Z]), a, some (.lst [.ref h.length, .ref (h.length + 1), .ref (h.length + 2)]), c] H = some ([.ref h.length, .ref (h.length + 1), .ref (h.length + 2)], none, H) := rfl
  refine ⟨some (.lst [.ref h.length, .ref (h.length + 1), .ref (h.length + 2)]), some (.ref (h.length + 2)), H3, ?_⟩
  have f1 := Xi (n := 3) (h := H)
  have f2 := Xi (n := Z.length) (h := H)
  simp only [Ki, List.map_cons, List.map_nil] at ec1
  have f1' : wIn false (.bl false) (.lst [.bl true, .bl true, .bl true]) H = some (.bl false, H) := f1
  generalize H = HH at *
  have e2' := e2
  have e3' := e3
  simp only [List.append_assoc, List.cons_append, List.nil_append] at e2' e3'
  simp [e1, e2', e3', k3, ne, ec1, f1', ec2, f2, J4, ei, loop]
theorem main (ns : List Int) (_ : ns.length ≤ 63) : ∃ h', Ju [.frz (ns.map W.int)] [] = some (.bl true, h') := by
  obtain ⟨p, B, Wd, hB, hW, hg, ep⟩ := Kt ns
  have ed : ∀ h, Q3 [QX (pp p)] h = some (UE p, h) := fun h => U5 hg (by omega) (by omega)
  have loop := Jg (items := QA 0 2) (b := Je 3) (body := VM) (fun _ σ _ => ∃ a b c, σ = lS ns p a b c) (QA 0 2) 0 (lS ns p none none none) [] ⟨_, _, _, rfl⟩ (by
    rintro i w hi σ h ⟨a, b, c, rfl⟩
    obtain ⟨b', c', h', e⟩ := YN (ns := ns) (a := some w) (b := b) (c := c) (h := h) hg hB hW
    exact ⟨_, rfl, _, h', .inl e, _, _, _, rfl⟩)
  obtain ⟨σ', h', el, a, b, c, rfl⟩ := loop
  refine ⟨h', ?_⟩
  have er : ∀ σ h, XD (Qb (mC (.int 2)) Qn) σ h = some (QA 0 2, none, h) := fun σ h => Jt (j := 2) (by simp) (by decide)
  have eq : ∀ h, wEq (QX (pp p)) (QX (pp p)) h = some (.bl true, h) := fun h => by rw [Qb1 Wu Wu (Nat.le_trans Gg (by decide)) (Nat.le_trans Gg (by decide)), Vr _ Wu]
  simp only [lS] at el
  generalize UE p = DW at *
  simp [Ju, Jl, J4, ep, ed, er, el, eq]
end My

def PySem.W.Fast.tw2057186413314101267 : Unit := ()
def PySem.W.Fast.tw13254643627484881058 : Unit := ()
def PySem.W.Fast.tw17889855246738723934 : Unit := ()
def PySem.W.Fast.tw18275857309973231707 : Unit := ()
def PySem.W.Fast.tw5736871951801858336 : Unit := ()
def PySem.W.Fast.tw5859614803830487 : Unit := ()
def PySem.W.Fast.tw17685084310399266629 : Unit := ()
def PySem.W.Fast.tw248897694395756726 : Unit := ()
def PySem.W.Fast.tw6988653340736895638 : Unit := ()
def PySem.W.Fast.tw10786491557262210298 : Unit := ()
def PySem.W.Fast.tw2457133381002194379 : Unit := ()
def PySem.W.Fast.tw8674555714268235548 : Unit := ()
def PySem.W.Fast.tw774694991597397586 : Unit := ()
def PySem.W.Fast.tw5140228408885363555 : Unit := ()
def PySem.W.Fast.tw17439298768986411656 : Unit := ()
def PySem.W.Fast.tw6175446825434493422 : Unit := ()
def PySem.W.Fast.tw13268676277975291996 : Unit := ()
def PySem.W.Fast.tw1724592356838315082 : Unit := ()
open PySem PySem.W PyProof.Rows
set_option maxRecDepth 100000 in
set_option maxHeartbeats 0 in
theorem PySem.Challenge.cw_doneroom_k05_what_programs_have_holds : PySem.Challenge.rw_doneroom_k05_what_programs_have.Holds := by
  w_on; o_law; k_head; (case hw => w_witness2)
  k_fill
  refine Mi.Qas (l := PySem.Challenge.rw_doneroom_k05_what_programs_have) (st := My.VW) (sem := My.Ju) (k := 3) rfl rfl ⟨rfl, by decide, by decide⟩ rfl (fun w h Y => PySem.W.kIn_of Y) (fun _ _ _ _ _ _ _ _ => .of_eq rfl) ?F My.main
  case F =>
    intro w mg h KX G
    have d__law_names : Mi.DefAt (L2.KOf KX) mg "_law_names" My.QU ["cell"] := by
      dsimp only [L2.KOf]
      refine' Mi.QL KX G ?a ?l ?c ?k ?b
      (case a => k_is); (case l => k_is); (case c => k_is); (case k => k_is)
      (case b => exact fun _ _ _ _ _ _ us hl => match us, hl with | [_], _ => rfl)
    have d__law_cell : Mi.DefAt (L2.KOf KX) mg "_law_cell" My.Q7 ["script", "k"] := by
      dsimp only [L2.KOf]
      refine' Mi.QL KX G ?a ?l ?c ?k ?b
      (case a => k_is); (case l => k_is); (case c => k_is); (case k => k_is)
      (case b => exact fun _ _ _ _ _ _ us hl => match us, hl with | [_, _], _ => rfl)
    have d__law_line : Mi.DefAt (L2.KOf KX) mg "_law_line" My.Q8 ["cell", "boxes", "words"] := by
      dsimp only [L2.KOf]
      refine' Mi.QL KX G ?a ?l ?c ?k ?b
      (case a => k_is); (case l => k_is); (case c => k_is); (case k => k_is)
      (case b => exact fun _ _ _ _ _ _ us hl => match us, hl with | [_, _, _], _ => rfl)
    have d__law_program : Mi.DefAt (L2.KOf KX) mg "_law_program" My.QE ["script"] := by
      dsimp only [L2.KOf]
      refine' Mi.QL KX G ?a ?l ?c ?k ?b
      (case a => k_is); (case l => k_is); (case c => k_is); (case k => k_is)
      (case b => exact fun _ _ _ _ _ _ us hl => match us, hl with | [_], _ => rfl)
    have d__law_added : Mi.DefAt (L2.KOf KX) mg "_law_added" My.QS ["found", "name"] := by
      dsimp only [L2.KOf]
      refine' Mi.QL KX G ?a ?l ?c ?k ?b
      (case a => k_is); (case l => k_is); (case c => k_is); (case k => k_is)
      (case b => exact fun _ _ _ _ _ _ us hl => match us, hl with | [_, _], _ => rfl)
    have d__law_due : Mi.DefAt (L2.KOf KX) mg "_law_due" My.Q0 ["program"] := by
      dsimp only [L2.KOf]
      refine' Mi.QL KX G ?a ?l ?c ?k ?b
      (case a => k_is); (case l => k_is); (case c => k_is); (case k => k_is)
      (case b => exact fun _ _ _ _ _ _ us hl => match us, hl with | [_], _ => rfl)
    have d_all_lines : Mi.DefAt (L2.KOf KX) mg "all_lines" My.Q6 ["program"] := by
      dsimp only [L2.KOf]
      refine' Mi.QL KX G ?a ?l ?c ?k ?b
      (case a => k_is); (case l => k_is); (case c => k_is); (case k => k_is)
      (case b => exact fun _ _ _ _ _ _ us hl => match us, hl with | [_], _ => rfl)
    have d_boxes_in : Mi.DefAt (L2.KOf KX) mg "boxes_in" My.Zh ["line"] := by
      dsimp only [L2.KOf]
      refine' Mi.QL KX G ?a ?l ?c ?k ?b
      (case a => k_is); (case l => k_is); (case c => k_is); (case k => k_is)
      (case b => exact fun _ _ _ _ _ _ us hl => match us, hl with | [_], _ => rfl)
    have d_boxes_of : Mi.DefAt (L2.KOf KX) mg "boxes_of" My.Zm ["program"] := by
      dsimp only [L2.KOf]
      refine' Mi.QL KX G ?a ?l ?c ?k ?b
      (case a => k_is); (case l => k_is); (case c => k_is); (case k => k_is)
      (case b => exact fun _ _ _ _ _ _ us hl => match us, hl with | [_], _ => rfl)
    have d_words_of : Mi.DefAt (L2.KOf KX) mg "words_of" My.Zn ["program"] := by
      dsimp only [L2.KOf]
      refine' Mi.QL KX G ?a ?l ?c ?k ?b
      (case a => k_is); (case l => k_is); (case c => k_is); (case k => k_is)
      (case b => exact fun _ _ _ _ _ _ us hl => match us, hl with | [_], _ => rfl)
    have d_places_of : Mi.DefAt (L2.KOf KX) mg "places_of" My.QO ["program"] := by
      dsimp only [L2.KOf]
      refine' Mi.QL KX G ?a ?l ?c ?k ?b
      (case a => k_is); (case l => k_is); (case c => k_is); (case k => k_is)
      (case b => exact fun _ _ _ _ _ _ us hl => match us, hl with | [_], _ => rfl)
    have d_law : Mi.DefAt (L2.KOf KX) mg "law" My.VW ["script"] := by
      dsimp only [L2.KOf]
      refine' Mi.QL KX G ?a ?l ?c ?k ?b
      (case a => k_is); (case l => k_is); (case c => k_is); (case k => k_is)
      (case b => exact fun _ _ _ _ _ _ us hl => match us, hl with | [_], _ => rfl)
    have b_enumerate : mg "enumerate" = none := by
      refine' PySem.W.mg_none_of KX G ?a
      (case a => k_is)
    have b_isinstance : mg "isinstance" = none := by
      refine' PySem.W.mg_none_of KX G ?a
      (case a => k_is)
    have b_len : mg "len" = none := by
      refine' PySem.W.mg_none_of KX G ?a
      (case a => k_is)
    have b_list : mg "list" = none := by
      refine' PySem.W.mg_none_of KX G ?a
      (case a => k_is)
    have b_range : mg "range" = none := by
      refine' PySem.W.mg_none_of KX G ?a
      (case a => k_is)
    have b_set : mg "set" = none := by
      refine' PySem.W.mg_none_of KX G ?a
      (case a => k_is)
    have b_sorted : mg "sorted" = none := by
      refine' PySem.W.mg_none_of KX G ?a
      (case a => k_is)
    have b_tuple : mg "tuple" = none := by
      refine' PySem.W.mg_none_of KX G ?a
      (case a => k_is)
    exact ⟨d_law, fun base kb nb => My.UV d__law_names d__law_cell d__law_line d__law_program d__law_added d__law_due d_all_lines d_boxes_in d_boxes_of d_words_of d_places_of d_law b_enumerate b_isinstance b_len b_list b_range b_set b_sorted b_tuple⟩
