import PyProof.Rows.All
import Wide.All
import OpenK.AllK
import Wide.FinOn
import Lean
import PyProof.EqAt
import PyProof.EqKinds
import PyProof.TupleCall
import KE.KDictList
import KE.KRevIter
import KE.KTurns
import PySem.Challenge.RW_doneroom_k17_whole_spots_and_gaps
set_option Elab.async false
set_option bootstrap.genMatcherCode false
set_option linter.all false
set_option maxRecDepth 100000
noncomputable section
/-! THE HAND LAYER, for ints, bools, texts, own classes, LISTS and tuples (index, slices, in, append, pop ..), calls, loops. Paste it whole ahead of your own text; what your proof does not reach may be deleted. -/
namespace L2
open PySem PySem.Spec PyProof.Rows

noncomputable abbrev Key := Sum Int Str
noncomputable def QfU : Key → Value → Bool
  | .inl k, v => Value.isInt k v
  | .inr x, v => Value.isStrOf x v
noncomputable def Qjg (w : World) : Key → Int
  | .inl k => hashInt k
  | .inr x => hashStr w x
theorem Zg : ∀ {k : Key} {v : Value}, QfU k v = true → (∃ i t, k = Sum.inl i ∧ v = Value.int i t) ∨ (∃ x t, k = Sum.inr x ∧ v = Value.str x t)
  | .inl i, v, h => by
    obtain ⟨t, e⟩ := Value.isInt_shape (k := i) (v := v) h
    exact .inl ⟨i, t, rfl, e⟩
  | .inr x, v, h => by
    obtain ⟨t, e⟩ := Value.isStrOf_shape (x := x) (v := v) h
    exact .inr ⟨x, t, rfl, e⟩
theorem Qf8 (a b : Int) : decide ((Sum.inl a : Key) = Sum.inl b) = (a == b) := by
  by_cases e : a = b
  · subst e; simp
  · have h : ¬ (Sum.inl a : Key) = Sum.inl b := fun q => e (Sum.inl.inj q)
    rw [decide_eq_false h]
    exact (beq_eq_false_iff_ne.mpr e).symm
theorem Qf6 (a b : Str) : decide ((Sum.inr a : Key) = Sum.inr b) = decide (a = b) := by
  by_cases e : a = b
  · subst e; simp
  · have h : ¬ (Sum.inr a : Key) = Sum.inr b := fun q => e (Sum.inr.inj q)
    rw [decide_eq_false h, decide_eq_false e]
theorem QfN (a : Int) (b : Str) : decide ((Sum.inl a : Key) = Sum.inr b) = false := decide_eq_false (fun q => nomatch q)
theorem QfE (a : Str) (b : Int) : decide ((Sum.inr a : Key) = Sum.inl b) = false := decide_eq_false (fun q => nomatch q)

noncomputable def QaO (prog : Program) (w : World) : PySem.KeyKind prog w Key where
  is := QfU
  hash := Qjg w
  inj := fun v a b ha hb => by
    rcases Zg ha with ⟨i, t, rfl, rfl⟩ | ⟨x, t, rfl, rfl⟩
    · rcases Zg hb with ⟨j, u, rfl, e⟩ | ⟨y, u, rfl, e⟩
      · injection e with e1 _; rw [e1]
      · exact nomatch e
    · rcases Zg hb with ⟨j, u, rfl, e⟩ | ⟨y, u, rfl, e⟩
      · exact nomatch e
      · injection e with e1 _; rw [e1]
  byValue := fun k v h => by
    rcases Zg h with ⟨i, t, rfl, rfl⟩ | ⟨x, t, rfl, rfl⟩ <;> rfl
  pyHash := fun hv h => by
    rcases Zg hv with ⟨i, t, rfl, rfl⟩ | ⟨x, t, rfl, rfl⟩
    · exact wpAny_pyHash_int h
    · exact wpAny_pyHash_str h
  eqBool := fun hu hv h => by
    rcases Zg hu with ⟨i, t, rfl, rfl⟩ | ⟨x, t, rfl, rfl⟩
    · rcases Zg hv with ⟨j, u, rfl, rfl⟩ | ⟨y, u, rfl, rfl⟩
      · rw [Qf8] at h; exact wpAny_eqBool_int h
      · rw [QfN] at h; exact SeqAt.EqAt.int_str i t y u _ _ _ _ h
    · rcases Zg hv with ⟨j, u, rfl, rfl⟩ | ⟨y, u, rfl, rfl⟩
      · rw [QfE] at h; exact SeqAt.EqAt.str_int x t j u _ _ _ _ h
      · rw [Qf6] at h; exact wpAny_eqBool_str h
  «strs» := fun k x t v h => by
    rcases Zg h with ⟨i, u, rfl, e⟩ | ⟨y, u, rfl, e⟩
    · exact nomatch e
    · injection e with e1 _
      subst e1
      cases v <;> rfl

end L2

namespace L2
open PySem PySem.Spec PyProof.Rows

inductive V where
  | non | bl (b : Bool) | int (i : Int) | str (x : Str) | byt (b : Array UInt8) | flt (b : UInt64) | ref (a : Addr) | ty (n : String)
  deriving DecidableEq

noncomputable def RelV : V → Value → Prop
  | .non, u => u = Value.none
  | .bl b, u => u = Value.bool b
  | .int i, u => ∃ t, u = Value.int i t
  | .str x, u => ∃ t, u = Value.str x t
  | .byt b, u => ∃ t, u = Value.bytes b t
  | .flt b, u => ∃ t, u = Value.float b t
  | .ref a, u => u = Value.ref a
  | .ty n, u => u = Value.type n

noncomputable abbrev Vals : List V → List Value → Prop := Paired RelV
theorem Vals.length {xs : List V} {us : List Value} (r : Vals xs us) : xs.length = us.length := Paired.length r
theorem Vals.get : ∀ {xs : List V} {us : List Value} {i : Nat} {x : V}, Vals xs us → xs[i]? = some x → ∃ u, us[i]? = some u ∧ RelV x u
  | _, _, _, _, .nil, e => by simp at e
  | _, _, 0, _, .cons r _, e => by simp at e; subst e; exact ⟨_, rfl, r⟩
  | _, _, i + 1, x, .cons _ t, e => by
    obtain ⟨u, h1, h2⟩ := Vals.get (i := i) (x := x) t (by simpa using e)
    exact ⟨u, by simpa using h1, h2⟩
theorem Vals.set {x : V} {u : Value} (r : RelV x u) : ∀ {xs : List V} {us : List Value} (i : Nat), Vals xs us → Vals (xs.set i x) (us.set i u)
  | _, _, _, .nil => .nil
  | _, _, 0, .cons _ t => .cons r t
  | _, _, i + 1, .cons q t => .cons q (Vals.set r i t)
theorem Vals.append : ∀ {xs ys : List V} {us ws : List Value}, Vals xs us → Vals ys ws → Vals (xs ++ ys) (us ++ ws)
  | _, _, _, _, .nil, s => s
  | _, _, _, _, .cons r t, s => .cons r (Vals.append t s)
theorem Vals.take : ∀ {xs : List V} {us : List Value} (n : Nat), Vals xs us → Vals (xs.take n) (us.take n)
  | _, _, 0, _ => .nil
  | _, _, _ + 1, .nil => .nil
  | _, _, n + 1, .cons r t => .cons r (Vals.take n t)
theorem Vals.drop : ∀ {xs : List V} {us : List Value} (n : Nat), Vals xs us → Vals (xs.drop n) (us.drop n)
  | _, _, 0, r => r
  | _, _, _ + 1, .nil => .nil
  | _, _, n + 1, .cons _ t => Vals.drop n t
noncomputable def RelO : Option V → Option Value → Prop
  | some v, some u => RelV v u
  | none, none => True
  | _, _ => False
noncomputable def KV {κ : Type} : List (κ × V) → List (κ × Value) → Prop := Paired fun (p : κ × V) (q : κ × Value) => p.1 = q.1 ∧ RelV p.2 q.2

inductive Tr where
  | i (n : Int)
  | s (x : Str)
  | t (ks : List Tr)
noncomputable instance trDec : DecidableEq Tr := fun _ _ => Classical.propDecidable _
noncomputable def IsT (h : Heap) : Nat → Tr → Value → Prop
  | 0, _, _ => False
  | _ + 1, .i k, v => (∃ t, v = .int k t) ∨ ∃ b : Bool, v = .bool b ∧ k = if b then 1 else 0
  | _ + 1, .s x, v => ∃ t, v = .str x t
  | n + 1, .t ks, v => ∃ a its, v = .ref a ∧ h.IsTuple a its ∧ Paired (IsT h n) ks its.toList
theorem UF {α β : Type} {F : α → β → Prop} (hi : ∀ x y v, F x v → F y v → x = y) : ∀ {xs ys : List α} {vs : List β}, Paired F xs vs → Paired F ys vs → xs = ys
  | _, _, _, .nil, .nil => rfl
  | _, _, _, .cons a s, .cons b t => by rw [hi _ _ _ a b, UF hi s t]
theorem QaE {h : Heap} {n : Nat} {x : Tr} {a : Addr} (hx : IsT h n x (.ref a)) : ∃ m ks its, n = m + 1 ∧ x = .t ks ∧ h.IsTuple a its ∧ Paired (IsT h m) ks its.toList := by
  cases n with
  | zero => exact hx.elim
  | succ n =>
    cases x with
    | i k => rcases hx with ⟨t, e⟩ | ⟨b, e, _⟩ <;> cases e
    | s y => obtain ⟨t, e⟩ := hx; cases e
    | t ks => obtain ⟨a', its, e, p, q⟩ := hx; cases e; exact ⟨n, ks, its, rfl, rfl, p, q⟩
theorem WX {h : Heap} {a : Addr} {x y : Array Value} (hx : h.IsTuple a x) (hy : h.IsTuple a y) : x = y := by
  obtain ⟨o, h1, _, n, h2⟩ := hx
  obtain ⟨o', h1', _, n', h2'⟩ := hy
  rw [h1] at h1'; cases h1'
  rw [h2] at h2'; injection h2'
theorem WM {h : Heap} : ∀ {n : Nat} (x y : Tr) (v : Value), IsT h n x v → IsT h n y v → x = y
  | 0, _, _, _, hx, _ => hx.elim
  | n + 1, x, y, v, hx, hy => by
    cases v with
    | ref a =>
      obtain ⟨m, ks, its, e, rfl, p, q⟩ := QaE hx
      obtain ⟨m', ls, its', e', rfl, p', q'⟩ := QaE hy
      cases e; cases e'
      cases WX p p'
      rw [UF (fun x y v => WM (n := n) x y v) q q']
    | _ =>
      cases x with
      | i k =>
        cases y with
        | i k' =>
          rcases hx with ⟨t, e⟩ | ⟨b, e, rfl⟩ <;> cases e <;> rcases hy with ⟨t, e⟩ | ⟨b, e, rfl⟩ <;> cases e <;> rfl
        | s y => obtain ⟨t, e⟩ := hy; rcases hx with ⟨t, e'⟩ | ⟨b, e', _⟩ <;> (rw [e] at e'; cases e')
        | t ls => obtain ⟨a, its, e, _⟩ := hy; cases e
      | s z =>
        obtain ⟨t, e'⟩ := hx
        cases y with
        | i k => rcases hy with ⟨t, e⟩ | ⟨b, e, _⟩ <;> (rw [e] at e'; cases e')
        | s y => obtain ⟨t, e⟩ := hy; rw [e] at e'; cases e'; rfl
        | t ls => obtain ⟨a, its, e, _⟩ := hy; cases e
      | t ks => obtain ⟨a, its, e, _⟩ := hx; cases e
theorem KM {α β : Type} {F G : α → β → Prop} (f : ∀ a b, F a b → G a b) : ∀ {l₁ : List α} {l₂ : List β}, Paired F l₁ l₂ → Paired G l₁ l₂
  | _, _, .nil => .nil
  | _, _, .cons r t => .cons (f _ _ r) (KM f t)
theorem YI {h h' : Heap} {d : Addr} {o : Obj} {es ep} (ho : h.get? d = some o) (hd : o.data = .dict es ep) (hs : Heap.SameBut d h h') : ∀ {n : Nat} (k : Tr) (v : Value), IsT h n k v → IsT h' n k v
  | 0, _, _, x => x.elim
  | n + 1, .i k, v, x => x
  | n + 1, .s k, v, x => x
  | n + 1, .t ks, v, ⟨a, its, e, ⟨o', ho', hc, m, hd'⟩, q⟩ => by
    have hne : a ≠ d := by
      rintro rfl
      rw [ho'] at ho; cases ho
      rw [hd] at hd'; exact nomatch hd'
    exact ⟨a, its, e, ⟨o', (hs.2 a hne).trans ho', hc, m, hd'⟩, KM (fun k v => YI ho hd hs k v) q⟩
noncomputable def hN (w : World) : Nat → Tr → Int
  | 0, _ => 0
  | _ + 1, .i k => hashInt k
  | _ + 1, .s x => hashStr w x
  | n + 1, .t ks => reduceHash (Builtin.Tuple.tupleHashOf (ks.map (hN w n)))
noncomputable def dN : Nat → Tr → Nat
  | 0, _ => 0
  | _ + 1, .i _ => 1
  | _ + 1, .s _ => 1
  | n + 1, .t ks => (ks.map (dN n)).sum + 1
section
variable {prog : Program} {w : World} {E : Value → Shared → Prop}
theorem Wa {n : Nat} {A : Around} (ih : ∀ (k : Tr) (v : Value) (s : Shared) (Q : Int → Shared → Prop), IsT s.heap n k v → Q (hN w n k) { s with toks := s.toks + dN n k } → wpAny (model prog w) A (pyHash v) Q E s) :
    ∀ (ks : List Tr) (vs : List Value) (s : Shared) (b : Array Int) (Q : Array Int → Shared → Prop), Paired (IsT s.heap n) ks vs →
    (∀ b', b'.toList = b.toList ++ ks.map (hN w n) → Q b' { s with toks := s.toks + (ks.map (dN n)).sum }) →
    wpAny (model prog w) A (forIn vs b fun x r => do let h ← pyHash x; pure PUnit.unit; pure (ForInStep.yield (r.push h))) Q E s
  | [], _, s, b, Q, x, h => by cases x; exact wpAny_pure (h b (by simp))
  | k :: ks, _, s, b, Q, x, h => by
    cases x with
    | cons x1 x2 =>
      rw [List.forIn_cons]
      refine wpAny_bind (wpAny_bind (ih k _ s _ x1 ?_))
      refine wpAny_bind (wpAny_pure (wpAny_pure ?_))
      refine Wa ih ks _ _ _ Q x2 fun b' hb => ?_
      have := h b' (by simp [hb])
      simpa [Nat.add_assoc] using this
theorem QcB : ∀ (n : Nat) (A : Around), A.units + n < cLine → ∀ (k : Tr) (v : Value) (s : Shared) (Q : Int → Shared → Prop), IsT s.heap n k v → Q (hN w n k) { s with toks := s.toks + dN n k } → wpAny (model prog w) A (pyHash v) Q E s
  | 0, _, _, _, _, _, _, x, _ => x.elim
  | n + 1, A, hu, .i k, v, s, Q, x, h => by
    rcases x with ⟨t, rfl⟩ | ⟨b, rfl, rfl⟩
    · exact wpAny_pyHash_int h
    · refine PySem.W.pyHash_slot (T := "bool") rfl F.slot_bool_hash entry_int_hash (args_int_hash _) (beq_builtin_none _) (.inr (by omega)) ?_
      cases b
      · exact (show wpAny _ _ (do ret (← mkInt 0)) _ _ s from wpAny_bind (wpAny_mkInt (wpAny_pure ⟨_, _, rfl, h⟩)))
      · exact (show wpAny _ _ (do ret (← mkInt 1)) _ _ s from wpAny_bind (wpAny_mkInt (wpAny_pure ⟨_, _, rfl, h⟩)))
  | n + 1, A, hu, .s y, v, s, Q, x, h => by
    obtain ⟨t, rfl⟩ := x
    exact wpAny_pyHash_str h
  | n + 1, A, hu, .t ks, v, s, Q, x, h => by
    obtain ⟨a, its, rfl, ⟨o, ho, hc, m, hd⟩, q⟩ := x
    refine PySem.W.pyHash_slot (T := "tuple") ⟨_, ho, hc⟩ F.slot_tuple_hash F.entry_tuple_hash (F.args_tuple_hash_1 _) (beq_builtin_none _) (.inr (by omega)) ?_
    show wpAny _ _ (Builtin.Tuple.tupleItemsOf (.ref a) >>= _) _ _ s
    refine wpAny_bind (wpAny_tupleItemsOf ho hd ?_)
    refine wpAny_bind ?_
    rw [← Array.forIn_toList]
    refine Wa (n := n) (fun k v s Q => QcB n A.in1 (by show A.units + 1 + n < cLine; omega) k v s Q) ks _ s #[] _ q fun b hb => ?_
    show wpAny _ _ (retInt (Builtin.Tuple.tupleHashOf b.toList)) _ _ _
    rw [hb]
    refine wpAny_bind (wpAny_mkInt (wpAny_pure ⟨_, _, rfl, ?_⟩))
    simpa [hN, dN, Nat.add_assoc] using h
theorem Qdg {n : Nat} {h : Heap} {e : Nat → Bool} : ∀ {ks ls : List Tr} {us vs : List Value}, Paired (IsT h n) ks us → Paired (IsT h n) ls vs → (∀ (j : Nat) (x y : Tr), ks[j]? = some x → ls[j]? = some y → e j = decide (x = y)) →
    ((List.range (min us.length vs.length)).all e && us.length == vs.length) = decide (Tr.t ks = Tr.t ls) := by
  intro ks ls us vs p q he
  have l1 := Paired.length p
  have l2 := Paired.length q
  rw [← l1, ← l2]
  by_cases hl : ks.length = ls.length
  · by_cases hk : ks = ls
    · subst hk
      simp only [Nat.min_self, beq_self_eq_true, Bool.and_true, decide_true]
      rw [List.all_eq_true]
      intro j hj
      rw [List.mem_range] at hj
      rw [he j ks[j] ks[j] (List.getElem?_eq_getElem hj) (List.getElem?_eq_getElem hj)]
      simp
    · have : decide (Tr.t ks = Tr.t ls) = false := decide_eq_false fun z => hk (Tr.t.inj z)
      rw [this, Bool.and_eq_false_iff]
      left
      have : ∃ j, ks[j]? ≠ ls[j]? := Classical.byContradiction fun z => hk (List.ext_getElem? fun j => Classical.byContradiction fun y => z ⟨j, y⟩)
      obtain ⟨j, hj⟩ := this
      have hjl : j < ks.length := Classical.byContradiction fun z => hj (by rw [List.getElem?_eq_none (by omega), List.getElem?_eq_none (by omega)])
      rw [List.all_eq_false]
      refine ⟨j, List.mem_range.mpr (by omega), ?_⟩
      rw [he j ks[j] ls[j] (List.getElem?_eq_getElem hjl) (List.getElem?_eq_getElem (by omega))]
      intro z
      rw [decide_eq_true_eq] at z
      exact hj (by rw [List.getElem?_eq_getElem hjl, List.getElem?_eq_getElem (by omega), z])
  · have h1 : (ks.length == ls.length) = false := beq_eq_false_iff_ne.mpr hl
    rw [h1, Bool.and_false]
    exact (decide_eq_false fun z => hl (by rw [Tr.t.inj z])).symm
theorem Xb {α β : Type} {F : α → β → Prop} : ∀ {l₁ : List α} {l₂ : List β} {j : Nat} {x : α}, Paired F l₁ l₂ → l₁[j]? = some x → ∃ v, l₂[j]? = some v ∧ F x v
  | _, _, 0, x, .cons r t, e => by simp at e; subst e; exact ⟨_, rfl, r⟩
  | _, _, j + 1, x, .cons r t, e => by
    obtain ⟨v, h1, h2⟩ := Xb (j := j) (x := x) t (by simpa using e)
    exact ⟨v, by simpa using h1, h2⟩
open SeqAt in
theorem Qh4 {s : Shared} : ∀ (n : Nat) (A : Around), A.units + n < cLine → ∀ (x y : Tr) (u v : Value), IsT s.heap n x u → IsT s.heap n y v → EqAt A s u v (decide (x = y))
  | 0, _, _, _, _, _, _, hx, _ => hx.elim
  | n + 1, A, hu, .i a, .i b, u, v, hx, hy => by
    have hd : decide (Tr.i a = Tr.i b) = (a == b) := by
      by_cases z : a = b
      · subst z; simp
      · rw [decide_eq_false fun q => z (Tr.i.inj q)]; exact (beq_eq_false_iff_ne.mpr z).symm
    rw [hd]
    rcases hx with ⟨t, rfl⟩ | ⟨p, rfl, rfl⟩ <;> rcases hy with ⟨t', rfl⟩ | ⟨q, rfl, rfl⟩
    · exact EqAt.int_int a t b t'
    · exact EqAt.int_bool a t q
    · exact EqAt.bool_int p b t'
    · have := EqAt.bool_bool (A := A) (s := s) p q
      cases p <;> cases q <;> exact this
  | n + 1, A, hu, .i a, .s b, u, v, hx, hy => by
    obtain ⟨t', rfl⟩ := hy
    rw [decide_eq_false (fun z => nomatch z)]
    rcases hx with ⟨t, rfl⟩ | ⟨p, rfl, rfl⟩
    · exact EqAt.int_str a t b t'
    · exact EqAt.bool_str p b t'
  | n + 1, A, hu, .i a, .t ks, u, v, hx, hy => by
    obtain ⟨ad, its, rfl, p, _⟩ := hy
    rw [decide_eq_false (fun z => nomatch z)]
    rcases hx with ⟨t, rfl⟩ | ⟨q, rfl, rfl⟩
    · exact EqAt.int_tuple a t p (by omega)
    · exact EqAt.bool_tuple q p (by omega)
  | n + 1, A, hu, .s b, .i a, u, v, hx, hy => by
    obtain ⟨t', rfl⟩ := hx
    rw [decide_eq_false (fun z => nomatch z)]
    rcases hy with ⟨t, rfl⟩ | ⟨p, rfl, rfl⟩
    · exact EqAt.str_int b t' a t
    · exact EqAt.str_bool b t' p
  | n + 1, A, hu, .s a, .s b, u, v, hx, hy => by
    obtain ⟨t, rfl⟩ := hx
    obtain ⟨t', rfl⟩ := hy
    have hd : decide (Tr.s a = Tr.s b) = (a == b) := by
      by_cases z : a = b
      · subst z; simp
      · rw [decide_eq_false fun q => z (Tr.s.inj q)]; exact (beq_eq_false_iff_ne.mpr z).symm
    rw [hd]
    exact EqAt.str_str a t b t'
  | n + 1, A, hu, .s b, .t ks, u, v, hx, hy => by
    obtain ⟨ad, its, rfl, p, _⟩ := hy
    obtain ⟨t, rfl⟩ := hx
    rw [decide_eq_false (fun z => nomatch z)]
    exact EqAt.str_tuple b t p (by omega)
  | n + 1, A, hu, .t ks, .i a, u, v, hx, hy => by
    obtain ⟨ad, its, rfl, p, _⟩ := hx
    rw [decide_eq_false (fun z => nomatch z)]
    rcases hy with ⟨t, rfl⟩ | ⟨q, rfl, rfl⟩
    · exact EqAt.tuple_int a t p (by omega)
    · exact EqAt.tuple_bool q p (by omega)
  | n + 1, A, hu, .t ks, .s b, u, v, hx, hy => by
    obtain ⟨ad, its, rfl, p, _⟩ := hx
    obtain ⟨t, rfl⟩ := hy
    rw [decide_eq_false (fun z => nomatch z)]
    exact EqAt.tuple_str b t p (by omega)
  | n + 1, A, hu, .t ks, .t ls, u, v, hx, hy => by
    obtain ⟨ad, its, rfl, p, q⟩ := id hx
    obtain ⟨bd, its', rfl, p', q'⟩ := id hy
    by_cases hab : ad = bd
    · subst hab
      have := WM _ _ _ hx hy
      rw [this, decide_eq_true rfl]
      exact EqAt.same _
    · refine EqAt.of_refs hab ?_
      have ih := Qh4 (s := s) n A.in1 (by show A.units + 1 + n < cLine; omega)
      have hz := RcAt.tuples (A := A) (s := s) (e := fun j => match ks[j]?, ls[j]? with | some x, some y => decide (x = y) | _, _ => false) p p' (by omega) (fun j h1 h2 => by
        have l1 := Paired.length q
        have l2 := Paired.length q'
        have j1 : j < ks.length := by rw [l1]; exact h1
        have j2 : j < ls.length := by rw [l2]; exact h2
        obtain ⟨x, hx⟩ : ∃ x, ks[j]? = some x := ⟨ks[j], List.getElem?_eq_getElem j1⟩
        obtain ⟨y, hy⟩ : ∃ y, ls[j]? = some y := ⟨ls[j], List.getElem?_eq_getElem j2⟩
        obtain ⟨u, hu1, hu2⟩ := Xb q hx
        obtain ⟨t, ht1, ht2⟩ := Xb q' hy
        rw [hx, hy]
        have e1 : its[j] = u := by
          rw [Array.getElem?_toList, Array.getElem?_eq_getElem h1] at hu1; exact Option.some.inj hu1
        have e2 : its'[j] = t := by
          rw [Array.getElem?_toList, Array.getElem?_eq_getElem h2] at ht1; exact Option.some.inj ht1
        rw [e1, e2]
        exact ih x y u t hu2 ht2)
      have := Qdg (e := fun j => match ks[j]?, ls[j]? with | some x, some y => decide (x = y) | _, _ => false) q q' (fun j x y h1 h2 => by simp only [h1, h2])
      rw [Array.length_toList, Array.length_toList] at this
      rw [this] at hz
      exact hz
theorem Qai {A : Around} {s : Shared} : ∀ (n m : Nat) (k : Tr) (v : Value) (Q : Bool → Shared → Prop), IsT s.heap n k v → n ≤ m → Q true s → wpAny (model prog w) A (eqIsQuiet m v) Q E s
  | 0, _, _, _, _, x, _, _ => x.elim
  | n + 1, m, .i k, v, Q, x, _, h => by
    rcases x with ⟨t, rfl⟩ | ⟨b, rfl, rfl⟩
    · rw [eqIsQuiet_byValue _ rfl]; exact wpAny_pure h
    · rw [eqIsQuiet_byValue _ rfl]; exact wpAny_pure h
  | n + 1, m, .s k, v, Q, x, _, h => by
    obtain ⟨t, rfl⟩ := x
    rw [eqIsQuiet_byValue _ rfl]; exact wpAny_pure h
  | n + 1, 0, .t ks, v, Q, x, hm, h => by omega
  | n + 1, m + 1, .t ks, v, Q, x, hm, h => by
    obtain ⟨a, its, rfl, ⟨o, ho, hc, l, hd⟩, q⟩ := x
    have hT : s.TypeIs (.ref a) "tuple" := ⟨o, ho, hc⟩
    unfold eqIsQuiet
    refine wpAny_bind (wpAny_specialOf hT F.slot_tuple_eq.lookup ?_)
    show wpAny _ _ (isInstance (.ref a) (.type "tuple") >>= _) _ _ s
    refine wpAny_bind (wpAny_isInstance hT isSubtype_tuple_tuple ?_)
    simp only [Bool.not_true, Bool.false_eq_true, if_false]
    refine wpAny_bind (wpAny_seqItems ho hd ?_)
    refine wpAny_bind ?_
    show wpAny _ _ (forIn its _ _) _ _ s
    rw [← Array.forIn_toList]
    refine wpAny_forIn_list _ (fun rest r s' => r.1 = none ∧ s' = s ∧ ∃ ks', Paired (IsT s.heap n) ks' rest) _ ?_ ?_ _ _ ⟨rfl, rfl, ks, q⟩
    · rintro v rest r s' ⟨hr, rfl, ks', q'⟩
      cases q' with
      | cons q1 q2 =>
        refine wpAny_bind (Qai n m _ _ _ q1 (by omega) ?_)
        simp only [Bool.not_true, Bool.false_eq_true, if_false]
        exact wpAny_pure ⟨rfl, rfl, _, q2⟩
    · rintro ⟨r1, r2⟩ s' ⟨hr, rfl, _⟩
      simp only at hr
      subst hr
      exact wpAny_pure h
end
noncomputable def QM (prog : Program) (w : World) : HeapKind prog w Tr where
  is := fun h k a => IsT h 8 k (.ref a)
  hash := hN w 8
  draws := dN 8
  room := fun A => A.units + 8 < cLine
  inj := fun hx hy => WM _ _ _ hx hy
  keeps := fun x ho hd hs => YI ho hd hs _ _ x
  pyHash := fun hu hk h => QcB 8 _ hu _ _ _ _ hk h
  eqBool := fun hu hx hy h => Qh4 8 _ hu _ _ _ _ hx hy _ _ _ _ h
  quiet := fun hk h => Qai 8 8 _ _ _ hk (Nat.le_refl _) h

inductive HO where
  /-- a list -/
  | lst (xs : List V)
  /-- a tuple (never changes) -/
  | tup (xs : List V)
  /-- a dict whose keys are ints and texts; one whose keys are tuples of ints and texts (the empty one is both) -/
  | dK (kvs : List (Key × V)) | dT (kvs : List (Tr × Addr × V))
  /-- a set of ints: its members, its size -/
  | set (S : Int → Bool) (n : Nat)
  /-- an instance of the class at C, its dict at dx, its attributes -/
  | ins (C dx : Addr) (fs : List (Str × V))
  /-- the dict of the instance at x -/
  | own (x : Addr)
  /-- the dict of an exception -/
  | xd (fs : List (Str × V))
  /-- a bound method, f of x -/
  | met (f x : Addr)
  /-- a range object lo, lo + 1, .. below hi -/
  | rng (lo hi : Int)
  /-- a thing that is known to the object (the script; a dict while a loop walks it): read, never written while it is so -/
  | frz (o : Obj) (u : HO)
  /-- a code object's table -/
  | tbl (ps : Array Value)
  /-- any other thing, by what is true of its one object (a def of one's own: SetO a S n := HO.ext fun h => ..) -/
  | ext (φ : Heap → Prop)

noncomputable abbrev Hp := Addr → Option HO
noncomputable def upd (H : Hp) (a : Addr) (o : HO) : Hp := fun b => if b = a then some o else H b
theorem Jr {H : Hp} {a : Addr} {o : HO} : upd H a o a = some o := by unfold upd; rw [if_pos rfl]
theorem QJ {H : Hp} {a b : Addr} {o : HO} (h : b ≠ a) : upd H a o b = H b := by unfold upd; rw [if_neg h]
theorem Jv {H : Hp} {a b : Addr} {o : HO} (h : H a = some o) (h' : H b = none) : a ≠ b := by
  intro e; subst e; rw [h] at h'; cases h'

section
variable (P : Program) (w : World)
noncomputable def ObjOk (H : Hp) (h : Heap) (a : Addr) : HO → Prop
  | .lst xs => xs.length ≤ sizeLine ∧ ∃ (its : List Value) (n : Nat), Vals xs its ∧ h.get? a = some { cls := .type "list", data := .seq its.toArray n }
  | .tup xs => xs.length ≤ sizeLine ∧ ∃ its : List Value, Vals xs its ∧ IsTup h a its.toArray
  | .dK kvs => kvs.length ≤ sizeLine ∧ (a == sysModules) = false ∧ ∃ vs, KV kvs vs ∧ h.DictOf (QaO P w) a vs
  | .dT kvs => kvs.length ≤ sizeLine ∧ (a == sysModules) = false ∧ ∃ xs : List (Tr × Addr × Value),
      Paired (fun (p : Tr × Addr × V) (q : Tr × Addr × Value) => p.1 = q.1 ∧ p.2.1 = q.2.1 ∧ RelV p.2.2 q.2.2) kvs xs ∧
      ∃ o es ep, h.get? a = some o ∧ o.ExactDict ∧ o.data = .dict es ep ∧ es.toList = xs.map (entryOfKey (QM P w)) ∧ (xs.map (·.1)).Nodup
  | .set S n => h.SetOf (intKind P w) a S n
  | .ins C dx fs => H dx = some (.own a) ∧ fs.length ≤ 1000 ∧ dx ≠ a ∧ h.get? a = some (PySem.W.instObj C dx) ∧
      ∃ mA, h.Ns1 dx mA ∧ (∀ f, RelO (fs.lookup f) (mA f)) ∧ PySem.Within mA (fs.map (·.1))
  | .own _ => ∃ o, h.get? a = some o
  | .xd fs => ∃ mA, h.Ns1 a mA ∧ ∀ f, RelO (fs.lookup f) (mA f)
  | .rng lo hi => ∃ t u v, h.get? a = some { cls := .type "range", data := .fields #[.int lo t, .int hi u, .int 1 v] }
  | .frz o u => h.get? a = some o ∧ ObjOk H h a u
  | .tbl ps => h.get? a = some { cls := .none, data := .fields ps }
  | .met f x => h.get? a = some (PySem.W.methodObj (.ref f) (.ref x))
  | .ext φ => φ h ∧ (∃ o, h.get? a = some o) ∧ ∀ h1 h2 : Heap, φ h1 → (∀ o, h1.get? a = some o → h2.get? a = some o) → φ h2
noncomputable def HOk (H : Hp) (h : Heap) : Prop := ∀ a o, H a = some o → ObjOk P w H h a o
end

section
variable {P : Program} {w : World} {H H' : Hp} {h h' : Heap} {a : Addr} {o : HO}
theorem ObjOk.lt (x : ObjOk P w H h a o) : a < h.objs.size := by
  cases o with
  | lst xs => obtain ⟨_, _, _, _, e⟩ := x; exact Heap.lt_size e
  | tup xs => obtain ⟨_, _, _, p⟩ := x; exact p.lt
  | dK kvs => obtain ⟨_, _, _, _, o, _, _, e, _⟩ := x; exact Heap.lt_size e
  | dT kvs => obtain ⟨_, _, _, _, o, _, _, e, _⟩ := x; exact Heap.lt_size e
  | set S n => obtain ⟨o, _, _, _, e, _⟩ := x; exact Heap.lt_size e
  | ins C dx fs => obtain ⟨_, _, _, e, _⟩ := x; exact Heap.lt_size e
  | own y => obtain ⟨_, e⟩ := x; exact Heap.lt_size e
  | xd fs => obtain ⟨_, ⟨_, _, _, e, _⟩, _⟩ := x; exact Heap.lt_size e
  | rng lo hi => obtain ⟨_, _, _, e⟩ := x; exact Heap.lt_size e
  | frz ob u => obtain ⟨e, _⟩ := x; exact Heap.lt_size e
  | tbl ps => exact Heap.lt_size (show h.get? a = some _ from x)
  | met f y => exact Heap.lt_size (show h.get? a = some _ from x)
  | ext φ => obtain ⟨_, ⟨_, e⟩, _⟩ := x; exact Heap.lt_size e
theorem Paired.mapP {α β : Type} {F G : α → β → Prop} : ∀ {l₁ : List α} {l₂ : List β}, Paired F l₁ l₂ → (∀ a b, F a b → G a b) → Paired G l₁ l₂
  | _, _, .nil, _ => .nil
  | _, _, .cons r t, f => .cons (f _ _ r) (Paired.mapP t f)
theorem ObjOk.stay (x : ObjOk P w H h a o) (k : ∀ b u, (b = a ∨ H b = some (.own a)) → h.get? b = some u → h'.get? b = some u)
    (ho : ∀ b, H b = some (.own a) → H' b = some (.own a)) (ht : ∀ b xs, H b = some (.tup xs) → H' b = some (.tup xs)) : ObjOk P w H' h' a o := by
  induction o with
  | lst xs => obtain ⟨z, its, n, r, e⟩ := x; exact ⟨z, its, n, r, k _ _ (.inl rfl) e⟩
  | tup xs => obtain ⟨z, its, r, ob, e, c⟩ := x; exact ⟨z, its, r, ob, k _ _ (.inl rfl) e, c⟩
  | dK kvs => obtain ⟨z, y, vs, r, ob, es, ep, e, c⟩ := x; exact ⟨z, y, vs, r, ob, es, ep, k _ _ (.inl rfl) e, c⟩
  | dT kvs =>
    obtain ⟨z, y, xs, r, ob, es, ep, e, c⟩ := x
    exact ⟨z, y, xs, r, ob, es, ep, k _ _ (.inl rfl) e, c⟩
  | set S n => obtain ⟨ob, es, ep, t, e, c⟩ := x; exact ⟨ob, es, ep, t, k _ _ (.inl rfl) e, c⟩
  | ins C dx fs =>
    obtain ⟨d, z, ne, e, mA, ⟨od, es, ep, e2, c⟩, r⟩ := x
    exact ⟨ho _ d, z, ne, k _ _ (.inl rfl) e, mA, ⟨od, es, ep, k _ _ (.inr d) e2, c⟩, r⟩
  | own y => obtain ⟨ob, e⟩ := x; exact ⟨ob, k _ _ (.inl rfl) e⟩
  | xd fs => obtain ⟨mA, ⟨od, es, ep, e, c⟩, r⟩ := x; exact ⟨mA, ⟨od, es, ep, k _ _ (.inl rfl) e, c⟩, r⟩
  | rng lo hi => obtain ⟨t, u, v, e⟩ := x; exact ⟨t, u, v, k _ _ (.inl rfl) e⟩
  | frz ob u ih => obtain ⟨e, q⟩ := x; exact ⟨k _ _ (.inl rfl) e, ih q⟩
  | tbl ps =>
    have e : h.get? a = some { cls := .none, data := .fields ps } := x
    show h'.get? a = some { cls := .none, data := .fields ps }
    exact k a _ (.inl rfl) e
  | met f y =>
    have e : h.get? a = some (PySem.W.methodObj (.ref f) (.ref y)) := x
    show h'.get? a = some (PySem.W.methodObj (.ref f) (.ref y))
    exact k a _ (.inl rfl) e
  | ext φ => obtain ⟨p, ⟨o, e⟩, st⟩ := x; exact ⟨st _ _ p fun o q => k _ _ (.inl rfl) q, ⟨o, k _ _ (.inl rfl) e⟩, st⟩
theorem HOk.lt (x : HOk P w H h) (e : H a = some o) : a < h.objs.size := (x a o e).lt
theorem HOk.fresh (x : HOk P w H h) (e : h.objs.size ≤ a) : H a = none := by
  cases q : H a with
  | none => rfl
  | some u => exact absurd (Nat.lt_of_lt_of_le (x.lt q) e) (Nat.lt_irrefl _)
theorem HOk.kept (x : HOk P w H h) (k : ∀ b u, h.get? b = some u → h'.get? b = some u) : HOk P w H h' := fun a o e =>
  (x a o e).stay (fun b u _ q => k b u q) (fun _ q => q) fun _ _ q => q
theorem HOk.laid (x : HOk P w H h) (k : ∀ b u, h.get? b = some u → h'.get? b = some u) (hp : h.objs.size ≤ a) (new : ObjOk P w (upd H a o) h' a o) : HOk P w (upd H a o) h' := fun b u e => by
  have hn := x.fresh hp
  by_cases hb : b = a
  · subst hb; rw [Jr] at e; cases e; exact new
  · rw [QJ hb] at e
    exact (x b u e).stay (fun c v _ q => k c v q) (fun c q => by rw [QJ (Jv q hn)]; exact q) fun c xs q => by rw [QJ (Jv q hn)]; exact q
end

noncomputable def Rd (H : Hp) (a : Addr) (u : HO) : Prop := H a = some u ∨ ∃ o, H a = some (.frz o u)
theorem Rd.ok {P : Program} {w : World} {H : Hp} {h : Heap} {a : Addr} {u : HO} (r : Rd H a u) (x : HOk P w H h) : ObjOk P w H h a u := by
  rcases r with r | ⟨o, r⟩
  · exact x a u r
  · obtain ⟨_, q⟩ := x a _ r
    exact q
noncomputable def Mut : Option HO → Prop
  | some (.lst _) => True
  | some (.dK _) => True
  | some (.dT _) => True
  | some (.set _ _) => True
  | some (.ins _ _ _) => True
  | some (.ext _) => True
  | _ => False
section
variable {P : Program} {w : World} {H : Hp} {h h' : Heap} {x e : Addr} {o' : HO}
theorem HOk.write (ok : HOk P w H h) (mu : Mut (H x)) (he : e = x ∨ H e = some (.own x)) (k : ∀ b u, b ≠ e → h.get? b = some u → h'.get? b = some u) (heo : ∃ u, h'.get? e = some u)
    (new : ObjOk P w (upd H x o') h' x o') : HOk P w (upd H x o') h' := fun b u q => by
  have nown : ∀ c y, H c = some (.own y) → c ≠ x := fun c y r z => by subst z; rw [r] at mu; exact mu
  have ntup : ∀ c xs, H c = some (.tup xs) → c ≠ x := fun c xs r z => by subst z; rw [r] at mu; exact mu
  by_cases hb : b = x
  · subst hb; rw [Jr] at q; cases q; exact new
  · rw [QJ hb] at q
    by_cases hbe : b = e
    · have q' : H b = some (.own x) := by
        rcases he with z | z
        · exact absurd (hbe.trans z) hb
        · rw [hbe]; exact z
      rw [q] at q'; cases q'
      obtain ⟨v, hv⟩ := heo
      exact ⟨v, by rw [hbe]; exact hv⟩
    · refine (ok b u q).stay (fun c v hc r => k c v ?_ r) (fun c r => by rw [QJ (nown c b r)]; exact r) fun c xs r => by rw [QJ (ntup c xs r)]; exact r
      rcases hc with rfl | hc
      · exact hbe
      · rintro rfl
        rcases he with z | z
        · exact nown c b hc z
        · rw [hc] at z; cases z; exact hb rfl
end

structure Un (fs ex : List Addr) (H H' : Hp) (h h' : Heap) : Prop where
  keep : ∀ b o, h.get? b = some o → H b = none → b ∉ fs → b ∉ ex → h'.get? b = some o
  slot : ∀ b o, h.get? b = some o → H b = none → b ∈ fs → b ∉ ex → ∃ sl, h'.get? b = some { o with slots := sl }
  free : ∀ b o, h.get? b = some o → H b = none → b ∉ ex → H' b = none
  there : ∀ b o, h.get? b = some o → b ∉ ex → ∃ o', h'.get? b = some o'
  tups : ∀ b xs, H b = some (.tup xs) → H' b = some (.tup xs)
  frzs : ∀ b o u, H b = some (.frz o u) → H' b = some (.frz o u)
  tbls : ∀ b ps, H b = some (.tbl ps) → ∃ more, H' b = some (.tbl (ps ++ more))
section
variable {fs fs' ex ex' : List Addr} {H H1 H2 : Hp} {h h1 h2 h' : Heap} {a x e : Addr} {o : HO}
theorem Un.any (u : Un fs ex H H1 h h1) {b : Addr} {ob : Obj} (q : h.get? b = some ob) (n : H b = none) (hx : b ∉ ex) : ∃ sl, h1.get? b = some { ob with slots := sl } := by
  by_cases hb : b ∈ fs
  · exact u.slot b ob q n hb hx
  · exact ⟨ob.slots, u.keep b ob q n hb hx⟩
theorem Un.kept (k : ∀ b u, h.get? b = some u → h'.get? b = some u) : Un fs ex H H h h' :=
  ⟨fun b ob q _ _ _ => k b ob q, fun b ob q _ _ _ => ⟨ob.slots, k b ob q⟩, fun _ _ _ n _ => n, fun b ob q _ => ⟨ob, k b ob q⟩, fun _ _ q => q, fun _ _ _ q => q, fun _ ps q => ⟨#[], by rw [q]; simp⟩⟩
theorem Un.refl : Un fs ex H H h h := Un.kept fun _ _ q => q
theorem Un.laid (k : ∀ b u, h.get? b = some u → h'.get? b = some u) (hp : h.objs.size ≤ a) (hn : H a = none) : Un fs ex H (upd H a o) h h' where
  keep := fun b u q _ _ _ => k b u q
  slot := fun b u q _ _ _ => ⟨u.slots, k b u q⟩
  free := fun b u q n _ => by rw [QJ (Nat.ne_of_lt (Nat.lt_of_lt_of_le (Heap.lt_size q) hp))]; exact n
  there := fun b u q _ => ⟨u, k b u q⟩
  tups := fun b xs q => by rw [QJ (Jv q hn)]; exact q
  frzs := fun b u xs q => by rw [QJ (Jv q hn)]; exact q
  tbls := fun b ps q => ⟨#[], by rw [QJ (Jv q hn), q]; simp⟩
theorem Un.write (mu : Mut (H x)) (he : e = x ∨ H e = some (.own x)) (k : ∀ b u, b ≠ e → h.get? b = some u → h'.get? b = some u) (heo : ∃ u, h'.get? e = some u) : Un fs ex H (upd H x o) h h' := by
  have hx : ∀ b, H b = none → b ≠ x := fun b n z => by subst z; rw [n] at mu; exact mu
  have hb : ∀ b, H b = none → b ≠ e := fun b n z => by
    subst z
    rcases he with r | r
    · exact hx b n r
    · rw [n] at r; cases r
  have hm : ∀ b u, H b = some u → ¬ Mut (some u) → b ≠ x := fun b u q nm z => by subst z; rw [q] at mu; exact nm mu
  refine ⟨fun b u q n _ _ => k b u (hb b n) q, fun b u q n _ _ => ⟨u.slots, k b u (hb b n) q⟩, fun b u q n _ => by rw [QJ (hx b n)]; exact n, fun b u q _ => ?_,
    fun b xs q => by rw [QJ (hm b _ q fun z => z)]; exact q, fun b u xs q => by rw [QJ (hm b _ q fun z => z)]; exact q, fun b ps q => ⟨#[], by rw [QJ (hm b _ q fun z => z), q]; simp⟩⟩
  by_cases hbe : b = e
  · subst hbe; exact heo
  · exact ⟨u, k b u hbe q⟩
end

noncomputable def trk (h : Heap) (H : Hp) : List Addr := (List.range h.objs.size).filter fun a => (H a).isSome
noncomputable def QbP (h : Heap) (H : Hp) : Heap := PySem.W.hideAll h (trk h H)
theorem GR (h : Heap) (H : Hp) : (QbP h H).objs.size = h.objs.size := PySem.W.hideAll_size _ _
theorem Qbm {h : Heap} {H : Hp} {b : Addr} {o : Obj} (e : h.get? b = some o) (n : H b = none) : (QbP h H).get? b = some o :=
  PySem.W.hideAll_get _ e fun hm => by
    have q : (H b).isSome = true := (List.mem_filter.mp hm).2
    rw [n] at q; simp at q
theorem Qdd {h : Heap} {H : Hp} {b : Addr} {o : Obj} (e : (QbP h H).get? b = some o) : h.get? b = some o ∧ H b = none := by
  have e' : h.get? b = some o := PySem.W.of_hideAll (trk h H) e
  refine ⟨e', ?_⟩
  cases q : H b with
  | none => rfl
  | some x =>
    have hm : b ∈ trk h H := List.mem_filter.mpr ⟨List.mem_range.mpr (Heap.lt_size e'), by simp [q]⟩
    have z : (QbP h H).get? b = none := PySem.W.hideAll_none (trk h H) hm
    rw [z] at e; cases e

end L2

namespace L2
open PySem PySem.Spec PyProof.Rows

structure Mod (K : PySem.W.Frag) (mg : Str → Option Value) (base : Heap) : Prop where
  kin : K.In base
  glob : base.Ns mainGlobals mg
  blt : ∃ mb, base.Ns builtinsNs mb ∧ ∀ x : Str, x ≠ "__name__" → mb x = bootBuiltins x
  nolimit : base.NoLimit

structure Cx where
  prog : Program
  w : World
  K : PySem.W.Frag
  mg : Str → Option Value
  base : Heap
  A : Around
  N : List Str
  s₀ : Shared
  H₀ : Hp
  env : Env
  outer : List Env
  stack : List Env
  ex : List Addr
  fn : Str → Bool
  calm : Bool
  pn : List (Addr × Obj)
  xe : Value → Shared → Prop
noncomputable def frs (l : List Env) : List Addr := l.filterMap (·.frame)
noncomputable abbrev Cx.fs (X : Cx) : List Addr := frs X.outer

noncomputable def Vis (sc : Scope) (x : Str) : Prop := sc.names.lookup x = some .local ∨ sc.names.lookup x = some .cell ∨ sc.names.lookup x = some .free
noncomputable def Loc (sc : Scope) (x : Str) : Prop := sc.names.lookup x = some .local ∨ sc.names.lookup x = some .cell
noncomputable def Qjv (env : Env) (h : Heap) (m : Str → Option Value) (x : Str) (u : Value) : Prop :=
  (env.kindOf x = some .local ∧ m x = some u) ∨ ((env.kindOf x = some .cell ∨ env.kindOf x = some .free) ∧ ∃ c, env.cells.lookup x = some c ∧ h.IsCell c (some u))

structure Cx.Ok (X : Cx) : Prop where
  mod : Mod X.K X.mg X.base
  kind : X.env.scope.kind = .function
  glob : X.env.globals = mainGlobals
  blt : X.env.builtins = builtinsNs
  above : X.s₀.heap.objs.size ≤ X.env.locals
  inj : ∀ x y c, X.env.cells.lookup x = some c → X.env.cells.lookup y = some c → x = y
  has : ∀ x, (X.env.kindOf x = some .cell ∨ X.env.kindOf x = some .free) → ∃ c, X.env.cells.lookup x = some c
  cab : ∀ x c, X.fn x = true → X.env.cells.lookup x = some c → X.s₀.heap.objs.size ≤ c
  hd : X.calm = true → X.A.handled = none
  frames : X.A.frames = some X.stack
  stk : X.stack = X.outer ∨ (X.stack = X.env :: X.outer ∧ X.env.frame = some X.env.locals)
  exf : ∀ b ∈ X.ex, b ≠ X.env.locals ∧ ∀ x c, X.env.cells.lookup x = some c → c ≠ b
  bs : ∀ b o, X.base.get? b = some o → X.s₀.heap.get? b = some o ∧ X.H₀ b = none
  bsz : X.base.objs.size ≤ X.s₀.heap.objs.size
  noex : ∀ b o, X.base.get? b = some o → b ∉ X.ex
  exfs : ∀ b ∈ X.ex, b ∉ X.fs
  funs : X.s₀.heap.FunFrames X.base X.outer
  frf : ∀ b ∈ X.fs, X.H₀ b = none

structure Inv (X : Cx) (pins : List (Addr × Obj)) (σ : List (Option V)) (H : Hp) (s : Shared) : Prop where
  ok : X.Ok
  os : s.os = X.s₀.os
  bare : AllBare s.gens
  base : Un X.fs X.ex X.H₀ H X.s₀.heap s.heap
  loc : ∃ m, s.heap.Ns X.env.locals m ∧ ∀ (i : Nat) (x : Str) (v : V), X.N[i]? = some x → σ[i]? = some (some v) → Vis X.env.scope x → ∃ u, RelV v u ∧ Qjv X.env s.heap m x u
  cell : ∀ x c, X.env.cells.lookup x = some c → ∃ v, s.heap.IsCell c v
  free : H X.env.locals = none
  freeC : ∀ x c, X.env.cells.lookup x = some c → H c = none
  pin : ∀ p ∈ X.pn ++ pins, s.heap.get? p.1 = some p.2 ∧ H p.1 = none ∧ p.1 ≠ X.env.locals ∧ p.1 ∉ X.fs ∧ ∀ v, p.2.data ≠ .cell v
  hok : HOk X.prog X.w H s.heap
  len : σ.length = X.N.length

section
variable {X : Cx} {pins : List (Addr × Obj)} {σ : List (Option V)} {H H' : Hp} {s : Shared} {h' : Heap}

theorem Cx.Ok.nofr (ok : X.Ok) {b : Addr} {o : Obj} (e : X.base.get? b = some o) : b ∉ X.fs := fun hb => by
  have := (ok.funs.mem hb).1
  rw [e] at this; cases this
theorem Inv.bs (I : Inv X pins σ H s) : ∀ b o, X.base.get? b = some o → s.heap.get? b = some o ∧ H b = none := fun b o e =>
  ⟨I.base.keep b o (I.ok.bs b o e).1 (I.ok.bs b o e).2 (I.ok.nofr e) (I.ok.noex b o e), I.base.free b o (I.ok.bs b o e).1 (I.ok.bs b o e).2 (I.ok.noex b o e)⟩
theorem Inv.bk (I : Inv X pins σ H s) : ∀ b o, X.base.get? b = some o → s.heap.get? b = some o := fun b o e => (I.bs b o e).1
theorem Inv.mod (I : Inv X pins σ H s) : Mod X.K X.mg X.base := I.ok.mod
theorem Inv.kIn (I : Inv X pins σ H s) : X.K.In s.heap := I.ok.mod.kin.keeps I.bk
theorem Inv.lt (I : Inv X pins σ H s) : X.env.locals < s.heap.objs.size := let ⟨_, hn, _⟩ := I.loc; hn.lt
theorem Inv.sz (I : Inv X pins σ H s) : X.s₀.heap.objs.size ≤ s.heap.objs.size := Nat.le_trans I.ok.above (Nat.le_of_lt I.lt)
theorem Inv.nofs (I : Inv X pins σ H s) {a : Addr} (h : s.heap.objs.size ≤ a) : a ∉ X.fs := fun hb => by
  obtain ⟨_, o, ho, _⟩ := I.ok.funs.mem hb
  exact absurd (Nat.lt_of_lt_of_le (Heap.lt_size ho) (Nat.le_trans I.sz h)) (Nat.lt_irrefl _)
theorem Inv.cne (I : Inv X pins σ H s) : ∀ x c, X.env.cells.lookup x = some c → c ≠ X.env.locals := fun x c e z => by
  obtain ⟨v, o, ho, hd⟩ := I.cell x c e
  obtain ⟨m, ⟨o', es, ep, ho', hd', _⟩, _⟩ := I.loc
  rw [z, ho'] at ho; cases ho; rw [hd'] at hd; cases hd
theorem Inv.funs (I : Inv X pins σ H s) : s.heap.FunFrames X.base X.outer := by
  have all : ∀ (l : List Env), (∀ b ∈ frs l, b ∈ X.fs) → X.s₀.heap.FunFrames X.base l → s.heap.FunFrames X.base l := by
    intro l
    induction l with
    | nil => intro _ _; trivial
    | cons env r ih =>
      intro hs hl
      obtain ⟨hk, ⟨L, o, hf, hn, ho, hd⟩, hr⟩ := hl
      have hL : L ∈ X.fs := hs L (by unfold frs; rw [List.filterMap_cons, hf]; exact List.mem_cons_self)
      obtain ⟨sl, e⟩ := I.base.slot L o ho (I.ok.frf L hL) hL fun z => I.ok.exfs L z hL
      exact ⟨hk, ⟨L, _, hf, hn, e, hd⟩, ih (fun b hb => hs b (by unfold frs; rw [List.filterMap_cons, hf]; exact List.mem_cons_of_mem _ hb)) hr⟩
  exact all X.outer (fun _ hb => hb) I.ok.funs

theorem Inv.stack (I : Inv X pins σ H s) : s.heap.FunFrames X.base X.stack := by
  rcases I.ok.stk with e | ⟨e, hf⟩
  · rw [e]; exact I.funs
  · rw [e]
    obtain ⟨m, hn, _⟩ := I.loc
    refine .cons (by rw [I.ok.kind]; decide) hf hn ?_ I.funs
    exact Heap.get?_none_of_le (Nat.le_trans I.ok.bsz I.ok.above)
theorem Inv.stkSub (I : Inv X pins σ H s) : ∀ b ∈ frs X.stack, b ∈ X.env.locals :: X.fs := fun b hb => by
  rcases I.ok.stk with e | ⟨e, hf⟩
  · rw [e] at hb; exact List.mem_cons_of_mem _ hb
  · rw [e] at hb
    unfold frs at hb
    rw [List.filterMap_cons, hf] at hb
    exact hb
theorem Inv.stkFree (I : Inv X pins σ H s) : ∀ b ∈ frs X.stack, H b = none := fun b hb => by
  rcases List.mem_cons.mp (I.stkSub b hb) with e | hb
  · rw [e]; exact I.free
  · obtain ⟨_, o, ho, _⟩ := I.ok.funs.mem hb
    exact I.base.free b o ho (I.ok.frf b hb) fun z => I.ok.exfs b z hb

theorem Inv.step {g' : Array GenState} {t' : Nat} {d' : Drawn} {ch : List Addr} (I : Inv X pins σ H s)
    (hch : ∀ b ∈ ch, (b ∈ X.ex ∨ X.s₀.heap.objs.size ≤ b) ∧ b ≠ X.env.locals ∧ (∀ x c, X.env.cells.lookup x = some c → c ≠ b) ∧ ∀ p ∈ X.pn ++ pins, p.1 ≠ b)
    (keep : ∀ b o, b ≠ X.env.locals → b ∉ X.fs → b ∉ ch → s.heap.get? b = some o → H b = none → h'.get? b = some o)
    (slot : ∀ b o, b ≠ X.env.locals → b ∈ X.fs → b ∉ ch → s.heap.get? b = some o → H b = none → ∃ sl, h'.get? b = some { o with slots := sl }) (free : ∀ b o, b ∉ ch → s.heap.get? b = some o → H b = none → H' b = none)
    (there : ∀ b o, b ∉ ch → s.heap.get? b = some o → ∃ o', h'.get? b = some o')
    (tups : ∀ b xs, H b = some (.tup xs) → H' b = some (.tup xs)) (frzs : ∀ b o u, H b = some (.frz o u) → H' b = some (.frz o u)) (tbls : ∀ b ps, H b = some (.tbl ps) → ∃ more, H' b = some (.tbl (ps ++ more)))
    (ns : ∀ m, s.heap.Ns X.env.locals m → h'.Ns X.env.locals m) (hok : HOk X.prog X.w H' h') (hg : AllBare g') :
    Inv X pins σ H' { s with heap := h', gens := g', drawn := d', toks := t' } := by
  have neL : ∀ b o, X.s₀.heap.get? b = some o → b ≠ X.env.locals := fun b o e => Nat.ne_of_lt (Nat.lt_of_lt_of_le (Heap.lt_size e) I.ok.above)
  have neC : ∀ b o, X.s₀.heap.get? b = some o → b ∉ X.ex → b ∉ ch := fun b o e hx hb => by
    rcases (hch b hb).1 with z | z
    · exact hx z
    · exact absurd (Nat.lt_of_lt_of_le (Heap.lt_size e) z) (Nat.lt_irrefl _)
  have cellK : ∀ x c, X.env.cells.lookup x = some c → ∀ v, s.heap.IsCell c v → h'.IsCell c v := fun x c e v ⟨o, ho, hd⟩ => by
    have nch : c ∉ ch := fun z => (hch c z).2.2.1 x c e rfl
    by_cases hc : c ∈ X.fs
    · obtain ⟨sl, q⟩ := slot c o (I.cne x c e) hc nch ho (I.freeC x c e)
      exact ⟨_, q, hd⟩
    · exact ⟨o, keep c o (I.cne x c e) hc nch ho (I.freeC x c e), hd⟩
  refine ⟨I.ok, I.os, hg, ⟨fun b o e n hb hx => ?_, fun b o e n hb hx => ?_, fun b o e n hx => ?_, fun b o e hx => ?_, fun b xs e => tups b xs (I.base.tups b xs e), fun b o xs e => frzs b o xs (I.base.frzs b o xs e), fun b ps e => ?_⟩, ?_, fun x c e => ?_, ?_, fun x c e => ?_, fun p hp => ?_, hok, I.len⟩
  · exact keep b o (neL b o e) hb (neC b o e hx) (I.base.keep b o e n hb hx) (I.base.free b o e n hx)
  · obtain ⟨sl, e1⟩ := I.base.slot b o e n hb hx
    obtain ⟨sl', e2⟩ := slot b _ (neL b o e) hb (neC b o e hx) e1 (I.base.free b o e n hx)
    exact ⟨sl', e2⟩
  · obtain ⟨o', e1⟩ := I.base.there b o e hx
    exact free b o' (neC b o e hx) e1 (I.base.free b o e n hx)
  · obtain ⟨o', e1⟩ := I.base.there b o e hx
    exact there b o' (neC b o e hx) e1
  · obtain ⟨m1, e1⟩ := I.base.tbls b ps e
    obtain ⟨m2, e2⟩ := tbls b _ e1
    exact ⟨m1 ++ m2, by rw [e2, Array.append_assoc]⟩
  · obtain ⟨m, hn, hl⟩ := I.loc
    refine ⟨m, ns m hn, fun i x v e1 e2 e3 => ?_⟩
    obtain ⟨u, r, l⟩ := hl i x v e1 e2 e3
    refine ⟨u, r, ?_⟩
    rcases l with l | ⟨k, c, e, z⟩
    · exact .inl l
    · exact .inr ⟨k, c, e, cellK x c e _ z⟩
  · obtain ⟨v, z⟩ := I.cell x c e
    exact ⟨v, cellK x c e v z⟩
  · obtain ⟨m, ⟨o, _, _, ho, _⟩, _⟩ := I.loc
    exact free _ o (fun z => (hch _ z).2.1 rfl) ho I.free
  · obtain ⟨v, o, ho, hd⟩ := I.cell x c e
    exact free c o (fun z => (hch c z).2.2.1 x c e rfl) ho (I.freeC x c e)
  · obtain ⟨e, n, ne, nf, d⟩ := I.pin p hp
    have nch : p.1 ∉ ch := fun z => (hch p.1 z).2.2.2 p hp rfl
    exact ⟨keep p.1 p.2 ne nf nch e n, free p.1 p.2 nch e n, ne, nf, d⟩
theorem Inv.un {t' : Nat} (I : Inv X pins σ H s) (u : Un X.fs [] H H' s.heap h') (hok : HOk X.prog X.w H' h') : Inv X pins σ H' { s with heap := h', toks := t' } := by
  obtain ⟨m, ⟨o, es, ep, ho, r⟩, _⟩ := id I.loc
  obtain ⟨sl, hL⟩ := u.any ho I.free (by simp)
  exact I.step (g' := s.gens) (d' := s.drawn) (ch := []) (fun _ z => nomatch z) (fun b o _ hb _ e n => u.keep b o e n hb (by simp)) (fun b o _ hb _ e n => u.slot b o e n hb (by simp)) (fun b o _ e n => u.free b o e n (by simp)) (fun b o _ e => u.there b o e (by simp)) u.tups u.frzs u.tbls (fun m' hm => by
    obtain ⟨o', es', ep', ho', r'⟩ := hm
    rw [ho] at ho'; cases ho'
    exact ⟨_, es', ep', hL, r'⟩) hok I.bare
theorem Inv.call {g' : Array GenState} {t' : Nat} {d' : Drawn} {ch : List Addr} (I : Inv X pins σ H s) (u : Un (frs X.stack) ch H H' s.heap h') (hok : HOk X.prog X.w H' h') (hg : AllBare g')
    (hch : ∀ b ∈ ch, (b ∈ X.ex ∨ X.s₀.heap.objs.size ≤ b) ∧ b ≠ X.env.locals ∧ (∀ x c, X.env.cells.lookup x = some c → c ≠ b) ∧ ∀ p ∈ X.pn ++ pins, p.1 ≠ b) :
    Inv X pins σ H' { s with heap := h', gens := g', drawn := d', toks := t' } := by
  obtain ⟨m, ⟨o, es, ep, ho, r⟩, _⟩ := id I.loc
  obtain ⟨sl, hL⟩ := u.any ho I.free fun z => (hch _ z).2.1 rfl
  exact I.step (ch := ch) hch (fun b o hL hb hc e n => u.keep b o e n (fun z => (List.mem_cons.mp (I.stkSub b z)).elim hL hb) hc) (fun b o _ _ hc e n => u.any e n hc) (fun b o hc e n => u.free b o e n hc) (fun b o hc e => u.there b o e hc) u.tups u.frzs u.tbls (fun m' hm => by
    obtain ⟨o', es', ep', ho', r'⟩ := hm
    rw [ho] at ho'; cases ho'
    exact ⟨_, es', ep', hL, r'⟩) hok hg
theorem Inv.turned {t' : Nat} {it : Addr} (I : Inv X pins σ H s) (k : ∀ b o, b ≠ it → s.heap.get? b = some o → h'.get? b = some o) (hn : H it = none) (hL : it ≠ X.env.locals)
    (h1 : it ∈ X.ex ∨ X.s₀.heap.objs.size ≤ it) (h2 : ∀ x c, X.env.cells.lookup x = some c → c ≠ it) (h3 : ∀ p ∈ X.pn ++ pins, p.1 ≠ it) : Inv X pins σ H { s with heap := h', toks := t' } := by
  have nit : ∀ b u, H b = some u → b ≠ it := fun b u e z => by rw [z, hn] at e; cases e
  refine I.step (g' := s.gens) (d' := s.drawn) (ch := [it]) (fun b hb => ?_) (fun b o _ _ hc e _ => k b o (fun z => hc (by simp [z])) e) (fun b o _ _ hc e _ => ⟨o.slots, k b o (fun z => hc (by simp [z])) e⟩) (fun _ _ _ _ n => n)
    (fun b o hc e => ⟨o, k b o (fun z => hc (by simp [z])) e⟩) (fun _ _ e => e) (fun _ _ _ e => e) (fun b ps e => ⟨#[], by rw [e]; simp⟩) (fun m hm => ?_) (fun b u e => ?_) I.bare
  · have e : b = it := by simpa using hb
    subst e
    exact ⟨h1, hL, h2, h3⟩
  · obtain ⟨o, es, ep, ho, r⟩ := hm
    exact ⟨o, es, ep, k _ o (Ne.symm hL) ho, r⟩
  · refine (I.hok b u e).stay (fun c v hc q => k c v ?_ q) (fun _ q => q) fun _ _ q => q
    rcases hc with z | z
    · rw [z]; exact nit b u e
    · exact nit c _ z
theorem Inv.tok (I : Inv X pins σ H s) (t : Nat) : Inv X pins σ H { s with toks := t } := I.un (h' := s.heap) (t' := t) Un.refl I.hok
theorem Inv.kept {t' : Nat} (I : Inv X pins σ H s) (k : ∀ b u, s.heap.get? b = some u → h'.get? b = some u) : Inv X pins σ H { s with heap := h', toks := t' } := I.un (Un.kept k) (I.hok.kept k)
theorem Inv.laid {a : Addr} {o : HO} {t' : Nat} (I : Inv X pins σ H s) (k : ∀ b u, s.heap.get? b = some u → h'.get? b = some u) (hp : s.heap.objs.size ≤ a) (new : ObjOk X.prog X.w (upd H a o) h' a o) :
    Inv X pins σ (upd H a o) { s with heap := h', toks := t' } := I.un (Un.laid k hp (I.hok.fresh hp)) (I.hok.laid k hp new)
theorem Inv.write {x e : Addr} {o : HO} {t' : Nat} (I : Inv X pins σ H s) (mu : Mut (H x)) (he : e = x ∨ H e = some (.own x)) (k : ∀ b u, b ≠ e → s.heap.get? b = some u → h'.get? b = some u) (heo : ∃ u, h'.get? e = some u)
    (new : ObjOk X.prog X.w (upd H x o) h' x o) : Inv X pins σ (upd H x o) { s with heap := h', toks := t' } := I.un (Un.write mu he k heo) (I.hok.write mu he k heo new)
theorem Inv.pins_of {pins' : List (Addr × Obj)} (I : Inv X pins σ H s) (h : ∀ p ∈ pins', s.heap.get? p.1 = some p.2 ∧ H p.1 = none ∧ p.1 ≠ X.env.locals ∧ p.1 ∉ X.fs ∧ ∀ v, p.2.data ≠ .cell v) : Inv X pins' σ H s :=
  ⟨I.ok, I.os, I.bare, I.base, I.loc, I.cell, I.free, I.freeC, fun p hp => (List.mem_append.mp hp).elim (fun z => I.pin p (List.mem_append_left _ z)) (h p), I.hok, I.len⟩

theorem Ux {N : List Str} (hN : N.Nodup) {i j : Nat} {x : Str} (a : N[i]? = some x) (b : N[j]? = some x) : i = j := by
  obtain ⟨h1, e1⟩ := List.getElem?_eq_some_iff.mp a
  obtain ⟨h2, e2⟩ := List.getElem?_eq_some_iff.mp b
  exact (List.getElem_inj hN).mp (e1.trans e2.symm)

theorem Wc {M : Model} {A : Around} {E : Value → Shared → Prop} {i : Nat} {x : Str} {v : V} {u : Value} {Q : Unit → Shared → Prop} (I : Inv X pins σ H s) (hN : X.N.Nodup) (hi : X.N[i]? = some x) (hx : Loc X.env.scope x) (r : RelV v u)
    (h : ∀ s', Inv X pins (σ.set i (some v)) H s' → (∃ a, Heap.SameBut a s.heap s'.heap ∧ (a = X.env.locals ∨ X.env.cells.lookup x = some a)) → Q () s') (hf : X.fn x = true ∨ X.env.scope.names.lookup x = some .local := by first | exact .inl rfl | exact .inr rfl | assumption) : wpAny M A (storeName X.env x u) Q E s := by
  obtain ⟨m, hn, hl⟩ := id I.loc
  have hcls : (X.env.scope.kind == .class || (X.env.scope.kind == .module && X.env.locals != X.env.globals)) = false := by rw [I.ok.kind]; rfl
  have hiσ : i < σ.length := by rw [I.len]; exact (List.getElem?_eq_some_iff.mp hi).1
  have cne := I.cne
  have tracked : ∀ {a : Addr} {h' : Heap}, (∃ o, s.heap.get? a = some o ∧ H a = none) → Heap.SameBut a s.heap h' → HOk X.prog X.w H h' := fun {a h'} ha hs b ob e => by
    obtain ⟨_, _, hfree⟩ := ha
    refine (I.hok b ob e).stay (fun c w' hc q => (hs.2 c ?_).trans q) (fun _ q => q) fun _ _ q => q
    rintro rfl
    rcases hc with rfl | hc
    · rw [hfree] at e; cases e
    · rw [hfree] at hc; cases hc
  rcases hx with hk | hk
  · refine wpAny_storeName_local hk hn (fun h' hn' hs => ?_) hcls
    obtain ⟨oL, _, _, hoL, _⟩ := id hn
    refine h _ ⟨I.ok, I.os, I.bare, ⟨fun b o e n hb hx => ?_, fun b o e n hb hx => ?_, I.base.free, fun b o e hx => ?_, I.base.tups, I.base.frzs, I.base.tbls⟩, ⟨_, hn', fun j y v' e1 e2 e3 => ?_⟩, fun y c e => ?_, I.free, I.freeC, fun p hp => ?_, tracked ⟨oL, hoL, I.free⟩ hs, by simpa using I.len⟩ ⟨_, hs, .inl rfl⟩
    · exact (hs.2 b (Nat.ne_of_lt (Nat.lt_of_lt_of_le (Heap.lt_size e) I.ok.above))).trans (I.base.keep b o e n hb hx)
    · obtain ⟨sl, e1⟩ := I.base.slot b o e n hb hx
      exact ⟨sl, (hs.2 b (Nat.ne_of_lt (Nat.lt_of_lt_of_le (Heap.lt_size e) I.ok.above))).trans e1⟩
    · obtain ⟨o', e1⟩ := I.base.there b o e hx
      exact ⟨o', (hs.2 b (Nat.ne_of_lt (Nat.lt_of_lt_of_le (Heap.lt_size e) I.ok.above))).trans e1⟩
    · by_cases hj : j = i
      · subst hj
        rw [hi] at e1; cases e1
        rw [List.getElem?_set_self hiσ] at e2
        cases e2
        exact ⟨u, r, .inl ⟨hk, by simp⟩⟩
      · rw [List.getElem?_set_ne (Ne.symm hj)] at e2
        obtain ⟨u', r', q⟩ := hl j y v' e1 e2 e3
        refine ⟨u', r', ?_⟩
        rcases q with ⟨k, e⟩ | ⟨k, c, e, z⟩
        · refine .inl ⟨k, ?_⟩
          have : y ≠ x := fun e => hj (Ux hN e1 (e ▸ hi))
          simp [this, e]
        · exact .inr ⟨k, c, e, z.sameBut hs (cne y c e)⟩
    · obtain ⟨w', z⟩ := I.cell y c e
      exact ⟨w', z.sameBut hs (cne y c e)⟩
    · obtain ⟨e, n, ne, nf, d⟩ := I.pin p hp
      exact ⟨(hs.2 p.1 ne).trans e, n, ne, nf, d⟩
  · have hfn : X.fn x = true := by
      rcases hf with z | z
      · exact z
      · rw [z] at hk; cases hk
    obtain ⟨c, hc⟩ := I.ok.has x (.inl hk)
    obtain ⟨w', z⟩ := I.cell x c hc
    refine wpAny_storeName_cell I.ok.kind hk hc z (fun h' hc' hs => ?_)
    obtain ⟨oc, hoc, hocd⟩ := id z
    refine h { s with heap := h' } ⟨I.ok, I.os, I.bare, ⟨fun b o e n hb hx => ?_, fun b o e n hb hx => ?_, I.base.free, fun b o e hx => ?_, I.base.tups, I.base.frzs, I.base.tbls⟩, ⟨m, hn.sameBut hs (Ne.symm (cne x c hc)), fun j y v' e1 e2 e3 => ?_⟩, fun y c' e => ?_, I.free, I.freeC, fun p hp => ?_, tracked ⟨oc, hoc, I.freeC x c hc⟩ hs, by simpa using I.len⟩ ⟨c, hs, .inr hc⟩
    · exact (hs.2 b (Nat.ne_of_lt (Nat.lt_of_lt_of_le (Heap.lt_size e) (I.ok.cab x c hfn hc)))).trans (I.base.keep b o e n hb hx)
    · obtain ⟨sl, e1⟩ := I.base.slot b o e n hb hx
      exact ⟨sl, (hs.2 b (Nat.ne_of_lt (Nat.lt_of_lt_of_le (Heap.lt_size e) (I.ok.cab x c hfn hc)))).trans e1⟩
    · obtain ⟨o', e1⟩ := I.base.there b o e hx
      exact ⟨o', (hs.2 b (Nat.ne_of_lt (Nat.lt_of_lt_of_le (Heap.lt_size e) (I.ok.cab x c hfn hc)))).trans e1⟩
    · by_cases hj : j = i
      · subst hj
        rw [hi] at e1; cases e1
        rw [List.getElem?_set_self hiσ] at e2
        cases e2
        exact ⟨u, r, .inr ⟨.inl hk, c, hc, hc'⟩⟩
      · rw [List.getElem?_set_ne (Ne.symm hj)] at e2
        obtain ⟨u', r', q⟩ := hl j y v' e1 e2 e3
        refine ⟨u', r', ?_⟩
        rcases q with q | ⟨k, c', e, z'⟩
        · exact .inl q
        · refine .inr ⟨k, c', e, z'.sameBut hs ?_⟩
          rintro rfl
          exact hj (Ux hN e1 (I.ok.inj _ _ _ e hc ▸ hi))
    · by_cases hcc : c' = c
      · subst hcc; exact ⟨_, hc'⟩
      · obtain ⟨w2, z2⟩ := I.cell y c' e
        exact ⟨w2, z2.sameBut hs hcc⟩
    · obtain ⟨e, n, ne, nf, d⟩ := I.pin p hp
      refine ⟨(hs.2 p.1 ?_).trans e, n, ne, nf, d⟩
      intro q
      rw [q, hoc] at e
      have q' : oc = p.2 := Option.some.inj e
      exact d w' (by rw [← q']; exact hocd)
theorem KY {M : Model} {A : Around} {E : Value → Shared → Prop} {i : Nat} {x : Str} {v : V} {u : Value} {Q : Unit → Shared → Prop} (I : Inv X pins σ H s) (hN : X.N.Nodup) (hi : X.N[i]? = some x) (hx : Loc X.env.scope x) (r : RelV v u)
    (h : ∀ s', Inv X pins (σ.set i (some v)) H s' → Q () s') (hf : X.fn x = true ∨ X.env.scope.names.lookup x = some .local := by first | exact .inl rfl | exact .inr rfl | assumption) : wpAny M A (storeName X.env x u) Q E s :=
  Wc I hN hi hx r (fun s' I' _ => h s' I') hf
theorem Inv.call' {s' : Shared} {ch : List Addr} (I : Inv X pins σ H s) (ho : s'.os = s.os) (u : Un (frs X.stack) ch H H' s.heap s'.heap) (hok : HOk X.prog X.w H' s'.heap) (hg : AllBare s'.gens)
    (hch : ∀ b ∈ ch, (b ∈ X.ex ∨ X.s₀.heap.objs.size ≤ b) ∧ b ≠ X.env.locals ∧ (∀ x c, X.env.cells.lookup x = some c → c ≠ b) ∧ ∀ p ∈ X.pn ++ pins, p.1 ≠ b) : Inv X pins σ H' s' := by
  obtain ⟨h', g', d', t', o'⟩ := s'
  have e : o' = s.os := ho
  subst e
  exact I.call (g' := g') (t' := t') (d' := d') u hok hg hch
end

noncomputable abbrev XK := Value → Option Addr → Hp → Prop
noncomputable abbrev St := List (Option V)
noncomputable abbrev VK := V → Hp → Prop
noncomputable abbrev TE := St → Hp → VK → Prop
noncomputable abbrev TT := St → Hp → (Bool → Hp → Prop) → Prop
noncomputable abbrev TA := St → Hp → (List V → Hp → Prop) → Prop
structure Ends where
  nx : St → Hp → Prop
  rt : VK
  bk : St → Hp → Prop := fun _ _ => False
  ct : St → Hp → Prop := fun _ _ => False
noncomputable abbrev TS := Ends → St → Hp → Prop

noncomputable def EP (X : Cx) (pins : List (Addr × Obj)) (σ : St) (Q : VK) (u : Value) (s' : Shared) : Prop := ∃ v H', Inv X pins σ H' s' ∧ RelV v u ∧ Q v H'
noncomputable def TP (X : Cx) (pins : List (Addr × Obj)) (σ : St) (Q : Bool → Hp → Prop) (b : Bool) (s' : Shared) : Prop := ∃ H', Inv X pins σ H' s' ∧ Q b H'
noncomputable def AP (X : Cx) (pins : List (Addr × Obj)) (σ : St) (Q : List V → Hp → Prop) (us : List Value) (s' : Shared) : Prop := ∃ vs H', Inv X pins σ H' s' ∧ Vals vs us ∧ Q vs H'
noncomputable def SP (X : Cx) (pins : List (Addr × Obj)) (D : Ends) (f : Flow) (s' : Shared) : Prop :=
  match f with
  | .next => ∃ σ' H', Inv X pins σ' H' s' ∧ D.nx σ' H'
  | .brk => ∃ σ' H', Inv X pins σ' H' s' ∧ D.bk σ' H'
  | .cont => ∃ σ' H', Inv X pins σ' H' s' ∧ D.ct σ' H'
  | .ret u => ∃ v σ' H', Inv X pins σ' H' s' ∧ RelV v u ∧ D.rt v H'

noncomputable def PE (X : Cx) (e : Expr) (t : TE) : Prop :=
  ∀ (pins : List (Addr × Obj)) (s : Shared) (σ : St) (H : Hp) (Q : VK), Inv X pins σ H s → t σ H Q → wpAny (model X.prog X.w) X.A (eval e X.env) (EP X pins σ Q) X.xe s
noncomputable def PT (X : Cx) (e : Expr) (t : TT) : Prop :=
  ∀ (pins : List (Addr × Obj)) (s : Shared) (σ : St) (H : Hp) (Q : Bool → Hp → Prop), Inv X pins σ H s → t σ H Q → wpAny (model X.prog X.w) X.A (isTrue e X.env (eval e X.env)) (TP X pins σ Q) X.xe s
noncomputable def PW (X : Cx) (e : Expr) (t : TT) : Prop :=
  ∀ (whole : Sem Value) (pins : List (Addr × Obj)) (s : Shared) (σ : St) (H : Hp) (Q : Bool → Hp → Prop), Inv X pins σ H s → t σ H Q → wpAny (model X.prog X.w) X.A (isTrue e X.env whole) (TP X pins σ Q) X.xe s
theorem PW.pt {X : Cx} {e : Expr} {t : TT} (h : PW X e t) : PT X e t := h _
noncomputable def PA (X : Cx) (es : List Expr) (t : TA) : Prop :=
  ∀ (pos : Pos) (pins : List (Addr × Obj)) (s : Shared) (σ : St) (H : Hp) (Q : List V → Hp → Prop), Inv X pins σ H s → t σ H Q → wpAny (model X.prog X.w) X.A (spliced (backTo pos (starEach es X.env))) (AP X pins σ Q) X.xe s
noncomputable def PS (X : Cx) (st : Stmt) (t : TS) : Prop :=
  ∀ (pins : List (Addr × Obj)) (s : Shared) (σ : St) (H : Hp) (D : Ends), Inv X pins σ H s → t D σ H → wpAny (model X.prog X.w) X.A (exec st X.env) (SP X pins D) X.xe s
noncomputable def PSs (X : Cx) (st : List Stmt) (t : TS) : Prop :=
  ∀ (pins : List (Addr × Obj)) (s : Shared) (σ : St) (H : Hp) (D : Ends), Inv X pins σ H s → t D σ H → wpAny (model X.prog X.w) X.A (execs st X.env) (SP X pins D) X.xe s
theorem thn {α : Type} {t : Sem α} {Q Q' : α → Shared → Prop} {M : Model} {A : Around} {E : Value → Shared → Prop} {s : Shared} (h : wpAny M A t Q E s) (hQ : ∀ a s, Q a s → Q' a s) : wpAny M A t Q' E s := wpAny_mono h hQ fun _ _ x => x
end L2

namespace L2
open PySem PySem.Spec PyProof.Rows
section
variable {X : Cx}

theorem bin {a b : Expr} {ta tb : TE} (ha : PE X a ta) (hb : PE X b tb) {pins : List (Addr × Obj)} {s : Shared} {σ : St} {H : Hp} {R : V → V → Hp → Prop} (I : Inv X pins σ H s) (h : ta σ H fun x H1 => tb σ H1 fun y H2 => R x y H2)
    {α : Type} {Q : α → Shared → Prop} {f : Value → Value → Sem α}
    (hf : ∀ v u s2 x y H2, Inv X pins σ H2 s2 → RelV x v → RelV y u → R x y H2 → wpAny (model X.prog X.w) X.A (f v u) Q X.xe s2) :
    wpAny (model X.prog X.w) X.A (eval a X.env) (fun v s₁ => wpAny (model X.prog X.w) X.A (eval b X.env) (fun u s₂ => wpAny (model X.prog X.w) X.A (f v u) Q X.xe s₂) X.xe s₁) X.xe s := by
  refine thn (ha pins s σ H _ I h) fun v s1 ⟨x, H1, I1, r1, q1⟩ => ?_
  refine thn (hb pins s1 σ H1 _ I1 q1) fun u s2 ⟨y, H2, I2, r2, q2⟩ => ?_
  exact hf v u s2 x y H2 I2 r1 r2 q2

noncomputable def Qj1 (i : Nat) : TE := fun σ H Q => ∃ v, σ[i]? = some (some v) ∧ Q v H
noncomputable def tC (v : V) : TE := fun _ H Q => Q v H
theorem QeJ {i : Nat} {x : Str} {pos : Pos} (hN : X.N[i]? = some x) (hv : Vis X.env.scope x) (hd : (x == ("__debug__" : Str)) = false := by decide) (hcd : (x == ("__classdict__" : Str)) = false := by decide) : PE X (.Name x pos) (Qj1 i) := by
  intro pins s σ H Q I h
  obtain ⟨v, e, h⟩ := h
  obtain ⟨m, hn, hl⟩ := I.loc
  obtain ⟨u, r, l⟩ := hl i x v hN e hv
  have fin : EP X pins σ Q u s := ⟨v, H, I, r, h⟩
  rcases l with ⟨hk, hm⟩ | ⟨hk, c, hc, hcell⟩
  · exact wpAny_Name (wpAny_loadName_local I.ok.kind hk hn hm fin) hd
  · rcases hk with hk | hk
    · exact wpAny_Name (wpAny_loadName_cell I.ok.kind hk hc hcell fin) hd
    · exact wpAny_Name (wpAny_loadName_free I.ok.kind hk hc hcell fin hcd) hd
theorem QeH {i j pos} : PE X (.Constant (.int i) j pos) (tC (.int i)) := fun _ _ _ H _ I h => wpAny_Constant_int ⟨.int i, H, I.tok _, ⟨_, rfl⟩, h⟩
theorem Qhu {b j pos} : PE X (.Constant (.bool b) j pos) (tC (.bl b)) := fun _ _ _ H _ I h => Constant_bool ⟨.bl b, H, I, rfl, h⟩
theorem Qfv {j pos} : PE X (.Constant .none j pos) (tC .non) := fun _ _ _ H _ I h => Constant_none ⟨.non, H, I, rfl, h⟩
theorem QfO {x j pos} : PE X (.Constant (.str x) j pos) (tC (.str x)) := fun _ _ _ H _ I h => Calls.Constant_str ⟨.str x, H, I.tok _, ⟨_, rfl⟩, h⟩

noncomputable def Gl (X : Cx) (x : Str) : Prop := X.env.kindOf x = some .globalImplicit
theorem Gr {E : Value → Shared → Prop} {pins : List (Addr × Obj)} {s : Shared} {σ : St} {H : Hp} {x : Str} {u : Value} {pos : Pos} {Q : Value → Shared → Prop} (I : Inv X pins σ H s) (hg : Gl X x) (hm : X.mg x = some u) (h : Q u s)
    (hd : (x == ("__debug__" : Str)) = false := by decide) : wpAny (model X.prog X.w) X.A (eval (.Name x pos) X.env) Q E s :=
  Calls.Name_function_global I.ok.kind hg (Calls.loadGlobal_global (by rw [I.ok.glob]; exact I.mod.glob.keeps I.bk) hm h) hd
theorem KP {E : Value → Shared → Prop} {pins : List (Addr × Obj)} {s : Shared} {σ : St} {H : Hp} {x : Str} {u : Value} {pos : Pos} {Q : Value → Shared → Prop} (I : Inv X pins σ H s) (hg : Gl X x) (hm : X.mg x = none) (hv : bootBuiltins x = some u) (h : Q u s)
    (hn : x ≠ "__name__" := by decide) (hd : (x == ("__debug__" : Str)) = false := by decide) : wpAny (model X.prog X.w) X.A (eval (.Name x pos) X.env) Q E s := by
  obtain ⟨mb, h1, h2⟩ := I.mod.blt
  exact Calls.Name_function_global I.ok.kind hg (Calls.loadGlobal_builtin (by rw [I.ok.glob]; exact I.mod.glob.keeps I.bk) hm (by rw [I.ok.blt]; exact h1.keeps I.bk) ((h2 x hn).trans hv) h) hd
variable {a b : Expr} {ta tb : TE} {pos : Pos}
variable {tA tB' : TT} {rest : List Expr}
noncomputable def QiG (t u : TT) : TT := fun σ H Q => t σ H fun c H1 => if c = true then u σ H1 Q else Q false H1
noncomputable def tOr (t u : TT) : TT := fun σ H Q => t σ H fun c H1 => if c = true then Q true H1 else u σ H1 Q
noncomputable def Qkn (t : TT) : TT := fun σ H Q => t σ H fun c H1 => Q (!c) H1
theorem QdC (ha : PT X a tA) : PW X (.BoolOp .And [a] pos) tA := by
  intro wh pins s σ H Q I h
  refine isTrue_and (thn (ha pins s σ H Q I h) fun c s1 e => ?_)
  cases c with
  | true => exact isTrue_and_nil e
  | false => exact e
theorem QfB (ha : PT X a tA) : PW X (.BoolOp .Or [a] pos) tA := by
  intro wh pins s σ H Q I h
  refine isTrue_or (thn (ha pins s σ H Q I h) fun c s1 e => ?_)
  cases c with
  | false => exact isTrue_or_nil e
  | true => exact e
theorem QfW (ha : PT X a tA) (hb : PW X (.BoolOp .And (b :: rest) pos) tB') : PW X (.BoolOp .And (a :: b :: rest) pos) (QiG tA tB') := by
  intro wh pins s σ H Q I h
  refine isTrue_and (thn (ha pins s σ H _ I h) fun c s1 ⟨H1, I1, q1⟩ => ?_)
  cases c with
  | true => exact hb wh pins s1 σ H1 Q I1 q1
  | false => exact ⟨H1, I1, q1⟩
theorem QgV (ha : PT X a tA) (hb : PW X (.BoolOp .Or (b :: rest) pos) tB') : PW X (.BoolOp .Or (a :: b :: rest) pos) (tOr tA tB') := by
  intro wh pins s σ H Q I h
  refine isTrue_or (thn (ha pins s σ H _ I h) fun c s1 ⟨H1, I1, q1⟩ => ?_)
  cases c with
  | true => exact ⟨H1, I1, q1⟩
  | false => exact hb wh pins s1 σ H1 Q I1 q1
theorem Qe2 (ha : PT X a tA) : PT X (.UnaryOp .Not a pos) (Qkn tA) := by
  intro pins s σ H Q I h
  exact isTrue_not (ha pins s σ H (fun c H1 => Q (!c) H1) I h)
noncomputable def tIf (t : TT) (ta tb : TE) : TE := fun σ H Q => t σ H fun c H1 => if c = true then ta σ H1 Q else tb σ H1 Q
theorem Qbn {c : Expr} (hc : PT X c tA) (ha : PE X a ta) (hb : PE X b tb) : PE X (.IfExp c a b pos) (tIf tA ta tb) := by
  intro pins s σ H Q I h
  refine wpAny_IfExp (thn (hc pins s σ H _ I h) fun d s1 ⟨H1, I1, q1⟩ => ?_)
  cases d with
  | true => exact ha pins s1 σ H1 Q I1 q1
  | false => exact hb pins s1 σ H1 Q I1 q1
end
end L2

namespace L2
open PySem PySem.Spec PyProof.Rows

noncomputable def SqL (K : PySem.W.Frag) (H : Hp) (a : Addr) (xs : List V) : Prop :=
  Rd H a (.lst xs) ∨
    ∃ (o : Obj) (its : Array Value) (n : Nat), K.lookup a = some o ∧ o.cls = .type "list" ∧ o.dict = none ∧ o.data = .seq its n ∧ its.size ≤ sizeLine ∧ Vals xs its.toList
noncomputable def SqT (K : PySem.W.Frag) (H : Hp) (a : Addr) (xs : List V) : Prop :=
  Rd H a (.tup xs) ∨
    ∃ (o : Obj) (its : Array Value) (n : Nat), K.lookup a = some o ∧ o.cls = .type "tuple" ∧ o.data = .seq its n ∧ its.size ≤ sizeLine ∧ Vals xs its.toList
noncomputable def QjR : Value → Option V
  | .none => some .non
  | .bool b => some (.bl b)
  | .int i _ => some (.int i)
  | .str x _ => some (.str x)
  | .bytes b _ => some (.byt b)
  | .float b _ => some (.flt b)
  | .ref a => some (.ref a)
  | .type n => some (.ty n)
  | _ => none
theorem RelV.abs {x : V} {u : Value} (r : RelV x u) : QjR u = some x := by
  cases x with
  | non => cases r; rfl
  | bl _ => cases r; rfl
  | int _ => obtain ⟨t, rfl⟩ := r; rfl
  | str _ => obtain ⟨t, rfl⟩ := r; rfl
  | byt _ => obtain ⟨t, rfl⟩ := r; rfl
  | flt _ => obtain ⟨t, rfl⟩ := r; rfl
  | ref _ => cases r; rfl
  | ty _ => cases r; rfl
theorem RelV.inj {x y : V} {u : Value} (r : RelV x u) (q : RelV y u) : x = y := Option.some.inj (r.abs.symm.trans q.abs)
theorem Vals.inj : ∀ {xs ys : List V} {us : List Value}, Vals xs us → Vals ys us → xs = ys
  | _, _, _, .nil, .nil => rfl
  | _, _, _, .cons r t, .cons r' t' => by rw [r.inj r', Vals.inj t t']
section
variable {X : Cx} {pins : List (Addr × Obj)} {σ : St} {H : Hp} {s : Shared} {a : Addr} {xs ys : List V}
theorem SqL.of {K : PySem.W.Frag} (h : H a = some (.lst xs)) : SqL K H a xs := .inl (.inl h)
theorem SqT.of {K : PySem.W.Frag} (h : H a = some (.tup xs)) : SqT K H a xs := .inl (.inl h)
theorem Inv.list (I : Inv X pins σ H s) (h : SqL X.K H a xs) : ∃ its : List Value, Vals xs its ∧ PlainL s.heap a its.toArray ∧ xs.length ≤ sizeLine := by
  rcases h with h | ⟨o, its, n, hk, hc, hd, hs, hz, r⟩
  · obtain ⟨z, its, n, r, e⟩ := h.ok I.hok
    exact ⟨its, r, ⟨_, n, e, rfl, rfl, rfl⟩, z⟩
  · refine ⟨its.toList, r, ⟨o, n, I.kIn a o hk, hc, hd, by simpa using hs⟩, ?_⟩
    have e := r.length
    simp only [Array.length_toList] at e
    omega
theorem Inv.tuple (I : Inv X pins σ H s) (h : SqT X.K H a xs) : ∃ its : List Value, Vals xs its ∧ IsTup s.heap a its.toArray ∧ xs.length ≤ sizeLine := by
  rcases h with h | ⟨o, its, n, hk, hc, hs, hz, r⟩
  · obtain ⟨z, its, r, p⟩ := h.ok I.hok
    exact ⟨its, r, p, z⟩
  · refine ⟨its.toList, r, ⟨o, I.kIn a o hk, hc, n, by simpa using hs⟩, ?_⟩
    have e := r.length
    simp only [Array.length_toList] at e
    omega
theorem Inv.list_inj (I : Inv X pins σ H s) (h : SqL X.K H a xs) (h' : SqL X.K H a ys) : xs = ys := by
  obtain ⟨its, r, ⟨o, n, e, _, _, d⟩, _⟩ := I.list h
  obtain ⟨its', r', ⟨o', n', e', _, _, d'⟩, _⟩ := I.list h'
  rw [e] at e'; cases e'
  rw [d] at d'
  injection d' with d1 _
  have : its = its' := by simpa using congrArg Array.toList d1
  subst this
  exact r.inj r'
theorem Inv.tuple_inj (I : Inv X pins σ H s) (h : SqT X.K H a xs) (h' : SqT X.K H a ys) : xs = ys := by
  obtain ⟨its, r, ⟨o, e, _, n, d⟩, _⟩ := I.tuple h
  obtain ⟨its', r', ⟨o', e', _, n', d'⟩, _⟩ := I.tuple h'
  rw [e] at e'; cases e'
  rw [d] at d'
  injection d' with d1 _
  have : its = its' := by simpa using congrArg Array.toList d1
  subst this
  exact r.inj r'
end

noncomputable abbrev Cx.wish (X : Cx) (E : Value → Shared → Prop) : Cx := { X with xe := E }
noncomputable abbrev Cx.nox (X : Cx) : Cx := X.wish fun _ _ => False
theorem Cx.Ok.wish {X : Cx} (ok : X.Ok) (E : Value → Shared → Prop) : (X.wish E).Ok :=
  ⟨ok.mod, ok.kind, ok.glob, ok.blt, ok.above, ok.inj, ok.has, ok.cab, ok.hd, ok.frames, ok.stk, ok.exf, ok.bs, ok.bsz, ok.noex, ok.exfs, ok.funs, ok.frf⟩
theorem Cx.Ok.unwish {X : Cx} {E : Value → Shared → Prop} (ok : (X.wish E).Ok) : X.Ok :=
  ⟨ok.mod, ok.kind, ok.glob, ok.blt, ok.above, ok.inj, ok.has, ok.cab, ok.hd, ok.frames, ok.stk, ok.exf, ok.bs, ok.bsz, ok.noex, ok.exfs, ok.funs, ok.frf⟩
section
variable {X : Cx} {pins : List (Addr × Obj)} {σ : St} {H : Hp} {s : Shared} {E : Value → Shared → Prop}
theorem Inv.wish (I : Inv X pins σ H s) (E : Value → Shared → Prop) : Inv (X.wish E) pins σ H s := ⟨I.ok.wish E, I.os, I.bare, I.base, I.loc, I.cell, I.free, I.freeC, I.pin, I.hok, I.len⟩
theorem Inv.unwish (I : Inv (X.wish E) pins σ H s) : Inv X pins σ H s := ⟨I.ok.unwish, I.os, I.bare, I.base, I.loc, I.cell, I.free, I.freeC, I.pin, I.hok, I.len⟩
theorem SP.unwish {D : Ends} {f : Flow} {s' : Shared} (h : SP (X.wish E) pins D f s') : SP X pins D f s' := by
  cases f with
  | next => obtain ⟨σ', H', I, q⟩ := h; exact ⟨σ', H', I.unwish, q⟩
  | brk => obtain ⟨σ', H', I, q⟩ := h; exact ⟨σ', H', I.unwish, q⟩
  | cont => obtain ⟨σ', H', I, q⟩ := h; exact ⟨σ', H', I.unwish, q⟩
  | ret u => obtain ⟨v, σ', H', I, r, q⟩ := h; exact ⟨v, σ', H', I.unwish, r, q⟩
theorem PSs.nox {st : List Stmt} {t : TS} (h : PSs X.nox st t) : PSs X st t := fun pins s σ H D I hw =>
  wpAny_mono (h pins s σ H D (I.wish _) hw) (fun _ _ q => q.unwish) fun _ _ z => False.elim z
end

section
variable {X : Cx} {st : Stmt} {rest : List Stmt} {t u : TS} {e : Expr} {te : TE} {pos : Pos}
noncomputable def Qg9 : TS := fun D σ H => D.nx σ H
noncomputable def QiK (t u : TS) : TS := fun D σ H => t { D with nx := u D } σ H
theorem Qdk : PSs X [] Qg9 := fun _ _ σ H _ I h => wpAny_execs_nil ⟨σ, H, I, h⟩
theorem QbV (h1 : PS X st t) (h2 : PSs X rest u) : PSs X (st :: rest) (QiK t u) := by
  intro pins s σ H D I h
  refine wpAny_execs_cons (thn (h1 pins s σ H { D with nx := u D } I h) fun f s1 q => ?_)
  cases f with
  | next =>
    obtain ⟨σ', H', I', q⟩ := q
    exact h2 pins s1 σ' H' D I' q
  | ret v => exact q
  | brk => exact q
  | cont => exact q
theorem QdY (h1 : PS X st t) : PSs X [st] t := by
  intro pins s σ H D I h
  refine wpAny_execs_cons (thn (h1 pins s σ H D I h) fun f s1 q => ?_)
  cases f with
  | next => exact wpAny_execs_nil q
  | ret v => exact q
  | brk => exact q
  | cont => exact q
theorem Inv.quiet {pins : List (Addr × Obj)} {σ : St} {H : Hp} {s : Shared} (I : Inv X pins σ H s) : interactive X.env = false := by simp [interactive, I.ok.kind]
noncomputable def Qhi (te : TE) : TS := fun D σ H => te σ H fun _ H1 => D.nx σ H1
theorem QdJ (he : PE X e te) (hs : swapsWith e none pos.line X.env = pure false := by rfl) : PS X (.Expr e pos) (Qhi te) := by
  intro pins s σ H D I h
  exact wpAny_Expr_any (thn (he pins s σ H _ I h) fun v s1 ⟨x, H1, I1, r1, q1⟩ => ⟨σ, H1, I1, q1⟩) I.quiet hs
noncomputable def Qj9 (te : TE) : TS := fun D σ H => te σ H D.rt
theorem QeO (he : PE X e te) : PS X (.Return (some e) pos) (Qj9 te) := by
  intro pins s σ H D I h
  exact wpAny_Return_some (thn (he pins s σ H _ I h) fun v s1 ⟨x, H1, I1, r1, q1⟩ => ⟨x, σ, H1, I1, r1, q1⟩)
noncomputable def QjP (c : TT) (t u : TS) : TS := fun D σ H => c σ H fun b H1 => if b = true then t D σ H1 else u D σ H1
theorem QgW {c : Expr} {a b : List Stmt} {tc : TT} (hc : PT X c tc) (ha : PSs X a t) (hb : PSs X b u) : PS X (.If c a b pos) (QjP tc t u) := by
  intro pins s σ H D I h
  refine wpAny_If (thn (hc pins s σ H _ I h) fun d s1 ⟨H1, I1, q1⟩ => ?_)
  cases d with
  | true => exact ha pins s1 σ H1 D I1 q1
  | false => exact hb pins s1 σ H1 D I1 q1
end

noncomputable abbrev TG := V → St → Hp → (St → Hp → Prop) → Prop
noncomputable abbrev TGs := List V → St → Hp → (St → Hp → Prop) → Prop
noncomputable def PG (X : Cx) (target : Expr) (t : TG) : Prop :=
  ∀ (pins : List (Addr × Obj)) (s : Shared) (σ : St) (H : Hp) (v : V) (u : Value) (Q : St → Hp → Prop), Inv X pins σ H s → RelV v u → t v σ H Q →
    wpAny (model X.prog X.w) X.A (assign target X.env u) (fun _ s' => ∃ σ' H', Inv X pins σ' H' s' ∧ Q σ' H') X.xe s
noncomputable def PGs (X : Cx) (ts : List Expr) (t : TGs) : Prop :=
  ∀ (pins : List (Addr × Obj)) (s : Shared) (σ : St) (H : Hp) (vs : List V) (us : List Value) (Q : St → Hp → Prop), Inv X pins σ H s → Vals vs us → t vs σ H Q →
    wpAny (model X.prog X.w) X.A (assignInOrder ((assignEach ts X.env).map (·.2)) us) (fun _ s' => ∃ σ' H', Inv X pins σ' H' s' ∧ Q σ' H') X.xe s
noncomputable abbrev Qhh := V → V → V → Hp → (Hp → Prop) → Prop
noncomputable def Qh6 (X : Cx) (t : Qhh) : Prop :=
  ∀ (pins : List (Addr × Obj)) (s : Shared) (σ : St) (H : Hp) (o i v : V) (ov iv u : Value) (Q : Hp → Prop), Inv X pins σ H s → RelV o ov → RelV i iv → RelV v u → t o i v H Q →
    wpAny (model X.prog X.w) X.A (setItem ov iv u) (fun _ s' => ∃ H', Inv X pins σ H' s' ∧ Q H') X.xe s
noncomputable abbrev TIp := V → V → Hp → VK → Prop
noncomputable def PIp (X : Cx) (op : Operator) (t : TIp) : Prop :=
  ∀ (pins : List (Addr × Obj)) (s : Shared) (σ : St) (H : Hp) (x y : V) (v u : Value) (Q : VK), Inv X pins σ H s → RelV x v → RelV y u → t x y H Q →
    wpAny (model X.prog X.w) X.A (inplaceOp op v u) (EP X pins σ Q) X.xe s
section
variable {X : Cx} {pos : Pos}
noncomputable def Qap (i : Nat) : TG := fun v σ H Q => Q (σ.set i (some v)) H
theorem GA {i : Nat} {x : Str} (hN : X.N.Nodup) (hi : X.N[i]? = some x) (hx : Loc X.env.scope x) (hf : X.fn x = true ∨ X.env.scope.names.lookup x = some .local := by first | exact .inl rfl | exact .inr rfl | assumption) : PG X (.Name x pos) (Qap i) := by
  intro pins s σ H v u Q I r h
  exact wpAny_assign_Name (KY I hN hi hx r (fun s' I' => ⟨_, H, I', h⟩) hf)
noncomputable def Qim : TGs := fun vs σ H Q => vs = [] ∧ Q σ H
noncomputable def QeU (t : TG) (u : TGs) : TGs := fun vs σ H Q => ∃ v r, vs = v :: r ∧ t v σ H fun σ' H' => u r σ' H' Q
theorem QdI : PGs X [] Qim := by
  intro pins s σ H vs us Q I r h
  obtain ⟨e, h⟩ := h
  subst e
  cases r
  exact assignInOrder_nil ⟨σ, H, I, h⟩
theorem QbJ {e : Expr} {es : List Expr} {t : TG} {u : TGs} (h1 : PG X e t) (h2 : PGs X es u)
    (hs : (assignEach (e :: es) X.env).map (·.2) = assign e X.env :: (assignEach es X.env).map (·.2) := by rfl) : PGs X (e :: es) (QeU t u) := by
  intro pins s σ H vs us Q I r h
  obtain ⟨v, vr, e1, h⟩ := h
  subst e1
  cases r with
  | cons r rr =>
    rw [hs]
    refine assignInOrder_cons (thn (h1 pins s σ H _ _ _ I r h) fun _ s1 ⟨σ1, H1, I1, q1⟩ => ?_)
    exact h2 pins s1 σ1 H1 _ _ Q I1 rr q1
noncomputable def Qki (K : PySem.W.Frag) (n : Nat) (t : TGs) : TG := fun v σ H Q => ∃ a xs, v = .ref a ∧ SqT K H a xs ∧ xs.length = n ∧ t xs σ H Q
theorem Qf3 {es : List Expr} {k : Nat} {t : TGs} {n : Nat} (hc : X.calm = true) (h : PGs X es t)
    (hn : (assignEach es X.env).length = n := by rfl) (hst : (assignEach es X.env).findIdx? (·.1) = none := by rfl) : PG X (.Tuple es k pos) (Qki X.K n t) := by
  intro pins s σ H v u Q I r hw
  obtain ⟨a, xs, e1, hq, hl, hw⟩ := hw
  subst e1
  cases r
  obtain ⟨its, rv, ht, hz⟩ := I.tuple hq
  refine assign_Tuple_tuple (I.ok.hd hc) ht (by simp [hn, ← hl, rv.length]) hst fun h' hx => ?_
  have I1 : Inv X pins σ H { s with heap := h' } := I.kept (t' := s.toks) fun b o e => hx b o (Nat.ne_of_lt (Heap.lt_size e)) e
  exact h pins _ σ H xs _ Q I1 (by simpa using rv) hw
noncomputable def QiI (to ti : TE) (t : Qhh) : TG := fun v σ H Q => to σ H fun o H1 => ti σ H1 fun i H2 => t o i v H2 fun H3 => Q σ H3
theorem QfR {o i : Expr} {to ti : TE} {t : Qhh} (ho : PE X o to) (hi : PE X i ti) (hs : Qh6 X t)
    (ha : ∀ v, assign (.Subscript o i pos) X.env v = (do
      let ov ← holding [v] (eval o X.env)
      let iv ← holding [v, ov] (eval i X.env)
      standAt pos
      holding [v, ov, iv] (setItem ov iv v)
      release [v, ov, iv] []) := by intro _; rfl) : PG X (.Subscript o i pos) (QiI to ti t) := by
  intro pins s σ H v u Q I r h
  rw [ha]
  refine wpAny_bind (wpAny_holding (thn (ho pins s σ H _ I h) fun ov s1 ⟨x, H1, I1, r1, q1⟩ => ?_))
  refine wpAny_bind (wpAny_holding (thn (hi pins s1 σ H1 _ I1 q1) fun iv s2 ⟨y, H2, I2, r2, q2⟩ => ?_))
  refine wpAny_bind (wpAny_standAt (wpAny_bind (wpAny_holding (thn (hs pins s2 σ H2 x y v ov iv u _ I2 r1 r2 r q2) fun _ s3 ⟨H3, I3, q3⟩ => ?_))))
  exact wpAny_release ⟨σ, H3, I3, q3⟩
noncomputable def Qgd (te : TE) (g : TG) : TS := fun D σ H => te σ H fun x H1 => g x σ H1 D.nx
theorem QeY {tg e : Expr} {te : TE} {g : TG} (he : PE X e te) (hg : PG X tg g) (hs : swapsWithSole [tg] e pos.line X.env = pure false := by rfl) (hw : swappedStores [tg] e X.env = pure none := by rfl)
    (h1 : (assignEach [tg] X.env).map (·.2) = [assign tg X.env] := by rfl) : PS X (.Assign [tg] e pos) (Qgd te g) := by
  intro pins s σ H D I h
  refine wpAny_Assign_stores (thn (he pins s σ H _ I h) fun v s1 ⟨x, H1, I1, r1, q1⟩ => ?_) hs hw
  rw [h1]
  exact thn (hg pins s1 σ H1 x v _ I1 r1 q1) fun _ s2 q => q
theorem Qfj {i : Nat} {x : Str} {e : Expr} {te : TE} {pos' : Pos} (hN : X.N.Nodup) (hi : X.N[i]? = some x) (hx : Loc X.env.scope x) (he : PE X e te) (hs : swapsWith e (some (.Name x pos')) pos.line X.env = pure false := by rfl) (hf : X.fn x = true ∨ X.env.scope.names.lookup x = some .local := by first | exact .inl rfl | exact .inr rfl | assumption) :
    PS X (.Assign [.Name x pos'] e pos) (Qgd te (Qap i)) := by
  intro pins s σ H D I h
  refine wpAny_Assign_Name (thn (he pins s σ H _ I h) fun v s1 ⟨y, H1, I1, r1, q1⟩ => ?_) hs
  exact KY I1 hN hi hx r1 (fun s2 I2 => ⟨_, H1, I2, q1⟩) hf
noncomputable def Qjq (i : Nat) (te : TE) (ti : TIp) : TS := fun D σ H => ∃ x, σ[i]? = some (some x) ∧ te σ H fun y H1 => ti x y H1 fun z H2 => D.nx (σ.set i (some z)) H2
theorem QfG {i : Nat} {x : Str} {e : Expr} {te : TE} {op : Operator} {ti : TIp} {pos' : Pos} (hN : X.N.Nodup) (hi : X.N[i]? = some x) (hx : Loc X.env.scope x) (he : PE X e te) (ho : PIp X op ti) (hf : X.fn x = true ∨ X.env.scope.names.lookup x = some .local := by first | exact .inl rfl | exact .inr rfl | assumption) :
    PS X (.AugAssign (.Name x pos') op e pos) (Qjq i te ti) := by
  intro pins s σ H D I h
  obtain ⟨v, e1, h⟩ := h
  obtain ⟨m, hn, hl⟩ := I.loc
  have vis : Vis X.env.scope x := by rcases hx with k | k; exact .inl k; exact .inr (.inl k)
  obtain ⟨u, r, l⟩ := hl i x v hi e1 vis
  refine wpAny_AugAssign_Name ?_
  have go : wpAny (model X.prog X.w) X.A (eval e X.env) (fun w s₂ => wpAny (model X.prog X.w) X.A (inplaceOp op u w) (fun r s₃ => wpAny (model X.prog X.w) X.A (storeName X.env x r) (fun _ => SP X pins D .next) X.xe s₃) X.xe s₂) X.xe s := by
    refine thn (he pins s σ H _ I h) fun w s1 ⟨y, H1, I1, r1, q1⟩ => ?_
    refine thn (ho pins s1 σ H1 v y u w _ I1 r r1 q1) fun z s2 ⟨zv, H2, I2, r2, q2⟩ => ?_
    exact KY I2 hN hi hx r2 (fun s3 I3 => ⟨_, H2, I3, q2⟩) hf
  rcases l with ⟨hk, hm⟩ | ⟨hk, c, hc, hcell⟩
  · exact wpAny_loadName_local I.ok.kind hk hn hm go
  · rcases hk with hk | hk
    · exact wpAny_loadName_cell I.ok.kind hk hc hcell go
    · rcases hx with k | k
      · have : X.env.scope.names.lookup x = some .free := hk
        rw [k] at this; cases this
      · have : X.env.scope.names.lookup x = some .free := hk
        rw [k] at this; cases this
end

section
variable {X : Cx} {pos : Pos}
noncomputable def Qcg (c : TT) (tb : TS) : TS := fun D σ H => ∃ W : Nat → St → Hp → Prop, (∃ m, W m σ H) ∧ ∀ m σ H, W m σ H →
  c σ H fun b H1 => if b = true then ∃ N : St → Hp → Prop, (∀ σ' H', N σ' H' → ∃ m', m' < m ∧ W m' σ' H') ∧ tb { D with nx := N, ct := N, bk := D.nx } σ H1 else D.nx σ H1
theorem Qa3 {c : Expr} {body : List Stmt} {tc : TT} {tb : TS} (hp : PassesOwn (model X.prog X.w) X.A X.env X.xe) (hc : PT X c tc) (hb : PSs X body tb) : PS X (.While c body [] pos) (Qcg tc tb) := by
  intro pins s σ H D I h
  obtain ⟨W, ⟨m0, w0⟩, turn⟩ := h
  refine wpAny_While (codeAny_whileLoop (fun n s' => ∃ σ' H', Inv X pins σ' H' s' ∧ W n σ' H') ?_ m0 ⟨σ, H, I, w0⟩)
  rintro n s1 ⟨σ1, H1, I1, w1⟩
  refine wpAny_passesOwn hp (thn (hc pins s1 σ1 H1 _ I1 (turn n σ1 H1 w1)) fun b s2 ⟨H2, I2, q2⟩ => ?_)
  cases b with
  | true =>
    obtain ⟨N, hN, q2⟩ := q2
    rw [if_pos rfl]
    refine wpAny_passesOwn hp (thn (hb pins s2 σ1 H2 _ I2 q2) fun f s3 q3 => ?_)
    cases f with
    | next =>
      obtain ⟨σ3, H3, I3, n3⟩ := q3
      obtain ⟨m', hm, w3⟩ := hN σ3 H3 n3
      exact ⟨m', hm, σ3, H3, I3, w3⟩
    | cont =>
      obtain ⟨σ3, H3, I3, n3⟩ := q3
      obtain ⟨m', hm, w3⟩ := hN σ3 H3 n3
      exact ⟨m', hm, σ3, H3, I3, w3⟩
    | brk => exact q3
    | ret v => exact q3
  | false =>
    rw [if_neg Bool.false_ne_true]
    exact wpAny_execs_nil ⟨σ1, H2, I2, q2⟩
end

structure It where
  go : Nat → Hp → Prop
  yld : Nat → Hp → V → Hp → Prop
  stop : Nat → Hp → Prop
noncomputable def Gk (X : Cx) (pins : List (Addr × Obj)) (H : Hp) (b : Addr) : Prop :=
  H b = none ∧ b ≠ X.env.locals ∧ b ∉ X.fs ∧ (b ∈ X.ex ∨ X.s₀.heap.objs.size ≤ b) ∧ (∀ x c, X.env.cells.lookup x = some c → c ≠ b) ∧ ∀ p ∈ X.pn ++ pins, p.1 ≠ b
theorem Inv.fpOk {X : Cx} {pins : List (Addr × Obj)} {σ : St} {H H' : Hp} {s : Shared} {b : Addr} (I : Inv X pins σ H s) (hb : s.heap.objs.size ≤ b) (hn : H' b = none) : Gk X pins H' b := by
  refine ⟨hn, Nat.ne_of_gt (Nat.lt_of_lt_of_le I.lt hb), I.nofs hb, .inr (Nat.le_trans I.sz hb), fun x c e z => ?_, fun p hp z => ?_⟩
  · obtain ⟨v, q⟩ := I.cell x c e
    exact absurd (Nat.lt_of_lt_of_le q.lt (by rw [z]; exact hb)) (Nat.lt_irrefl _)
  · exact absurd (Nat.lt_of_lt_of_le (Heap.lt_size (I.pin p hp).1) (by rw [z]; exact hb)) (Nat.lt_irrefl _)
structure Turn (P : Program) (w : World) (K : PySem.W.Frag) (tg : Expr) (J : It) (fp : List Addr) (it : Addr) (tn : Nat → Heap → Prop) : Prop where
  mem : it ∈ fp
  obj : ∀ i h, tn i h → ∀ b ∈ fp, ∃ o, h.get? b = some o ∧ ∀ v, o.data ≠ .cell v
  keep : ∀ i h h', tn i h → (∀ b ∈ fp, ∀ o, h.get? b = some o → h'.get? b = some o) → tn i h'
  item : ∀ (X : Cx), X.prog = P → X.w = w → X.K = K → X.calm = true → ∀ (i : Nat) (pins : List (Addr × Obj)) (s : Shared) (σ : St) (H : Hp) (E : Value → Shared → Prop), Inv X pins σ H s → (∀ b ∈ fp, Gk X pins H b) → tn i s.heap → J.go i H →
    wpAny (model P w) X.A (pyNext (.ref it)) (fun r s1 => ∃ u, r = some u ∧
      wpAny (model P w) X.A (letOwnedTupleGo tg (.ref it) u) (fun _ s2 => ∃ x H', Inv X pins σ H' s2 ∧ RelV x u ∧ J.yld i H x H' ∧ tn (i + 1) s2.heap ∧ ∀ b ∈ fp, H' b = none) E s1) E s
  done : ∀ (X : Cx), X.prog = P → X.w = w → X.K = K → X.calm = true → ∀ (i : Nat) (pins : List (Addr × Obj)) (s : Shared) (σ : St) (H : Hp) (E : Value → Shared → Prop), Inv X pins σ H s → (∀ b ∈ fp, Gk X pins H b) → tn i s.heap → J.stop i H →
    wpAny (model P w) X.A (pyNext (.ref it)) (fun r s1 => r = none ∧ Inv X pins σ H s1) E s
  self : ∀ (A : Around) (i : Nat) (s : Shared) (Q : Value → Shared → Prop) (E : Value → Shared → Prop), tn i s.heap → Q (.ref it) s → wpAny (model P w) A (pyIter (.ref it)) Q E s
noncomputable abbrev TI := St → Hp → (It → Hp → Prop) → Prop
noncomputable def PIE (X : Cx) (pins : List (Addr × Obj)) (σ : St) (tg : Expr) (R : It → Hp → Prop) (itv : Value) (s2 : Shared) : Prop :=
  ∃ (it : Addr) (fp : List Addr) (tn : Nat → Heap → Prop) (J : It) (H' : Hp), itv = .ref it ∧ Inv X pins σ H' s2 ∧ Turn X.prog X.w X.K tg J fp it tn ∧ tn 0 s2.heap ∧ (∀ b ∈ fp, Gk X pins H' b) ∧ R J H'
noncomputable def PI (X : Cx) (tg iter : Expr) (wi : TI) : Prop :=
  ∀ (pins : List (Addr × Obj)) (s : Shared) (σ : St) (H : Hp) (R : It → Hp → Prop), Inv X pins σ H s → wi σ H R →
    wpAny (model X.prog X.w) X.A (eval iter X.env) (fun v s1 => wpAny (model X.prog X.w) X.A (pyIter v) (PIE X pins σ tg R) X.xe s1) X.xe s

theorem Qaf {M : Model} {A : Around} {E : Value → Shared → Prop} {s : Shared} {tg : Expr} {it : Addr} {u : Value} {o : Obj} {n : String} {vs : Array Value} {Q : Unit → Shared → Prop} (ho : s.heap.get? it = some o) (hc : o.cls = .type n) (hd : o.data = .fields vs)
    (hn : ["enumerate", "zip", "dict_itemiterator", "dict_reverseitemiterator", "odict_iterator", "itertools.zip_longest", "itertools.pairwise"].contains n = false) (hQ : Q () s) : wpAny M A (letOwnedTupleGo tg (.ref it) u) Q E s := by
  unfold letOwnedTupleGo
  cases tg <;> first
    | exact wpAny_pure hQ
    | (cases u <;> first
        | exact wpAny_pure hQ
        | (refine wpAny_bind (wpAny_load ho ?_)
           rw [hc, hd]
           show wpAny M A (if (["enumerate", "zip", "dict_itemiterator", "dict_reverseitemiterator", "odict_iterator", "itertools.zip_longest", "itertools.pairwise"].contains n && vs[0]? == some (rawInt _)) = true then _ else _) Q E s
           rw [if_neg (by intro h; rw [hn, Bool.false_and] at h; cases h)]
           exact wpAny_pure hQ))

noncomputable def Itl (K : PySem.W.Frag) (a : Addr) : It :=
  ⟨fun i H => ∃ xs x, SqL K H a xs ∧ xs[i]? = some x, fun i H x H' => H' = H ∧ ∀ xs, SqL K H a xs → xs[i]? = some x, fun i H => ∃ xs, SqL K H a xs ∧ xs.length ≤ i⟩
noncomputable def Itt (K : PySem.W.Frag) (a : Addr) : It :=
  ⟨fun i H => ∃ xs x, SqT K H a xs ∧ xs[i]? = some x, fun i H x H' => H' = H ∧ ∀ xs, SqT K H a xs → xs[i]? = some x, fun i H => ∃ xs, SqT K H a xs ∧ xs.length ≤ i⟩
noncomputable def Itr (lo : Int) (n : Nat) : It := ⟨fun i _ => i < n, fun i H x H' => H' = H ∧ x = .int (lo + i), fun i _ => n ≤ i⟩
theorem QaL {P : Program} {w : World} {K : PySem.W.Frag} {tg : Expr} (a it : Addr) : Turn P w K tg (Itl K a) [it] it (fun i h => h.IsListIter it a i) where
  mem := by simp
  obj := fun i h st b hb => by
    have e : b = it := by simpa using hb
    subst e
    obtain ⟨o, e, c, d⟩ := st
    exact ⟨o, e, fun v z => by rw [d] at z; cases z⟩
  keep := fun i h h' st k => st.at fun o e => k it (by simp) o e
  item := by
    intro X hP hw hK hc i pins s σ H E I hf st hg
    subst hP hw hK
    obtain ⟨xs, x, hq, hx⟩ := hg
    obtain ⟨its, rv, p, hz⟩ := I.list hq
    obtain ⟨u, hu, ru⟩ := rv.get hx
    obtain ⟨f0, f1, f2, f3, f4, f5⟩ := hf it (by simp)
    refine wpAny_pyNext_list_item st p.isList (x := u) (by simpa using hu) fun h' st' sb => ?_
    have I1 : Inv X pins σ H { s with heap := h' } := I.turned (t' := s.toks) (fun b o hb e => (sb.2 b hb).trans e) f0 f1 f3 f4 f5
    obtain ⟨o, e, c, d⟩ := id st'
    exact ⟨u, rfl, Qaf (s := { s with heap := h' }) e c d (by decide) ⟨x, H, I1, ru, ⟨rfl, fun ys hy => by rw [I.list_inj hy hq]; exact hx⟩, st', fun b hb => (hf b hb).1⟩⟩
  done := by
    intro X hP hw hK hc i pins s σ H E I hf st hg
    subst hP hw hK
    obtain ⟨xs, hq, hx⟩ := hg
    obtain ⟨its, rv, p, hz⟩ := I.list hq
    obtain ⟨f0, f1, f2, f3, f4, f5⟩ := hf it (by simp)
    have hl := rv.length
    exact wpAny_pyNext_list_end (I.ok.hd hc) st p.isList (by simp; omega) fun h' eb => ⟨rfl, I.turned (t' := s.toks) (fun b o hb e => eb b o hb e) f0 f1 f3 f4 f5⟩
  self := fun _ _ _ _ _ st h => wpAny_pyIter_listiter st h
theorem U4 {P : Program} {w : World} {K : PySem.W.Frag} {tg : Expr} (a it : Addr) : Turn P w K tg (Itt K a) [it] it (fun i h => h.IsTupleIter it a i) where
  mem := by simp
  obj := fun i h st b hb => by
    have e : b = it := by simpa using hb
    subst e
    obtain ⟨o, e, c, d⟩ := st
    exact ⟨o, e, fun v z => by rw [d] at z; cases z⟩
  keep := fun i h h' st k => st.at fun o e => k it (by simp) o e
  item := by
    intro X hP hw hK hc i pins s σ H E I hf st hg
    subst hP hw hK
    obtain ⟨xs, x, hq, hx⟩ := hg
    obtain ⟨its, rv, p, hz⟩ := I.tuple hq
    obtain ⟨u, hu, ru⟩ := rv.get hx
    obtain ⟨f0, f1, f2, f3, f4, f5⟩ := hf it (by simp)
    refine wpAny_pyNext_tuple_item st (show s.heap.IsTuple a its.toArray from p) (x := u) (by simpa using hu) fun h' st' sb => ?_
    have I1 : Inv X pins σ H { s with heap := h' } := I.turned (t' := s.toks) (fun b o hb e => (sb.2 b hb).trans e) f0 f1 f3 f4 f5
    obtain ⟨o, e, c, d⟩ := id st'
    exact ⟨u, rfl, Qaf (s := { s with heap := h' }) e c d (by decide) ⟨x, H, I1, ru, ⟨rfl, fun ys hy => by rw [I.tuple_inj hy hq]; exact hx⟩, st', fun b hb => (hf b hb).1⟩⟩
  done := by
    intro X hP hw hK hc i pins s σ H E I hf st hg
    subst hP hw hK
    obtain ⟨xs, hq, hx⟩ := hg
    obtain ⟨its, rv, p, hz⟩ := I.tuple hq
    obtain ⟨f0, f1, f2, f3, f4, f5⟩ := hf it (by simp)
    have hl := rv.length
    exact wpAny_pyNext_tuple_end (I.ok.hd hc) st (show s.heap.IsTuple a its.toArray from p) (by simp; omega) fun h' eb => ⟨rfl, I.turned (t' := s.toks) (fun b o hb e => eb b o hb e) f0 f1 f3 f4 f5⟩
  self := fun _ _ _ _ _ st h => wpAny_pyIter_tupleiter st h
theorem Gf {P : Program} {w : World} {K : PySem.W.Frag} {tg : Expr} (it : Addr) (lo : Int) (n : Nat) : Turn P w K tg (Itr lo n) [it] it (fun i h => IsRangeIter h it (lo + (i : Nat) * 1) ((n : Int) - (i : Nat)) 1) where
  mem := by simp
  obj := fun i h st b hb => by
    have e : b = it := by simpa using hb
    subst e
    exact ⟨_, st, fun v z => by
      have z' : Data.fields _ = Data.cell v := z
      cases z'⟩
  keep := fun i h h' st k => k it (by simp) _ st
  item := by
    intro X hP hw hK hc i pins s σ H E I hf st hg
    subst hP hw hK
    obtain ⟨f0, f1, f2, f3, f4, f5⟩ := hf it (by simp)
    have W := Walks.range (prog := X.prog) (w := X.w) (I.ok.hd hc) it lo 1 n
    refine W.item i s _ _ hg st fun v h' tk hv st' kk => ?_
    obtain ⟨t, rfl⟩ := hv
    have I1 : Inv X pins σ H { s with heap := h', toks := tk } := I.turned (fun b o hb e => kk b o (by simpa using hb) e) f0 f1 f3 f4 f5
    refine ⟨_, rfl, Qaf (s := { s with heap := h', toks := tk }) (n := "range_iterator") st' rfl rfl (by decide) ⟨.int (lo + i), H, I1, ⟨t, ?_⟩, ⟨rfl, rfl⟩, st', fun b hb => (hf b hb).1⟩⟩
    rw [Int.mul_one]
  done := by
    intro X hP hw hK hc i pins s σ H E I hf st hg
    subst hP hw hK
    obtain ⟨f0, f1, f2, f3, f4, f5⟩ := hf it (by simp)
    exact wpAny_pyNext_range_end (I.ok.hd hc) st (by have : n ≤ i := hg; omega) fun h' eb => ⟨rfl, I.turned (t' := s.toks) (fun b o hb e => eb b o hb e) f0 f1 f3 f4 f5⟩
  self := fun _ _ _ _ _ st h => wpAny_pyIter_rangeiter st h
end L2

namespace L2
open PySem PySem.Spec PyProof.Rows
section
variable {X : Cx} {tg : Expr}
theorem Ur {pins : List (Addr × Obj)} {σ : St} {H : Hp} {s : Shared} {R : It → Hp → Prop} {E : Value → Shared → Prop} {lo hi : Int} {t u v : Tok} {tk : Nat} (I : Inv X pins σ H s) (h1 : -(2 ^ 62) ≤ lo) (h2 : lo < 2 ^ 62) (h3 : -(2 ^ 62) ≤ hi) (h4 : hi < 2 ^ 62)
    (q : R (Itr lo (hi - lo).toNat) H) : wpAny (model X.prog X.w) X.A (pyIter (.ref s.heap.objs.size)) (PIE X pins σ tg R) E { s with heap := s.heap.push { cls := .type "range", data := .fields #[.int lo t, .int hi u, .int 1 v] }, toks := tk } := by
  refine wpAny_pyIter_range (IsRange.new ..) (small_one h1 h2 h3 h4) ?_
  have I1 : Inv X pins σ H { s with heap := s.heap.push { cls := .type "range", data := .fields #[.int lo t, .int hi u, .int 1 v] }, toks := tk } := I.kept fun b o e => Heap.get?_push_of_some _ e
  refine ⟨(s.heap.push { cls := .type "range", data := .fields #[.int lo t, .int hi u, .int 1 v] }).objs.size, [(s.heap.push { cls := .type "range", data := .fields #[.int lo t, .int hi u, .int 1 v] }).objs.size], _, _, H, rfl,
    I1.kept (t' := tk) fun b o e => Heap.get?_push_of_some _ e, Gf _ lo (hi - lo).toNat, ?_, fun b hb => ?_, q⟩
  · have e1 : lo + ((0 : Nat) : Int) * 1 = lo := by simp
    have e2 : (((hi - lo).toNat : Nat) : Int) - ((0 : Nat) : Int) = Builtin.Range.rangeSize lo hi 1 := by rw [rangeSize_one]; split <;> omega
    show IsRangeIter _ _ (lo + ((0 : Nat) : Int) * 1) ((((hi - lo).toNat : Nat) : Int) - ((0 : Nat) : Int)) 1
    rw [e1, e2]
    exact Heap.get?_push_size _ rfl
  · have e : b = (s.heap.push { cls := .type "range", data := .fields #[.int lo t, .int hi u, .int 1 v] }).objs.size := by simpa using hb
    subst e
    exact I1.fpOk (Nat.le_refl _) (I1.hok.fresh (Nat.le_refl _))
noncomputable def QgY (ta : TA) : TI := fun σ H R => ta σ H fun vs H1 => ∃ j : Int, vs = [.int j] ∧ -(2 ^ 62) ≤ j ∧ j < 2 ^ 62 ∧ R (Itr 0 j.toNat) H1
noncomputable def QgB (ta : TA) : TI := fun σ H R => ta σ H fun vs H1 => ∃ i j : Int, vs = [.int i, .int j] ∧ (-(2 ^ 62) ≤ i ∧ i < 2 ^ 62 ∧ -(2 ^ 62) ≤ j ∧ j < 2 ^ 62) ∧ R (Itr i (j - i).toNat) H1
theorem Gq {a : Expr} {ta : TA} {p pos : Pos} (hg : Gl X "range") (hm : X.mg "range" = none) (ha : PA X [a] ta) (hs : starEach [a] X.env = [(false, eval a X.env)] := by rfl) : PI X tg (.Call (.Name "range" p) [a] [] pos) (QgY ta) := by
  intro pins s σ H R I h
  refine Call_ (KP I hg hm boot_range (PyProof.Rows.callWith_type1 (thn (ha pos pins s σ H _ I h) fun us s1 ⟨vs, H1, I1, r1, q1⟩ => ?_) hs rfl))
  obtain ⟨j, e, q1, q2, q⟩ := q1
  subst e
  cases r1 with
  | cons r rr =>
    cases rr
    obtain ⟨t, rfl⟩ := r
    exact call_range_1 (Ur I1 (by omega) (by omega) q1 q2 (by simpa using q))
theorem Qac {a b : Expr} {ta : TA} {p pos : Pos} (hg : Gl X "range") (hm : X.mg "range" = none) (ha : PA X [a, b] ta) (hs : starEach [a, b] X.env = [(false, eval a X.env), (false, eval b X.env)] := by rfl) (hs2 : starEach [b] X.env = [(false, eval b X.env)] := by rfl) :
    PI X tg (.Call (.Name "range" p) [a, b] [] pos) (QgB ta) := by
  intro pins s σ H R I h
  refine Call_ (KP I hg hm boot_range (PyProof.Rows.callWith_type1 (thn (ha pos pins s σ H _ I h) fun us s1 ⟨vs, H1, I1, r1, q1⟩ => ?_) (by rw [hs, hs2]) (by rw [hs2]; rfl)))
  obtain ⟨i, j, e, ⟨q1, q2, q3, q4⟩, q⟩ := q1
  subst e
  cases r1 with
  | cons r rr =>
    cases rr with
    | cons r' rr =>
      cases rr
      obtain ⟨t, rfl⟩ := r
      obtain ⟨t', rfl⟩ := r'
      exact call_range_2 (Ur I1 q1 q2 q3 q4 q)

noncomputable def QiA (wi : TI) (g : TG) (tb : TS) : TS := fun D σ H => wi σ H fun J H1 => ∃ W : Nat → Nat → St → Hp → Prop, (∃ m, W 0 m σ H1) ∧ ∀ i m σ H, W i m σ H →
  (J.stop i H ∧ D.nx σ H) ∨ (J.go i H ∧ ∃ N : St → Hp → Prop, (∀ σ' H', N σ' H' → ∃ m', m' < m ∧ W (i + 1) m' σ' H') ∧ ∀ x H', J.yld i H x H' → g x σ H' fun σ2 H2 => tb { D with nx := N, ct := N, bk := D.nx } σ2 H2)
noncomputable def YS (fp : List Addr) (h : Heap) : List (Addr × Obj) := fp.filterMap fun b => (h.get? b).map fun o => (b, o)
theorem Vx {fp : List Addr} {h : Heap} {b : Addr} {o : Obj} (hb : b ∈ fp) (e : h.get? b = some o) : (b, o) ∈ YS fp h := List.mem_filterMap.mpr ⟨b, hb, by rw [e]; rfl⟩
theorem QaX {fp : List Addr} {h : Heap} {p : Addr × Obj} (hp : p ∈ YS fp h) : p.1 ∈ fp ∧ h.get? p.1 = some p.2 := by
  obtain ⟨b, hb, e⟩ := List.mem_filterMap.mp hp
  cases q : h.get? b with
  | none => rw [q] at e; cases e
  | some o =>
    rw [q] at e
    have e' : (b, o) = p := Option.some.inj e
    subst e'
    exact ⟨hb, q⟩
theorem Inv.pinned {pins : List (Addr × Obj)} {σ : St} {H : Hp} {s : Shared} {fp : List Addr} (I : Inv X pins σ H s) (hf : ∀ b ∈ fp, Gk X pins H b) (ho : ∀ b ∈ fp, ∃ o, s.heap.get? b = some o ∧ ∀ v, o.data ≠ .cell v) : Inv X (pins ++ YS fp s.heap) σ H s :=
  I.pins_of fun p hp => (List.mem_append.mp hp).elim (fun z => I.pin p (List.mem_append_right _ z)) fun z => by
    obtain ⟨hb, e⟩ := QaX z
    obtain ⟨f0, f1, f2, _⟩ := hf p.1 hb
    obtain ⟨o, e', d⟩ := ho p.1 hb
    rw [e] at e'; cases e'
    exact ⟨e, f0, f1, f2, d⟩
theorem Inv.unpinned {pins pl : List (Addr × Obj)} {σ : St} {H : Hp} {s : Shared} (I : Inv X (pins ++ pl) σ H s) : Inv X pins σ H s := I.pins_of fun p hp => I.pin p (List.mem_append_right _ (List.mem_append_left _ hp))
theorem QfC {iter : Expr} {body : List Stmt} {wi : TI} {g : TG} {tb : TS} {pos : Pos} (hp : PassesOwn (model X.prog X.w) X.A X.env X.xe) (hc : X.calm = true) (hi : PI X tg iter wi) (hg : PG X tg g) (hb : PSs X body tb)
    (hs : ∀ x, foldedSetIterable iter X.env x = pure x := by intro _; rfl) : PS X (.For tg iter body [] pos) (QiA wi g tb) := by
  intro pins s σ H D I h
  refine wpAny_For (thn (hi pins s σ H _ I h) fun v s1 h1 => thn h1 fun itv s2 h2 => ?_) hs
  obtain ⟨it, fp, tn, J, H2, e, I2, T, st2, f2, W, ⟨m0, w0⟩, turn⟩ := h2
  subst e
  -- what stays true of the iterator's objects through the loop
  have stat : ∀ {H' : Hp}, (∀ b ∈ fp, H' b = none) → ∀ b ∈ fp, Gk X pins H' b := fun hn b hb => ⟨hn b hb, (f2 b hb).2⟩
  refine codeAny_forLoop_any (fun n s' => ∃ i σ' H', Inv X pins σ' H' s' ∧ tn i s'.heap ∧ (∀ b ∈ fp, H' b = none) ∧ W i n σ' H') ?_ m0 ⟨0, σ, H2, I2, st2, fun b hb => (f2 b hb).1, w0⟩
  rintro n s3 ⟨i, σ3, H3, I3, st3, fr3, w3⟩
  rcases turn i n σ3 H3 w3 with ⟨stop, qn⟩ | ⟨go, N, hN, step⟩
  · refine wpAny_passesOwn hp (thn (T.done X rfl rfl rfl hc i pins s3 σ3 H3 X.xe I3 (stat fr3) st3 stop) fun r s4 ⟨hr, I4⟩ => ?_)
    subst hr
    exact wpAny_execs_nil ⟨σ3, H3, I4, qn⟩
  · refine wpAny_passesOwn hp (thn (T.item X rfl rfl rfl hc i pins s3 σ3 H3 X.xe I3 (stat fr3) st3 go) fun r s4 ⟨u, hr, h4⟩ => ?_)
    subst hr
    refine wpAny_passesOwn hp (thn h4 fun _ s5 ⟨x, H5, I5, r5, y5, st5, fr5⟩ => ?_)
    have I5' := I5.pinned (stat fr5) (T.obj _ _ st5)
    refine wpAny_passesOwn hp (thn (hg _ s5 σ3 H5 x u _ I5' r5 (step x H5 y5)) fun _ s6 ⟨σ6, H6, I6, q6⟩ => ?_)
    refine wpAny_passesOwn hp (thn (hb _ s6 σ6 H6 _ I6 q6) fun f s7 q7 => ?_)
    have again : ∀ {σ7 : St} {H7 : Hp}, Inv X (pins ++ YS fp s5.heap) σ7 H7 s7 → N σ7 H7 → ∃ m, m < n ∧ ∃ i σ' H', Inv X pins σ' H' s7 ∧ tn i s7.heap ∧ (∀ b ∈ fp, H' b = none) ∧ W i m σ' H' := fun {σ7 H7} I7 n7 => by
      obtain ⟨m', hm, w7⟩ := hN σ7 H7 n7
      refine ⟨m', hm, i + 1, σ7, H7, I7.unpinned, T.keep _ _ _ st5 fun b hb o e => (I7.pin (b, o) (List.mem_append_right _ (List.mem_append_right _ (Vx hb e)))).1, fun b hb => ?_, w7⟩
      obtain ⟨o, e, d⟩ := T.obj _ _ st5 b hb
      exact (I7.pin (b, o) (List.mem_append_right _ (List.mem_append_right _ (Vx hb e)))).2.1
    cases f with
    | next => obtain ⟨σ7, H7, I7, n7⟩ := q7; exact again I7 n7
    | cont => obtain ⟨σ7, H7, I7, n7⟩ := q7; exact again I7 n7
    | brk => obtain ⟨σ7, H7, I7, q7⟩ := q7; exact ⟨σ7, H7, I7.unpinned, q7⟩
    | ret v => obtain ⟨x7, σ7, H7, I7, r7, q7⟩ := q7; exact ⟨x7, σ7, H7, I7.unpinned, r7, q7⟩
end

end L2

namespace L2
open PySem PySem.Spec PyProof.Rows

noncomputable abbrev R2 := V → V → Hp → VK → Prop
noncomputable def OpR (X : Cx) (f : Value → Value → Sem Value) (r : R2) : Prop :=
  ∀ (pins : List (Addr × Obj)) (s : Shared) (σ : St) (H : Hp) (x y : V) (v u : Value) (Q : VK), Inv X pins σ H s → RelV x v → RelV y u → r x y H Q →
    wpAny (model X.prog X.w) X.A (f v u) (EP X pins σ Q) X.xe s
noncomputable def UnR (X : Cx) (f : Value → Sem Value) (r : V → Hp → VK → Prop) : Prop :=
  ∀ (pins : List (Addr × Obj)) (s : Shared) (σ : St) (H : Hp) (x : V) (v : Value) (Q : VK), Inv X pins σ H s → RelV x v → r x H Q →
    wpAny (model X.prog X.w) X.A (f v) (EP X pins σ Q) X.xe s
noncomputable def CallR (X : Cx) (f : Value) (r : List V → Hp → VK → Prop) : Prop :=
  ∀ (pins : List (Addr × Obj)) (s : Shared) (σ : St) (H : Hp) (xs : List V) (us : List Value) (Q : VK), Inv X pins σ H s → Vals xs us → r xs H Q →
    wpAny (model X.prog X.w) X.A (call f us) (EP X pins σ Q) X.xe s
noncomputable def QjF (X : Cx) (r : V → Hp → (Bool → Hp → Prop) → Prop) : Prop :=
  ∀ (pins : List (Addr × Obj)) (s : Shared) (σ : St) (H : Hp) (x : V) (v : Value) (Q : Bool → Hp → Prop), Inv X pins σ H s → RelV x v → r x H Q →
    wpAny (model X.prog X.w) X.A (truthy v) (TP X pins σ Q) X.xe s

noncomputable def tOp (r : R2) (ta tb : TE) : TE := fun σ H Q => ta σ H fun x H1 => tb σ H1 fun y H2 => r x y H2 Q
noncomputable def tUn (r : V → Hp → VK → Prop) (ta : TE) : TE := fun σ H Q => ta σ H fun x H1 => r x H1 Q
noncomputable def rI (C : Int → Int → Prop) (g : Int → Int → V) : R2 := fun x y H Q => ∃ i j, x = .int i ∧ y = .int j ∧ C i j ∧ Q (g i j) H
noncomputable def rI0 (g : Int → Int → V) : R2 := fun x y H Q => ∃ i j, x = .int i ∧ y = .int j ∧ Q (g i j) H
noncomputable def rU (g : Int → V) : V → Hp → VK → Prop := fun x H Q => ∃ i, x = .int i ∧ Q (g i) H

section
variable {X : Cx} {a b c : Expr} {ta tb tc : TE} {pos : Pos}

theorem Qiq (ha : PE X a ta) (hb : PE X b tb) {pins : List (Addr × Obj)} {s : Shared} {σ : St} {H : Hp} {R : V → V → Hp → Prop} (I : Inv X pins σ H s)
    (h : ta σ H fun x H1 => tb σ H1 fun y H2 => R x y H2) {Q : Value → Shared → Prop} {f : Value → Value → Sem Value}
    (hf : ∀ v u s2 x y H2, Inv X pins σ H2 s2 → RelV x v → RelV y u → R x y H2 → wpAny (model X.prog X.w) X.A (f v u) Q X.xe s2) :
    wpAny (model X.prog X.w) X.A (eval a X.env) (fun v s₁ => wpAny (model X.prog X.w) X.A (eval b X.env) (fun u s₂ => wpAny (model X.prog X.w) X.A (f v u) Q X.xe s₂) X.xe s₁) X.xe s := by
  refine thn (ha pins s σ H _ I h) fun v s1 ⟨x, H1, I1, r1, q1⟩ => ?_
  refine thn (hb pins s1 σ H1 _ I1 q1) fun u s2 ⟨y, H2, I2, r2, q2⟩ => ?_
  exact hf v u s2 x y H2 I2 r1 r2 q2

theorem QgG {op : Operator} {r : R2} (ho : OpR X (binaryOp op) r) (ha : PE X a ta) (hb : PE X b tb) : PE X (.BinOp a op b pos) (tOp r ta tb) := by
  intro pins s σ H Q I h
  exact wpAny_BinOp (Qiq ha hb I h fun v u s2 x y H2 I2 rx ry q => ho pins s2 σ H2 x y v u Q I2 rx ry q)
theorem QgA {op : UnaryOp} {r : V → Hp → VK → Prop} (ho : UnR X (unaryOp op) r) (ha : PE X a ta) : PE X (.UnaryOp op a pos) (tUn r ta) := by
  intro pins s σ H Q I h
  exact UnaryOp_ (thn (ha pins s σ H _ I h) fun v s1 ⟨x, H1, I1, r1, q1⟩ => ho pins s1 σ H1 x v Q I1 r1 q1)
theorem opI {f : Value → Value → Sem Value} {C : Int → Int → Prop} {g : Int → Int → Int}
    (rule : ∀ (i j : Int) (t u : Tok) (s : Shared) (Q : Value → Shared → Prop) (E : Value → Shared → Prop), C i j → Q (.int (g i j) s.toks) { s with toks := s.toks + 1 } → wpAny (model X.prog X.w) X.A (f (.int i t) (.int j u)) Q E s) :
    OpR X f (rI C fun i j => .int (g i j)) := by
  intro pins s σ H x y v u Q I rx ry h
  obtain ⟨i, j, rfl, rfl, hc, q⟩ := h
  obtain ⟨t, rfl⟩ := rx
  obtain ⟨t', rfl⟩ := ry
  exact rule i j t t' s _ _ hc ⟨.int (g i j), H, I.tok _, ⟨_, rfl⟩, q⟩
theorem Qhy {f : Value → Value → Sem Value} {g : Int → Int → Int}
    (rule : ∀ (i j : Int) (t u : Tok) (s : Shared) (Q : Value → Shared → Prop) (E : Value → Shared → Prop), Q (.int (g i j) s.toks) { s with toks := s.toks + 1 } → wpAny (model X.prog X.w) X.A (f (.int i t) (.int j u)) Q E s) :
    OpR X f (rI0 fun i j => .int (g i j)) := by
  intro pins s σ H x y v u Q I rx ry h
  obtain ⟨i, j, rfl, rfl, q⟩ := h
  obtain ⟨t, rfl⟩ := rx
  obtain ⟨t', rfl⟩ := ry
  exact rule i j t t' s _ _ ⟨.int (g i j), H, I.tok _, ⟨_, rfl⟩, q⟩
theorem Qg6 {f : Value → Value → Sem Value} {g : Int → Int → Bool}
    (rule : ∀ (i j : Int) (t u : Tok) (s : Shared) (Q : Value → Shared → Prop) (E : Value → Shared → Prop), Q (.bool (g i j)) s → wpAny (model X.prog X.w) X.A (f (.int i t) (.int j u)) Q E s) :
    OpR X f (rI0 fun i j => .bl (g i j)) := by
  intro pins s σ H x y v u Q I rx ry h
  obtain ⟨i, j, rfl, rfl, q⟩ := h
  obtain ⟨t, rfl⟩ := rx
  obtain ⟨t', rfl⟩ := ry
  exact rule i j t t' s _ _ ⟨.bl (g i j), H, I, rfl, q⟩

noncomputable def Qj4 (i j : Int) : Prop := 0 < j ∧ j < 1073741824
noncomputable def QjH (i j : Int) : Prop := 0 ≤ j ∧ j ≤ 1000000 ∧ i.natAbs < 2 ^ 64
noncomputable def CMul (i j : Int) : Prop := (-(2 ^ 64) < i ∧ i < 2 ^ 64) ∨ (-(2 ^ 64) < j ∧ j < 2 ^ 64)
theorem CMul.ok {i j : Int} (h : CMul i j) : IntMulOk i j := by
  rcases h with ⟨h1, h2⟩ | ⟨h1, h2⟩
  · exact .of_left (intBits_le_64 h1 h2)
  · exact .of_right (intBits_le_64 h1 h2)
theorem op_add : OpR X (binaryOp .Add) (rI0 fun i j => .int (i + j)) := Qhy fun _ _ _ _ _ _ _ q => add_int q
theorem Qe1 : OpR X (binaryOp .Sub) (rI0 fun i j => .int (i - j)) := Qhy fun _ _ _ _ _ _ _ q => sub_int q
theorem QeS : OpR X (binaryOp .Mult) (rI CMul fun i j => .int (i * j)) := opI fun _ _ _ _ _ _ _ hc q => mul_int q hc.ok
theorem Qd5 : OpR X (binaryOp .FloorDiv) (rI Qj4 fun i j => .int (i / j)) := opI fun i j _ _ _ _ _ hc q => by
  have h1 : (0 : Int) < j := hc.1
  have h2 : j < 1073741824 := hc.2
  exact floordiv_int (by omega) (by rw [Int.fdiv_eq_ediv_of_nonneg i (by omega)]; exact q) (.inl (PyProof.noPylong_small (by omega)))
theorem QfM : OpR X (binaryOp .Mod) (rI (fun _ j => 0 < j) fun i j => .int (i % j)) := opI fun i j _ _ _ _ _ hc q => by
  have h1 : (0 : Int) < j := hc
  exact mod_int' (by omega) (by rw [Int.fmod_eq_emod_of_nonneg i (by omega)]; exact q)
theorem QfP : OpR X (binaryOp .Pow) (rI QjH fun i j => .int (i ^ j.toNat)) := opI fun _ _ _ _ _ _ _ hc q => pow_int_small hc.1 hc.2.1 hc.2.2 q
theorem Qed : OpR X (inplaceOp .Add) (rI0 fun i j => .int (i + j)) := Qhy fun _ _ _ _ _ _ _ q => iadd_int q
theorem unI {f : Value → Sem Value} {g : Int → Int}
    (rule : ∀ (i : Int) (t : Tok) (s : Shared) (Q : Value → Shared → Prop) (E : Value → Shared → Prop), Q (.int (g i) s.toks) { s with toks := s.toks + 1 } → wpAny (model X.prog X.w) X.A (f (.int i t)) Q E s) :
    UnR X f (rU fun i => .int (g i)) := by
  intro pins s σ H x v Q I rx h
  obtain ⟨i, rfl, q⟩ := h
  obtain ⟨t, rfl⟩ := rx
  exact rule i t s _ _ ⟨.int (g i), H, I.tok _, ⟨_, rfl⟩, q⟩
theorem QfF : UnR X (unaryOp .USub) (rU fun i => .int (-i)) := unI fun _ _ _ _ _ q => neg_int q
end

section
variable {X : Cx} {a b c : Expr} {ta tb tc : TE} {pos : Pos}
theorem Qcz {pins : List (Addr × Obj)} {σ : St} {H : Hp} {s : Shared} {Q : VK} {k k' : Bool} (I : Inv X pins σ H s) (q : Q (.bl k) H) (e : k = k') : EP X pins σ Q (.bool k') s := by
  subst e
  exact ⟨.bl k, H, I, rfl, q⟩
theorem op_lt : OpR X (compareOp .Lt) (rI0 fun i j => .bl (decide (i < j))) := Qg6 fun _ _ _ _ _ _ _ q => lt_int q
theorem QgO : OpR X (compareOp .Gt) (rI0 fun i j => .bl (decide (j < i))) := Qg6 fun _ _ _ _ _ _ _ q => gt_int q
theorem Qhw : OpR X (compareOp .GtE) (rI0 fun i j => .bl (decide (j ≤ i))) := Qg6 fun _ _ _ _ _ _ _ q => ge_int q
theorem Qar : OpR X (compareOp .Lt) (fun x y H Q => ∃ i j, x = .str i ∧ y = .str j ∧ Q (.bl (decide (i.cps.toList < j.cps.toList))) H) := by
  intro pins s σ H x y v u Q I rx ry h
  obtain ⟨i, j, rfl, rfl, q⟩ := h
  obtain ⟨t, rfl⟩ := rx
  obtain ⟨t', rfl⟩ := ry
  exact lt_str (Qcz I q rfl)
theorem op_isN : OpR X (compareOp .Is) (fun x y H Q => y = .non ∧ Q (.bl (decide (x = .non))) H) := by
  intro pins s σ H x y v u Q I rx ry h
  obtain ⟨rfl, q⟩ := h
  cases ry
  refine is_none_gen (Qcz I q ?_)
  cases x <;> first
    | (cases rx; rfl)
    | (obtain ⟨t, rfl⟩ := rx; rfl)
theorem OpR.or {f : Value → Value → Sem Value} {r r' : R2} (h : OpR X f r) (h' : OpR X f r') : OpR X f (fun x y H Q => r x y H Q ∨ r' x y H Q) := by
  intro pins s σ H x y v u Q I rx ry q
  rcases q with q | q
  · exact h pins s σ H x y v u Q I rx ry q
  · exact h' pins s σ H x y v u Q I rx ry q

noncomputable def QhF (t : TE) : TT := fun σ H Q => t σ H fun x H' => ∃ k, x = .bl k ∧ Q k H'
theorem Qdt {op : CmpOp} {r : R2} (ho : OpR X (compareOp op) r) (ha : PE X a ta) (hb : PE X b tb) (hm : behindInMarks op b = false) : PT X (.Compare a [op] [b] pos) (QhF (tOp r ta tb)) := by
  intro pins s σ H Q I h
  refine wpAny_isTrue_Compare1 (thn (ha pins s σ H _ I h) fun v s1 ⟨x, H1, I1, r1, q1⟩ => thn (hb pins s1 σ H1 _ I1 q1) fun u s2 ⟨y, H2, I2, r2, q2⟩ =>
    thn (ho pins s2 σ H2 x y v u _ I2 r1 r2 q2) fun c s3 ⟨z, H3, I3, r3, k, e, q3⟩ => ?_) hm
  subst e
  cases r3
  exact wpAny_truthy_bool ⟨H3, I3, q3⟩
noncomputable def QhS (K : PySem.W.Frag) (x : V) (H : Hp) (k : Bool) : Prop :=
  match x with
  | .non => k = false
  | .bl b => k = b
  | .int i => k = (i != 0)
  | .str y => y.length ≤ sizeLine ∧ k = ((y.length : Int) != 0)
  | .byt y => y.size ≤ sizeLine ∧ k = ((y.size : Int) != 0)
  | .ref p => (∃ xs, SqL K H p xs ∧ k = !xs.isEmpty) ∨ (∃ xs, SqT K H p xs ∧ k = !xs.isEmpty) ∨ ∃ kvs, H p = some (.dK kvs) ∧ k = !kvs.isEmpty
  | _ => False
theorem U5 {κ : Type} {kvs : List (κ × V)} {vs : List (κ × Value)} (r : KV kvs vs) : (!vs.isEmpty) = !kvs.isEmpty := by
  cases r <;> rfl
theorem KF {xs : List V} {its : List Value} (r : Vals xs its) : (!its.toArray.isEmpty) = !xs.isEmpty := by
  cases r <;> simp
theorem XN : (sizeLine : Nat) < 2 ^ 63 := by rw [sizeLine_eq]; decide
theorem Qf9 : QjF X (fun x H Q => ∃ k, QhS X.K x H k ∧ Q k H) := by
  intro pins s σ H x v Q I rx h
  obtain ⟨k, e, q⟩ := h
  have hl := XN
  have hs : sizeLine = 16777216 := sizeLine_eq
  cases x with
  | non =>
    cases rx
    have e' : k = false := e
    subst e'
    exact truthy_none ⟨H, I, q⟩
  | bl b =>
    cases rx
    have e' : k = b := e
    subst e'
    exact wpAny_truthy_bool ⟨H, I, q⟩
  | int i =>
    obtain ⟨t, rfl⟩ := rx
    have e' : k = (i != 0) := e
    subst e'
    exact PySem.P.truthy_int ⟨H, I, q⟩
  | str y =>
    obtain ⟨t, rfl⟩ := rx
    obtain ⟨hy, e'⟩ : y.length ≤ sizeLine ∧ k = ((y.length : Int) != 0) := e
    subst e'
    exact PySem.P.truthy_str (by omega) ⟨H, I.tok _, q⟩
  | byt y =>
    obtain ⟨t, rfl⟩ := rx
    obtain ⟨hy, e'⟩ : y.size ≤ sizeLine ∧ k = ((y.size : Int) != 0) := e
    subst e'
    exact PySem.W.truthy_bytes (by omega) ⟨H, I.tok _, q⟩
  | ref p =>
    cases rx
    have e' : (∃ xs, SqL X.K H p xs ∧ k = !xs.isEmpty) ∨ (∃ xs, SqT X.K H p xs ∧ k = !xs.isEmpty) ∨ ∃ kvs, H p = some (.dK kvs) ∧ k = !kvs.isEmpty := e
    rcases e' with ⟨xs, hx, e'⟩ | ⟨xs, hx, e'⟩ | ⟨kvs, hx, e'⟩
    · subst e'
      obtain ⟨its, r, pl, hz⟩ := I.list hx
      have hlen := r.length
      exact wpAny_truthy_list pl.isList (by simp only [List.size_toArray]; omega) ⟨H, I.tok _, by rw [KF r]; exact q⟩
    · subst e'
      obtain ⟨its, r, pl, hz⟩ := I.tuple hx
      have hlen := r.length
      exact truthy_tuple pl (by simp only [List.size_toArray]; omega) ⟨H, I.tok _, by rw [KF r]; exact q⟩
    · subst e'
      obtain ⟨hz, hS, vs, r, m⟩ : kvs.length ≤ sizeLine ∧ (p == sysModules) = false ∧ ∃ vs, KV kvs vs ∧ s.heap.DictOf (QaO X.prog X.w) p vs := I.hok p _ hx
      have hlen : kvs.length = vs.length := Paired.length r
      exact wpAny_truthy_dict hS m (by omega) ⟨H, I.tok _, by rw [U5 r]; exact q⟩
  | _ => exact (show False from e).elim
theorem Qbh (ha : PE X a ta) (he : ∀ whole, isTrue a X.env whole = (do let v ← whole; standAt a.pos; holding [v] (truthy v))) :
    PT X a (fun σ H Q => ta σ H fun x H' => ∃ k, QhS X.K x H' k ∧ Q k H') := by
  intro pins s σ H Q I h
  exact isTrue_plain (thn (ha pins s σ H _ I h) fun v s1 ⟨x, H1, I1, r1, q1⟩ => Qf9 pins s1 σ H1 x v Q I1 r1 q1) (he _)

theorem op_add_str : OpR X (binaryOp .Add) (fun x y H Q => ∃ i j, x = .str i ∧ y = .str j ∧ i.length + j.length ≤ sizeLine ∧ Q (.str (i ++ j)) H) := by
  intro pins s σ H x y v u Q I rx ry h
  obtain ⟨i, j, rfl, rfl, hz, q⟩ := h
  obtain ⟨t, rfl⟩ := rx
  obtain ⟨t', rfl⟩ := ry
  exact add_str (fun t' tk => ⟨.str (i ++ j), H, I.tok _, ⟨_, rfl⟩, q⟩) hz
theorem Qa9 {x : V} {us : List Value} (r : Vals [x] us) : ∃ u, us = [u] ∧ RelV x u := by
  cases r with
  | cons r1 r2 => cases r2; exact ⟨_, rfl, r1⟩
theorem Qb6 {x y : V} {us : List Value} (r : Vals [x, y] us) : ∃ u w', us = [u, w'] ∧ RelV x u ∧ RelV y w' := by
  cases r with
  | cons r1 r2 =>
    cases r2 with
    | cons r3 r4 => cases r4; exact ⟨_, _, rfl, r1, r3⟩
theorem QaS (hc : X.calm = true) : CallR X (.builtin "max") (fun xs H Q => ∃ i j, xs = [.int i, .int j] ∧ Q (.int (if j > i then j else i)) H) := by
  intro pins s σ H xs us Q I r h
  obtain ⟨i, j, rfl, q⟩ := h
  obtain ⟨u, w', rfl, ⟨t, rfl⟩, ⟨t', rfl⟩⟩ := Qb6 r
  refine max_two_ints (I.ok.hd hc) fun h' tk k => ⟨_, H, I.kept k, ?_, q⟩
  by_cases hj : j > i
  · rw [if_pos hj, if_pos hj]; exact ⟨_, rfl⟩
  · rw [if_neg hj, if_neg hj]; exact ⟨_, rfl⟩
theorem GG (hc : X.calm = true) : CallR X (.builtin "min") (fun xs H Q => ∃ i j, xs = [.int i, .int j] ∧ Q (.int (if j < i then j else i)) H) := by
  intro pins s σ H xs us Q I r h
  obtain ⟨i, j, rfl, q⟩ := h
  obtain ⟨u, w', rfl, ⟨t, rfl⟩, ⟨t', rfl⟩⟩ := Qb6 r
  refine min_two_ints (I.ok.hd hc) fun h' tk k => ⟨_, H, I.kept k, ?_, q⟩
  by_cases hj : j < i
  · rw [if_pos hj, if_pos hj]; exact ⟨_, rfl⟩
  · rw [if_neg hj, if_neg hj]; exact ⟨_, rfl⟩
end
end L2

namespace L2
open PySem PySem.Spec PyProof.Rows

section
variable {prog : Program} {w : World} {A : Around} {E : Value → Shared → Prop} {s : Shared} {K : PySem.W.Frag} {x dx C f : Addr} {mA : Str → Option Value} {name : Str} {v : Value}

end

section
variable {P : Program} {w : World} {H H' : Hp} {h h' : Heap} {a C dx : Addr} {fs fs' : List (Str × V)}
end

structure Cls (K : PySem.W.Frag) (C : Addr) : Prop where
  pg : PySem.W.plainGet K C Str.empty = true
  hd : PySem.W.hasDictIn K C = true
  po : PySem.W.plainOver K C = true
  sa : PySem.W.findIn K (.ref C) "__setattr__" = some (some (.builtin "object.__setattr__"))
section
variable {X : Cx} {pins : List (Addr × Obj)} {σ : St} {H : Hp} {s : Shared} {a C dx : Addr} {fs : List (Str × V)} {f : Str} {v : V} {A : Around} {E : Value → Shared → Prop}

end

section
variable {X : Cx} {o e value : Expr} {f : Str} {pos pos' tpos : Pos} {ta tv : TE}
end

section
variable {X : Cx} {pins : List (Addr × Obj)} {σ : St} {H : Hp} {s : Shared} {A : Around} {E : Value → Shared → Prop} {Q : Value → Shared → Prop} {c : Value} {b : Bool}
inductive TyOf (K : PySem.W.Frag) (H : Hp) : V → Value → Prop where
  | non : TyOf K H .non (.type "NoneType")
  | bl (x : Bool) : TyOf K H (.bl x) (.type "bool")
  | int (i : Int) : TyOf K H (.int i) (.type "int")
  | str (x : Str) : TyOf K H (.str x) (.type "str")
  | flt (x : UInt64) : TyOf K H (.flt x) (.type "float")
  | lst {a : Addr} {xs : List V} (e : H a = some (.lst xs)) : TyOf K H (.ref a) (.type "list")
  | frz {a : Addr} {o : Obj} {xs : List V} (e : H a = some (.frz o (.lst xs))) : TyOf K H (.ref a) (.type "list")
  | tup {a : Addr} {xs : List V} (e : H a = some (.tup xs)) : TyOf K H (.ref a) (.type "tuple")
  | dK {a : Addr} {kvs : List (Key × V)} (e : H a = some (.dK kvs)) : TyOf K H (.ref a) (.type "dict")
  | dT {a : Addr} {kvs : List (Tr × Addr × V)} (e : H a = some (.dT kvs)) : TyOf K H (.ref a) (.type "dict")
  | ins {a C dx : Addr} {fs : List (Str × V)} (e : H a = some (.ins C dx fs)) (cl : Cls K C) (ha : PySem.W.findIn K (.ref C) "__class__" = some (some (.builtin "object.__class__")))
      (hn : PySem.W.specialIn K (.builtin "object.__class__") "__get__" = some (some (.builtin "getset_descriptor.__get__"))) (htk : PySem.W.takesIn K (.builtin "object.__class__") = some true)
      (hm : PySem.W.mroIn K C (.type "object") = some true) : TyOf K H (.ref a) (.ref C)
end
end L2

namespace L2
open PySem PySem.Spec PyProof.Rows

structure Room (k : Nat) (A : Around) : Prop where
  hd : A.handled = none
  dp : A.depth + 3 * k + 5 < recursionLimit
  un : A.units + 16 * k + 200 < cLine
theorem Room.mono {j k : Nat} {A : Around} (r : Room k A) (h : j ≤ k) : Room j A := ⟨r.hd, by have := r.dp; omega, by have := r.un; omega⟩
theorem Room.deeper {k : Nat} {A : Around} (r : Room (k + 1) A) (env : Env) : Room k (A.deeper env) :=
  ⟨r.hd, by have := r.dp; show A.depth + 1 + 3 * k + 5 < _; omega, by have := r.un; show A.units + 3 + 16 * k + 200 < _; omega⟩
theorem Room.depth {k : Nat} {A : Around} (r : Room k A) : A.depth < recursionLimit := by have := r.dp; omega
theorem Room.units {k : Nat} {A : Around} (r : Room k A) : A.units + 64 < cLine := by have := r.un; omega
noncomputable def QhX : TA := fun _ H Q => Q [] H
noncomputable def QhK (ta : TE) (tr : TA) : TA := fun σ H Q => ta σ H fun x H1 => tr σ H1 fun xs H2 => Q (x :: xs) H2
section
variable {X : Cx} {e : Expr} {es : List Expr} {te : TE} {t : TA} {pos : Pos}
theorem QeR : PA X [] QhX := fun _ _ _ _ H Q I h => Calls.spliced_nil ⟨[], H, I, .nil, h⟩
theorem Qep (ha : PE X e te) (hr : PA X es t) (hs : starEach (e :: es) X.env = (false, eval e X.env) :: starEach es X.env := by rfl) : PA X (e :: es) (QhK te t) := by
  intro pos pins s σ H Q I h
  rw [hs]
  show wpAny _ _ (spliced ((false, eval e X.env) :: backTo pos (starEach es X.env))) _ _ s
  refine Calls.spliced_cons (thn (ha pins s σ H _ I h) fun u s1 ⟨x, H1, I1, r1, q1⟩ => ?_)
  exact thn (hr pos pins s1 σ H1 _ I1 q1) fun us s2 ⟨xs, H2, I2, r2, q2⟩ => ⟨x :: xs, H2, I2, .cons r1 r2, q2⟩

noncomputable def Qkh (t : TA) : TE := fun σ H Q => t σ H fun xs H1 => xs.length ≤ sizeLine ∧ ∀ p, H1 p = none → Q (.ref p) (upd H1 p (.tup xs))
noncomputable def QjD (t : TA) : TE := fun σ H Q => t σ H fun xs H1 => xs.length ≤ sizeLine ∧ ∀ p, H1 p = none → Q (.ref p) (upd H1 p (.lst xs))
theorem QeM {x1} (h : PA X es t) : PE X (.Tuple es x1 pos) (Qkh t) := by
  intro pins s σ H Q I hq
  refine wpAny_Tuple_spliced (thn (h pos pins s σ H _ I hq) fun us s1 ⟨xs, H1, I1, r, z, q⟩ => ⟨by rw [← r.length]; exact z, ?_⟩)
  have hf : H1 s1.heap.objs.size = none := I1.hok.fresh (Nat.le_refl _)
  refine ⟨.ref s1.heap.objs.size, upd H1 s1.heap.objs.size (.tup xs), I1.laid (t' := s1.toks) (fun b u e => Heap.get?_push_of_some _ e) (Nat.le_refl _) ?_, rfl, q _ hf⟩
  exact ⟨z, us, r, ⟨_, Heap.get?_push_size _ rfl, rfl, _, rfl⟩⟩
theorem QcF (h : PA X es t) : PE X (.List es pos) (QjD t) := by
  intro pins s σ H Q I hq
  refine wpAny_List_spliced (thn (h pos pins s σ H _ I hq) fun us s1 ⟨xs, H1, I1, r, z, q⟩ => ⟨by rw [← r.length]; exact z, ?_⟩)
  have hf : H1 s1.heap.objs.size = none := I1.hok.fresh (Nat.le_refl _)
  refine ⟨.ref s1.heap.objs.size, upd H1 s1.heap.objs.size (.lst xs), I1.laid (t' := s1.toks) (fun b u e => Heap.get?_push_of_some _ e) (Nat.le_refl _) ?_, rfl, q _ hf⟩
  exact ⟨z, us, 0, r, Heap.get?_push_size _ rfl⟩
end

noncomputable abbrev Sp := List V → Hp → VK → XK → Prop
noncomputable abbrev CXT := List Env → Hp → Shared → XK → Value → Shared → Prop

structure Env0 (P : Program) (w : World) (K : PySem.W.Frag) (mg : Str → Option Value) (base : Heap) (A : Around) (outer : List Env) (s : Shared) (H : Hp) : Prop where
  frames : A.frames = some outer
  mod : Mod K mg base
  bs : ∀ b o, base.get? b = some o → s.heap.get? b = some o ∧ H b = none
  bsz : base.objs.size ≤ s.heap.objs.size
  funs : s.heap.FunFrames base outer
  frf : ∀ b ∈ frs outer, H b = none
  hok : HOk P w H s.heap
  bare : AllBare s.gens
noncomputable def CE (outer : List Env) (P : Program) (w : World) (H : Hp) (s : Shared) (Q : VK) (u : Value) (s' : Shared) : Prop :=
  ∃ v H', s'.os = s.os ∧ AllBare s'.gens ∧ Un (frs outer) [] H H' s.heap s'.heap ∧ HOk P w H' s'.heap ∧ RelV v u ∧ Q v H'
noncomputable def CR (CX : CXT) (outer : List Env) (P : Program) (w : World) (H : Hp) (s : Shared) (Q : VK) (E : XK) (r : Result) (s' : Shared) : Prop :=
  match r with
  | .ok (.ret u) => CE outer P w H s Q u s'
  | .ok _ => False
  | .error e => CX outer H s E e s'
structure FnOk (P : Program) (w : World) (K : PySem.W.Frag) (mg : Str → Option Value) (base : Heap) (CX : CXT) (k : Nat) (f : Addr) (fd : FuncData) (ps : List Str) (sp : Sp) : Prop where
  len : ∀ vs H Q E, sp vs H Q E → vs.length = ps.length
  run : ∀ (A : Around) (outer : List Env) (s : Shared) (H : Hp) (args : Args) (us : List Value) (vs : List V) (Q : VK) (E : XK), Room k A → Env0 P w K mg base A outer s H → BindsTo s fd args (ps.zip us) → Vals vs us → sp vs H Q E →
    codeAny (model P w) A (.call (.ref f) args) (CR CX outer P w H s Q E) s
theorem FnOk.imp {P : Program} {w : World} {K : PySem.W.Frag} {mg : Str → Option Value} {base : Heap} {CX : CXT} {k : Nat} {f : Addr} {fd : FuncData} {ps : List Str} {sp sp' : Sp} (F : FnOk P w K mg base CX k f fd ps sp)
    (h : ∀ vs H Q E, sp' vs H Q E → sp vs H Q E) : FnOk P w K mg base CX k f fd ps sp' :=
  ⟨fun vs H Q E q => F.len vs H Q E (h _ _ _ _ q), fun A outer s H args us vs Q E hr he hb hv hs => F.run A outer s H args us vs Q E hr he hb hv (h _ _ _ _ hs)⟩

section
variable {X : Cx} {pins : List (Addr × Obj)} {σ : St} {H : Hp} {s s' : Shared}
theorem Inv.env0 (I : Inv X pins σ H s) : Env0 X.prog X.w X.K X.mg X.base X.A X.stack s H :=
  ⟨I.ok.frames, I.ok.mod, I.bs, Nat.le_trans I.ok.bsz I.sz, I.stack, I.stkFree, I.hok, I.bare⟩
theorem Inv.after {Q : VK} {u : Value} (I : Inv X pins σ H s) (h : CE X.stack X.prog X.w H s Q u s') : EP X pins σ Q u s' := by
  obtain ⟨v, H', os, bare, un, hok, r, q⟩ := h
  obtain ⟨hh, g, d, t, os'⟩ := s'
  obtain rfl : os' = s.os := os
  exact ⟨v, H', I.call (h' := hh) (g' := g) (d' := d) (t' := t) (ch := []) un hok bare (fun b z => absurd z (by simp)), r, q⟩
end

noncomputable def Qdj (sp : Sp) (dvs : List V) (E : XK) (t : TA) : TE := fun σ H Q => t σ H fun vs H1 => sp (vs ++ dvs) H1 Q E
noncomputable def Binds (K : PySem.W.Frag) (fd : FuncData) (ps : List Str) (ds : List Value) : Prop :=
  ∀ (s : Shared) (us : List Value), K.In s.heap → (us ++ ds).length = ps.length → BindsTo s fd ⟨us, []⟩ (ps.zip (us ++ ds))
theorem Binds.all {K : PySem.W.Frag} {fd : FuncData} {ps : List Str} (h : ∀ us : List Value, us.length = ps.length → bindArgs fd ⟨us, []⟩ = pure (ps.zip us)) : Binds K fd ps [] := fun s us _ hl => by
  rw [List.append_nil] at hl ⊢
  exact .of_eq (h us hl)

noncomputable def KI (CX : CXT) (X : Cx) (E : XK) : Prop := ∀ (pins : List (Addr × Obj)) (σ : St) (H : Hp) (s : Shared) (e : Value) (s' : Shared), Inv X pins σ H s → CX X.stack H s E e s' → X.xe e s'

section
variable {X : Cx} {CX : CXT} {k : Nat} {f C : Addr} {fd : FuncData} {ps : List Str} {sp : Sp} {dvs : List V} {ds : List Value} {E : XK} {x m : Str} {p pos apos : Pos} {e o : Expr} {es : List Expr} {ta : TE} {t : TA}

theorem QcA {pins : List (Addr × Obj)} {σ : St} {H : Hp} {s : Shared} {Q : VK} {us : List Value} {vs : List V} (F : FnOk X.prog X.w X.K X.mg X.base CX k f fd ps sp) (hr : Room k X.A) (hb : Binds X.K fd ps ds) (hd : Vals dvs ds) (hx : KI CX X E)
    (I : Inv X pins σ H s) (r : Vals vs us) (h : sp (vs ++ dvs) H Q E) : wpAny (model X.prog X.w) X.A (call (.ref f) us) (EP X pins σ Q) X.xe s := by
  have r2 : Vals (vs ++ dvs) (us ++ ds) := r.append hd
  have hl : (us ++ ds).length = ps.length := by rw [← r2.length]; exact F.len _ _ _ _ h
  refine wpAny_call (codeAny_mono (F.run X.A X.stack s H ⟨us, []⟩ (us ++ ds) (vs ++ dvs) Q E hr I.env0 (hb s us I.kIn hl) r2 h) fun r s' hq => ?_)
  cases r with
  | error e => exact hx pins σ H s e s' I hq
  | ok fl =>
    cases fl with
    | ret u => exact I.after hq
    | next => exact False.elim hq
    | brk => exact False.elim hq
    | cont => exact False.elim hq

theorem Qee (F : FnOk X.prog X.w X.K X.mg X.base CX k f fd ps sp) (hr : Room k X.A) (hg : Gl X x) (hm : X.mg x = some (.ref f)) (hk : PySem.W.keepIn X.K (.ref f) = true) (hb : Binds X.K fd ps ds) (hd : Vals dvs ds) (hx : KI CX X E)
    (ha : PA X (e :: es) t) (hdb : (x == ("__debug__" : Str)) = false := by decide) (he : starEach (e :: es) X.env = (false, eval e X.env) :: starEach es X.env := by rfl) (hpl : (backTo pos (starEach es X.env)).any (·.1) = false := by rfl) :
    PE X (.Call (.Name x p) (e :: es) [] pos) (Qdj sp dvs E t) := by
  intro pins s σ H Q I h
  refine wpAny_Call_Name_kw (Gr I hg hm ?_ hdb)
  refine PySem.W.callWith_K (h₀ := X.base) I.ok.mod.kin hk (thn (ha pos pins s σ H _ I h) fun us s1 ⟨vs, H1, I1, r, q⟩ => ⟨I1.kIn, ?_⟩) he hpl
  exact QcA F hr hb hd hx I1 r q
theorem Qby (F : FnOk X.prog X.w X.K X.mg X.base CX k f fd ps sp) (hr : Room k X.A) (hg : Gl X x) (hm : X.mg x = some (.ref f)) (hk : PySem.W.keepIn X.K (.ref f) = true) (hb : Binds X.K fd ps ds) (hd : Vals dvs ds) (hx : KI CX X E)
    (hdb : (x == ("__debug__" : Str)) = false := by decide) : PE X (.Call (.Name x p) [] [] pos) (Qdj sp dvs E QhX) := by
  intro pins s σ H Q I h
  refine wpAny_Call_Name_kw (Gr I hg hm ?_ hdb)
  exact PySem.W.callWith_K0 I.kIn hk (QcA (us := []) F hr hb hd hx I .nil h)

end

section
variable {X : Cx} {CX : CXT} {k : Nat} {f C : Addr} {fd : FuncData} {ps ks : List Str} {sp : Sp} {E : XK} {x m : Str} {p pos apos kpos : Pos} {e o : Expr} {es : List Expr} {kws : List Keyword} {te ta : TE} {t tk : TA} {nm : Option Str}
variable {g : List Value → List Value → List Value} {gV : List V → List V → List V}
end

structure FnScope (N P : List Str) (sc : Scope) : Prop where
  kind : sc.kind = .function
  co : sc.isCoroutine = false
  gen : sc.isGenerator = false
  nd : N.Nodup
  pre : N.take P.length = P
  par : ∀ x ∈ P, sc.names.lookup x = some .local ∨ sc.names.lookup x = some .cell
  nofree : ∀ y ∈ sc.names, y.2 ≠ .free

theorem YN {kindOf : Str → Option NameKind} {x : Str} : ∀ {binds : List (Str × Value)} {m : Str → Option Value}, (∀ v, (x, v) ∉ binds) → bindL kindOf binds m x = m x
  | [], _, _ => rfl
  | (n, v) :: r, m, h => by
    unfold bindL
    rw [YN fun w hw => h w (List.mem_cons_of_mem _ hw)]
    split
    · have : x ≠ n := by rintro rfl; exact h v List.mem_cons_self
      simp [this]
    · rfl
theorem Wk {kindOf : Str → Option NameKind} {x : Str} : ∀ {binds : List (Str × Value)} {m : Str → Option Value}, (∀ v, (x, v) ∉ binds) → bindC kindOf binds m x = m x
  | [], _, _ => rfl
  | (n, v) :: r, m, h => by
    unfold bindC
    rw [Wk fun w hw => h w (List.mem_cons_of_mem _ hw)]
    split
    · rfl
    · have : x ≠ n := by rintro rfl; exact h v List.mem_cons_self
      simp [this]
theorem Wf {kindOf : Str → Option NameKind} {x : Str} {v : Value} : ∀ {P : List Str} {vs : List Value} {i : Nat} {m : Str → Option Value}, P.Nodup → P[i]? = some x → vs[i]? = some v → kindOf x = some .local →
    bindL kindOf (P.zip vs) m x = some v
  | [], _, _, _, _, h, _, _ => by simp at h
  | _ :: _, [], _, _, _, _, h, _ => by simp at h
  | p :: P, w :: vs, 0, m, nd, h1, h2, hk => by
    simp at h1 h2; subst h1; subst h2
    show bindL kindOf ((p, w) :: P.zip vs) m p = _
    unfold bindL
    rw [YN fun v hv => (List.nodup_cons.mp nd).1 (List.of_mem_zip hv).1, if_pos hk]
    simp
  | p :: P, w :: vs, i + 1, m, nd, h1, h2, hk => by
    show bindL kindOf ((p, w) :: P.zip vs) m x = _
    unfold bindL
    exact Wf (i := i) (List.nodup_cons.mp nd).2 (by simpa using h1) (by simpa using h2) hk
theorem Wm {kindOf : Str → Option NameKind} {x : Str} {v : Value} : ∀ {P : List Str} {vs : List Value} {i : Nat} {m : Str → Option Value}, P.Nodup → P[i]? = some x → vs[i]? = some v → kindOf x ≠ some .local →
    bindC kindOf (P.zip vs) m x = some v
  | [], _, _, _, _, h, _, _ => by simp at h
  | _ :: _, [], _, _, _, _, h, _ => by simp at h
  | p :: P, w :: vs, 0, m, nd, h1, h2, hk => by
    simp at h1 h2; subst h1; subst h2
    show bindC kindOf ((p, w) :: P.zip vs) m p = _
    unfold bindC
    rw [Wk fun v hv => (List.nodup_cons.mp nd).1 (List.of_mem_zip hv).1, if_neg hk]
    simp
  | p :: P, w :: vs, i + 1, m, nd, h1, h2, hk => by
    show bindC kindOf ((p, w) :: P.zip vs) m x = _
    unfold bindC
    exact Wm (i := i) (List.nodup_cons.mp nd).2 (by simpa using h1) (by simpa using h2) hk

noncomputable def start (N : List Str) (vs : List V) : St := vs.map some ++ List.replicate (N.length - vs.length) none

noncomputable def Qci (CX : CXT) (P : Program) (w : World) (K : PySem.W.Frag) (mg : Str → Option Value) (base : Heap) (N : List Str) (qual : Str) (scope : Scope) (f : Addr) (cd : Value) (A : Around) (outer : List Env) (s : Shared) (H : Hp) (E : XK) : Cx where
  prog := P
  w := w
  K := K
  mg := mg
  base := base
  A := A.deeper (envOfC qual scope s.heap.objs.size f cd)
  N := N
  s₀ := s
  H₀ := H
  env := envOfC qual scope s.heap.objs.size f cd
  outer := outer
  stack := envOfC qual scope s.heap.objs.size f cd :: outer
  ex := []
  calm := true
  fn := fun _ => true
  pn := []
  xe := fun e s' => wpAny (model P w) (A.deeper (envOfC qual scope s.heap.objs.size f cd)) (leaving (envOfC qual scope s.heap.objs.size f cd) e) (fun _ s'' => CX outer H s E e s'') (fun e' s'' => CX outer H s E e' s'') s'

theorem UE {sc : Scope} {n : Nat} {x : Str} (h : sc.names.lookup x = some .cell) : ∃ c, (cellsFrom n sc.names []).lookup x = some c := by
  have q := PySem.W.cellsFrom_some sc.names n [] (.inl h)
  exact Option.isSome_iff_exists.mp q

theorem G4 {CX : CXT} {P : Program} {w : World} {K : PySem.W.Frag} {mg : Str → Option Value} {base : Heap} {N ps : List Str} {qual : Str} {scope : Scope} {f : Addr} {cd : Value} {A : Around} {outer : List Env} {s s1 : Shared} {H : Hp} {E : XK} {us : List Value} {vs : List V}
    (S : FnScope N ps scope) (hd : A.handled = none) (e0 : Env0 P w K mg base A outer s H) (hl : vs.length = ps.length) (r : Vals vs us)
    (x : InCallC s s.heap.objs.size (bindL (envOfC qual scope s.heap.objs.size f cd).kindOf (ps.zip us) fun _ => none) (cellsFrom (s.heap.objs.size + 1) scope.names []) (bindC (envOfC qual scope s.heap.objs.size f cd).kindOf (ps.zip us) fun _ => none) s1) :
    Inv (Qci CX P w K mg base N qual scope f cd A outer s H E) [] (start N vs) H s1 := by
  have hpl : ps.length ≤ N.length := by have := congrArg List.length S.pre; rw [List.length_take] at this; omega
  obtain ⟨h1, tk, rfl, hk⟩ := x.done
  have noA : ∀ b : Addr, b ∉ (Qci CX P w K mg base N qual scope f cd A outer s H E).ex := fun b z => absurd (show b ∈ ([] : List Addr) from z) (by simp)
  refine ⟨⟨e0.mod, S.kind, rfl, rfl, Nat.le_refl _, fun y z c h1 h2 => ?_, fun y hy => ?_, fun y c _ h => ?_, fun _ => hd, Around.frames_deeper e0.frames, .inr ⟨rfl, rfl⟩, fun b z => absurd z (noA b), e0.bs, e0.bsz, fun b _ _ => noA b, fun b z => absurd z (noA b), e0.funs, e0.frf⟩,
    rfl, e0.bare, Un.kept hk, ⟨_, x.toInCall.ns, fun i y v h1 h2 h3 => ?_⟩, fun y c h => ⟨_, x.cell y c h⟩, e0.hok.fresh (Nat.le_refl _), fun y c h => ?_, fun p hp => absurd (show p ∈ ([] : List (Addr × Obj)) from hp) (by simp), e0.hok.kept hk, ?_⟩
  · exact name_of_addr x.apart (PySem.mem_of_lookup h1) (PySem.mem_of_lookup h2)
  · have hy : scope.names.lookup y = some .cell ∨ scope.names.lookup y = some .free := hy
    rcases hy with hy | hy
    · exact UE hy
    · exact absurd rfl (S.nofree _ (PySem.mem_of_lookup hy))
  · exact Nat.le_of_lt (x.above y c (PySem.mem_of_lookup h))
  · have hi : i < vs.length := by
      unfold start at h2
      by_cases hi : i < vs.length
      · exact hi
      · rw [List.getElem?_append_right (by simpa using hi)] at h2
        rw [List.getElem?_replicate] at h2
        split at h2 <;> cases h2
    have ha : vs[i]? = some v := by
      unfold start at h2
      rw [List.getElem?_append_left (by simpa using hi), List.getElem?_map] at h2
      cases e : vs[i]? with
      | none => rw [e] at h2; cases h2
      | some a => rw [e] at h2; cases h2; rfl
    obtain ⟨u, hu, rv⟩ := r.get ha
    have hp : ps[i]? = some y := by
      rw [← S.pre, List.getElem?_take_of_lt (by omega)]; exact h1
    have ndP : ps.Nodup := by rw [← S.pre]; exact S.nd.sublist (List.take_sublist _ _)
    refine ⟨u, rv, ?_⟩
    rcases S.par y (List.mem_of_getElem? hp) with k | k
    · exact .inl ⟨k, Wf ndP hp hu k⟩
    · obtain ⟨c, e⟩ := UE (n := s.heap.objs.size + 1) k
      refine .inr ⟨.inl k, c, e, ?_⟩
      have q := x.cell y c e
      rw [Wm ndP hp hu (by show scope.names.lookup y ≠ _; rw [k]; decide)] at q
      exact q
  · exact e0.hok.fresh (Nat.le_of_lt (x.above y c (PySem.mem_of_lookup h)))
  · unfold start
    show _ = N.length
    rw [List.length_append, List.length_map, List.length_replicate]
    omega

theorem QhG {CX : CXT} {P : Program} {w : World} {K : PySem.W.Frag} {mg : Str → Option Value} {base : Heap} {k : Nat} {f : Addr} {name qual : Str} {params : Arguments} {body : List Stmt} {scope : Scope} {dV kV doc pm cdv ct oc : Value} {an od : Option Addr}
    {osl : Array (Option Value)} {N ps : List Str} {sp : Sp} (lk : K.lookup f = some ⟨oc, od, .func (PySem.W.fnOf name qual params body scope dV kV doc pm an cdv ct), osl⟩) (hcd : PySem.W.codeIn K cdv qual = true) (S : FnScope N ps scope)
    (len : ∀ vs H Q E, sp vs H Q E → vs.length = ps.length)
    (hbody : ∀ (A : Around) (outer : List Env) (s : Shared) (H : Hp) (vs : List V) (Q : VK) (E : XK), Room k (A.deeper (envOfC qual scope s.heap.objs.size f cdv)) → sp vs H Q E →
      ∃ t, PSs (Qci CX P w K mg base N qual scope f cdv A outer s H E) body t ∧ t { nx := fun _ H' => Q .non H', rt := Q } (start N vs) H) :
    FnOk P w K mg base CX (k + 1) f (PySem.W.fnOf name qual params body scope dV kV doc pm an cdv ct) ps sp := by
  refine ⟨len, fun A outer s H args us vs Q E hr e0 hb r hsp => ?_⟩
  have hl := len _ _ _ _ hsp
  have KX : K.In s.heap := e0.mod.kin.keeps fun b o e => (e0.bs b o e).1
  have lim : s.heap.NoLimit := e0.mod.nolimit.keeps fun b o e => (e0.bs b o e).1
  have hkind : ∀ y ∈ ps.zip us, scope.names.lookup y.1 = some .local ∨ (scope.names.lookup y.1 = some .cell ∧ ((cellsFrom (s.heap.objs.size + 1) scope.names []).lookup y.1).isSome = true) := fun ⟨n, v⟩ hy => by
    rcases S.par n (List.of_mem_zip hy).1 with q | q
    · exact .inl q
    · exact .inr ⟨q, PySem.W.cellsFrom_some _ _ _ (.inl q)⟩
  refine codeAny_call_function hr.depth (KX _ _ lk) rfl S.co S.gen rfl (PySem.W.codeRec_of KX hcd) (hb _ _ _ _ ?_)
  refine wpAny_newFunctionEnv_cells S.kind hkind fun env he s1 x => ?_
  subst he
  refine ⟨lim.keeps x.toInCall.keep, codeAny_func ?_⟩
  obtain ⟨t, ht, hq⟩ := hbody A outer s H vs Q E (hr.deeper _) hsp
  have I : Inv (Qci CX P w K mg base N qual scope f cdv A outer s H E) [] (start N vs) H s1 := G4 S hr.hd e0 hl r x
  refine wpAny_mono (ht [] s1 (start N vs) H _ I hq) (fun fl s' hs => ?_) fun e s' hs => hs
  have fin : ∀ {σ' : St} {H' : Hp} {v : V} {u : Value}, Inv (Qci CX P w K mg base N qual scope f cdv A outer s H E) [] σ' H' s' → RelV v u → Q v H' → CE outer P w H s Q u s' :=
    fun {σ' H' v u} J rv q => ⟨v, H', J.os, J.bare, J.base, J.hok, rv, q⟩
  cases fl with
  | ret u =>
    obtain ⟨v, σ', H', J, rv, q⟩ := hs
    exact fin J rv q
  | next =>
    obtain ⟨σ', H', J, q⟩ := hs
    exact fin (v := V.non) (u := Value.none) J rfl q
  | brk =>
    obtain ⟨_, _, _, q⟩ := hs
    exact False.elim q
  | cont =>
    obtain ⟨_, _, _, q⟩ := hs
    exact False.elim q
end L2

namespace L2
open PySem PySem.Spec PyProof.Rows
section
variable {X : Cx} {x : Str} {p pos : Pos} {e : Expr} {es : List Expr} {t : TA} {id T : String} {r : List V → Hp → VK → Prop}

noncomputable def tCB (r : List V → Hp → VK → Prop) (t : TA) : TE := fun σ H Q => t σ H fun vs H1 => r vs H1 Q
theorem Qa1 (hc : CallR X (.builtin id) r) (hg : Gl X x) (hm : X.mg x = none) (hv : bootBuiltins x = some (.builtin id)) (ha : PA X (e :: es) t) (hn : x ≠ "__name__" := by decide) (hdb : (x == ("__debug__" : Str)) = false := by decide)
    (he : starEach (e :: es) X.env = (false, eval e X.env) :: starEach es X.env := by rfl) (hpl : (backTo pos (starEach es X.env)).any (·.1) = false := by rfl) : PE X (.Call (.Name x p) (e :: es) [] pos) (tCB r t) := by
  intro pins s σ H Q I h
  refine wpAny_Call_Name_kw (KP I hg hm hv ?_ hn hdb)
  exact PyProof.Rows.callWith_builtin1 (thn (ha pos pins s σ H _ I h) fun us s1 ⟨vs, H1, I1, r1, q1⟩ => hc pins s1 σ H1 vs us Q I1 r1 q1) he hpl
theorem GB (hc : CallR X (.type T) r) (hg : Gl X x) (hm : X.mg x = none) (hv : bootBuiltins x = some (.type T)) (ha : PA X (e :: es) t) (hn : x ≠ "__name__" := by decide) (hdb : (x == ("__debug__" : Str)) = false := by decide)
    (he : starEach (e :: es) X.env = (false, eval e X.env) :: starEach es X.env := by rfl) (hpl : (backTo pos (starEach es X.env)).any (·.1) = false := by rfl) : PE X (.Call (.Name x p) (e :: es) [] pos) (tCB r t) := by
  intro pins s σ H Q I h
  refine wpAny_Call_Name_kw (KP I hg hm hv ?_ hn hdb)
  exact PyProof.Rows.callWith_type1 (thn (ha pos pins s σ H _ I h) fun us s1 ⟨vs, H1, I1, r1, q1⟩ => hc pins s1 σ H1 vs us Q I1 r1 q1) he hpl
end
end L2

namespace HT
open PySem PyProof.Rows

section
open PySem.SeqAt
open PySem.AutoSeq1 (wpAny_loadPart')
open PySem.MeetsSeq PySem.MeetsSeq2 PySem.MeetsSeq3

end

section
variable {prog : Program} {w : World} {A : Around} {E : Value → Shared → Prop} {s : Shared}

theorem cat_tup {t b : Addr} {vs ws : List Value} {Q : Value → Shared → Prop} (ht : IsTup s.heap t vs.toArray) (hb : IsTup s.heap b ws.toArray) (hv : vs ≠ [])
    (h1 : ws = [] → Q (.ref t) s) (h2 : ws ≠ [] → Q (.ref s.heap.objs.size) { s with heap := s.heap.push { cls := .type "tuple", data := .seq (vs ++ ws).toArray } })
    (hsz : vs.length + ws.length ≤ sizeLine) : wpAny (model prog w) A (binaryOp .Add (.ref t) (.ref b)) Q E s := by
  obtain ⟨⟨cls, dd, data, sl⟩, ho, hc, n, hd⟩ := id ht
  obtain ⟨⟨cls2, dd2, data2, sl2⟩, ho2, hc2, n2, hd2⟩ := id hb
  simp only at hc hd hc2 hd2
  subst hc hd hc2 hd2
  have e : vs.toArray ++ ws.toArray = (vs ++ ws).toArray := by simp
  by_cases hw : ws = []
  · exact concat_meets ⟨_, ho, rfl⟩ ⟨_, ho2, rfl⟩ noFill_tuple_add seq_tuple_add PySem.F.slot_tuple_add PySem.F.entry_tuple_add (PySem.F.args_tuple_add_2 _ _)
      (tuple_addW1 t b vs.toArray ws.toArray n n2 dd dd2 sl sl2 (by simpa using hv) (by simp [hw])) ⟨ho, ho2, h1 hw⟩
  · refine concat_meets ⟨_, ho, rfl⟩ ⟨_, ho2, rfl⟩ noFill_tuple_add seq_tuple_add PySem.F.slot_tuple_add PySem.F.entry_tuple_add (PySem.F.args_tuple_add_2 _ _)
      (tuple_addW2 t b vs.toArray ws.toArray n n2 dd dd2 sl sl2 (by simpa using hv) (by simpa using hw) (by rw [List.size_toArray, List.size_toArray]; exact hsz)) ⟨ho, ho2, ?_⟩
    rw [e]
    exact h2 hw

noncomputable def sIx (n d : Nat) : Option Int → Nat
  | none => d
  | some v => if v < 0 then (v + (n : Int)).toNat else min v.toNat n
theorem sIx_none (n d : Nat) : sIx n d none = d := rfl
theorem sIx_nat (n d k : Nat) : sIx n d (some (k : Int)) = min k n := by
  show (if (k : Int) < 0 then ((k : Int) + (n : Int)).toNat else min (k : Int).toNat n) = min k n
  rw [if_neg (by omega), Int.toNat_natCast]
theorem QeX (n d : Nat) (hd : d ≤ n) (o : Option Int) : sIx n d o ≤ n := by
  cases o with
  | none => exact hd
  | some v =>
    show (if v < 0 then (v + (n : Int)).toNat else min v.toNat n) ≤ n
    by_cases hv : v < 0
    · rw [if_pos hv]; omega
    · rw [if_neg hv]; exact Nat.min_le_right _ _
theorem GH (v : Int) (n d : Nat) : (if v < 0 then max (v + (n : Int)) 0 else min v (n : Int)) = ((sIx n d (some v) : Nat) : Int) := by
  show (if v < 0 then max (v + (n : Int)) 0 else min v (n : Int)) = (((if v < 0 then (v + (n : Int)).toNat else min v.toNat n) : Nat) : Int)
  by_cases hv : v < 0
  · simp only [if_pos hv]; omega
  · simp only [if_neg hv]; omega
theorem Gg (lo hi : Option Int) (n : Nat) : Builtin.Slice.sliceAdjust lo hi 1 (n : Int) = (((sIx n 0 lo : Nat) : Int), ((sIx n n hi : Nat) : Int)) := by
  have h1 : ¬ ((1 : Int) < 0) := by omega
  unfold Builtin.Slice.sliceAdjust
  simp only [h1, if_false]
  refine Prod.ext ?_ ?_
  · cases lo with
    | none => rfl
    | some v => exact GH v n 0
  · cases hi with
    | none => rfl
    | some v => exact GH v n n
theorem UX (i j : Nat) : Builtin.Slice.slicePlaces (i : Int) (j : Int) 1 = j - i := by
  unfold Builtin.Slice.slicePlaces
  have h1 : (1 : Int) > 0 := by omega
  simp only [h1, if_true, Int.ediv_one]
  split <;> omega
theorem KK {v : Value} {o : Option Int} {Q : Option Int → Shared → Prop} (p : IsPart v o) (h : Q o s) : wpAny (model prog w) A (Builtin.Slice.slicePartIndex v) Q E s := by
  cases p with
  | none => exact slicePart_none h
  | int i t => exact slicePart_int h
theorem sliceApplied_gen {sl : Addr} {vl vu : Value} {lo hi : Option Int} {n : Nat} {Q : Int × Int × Nat → Shared → Prop} (hs : s.heap.IsSliceOf sl vl vu .none) (pl : IsPart vl lo) (pu : IsPart vu hi)
    (h : Q (((sIx n 0 lo : Nat) : Int), 1, sIx n n hi - sIx n 0 lo) s) : wpAny (model prog w) A (Builtin.Slice.sliceApplied (.ref sl) (pure (n : Int))) Q E s := by
  obtain ⟨os, hos, hcs, hds⟩ := id hs
  unfold Builtin.Slice.sliceApplied Builtin.Slice.sliceFields
  refine wpAny_bind (wpAny_bind (wpAny_field hos hds (x := vl) rfl (wpAny_bind (wpAny_field hos hds (x := vu) rfl (wpAny_bind (wpAny_field hos hds (x := .none) rfl (wpAny_pure ?_)))))))
  refine wpAny_bind (slicePart_none ?_)
  show wpAny _ _ (if ((1 : Int) == 0) = true then _ else _) _ _ s
  rw [if_neg (by decide)]
  refine wpAny_bind (KK pl (wpAny_bind (KK pu (wpAny_bind (wpAny_pure ?_)))))
  show wpAny _ _ (match Builtin.Slice.sliceAdjust lo hi 1 (n : Int) with | (lo, hi) => pure (lo, (1 : Int), Builtin.Slice.slicePlaces lo hi 1)) _ _ s
  rw [Gg lo hi n]
  show wpAny _ _ (pure (((sIx n 0 lo : Nat) : Int), (1 : Int), Builtin.Slice.slicePlaces ((sIx n 0 lo : Nat) : Int) ((sIx n n hi : Nat) : Int) 1)) _ _ s
  rw [UX]
  exact wpAny_pure h
theorem QbM (xs : Array Value) (i k : Nat) : ((List.range k).filterMap fun (m : Nat) => xs[((i : Int) + (m : Int) * 1).toNat]?).toArray = ((xs.toList.drop i).take k).toArray := by
  have e : (fun (m : Nat) => xs[((i : Int) + (m : Int) * 1).toNat]?) = fun m => xs[i + m]? := by
    funext m
    have : ((i : Int) + (m : Int) * 1).toNat = i + m := by omega
    rw [this]
  rw [e]
  have := pick_run xs i k
  rw [List.filterMap_map] at this
  have e2 : ((fun x => xs[x]?) ∘ fun x => i + x) = fun m => xs[i + m]? := rfl
  rw [e2] at this
  rw [this]

theorem getItem_tuple_cut {t sl : Addr} {items : Array Value} {vl vu : Value} {lo hi : Option Int} {Q : Value → Shared → Prop} (ht : IsTup s.heap t items) (hs : s.heap.IsSliceOf sl vl vu .none) (pl : IsPart vl lo) (pu : IsPart vu hi)
    (hw : ¬ (sIx items.size 0 lo = 0 ∧ sIx items.size items.size hi = items.size))
    (h : Q (.ref s.heap.objs.size) { s with heap := s.heap.push { cls := .type "tuple", data := .seq ((items.toList.drop (sIx items.size 0 lo)).take (sIx items.size items.size hi - sIx items.size 0 lo)).toArray } })
    (hsz : items.size ≤ sizeLine) : wpAny (model prog w) A (getItem (.ref t) (.ref sl)) Q E s := by
  have htake : sizeOk (.seq ((items.toList.drop (sIx items.size 0 lo)).take (sIx items.size items.size hi - sIx items.size 0 lo)).toArray) := by
    show ((items.toList.drop (sIx items.size 0 lo)).take (sIx items.size items.size hi - sIx items.size 0 lo)).toArray.size ≤ sizeLine
    rw [List.size_toArray, List.length_take, List.length_drop, Array.length_toList]
    omega
  have hj : sIx items.size items.size hi ≤ items.size := QeX _ _ (Nat.le_refl _) hi
  obtain ⟨os, hos, hcs, hds⟩ := id hs
  have hTs : s.TypeIs (.ref sl) "slice" := ⟨os, hos, hcs⟩
  unfold getItem
  try with_reducible refine wpAny_holding ?_
  first | refine wpAny_bind (wpAny_pure ?_) | skip
  refine wpAny_bind (wpAny_sequenceKey ht.typeIs (by decide) ?_)
  refine wpAny_bind (wpAny_callSpecial?_slot (name := Str.ofString "__getitem__") ht.typeIs PyProof.Rows.slot_tuple_getitem
    (wpAny_call_entry PyProof.Rows.slot_tuple_getitem ht.typeIs entry_tuple_getitem ?_ (args_tuple_getitem _ _)))
  show wpAny _ _ (Builtin.Tuple.tupleItemsOf (.ref t) >>= _) _ _ s
  refine wpAny_bind (tupleItemsOf_ ht ?_)
  refine wpAny_bind (wpAny_typeOf hTs ?_)
  rw [if_pos (by decide)]
  refine wpAny_bind (sliceApplied_gen hs pl pu ?_)
  have hno : ¬ ((((sIx items.size 0 lo : Nat) : Int) == 0 && (1 : Int) == 1 && (sIx items.size items.size hi - sIx items.size 0 lo) == items.size) = true) := by
    intro q
    rw [Bool.and_eq_true, Bool.and_eq_true] at q
    have q1 : ((sIx items.size 0 lo : Nat) : Int) = 0 := eq_of_beq q.1.1
    have q2 : sIx items.size items.size hi - sIx items.size 0 lo = items.size := eq_of_beq q.2
    exact hw ⟨by omega, by omega⟩
  show wpAny _ _ (if (((sIx items.size 0 lo : Nat) : Int) == 0 && (1 : Int) == 1 && (sIx items.size items.size hi - sIx items.size 0 lo) == items.size) = true then _ else _) _ _ s
  rw [if_neg hno, QbM]
  first
    | exact wpAny_bind (m := Builtin.Tuple.tupleExact _) (wpAny_newObj_type (wpAny_pure ⟨_, rfl, wpAny_pure h⟩) htake)
    | exact wpAny_bind (m := Builtin.Tuple.tupleExact _) (wpAny_newObj_type (wpAny_bind (wpAny_pure (wpAny_pure ⟨_, rfl, wpAny_pure h⟩))) htake)
    | exact wpAny_bind (wpAny_bind (m := Builtin.Tuple.tupleExact _) (wpAny_newObj_type (wpAny_pure (wpAny_pure ⟨_, rfl, wpAny_pure h⟩)) htake))
    | exact wpAny_bind (wpAny_bind (m := Builtin.Tuple.tupleExact _) (wpAny_newObj_type (wpAny_pure ⟨_, rfl, wpAny_pure h⟩) htake))
end
end HT

namespace L2
open PySem PySem.Spec PyProof.Rows

noncomputable abbrev TO := St → Hp → (Option Int → Hp → Prop) → Prop
noncomputable def PO (X : Cx) (e : Option Expr) (t : TO) : Prop :=
  ∀ (pins : List (Addr × Obj)) (s : Shared) (σ : St) (H : Hp) (Q : Option Int → Hp → Prop), Inv X pins σ H s → t σ H Q →
    wpAny (model X.prog X.w) X.A (evalPart e X.env) (fun u s' => ∃ o H', Inv X pins σ H' s' ∧ IsPart u o ∧ Q o H') X.xe s
noncomputable def QdF : TO := fun _ H Q => Q none H
noncomputable def Qgw (t : TE) : TO := fun σ H Q => t σ H fun x H1 => ∃ i, x = .int i ∧ Q (some i) H1

section
variable {X : Cx} {e : Expr} {te : TE} {lo hi : Option Expr} {tl th : TO} {pos p2 : Pos}

theorem Qd4 : PO X none QdF := by
  intro pins s σ H Q I h
  rw [evalPart_none]
  exact wpAny_pure ⟨none, H, I, .none, h⟩
theorem Qea (h : PE X e te) : PO X (some e) (Qgw te) := by
  intro pins s σ H Q I hw
  rw [evalPart_some]
  refine thn (h pins s σ H _ I hw) fun u s1 ⟨x, H1, I1, r1, q1⟩ => ?_
  obtain ⟨i, rfl, q⟩ := q1
  obtain ⟨t, rfl⟩ := r1
  exact ⟨some i, H1, I1, .int i t, q⟩

noncomputable def SlR (X : Cx) (r : V → Option Int → Option Int → Hp → VK → Prop) : Prop :=
  ∀ (pins : List (Addr × Obj)) (s : Shared) (σ : St) (H : Hp) (x : V) (v vl vu : Value) (lo hi : Option Int) (sl : Addr) (Q : VK), Inv X pins σ H s → RelV x v → s.heap.IsSliceOf sl vl vu .none → IsPart vl lo → IsPart vu hi → r x lo hi H Q →
    ∃ T id, typeLookup (.type T) "__getitem__" = pure (some (.builtin id)) ∧ s.TypeIs v T ∧ wpAny (model X.prog X.w) X.A (getItem v (.ref sl)) (EP X pins σ Q) X.xe s
theorem SlR.or {r r' : V → Option Int → Option Int → Hp → VK → Prop} (h : SlR X r) (h' : SlR X r') : SlR X (fun x lo hi H Q => r x lo hi H Q ∨ r' x lo hi H Q) := by
  intro pins s σ H x v vl vu lo hi sl Q I rx hs pl pu q
  rcases q with q | q
  · exact h pins s σ H x v vl vu lo hi sl Q I rx hs pl pu q
  · exact h' pins s σ H x v vl vu lo hi sl Q I rx hs pl pu q
noncomputable def tSl (r : V → Option Int → Option Int → Hp → VK → Prop) (te : TE) (tl th : TO) : TE := fun σ H Q => te σ H fun x H1 => tl σ H1 fun l H2 => th σ H2 fun u H3 => r x l u H3 Q
theorem Qa5 {r : V → Option Int → Option Int → Hp → VK → Prop} (hr : SlR X r) (he : PE X e te) (hl : PO X lo tl) (hu : PO X hi th) : PE X (.Subscript e (.Slice lo hi none p2) pos) (tSl r te tl th) := by
  intro pins s σ H Q I h
  refine Subscript_ (thn (he pins s σ H _ I h) fun v s1 ⟨x, H1, I1, r1, q1⟩ => ?_)
  refine wpAny_Slice (thn (hl pins s1 σ H1 _ I1 q1) fun vl s2 ⟨l, H2, I2, pl, q2⟩ => thn (hu pins s2 σ H2 _ I2 q2) fun vu s3 ⟨u, H3, I3, pu, q3⟩ => ?_)
  rw [evalPart_none]
  refine wpAny_pure ?_
  have I4 : Inv X pins σ H3 { s3 with heap := s3.heap.push { cls := .type "slice", data := .fields #[vl, vu, .none] } } := I3.kept (t' := s3.toks) fun b ob q => Heap.get?_push_of_some _ q
  obtain ⟨T, id, hT, ht, hg⟩ := hr pins { s3 with heap := s3.heap.push { cls := .type "slice", data := .fields #[vl, vu, .none] } } σ H3 x v vl vu l u s3.heap.objs.size Q I4 r1 (Heap.IsSliceOf.new ..) pl pu q3
  show wpAny (model X.prog X.w) X.A (subscriptTail e (.Slice lo hi none p2) v (.ref s3.heap.objs.size)) (EP X pins σ Q) X.xe { s3 with heap := s3.heap.push { cls := .type "slice", data := .fields #[vl, vu, .none] } }
  exact tail_any (ops := [.ref s3.heap.objs.size, v]) ht hT hg (by with_unfolding_all rfl)

noncomputable def QbW (xs : List V) (lo hi : Option Int) : List V := (xs.drop (HT.sIx xs.length 0 lo)).take (HT.sIx xs.length xs.length hi - HT.sIx xs.length 0 lo)
theorem XM (xs : List V) (lo hi : Option Int) : (QbW xs lo hi).length ≤ xs.length := by
  unfold QbW
  rw [List.length_take, List.length_drop]
  omega
noncomputable def Qjt (K : PySem.W.Frag) : V → Option Int → Option Int → Hp → VK → Prop := fun x lo hi H Q => ∃ a xs, x = .ref a ∧ SqT K H a xs ∧
  ¬ (HT.sIx xs.length 0 lo = 0 ∧ HT.sIx xs.length xs.length hi = xs.length) ∧ ∀ p, H p = none → Q (.ref p) (upd H p (.tup (QbW xs lo hi)))
theorem Qfb : SlR X (Qjt X.K) := by
  intro pins s σ H x v vl vu lo hi sl Q I rx hs pl pu h
  obtain ⟨a, xs, rfl, hx, hw, q⟩ := h
  cases rx
  obtain ⟨its, r, ht, hz⟩ := I.tuple hx
  have hlen : its.toArray.size = xs.length := by rw [List.size_toArray]; exact r.length.symm
  refine ⟨"tuple", _, PyProof.Rows.slot_tuple_getitem.lookup, ht.typeIs, ?_⟩
  refine HT.getItem_tuple_cut ht hs pl pu (by rw [hlen]; exact hw) ?_ (by rw [hlen]; exact hz)
  rw [hlen]
  refine ⟨.ref s.heap.objs.size, _, I.laid (t' := s.toks) (o := .tup (QbW xs lo hi)) (fun b ob q => Heap.get?_push_of_some _ q) (Nat.le_refl _) ?_, rfl, q _ (I.hok.fresh (Nat.le_refl _))⟩
  exact ⟨Nat.le_trans (XM xs lo hi) hz, _, (r.drop (HT.sIx xs.length 0 lo)).take (HT.sIx xs.length xs.length hi - HT.sIx xs.length 0 lo), IsTup.new _ _⟩

noncomputable def Qhz (K : PySem.W.Frag) : R2 := fun x y H Q => ∃ a b xs ys, x = .ref a ∧ y = .ref b ∧ SqT K H a xs ∧ SqT K H b ys ∧ xs ≠ [] ∧ xs.length + ys.length ≤ sizeLine ∧
  (ys = [] → Q (.ref a) H) ∧ (ys ≠ [] → ∀ p, H p = none → Q (.ref p) (upd H p (.tup (xs ++ ys))))
theorem Vals.nil_iff {xs : List V} {us : List Value} (r : Vals xs us) : us = [] ↔ xs = [] := by
  cases r with
  | nil => simp
  | cons _ _ => simp
theorem Qek : OpR X (binaryOp .Add) (Qhz X.K) := by
  intro pins s σ H x y v u Q I rx ry h
  obtain ⟨a, b, xs, ys, rfl, rfl, ha, hb, hx, hz, q1, q2⟩ := h
  cases rx
  cases ry
  obtain ⟨its, r1, p1, _⟩ := I.tuple ha
  obtain ⟨its2, r2, p2, _⟩ := I.tuple hb
  refine HT.cat_tup p1 p2 (fun z => hx (r1.nil_iff.mp z)) (fun z => ⟨.ref a, H, I, rfl, q1 (r2.nil_iff.mp z)⟩) (fun z => ?_) (by rw [← r1.length, ← r2.length]; exact hz)
  refine ⟨.ref s.heap.objs.size, _, I.laid (t' := s.toks) (o := .tup (xs ++ ys)) (fun b ob q => Heap.get?_push_of_some _ q) (Nat.le_refl _) ?_, rfl, q2 (fun w => z (r2.nil_iff.mpr w)) _ (I.hok.fresh (Nat.le_refl _))⟩
  exact ⟨by rw [List.length_append]; exact hz, _, r1.append r2, IsTup.new _ _⟩
end
end L2

namespace L2
open PySem PySem.Spec PyProof.Rows

noncomputable def ixN (n : Nat) (i : Int) : Option Nat := if 0 ≤ i then (if i < n then some i.toNat else none) else if -(n : Int) ≤ i then some (i + n).toNat else none
noncomputable def atI {α : Type} (xs : List α) (i : Int) : Option α := (ixN xs.length i).bind fun j => xs[j]?
theorem QaN {n : Nat} {i : Int} {j : Nat} (h : ixN n i = some j) : seqIndex? i n = some j ∧ j < n ∧ -(n : Int) ≤ i ∧ i < n := by
  unfold ixN at h
  by_cases h0 : 0 ≤ i
  · rw [if_pos h0] at h
    by_cases h1 : i < n
    · rw [if_pos h1] at h
      have e : i.toNat = j := Option.some.inj h
      exact ⟨by rw [seqIndex_of h0 h1, e], by omega, by omega, h1⟩
    · rw [if_neg h1] at h; cases h
  · rw [if_neg h0] at h
    by_cases h1 : -(n : Int) ≤ i
    · rw [if_pos h1] at h
      have e : (i + n).toNat = j := Option.some.inj h
      exact ⟨by rw [seqIndex_neg (by omega) h1, e], by omega, h1, by omega⟩
    · rw [if_neg h1] at h; cases h
theorem WA {α : Type} {xs : List α} {i : Int} {v : α} (h : atI xs i = some v) : ∃ j, seqIndex? i xs.length = some j ∧ xs[j]? = some v ∧ j < xs.length ∧ -(xs.length : Int) ≤ i ∧ i < xs.length := by
  unfold atI at h
  cases e : ixN xs.length i with
  | none => rw [e] at h; cases h
  | some j =>
    rw [e] at h
    obtain ⟨h1, h2, h3, h4⟩ := QaN e
    exact ⟨j, h1, h, h2, h3, h4⟩
theorem Qdn {α : Type} {xs : List α} {j : Nat} {v : α} (h : xs[j]? = some v) : atI xs (j : Int) = some v := by
  have hj : j < xs.length := (List.getElem?_eq_some_iff.mp h).1
  have e : ixN xs.length (j : Int) = some j := by
    unfold ixN
    rw [if_pos (by omega), if_pos (by omega)]; simp
  unfold atI; rw [e]; exact h
noncomputable def G5 (b : Expr) : Prop := ∀ o i, subscripted b false o i = operate [o, i] (getItem o i)
noncomputable def IxR (X : Cx) (r : R2) : Prop :=
  ∀ (value slice : Expr) (pins : List (Addr × Obj)) (s : Shared) (σ : St) (H : Hp) (x y : V) (v u : Value) (Q : VK), Inv X pins σ H s → RelV x v → RelV y u → r x y H Q →
    subscripted slice false v u = operate [v, u] (getItem v u) → wpAny (model X.prog X.w) X.A (subscriptTail value slice v u) (EP X pins σ Q) X.xe s
noncomputable def MtR (X : Cx) (id : String) (r : V → List V → Hp → VK → Prop) : Prop :=
  ∀ (pins : List (Addr × Obj)) (s : Shared) (σ : St) (H : Hp) (x : V) (xs : List V) (v : Value) (us : List Value) (Q : VK), Inv X pins σ H s → RelV x v → Vals xs us → r x xs H Q →
    wpAny (model X.prog X.w) X.A (call (.builtin id) (v :: us)) (EP X pins σ Q) X.xe s
section
variable {X : Cx} {a b : Expr} {ta tb : TE} {pos : Pos}
theorem IxR.or {r r' : R2} (h : IxR X r) (h' : IxR X r') : IxR X (fun x y H Q => r x y H Q ∨ r' x y H Q) := by
  intro value slice pins s σ H x y v u Q I rx ry q hs
  rcases q with q | q
  · exact h value slice pins s σ H x y v u Q I rx ry q hs
  · exact h' value slice pins s σ H x y v u Q I rx ry q hs
theorem QhR {r : R2} (hr : IxR X r) (ha : PE X a ta) (hb : PE X b tb) (hs : G5 b) : PE X (.Subscript a b pos) (tOp r ta tb) := by
  intro pins s σ H Q I h
  exact Subscript_ (Qiq ha hb I h fun v u s2 x y H2 I2 rx ry q => hr a b pins s2 σ H2 x y v u Q I2 rx ry q (hs _ _))

noncomputable def Qio (K : PySem.W.Frag) : R2 := fun x y H Q => ∃ p xs i v, x = .ref p ∧ y = .int i ∧ SqL K H p xs ∧ atI xs i = some v ∧ Q v H
noncomputable def Qi6 (K : PySem.W.Frag) : R2 := fun x y H Q => ∃ p xs i v, x = .ref p ∧ y = .int i ∧ SqT K H p xs ∧ atI xs i = some v ∧ Q v H
noncomputable def Qin : R2 := fun x y H Q => ∃ z i c, x = .str z ∧ y = .int i ∧ z.length ≤ sizeLine ∧ atI z.cps.toList i = some c ∧ Q (.str ⟨#[c]⟩) H
theorem ix_list : IxR X (Qio X.K) := by
  intro value slice pins s σ H x y v u Q I rx ry h hs
  obtain ⟨p, xs, i, z, rfl, rfl, hq, he, q⟩ := h
  cases rx
  obtain ⟨t, rfl⟩ := ry
  obtain ⟨its, r, pl, hz⟩ := I.list hq
  obtain ⟨j, h1, h2, h3, h4, h5⟩ := WA he
  obtain ⟨w, ew, rw'⟩ := r.get h2
  have hl := r.length
  have hn := XN
  have fin : EP X pins σ Q w s := ⟨z, H, I, rw', q⟩
  by_cases h0 : 0 ≤ i
  · have hj : i.toNat = j := by
      rw [seqIndex_of h0 h5] at h1
      exact Option.some.inj h1
    exact item_listR pl.isList h0 (by omega) (by rw [hj]; simpa using ew) fin hs
  · have hj : (i + (its.toArray.size : Int)).toNat = j := by
      rw [seqIndex_neg (by omega) h4] at h1
      rw [List.size_toArray, ← hl]
      exact Option.some.inj h1
    exact subscriptTail_builtinR (x := w) pl.isList.typeIs slot_list_getitem.lookup
      (wpAny_getItem_list_neg (Q := fun r s' => r = w ∧ EP X pins σ Q r s') pl.isList (by omega) (by rw [List.size_toArray] <;> omega) (by omega) (by rw [hj]; simpa using ew) ⟨rfl, fin⟩) hs
theorem ix_tup : IxR X (Qi6 X.K) := by
  intro value slice pins s σ H x y v u Q I rx ry h hs
  obtain ⟨p, xs, i, z, rfl, rfl, hq, he, q⟩ := h
  cases rx
  obtain ⟨t, rfl⟩ := ry
  obtain ⟨its, r, pl, hz⟩ := I.tuple hq
  obtain ⟨j, h1, h2, h3, h4, h5⟩ := WA he
  obtain ⟨w, ew, rw'⟩ := r.get h2
  have hl := r.length
  have hn := XN
  have fin : EP X pins σ Q w s := ⟨z, H, I, rw', q⟩
  exact subscriptTail_builtinR (x := w) pl.typeIs slot_tuple_getitem.lookup
    (getItem_tuple (j := j) (Q := fun r s' => r = w ∧ EP X pins σ Q r s') pl (by omega) (by omega) (by rw [List.size_toArray, ← hl]; exact h1) (by simpa using ew) ⟨rfl, fin⟩) hs
theorem QfK : IxR X Qin := by
  intro value slice pins s σ H x y v u Q I rx ry h hs
  obtain ⟨z, i, c, rfl, rfl, hz, he, q⟩ := h
  obtain ⟨t, rfl⟩ := rx
  obtain ⟨t', rfl⟩ := ry
  obtain ⟨j, h1, h2, h3, h4, h5⟩ := WA he
  have hl : z.cps.toList.length = z.length := by simp [Str.length]
  rw [hl] at h1 h4 h5
  have hn := XN
  exact tail_any (typeIs_str s z t) slot_str_getitem.lookup (getItem_str (c := c) (by
    have e1 : decide (i < -(2 ^ 63 : Int)) = false := decide_eq_false (by omega)
    have e2 : decide (i ≥ 2 ^ 63) = false := decide_eq_false (by omega)
    rw [e1, e2, Bool.or_false]) (by rw [h1]; simpa using h2) ⟨.str ⟨#[c]⟩, H, I.tok _, ⟨_, rfl⟩, q⟩) hs
noncomputable def rIx (K : PySem.W.Frag) : R2 := fun x y H Q => Qio K x y H Q ∨ Qi6 K x y H Q ∨ Qin x y H Q
theorem Qf0 : IxR X (rIx X.K) := ix_list.or (ix_tup.or QfK)

theorem UU (its : List Value) (n j : Nat) (u : Value) : Obj.mapSeq (·.setIfInBounds j u) { cls := .type "list", data := .seq its.toArray n } = { cls := .type "list", data := .seq (its.set j u).toArray n } := by
  simp [Obj.mapSeq]
theorem Inv.lst {pins : List (Addr × Obj)} {σ : St} {H : Hp} {s : Shared} {p : Addr} {xs : List V} (I : Inv X pins σ H s) (h : H p = some (.lst xs)) :
    ∃ (its : List Value) (n : Nat), Vals xs its ∧ s.heap.get? p = some { cls := .type "list", data := .seq its.toArray n } ∧ xs.length ≤ sizeLine := by
  obtain ⟨z, its, n, r, e⟩ := I.hok p _ h
  exact ⟨its, n, r, e, z⟩
theorem Inv.lstUpd {pins : List (Addr × Obj)} {σ : St} {H : Hp} {s : Shared} {p : Addr} {xs ys : List V} {its its' : List Value} {n n' : Nat} {f : Obj → Obj} (I : Inv X pins σ H s) (h : H p = some (.lst xs))
    (ho : s.heap.get? p = some { cls := .type "list", data := .seq its.toArray n }) (hf : f { cls := .type "list", data := .seq its.toArray n } = { cls := .type "list", data := .seq its'.toArray n' }) (r : Vals ys its') (hz : ys.length ≤ sizeLine) (t : Nat) :
    Inv X pins σ (upd H p (.lst ys)) { s with heap := s.heap.update p f, toks := t } := by
  have e : (s.heap.update p f).get? p = some { cls := .type "list", data := .seq its'.toArray n' } := by
    rw [Heap.get?_update_self f ho (by rw [hf] <;> rfl), hf]
  refine I.write (x := p) (e := p) (by rw [h]; trivial) (.inl rfl) (fun b u hb q => (Heap.get?_update_other _ _ (Ne.symm hb)).trans q) ⟨_, e⟩ ?_
  exact ⟨hz, its', n', r, e⟩
noncomputable def Qfz : V → V → V → Hp → (Hp → Prop) → Prop := fun o i v H Q => ∃ p xs k j, o = .ref p ∧ i = .int k ∧ H p = some (.lst xs) ∧ ixN xs.length k = some j ∧ Q (upd H p (.lst (xs.set j v)))
theorem Qbg : Qh6 X Qfz := by
  intro pins s σ H o i v ov iv u Q I ro ri rv h
  obtain ⟨p, xs, k, j, rfl, rfl, hp, hj, q⟩ := h
  cases ro
  obtain ⟨t, rfl⟩ := ri
  obtain ⟨its, n, r, ho, hz⟩ := I.lst hp
  obtain ⟨h1, h2, h3, h4⟩ := QaN hj
  have hl := r.length
  have hn := XN
  have I' : Inv X pins σ (upd H p (.lst (xs.set j v))) { s with heap := s.heap.update p (Obj.mapSeq (·.setIfInBounds j u)) } :=
    I.lstUpd hp ho (UU its n j u) (r.set rv j) (by rw [List.length_set]; exact hz) s.toks
  by_cases h0 : 0 ≤ k
  · have hk : k.toNat = j := by
      rw [seqIndex_of h0 h4] at h1
      exact Option.some.inj h1
    exact PySem.W.ki_setAt ho h0 (by omega) (by rw [List.size_toArray, ← hl]; exact h4) (by rw [hk]; exact ⟨_, I', q⟩)
  · have hk : (k + (its.toArray.size : Int)).toNat = j := by
      rw [seqIndex_neg (by omega) h3] at h1
      rw [List.size_toArray, ← hl]
      exact Option.some.inj h1
    exact PySem.W.ki_setBack ho (by omega) (by rw [List.size_toArray, ← hl]; exact h3) (by omega) (by rw [hk]; exact ⟨_, I', q⟩)

theorem Y2 (lo hi : Option Int) (n : Nat) : (sliceBounds lo hi none n).1 = ((HT.sIx n 0 lo : Nat) : Int) ∧ (sliceBounds lo hi none n).2.1 = ((HT.sIx n n hi : Nat) : Int) ∧ (sliceBounds lo hi none n).2.2 = 1 := by
  refine ⟨?_, ?_, rfl⟩
  · cases lo with
    | none => simp [sliceBounds, HT.sIx]
    | some i =>
      simp only [sliceBounds, HT.sIx, Option.getD_none, show (1 : Int) > 0 by decide, if_true]
      by_cases h : i < 0
      · simp only [h, if_true] <;> omega
      · simp only [h, if_false] <;> omega
  · cases hi with
    | none => simp [sliceBounds, HT.sIx]
    | some i =>
      simp only [sliceBounds, HT.sIx, Option.getD_none, show (1 : Int) > 0 by decide, if_true]
      by_cases h : i < 0
      · simp only [h, if_true] <;> omega
      · simp only [h, if_false] <;> omega
theorem K1 (its : List Value) (lo hi : Option Int) : slicePick its.toArray lo hi none = ((its.drop (HT.sIx its.length 0 lo)).take (HT.sIx its.length its.length hi - HT.sIx its.length 0 lo)).toArray := by
  obtain ⟨h1, h2, h3⟩ := Y2 lo hi its.toArray.size
  unfold slicePick
  rw [h1, h2, h3]
  simp only [sliceRange_one, pick_run, List.size_toArray] <;> rfl
noncomputable def Qjz (K : PySem.W.Frag) : V → Option Int → Option Int → Hp → VK → Prop := fun x lo hi H Q => ∃ a xs, x = .ref a ∧ SqL K H a xs ∧ ∀ p, H p = none → Q (.ref p) (upd H p (.lst (QbW xs lo hi)))
theorem sl_list : SlR X (Qjz X.K) := by
  intro pins s σ H x v vl vu lo hi sl Q I rx hs pl pu h
  obtain ⟨a, xs, rfl, hx, q⟩ := h
  cases rx
  obtain ⟨its, r, ht, hz⟩ := I.list hx
  have hlen := r.length
  refine ⟨"list", _, slot_list_getitem.lookup, ht.isList.typeIs, ?_⟩
  refine wpAny_getItem_list_slice ht.isList hs pl pu .none (by simp) ?_ (by rw [List.size_toArray] <;> omega)
  rw [K1, ← hlen]
  refine ⟨.ref s.heap.objs.size, _, I.laid (t' := s.toks) (o := .lst (QbW xs lo hi)) (fun b ob q => Heap.get?_push_of_some _ q) (Nat.le_refl _) ?_, rfl, q _ (I.hok.fresh (Nat.le_refl _))⟩
  exact ⟨Nat.le_trans (XM xs lo hi) hz, _, 0, (r.drop (HT.sIx xs.length 0 lo)).take (HT.sIx xs.length xs.length hi - HT.sIx xs.length 0 lo), Heap.get?_push_size _ rfl⟩

noncomputable def QdH : V → Bool
  | .non => true
  | .bl _ => true
  | .int _ => true
  | .str _ => true
  | _ => false
noncomputable def eqV : V → V → Bool
  | .non, .non => true
  | .bl a, .bl b => a == b
  | .bl a, .int b => (if a then 1 else 0) == b
  | .int a, .bl b => a == (if b then 1 else 0)
  | .int a, .int b => a == b
  | .str a, .str b => a == b
  | _, _ => false
theorem QeF {A : Around} {s : Shared} {y x : V} {u v : Value} (ry : RelV y u) (rx : RelV x v) (fy : QdH y = true) (fx : QdH x = true) : SeqAt.EqAt A s u v (eqV y x) := by
  cases y with
  | non =>
    cases ry
    cases x with
    | non => cases rx; exact SeqAt.EqAt.same _
    | bl b => cases rx; exact SeqAt.EqAt.none_bool b
    | int b => obtain ⟨t, rfl⟩ := rx; exact SeqAt.EqAt.none_int b t
    | str b => obtain ⟨t, rfl⟩ := rx; exact SeqAt.EqAt.none_str b t
    | _ => exact absurd (show false = true from fx) Bool.false_ne_true
  | bl a =>
    cases ry
    cases x with
    | non => cases rx; exact SeqAt.EqAt.bool_none a
    | bl b => cases rx; exact SeqAt.EqAt.bool_bool a b
    | int b => obtain ⟨t, rfl⟩ := rx; exact SeqAt.EqAt.bool_int a b t
    | str b => obtain ⟨t, rfl⟩ := rx; exact SeqAt.EqAt.bool_str a b t
    | _ => exact absurd (show false = true from fx) Bool.false_ne_true
  | int a =>
    obtain ⟨t', rfl⟩ := ry
    cases x with
    | non => cases rx; exact SeqAt.EqAt.int_none a t'
    | bl b => cases rx; exact SeqAt.EqAt.int_bool a t' b
    | int b => obtain ⟨t, rfl⟩ := rx; exact SeqAt.EqAt.int_int a t' b t
    | str b => obtain ⟨t, rfl⟩ := rx; exact SeqAt.EqAt.int_str a t' b t
    | _ => exact absurd (show false = true from fx) Bool.false_ne_true
  | str a =>
    obtain ⟨t', rfl⟩ := ry
    cases x with
    | non => cases rx; exact SeqAt.EqAt.str_none a t'
    | bl b => cases rx; exact SeqAt.EqAt.str_bool a t' b
    | int b => obtain ⟨t, rfl⟩ := rx; exact SeqAt.EqAt.str_int a t' b t
    | str b => obtain ⟨t, rfl⟩ := rx; exact SeqAt.EqAt.str_str a t' b t
    | _ => exact absurd (show false = true from fx) Bool.false_ne_true
  | _ => exact absurd (show false = true from fy) Bool.false_ne_true
theorem call_len_seq : CallR X (.builtin "len") (fun xs H Q => ∃ p ys, xs = [.ref p] ∧ (SqL X.K H p ys ∨ SqT X.K H p ys) ∧ Q (.int ys.length) H) := by
  intro pins s σ H xs us Q I r h
  obtain ⟨p, ys, rfl, hq, q⟩ := h
  obtain ⟨u, rfl, rx⟩ := Qa9 r
  cases rx
  have hn := XN
  rcases hq with hq | hq
  · obtain ⟨its, r', pl, hz⟩ := I.list hq
    have hlen := r'.length
    exact Calls.call_len_list pl.isList (by simp only [List.size_toArray] <;> omega) ⟨.int ys.length, H, I.tok _, ⟨s.toks + 1, by rw [List.size_toArray, hlen]⟩, q⟩
  · obtain ⟨its, r', pl, hz⟩ := I.tuple hq
    have hlen := r'.length
    exact len_tuple pl (by simp only [List.size_toArray] <;> omega) ⟨.int ys.length, H, I.tok _, ⟨s.toks + 1, by rw [List.size_toArray, hlen]⟩, q⟩
theorem Ws : CallR X (.builtin "len") (fun xs H Q => ∃ z, xs = [.str z] ∧ z.length ≤ sizeLine ∧ Q (.int z.length) H) := by
  intro pins s σ H xs us Q I r h
  obtain ⟨z, rfl, hz, q⟩ := h
  obtain ⟨u, rfl, t, rfl⟩ := Qa9 r
  have hn := XN
  exact len_str (by omega) ⟨.int z.length, H, I.tok _, ⟨_, rfl⟩, q⟩
theorem CallR.or {f : Value} {r r' : List V → Hp → VK → Prop} (h : CallR X f r) (h' : CallR X f r') : CallR X f (fun xs H Q => r xs H Q ∨ r' xs H Q) := by
  intro pins s σ H xs us Q I rs q
  rcases q with q | q
  · exact h pins s σ H xs us Q I rs q
  · exact h' pins s σ H xs us Q I rs q
theorem Yc : CallR X (.type "tuple") (fun xs H Q => ∃ p ys, xs = [.ref p] ∧ ((SqL X.K H p ys ∧ ∀ l, H l = none → Q (.ref l) (upd H l (.tup ys))) ∨ (SqT X.K H p ys ∧ Q (.ref p) H))) := by
  intro pins s σ H xs us Q I r h
  obtain ⟨p, ys, rfl, h⟩ := h
  obtain ⟨u, rfl, rx⟩ := Qa9 r
  cases rx
  rcases h with ⟨hq, q⟩ | ⟨hq, q⟩
  · obtain ⟨its, r', pl, hz⟩ := I.list hq
    have hlen := r'.length
    refine call_tuple_list pl.isList (fun h' kp => ?_) (by simp only [List.size_toArray] <;> omega)
    have I1 : Inv X pins σ H { s with heap := h' } := I.kept (t' := s.toks) kp
    have I2 : Inv X pins σ (upd H h'.objs.size (.tup ys)) { s with heap := h'.push { cls := .type "tuple", data := .seq its.toArray } } :=
      I1.laid (t' := s.toks) (fun b o e => Heap.get?_push_of_some _ e) (Nat.le_refl _) (show ObjOk X.prog X.w _ _ _ (.tup ys) from ⟨hz, its, r', IsTup.new _ _⟩)
    exact ⟨.ref h'.objs.size, _, I2, rfl, q _ (I1.hok.fresh (Nat.le_refl _))⟩
  · obtain ⟨its, r', pl, hz⟩ := I.tuple hq
    exact call_tuple_same pl ⟨.ref p, H, I, rfl, q⟩

noncomputable def tyV (K : PySem.W.Frag) (T : String) (x : V) (H : Hp) : Prop := match x with
  | .str _ => T = "str"
  | .int _ => T = "int"
  | .ref p => (T = "list" ∧ ∃ xs, SqL K H p xs) ∨ (T = "tuple" ∧ ∃ o, K.lookup p = some o ∧ o.cls = .type "tuple" ∧ o.dict = none) ∨
      (T = "dict" ∧ ((∃ kvs, H p = some (.dK kvs)) ∨ ∃ kvs, H p = some (.dT kvs))) ∨ (T = "set" ∧ ∃ S n, H p = some (.set S n))
  | _ => False
theorem Qcj {pins : List (Addr × Obj)} {σ : St} {H : Hp} {s : Shared} {T : String} {x : V} {v : Value} (I : Inv X pins σ H s) (r : RelV x v) (ty : tyV X.K T x H) :
    s.TypeIs v T ∧ ∀ a, v = .ref a → ∃ ob, s.heap.get? a = some ob ∧ ob.dict = none := by
  cases x with
  | str z =>
    obtain ⟨t, rfl⟩ := r
    cases (show T = "str" from ty)
    exact ⟨typeIs_str s z t, fun _ e => nomatch e⟩
  | int i =>
    obtain ⟨t, rfl⟩ := r
    cases (show T = "int" from ty)
    exact ⟨typeIs_int s i t, fun _ e => nomatch e⟩
  | ref p =>
    cases r
    rcases ty with ⟨rfl, xs, hq⟩ | ⟨rfl, o, hk, hc, hd⟩ | ⟨rfl, hk⟩ | ⟨rfl, S, n, hk⟩
    · obtain ⟨its, _, pl, _⟩ := I.list hq
      refine ⟨pl.isList.typeIs, fun a e => ?_⟩
      cases e
      obtain ⟨o, n, e, c, hd, _⟩ := pl
      exact ⟨o, e, hd⟩
    · refine ⟨⟨o, I.kIn p o hk, hc⟩, fun a e => ?_⟩
      cases e
      exact ⟨o, I.kIn _ o hk, hd⟩
    · have z : ∃ o, s.heap.get? p = some o ∧ o.ExactDict := by
        rcases hk with ⟨kvs, hk⟩ | ⟨kvs, hk⟩
        · obtain ⟨_, _, _, _, o, _, _, e, ex, _⟩ := I.hok p _ hk
          exact ⟨o, e, ex⟩
        · obtain ⟨_, _, _, _, o, _, _, e, ex, _⟩ := I.hok p _ hk
          exact ⟨o, e, ex⟩
      obtain ⟨o, e, ex⟩ := z
      refine ⟨⟨o, e, ex.1⟩, fun a e2 => ?_⟩
      cases e2
      exact ⟨o, e, ex.2.1⟩
    · obtain ⟨o, _, _, _, e, ex, _⟩ := I.hok p _ hk
      refine ⟨⟨o, e, ex.1⟩, fun a e2 => ?_⟩
      cases e2
      exact ⟨o, e, ex.2.1⟩
  | _ => exact False.elim ty
noncomputable def Qkl (K : PySem.W.Frag) (T : String) (r : V → List V → Hp → VK → Prop) (to : TE) : TE := fun σ H Q => to σ H fun x H1 => tyV K T x H1 ∧ r x [] H1 Q
noncomputable def tBM (K : PySem.W.Frag) (T : String) (r : V → List V → Hp → VK → Prop) (to : TE) (t : TA) : TE := fun σ H Q => to σ H fun x H1 => tyV K T x H1 ∧ t σ H1 fun xs H2 => r x xs H2 Q
variable {o e : Expr} {es : List Expr} {to : TE} {t : TA} {name : Str} {apos cpos : Pos} {T id : String} {r : V → List V → Hp → VK → Prop}
theorem Qfu (pa : PlainAttrs T) (slot : Slot T name id) (hty : typeOf (.builtin id) = pure (.type "method_descriptor")) (hm : MtR X id r) (ho : PE X o to)
    (hbase : attributeBase o name X.env (eval o X.env) = eval o X.env := by rfl) (hline : (apos.endLine == cpos.line) = true := by rfl) : PE X (.Call (.Attribute o name apos) [] [] cpos) (Qkl X.K T r to) := by
  intro pins s σ H Q I h
  refine wpAny_Call_method0_late hbase hline (thn (ho pins s σ H _ I h) fun v s1 ⟨x, H1, I1, r1, ty, q1⟩ => ?_)
  obtain ⟨h1, h2⟩ := Qcj I1 r1 ty
  exact ⟨T, id, pa, slot, hty, h1, h2, Calls.callWith_builtin rfl (PySem.evalArgs_none (hm pins s1 σ H1 x [] v [] Q I1 r1 .nil q1))⟩
theorem QhD (pa : PlainAttrs T) (slot : Slot T name id) (hty : typeOf (.builtin id) = pure (.type "method_descriptor")) (hm : MtR X id r) (ho : PE X o to) (ha : PA X (e :: es) t)
    (hbase : attributeBase o name X.env (eval o X.env) = eval o X.env := by rfl)
    (hfew : ((backTo cpos (starEach (e :: es) X.env)).all (fun x => !x.1) && (backToKw cpos (keywordEach [] X.env)).all (fun x => x.1.isSome)
      && decide ((e :: es).length + ([] : List Keyword).length + (if ([] : List Keyword).isEmpty then 0 else 1) < 30)) = true := by rfl)
    (hline : (apos.endLine == cpos.line) = true := by rfl) (hs : starEach (e :: es) X.env = (false, eval e X.env) :: starEach es X.env := by rfl) (hplain : (backTo cpos (starEach es X.env)).any (·.1) = false := by rfl) :
    PE X (.Call (.Attribute o name apos) (e :: es) [] cpos) (tBM X.K T r to t) := by
  intro pins s σ H Q I h
  refine wpAny_Call_method_late hbase hfew hline rfl (thn (ho pins s σ H _ I h) fun v s1 ⟨x, H1, I1, r1, ty, q1⟩ => ?_)
  obtain ⟨h1, h2⟩ := Qcj I1 r1 ty
  refine ⟨T, id, pa, slot, hty, h1, h2, ?_⟩
  have hA := ha cpos pins s1 σ H1 _ I1 q1
  rw [hs] at hA ⊢
  refine Calls.callWith_builtin (by show (false || (backTo cpos (starEach es X.env)).any (·.1)) = false; rw [hplain] <;> rfl) (Calls.evalArgs_plain ?_)
  exact thn hA fun us s2 ⟨vs, H2, I2, r2, q2⟩ => hm pins s2 σ H2 x vs v us Q I2 r1 r2 q2
end
end L2

namespace L2
open PySem PySem.Spec PyProof.Rows

noncomputable def MtM (X : Cx) (id : String) (r : V → List V → Hp → VK → Prop) : Prop :=
  ∀ (pins : List (Addr × Obj)) (s : Shared) (σ : St) (H : Hp) (x : V) (xs : List V) (v : Value) (us : List Value) (Q : VK), Inv X pins σ H s → RelV x v → Vals xs us → r x xs H Q →
    wpAny (model X.prog X.w) X.A (call (.builtin id) (v :: us)) (EP X pins σ Q) X.xe s

theorem Vals.one : ∀ {x : V} {us : List Value}, Vals [x] us → ∃ u, us = [u] ∧ RelV x u
  | _, _, .cons r .nil => ⟨_, rfl, r⟩
theorem Vals.zero : ∀ {us : List Value}, Vals [] us → us = []
  | _, .nil => rfl
theorem Vals.dropLast {xs : List V} {us : List Value} (h : Vals xs us) : Vals xs.dropLast us.dropLast := by
  induction h with
  | nil => exact .nil
  | cons r t ih =>
    cases t with
    | nil => exact .nil
    | cons q t' => exact .cons r ih
theorem Vals.eraseIdx : ∀ {xs : List V} {us : List Value} (i : Nat), Vals xs us → Vals (xs.eraseIdx i) (us.eraseIdx i)
  | _, _, _, .nil => .nil
  | _, _, 0, .cons _ t => t
  | _, _, i + 1, .cons r t => .cons r (Vals.eraseIdx i t)
theorem UY {α : Type} (l : List α) : l.eraseIdx (l.length - 1) = l.dropLast := by
  induction l with
  | nil => rfl
  | cons a r ih =>
    cases r with
    | nil => rfl
    | cons b r =>
      have e : (a :: b :: r).length - 1 = ((b :: r).length - 1) + 1 := by
        have h1 : (a :: b :: r).length = r.length + 2 := rfl
        have h2 : (b :: r).length = r.length + 1 := rfl
        omega
      rw [e, List.eraseIdx_cons_succ, ih]
      all_goals rfl
section
variable {X : Cx} {pins : List (Addr × Obj)} {σ : St} {H : Hp} {s : Shared} {l b : Addr} {xs ys zs : List V}

theorem Inv.lset {its its' : List Value} {n : Nat} {f : Array Value → Array Value} {t' : Nat} (I : Inv X pins σ H s) (hH : H l = some (.lst xs))
    (e : s.heap.get? l = some { cls := .type "list", data := .seq its.toArray n }) (hf : f its.toArray = its'.toArray) (hv : Vals ys its') (hz : ys.length ≤ sizeLine) :
    Inv X pins σ (upd H l (.lst ys)) { s with heap := s.heap.update l (Obj.mapSeq f), toks := t' } := by
  have q := PySem.IsL.update e f
  rw [hf] at q
  refine I.write (x := l) (e := l) (by rw [hH]; exact trivial) (.inl rfl) (fun b' u hb hu => (Heap.get?_update_other s.heap (Obj.mapSeq f) (Ne.symm hb)).trans hu) ⟨_, q⟩ ?_
  exact ⟨hz, its', _, hv, q⟩
theorem Inv.lnew {its : List Value} {t' : Nat} (I : Inv X pins σ H s) (hv : Vals ys its) (hz : ys.length ≤ sizeLine) :
    Inv X pins σ (upd H s.heap.objs.size (.lst ys)) { s with heap := s.heap.push { cls := .type "list", data := .seq its.toArray }, toks := t' } :=
  I.laid (fun _ _ q => Heap.get?_push_of_some _ q) (Nat.le_refl _) ⟨hz, its, 0, hv, Heap.get?_push_size _ rfl⟩
theorem Inv.fresh (I : Inv X pins σ H s) : H s.heap.objs.size = none := I.hok.fresh (Nat.le_refl _)
theorem Inv.lstM (I : Inv X pins σ H s) (hH : H l = some (.lst xs)) : xs.length ≤ sizeLine ∧ ∃ (its : List Value) (n : Nat), Vals xs its ∧ xs.length = its.length ∧ s.heap.get? l = some { cls := .type "list", data := .seq its.toArray n } := by
  obtain ⟨z, its, n, r, e⟩ := I.hok l _ hH
  exact ⟨z, its, n, r, r.length, e⟩

theorem UH {n : Nat} (h : n ≤ sizeLine) : Builtin.List.listTooLong n = false := by
  unfold Builtin.List.listTooLong
  exact decide_eq_false (by omega)
end

section
variable {X : Cx}

noncomputable def Qdx : V → List V → Hp → VK → Prop := fun x vs H Q => ∃ l xs y, x = .ref l ∧ vs = [y] ∧ H l = some (.lst xs) ∧ xs.length < sizeLine ∧ Q .non (upd H l (.lst (xs ++ [y])))
theorem QaB : MtM X "list.append" Qdx := by
  intro pins s σ H x vs v us Q I rx rv h
  obtain ⟨l, xs, y, rfl, rfl, hH, hz, q⟩ := h
  cases rx
  obtain ⟨u, rfl, ru⟩ := rv.one
  obtain ⟨z, its, n, r, hl, e⟩ := I.lstM hH
  refine call_meets F.slot_list_append ⟨_, e, rfl⟩ F.entry_list_append (F.args_list_append_2 _ _) (PySem.list_append l its.toArray n u (by rw [List.size_toArray]; omega)) ⟨e, ?_⟩
  refine ⟨.non, _, I.lset (its' := its ++ [u]) hH e (by simp) (r.append (.cons ru .nil)) ?_, rfl, q⟩
  rw [List.length_append, List.length_singleton]
  omega

noncomputable def QdZ : V → List V → Hp → VK → Prop := fun x vs H Q => ∃ l b xs zs, x = .ref l ∧ vs = [.ref b] ∧ H l = some (.lst xs) ∧ H b = some (.lst zs) ∧ xs.length + zs.length ≤ sizeLine ∧ Q .non (upd H l (.lst (xs ++ zs)))
theorem QaR : MtM X "list.extend" QdZ := by
  intro pins s σ H x vs v us Q I rx rv h
  obtain ⟨l, b, xs, zs, rfl, rfl, hH, hB, hz, q⟩ := h
  cases rx
  obtain ⟨u, rfl, ru⟩ := rv.one
  cases ru
  obtain ⟨z, its, n, r, hl, e⟩ := I.lstM hH
  obtain ⟨z2, its2, n2, r2, hl2, e2⟩ := I.lstM hB
  have hsz : its.toArray.size + its2.toArray.size ≤ sizeLine := by rw [List.size_toArray, List.size_toArray]; omega
  have hlong : ¬ (!its.toArray.isEmpty && Builtin.List.listTooLong (its.toArray.size + its2.toArray.size)) = true := by
    rw [UH hsz, Bool.and_false]
    exact Bool.false_ne_true
  refine call_meets F.slot_list_extend ⟨_, e, rfl⟩ F.entry_list_extend (F.args_list_extend_2 _ _)
    (AutoSeq1.list_extend_list_list_0 l its.toArray n b its2.toArray n2 hlong (by rw [List.size_toArray]; omega) (by omega)) ⟨e, e2, ?_⟩
  refine ⟨.non, _, I.lset (its' := its ++ its2) hH e (by simp) (r.append r2) ?_, rfl, q⟩
  rw [List.length_append]
  omega

noncomputable def Qka : V → List V → Hp → VK → Prop := fun x vs H Q => ∃ l xs y, x = .ref l ∧ vs = [] ∧ H l = some (.lst xs) ∧ xs[xs.length - 1]? = some y ∧ Q y (upd H l (.lst xs.dropLast))
theorem Qfk : MtM X "list.pop" Qka := by
  intro pins s σ H x vs v us Q I rx rv h
  obtain ⟨l, xs, y, rfl, rfl, hH, hy, q⟩ := h
  cases rx
  have hus := rv.zero
  subst hus
  obtain ⟨z, its, n, r, hl, e⟩ := I.lstM hH
  obtain ⟨u, hu, ru⟩ := r.get hy
  have hy' : its.toArray[its.toArray.size - 1]? = some u := by
    show its.toArray[its.length - 1]? = some u
    rw [← Array.getElem?_toList, ← hl]
    exact hu
  refine call_meets F.slot_list_pop ⟨_, e, rfl⟩ F.entry_list_pop (F.args_list_pop_1 _) (MeetsSeq.list_pop_last l its.toArray n u hy' (by rw [List.size_toArray]; omega)) ⟨e, ?_⟩
  refine ⟨y, _, I.lset (its' := its.dropLast) hH e ?_ r.dropLast ?_, ru, q⟩
  · show its.toArray.eraseIdxIfInBounds (its.toArray.size - 1) = its.dropLast.toArray
    rw [List.size_toArray, List.eraseIdxIfInBounds_toArray, UY]
  · rw [List.length_dropLast]
    omega

noncomputable def QjN : R2 := fun x y H Q => ∃ l b xs zs, x = .ref l ∧ y = .ref b ∧ H l = some (.lst xs) ∧ H b = some (.lst zs) ∧ xs.length + zs.length ≤ sizeLine ∧ ∀ p, H p = none → Q (.ref p) (upd H p (.lst (xs ++ zs)))
theorem Qe0 : OpR X (binaryOp .Add) QjN := by
  intro pins s σ H x y v u Q I rx ry h
  obtain ⟨l, b, xs, zs, rfl, rfl, hH, hB, hz, q⟩ := h
  cases rx
  cases ry
  obtain ⟨z, its, n, r, hl, e⟩ := I.lstM hH
  obtain ⟨z2, its2, n2, r2, hl2, e2⟩ := I.lstM hB
  refine PySem.P.add_list e e2 ?_ (by rw [List.size_toArray, List.size_toArray]; omega)
  have ea : its.toArray ++ its2.toArray = (its ++ its2).toArray := by simp
  rw [ea]
  exact ⟨.ref _, _, I.lnew (t' := s.toks) (r.append r2) (by rw [List.length_append]; omega), rfl, q _ I.fresh⟩
end

section
variable {prog : Program} {w : World} {A : Around} {E : Value → Shared → Prop} {s : Shared}
end

section
variable {X : Cx}
end
end L2

namespace Att
open PySem PySem.W PySem.Calls PyProof.Rows

theorem Kb {P : Params} {h : Heap} : ∀ (ns : List Int) (vs : List Value), WellAll P h vs (ns.map WData.int) → IntsAre vs ns := by
  intro ns
  induction ns with
  | nil =>
    intro vs w
    rw [List.map_nil] at w
    cases w
    exact .nil
  | cons n ns ih =>
    intro vs w
    rw [List.map_cons] at w
    cases w with
    | cons a b =>
      cases a
      exact .cons _ _ (ih _ b)

theorem Qav {l : OpenLaw} {n : Nat} (hn : l.most = some n) {P : Params} {h : Heap} {args : List WData} {vals : List Value}
    (hpre : l.row.toRowW.claim.pre args = true) (hwl : WellAll P h vals args) :
    ∃ a vs ns, vals = [Value.ref a] ∧ args = [WData.list (ns.map WData.int)] ∧ h.get? a = some { cls := .type "list", data := .seq vs.toArray } ∧ IntsAre vs ns ∧ ns.length ≤ n := by
  have hsh : WShape.hasAll [] args [.list .int] = true := (pre_splitW hpre).1
  have hc : l.pre.holds [] { args := args } = true := (pre_splitW hpre).2
  obtain ⟨d, r, rfl, h1, h2⟩ := hasAllW_cons hsh
  obtain rfl := hasAllW_nil h2
  obtain ⟨xs, rfl, h3⟩ := hasW_list h1
  obtain ⟨ns, rfl⟩ := items_int h3
  have hlen : ns.length ≤ n := by
    unfold OpenLaw.pre at hc
    have h4 : (WTm.not (.lt (.lit (.int (n : Int))) (.len (.arg 0)))).holds [] { args := [.list (ns.map .int)] } = true := by
      have h4 := (holds_andW hc).1
      rw [hn] at h4
      exact h4
    have h5 := condW_of h4 (w_not (w_lt w_lit (w_len_list (w_arg rfl))))
    rw [List.length_map] at h5
    refine Nat.le_of_not_lt fun q => ?_
    have q' : (n : Int) < ((ns.length : Nat) : Int) := by omega
    first
      | (rw [decide_eq_true q'] at h5; exact absurd h5 (by decide))
      | (simp at h5; omega)
  cases hwl with
  | cons w1 w2 =>
    cases w2
    cases w1 with
    | list ho hall => exact ⟨_, _, ns, rfl, rfl, ho, Kb ns _ hall, hlen⟩

theorem QaQ (l : OpenLaw) (args : List WData) : l.row.toRowW.claim.post args (.bool true) args = true :=
  postW_of (r := l.row.toRowW) (X := (true == true))
    (show WShape.has [] (.bool true) .bool = true by first | rfl | decide | simp [WShape.has, WShape.arms, WShape.armsAll])
    (show (WTm.eq .res (.lit (.bool true))).value [] { args := args, res := some (.bool true), after := args } = some (.bool (true == true)) from w_eq_bool (w_res rfl) w_lit) rfl

theorem attach_call {l : OpenLaw} {n : Nat} {q : Program} {loose : List Str} {XP : (Str → Option Value) → Heap → Prop} {YP : World → Heap → Prop} {d : DefRec}
    (hn : l.most = some n) (hdf : d.params.defaults = [])
    (call : ∀ (w : World) (s₀ s₁ : Shared) (mg mb : Str → Option Value) (fa : Addr) (o : Obj) (pm cd doc : Value) (a : Addr) (vs : List Value) (ns : List Int),
      Ground q loose [] XP w s₀ mg mb s₁.heap → YP w s₁.heap →
      s₁.heap.get? fa = some o → o.data = .func (docDef d.name d.params d.body d.scope pm cd doc) → s₁.heap.CodeRec cd d.name → mg d.name = some (.ref fa) →
      s₁.heap.get? a = some { cls := .type "list", data := .seq vs.toArray } → IntsAre vs ns → ns.length ≤ n → s₁.gens = #[] →
      codeAny (model l.prog w) callerA (.call (.ref fa) ⟨[.ref a], []⟩) (fun r s' => r = .ok (.ret (.bool true)) ∧ OldK s₁.heap s'.heap ∧ s'.os = s₁.os ∧ AllBare s'.gens) s₁) :
    WalkO q loose XP YP l.row.toRowW d [] (fun f vs => PySem.call f vs) := by
  intro w s₀ s₁ mg mb G Y fa o pm cd doc dV kV ho hd hcd hD hmg hg args vals as hpre hlay hrd hwl hlo
  obtain rfl : dV = .none := Dflts.none hD hdf
  obtain rfl : kV = .none := Dflts.noKw hD
  obtain ⟨a, vs, ns, rfl, rfl, hobj, hints, hlen⟩ := Qav hn hpre hwl
  refine enter_call (codeAny_mono (call w s₀ s₁ mg mb fa o pm cd doc a vs ns G Y ho (fd_plain hd) hcd hmg hobj hints hlen hg) fun r s' hq => ?_)
  obtain ⟨rfl, h2, h3, h4⟩ := hq
  exact ⟨.inl ⟨.bool true, .bool true, [], rfl, fun _ => rfl, .bool true, QaQ l _, fun _ => ⟨List.Pairwise.nil, fun _ hm => (nomatch hm)⟩⟩, h2, h3, h4⟩

section
variable {prog : Program} {w : World} {A : Around} {E : Value → Shared → Prop} {s : Shared} {K : Frag}

end
end Att

namespace L2
open PySem PySem.Spec PyProof.Rows

theorem YZ : ∀ {vs : List Value} {ns : List Int}, IntsAre vs ns → Vals (ns.map V.int) vs
  | _, _, .nil => .nil
  | _, _, .cons n t h => .cons ⟨t, rfl⟩ (YZ h)

noncomputable def Qhv (H : Hp) : Prop := ∀ b, H b = none ∨ ∃ o xs, H b = some (.frz o (.lst xs))

theorem Qbr {P : Program} {w : World} {K : PySem.W.Frag} {mg mb : Str → Option Value} {CX : CXT} {k : Nat} {fa a : Addr} {fd : FuncData} {x : Str} {sp : Sp} {s₁ : Shared} {vs : List Value} {ns : List Int}
    (KX : K.In s₁.heap) (hns : s₁.heap.Ns mainGlobals mg) (hb : s₁.heap.Ns builtinsNs mb) (hbb : ∀ x : Str, x ≠ "__name__" → mb x = bootBuiltins x) (hlim : s₁.heap.NoLimit) (hg : s₁.gens = #[])
    (ha : s₁.heap.get? a = some { cls := .type "list", data := .seq vs.toArray }) (hi : IntsAre vs ns) (hl : ns.length ≤ sizeLine) (hr : Room k callerA)
    (F : ∀ base : Heap, K.In base → base.Ns mainGlobals mg → FnOk P w K mg base CX k fa fd [x] sp) (hbind : ∀ (s : Shared) (u : Value), BindsTo s fd ⟨[u], []⟩ [(x, u)])
    (hsp : ∀ H : Hp, Qhv H → SqL K H a (ns.map V.int) → sp [.ref a] H (fun v _ => v = .bl true) fun _ _ _ => False)
    (hCX : ∀ H e s', CX [] H s₁ (fun _ _ _ => False) e s' → False) :
    codeAny (model P w) callerA (.call (.ref fa) ⟨[.ref a], []⟩) (fun r s' => r = .ok (.ret (.bool true)) ∧ OldK s₁.heap s'.heap ∧ s'.os = s₁.os ∧ AllBare s'.gens) s₁ := by
  have rv := YZ hi
  have lenV := hi.length
  -- from an abstract heap in which nothing but the script may be tracked
  have core : ∀ H : Hp, Qhv H → SqL K H a (ns.map V.int) → HOk P w H s₁.heap → (∀ b, H b ≠ none → b = a) → (H a ≠ none → K.lookup a = none) →
      codeAny (model P w) callerA (.call (.ref fa) ⟨[.ref a], []⟩) (fun r s' => r = .ok (.ret (.bool true)) ∧ OldK s₁.heap s'.heap ∧ s'.os = s₁.os ∧ AllBare s'.gens) s₁ := by
    intro H hO hS hok hA hK
    have base_of : ∀ {b : Addr} {o : Obj}, s₁.heap.get? b = some o → H b = none → (QbP s₁.heap H).get? b = some o := fun e n => Qbm e n
    have noA : ∀ {b : Addr} {o : Obj} {es : Array DictEntry} {ep : Nat}, s₁.heap.get? b = some o → o.data = .dict es ep → H b = none := fun {b o es ep} e d => by
      cases q : H b with
      | none => rfl
      | some u =>
        have e' : b = a := hA b (by rw [q]; simp)
        subst e'
        rw [ha] at e; cases e
        have d' : Data.seq vs.toArray _ = Data.dict es ep := d
        cases d'
    have nsK : ∀ {b : Addr} {m : Str → Option Value}, s₁.heap.Ns b m → (QbP s₁.heap H).Ns b m := fun {b m} ⟨o, es, ep, e, d, r⟩ => ⟨o, es, ep, base_of e (noA e d), d, r⟩
    have hKb : K.In (QbP s₁.heap H) := fun b o e => base_of (KX b o e) (by
      cases q : H b with
      | none => rfl
      | some u =>
        have e' : b = a := hA b (by rw [q]; simp)
        subst e'
        rw [hK (by rw [q]; simp)] at e; cases e)
    have hM : Mod K mg (QbP s₁.heap H) := ⟨hKb, nsK hns, ⟨mb, nsK hb, hbb⟩, let ⟨mc, h1, h2⟩ := hlim; ⟨mc, nsK h1, h2⟩⟩
    have e0 : Env0 P w K mg (QbP s₁.heap H) callerA [] s₁ H := ⟨rfl, hM, fun b o e => Qdd e, Nat.le_of_eq (GR _ _), trivial, fun b hb => absurd (show b ∈ ([] : List Addr) from hb) (by simp), hok, .of_eq hg⟩
    refine codeAny_mono ((F _ hKb (nsK hns)).run callerA [] s₁ H ⟨[.ref a], []⟩ [.ref a] [.ref a] _ _ hr e0 (hbind s₁ (.ref a)) (.cons rfl .nil) (hsp H hO hS)) fun r s' h => ?_
    cases r with
    | error e => exact (hCX H e s' h).elim
    | ok fl =>
      cases fl with
      | next => exact False.elim h
      | brk => exact False.elim h
      | cont => exact False.elim h
      | ret u =>
        obtain ⟨v, H', os, bare, un, hok', r', q⟩ := h
        have q' : v = .bl true := q
        subst q'
        obtain rfl : u = Value.bool true := r'
        refine ⟨rfl, OldK.of_keep fun b o e => ?_, os, bare⟩
        cases q : H b with
        | none => exact un.keep b o e q (by intro z; exact absurd (show b ∈ ([] : List Addr) from z) (by simp)) (by simp)
        | some u =>
          rcases hO b with z | ⟨ob, xs, z⟩
          · rw [q] at z; cases z
          · have z2 := un.frzs b ob _ z
            obtain ⟨e1, _⟩ := hok b _ z
            obtain ⟨e2, _⟩ := hok' b _ z2
            rw [e] at e1; cases e1
            exact e2
  cases hk : K.lookup a with
  | some o =>
    -- the script is one of the module's own objects
    have e := KX a o hk
    rw [ha] at e
    cases e
    refine core (fun _ => none) (fun _ => .inl rfl) (.inr ⟨_, vs.toArray, _, hk, rfl, rfl, rfl, by rw [List.size_toArray, lenV]; exact hl, by simpa using rv⟩) (fun b u z => by have z' : (none : Option HO) = some u := z; cases z') (fun b z => absurd rfl z) fun z => absurd rfl z
  | none =>
    refine core (fun b => if b = a then some (.frz { cls := .type "list", data := .seq vs.toArray } (.lst (ns.map V.int))) else none) (fun b => ?_) (.inl (.inr ⟨{ cls := .type "list", data := .seq vs.toArray }, if_pos rfl⟩)) (fun b u z => ?_) (fun b z => ?_) fun _ => hk
    · by_cases hb : b = a
      · exact .inr ⟨_, _, if_pos hb⟩
      · exact .inl (if_neg hb)
    · by_cases hb : b = a
      · have z' := (if_pos hb).symm.trans z
        cases z'
        subst hb
        exact ⟨ha, by rw [List.length_map]; exact hl, vs, _, rv, ha⟩
      · have z' := (if_neg hb).symm.trans z
        cases z'
    · by_cases hb : b = a
      · exact hb
      · exact absurd (if_neg hb) z
end L2

namespace L2
open PySem PySem.Spec PyProof.Rows

noncomputable abbrev KOf {K : PySem.W.Frag} {h : Heap} (_ : K.In h) : PySem.W.Frag := K

theorem Qd3 {l : PySem.W.OpenLaw} {n k : Nat} {q : Program} {loose : List Str} {XP : (Str → Option Value) → Heap → Prop} {YP : World → Heap → Prop} {d : DefRec} {K : Params → PySem.W.Frag} {CX : World → CXT} {sp : World → Sp} {x : Str}
    (hn : l.most = some n) (hn2 : n ≤ sizeLine) (hdf : d.params.defaults = []) (hr : Room k callerA)
    (hY : ∀ (w : World) (h : Heap), YP w h → (K w.params).In h)
    (F : ∀ (w : World) (mg : Str → Option Value) (fa : Addr) (h : Heap), (K w.params).In h → h.Ns mainGlobals mg → mg d.name = some (.ref fa) →
      ∃ fd : FuncData, (∀ (s : Shared) (u : Value), BindsTo s fd ⟨[u], []⟩ [(x, u)]) ∧
        ∀ base : Heap, (K w.params).In base → base.Ns mainGlobals mg → FnOk l.prog w (K w.params) mg base (CX w) k fa fd [x] (sp w))
    (hsp : ∀ (w : World) (H : Hp) (a : Addr) (ns : List Int), ns.length ≤ n → Qhv H → SqL (K w.params) H a (ns.map V.int) → sp w [.ref a] H (fun v _ => v = .bl true) fun _ _ _ => False)
    (hCX : ∀ (w : World) (H : Hp) (s : Shared) (e : Value) (s' : Shared), CX w [] H s (fun _ _ _ => False) e s' → False) :
    PySem.W.WalkO q loose XP YP l.row.toRowW d [] (fun f vs => PySem.call f vs) := by
  refine Att.attach_call hn hdf fun w s₀ s₁ mg mb fa o pm cd doc a vs ns G Y ho hd hcd hmg hobj hints hlen hg => ?_
  have KX := hY w _ Y
  obtain ⟨fd, hb, hF⟩ := F w mg fa _ KX G.T.g hmg
  exact Qbr KX G.T.g G.T.b G.T.builtins G.T.nolimit hg hobj hints (Nat.le_trans hlen hn2) hr hF hb (fun H hO hS => hsp w H a ns hlen hO hS) fun H e s' => hCX w H s₁ e s'
end L2


namespace L2
open PySem PySem.Spec PyProof.Rows

noncomputable def VF (s : Stmt) : Arguments := match s with
  | .FunctionDef _ a _ _ _ _ _ _ _ _ => a
  | _ => { posonlyargs := [], args := [], vararg := none, kwonlyargs := [], kw_defaults := [], kwarg := none, defaults := [] }
noncomputable def JK (s : Stmt) : List Stmt := match s with
  | .FunctionDef _ _ b _ _ _ _ _ _ _ => b
  | _ => []
noncomputable def Qm (s : Stmt) : Scope := match s with
  | .FunctionDef _ _ _ _ _ _ sc _ _ _ => sc
  | _ => { kind := .function, names := [], isGenerator := false, isCoroutine := false }

noncomputable abbrev CX0 : CXT := fun _ _ _ _ _ _ => False
noncomputable abbrev E0 : XK := fun _ _ _ => False
theorem QeL {X : Cx} : KI CX0 X E0 := fun _ _ _ _ _ _ _ h => h.elim

structure Fun (K : PySem.W.Frag) (x qual : Str) (st : Stmt) (f : Addr) (fd : FuncData) : Prop where
  ex : ∃ (oc : Value) (od : Option Addr) (kV doc pm : Value) (an : Option Addr) (cdv ct : Value) (osl : Array (Option Value)),
    fd = PySem.W.fnOf x qual (VF st) (JK st) (Qm st) .none kV doc pm an cdv ct ∧ K.lookup f = some ⟨oc, od, .func fd, osl⟩ ∧ PySem.W.codeIn K cdv qual = true
  kp : PySem.W.keepIn K (.ref f) = true
section
variable {P : Program} {w : World} {K : PySem.W.Frag} {mg : Str → Option Value} {base : Heap}
theorem Fun.ok {x qual : Str} {st : Stmt} {f : Addr} {fd : FuncData} {N ps : List Str} {k : Nat} {sp : Sp} (F : Fun K x qual st f fd) (S : FnScope N ps (Qm st)) (len : ∀ vs H Q E, sp vs H Q E → vs.length = ps.length)
    (hbody : ∀ (cdv : Value) (A : Around) (outer : List Env) (s : Shared) (H : Hp) (vs : List V) (Q : VK) (E : XK), Room k (A.deeper (envOfC qual (Qm st) s.heap.objs.size f cdv)) → sp vs H Q E →
      ∃ t, PSs (Qci CX0 P w K mg base N qual (Qm st) f cdv A outer s H E).nox (JK st) t ∧ t { nx := fun _ H' => Q .non H', rt := Q } (start N vs) H) : FnOk P w K mg base CX0 (k + 1) f fd ps sp := by
  obtain ⟨oc, od, kV, doc, pm, an, cdv, ct, osl, rfl, lk, hcd⟩ := F.ex
  refine QhG lk hcd S len fun A outer s H vs Q E hr hsp => ?_
  obtain ⟨t, h, q⟩ := hbody cdv A outer s H vs Q E hr hsp
  exact ⟨t, h.nox, q⟩
theorem Fun.binds {x qual : Str} {st : Stmt} {f : Addr} {fd : FuncData} {ps : List Str} (F : Fun K x qual st f fd)
    (h : ∀ (kV doc pm : Value) (an : Option Addr) (cdv ct : Value) (us : List Value), us.length = ps.length → bindArgs (PySem.W.fnOf x qual (VF st) (JK st) (Qm st) .none kV doc pm an cdv ct) ⟨us, []⟩ = pure (ps.zip us)) : Binds K fd ps [] := by
  obtain ⟨oc, od, kV, doc, pm, an, cdv, ct, osl, rfl, lk, hcd⟩ := F.ex
  exact .all (h kV doc pm an cdv ct)
theorem Qcr {x qual : Str} {st : Stmt} {f : Addr} {oc : Value} {od an : Option Addr} {osl : Array (Option Value)} {kV doc pm cdv ct : Value} (l : K.lookup f = some ⟨oc, od, .func (PySem.W.fnOf x qual (VF st) (JK st) (Qm st) .none kV doc pm an cdv ct), osl⟩)
    (c : PySem.W.codeIn K cdv qual = true) (k : PySem.W.keepIn K (.ref f) = true) : Fun K x qual st f (PySem.W.fnOf x qual (VF st) (JK st) (Qm st) .none kV doc pm an cdv ct) := ⟨⟨oc, od, kV, doc, pm, an, cdv, ct, osl, rfl, l, c⟩, k⟩
end
section
variable {X : Cx}
end

theorem Qev {A B : Prop} (h : B) : if false = true then A else B := by
  rw [if_neg Bool.false_ne_true]
  exact h
theorem QeA {A B : Prop} (h : A) : if true = true then A else B := by
  rw [if_pos rfl]
  exact h
end L2

namespace L2
open PySem PySem.Spec PyProof.Rows

section
variable {κ : Type} [DecidableEq κ]
theorem RelO.isSome_eq {o : Option V} {u : Option Value} (r : RelO o u) : o.isSome = u.isSome := by
  cases o with
  | none => cases u with
    | none => rfl
    | some _ => exact (show False from r).elim
  | some _ => cases u with
    | none => exact (show False from r).elim
    | some _ => rfl
end


section
variable {P : Program} {w : World} {H : Hp} {h : Heap} {a : Addr}
end

section
variable {X : Cx} {pins : List (Addr × Obj)} {σ : St} {H : Hp} {s : Shared} {a : Addr} {y v : V} {u r : Value} {o : Option V} {A : Around} {E : Value → Shared → Prop}

theorem Inv.big (I : Inv X pins σ H s) : sysModules < s.heap.objs.size := by
  have h : mainGlobals < s.heap.objs.size := (I.mod.glob.keeps I.bk).lt
  exact Nat.lt_trans (by decide) h

theorem Qen {h' : Heap} {t' : Nat} {ob : HO} (I : Inv X pins σ H s) (mu : Mut (H a)) (hs : Heap.SameBut a s.heap h') (he : ∃ q, h'.get? a = some q) (new : ObjOk X.prog X.w (upd H a ob) h' a ob) :
    Inv X pins σ (upd H a ob) { s with heap := h', toks := t' } :=
  I.write (x := a) (e := a) mu (.inl rfl) (fun b q hb z => (hs.2 b hb).trans z) he new
end

section
variable {X : Cx} {pins : List (Addr × Obj)} {σ : St} {H : Hp} {s : Shared} {a : Addr} {kvs : List (Key × V)} {k : Key} {u : Value} {A : Around} {E : Value → Shared → Prop}
end


section
variable {X : Cx} {o i e value : Expr} {pos pos' tpos : Pos} {td ty tv : TE}
end


theorem Qbf {P : Program} {w : World} {H : Hp} (h : Heap) (hb : sysModules < h.objs.size) : ObjOk P w H (h.push { cls := .type "dict", data := .dict #[] }) h.objs.size (.dT []) :=
  ⟨Nat.zero_le _, beq_eq_false_iff_ne.mpr (Ne.symm (Nat.ne_of_lt hb)), [], .nil, _, #[], 0, Heap.get?_push_size _ rfl, ⟨rfl, rfl, rfl⟩, rfl, rfl, List.nodup_nil⟩
noncomputable def Qf7 : TE := fun _ H Q => ∀ p, H p = none → Q (.ref p) (upd H p (.dT []))
section
variable {X : Cx} {pos : Pos}
theorem QbT : PE X (.Dict [] [] pos) Qf7 := fun pins s σ H Q I h =>
  wpAny_Dict_empty ⟨.ref s.heap.objs.size, _, I.laid (a := s.heap.objs.size) (o := .dT []) (t' := s.toks) (fun _ _ q => Heap.get?_push_of_some _ q) (Nat.le_refl _) (Qbf s.heap I.big), rfl, h _ (I.hok.fresh (Nat.le_refl _))⟩
end

section
variable {X : Cx} {pins : List (Addr × Obj)} {σ : St} {H : Hp} {s : Shared} {a : Addr} {y d : V} {u r : Value} {o : Option V} {A : Around} {E : Value → Shared → Prop}
end

section
variable {X : Cx} {o e f : Expr} {apos cpos : Pos} {td ty tx : TE}
end

section
variable {X : Cx} {pins : List (Addr × Obj)} {σ : St} {H : Hp} {s : Shared} {a : Addr} {kvs : List (Key × V)} {A : Around} {E : Value → Shared → Prop}
end


section
variable {X : Cx} {pins : List (Addr × Obj)} {σ : St} {H : Hp} {s : Shared} {a : Addr} {y : V} {u : Value} {A : Around} {E : Value → Shared → Prop}
end
end L2

namespace L2
open PySem PySem.Spec PyProof.Rows
section
variable {X : Cx}
end
section
variable {κ : Type} [DecidableEq κ]
end
end L2

namespace Mi
open PySem PySem.Spec PyProof.Rows L2

inductive W where
  | non | bl (b : Bool) | int (i : Int) | str (x : Str) | tup (ws : List W) | lst (ws : List W) | frz (ws : List W) | ref (n : Nat) | ty (n : String)
inductive MO where
  | lst (ws : List W)
  | dic (kvs : List (Key × W))
  | dct (kvs : List (W × W))
noncomputable abbrev MH := List MO
noncomputable abbrev MSt := List (Option W)

structure Rn where
  ρ : Nat → Addr
  N : Nat
  F : Hp
  G : Hp
structure Ext (R R' : Rn) : Prop where
  n : R.N ≤ R'.N
  ρ : ∀ n, n < R.N → R'.ρ n = R.ρ n
  f : ∀ a o, R.F a = some o → R'.F a = some o
  g : R'.G = R.G
theorem Ext.refl (R : Rn) : Ext R R := ⟨Nat.le_refl _, fun _ _ => rfl, fun _ _ h => h, rfl⟩
theorem Ext.trans {R R1 R2 : Rn} (a : Ext R R1) (b : Ext R1 R2) : Ext R R2 :=
  ⟨Nat.le_trans a.n b.n, fun n h => (b.ρ n (Nat.lt_of_lt_of_le h a.n)).trans (a.ρ n h), fun x o h => b.f x o (a.f x o h), b.g.trans a.g⟩

theorem J3 {K : PySem.W.Frag} {F F' : Hp} (e : ∀ a o, F a = some o → F' a = some o) {a : Addr} {xs : List V} (h : SqT K F a xs) : SqT K F' a xs := by
  rcases h with (h | ⟨o, h⟩) | h
  · exact .inl (.inl (e _ _ h))
  · exact .inl (.inr ⟨o, e _ _ h⟩)
  · exact .inr h
theorem Zn {K : PySem.W.Frag} {F F' : Hp} (e : ∀ a o, F a = some o → F' a = some o) {a : Addr} {xs : List V} (h : SqL K F a xs) : SqL K F' a xs := by
  rcases h with (h | ⟨o, h⟩) | h
  · exact .inl (.inl (e _ _ h))
  · exact .inl (.inr ⟨o, e _ _ h⟩)
  · exact .inr h

section
variable (K : PySem.W.Frag)
mutual
noncomputable def Rw (R : Rn) : W → V → Prop
  | .non, v => v = .non
  | .bl b, v => v = .bl b
  | .int i, v => v = .int i
  | .str x, v => v = .str x
  | .tup ws, v => ∃ a xs, v = .ref a ∧ SqT K R.F a xs ∧ Rws R ws xs
  | .lst ws, v => ∃ a xs, v = .ref a ∧ R.F a = some (.lst xs) ∧ Rws R ws xs
  | .frz ws, v => ∃ a xs, v = .ref a ∧ SqL K R.F a xs ∧ Rws R ws xs
  | .ref n, v => n < R.N ∧ v = .ref (R.ρ n)
  | .ty n, v => v = .ty n
noncomputable def Rws (R : Rn) : List W → List V → Prop
  | [], vs => vs = []
  | w :: ws, vs => ∃ v vs', vs = v :: vs' ∧ Rw R w v ∧ Rws R ws vs'
end
end
section
variable {K : PySem.W.Frag} {R R' : Rn}
mutual
theorem Rw.mono (e : Ext R R') : ∀ (w : W) (v : V), Rw K R w v → Rw K R' w v
  | .non, _, h => by unfold Rw at h ⊢; exact h
  | .bl _, _, h => by unfold Rw at h ⊢; exact h
  | .int _, _, h => by unfold Rw at h ⊢; exact h
  | .str _, _, h => by unfold Rw at h ⊢; exact h
  | .ty _, _, h => by unfold Rw at h ⊢; exact h
  | .tup ws, _, h => by
    unfold Rw at h ⊢
    obtain ⟨a, xs, e1, e2, e3⟩ := h
    exact ⟨a, xs, e1, J3 e.f e2, Rws.mono e ws xs e3⟩
  | .lst ws, _, h => by
    unfold Rw at h ⊢
    obtain ⟨a, xs, e1, e2, e3⟩ := h
    exact ⟨a, xs, e1, e.f a _ e2, Rws.mono e ws xs e3⟩
  | .frz ws, _, h => by
    unfold Rw at h ⊢
    obtain ⟨a, xs, e1, e2, e3⟩ := h
    exact ⟨a, xs, e1, Zn e.f e2, Rws.mono e ws xs e3⟩
  | .ref n, _, h => by
    unfold Rw at h ⊢
    obtain ⟨e1, e2⟩ := h
    exact ⟨Nat.lt_of_lt_of_le e1 e.n, by rw [e.ρ n e1]; exact e2⟩
theorem Rws.mono (e : Ext R R') : ∀ (ws : List W) (vs : List V), Rws K R ws vs → Rws K R' ws vs
  | [], _, h => by unfold Rws at h ⊢; exact h
  | w :: ws, _, h => by
    unfold Rws at h ⊢
    obtain ⟨v, vs', e1, e2, e3⟩ := h
    exact ⟨v, vs', e1, Rw.mono e w v e2, Rws.mono e ws vs' e3⟩
end
theorem Rws.nil_iff {vs : List V} : Rws K R [] vs ↔ vs = [] := by unfold Rws; exact Iff.rfl
theorem Rws.cons_iff {w : W} {ws : List W} {vs : List V} : Rws K R (w :: ws) vs ↔ ∃ v vs', vs = v :: vs' ∧ Rw K R w v ∧ Rws K R ws vs' := by
  constructor
  · intro h; unfold Rws at h; exact h
  · intro h; unfold Rws; exact h
theorem Rws.nil : Rws K R [] [] := Rws.nil_iff.mpr rfl
theorem Rws.cons {w : W} {ws : List W} {v : V} {vs : List V} (a : Rw K R w v) (b : Rws K R ws vs) : Rws K R (w :: ws) (v :: vs) := Rws.cons_iff.mpr ⟨v, vs, rfl, a, b⟩
theorem Rws.paired : ∀ {ws : List W} {vs : List V}, Rws K R ws vs → Paired (Rw K R) ws vs
  | [], vs, h => by rw [Rws.nil_iff] at h; subst h; exact .nil
  | w :: ws, vs, h => by
    rw [Rws.cons_iff] at h
    obtain ⟨v, vs', rfl, a, b⟩ := h
    exact .cons a (Rws.paired b)
theorem Rws.of : ∀ {ws : List W} {vs : List V}, Paired (Rw K R) ws vs → Rws K R ws vs
  | _, _, .nil => Rws.nil
  | _, _, .cons a b => Rws.cons a (Rws.of b)
theorem Rws.length {ws : List W} {vs : List V} (h : Rws K R ws vs) : ws.length = vs.length := Paired.length h.paired
theorem Rws.get : ∀ {ws : List W} {vs : List V} {i : Nat} {w : W}, Rws K R ws vs → ws[i]? = some w → ∃ v, vs[i]? = some v ∧ Rw K R w v
  | [], _, _, _, _, e => by simp at e
  | w :: ws, vs, 0, x, h, e => by
    rw [Rws.cons_iff] at h
    obtain ⟨v, vs', rfl, a, b⟩ := h
    simp at e; subst e
    exact ⟨v, by simp, a⟩
  | w :: ws, vs, i + 1, x, h, e => by
    rw [Rws.cons_iff] at h
    obtain ⟨v, vs', rfl, a, b⟩ := h
    obtain ⟨y, h1, h2⟩ := Rws.get (i := i) b (by simpa using e)
    exact ⟨y, by simpa using h1, h2⟩
theorem Rws.append : ∀ {ws us : List W} {vs xs : List V}, Rws K R ws vs → Rws K R us xs → Rws K R (ws ++ us) (vs ++ xs)
  | [], us, vs, xs, h, q => by rw [Rws.nil_iff] at h; subst h; exact q
  | w :: ws, us, vs, xs, h, q => by
    rw [Rws.cons_iff] at h
    obtain ⟨v, vs', rfl, a, b⟩ := h
    exact Rws.cons a (Rws.append b q)
theorem Rws.take : ∀ {ws : List W} {vs : List V} (n : Nat), Rws K R ws vs → Rws K R (ws.take n) (vs.take n)
  | _, _, 0, _ => by simp; exact Rws.nil
  | [], vs, n + 1, h => by rw [Rws.nil_iff] at h; subst h; simp; exact Rws.nil
  | w :: ws, vs, n + 1, h => by
    rw [Rws.cons_iff] at h
    obtain ⟨v, vs', rfl, a, b⟩ := h
    exact Rws.cons a (Rws.take n b)
theorem Rws.drop : ∀ {ws : List W} {vs : List V} (n : Nat), Rws K R ws vs → Rws K R (ws.drop n) (vs.drop n)
  | _, _, 0, h => by simpa using h
  | [], vs, n + 1, h => by rw [Rws.nil_iff] at h; subst h; simp; exact Rws.nil
  | w :: ws, vs, n + 1, h => by
    rw [Rws.cons_iff] at h
    obtain ⟨v, vs', rfl, a, b⟩ := h
    exact Rws.drop n b
theorem Rws.set : ∀ {ws : List W} {vs : List V} {w : W} {v : V} (n : Nat), Rws K R ws vs → Rw K R w v → Rws K R (ws.set n w) (vs.set n v)
  | [], vs, _, _, n, h, _ => by rw [Rws.nil_iff] at h; subst h; simp; exact Rws.nil
  | x :: ws, vs, w, v, 0, h, q => by
    rw [Rws.cons_iff] at h
    obtain ⟨y, vs', rfl, a, b⟩ := h
    exact Rws.cons q b
  | x :: ws, vs, w, v, n + 1, h, q => by
    rw [Rws.cons_iff] at h
    obtain ⟨y, vs', rfl, a, b⟩ := h
    exact Rws.cons a (Rws.set n b q)
end

noncomputable def YG : Nat → W → Option Tr
  | 0, _ => none
  | _ + 1, .int i => some (.i i)
  | _ + 1, .bl b => some (.i (if b then 1 else 0))
  | _ + 1, .str x => some (.s x)
  | n + 1, .tup ws => (ws.mapM (YG n)).map .t
  | _ + 1, _ => none
noncomputable def nrm : W → Option Tr
  | .tup ws => YG 8 (.tup ws)
  | _ => none
section
variable (K : PySem.W.Frag)
noncomputable def Ro (R : Rn) : MO → Option HO → Prop
  | .lst ws, o => ∃ xs, o = some (.lst xs) ∧ Rws K R ws xs
  | .dic kvs, o => ∃ kx : List (Key × V), o = some (.dK kx) ∧ Paired (fun p q => p.1 = q.1 ∧ Rw K R p.2 q.2) kvs kx
  | .dct kvs, o => ∃ kx : List (Tr × Addr × V), o = some (.dT kx) ∧ Paired (fun p q => Rw K R p.1 (.ref q.2.1) ∧ nrm p.1 = some q.1 ∧ Rw K R p.2 q.2.2) kvs kx
structure Rh (R : Rn) (h : MH) (H : Hp) : Prop where
  len : R.N = h.length
  sub : ∀ a o, R.F a = some o → H a = some o
  sep : ∀ n, n < R.N → R.F (R.ρ n) = none
  inj : ∀ m n, m < R.N → n < R.N → R.ρ m = R.ρ n → m = n
  obj : ∀ n o, h[n]? = some o → Ro K R o (H (R.ρ n))
  gsub : ∀ a o, R.G a = some o → H a = some o
  gsep : ∀ n, n < R.N → R.G (R.ρ n) = none
  gf : ∀ a o, R.G a = some o → R.F a = none
noncomputable def Rst (R : Rn) (σi : MSt) (σ : L2.St) : Prop := σi.length = σ.length ∧ ∀ (i : Nat) (w : W), σi[i]? = some (some w) → ∃ v, σ[i]? = some (some v) ∧ Rw K R w v
end
section
variable {K : PySem.W.Frag} {R R' : Rn} {h : MH} {H : Hp} {σi : MSt} {σ : L2.St}
theorem Ro.mono (e : Ext R R') {o : MO} {u : Option HO} (q : Ro K R o u) : Ro K R' o u := by
  cases o with
  | lst ws => obtain ⟨xs, e1, e2⟩ := q; exact ⟨xs, e1, Rws.mono e ws xs e2⟩
  | dic kvs => obtain ⟨kx, e1, e2⟩ := q; exact ⟨kx, e1, Paired.mapP e2 fun a b z => ⟨z.1, Rw.mono e _ _ z.2⟩⟩
  | dct kvs => obtain ⟨kx, e1, e2⟩ := q; exact ⟨kx, e1, Paired.mapP e2 fun a b z => ⟨Rw.mono e _ _ z.1, z.2.1, Rw.mono e _ _ z.2.2⟩⟩
theorem Ro.some {o : MO} {u : Option HO} (q : Ro K R o u) : ∃ x, u = some x := by
  cases o with
  | lst ws => obtain ⟨xs, e1, e2⟩ := q; exact ⟨_, e1⟩
  | dic kvs => obtain ⟨kx, e1, e2⟩ := q; exact ⟨_, e1⟩
  | dct kvs => obtain ⟨kx, e1, e2⟩ := q; exact ⟨_, e1⟩
theorem Rst.mono (e : Ext R R') (q : Rst K R σi σ) : Rst K R' σi σ := ⟨q.1, fun i w h => by
  obtain ⟨v, h1, h2⟩ := q.2 i w h
  exact ⟨v, h1, Rw.mono e _ _ h2⟩⟩
theorem Rst.set {i : Nat} {w : W} {v : V} (q : Rst K R σi σ) (r : Rw K R w v) : Rst K R (σi.set i (some w)) (σ.set i (some v)) := by
  refine ⟨by rw [List.length_set, List.length_set]; exact q.1, fun j u e => ?_⟩
  rw [List.getElem?_set] at e ⊢
  by_cases hij : i = j
  · subst hij
    rw [if_pos rfl] at e ⊢
    by_cases hl : i < σi.length
    · rw [if_pos hl] at e
      rw [if_pos (q.1 ▸ hl)]
      cases e
      exact ⟨v, rfl, r⟩
    · rw [if_neg hl] at e; cases e
  · rw [if_neg hij] at e ⊢
    exact q.2 j u e
theorem Rh.there (q : Rh K R h H) {n : Nat} (hn : n < R.N) : ∃ o u, h[n]? = some o ∧ H (R.ρ n) = some u := by
  have hl : n < h.length := q.len ▸ hn
  obtain ⟨u, hu⟩ := (q.obj n h[n] (List.getElem?_eq_getElem hl)).some
  exact ⟨h[n], u, List.getElem?_eq_getElem hl, hu⟩
theorem Rh.ne (q : Rh K R h H) {p : Addr} (hp : H p = none) {n : Nat} (hn : n < R.N) : R.ρ n ≠ p := fun e => by
  obtain ⟨o, u, _, hu⟩ := q.there hn
  rw [e, hp] at hu; cases hu
theorem Rh.fix (q : Rh K R h H) {p : Addr} {o : HO} (hp : H p = none) :
    Ext R { R with F := upd R.F p o } ∧ Rh K { R with F := upd R.F p o } h (upd H p o) := by
  have hF : R.F p = none := by
    cases e : R.F p with
    | none => rfl
    | some u => have := q.sub p u e; rw [hp] at this; cases this
  have x : Ext R { R with F := upd R.F p o } := ⟨Nat.le_refl _, fun _ _ => rfl, fun a u e => by
    show upd R.F p o a = some u
    rw [QJ (fun z => by rw [z, hF] at e; cases e)]; exact e, rfl⟩
  have hG : ∀ a u, R.G a = some u → a ≠ p := fun a u e z => by have := q.gsub a u e; rw [z, hp] at this; cases this
  refine ⟨x, q.len, fun a u e => ?_, fun n hn => ?_, q.inj, fun n u e => ?_, fun a u e => ?_, q.gsep, fun a u e => ?_⟩
  rotate_right 2
  · rw [QJ (hG a u e)]; exact q.gsub a u e
  · show upd R.F p o a = none
    rw [QJ (hG a u e)]; exact q.gf a u e
  · by_cases z : a = p
    · subst z
      have e' : upd R.F a o a = some u := e
      rw [Jr] at e' ⊢; exact e'
    · have e' : upd R.F p o a = some u := e
      rw [QJ z] at e' ⊢; exact q.sub a u e'
  · show upd R.F p o (R.ρ n) = none
    rw [QJ (q.ne hp hn)]; exact q.sep n hn
  · have hn : n < R.N := by rw [q.len]; exact (List.getElem?_eq_some_iff.mp e).1
    show Ro K _ u (upd H p o (R.ρ n))
    rw [QJ (q.ne hp hn)]
    exact (q.obj n u e).mono x
theorem Rh.tup (q : Rh K R h H) {p : Addr} {ws : List W} {xs : List V} (hp : H p = none) (r : Rws K R ws xs) :
    ∃ R', Ext R R' ∧ Rh K R' h (upd H p (.tup xs)) ∧ Rw K R' (.tup ws) (.ref p) := by
  obtain ⟨x, y⟩ := q.fix (o := .tup xs) hp
  refine ⟨_, x, y, ?_⟩
  unfold Rw
  exact ⟨p, xs, rfl, SqT.of Jr, Rws.mono x _ _ r⟩
theorem Rh.lstI (q : Rh K R h H) {p : Addr} {ws : List W} {xs : List V} (hp : H p = none) (r : Rws K R ws xs) :
    ∃ R', Ext R R' ∧ Rh K R' h (upd H p (.lst xs)) ∧ Rw K R' (.lst ws) (.ref p) := by
  obtain ⟨x, y⟩ := q.fix (o := .lst xs) hp
  refine ⟨_, x, y, ?_⟩
  unfold Rw
  exact ⟨p, xs, rfl, Jr, Rws.mono x _ _ r⟩
theorem Rh.new (q : Rh K R h H) {p : Addr} {o : HO} {mo : MO} (hp : H p = none) (r : ∀ R', Ext R R' → Ro K R' mo (some o)) :
    ∃ R', Ext R R' ∧ Rh K R' (h ++ [mo]) (upd H p o) ∧ Rw K R' (.ref h.length) (.ref p) := by
  let R' : Rn := { ρ := fun n => if n = R.N then p else R.ρ n, N := R.N + 1, F := R.F, G := R.G }
  have hr : ∀ n, n < R.N → R'.ρ n = R.ρ n := fun n hn => if_neg (Nat.ne_of_lt hn)
  have hq : R'.ρ R.N = p := if_pos rfl
  have x : Ext R R' := ⟨Nat.le_succ _, hr, fun _ _ e => e, rfl⟩
  have hG : ∀ a u, R.G a = some u → a ≠ p := fun a u e z => by have := q.gsub a u e; rw [z, hp] at this; cases this
  have hF : R.F p = none := by
    cases e : R.F p with
    | none => rfl
    | some u => have := q.sub p u e; rw [hp] at this; cases this
  have below : ∀ n, n < R.N + 1 → n < R.N ∨ n = R.N := fun n hn => Nat.lt_or_eq_of_le (Nat.le_of_lt_succ hn)
  have hgs : ∀ n, n < R.N + 1 → R.G (R'.ρ n) = none := fun n hn => by
    rcases below n hn with hn | hn
    · rw [hr n hn]; exact q.gsep n hn
    · subst hn
      rw [hq]
      cases e : R.G p with
      | none => rfl
      | some u => exact absurd rfl (hG p u e)
  refine ⟨R', x, ⟨?_, fun a u e => ?_, fun n hn => ?_, fun m n hm hn e => ?_, fun n u e => ?_, fun a u e => by rw [QJ (hG a u e)]; exact q.gsub a u e, hgs, q.gf⟩, ?_⟩
  · show R.N + 1 = _
    rw [List.length_append, q.len]; rfl
  · have z : a ≠ p := fun z => by have e' : R.F a = some u := e; rw [z, hF] at e'; cases e'
    rw [QJ z]; exact q.sub a u e
  · rcases below n hn with hn | hn
    · rw [hr n hn]; exact q.sep n hn
    · subst hn; rw [hq]; exact hF
  · rcases below m hm with hm | hm <;> rcases below n hn with hn | hn
    · rw [hr m hm, hr n hn] at e; exact q.inj m n hm hn e
    · subst hn; rw [hr m hm, hq] at e; exact absurd e (q.ne hp hm)
    · subst hm; rw [hr n hn, hq] at e; exact absurd e.symm (q.ne hp hn)
    · rw [hm, hn]
  · have hn : n < R.N + 1 := by
      have := (List.getElem?_eq_some_iff.mp e).1
      rw [List.length_append, ← q.len] at this; exact this
    rcases below n hn with hn | hn
    · rw [hr n hn, QJ (q.ne hp hn)]
      rw [List.getElem?_append_left (by rw [← q.len]; exact hn)] at e
      exact (q.obj n u e).mono x
    · subst hn
      rw [hq, Jr]
      rw [List.getElem?_append_right (by rw [q.len]; exact Nat.le_refl _), q.len, Nat.sub_self] at e
      cases e
      exact r R' x
  · unfold Rw
    refine ⟨by rw [← q.len]; exact Nat.lt_succ_self _, ?_⟩
    rw [← q.len, hq]
theorem Rh.put (q : Rh K R h H) {n : Nat} {o : HO} {mo : MO} (hn : n < R.N) (r : Ro K R mo (some o)) : Rh K R (h.set n mo) (upd H (R.ρ n) o) := by
  refine ⟨by rw [List.length_set]; exact q.len, fun a u e => ?_, q.sep, q.inj, fun m u e => ?_, fun a u e => ?_, q.gsep, q.gf⟩
  rotate_right
  · have z : a ≠ R.ρ n := fun z => by rw [z, q.gsep n hn] at e; cases e
    rw [QJ z]; exact q.gsub a u e
  · have z : a ≠ R.ρ n := fun z => by rw [z, q.sep n hn] at e; cases e
    rw [QJ z]; exact q.sub a u e
  · by_cases z : n = m
    · subst z
      rw [Jr]
      rw [List.getElem?_set_self (by rw [← q.len]; exact hn)] at e
      cases e
      exact r
    · have hm : m < R.N := by
        have := (List.getElem?_eq_some_iff.mp e).1
        rw [List.length_set, ← q.len] at this; exact this
      rw [List.getElem?_set_ne z] at e
      rw [QJ (fun w => z (q.inj m n hm hn w).symm)]
      exact q.obj m u e
theorem Rh.tupAt (q : Rh K R h H) {ws : List W} {v : V} (r : Rw K R (.tup ws) v) : ∃ a xs, v = .ref a ∧ SqT K H a xs ∧ Rws K R ws xs := by
  unfold Rw at r
  obtain ⟨a, xs, e1, e2, e3⟩ := r
  exact ⟨a, xs, e1, J3 q.sub e2, e3⟩
theorem Rh.lstAt (q : Rh K R h H) {ws : List W} {v : V} (r : Rw K R (.lst ws) v) : ∃ a xs, v = .ref a ∧ H a = some (.lst xs) ∧ Rws K R ws xs := by
  unfold Rw at r
  obtain ⟨a, xs, e1, e2, e3⟩ := r
  exact ⟨a, xs, e1, q.sub a _ e2, e3⟩
theorem Rh.frzAt (q : Rh K R h H) {ws : List W} {v : V} (r : Rw K R (.frz ws) v) : ∃ a xs, v = .ref a ∧ SqL K H a xs ∧ Rws K R ws xs := by
  unfold Rw at r
  obtain ⟨a, xs, e1, e2, e3⟩ := r
  exact ⟨a, xs, e1, Zn q.sub e2, e3⟩
noncomputable def lsW (h : MH) : W → Option (List W)
  | .lst ws => some ws
  | .frz ws => some ws
  | .ref n => match h[n]? with | some (.lst ws) => some ws | _ => none
  | _ => none
noncomputable def loW (h : MH) : W → Option (List W)
  | .lst ws => some ws
  | .ref n => match h[n]? with | some (.lst ws) => some ws | _ => none
  | _ => none
theorem Rh.loAt (q : Rh K R h H) {w : W} {v : V} {ws : List W} (r : Rw K R w v) (e : loW h w = some ws) : ∃ a xs, v = .ref a ∧ H a = some (.lst xs) ∧ Rws K R ws xs := by
  cases w with
  | lst us => cases e; exact q.lstAt r
  | ref n =>
    simp only [loW] at e
    split at e
    · rename_i us hn
      cases e
      unfold Rw at r
      obtain ⟨xs, h1, h2⟩ := q.obj n _ hn
      exact ⟨_, xs, r.2, h1, h2⟩
    · cases e
  | _ => cases e
theorem Rh.lsAt (q : Rh K R h H) {w : W} {v : V} {ws : List W} (r : Rw K R w v) (e : lsW h w = some ws) : ∃ a xs, v = .ref a ∧ SqL K H a xs ∧ Rws K R ws xs := by
  cases w with
  | lst us => cases e; obtain ⟨a, xs, e1, e2, e3⟩ := q.lstAt r; exact ⟨a, xs, e1, SqL.of e2, e3⟩
  | frz us => cases e; exact q.frzAt r
  | ref n =>
    simp only [lsW] at e
    split at e
    · rename_i us hn
      cases e
      unfold Rw at r
      obtain ⟨xs, h1, h2⟩ := q.obj n _ hn
      exact ⟨_, xs, r.2, SqL.of h1, h2⟩
    · cases e
  | _ => cases e
theorem Rh.refAt (q : Rh K R h H) {n : Nat} {v : V} {ws : List W} (r : Rw K R (.ref n) v) (e : h[n]? = some (.lst ws)) :
    n < R.N ∧ v = .ref (R.ρ n) ∧ ∃ xs, H (R.ρ n) = some (.lst xs) ∧ Rws K R ws xs := by
  unfold Rw at r
  exact ⟨r.1, r.2, q.obj n _ e⟩
end
theorem Rw.non_eq {K : PySem.W.Frag} {R : Rn} {v : V} (r : Rw K R .non v) : v = .non := by unfold Rw at r; exact r
theorem Rw.bl_eq {K : PySem.W.Frag} {R : Rn} {v : V} {b : Bool} (r : Rw K R (.bl b) v) : v = .bl b := by unfold Rw at r; exact r
theorem Rw.int_eq {K : PySem.W.Frag} {R : Rn} {v : V} {i : Int} (r : Rw K R (.int i) v) : v = .int i := by unfold Rw at r; exact r
theorem Rw.str_eq {K : PySem.W.Frag} {R : Rn} {v : V} {x : Str} (r : Rw K R (.str x) v) : v = .str x := by unfold Rw at r; exact r
theorem Rw.ty_eq {K : PySem.W.Frag} {R : Rn} {v : V} {n : String} (r : Rw K R (.ty n) v) : v = .ty n := by unfold Rw at r; exact r
theorem Rw.non {K : PySem.W.Frag} {R : Rn} : Rw K R .non .non := by unfold Rw; rfl
theorem Rw.bl {K : PySem.W.Frag} {R : Rn} (b : Bool) : Rw K R (.bl b) (.bl b) := by unfold Rw; rfl
theorem Rw.int {K : PySem.W.Frag} {R : Rn} (i : Int) : Rw K R (.int i) (.int i) := by unfold Rw; rfl
theorem Rw.str {K : PySem.W.Frag} {R : Rn} (x : Str) : Rw K R (.str x) (.str x) := by unfold Rw; rfl
end Mi

namespace Mi
open PySem PySem.Spec PyProof.Rows L2

noncomputable abbrev ME := MSt → MH → Option (W × MH)
noncomputable abbrev MT := MSt → MH → Option (Bool × MH)
noncomputable abbrev MA := MSt → MH → Option (List W × MH)
inductive MF where
  | nx (σ : MSt) (h : MH) | rt (w : W) (h : MH) | bk (σ : MSt) (h : MH) | ct (σ : MSt) (h : MH)
noncomputable abbrev SM := MSt → MH → Option MF
noncomputable abbrev FM := List W → MH → Option (W × MH)

section
variable (K : PySem.W.Frag)
noncomputable def After (R : Rn) (w : W) (h' : MH) (Q : VK) : Prop := ∀ R' H' v, Ext R R' → Rh K R' h' H' → Rw K R' w v → Q v H'
noncomputable def tI (m : ME) : TE := fun σ H Q => ∃ R σi h w h', Rh K R h H ∧ Rst K R σi σ ∧ m σi h = some (w, h') ∧ After K R w h' Q
noncomputable def tIT (m : MT) : TT := fun σ H Q => ∃ R σi h b h', Rh K R h H ∧ Rst K R σi σ ∧ m σi h = some (b, h') ∧ ∀ R' H', Ext R R' → Rh K R' h' H' → Q b H'
noncomputable def tIA (m : MA) : TA := fun σ H Q => ∃ R σi h ws h', Rh K R h H ∧ Rst K R σi σ ∧ m σi h = some (ws, h') ∧ ∀ R' H' vs, Ext R R' → Rh K R' h' H' → Rws K R' ws vs → Q vs H'
noncomputable def Ends (R : Rn) (D : L2.Ends) : MF → Prop
  | .nx σi h => ∀ R' H' σ, Ext R R' → Rh K R' h H' → Rst K R' σi σ → D.nx σ H'
  | .bk σi h => ∀ R' H' σ, Ext R R' → Rh K R' h H' → Rst K R' σi σ → D.bk σ H'
  | .ct σi h => ∀ R' H' σ, Ext R R' → Rh K R' h H' → Rst K R' σi σ → D.ct σ H'
  | .rt w h => After K R w h D.rt
noncomputable def tS (m : SM) : TS := fun D σ H => ∃ R σi h r, Rh K R h H ∧ Rst K R σi σ ∧ m σi h = some r ∧ Ends K R D r
noncomputable def spM (n : Nat) (m : FM) : Sp := fun vs H Q _ => ∃ R ws h w h', ws.length = n ∧ Rh K R h H ∧ Rws K R ws vs ∧ m ws h = some (w, h') ∧ After K R w h' Q
end
noncomputable def PM (X : Cx) (e : Expr) (m : ME) : Prop := PE X e (tI X.K m)
noncomputable def PMT (X : Cx) (e : Expr) (m : MT) : Prop := PT X e (tIT X.K m)
noncomputable def PMA (X : Cx) (es : List Expr) (m : MA) : Prop := PA X es (tIA X.K m)
noncomputable def PMS (X : Cx) (st : Stmt) (m : SM) : Prop := PS X st (tS X.K m)
noncomputable def Qaw (X : Cx) (st : List Stmt) (m : SM) : Prop := PSs X st (tS X.K m)

section
variable {K : PySem.W.Frag} {R R1 R2 : Rn}
theorem After.ext {w : W} {h' : MH} {Q : VK} (a : After K R w h' Q) (x : Ext R R1) : After K R1 w h' Q := fun R' H' v e => a R' H' v (x.trans e)
theorem Ends.ext {D : L2.Ends} {r : MF} (a : Ends K R D r) (x : Ext R R1) : Ends K R1 D r := by
  cases r with
  | nx σ h => exact fun R' H' v e => a R' H' v (x.trans e)
  | bk σ h => exact fun R' H' v e => a R' H' v (x.trans e)
  | ct σ h => exact fun R' H' v e => a R' H' v (x.trans e)
  | rt w h => exact After.ext a x
end
theorem ZE {X : Cx} {e : Expr} {t t' : TE} (h : PE X e t) (i : ∀ σ H Q, t' σ H Q → t σ H Q) : PE X e t' := fun pins s σ H Q I q => h pins s σ H Q I (i _ _ _ q)
theorem Qao {X : Cx} {e : Expr} {t t' : TT} (h : PT X e t) (i : ∀ σ H Q, t' σ H Q → t σ H Q) : PT X e t' := fun pins s σ H Q I q => h pins s σ H Q I (i _ _ _ q)
theorem Qcv {X : Cx} {e : Expr} {t t' : TT} (h : PW X e t) (i : ∀ σ H Q, t' σ H Q → t σ H Q) : PW X e t' := fun wh pins s σ H Q I q => h wh pins s σ H Q I (i _ _ _ q)
theorem Qcu {X : Cx} {es : List Expr} {t t' : TA} (h : PA X es t) (i : ∀ σ H Q, t' σ H Q → t σ H Q) : PA X es t' := fun pos pins s σ H Q I q => h pos pins s σ H Q I (i _ _ _ q)
theorem VZ {X : Cx} {st : Stmt} {t t' : TS} (h : PS X st t) (i : ∀ D σ H, t' D σ H → t D σ H) : PS X st t' := fun pins s σ H D I q => h pins s σ H D I (i _ _ _ q)
theorem G9 {X : Cx} {st : List Stmt} {t t' : TS} (h : PSs X st t) (i : ∀ D σ H, t' D σ H → t D σ H) : PSs X st t' := fun pins s σ H D I q => h pins s σ H D I (i _ _ _ q)

noncomputable def Qh (i : Nat) : ME := fun σ h => match σ[i]? with | some (some w) => some (w, h) | _ => none
noncomputable def mC (w : W) : ME := fun _ h => some (w, h)
section
variable {X : Cx}
theorem Qb (i : Nat) {x : Str} {pos : Pos} (hN : X.N[i]? = some x := by rfl) (hv : Vis X.env.scope x := by first | exact Or.inl rfl | exact Or.inr (Or.inl rfl) | exact Or.inr (Or.inr rfl)) (hd : (x == ("__debug__" : Str)) = false := by decide)
    (hcd : (x == ("__classdict__" : Str)) = false := by decide) : PM X (.Name x pos) (Qh i) := ZE (QeJ hN hv hd hcd) <| by
  rintro σ H Q ⟨R, σi, h, w, h', rh, st, e, k⟩
  unfold Qh at e
  split at e
  · rename_i w' e'
    cases e
    obtain ⟨v, h1, h2⟩ := st.2 i _ e'
    exact ⟨v, h1, k R H v (Ext.refl _) rh h2⟩
  · cases e
theorem Qa4 {w : W} {v : V} (r : ∀ R, Rw X.K R w v) {σ : L2.St} {H : Hp} {Q : VK} (q : tI X.K (mC w) σ H Q) : tC v σ H Q := by
  obtain ⟨R, σi, h, w', h', rh, st, e, k⟩ := q
  cases e
  exact k R H v (Ext.refl _) rh (r R)
theorem Qe {i j pos} : PM X (.Constant (.int i) j pos) (mC (.int i)) := ZE QeH fun _ _ _ => Qa4 fun _ => Rw.int _
theorem Y9 {b j pos} : PM X (.Constant (.bool b) j pos) (mC (.bl b)) := ZE Qhu fun _ _ _ => Qa4 fun _ => Rw.bl _
theorem UG {j pos} : PM X (.Constant .none j pos) (mC .non) := ZE Qfv fun _ _ _ => Qa4 fun _ => Rw.non
theorem QR {x j pos} : PM X (.Constant (.str x) j pos) (mC (.str x)) := ZE QfO fun _ _ _ => Qa4 fun _ => Rw.str _
end

noncomputable def Qo (f : W → W → MH → Option (W × MH)) (ma mb : ME) : ME := fun σ h => (ma σ h).bind fun p => (mb σ p.2).bind fun q => f p.1 q.1 q.2
noncomputable def F1 (K : PySem.W.Frag) (f : W → MH → Option (W × MH)) (x : V) (H : Hp) (Q : VK) : Prop := ∃ R h a w h', Rh K R h H ∧ Rw K R a x ∧ f a h = some (w, h') ∧ After K R w h' Q
noncomputable def F2 (K : PySem.W.Frag) (f : W → W → MH → Option (W × MH)) (x y : V) (H : Hp) (Q : VK) : Prop := ∃ R h a b w h', Rh K R h H ∧ Rw K R a x ∧ Rw K R b y ∧ f a b h = some (w, h') ∧ After K R w h' Q
noncomputable def Fs (K : PySem.W.Frag) (f : List W → MH → Option (W × MH)) (xs : List V) (H : Hp) (Q : VK) : Prop := ∃ R h ws w h', Rh K R h H ∧ Rws K R ws xs ∧ f ws h = some (w, h') ∧ After K R w h' Q
noncomputable def mUn (f : W → MH → Option (W × MH)) (ma : ME) : ME := fun σ h => (ma σ h).bind fun p => f p.1 p.2
noncomputable def mFn (f : List W → MH → Option (W × MH)) (ma : MA) : ME := fun σ h => (ma σ h).bind fun p => f p.1 p.2
section
variable {K : PySem.W.Frag} {σ : L2.St} {H : Hp} {Q : VK}
theorem un1 {f : W → MH → Option (W × MH)} {ma : ME} (q : tI K (mUn f ma) σ H Q) : tI K ma σ H fun x H1 => F1 K f x H1 Q := by
  obtain ⟨R, σi, h, w, h', rh, st, e, k⟩ := q
  obtain ⟨⟨a, h1⟩, ea, e2⟩ := Option.bind_eq_some_iff.mp e
  exact ⟨R, σi, h, a, h1, rh, st, ea, fun R1 H1 x x1 rh1 rx => ⟨R1, h1, a, w, h', rh1, rx, e2, k.ext x1⟩⟩
theorem Qgz {f : W → W → MH → Option (W × MH)} {ma mb : ME} (q : tI K (Qo f ma mb) σ H Q) : tI K ma σ H fun x H1 => tI K mb σ H1 fun y H2 => F2 K f x y H2 Q := by
  obtain ⟨R, σi, h, w, h', rh, st, e, k⟩ := q
  obtain ⟨⟨a, h1⟩, ea, e2⟩ := Option.bind_eq_some_iff.mp e
  obtain ⟨⟨b, h2⟩, eb, e3⟩ := Option.bind_eq_some_iff.mp e2
  exact ⟨R, σi, h, a, h1, rh, st, ea, fun R1 H1 x x1 rh1 rx => ⟨R1, σi, h1, b, h2, rh1, st.mono x1, eb, fun R2 H2 y x2 rh2 ry =>
    ⟨R2, h2, a, b, w, h', rh2, Rw.mono x2 _ _ rx, ry, e3, k.ext (x1.trans x2)⟩⟩⟩
theorem UJ {f : List W → MH → Option (W × MH)} {ma : MA} (q : tI K (mFn f ma) σ H Q) : tIA K ma σ H fun xs H1 => Fs K f xs H1 Q := by
  obtain ⟨R, σi, h, w, h', rh, st, e, k⟩ := q
  obtain ⟨⟨a, h1⟩, ea, e2⟩ := Option.bind_eq_some_iff.mp e
  exact ⟨R, σi, h, a, h1, rh, st, ea, fun R1 H1 x x1 rh1 rx => ⟨R1, h1, a, w, h', rh1, rx, e2, k.ext x1⟩⟩
end
noncomputable def VA : Expr → Bool
  | .Starred .. => true
  | _ => false
noncomputable def VE (es : List Expr) : Bool := es.all fun e => !VA e
theorem JY {e : Expr} {es : List Expr} {env : Env} (h : VA e = false) : starEach (e :: es) env = (false, eval e env) :: starEach es env := by
  cases e <;> first | rfl | cases h
theorem V9 {es : List Expr} {env : Env} {pos : Pos} (h : VE es = true) : (backTo pos (starEach es env)).any (·.1) = false := by
  induction es with
  | nil => rfl
  | cons e es ih =>
    unfold VE at h ih
    rw [List.all_cons, Bool.and_eq_true] at h
    have he : VA e = false := by simpa using h.1
    rw [JY he]
    have := ih h.2
    unfold backTo at this ⊢
    rw [List.map_cons, List.any_cons, this]; rfl
theorem Qb7 {es : List Expr} {env : Env} {pos : Pos} (h : VE es = true) : (backTo pos (starEach es env)).all (fun x => !x.1) = true := by
  have := V9 (env := env) (pos := pos) h
  rw [List.all_eq_not_any_not]
  simp only [Bool.not_not]
  rw [this]; rfl
noncomputable def Ql : MA := fun _ h => some ([], h)
noncomputable def Qc (ma : ME) (mr : MA) : MA := fun σ h => (ma σ h).bind fun p => (mr σ p.2).bind fun q => some (p.1 :: q.1, q.2)
section
variable {X : Cx} {e : Expr} {es : List Expr} {m : ME} {ms : MA} {pos : Pos}
theorem Qd : PMA X [] Ql := Qcu QeR <| by
  rintro σ H Q ⟨R, σi, h, ws, h', rh, st, e, k⟩
  cases e
  exact k R H [] (Ext.refl _) rh Rws.nil
theorem Qa (ha : PM X e m) (hr : PMA X es ms) (hs : VA e = false := by rfl) : PMA X (e :: es) (Qc m ms) :=
  Qcu (Qep ha hr (JY hs)) fun σ H Q ⟨R, σi, h, ws, h', rh, st, e, k⟩ => by
    obtain ⟨⟨a, h1⟩, ea, e2⟩ := Option.bind_eq_some_iff.mp e
    obtain ⟨⟨b, h2⟩, eb, e3⟩ := Option.bind_eq_some_iff.mp e2
    cases e3
    exact ⟨R, σi, h, a, h1, rh, st, ea, fun R1 H1 x x1 rh1 rx => ⟨R1, σi, h1, b, h2, rh1, st.mono x1, eb, fun R2 H2 ys x2 rh2 ry =>
      k R2 H2 (x :: ys) (x1.trans x2) rh2 (Rws.cons (Rw.mono x2 _ _ rx) ry)⟩⟩
noncomputable def JF (ws : List W) (h : MH) : Option (W × MH) := if ws.length ≤ sizeLine then some (.tup ws, h) else none
noncomputable def Ki (ws : List W) (h : MH) : Option (W × MH) := if ws.length ≤ sizeLine then some (.lst ws, h) else none
noncomputable def WS (ws : List W) (h : MH) : Option (W × MH) := if ws.length ≤ sizeLine then some (.ref h.length, h ++ [.lst ws]) else none
theorem QL {x1} (h : PMA X es ms) : PM X (.Tuple es x1 pos) (mFn JF ms) := ZE (QeM h) fun σ H Q q => by
  obtain ⟨R, σi, h0, ws, h1, rh, st, e, k⟩ := UJ q
  refine ⟨R, σi, h0, ws, h1, rh, st, e, fun R1 H1 vs x1 rh1 rx => ?_⟩
  obtain ⟨R2, h2, ws2, w, h3, rh2, rx2, e2, k2⟩ := k R1 H1 vs x1 rh1 rx
  unfold JF at e2
  split at e2
  · rename_i hl
    cases e2
    refine ⟨by rw [← rx2.length]; exact hl, fun p hp => ?_⟩
    obtain ⟨R3, x3, rh3, rw3⟩ := rh2.tup hp rx2
    exact k2 R3 _ _ x3 rh3 rw3
  · cases e2
theorem Z0 (h : PMA X es ms) : PM X (.List es pos) (mFn Ki ms) := ZE (QcF h) fun σ H Q q => by
  obtain ⟨R, σi, h0, ws, h1, rh, st, e, k⟩ := UJ q
  refine ⟨R, σi, h0, ws, h1, rh, st, e, fun R1 H1 vs x1 rh1 rx => ?_⟩
  obtain ⟨R2, h2, ws2, w, h3, rh2, rx2, e2, k2⟩ := k R1 H1 vs x1 rh1 rx
  unfold Ki at e2
  split at e2
  · rename_i hl
    cases e2
    refine ⟨by rw [← rx2.length]; exact hl, fun p hp => ?_⟩
    obtain ⟨R3, x3, rh3, rw3⟩ := rh2.lstI hp rx2
    exact k2 R3 _ _ x3 rh3 rw3
  · cases e2
theorem Vc (h : PMA X es ms) : PM X (.List es pos) (mFn WS ms) := ZE (QcF h) fun σ H Q q => by
  obtain ⟨R, σi, h0, ws, h1, rh, st, e, k⟩ := UJ q
  refine ⟨R, σi, h0, ws, h1, rh, st, e, fun R1 H1 vs x1 rh1 rx => ?_⟩
  obtain ⟨R2, h2, ws2, w, h3, rh2, rx2, e2, k2⟩ := k R1 H1 vs x1 rh1 rx
  unfold WS at e2
  split at e2
  · rename_i hl
    cases e2
    refine ⟨by rw [← rx2.length]; exact hl, fun p hp => ?_⟩
    obtain ⟨R3, x3, rh3, rw3⟩ := rh2.new (mo := .lst ws2) (o := .lst vs) hp fun R' x' => ⟨vs, rfl, Rws.mono x' _ _ rx2⟩
    exact k2 R3 _ _ x3 rh3 rw3
  · cases e2
end
noncomputable def OpM (K : PySem.W.Frag) (r : R2) (f : W → W → MH → Option (W × MH)) : Prop := ∀ x y H Q, F2 K f x y H Q → r x y H Q
noncomputable def Qej (K : PySem.W.Frag) (r : List V → Hp → VK → Prop) (f : List W → MH → Option (W × MH)) : Prop := ∀ xs H Q, Fs K f xs H Q → r xs H Q
section
variable {X : Cx} {a b c : Expr} {ma mb mc : ME} {pos : Pos}
theorem VI {K : PySem.W.Frag} {m : ME} {σ : L2.St} {H : Hp} {Q Q' : VK} (h : tI K m σ H Q) (i : ∀ v H, Q v H → Q' v H) : tI K m σ H Q' := by
  obtain ⟨R, σi, h, w, h', rh, st, e, k⟩ := h
  exact ⟨R, σi, h, w, h', rh, st, e, fun R' H' v a b c => i _ _ (k R' H' v a b c)⟩
theorem K6 {K : PySem.W.Frag} {m : MA} {σ : L2.St} {H : Hp} {Q Q' : List V → Hp → Prop} (h : tIA K m σ H Q) (i : ∀ v H, Q v H → Q' v H) : tIA K m σ H Q' := by
  obtain ⟨R, σi, h, w, h', rh, st, e, k⟩ := h
  exact ⟨R, σi, h, w, h', rh, st, e, fun R' H' v a b c => i _ _ (k R' H' v a b c)⟩
theorem Q1 {op : Operator} {r : R2} {f : W → W → MH → Option (W × MH)} (ho : OpR X (binaryOp op) r) (hf : OpM X.K r f) (ha : PM X a ma) (hb : PM X b mb) : PM X (.BinOp a op b pos) (Qo f ma mb) :=
  ZE (QgG ho ha hb) fun _ _ _ q => VI (Qgz q) fun _ _ q1 => VI q1 fun _ _ q2 => hf _ _ _ _ q2
noncomputable def QD (m : ME) : MT := fun σ h => (m σ h).bind fun p => match p.1 with | .bl b => some (b, p.2) | _ => none
theorem Qbd {K : PySem.W.Frag} {m : ME} {σ : L2.St} {H : Hp} {Q : Bool → Hp → Prop} (q : tIT K (QD m) σ H Q) : tI K m σ H fun x H' => ∃ k, x = .bl k ∧ Q k H' := by
  obtain ⟨R, σi, h, b, h', rh, st, e, k⟩ := q
  obtain ⟨⟨w, h1⟩, ew, e2⟩ := Option.bind_eq_some_iff.mp e
  cases w <;> simp only at e2 <;> first | (cases e2; exact ⟨R, σi, h, _, _, rh, st, ew, fun R' H' v x rh' rv => ⟨_, rv.bl_eq, k R' H' x rh'⟩⟩) | (cases e2)
theorem Qs {op : CmpOp} {r : R2} {f : W → W → MH → Option (W × MH)} (ho : OpR X (compareOp op) r) (hf : OpM X.K r f) (ha : PM X a ma) (hb : PM X b mb) (hm : behindInMarks op b = false := by rfl) : PMT X (.Compare a [op] [b] pos) (QD (Qo f ma mb)) :=
  Qao (Qdt ho ha hb hm) fun _ _ _ q => VI (Qgz (Qbd q)) fun _ _ q1 => VI q1 fun _ _ q2 => hf _ _ _ _ q2
noncomputable def Vf (ma mb : MT) : MT := fun σ h => (ma σ h).bind fun p => match p.1 with | true => mb σ p.2 | false => some (false, p.2)
noncomputable def QaZ (ma mb : MT) : MT := fun σ h => (ma σ h).bind fun p => match p.1 with | true => some (true, p.2) | false => mb σ p.2
noncomputable def Qal (ma : MT) : MT := fun σ h => (ma σ h).bind fun p => some (!p.1, p.2)
noncomputable def mIf (t : MT) (ma mb : ME) : ME := fun σ h => (t σ h).bind fun p => match p.1 with | true => ma σ p.2 | false => mb σ p.2
variable {rest : List Expr} {ta tb : MT}
noncomputable def PMW (X : Cx) (e : Expr) (m : MT) : Prop := PW X e (tIT X.K m)
theorem PMW.pt {e : Expr} {m : MT} (h : PMW X e m) : PMT X e m := PW.pt h
theorem Qeg {K : PySem.W.Frag} {σ : L2.St} {H : Hp} {Q : Bool → Hp → Prop} (q : tIT K (Vf ta tb) σ H Q) : QiG (tIT K ta) (tIT K tb) σ H Q := by
  obtain ⟨R, σi, h, w, h', rh, st, e, k⟩ := q
  obtain ⟨⟨a, h1⟩, ea, e2⟩ := Option.bind_eq_some_iff.mp e
  refine ⟨R, σi, h, a, h1, rh, st, ea, fun R1 H1 x1 rh1 => ?_⟩
  cases a with
  | true => exact QeA ⟨R1, σi, h1, w, h', rh1, st.mono x1, e2, fun R2 H2 x2 => k R2 H2 (x1.trans x2)⟩
  | false => cases e2; exact Qev (k R1 H1 x1 rh1)
theorem QeI {K : PySem.W.Frag} {σ : L2.St} {H : Hp} {Q : Bool → Hp → Prop} (q : tIT K (QaZ ta tb) σ H Q) : tOr (tIT K ta) (tIT K tb) σ H Q := by
  obtain ⟨R, σi, h, w, h', rh, st, e, k⟩ := q
  obtain ⟨⟨a, h1⟩, ea, e2⟩ := Option.bind_eq_some_iff.mp e
  refine ⟨R, σi, h, a, h1, rh, st, ea, fun R1 H1 x1 rh1 => ?_⟩
  cases a with
  | true => cases e2; exact QeA (k R1 H1 x1 rh1)
  | false => exact Qev ⟨R1, σi, h1, w, h', rh1, st.mono x1, e2, fun R2 H2 x2 => k R2 H2 (x1.trans x2)⟩
theorem J4 (ha : PMT X a ta) : PMW X (.BoolOp .And [a] pos) ta := QdC ha
theorem X1 (ha : PMT X a ta) : PMW X (.BoolOp .Or [a] pos) ta := QfB ha
theorem J9 (ha : PMT X a ta) (hb : PMW X (.BoolOp .And (b :: rest) pos) tb) : PMW X (.BoolOp .And (a :: b :: rest) pos) (Vf ta tb) := Qcv (QfW ha hb) fun _ _ _ => Qeg
theorem Wq (ha : PMT X a ta) (hb : PMW X (.BoolOp .Or (b :: rest) pos) tb) : PMW X (.BoolOp .Or (a :: b :: rest) pos) (QaZ ta tb) := Qcv (QgV ha hb) fun _ _ _ => QeI
theorem QaD (ha : PMT X a ta) : PMT X (.UnaryOp .Not a pos) (Qal ta) := Qao (Qe2 ha) <| by
  rintro σ H Q ⟨R, σi, h, w, h', rh, st, e, k⟩
  obtain ⟨⟨a, h1⟩, ea, e2⟩ := Option.bind_eq_some_iff.mp e
  cases e2
  exact ⟨R, σi, h, a, h1, rh, st, ea, fun R1 H1 x1 rh1 => k R1 H1 x1 rh1⟩
theorem QgK (ht : PMT X c ta) (ha : PM X a ma) (hb : PM X b mb) : PM X (.IfExp c a b pos) (mIf ta ma mb) := ZE (Qbn ht ha hb) <| by
  rintro σ H Q ⟨R, σi, h, w, h', rh, st, e, k⟩
  obtain ⟨⟨t, h1⟩, ea, e2⟩ := Option.bind_eq_some_iff.mp e
  refine ⟨R, σi, h, t, h1, rh, st, ea, fun R1 H1 x1 rh1 => ?_⟩
  cases t with
  | true => exact QeA ⟨R1, σi, h1, w, h', rh1, st.mono x1, e2, k.ext x1⟩
  | false => exact Qev ⟨R1, σi, h1, w, h', rh1, st.mono x1, e2, k.ext x1⟩
noncomputable def Qdr (h : MH) : W → Option Bool
  | .non => some false
  | .bl b => some b
  | .int i => some (i != 0)
  | .str x => if x.length ≤ sizeLine then some ((x.length : Int) != 0) else none
  | .tup ws => some (!ws.isEmpty)
  | .lst ws => some (!ws.isEmpty)
  | .frz ws => some (!ws.isEmpty)
  | .ref n => match h[n]? with | some (.lst ws) => some (!ws.isEmpty) | some (.dic kvs) => some (!kvs.isEmpty) | _ => none
  | .ty _ => none
noncomputable def QcS (m : ME) : MT := fun σ h => (m σ h).bind fun p => (Qdr p.2 p.1).map fun b => (b, p.2)
theorem Rws.isEmpty {K : PySem.W.Frag} {R : Rn} {ws : List W} {vs : List V} (r : Rws K R ws vs) : ws.isEmpty = vs.isEmpty := by
  have := r.length
  cases ws <;> cases vs <;> simp at this ⊢
theorem QeW {K : PySem.W.Frag} {R : Rn} {h : MH} {H : Hp} {w : W} {v : V} {b : Bool} (rh : Rh K R h H) (r : Rw K R w v) (e : Qdr h w = some b) : QhS K v H b := by
  cases w with
  | non => rw [r.non_eq]; cases e; rfl
  | bl b => rw [r.bl_eq]; cases e; rfl
  | int i => rw [r.int_eq]; cases e; rfl
  | str x =>
    rw [r.str_eq]
    simp only [Qdr] at e
    split at e
    · rename_i hl; cases e; exact ⟨hl, rfl⟩
    · cases e
  | tup ws =>
    obtain ⟨a, xs, rfl, h1, h2⟩ := rh.tupAt r
    cases e
    exact .inr (.inl ⟨xs, h1, by rw [h2.isEmpty]⟩)
  | lst ws =>
    obtain ⟨a, xs, rfl, h1, h2⟩ := rh.lstAt r
    cases e
    exact .inl ⟨xs, SqL.of h1, by rw [h2.isEmpty]⟩
  | frz ws =>
    obtain ⟨a, xs, rfl, h1, h2⟩ := rh.frzAt r
    cases e
    exact .inl ⟨xs, h1, by rw [h2.isEmpty]⟩
  | ref n =>
    simp only [Qdr] at e
    split at e
    · rename_i ws hn
      cases e
      obtain ⟨_, rfl, xs, h1, h2⟩ := rh.refAt r hn
      exact .inl ⟨xs, SqL.of h1, by rw [h2.isEmpty]⟩
    · rename_i kvs hn
      cases e
      unfold Rw at r
      obtain ⟨kx, h1, h2⟩ := rh.obj n _ hn
      rw [r.2]
      refine .inr (.inr ⟨kx, h1, ?_⟩)
      have := Paired.length h2
      cases kvs <;> cases kx <;> simp at this ⊢
    · cases e
  | ty _ => cases e
theorem Yd (ha : PM X a ma) (he : ∀ whole, isTrue a X.env whole = (do let v ← whole; standAt a.pos; holding [v] (truthy v)) := by intro _; rfl) : PMT X a (QcS ma) :=
  Qao (Qbh ha he) fun σ H Q ⟨R, σi, h, w, h', rh, st, e, k⟩ => by
    obtain ⟨⟨a, h1⟩, ea, e2⟩ := Option.bind_eq_some_iff.mp e
    obtain ⟨b, eb, e3⟩ := Option.map_eq_some_iff.mp e2
    cases e3
    exact ⟨R, σi, h, a, _, rh, st, ea, fun R1 H1 x x1 rh1 rx => ⟨_, QeW rh1 rx eb, k R1 H1 x1 rh1⟩⟩
end
end Mi

namespace Mi
open PySem PySem.Spec PyProof.Rows L2

noncomputable def W5 : Expr → Bool
  | .ListComp .. => true
  | .SetComp .. => true
  | .DictComp .. => true
  | _ => false
theorem YD {e : Expr} {t : Option Expr} {l : Nat} {env : Env} (h : W5 e = false) : swapsWith e t l env = pure false := by
  cases e <;> first | rfl | cases h
noncomputable def ZP : SM := fun σ h => some (.nx σ h)
noncomputable def QQ (a b : SM) : SM := fun σ h => (a σ h).bind fun r => match r with | .nx σ' h' => b σ' h' | r => some r
noncomputable def Jp (m : ME) : SM := fun σ h => (m σ h).map fun p => .rt p.1 p.2
noncomputable def Vg (t : MT) (a b : SM) : SM := fun σ h => (t σ h).bind fun p => match p.1 with | true => a σ p.2 | false => b σ p.2
noncomputable def Z2 (m : ME) : SM := fun σ h => (m σ h).map fun p => .nx σ p.2
noncomputable def ZF (i : Nat) (m : ME) : SM := fun σ h => (m σ h).map fun p => .nx (σ.set i (some p.1)) p.2
noncomputable def Qc6 (i : Nat) (f : W → W → MH → Option (W × MH)) (m : ME) : SM := fun σ h => match σ[i]? with
  | some (some x) => (m σ h).bind fun p => (f x p.1 p.2).map fun q => .nx (σ.set i (some q.1)) q.2
  | _ => none
section
variable {X : Cx} {st : Stmt} {rest : List Stmt} {a b : SM} {e : Expr} {m : ME} {pos : Pos}
theorem QP : Qaw X [] ZP := G9 Qdk <| by
  rintro D σ H ⟨R, σi, h, r, rh, s, e, k⟩
  cases e
  exact k R H σ (Ext.refl _) rh s
theorem Qfy {K : PySem.W.Frag} {D : L2.Ends} {σ : L2.St} {H : Hp} (q : tS K (QQ a b) D σ H) : QiK (tS K a) (tS K b) D σ H := by
  obtain ⟨R, σi, h, r, rh, s, e, k⟩ := q
  obtain ⟨r1, e1, e2⟩ := Option.bind_eq_some_iff.mp e
  refine ⟨R, σi, h, r1, rh, s, e1, ?_⟩
  cases r1 with
  | nx σ1 h1 => exact fun R1 H1 σ' x1 rh1 s1 => ⟨R1, σ1, h1, r, rh1, s1, e2, Ends.ext k x1⟩
  | rt w h1 => cases e2; exact k
  | bk σ1 h1 => cases e2; exact k
  | ct σ1 h1 => cases e2; exact k
theorem Qf (h1 : PMS X st a) (h2 : Qaw X rest b) : Qaw X (st :: rest) (QQ a b) := G9 (QbV h1 h2) fun _ _ _ => Qfy
theorem Qj (h1 : PMS X st a) : Qaw X [st] a := QdY h1
theorem QI (he : PM X e m) (hs : W5 e = false := by rfl) : PMS X (.Expr e pos) (Z2 m) := VZ (QdJ he (YD hs)) <| by
  rintro D σ H ⟨R, σi, h, r, rh, s, e, k⟩
  obtain ⟨⟨w, h1⟩, e1, e2⟩ := Option.map_eq_some_iff.mp e
  cases e2
  exact ⟨R, σi, h, w, h1, rh, s, e1, fun R1 H1 v x1 rh1 _ => k R1 H1 σ x1 rh1 (s.mono x1)⟩
theorem Qt (he : PM X e m) : PMS X (.Return (some e) pos) (Jp m) := VZ (QeO he) <| by
  rintro D σ H ⟨R, σi, h, r, rh, s, e, k⟩
  obtain ⟨⟨w, h1⟩, e1, e2⟩ := Option.map_eq_some_iff.mp e
  cases e2
  exact ⟨R, σi, h, w, h1, rh, s, e1, k⟩
theorem QV {c : Expr} {sa sb : List Stmt} {t : MT} (hc : PMT X c t) (ha : Qaw X sa a) (hb : Qaw X sb b) : PMS X (.If c sa sb pos) (Vg t a b) := VZ (QgW hc ha hb) <| by
  rintro D σ H ⟨R, σi, h, r, rh, s, e, k⟩
  obtain ⟨⟨z, h1⟩, e1, e2⟩ := Option.bind_eq_some_iff.mp e
  refine ⟨R, σi, h, z, h1, rh, s, e1, fun R1 H1 x1 rh1 => ?_⟩
  cases z with
  | true => exact QeA ⟨R1, σi, h1, r, rh1, s.mono x1, e2, Ends.ext k x1⟩
  | false => exact Qev ⟨R1, σi, h1, r, rh1, s.mono x1, e2, Ends.ext k x1⟩
theorem Qn {i : Nat} {x : Str} {pos' : Pos} (hN : X.N.Nodup) (hi : X.N[i]? = some x) (hx : Loc X.env.scope x) (he : PM X e m) (hs : W5 e = false := by rfl) (hf : X.fn x = true ∨ X.env.scope.names.lookup x = some .local := by first | exact .inl rfl | exact .inr rfl | assumption) :
    PMS X (.Assign [.Name x pos'] e pos) (ZF i m) := VZ (Qfj hN hi hx he (YD hs) hf) <| by
  rintro D σ H ⟨R, σi, h, r, rh, s, e, k⟩
  obtain ⟨⟨w, h1⟩, e1, e2⟩ := Option.map_eq_some_iff.mp e
  cases e2
  exact ⟨R, σi, h, w, h1, rh, s, e1, fun R1 H1 v x1 rh1 rv => k R1 H1 _ x1 rh1 ((s.mono x1).set rv)⟩
theorem Qfm {op : Operator} {r : R2} (ho : OpR X (inplaceOp op) r) : PIp X op r := ho
theorem WQ {i : Nat} {x : Str} {op : Operator} {r : R2} {f : W → W → MH → Option (W × MH)} {pos' : Pos} (hN : X.N.Nodup) (hi : X.N[i]? = some x) (hx : Loc X.env.scope x) (ho : OpR X (inplaceOp op) r) (hf : OpM X.K r f) (he : PM X e m)
    (hfn : X.fn x = true ∨ X.env.scope.names.lookup x = some .local := by first | exact .inl rfl | exact .inr rfl | assumption) : PMS X (.AugAssign (.Name x pos') op e pos) (Qc6 i f m) :=
  VZ (QfG hN hi hx he (Qfm ho) hfn) fun D σ H ⟨R, σi, h, r, rh, s, e, k⟩ => by
    unfold Qc6 at e
    split at e
    · rename_i w0 hw0
      obtain ⟨⟨w, h1⟩, e1, e2⟩ := Option.bind_eq_some_iff.mp e
      obtain ⟨⟨z, h2⟩, e3, e4⟩ := Option.map_eq_some_iff.mp e2
      cases e4
      obtain ⟨v0, hv0, rv0⟩ := s.2 i _ hw0
      refine ⟨v0, hv0, R, σi, h, w, h1, rh, s, e1, fun R1 H1 v x1 rh1 rv => ?_⟩
      exact hf _ _ _ _ ⟨R1, h1, w0, w, z, h2, rh1, Rw.mono x1 _ _ rv0, rv, e3, fun R2 H2 y x2 rh2 ry => k R2 H2 _ (x1.trans x2) rh2 ((s.mono (x1.trans x2)).set ry)⟩
    · cases e
end

noncomputable def Qew (r : Option MF) : Option (W × MH) := match r with | some (.rt w h) => some (w, h) | some (.nx _ h) => some (.non, h) | _ => none
noncomputable def Zf (more : Nat) (m : SM) : FM := fun ws h => Qew (m (ws.map some ++ List.replicate more none) h)
theorem Rst.start {K : PySem.W.Frag} {R : Rn} {ws : List W} {vs : List V} {N : List Str} (r : Rws K R ws vs) (k : Nat) (hk : N.length = ws.length + k) : Rst K R (ws.map some ++ List.replicate k none) (start N vs) := by
  have hl := r.length
  unfold L2.start
  refine ⟨by simp [hk, hl], fun i w e => ?_⟩
  by_cases hi : i < ws.length
  · rw [List.getElem?_append_left (by simpa using hi)] at e
    rw [List.getElem?_append_left (by simpa [← hl] using hi)]
    rw [List.getElem?_map] at e ⊢
    obtain ⟨w', hw', e'⟩ := Option.map_eq_some_iff.mp e
    cases e'
    obtain ⟨v, h1, h2⟩ := r.get hw'
    exact ⟨v, by rw [h1]; rfl, h2⟩
  · rw [List.getElem?_append_right (by simpa using hi)] at e
    rw [List.getElem?_replicate] at e
    split at e <;> cases e
section
variable {P : Program} {w : World} {K : PySem.W.Frag} {mg : Str → Option Value} {base : Heap}
theorem Qhs {x qual : Str} {st : Stmt} {f : Addr} {fd : FuncData} {N ps : List Str} {k more : Nat} {m : SM} (F : Fun K x qual st f fd) (S : FnScope N ps (Qm st)) (hN : N.length = ps.length + more)
    (hbody : ∀ (cdv : Value) (A : Around) (outer : List Env) (s : Shared) (H : Hp) (E : XK), Room k (A.deeper (envOfC qual (Qm st) s.heap.objs.size f cdv)) → Qaw (Qci CX0 P w K mg base N qual (Qm st) f cdv A outer s H E).nox (JK st) m) :
    FnOk P w K mg base CX0 (k + 1) f fd ps (spM K ps.length (Zf more m)) := by
  refine F.ok S (fun vs H Q E q => ?_) (fun cdv A outer s H vs Q E hr q => ?_)
  · obtain ⟨R, ws, h, w, h', hl, rh, rws, _⟩ := q
    rw [← rws.length]; exact hl
  · refine ⟨_, hbody cdv A outer s H E hr, ?_⟩
    obtain ⟨R, ws, h, w, h', hl, rh, rws, e, kk⟩ := q
    have st := Rst.start (N := N) rws more (by rw [hN, hl])
    unfold Zf Qew at e
    split at e
    · rename_i w' h1 e1
      cases e
      exact ⟨R, _, h, _, rh, st, e1, kk⟩
    · rename_i σ1 h1 e1
      cases e
      exact ⟨R, _, h, _, rh, st, e1, fun R1 H1 σ' x1 rh1 _ => kk R1 H1 .non x1 rh1 Rw.non⟩
    · cases e
end
section
variable {X : Cx} {CX : CXT} {k : Nat} {f : Addr} {fd : FuncData} {ps : List Str} {g : FM} {E : XK} {x : Str} {p pos : Pos} {e : Expr} {es : List Expr} {ms : MA}
noncomputable def Qr (n : Nat) (g : FM) (ms : MA) : ME := mFn (fun ws h => if ws.length = n then g ws h else none) ms
theorem GC {K : PySem.W.Frag} {n : Nat} {σ : L2.St} {H : Hp} {Q : VK} (q : tI K (Qr n g ms) σ H Q) : Qdj (spM K n g) [] E (tIA K ms) σ H Q := by
  refine K6 (UJ q) fun vs H1 ⟨R, h, ws, w, h', rh, rws, e, k⟩ => ?_
  dsimp only at e
  split at e
  · rename_i hl
    exact ⟨R, ws, h, w, h', hl, rh, by rw [List.append_nil]; exact rws, e, k⟩
  · cases e
theorem QcX (F : FnOk X.prog X.w X.K X.mg X.base CX k f fd ps (spM X.K ps.length g)) (hr : Room k X.A) (hg : Gl X x) (hm : X.mg x = some (.ref f)) (hk : PySem.W.keepIn X.K (.ref f) = true) (hb : Binds X.K fd ps []) (hx : KI CX X E)
    (ha : PMA X (e :: es) ms) (hdb : (x == ("__debug__" : Str)) = false := by decide) (he : VA e = false := by rfl) (hpl : VE es = true := by rfl) :
    PM X (.Call (.Name x p) (e :: es) [] pos) (Qr ps.length g ms) := ZE (Qee F hr hg hm hk hb .nil hx ha hdb (JY he) (V9 hpl)) fun _ _ _ => GC
theorem Qbv (F : FnOk X.prog X.w X.K X.mg X.base CX k f fd ps (spM X.K ps.length g)) (hr : Room k X.A) (hg : Gl X x) (hm : X.mg x = some (.ref f)) (hk : PySem.W.keepIn X.K (.ref f) = true) (hb : Binds X.K fd ps []) (hx : KI CX X E)
    (hdb : (x == ("__debug__" : Str)) = false := by decide) : PM X (.Call (.Name x p) [] [] pos) (Qr ps.length g Ql) := ZE (Qby F hr hg hm hk hb .nil hx hdb) fun σ H Q q => by
  obtain ⟨R, σi, h, ws, h', rh, st, e, k⟩ := GC (E := E) q
  cases e
  exact k R H [] (Ext.refl _) rh Rws.nil
end
section
variable {X : Cx} {x : Str} {p pos : Pos} {e : Expr} {es : List Expr} {ms : MA} {id T : String} {r : List V → Hp → VK → Prop} {f : List W → MH → Option (W × MH)}
theorem QH (hc : CallR X (.builtin id) r) (hf : Qej X.K r f) (hg : Gl X x) (hm : X.mg x = none) (hv : bootBuiltins x = some (.builtin id)) (ha : PMA X (e :: es) ms) (hn : x ≠ "__name__" := by decide) (hdb : (x == ("__debug__" : Str)) = false := by decide)
    (he : VA e = false := by rfl) (hpl : VE es = true := by rfl) : PM X (.Call (.Name x p) (e :: es) [] pos) (mFn f ms) :=
  ZE (Qa1 hc hg hm hv ha hn hdb (JY he) (V9 hpl)) fun _ _ _ q => K6 (UJ q) fun _ _ q1 => hf _ _ _ q1
theorem ZZ (hc : CallR X (.type T) r) (hf : Qej X.K r f) (hg : Gl X x) (hm : X.mg x = none) (hv : bootBuiltins x = some (.type T)) (ha : PMA X (e :: es) ms) (hn : x ≠ "__name__" := by decide) (hdb : (x == ("__debug__" : Str)) = false := by decide)
    (he : VA e = false := by rfl) (hpl : VE es = true := by rfl) : PM X (.Call (.Name x p) (e :: es) [] pos) (mFn f ms) :=
  ZE (GB hc hg hm hv ha hn hdb (JY he) (V9 hpl)) fun _ _ _ q => K6 (UJ q) fun _ _ q1 => hf _ _ _ q1
end
noncomputable def Qct (src : Option Nat) (items : List W) (h : MH) : Prop := ∀ n, src = some n → h[n]? = some (.lst items)
noncomputable abbrev MI := MSt → MH → Option (List W × Option Nat × MH)
structure ItOk (K : PySem.W.Frag) (R : Rn) (J : It) (items : List W) (src : Option Nat) : Prop where
  go : ∀ i w R' h H, Ext R R' → Rh K R' h H → Qct src items h → items[i]? = some w → J.go i H
  yld : ∀ i w R' h H x H', Ext R R' → Rh K R' h H → Qct src items h → items[i]? = some w → J.yld i H x H' → ∃ R'', Ext R' R'' ∧ Rh K R'' h H' ∧ Rw K R'' w x
  stop : ∀ i R' h H, Ext R R' → Rh K R' h H → Qct src items h → items.length ≤ i → J.stop i H
noncomputable def tII (K : PySem.W.Frag) (m : MI) : TI := fun σ H C => ∃ R σi h items src h', Rh K R h H ∧ Rst K R σi σ ∧ m σi h = some (items, src, h') ∧ ∀ R' H' J, Ext R R' → Rh K R' h' H' → ItOk K R' J items src → C J H'
noncomputable def PMI (X : Cx) (tg iter : Expr) (m : MI) : Prop := PI X tg iter (tII X.K m)
theorem Ub {X : Cx} {tg iter : Expr} {t t' : TI} (h : PI X tg iter t) (i : ∀ σ H C, t' σ H C → t σ H C) : PI X tg iter t' := fun pins s σ H C I q => h pins s σ H C I (i _ _ _ q)
noncomputable abbrev MG := W → MSt → MH → Option MSt
noncomputable def tIG (K : PySem.W.Frag) (b : MG) : TG := fun v σ H C => ∃ R σi h w σ1, Rh K R h H ∧ Rst K R σi σ ∧ Rw K R w v ∧ b w σi h = some σ1 ∧ ∀ R' H' σ', Ext R R' → Rh K R' h H' → Rst K R' σ1 σ' → C σ' H'
noncomputable def PMG (X : Cx) (tg : Expr) (b : MG) : Prop := PG X tg (tIG X.K b)
theorem QcM {X : Cx} {tg : Expr} {t t' : TG} (h : PG X tg t) (i : ∀ v σ H C, t' v σ H C → t v σ H C) : PG X tg t' := fun pins s σ H v u C I r q => h pins s σ H v u C I r (i _ _ _ _ q)
noncomputable def J5 (i : Nat) : MG := fun w σ _ => some (σ.set i (some w))
theorem Q4 {X : Cx} {i : Nat} {x : Str} {pos : Pos} (hN : X.N.Nodup) (hi : X.N[i]? = some x) (hx : Loc X.env.scope x) (hf : X.fn x = true ∨ X.env.scope.names.lookup x = some .local := by first | exact .inl rfl | exact .inr rfl | assumption) :
    PMG X (.Name x pos) (J5 i) := QcM (GA hN hi hx hf) <| by
  rintro v σ H C ⟨R, σi, h, w, σ1, rh, st, rw, e, k⟩
  cases e
  exact k R H _ (Ext.refl _) rh (st.set rw)
open Classical in
noncomputable def Ve (items : List W) (src : Option Nat) (b : MG) (body : SM) : List W → SM
  | [], σ, h => if Qct src items h then some (.nx σ h) else none
  | w :: r, σ, h => if Qct src items h then (b w σ h).bind fun σ1 => (body σ1 h).bind fun z => match z with
      | .nx σ2 h2 => Ve items src b body r σ2 h2
      | .ct σ2 h2 => Ve items src b body r σ2 h2
      | .bk σ2 h2 => some (.nx σ2 h2)
      | .rt v h2 => some (.rt v h2)
    else none
noncomputable def VQ (mi : MI) (b : MG) (body : SM) : SM := fun σ h => (mi σ h).bind fun p => Ve p.1 p.2.1 b body p.1 σ p.2.2
section
variable {X : Cx} {tg iter : Expr} {body : List Stmt} {mi : MI} {b : MG} {m : SM} {pos : Pos}
theorem Qfr {K : PySem.W.Frag} {D : L2.Ends} {σ : L2.St} {H : Hp} (q : tS K (VQ mi b m) D σ H) : QiA (tII K mi) (tIG K b) (tS K m) D σ H := by
  obtain ⟨R, σi, h, r, rh, s, e, k⟩ := q
  obtain ⟨⟨items, src, h1⟩, e1, e2⟩ := Option.bind_eq_some_iff.mp e
  refine ⟨R, σi, h, items, src, h1, rh, s, e1, fun R1 H1 J x1 rh1 it => ?_⟩
  refine ⟨fun i n σ H => i + n = items.length ∧ ∃ R2 σ2 h2, Ext R1 R2 ∧ Rh K R2 h2 H ∧ Rst K R2 σ2 σ ∧ ∃ r, Ve items src b m (items.drop i) σ2 h2 = some r ∧ Ends K R2 D r, ⟨items.length, by simp, R1, σi, h1, Ext.refl _, rh1, s.mono x1, r, by simpa using e2, Ends.ext k x1⟩, ?_⟩
  rintro i n σ2' H2 ⟨hin, R2, σ2, h2, x2, rh2, s2, r2, e3, k2⟩
  by_cases hi : i < items.length
  · obtain ⟨w, hw⟩ : ∃ w, items[i]? = some w := ⟨items[i], List.getElem?_eq_getElem hi⟩
    have hd : items.drop i = w :: items.drop (i + 1) := by
      rw [List.drop_eq_getElem_cons hi]
      rw [List.getElem?_eq_getElem hi] at hw
      cases hw; rfl
    rw [hd] at e3
    unfold Ve at e3
    split at e3
    · rename_i hl
      obtain ⟨σ3, e4, e5⟩ := Option.bind_eq_some_iff.mp e3
      obtain ⟨z, e6, e7⟩ := Option.bind_eq_some_iff.mp e5
      refine .inr ⟨it.go i w R2 h2 H2 x2 rh2 hl hw, fun σ' H' => ∃ R3 σ4 h4, Ext R1 R3 ∧ Rh K R3 h4 H' ∧ Rst K R3 σ4 σ' ∧ ∃ r, Ve items src b m (items.drop (i + 1)) σ4 h4 = some r ∧ Ends K R3 D r, fun σ' H' hn => ⟨n - 1, by omega, by omega, hn⟩, fun x H' hy => ?_⟩
      obtain ⟨R3, x3, rh3, rw3⟩ := it.yld i w R2 h2 H2 x H' x2 rh2 hl hw hy
      refine ⟨R3, σ2, h2, w, σ3, rh3, s2.mono x3, rw3, e4, fun R4 H4 σ4' x4 rh4 s4 => ?_⟩
      refine ⟨R4, σ3, h2, z, rh4, s4, e6, ?_⟩
      cases z with
      | nx σ5 h5 => exact fun R5 H5 σ5' x5 rh5 s5 => ⟨R5, σ5, h5, x2.trans (x3.trans (x4.trans x5)), rh5, s5, r2, e7, Ends.ext k2 (x3.trans (x4.trans x5))⟩
      | ct σ5 h5 => exact fun R5 H5 σ5' x5 rh5 s5 => ⟨R5, σ5, h5, x2.trans (x3.trans (x4.trans x5)), rh5, s5, r2, e7, Ends.ext k2 (x3.trans (x4.trans x5))⟩
      | bk σ5 h5 => cases e7; exact fun R5 H5 σ5' x5 rh5 s5 => k2 R5 H5 σ5' (x3.trans (x4.trans x5)) rh5 s5
      | rt v h5 => cases e7; exact After.ext k2 (x3.trans x4)
    · cases e3
  · have hd : items.drop i = [] := List.drop_eq_nil_of_le (by omega)
    rw [hd] at e3
    unfold Ve at e3
    split at e3
    · rename_i hl
      cases e3
      exact .inl ⟨it.stop i R2 h2 H2 x2 rh2 hl (by omega), k2 R2 H2 σ2' (Ext.refl _) rh2 s2⟩
    · cases e3
theorem Z7 (hp : PassesOwn (model X.prog X.w) X.A X.env X.xe) (hc : X.calm = true) (hi : PMI X tg iter mi) (hg : PMG X tg b) (hb : Qaw X body m)
    (hs : ∀ x, foldedSetIterable iter X.env x = pure x := by intro _; rfl) : PMS X (.For tg iter body [] pos) (VQ mi b m) := VZ (QfC hp hc hi hg hb hs) fun _ _ _ => Qfr
end
noncomputable def Q8 (t : MT) (body : SM) : Nat → SM
  | 0, _, _ => none
  | n + 1, σ, h => (t σ h).bind fun p => match p.1 with
    | false => some (.nx σ p.2)
    | true => (body σ p.2).bind fun z => match z with
      | .nx σ2 h2 => Q8 t body n σ2 h2
      | .ct σ2 h2 => Q8 t body n σ2 h2
      | .bk σ2 h2 => some (.nx σ2 h2)
      | .rt v h2 => some (.rt v h2)
section
variable {X : Cx} {c : Expr} {body : List Stmt} {t : MT} {m : SM} {pos : Pos}
theorem QbX {K : PySem.W.Frag} {n : Nat} {D : L2.Ends} {σ : L2.St} {H : Hp} (q : tS K (Q8 t m n) D σ H) : Qcg (tIT K t) (tS K m) D σ H := by
  obtain ⟨R, σi, h, r, rh, s, e, k⟩ := q
  refine ⟨fun n σ H => ∃ R2 σ2 h2, Rh K R2 h2 H ∧ Rst K R2 σ2 σ ∧ ∃ r, Q8 t m n σ2 h2 = some r ∧ Ends K R2 D r, ⟨n, R, σi, h, rh, s, r, e, k⟩, ?_⟩
  rintro n σ2' H2 ⟨R2, σ2, h2, rh2, s2, r2, e2, k2⟩
  cases n with
  | zero => cases e2
  | succ n =>
    unfold Q8 at e2
    obtain ⟨⟨z, h3⟩, e3, e4⟩ := Option.bind_eq_some_iff.mp e2
    refine ⟨R2, σ2, h2, z, h3, rh2, s2, e3, fun R3 H3 x3 rh3 => ?_⟩
    cases z with
    | false =>
      cases e4
      exact Qev (k2 R3 H3 σ2' x3 rh3 (s2.mono x3))
    | true =>
      obtain ⟨y, e5, e6⟩ := Option.bind_eq_some_iff.mp e4
      refine QeA ⟨fun σ' H' => ∃ R4 σ4 h4, Rh K R4 h4 H' ∧ Rst K R4 σ4 σ' ∧ ∃ r, Q8 t m n σ4 h4 = some r ∧ Ends K R4 D r, fun σ' H' hn => ⟨n, Nat.lt_succ_self _, hn⟩, ?_⟩
      refine ⟨R3, σ2, h3, y, rh3, s2.mono x3, e5, ?_⟩
      cases y with
      | nx σ5 h5 => exact fun R5 H5 σ5' x5 rh5 s5 => ⟨R5, σ5, h5, rh5, s5, r2, e6, Ends.ext k2 (x3.trans x5)⟩
      | ct σ5 h5 => exact fun R5 H5 σ5' x5 rh5 s5 => ⟨R5, σ5, h5, rh5, s5, r2, e6, Ends.ext k2 (x3.trans x5)⟩
      | bk σ5 h5 => cases e6; exact fun R5 H5 σ5' x5 rh5 s5 => k2 R5 H5 σ5' (x3.trans x5) rh5 s5
      | rt v h5 => cases e6; exact After.ext k2 x3
theorem XX (n : Nat) (hp : PassesOwn (model X.prog X.w) X.A X.env X.xe) (hc : PMT X c t) (hb : Qaw X body m) : PMS X (.While c body [] pos) (Q8 t m n) := VZ (Qa3 hp hc hb) fun _ _ _ => QbX
end
end Mi

namespace Mi
open PySem PySem.Spec PyProof.Rows L2

section
variable {prog : Program} {w : World} {A : Around} {E : Value → Shared → Prop} {R : Result → Shared → Prop} {s : Shared}
theorem WO {elt target iter : Expr} {ifs : List Expr} {scope : Scope} {pos : Pos} {it acc : Value} {env : Env} (I : Nat → Shared → Prop)
    (turn : ∀ n s, I n s → wpAny (model prog w) A (pyNext it) (fun r s₁ => match r with
      | none => R (.ok .next) s₁
      | some v => wpAny (model prog w) A (letOwnedTupleGo target it v) (fun _ s₁' => wpAny (model prog w) A (assign target env v) (fun _ s₂ =>
          wpAny (model prog w) A (forIn ifs true fun c r => if r = true then do let ok ← isTrue c env (eval c env); pure (ForInStep.yield ok) else pure (ForInStep.yield r)) (fun ok s₃ =>
            if ok = true then wpAny (model prog w) A (eval elt env) (fun x s₄ =>
              wpAny (model prog w) A (call (.builtin "list.append") [acc, x]) (fun _ s₅ => ∃ m, m < n ∧ I m s₅) (fun _ _ => False) s₄) (fun _ _ => False) s₃
            else ∃ m, m < n ∧ I m s₃) (fun _ _ => False) s₂) (fun _ _ => False) s₁') (fun _ _ => False) s₁) (fun _ _ => False) s)
    (n : Nat) (h : I n s) :
    codeAny (model prog w) A (.compLoop (.ListComp elt [⟨target, iter, ifs, 0⟩] scope pos) 0 it acc env) R s := by
  refine codeAny_loop rfl I (fun n s hI => ?_) n h
  show wpAny _ A ((compTurn (.ListComp elt [⟨target, iter, ifs, 0⟩] scope pos) 0 it acc env).onRaise (fun x => do noteFrame x env; theTreesLotGoes x)) _ _ s
  refine wpAny_noted ?_
  rw [compTurn_list]
  refine wpAny_bind (wpAny_standAt (wpAny_bind (wpAny_mono (turn n s hI) (fun r s₁ h₁ => ?_) fun _ _ h' => h'.elim)))
  cases r with
  | none => exact wpAny_pure h₁
  | some v =>
    refine wpAny_bind (wpAny_mono h₁ (fun _ s₁' h₁' => ?_) fun _ _ h' => h'.elim)
    refine wpAny_bind (wpAny_mono h₁' (fun _ s₂ h₂ => wpAny_bind (wpAny_mono h₂ (fun ok s₃ h₃ => ?_) fun _ _ h' => h'.elim)) fun _ _ h' => h'.elim)
    cases ok with
    | false => exact wpAny_pure ⟨rfl, h₃⟩
    | true =>
      exact wpAny_bind (wpAny_bind (wpAny_mono h₃ (fun x s₄ h₄ => wpAny_bind (wpAny_mono h₄ (fun _ s₅ h₅ => wpAny_pure (wpAny_pure ⟨rfl, h₅⟩)) fun _ _ h' => h'.elim)) fun _ _ h' => h'.elim))
end

theorem sz {h : Heap} {b : Addr} {o : Obj} {n : Nat} (e : h.get? b = some o) (hn : h.objs.size ≤ n) : ¬ b = n := fun z => by
  have h1 : @LT.lt Nat instLTNat b h.objs.size := Heap.lt_size e
  subst z
  exact Nat.lt_irrefl _ (Nat.lt_of_lt_of_le h1 hn)
noncomputable abbrev blk (X : Cx) (scope : Scope) (cl : List (Str × Addr)) (Nb : List Str) (s₀ : Shared) (H₀ : Hp) (C : Addr) (ex : List Addr) (pn : List (Addr × Obj)) : Cx :=
  { X with N := Nb, s₀ := s₀, H₀ := H₀, env := compEnvC scope cl C X.env, outer := X.stack, stack := X.stack, ex := ex, fn := fun _ => false, pn := pn, xe := fun _ _ => False }

structure BlkOk (X : Cx) (scope : Scope) (cl : List (Str × Addr)) (Nb : List Str) (cp : List (Option Nat)) : Prop where
  clos : closureFor scope X.env = pure cl
  cell : ∀ y ∈ scope.names, y.2 ≠ .cell
  kind : scope.kind = .function
  names : ∀ y ∈ scope.names, y.2 = .local → scope.names.lookup y.1 = some .local
  sub : ∀ x c, cl.lookup x = some c → X.env.cells.lookup x = some c
  has : ∀ x, ((relabel scope X.env).names.lookup x = some .cell ∨ (relabel scope X.env).names.lookup x = some .free) → ∃ c, cl.lookup x = some c
  len : cp.length = Nb.length
  cap : ∀ (i j : Nat) (x : Str), cp[i]? = some (some j) → Nb[i]? = some x → X.N[j]? = some x ∧ Vis X.env.scope x ∧ (X.env.kindOf x = some .cell ∨ X.env.kindOf x = some .free) ∧ ((relabel scope X.env).names.lookup x = some .cell ∨ (relabel scope X.env).names.lookup x = some .free)

noncomputable def YJ (cp : List (Option Nat)) (σ : L2.St) : L2.St := cp.map fun o => match o with | none => none | some j => match σ[j]? with | some v => v | none => none

noncomputable def Qba (wi : TI) (cp : List (Option Nat)) (g : TG) (tt : TT) (te : TE) : TE := fun σ H Q => wi σ H fun J H1 => ∃ W : Nat → Nat → List V → L2.St → Hp → Prop, (∃ m, W 0 m [] (YJ cp σ) H1) ∧ ∀ i m acc τ H, W i m acc τ H →
  (J.stop i H ∧ ∀ D, H D = none → Q (.ref D) (upd H D (.lst acc))) ∨
  (J.go i H ∧ ∀ x H', J.yld i H x H' → g x τ H' fun τ2 H2 => tt τ2 H2 fun b H3 => if b = true then te τ2 H3 fun v H4 => acc.length < sizeLine ∧ ∃ m', m' < m ∧ W (i + 1) m' (acc ++ [v]) τ2 H4 else ∃ m', m' < m ∧ W (i + 1) m' acc τ2 H3)

theorem Inv.track {X : Cx} {pins : List (Addr × Obj)} {σ : L2.St} {H : Hp} {s : Shared} {D : Addr} {o : HO} (I : Inv X pins σ H s) (hn : H D = none) (h0 : X.s₀.heap.objs.size ≤ D) (hL : X.env.locals ≠ D) (hc : ∀ x c, X.env.cells.lookup x = some c → c ≠ D)
    (hp : ∀ p ∈ X.pn ++ pins, p.1 ≠ D) (ob : ObjOk X.prog X.w (upd H D o) s.heap D o) : Inv X pins σ (upd H D o) s where
  ok := I.ok
  os := I.os
  bare := I.bare
  base := {
    keep := I.base.keep
    slot := I.base.slot
    free := fun b q e n nx => by
      have : b ≠ D := sz e h0
      rw [QJ this]; exact I.base.free b q e n nx
    there := I.base.there
    tups := fun b xs e => by
      have q := I.base.tups b xs e
      rw [QJ (fun z => by rw [z, hn] at q; cases q)]; exact q
    frzs := fun b q u e => by
      have z := I.base.frzs b q u e
      rw [QJ (fun y => by rw [y, hn] at z; cases z)]; exact z
    tbls := fun b ps e => by
      obtain ⟨more, q⟩ := I.base.tbls b ps e
      exact ⟨more, by rw [QJ (fun z => by rw [z, hn] at q; cases q)]; exact q⟩ }
  loc := I.loc
  cell := I.cell
  free := by rw [QJ hL]; exact I.free
  freeC := fun x c e => by rw [QJ (hc x c e)]; exact I.freeC x c e
  pin := fun p hp' => by
    obtain ⟨a, b, c⟩ := I.pin p hp'
    exact ⟨a, by rw [QJ (hp p hp')]; exact b, c⟩
  hok := fun a u e => by
    by_cases z : a = D
    · subst z
      rw [Jr] at e; cases e
      exact ob
    · rw [QJ z] at e
      refine (I.hok a u e).stay (fun _ _ _ q => q) (fun b q => ?_) (fun b xs q => ?_)
      · rw [QJ (fun y => by rw [y, hn] at q; cases q)]; exact q
      · rw [QJ (fun y => by rw [y, hn] at q; cases q)]; exact q
  len := I.len

section
variable {X : Cx} {elt tg iter : Expr} {ifs : List Expr} {scope : Scope} {pos : Pos} {cl : List (Str × Addr)} {Nb : List Str} {cp : List (Option Nat)} {wi : TI} {g : TG} {tt : TT} {te : TE}

theorem Cx.Ok.blk {pins : List (Addr × Obj)} {σ : L2.St} {H : Hp} {s : Shared} {C : Addr} {fp : List Addr} {pn : List (Addr × Obj)} (B : BlkOk X scope cl Nb cp) (I : Inv X pins σ H s) (hf : ∀ b ∈ fp, Gk X pins H b) (hfs : ∀ b ∈ fp, b < s.heap.objs.size) (hC : s.heap.objs.size ≤ C) :
    (blk X scope cl Nb s H C fp pn).Ok where
  mod := I.ok.mod
  kind := B.kind
  glob := I.ok.glob
  blt := I.ok.blt
  above := hC
  inj := fun x y c h1 h2 => I.ok.inj x y c (B.sub x c h1) (B.sub y c h2)
  has := fun x h => B.has x h
  cab := fun x c h => absurd h (by simp)
  hd := I.ok.hd
  frames := I.ok.frames
  stk := .inl rfl
  exf := fun b hb => ⟨fun z => by have := hfs b hb; rw [z] at this; exact absurd hC (Nat.not_le.mpr this), fun x c e => (hf b hb).2.2.2.2.1 x c (B.sub x c e)⟩
  bs := I.bs
  bsz := Nat.le_trans I.ok.bsz I.sz
  noex := fun b o e hb => by
    rcases (hf b hb).2.2.2.1 with z | z
    · exact I.ok.noex b o e z
    · exact sz e (Nat.le_trans I.ok.bsz z) rfl
  exfs := fun b hb z => by
    have := I.stkSub b z
    rcases List.mem_cons.mp this with q | q
    · exact (hf b hb).2.1 q
    · exact (hf b hb).2.2.1 q
  funs := I.stack
  frf := fun b hb => I.stkFree b hb

theorem QaM {cp : List (Option Nat)} {σ : L2.St} {i : Nat} {v : V} (e : (YJ cp σ)[i]? = some (some v)) : ∃ j, cp[i]? = some (some j) ∧ σ[j]? = some (some v) := by
  unfold YJ at e
  rw [List.getElem?_map] at e
  obtain ⟨o, h1, h2⟩ := Option.map_eq_some_iff.mp e
  cases o with
  | none => cases h2
  | some j =>
    refine ⟨j, h1, ?_⟩
    simp only at h2
    split at h2
    · rename_i u hu; rw [hu, h2]
    · cases h2

theorem Inv.blk {pins : List (Addr × Obj)} {σ : L2.St} {H : Hp} {s : Shared} {C : Addr} {fp : List Addr} {h' : Heap} {m : Str → Option Value} {tk : Nat} (B : BlkOk X scope cl Nb cp) (I : Inv X pins σ H s) (hf : ∀ b ∈ fp, Gk X pins H b) (hfs : ∀ b ∈ fp, b < s.heap.objs.size)
    (hC : s.heap.objs.size ≤ C) (hns : h'.Ns C m) (hk : ∀ b o, s.heap.get? b = some o → h'.get? b = some o) : Inv (Mi.blk X scope cl Nb s H C fp (X.pn ++ pins)) [] (YJ cp σ) H { s with heap := h', toks := tk } where
  ok := Cx.Ok.blk B I hf hfs hC
  os := rfl
  bare := I.bare
  base := Un.kept hk
  loc := by
    refine ⟨m, hns, fun i x v hN e hv => ?_⟩
    obtain ⟨j, h1, h2⟩ := QaM e
    obtain ⟨hX, hvis, hkd, hkb⟩ := B.cap i j x h1 hN
    obtain ⟨m0, n0, lk⟩ := I.loc
    obtain ⟨u, r, l⟩ := lk j x v hX h2 hvis
    refine ⟨u, r, ?_⟩
    rcases l with ⟨h, _⟩ | ⟨_, c, hc, hcell⟩
    · rcases hkd with z | z <;> rw [z] at h <;> cases h
    · refine .inr ⟨hkb, ?_⟩
      obtain ⟨c', hc'⟩ := B.has x hkb
      have := B.sub x c' hc'
      rw [hc] at this; cases this
      exact ⟨c, hc', by
        obtain ⟨o, h3, h4⟩ := hcell
        exact ⟨o, hk _ _ h3, h4⟩⟩
  cell := fun x c e => by
    obtain ⟨v, o, h3, h4⟩ := I.cell x c (B.sub x c e)
    exact ⟨v, o, hk _ _ h3, h4⟩
  free := I.hok.fresh hC
  freeC := fun x c e => I.freeC x c (B.sub x c e)
  pin := fun p hp => by
    rw [List.append_nil] at hp
    obtain ⟨a, b, c, d, e⟩ := I.pin p hp
    refine ⟨hk _ _ a, b, fun z => ?_, fun z => ?_, e⟩
    · have := Heap.lt_size a; rw [z] at this; exact absurd hC (Nat.not_le.mpr this)
    · rcases List.mem_cons.mp (I.stkSub _ z) with q | q
      · exact c q
      · exact d q
  hok := I.hok.kept hk
  len := by unfold YJ; rw [List.length_map]; exact B.len

noncomputable def Qhl (X : Cx) (pins : List (Addr × Obj)) (σ : L2.St) (use : Option (Value → Sem Unit)) (Q : VK) (Q' : Value → Shared → Prop) : Prop :=
  ∀ (D C : Addr) (H' : Hp) (s' : Shared) (m : Str → Option Value), Inv X pins σ H' s' → s'.heap.Ns C m → H' C = none → ¬ C = X.env.locals → X.s₀.heap.objs.size ≤ C → (∀ x c, X.env.cells.lookup x = some c → c ≠ C) → (∀ p ∈ X.pn ++ pins, p.1 ≠ C) → Q (.ref D) H' →
    compPost (model X.prog X.w) X.A X.xe use Q' (.ref D) C (.ok .next) s'
theorem Us {use : Option (Value → Sem Unit)} {Q' : Value → Shared → Prop} {pins : List (Addr × Obj)} {s : Shared} {σ : L2.St} {H : Hp} {Q : VK} {newp : Pos} (hc : X.calm = true) (B : BlkOk X scope cl Nb cp) (hi : PI X tg iter wi) (hg : ∀ s₀ H₀ C ex pn, PG (Mi.blk X scope cl Nb s₀ H₀ C ex pn) tg g)
    (ht : ∀ s₀ H₀ C ex pn, ∀ (pins : List (Addr × Obj)) (s : Shared) (τ : L2.St) (H : Hp) (Q : Bool → Hp → Prop), Inv (Mi.blk X scope cl Nb s₀ H₀ C ex pn) pins τ H s → tt τ H Q →
      wpAny (model X.prog X.w) X.A (forIn ifs true fun c r => if r = true then do let ok ← isTrue c (compEnvC scope cl C X.env) (eval c (compEnvC scope cl C X.env)); pure (ForInStep.yield ok) else pure (ForInStep.yield r)) (TP (Mi.blk X scope cl Nb s₀ H₀ C ex pn) pins τ Q) (fun _ _ => False) s)
    (he : ∀ s₀ H₀ C ex pn, PE (Mi.blk X scope cl Nb s₀ H₀ C ex pn) elt te) (hs : ∀ x, foldedSetIterable iter X.env x = pure x)
    (I : Inv X pins σ H s) (h : Qba wi cp g tt te σ H Q) (hfin : Qhl X pins σ use Q Q') :
    wpAny (model X.prog X.w) X.A (comprehension (.ListComp elt [⟨tg, iter, ifs, 0⟩] scope pos) scope X.env newp (newList []) false (eval iter X.env) use) Q' X.xe s := by
  refine wpAny_comprehension_free (use := use) rfl hs B.clos B.kind B.names (wpAny_mono (hi pins s σ H _ I h) (fun xv s₁ h₁ => wpAny_mono h₁ (fun itv s₂ h₂ => ?_) fun _ _ e => e) fun _ _ e => e)
  obtain ⟨it, fp, tn, J, H2, rfl, I2, T, st2, f2, W, ⟨m0, w0⟩, turn⟩ := h₂
  have hfs : ∀ b ∈ fp, b < s₂.heap.objs.size := fun b hb => by
    obtain ⟨o, e, _⟩ := T.obj _ _ st2 b hb
    exact Heap.lt_size e
  refine wpAny_newObj_type (wpAny_newFunctionEnv B.cell (by intro y hy; simp at hy) (fun h₁ hns₁ hsb₁ => ?_) B.kind)
  dsimp only at hns₁ hsb₁ ⊢
  generalize hH2 : s₂.heap.push { cls := .type "list", dict := none, data := .seq ([] : List Value).toArray } = G2 at hns₁ hsb₁ ⊢
  have hCz : G2.objs.size = s₂.heap.objs.size + 1 := by rw [← hH2, Heap.size_push]
  generalize hCC : G2.objs.size = C at hns₁ hsb₁ ⊢
  rw [hCC] at hCz
  have hCle : s₂.heap.objs.size ≤ C := by omega
  have hDC : s₂.heap.objs.size ≠ C := by omega
  have old : ∀ b o, s₂.heap.get? b = some o → h₁.get? b = some o := fun b o e => hsb₁.extBut b o (sz e hCle) (Heap.get?_push_of_some _ (hH2 ▸ Heap.get?_push_of_some _ e))
  have hacc : h₁.get? s₂.heap.objs.size = some { cls := .type "list", data := .seq ([] : List Value).toArray } := hsb₁.extBut _ _ hDC (Heap.get?_push_of_some _ (hH2 ▸ Heap.get?_push_size _ rfl))
  generalize hD : s₂.heap.objs.size = D at hacc hDC hCle hCz ⊢
  have hDle : s₂.heap.objs.size ≤ D := Nat.le_of_eq hD
  have hCle2 : s₂.heap.objs.size ≤ C := Nat.le_trans hDle hCle
  -- the block's context
  have I3 := Inv.blk (tk := s₂.toks + ([] : List (Str × Value)).length) B I2 f2 hfs (C := C) (Nat.le_trans (Nat.le_of_eq hD) hCle) hns₁ old
  have hDfp : D ∉ fp := fun z => Nat.lt_irrefl _ (Nat.lt_of_lt_of_le (hfs D z) hDle)
  have hCfp : C ∉ fp := fun z => Nat.lt_irrefl _ (Nat.lt_of_lt_of_le (hfs C z) hCle2)
  -- D in the block: not a frame's, not a cell's, not pinned
  have dcell : ∀ x c, cl.lookup x = some c → c ≠ D := fun x c e z => by
    obtain ⟨v, o, h3, _⟩ := I2.cell x c (B.sub x c e)
    exact sz h3 hDle z
  have dpin : ∀ p ∈ X.pn ++ pins, p.1 ≠ D := fun p hp z => sz (I2.pin p hp).1 hDle z
  have cpin : ∀ p ∈ X.pn ++ pins, p.1 ≠ C := fun p hp z => sz (I2.pin p hp).1 hCle2 z
  have dfs : D ∉ frs X.stack := fun z => by
    rcases List.mem_cons.mp (I2.stkSub _ z) with q | q
    · exact Nat.lt_irrefl _ (Nat.lt_of_lt_of_le (q ▸ I2.lt : D < s₂.heap.objs.size) hDle)
    · exact I2.nofs hDle q
  have fpst : ∀ {H' : Hp} {pl : List (Addr × Obj)}, (∀ b ∈ fp, H' b = none) → (∀ p ∈ pl, p.1 = D) → ∀ b ∈ fp, Gk (Mi.blk X scope cl Nb s₂ H2 C fp (X.pn ++ pins)) pl H' b := fun {H' pl} hn hpl b hb =>
    ⟨hn b hb, fun (z : b = C) => hCfp (z ▸ hb), fun z => by
      rcases List.mem_cons.mp (I2.stkSub _ z) with q | q
      · exact (f2 b hb).2.1 q
      · exact (f2 b hb).2.2.1 q, .inl hb, fun x c e => (f2 b hb).2.2.2.2.1 x c (B.sub x c e), fun p hp z => by
      rcases List.mem_append.mp hp with q | q
      · exact (f2 b hb).2.2.2.2.2 p q z
      · rw [hpl p q] at z; exact hDfp (z ▸ hb)⟩
  have fp0 : ∀ {H' : Hp}, (∀ b ∈ fp, H' b = none) → ∀ b ∈ fp, Gk X pins H' b := fun hn b hb => ⟨hn b hb, (f2 b hb).2⟩
  -- the end
  have fin : ∀ {τ : L2.St} {H' : Hp} {s' : Shared} {acc : List V} {its : List Value} {n : Nat} {mC : Str → Option Value}, Inv (Mi.blk X scope cl Nb s₂ H2 C fp (X.pn ++ pins)) [] τ H' s' → H' D = none → s'.heap.get? D = some { cls := .type "list", data := .seq its.toArray n } → Vals acc its → acc.length ≤ sizeLine → s'.heap.Ns C mC →
      (∀ D, H' D = none → Q (.ref D) (upd H' D (.lst acc))) → compPost (model X.prog X.w) X.A X.xe use Q' (.ref D) C (.ok .next) s' := by
    intro τ H' s' acc its n mC Ib hDH hDo r hz hns q
    have Ie : Inv X pins σ H' s' := I2.call' (ch := fp) (Ib.os) Ib.base Ib.hok Ib.bare fun b hb => ⟨(f2 b hb).2.2.2.1, (f2 b hb).2.1, (f2 b hb).2.2.2.2.1, (f2 b hb).2.2.2.2.2⟩
    have hsz : X.s₀.heap.objs.size ≤ s₂.heap.objs.size := I2.sz
    have It : Inv X pins σ (upd H' D (.lst acc)) s' := Inv.track Ie hDH (Nat.le_trans hsz hDle) (fun z => Nat.lt_irrefl _ (Nat.lt_of_lt_of_le (z ▸ I2.lt : D < s₂.heap.objs.size) hDle)) (fun x c e z => by
      obtain ⟨v, o, h3, _⟩ := I2.cell x c e
      exact sz h3 hDle z) dpin ⟨hz, its, n, r, hDo⟩
    exact hfin D C _ s' mC It hns (by rw [QJ (Ne.symm hDC)]; exact Ib.free) (fun z => Nat.lt_irrefl _ (Nat.lt_of_lt_of_le (z ▸ I2.lt : C < s₂.heap.objs.size) hCle2)) (Nat.le_trans hsz hCle2) (fun x c e z => by
      obtain ⟨v, o, h3, _⟩ := I2.cell x c e
      exact sz h3 hCle2 z) cpin (q D hDH)
  have loop : ∀ s₃ : Shared, s₃ = { s₂ with heap := h₁, toks := s₂.toks + ([] : List (Str × Value)).length } →
      codeAny (model X.prog X.w) X.A (.compLoop (.ListComp elt [⟨tg, iter, ifs, 0⟩] scope pos) 0 (.ref it) (.ref D) (compEnvC scope cl C X.env))
        (compPost (model X.prog X.w) X.A X.xe use Q' (.ref D) C) s₃ := by
    rintro s₃ rfl
    refine WO (fun n s' => ∃ i τ H' acc its k, Inv (Mi.blk X scope cl Nb s₂ H2 C fp (X.pn ++ pins)) [] τ H' s' ∧ tn i s'.heap ∧ (∀ b ∈ fp, H' b = none) ∧ H' D = none ∧ s'.heap.get? D = some { cls := .type "list", data := .seq (its : List Value).toArray k } ∧ Vals acc its ∧ acc.length ≤ sizeLine ∧ W i n acc τ H') ?_ m0
      ⟨0, YJ cp σ, H2, [], [], _, I3, T.keep _ _ _ st2 (fun b hb o e => old b o e), fun b hb => (f2 b hb).1, I2.hok.fresh hDle, hacc, .nil, Nat.zero_le _, w0⟩
    rintro n s3 ⟨i, τ, H3, acc, its, k, Ib, st3, fr3, hDH, hDo, r3, hz3, w3⟩
    have pinD : ∀ {τ' : L2.St} {H' : Hp} {s' : Shared}, Inv (Mi.blk X scope cl Nb s₂ H2 C fp (X.pn ++ pins)) [] τ' H' s' → H' D = none → s'.heap.get? D = some { cls := .type "list", data := .seq its.toArray k } →
        Inv (Mi.blk X scope cl Nb s₂ H2 C fp (X.pn ++ pins)) [(D, { cls := .type "list", data := .seq its.toArray k })] τ' H' s' := fun {τ' H' s'} I' hn ho => I'.pins_of fun p hp => by
      rw [List.mem_singleton] at hp; subst hp
      exact ⟨ho, hn, hDC, dfs, by intro v; simp⟩
    have IbD := pinD Ib hDH hDo
    have onlyD : ∀ p ∈ [(D, ({ cls := .type "list", data := .seq its.toArray k } : Obj))], p.1 = D := fun p hp => by rw [List.mem_singleton] at hp; subst hp; rfl
    have ofD : ∀ {τ' : L2.St} {H' : Hp} {s' : Shared}, Inv (Mi.blk X scope cl Nb s₂ H2 C fp (X.pn ++ pins)) [(D, { cls := .type "list", data := .seq its.toArray k })] τ' H' s' → s'.heap.get? D = some { cls := .type "list", data := .seq its.toArray k } ∧ H' D = none := fun I' => by
      obtain ⟨a, b, _⟩ := I'.pin (D, _) (List.mem_append_right _ (List.mem_singleton.mpr rfl))
      exact ⟨a, b⟩
    rcases turn i n acc τ H3 w3 with ⟨stop, qn⟩ | ⟨go, step⟩
    · refine wpAny_mono (T.done (Mi.blk X scope cl Nb s₂ H2 C fp (X.pn ++ pins)) rfl rfl rfl hc i _ s3 τ H3 (fun _ _ => False) IbD (fpst fr3 onlyD) st3 stop) (fun r s4 ⟨hr, I4⟩ => ?_) fun _ _ z => z.elim
      subst hr
      obtain ⟨o4, n4⟩ := ofD I4
      obtain ⟨m4, ns4, _⟩ := I4.loc
      have I4' : Inv (Mi.blk X scope cl Nb s₂ H2 C fp (X.pn ++ pins)) [] τ H3 s4 := I4.pins_of fun p hp => by cases hp
      exact fin I4' n4 o4 r3 hz3 ns4 qn
    · refine wpAny_mono (T.item (Mi.blk X scope cl Nb s₂ H2 C fp (X.pn ++ pins)) rfl rfl rfl hc i _ s3 τ H3 (fun _ _ => False) IbD (fpst fr3 onlyD) st3 go) (fun r s4 ⟨u, hr, h4⟩ => ?_) fun _ _ z => z.elim
      subst hr
      refine wpAny_mono h4 (fun _ s5 ⟨x, H5, I5, r5, y5, st5, fr5⟩ => ?_) fun _ _ z => z.elim
      have I5' := I5.pinned (fpst fr5 onlyD) (T.obj _ _ st5)
      refine wpAny_mono (hg s₂ H2 C fp (X.pn ++ pins) _ s5 τ H5 x u _ I5' r5 (step x H5 y5)) (fun _ s6 ⟨τ6, H6, I6, q6⟩ => ?_) fun _ _ z => z.elim
      refine wpAny_mono (ht s₂ H2 C fp (X.pn ++ pins) _ s6 τ6 H6 _ I6 q6) (fun ok s7 ⟨H7, I7, q7⟩ => ?_) fun _ _ z => z.elim
      have keepT : ∀ {τ' : L2.St} {H' : Hp} {s' : Shared}, Inv (Mi.blk X scope cl Nb s₂ H2 C fp (X.pn ++ pins)) ([(D, { cls := .type "list", data := .seq its.toArray k })] ++ YS fp s5.heap) τ' H' s' → tn (i + 1) s'.heap ∧ (∀ b ∈ fp, H' b = none) ∧ s'.heap.get? D = some { cls := .type "list", data := .seq its.toArray k } ∧ H' D = none := fun {τ' H' s'} I' => by
        refine ⟨T.keep _ _ _ st5 fun b hb o e => (I'.pin (b, o) (List.mem_append_right _ (List.mem_append_right _ (Vx hb e)))).1, fun b hb => ?_, ?_⟩
        · obtain ⟨o, e, d⟩ := T.obj _ _ st5 b hb
          exact (I'.pin (b, o) (List.mem_append_right _ (List.mem_append_right _ (Vx hb e)))).2.1
        · obtain ⟨a, b, _⟩ := I'.pin (D, { cls := .type "list", data := .seq its.toArray k }) (List.mem_append_right _ (List.mem_append_left _ (List.mem_singleton.mpr rfl)))
          exact ⟨a, b⟩
      cases ok with
      | false =>
        rw [if_neg Bool.false_ne_true] at q7 ⊢
        obtain ⟨m', hm, w7⟩ := q7
        obtain ⟨t7, f7, o7, n7⟩ := keepT I7
        exact ⟨m', hm, i + 1, τ6, H7, acc, its, k, I7.pins_of (fun p hp => by cases hp), t7, f7, n7, o7, r3, hz3, w7⟩
      | true =>
        rw [if_pos rfl] at q7 ⊢
        refine wpAny_mono (he s₂ H2 C fp (X.pn ++ pins) _ s7 τ6 H7 _ I7 q7) (fun y s8 ⟨v8, H8, I8, r8, hlt, m', hm, w8⟩ => ?_) fun _ _ z => z.elim
        obtain ⟨t8, f8, o8, n8⟩ := keepT I8
        have hlen := r3.length
        refine call_meets F.slot_list_append ⟨_, o8, rfl⟩ F.entry_list_append (F.args_list_append_2 _ _) (PySem.list_append D its.toArray k y (by rw [List.size_toArray]; omega)) ⟨o8, ?_⟩
        have q := PySem.IsL.update o8 (·.push y)
        have hf : its.toArray.push y = (its ++ [y]).toArray := by simp
        rw [hf] at q
        have I8' : Inv (Mi.blk X scope cl Nb s₂ H2 C fp (X.pn ++ pins)) [] τ6 H8 s8 := I8.pins_of fun p hp => by cases hp
        have I9 : Inv (Mi.blk X scope cl Nb s₂ H2 C fp (X.pn ++ pins)) [] τ6 H8 { s8 with heap := s8.heap.update D (Obj.mapSeq (·.push y)), toks := s8.toks } :=
          I8'.turned (it := D) (fun b o hb e => (Heap.get?_update_other s8.heap (Obj.mapSeq (·.push y)) (Ne.symm hb)).trans e) n8 hDC (.inr hDle) (fun x c e => dcell x c e) fun p hp => by
            rw [List.append_nil] at hp; exact dpin p hp
        refine ⟨m', hm, i + 1, τ6, H8, acc ++ [v8], its ++ [y], _, I9, T.keep _ _ _ t8 (fun b hb o e => (Heap.get?_update_other s8.heap (Obj.mapSeq (·.push y)) (fun (z : D = b) => hDfp (z ▸ hb))).trans e), f8, n8, q, r3.append (.cons r8 .nil), by rw [List.length_append, List.length_singleton]; omega, w8⟩
  exact codeAny_compStart_list (loop _ rfl) (T.self _ 0 _ _ _ (T.keep _ _ _ st2 (fun b hb o e => old b o e)) (loop _ rfl))
theorem G8 (hc : X.calm = true) (B : BlkOk X scope cl Nb cp) (hi : PI X tg iter wi) (hg : ∀ s₀ H₀ C ex pn, PG (Mi.blk X scope cl Nb s₀ H₀ C ex pn) tg g)
    (ht : ∀ s₀ H₀ C ex pn, ∀ (pins : List (Addr × Obj)) (s : Shared) (τ : L2.St) (H : Hp) (Q : Bool → Hp → Prop), Inv (Mi.blk X scope cl Nb s₀ H₀ C ex pn) pins τ H s → tt τ H Q →
      wpAny (model X.prog X.w) X.A (forIn ifs true fun c r => if r = true then do let ok ← isTrue c (compEnvC scope cl C X.env) (eval c (compEnvC scope cl C X.env)); pure (ForInStep.yield ok) else pure (ForInStep.yield r)) (TP (Mi.blk X scope cl Nb s₀ H₀ C ex pn) pins τ Q) (fun _ _ => False) s)
    (he : ∀ s₀ H₀ C ex pn, PE (Mi.blk X scope cl Nb s₀ H₀ C ex pn) elt te) (hs : ∀ x, foldedSetIterable iter X.env x = pure x := by intro _; rfl) :
    PE X (.ListComp elt [⟨tg, iter, ifs, 0⟩] scope pos) (Qba wi cp g tt te) := by
  intro pins s σ H Q I h
  rw [eval_ListComp]
  refine Us hc B hi hg ht he hs I h fun D C H' s' m I' hns hn hL h0 hcell hp q => ⟨m, hns, fun h'' sb => ?_⟩
  exact ⟨.ref D, H', I'.turned (t' := s'.toks) (it := C) (fun b o hb e => sb.extBut b o hb e) hn hL (.inr h0) hcell hp, rfl, q⟩
theorem Qel {i : Nat} {x : Str} {pos' spos : Pos} (hN : X.N.Nodup) (hix : X.N[i]? = some x) (hx : Loc X.env.scope x) (hf : X.fn x = true ∨ X.env.scope.names.lookup x = some .local) (hsw : swapsWith (.ListComp elt [⟨tg, iter, ifs, 0⟩] scope pos) (some (.Name x pos')) spos.line X.env = pure true)
    (hc : X.calm = true) (B : BlkOk X scope cl Nb cp) (hi : PI X tg iter wi) (hg : ∀ s₀ H₀ C ex pn, PG (Mi.blk X scope cl Nb s₀ H₀ C ex pn) tg g)
    (ht : ∀ s₀ H₀ C ex pn, ∀ (pins : List (Addr × Obj)) (s : Shared) (τ : L2.St) (H : Hp) (Q : Bool → Hp → Prop), Inv (Mi.blk X scope cl Nb s₀ H₀ C ex pn) pins τ H s → tt τ H Q →
      wpAny (model X.prog X.w) X.A (forIn ifs true fun c r => if r = true then do let ok ← isTrue c (compEnvC scope cl C X.env) (eval c (compEnvC scope cl C X.env)); pure (ForInStep.yield ok) else pure (ForInStep.yield r)) (TP (Mi.blk X scope cl Nb s₀ H₀ C ex pn) pins τ Q) (fun _ _ => False) s)
    (he : ∀ s₀ H₀ C ex pn, PE (Mi.blk X scope cl Nb s₀ H₀ C ex pn) elt te) (hs : ∀ x, foldedSetIterable iter X.env x = pure x := by intro _; rfl) :
    PS X (.Assign [.Name x pos'] (.ListComp elt [⟨tg, iter, ifs, 0⟩] scope pos) spos) (Qgd (Qba wi cp g tt te) (Qap i)) := by
  intro pins s σ H D I h
  rw [exec_Assign_Name_used _ _ _ _ hsw]
  refine wpAny_bind (wpAny_standAt (wpAny_bind ?_))
  show wpAny _ X.A (do let _ ← comprehension (.ListComp elt [⟨tg, iter, ifs, 0⟩] scope pos) scope X.env _ (newList []) false (eval iter X.env) (some (assign (.Name x pos') X.env))) _ _ s
  refine wpAny_bind (wpAny_mono (Us (use := some (assign (.Name x pos') X.env)) (Q' := fun _ s' => SP X pins D .next s') hc B hi hg ht he hs I h fun D' C H' s' m I' hns hn hL h0 hcell hp q => ?_) (fun _ s' hq => wpAny_pure (wpAny_pure hq)) fun _ _ e => e)
  show wpAny _ X.A (assign (.Name x pos') X.env (.ref D')) _ _ s'
  refine wpAny_assign_Name (Wc (v := .ref D') I' hN hix hx rfl (fun s5 I5 ⟨a, sb, ha⟩ => ?_) hf)
  have hne : C ≠ a := fun z => by
    rcases ha with ha | ha
    · exact hL (z.trans ha)
    · exact hcell x a ha z.symm
  exact ⟨m, hns.sameBut sb hne, fun h'' sb2 => ⟨_, H', I5.turned (t' := s5.toks) (it := C) (fun b o hb e => sb2.extBut b o hb e) hn hL (.inr h0) hcell hp, q⟩⟩
end
end Mi

namespace Mi
open PySem PySem.Spec PyProof.Rows L2

noncomputable def IterR (X : Cx) (tg : Expr) (r : V → Hp → (It → Hp → Prop) → Prop) : Prop :=
  ∀ (pins : List (Addr × Obj)) (s : Shared) (σ : L2.St) (H : Hp) (x : V) (v : Value) (C : It → Hp → Prop), Inv X pins σ H s → RelV x v → r x H C → wpAny (model X.prog X.w) X.A (pyIter v) (PIE X pins σ tg C) X.xe s
section
variable {X : Cx} {tg : Expr}
theorem IterR.or {r r' : V → Hp → (It → Hp → Prop) → Prop} (h : IterR X tg r) (h' : IterR X tg r') : IterR X tg (fun x H C => r x H C ∨ r' x H C) := fun pins s σ H x v C I rx q => by
  rcases q with q | q
  · exact h pins s σ H x v C I rx q
  · exact h' pins s σ H x v C I rx q
theorem it_list : IterR X tg (fun x H C => ∃ a, x = .ref a ∧ (∃ xs, SqL X.K H a xs) ∧ C (Itl X.K a) H) := by
  intro pins s1 σ H1 x v C I1 r1 q1
  obtain ⟨a, e, ⟨xs, hq⟩, q⟩ := q1
  subst e
  cases r1
  obtain ⟨its, rv, p, hz⟩ := I1.list hq
  refine wpAny_pyIter_list p.isList ?_
  refine ⟨s1.heap.objs.size, [s1.heap.objs.size], _, _, H1, rfl, I1.kept (t' := s1.toks) fun b o e => Heap.get?_push_of_some _ e, QaL a _, ⟨_, Heap.get?_push_size _ rfl, rfl, rfl⟩, fun b hb => ?_, q⟩
  have e : b = s1.heap.objs.size := by simpa using hb
  subst e
  exact I1.fpOk (Nat.le_refl _) (I1.hok.fresh (Nat.le_refl _))
theorem Qfl : IterR X tg (fun x H C => ∃ a, x = .ref a ∧ (∃ xs, SqT X.K H a xs) ∧ C (Itt X.K a) H) := by
  intro pins s1 σ H1 x v C I1 r1 q1
  obtain ⟨a, e, ⟨xs, hq⟩, q⟩ := q1
  subst e
  cases r1
  obtain ⟨its, rv, p, hz⟩ := I1.tuple hq
  refine wpAny_pyIter_tuple (show s1.heap.IsTuple a its.toArray from p) ?_
  refine ⟨s1.heap.objs.size, [s1.heap.objs.size], _, _, H1, rfl, I1.kept (t' := s1.toks) fun b o e => Heap.get?_push_of_some _ e, U4 a _, ⟨_, Heap.get?_push_size _ rfl, rfl, rfl⟩, fun b hb => ?_, q⟩
  have e : b = s1.heap.objs.size := by simpa using hb
  subst e
  exact I1.fpOk (Nat.le_refl _) (I1.hok.fresh (Nat.le_refl _))
noncomputable def Its (x : Str) : It := ⟨fun i _ => i < x.cps.size, fun i H v H' => H' = H ∧ ∃ c, x.cps[i]? = some c ∧ v = .str ⟨#[c]⟩, fun i _ => x.cps.size ≤ i⟩
noncomputable def Y1 (x : Str) : List W := x.cps.toList.map fun c => .str ⟨#[c]⟩
theorem Qb0 {P : Program} {w : World} {K : PySem.W.Frag} {tg : Expr} (it : Addr) (x : Str) (ty : String) (t : Tok) (hty : ty = "str_ascii_iterator" ∨ ty = "str_iterator") :
    Turn P w K tg (Its x) [it] it (fun i h => i ≤ x.cps.size ∧ h.IsStrIter it ty x t i) where
  mem := by simp
  obj := fun i h st b hb => by
    have e : b = it := by simpa using hb
    subst e
    obtain ⟨_, o, e, c, d⟩ := st
    exact ⟨o, e, fun v z => by rw [d] at z; cases z⟩
  keep := fun i h h' st k => ⟨st.1, let ⟨o, ho, r⟩ := st.2; ⟨o, k it (by simp) o ho, r⟩⟩
  item := by
    intro X hP hw hK hc i pins s σ H E I hf st hg
    subst hP hw hK
    obtain ⟨hi, st⟩ := st
    obtain ⟨f0, f1, f2, f3, f4, f5⟩ := hf it (by simp)
    have hg' : i < x.cps.size := hg
    have hx : x.cps[i]? = some (x.cps[i]'hg') := Array.getElem?_eq_getElem hg'
    have fin : ∀ h' : Heap, h'.IsStrIter it ty x t (i + 1) → Heap.SameBut it s.heap h' → ∃ u, some (Value.str ⟨#[x.cps[i]'hg']⟩ s.toks) = some u ∧ wpAny (model X.prog X.w) X.A (letOwnedTupleGo tg (.ref it) u) (fun _ s2 => ∃ y H', Inv X pins σ H' s2 ∧ RelV y u ∧ (Its x).yld i H y H' ∧ (i + 1 ≤ x.cps.size ∧ s2.heap.IsStrIter it ty x t (i + 1)) ∧ ∀ b ∈ [it], H' b = none) E { s with heap := h', toks := s.toks + 1 } := fun h' st' sb => by
      have I1 : Inv X pins σ H { s with heap := h', toks := s.toks + 1 } := I.turned (fun b o hb e => (sb.2 b hb).trans e) f0 f1 f3 f4 f5
      obtain ⟨o, e, c, d⟩ := id st'
      refine ⟨_, rfl, Qaf (s := { s with heap := h', toks := s.toks + 1 }) e c d (by rcases hty with z | z <;> rw [z] <;> decide) ⟨.str ⟨#[x.cps[i]'hg']⟩, H, I1, ⟨_, rfl⟩, ⟨rfl, _, hx, rfl⟩, ⟨hg, st'⟩, fun b hb => (hf b hb).1⟩⟩
    rcases hty with z | z
    · subst z
      exact wpAny_pyNext_ascii_item st hx fin
    · subst z
      exact wpAny_pyNext_wide_item st hx fin
  done := by
    intro X hP hw hK hc i pins s σ H E I hf st hg
    subst hP hw hK
    obtain ⟨hi, st⟩ := st
    obtain ⟨f0, f1, f2, f3, f4, f5⟩ := hf it (by simp)
    have hx : x.cps[i]? = none := by have : x.cps.size ≤ i := hg; simp; omega
    rcases hty with z | z
    · subst z
      exact wpAny_pyNext_ascii_end (I.ok.hd hc) st hx fun h' eb => ⟨rfl, I.turned (t' := s.toks) (fun b o hb e => eb b o hb e) f0 f1 f3 f4 f5⟩
    · subst z
      exact wpAny_pyNext_wide_end (I.ok.hd hc) st hx fun h' eb => ⟨rfl, I.turned (t' := s.toks) (fun b o hb e => eb b o hb e) f0 f1 f3 f4 f5⟩
  self := fun _ _ _ _ _ st h => by
    rcases hty with z | z
    · subst z; exact wpAny_pyIter_striter_ascii st.2 h
    · subst z; exact wpAny_pyIter_striter_wide st.2 h
theorem QfJ : IterR X tg (fun x H C => ∃ y, x = .str y ∧ C (Its y) H) := by
  intro pins s1 σ H1 x v C I1 r1 q1
  obtain ⟨y, rfl, q⟩ := q1
  obtain ⟨t, rfl⟩ := r1
  have fin : ∀ ty, (ty = "str_ascii_iterator" ∨ ty = "str_iterator") → PIE X pins σ tg C (.ref s1.heap.objs.size) { s1 with heap := s1.heap.push { cls := .type ty, data := .fields #[.str y t, .int 0 0] } } := fun ty hty => by
    refine ⟨s1.heap.objs.size, [s1.heap.objs.size], _, _, H1, rfl, I1.kept (t' := s1.toks) fun b o e => Heap.get?_push_of_some _ e, Qb0 _ y ty t hty, ⟨Nat.zero_le _, _, Heap.get?_push_size _ rfl, rfl, rfl⟩, fun b hb => ?_, q⟩
    have e : b = s1.heap.objs.size := by simpa using hb
    subst e
    exact I1.fpOk (Nat.le_refl _) (I1.hok.fresh (Nat.le_refl _))
  cases ha : y.cps.all (· < 128)
  · exact wpAny_pyIter_wide ha (fin _ (.inr rfl))
  · exact wpAny_pyIter_ascii ha (fin _ (.inl rfl))
end
noncomputable def QcQ (h : MH) : W → Option (List W × Option Nat)
  | .tup ws => some (ws, none)
  | .lst ws => some (ws, none)
  | .frz ws => some (ws, none)
  | .str x => some (Y1 x, none)
  | .ref n => match h[n]? with | some (.lst ws) => some (ws, some n) | _ => none
  | _ => none
noncomputable def JX (m : ME) : MI := fun σ h => (m σ h).bind fun p => (QcQ p.2 p.1).map fun q => (q.1, q.2, p.2)
section
variable {K : PySem.W.Frag} {R : Rn}
theorem Y8 {a : Addr} {xs : List V} {ws : List W} (hq : SqL K R.F a xs) (r : Rws K R ws xs) : ItOk K R (Itl K a) ws none where
  go := fun i w R' h H x rh _ e => by
    obtain ⟨v, h1, _⟩ := r.get e
    exact ⟨xs, v, Zn (fun b o z => rh.sub b o (x.f b o z)) hq, h1⟩
  yld := fun i w R' h H x H' e rh _ ew hy => by
    obtain ⟨rfl, hx⟩ := hy
    obtain ⟨v, h1, h2⟩ := r.get ew
    have := hx xs (Zn (fun b o z => rh.sub b o (e.f b o z)) hq)
    rw [h1] at this; cases this
    exact ⟨R', Ext.refl _, rh, Rw.mono e _ _ h2⟩
  stop := fun i R' h H x rh _ hl => ⟨xs, Zn (fun b o z => rh.sub b o (x.f b o z)) hq, by rw [← r.length]; exact hl⟩
theorem Qa6 {a : Addr} {xs : List V} {ws : List W} (hq : SqT K R.F a xs) (r : Rws K R ws xs) : ItOk K R (Itt K a) ws none where
  go := fun i w R' h H x rh _ e => by
    obtain ⟨v, h1, _⟩ := r.get e
    exact ⟨xs, v, J3 (fun b o z => rh.sub b o (x.f b o z)) hq, h1⟩
  yld := fun i w R' h H x H' e rh _ ew hy => by
    obtain ⟨rfl, hx⟩ := hy
    obtain ⟨v, h1, h2⟩ := r.get ew
    have := hx xs (J3 (fun b o z => rh.sub b o (e.f b o z)) hq)
    rw [h1] at this; cases this
    exact ⟨R', Ext.refl _, rh, Rw.mono e _ _ h2⟩
  stop := fun i R' h H x rh _ hl => ⟨xs, J3 (fun b o z => rh.sub b o (x.f b o z)) hq, by rw [← r.length]; exact hl⟩
theorem QbZ {n : Nat} {ws : List W} (hn : n < R.N) : ItOk K R (Itl K (R.ρ n)) ws (some n) where
  go := fun i w R' h H x rh hl e => by
    obtain ⟨xs, h1, h2⟩ := rh.obj n _ (hl n rfl)
    obtain ⟨v, h3, _⟩ := h2.get e
    rw [x.ρ n hn] at h1
    exact ⟨xs, v, SqL.of h1, h3⟩
  yld := fun i w R' h H x H' e rh hl ew hy => by
    obtain ⟨rfl, hx⟩ := hy
    obtain ⟨xs, h1, h2⟩ := rh.obj n _ (hl n rfl)
    obtain ⟨v, h3, h4⟩ := h2.get ew
    rw [e.ρ n hn] at h1
    have := hx xs (SqL.of h1)
    rw [h3] at this; cases this
    exact ⟨R', Ext.refl _, rh, h4⟩
  stop := fun i R' h H x rh hl hle => by
    obtain ⟨xs, h1, h2⟩ := rh.obj n _ (hl n rfl)
    rw [x.ρ n hn] at h1
    exact ⟨xs, SqL.of h1, by rw [← h2.length]; exact hle⟩
theorem QbA {x : Str} : ItOk K R (Its x) (Y1 x) none where
  go := fun i w R' h H _ _ _ e => by
    have := (List.getElem?_eq_some_iff.mp e).1
    show i < x.cps.size
    simpa [Y1] using this
  yld := fun i w R' h H v H' e rh _ ew hy => by
    obtain ⟨rfl, c, hc, rfl⟩ := hy
    unfold Y1 at ew
    rw [List.getElem?_map, Array.getElem?_toList, hc] at ew
    cases ew
    exact ⟨R', Ext.refl _, rh, Rw.str _⟩
  stop := fun i R' h H _ _ _ hl => by
    show x.cps.size ≤ i
    simpa [Y1] using hl
theorem KB {lo : Int} {n : Nat} : ItOk K R (Itr lo n) ((List.range n).map fun (i : Nat) => W.int (lo + (i : Int))) none where
  go := fun i w R' h H _ _ _ e => by
    have := (List.getElem?_eq_some_iff.mp e).1
    show i < n
    simpa using this
  yld := fun i w R' h H v H' e rh _ ew hy => by
    obtain ⟨rfl, rfl⟩ := hy
    rw [List.getElem?_map] at ew
    obtain ⟨j, hj, e2⟩ := Option.map_eq_some_iff.mp ew
    rw [List.getElem?_range (by have := (List.getElem?_eq_some_iff.mp hj).1; simpa using this)] at hj
    cases hj
    cases e2
    exact ⟨R', Ext.refl _, rh, Rw.int _⟩
  stop := fun i R' h H _ _ _ hl => by
    show n ≤ i
    simpa using hl
end
section
variable {X : Cx} {tg a b c : Expr} {ma : ME} {ms : MA} {pos p : Pos}
theorem Vi (ha : PM X a ma) : PMI X tg a (JX ma) := by
  intro pins s σ H C I q
  obtain ⟨R, σi, h, items, src, h', rh, st, e, k⟩ := q
  obtain ⟨⟨w, h1⟩, e1, e2⟩ := Option.bind_eq_some_iff.mp e
  obtain ⟨⟨its, sr⟩, e3, e4⟩ := Option.map_eq_some_iff.mp e2
  cases e4
  refine thn (ha pins s σ H _ I ⟨R, σi, h, w, h1, rh, st, e1, fun R1 H1 v x1 rh1 rv => ?_⟩) fun v s1 ⟨x, H1, I1, r1, q1⟩ => ((it_list.or Qfl).or QfJ) pins s1 σ H1 x v C I1 r1 q1
  cases w with
  | tup ws =>
    cases e3
    obtain ⟨ad, xs, rfl, h2, h3⟩ := rh1.tupAt rv
    unfold Rw at rv
    obtain ⟨ad', xs', e5, e6, e7⟩ := rv
    cases e5
    exact .inl (.inr ⟨_, rfl, ⟨xs, h2⟩, k R1 H1 _ x1 rh1 (Qa6 e6 e7)⟩)
  | lst ws =>
    cases e3
    unfold Rw at rv
    obtain ⟨ad', xs', rfl, e6, e7⟩ := rv
    exact .inl (.inl ⟨_, rfl, ⟨xs', SqL.of (rh1.sub _ _ e6)⟩, k R1 H1 _ x1 rh1 (Y8 (SqL.of e6) e7)⟩)
  | frz ws =>
    cases e3
    unfold Rw at rv
    obtain ⟨ad', xs', rfl, e6, e7⟩ := rv
    exact .inl (.inl ⟨_, rfl, ⟨xs', Zn rh1.sub e6⟩, k R1 H1 _ x1 rh1 (Y8 e6 e7)⟩)
  | str y =>
    cases e3
    rw [rv.str_eq]
    exact .inr ⟨y, rfl, k R1 H1 _ x1 rh1 QbA⟩
  | ref n =>
    simp only [QcQ] at e3
    split at e3
    · rename_i ws hn
      cases e3
      obtain ⟨hlt, rfl, xs, h2, h3⟩ := rh1.refAt rv hn
      exact .inl (.inl ⟨_, rfl, ⟨xs, SqL.of h2⟩, k R1 H1 _ x1 rh1 (QbZ hlt)⟩)
    · cases e3
  | _ => cases e3
noncomputable def QO (lo : Int) (n : Nat) : List W := (List.range n).map fun (i : Nat) => W.int (lo + (i : Int))
noncomputable def Yu (ms : MA) : MI := fun σ h => (ms σ h).bind fun p => match p.1 with
  | [.int j] => if -(2 ^ 62) ≤ j ∧ j < 2 ^ 62 then some (QO 0 j.toNat, none, p.2) else none
  | _ => none
noncomputable def Qb9 (ms : MA) : MI := fun σ h => (ms σ h).bind fun p => match p.1 with
  | [.int i, .int j] => if -(2 ^ 62) ≤ i ∧ i < 2 ^ 62 ∧ -(2 ^ 62) ≤ j ∧ j < 2 ^ 62 then some (QO i (j - i).toNat, none, p.2) else none
  | _ => none
theorem Xi (hg : Gl X "range") (hm : X.mg "range" = none) (ha : PMA X [a] ms) (hs : starEach [a] X.env = [(false, eval a X.env)] := by rfl) : PMI X tg (.Call (.Name "range" p) [a] [] pos) (Yu ms) :=
  Ub (Gq hg hm ha hs) fun σ H C ⟨R, σi, h, items, src, h', rh, st, e, k⟩ => by
    obtain ⟨⟨ws, h1⟩, e1, e2⟩ := Option.bind_eq_some_iff.mp e
    refine ⟨R, σi, h, ws, h1, rh, st, e1, fun R1 H1 vs x1 rh1 rv => ?_⟩
    split at e2
    · rename_i j hj
      simp only at hj
      subst hj
      split at e2
      · rename_i hb
        cases e2
        rw [Rws.cons_iff] at rv
        obtain ⟨v, vs', rfl, r1, r2⟩ := rv
        rw [Rws.nil_iff] at r2
        subst r2
        rw [r1.int_eq]
        exact ⟨j, rfl, hb.1, hb.2, k R1 H1 _ x1 rh1 KB⟩
      · cases e2
    · cases e2
theorem QcL (hg : Gl X "range") (hm : X.mg "range" = none) (ha : PMA X [a, b] ms) (hs : starEach [a, b] X.env = [(false, eval a X.env), (false, eval b X.env)] := by rfl) (hs2 : starEach [b] X.env = [(false, eval b X.env)] := by rfl) : PMI X tg (.Call (.Name "range" p) [a, b] [] pos) (Qb9 ms) :=
  Ub (Qac hg hm ha hs hs2) fun σ H C ⟨R, σi, h, items, src, h', rh, st, e, k⟩ => by
    obtain ⟨⟨ws, h1⟩, e1, e2⟩ := Option.bind_eq_some_iff.mp e
    refine ⟨R, σi, h, ws, h1, rh, st, e1, fun R1 H1 vs x1 rh1 rv => ?_⟩
    split at e2
    · rename_i i j hj
      simp only at hj
      subst hj
      split at e2
      · rename_i hb
        cases e2
        rw [Rws.cons_iff] at rv
        obtain ⟨v, vs', rfl, r1, r2⟩ := rv
        rw [Rws.cons_iff] at r2
        obtain ⟨v2, vs2, rfl, r3, r4⟩ := r2
        rw [Rws.nil_iff] at r4
        subst r4
        rw [r1.int_eq, r3.int_eq]
        exact ⟨i, j, rfl, hb, k R1 H1 _ x1 rh1 KB⟩
      · cases e2
    · cases e2
end
noncomputable def QbG (cp : List (Option Nat)) (σ : MSt) : MSt := cp.map fun o => match o with | none => none | some j => match σ[j]? with | some v => v | none => none
theorem Rst.cap {K : PySem.W.Frag} {R : Rn} {σi : MSt} {σ : L2.St} (s : Rst K R σi σ) (cp : List (Option Nat)) : Rst K R (QbG cp σi) (YJ cp σ) := by
  unfold QbG YJ
  refine ⟨by simp, fun i w e => ?_⟩
  rw [List.getElem?_map] at e ⊢
  obtain ⟨o, h1, h2⟩ := Option.map_eq_some_iff.mp e
  rw [h1]
  cases o with
  | none => cases h2
  | some j =>
    simp only at h2
    split at h2
    · rename_i u hu
      subst h2
      obtain ⟨v, h3, h4⟩ := s.2 j w hu
      exact ⟨v, by simp [h3], h4⟩
    · cases h2
open Classical in
noncomputable def Vd (fin : List W → MH → Option (W × MH)) (items : List W) (src : Option Nat) (b : MG) (mt : MT) (me : ME) : List W → List W → MSt → MH → Option (W × MH)
  | [], acc, _, h => if Qct src items h then fin acc h else none
  | w :: r, acc, τ, h => if Qct src items h then (b w τ h).bind fun τ1 => (mt τ1 h).bind fun q => match q.1 with
      | true => (me τ1 q.2).bind fun v => if acc.length < sizeLine then Vd fin items src b mt me r (acc ++ [v.1]) τ1 v.2 else none
      | false => Vd fin items src b mt me r acc τ1 q.2
    else none
noncomputable def JU (fin : List W → MH → Option (W × MH)) (mi : MI) (cp : List (Option Nat)) (b : MG) (mt : MT) (me : ME) : ME := fun σ h => (mi σ h).bind fun p => Vd fin p.1 p.2.1 b mt me p.1 [] (QbG cp σ) p.2.2
noncomputable def WJ : MT := fun _ h => some (true, h)
noncomputable def Kx (acc : List W) (h : MH) : Option (W × MH) := some (.lst acc, h)
noncomputable def Qgq (acc : List W) (h : MH) : Option (W × MH) := some (.ref h.length, h ++ [.lst acc])
noncomputable def U6 (K : PySem.W.Frag) (fin : List W → MH → Option (W × MH)) : Prop := ∀ R h H acc accV w h' D, Rh K R h H → Rws K R acc accV → fin acc h = some (w, h') → H D = none → ∃ R', Ext R R' ∧ Rh K R' h' (upd H D (.lst accV)) ∧ Rw K R' w (.ref D)
theorem VL {K : PySem.W.Frag} : U6 K Kx := fun R h H acc accV w h' D rh r e hD => by
  cases e
  exact rh.lstI hD r
theorem QdS {K : PySem.W.Frag} : U6 K Qgq := fun R h H acc accV w h' D rh r e hD => by
  cases e
  exact rh.new hD fun R' x' => ⟨accV, rfl, Rws.mono x' _ _ r⟩
section
variable {X : Cx} {elt tg iter c : Expr} {scope : Scope} {pos : Pos} {cl : List (Str × Addr)} {Nb : List Str} {cp : List (Option Nat)} {mi : MI} {b : MG} {mt : MT} {me : ME} {fin : List W → MH → Option (W × MH)}
theorem WW {K : PySem.W.Frag} (hf : U6 K fin) {σ : L2.St} {H : Hp} {Q : VK} (q : tI K (JU fin mi cp b mt me) σ H Q) : Qba (tII K mi) cp (tIG K b) (tIT K mt) (tI K me) σ H Q := by
  obtain ⟨R, σi, h, w, h', rh, s, e, k⟩ := q
  obtain ⟨⟨items, src, h1⟩, e1, e2⟩ := Option.bind_eq_some_iff.mp e
  refine ⟨R, σi, h, items, src, h1, rh, s, e1, fun R1 H1 J x1 rh1 it => ?_⟩
  refine ⟨fun i n acc τ H => i + n = items.length ∧ ∃ R2 σ2 h2 accW, Ext R1 R2 ∧ Rh K R2 h2 H ∧ Rst K R2 σ2 τ ∧ Rws K R2 accW acc ∧ Vd fin items src b mt me (items.drop i) accW σ2 h2 = some (w, h') ∧ After K R2 w h' Q, ⟨items.length, by simp, R1, QbG cp σi, h1, [], Ext.refl _, rh1, (s.mono x1).cap cp, Rws.nil, by simpa using e2, k.ext x1⟩, ?_⟩
  rintro i n acc τ H2 ⟨hin, R2, σ2, h2, accW, x2, rh2, s2, ra, e3, k2⟩
  by_cases hi : i < items.length
  · obtain ⟨y, hy⟩ : ∃ y, items[i]? = some y := ⟨items[i], List.getElem?_eq_getElem hi⟩
    have hd : items.drop i = y :: items.drop (i + 1) := by
      rw [List.drop_eq_getElem_cons hi]
      rw [List.getElem?_eq_getElem hi] at hy
      cases hy; rfl
    rw [hd] at e3
    unfold Vd at e3
    split at e3
    · rename_i hl
      obtain ⟨σ3, e4, e5⟩ := Option.bind_eq_some_iff.mp e3
      obtain ⟨⟨t, h3⟩, e6, e7⟩ := Option.bind_eq_some_iff.mp e5
      refine .inr ⟨it.go i y R2 h2 H2 x2 rh2 hl hy, fun x H' hyl => ?_⟩
      obtain ⟨R3, x3, rh3, rw3⟩ := it.yld i y R2 h2 H2 x H' x2 rh2 hl hy hyl
      refine ⟨R3, σ2, h2, y, σ3, rh3, s2.mono x3, rw3, e4, fun R4 H4 τ4 x4 rh4 s4 => ?_⟩
      refine ⟨R4, σ3, h2, t, h3, rh4, s4, e6, fun R5 H5 x5 rh5 => ?_⟩
      cases t with
      | true =>
        obtain ⟨⟨v, h4⟩, e8, e9⟩ := Option.bind_eq_some_iff.mp e7
        dsimp only at e9
        split at e9
        · rename_i hz
          refine QeA ⟨R5, σ3, h3, v, h4, rh5, s4.mono x5, e8, fun R6 H6 u x6 rh6 rv => ⟨by rw [← ra.length]; exact hz, n - 1, by omega, by omega, R6, σ3, h4, accW ++ [v], x2.trans (x3.trans (x4.trans (x5.trans x6))), rh6, s4.mono (x5.trans x6), ?_, e9, k2.ext (x3.trans (x4.trans (x5.trans x6)))⟩⟩
          exact Rws.append (Rws.mono (x3.trans (x4.trans (x5.trans x6))) _ _ ra) (Rws.cons rv Rws.nil)
        · cases e9
      | false =>
        exact Qev ⟨n - 1, by omega, by omega, R5, σ3, h3, accW, x2.trans (x3.trans (x4.trans x5)), rh5, s4.mono x5, Rws.mono (x3.trans (x4.trans x5)) _ _ ra, e7, k2.ext (x3.trans (x4.trans x5))⟩
    · cases e3
  · have hd : items.drop i = [] := List.drop_eq_nil_of_le (by omega)
    rw [hd] at e3
    unfold Vd at e3
    split at e3
    · rename_i hl
      refine .inl ⟨it.stop i R2 h2 H2 x2 rh2 hl (by omega), fun D hD => ?_⟩
      obtain ⟨R3, x3, rh3, rw3⟩ := hf R2 h2 H2 accW acc w h' D rh2 ra e3 hD
      exact k2 R3 _ _ x3 rh3 rw3
    · cases e3
theorem VR (hf : U6 X.K fin) (hc : X.calm = true) (B : BlkOk X scope cl Nb cp) (hi : PMI X tg iter mi) (hg : ∀ s₀ H₀ C ex pn, PMG (Mi.blk X scope cl Nb s₀ H₀ C ex pn) tg b)
    (he : ∀ s₀ H₀ C ex pn, PM (Mi.blk X scope cl Nb s₀ H₀ C ex pn) elt me) (hs : ∀ x, foldedSetIterable iter X.env x = pure x := by intro _; rfl) :
    PM X (.ListComp elt [⟨tg, iter, [], 0⟩] scope pos) (JU fin mi cp b WJ me) :=
  ZE (G8 (g := tIG X.K b) (te := tI X.K me) (tt := tIT X.K WJ) hc B hi hg (fun s₀ H₀ C ex pn pins s τ H Q I q => wpAny_tests_nil (by
    obtain ⟨R, σi, h, t, h', rh, st, e, k⟩ := q
    cases e
    exact ⟨H, I, k R H (Ext.refl _) rh⟩)) he hs) fun _ _ _ q => WW hf q
theorem Qca (hf : U6 X.K fin) (hc : X.calm = true) (B : BlkOk X scope cl Nb cp) (hi : PMI X tg iter mi) (hg : ∀ s₀ H₀ C ex pn, PMG (Mi.blk X scope cl Nb s₀ H₀ C ex pn) tg b)
    (ht : ∀ s₀ H₀ C ex pn, PMT (Mi.blk X scope cl Nb s₀ H₀ C ex pn) c mt)
    (he : ∀ s₀ H₀ C ex pn, PM (Mi.blk X scope cl Nb s₀ H₀ C ex pn) elt me) (hs : ∀ x, foldedSetIterable iter X.env x = pure x := by intro _; rfl) :
    PM X (.ListComp elt [⟨tg, iter, [c], 0⟩] scope pos) (JU fin mi cp b mt me) :=
  ZE (G8 (g := tIG X.K b) (te := tI X.K me) (tt := tIT X.K mt) hc B hi hg (fun s₀ H₀ C ex pn pins s τ H Q I q => wpAny_tests_one (ht s₀ H₀ C ex pn pins s τ H Q I q)) he hs) fun _ _ _ q => WW hf q
end
end Mi

namespace Mi
open PySem PySem.Spec PyProof.Rows L2 PySem.SeqAt

mutual
noncomputable def eqW : W → W → Bool
  | .non, .non => true
  | .bl a, .bl b => a == b
  | .bl a, .int b => (if a then 1 else 0) == b
  | .int a, .bl b => a == (if b then 1 else 0)
  | .int a, .int b => a == b
  | .str a, .str b => a == b
  | .tup a, .tup b => KD a b
  | .lst a, .lst b => KD a b
  | _, _ => false
noncomputable def KD : List W → List W → Bool
  | [], [] => true
  | x :: xs, y :: ys => eqW x y && KD xs ys
  | _, _ => false
end
noncomputable def Ji {α β : Type} (f : α → Option β) : List α → Option (List β)
  | [] => some []
  | x :: xs => (f x).bind fun y => (Ji f xs).map (y :: ·)
noncomputable def drf (h : MH) : Nat → W → Option W
  | 0, _ => none
  | n + 1, w => match w with
    | .tup ws => (Ji (drf h n) ws).map .tup
    | .lst ws => (Ji (drf h n) ws).map .lst
    | .frz ws => (Ji (drf h n) ws).map .lst
    | .ref k => match h[k]? with | some (.lst ws) => (Ji (drf h n) ws).map .lst | _ => none
    | .ty _ => none
    | .non => some .non
    | .bl b => some (.bl b)
    | .int i => some (.int i)
    | .str x => some (.str x)
theorem QN {α β : Type} {f : α → Option β} : ∀ {xs : List α} {ys : List β}, Ji f xs = some ys → xs.length = ys.length ∧ ∀ (i : Nat) x, xs[i]? = some x → ∃ y, ys[i]? = some y ∧ f x = some y
  | [], ys, e => by cases e; exact ⟨rfl, fun i x h => by simp at h⟩
  | x :: xs, ys, e => by
    obtain ⟨y, h1, h2⟩ := Option.bind_eq_some_iff.mp e
    obtain ⟨zs, h3, h4⟩ := Option.map_eq_some_iff.mp h2
    subst h4
    obtain ⟨l, q⟩ := QN h3
    refine ⟨by simp [l], fun i z hz => ?_⟩
    cases i with
    | zero => simp at hz; subst hz; exact ⟨y, by simp, h1⟩
    | succ i => simp at hz; obtain ⟨u, h5, h6⟩ := q i z hz; exact ⟨u, by simp [h5], h6⟩
theorem VX : ∀ {a b : List W}, a.length ≠ b.length → KD a b = false
  | [], [], h => absurd rfl h
  | [], _ :: _, _ => by unfold KD; rfl
  | _ :: _, [], _ => by unfold KD; rfl
  | x :: xs, y :: ys, h => by
    unfold KD
    rw [VX (a := xs) (b := ys) (fun z => h (by simp [z])), Bool.and_false]
theorem V4 : ∀ {a b : List W}, a.length = b.length → KD a b = (List.range a.length).all fun j => match a[j]?, b[j]? with | some x, some y => eqW x y | _, _ => false
  | [], [], _ => by unfold KD; rfl
  | x :: xs, y :: ys, h => by
    have ih := V4 (a := xs) (b := ys) (by simpa using h)
    unfold KD
    rw [ih, List.length_cons, List.range_succ_eq_map, List.all_cons, List.all_map]
    simp [Function.comp_def]
inductive Kd (K : PySem.W.Frag) (R : Rn) (h : MH) (H : Hp) (n : Nat) (v : V) : W → Prop where
  | flat {a : W} (f : QdH v = true) (e : (v = .non ∧ a = .non) ∨ (∃ b, v = .bl b ∧ a = .bl b) ∨ (∃ i, v = .int i ∧ a = .int i) ∨ ∃ x, v = .str x ∧ a = .str x) : Kd K R h H n v a
  | lst {ad : Addr} {xs : List V} {ws as : List W} (e : v = .ref ad) (q : SqL K H ad xs) (r : Rws K R ws xs) (m : Ji (drf h n) ws = some as) : Kd K R h H n v (.lst as)
  | tup {ad : Addr} {xs : List V} {ws as : List W} (e : v = .ref ad) (q : SqT K H ad xs) (r : Rws K R ws xs) (m : Ji (drf h n) ws = some as) : Kd K R h H n v (.tup as)
theorem Vz {K : PySem.W.Frag} {R : Rn} {h : MH} {H : Hp} {n : Nat} {w a : W} {v : V} (rh : Rh K R h H) (r : Rw K R w v) (e : drf h (n + 1) w = some a) : Kd K R h H n v a := by
  cases w with
  | non => rw [r.non_eq]; cases e; exact .flat rfl (.inl ⟨rfl, rfl⟩)
  | bl b => rw [r.bl_eq]; cases e; exact .flat rfl (.inr (.inl ⟨b, rfl, rfl⟩))
  | int i => rw [r.int_eq]; cases e; exact .flat rfl (.inr (.inr (.inl ⟨i, rfl, rfl⟩)))
  | str x => rw [r.str_eq]; cases e; exact .flat rfl (.inr (.inr (.inr ⟨x, rfl, rfl⟩)))
  | tup ws =>
    obtain ⟨ad, xs, e1, q, r1⟩ := rh.tupAt r
    obtain ⟨as, m, e2⟩ := Option.map_eq_some_iff.mp e
    subst e2
    exact .tup e1 q r1 m
  | lst ws =>
    obtain ⟨ad, xs, e1, q, r1⟩ := rh.lstAt r
    obtain ⟨as, m, e2⟩ := Option.map_eq_some_iff.mp e
    subst e2
    exact .lst e1 (SqL.of q) r1 m
  | frz ws =>
    obtain ⟨ad, xs, e1, q, r1⟩ := rh.frzAt r
    obtain ⟨as, m, e2⟩ := Option.map_eq_some_iff.mp e
    subst e2
    exact .lst e1 q r1 m
  | ref k =>
    simp only [drf] at e
    split at e
    · rename_i ws hk
      obtain ⟨as, m, e2⟩ := Option.map_eq_some_iff.mp e
      subst e2
      obtain ⟨_, e1, xs, q, r1⟩ := rh.refAt r hk
      exact .lst e1 (SqL.of q) r1 m
    · cases e
  | ty _ => cases e
section
variable {X : Cx} {pins : List (Addr × Obj)} {σ : L2.St} {H : Hp} {s : Shared} {R : Rn} {h : MH}
theorem XO {K : PySem.W.Frag} {n : Nat} (ih : ∀ w1 w2 v a b, Rw K R w1 v → Rw K R w2 v → drf h n w1 = some a → drf h n w2 = some b → a = b) :
    ∀ {ws1 ws2 : List W} {xs : List V} {a b : List W}, Rws K R ws1 xs → Rws K R ws2 xs → Ji (drf h n) ws1 = some a → Ji (drf h n) ws2 = some b → a = b
  | [], ws2, xs, a, b, r1, r2, m1, m2 => by
    rw [Rws.nil_iff] at r1; subst r1
    cases ws2 with
    | nil => cases m1; cases m2; rfl
    | cons w ws => rw [Rws.cons_iff] at r2; obtain ⟨_, _, z, _⟩ := r2; cases z
  | w :: ws1, ws2, xs, a, b, r1, r2, m1, m2 => by
    rw [Rws.cons_iff] at r1
    obtain ⟨v, xs', rfl, p1, p2⟩ := r1
    cases ws2 with
    | nil => rw [Rws.nil_iff] at r2; cases r2
    | cons w' ws2 =>
      rw [Rws.cons_iff] at r2
      obtain ⟨_, _, z, q1, q2⟩ := r2
      cases z
      obtain ⟨y, h1, h2⟩ := Option.bind_eq_some_iff.mp m1
      obtain ⟨zs, h3, h4⟩ := Option.map_eq_some_iff.mp h2
      obtain ⟨y', h1', h2'⟩ := Option.bind_eq_some_iff.mp m2
      obtain ⟨zs', h3', h4'⟩ := Option.map_eq_some_iff.mp h2'
      subst h4 h4'
      rw [ih w w' v y y' p1 q1 h1 h1', XO ih p2 q2 h3 h3']
theorem Xh (I : Inv X pins σ H s) {a : Addr} {xs ys : List V} (q : SqL X.K H a xs) (q' : SqT X.K H a ys) : False := by
  obtain ⟨its, _, p, _⟩ := I.list q
  obtain ⟨its', _, p', _⟩ := I.tuple q'
  obtain ⟨o, n, h1, h2, _⟩ := p
  obtain ⟨o', h1', h2', _⟩ := p'
  rw [h1] at h1'; cases h1'
  rw [h2] at h2'
  exact absurd h2' (by simp)
theorem XB (I : Inv X pins σ H s) (rh : Rh X.K R h H) : ∀ (n : Nat) (w1 w2 : W) (v : V) (a b : W), Rw X.K R w1 v → Rw X.K R w2 v → drf h n w1 = some a → drf h n w2 = some b → a = b
  | 0, _, _, _, _, _, _, _, e, _ => by cases e
  | n + 1, w1, w2, v, a, b, r1, r2, e1, e2 => by
    have ih := XB I rh n
    cases Vz rh r1 e1 with
    | flat f z =>
      cases Vz rh r2 e2 with
      | flat f' z' =>
        rcases z with ⟨rfl, rfl⟩ | ⟨_, rfl, rfl⟩ | ⟨_, rfl, rfl⟩ | ⟨_, rfl, rfl⟩ <;> rcases z' with ⟨z1, rfl⟩ | ⟨_, z1, rfl⟩ | ⟨_, z1, rfl⟩ | ⟨_, z1, rfl⟩ <;> cases z1 <;> rfl
      | lst e => subst e; cases f
      | tup e => subst e; cases f
    | lst e q r m =>
      subst e
      cases Vz rh r2 e2 with
      | flat f => cases f
      | lst e' q' r' m' => cases e'; have := I.list_inj q q'; subst this; rw [XO ih r r' m m']
      | tup e' q' => cases e'; exact (Xh I q q').elim
    | tup e q r m =>
      subst e
      cases Vz rh r2 e2 with
      | flat f => cases f
      | lst e' q' => cases e'; exact (Xh I q' q).elim
      | tup e' q' r' m' => cases e'; have := I.tuple_inj q q'; subst this; rw [XO ih r r' m m']
mutual
theorem K8 : ∀ (n : Nat) (w a : W), drf h n w = some a → eqW a a = true
  | 0, _, _, e => by cases e
  | n + 1, w, a, e => by
    cases w with
    | non => cases e; unfold eqW; rfl
    | bl b => cases e; unfold eqW; simp
    | int i => cases e; unfold eqW; simp
    | str x => cases e; unfold eqW; simp
    | tup ws => obtain ⟨as, m, e2⟩ := Option.map_eq_some_iff.mp e; subst e2; unfold eqW; exact Vr n ws as m
    | lst ws => obtain ⟨as, m, e2⟩ := Option.map_eq_some_iff.mp e; subst e2; unfold eqW; exact Vr n ws as m
    | frz ws => obtain ⟨as, m, e2⟩ := Option.map_eq_some_iff.mp e; subst e2; unfold eqW; exact Vr n ws as m
    | ref k =>
      simp only [drf] at e
      split at e
      · rename_i ws hk
        obtain ⟨as, m, e2⟩ := Option.map_eq_some_iff.mp e; subst e2; unfold eqW; exact Vr n ws as m
      · cases e
    | ty _ => cases e
theorem Vr : ∀ (n : Nat) (ws as : List W), Ji (drf h n) ws = some as → KD as as = true
  | n, [], _, m => by cases m; unfold KD; rfl
  | n, w :: ws, _, m => by
    obtain ⟨y, h1, h2⟩ := Option.bind_eq_some_iff.mp m
    obtain ⟨zs, h3, h4⟩ := Option.map_eq_some_iff.mp h2
    subst h4
    unfold KD
    rw [K8 n w y h1, Vr n ws zs h3]; rfl
end
theorem Vu {n : Nat} {A : Around} (ih : ∀ w1 w2 v1 v2 u1 u2 a b, Rw X.K R w1 v1 → Rw X.K R w2 v2 → RelV v1 u1 → RelV v2 u2 → drf h n w1 = some a → drf h n w2 = some b → EqAt A s u1 u2 (eqW a b))
    {ws1 ws2 as bs : List W} {xs ys : List V} {its its2 : List Value} (r1 : Rws X.K R ws1 xs) (r2 : Rws X.K R ws2 ys) (v1 : Vals xs its) (v2 : Vals ys its2) (m1 : Ji (drf h n) ws1 = some as) (m2 : Ji (drf h n) ws2 = some bs)
    (j : Nat) (h1 : j < its.toArray.size) (h2 : j < its2.toArray.size) : EqAt A s its.toArray[j] its2.toArray[j] (match as[j]?, bs[j]? with | some x, some y => eqW x y | _, _ => false) := by
  have l1 := r1.length; have l2 := v1.length; have l3 := r2.length; have l4 := v2.length
  rw [List.size_toArray] at h1 h2
  obtain ⟨w1, hw1⟩ : ∃ w, ws1[j]? = some w := ⟨ws1[j]'(by omega), List.getElem?_eq_getElem _⟩
  obtain ⟨w2, hw2⟩ : ∃ w, ws2[j]? = some w := ⟨ws2[j]'(by omega), List.getElem?_eq_getElem _⟩
  obtain ⟨x, hx, rx⟩ := r1.get hw1
  obtain ⟨y, hy, ry⟩ := r2.get hw2
  obtain ⟨u, hu, ru⟩ := v1.get hx
  obtain ⟨t, ht, rt⟩ := v2.get hy
  obtain ⟨a, ha, ea⟩ := (QN m1).2 j w1 hw1
  obtain ⟨b, hb, eb⟩ := (QN m2).2 j w2 hw2
  rw [ha, hb]
  have e1 : its.toArray[j] = u := by
    have := hu; rw [List.getElem?_eq_getElem h1] at this; simpa using this
  have e2 : its2.toArray[j] = t := by
    have := ht; rw [List.getElem?_eq_getElem h2] at this; simpa using this
  rw [e1, e2]
  exact ih w1 w2 x y u t a b rx ry ru rt ea eb
theorem W6 (I : Inv X pins σ H s) {n : Nat} {A : Around} (hu : A.units < cLine) (ih : ∀ w1 w2 v1 v2 u1 u2 a b, Rw X.K R w1 v1 → Rw X.K R w2 v2 → RelV v1 u1 → RelV v2 u2 → drf h n w1 = some a → drf h n w2 = some b → EqAt A.in1 s u1 u2 (eqW a b))
    {ad bd : Addr} {ws1 ws2 as bs : List W} {xs ys : List V} (q1 : SqL X.K H ad xs) (q2 : SqL X.K H bd ys) (r1 : Rws X.K R ws1 xs) (r2 : Rws X.K R ws2 ys) (m1 : Ji (drf h n) ws1 = some as) (m2 : Ji (drf h n) ws2 = some bs) : RcAt A s (.ref ad) (.ref bd) (KD as bs) := by
  obtain ⟨its, v1, p1, _⟩ := I.list q1
  obtain ⟨its2, v2, p2, _⟩ := I.list q2
  have l1 := r1.length; have l2 := v1.length; have l3 := r2.length; have l4 := v2.length
  have l5 := (QN m1).1; have l6 := (QN m2).1
  by_cases hl : as.length = bs.length
  · rw [V4 hl]
    have := RcAt.lists (A := A) p1.isList p2.isList (by rw [List.size_toArray, List.size_toArray]; omega) hu (fun j h1 h2 => Vu ih r1 r2 v1 v2 m1 m2 j h1 h2)
    rw [List.size_toArray] at this
    rw [show as.length = its.length by omega]
    exact this
  · rw [VX hl]
    exact RcAt.lists_lengths p1.isList p2.isList (by rw [List.size_toArray, List.size_toArray]; simp; omega) hu
theorem G6 (I : Inv X pins σ H s) {n : Nat} {A : Around} (hu : A.units < cLine) (ih : ∀ w1 w2 v1 v2 u1 u2 a b, Rw X.K R w1 v1 → Rw X.K R w2 v2 → RelV v1 u1 → RelV v2 u2 → drf h n w1 = some a → drf h n w2 = some b → EqAt A.in1 s u1 u2 (eqW a b))
    {ad bd : Addr} {ws1 ws2 as bs : List W} {xs ys : List V} (q1 : SqT X.K H ad xs) (q2 : SqT X.K H bd ys) (r1 : Rws X.K R ws1 xs) (r2 : Rws X.K R ws2 ys) (m1 : Ji (drf h n) ws1 = some as) (m2 : Ji (drf h n) ws2 = some bs) : RcAt A s (.ref ad) (.ref bd) (KD as bs) := by
  obtain ⟨its, v1, p1, _⟩ := I.tuple q1
  obtain ⟨its2, v2, p2, _⟩ := I.tuple q2
  have l1 := r1.length; have l2 := v1.length; have l3 := r2.length; have l4 := v2.length
  have l5 := (QN m1).1; have l6 := (QN m2).1
  have := RcAt.tuples (A := A) (show s.heap.IsTuple ad its.toArray from p1) (show s.heap.IsTuple bd its2.toArray from p2) hu (fun j h1 h2 => Vu ih r1 r2 v1 v2 m1 m2 j h1 h2)
  rw [List.size_toArray, List.size_toArray] at this
  by_cases hl : as.length = bs.length
  · rw [V4 hl]
    rw [show min its.length its2.length = as.length by omega, show (its.length == its2.length) = true by simp; omega, Bool.and_true] at this
    exact this
  · rw [VX hl]
    rw [show (its.length == its2.length) = false by simp; omega, Bool.and_false] at this
    exact this
theorem W9 (I : Inv X pins σ H s) (rh : Rh X.K R h H) : ∀ (n : Nat) (A : Around), A.units + n < cLine → ∀ (w1 w2 : W) (v1 v2 : V) (u1 u2 : Value) (a b : W), Rw X.K R w1 v1 → Rw X.K R w2 v2 → RelV v1 u1 → RelV v2 u2 → drf h n w1 = some a → drf h n w2 = some b → EqAt A s u1 u2 (eqW a b)
  | 0, _, _, _, _, _, _, _, _, _, _, _, _, _, _, e, _ => by cases e
  | n + 1, A, hu, w1, w2, v1, v2, u1, u2, a, b, r1, r2, t1, t2, e1, e2 => by
    have hu0 : A.units < cLine := by omega
    have ih := W9 I rh n A.in1 (by show A.units + 1 + n < cLine; omega)
    have isl : ∀ {ad : Addr} {xs : List V}, SqL X.K H ad xs → ∃ its : Array Value, s.heap.IsList ad its := fun q => by
      obtain ⟨its, _, p, _⟩ := I.list q; exact ⟨_, p.isList⟩
    have ist : ∀ {ad : Addr} {xs : List V}, SqT X.K H ad xs → ∃ its : Array Value, s.heap.IsTuple ad its := fun q => by
      obtain ⟨its, _, p, _⟩ := I.tuple q; exact ⟨_, p⟩
    cases Vz rh r1 e1 with
    | flat f z =>
      cases Vz rh r2 e2 with
      | flat f' z' =>
        have := QeF (A := A) (s := s) t1 t2 f f'
        rcases z with ⟨rfl, rfl⟩ | ⟨_, rfl, rfl⟩ | ⟨_, rfl, rfl⟩ | ⟨_, rfl, rfl⟩ <;> rcases z' with ⟨rfl, rfl⟩ | ⟨_, rfl, rfl⟩ | ⟨_, rfl, rfl⟩ | ⟨_, rfl, rfl⟩ <;> (unfold eqW; exact this)
      | lst e q =>
        subst e
        cases t2
        obtain ⟨its, p⟩ := isl q
        rcases z with ⟨rfl, rfl⟩ | ⟨_, rfl, rfl⟩ | ⟨_, rfl, rfl⟩ | ⟨_, rfl, rfl⟩
        · cases t1; unfold eqW; exact EqAt.none_list p hu0
        · cases t1; unfold eqW; exact EqAt.bool_list _ p hu0
        · obtain ⟨t, rfl⟩ := t1; unfold eqW; exact EqAt.int_list _ t p hu0
        · obtain ⟨t, rfl⟩ := t1; unfold eqW; exact EqAt.str_list _ t p hu0
      | tup e q =>
        subst e
        cases t2
        obtain ⟨its, p⟩ := ist q
        rcases z with ⟨rfl, rfl⟩ | ⟨_, rfl, rfl⟩ | ⟨_, rfl, rfl⟩ | ⟨_, rfl, rfl⟩
        · cases t1; unfold eqW; exact EqAt.none_tuple p hu0
        · cases t1; unfold eqW; exact EqAt.bool_tuple _ p hu0
        · obtain ⟨t, rfl⟩ := t1; unfold eqW; exact EqAt.int_tuple _ t p hu0
        · obtain ⟨t, rfl⟩ := t1; unfold eqW; exact EqAt.str_tuple _ t p hu0
    | @lst ad1 _ _ _ e q r m =>
      subst e
      cases t1
      obtain ⟨its, p⟩ := isl q
      have k2 := Vz rh r2 e2
      cases k2 with
      | flat f' z' =>
        rcases z' with ⟨rfl, rfl⟩ | ⟨_, rfl, rfl⟩ | ⟨_, rfl, rfl⟩ | ⟨_, rfl, rfl⟩
        · cases t2; unfold eqW; exact EqAt.list_none p hu0
        · cases t2; unfold eqW; exact EqAt.list_bool _ p hu0
        · obtain ⟨t, rfl⟩ := t2; unfold eqW; exact EqAt.list_int _ t p hu0
        · obtain ⟨t, rfl⟩ := t2; unfold eqW; exact EqAt.list_str _ t p hu0
      | @lst ad2 _ _ _ e' q' r' m' =>
        subst e'
        cases t2
        by_cases hab : ad1 = ad2
        · subst hab
          have := XB I rh (n + 1) w1 w2 _ _ _ r1 r2 e1 e2
          rw [this, K8 (n + 1) w2 _ e2]
          exact EqAt.same _
        · unfold eqW
          exact EqAt.of_refs hab (W6 I hu0 ih q q' r r' m m')
      | tup e' q' =>
        subst e'
        cases t2
        obtain ⟨its', p'⟩ := ist q'
        unfold eqW; exact EqAt.list_tuple p p' hu0
    | @tup ad1 _ _ _ e q r m =>
      subst e
      cases t1
      obtain ⟨its, p⟩ := ist q
      have k2 := Vz rh r2 e2
      cases k2 with
      | flat f' z' =>
        rcases z' with ⟨rfl, rfl⟩ | ⟨_, rfl, rfl⟩ | ⟨_, rfl, rfl⟩ | ⟨_, rfl, rfl⟩
        · cases t2; unfold eqW; exact EqAt.tuple_none p hu0
        · cases t2; unfold eqW; exact EqAt.tuple_bool _ p hu0
        · obtain ⟨t, rfl⟩ := t2; unfold eqW; exact EqAt.tuple_int _ t p hu0
        · obtain ⟨t, rfl⟩ := t2; unfold eqW; exact EqAt.tuple_str _ t p hu0
      | lst e' q' =>
        subst e'
        cases t2
        obtain ⟨its', p'⟩ := isl q'
        unfold eqW; exact EqAt.tuple_list p p' hu0
      | @tup ad2 _ _ _ e' q' r' m' =>
        subst e'
        cases t2
        by_cases hab : ad1 = ad2
        · subst hab
          have := XB I rh (n + 1) w1 w2 _ _ _ r1 r2 e1 e2
          rw [this, K8 (n + 1) w2 _ e2]
          exact EqAt.same _
        · unfold eqW
          exact EqAt.of_refs hab (G6 I hu0 ih q q' r r' m m')
end
end Mi

namespace Mi
open PySem PySem.Spec PyProof.Rows L2 PySem.SeqAt
section
variable {X : Cx} {pins : List (Addr × Obj)} {σ : L2.St} {H : Hp} {s : Shared} {R : Rn} {h : MH}
theorem U1 (I : Inv X pins σ H s) {n : Nat} {A : Around} (hu : A.units < cLine) (ih : ∀ w1 w2 v1 v2 u1 u2 a b, Rw X.K R w1 v1 → Rw X.K R w2 v2 → RelV v1 u1 → RelV v2 u2 → drf h n w1 = some a → drf h n w2 = some b → EqAt A.in1 s u1 u2 (eqW a b))
    {ad bd : Addr} {ws1 ws2 as bs : List W} {xs ys : List V} (q1 : SqL X.K H ad xs) (q2 : SqL X.K H bd ys) (r1 : Rws X.K R ws1 xs) (r2 : Rws X.K R ws2 ys) (m1 : Ji (drf h n) ws1 = some as) (m2 : Ji (drf h n) ws2 = some bs) : RcNeAt A s (.ref ad) (.ref bd) (!KD as bs) := by
  obtain ⟨its, v1, p1, _⟩ := I.list q1
  obtain ⟨its2, v2, p2, _⟩ := I.list q2
  have l1 := r1.length; have l2 := v1.length; have l3 := r2.length; have l4 := v2.length
  have l5 := (QN m1).1; have l6 := (QN m2).1
  by_cases hl : as.length = bs.length
  · rw [V4 hl]
    have := RcNeAt.lists (A := A) p1.isList p2.isList (by rw [List.size_toArray, List.size_toArray]; omega) hu (fun j h1 h2 => Vu ih r1 r2 v1 v2 m1 m2 j h1 h2)
    rw [List.size_toArray] at this
    rw [show as.length = its.length by omega]
    exact this
  · rw [VX hl]
    exact RcNeAt.lists_lengths p1.isList p2.isList (by rw [List.size_toArray, List.size_toArray]; simp; omega) hu
theorem Qax (I : Inv X pins σ H s) {n : Nat} {A : Around} (hu : A.units < cLine) (ih : ∀ w1 w2 v1 v2 u1 u2 a b, Rw X.K R w1 v1 → Rw X.K R w2 v2 → RelV v1 u1 → RelV v2 u2 → drf h n w1 = some a → drf h n w2 = some b → EqAt A.in1 s u1 u2 (eqW a b))
    {ad bd : Addr} {ws1 ws2 as bs : List W} {xs ys : List V} (q1 : SqT X.K H ad xs) (q2 : SqT X.K H bd ys) (r1 : Rws X.K R ws1 xs) (r2 : Rws X.K R ws2 ys) (m1 : Ji (drf h n) ws1 = some as) (m2 : Ji (drf h n) ws2 = some bs) : RcNeAt A s (.ref ad) (.ref bd) (!KD as bs) := by
  obtain ⟨its, v1, p1, _⟩ := I.tuple q1
  obtain ⟨its2, v2, p2, _⟩ := I.tuple q2
  have l1 := r1.length; have l2 := v1.length; have l3 := r2.length; have l4 := v2.length
  have l5 := (QN m1).1; have l6 := (QN m2).1
  have := RcNeAt.tuples (A := A) (show s.heap.IsTuple ad its.toArray from p1) (show s.heap.IsTuple bd its2.toArray from p2) hu (fun j h1 h2 => Vu ih r1 r2 v1 v2 m1 m2 j h1 h2)
  rw [List.size_toArray, List.size_toArray] at this
  by_cases hl : as.length = bs.length
  · rw [V4 hl]
    rw [show min its.length its2.length = as.length by omega, show (its.length == its2.length) = true by simp; omega, Bool.and_true] at this
    exact this
  · rw [VX hl]
    rw [show (its.length == its2.length) = false by simp; omega, Bool.and_false] at this
    exact this
theorem QeB (I : Inv X pins σ H s) (rh : Rh X.K R h H) (n : Nat) (A : Around) (hu : A.units + n < cLine) (w1 w2 : W) (v1 v2 : V) (u1 u2 : Value) (a b : W) (r1 : Rw X.K R w1 v1) (r2 : Rw X.K R w2 v2) (t1 : RelV v1 u1) (t2 : RelV v2 u2) (e1 : drf h n w1 = some a) (e2 : drf h n w2 = some b) : RcAt A s u1 u2 (eqW a b) := by
  cases n with
  | zero => cases e1
  | succ n =>
    have hu0 : A.units < cLine := by omega
    have ih := W9 I rh n A.in1 (by show A.units + 1 + n < cLine; omega)
    have isl : ∀ {ad : Addr} {xs : List V}, SqL X.K H ad xs → ∃ its : Array Value, s.heap.IsList ad its := fun q => by
      obtain ⟨its, _, p, _⟩ := I.list q; exact ⟨_, p.isList⟩
    have ist : ∀ {ad : Addr} {xs : List V}, SqT X.K H ad xs → ∃ its : Array Value, s.heap.IsTuple ad its := fun q => by
      obtain ⟨its, _, p, _⟩ := I.tuple q; exact ⟨_, p⟩
    cases Vz rh r1 e1 with
    | flat f z =>
      cases Vz rh r2 e2 with
      | flat f' z' =>
        rcases z with ⟨rfl, rfl⟩ | ⟨_, rfl, rfl⟩ | ⟨_, rfl, rfl⟩ | ⟨_, rfl, rfl⟩ <;> rcases z' with ⟨rfl, rfl⟩ | ⟨_, rfl, rfl⟩ | ⟨_, rfl, rfl⟩ | ⟨_, rfl, rfl⟩ <;> first | (obtain ⟨t1', rfl⟩ := t1) | cases t1
        · first | (obtain ⟨t2', rfl⟩ := t2) | cases t2
          unfold eqW; exact RcAt.none_none
        · first | (obtain ⟨t2', rfl⟩ := t2) | cases t2
          unfold eqW; exact RcAt.none_bool _
        · first | (obtain ⟨t2', rfl⟩ := t2) | cases t2
          unfold eqW; exact RcAt.none_int _ _
        · first | (obtain ⟨t2', rfl⟩ := t2) | cases t2
          unfold eqW; exact RcAt.none_str _ _
        · first | (obtain ⟨t2', rfl⟩ := t2) | cases t2
          unfold eqW; exact RcAt.bool_none _
        · first | (obtain ⟨t2', rfl⟩ := t2) | cases t2
          unfold eqW; exact RcAt.bool_bool _ _
        · first | (obtain ⟨t2', rfl⟩ := t2) | cases t2
          unfold eqW; exact RcAt.bool_int _ _ _
        · first | (obtain ⟨t2', rfl⟩ := t2) | cases t2
          unfold eqW; exact RcAt.bool_str _ _ _
        · first | (obtain ⟨t2', rfl⟩ := t2) | cases t2
          unfold eqW; exact RcAt.int_none _ _
        · first | (obtain ⟨t2', rfl⟩ := t2) | cases t2
          unfold eqW; exact RcAt.int_bool _ _ _
        · first | (obtain ⟨t2', rfl⟩ := t2) | cases t2
          unfold eqW; exact RcAt.int_int _ _ _ _
        · first | (obtain ⟨t2', rfl⟩ := t2) | cases t2
          unfold eqW; exact RcAt.int_str _ _ _ _
        · first | (obtain ⟨t2', rfl⟩ := t2) | cases t2
          unfold eqW; exact RcAt.str_none _ _
        · first | (obtain ⟨t2', rfl⟩ := t2) | cases t2
          unfold eqW; exact RcAt.str_bool _ _ _
        · first | (obtain ⟨t2', rfl⟩ := t2) | cases t2
          unfold eqW; exact RcAt.str_int _ _ _ _
        · first | (obtain ⟨t2', rfl⟩ := t2) | cases t2
          unfold eqW; exact RcAt.str_str _ _ _ _
      | lst e q =>
        subst e
        cases t2
        obtain ⟨its, p⟩ := isl q
        rcases z with ⟨rfl, rfl⟩ | ⟨_, rfl, rfl⟩ | ⟨_, rfl, rfl⟩ | ⟨_, rfl, rfl⟩
        · cases t1; unfold eqW; exact RcAt.none_list p hu0
        · cases t1; unfold eqW; exact RcAt.bool_list _ p hu0
        · obtain ⟨t, rfl⟩ := t1; unfold eqW; exact RcAt.int_list _ t p hu0
        · obtain ⟨t, rfl⟩ := t1; unfold eqW; exact RcAt.str_list _ t p hu0
      | tup e q =>
        subst e
        cases t2
        obtain ⟨its, p⟩ := ist q
        rcases z with ⟨rfl, rfl⟩ | ⟨_, rfl, rfl⟩ | ⟨_, rfl, rfl⟩ | ⟨_, rfl, rfl⟩
        · cases t1; unfold eqW; exact RcAt.none_tuple p hu0
        · cases t1; unfold eqW; exact RcAt.bool_tuple _ p hu0
        · obtain ⟨t, rfl⟩ := t1; unfold eqW; exact RcAt.int_tuple _ t p hu0
        · obtain ⟨t, rfl⟩ := t1; unfold eqW; exact RcAt.str_tuple _ t p hu0
    | @lst ad1 _ _ _ e q r m =>
      subst e
      cases t1
      obtain ⟨its, p⟩ := isl q
      have k2 := Vz rh r2 e2
      cases k2 with
      | flat f' z' =>
        rcases z' with ⟨rfl, rfl⟩ | ⟨_, rfl, rfl⟩ | ⟨_, rfl, rfl⟩ | ⟨_, rfl, rfl⟩
        · cases t2; unfold eqW; exact RcAt.list_none p hu0
        · cases t2; unfold eqW; exact RcAt.list_bool _ p hu0
        · obtain ⟨t, rfl⟩ := t2; unfold eqW; exact RcAt.list_int _ t p hu0
        · obtain ⟨t, rfl⟩ := t2; unfold eqW; exact RcAt.list_str _ t p hu0
      | tup e' q' =>
        subst e'
        cases t2
        obtain ⟨its', p'⟩ := ist q'
        unfold eqW; exact RcAt.list_tuple p p' hu0
      | lst e' q' r' m' =>
        subst e'
        cases t2
        unfold eqW
        exact W6 I hu0 ih q q' r r' m m'
    | @tup ad1 _ _ _ e q r m =>
      subst e
      cases t1
      obtain ⟨its, p⟩ := ist q
      have k2 := Vz rh r2 e2
      cases k2 with
      | flat f' z' =>
        rcases z' with ⟨rfl, rfl⟩ | ⟨_, rfl, rfl⟩ | ⟨_, rfl, rfl⟩ | ⟨_, rfl, rfl⟩
        · cases t2; unfold eqW; exact RcAt.tuple_none p hu0
        · cases t2; unfold eqW; exact RcAt.tuple_bool _ p hu0
        · obtain ⟨t, rfl⟩ := t2; unfold eqW; exact RcAt.tuple_int _ t p hu0
        · obtain ⟨t, rfl⟩ := t2; unfold eqW; exact RcAt.tuple_str _ t p hu0
      | lst e' q' =>
        subst e'
        cases t2
        obtain ⟨its', p'⟩ := isl q'
        unfold eqW; exact RcAt.tuple_list p p' hu0
      | tup e' q' r' m' =>
        subst e'
        cases t2
        unfold eqW
        exact G6 I hu0 ih q q' r r' m m'
theorem Qcb (I : Inv X pins σ H s) (rh : Rh X.K R h H) (n : Nat) (A : Around) (hu : A.units + n < cLine) (w1 w2 : W) (v1 v2 : V) (u1 u2 : Value) (a b : W) (r1 : Rw X.K R w1 v1) (r2 : Rw X.K R w2 v2) (t1 : RelV v1 u1) (t2 : RelV v2 u2) (e1 : drf h n w1 = some a) (e2 : drf h n w2 = some b) : RcNeAt A s u1 u2 (!eqW a b) := by
  cases n with
  | zero => cases e1
  | succ n =>
    have hu0 : A.units < cLine := by omega
    have ih := W9 I rh n A.in1 (by show A.units + 1 + n < cLine; omega)
    have isl : ∀ {ad : Addr} {xs : List V}, SqL X.K H ad xs → ∃ its : Array Value, s.heap.IsList ad its := fun q => by
      obtain ⟨its, _, p, _⟩ := I.list q; exact ⟨_, p.isList⟩
    have ist : ∀ {ad : Addr} {xs : List V}, SqT X.K H ad xs → ∃ its : Array Value, s.heap.IsTuple ad its := fun q => by
      obtain ⟨its, _, p, _⟩ := I.tuple q; exact ⟨_, p⟩
    cases Vz rh r1 e1 with
    | flat f z =>
      cases Vz rh r2 e2 with
      | flat f' z' =>
        rcases z with ⟨rfl, rfl⟩ | ⟨_, rfl, rfl⟩ | ⟨_, rfl, rfl⟩ | ⟨_, rfl, rfl⟩ <;> rcases z' with ⟨rfl, rfl⟩ | ⟨_, rfl, rfl⟩ | ⟨_, rfl, rfl⟩ | ⟨_, rfl, rfl⟩ <;> first | (obtain ⟨t1', rfl⟩ := t1) | cases t1
        · first | (obtain ⟨t2', rfl⟩ := t2) | cases t2
          unfold eqW; exact RcNeAt.none_none
        · first | (obtain ⟨t2', rfl⟩ := t2) | cases t2
          unfold eqW; exact RcNeAt.none_bool _
        · first | (obtain ⟨t2', rfl⟩ := t2) | cases t2
          unfold eqW; exact RcNeAt.none_int _ _
        · first | (obtain ⟨t2', rfl⟩ := t2) | cases t2
          unfold eqW; exact RcNeAt.none_str _ _
        · first | (obtain ⟨t2', rfl⟩ := t2) | cases t2
          unfold eqW; exact RcNeAt.bool_none _
        · first | (obtain ⟨t2', rfl⟩ := t2) | cases t2
          unfold eqW; exact RcNeAt.bool_bool _ _
        · first | (obtain ⟨t2', rfl⟩ := t2) | cases t2
          unfold eqW; exact RcNeAt.bool_int _ _ _
        · first | (obtain ⟨t2', rfl⟩ := t2) | cases t2
          unfold eqW; exact RcNeAt.bool_str _ _ _
        · first | (obtain ⟨t2', rfl⟩ := t2) | cases t2
          unfold eqW; exact RcNeAt.int_none _ _
        · first | (obtain ⟨t2', rfl⟩ := t2) | cases t2
          unfold eqW; exact RcNeAt.int_bool _ _ _
        · first | (obtain ⟨t2', rfl⟩ := t2) | cases t2
          unfold eqW; exact RcNeAt.int_int _ _ _ _
        · first | (obtain ⟨t2', rfl⟩ := t2) | cases t2
          unfold eqW; exact RcNeAt.int_str _ _ _ _
        · first | (obtain ⟨t2', rfl⟩ := t2) | cases t2
          unfold eqW; exact RcNeAt.str_none _ _
        · first | (obtain ⟨t2', rfl⟩ := t2) | cases t2
          unfold eqW; exact RcNeAt.str_bool _ _ _
        · first | (obtain ⟨t2', rfl⟩ := t2) | cases t2
          unfold eqW; exact RcNeAt.str_int _ _ _ _
        · first | (obtain ⟨t2', rfl⟩ := t2) | cases t2
          unfold eqW; exact RcNeAt.str_str _ _ _ _
      | lst e q =>
        subst e
        cases t2
        obtain ⟨its, p⟩ := isl q
        rcases z with ⟨rfl, rfl⟩ | ⟨_, rfl, rfl⟩ | ⟨_, rfl, rfl⟩ | ⟨_, rfl, rfl⟩
        · cases t1; unfold eqW; exact RcNeAt.none_list p hu0
        · cases t1; unfold eqW; exact RcNeAt.bool_list _ p hu0
        · obtain ⟨t, rfl⟩ := t1; unfold eqW; exact RcNeAt.int_list _ t p hu0
        · obtain ⟨t, rfl⟩ := t1; unfold eqW; exact RcNeAt.str_list _ t p hu0
      | tup e q =>
        subst e
        cases t2
        obtain ⟨its, p⟩ := ist q
        rcases z with ⟨rfl, rfl⟩ | ⟨_, rfl, rfl⟩ | ⟨_, rfl, rfl⟩ | ⟨_, rfl, rfl⟩
        · cases t1; unfold eqW; exact RcNeAt.none_tuple p hu0
        · cases t1; unfold eqW; exact RcNeAt.bool_tuple _ p hu0
        · obtain ⟨t, rfl⟩ := t1; unfold eqW; exact RcNeAt.int_tuple _ t p hu0
        · obtain ⟨t, rfl⟩ := t1; unfold eqW; exact RcNeAt.str_tuple _ t p hu0
    | @lst ad1 _ _ _ e q r m =>
      subst e
      cases t1
      obtain ⟨its, p⟩ := isl q
      have k2 := Vz rh r2 e2
      cases k2 with
      | flat f' z' =>
        rcases z' with ⟨rfl, rfl⟩ | ⟨_, rfl, rfl⟩ | ⟨_, rfl, rfl⟩ | ⟨_, rfl, rfl⟩
        · cases t2; unfold eqW; exact RcNeAt.list_none p hu0
        · cases t2; unfold eqW; exact RcNeAt.list_bool _ p hu0
        · obtain ⟨t, rfl⟩ := t2; unfold eqW; exact RcNeAt.list_int _ t p hu0
        · obtain ⟨t, rfl⟩ := t2; unfold eqW; exact RcNeAt.list_str _ t p hu0
      | tup e' q' =>
        subst e'
        cases t2
        obtain ⟨its', p'⟩ := ist q'
        unfold eqW; exact RcNeAt.list_tuple p p' hu0
      | lst e' q' r' m' =>
        subst e'
        cases t2
        unfold eqW
        exact U1 I hu0 ih q q' r r' m m'
    | @tup ad1 _ _ _ e q r m =>
      subst e
      cases t1
      obtain ⟨its, p⟩ := ist q
      have k2 := Vz rh r2 e2
      cases k2 with
      | flat f' z' =>
        rcases z' with ⟨rfl, rfl⟩ | ⟨_, rfl, rfl⟩ | ⟨_, rfl, rfl⟩ | ⟨_, rfl, rfl⟩
        · cases t2; unfold eqW; exact RcNeAt.tuple_none p hu0
        · cases t2; unfold eqW; exact RcNeAt.tuple_bool _ p hu0
        · obtain ⟨t, rfl⟩ := t2; unfold eqW; exact RcNeAt.tuple_int _ t p hu0
        · obtain ⟨t, rfl⟩ := t2; unfold eqW; exact RcNeAt.tuple_str _ t p hu0
      | lst e' q' =>
        subst e'
        cases t2
        obtain ⟨its', p'⟩ := isl q'
        unfold eqW; exact RcNeAt.tuple_list p p' hu0
      | tup e' q' r' m' =>
        subst e'
        cases t2
        unfold eqW
        exact Qax I hu0 ih q q' r r' m m'
end
noncomputable def wEq (a b : W) (h : MH) : Option (W × MH) := (drf h 40 a).bind fun x => (drf h 40 b).map fun y => (.bl (eqW x y), h)
noncomputable def wNe (a b : W) (h : MH) : Option (W × MH) := (drf h 40 a).bind fun x => (drf h 40 b).map fun y => (.bl (!eqW x y), h)
theorem Qk {K : PySem.W.Frag} {f : W → W → MH → Option (W × MH)} : OpM K (F2 K f) f := fun _ _ _ _ q => q
section
variable {X : Cx}
theorem Q9 (hu : X.A.units + 64 < cLine) : OpR X (compareOp .Eq) (F2 X.K wEq) := by
  intro pins s σ H x y v u Q I rx ry q
  obtain ⟨R, h, a, b, w, h', rh, ra, rb, e, k⟩ := q
  obtain ⟨a', e1, e2⟩ := Option.bind_eq_some_iff.mp e
  obtain ⟨b', e3, e4⟩ := Option.map_eq_some_iff.mp e2
  cases e4
  exact QeB I rh 40 X.A (by omega) a b x y v u a' b' ra rb rx ry e1 e3 _ _ _ _ ⟨.bl _, H, I, rfl, k R H _ (Ext.refl _) rh (Rw.bl _)⟩
theorem Uu (hu : X.A.units + 64 < cLine) : OpR X (compareOp .NotEq) (F2 X.K wNe) := by
  intro pins s σ H x y v u Q I rx ry q
  obtain ⟨R, h, a, b, w, h', rh, ra, rb, e, k⟩ := q
  obtain ⟨a', e1, e2⟩ := Option.bind_eq_some_iff.mp e
  obtain ⟨b', e3, e4⟩ := Option.map_eq_some_iff.mp e2
  cases e4
  exact Qcb I rh 40 X.A (by omega) a b x y v u a' b' ra rb rx ry e1 e3 _ _ _ _ ⟨.bl _, H, I, rfl, k R H _ (Ext.refl _) rh (Rw.bl _)⟩
noncomputable def inW (x : W) (xs : List W) : Bool := xs.any fun y => eqW y x
noncomputable def wIn (neg : Bool) (a b : W) (h : MH) : Option (W × MH) := match b with
  | .tup ys => (drf h 40 a).bind fun x => (Ji (drf h 40) ys).map fun zs => (.bl (if neg then !inW x zs else inW x zs), h)
  | b => (lsW h b).bind fun ys => (drf h 40 a).bind fun x => (Ji (drf h 40) ys).map fun zs => (.bl (if neg then !inW x zs else inW x zs), h)
open Classical in
noncomputable def Qbe (K : PySem.W.Frag) (R : Rn) (h : MH) (x : W) (u : Value) : Bool := decide (∃ w v a, Rw K R w v ∧ RelV v u ∧ drf h 40 w = some a ∧ eqW a x = true)
open Classical in
theorem Wx {pins : List (Addr × Obj)} {σ : L2.St} {H : Hp} {s : Shared} {R : Rn} {h : MH} (I : Inv X pins σ H s) (rh : Rh X.K R h H) {x w a : W} {v : V} {u : Value} (r : Rw X.K R w v) (t : RelV v u) (e : drf h 40 w = some a) : Qbe X.K R h x u = eqW a x := by
  unfold Qbe
  by_cases q : eqW a x = true
  · rw [q]; exact decide_eq_true ⟨w, v, a, r, t, e, q⟩
  · have q' : eqW a x = false := by simpa using q
    rw [q']
    refine decide_eq_false fun ⟨w', v', a', r', t', e', z⟩ => ?_
    have := t.inj t'
    subst this
    rw [XB I rh 40 w w' v a a' r r' e e', z] at q'
    cases q'
theorem GK {pins : List (Addr × Obj)} {σ : L2.St} {H : Hp} {s : Shared} {R : Rn} {h : MH} (I : Inv X pins σ H s) (rh : Rh X.K R h H) {x : W} : ∀ {ws as : List W} {xs : List V} {us : List Value}, Rws X.K R ws xs → Vals xs us → Ji (drf h 40) ws = some as → us.any (Qbe X.K R h x) = inW x as
  | [], _, _, _, r, t, m => by
    rw [Rws.nil_iff] at r; subst r; cases t; cases m; rfl
  | w :: ws, _, _, _, r, t, m => by
    rw [Rws.cons_iff] at r
    obtain ⟨v, xs', rfl, r1, r2⟩ := r
    cases t with
    | cons t1 t2 =>
      obtain ⟨y, h1, h2⟩ := Option.bind_eq_some_iff.mp m
      obtain ⟨zs, h3, h4⟩ := Option.map_eq_some_iff.mp h2
      subst h4
      have ih := GK I rh (x := x) r2 t2 h3
      unfold inW at ih ⊢
      rw [List.any_cons, List.any_cons, Wx I rh r1 t1 h1, ih]
theorem Yi {pins : List (Addr × Obj)} {σ : L2.St} {H : Hp} {s : Shared} {R : Rn} {h : MH} (I : Inv X pins σ H s) (rh : Rh X.K R h H) {A : Around} (hu : A.units + 40 < cLine) {a x : W} {v : V} {u : Value} (ra : Rw X.K R a v) (ta : RelV v u) (ea : drf h 40 a = some x) {ws as : List W} {xs : List V} {us : List Value}
    (r : Rws X.K R ws xs) (t : Vals xs us) (m : Ji (drf h 40) ws = some as) : ∀ y ∈ us, EqAt A s y u (Qbe X.K R h x y) := by
  intro y hy
  obtain ⟨i, hi, e⟩ := List.mem_iff_getElem.mp hy
  have l1 := r.length; have l2 := t.length
  obtain ⟨w, hw⟩ : ∃ w, ws[i]? = some w := ⟨ws[i]'(by omega), List.getElem?_eq_getElem _⟩
  obtain ⟨v', hv, rv⟩ := r.get hw
  obtain ⟨u', hu', ru⟩ := t.get hv
  rw [List.getElem?_eq_getElem hi, e] at hu'
  cases hu'
  obtain ⟨b, hb, eb⟩ := (QN m).2 i w hw
  rw [Wx I rh rv ru eb]
  exact W9 I rh 40 A hu w a v' v y u b x rv ra ru ta eb ea
theorem QeD (hu : X.A.units + 64 < cLine) : OpR X (compareOp .In) (F2 X.K (wIn false)) := by
  intro pins s σ H x y v u Q I rx ry q
  obtain ⟨R, h, a, b, w, h', rh, ra, rb, e, k⟩ := q
  have hu' : X.A.in1.units + 40 < cLine := by show X.A.units + 1 + 40 < cLine; omega
  have main : ∀ ys, ((drf h 40 a).bind fun x => (Ji (drf h 40) ys).map fun zs => ((W.bl (if false then !inW x zs else inW x zs), h) : W × MH)) = some (w, h') → ∃ x' zs, drf h 40 a = some x' ∧ Ji (drf h 40) ys = some zs ∧ w = .bl (inW x' zs) ∧ h' = h := fun ys e => by
    obtain ⟨x', e1, e2⟩ := Option.bind_eq_some_iff.mp e
    obtain ⟨zs, e3, e4⟩ := Option.map_eq_some_iff.mp e2
    cases e4
    exact ⟨x', zs, e1, e3, rfl, rfl⟩
  have fin : ∀ {x' : W} {zs ws : List W} {xs : List V} {its : List Value}, Rws X.K R ws xs → Vals xs its → drf h 40 a = some x' → Ji (drf h 40) ws = some zs → w = .bl (inW x' zs) → h' = h → EP X pins σ Q (.bool (its.toArray.any (Qbe X.K R h x'))) s := fun {x' zs ws xs its} r t ea em ew eh => by
    subst ew eh
    rw [List.any_toArray, GK I rh r t em]
    exact ⟨.bl _, H, I, rfl, k R H _ (Ext.refl _) rh (Rw.bl _)⟩
  unfold wIn at e
  split at e
  · rename_i ys
    obtain ⟨x', zs, e1, e3, ew, eh⟩ := main ys e
    obtain ⟨ad, xs, rfl, q1, r1⟩ := rh.tupAt rb
    cases ry
    obtain ⟨its, t1, p1, _⟩ := I.tuple q1
    exact in_tupleAt (Qbe X.K R h x') (show s.heap.IsTuple ad its.toArray from p1) (fun z hz => Yi I rh hu' ra rx e1 r1 t1 e3 z (by simpa using hz)) (fin r1 t1 e1 e3 ew eh)
  · obtain ⟨ys, e0, e⟩ := Option.bind_eq_some_iff.mp e
    obtain ⟨x', zs, e1, e3, ew, eh⟩ := main ys e
    obtain ⟨ad, xs, rfl, q1, r1⟩ := rh.lsAt rb e0
    cases ry
    obtain ⟨its, t1, p1, _⟩ := I.list q1
    exact in_listAt (Qbe X.K R h x') p1.isList (fun z hz => Yi I rh hu' ra rx e1 r1 t1 e3 z (by simpa using hz)) (fin r1 t1 e1 e3 ew eh)
end
end Mi

namespace Mi
open PySem PySem.Spec PyProof.Rows L2

noncomputable def Vy (a b : W) (h : MH) : Option (W × MH) := match a, b with
  | .int i, .int j => some (.int (i + j), h)
  | .str x, .str y => if x.length + y.length ≤ sizeLine then some (.str (x ++ y), h) else none
  | .tup xs, .tup ys => if xs.length + ys.length ≤ sizeLine then some (.tup (xs ++ ys), h) else none
  | a, b => (loW h a).bind fun xs => (loW h b).bind fun ys => if xs.length + ys.length ≤ sizeLine then some (.lst (xs ++ ys), h) else none
noncomputable def Gj (a b : W) (h : MH) : Option (W × MH) := match a, b with | .int i, .int j => some (.int (i - j), h) | _, _ => none
noncomputable def QeT (a b : W) (h : MH) : Option (W × MH) := match a, b with | .int i, .int j => if (-(2 ^ 64) < i ∧ i < 2 ^ 64) ∨ (-(2 ^ 64) < j ∧ j < 2 ^ 64) then some (.int (i * j), h) else none | _, _ => none
noncomputable def Qd0 (a b : W) (h : MH) : Option (W × MH) := match a, b with | .int i, .int j => if 0 < j ∧ j < 1073741824 then some (.int (i / j), h) else none | _, _ => none
noncomputable def GZ (a b : W) (h : MH) : Option (W × MH) := match a, b with | .int i, .int j => if 0 < j then some (.int (i % j), h) else none | _, _ => none
noncomputable def Qer (a b : W) (h : MH) : Option (W × MH) := match a, b with | .int i, .int j => if 0 ≤ j ∧ j ≤ 1000000 ∧ i.natAbs < 2 ^ 64 then some (.int (i ^ j.toNat), h) else none | _, _ => none
noncomputable def wLt (a b : W) (h : MH) : Option (W × MH) := match a, b with | .int i, .int j => some (.bl (decide (i < j)), h) | .str x, .str y => some (.bl (decide (x.cps.toList < y.cps.toList)), h) | _, _ => none
noncomputable def wGt (a b : W) (h : MH) : Option (W × MH) := match a, b with | .int i, .int j => some (.bl (decide (j < i)), h) | _, _ => none
noncomputable def wGe (a b : W) (h : MH) : Option (W × MH) := match a, b with | .int i, .int j => some (.bl (decide (j ≤ i)), h) | _, _ => none
noncomputable def YX : W → Bool
  | .non => true
  | _ => false
noncomputable def wIs (a b : W) (h : MH) : Option (W × MH) := match b with
  | .non => some (.bl (YX a), h)
  | .bl y => match a with | .bl x => some (.bl (x == y), h) | _ => none
  | _ => none
theorem Qe4 {K : PySem.W.Frag} {R : Rn} {a : W} {v : V} (r : Rw K R a v) : decide (v = .non) = YX a := by
  cases a with
  | non => rw [r.non_eq]; rfl
  | bl _ => rw [r.bl_eq]; rfl
  | int _ => rw [r.int_eq]; rfl
  | str _ => rw [r.str_eq]; rfl
  | ty _ => rw [r.ty_eq]; rfl
  | tup _ => unfold Rw at r; obtain ⟨_, _, rfl, _⟩ := r; rfl
  | lst _ => unfold Rw at r; obtain ⟨_, _, rfl, _⟩ := r; rfl
  | frz _ => unfold Rw at r; obtain ⟨_, _, rfl, _⟩ := r; rfl
  | ref _ => unfold Rw at r; obtain ⟨_, rfl⟩ := r; rfl
section
variable {X : Cx}
noncomputable def Qhk (K : PySem.W.Frag) : R2 := fun x y H Q => ∃ a b xs ys, x = .ref a ∧ y = .ref b ∧ SqT K H a xs ∧ SqT K H b ys ∧ xs.length + ys.length ≤ sizeLine ∧
  (xs = [] → Q (.ref b) H) ∧ (xs ≠ [] → ys = [] → Q (.ref a) H) ∧ (xs ≠ [] → ys ≠ [] → ∀ p, H p = none → Q (.ref p) (upd H p (.tup (xs ++ ys))))
theorem op_catA : OpR X (binaryOp .Add) (Qhk X.K) := by
  intro pins s σ H x y v u Q I rx ry h
  obtain ⟨a, b, xs, ys, rfl, rfl, ha, hb, hz, q0, q1, q2⟩ := h
  by_cases hx : xs = []
  · subst hx
    cases rx
    cases ry
    obtain ⟨its, r1, p1, _⟩ := I.tuple ha
    obtain ⟨its2, r2, p2, _⟩ := I.tuple hb
    cases r1
    obtain ⟨⟨cls, dd, data, sl⟩, ho, hc, n, hd⟩ := id p1
    obtain ⟨⟨cls2, dd2, data2, sl2⟩, ho2, hc2, n2, hd2⟩ := id p2
    simp only at hc hd hc2 hd2
    subst hc hd hc2 hd2
    exact concat_meets ⟨_, ho, rfl⟩ ⟨_, ho2, rfl⟩ noFill_tuple_add seq_tuple_add PySem.F.slot_tuple_add PySem.F.entry_tuple_add (PySem.F.args_tuple_add_2 _ _)
      (tuple_addW0 a b #[] its2.toArray n n2 dd dd2 sl sl2 (by simp)) ⟨ho, ho2, ⟨.ref b, H, I, rfl, q0 rfl⟩⟩
  · exact Qek pins s σ H _ _ v u Q I rx ry ⟨a, b, xs, ys, rfl, rfl, ha, hb, hx, hz, q1 hx, q2 hx⟩
theorem Qfw : OpR X (compareOp .Is) (fun x y H Q => ∃ i j, x = .bl i ∧ y = .bl j ∧ Q (.bl (i == j)) H) := by
  intro pins s σ H x y v u Q I rx ry h
  obtain ⟨i, j, rfl, rfl, q⟩ := h
  cases rx
  cases ry
  exact is_bool ⟨.bl _, H, I, rfl, q⟩
theorem QZ : OpR X (binaryOp .Add) (F2 X.K Vy) := by
  intro pins s σ H x y v u Q I rx ry q
  refine (op_add.or (op_add_str.or (op_catA.or Qe0))) pins s σ H x y v u Q I rx ry ?_
  obtain ⟨R, h, a, b, w, h', rh, ra, rb, e, k⟩ := q
  unfold Vy at e
  split at e
  · cases e
    exact .inl ⟨_, _, ra.int_eq, rb.int_eq, k R H _ (Ext.refl _) rh (Rw.int _)⟩
  · split at e
    · rename_i hl
      cases e
      exact .inr (.inl ⟨_, _, ra.str_eq, rb.str_eq, hl, k R H _ (Ext.refl _) rh (Rw.str _)⟩)
    · cases e
  · split at e
    · rename_i xs ys hl
      cases e
      obtain ⟨ad, xv, e1, q1, r1⟩ := rh.tupAt ra
      obtain ⟨bd, yv, e2, q2, r2⟩ := rh.tupAt rb
      have l1 := r1.length; have l2 := r2.length
      refine .inr (.inr (.inl ⟨ad, bd, xv, yv, e1, e2, q1, q2, by omega, fun z => ?_, fun _ z => ?_, fun _ _ p hp => ?_⟩))
      · subst z
        have : xs = [] := List.length_eq_zero_iff.mp l1
        subst this
        exact k R H _ (Ext.refl _) rh (e2 ▸ rb)
      · subst z
        have : ys = [] := List.length_eq_zero_iff.mp l2
        subst this
        rw [List.append_nil] at k
        exact k R H _ (Ext.refl _) rh (e1 ▸ ra)
      · obtain ⟨R3, x3, rh3, rw3⟩ := rh.tup hp (Rws.append r1 r2)
        exact k R3 _ _ x3 rh3 rw3
    · cases e
  · obtain ⟨xs, e1, e⟩ := Option.bind_eq_some_iff.mp e
    obtain ⟨ys, e2, e⟩ := Option.bind_eq_some_iff.mp e
    split at e
    · rename_i hl
      cases e
      obtain ⟨ad, xv, f1, q1, r1⟩ := rh.loAt ra e1
      obtain ⟨bd, yv, f2, q2, r2⟩ := rh.loAt rb e2
      have l1 := r1.length; have l2 := r2.length
      refine .inr (.inr (.inr ⟨ad, bd, xv, yv, f1, f2, q1, q2, by omega, fun p hp => ?_⟩))
      obtain ⟨R3, x3, rh3, rw3⟩ := rh.lstI hp (Rws.append r1 r2)
      exact k R3 _ _ x3 rh3 rw3
    · cases e
theorem Vh : OpR X (binaryOp .Sub) (F2 X.K Gj) := by
  intro pins s σ H x y v u Q I rx ry q
  refine Qe1 pins s σ H x y v u Q I rx ry ?_
  obtain ⟨R, h, a, b, w, h', rh, ra, rb, e, k⟩ := q
  unfold Gj at e
  split at e
  · cases e
    exact ⟨_, _, ra.int_eq, rb.int_eq, k R H _ (Ext.refl _) rh (Rw.int _)⟩
  · cases e
theorem Qc8 : OpR X (binaryOp .Mult) (F2 X.K QeT) := by
  intro pins s σ H x y v u Q I rx ry q
  refine QeS pins s σ H x y v u Q I rx ry ?_
  obtain ⟨R, h, a, b, w, h', rh, ra, rb, e, k⟩ := q
  unfold QeT at e
  split at e
  · split at e
    · rename_i hl
      cases e
      exact ⟨_, _, ra.int_eq, rb.int_eq, hl, k R H _ (Ext.refl _) rh (Rw.int _)⟩
    · cases e
  · cases e
theorem G1 : OpR X (binaryOp .FloorDiv) (F2 X.K Qd0) := by
  intro pins s σ H x y v u Q I rx ry q
  refine Qd5 pins s σ H x y v u Q I rx ry ?_
  obtain ⟨R, h, a, b, w, h', rh, ra, rb, e, k⟩ := q
  unfold Qd0 at e
  split at e
  · split at e
    · rename_i hl
      cases e
      exact ⟨_, _, ra.int_eq, rb.int_eq, hl, k R H _ (Ext.refl _) rh (Rw.int _)⟩
    · cases e
  · cases e
theorem Xd : OpR X (binaryOp .Mod) (F2 X.K GZ) := by
  intro pins s σ H x y v u Q I rx ry q
  refine QfM pins s σ H x y v u Q I rx ry ?_
  obtain ⟨R, h, a, b, w, h', rh, ra, rb, e, k⟩ := q
  unfold GZ at e
  split at e
  · split at e
    · rename_i hl
      cases e
      exact ⟨_, _, ra.int_eq, rb.int_eq, hl, k R H _ (Ext.refl _) rh (Rw.int _)⟩
    · cases e
  · cases e
theorem GW : OpR X (binaryOp .Pow) (F2 X.K Qer) := by
  intro pins s σ H x y v u Q I rx ry q
  refine QfP pins s σ H x y v u Q I rx ry ?_
  obtain ⟨R, h, a, b, w, h', rh, ra, rb, e, k⟩ := q
  unfold Qer at e
  split at e
  · split at e
    · rename_i hl
      cases e
      exact ⟨_, _, ra.int_eq, rb.int_eq, hl, k R H _ (Ext.refl _) rh (Rw.int _)⟩
    · cases e
  · cases e
theorem KH : OpR X (compareOp .Lt) (F2 X.K wLt) := by
  intro pins s σ H x y v u Q I rx ry q
  refine (op_lt.or Qar) pins s σ H x y v u Q I rx ry ?_
  obtain ⟨R, h, a, b, w, h', rh, ra, rb, e, k⟩ := q
  unfold wLt at e
  split at e
  · cases e
    exact .inl ⟨_, _, ra.int_eq, rb.int_eq, k R H _ (Ext.refl _) rh (Rw.bl _)⟩
  · cases e
    exact .inr ⟨_, _, ra.str_eq, rb.str_eq, k R H _ (Ext.refl _) rh (Rw.bl _)⟩
  · cases e
theorem XY : OpR X (compareOp .Gt) (F2 X.K wGt) := by
  intro pins s σ H x y v u Q I rx ry q
  refine QgO pins s σ H x y v u Q I rx ry ?_
  obtain ⟨R, h, a, b, w, h', rh, ra, rb, e, k⟩ := q
  unfold wGt at e
  split at e
  · cases e
    exact ⟨_, _, ra.int_eq, rb.int_eq, k R H _ (Ext.refl _) rh (Rw.bl _)⟩
  · cases e
theorem Qe7 : OpR X (compareOp .GtE) (F2 X.K wGe) := by
  intro pins s σ H x y v u Q I rx ry q
  refine Qhw pins s σ H x y v u Q I rx ry ?_
  obtain ⟨R, h, a, b, w, h', rh, ra, rb, e, k⟩ := q
  unfold wGe at e
  split at e
  · cases e
    exact ⟨_, _, ra.int_eq, rb.int_eq, k R H _ (Ext.refl _) rh (Rw.bl _)⟩
  · cases e
theorem Qf1 : OpR X (compareOp .Is) (F2 X.K wIs) := by
  intro pins s σ H x y v u Q I rx ry q
  refine (op_isN.or Qfw) pins s σ H x y v u Q I rx ry ?_
  obtain ⟨R, h, a, b, w, h', rh, ra, rb, e, k⟩ := q
  unfold wIs at e
  split at e
  · cases e
    exact .inl ⟨rb.non_eq, by rw [Qe4 ra]; exact k R H _ (Ext.refl _) rh (Rw.bl _)⟩
  · split at e
    · cases e
      exact .inr ⟨_, _, ra.bl_eq, rb.bl_eq, k R H _ (Ext.refl _) rh (Rw.bl _)⟩
    · cases e
  · cases e
noncomputable def KN (a : W) (h : MH) : Option (W × MH) := match a with | .int i => some (.int (-i), h) | _ => none
theorem JV {a : Expr} {ma : ME} {pos : Pos} (ha : PM X a ma) : PM X (.UnaryOp .USub a pos) (mUn KN ma) := ZE (QgA QfF ha) fun σ H Q q => VI (un1 q) <| by
  rintro x H1 ⟨R, h, a, w, h', rh, ra, e, k⟩
  unfold KN at e
  split at e
  · cases e
    exact ⟨_, ra.int_eq, k R H1 _ (Ext.refl _) rh (Rw.int _)⟩
  · cases e
noncomputable def wIx (a b : W) (h : MH) : Option (W × MH) := match b with
  | .int i => match a with
    | .tup ws => (atI ws i).map fun w => (w, h)
    | .str x => if x.length ≤ sizeLine then (atI x.cps.toList i).map fun c => (.str ⟨#[c]⟩, h) else none
    | a => (lsW h a).bind fun ws => (atI ws i).map fun w => (w, h)
  | _ => none
theorem Qaa {K : PySem.W.Frag} {R : Rn} {ws : List W} {xs : List V} (r : Rws K R ws xs) {i : Int} {w : W} (e : atI ws i = some w) : ∃ v, atI xs i = some v ∧ Rw K R w v := by
  unfold atI at e ⊢
  rw [← r.length]
  obtain ⟨j, e1, e2⟩ := Option.bind_eq_some_iff.mp e
  obtain ⟨v, e3, e4⟩ := r.get e2
  exact ⟨v, by rw [e1]; exact e3, e4⟩
theorem Qdh : IxR X (F2 X.K wIx) := by
  intro value slice pins s σ H x y v u Q I rx ry q hs
  refine Qf0 value slice pins s σ H x y v u Q I rx ry ?_ hs
  obtain ⟨R, h, a, b, w, h', rh, ra, rb, e, k⟩ := q
  unfold wIx at e
  split at e
  · rename_i i
    split at e
    · rename_i ws
      obtain ⟨w1, e1, e2⟩ := Option.map_eq_some_iff.mp e
      cases e2
      obtain ⟨ad, xs, rfl, q1, r1⟩ := rh.tupAt ra
      obtain ⟨v1, e3, r3⟩ := Qaa r1 e1
      exact .inr (.inl ⟨ad, xs, i, v1, rfl, rb.int_eq, q1, e3, k R H _ (Ext.refl _) rh r3⟩)
    · split at e
      · rename_i hl
        obtain ⟨c, e1, e2⟩ := Option.map_eq_some_iff.mp e
        cases e2
        exact .inr (.inr ⟨_, i, c, ra.str_eq, rb.int_eq, hl, e1, k R H _ (Ext.refl _) rh (Rw.str _)⟩)
      · cases e
    · obtain ⟨ws, e0, e⟩ := Option.bind_eq_some_iff.mp e
      obtain ⟨w1, e1, e2⟩ := Option.map_eq_some_iff.mp e
      cases e2
      obtain ⟨ad, xs, rfl, q1, r1⟩ := rh.lsAt ra e0
      obtain ⟨v1, e3, r3⟩ := Qaa r1 e1
      exact .inl ⟨ad, xs, i, v1, rfl, rb.int_eq, q1, e3, k R H _ (Ext.refl _) rh r3⟩
  · cases e
theorem Qp {a b : Expr} {ma mb : ME} {pos : Pos} (ha : PM X a ma) (hb : PM X b mb) (hs : G5 b := by intro _ _; rfl) : PM X (.Subscript a b pos) (Qo wIx ma mb) :=
  ZE (QhR Qdh ha hb hs) fun _ _ _ q => VI (Qgz q) fun _ _ q1 => VI q1 fun _ _ q2 => q2
noncomputable def JO (ws : List W) (h : MH) : Option (W × MH) := match ws with
  | [.str x] => if x.length ≤ sizeLine then some (.int x.length, h) else none
  | [.tup ws] => some (.int ws.length, h)
  | [a] => (lsW h a).map fun ws => (.int ws.length, h)
  | _ => none
theorem Qu {K : PySem.W.Frag} {f : List W → MH → Option (W × MH)} : Qej K (Fs K f) f := fun _ _ _ q => q
theorem Qa0 {K : PySem.W.Frag} {R : Rn} {a : W} {xs : List V} (r : Rws K R [a] xs) : ∃ v, xs = [v] ∧ Rw K R a v := by
  rw [Rws.cons_iff] at r
  obtain ⟨v, vs, rfl, r1, r2⟩ := r
  rw [Rws.nil_iff] at r2
  subst r2
  exact ⟨v, rfl, r1⟩
theorem Qgf {K : PySem.W.Frag} {R : Rn} {a b : W} {xs : List V} (r : Rws K R [a, b] xs) : ∃ v u, xs = [v, u] ∧ Rw K R a v ∧ Rw K R b u := by
  rw [Rws.cons_iff] at r
  obtain ⟨v, vs, rfl, r1, r2⟩ := r
  obtain ⟨u, rfl, r3⟩ := Qa0 r2
  exact ⟨v, u, rfl, r1, r3⟩
theorem Qz : CallR X (.builtin "len") (Fs X.K JO) := by
  intro pins s σ H xs us Q I r q
  refine (call_len_seq.or Ws) pins s σ H xs us Q I r ?_
  obtain ⟨R, h, ws, w, h', rh, rw, e, k⟩ := q
  unfold JO at e
  split at e
  · split at e
    · rename_i hl
      cases e
      obtain ⟨v, rfl, r1⟩ := Qa0 rw
      exact .inr ⟨_, by rw [r1.str_eq], hl, k R H _ (Ext.refl _) rh (Rw.int _)⟩
    · cases e
  · cases e
    obtain ⟨v, rfl, r1⟩ := Qa0 rw
    obtain ⟨ad, xs, rfl, q1, r2⟩ := rh.tupAt r1
    exact .inl ⟨ad, xs, rfl, .inr q1, by rw [← r2.length]; exact k R H _ (Ext.refl _) rh (Rw.int _)⟩
  · obtain ⟨ys, e1, e2⟩ := Option.map_eq_some_iff.mp e
    cases e2
    obtain ⟨v, rfl, r1⟩ := Qa0 rw
    obtain ⟨ad, xs, rfl, q1, r2⟩ := rh.lsAt r1 e1
    exact .inl ⟨ad, xs, rfl, .inl q1, by rw [← r2.length]; exact k R H _ (Ext.refl _) rh (Rw.int _)⟩
  · cases e
noncomputable def JT (ws : List W) (h : MH) : Option (W × MH) := match ws with
  | [.tup ws] => some (.tup ws, h)
  | [a] => (lsW h a).map fun ws => (.tup ws, h)
  | _ => none
theorem Zk : CallR X (.type "tuple") (Fs X.K JT) := by
  intro pins s σ H xs us Q I r q
  refine Yc pins s σ H xs us Q I r ?_
  obtain ⟨R, h, ws, w, h', rh, rw, e, k⟩ := q
  unfold JT at e
  split at e
  · cases e
    obtain ⟨v, rfl, r1⟩ := Qa0 rw
    obtain ⟨ad, xs, rfl, q1, r2⟩ := rh.tupAt r1
    exact ⟨ad, xs, rfl, .inr ⟨q1, k R H _ (Ext.refl _) rh r1⟩⟩
  · obtain ⟨ys, e1, e2⟩ := Option.map_eq_some_iff.mp e
    cases e2
    obtain ⟨v, rfl, r1⟩ := Qa0 rw
    obtain ⟨ad, xs, rfl, q1, r2⟩ := rh.lsAt r1 e1
    refine ⟨ad, xs, rfl, .inl ⟨q1, fun p hp => ?_⟩⟩
    obtain ⟨R3, x3, rh3, rw3⟩ := rh.tup hp r2
    exact k R3 _ _ x3 rh3 rw3
  · cases e
end
end Mi

namespace Mi
open PySem PySem.Spec PyProof.Rows L2

section
variable {prog : Program} {w : World} {A : Around} {E : Value → Shared → Prop} {s : Shared}
theorem VN {t sl : Addr} {items : Array Value} {vl vu : Value} {lo hi : Option Int} {Q : Value → Shared → Prop} (ht : IsTup s.heap t items) (hs : s.heap.IsSliceOf sl vl vu .none) (pl : IsPart vl lo) (pu : IsPart vu hi)
    (hw : HT.sIx items.size 0 lo = 0 ∧ HT.sIx items.size items.size hi = items.size) (h : Q (.ref t) s) : wpAny (model prog w) A (getItem (.ref t) (.ref sl)) Q E s := by
  obtain ⟨os, hos, hcs, hds⟩ := id hs
  have hTs : s.TypeIs (.ref sl) "slice" := ⟨os, hos, hcs⟩
  unfold getItem
  try with_reducible refine wpAny_holding ?_
  first | refine wpAny_bind (wpAny_pure ?_) | skip
  refine wpAny_bind (wpAny_sequenceKey ht.typeIs (by decide) ?_)
  refine wpAny_bind (wpAny_callSpecial?_slot (name := Str.ofString "__getitem__") ht.typeIs PyProof.Rows.slot_tuple_getitem
    (wpAny_call_entry PyProof.Rows.slot_tuple_getitem ht.typeIs entry_tuple_getitem ?_ (args_tuple_getitem _ _)))
  show wpAny _ _ (Builtin.Tuple.tupleItemsOf (.ref t) >>= _) _ _ s
  refine wpAny_bind (tupleItemsOf_ ht ?_)
  refine wpAny_bind (wpAny_typeOf hTs ?_)
  rw [if_pos (by decide)]
  refine wpAny_bind (HT.sliceApplied_gen hs pl pu ?_)
  have hno : ((((HT.sIx items.size 0 lo : Nat) : Int) == 0 && (1 : Int) == 1 && (HT.sIx items.size items.size hi - HT.sIx items.size 0 lo) == items.size) = true) := by
    rw [hw.1, hw.2]; simp
  show wpAny _ _ (if (((HT.sIx items.size 0 lo : Nat) : Int) == 0 && (1 : Int) == 1 && (HT.sIx items.size items.size hi - HT.sIx items.size 0 lo) == items.size) = true then _ else _) _ _ s
  rw [if_pos hno]
  refine wpAny_bind (m := Builtin.Tuple.tupleIsExact _) ?_
  unfold Builtin.Tuple.tupleIsExact
  refine wpAny_bind (wpAny_typeOf ht.typeIs (wpAny_pure ?_))
  rw [if_pos (by decide)]
  exact wpAny_bind (wpAny_rule (wpAny_pure ⟨_, rfl, wpAny_pure h⟩))
end
noncomputable def Gh {α : Type} (xs : List α) (lo hi : Option Int) : List α := (xs.drop (HT.sIx xs.length 0 lo)).take (HT.sIx xs.length xs.length hi - HT.sIx xs.length 0 lo)
noncomputable def wSl (a : W) (lo hi : Option Int) (h : MH) : Option (W × MH) := match a with
  | .tup ws => some (.tup (Gh ws lo hi), h)
  | .str x => if x.length ≤ sizeLine then some (.str (Txt.slice x lo hi), h) else none
  | a => (lsW h a).map fun ws => (.lst (Gh ws lo hi), h)
theorem GU {K : PySem.W.Frag} {R : Rn} {ws : List W} {xs : List V} (r : Rws K R ws xs) (lo hi : Option Int) : Rws K R (Gh ws lo hi) (QbW xs lo hi) := by
  unfold Gh QbW
  rw [r.length]
  exact (r.drop _).take _
theorem UN {α : Type} {xs : List α} {lo hi : Option Int} (h : HT.sIx xs.length 0 lo = 0 ∧ HT.sIx xs.length xs.length hi = xs.length) : Gh xs lo hi = xs := by
  unfold Gh
  rw [h.1, h.2]; simp
noncomputable abbrev MOp := MSt → MH → Option (Option Int × MH)
noncomputable def tIO (K : PySem.W.Frag) (m : MOp) : TO := fun σ H Q => ∃ R σi h o h', Rh K R h H ∧ Rst K R σi σ ∧ m σi h = some (o, h') ∧ ∀ R' H', Ext R R' → Rh K R' h' H' → Q o H'
noncomputable def PMO (X : Cx) (e : Option Expr) (m : MOp) : Prop := PO X e (tIO X.K m)
noncomputable def Ko : MOp := fun _ h => some (none, h)
noncomputable def Ku (m : ME) : MOp := fun σ h => (m σ h).bind fun p => match p.1 with | .int i => some (some i, p.2) | _ => none
noncomputable def mSl (ma : ME) (ml mh : MOp) : ME := fun σ h => (ma σ h).bind fun p => (ml σ p.2).bind fun q => (mh σ q.2).bind fun r => wSl p.1 q.1 r.1 r.2
section
variable {X : Cx}
theorem sl_tupA : SlR X (fun x lo hi H Q => ∃ a xs, x = .ref a ∧ SqT X.K H a xs ∧ ((HT.sIx xs.length 0 lo = 0 ∧ HT.sIx xs.length xs.length hi = xs.length) → Q (.ref a) H) ∧
    (¬ (HT.sIx xs.length 0 lo = 0 ∧ HT.sIx xs.length xs.length hi = xs.length) → ∀ p, H p = none → Q (.ref p) (upd H p (.tup (QbW xs lo hi))))) := by
  intro pins s σ H x v vl vu lo hi sl Q I rx hs pl pu h
  obtain ⟨a, xs, rfl, hx, q1, q2⟩ := h
  by_cases hw : HT.sIx xs.length 0 lo = 0 ∧ HT.sIx xs.length xs.length hi = xs.length
  · cases rx
    obtain ⟨its, r, ht, hz⟩ := I.tuple hx
    have hlen : its.toArray.size = xs.length := by rw [List.size_toArray]; exact r.length.symm
    refine ⟨"tuple", _, PyProof.Rows.slot_tuple_getitem.lookup, ht.typeIs, ?_⟩
    exact VN ht hs pl pu (by rw [hlen]; exact hw) ⟨.ref a, H, I, rfl, q1 hw⟩
  · exact Qfb pins s σ H (.ref a) v vl vu lo hi sl Q I rx hs pl pu ⟨a, xs, rfl, hx, hw, q2 hw⟩
theorem Qe5 : SlR X (fun x lo hi H Q => ∃ z, x = .str z ∧ z.length ≤ sizeLine ∧ Q (.str (Txt.slice z lo hi)) H) := by
  intro pins s σ H x v vl vu lo hi sl Q I rx hs pl pu h
  obtain ⟨z, rfl, hz, q⟩ := h
  obtain ⟨t, rfl⟩ := rx
  refine ⟨"str", _, PySem.F.slot_str_getitem.lookup, typeIs_str _ _ _, ?_⟩
  have fin : ∀ (t' : Tok) (k : Nat), EP X pins σ Q (.str (Txt.slice z lo hi) t') { s with toks := k } := fun t' k => ⟨.str _, H, I.tok _, ⟨t', rfl⟩, q⟩
  cases pl with
  | none =>
    cases pu with
    | none => exact wpAny_getItem_str_slice (l := none) (u := none) (st := none) hs rfl (post_val_or_str ⟨Nat.le_trans (Txt.slice_le z _ _) hz, fin⟩)
    | int j tj => exact wpAny_getItem_str_slice (l := none) (u := some (j, tj)) (st := none) hs rfl (post_val_or_str ⟨Nat.le_trans (Txt.slice_le z _ _) hz, fin⟩)
  | int i ti =>
    cases pu with
    | none => exact wpAny_getItem_str_slice (l := some (i, ti)) (u := none) (st := none) hs rfl (post_val_or_str ⟨Nat.le_trans (Txt.slice_le z _ _) hz, fin⟩)
    | int j tj => exact wpAny_getItem_str_slice (l := some (i, ti)) (u := some (j, tj)) (st := none) hs rfl (post_val_or_str ⟨Nat.le_trans (Txt.slice_le z _ _) hz, fin⟩)
theorem V0 : PMO X none Ko := fun pins s σ H Q I ⟨R, σi, h, o, h', rh, st, e, k⟩ => by
  cases e
  exact Qd4 pins s σ H Q I (k R H (Ext.refl _) rh)
theorem VW {e : Expr} {m : ME} (he : PM X e m) : PMO X (some e) (Ku m) := fun pins s σ H Q I ⟨R, σi, h, o, h', rh, st, e1, k⟩ => by
  refine Qea he pins s σ H Q I ?_
  obtain ⟨⟨w, h1⟩, e2, e3⟩ := Option.bind_eq_some_iff.mp e1
  refine ⟨R, σi, h, w, h1, rh, st, e2, fun R1 H1 v x1 rh1 rv => ?_⟩
  cases w <;> simp only at e3 <;> first | (cases e3; exact ⟨_, rv.int_eq, k R1 H1 x1 rh1⟩) | cases e3
theorem V5 {a : Expr} {lo hi : Option Expr} {ma : ME} {ml mh : MOp} {pos p2 : Pos} (ha : PM X a ma) (hl : PMO X lo ml) (hh : PMO X hi mh) : PM X (.Subscript a (.Slice lo hi none p2) pos) (mSl ma ml mh) :=
  ZE (Qa5 (sl_list.or (sl_tupA.or Qe5)) ha hl hh) fun σ H Q ⟨R, σi, h, w, h', rh, st, e, k⟩ => by
    obtain ⟨⟨a, h1⟩, ea, e2⟩ := Option.bind_eq_some_iff.mp e
    obtain ⟨⟨l, h2⟩, el, e3⟩ := Option.bind_eq_some_iff.mp e2
    obtain ⟨⟨u, h3⟩, eu, e4⟩ := Option.bind_eq_some_iff.mp e3
    refine ⟨R, σi, h, a, h1, rh, st, ea, fun R1 H1 x x1 rh1 rx => ⟨R1, σi, h1, l, h2, rh1, st.mono x1, el, fun R2 H2 x2 rh2 => ⟨R2, σi, h2, u, h3, rh2, st.mono (x1.trans x2), eu, fun R3 H3 x3 rh3 => ?_⟩⟩⟩
    have rx3 := Rw.mono (x2.trans x3) _ _ rx
    have k3 := k.ext (x1.trans (x2.trans x3))
    dsimp only at e4
    unfold wSl at e4
    split at e4
    · cases e4
      obtain ⟨ad, xs, rfl, q1, r1⟩ := rh3.tupAt rx3
      refine .inr (.inl ⟨ad, xs, rfl, q1, fun hw => ?_, fun _ p hp => ?_⟩)
      · rw [UN (by rw [r1.length]; exact hw)] at k3
        exact k3 R3 H3 _ (Ext.refl _) rh3 rx3
      · obtain ⟨R4, x4, rh4, rw4⟩ := rh3.tup hp (GU r1 l u)
        exact k3 R4 _ _ x4 rh4 rw4
    · split at e4
      · rename_i hz
        cases e4
        exact .inr (.inr ⟨_, rx3.str_eq, hz, k3 R3 H3 _ (Ext.refl _) rh3 (Rw.str _)⟩)
      · cases e4
    · obtain ⟨ys, e5, e6⟩ := Option.map_eq_some_iff.mp e4
      cases e6
      obtain ⟨ad, xs, rfl, q1, r1⟩ := rh3.lsAt rx3 e5
      refine .inl ⟨ad, xs, rfl, q1, fun p hp => ?_⟩
      obtain ⟨R4, x4, rh4, rw4⟩ := rh3.lstI hp (GU r1 l u)
      exact k3 R4 _ _ x4 rh4 rw4
end
noncomputable def Qcq (X : Cx) (id : String) (f : W → List W → MH → Option (W × MH)) : Prop :=
  MtR X id (fun x xs H Q => ∃ R h a ws w h', Rh X.K R h H ∧ Rw X.K R a x ∧ Rws X.K R ws xs ∧ f a ws h = some (w, h') ∧ After X.K R w h' Q)
noncomputable def tyW (h : MH) (T : String) : W → Bool
  | .str _ => T == "str"
  | .int _ => T == "int"
  | .lst _ => T == "list"
  | .frz _ => T == "list"
  | .ref n => match h[n]? with | some (.lst _) => T == "list" | some (.dic _) => T == "dict" | some (.dct _) => T == "dict" | none => false
  | _ => false
noncomputable def mMt (T : String) (f : W → List W → MH → Option (W × MH)) (mo : ME) (ms : MA) : ME := fun σ h => (mo σ h).bind fun p => if tyW p.2 T p.1 = true then (ms σ p.2).bind fun q => f p.1 q.1 q.2 else none
theorem QcD {K : PySem.W.Frag} {R : Rn} {h : MH} {H : Hp} {T : String} {a : W} {x : V} (rh : Rh K R h H) (r : Rw K R a x) (e : tyW h T a = true) : tyV K T x H := by
  cases a with
  | str _ => rw [r.str_eq]; exact eq_of_beq e
  | int _ => rw [r.int_eq]; exact eq_of_beq e
  | lst _ =>
    obtain ⟨ad, xs, rfl, q, _⟩ := rh.lstAt r
    exact .inl ⟨eq_of_beq e, xs, SqL.of q⟩
  | frz _ =>
    obtain ⟨ad, xs, rfl, q, _⟩ := rh.frzAt r
    exact .inl ⟨eq_of_beq e, xs, q⟩
  | ref n =>
    simp only [tyW] at e
    split at e
    · rename_i ws hn
      obtain ⟨_, rfl, xs, h1, _⟩ := rh.refAt r hn
      exact .inl ⟨eq_of_beq e, xs, SqL.of h1⟩
    · rename_i kvs hn
      unfold Rw at r
      obtain ⟨kx, h1, _⟩ := rh.obj n _ hn
      rw [r.2]
      exact .inr (.inr (.inl ⟨eq_of_beq e, .inl ⟨kx, h1⟩⟩))
    · rename_i kvs hn
      unfold Rw at r
      obtain ⟨kx, h1, _⟩ := rh.obj n _ hn
      rw [r.2]
      exact .inr (.inr (.inl ⟨eq_of_beq e, .inr ⟨kx, h1⟩⟩))
    · cases e
  | _ => cases e
section
variable {X : Cx} {o e : Expr} {es : List Expr} {mo : ME} {ms : MA} {name : Str} {apos cpos : Pos} {T id : String} {f : W → List W → MH → Option (W × MH)}
theorem QfH {X : Cx} {e : Expr} {es : List Expr} {cpos : Pos} (hfew : decide ((e :: es).length < 30) = true) (hs : VA e = false) (hp : VE es = true) :
    ((backTo cpos (starEach (e :: es) X.env)).all (fun x => !x.1) && (backToKw cpos (keywordEach [] X.env)).all (fun x => x.1.isSome)
      && decide ((e :: es).length + ([] : List Keyword).length + (if ([] : List Keyword).isEmpty then 0 else 1) < 30)) = true := by
  rw [Qb7 (by unfold VE at hp ⊢; rw [List.all_cons, hs, hp]; rfl)]
  exact hfew
theorem Ju (pa : PlainAttrs T) (slot : Slot T name id) (hty : typeOf (.builtin id) = pure (.type "method_descriptor")) (hm : Qcq X id f) (ho : PM X o mo) (ha : PMA X (e :: es) ms)
    (hbase : attributeBase o name X.env (eval o X.env) = eval o X.env := by rfl) (hfew : decide ((e :: es).length < 30) = true := by rfl)
    (hline : (apos.endLine == cpos.line) = true := by rfl) (hs : VA e = false := by rfl) (hplain : VE es = true := by rfl) :
    PM X (.Call (.Attribute o name apos) (e :: es) [] cpos) (mMt T f mo ms) :=
  ZE (QhD pa slot hty hm ho ha hbase (QfH hfew hs hplain) hline (JY hs) (V9 hplain)) fun σ H Q ⟨R, σi, h, w, h', rh, st, e, k⟩ => by
    obtain ⟨⟨a, h1⟩, ea, e2⟩ := Option.bind_eq_some_iff.mp e
    dsimp only at e2
    split at e2
    · rename_i ht
      obtain ⟨⟨ws, h2⟩, es, e3⟩ := Option.bind_eq_some_iff.mp e2
      exact ⟨R, σi, h, a, h1, rh, st, ea, fun R1 H1 x x1 rh1 rx => ⟨QcD rh1 rx ht, R1, σi, h1, ws, h2, rh1, st.mono x1, es, fun R2 H2 xs x2 rh2 rxs => ⟨R2, h2, a, ws, w, h', rh2, Rw.mono x2 _ _ rx, rxs, e3, k.ext (x1.trans x2)⟩⟩⟩
    · cases e2
theorem Qfa (pa : PlainAttrs T) (slot : Slot T name id) (hty : typeOf (.builtin id) = pure (.type "method_descriptor")) (hm : Qcq X id f) (ho : PM X o mo)
    (hbase : attributeBase o name X.env (eval o X.env) = eval o X.env := by rfl) (hline : (apos.endLine == cpos.line) = true := by rfl) : PM X (.Call (.Attribute o name apos) [] [] cpos) (mMt T f mo Ql) :=
  ZE (Qfu pa slot hty hm ho hbase hline) fun σ H Q ⟨R, σi, h, w, h', rh, st, e, k⟩ => by
    obtain ⟨⟨a, h1⟩, ea, e2⟩ := Option.bind_eq_some_iff.mp e
    dsimp only at e2
    split at e2
    · rename_i ht
      obtain ⟨⟨ws, h2⟩, es, e3⟩ := Option.bind_eq_some_iff.mp e2
      cases es
      exact ⟨R, σi, h, a, h1, rh, st, ea, fun R1 H1 x x1 rh1 rx => ⟨QcD rh1 rx ht, R1, h1, a, [], w, h', rh1, rx, Rws.nil, e3, k.ext x1⟩⟩
    · cases e2
end
noncomputable def Q5 (a : W) (ws : List W) (h : MH) : Option (W × MH) := match a, ws with
  | .ref n, [w] => match h[n]? with | some (.lst xs) => if xs.length < sizeLine then some (.non, h.set n (.lst (xs ++ [w]))) else none | _ => none
  | _, _ => none
noncomputable def Yj (a : W) (ws : List W) (h : MH) : Option (W × MH) := match a, ws with
  | .ref n, [w] => match h[n]? with | some (.lst xs) => (loW h w).bind fun ys => if xs.length + ys.length ≤ sizeLine then some (.non, h.set n (.lst (xs ++ ys))) else none | _ => none
  | _, _ => none
noncomputable def Qgk (a : W) (ws : List W) (h : MH) : Option (W × MH) := match a, ws with
  | .ref n, [] => match h[n]? with | some (.lst xs) => (xs[xs.length - 1]?).map fun w => (w, h.set n (.lst xs.dropLast)) | _ => none
  | _, _ => none
section
variable {X : Cx}
theorem Rws.dropLast {K : PySem.W.Frag} {R : Rn} {ws : List W} {vs : List V} (r : Rws K R ws vs) : Rws K R ws.dropLast vs.dropLast := by
  rw [List.dropLast_eq_take, List.dropLast_eq_take, r.length]
  exact r.take _
theorem QC : Qcq X "list.append" Q5 := by
  intro pins s σ H x xs v us Q I rx rv q
  refine QaB pins s σ H x xs v us Q I rx rv ?_
  obtain ⟨R, h, a, ws, w, h', rh, ra, rws, e, k⟩ := q
  unfold Q5 at e
  split at e
  · rename_i n w1
    split at e
    · rename_i ys hn
      split at e
      · rename_i hl
        cases e
        obtain ⟨hlt, rfl, xv, h1, r1⟩ := rh.refAt ra hn
        obtain ⟨y, rfl, ry⟩ := Qa0 rws
        refine ⟨_, xv, y, rfl, rfl, h1, by rw [← r1.length]; exact hl, ?_⟩
        exact k R _ _ (Ext.refl _) (rh.put hlt ⟨_, rfl, Rws.append r1 (Rws.cons ry Rws.nil)⟩) Rw.non
      · cases e
    · cases e
  · cases e
theorem UR : Qcq X "list.extend" Yj := by
  intro pins s σ H x xs v us Q I rx rv q
  refine QaR pins s σ H x xs v us Q I rx rv ?_
  obtain ⟨R, h, a, ws, w, h', rh, ra, rws, e, k⟩ := q
  unfold Yj at e
  split at e
  · rename_i n w1
    split at e
    · rename_i ys hn
      obtain ⟨zs, e1, e⟩ := Option.bind_eq_some_iff.mp e
      split at e
      · rename_i hl
        cases e
        obtain ⟨hlt, rfl, xv, h1, r1⟩ := rh.refAt ra hn
        obtain ⟨y, rfl, ry⟩ := Qa0 rws
        obtain ⟨bd, yv, rfl, h2, r2⟩ := rh.loAt ry e1
        refine ⟨_, bd, xv, yv, rfl, rfl, h1, h2, by rw [← r1.length, ← r2.length]; exact hl, ?_⟩
        exact k R _ _ (Ext.refl _) (rh.put hlt ⟨_, rfl, Rws.append r1 r2⟩) Rw.non
      · cases e
    · cases e
  · cases e
theorem Qec : Qcq X "list.pop" Qgk := by
  intro pins s σ H x xs v us Q I rx rv q
  refine Qfk pins s σ H x xs v us Q I rx rv ?_
  obtain ⟨R, h, a, ws, w, h', rh, ra, rws, e, k⟩ := q
  unfold Qgk at e
  split at e
  · rename_i n
    split at e
    · rename_i ys hn
      obtain ⟨w1, e1, e2⟩ := Option.map_eq_some_iff.mp e
      cases e2
      obtain ⟨hlt, rfl, xv, h1, r1⟩ := rh.refAt ra hn
      rw [Rws.nil_iff] at rws
      subst rws
      obtain ⟨y, e3, ry⟩ := r1.get e1
      refine ⟨_, xv, y, rfl, rfl, h1, by rw [← r1.length]; exact e3, ?_⟩
      exact k R _ _ (Ext.refl _) (rh.put hlt ⟨_, rfl, r1.dropLast⟩) ry
    · cases e
  · cases e
end
section
variable {X : Cx}
end
end Mi

namespace Mi
open PySem PySem.Spec PyProof.Rows L2

structure Cal (P : Program) (w : World) (K : PySem.W.Frag) (mg : Str → Option Value) (base : Heap) (k : Nat) (x : Str) (ps : List Str) (g : FM) : Prop where
  ex : ∃ (f : Addr) (fd : FuncData), FnOk P w K mg base CX0 k f fd ps (spM K ps.length g) ∧ mg x = some (.ref f) ∧ PySem.W.keepIn K (.ref f) = true ∧ Binds K fd ps [] ∧ ∃ (oc : Value) (od : Option Addr) (osl : Array (Option Value)), K.lookup f = some ⟨oc, od, .func fd, osl⟩
structure DefAt (K : PySem.W.Frag) (mg : Str → Option Value) (x : Str) (st : Stmt) (ps : List Str) : Prop where
  ex : ∃ (f : Addr) (fd : FuncData), Fun K x x st f fd ∧ mg x = some (.ref f) ∧ Binds K fd ps []
theorem Qy {K : PySem.W.Frag} {h : Heap} {mg : Str → Option Value} {x : Str} {st : Stmt} {ps : List Str} {f : Addr} {oc : Value} {od an : Option Addr} {sl : Array (Option Value)} {kV doc pm cd ct : Value} (X : K.In h) (G : h.Ns mainGlobals mg)
    (a : PySem.W.nsIn K mainGlobals x = some (some (.ref f))) (l : K.lookup f = some ⟨oc, od, .func (PySem.W.fnOf x x (VF st) (JK st) (Qm st) .none kV doc pm an cd ct), sl⟩) (c : PySem.W.codeIn K cd x = true) (k : PySem.W.keepIn K (.ref f) = true)
    (b : ∀ (kV doc pm : Value) (an : Option Addr) (cdv ct : Value) (us : List Value), us.length = ps.length → bindArgs (PySem.W.fnOf x x (VF st) (JK st) (Qm st) .none kV doc pm an cdv ct) ⟨us, []⟩ = pure (ps.zip us)) : DefAt K mg x st ps :=
  ⟨f, _, Qcr l c k, PySem.W.mg_of X G a, (Qcr l c k).binds b⟩
structure Glob (K : PySem.W.Frag) (mg : Str → Option Value) (x : Str) (w : W) : Prop where
  ex : ∃ (v : V) (u : Value), mg x = some u ∧ RelV v u ∧ ∀ R, Rw K R w v
theorem Qgl {K : PySem.W.Frag} {h : Heap} {mg : Str → Option Value} {x : Str} {i : Int} {t : Tok} (X : K.In h) (G : h.Ns mainGlobals mg) (a : PySem.W.nsIn K mainGlobals x = some (some (.int i t))) : Glob K mg x (.int i) :=
  ⟨.int i, _, PySem.W.mg_of X G a, ⟨t, rfl⟩, fun _ => Rw.int i⟩
noncomputable def QfI : List Str → List W := List.map W.str
theorem UA {K : PySem.W.Frag} {R : Rn} : ∀ (ys : List Str), Rws K R (QfI ys) (ys.map V.str)
  | [] => Rws.nil
  | y :: ys => Rws.cons (Rw.str y) (UA ys)
theorem Y3 : ∀ {its : List Value} {ys : List Str}, StrsAre its ys → Vals (ys.map V.str) its
  | _, _, .nil => .nil
  | _, _, .cons y t r => .cons ⟨t, rfl⟩ (Y3 r)
theorem QfL {K : PySem.W.Frag} {h : Heap} {mg : Str → Option Value} {x : Str} {c : Addr} {dd : Option Addr} {its : Array Value} {n : Nat} {sl : Array (Option Value)} {ys : List Str} (X : K.In h) (G : h.Ns mainGlobals mg) (a : PySem.W.nsIn K mainGlobals x = some (some (.ref c)))
    (l : K.lookup c = some ⟨.type "tuple", dd, .seq its n, sl⟩) (hz : its.size ≤ sizeLine) (hs : StrsAre its.toList ys) : Glob K mg x (.tup (QfI ys)) :=
  ⟨.ref c, _, PySem.W.mg_of X G a, rfl, fun R => by
    unfold Rw
    exact ⟨c, _, rfl, .inr ⟨_, its, n, l, rfl, rfl, hz, Y3 hs⟩, UA ys⟩⟩
section
variable {X : Cx} {k n : Nat} {g : FM} {x : Str} {ps : List Str} {p pos : Pos} {e : Expr} {es : List Expr} {ms : MA}
theorem Qi (C : Cal X.prog X.w X.K X.mg X.base k x ps g) (hr : Room k X.A) (hg : Gl X x) (ha : PMA X (e :: es) ms) (hn : ps.length = n := by rfl)
    (hdb : (x == ("__debug__" : Str)) = false := by decide) (he : VA e = false := by rfl) (hpl : VE es = true := by rfl) :
    PM X (.Call (.Name x p) (e :: es) [] pos) (Qr n g ms) := by
  obtain ⟨f, fd, F, hm, hk, hb, _⟩ := C.ex
  subst hn
  exact QcX F hr hg hm hk hb QeL ha hdb he hpl
theorem Qae (C : Cal X.prog X.w X.K X.mg X.base k x ps g) (hr : Room k X.A) (hg : Gl X x) (hn : ps.length = n := by rfl) (hdb : (x == ("__debug__" : Str)) = false := by decide) : PM X (.Call (.Name x p) [] [] pos) (Qr n g Ql) := by
  obtain ⟨f, fd, F, hm, hk, hb, _⟩ := C.ex
  subst hn
  exact Qbv F hr hg hm hk hb QeL hdb
end
section
variable {P : Program} {w : World} {K : PySem.W.Frag} {mg : Str → Option Value} {base : Heap}
theorem Q6 {x : Str} {st : Stmt} {N ps : List Str} {k more : Nat} {m : SM} (d : DefAt K mg x st ps) (S : FnScope N ps (Qm st)) (hN : N.length = ps.length + more)
    (hbody : ∀ (f : Addr) (cdv : Value) (A : Around) (outer : List Env) (s : Shared) (H : Hp) (E : XK), Room k (A.deeper (envOfC x (Qm st) s.heap.objs.size f cdv)) → Qaw (Qci CX0 P w K mg base N x (Qm st) f cdv A outer s H E).nox (JK st) m) :
    Cal P w K mg base (k + 1) x ps (Zf more m) := by
  obtain ⟨f, fd, F, hm, hb⟩ := d.ex
  obtain ⟨oc, od, kV, doc, pm, an, cdv, ct, osl, e, lk, hcd⟩ := F.ex
  exact ⟨f, fd, Qhs F S hN (fun cdv A outer s H E hr => hbody f cdv A outer s H E hr), hm, F.kp, hb, oc, od, osl, lk⟩
theorem Cal.imp {x : Str} {ps : List Str} {k : Nat} {g g' : FM} (C : Cal P w K mg base k x ps g) (h : ∀ vs H Q E, spM K ps.length g' vs H Q E → spM K ps.length g vs H Q E) : Cal P w K mg base k x ps g' := by
  obtain ⟨f, fd, F, r⟩ := C.ex
  exact ⟨f, fd, F.imp h, r⟩
end
theorem W7 {K : PySem.W.Frag} {R : Rn} : ∀ (ns : List Int), Rws K R (ns.map W.int) (ns.map V.int)
  | [] => Rws.nil
  | n :: ns => Rws.cons (Rw.int n) (W7 ns)
theorem Qho {l : PySem.W.OpenLaw} {q : Program} {loose : List Str} {XP : (Str → Option Value) → Heap → Prop} {YP : World → Heap → Prop} {d : DefRec} {K : Params → PySem.W.Frag} {st : Stmt} {sem : FM} {k : Nat} (hn : l.most = some 63) (hdf : d.params.defaults = []) (hr : Room k callerA) (hdn : d.name = "law")
    (hY : ∀ (w : World) (h : Heap), YP w h → (K w.params).In h)
    (hb : ∀ (kV doc pm : Value) (an : Option Addr) (cdv ct : Value) (s : Shared) (u : Value), BindsTo s (PySem.W.fnOf "law" "law" (VF st) (JK st) (Qm st) .none kV doc pm an cdv ct) ⟨[u], []⟩ [("script", u)])
    (F : ∀ (w : World) (mg : Str → Option Value) (h : Heap), (K w.params).In h → h.Ns mainGlobals mg →
      DefAt (K w.params) mg "law" st ["script"] ∧ ∀ base : Heap, (K w.params).In base → base.Ns mainGlobals mg → Cal l.prog w (K w.params) mg base k "law" ["script"] sem)
    (main : ∀ ns : List Int, ns.length ≤ 63 → ∃ h', sem [.frz (ns.map W.int)] [] = some (.bl true, h')) :
    PySem.W.WalkO q loose XP YP l.row.toRowW d [] (fun f vs => PySem.call f vs) := by
  refine L2.Qd3 (n := 63) (k := k) (x := "script") (CX := fun _ => CX0) (sp := fun w => spM (K w.params) 1 sem) hn (by decide) hdf hr hY ?_ ?_ fun _ _ _ _ _ z => z
  · intro w mg fa h KX G hmg
    obtain ⟨D, Fn⟩ := F w mg h KX G
    obtain ⟨f, fd, Fu, hm, _⟩ := D.ex
    rw [hdn] at hmg
    rw [hm] at hmg
    cases hmg
    obtain ⟨oc, od, kV, doc, pm, an, cdv, ct, osl, e, lk, hcd⟩ := Fu.ex
    refine ⟨fd, fun s u => ?_, fun base kb nb => ?_⟩
    rotate_left
    · obtain ⟨f', fd', F', hm', _, _, oc', od', osl', lk'⟩ := (Fn base kb nb).ex
      rw [hm] at hm'
      cases hm'
      rw [lk] at lk'
      cases lk'
      exact F'
    rw [e]
    exact hb kV doc pm an cdv ct s u
  · intro w H a ns hl hO hS
    obtain ⟨h', e⟩ := main ns hl
    refine ⟨⟨fun _ => 0, 0, H, fun _ => none⟩, [.frz (ns.map W.int)], [], .bl true, h', rfl, ⟨rfl, fun _ _ z => z, fun n hn => absurd hn (Nat.not_lt_zero _), fun m n hm => absurd hm (Nat.not_lt_zero _), (fun n o z => by simp at z), (fun _ _ z => by cases z), (fun _ _ => rfl), (fun _ _ z => by cases z)⟩, ?_, e, fun R' H' v _ _ rv => rv.bl_eq⟩
    refine Rws.cons ?_ Rws.nil
    unfold Rw
    exact ⟨a, _, rfl, hS, W7 ns⟩
end Mi

namespace Mi
open PySem PySem.Spec PyProof.Rows L2

noncomputable def Qan (scope : Scope) : Bool := scope.names.all fun y => y.2 != .cell && (y.2 != .local || scope.names.lookup y.1 == some .local)
noncomputable def QgR (N : List Str) (xs scope : Scope) (cp : List (Option Nat)) (Nb : List Str) : Bool := (cp.zip Nb).all fun p => match p.1 with
  | none => true
  | some j => N[j]? == some p.2 && (xs.names.lookup p.2 == some .cell || xs.names.lookup p.2 == some .free) && scope.names.lookup p.2 == some .free
noncomputable def QcN (scope : Scope) (ks : List Str) : Bool := scope.names.all fun y => y.2 != .free || ks.contains y.1
theorem JE {env : Env} : ∀ {names : List (Str × NameKind)} {x : Str}, names.lookup x = some .free →
    (names.map fun (n, k) => if (k == NameKind.free && env.scope.kind == .function && env.kindOf n == some .cell) then (n, NameKind.cell) else (n, k)).lookup x = some .cell ∨
    (names.map fun (n, k) => if (k == NameKind.free && env.scope.kind == .function && env.kindOf n == some .cell) then (n, NameKind.cell) else (n, k)).lookup x = some .free
  | [], _, h => by simp at h
  | (n, k) :: r, x, h => by
    have ih := @JE env r x
    rw [List.map_cons]
    dsimp only
    cases hx : x == n with
    | true =>
      simp only [List.lookup_cons, hx] at h
      cases h
      by_cases hc : (NameKind.free == NameKind.free && env.scope.kind == .function && env.kindOf n == some .cell) = true
      · rw [if_pos hc]; exact .inl (by simp [List.lookup_cons, hx])
      · rw [if_neg hc]; exact .inr (by simp [List.lookup_cons, hx])
    | false =>
      simp only [List.lookup_cons, hx] at h
      by_cases hc : (k == NameKind.free && env.scope.kind == .function && env.kindOf n == some .cell) = true
      · rw [if_pos hc]; simp only [List.lookup_cons, hx]; exact ih h
      · rw [if_neg hc]; simp only [List.lookup_cons, hx]; exact ih h
theorem ZJ {env : Env} : ∀ {names : List (Str × NameKind)} {x : Str} {k' : NameKind}, (∀ y ∈ names, y.2 ≠ .cell) → (k' = .cell ∨ k' = .free) →
    (names.map fun (n, k) => if (k == NameKind.free && env.scope.kind == .function && env.kindOf n == some .cell) then (n, NameKind.cell) else (n, k)).lookup x = some k' → (x, NameKind.free) ∈ names
  | [], _, _, _, _, h => by simp at h
  | (n, k) :: r, x, k', hn, hk, h => by
    rw [List.map_cons] at h
    dsimp only at h
    have ih := @ZJ env r x k' (fun y hy => hn y (List.mem_cons_of_mem _ hy)) hk
    cases hx : x == n with
    | true =>
      have : x = n := eq_of_beq hx
      subst this
      by_cases hc : (k == NameKind.free && env.scope.kind == .function && env.kindOf x == some .cell) = true
      · have : k = .free := by
          simp only [Bool.and_eq_true, beq_iff_eq] at hc; exact hc.1.1
        subst this
        exact List.mem_cons_self
      · rw [if_neg hc] at h
        simp [List.lookup_cons] at h
        subst h
        rcases hk with z | z
        · exact absurd z (hn (x, k) List.mem_cons_self)
        · subst z; exact List.mem_cons_self
    | false =>
      refine List.mem_cons_of_mem _ (ih ?_)
      by_cases hc : (k == NameKind.free && env.scope.kind == .function && env.kindOf n == some .cell) = true
      · rw [if_pos hc] at h; simpa only [List.lookup_cons, hx] using h
      · rw [if_neg hc] at h; simpa only [List.lookup_cons, hx] using h
theorem US {cl : List (Str × Addr)} {x : Str} {c : Addr} (h : cl.lookup x = some c) : (x, c) ∈ cl := by
  induction cl with
  | nil => simp at h
  | cons p r ih =>
    obtain ⟨n, a⟩ := p
    cases hx : x == n with
    | true =>
      simp only [List.lookup_cons, hx] at h
      cases h
      rw [eq_of_beq hx]; exact List.mem_cons_self
    | false =>
      simp only [List.lookup_cons, hx] at h
      exact List.mem_cons_of_mem _ (ih h)
theorem Ym {cl : List (Str × Addr)} {x : Str} (h : x ∈ cl.map (·.1)) : ∃ c, cl.lookup x = some c := by
  induction cl with
  | nil => simp at h
  | cons p r ih =>
    obtain ⟨n, a⟩ := p
    cases hx : x == n with
    | true => exact ⟨a, by simp only [List.lookup_cons, hx]⟩
    | false =>
      rcases List.mem_cons.mp h with z | z
      · dsimp only at z; rw [z, beq_self_eq_true] at hx; cases hx
      · obtain ⟨c, hc⟩ := ih z
        exact ⟨c, by simp only [List.lookup_cons, hx]; exact hc⟩
theorem YQ {X : Cx} {scope xs : Scope} {cl : List (Str × Addr)} {N Nb ks : List Str} {cp : List (Option Nat)} (clos : closureFor scope X.env = pure cl) (kind : scope.kind = .function) (hs : Qan scope = true) (hk : cl.map (·.1) = ks) (hks : QcN scope ks = true)
    (hsub : ∀ p ∈ cl, X.env.cells.lookup p.1 = some p.2) (hN : X.N = N) (hx : X.env.scope = xs) (hl : cp.length = Nb.length) (hc : QgR N xs scope cp Nb = true) : BlkOk X scope cl Nb cp := by
  have hcell : ∀ y ∈ scope.names, y.2 ≠ .cell := fun y hy => by
    have := List.all_eq_true.mp hs y hy
    simp only [Bool.and_eq_true, bne_iff_ne] at this
    exact this.1
  refine ⟨clos, hcell, kind, fun y hy hl => ?_, fun x c h => hsub _ (US h), fun x h => ?_, hl, fun i j x h1 h2 => ?_⟩
  · have := List.all_eq_true.mp hs y hy
    simp only [Bool.and_eq_true, Bool.or_eq_true, bne_iff_ne, beq_iff_eq] at this
    rcases this.2 with z | z
    · exact absurd hl z
    · exact z
  · have hm : (x, NameKind.free) ∈ scope.names := by
      rcases h with h | h
      · exact ZJ hcell (.inl rfl) h
      · exact ZJ hcell (.inr rfl) h
    have := List.all_eq_true.mp hks _ hm
    simp only [Bool.or_eq_true, bne_iff_ne, ne_eq, not_true_eq_false, false_or, List.contains_iff_mem] at this
    exact Ym (by rw [hk]; exact this)
  · have hz : (cp.zip Nb)[i]? = some (some j, x) := by rw [List.getElem?_zip_eq_some]; exact ⟨h1, h2⟩
    have := List.all_eq_true.mp hc _ (List.mem_of_getElem? hz)
    simp only [Bool.and_eq_true, Bool.or_eq_true, beq_iff_eq] at this
    obtain ⟨⟨a, b⟩, c⟩ := this
    refine ⟨by rw [hN]; exact a, ?_, ?_, JE c⟩
    · rw [hx]
      rcases b with b | b
      · exact .inr (.inl b)
      · exact .inr (.inr b)
    · unfold Env.kindOf
      rw [hx]; exact b
theorem X9 {X : Cx} {scope : Scope} {Nb : List Str} {cp : List (Option Nat)} (kind : scope.kind = .function) (hs : Qan scope = true) (hks : QcN scope [] = true) (hl : cp.length = Nb.length) (hc : cp.all (·.isNone) = true) : BlkOk X scope [] Nb cp := by
  have hfree : ∀ y ∈ scope.names, y.2 ≠ .free := fun y hy z => by
    have := List.all_eq_true.mp hks y hy
    simp [z] at this
  have hcell : ∀ y ∈ scope.names, y.2 ≠ .cell := fun y hy => by
    have := List.all_eq_true.mp hs y hy
    simp only [Bool.and_eq_true, bne_iff_ne] at this
    exact this.1
  refine ⟨closureFor_none hfree, hcell, kind, fun y hy hl => ?_, fun x c h => by simp at h, fun x h => ?_, hl, fun i j x h1 h2 => ?_⟩
  · have := List.all_eq_true.mp hs y hy
    simp only [Bool.and_eq_true, Bool.or_eq_true, bne_iff_ne, beq_iff_eq] at this
    rcases this.2 with z | z
    · exact absurd hl z
    · exact z
  · have hm : (x, NameKind.free) ∈ scope.names := by
      rcases h with h | h
      · exact ZJ hcell (.inl rfl) h
      · exact ZJ hcell (.inr rfl) h
    exact absurd rfl (hfree _ hm)
  · have := List.all_eq_true.mp hc _ (List.mem_of_getElem? h1)
    simp at this
end Mi

namespace Mi
open PySem PySem.Spec PyProof.Rows L2
theorem ZT (items : List W) (h : MH) : Qct none items h := fun _ z => by cases z
theorem Vt {fin : List W → MH → Option (W × MH)} {items : List W} {mt : MT} {me : ME} {caps : MSt} {h : MH} {f : W → W} {p : W → Bool} : ∀ (rest acc : List W) (o : Option W),
    (∀ w ∈ rest, mt (some w :: caps) h = some (p w, h)) → (∀ w ∈ rest, p w = true → me (some w :: caps) h = some (f w, h)) → acc.length + rest.length ≤ sizeLine →
    Vd fin items none (J5 0) mt me rest acc (o :: caps) h = fin (acc ++ (rest.filter p).map f) h
  | [], acc, o, _, _, _ => by
    unfold Vd
    rw [if_pos (ZT _ _)]; simp
  | w :: rest, acc, o, ht, he, hl => by
    unfold Vd
    rw [if_pos (ZT _ _)]
    have h1 : J5 0 w (o :: caps) h = some (some w :: caps) := rfl
    rw [h1, Option.bind_some, ht w List.mem_cons_self, Option.bind_some]
    have hl' : acc.length + (rest.length + 1) ≤ sizeLine := by simpa using hl
    cases hp : p w with
    | true =>
      simp only [hp]
      rw [he w List.mem_cons_self hp, Option.bind_some, if_pos (by omega)]
      rw [Vt rest (acc ++ [f w]) (some w) (fun x hx => ht x (List.mem_cons_of_mem _ hx)) (fun x hx => he x (List.mem_cons_of_mem _ hx)) (by simp; omega)]
      simp [List.filter_cons, hp]
    | false =>
      simp only [hp]
      rw [Vt rest acc (some w) (fun x hx => ht x (List.mem_cons_of_mem _ hx)) (fun x hx => he x (List.mem_cons_of_mem _ hx)) (by omega)]
      simp [List.filter_cons, hp]
theorem QaI {items : List W} {b : MG} {body : SM} {w : W} {r : List W} {σ σ1 σ2 : MSt} {h h2 : MH} (hb : b w σ h = some σ1) (hy : body σ1 h = some (.nx σ2 h2)) : Ve items none b body (w :: r) σ h = Ve items none b body r σ2 h2 := by
  rw [Ve, if_pos (ZT _ _), hb, Option.bind_some, hy, Option.bind_some]
theorem Uw {items : List W} {b : MG} {body : SM} {σ : MSt} {h : MH} : Ve items none b body [] σ h = some (.nx σ h) := by
  rw [Ve, if_pos (ZT _ _)]
end Mi

namespace Mi
open PySem PySem.Spec PyProof.Rows L2
section
variable {σ σ1 : MSt} {h h1 h2 h3 : MH} {a b c w : W} {ws : List W} {ma mb mc : ME} {ms : MA} {mt mu : MT} {s1 s2 : SM} {f f' : W → W → MH → Option (W × MH)} {g : List W → MH → Option (W × MH)} {z : MF}
theorem QhL : Ql σ h = some ([], h) := rfl
theorem QaY (e1 : ma σ h = some (a, h1)) (e2 : ms σ h1 = some (ws, h2)) : Qc ma ms σ h = some (a :: ws, h2) := by unfold Qc; rw [e1, Option.bind_some, e2]; rfl
end
theorem GN {i j : Int} {h : MH} (c : (-(2 ^ 64) < i ∧ i < 2 ^ 64) ∨ (-(2 ^ 64) < j ∧ j < 2 ^ 64)) : QeT (.int i) (.int j) h = some (.int (i * j), h) := by unfold QeT; exact if_pos c
theorem Qem {i j : Int} {h : MH} (c : 0 < j ∧ j < 1073741824) : Qd0 (.int i) (.int j) h = some (.int (i / j), h) := by unfold Qd0; exact if_pos c
theorem QdD {i j : Int} {h : MH} (c : 0 < j) : GZ (.int i) (.int j) h = some (.int (i % j), h) := by unfold GZ; exact if_pos c
theorem QdO {i j : Int} {h : MH} (c : 0 ≤ j ∧ j ≤ 1000000 ∧ i.natAbs < 2 ^ 64) : Qer (.int i) (.int j) h = some (.int (i ^ j.toNat), h) := by unfold Qer; exact if_pos c
theorem Qeo {x : Str} {i : Int} {h : MH} {d : Nat} (hl : x.length ≤ sizeLine) (e : atI x.cps.toList i = some d) : wIx (.str x) (.int i) h = some (.str ⟨#[d]⟩, h) := by
  unfold wIx; simp only; rw [if_pos hl, e]; rfl
end Mi

namespace Mi
open PySem PySem.Spec PyProof.Rows L2
noncomputable def Qex (mo mi mv : ME) : SM := fun σ h => (mv σ h).bind fun v => (mo σ v.2).bind fun o => (mi σ o.2).bind fun i => match o.1, i.1 with
  | .ref n, .int k => match i.2[n]? with
    | some (.lst xs) => (ixN xs.length k).map fun j => .nx σ (i.2.set n (.lst (xs.set j v.1)))
    | _ => none
  | _, _ => none
section
variable {X : Cx} {o i e : Expr} {mo mi mv : ME} {pos pos' : Pos}
theorem QeZ {K : PySem.W.Frag} {D : L2.Ends} {σ : L2.St} {H : Hp} (q : tS K (Qex mo mi mv) D σ H) : Qgd (tI K mv) (QiI (tI K mo) (tI K mi) Qfz) D σ H := by
  obtain ⟨R, σi, h, r, rh, s, e, k⟩ := q
  obtain ⟨⟨v, h1⟩, e1, e2⟩ := Option.bind_eq_some_iff.mp e
  obtain ⟨⟨ob, h2⟩, e3, e4⟩ := Option.bind_eq_some_iff.mp e2
  obtain ⟨⟨ix, h3⟩, e5, e6⟩ := Option.bind_eq_some_iff.mp e4
  refine ⟨R, σi, h, v, h1, rh, s, e1, fun R1 H1 x x1 rh1 rx => ⟨R1, σi, h1, ob, h2, rh1, s.mono x1, e3, fun R2 H2 y x2 rh2 ry => ⟨R2, σi, h2, ix, h3, rh2, s.mono (x1.trans x2), e5, fun R3 H3 z x3 rh3 rz => ?_⟩⟩⟩
  dsimp only at e6
  split at e6
  · rename_i n kk
    split at e6
    · rename_i xs hn
      obtain ⟨j, e7, e8⟩ := Option.map_eq_some_iff.mp e6
      cases e8
      obtain ⟨hlt, ey, xv, h4, r4⟩ := rh3.refAt (Rw.mono x3 _ _ ry) hn
      refine ⟨_, xv, kk, j, ey, rz.int_eq, h4, by rw [← r4.length]; exact e7, ?_⟩
      exact k R3 _ σ (x1.trans (x2.trans x3)) (rh3.put hlt ⟨_, rfl, r4.set j (Rw.mono (x2.trans x3) _ _ rx)⟩) (s.mono (x1.trans (x2.trans x3)))
    · cases e6
  · cases e6
theorem WI (ho : PM X o mo) (hi : PM X i mi) (he : PM X e mv)
    (ha : ∀ v, assign (.Subscript o i pos') X.env v = (do
      let ov ← holding [v] (eval o X.env)
      let iv ← holding [v, ov] (eval i X.env)
      standAt pos'
      holding [v, ov, iv] (setItem ov iv v)
      release [v, ov, iv] []) := by intro _; rfl)
    (hs : W5 e = false := by rfl) (hw : swappedStores [.Subscript o i pos'] e X.env = pure none := by rfl) : PMS X (.Assign [.Subscript o i pos'] e pos) (Qex mo mi mv) :=
  VZ (QeY he (QfR ho hi Qbg ha) (show swapsWith e (some (.Subscript o i pos')) pos.line X.env = pure false from YD hs) hw rfl) fun _ _ _ => QeZ
end
noncomputable def Gc (a b : W) (h : MH) : Option (W × MH) := match a, b with | .int i, .int j => some (.int (i + j), h) | _, _ => none
section
variable {X : Cx} {o i e : Expr} {mo mi mv : ME} {pos pos' : Pos}
theorem Yz : OpR X (inplaceOp .Add) (F2 X.K Gc) := by
  intro pins s σ H x y v u Q I rx ry q
  refine Qed pins s σ H x y v u Q I rx ry ?_
  obtain ⟨R, h, a, b, w, h', rh, ra, rb, e, k⟩ := q
  unfold Gc at e
  split at e
  · cases e
    exact ⟨_, _, ra.int_eq, rb.int_eq, k R H _ (Ext.refl _) rh (Rw.int _)⟩
  · cases e
end
end Mi

namespace Mi
open PySem PySem.Spec PyProof.Rows L2
end Mi

namespace Mi
open PySem PySem.Spec PyProof.Rows L2 PySem.SeqAt
noncomputable def Wp (a : W) (ws : List W) (h : MH) : Option (W × MH) := match ws with
  | [w] => (lsW h a).bind fun ys => (drf h 40 w).bind fun x => (Ji (drf h 40) ys).bind fun zs => (zs.findIdx? fun y => eqW y x).map fun j => (.int (j : Nat), h)
  | _ => none
theorem Gv {X : Cx} (hu : X.A.units + 64 < cLine) : Qcq X "list.index" Wp := by
  intro pins s σ H x xs v us Q I rx rv q
  obtain ⟨R, h, a, ws, w, h', rh, ra, rws, e, k⟩ := q
  unfold Wp at e
  split at e
  · rename_i w1
    obtain ⟨ys, e1, e⟩ := Option.bind_eq_some_iff.mp e
    obtain ⟨x', e2, e⟩ := Option.bind_eq_some_iff.mp e
    obtain ⟨zs, e3, e⟩ := Option.bind_eq_some_iff.mp e
    obtain ⟨j, e4, e5⟩ := Option.map_eq_some_iff.mp e
    cases e5
    obtain ⟨y, rfl, ry⟩ := Qa0 rws
    obtain ⟨u, rfl, ru⟩ := Qa9 rv
    obtain ⟨ad, xv, rfl, q1, r1⟩ := rh.lsAt ra e1
    cases rx
    obtain ⟨its, t1, p1, hz⟩ := I.list q1
    have hu' : X.A.in1.units + 40 < cLine := by show X.A.units + 1 + 40 < cLine; omega
    have l1 := r1.length; have l2 := t1.length; have l3 := (QN e3).1
    obtain ⟨hj, hhit, hbefore⟩ := List.findIdx?_eq_some_iff_getElem.mp e4
    have at_ : ∀ m (hm : m < its.toArray.size), Qbe X.K R h x' its.toArray[m] = eqW (zs[m]'(by rw [List.size_toArray] at hm; omega)) x' := by
      intro m hm
      rw [List.size_toArray] at hm
      obtain ⟨w2, hw2⟩ : ∃ w2, ys[m]? = some w2 := ⟨ys[m]'(by omega), List.getElem?_eq_getElem _⟩
      obtain ⟨v2, hv2, rv2⟩ := r1.get hw2
      obtain ⟨u2, hu2, ru2⟩ := t1.get hv2
      obtain ⟨b, hb, eb⟩ := (QN e3).2 m w2 hw2
      have eu : its.toArray[m] = u2 := by have := hu2; rw [List.getElem?_eq_getElem hm] at this; simpa using this
      have ez : zs[m]'(by omega) = b := by have := hb; rw [List.getElem?_eq_getElem (by omega)] at this; simpa using this
      rw [eu, ez]
      exact Wx I rh rv2 ru2 eb
    obtain ⟨ob, n, ho, hc, hdd, hd⟩ := p1
    obtain ⟨cls, dd, data, sl⟩ := ob
    simp only at hc hd
    subst hc hd
    have hjs : j < its.toArray.size := by rw [List.size_toArray]; omega
    refine call_meets PySem.F.slot_list_index ⟨_, ho, rfl⟩ PySem.F.entry_list_index (PySem.F.args_list_index_2 _ _)
      (list_indexAt ad its.toArray n dd sl u (Qbe X.K R h x') j hjs ?_ ?_ ?_) ⟨ho, fun z hz' => Yi I rh hu' ry ru e2 r1 t1 e3 z (by simpa using hz'), ?_⟩
    · have : (sizeLine : Nat) < 2 ^ 62 := by decide
      have hj2 : j < 2 ^ 62 := by omega
      omega
    · rw [at_ j hjs]; exact hhit
    · intro m hm hmj
      rw [at_ m hm]
      simpa using hbefore m hmj
    · exact ⟨.int j, H, I.tok _, ⟨_, rfl⟩, k R H _ (Ext.refl _) rh (Rw.int _)⟩
  · cases e
end Mi

namespace Mi
open PySem PySem.Spec PyProof.Rows L2
inductive TabIs : List DictEntry → List (Str × Int) → Prop where
  | nil : TabIs [] []
  | cons {e : DictEntry} {x : Str} {i : Int} {t t' : Tok} {es : List DictEntry} {tab : List (Str × Int)} (hk : e.key = .str x t) (hv : e.val = .int i t') (r : TabIs es tab) : TabIs (e :: es) ((x, i) :: tab)
structure GTab (w : World) (K : PySem.W.Frag) (mg : Str → Option Value) (x : Str) (tab : List (Str × Int)) : Prop where
  ex : ∃ (a : Addr) (es : List DictEntry) (n : Nat), mg x = some (.ref a) ∧ K.lookup a = some ⟨.type "dict", none, .dict es.toArray n, #[]⟩ ∧ PySem.W.KeysLit w.params es ∧ (a == sysModules) = false ∧ TabIs es tab
theorem Qha {w : World} {K : PySem.W.Frag} {h : Heap} {mg : Str → Option Value} {x : Str} {c : Addr} {es : List DictEntry} {n : Nat} {tab : List (Str × Int)} (X : K.In h) (G : h.Ns mainGlobals mg) (a : PySem.W.nsIn K mainGlobals x = some (some (.ref c)))
    (l : K.lookup c = some ⟨.type "dict", none, .dict es.toArray n, #[]⟩) (k : PySem.W.KeysLit w.params es) (s : (c == sysModules) = false) (t : TabIs es tab) : GTab w K mg x tab :=
  ⟨c, es, n, PySem.W.mg_of X G a, l, k, s, t⟩
section
variable {X : Cx} {c : Addr} {es : List DictEntry} {n : Nat} {tab : List (Str × Int)}
variable {a : Expr} {ma : ME} {x : Str} {pos pos' : Pos}
end
end Mi

namespace Mi
open PySem PySem.Spec PyProof.Rows L2
theorem Qds (a b : Int) (h : MH) : wEq (.int a) (.int b) h = some (.bl (a == b), h) := by unfold wEq; simp [drf, eqW]
theorem QcY (a b : Int) (h : MH) : wNe (.int a) (.int b) h = some (.bl (!(a == b)), h) := by unfold wNe; simp [drf, eqW]
theorem Qd2 (a b : Str) (h : MH) : wEq (.str a) (.str b) h = some (.bl (a == b), h) := by unfold wEq; simp [drf, eqW]
end Mi

namespace Mi
open PySem PySem.Spec PyProof.Rows L2
theorem Um {m : Nat} : ∀ zs : List Str, (∀ z ∈ zs, z.length ≤ m) → (zs.map (·.length)).sum ≤ zs.length * m
  | [], _ => Nat.zero_le _
  | z :: zs, h => by
    rw [List.map_cons, List.sum_cons, List.length_cons, Nat.succ_mul]
    have := Um zs fun x hx => h x (List.mem_cons_of_mem _ hx)
    have h1 := h z List.mem_cons_self
    omega
end Mi

namespace Mi
open PySem PySem.Spec PyProof.Rows L2
noncomputable def Qgh (lo c : Int) (n : Nat) : It := ⟨fun i _ => i < n, fun i H x H' => H' = H ∧ x = .int (lo + i * c), fun i _ => n ≤ i⟩
theorem GE {P : Program} {w : World} {K : PySem.W.Frag} {tg : Expr} (it : Addr) (lo c : Int) (n : Nat) : Turn P w K tg (Qgh lo c n) [it] it (fun i h => IsRangeIter h it (lo + (i : Nat) * c) ((n : Int) - (i : Nat)) c) where
  mem := by simp
  obj := fun i h st b hb => by
    have e : b = it := by simpa using hb
    subst e
    exact ⟨_, st, fun v z => by
      have z' : Data.fields _ = Data.cell v := z
      cases z'⟩
  keep := fun i h h' st k => k it (by simp) _ st
  item := by
    intro X hP hw hK hc i pins s σ H E I hf st hg
    subst hP hw hK
    obtain ⟨f0, f1, f2, f3, f4, f5⟩ := hf it (by simp)
    have W := Walks.range (prog := X.prog) (w := X.w) (I.ok.hd hc) it lo c n
    refine W.item i s _ _ hg st fun v h' tk hv st' kk => ?_
    obtain ⟨t, rfl⟩ := hv
    have I1 : Inv X pins σ H { s with heap := h', toks := tk } := I.turned (fun b o hb e => kk b o (by simpa using hb) e) f0 f1 f3 f4 f5
    exact ⟨_, rfl, Qaf (s := { s with heap := h', toks := tk }) (n := "range_iterator") st' rfl rfl (by decide) ⟨.int (lo + i * c), H, I1, ⟨t, rfl⟩, ⟨rfl, rfl⟩, st', fun b hb => (hf b hb).1⟩⟩
  done := by
    intro X hP hw hK hc i pins s σ H E I hf st hg
    subst hP hw hK
    obtain ⟨f0, f1, f2, f3, f4, f5⟩ := hf it (by simp)
    exact wpAny_pyNext_range_end (I.ok.hd hc) st (by have : n ≤ i := hg; omega) fun h' eb => ⟨rfl, I.turned (t' := s.toks) (fun b o hb e => eb b o hb e) f0 f1 f3 f4 f5⟩
  self := fun _ _ _ _ _ st h => wpAny_pyIter_rangeiter st h
theorem YW {a b c : Int} (hc : c ≠ 0) : 0 ≤ Builtin.Range.rangeSize a b c := by
  unfold Builtin.Range.rangeSize
  split
  · split
    · have : 0 ≤ (b - a - 1) / c := Int.ediv_nonneg (by omega) (by omega)
      omega
    · exact Int.le_refl _
  · split
    · have : 0 ≤ (a - b - 1) / (-c) := Int.ediv_nonneg (by omega) (by omega)
      omega
    · exact Int.le_refl _
section
variable {X : Cx} {tg : Expr}
theorem Qdp {pins : List (Addr × Obj)} {σ : L2.St} {H : Hp} {s : Shared} {R : It → Hp → Prop} {E : Value → Shared → Prop} {lo hi c : Int} {t u v : Tok} {tk : Nat} (I : Inv X pins σ H s) (hc : c ≠ 0) (h1 : Builtin.Range.small lo hi c = true)
    (q : R (Qgh lo c (Builtin.Range.rangeSize lo hi c).toNat) H) : wpAny (model X.prog X.w) X.A (pyIter (.ref s.heap.objs.size)) (PIE X pins σ tg R) E { s with heap := s.heap.push { cls := .type "range", data := .fields #[.int lo t, .int hi u, .int c v] }, toks := tk } := by
  refine wpAny_pyIter_range (IsRange.new ..) h1 ?_
  have I1 : Inv X pins σ H { s with heap := s.heap.push { cls := .type "range", data := .fields #[.int lo t, .int hi u, .int c v] }, toks := tk } := I.kept fun b o e => Heap.get?_push_of_some _ e
  refine ⟨(s.heap.push { cls := .type "range", data := .fields #[.int lo t, .int hi u, .int c v] }).objs.size, [(s.heap.push { cls := .type "range", data := .fields #[.int lo t, .int hi u, .int c v] }).objs.size], _, _, H, rfl,
    I1.kept (t' := tk) fun b o e => Heap.get?_push_of_some _ e, GE _ lo c (Builtin.Range.rangeSize lo hi c).toNat, ?_, fun b hb => ?_, q⟩
  · have e1 : lo + ((0 : Nat) : Int) * c = lo := by simp
    have e2 : (((Builtin.Range.rangeSize lo hi c).toNat : Nat) : Int) - ((0 : Nat) : Int) = Builtin.Range.rangeSize lo hi c := by
      have := YW (a := lo) (b := hi) hc
      omega
    show IsRangeIter _ _ (lo + ((0 : Nat) : Int) * c) ((((Builtin.Range.rangeSize lo hi c).toNat : Nat) : Int) - ((0 : Nat) : Int)) c
    rw [e1, e2]
    exact Heap.get?_push_size _ rfl
  · have e : b = (s.heap.push { cls := .type "range", data := .fields #[.int lo t, .int hi u, .int c v] }).objs.size := by simpa using hb
    subst e
    exact I1.fpOk (Nat.le_refl _) (I1.hok.fresh (Nat.le_refl _))
noncomputable def Qhg (ta : TA) : TI := fun σ H R => ta σ H fun vs H1 => ∃ i j c : Int, vs = [.int i, .int j, .int c] ∧ (c ≠ 0 ∧ c.natAbs < 1073741824 ∧ Builtin.Range.small i j c = true) ∧ R (Qgh i c (Builtin.Range.rangeSize i j c).toNat) H1
theorem G7 {a b d : Expr} {ta : TA} {p pos : Pos} (hg : Gl X "range") (hm : X.mg "range" = none) (ha : PA X [a, b, d] ta) (hs : starEach [a, b, d] X.env = [(false, eval a X.env), (false, eval b X.env), (false, eval d X.env)] := by rfl) (hs2 : starEach [b, d] X.env = [(false, eval b X.env), (false, eval d X.env)] := by rfl) :
    PI X tg (.Call (.Name "range" p) [a, b, d] [] pos) (Qhg ta) := by
  intro pins s σ H R I h
  refine Call_ (KP I hg hm boot_range (PyProof.Rows.callWith_type1 (thn (ha pos pins s σ H _ I h) fun us s1 ⟨vs, H1, I1, r1, q1⟩ => ?_) (by rw [hs, hs2]) (by rw [hs2]; rfl)))
  obtain ⟨i, j, c, e, ⟨q1, q2, q3⟩, q⟩ := q1
  subst e
  cases r1 with
  | cons r rr =>
    cases rr with
    | cons r' rr =>
      cases rr with
      | cons r'' rr =>
        cases rr
        obtain ⟨t, rfl⟩ := r
        obtain ⟨t', rfl⟩ := r'
        obtain ⟨t'', rfl⟩ := r''
        exact call_range_3 q1 (Qdp I1 q1 q3 q) (.inl (PyProof.noPylong_small q2))
end
noncomputable def ZY (lo c : Int) (n : Nat) : List W := (List.range n).map fun (i : Nat) => W.int (lo + (i : Int) * c)
section
variable {K : PySem.W.Frag} {R : Rn}
theorem Gw {lo c : Int} {n : Nat} : ItOk K R (Qgh lo c n) (ZY lo c n) none where
  go := fun i w R' h H _ _ _ e => by
    have := (List.getElem?_eq_some_iff.mp e).1
    show i < n
    simpa [ZY] using this
  yld := fun i w R' h H v H' e rh _ ew hy => by
    obtain ⟨rfl, rfl⟩ := hy
    unfold ZY at ew
    rw [List.getElem?_map] at ew
    obtain ⟨j, hj, e2⟩ := Option.map_eq_some_iff.mp ew
    rw [List.getElem?_range (by have := (List.getElem?_eq_some_iff.mp hj).1; simpa using this)] at hj
    cases hj
    cases e2
    exact ⟨R', Ext.refl _, rh, Rw.int _⟩
  stop := fun i R' h H _ _ _ hl => by
    show n ≤ i
    simpa [ZY] using hl
end
noncomputable def Qce (ms : MA) : MI := fun σ h => (ms σ h).bind fun p => match p.1 with
  | [.int i, .int j, .int c] => if c ≠ 0 ∧ c.natAbs < 1073741824 ∧ Builtin.Range.small i j c = true then some (ZY i c (Builtin.Range.rangeSize i j c).toNat, none, p.2) else none
  | _ => none
section
variable {X : Cx} {tg a b d : Expr} {ms : MA} {p pos : Pos}
theorem QcC (hg : Gl X "range") (hm : X.mg "range" = none) (ha : PMA X [a, b, d] ms) (hs : starEach [a, b, d] X.env = [(false, eval a X.env), (false, eval b X.env), (false, eval d X.env)] := by rfl) (hs2 : starEach [b, d] X.env = [(false, eval b X.env), (false, eval d X.env)] := by rfl) : PMI X tg (.Call (.Name "range" p) [a, b, d] [] pos) (Qce ms) :=
  Ub (G7 hg hm ha hs hs2) fun σ H C ⟨R, σi, h, items, src, h', rh, st, e, k⟩ => by
    obtain ⟨⟨ws, h1⟩, e1, e2⟩ := Option.bind_eq_some_iff.mp e
    refine ⟨R, σi, h, ws, h1, rh, st, e1, fun R1 H1 vs x1 rh1 rv => ?_⟩
    split at e2
    · rename_i i j c hj
      simp only at hj
      subst hj
      split at e2
      · rename_i hb
        cases e2
        rw [Rws.cons_iff] at rv
        obtain ⟨v, vs', rfl, r1, r2⟩ := rv
        rw [Rws.cons_iff] at r2
        obtain ⟨v2, vs2, rfl, r3, r4⟩ := r2
        rw [Rws.cons_iff] at r4
        obtain ⟨v3, vs3, rfl, r5, r6⟩ := r4
        rw [Rws.nil_iff] at r6
        subst r6
        rw [r1.int_eq, r3.int_eq, r5.int_eq]
        exact ⟨i, j, c, rfl, hb, k R1 H1 _ x1 rh1 Gw⟩
      · cases e2
    · cases e2
end
end Mi

namespace Mi
open PySem PySem.Spec PyProof.Rows L2
section
variable {K : PySem.W.Frag} {R : Rn}
noncomputable abbrev DicR (K : PySem.W.Frag) (R : Rn) : List (Key × W) → List (Key × V) → Prop := Paired fun p q => p.1 = q.1 ∧ Rw K R p.2 q.2
end
section
variable {X : Cx} {o i e a b : Expr} {mo mi mv ma mb : ME} {pos pos' : Pos}
end
end Mi

namespace Mi
open PySem PySem.Spec PyProof.Rows L2
theorem K4 {α : Type} (xs : List α) (x : α) : atI (xs ++ [x]) (-1) = some x := by
  unfold atI ixN
  rw [if_neg (by decide), if_pos (by simp; omega), Option.bind_some]
  have : ((-1 : Int) + ((xs ++ [x]).length : Nat)).toNat = xs.length := by simp; omega
  rw [this]; simp
theorem Vw {lo c : Int} {n j : Nat} {w : W} (e : (ZY lo c n)[j]? = some w) : j < n ∧ w = .int (lo + (j : Int) * c) := by
  unfold ZY at e
  rw [List.getElem?_map] at e
  obtain ⟨i, h1, rfl⟩ := Option.map_eq_some_iff.mp e
  obtain ⟨hl, h2⟩ := List.getElem?_eq_some_iff.mp h1
  rw [List.length_range] at hl
  rw [List.getElem_range] at h2
  subst h2
  exact ⟨hl, rfl⟩
theorem QbH {k : Nat} (hk : k < 1000000) : Builtin.Range.small ((k : Int) - 1) (-1) (-1) = true ∧ (Builtin.Range.rangeSize ((k : Int) - 1) (-1) (-1)).toNat = k := by
  have e : Builtin.Range.rangeSize ((k : Int) - 1) (-1) (-1) = k := by
    unfold Builtin.Range.rangeSize
    rw [if_neg (by decide)]
    by_cases z : k = 0
    · subst z; rfl
    · rw [if_pos (by omega)]
      simp
  refine ⟨?_, by rw [e]; simp⟩
  unfold Builtin.Range.small
  rw [e]
  simp only [Builtin.Range.rangeFitsLong, Bool.and_eq_true, Bool.or_eq_true, decide_eq_true_eq, beq_iff_eq]
  exact ⟨by omega, .inr (by decide)⟩
theorem QgT {ma mb mc : ME} {σ : MSt} {h : MH} {k : Nat} (e : ma σ h = some (.int ((k : Int) - 1), h)) (eb : mb σ h = some (.int (-1), h)) (ec : mc σ h = some (.int (-1), h)) (hk : k < 1000000) : Qce (Qc ma (Qc mb (Qc mc Ql))) σ h = some (ZY ((k : Int) - 1) (-1) k, none, h) := by
  unfold Qce
  rw [QaY e (QaY eb (QaY ec QhL)), Option.bind_some]
  obtain ⟨h1, h2⟩ := QbH hk
  show (if _ then _ else _) = _
  rw [if_pos ⟨by decide, by decide, h1⟩, h2]
end Mi

namespace Mi
open PySem PySem.Spec PyProof.Rows L2
mutual
noncomputable def pur : W → Bool
  | .tup ws => Jq ws
  | .lst ws => Jq ws
  | .frz ws => Jq ws
  | .ref _ => false
  | _ => true
noncomputable def Jq : List W → Bool
  | [] => true
  | w :: ws => pur w && Jq ws
end
noncomputable def Qda : MO → Bool
  | .lst ws => Jq ws
  | .dic kvs => Jq (kvs.map (·.2))
  | .dct kvs => Jq (kvs.map (·.2))
mutual
noncomputable def th (f : Nat → Option W) : W → Option W
  | .tup ws => (ths f ws).map .tup
  | .lst ws => (ths f ws).map .lst
  | .frz ws => (ths f ws).map .frz
  | .ref j => f j
  | w => some w
noncomputable def ths (f : Nat → Option W) : List W → Option (List W)
  | [] => some []
  | w :: ws => (th f w).bind fun x => (ths f ws).map (x :: ·)
end
noncomputable def thO (f : Nat → Option W) : MO → Option MO
  | .lst ws => (ths f ws).map .lst
  | .dic kvs => (ths f (kvs.map (·.2))).map fun vs => .dic ((kvs.map (·.1)).zip vs)
  | .dct kvs => (ths f (kvs.map (·.2))).map fun vs => .dct ((kvs.map (·.1)).zip vs)
noncomputable def res (kp : Nat → Option Nat) (g : MH) : Nat → Nat → Option W
  | 0, j => (kp j).map .ref
  | d + 1, j => match kp j with
    | some n => some (.ref n)
    | none => match g[j]? with
      | some (.lst ws) => (ths (res kp g d) ws).map .lst
      | _ => none
noncomputable def Yh (ns js : List Nat) (N j : Nat) : Option Nat := match ns[j]? with
  | some n => some n
  | none => (js.findIdx? (· == j)).map (N + ·)
noncomputable def Xj : Nat → List W → Option (List W × List Nat)
  | _, [] => some ([], [])
  | k, .ref n :: ws => (Xj (k + 1) ws).map fun p => (.ref k :: p.1, n :: p.2)
  | k, w :: ws => if pur w then (Xj k ws).map fun p => (w :: p.1, p.2) else none
noncomputable def QW : List Nat → List MO → MH → MH
  | n :: ns, o :: os, h => QW ns os (h.set n o)
  | _, _, h => h
noncomputable def Qbo (h : MH) (n : Nat) : Option MO := match h[n]? with | some o => if Qda o then some o else none | none => none
noncomputable def QdV (fr : W → List Nat) (m : FM) (as : List W) (ns : List Nat) (h : MH) : Option (W × MH) :=
  if ns.Nodup then (Ji (Qbo h) ns).bind fun h0 => (m as h0).bind fun p =>
    if (fr p.1).Nodup ∧ (∀ j ∈ fr p.1, ns.length ≤ j) then
      (th (res (Yh ns (fr p.1) h.length) p.2 3) p.1).bind fun w =>
      (Ji (fun j => (p.2[j]?).bind (thO (res (Yh ns (fr p.1) h.length) p.2 3))) (List.range ns.length)).bind fun os =>
      (Ji (fun j => (p.2[j]?).bind (thO (res (Yh ns (fr p.1) h.length) p.2 3))) (fr p.1)).map fun us =>
      (w, QW ns os h ++ us)
    else none
  else none
noncomputable def box (fr : W → List Nat) (m : FM) : FM := fun ws h => (Xj 0 ws).bind fun a => QdV fr m a.1 a.2 h
section
variable {K : PySem.W.Frag} {R R' : Rn}
mutual
theorem Rw.pur_mono (hf : ∀ a o, R.F a = some o → R'.F a = some o) : ∀ (w : W) (v : V), pur w = true → Rw K R w v → Rw K R' w v
  | .non, _, _, h => by unfold Rw at h ⊢; exact h
  | .bl _, _, _, h => by unfold Rw at h ⊢; exact h
  | .int _, _, _, h => by unfold Rw at h ⊢; exact h
  | .str _, _, _, h => by unfold Rw at h ⊢; exact h
  | .ty _, _, _, h => by unfold Rw at h ⊢; exact h
  | .tup ws, _, p, h => by
    unfold Rw at h ⊢
    obtain ⟨a, xs, e1, e2, e3⟩ := h
    exact ⟨a, xs, e1, J3 hf e2, Rws.pur_mono hf ws xs (by unfold pur at p; exact p) e3⟩
  | .lst ws, _, p, h => by
    unfold Rw at h ⊢
    obtain ⟨a, xs, e1, e2, e3⟩ := h
    exact ⟨a, xs, e1, hf a _ e2, Rws.pur_mono hf ws xs (by unfold pur at p; exact p) e3⟩
  | .frz ws, _, p, h => by
    unfold Rw at h ⊢
    obtain ⟨a, xs, e1, e2, e3⟩ := h
    exact ⟨a, xs, e1, Zn hf e2, Rws.pur_mono hf ws xs (by unfold pur at p; exact p) e3⟩
  | .ref n, _, p, h => by unfold pur at p; cases p
theorem Rws.pur_mono (hf : ∀ a o, R.F a = some o → R'.F a = some o) : ∀ (ws : List W) (vs : List V), Jq ws = true → Rws K R ws vs → Rws K R' ws vs
  | [], _, _, h => by unfold Rws at h ⊢; exact h
  | w :: ws, _, p, h => by
    unfold Rws at h ⊢
    obtain ⟨v, vs', e1, e2, e3⟩ := h
    unfold Jq at p
    rw [Bool.and_eq_true] at p
    exact ⟨v, vs', e1, Rw.pur_mono hf w v p.1 e2, Rws.pur_mono hf ws vs' p.2 e3⟩
end
mutual
theorem Rw.th_ok {f : Nat → Option W} (hf : ∀ a o, R.F a = some o → R'.F a = some o) (hr : ∀ j v w, Rw K R (.ref j) v → f j = some w → Rw K R' w v) : ∀ (w : W) (v : V) (w' : W), th f w = some w' → Rw K R w v → Rw K R' w' v
  | .non, _, _, e, h => by unfold th at e; cases e; unfold Rw at h ⊢; exact h
  | .bl _, _, _, e, h => by unfold th at e; cases e; unfold Rw at h ⊢; exact h
  | .int _, _, _, e, h => by unfold th at e; cases e; unfold Rw at h ⊢; exact h
  | .str _, _, _, e, h => by unfold th at e; cases e; unfold Rw at h ⊢; exact h
  | .ty _, _, _, e, h => by unfold th at e; cases e; unfold Rw at h ⊢; exact h
  | .tup ws, _, _, e, h => by
    unfold th at e
    obtain ⟨us, h1, h2⟩ := Option.map_eq_some_iff.mp e
    subst h2
    unfold Rw at h ⊢
    obtain ⟨a, xs, e1, e2, e3⟩ := h
    exact ⟨a, xs, e1, J3 hf e2, Rws.th_ok hf hr ws xs us h1 e3⟩
  | .lst ws, _, _, e, h => by
    unfold th at e
    obtain ⟨us, h1, h2⟩ := Option.map_eq_some_iff.mp e
    subst h2
    unfold Rw at h ⊢
    obtain ⟨a, xs, e1, e2, e3⟩ := h
    exact ⟨a, xs, e1, hf a _ e2, Rws.th_ok hf hr ws xs us h1 e3⟩
  | .frz ws, _, _, e, h => by
    unfold th at e
    obtain ⟨us, h1, h2⟩ := Option.map_eq_some_iff.mp e
    subst h2
    unfold Rw at h ⊢
    obtain ⟨a, xs, e1, e2, e3⟩ := h
    exact ⟨a, xs, e1, Zn hf e2, Rws.th_ok hf hr ws xs us h1 e3⟩
  | .ref n, v, w', e, h => by unfold th at e; exact hr n v w' h e
theorem Rws.th_ok {f : Nat → Option W} (hf : ∀ a o, R.F a = some o → R'.F a = some o) (hr : ∀ j v w, Rw K R (.ref j) v → f j = some w → Rw K R' w v) : ∀ (ws : List W) (vs : List V) (ws' : List W), ths f ws = some ws' → Rws K R ws vs → Rws K R' ws' vs
  | [], _, _, e, h => by unfold ths at e; cases e; unfold Rws at h ⊢; exact h
  | w :: ws, _, _, e, h => by
    unfold ths at e
    obtain ⟨x, h1, h2⟩ := Option.bind_eq_some_iff.mp e
    obtain ⟨us, h3, h4⟩ := Option.map_eq_some_iff.mp h2
    subst h4
    unfold Rws at h
    obtain ⟨v, vs', e1, e2, e3⟩ := h
    subst e1
    exact Rws.cons (Rw.th_ok hf hr w v x h1 e2) (Rws.th_ok hf hr ws vs' us h3 e3)
end
theorem DicR.vals : ∀ {kvs : List (Key × W)} {kx : List (Key × V)}, Paired (fun p q => p.1 = q.1 ∧ Rw K R p.2 q.2) kvs kx → Rws K R (kvs.map (·.2)) (kx.map (·.2)) ∧ kvs.map (·.1) = kx.map (·.1)
  | _, _, .nil => ⟨Rws.nil, rfl⟩
  | _, _, .cons h t => by
    obtain ⟨a, b⟩ := DicR.vals t
    exact ⟨Rws.cons h.2 a, by rw [List.map_cons, List.map_cons, b, h.1]⟩
theorem DicR.zip : ∀ {ks : List Key} {kx : List (Key × V)} {us : List W}, ks = kx.map (·.1) → Rws K R us (kx.map (·.2)) → Paired (fun p q => p.1 = q.1 ∧ Rw K R p.2 q.2) (ks.zip us) kx
  | _, [], us, e, h => by
    subst e
    exact .nil
  | _, q :: kx, us, e, h => by
    subst e
    rw [List.map_cons] at h
    cases us with
    | nil => rw [Rws.nil_iff] at h; cases h
    | cons u us =>
      rw [Rws.cons_iff] at h
      obtain ⟨v, vs, e1, e2, e3⟩ := h
      cases e1
      exact .cons ⟨rfl, e2⟩ (DicR.zip rfl e3)
theorem Ui : ∀ (n : Nat) (w : W) (k : Tr), YG n w = some k → pur w = true
  | 0, _, _, e => by simp [YG] at e
  | n + 1, w, k, e => by
    cases w with
    | tup ws =>
      simp only [YG] at e
      obtain ⟨ks, e1, hk⟩ := Option.map_eq_some_iff.mp e
      unfold pur
      clear e hk
      induction ws generalizing ks with
      | nil => rfl
      | cons x ws ih =>
        rw [List.mapM_cons] at e1
        obtain ⟨k1, h1, e2⟩ := Option.bind_eq_some_iff.mp e1
        obtain ⟨ks1, h2, _⟩ := Option.bind_eq_some_iff.mp e2
        unfold Jq
        rw [Ui n x k1 h1, ih ks1 h2]; rfl
    | lst ws => simp [YG] at e
    | frz ws => simp [YG] at e
    | ref j => simp [YG] at e
    | _ => rfl
theorem GM {w : W} {k : Tr} (e : nrm w = some k) : pur w = true := by
  cases w with
  | tup ws => exact Ui 8 _ k e
  | _ => cases e
theorem DctR.vals : ∀ {kvs : List (W × W)} {kx : List (Tr × Addr × V)}, Paired (fun p q => Rw K R p.1 (.ref q.2.1) ∧ nrm p.1 = some q.1 ∧ Rw K R p.2 q.2.2) kvs kx → Rws K R (kvs.map (·.2)) (kx.map (·.2.2)) ∧ Paired (fun p q => Rw K R p (.ref q.2.1) ∧ nrm p = some q.1) (kvs.map (·.1)) kx
  | _, _, .nil => ⟨Rws.nil, .nil⟩
  | _, _, .cons h t => by
    obtain ⟨a, b⟩ := DctR.vals t
    exact ⟨Rws.cons h.2.2 a, .cons ⟨h.1, h.2.1⟩ b⟩
theorem DctR.zip : ∀ {ks : List W} {kx : List (Tr × Addr × V)} {us : List W}, Paired (fun p q => Rw K R p (.ref q.2.1) ∧ nrm p = some q.1) ks kx → Rws K R us (kx.map (·.2.2)) → Paired (fun p q => Rw K R p.1 (.ref q.2.1) ∧ nrm p.1 = some q.1 ∧ Rw K R p.2 q.2.2) (ks.zip us) kx
  | _, [], us, .nil, h => .nil
  | _, q :: kx, us, .cons e t, h => by
    rw [List.map_cons] at h
    cases us with
    | nil => rw [Rws.nil_iff] at h; cases h
    | cons u us =>
      rw [Rws.cons_iff] at h
      obtain ⟨v, vs, e1, e2, e3⟩ := h
      cases e1
      exact .cons ⟨e.1, e.2, e2⟩ (DctR.zip t e3)
theorem Up {f : Nat → Option W} (hf : ∀ a o, R.F a = some o → R'.F a = some o) (hr : ∀ j v w, Rw K R (.ref j) v → f j = some w → Rw K R' w v) {o o' : MO} {u : Option HO} (e : thO f o = some o') (h : Ro K R o u) : Ro K R' o' u := by
  cases o with
  | lst ws =>
    unfold thO at e
    obtain ⟨us, h1, h2⟩ := Option.map_eq_some_iff.mp e
    subst h2
    obtain ⟨xs, e1, e2⟩ := h
    exact ⟨xs, e1, Rws.th_ok hf hr ws xs us h1 e2⟩
  | dic kvs =>
    unfold thO at e
    obtain ⟨us, h1, h2⟩ := Option.map_eq_some_iff.mp e
    subst h2
    obtain ⟨kx, e1, e2⟩ := h
    obtain ⟨a, b⟩ := DicR.vals e2
    exact ⟨kx, e1, DicR.zip b (Rws.th_ok hf hr _ _ us h1 a)⟩
  | dct kvs =>
    unfold thO at e
    obtain ⟨us, h1, h2⟩ := Option.map_eq_some_iff.mp e
    subst h2
    obtain ⟨kx, e1, e2⟩ := h
    obtain ⟨a, b⟩ := DctR.vals e2
    exact ⟨kx, e1, DctR.zip (Paired.mapP b fun p q z => ⟨Rw.pur_mono hf _ _ (GM z.2) z.1, z.2⟩) (Rws.th_ok hf hr _ _ us h1 a)⟩
theorem WR (hf : ∀ a o, R.F a = some o → R'.F a = some o) {o : MO} {u : Option HO} (p : Qda o = true) (h : Ro K R o u) : Ro K R' o u := by
  cases o with
  | lst ws =>
    obtain ⟨xs, e1, e2⟩ := h
    exact ⟨xs, e1, Rws.pur_mono hf ws xs p e2⟩
  | dic kvs =>
    obtain ⟨kx, e1, e2⟩ := h
    refine ⟨kx, e1, ?_⟩
    have p' : Jq (kvs.map (·.2)) = true := p
    clear p e1
    revert p'
    induction e2 with
    | nil => exact fun _ => .nil
    | cons h t ih =>
      intro p'
      rw [List.map_cons] at p'
      unfold Jq at p'
      rw [Bool.and_eq_true] at p'
      exact .cons ⟨h.1, Rw.pur_mono hf _ _ p'.1 h.2⟩ (ih p'.2)
  | dct kvs =>
    obtain ⟨kx, e1, e2⟩ := h
    refine ⟨kx, e1, ?_⟩
    have p' : Jq (kvs.map (·.2)) = true := p
    clear p e1
    revert p'
    induction e2 with
    | nil => exact fun _ => .nil
    | cons h t ih =>
      intro p'
      rw [List.map_cons] at p'
      unfold Jq at p'
      rw [Bool.and_eq_true] at p'
      exact .cons ⟨Rw.pur_mono hf _ _ (GM h.2.1) h.1, h.2.1, Rw.pur_mono hf _ _ p'.1 h.2.2⟩ (ih p'.2)
theorem Wv {R0 : Rn} (hf : ∀ a o, R.F a = some o → R0.F a = some o) {all : List Nat} (hρ : ∀ (i n : Nat), all[i]? = some n → i < R0.N ∧ R0.ρ i = R.ρ n) : ∀ {ws : List W} {vs : List V} {pre : List Nat} {as : List W} {ns : List Nat}, Xj pre.length ws = some (as, ns) → all = pre ++ ns → Rws K R ws vs → Rws K R0 as vs
  | [], vs, pre, as, ns, e, ha, h => by
    unfold Xj at e; cases e
    rw [Rws.nil_iff] at h; subst h
    exact Rws.nil
  | w :: ws, vs, pre, as, ns, e, ha, h => by
    rw [Rws.cons_iff] at h
    obtain ⟨v, vs', rfl, h1, h2⟩ := h
    by_cases hw : ∃ n, w = .ref n
    · obtain ⟨n, rfl⟩ := hw
      unfold Xj at e
      obtain ⟨⟨as', ns'⟩, e1, e2⟩ := Option.map_eq_some_iff.mp e
      cases e2
      refine Rws.cons ?_ (Wv hf hρ (pre := pre ++ [n]) (ns := ns') (by rw [List.length_append]; exact e1) (by rw [ha]; simp) h2)
      obtain ⟨z1, z2⟩ := hρ pre.length n (by rw [ha]; simp)
      unfold Rw at h1 ⊢
      exact ⟨z1, by rw [z2]; exact h1.2⟩
    · have e' : (if pur w then (Xj pre.length ws).map fun p => (w :: p.1, p.2) else none) = some (as, ns) := by
        rw [← e]
        cases w <;> first | (exact absurd ⟨_, rfl⟩ hw) | (conv => rhs; unfold Xj)
      split at e'
      · rename_i hp
        obtain ⟨⟨as', ns'⟩, e1, e2⟩ := Option.map_eq_some_iff.mp e'
        cases e2
        exact Rws.cons (Rw.pur_mono hf w v hp h1) (Wv hf hρ e1 ha h2)
      · cases e'
theorem Z4 : ∀ (ns : List Nat) (os : List MO) (h : MH), (QW ns os h).length = h.length
  | [], _, h => by unfold QW; rfl
  | _ :: _, [], h => by unfold QW; rfl
  | n :: ns, o :: os, h => by unfold QW; rw [Z4 ns os, List.length_set]
theorem VG : ∀ (ns : List Nat) (os : List MO) (h : MH) (n : Nat), n ∉ ns → (QW ns os h)[n]? = h[n]?
  | [], _, h, n, _ => by unfold QW; rfl
  | _ :: _, [], h, n, _ => by unfold QW; rfl
  | m :: ns, o :: os, h, n, hn => by
    unfold QW
    rw [VG ns os _ n (fun z => hn (List.mem_cons_of_mem _ z)), List.getElem?_set_ne (fun z => hn (by rw [z]; exact List.mem_cons_self))]
theorem KG : ∀ (ns : List Nat) (os : List MO) (h : MH) (i n : Nat), ns.Nodup → ns.length = os.length → ns[i]? = some n → n < h.length → (QW ns os h)[n]? = os[i]?
  | [], _, h, i, n, _, _, e, _ => by simp at e
  | m :: ns, [], h, i, n, _, hl, _, _ => by simp at hl
  | m :: ns, o :: os, h, 0, n, hd, hl, e, hn => by
    simp at e; subst e
    unfold QW
    rw [VG ns os _ m (List.nodup_cons.mp hd).1, List.getElem?_set_self hn]; rfl
  | m :: ns, o :: os, h, i + 1, n, hd, hl, e, hn => by
    unfold QW
    rw [KG ns os (h.set m o) i n (List.nodup_cons.mp hd).2 (by simpa using hl) (by simpa using e) (by rw [List.length_set]; exact hn)]
    simp
end
end Mi

namespace Mi
open PySem PySem.Spec PyProof.Rows L2
theorem YA : ∀ {ws : List W} {k : Nat} {as : List W} {ns : List Nat}, Xj k ws = some (as, ns) → as.length = ws.length
  | [], k, as, ns, e => by unfold Xj at e; cases e; rfl
  | w :: ws, k, as, ns, e => by
    cases w <;> unfold Xj at e <;> first
      | (obtain ⟨⟨as', ns'⟩, e1, e2⟩ := Option.map_eq_some_iff.mp e
         cases e2
         simp [YA e1])
      | (split at e
         · obtain ⟨⟨as', ns'⟩, e1, e2⟩ := Option.map_eq_some_iff.mp e
           cases e2
           simp [YA e1]
         · cases e)
theorem YO {js : List Nat} {j i : Nat} (e : js.findIdx? (· == j) = some i) : js[i]? = some j := by
  rw [List.findIdx?_eq_some_iff_getElem] at e
  obtain ⟨h, h1, _⟩ := e
  rw [List.getElem?_eq_getElem h]
  simp at h1
  rw [h1]
theorem Y5 {js : List Nat} {j : Nat} (e : js.findIdx? (· == j) = none) : j ∉ js := by
  rw [List.findIdx?_eq_none_iff] at e
  intro z
  have := e j z
  simp at this
theorem Qay {h : MH} {n : Nat} {o : MO} (e : Qbo h n = some o) : h[n]? = some o ∧ Qda o = true := by
  unfold Qbo at e
  split at e
  · rename_i o' h'
    split at e
    · rename_i hp; cases e; exact ⟨h', hp⟩
    · cases e
  · cases e
theorem YK {js : List Nat} (h : js.Nodup) {i i' j : Nat} (e : js[i]? = some j) (e' : js[i']? = some j) : i = i' :=
  (List.getElem?_inj (List.getElem?_eq_some_iff.mp e).1 h).mp (e.trans e'.symm)
section
variable {K : PySem.W.Frag}
open Classical in
theorem QeQ {n : Nat} {fr : W → List Nat} {m : FM} {vs : List V} {H : Hp} {Q : VK} {E : XK} (q : spM K n (box fr m) vs H Q E) : spM K n m vs H Q E := by
  obtain ⟨R, ws, h, wx, h2, hl, rh, rws, e, k⟩ := q
  unfold box at e
  obtain ⟨⟨as, ns⟩, e1, e2⟩ := Option.bind_eq_some_iff.mp e
  unfold QdV at e2
  split at e2
  case isFalse => cases e2
  rename_i hd
  obtain ⟨h0, e3, e4⟩ := Option.bind_eq_some_iff.mp e2
  obtain ⟨⟨w, g⟩, e5, e6⟩ := Option.bind_eq_some_iff.mp e4
  dsimp only at e6
  split at e6
  case isFalse => cases e6
  rename_i hj
  obtain ⟨hjd, hjk⟩ := hj
  obtain ⟨wy, e7, e8⟩ := Option.bind_eq_some_iff.mp e6
  obtain ⟨os, e9, e10⟩ := Option.bind_eq_some_iff.mp e8
  obtain ⟨us, e11, e12⟩ := Option.map_eq_some_iff.mp e10
  cases e12
  generalize hjs : fr w = js at *
  have hns : ∀ (i x : Nat), ns[i]? = some x → x < R.N ∧ ∃ o, h[x]? = some o ∧ h0[i]? = some o ∧ Qda o = true := fun i x hx => by
    obtain ⟨o, z1, z2⟩ := (QN e3).2 i x hx
    obtain ⟨z3, z4⟩ := Qay z2
    exact ⟨by rw [rh.len]; exact (List.getElem?_eq_some_iff.mp z3).1, o, z3, z1, z4⟩
  have hmem : ∀ x, x ∈ ns → ∃ i : Nat, ns[i]? = some x := fun x hx => List.mem_iff_getElem?.mp hx
  let R0 : Rn := { ρ := fun i => R.ρ (ns.getD i 0), N := ns.length, F := R.F, G := fun a => if ∃ x, x < R.N ∧ x ∉ ns ∧ R.ρ x = a then H a else R.G a }
  have hρ : ∀ (i x : Nat), ns[i]? = some x → i < R0.N ∧ R0.ρ i = R.ρ x := fun i x hx => by
    refine ⟨(List.getElem?_eq_some_iff.mp hx).1, ?_⟩
    show R.ρ (ns.getD i 0) = _
    rw [List.getD_eq_getElem?_getD, hx]; rfl
  have hat : ∀ i : Nat, i < ns.length → ∃ x, ns[i]? = some x := fun i hi => ⟨ns[i], List.getElem?_eq_getElem hi⟩
  have hGo : ∀ x, x < R.N → x ∉ ns → R0.G (R.ρ x) = H (R.ρ x) := fun x hx hn => if_pos ⟨x, hx, hn, rfl⟩
  have hGs : ∀ a o, R.G a = some o → R0.G a = some o := fun a o z => by
    show (if ∃ x, x < R.N ∧ x ∉ ns ∧ R.ρ x = a then H a else R.G a) = some o
    split
    · exact rh.gsub a o z
    · exact z
  have rh0 : Rh K R0 h0 H := by
    refine ⟨(QN e3).1, rh.sub, fun i hi => ?_, fun i j hi hj ee => ?_, fun i o hi => ?_, fun a o ha => ?_, fun i hi => ?_, fun a o ha => ?_⟩
    · obtain ⟨x, hx⟩ := hat i hi
      rw [(hρ i x hx).2]
      exact rh.sep x (hns i x hx).1
    · obtain ⟨x, hx⟩ := hat i hi
      obtain ⟨y, hy⟩ := hat j hj
      rw [(hρ i x hx).2, (hρ j y hy).2] at ee
      have := rh.inj x y (hns i x hx).1 (hns j y hy).1 ee
      subst this
      exact YK hd hx hy
    · have hi' : i < ns.length := by rw [(QN e3).1]; exact (List.getElem?_eq_some_iff.mp hi).1
      obtain ⟨x, hx⟩ := hat i hi'
      obtain ⟨_, o', z1, z2, z3⟩ := hns i x hx
      rw [hi] at z2; cases z2
      rw [(hρ i x hx).2]
      exact WR (R := R) (R' := R0) (fun _ _ z => z) z3 (rh.obj x o z1)
    · have ha' : (if ∃ x, x < R.N ∧ x ∉ ns ∧ R.ρ x = a then H a else R.G a) = some o := ha
      split at ha'
      · exact ha'
      · exact rh.gsub a o ha'
    · obtain ⟨x, hx⟩ := hat i hi
      rw [(hρ i x hx).2]
      show (if ∃ y, y < R.N ∧ y ∉ ns ∧ R.ρ y = R.ρ x then H (R.ρ x) else R.G (R.ρ x)) = none
      rw [if_neg]
      · exact rh.gsep x (hns i x hx).1
      · rintro ⟨y, hy, hyn, ey⟩
        have := rh.inj y x hy (hns i x hx).1 ey
        subst this
        exact hyn (List.mem_iff_getElem?.mpr ⟨i, hx⟩)
    · have ha' : (if ∃ x, x < R.N ∧ x ∉ ns ∧ R.ρ x = a then H a else R.G a) = some o := ha
      split at ha'
      · rename_i hx
        obtain ⟨x, hx, _, rfl⟩ := hx
        exact rh.sep x hx
      · exact rh.gf a o ha'
  refine ⟨R0, as, h0, w, g, (YA e1).trans hl, rh0, Wv (R := R) (R0 := R0) (pre := []) (fun _ _ z => z) hρ e1 rfl rws, e5, fun R1 H1 v x1 rh1 rv => ?_⟩
  have hG1 : R1.G = R0.G := x1.g
  have hρ1 : ∀ (i x : Nat), ns[i]? = some x → i < R1.N ∧ R1.ρ i = R.ρ x := fun i x hx => by
    obtain ⟨z1, z2⟩ := hρ i x hx
    exact ⟨Nat.lt_of_lt_of_le z1 x1.n, (x1.ρ i z1).trans z2⟩
  have hj1 : ∀ (i j : Nat), js[i]? = some j → ns.length ≤ j ∧ j < R1.N ∧ ∃ o u, us[i]? = some u ∧ g[j]? = some o ∧ thO (res (Yh ns js h.length) g 3) o = some u := fun i j hij => by
    obtain ⟨u, z1, z2⟩ := (QN e11).2 i j hij
    obtain ⟨o, z3, z4⟩ := Option.bind_eq_some_iff.mp z2
    exact ⟨hjk j (List.mem_iff_getElem?.mpr ⟨i, hij⟩), by rw [rh1.len]; exact (List.getElem?_eq_some_iff.mp z3).1, o, u, z1, z3, z4⟩
  have hapart : ∀ x, x < R.N → ∀ j, ns.length ≤ j → j < R1.N → R1.ρ j ≠ R.ρ x := fun x hx j hj hjn ee => by
    by_cases hm : x ∈ ns
    · obtain ⟨i, hi⟩ := hmem x hm
      obtain ⟨z1, z2⟩ := hρ1 i x hi
      have := rh1.inj j i hjn z1 (ee.trans z2.symm)
      have := (List.getElem?_eq_some_iff.mp hi).1
      omega
    · have z := rh1.gsep j hjn
      rw [hG1, ee, hGo x hx hm] at z
      obtain ⟨_, u, _, hu⟩ := rh.there hx
      rw [hu] at z; cases z
  let R2 : Rn := { ρ := fun n => if n < R.N then R.ρ n else R1.ρ (js.getD (n - R.N) 0), N := R.N + js.length, F := fun a => match R1.F a with | some o => some o | none => if ∃ j, ns.length ≤ j ∧ j < R1.N ∧ j ∉ js ∧ R1.ρ j = a then H1 a else none, G := R.G }
  have r2lo : ∀ x, x < R.N → R2.ρ x = R.ρ x := fun x hx => if_pos hx
  have r2hi : ∀ (i j : Nat), js[i]? = some j → R2.ρ (R.N + i) = R1.ρ j := fun i j hij => by
    show (if R.N + i < R.N then R.ρ (R.N + i) else R1.ρ (js.getD (R.N + i - R.N) 0)) = _
    rw [if_neg (by omega), Nat.add_sub_cancel_left, List.getD_eq_getElem?_getD, hij]; rfl
  have f1 : ∀ a o, R1.F a = some o → R2.F a = some o := fun a o z => by
    show (match R1.F a with | some o => some o | none => if ∃ j, ns.length ≤ j ∧ j < R1.N ∧ j ∉ js ∧ R1.ρ j = a then H1 a else none) = some o
    rw [z]
  have fnone : ∀ a, R1.F a = none → (¬ ∃ j, ns.length ≤ j ∧ j < R1.N ∧ j ∉ js ∧ R1.ρ j = a) → R2.F a = none := fun a z1 z2 => by
    show (match R1.F a with | some o => some o | none => if ∃ j, ns.length ≤ j ∧ j < R1.N ∧ j ∉ js ∧ R1.ρ j = a then H1 a else none) = none
    rw [z1]; exact if_neg z2
  have fnew : ∀ j, ns.length ≤ j → j < R1.N → j ∉ js → R2.F (R1.ρ j) = H1 (R1.ρ j) := fun j a b c => by
    show (match R1.F (R1.ρ j) with | some o => some o | none => if ∃ j', ns.length ≤ j' ∧ j' < R1.N ∧ j' ∉ js ∧ R1.ρ j' = R1.ρ j then H1 (R1.ρ j) else none) = _
    rw [rh1.sep j b]; exact if_pos ⟨j, a, b, c, rfl⟩
  have hx2 : Ext R R2 := ⟨Nat.le_add_right _ _, fun x hx => r2lo x hx, fun a o z => f1 a o (x1.f a o z), rfl⟩
  have split2 : ∀ x, x < R2.N → x < R.N ∨ ∃ i j : Nat, x = R.N + i ∧ js[i]? = some j := fun x hx => by
    have hx' : x < R.N + js.length := hx
    by_cases z : x < R.N
    · exact .inl z
    · exact .inr ⟨x - R.N, js[x - R.N]'(by omega), by omega, List.getElem?_eq_getElem (by omega)⟩
  have hr : ∀ d j v w, Rw K R1 (.ref j) v → res (Yh ns js h.length) g d j = some w → Rw K R2 w v := by
    have kp_ok : ∀ j v x, Rw K R1 (.ref j) v → Yh ns js h.length j = some x → Rw K R2 (.ref x) v := fun j v x r z => by
      unfold Rw at r ⊢
      unfold Yh at z
      split at z
      · rename_i y hy
        cases z
        obtain ⟨z1, z2⟩ := hρ1 j x hy
        have hxn := (hns j x hy).1
        exact ⟨Nat.lt_of_lt_of_le hxn hx2.n, by rw [r2lo x hxn, ← z2]; exact r.2⟩
      · obtain ⟨i, z1, z2⟩ := Option.map_eq_some_iff.mp z
        have hij := YO z1
        subst z2
        rw [← rh.len, r2hi i j hij]
        exact ⟨Nat.add_lt_add_left (List.getElem?_eq_some_iff.mp hij).1 _, r.2⟩
    intro d
    induction d with
    | zero =>
      intro j v w r z
      unfold res at z
      obtain ⟨x, z1, z2⟩ := Option.map_eq_some_iff.mp z
      subst z2
      exact kp_ok j v x r z1
    | succ d ih =>
      intro j v w r z
      unfold res at z
      split at z
      · rename_i x hx
        cases z
        exact kp_ok j v x r hx
      · rename_i hnone
        split at z
        · rename_i ws' hg
          obtain ⟨us', z1, z2⟩ := Option.map_eq_some_iff.mp z
          subst z2
          obtain ⟨xs, o1, o2⟩ := rh1.obj j _ hg
          have hr1 : j < R1.N ∧ v = .ref (R1.ρ j) := by unfold Rw at r; exact r
          unfold Yh at hnone
          split at hnone
          · cases hnone
          · rename_i hnj
            have hnj' : j ∉ js := Y5 (by simpa using hnone)
            unfold Rw
            refine ⟨R1.ρ j, xs, hr1.2, ?_, Rws.th_ok f1 ih ws' xs us' z1 o2⟩
            rw [fnew j (List.getElem?_eq_none_iff.mp hnj) hr1.1 hnj']
            exact o1
        · cases z
  refine k R2 H1 v hx2 ⟨?_, fun a o ha => ?_, fun x hx => ?_, fun x y hx hy ee => ?_, fun x o hx => ?_, fun a o ha => ?_, fun x hx => ?_, fun a o ha => ?_⟩ (Rw.th_ok f1 (hr 3) w v _ e7 rv)
  · show R.N + js.length = _
    rw [List.length_append, Z4, ← (QN e11).1, rh.len]
  · have ha' : (match R1.F a with | some o => some o | none => if ∃ j, ns.length ≤ j ∧ j < R1.N ∧ j ∉ js ∧ R1.ρ j = a then H1 a else none) = some o := ha
    split at ha'
    · rename_i o' ho'
      cases ha'
      exact rh1.sub a _ ho'
    · split at ha'
      · exact ha'
      · cases ha'
  · rcases split2 x hx with hx | ⟨i, j, rfl, hij⟩
    · rw [r2lo x hx]
      refine fnone _ ?_ (fun ⟨j, a, b, _, c⟩ => hapart x hx j a b c)
      by_cases hm : x ∈ ns
      · obtain ⟨i, hi⟩ := hmem x hm
        obtain ⟨z1, z2⟩ := hρ1 i x hi
        rw [← z2]; exact rh1.sep i z1
      · obtain ⟨_, u, _, hu⟩ := rh.there hx
        exact rh1.gf _ u (by rw [hG1, hGo x hx hm]; exact hu)
    · obtain ⟨z1, z2, _⟩ := hj1 i j hij
      rw [r2hi i j hij]
      refine fnone _ (rh1.sep j z2) (fun ⟨j', a, b, c, d⟩ => ?_)
      have := rh1.inj j' j b z2 d
      subst this
      exact c (List.mem_iff_getElem?.mpr ⟨i, hij⟩)
  · rcases split2 x hx with hx | ⟨i, j, rfl, hij⟩ <;> rcases split2 y hy with hy | ⟨i', j', rfl, hij'⟩
    · rw [r2lo x hx, r2lo y hy] at ee; exact rh.inj x y hx hy ee
    · rw [r2lo x hx, r2hi i' j' hij'] at ee
      obtain ⟨z1, z2, _⟩ := hj1 i' j' hij'
      exact absurd ee.symm (hapart x hx j' z1 z2)
    · rw [r2lo y hy, r2hi i j hij] at ee
      obtain ⟨z1, z2, _⟩ := hj1 i j hij
      exact absurd ee (hapart y hy j z1 z2)
    · rw [r2hi i j hij, r2hi i' j' hij'] at ee
      obtain ⟨_, z2, _⟩ := hj1 i j hij
      obtain ⟨_, z2', _⟩ := hj1 i' j' hij'
      have := rh1.inj j j' z2 z2' ee
      subst this
      rw [YK hjd hij hij']
  · have hx' : x < R2.N := by
      have := (List.getElem?_eq_some_iff.mp hx).1
      rw [List.length_append, Z4, ← (QN e11).1, ← rh.len] at this
      exact this
    rcases split2 x hx' with hn | ⟨i, j, rfl, hij⟩
    · rw [List.getElem?_append_left (by rw [Z4, ← rh.len]; exact hn)] at hx
      rw [r2lo x hn]
      by_cases hm : x ∈ ns
      · obtain ⟨i, hi⟩ := hmem x hm
        obtain ⟨z1, z2⟩ := hρ1 i x hi
        have hil := (List.getElem?_eq_some_iff.mp hi).1
        rw [KG ns os h i x hd (by rw [← (QN e9).1, List.length_range]) hi (by rw [← rh.len]; exact hn)] at hx
        obtain ⟨u, y1, y2⟩ := (QN e9).2 i i (by rw [List.getElem?_range hil])
        rw [hx] at y1; cases y1
        obtain ⟨o', y3, y4⟩ := Option.bind_eq_some_iff.mp y2
        rw [← z2]
        exact Up f1 (hr 3) y4 (rh1.obj i o' y3)
      · rw [VG ns os h x hm] at hx
        obtain ⟨_, u, _, hu⟩ := rh.there hn
        have hu1 : H1 (R.ρ x) = some u := rh1.gsub _ u (by rw [hG1, hGo x hn hm]; exact hu)
        have := rh.obj x o hx
        rw [hu] at this
        rw [hu1]
        exact this.mono hx2
    · obtain ⟨z1, z2, o', u, y1, y2, y3⟩ := hj1 i j hij
      rw [List.getElem?_append_right (by rw [Z4, ← rh.len]; omega), Z4, ← rh.len, Nat.add_sub_cancel_left, y1] at hx
      cases hx
      rw [r2hi i j hij]
      exact Up f1 (hr 3) y3 (rh1.obj j o' y2)
  · exact rh1.gsub a o (by rw [hG1]; exact hGs a o ha)
  · rcases split2 x hx with hx | ⟨i, j, rfl, hij⟩
    · rw [r2lo x hx]; exact rh.gsep x hx
    · rw [r2hi i j hij]
      obtain ⟨_, z2, _⟩ := hj1 i j hij
      cases z : R2.G (R1.ρ j) with
      | none => rfl
      | some u =>
        have z3 := rh1.gsep j z2
        rw [hG1, hGs _ u z] at z3; cases z3
  · have hg : R1.G a = some o := by rw [hG1]; exact hGs a o ha
    refine fnone a (rh1.gf a o hg) (fun ⟨j, _, b, _, d⟩ => ?_)
    have z3 := rh1.gsep j b
    rw [d, hg] at z3; cases z3
theorem Cal.box {P : Program} {w : World} {mg : Str → Option Value} {base : Heap} {x : Str} {ps : List Str} {k : Nat} {g : FM} (fr : W → List Nat) (C : Cal P w K mg base k x ps g) : Cal P w K mg base k x ps (Mi.box fr g) :=
  C.imp fun _ _ _ _ q => QeQ q
end
noncomputable def frN : W → List Nat := fun _ => []
noncomputable def frR : W → List Nat
  | .ref j => [j]
  | _ => []
end Mi

namespace Mi
open PySem PySem.Spec PyProof.Rows L2
noncomputable def QbS : List Nat → List W → MSt → Option MSt
  | [], [], σ => some σ
  | i :: is, w :: ws, σ => QbS is ws (σ.set i (some w))
  | _, _, _ => none
noncomputable def KT (is : List Nat) : MG := fun w σ _ => match w with | .tup ws => QbS is ws σ | _ => none
noncomputable def U7 : List Nat → TGs
  | [] => Qim
  | i :: is => QeU (Qap i) (U7 is)
theorem K0 {X : Cx} : PGs X [] (U7 []) := QdI
theorem JS {X : Cx} {i : Nat} {x : Str} {pos : Pos} {es : List Expr} {is : List Nat} (hN : X.N.Nodup) (hi : X.N[i]? = some x) (hx : Loc X.env.scope x) (h : PGs X es (U7 is)) (hf : X.fn x = true ∨ X.env.scope.names.lookup x = some .local)
    : PGs X (.Name x pos :: es) (U7 (i :: is)) := QbJ (GA hN hi hx hf) h
theorem UB {K : PySem.W.Frag} {R : Rn} {H : Hp} {C : L2.St → Hp → Prop} : ∀ {is : List Nat} {ws : List W} {xs : List V} {σi σ1 : MSt} {σ : L2.St}, QbS is ws σi = some σ1 → Rws K R ws xs → Rst K R σi σ → (∀ σ', Rst K R σ1 σ' → C σ' H) → U7 is xs σ H C
  | [], [], xs, σi, σ1, σ, e, r, s, k => by
    cases e
    rw [Rws.nil_iff] at r
    exact ⟨r, k σ s⟩
  | i :: is, w :: ws, xs, σi, σ1, σ, e, r, s, k => by
    rw [Rws.cons_iff] at r
    obtain ⟨v, vs, rfl, r1, r2⟩ := r
    exact ⟨v, vs, rfl, UB (is := is) e r2 (s.set r1) k⟩
  | [], _ :: _, _, _, _, _, e, _, _, _ => by cases e
  | _ :: _, [], _, _, _, _, e, _, _, _ => by cases e
theorem Wu : ∀ {is : List Nat} {ws : List W} {σ σ1 : MSt}, QbS is ws σ = some σ1 → ws.length = is.length
  | [], [], _, _, _ => rfl
  | i :: is, w :: ws, σ, σ1, e => by
    have := Wu (is := is) (ws := ws) e
    simp [this]
  | [], _ :: _, _, _, e => by cases e
  | _ :: _, [], _, _, e => by cases e
theorem Yv {X : Cx} {es : List Expr} {is : List Nat} {k : Nat} {pos : Pos} (hc : X.calm = true) (h : PGs X es (U7 is)) (hn : (assignEach es X.env).length = is.length) (hs : (assignEach es X.env).findIdx? (·.1) = none) : PMG X (.Tuple es k pos) (KT is) :=
  QcM (Qf3 hc h hn hs) fun v σ H C ⟨R, σi, h, w, σ1, rh, st, rw, e, q⟩ => by
    unfold KT at e
    split at e
    · rename_i ws
      obtain ⟨ad, xs, rfl, q1, r1⟩ := rh.tupAt rw
      exact ⟨ad, xs, rfl, q1, by rw [← r1.length]; exact Wu e, UB e r1 st fun σ' s' => q R H σ' (Ext.refl _) rh s'⟩
    · cases e
noncomputable def Qf2 (ws : List W) (h : MH) : Option (W × MH) := match ws with
  | [.int i, .int j] => some (.int (if j > i then j else i), h)
  | _ => none
noncomputable def Qfg (ws : List W) (h : MH) : Option (W × MH) := match ws with
  | [.int i, .int j] => some (.int (if j < i then j else i), h)
  | _ => none
section
variable {X : Cx}
theorem Qab (hc : X.calm = true) : CallR X (.builtin "max") (Fs X.K Qf2) := by
  intro pins s σ H xs us Q I r q
  refine QaS hc pins s σ H xs us Q I r ?_
  obtain ⟨R, h, ws, w, h', rh, rw, e, k⟩ := q
  unfold Qf2 at e
  split at e
  · cases e
    obtain ⟨v, u, rfl, r1, r2⟩ := Qgf rw
    exact ⟨_, _, by rw [r1.int_eq, r2.int_eq], k R H _ (Ext.refl _) rh (Rw.int _)⟩
  · cases e
theorem Gz (hc : X.calm = true) : CallR X (.builtin "min") (Fs X.K Qfg) := by
  intro pins s σ H xs us Q I r q
  refine GG hc pins s σ H xs us Q I r ?_
  obtain ⟨R, h, ws, w, h', rh, rw, e, k⟩ := q
  unfold Qfg at e
  split at e
  · cases e
    obtain ⟨v, u, rfl, r1, r2⟩ := Qgf rw
    exact ⟨_, _, by rw [r1.int_eq, r2.int_eq], k R H _ (Ext.refl _) rh (Rw.int _)⟩
  · cases e
noncomputable def rep (x : Str) (n : Int) : Str := ⟨((List.replicate n.toNat x.cps.toList).flatten).toArray⟩
theorem YL : ∀ (l : List (Array Nat)) (a : Array Nat), l.foldl (· ++ ·) a = (a.toList ++ (l.map Array.toList).flatten).toArray
  | [], a => by simp
  | b :: l, a => by rw [List.foldl_cons, YL l]; simp
theorem QcI (x : Str) (n : Int) : (⟨(List.replicate n.toNat x.cps).foldl (· ++ ·) #[]⟩ : Str) = rep x n := by
  unfold rep
  rw [YL]
  simp
theorem Qbu (x : Str) {n : Int} (h : n < 1) : Str.empty = rep x n := by
  unfold rep
  rw [show n.toNat = 0 by omega]; rfl
theorem Qdm (x : Str) : x = rep x 1 := by
  unfold rep
  simp
theorem QcV {x : Str} (n : Int) (h : (x.length == 0) = true) : x = rep x n := by
  unfold rep
  have : x.cps = #[] := by
    have : x.cps.size = 0 := by simpa [Str.length] using h
    exact Array.eq_empty_of_size_eq_zero this
  obtain ⟨c⟩ := x
  simp at this
  subst this
  simp
noncomputable def VU (a b : W) (h : MH) : Option (W × MH) := match a, b with
  | .str x, .int n => if n < 1000 ∧ -1000 < n ∧ x.length < 1000 then some (.str (rep x n), h) else none
  | a, b => QeT a b h
theorem Qc7 : OpR X (binaryOp .Mult) (fun x y H Q => ∃ z n, x = .str z ∧ y = .int n ∧ (n < 1000 ∧ -1000 < n ∧ z.length < 1000) ∧ Q (.str (rep z n)) H) := by
  intro pins s σ H x y v u Q I rx ry ⟨z, n, e1, e2, ⟨h1, h2, h3⟩, q⟩
  subst e1 e2
  obtain ⟨t, rfl⟩ := rx
  obtain ⟨t', rfl⟩ := ry
  have hm : z.length * n.toNat < 1000000 := by
    calc z.length * n.toNat ≤ 999 * 999 := Nat.mul_le_mul (by omega) (by omega)
      _ < 1000000 := by decide
  refine PySem.P.mul_str (by rw [decide_eq_false (by omega), decide_eq_false (by omega)]; rfl) (fun a _ => ?_) (fun a _ => ?_) ?_
  · have : (2 ^ 63 - 1) / n ≥ 1000 := by
      rw [ge_iff_le, Int.le_ediv_iff_mul_le (by omega)]; omega
    omega
  · unfold Builtin.Str.tooLong
    exact decide_eq_false (by show ¬ _; have : sizeLine = 16777216 := by decide
                              omega)
  · have done : ∀ (y : Str) (tk : Tok) (s' : Shared), y = rep z n → Inv X pins σ H s' → EP X pins σ Q (.str y tk) s' := fun y tk s' ey I' => ⟨.str y, H, I', ⟨_, rfl⟩, by rw [ey]; exact q⟩
    split
    · rename_i hn
      exact ⟨by decide, done _ _ _ (Qbu z hn) (I.tok _)⟩
    · split
      · rename_i hn ho
        rw [Bool.or_eq_true] at ho
        refine done _ _ _ ?_ I
        rcases ho with ho | ho
        · have : n = 1 := by simpa using ho
          subst this; exact Qdm z
        · exact QcV n ho
      · refine ⟨?_, done _ _ _ (QcI z n) (I.tok _)⟩
        rw [QcI]
        have hl : (rep z n).length = n.toNat * z.length := by
          unfold rep Str.length
          simp
        rw [hl, Nat.mul_comm]
        have : sizeLine = 16777216 := by decide
        omega
theorem Vv : OpR X (binaryOp .Mult) (F2 X.K VU) := by
  intro pins s σ H x y v u Q I rx ry q
  obtain ⟨R, h, a, b, w, h', rh, ra, rb, e, k⟩ := q
  unfold VU at e
  split at e
  · split at e
    · rename_i hl
      cases e
      exact Qc7 pins s σ H x y v u Q I rx ry ⟨_, _, ra.str_eq, rb.int_eq, hl, k R H _ (Ext.refl _) rh (Rw.str _)⟩
    · cases e
  · exact Qc8 pins s σ H x y v u Q I rx ry ⟨R, h, a, b, w, h', rh, ra, rb, e, k⟩
end
section
variable {X : Cx} {elt tg iter c : Expr} {scope : Scope} {pos pos' spos : Pos} {cl : List (Str × Addr)} {Nb : List Str} {cp : List (Option Nat)} {mi : MI} {b : MG} {mt : MT} {me m : ME} {fin : List W → MH → Option (W × MH)} {i : Nat} {x : Str} {e : Expr}
theorem QcT {K : PySem.W.Frag} {D : L2.Ends} {σ : L2.St} {H : Hp} (q : tS K (ZF i m) D σ H) : tI K m σ H fun v H1 => Qap i v σ H1 D.nx := by
  obtain ⟨R, σi, h, r, rh, s, e, k⟩ := q
  obtain ⟨⟨w, h1⟩, e1, e2⟩ := Option.map_eq_some_iff.mp e
  cases e2
  exact ⟨R, σi, h, w, h1, rh, s, e1, fun R1 H1 v x1 rh1 rv => k R1 H1 _ x1 rh1 ((s.mono x1).set rv)⟩
theorem Wo (hN : X.N.Nodup) (hix : X.N[i]? = some x) (hx : Loc X.env.scope x) (hfn : X.fn x = true ∨ X.env.scope.names.lookup x = some .local) (hf : U6 X.K fin) (hc : X.calm = true) (B : BlkOk X scope cl Nb cp) (hi : PMI X tg iter mi) (hg : ∀ s₀ H₀ C ex pn, PMG (Mi.blk X scope cl Nb s₀ H₀ C ex pn) tg b)
    (he : ∀ s₀ H₀ C ex pn, PM (Mi.blk X scope cl Nb s₀ H₀ C ex pn) elt me) (hs : ∀ x, foldedSetIterable iter X.env x = pure x) (hsw : swapsWith (.ListComp elt [⟨tg, iter, [], 0⟩] scope pos) (some (.Name x pos')) spos.line X.env = pure true) :
    PMS X (.Assign [.Name x pos'] (.ListComp elt [⟨tg, iter, [], 0⟩] scope pos) spos) (ZF i (JU fin mi cp b WJ me)) :=
  VZ (Qel (g := tIG X.K b) (te := tI X.K me) (tt := tIT X.K WJ) hN hix hx hfn hsw hc B hi hg (fun s₀ H₀ C ex pn pins s τ H Q I q => wpAny_tests_nil (by
    obtain ⟨R, σi, h, t, h', rh, st, e, k⟩ := q
    cases e
    exact ⟨H, I, k R H (Ext.refl _) rh⟩)) he hs) fun _ _ _ q => WW hf (QcT q)
end
end Mi

namespace Mi
open PySem PySem.Spec PyProof.Rows L2
set_option checkBinderAnnotations false in
noncomputable def ob {α β : Type} [f : α → Option β] (x : Option α) : Option β := x.bind f
set_option checkBinderAnnotations false in
noncomputable def om {α β : Type} [f : α → β] (x : Option α) : Option β := x.map f
@[simp] theorem QdP {α β : Type} {a : α} {f : α → Option β} : @ob _ _ f (some a) = f a := id rfl
@[simp] theorem QhB {α β : Type} {a : α} {f : α → β} : @om _ _ f (some a) = some (f a) := id rfl
noncomputable def QgH (b : SM) : MF → Option MF
  | .nx σ h => b σ h
  | r => some r
section
variable {σ σ' : MSt} {h h' : MH} {a b : SM} {m ma mb mc : ME} {t u : MT} {ms : MA} {w x y : W} {ws : List W}
@[simp] theorem QhU : QgH b (.nx σ h) = b σ h := id rfl
@[simp] theorem Qhc : QgH b (.rt w h) = some (.rt w h) := id rfl
@[simp] theorem QjI : QQ a b σ h = @ob _ _ (QgH b) (a σ h) := by
  unfold QQ
  refine congrArg (fun f_ => @ob _ _ f_ (a σ h)) (funext fun r => ?_)
  cases r <;> rfl
@[simp] theorem Qiv : ZP σ h = some (.nx σ h) := id rfl
@[simp] theorem Qjn : Jp m σ h = @om _ _ (fun p => .rt p.1 p.2) (m σ h) := id rfl
noncomputable def onB (a b : SM) (σ : MSt) (p : Bool × MH) : Option MF := if p.1 = true then a σ p.2 else b σ p.2
@[simp] theorem QhM (c : Bool) : onB a b σ (c, h) = if c = true then a σ h else b σ h := id rfl
@[simp] theorem QgU : Vg t a b σ h = @ob _ _ (onB a b σ) (t σ h) := by
  unfold Vg
  refine congrArg (fun f_ => @ob _ _ f_ (t σ h)) (funext fun p => ?_)
  obtain ⟨c, h⟩ := p
  cases c <;> rfl
@[simp] theorem QiF : Z2 m σ h = @om _ _ (fun p => .nx σ p.2) (m σ h) := id rfl
@[simp 500] theorem Qkj {i : Nat} : ZF i m σ h = @om _ _ (fun p => .nx (σ.set i (some p.1)) p.2) (m σ h) := id rfl
@[simp] theorem Qjh {i : Nat} {f : W → W → MH → Option (W × MH)} : Qc6 i f m σ h = @ob _ _ (fun x => @ob _ _ (fun p => @om _ _ (fun q => .nx (σ.set i (some q.1)) q.2) (f x.1 p.1 p.2)) (m σ h)) (Qh i σ h) := by
  unfold Qc6 Qh
  rcases σ[i]? with _ | _ | x <;> rfl
@[simp 1100] theorem QjE {v0 x : Option W} {r : MSt} : List.set (v0 :: r) 0 x = x :: r := id rfl
@[simp 1100] theorem Qkc {v0 v1 x : Option W} {r : MSt} : List.set (v0 :: v1 :: r) 1 x = v0 :: x :: r := id rfl
@[simp 1100] theorem QjW {v0 v1 v2 x : Option W} {r : MSt} : List.set (v0 :: v1 :: v2 :: r) 2 x = v0 :: v1 :: x :: r := id rfl
@[simp 1100] theorem QjG {v0 v1 v2 v3 x : Option W} {r : MSt} : List.set (v0 :: v1 :: v2 :: v3 :: r) 3 x = v0 :: v1 :: v2 :: x :: r := id rfl
@[simp 1100] theorem QjC {v0 v1 v2 v3 v4 x : Option W} {r : MSt} : List.set (v0 :: v1 :: v2 :: v3 :: v4 :: r) 4 x = v0 :: v1 :: v2 :: v3 :: x :: r := id rfl
@[simp 1100] theorem Qj7 {v0 v1 v2 v3 v4 v5 x : Option W} {r : MSt} : List.set (v0 :: v1 :: v2 :: v3 :: v4 :: v5 :: r) 5 x = v0 :: v1 :: v2 :: v3 :: v4 :: x :: r := id rfl
@[simp 1100] theorem Qkr {v0 v1 v2 v3 v4 v5 v6 x : Option W} {r : MSt} : List.set (v0 :: v1 :: v2 :: v3 :: v4 :: v5 :: v6 :: r) 6 x = v0 :: v1 :: v2 :: v3 :: v4 :: v5 :: x :: r := id rfl
@[simp 1100] theorem QjT {v0 v1 v2 v3 v4 v5 v6 v7 x : Option W} {r : MSt} : List.set (v0 :: v1 :: v2 :: v3 :: v4 :: v5 :: v6 :: v7 :: r) 7 x = v0 :: v1 :: v2 :: v3 :: v4 :: v5 :: v6 :: x :: r := id rfl
@[simp 1100] theorem Qjs {v0 v1 v2 v3 v4 v5 v6 v7 v8 x : Option W} {r : MSt} : List.set (v0 :: v1 :: v2 :: v3 :: v4 :: v5 :: v6 :: v7 :: v8 :: r) 8 x = v0 :: v1 :: v2 :: v3 :: v4 :: v5 :: v6 :: v7 :: x :: r := id rfl
@[simp 1100] theorem Qj3 {v0 v1 v2 v3 v4 v5 v6 v7 v8 v9 x : Option W} {r : MSt} : List.set (v0 :: v1 :: v2 :: v3 :: v4 :: v5 :: v6 :: v7 :: v8 :: v9 :: r) 9 x = v0 :: v1 :: v2 :: v3 :: v4 :: v5 :: v6 :: v7 :: v8 :: x :: r := id rfl
@[simp] theorem Qga {o : W} {r : MSt} : Qh 0 (some o :: r) h = some (o, h) := id rfl
@[simp] theorem QiJ {v0 : Option W} {o : W} {r : MSt} : Qh 1 (v0 :: some o :: r) h = some (o, h) := id rfl
@[simp] theorem Qh5 {v0 v1 : Option W} {o : W} {r : MSt} : Qh 2 (v0 :: v1 :: some o :: r) h = some (o, h) := id rfl
@[simp] theorem Qig {v0 v1 v2 : Option W} {o : W} {r : MSt} : Qh 3 (v0 :: v1 :: v2 :: some o :: r) h = some (o, h) := id rfl
@[simp] theorem Qik {v0 v1 v2 v3 : Option W} {o : W} {r : MSt} : Qh 4 (v0 :: v1 :: v2 :: v3 :: some o :: r) h = some (o, h) := id rfl
@[simp] theorem QiW {v0 v1 v2 v3 v4 : Option W} {o : W} {r : MSt} : Qh 5 (v0 :: v1 :: v2 :: v3 :: v4 :: some o :: r) h = some (o, h) := id rfl
@[simp] theorem QiC {v0 v1 v2 v3 v4 v5 : Option W} {o : W} {r : MSt} : Qh 6 (v0 :: v1 :: v2 :: v3 :: v4 :: v5 :: some o :: r) h = some (o, h) := id rfl
@[simp] theorem Qh7 {v0 v1 v2 v3 v4 v5 v6 : Option W} {o : W} {r : MSt} : Qh 7 (v0 :: v1 :: v2 :: v3 :: v4 :: v5 :: v6 :: some o :: r) h = some (o, h) := id rfl
@[simp] theorem Qih {v0 v1 v2 v3 v4 v5 v6 v7 : Option W} {o : W} {r : MSt} : Qh 8 (v0 :: v1 :: v2 :: v3 :: v4 :: v5 :: v6 :: v7 :: some o :: r) h = some (o, h) := id rfl
@[simp] theorem QiO {v0 v1 v2 v3 v4 v5 v6 v7 v8 : Option W} {o : W} {r : MSt} : Qh 9 (v0 :: v1 :: v2 :: v3 :: v4 :: v5 :: v6 :: v7 :: v8 :: some o :: r) h = some (o, h) := id rfl
@[simp 400] theorem QiP {i : Nat} {o : Option W} {r : MSt} : Qh (i + 1) (o :: r) h = Qh i r h := by
  unfold Qh; rw [List.getElem?_cons_succ]
@[simp] theorem s_c : mC w σ h = some (w, h) := id rfl
@[simp 500] theorem Qhq {f : W → W → MH → Option (W × MH)} : Qo f ma mb σ h = @ob _ _ (fun p => @ob _ _ (fun q => f p.1 q.1 q.2) (mb σ p.2)) (ma σ h) := id rfl
@[simp] theorem Qkv {f : W → MH → Option (W × MH)} : mUn f ma σ h = @ob _ _ (fun p => f p.1 p.2) (ma σ h) := id rfl
@[simp] theorem Qkq {f : List W → MH → Option (W × MH)} : mFn f ms σ h = @ob _ _ (fun p => f p.1 p.2) (ms σ h) := id rfl
@[simp] theorem QiM {n : Nat} {g : FM} : Qr n g ms σ h = @ob _ _ (fun p => if p.1.length = n then g p.1 p.2 else none) (ms σ h) := id rfl
@[simp] theorem Qfs : Ql σ h = some ([], h) := id rfl
@[simp 600] theorem Qh8 {f : W → W → MH → Option (W × MH)} : Qo f ma (mC w) σ h = @ob _ _ (fun p => f p.1 w p.2) (ma σ h) := id rfl
@[simp 600] theorem QgQ : Qc (mC w) ms σ h = @ob _ _ (fun q => some (w :: q.1, q.2)) (ms σ h) := id rfl
@[simp 610] theorem QgZ : Qc m Ql σ h = @ob _ _ (fun p => some ([p.1], p.2)) (m σ h) := id rfl
@[simp 620] theorem Qgj : Qc (mC w) Ql σ h = some ([w], h) := id rfl
@[simp 600] theorem Qid {i : Nat} : ZF i (mC w) σ h = some (.nx (σ.set i (some w)) h) := id rfl
@[simp 500] theorem QcG : Qc m ms σ h = @ob _ _ (fun p => @ob _ _ (fun q => some (p.1 :: q.1, q.2)) (ms σ p.2)) (m σ h) := id rfl
noncomputable def asB (p : W × MH) : Option (Bool × MH) := match p.1 with | .bl b => some (b, p.2) | _ => none
@[simp] theorem QiD (c : Bool) : asB (.bl c, h) = some (c, h) := id rfl
@[simp 500] theorem Qfd : QD m σ h = @ob _ _ asB (m σ h) := id rfl
@[simp] theorem Qiz : Qal t σ h = @om _ _ (fun p => (!p.1, p.2)) (t σ h) := by
  unfold Qal
  first | rfl | (cases t σ h <;> rfl)
noncomputable def Qfi (u : MT) (σ : MSt) (p : Bool × MH) : Option (Bool × MH) := if p.1 = true then u σ p.2 else some (false, p.2)
noncomputable def Qix (u : MT) (σ : MSt) (p : Bool × MH) : Option (Bool × MH) := if p.1 = true then some (true, p.2) else u σ p.2
@[simp] theorem Qfx (c : Bool) : Qfi u σ (c, h) = if c = true then u σ h else some (false, h) := id rfl
@[simp] theorem Qgv (c : Bool) : Qix u σ (c, h) = if c = true then some (true, h) else u σ h := id rfl
@[simp 500] theorem W8 : Vf t u σ h = @ob _ _ (Qfi u σ) (t σ h) := by
  unfold Vf
  refine congrArg (fun f_ => @ob _ _ f_ (t σ h)) (funext fun p => ?_)
  obtain ⟨c, h⟩ := p
  cases c <;> rfl
@[simp 500] theorem Qg0 : QaZ t u σ h = @ob _ _ (Qix u σ) (t σ h) := by
  unfold QaZ
  refine congrArg (fun f_ => @ob _ _ f_ (t σ h)) (funext fun p => ?_)
  obtain ⟨c, h⟩ := p
  cases c <;> rfl
noncomputable def Qh3 (ma mb : ME) (σ : MSt) (p : Bool × MH) : Option (W × MH) := if p.1 = true then ma σ p.2 else mb σ p.2
@[simp] theorem Qgo (c : Bool) : Qh3 ma mb σ (c, h) = if c = true then ma σ h else mb σ h := id rfl
@[simp] theorem Qkx : mIf t ma mb σ h = @ob _ _ (Qh3 ma mb σ) (t σ h) := by
  unfold mIf
  refine congrArg (fun f_ => @ob _ _ f_ (t σ h)) (funext fun p => ?_)
  obtain ⟨c, h⟩ := p
  cases c <;> rfl
@[simp] theorem Qjl : QcS m σ h = @ob _ _ (fun p => @om _ _ (fun b => (b, p.2)) (Qdr p.2 p.1)) (m σ h) := by
  unfold QcS
  rfl
@[simp] theorem QjX {T : String} {f : W → List W → MH → Option (W × MH)} : mMt T f m ms σ h = @ob _ _ (fun p => if tyW p.2 T p.1 = true then @ob _ _ (fun q => f p.1 q.1 q.2) (ms σ p.2) else none) (m σ h) := id rfl
end
section
variable {h : MH} {i j : Int} {x y : Str} {ws us : List W} {w : W}
@[simp] theorem Qja : Vy (.int i) (.int j) h = some (.int (i + j), h) := id rfl
@[simp] theorem Qj0 : Gj (.int i) (.int j) h = some (.int (i - j), h) := id rfl
@[simp] theorem Qkt : wLt (.int i) (.int j) h = some (.bl (decide (i < j)), h) := id rfl
@[simp] theorem QkC : wGt (.int i) (.int j) h = some (.bl (decide (j < i)), h) := id rfl
@[simp] theorem QkA : wGe (.int i) (.int j) h = some (.bl (decide (j ≤ i)), h) := id rfl
@[simp] theorem QjL : KN (.int i) h = some (.int (-i), h) := id rfl
@[simp] theorem QiX : Gc (.int i) (.int j) h = some (.int (i + j), h) := id rfl
@[simp] theorem Qj8 (c : 0 < j) : GZ (.int i) (.int j) h = some (.int (i % j), h) := QdD c
@[simp] theorem QjB (c : 0 < j) (c' : j < 1073741824) : Qd0 (.int i) (.int j) h = some (.int (i / j), h) := Qem ⟨c, c'⟩
@[simp] theorem QhW (c : -18446744073709551616 < j) (c' : j < 18446744073709551616) : VU (.int i) (.int j) h = some (.int (i * j), h) := GN (.inr ⟨c, c'⟩)
@[simp] theorem Qic (c : -18446744073709551616 < i) (c' : i < 18446744073709551616) : VU (.int i) (.int j) h = some (.int (i * j), h) := GN (.inl ⟨c, c'⟩)
@[simp] theorem QjA (c : 0 ≤ j) (c' : j ≤ 1000000) (c'' : i.natAbs < 18446744073709551616) : Qer (.int i) (.int j) h = some (.int (i ^ j.toNat), h) := QdO ⟨c, c', c''⟩
theorem GS (c : j < 1000 ∧ -1000 < j ∧ x.length < 1000) : VU (.str x) (.int j) h = some (.str (rep x j), h) := if_pos c
@[simp] theorem Qgy : Qf2 [.int i, .int j] h = some (.int (if j > i then j else i), h) := id rfl
@[simp] theorem Qgx : Qfg [.int i, .int j] h = some (.int (if j < i then j else i), h) := id rfl
@[simp] theorem Qkd : JF ws h = if ws.length ≤ sizeLine then some (.tup ws, h) else none := id rfl
@[simp] theorem QjU : Ki ws h = if ws.length ≤ sizeLine then some (.lst ws, h) else none := id rfl
@[simp] theorem QjS : WS ws h = if ws.length ≤ sizeLine then some (.ref h.length, h ++ [.lst ws]) else none := id rfl
@[simp] theorem Qjb : wIx (.tup ws) (.int i) h = @om _ _ (fun w => (w, h)) (atI ws i) := id rfl
@[simp] theorem Qj6 : wIx (.lst ws) (.int i) h = @om _ _ (fun w => (w, h)) (atI ws i) := id rfl
@[simp] theorem Qkk : wIx (.frz ws) (.int i) h = @om _ _ (fun w => (w, h)) (atI ws i) := id rfl
@[simp] theorem Qjk {n : Nat} : wIx (.ref n) (.int i) h = @ob _ _ (fun (ws : List W) => @om _ _ (fun w => (w, h)) (atI ws i)) (match h[n]? with | some (.lst ws) => some ws | _ => none) := id rfl
@[simp] theorem QhV : JO [.tup ws] h = some (.int ws.length, h) := id rfl
@[simp] theorem Qir : JO [.lst ws] h = some (.int ws.length, h) := id rfl
@[simp] theorem Qfn : JO [.frz ws] h = some (.int ws.length, h) := id rfl
@[simp] theorem QiE {n : Nat} : JO [.ref n] h = @om _ _ (fun (ws : List W) => (.int ws.length, h)) (match h[n]? with | some (.lst ws) => some ws | _ => none) := id rfl
theorem ZK {α : Type} {xs : List α} {n : Nat} : atI xs (n : Int) = xs[n]? := by
  cases e : xs[n]? with
  | some x => exact Qdn e
  | none =>
    unfold atI ixN
    have : xs.length ≤ n := List.getElem?_eq_none_iff.mp e
    rw [if_pos (by omega)]
    rw [if_neg (by omega)]
    rfl
@[simp] theorem Qjw {α : Type} {xs : List α} : atI xs 0 = xs[0]? := ZK (n := 0)
@[simp] theorem QkB {α : Type} {xs : List α} : atI xs 1 = xs[1]? := ZK (n := 1)
@[simp] theorem Qi3 {α : Type} {xs : List α} {y : α} : atI (xs ++ [y]) (-1) = some y := K4 xs y
@[simp] theorem QjK {n : Nat} : ixN (n + 1) 0 = some 0 := by unfold ixN; rw [if_pos (by decide), if_pos (by omega)]; rfl
@[simp] theorem Qje {n : Nat} : ixN (n + 2) 1 = some 1 := by unfold ixN; rw [if_pos (by decide), if_pos (by omega)]; rfl
@[simp] theorem Qib {n : Nat} : ixN (n + 1) (-1) = some n := by unfold ixN; rw [if_neg (by decide), if_pos (by omega)]; congr 1; omega
noncomputable def putAt (o i v : W) (σ : MSt) (h : MH) : Option MF := match o, i with
  | .ref n, .int k => match h[n]? with
    | some (.lst xs) => @om _ _ (fun j => .nx σ (h.set n (.lst (xs.set j v)))) (ixN xs.length k)
    | _ => none
  | _, _ => none
@[simp] theorem Qjx {mo mi mv : ME} {σ : MSt} : Qex mo mi mv σ h = @ob _ _ (fun v => @ob _ _ (fun o => @ob _ _ (fun i => putAt o.1 i.1 v.1 σ i.2) (mi σ o.2)) (mo σ v.2)) (mv σ h) := id rfl
@[simp] theorem Qg8 {n : Nat} {v : W} {σ : MSt} : putAt (.ref n) (.int i) v σ h = match h[n]? with
    | some (.lst xs) => @om _ _ (fun j => .nx σ (h.set n (.lst (xs.set j v)))) (ixN xs.length i)
    | _ => none := id rfl
@[simp] theorem Qi4 {w : W} : Qew (some (.rt w h)) = some (w, h) := id rfl
@[simp] theorem Qi0 {σ : MSt} : Qew (some (.nx σ h)) = some (.non, h) := id rfl
@[simp] theorem Qgr {n : Nat} {w : W} : Q5 (.ref n) [w] h = match h[n]? with | some (.lst xs) => if xs.length < sizeLine then some (.non, h.set n (.lst (xs ++ [w]))) else none | _ => none := id rfl
@[simp] theorem Qge {n : Nat} {w : W} : Yj (.ref n) [w] h = match h[n]? with | some (.lst xs) => @ob _ _ (fun ys => if xs.length + ys.length ≤ sizeLine then some (.non, h.set n (.lst (xs ++ ys))) else none) (loW h w) | _ => none := id rfl
@[simp] theorem Qjm : loW h (.lst ws) = some ws := id rfl
@[simp] theorem QjV {n : Nat} : Qgk (.ref n) [] h = match h[n]? with | some (.lst xs) => @om _ _ (fun w => (w, h.set n (.lst xs.dropLast))) (xs[xs.length - 1]?) | _ => none := id rfl
@[simp] theorem QhN {n : Nat} {T : String} : tyW h T (.ref n) = match h[n]? with | some (.lst _) => T == "list" | some (.dic _) => T == "dict" | some (.dct _) => T == "dict" | none => false := id rfl
@[simp] theorem Qjo {T : String} : tyW h T (.lst ws) = (T == "list") := id rfl
@[simp] theorem Qi5 {b : Bool} : Qdr h (.bl b) = some b := id rfl
@[simp] theorem QiQ : Qdr h (.tup ws) = some (!ws.isEmpty) := id rfl
@[simp] theorem Qgb : JT [.lst ws] h = some (.tup ws, h) := id rfl
@[simp] theorem Qgn {n : Nat} : JT [.ref n] h = @om _ _ (fun (ws : List W) => (.tup ws, h)) (match h[n]? with | some (.lst ws) => some ws | _ => none) := id rfl
@[simp] theorem Qkz {ma : ME} {ml mh : MOp} {σ : MSt} : mSl ma ml mh σ h = @ob _ _ (fun p => @ob _ _ (fun q => @ob _ _ (fun r => wSl p.1 q.1 r.1 r.2) (mh σ q.2)) (ml σ p.2)) (ma σ h) := id rfl
@[simp] theorem Qku {σ : MSt} : Ko σ h = some (none, h) := id rfl
noncomputable def asI (p : W × MH) : Option (Option Int × MH) := match p.1 with | .int i => some (some i, p.2) | _ => none
@[simp] theorem QhJ : asI (.int i, h) = some (some i, h) := id rfl
@[simp] theorem Qkw {m : ME} {σ : MSt} : Ku m σ h = @ob _ _ asI (m σ h) := id rfl
@[simp] theorem Qju {lo hi : Option Int} : wSl (.tup ws) lo hi h = some (.tup (Gh ws lo hi), h) := id rfl
@[simp] theorem QjQ {lo hi : Option Int} : wSl (.lst ws) lo hi h = some (.lst (Gh ws lo hi), h) := id rfl
@[simp] theorem QiH : Vy (.tup ws) (.tup us) h = if ws.length + us.length ≤ sizeLine then some (.tup (ws ++ us), h) else none := id rfl
@[simp] theorem Qh1 : Vy (.str x) (.str y) h = if x.length + y.length ≤ sizeLine then some (.str (x ++ y), h) else none := id rfl
@[simp] theorem Qkg {a : W} : wIs a .non h = some (.bl (YX a), h) := id rfl
@[simp] theorem Qgs : YX .non = true := id rfl
end
mutual
noncomputable def pln : W → Bool
  | .tup ws => Kw ws
  | .lst ws => Kw ws
  | .frz _ => false
  | .ref _ => false
  | .ty _ => false
  | _ => true
noncomputable def Kw : List W → Bool
  | [] => true
  | w :: ws => pln w && Kw ws
end
mutual
noncomputable def dep : W → Nat
  | .tup ws => Ge ws + 1
  | .lst ws => Ge ws + 1
  | _ => 1
noncomputable def Ge : List W → Nat
  | [] => 0
  | w :: ws => max (dep w) (Ge ws)
end
mutual
theorem XZ (h : MH) : ∀ (w : W) (n : Nat), pln w = true → dep w ≤ n → drf h n w = some w
  | .non, n + 1, _, _ => rfl
  | .bl _, n + 1, _, _ => rfl
  | .int _, n + 1, _, _ => rfl
  | .str _, n + 1, _, _ => rfl
  | .tup ws, n + 1, p, d => by
    unfold pln at p
    unfold dep at d
    show (Ji (drf h n) ws).map W.tup = _
    rw [VS h ws n p (by omega)]; rfl
  | .lst ws, n + 1, p, d => by
    unfold pln at p
    unfold dep at d
    show (Ji (drf h n) ws).map W.lst = _
    rw [VS h ws n p (by omega)]; rfl
  | .frz _, _, p, _ => by unfold pln at p; cases p
  | .ref _, _, p, _ => by unfold pln at p; cases p
  | .ty _, _, p, _ => by unfold pln at p; cases p
  | .non, 0, _, d => by unfold dep at d; omega
  | .bl _, 0, _, d => by unfold dep at d; omega
  | .int _, 0, _, d => by unfold dep at d; omega
  | .str _, 0, _, d => by unfold dep at d; omega
  | .tup _, 0, _, d => by unfold dep at d; omega
  | .lst _, 0, _, d => by unfold dep at d; omega
theorem VS (h : MH) : ∀ (ws : List W) (n : Nat), Kw ws = true → Ge ws ≤ n → Ji (drf h n) ws = some ws
  | [], _, _, _ => rfl
  | w :: ws, n, p, d => by
    unfold Kw at p
    unfold Ge at d
    rw [Bool.and_eq_true] at p
    rw [Ji, XZ h w n p.1 (by omega), Option.bind_some, VS h ws n p.2 (by omega)]; rfl
end
mutual
theorem UC : ∀ (w : W), pln w = true → eqW w w = true
  | .non, _ => by unfold eqW; rfl
  | .bl _, _ => by unfold eqW; simp
  | .int _, _ => by unfold eqW; simp
  | .str _, _ => by unfold eqW; simp
  | .tup ws, p => by unfold pln at p; unfold eqW; exact XT ws p
  | .lst ws, p => by unfold pln at p; unfold eqW; exact XT ws p
  | .frz _, p => by unfold pln at p; cases p
  | .ref _, p => by unfold pln at p; cases p
  | .ty _, p => by unfold pln at p; cases p
theorem XT : ∀ (ws : List W), Kw ws = true → KD ws ws = true
  | [], _ => by unfold KD; rfl
  | w :: ws, p => by
    unfold Kw at p
    rw [Bool.and_eq_true] at p
    unfold KD
    rw [UC w p.1, XT ws p.2]; rfl
end
theorem Qjc {a b : W} {h : MH} (pa : pln a = true) (pb : pln b = true) (da : dep a ≤ 40) (db : dep b ≤ 40) : wNe a b h = some (.bl (!eqW a b), h) := by
  unfold wNe; rw [XZ h a 40 pa da, XZ h b 40 pb db]; rfl
@[simp] theorem Qhp {i j : Int} {h : MH} : wEq (.int i) (.int j) h = some (.bl (i == j), h) := Qds i j h
@[simp] theorem QgE {x y : Str} {h : MH} : wEq (.str x) (.str y) h = some (.bl (x == y), h) := Qd2 x y h
@[simp] theorem Qjf {i j : Int} {h : MH} : wNe (.int i) (.int j) h = some (.bl (!(i == j)), h) := QcY i j h
@[simp] theorem Qjr {x y : Str} {h : MH} : wNe (.str x) (.str y) h = some (.bl (!(x == y)), h) := by unfold wNe; simp [drf, eqW]
mutual
theorem X8 : ∀ (w : W), pln w = true → pur w = true
  | .non, _ => rfl
  | .bl _, _ => rfl
  | .int _, _ => rfl
  | .str _, _ => rfl
  | .tup ws, p => by unfold pln at p; unfold pur; exact Jd ws p
  | .lst ws, p => by unfold pln at p; unfold pur; exact Jd ws p
  | .frz _, p => by unfold pln at p; cases p
  | .ref _, p => by unfold pln at p; cases p
  | .ty _, p => by unfold pln at p; cases p
theorem Jd : ∀ (ws : List W), Kw ws = true → Jq ws = true
  | [], _ => rfl
  | w :: ws, p => by
    unfold Kw at p
    rw [Bool.and_eq_true] at p
    unfold Jq
    rw [X8 w p.1, Jd ws p.2]; rfl
end
mutual
theorem Wi (f : Nat → Option W) : ∀ (w : W), pur w = true → th f w = some w
  | .non, _ => rfl
  | .bl _, _ => rfl
  | .int _, _ => rfl
  | .str _, _ => rfl
  | .ty _, _ => rfl
  | .tup ws, p => by unfold pur at p; unfold th; rw [Vj f ws p]; rfl
  | .lst ws, p => by unfold pur at p; unfold th; rw [Vj f ws p]; rfl
  | .frz ws, p => by unfold pur at p; unfold th; rw [Vj f ws p]; rfl
  | .ref _, p => by unfold pur at p; cases p
theorem Vj (f : Nat → Option W) : ∀ (ws : List W), Jq ws = true → ths f ws = some ws
  | [], _ => rfl
  | w :: ws, p => by
    unfold Jq at p
    rw [Bool.and_eq_true] at p
    unfold ths
    rw [Wi f w p.1, Vj f ws p.2]; rfl
end
theorem Q7 {m : FM} {ws : List W} {w : W} {g h : MH} (hp : Jq ws = true) (e : m ws [] = some (w, g)) (hw : pur w = true) : box frN m ws h = some (w, h) := by
  have hr : Xj 0 ws = some (ws, []) := by
    generalize 0 = k
    clear e
    induction ws with
    | nil => rfl
    | cons a r ih =>
      unfold Jq at hp
      rw [Bool.and_eq_true] at hp
      have := ih hp.2
      cases a <;> first | (unfold pur at hp; cases hp.1; done) | (unfold Xj; rw [if_pos hp.1, this]; rfl)
  unfold box
  rw [hr, Option.bind_some]
  unfold QdV
  rw [if_pos List.nodup_nil]
  simp only [Ji, Option.bind_some, e, frN, List.length_nil, List.range_zero]
  rw [if_pos ⟨List.nodup_nil, by simp⟩, Wi _ w hw]
  simp [QW]
theorem Qb2 {m : FM} {ws us : List W} {j : Nat} {g h : MH} (hp : Jq ws = true) (e : m ws [] = some (.ref j, g)) (hj : g[j]? = some (.lst us)) (hu : Jq us = true) : box frN m ws h = some (.lst us, h) := by
  have hr : Xj 0 ws = some (ws, []) := by
    generalize 0 = k
    clear e
    induction ws with
    | nil => rfl
    | cons a r ih =>
      unfold Jq at hp
      rw [Bool.and_eq_true] at hp
      have := ih hp.2
      cases a <;> first | (unfold pur at hp; cases hp.1; done) | (unfold Xj; rw [if_pos hp.1, this]; rfl)
  unfold box
  rw [hr, Option.bind_some]
  unfold QdV
  rw [if_pos List.nodup_nil]
  simp only [Ji, Option.bind_some, e, frN, List.length_nil, List.range_zero]
  rw [if_pos ⟨List.nodup_nil, by simp⟩]
  have : th (res (Yh [] [] h.length) g 3) (.ref j) = some (.lst us) := by
    unfold th res
    simp only [Yh, List.getElem?_nil, List.findIdx?_nil, Option.map_none, hj]
    rw [Vj _ us hu]; rfl
  rw [this]
  simp [QW]
theorem Z1 {m : FM} {ws : List W} {w : W} {o o' : MO} {n : Nat} {g h : MH} (hp : Jq ws = true) (hn : h[n]? = some o) (ho : Qda o = true) (e : m (.ref 0 :: ws) [o] = some (w, o' :: g)) (hw : pur w = true) (ho' : ∃ us, o' = .lst us ∧ Jq us = true) : box frN m (.ref n :: ws) h = some (w, h.set n o') := by
  obtain ⟨us, rfl, hus⟩ := ho'
  have hr : ∀ k, Xj k ws = some (ws, []) := by
    clear e
    induction ws with
    | nil => intro k; rfl
    | cons a r ih =>
      intro k
      unfold Jq at hp
      rw [Bool.and_eq_true] at hp
      have := ih hp.2 k
      cases a <;> first | (unfold pur at hp; cases hp.1; done) | (unfold Xj; rw [if_pos hp.1, this]; rfl)
  unfold box
  have hr' : Xj 0 (.ref n :: ws) = some (.ref 0 :: ws, [n]) := by
    unfold Xj
    rw [hr]; rfl
  rw [hr', Option.bind_some]
  unfold QdV
  rw [if_pos (by simp)]
  have hpk : Qbo h n = some o := by unfold Qbo; rw [hn]; simp [ho]
  simp only [Ji, hpk, Option.bind_some, Option.map_some, e, frN, List.length_singleton]
  rw [if_pos ⟨List.nodup_nil, by simp⟩, Wi _ w hw]
  simp [QW, List.range_succ, Ji, thO, Vj _ us hus]
theorem KS {m : FM} {args as : List W} {ns : List Nat} {os os' : List MO} {g h : MH} {w w' : W} (hr : Xj 0 args = some (as, ns)) (hd : ns.Nodup) (ho : Ji (Qbo h) ns = some os) (e : m as os = some (w, os' ++ g)) (hl : os'.length = ns.length)
    (hos : ∀ o ∈ os', ∃ us, o = .lst us ∧ Jq us = true) (hw : th (res (Yh ns [] h.length) (os' ++ g) 3) w = some w') : box frN m args h = some (w', QW ns os' h) := by
  unfold box
  rw [hr, Option.bind_some]
  unfold QdV
  rw [if_pos hd, ho]
  simp only [Option.bind_some, e]
  rw [if_pos (show (frN w).Nodup ∧ ∀ j ∈ frN w, ns.length ≤ j from ⟨List.nodup_nil, fun j hj => by simp [frN] at hj⟩)]
  show (th (res (Yh ns [] h.length) (os' ++ g) 3) w).bind _ = _
  rw [hw, Option.bind_some]
  show (Ji (fun j => ((os' ++ g)[j]?).bind (thO (res (Yh ns [] h.length) (os' ++ g) 3))) (List.range ns.length)).bind (fun os => (Ji (fun j => ((os' ++ g)[j]?).bind (thO (res (Yh ns [] h.length) (os' ++ g) 3))) []).map fun us => (w', QW ns os h ++ us)) = _
  have : Ji (fun j => ((os' ++ g)[j]?).bind (thO (res (Yh ns [] h.length) (os' ++ g) 3))) (List.range ns.length) = some os' := by
    rw [← hl]
    have key : ∀ (k : Nat) (xs : List MO), (∀ i o, xs[i]? = some o → (os' ++ g)[k + i]? = some o) → (∀ o ∈ xs, ∃ us, o = .lst us ∧ Jq us = true) → Ji (fun j => ((os' ++ g)[j]?).bind (thO (res (Yh ns [] h.length) (os' ++ g) 3))) (List.range' k xs.length) = some xs := by
      intro k xs
      induction xs generalizing k with
      | nil => intro _ _; rfl
      | cons x xs ih =>
        intro h1 h2
        obtain ⟨us, hu, hp⟩ := h2 x List.mem_cons_self
        rw [List.length_cons, List.range'_succ]
        unfold Ji
        have h0 := h1 0 x rfl
        rw [Nat.add_zero] at h0
        rw [h0, Option.bind_some, ih (k + 1) (fun i o hi => by have := h1 (i + 1) o (by simpa using hi); rw [show k + 1 + i = k + (i + 1) by omega]; exact this) fun o hx => h2 o (List.mem_cons_of_mem _ hx), hu]
        show ((ths _ us).map MO.lst).bind _ = _
        rw [Vj _ us hp]; rfl
    rw [List.range_eq_range']
    exact key 0 os' (fun i o hi => by rw [Nat.zero_add, List.getElem?_append_left (List.getElem?_eq_some_iff.mp hi).1]; exact hi) hos
  rw [this]
  simp [Ji]
@[simp] theorem Qc5 {os : List MO} {h : MH} : QW [] os h = h := by unfold QW; rfl
@[simp] theorem QcH {n : Nat} {ns : List Nat} {o : MO} {os : List MO} {h : MH} : QW (n :: ns) (o :: os) h = QW ns os (h.set n o) := by rw [QW]
theorem K7 {h : MH} {n : Nat} {us : List W} (e : h[n]? = some (.lst us)) (hp : Jq us = true) : Qbo h n = some (.lst us) := by unfold Qbo; rw [e]; simp [Qda, hp]
theorem VY {fin : List W → MH → Option (W × MH)} {mi : MI} {cp : List (Option Nat)} {me : ME} {σ caps : MSt} {h : MH} {items : List W} (f : W → W) (hi : mi σ h = some (items, none, h)) (hc : ∃ o, QbG cp σ = o :: caps) (he : ∀ w ∈ items, me (some w :: caps) h = some (f w, h)) (hl : items.length ≤ sizeLine) :
    JU fin mi cp (J5 0) WJ me σ h = fin (items.map f) h := by
  obtain ⟨o, hc⟩ := hc
  unfold JU
  rw [hi, Option.bind_some]
  simp only [hc]
  rw [Vt (p := fun _ => true) (f := f) items [] o (fun _ _ => rfl) (fun w hw _ => he w hw) (by simpa using hl), List.filter_eq_self.mpr (fun _ _ => rfl)]
  rfl
theorem QaG {fin : List W → MH → Option (W × MH)} {mi : MI} {cp : List (Option Nat)} {mt : MT} {me : ME} {σ caps : MSt} {h : MH} {items : List W} (f : W → W) (p : W → Bool) (hi : mi σ h = some (items, none, h)) (hc : ∃ o, QbG cp σ = o :: caps) (ht : ∀ w ∈ items, mt (some w :: caps) h = some (p w, h)) (he : ∀ w ∈ items, p w = true → me (some w :: caps) h = some (f w, h)) (hl : items.length ≤ sizeLine) :
    JU fin mi cp (J5 0) mt me σ h = fin ((items.filter p).map f) h := by
  obtain ⟨o, hc⟩ := hc
  unfold JU
  rw [hi, Option.bind_some]
  simp only [hc]
  rw [Vt (p := p) (f := f) items [] o ht he (by simpa using hl)]
  simp
theorem Yq {α : Type} {items : List W} {b : MG} {me : ME} {fin : List W → MH → Option (W × MH)} (P : List α → MSt → MH → Prop) (enc : α → W) : ∀ (rest : List W) (acc : List α) (τ : MSt) (h : MH), P acc τ h → acc.length + rest.length ≤ sizeLine →
    (∀ w ∈ rest, ∀ acc τ h, P acc τ h → ∃ τ1 x h1, b w τ h = some τ1 ∧ me τ1 h = some (enc x, h1) ∧ P (acc ++ [x]) τ1 h1) →
    ∃ acc' τ' h', Vd fin items none b WJ me rest (acc.map enc) τ h = fin (acc'.map enc) h' ∧ P acc' τ' h' ∧ acc'.length = acc.length + rest.length
  | [], acc, τ, h, hp, _, _ => ⟨acc, τ, h, by unfold Vd; rw [if_pos (ZT _ _)], hp, by simp⟩
  | w :: rest, acc, τ, h, hp, hl, hs => by
    have hl' : acc.length + (rest.length + 1) ≤ sizeLine := by simpa using hl
    obtain ⟨τ1, x, h1, e1, e2, p1⟩ := hs w List.mem_cons_self acc τ h hp
    obtain ⟨acc', τ', h', e3, p3, l3⟩ := Yq (items := items) (b := b) (me := me) (fin := fin) P enc rest (acc ++ [x]) τ1 h1 p1 (by simp; omega) fun y hy => hs y (List.mem_cons_of_mem _ hy)
    refine ⟨acc', τ', h', ?_, p3, by rw [l3]; simp; omega⟩
    unfold Vd
    rw [if_pos (ZT _ _), e1, Option.bind_some]
    show (some (true, h)).bind _ = _
    rw [Option.bind_some]
    simp only [e2, Option.bind_some]
    rw [if_pos (by rw [List.length_map]; omega)]
    rw [List.map_append, List.map_cons, List.map_nil] at e3
    exact e3
theorem Jy {items : List W} {b : MG} {body : SM} (P : Nat → MSt → MH → Prop) : ∀ (r : List W) (n : Nat) (σ : MSt) (h : MH), P n σ h →
    (∀ (j : Nat) (w : W), r[j]? = some w → ∀ σ h, P (n + j) σ h → ∃ σ1, b w σ h = some σ1 ∧ ∃ σ2 h2, (body σ1 h = some (.nx σ2 h2) ∨ body σ1 h = some (.ct σ2 h2)) ∧ P (n + j + 1) σ2 h2) →
    ∃ σ' h', Ve items none b body r σ h = some (.nx σ' h') ∧ P (n + r.length) σ' h'
  | [], n, σ, h, hp, _ => ⟨σ, h, Uw, hp⟩
  | w :: r, n, σ, h, hp, hs => by
    obtain ⟨σ1, e1, σ2, h2, e2, p2⟩ := hs 0 w rfl σ h hp
    obtain ⟨σ', h', e3, p3⟩ := Jy (items := items) (b := b) (body := body) P r (n + 1) σ2 h2 p2 fun j x hx σ h hp => by
      have := hs (j + 1) x (by simpa using hx) σ h (by rw [show n + (j + 1) = n + 1 + j by omega]; exact hp)
      rw [show n + (j + 1) + 1 = n + 1 + j + 1 by omega] at this
      exact this
    refine ⟨σ', h', ?_, by rw [List.length_cons, show n + (r.length + 1) = n + 1 + r.length by omega]; exact p3⟩
    rw [Ve, if_pos (ZT _ _), e1, Option.bind_some]
    rcases e2 with e2 | e2 <;> rw [e2] <;> exact e3
theorem XL {t : MT} {body : SM} (P : Nat → MSt → MH → Prop) : ∀ (n f : Nat) (σ : MSt) (h : MH), n < f → P n σ h →
    (∀ n σ h, P n σ h → (t σ h = some (false, h) ∧ n = 0) ∨ (t σ h = some (true, h) ∧ ∃ m σ2 h2, m < n ∧ (body σ h = some (.nx σ2 h2) ∨ body σ h = some (.ct σ2 h2)) ∧ P m σ2 h2)) →
    ∃ σ' h', Q8 t body f σ h = some (.nx σ' h') ∧ P 0 σ' h'
  | n, 0, _, _, hf, _, _ => by omega
  | n, f + 1, σ, h, hf, hp, hs => by
    rcases hs n σ h hp with ⟨e, hn⟩ | ⟨e, m, σ2, h2, hm, e2, p2⟩
    · subst hn
      exact ⟨σ, h, by rw [Q8, e]; rfl, hp⟩
    · obtain ⟨σ', h', e3, p3⟩ := XL P m f σ2 h2 (by omega) p2 hs
      refine ⟨σ', h', ?_, p3⟩
      rw [Q8, e]
      rcases e2 with e2 | e2 <;> simp only [Option.bind_some, e2] <;> exact e3
noncomputable def eqS (y : Str) (p : W × MH) : Option (Bool × MH) := @ob _ _ asB (wEq p.1 (.str y) p.2)
noncomputable def eqN (j : Int) (p : W × MH) : Option (Bool × MH) := @ob _ _ asB (wEq p.1 (.int j) p.2)
@[simp 650] theorem QiB {ma : ME} {σ : MSt} {h : MH} {y : Str} : QD (Qo wEq ma (mC (.str y))) σ h = @ob _ _ (eqS y) (ma σ h) := by
  unfold QD Qo mC eqS ob
  cases ma σ h <;> rfl
@[simp 650] theorem QiZ {ma : ME} {σ : MSt} {h : MH} {j : Int} : QD (Qo wEq ma (mC (.int j))) σ h = @ob _ _ (eqN j) (ma σ h) := by
  unfold QD Qo mC eqN ob
  cases ma σ h <;> rfl
@[simp] theorem Qg1 {x y : Str} {h : MH} : eqS y (.str x, h) = some (x == y, h) := by unfold eqS; rw [QgE]; rfl
@[simp] theorem Qhd {i j : Int} {h : MH} : eqN j (.int i, h) = some (i == j, h) := by unfold eqN; rw [Qhp]; rfl
end Mi

namespace Mi
open PySem PySem.Spec PyProof.Rows L2
noncomputable def QiT (ws : List W) (h : MH) : Option (W × MH) := match ws with
  | [.tup ws] => some (.ref h.length, h ++ [.lst ws])
  | [a] => (lsW h a).map fun ws => (.ref h.length, h ++ [.lst ws])
  | _ => none
noncomputable def Qi8 (a : W) (ws : List W) (h : MH) : Option (W × MH) := match a, ws with
  | .ref n, [.int 0] => match h[n]? with | some (.lst (x :: xs)) => some (x, h.set n (.lst xs)) | _ => none
  | _, _ => none
section
variable {X : Cx}
end
end Mi
namespace Mi
open PySem PySem.Spec PyProof.Rows L2
theorem Qah {X : Cx} {st : List Stmt} : Qaw X st fun _ _ => none := fun pins s σ H D I q => by
  obtain ⟨R, σi, h, r, rh, st, e, k⟩ := q
  cases e
end Mi
namespace Mi
open PySem PySem.Spec PyProof.Rows L2
section
open PySem.AutoSeq1
theorem Gb (l : Addr) (its : Array Value) (n : Nat) (b : Addr) (its2 : Array Value) (n2 : Nat) (o2 : Obj) (hc : o2.cls = .type "tuple") (hd : o2.data = .seq its2 n2) (hs0 : ¬(!its.isEmpty && Builtin.List.listTooLong (its.size + its2.size)) = true) (hs1 : its.size ≤ sizeLine) (hs2 : its.size + its2.size ≤ sizeLine + 1) :
    Meets (Builtin.«list.extend» ⟨[.ref l, .ref b], []⟩) (fun _ R s => s.heap.get? l = some { cls := .type "list", dict := none, data := .seq its n, slots := #[] } ∧ s.heap.get? b = some o2 ∧
      R (.ok (.ret Value.none)) { s with heap := s.heap.update l (Obj.mapSeq fun x => x ++ its2), toks := s.toks }) :=
  .of_wp fun prog w A R s h => by
    obtain ⟨c2, d2, dt2, sl2⟩ := o2
    subst hc hd
    obtain ⟨hp, g, d, tk, os⟩ := s
    obtain ⟨hl, hb, h⟩ := h
    have f1 := idx_int
    have f2 := AutoSeq1.sub_tuple_tuple
    have f3 := AutoSeq1.sub_list_list
    have f4 := AutoSeq1.sub_tuple_list
    have f5 := AutoSeq1.sub_list_tuple
    have hz' : (its ++ its2).size ≤ sizeLine + 1 := by rw [Array.size_append]; exact hs2
    wp_walk using (wpAny_updateSeq hl rfl (hz := hs1) (_hz' := hz')), wpAny_loadPart' hl, wpAny_loadPart' hb
    exact ⟨_, rfl, h⟩
end
section
variable {X : Cx}
theorem UP : MtM X "list.extend" (fun x vs H Q => ∃ l b xs zs, x = .ref l ∧ vs = [.ref b] ∧ H l = some (.lst xs) ∧ SqT X.K H b zs ∧ xs.length + zs.length ≤ sizeLine ∧ Q .non (upd H l (.lst (xs ++ zs)))) := by
  intro pins s σ H x vs v us Q I rx rv h
  obtain ⟨l, b, xs, zs, rfl, rfl, hH, hB, hz, q⟩ := h
  cases rx
  obtain ⟨u, rfl, ru⟩ := rv.one
  cases ru
  obtain ⟨z, its, n, r, hl, e⟩ := I.lstM hH
  obtain ⟨its2, r2, ⟨o2, e2, hc, n2, hd⟩, hl2⟩ := I.tuple hB
  have hlen := r2.length
  have hsz : its.toArray.size + its2.toArray.size ≤ sizeLine := by rw [List.size_toArray, List.size_toArray]; omega
  have hlong : ¬ (!its.toArray.isEmpty && Builtin.List.listTooLong (its.toArray.size + its2.toArray.size)) = true := by
    rw [UH hsz, Bool.and_false]
    exact Bool.false_ne_true
  refine call_meets F.slot_list_extend ⟨_, e, rfl⟩ F.entry_list_extend (F.args_list_extend_2 _ _)
    (Gb l its.toArray n b its2.toArray n2 o2 hc hd hlong (by rw [List.size_toArray]; omega) (by omega)) ⟨e, e2, ?_⟩
  refine ⟨.non, _, I.lset (its' := its ++ its2) hH e (by simp) (r.append r2) ?_, rfl, q⟩
  rw [List.length_append]
  omega
noncomputable def XE (a : W) (ws : List W) (h : MH) : Option (W × MH) := match a, ws with
  | .ref n, [.tup ys] => match h[n]? with | some (.lst xs) => if xs.length + ys.length ≤ sizeLine then some (.non, h.set n (.lst (xs ++ ys))) else none | _ => none
  | _, _ => none
theorem WP : Qcq X "list.extend" XE := by
  intro pins s σ H x xs v us Q I rx rv q
  refine UP pins s σ H x xs v us Q I rx rv ?_
  obtain ⟨R, h, a, ws, w, h', rh, ra, rws, e, k⟩ := q
  unfold XE at e
  split at e
  · rename_i n zs
    split at e
    · rename_i ys hn
      split at e
      · rename_i hl
        cases e
        obtain ⟨hlt, rfl, xv, h1, r1⟩ := rh.refAt ra hn
        obtain ⟨y, rfl, ry⟩ := Qa0 rws
        obtain ⟨bd, yv, rfl, h2, r2⟩ := rh.tupAt ry
        refine ⟨_, bd, xv, yv, rfl, rfl, h1, h2, by rw [← r1.length, ← r2.length]; exact hl, ?_⟩
        exact k R _ _ (Ext.refl _) (rh.put hlt ⟨_, rfl, Rws.append r1 r2⟩) Rw.non
      · cases e
    · cases e
  · cases e
@[simp] theorem QfX {n : Nat} {ys : List W} {h : MH} : XE (.ref n) [.tup ys] h = match h[n]? with | some (.lst xs) => if xs.length + ys.length ≤ sizeLine then some (.non, h.set n (.lst (xs ++ ys))) else none | _ => none := id rfl
end
end Mi

namespace L2
open PySem PySem.Spec PyProof.Rows
noncomputable def RawD (h : Heap) (d : Addr) (es : Array DictEntry) (ep : Nat) : Prop := ∃ o, h.get? d = some o ∧ o.ExactDict ∧ o.data = .dict es ep
theorem RawD.typeIs {s : Shared} {d : Addr} {es : Array DictEntry} {ep : Nat} (m : RawD s.heap d es ep) : s.TypeIs (.ref d) "dict" := let ⟨o, ho, hc, _⟩ := m; ⟨o, ho, hc.1⟩
theorem RawD.lt {h : Heap} {d : Addr} {es : Array DictEntry} {ep : Nat} (m : RawD h d es ep) : d < h.objs.size := let ⟨_, ho, _⟩ := m; Heap.lt_size ho
theorem RawD.at {h h' : Heap} {d : Addr} {es : Array DictEntry} {ep : Nat} (m : RawD h d es ep) (k : ∀ o, h.get? d = some o → h'.get? d = some o) : RawD h' d es ep := let ⟨o, ho, r⟩ := m; ⟨o, k o ho, r⟩
section
variable {prog : Program} {w : World} {A : Around} {E : Value → Shared → Prop} {s : Shared} {it d : Addr} {es : Array DictEntry} {i ep : Nat}
end
end L2

namespace Mi
open PySem PySem.Spec PyProof.Rows L2
noncomputable def TrH (K : PySem.W.Frag) (H : Hp) : Nat → Tr → V → Prop
  | 0, _, _ => False
  | _ + 1, .i k, v => v = .int k ∨ ∃ b : Bool, v = .bl b ∧ k = if b then 1 else 0
  | _ + 1, .s x, v => v = .str x
  | n + 1, .t ks, v => ∃ a xs, v = .ref a ∧ SqT K H a xs ∧ Paired (TrH K H n) ks xs
theorem QaV {α β γ : Type} {F : α → β → Prop} {G : β → γ → Prop} {M : α → γ → Prop} (f : ∀ a b c, F a b → G b c → M a c) : ∀ {l₁ : List α} {l₂ : List β} {l₃ : List γ}, Paired F l₁ l₂ → Paired G l₂ l₃ → Paired M l₁ l₃
  | _, _, _, .nil, .nil => .nil
  | _, _, _, .cons a s, .cons b t => .cons (f _ _ _ a b) (QaV f s t)
section
variable {X : Cx} {pins : List (Addr × Obj)} {σ : L2.St} {H : Hp} {s : Shared}
theorem Qes (I : Inv X pins σ H s) : ∀ {n : Nat} (k : Tr) (v : V) (u : Value), TrH X.K H n k v → RelV v u → IsT s.heap n k u
  | 0, _, _, _, x, _ => x.elim
  | n + 1, .i k, v, u, x, r => by
    rcases x with rfl | ⟨b, rfl, hk⟩
    · exact .inl r
    · exact .inr ⟨b, r, hk⟩
  | n + 1, .s y, v, u, x, r => by
    cases (show v = .str y from x)
    exact r
  | n + 1, .t ks, v, u, x, r => by
    obtain ⟨a, xs, rfl, q, p⟩ := x
    obtain ⟨its, r', pl, _⟩ := I.tuple q
    cases (show u = Value.ref a from r)
    exact ⟨a, its.toArray, rfl, pl, by simpa using QaV (fun k v u h1 h2 => Qes I k v u h1 h2) p r'⟩
end
section
variable {K : PySem.W.Frag} {R : Rn} {h : MH} {H : Hp}
theorem Qfq (rh : Rh K R h H) : ∀ (n : Nat) (w : W) (v : V) (k : Tr), Rw K R w v → YG n w = some k → TrH K H n k v
  | 0, _, _, _, _, e => by simp [YG] at e
  | n + 1, w, v, k, r, e => by
    cases w with
    | int i => simp only [YG] at e; cases e; exact .inl r.int_eq
    | bl b => simp only [YG] at e; cases e; exact .inr ⟨b, r.bl_eq, rfl⟩
    | str x => simp only [YG] at e; cases e; exact r.str_eq
    | tup ws =>
      simp only [YG] at e
      obtain ⟨ks, e1, e2⟩ := Option.map_eq_some_iff.mp e
      subst e2
      obtain ⟨a, xs, rfl, q, r1⟩ := rh.tupAt r
      refine ⟨a, xs, rfl, q, ?_⟩
      clear e r q
      induction ws generalizing ks xs with
      | nil =>
        rw [Rws.nil_iff] at r1; subst r1
        rw [List.mapM_nil] at e1
        cases (show some [] = some ks from e1)
        exact .nil
      | cons x ws ih =>
        rw [List.mapM_cons] at e1
        obtain ⟨k1, h1, e2⟩ := Option.bind_eq_some_iff.mp e1
        obtain ⟨ks1, h2, e3⟩ := Option.bind_eq_some_iff.mp e2
        cases (show some (k1 :: ks1) = some ks from e3)
        rw [Rws.cons_iff] at r1
        obtain ⟨y, ys, rfl, p1, p2⟩ := r1
        exact .cons (Qfq rh n x y k1 p1 h1) (ih ks1 h2 ys p2)
    | _ => simp [YG] at e
theorem GO (rh : Rh K R h H) {w : W} {v : V} {k : Tr} (r : Rw K R w v) (e : nrm w = some k) : TrH K H 8 k v := by
  cases w with
  | tup ws => exact Qfq rh 8 _ v k r e
  | _ => cases e
theorem QdR (rh : Rh K R h H) {w : W} {v : V} {k : Tr} (r : Rw K R w v) (e : nrm w = some k) : ∃ a, v = .ref a := by
  cases w with
  | tup ws => obtain ⟨a, xs, rfl, _⟩ := rh.tupAt r; exact ⟨a, rfl⟩
  | _ => cases e
end
noncomputable def Gm (kvs : List (W × W)) (k : Tr) : Option W := (kvs.find? fun p => decide (nrm p.1 = some k)).map (·.2)
noncomputable def Qfo (kvs : List (W × W)) (k : Tr) (kw v : W) : List (W × W) := if (Gm kvs k).isSome = true then kvs.map (fun p => if nrm p.1 = some k then (p.1, v) else p) else kvs ++ [(kw, v)]
noncomputable def WL (kx : List (Tr × Addr × V)) (k : Tr) : Option V := (kx.find? fun p => decide (p.1 = k)).map (·.2.2)
noncomputable def Qdb (kx : List (Tr × Addr × V)) (k : Tr) (b : Addr) (v : V) : List (Tr × Addr × V) := if (WL kx k).isSome = true then kx.map (fun p => if p.1 = k then (p.1, p.2.1, v) else p) else kx ++ [(k, b, v)]
noncomputable abbrev DctR (K : PySem.W.Frag) (R : Rn) : List (W × W) → List (Tr × Addr × V) → Prop := Paired fun p q => Rw K R p.1 (.ref q.2.1) ∧ nrm p.1 = some q.1 ∧ Rw K R p.2 q.2.2
noncomputable abbrev Qey : List (Tr × Addr × V) → List (Tr × Addr × Value) → Prop := Paired fun p q => p.1 = q.1 ∧ p.2.1 = q.2.1 ∧ RelV p.2.2 q.2.2
section
variable {K : PySem.W.Frag} {R : Rn}
theorem KZ {k : Tr} : ∀ {kvs : List (W × W)} {kx : List (Tr × Addr × V)}, DctR K R kvs kx → (Gm kvs k = none ∧ WL kx k = none) ∨ ∃ w v, Gm kvs k = some w ∧ WL kx k = some v ∧ Rw K R w v
  | _, _, .nil => .inl ⟨rfl, rfl⟩
  | p :: ps, q :: qs, .cons h t => by
    by_cases e : q.1 = k
    · have e' : nrm p.1 = some k := by rw [h.2.1, e]
      exact .inr ⟨p.2, q.2.2, by simp [Gm, List.find?_cons, e'], by simp [WL, List.find?_cons, e], h.2.2⟩
    · have e' : ¬ nrm p.1 = some k := by rw [h.2.1]; exact fun z => e (Option.some.inj z)
      have h1 : Gm (p :: ps) k = Gm ps k := by simp only [Gm, List.find?_cons, e', decide_false]
      have h2 : WL (q :: qs) k = WL qs k := by simp only [WL, List.find?_cons, e, decide_false]
      rcases KZ (k := k) t with z | ⟨w, v, z1, z2, z3⟩
      · exact .inl ⟨h1.trans z.1, h2.trans z.2⟩
      · exact .inr ⟨w, v, h1.trans z1, h2.trans z2, z3⟩
theorem Qbt {k : Tr} {kvs : List (W × W)} {kx : List (Tr × Addr × V)} (d : DctR K R kvs kx) : (Gm kvs k).isSome = (WL kx k).isSome := by
  rcases KZ (k := k) d with z | ⟨w, v, z1, z2, _⟩
  · rw [z.1, z.2]; rfl
  · rw [z1, z2]; rfl
theorem QcU {k : Tr} {kw w : W} {b : Addr} {v : V} {kvs : List (W × W)} {kx : List (Tr × Addr × V)} (d : DctR K R kvs kx) (rk : Rw K R kw (.ref b)) (hk : nrm kw = some k) (r : Rw K R w v) : DctR K R (Qfo kvs k kw w) (Qdb kx k b v) := by
  unfold Qfo Qdb
  rw [Qbt d]
  split
  · rename_i hz
    clear hz rk hk
    induction d with
    | nil => exact .nil
    | @cons p q ps qs h t ih =>
      rw [List.map_cons, List.map_cons]
      refine .cons ?_ ih
      by_cases e : q.1 = k
      · rw [if_pos e, if_pos (by rw [h.2.1, e])]; exact ⟨h.1, h.2.1, r⟩
      · rw [if_neg e, if_neg (by rw [h.2.1]; exact fun z => e (Option.some.inj z))]; exact h
  · exact Paired.snoc d ⟨rk, hk, r⟩
theorem WU {k : Tr} : ∀ {kx : List (Tr × Addr × V)} {xs : List (Tr × Addr × Value)}, Qey kx xs → RelO (WL kx k) ((atKey xs k).map (·.2))
  | _, _, .nil => True.intro
  | p :: ps, q :: qs, .cons h t => by
    have ih := WU (k := k) t
    by_cases e : p.1 = k
    · have e' : q.1 = k := h.1.symm.trans e
      have a1 : WL (p :: ps) k = some p.2.2 := by simp [WL, List.find?_cons, e]
      have a2 : atKey (q :: qs) k = some q.2 := by simp [atKey, List.find?_cons, e']
      rw [a1, a2]; exact h.2.2
    · have e' : ¬ q.1 = k := fun z => e (h.1.trans z)
      have a1 : WL (p :: ps) k = WL ps k := by simp only [WL, List.find?_cons, e, decide_false]
      have a2 : atKey (q :: qs) k = atKey qs k := by simp [atKey, List.find?_cons, e']
      rw [a1, a2]; exact ih
theorem Qb4 {k : Tr} {kx : List (Tr × Addr × V)} {xs : List (Tr × Addr × Value)} (d : Qey kx xs) : (WL kx k).isSome = (atKey xs k).isSome := by
  have := (WU (k := k) d).isSome_eq
  rwa [Option.isSome_map] at this
theorem Qdv {k : Tr} {b : Addr} {v : V} {u : Value} {kx : List (Tr × Addr × V)} {xs : List (Tr × Addr × Value)} (d : Qey kx xs) (r : RelV v u) : Qey (Qdb kx k b v) (storedH xs k b u) := by
  unfold Qdb storedH
  rw [Qb4 d]
  split
  · rename_i hz
    clear hz
    induction d with
    | nil => exact .nil
    | @cons p q ps qs h t ih =>
      rw [List.map_cons, List.map_cons]
      refine .cons ?_ ih
      unfold PySem.putAt
      by_cases e : p.1 = k
      · rw [if_pos e, if_pos (h.1.symm.trans e)]; exact ⟨h.1, h.2.1, r⟩
      · rw [if_neg e, if_neg (fun z => e (h.1.trans z))]; exact h
  · exact Paired.snoc d ⟨rfl, rfl, r⟩
theorem Qbi {kx : List (Tr × Addr × V)} {k : Tr} {b : Addr} {v : V} : (Qdb kx k b v).length ≤ kx.length + 1 := by
  unfold Qdb
  split
  · rw [List.length_map]; omega
  · rw [List.length_append]; simp
end
section
variable {X : Cx} {pins : List (Addr × Obj)} {σ : L2.St} {H : Hp} {s : Shared} {R : Rn} {h : MH}
theorem QeC (I : Inv X pins σ H s) (rh : Rh X.K R h H) {n : Nat} {kvs : List (W × W)} (hn : h[n]? = some (.dct kvs)) :
    ∃ kx xs, H (R.ρ n) = some (.dT kx) ∧ DctR X.K R kvs kx ∧ kx.length ≤ sizeLine ∧ (R.ρ n == sysModules) = false ∧ Qey kx xs ∧ s.heap.DictOfH (QM X.prog X.w) (R.ρ n) xs := by
  obtain ⟨kx, e1, e2⟩ := rh.obj n _ hn
  obtain ⟨z, y, xs, r, o, es, ep, h1, h2, h3, h4, h5⟩ := I.hok _ _ e1
  refine ⟨kx, xs, e1, e2, z, y, r, o, es, ep, h1, h2, h3, h4, ?_, h5⟩
  clear h4 h5 z e1 hn
  induction r generalizing kvs with
  | nil => intro x hx; exact nomatch hx
  | @cons p q ps qs hq t ih =>
    cases e2 with
    | cons d1 d2 =>
      intro x hx
      rcases List.mem_cons.mp hx with e | hx
      · subst e
        have := Qes I _ _ _ (GO rh d1.1 d1.2.1) (show RelV (.ref p.2.1) (Value.ref p.2.1) from rfl)
        rw [hq.1, hq.2.1] at this
        exact this
      · exact ih d2 x hx
theorem QeV (I : Inv X pins σ H s) (rh : Rh X.K R h H) {w : W} {v : V} {u : Value} {k : Tr} (r : Rw X.K R w v) (ru : RelV v u) (e : nrm w = some k) : ∃ b, v = .ref b ∧ u = .ref b ∧ (QM X.prog X.w).is s.heap k b := by
  obtain ⟨b, rfl⟩ := QdR rh r e
  cases (show u = Value.ref b from ru)
  exact ⟨b, rfl, rfl, Qes I _ _ _ (GO rh r e) (show RelV (.ref b) (Value.ref b) from rfl)⟩
theorem QaC {h' : Heap} {t' : Nat} {a : Addr} {kx kx' : List (Tr × Addr × V)} {xs' : List (Tr × Addr × Value)} (I : Inv X pins σ H s) (e : H a = some (.dT kx)) (z : kx'.length ≤ sizeLine) (lo : (a == sysModules) = false) (r : Qey kx' xs')
    (hs : Heap.SameBut a s.heap h') (dd : h'.DictOfH (QM X.prog X.w) a xs') : Inv X pins σ (upd H a (.dT kx')) { s with heap := h', toks := t' } := by
  obtain ⟨o, es, ep, h1, h2, h3, h4, _, h5⟩ := dd
  exact Qen I (by rw [e]; exact True.intro) hs ⟨o, h1⟩ ⟨z, lo, xs', r, o, es, ep, h1, h2, h3, h4, h5⟩
end
noncomputable def Qez (h : MH) : W → Option (List (W × W))
  | .ref n => match h[n]? with | some (.dct kvs) => some kvs | _ => none
  | _ => none
theorem QbY {h : MH} {a : W} {kvs : List (W × W)} (e : Qez h a = some kvs) : ∃ n, a = .ref n ∧ h[n]? = some (.dct kvs) := by
  cases a with
  | ref n =>
    simp only [Qez] at e
    split at e
    · rename_i us hn
      cases e
      exact ⟨n, rfl, hn⟩
    · cases e
  | _ => cases e
noncomputable def Qbc : ME := fun _ h => some (.ref h.length, h ++ [.dct []])
noncomputable def U0 (a b v : W) (h : MH) : Option MH := match a with
  | .ref n => match h[n]? with
    | some (.dct kvs) => (nrm b).bind fun k => if kvs.length < sizeLine then some (h.set n (.dct (Qfo kvs k b v))) else none
    | _ => none
  | _ => none
noncomputable def Qcs (a : W) (ws : List W) (h : MH) : Option (W × MH) := match ws with
  | [b, v] => (Qez h a).bind fun kvs => (nrm b).bind fun k => match Gm kvs k with
    | some x => some (x, h)
    | none => (U0 a b v h).map fun h' => (v, h')
  | _ => none
section
variable {X : Cx} {o i e a b : Expr} {mo mi mv ma mb : ME} {pos pos' : Pos}
theorem Qaj : PM X (.Dict [] [] pos) Qbc := ZE QbT fun σ H Q q => by
  obtain ⟨R, σi, h, w, h', rh, st, e, k⟩ := q
  cases e
  intro p hp
  obtain ⟨R3, x3, rh3, rw3⟩ := rh.new (mo := .dct []) (o := .dT []) hp fun R' x' => ⟨[], rfl, .nil⟩
  exact k R3 _ _ x3 rh3 rw3
theorem Qg2 (hu : X.A.units + 64 < cLine) : (QM X.prog X.w).room X.A.in1 := by show X.A.units + 1 + 8 < cLine; omega
theorem Qa7 {h h' : MH} {a b v : W} (e : U0 a b v h = some h') : ∃ n kvs k, a = .ref n ∧ h[n]? = some (.dct kvs) ∧ nrm b = some k ∧ kvs.length < sizeLine ∧ h' = h.set n (.dct (Qfo kvs k b v)) := by
  unfold U0 at e
  split at e
  · rename_i n
    split at e
    · rename_i kvs hn
      obtain ⟨k, e1, e2⟩ := Option.bind_eq_some_iff.mp e
      split at e2
      · rename_i hl
        cases e2
        exact ⟨n, kvs, k, rfl, hn, e1, hl, rfl⟩
      · cases e2
    · cases e
  · cases e
end
section
variable {prog : Program} {w : World} {A : Around} {E : Value → Shared → Prop} {s : Shared} {d a : Addr} {k : Tr} {xs : List (Tr × Addr × Value)}
theorem Qc2 {dflt : Value} {Q : Value → Shared → Prop} (hu : (QM prog w).room A) (hkey : (QM prog w).is s.heap k a) (hm : s.heap.DictOfH (QM prog w) d xs) (hsz : xs.length ≤ sizeLine)
    (h1 : ∀ p, atKey xs k = some p → Q p.2 { s with toks := s.toks + (QM prog w).draws k })
    (h2 : atKey xs k = none → ∀ h', h'.DictOfH (QM prog w) d (storedH xs k a dflt) → Heap.SameBut d s.heap h' → Q dflt { s with heap := h', toks := s.toks + (QM prog w).draws k }) : wpAny (model prog w) A (dictSetDefault d (.ref a) dflt) Q E s := by
  obtain ⟨o, es, ep, ho, hc, hd, he, his, hn⟩ := hm
  unfold dictSetDefault
  refine wpAny_holding (wpAny_bind ((QM prog w).pyHash hu hkey (wpAny_bind (wpAny_dictFind_heap (s := { s with toks := s.toks + (QM prog w).draws k }) hu hkey ho hd he his hn ?_ ?_))))
  · intro hno
    have hnot : k ∉ xs.map (·.1) := not_mem_keys_of_get hno
    have en := atKey_none_of_get hno
    refine wpAny_bind (wpAny_rule (wpAny_bind (wpAny_updateDictKeys (hz := by have e := size_of_entries he; omega) (s := { s with toks := s.toks + (QM prog w).draws k }) ho hd (wpAny_pure (h2 en _ ⟨_, _, ep + 1, Heap.get?_update_self _ ho (Obj.isFreed_of_dict (Obj.data_mapDictKeys hd _)), hc.mapDictKeys _, Obj.data_mapDictKeys hd _, ?_, ?_, ?_⟩ (Heap.SameBut.update ..))))))
    · rw [storedH_new en]
      simp [he, entryOfKey]
    · rw [storedH_new en]
      intro x hx
      rcases List.mem_append.mp hx with hx | hx
      · exact (QM prog w).keeps (his x hx) ho hd (Heap.SameBut.update ..)
      · cases List.mem_singleton.mp hx
        exact (QM prog w).keeps hkey ho hd (Heap.SameBut.update ..)
    · rw [storedH_new en, List.map_append, List.nodup_append]
      exact ⟨hn, by simp, fun x hx y hy e => hnot (by rw [List.map_cons, List.map_nil, List.mem_singleton] at hy; rw [e, hy] at hx; exact hx)⟩
  · intro j p hj
    refine wpAny_bind (wpAny_dictEntries (s := { s with toks := s.toks + (QM prog w).draws k }) ho hd ?_)
    rw [entry_at he j, hj]
    exact wpAny_bind (wpAny_rule (wpAny_pure (h1 p (atKey_of_get hn hj))))
end
theorem GQ {prog : Program} {w : World} (d a : Addr) (lo : (d == sysModules) = false) (dflt : Value) :
    MeetsIn prog w (Builtin.«dict.setdefault» ⟨[.ref d, .ref a, dflt], []⟩) (fun A R s => (QM prog w).room A.in1 ∧ ∃ k xs, (QM prog w).is s.heap k a ∧ s.heap.DictOfH (QM prog w) d xs ∧ xs.length ≤ sizeLine ∧
      (∀ p, atKey xs k = some p → R (.ok (.ret p.2)) { s with toks := s.toks + (QM prog w).draws k }) ∧
      (atKey xs k = none → ∀ h', h'.DictOfH (QM prog w) d (storedH xs k a dflt) → Heap.SameBut d s.heap h' → R (.ok (.ret dflt)) { s with heap := h', toks := s.toks + (QM prog w).draws k })) :=
  .of_wp fun A R s ⟨hu, k, xs, hkey, hm, hz, h1, h2⟩ => by
    unfold Builtin.«dict.setdefault» Builtin.Dict.keyAndDefault
    refine wpAny_bind (wpAny_bind (wpAny_notOrdered_dict hm.typeIs ?_))
    refine (show wpAny _ _ (pure (d, Value.ref a, some dflt)) _ _ s from wpAny_pure ?_)
    refine (show wpAny _ _ (if (d == sysModules) = true then _ else (dictSetDefault d (.ref a) dflt >>= _)) _ _ s from ?_)
    rw [if_neg (by rw [lo]; exact Bool.false_ne_true)]
    exact wpAny_bind (Qc2 hu hkey hm hz (fun p hp => wpAny_pure ⟨p.2, rfl, h1 p hp⟩) fun hn h' hm' hs' => wpAny_pure ⟨dflt, rfl, h2 hn h' hm' hs'⟩)
section
variable {X : Cx}
theorem QaT (hu : X.A.units + 64 < cLine) : Qcq X "dict.setdefault" Qcs := by
  intro pins s σ H x xs v us Q I rx rv q
  obtain ⟨R, h, a, ws, w, h', rh, ra, rws, e, k⟩ := q
  unfold Qcs at e
  split at e
  · rename_i b dv
    obtain ⟨kvs, e1, e2⟩ := Option.bind_eq_some_iff.mp e
    obtain ⟨kk, e3, e4⟩ := Option.bind_eq_some_iff.mp e2
    obtain ⟨n, rfl, hn⟩ := QbY e1
    obtain ⟨y, dz, rfl, rb, rd⟩ := Qgf rws
    obtain ⟨uy, uz, rfl, ry, rz⟩ := Qb6 rv
    obtain ⟨kx, xs, hx, dr, zl, lo, rr, dd⟩ := QeC I rh hn
    obtain ⟨c, rfl, rfl, hkey⟩ := QeV I rh rb ry e3
    have ra' := ra
    unfold Rw at ra'
    obtain ⟨hlt, rfl⟩ := ra'
    obtain rfl : v = Value.ref (R.ρ n) := rx
    have hlen := Paired.length dr
    have hlen2 := Paired.length rr
    have he := WU (k := kk) rr
    refine call_meetsIn PySem.F.slot_dict_setdefault dd.typeIs PySem.F.entry_dict_setdefault (PySem.F.args_dict_setdefault_3 _ _ _) (GQ _ c lo uz) ⟨Qg2 hu, kk, xs, hkey, dd, by omega, fun p hp => ?_, fun hno h'' dd' hs => ?_⟩
    · rw [hp] at he
      rcases KZ (k := kk) dr with z | ⟨w', v', z1, z2, z3⟩
      · rw [z.2] at he; exact he.elim
      · rw [z1] at e4
        cases e4
        rw [z2] at he
        exact ⟨v', H, I.tok _, he, k R H _ (Ext.refl _) rh z3⟩
    · rw [hno] at he
      rcases KZ (k := kk) dr with z | ⟨w', v', z1, z2, z3⟩
      · rw [z.1] at e4
        obtain ⟨h3, e5, e6⟩ := Option.map_eq_some_iff.mp e4
        cases e6
        obtain ⟨n', kvs', k', en, hn', hk', hl, rfl⟩ := Qa7 e5
        cases en
        rw [hn] at hn'; cases hn'
        rw [e3] at hk'; cases hk'
        have hz : (Qdb kx kk c dz).length ≤ sizeLine := by have := Qbi (kx := kx) (k := kk) (b := c) (v := dz); omega
        exact ⟨dz, _, QaC I hx hz lo (Qdv rr rz) hs dd', rz, k R _ _ (Ext.refl _) (rh.put hlt ⟨_, rfl, QcU dr rb e3 rd⟩) rd⟩
      · rw [z2] at he; exact he.elim
  · cases e
end
end Mi

namespace L2
open PySem PySem.Spec PyProof.Rows
section
variable {X : Cx} {pins : List (Addr × Obj)} {σ : St} {H : Hp} {s : Shared} {h' : Heap} {t' : Nat} {ch : List Addr}
theorem Inv.turnedL {H' : Hp} (I : Inv X pins σ H s) (k : ∀ b o, b ∉ ch → s.heap.get? b = some o → h'.get? b = some o) (hf : ∀ b ∈ ch, Gk X pins H b) (hs : ∀ b u, H b = some u → H' b = some u) (hn : ∀ b o, s.heap.get? b = some o → H b = none → H' b = none)
    (new : ∀ b u, H b = none → H' b = some u → ObjOk X.prog X.w H' h' b u) : Inv X pins σ H' { s with heap := h', toks := t' } := by
  have nit : ∀ b u, H b = some u → b ∉ ch := fun b u e z => by rw [(hf b z).1] at e; cases e
  refine I.step (g' := s.gens) (d' := s.drawn) (ch := ch) (fun b hb => ⟨(hf b hb).2.2.2.1, (hf b hb).2.1, (hf b hb).2.2.2.2.1, (hf b hb).2.2.2.2.2⟩) (fun b o _ _ hc e _ => k b o hc e) (fun b o _ _ hc e _ => ⟨o.slots, k b o hc e⟩) (fun b o _ e n => hn b o e n)
    (fun b o hc e => ⟨o, k b o hc e⟩) (fun b xs e => hs b _ e) (fun b o u e => hs b _ e) (fun b ps e => ⟨#[], by rw [hs b _ e]; simp⟩) (fun m hm => ?_) (fun b u e => ?_) I.bare
  · obtain ⟨o, es, ep, ho, r⟩ := hm
    exact ⟨o, es, ep, k _ o (fun z => (hf _ z).2.1 rfl) ho, r⟩
  · cases q : H b with
    | none => exact new b u q e
    | some u' =>
      rw [hs b u' q] at e
      cases e
      refine (I.hok b _ q).stay (fun c v hc q' => k c v ?_ q') (fun c z => hs c _ z) fun c xs z => hs c _ z
      rcases hc with z | z
      · rw [z]; exact nit b _ q
      · exact nit c _ z
theorem Inv.turnedN {T : Addr} {xs : List V} (I : Inv X pins σ H s) (k : ∀ b o, b ∉ ch → s.heap.get? b = some o → h'.get? b = some o) (hf : ∀ b ∈ ch, Gk X pins H b) (hT : s.heap.objs.size ≤ T) (new : ObjOk X.prog X.w (upd H T (.tup xs)) h' T (.tup xs)) :
    Inv X pins σ (upd H T (.tup xs)) { s with heap := h', toks := t' } := by
  have hn := I.hok.fresh hT
  refine I.turnedL k hf (fun b u e => by rw [QJ (Jv e hn)]; exact e) (fun b o e n => by rw [QJ (fun z => by rw [z] at e; exact absurd (Heap.lt_size e) (Nat.not_lt.mpr hT))]; exact n) fun b u n e => ?_
  by_cases z : b = T
  · subst z; rw [Jr] at e; cases e; exact new
  · rw [QJ z, n] at e; cases e
end
noncomputable def Itz (K : PySem.W.Frag) (a b : Addr) (n m : Nat) : It :=
  ⟨fun i H => i < min n m ∧ ∃ xs ys, SqL K H a xs ∧ SqL K H b ys ∧ xs.length = n ∧ ys.length = m,
   fun i H v H' => ∃ T x y, v = .ref T ∧ H T = none ∧ H' = upd H T (.tup [x, y]) ∧ (∀ xs, SqL K H a xs → xs[i]? = some x) ∧ ∀ ys, SqL K H b ys → ys[i]? = some y,
   fun i H => min n m ≤ i ∧ ∃ xs ys, SqL K H a xs ∧ SqL K H b ys ∧ xs.length = n ∧ ys.length = m⟩
theorem Qbb {P : Program} {w : World} {K : PySem.W.Frag} {elts : List Expr} {kk : Nat} {pos : Pos} (l1 l2 z TI TO i1 i2 : Addr) (n m : Nat) (D : ZipApart z TI TO i1 i2 l1 l2) : Turn P w K (.Tuple elts kk pos) (Itz K l1 l2 n m) [z, TI, TO, i1, i2] z
    (fun i h => i ≤ min n m ∧ IsZip h z TI TO .none ∧ IsPair h TI (.ref i1) (.ref i2) ∧ (∃ a b, IsPair h TO a b) ∧ h.IsListIter i1 l1 i ∧ h.IsListIter i2 l2 i) where
  mem := by simp
  obj := fun i h st b hb => by
    obtain ⟨_, hz, hTI, ⟨a, c, hTO⟩, ⟨o1, e1, c1, d1⟩, ⟨o2, e2, c2, d2⟩⟩ := st
    have hb' : b = z ∨ b = TI ∨ b = TO ∨ b = i1 ∨ b = i2 := by simpa using hb
    rcases hb' with rfl | rfl | rfl | rfl | rfl
    · exact ⟨_, hz, fun v q => nomatch q⟩
    · exact ⟨_, hTI, fun v q => nomatch q⟩
    · exact ⟨_, hTO, fun v q => nomatch q⟩
    · exact ⟨o1, e1, fun v q => by rw [d1] at q; cases q⟩
    · exact ⟨o2, e2, fun v q => by rw [d2] at q; cases q⟩
  keep := fun i h h' st k => by
    obtain ⟨hi, hz, hTI, ⟨a, c, hTO⟩, h1, h2⟩ := st
    exact ⟨hi, k z (by simp) _ hz, k TI (by simp) _ hTI, ⟨a, c, k TO (by simp) _ hTO⟩, h1.at fun o e => k i1 (by simp) o e, h2.at fun o e => k i2 (by simp) o e⟩
  item := by
    intro X hP hw hK hc i pins s σ H E I hf st hg
    subst hP hw hK
    obtain ⟨hi, xs, ys, hq1, hq2, hn1, hn2⟩ := hg
    obtain ⟨its1, rv1, p1, hz1⟩ := I.list hq1
    obtain ⟨its2, rv2, p2, hz2⟩ := I.list hq2
    have hl1 := rv1.length
    have hl2 := rv2.length
    obtain ⟨_, sz, sTI, sTO, s1, s2⟩ := st
    have W := WalksT.zip2 (prog := X.prog) (w := X.w) (I.ok.hd hc) z TI TO i1 i2 l1 l2 D its1.toArray its2.toArray
    have hmin : min its1.toArray.size its2.toArray.size = min n m := by rw [List.size_toArray, List.size_toArray]; omega
    refine W.item i s _ _ (by rw [hmin]; exact hi) ⟨sz, sTI, sTO, s1, s2, p1.isList, p2.isList⟩ fun T vals h' tk hP hT hTup hMid hk => ?_
    obtain ⟨u1, u2, hu1, hu2, rfl⟩ := hP
    refine ⟨.ref T, rfl, W.go elts kk pos i T _ _ _ hMid fun h'' hSt hk2 => ?_⟩
    obtain ⟨x, hx⟩ : ∃ x, xs[i]? = some x := ⟨xs[i]'(by omega), List.getElem?_eq_getElem _⟩
    obtain ⟨y, hy⟩ : ∃ y, ys[i]? = some y := ⟨ys[i]'(by omega), List.getElem?_eq_getElem _⟩
    obtain ⟨v1, hv1, r1⟩ := rv1.get hx
    obtain ⟨v2, hv2, r2⟩ := rv2.get hy
    have e1 : v1 = u1 := by have := hu1; rw [List.getElem?_toArray, hv1] at this; exact Option.some.inj this
    have e2 : v2 = u2 := by have := hu2; rw [List.getElem?_toArray, hv2] at this; exact Option.some.inj this
    subst e1 e2
    have hTw := W.apart i T _ hMid
    have hT2 : IsTup h'' T #[v1, v2] := by
      obtain ⟨o, ho, hc', q⟩ := hTup
      exact ⟨o, hk2 T o hTw ho, hc', q⟩
    have hHT := I.hok.fresh hT
    refine ⟨.ref T, _, I.turnedN (ch := [z, TO, i1, i2]) (t' := tk) (xs := [x, y]) (fun b o hb e => hk2 b o hb (hk b o hb e)) (fun b hb => hf b (by simp at hb ⊢; rcases hb with h | h | h | h <;> simp [h])) hT ⟨by simp [sizeLine_eq], [v1, v2], .cons r1 (.cons r2 .nil), hT2⟩, rfl,
      ⟨T, x, y, rfl, hHT, rfl, fun zs hzs => by rw [I.list_inj hzs hq1]; exact hx, fun zs hzs => by rw [I.list_inj hzs hq2]; exact hy⟩, ⟨hi, hSt.1, hSt.2.1, hSt.2.2.1, hSt.2.2.2.1, hSt.2.2.2.2.1⟩, fun b hb => ?_⟩
    rw [QJ (fun q => ?_)]
    · exact (hf b hb).1
    · obtain ⟨o, ho, _⟩ : ∃ o, s.heap.get? b = some o ∧ True := by
        obtain ⟨a, c, hTO⟩ := sTO
        obtain ⟨o1, e1, _⟩ := s1
        obtain ⟨o2, e2, _⟩ := s2
        have hb' : b = z ∨ b = TI ∨ b = TO ∨ b = i1 ∨ b = i2 := by simpa using hb
        rcases hb' with rfl | rfl | rfl | rfl | rfl
        · exact ⟨_, sz, trivial⟩
        · exact ⟨_, sTI, trivial⟩
        · exact ⟨_, hTO, trivial⟩
        · exact ⟨o1, e1, trivial⟩
        · exact ⟨o2, e2, trivial⟩
      rw [q] at ho
      exact absurd (Heap.lt_size ho) (Nat.not_lt.mpr hT)
  done := by
    intro X hP hw hK hc i pins s σ H E I hf st hg
    subst hP hw hK
    obtain ⟨hi, xs, ys, hq1, hq2, hn1, hn2⟩ := hg
    obtain ⟨its1, rv1, p1, hz1⟩ := I.list hq1
    obtain ⟨its2, rv2, p2, hz2⟩ := I.list hq2
    have hl1 := rv1.length
    have hl2 := rv2.length
    obtain ⟨hi2, sz, sTI, sTO, s1, s2⟩ := st
    have W := WalksT.zip2 (prog := X.prog) (w := X.w) (I.ok.hd hc) z TI TO i1 i2 l1 l2 D its1.toArray its2.toArray
    have hmin : min its1.toArray.size its2.toArray.size = i := by rw [List.size_toArray, List.size_toArray]; omega
    refine W.done s _ _ (by rw [hmin]; exact ⟨sz, sTI, sTO, s1, s2, p1.isList, p2.isList⟩) fun h' tk hk => ⟨rfl, ?_⟩
    exact I.turnedL (ch := [z, TO, i1, i2]) (fun b o hb e => hk b o hb e) (fun b hb => hf b (by simp at hb ⊢; rcases hb with h | h | h | h <;> simp [h])) (fun _ _ e => e) (fun _ _ _ n => n) fun b u n e => by rw [n] at e; cases e
  self := fun _ _ _ _ _ st h => wpAny_pyIter_zip st.2.1 h
noncomputable def Qjj (K : PySem.W.Frag) (ta : TA) : TI := fun σ H R => ta σ H fun vs H1 => ∃ a b xs ys, vs = [.ref a, .ref b] ∧ SqL K H1 a xs ∧ SqL K H1 b ys ∧ R (Itz K a b xs.length ys.length) H1
theorem Qe6 {X : Cx} {elts : List Expr} {kk : Nat} {tpos : Pos} {a b : Expr} {ta : TA} {p pos : Pos} (hg : Gl X "zip") (hm : X.mg "zip" = none) (ha : PA X [a, b] ta) (hs : starEach [a, b] X.env = [(false, eval a X.env), (false, eval b X.env)] := by rfl) (hs2 : starEach [b] X.env = [(false, eval b X.env)] := by rfl) :
    PI X (.Tuple elts kk tpos) (.Call (.Name "zip" p) [a, b] [] pos) (Qjj X.K ta) := by
  intro pins s σ H R I h
  refine Call_ (KP I hg hm boot_zip (PyProof.Rows.callWith_type1 (thn (ha pos pins s σ H _ I h) fun us s1 ⟨vs, H1, I1, r1, q1⟩ => ?_) (by rw [hs, hs2]) (by rw [hs2]; rfl)))
  obtain ⟨ad, bd, xs, ys, e, hq1, hq2, q⟩ := q1
  subst e
  obtain ⟨u1, u2, rfl, ru1, ru2⟩ := Qb6 r1
  cases ru1
  cases ru2
  obtain ⟨its1, rv1, p1, hz1⟩ := I1.list hq1
  obtain ⟨its2, rv2, p2, hz2⟩ := I1.list hq2
  have hlt1 : ad < s1.heap.objs.size := let ⟨_, ho, _⟩ := p1.isList; Heap.lt_size ho
  have hlt2 : bd < s1.heap.objs.size := let ⟨_, ho, _⟩ := p2.isList; Heap.lt_size ho
  refine call_zip_2 p1.isList p2.isList fun h' hz hTI hTO hi1 hi2 hsz hk => wpAny_pyIter_zip hz ?_
  refine ⟨s1.heap.objs.size + 4, [s1.heap.objs.size + 4, s1.heap.objs.size + 2, s1.heap.objs.size + 3, s1.heap.objs.size, s1.heap.objs.size + 1], _, _, H1, rfl, I1.kept (t' := s1.toks) hk, Qbb ad bd _ _ _ _ _ xs.length ys.length (PySem.W.ktu_apart _ _ _ hlt1 hlt2), ⟨Nat.zero_le _, hz, hTI, ⟨_, _, hTO⟩, hi1, hi2⟩, fun b hb => ?_, q⟩
  have hb' : s1.heap.objs.size ≤ b := by
    simp at hb
    rcases hb with h | h | h | h | h <;> (rw [h]; first | exact Nat.le_refl _ | exact Nat.le_add_right _ _)
  exact I1.fpOk hb' (I1.hok.fresh hb')
end L2
namespace Mi
open PySem PySem.Spec PyProof.Rows L2
noncomputable def Qji (ms : MA) : MI := fun σ h => (ms σ h).bind fun p => match p.1 with
  | [.lst ws] => some (ws.reverse, none, p.2)
  | _ => none
noncomputable def Qcx (as bs : List W) : List W := (as.zip bs).map fun q => .tup [q.1, q.2]
noncomputable def Qb1 (ms : MA) : MI := fun σ h => (ms σ h).bind fun p => match p.1 with
  | [.lst as, .lst bs] => some (Qcx as bs, none, p.2)
  | _ => none
section
variable {K : PySem.W.Frag} {R : Rn}
theorem Qbz {a b : Addr} {xs ys : List V} {as bs : List W} (hq1 : SqL K R.F a xs) (hq2 : SqL K R.F b ys) (r1 : Rws K R as xs) (r2 : Rws K R bs ys) : ItOk K R (Itz K a b xs.length ys.length) (Qcx as bs) none where
  go := fun i w R' h H x rh _ e => by
    have hl := (List.getElem?_eq_some_iff.mp e).1
    have l1 := r1.length
    have l2 := r2.length
    unfold Qcx at hl
    rw [List.length_map, List.length_zip] at hl
    exact ⟨by omega, xs, ys, Zn (fun b o z => rh.sub b o (x.f b o z)) hq1, Zn (fun b o z => rh.sub b o (x.f b o z)) hq2, rfl, rfl⟩
  yld := fun i w R' h H x H' e rh _ ew hy => by
    obtain ⟨T, x1, y1, rfl, hT, rfl, hx, hy⟩ := hy
    unfold Qcx at ew
    rw [List.getElem?_map] at ew
    obtain ⟨⟨w1, w2⟩, h1, rfl⟩ := Option.map_eq_some_iff.mp ew
    rw [List.getElem?_zip_eq_some] at h1
    obtain ⟨v1, g1, g2⟩ := r1.get h1.1
    obtain ⟨v2, g3, g4⟩ := r2.get h1.2
    have e1 := hx xs (Zn (fun b o z => rh.sub b o (e.f b o z)) hq1)
    rw [g1] at e1; cases e1
    have e2 := hy ys (Zn (fun b o z => rh.sub b o (e.f b o z)) hq2)
    rw [g3] at e2; cases e2
    exact rh.tup hT (Rws.cons (Rw.mono e _ _ g2) (Rws.cons (Rw.mono e _ _ g4) Rws.nil))
  stop := fun i R' h H x rh _ hl => by
    have l1 := r1.length
    have l2 := r2.length
    unfold Qcx at hl
    rw [List.length_map, List.length_zip] at hl
    exact ⟨by omega, xs, ys, Zn (fun b o z => rh.sub b o (x.f b o z)) hq1, Zn (fun b o z => rh.sub b o (x.f b o z)) hq2, rfl, rfl⟩
end
section
variable {X : Cx} {tg a b : Expr} {ms : MA} {p pos tpos : Pos} {elts : List Expr} {kk : Nat}
theorem Qdf (hg : Gl X "zip") (hm : X.mg "zip" = none) (ha : PMA X [a, b] ms) (hs : starEach [a, b] X.env = [(false, eval a X.env), (false, eval b X.env)] := by rfl) (hs2 : starEach [b] X.env = [(false, eval b X.env)] := by rfl) : PMI X (.Tuple elts kk tpos) (.Call (.Name "zip" p) [a, b] [] pos) (Qb1 ms) :=
  Ub (Qe6 hg hm ha hs hs2) fun σ H C ⟨R, σi, h, items, src, h', rh, st, e, k⟩ => by
    obtain ⟨⟨ws, h1⟩, e1, e2⟩ := Option.bind_eq_some_iff.mp e
    refine ⟨R, σi, h, ws, h1, rh, st, e1, fun R1 H1 vs x1 rh1 rv => ?_⟩
    split at e2
    · rename_i us vs' hj
      simp only at hj
      subst hj
      cases e2
      obtain ⟨v, v2, rfl, r1, r2⟩ := Qgf rv
      unfold Rw at r1 r2
      obtain ⟨ad, xs, rfl, hF, rr⟩ := r1
      obtain ⟨bd, ys, rfl, hF2, rr2⟩ := r2
      exact ⟨ad, bd, xs, ys, rfl, SqL.of (rh1.sub _ _ hF), SqL.of (rh1.sub _ _ hF2), k R1 H1 _ x1 rh1 (Qbz (SqL.of hF) (SqL.of hF2) rr rr2)⟩
    · cases e2
end
end Mi

namespace My3
inductive Cd where
  | ei | ag | oo | en | ot
  deriving DecidableEq
structure En where
  kd : Cd
  fs : Nat
  md : Nat
noncomputable def ch : Cd → Int
  | .ei => 1
  | .ag => 1
  | .en => -1
  | _ => 0
noncomputable def lev (ls : List Cd) : Nat → Int
  | 0 => 0
  | k + 1 => lev ls k + (match ls[k]? with | some c => ch c | none => 0)
noncomputable def stp (k : Nat) (c : Cd) (st : List En) : Option (List En) := match c with
  | .ei => some (⟨.ei, k, 0⟩ :: st)
  | .ag => some (⟨.ag, k, 0⟩ :: st)
  | .oo => match st with
    | e :: r => if e.kd = .ei then some (⟨.oo, e.fs, k⟩ :: r) else none
    | [] => none
  | .en => match st with
    | e :: r => if e.kd = .ei then none else some r
    | [] => none
  | .ot => some st
theorem ZS {ls : List Cd} {k : Nat} {c : Cd} (e : ls[k]? = some c) : lev ls (k + 1) = lev ls k + ch c := by
  simp only [lev, e]
structure Fit (ls : List Cd) (k t : Nat) (e : En) : Prop where
  lt : e.fs < k
  at_ : ls[e.fs]? = some .ei ∨ ls[e.fs]? = some .ag
  lv : lev ls (e.fs + 1) + t = lev ls k
  ge : ∀ j, e.fs < j → j ≤ k → lev ls (e.fs + 1) ≤ lev ls j
  kd : e.kd = .ei ∨ e.kd = .ag ∨ e.kd = .oo
  ei : e.kd = .ei → ∀ j, e.fs < j → j < k → lev ls j = lev ls (e.fs + 1) → ls[j]? ≠ some .oo
  oo : e.kd = .oo → e.fs < e.md ∧ e.md < k ∧ ls[e.md]? = some .oo ∧ lev ls e.md = lev ls (e.fs + 1) ∧ ∀ j, e.fs < j → j < e.md → lev ls j = lev ls (e.fs + 1) → ls[j]? ≠ some .oo
noncomputable def Qcn (ls : List Cd) (k : Nat) : Nat → List En → Prop
  | _, [] => True
  | t, e :: r => Fit ls k t e ∧ Qcn ls k (t + 1) r
structure Mat (ls : List Cd) (k : Nat) (e : En) : Prop where
  fit : Fit ls k 0 e
  en : ls[k]? = some .en
  kd : e.kd = .ag ∨ e.kd = .oo
theorem QbE {ls : List Cd} {k t t' : Nat} {c : Cd} {e : En} (hc : ls[k]? = some c) (h : Fit ls k t e) (ht : (t' : Int) = t + ch c) (ho : c = .oo → 0 < t) : Fit ls (k + 1) t' e := by
  have hl := ZS hc
  have hlv := h.lv
  have hlt := h.lt
  refine ⟨by omega, h.at_, by omega, fun j h1 h2 => ?_, h.kd, fun q j h1 h2 h3 => ?_, fun q => ?_⟩
  · by_cases z : j ≤ k
    · exact h.ge j h1 z
    · have : j = k + 1 := by omega
      subst this; omega
  · by_cases z : j < k
    · exact h.ei q j h1 z h3
    · have : j = k := by omega
      subst this
      rw [hc]
      intro w
      have w' : c = .oo := by simpa using w
      have := ho w'
      omega
  · obtain ⟨a, b, cc, d, f⟩ := h.oo q
    exact ⟨a, by omega, cc, d, f⟩
theorem J0 {ls : List Cd} {k : Nat} {c : Cd} (hc : ls[k]? = some c) : ∀ (r : List En) (t t' : Nat), Qcn ls k t r → (t' : Int) = t + ch c → (c = .oo → 0 < t) → Qcn ls (k + 1) t' r
  | [], _, _, _, _, _ => True.intro
  | e :: r, t, t', h, ht, ho => ⟨QbE hc h.1 ht ho, J0 hc r (t + 1) (t' + 1) h.2 (by push_cast; omega) fun _ => by omega⟩
theorem QbC {ls : List Cd} {k : Nat} {c : Cd} {st st' : List En} (hc : ls[k]? = some c) (h : Qcn ls k 0 st) (e : stp k c st = some st') : Qcn ls (k + 1) 0 st' := by
  have hl := ZS hc
  have new : ∀ kd : Cd, (kd = .ei ∨ kd = .ag) → c = kd → Fit ls (k + 1) 0 ⟨kd, k, 0⟩ := fun kd hk e => by
    refine ⟨by simp, ?_, by simp, fun j h1 h2 => ?_, by rcases hk with z | z <;> simp [z], fun q j h1 h2 => ?_, fun q => ?_⟩
    · rw [hc, e]; rcases hk with z | z <;> simp [z]
    · have h1' : k < j := h1
      have : j = k + 1 := by omega
      subst this; exact Int.le_refl _
    · have h1' : k < j := h1
      omega
    · have q' : kd = .oo := q
      rcases hk with z | z <;> rw [z] at q' <;> cases q'
  cases c with
  | ei => cases e; exact ⟨new _ (.inl rfl) rfl, J0 hc st 0 1 h (by simp [ch]) (by simp)⟩
  | ag => cases e; exact ⟨new _ (.inr rfl) rfl, J0 hc st 0 1 h (by simp [ch]) (by simp)⟩
  | ot => cases e; exact J0 hc st 0 0 h (by simp [ch]) (by simp)
  | oo =>
    cases st with
    | nil => cases e
    | cons a r =>
      simp only [stp] at e
      split at e
      · rename_i ha
        cases e
        have hf := h.1
        have hlv := hf.lv
        have hlt := hf.lt
        refine ⟨⟨by show a.fs < k + 1; omega, hf.at_, ?_, fun j h1 h2 => ?_, .inr (.inr rfl), fun q => (by cases q), fun _ => ⟨hlt, Nat.lt_succ_self _, hc, ?_, hf.ei ha⟩⟩, J0 hc r 1 1 h.2 (by simp [ch]) (by simp)⟩
        · show lev ls (a.fs + 1) + ((0 : Nat) : Int) = lev ls (k + 1)
          rw [hl]; simp [ch]; simp at hlv; exact hlv
        · by_cases z : j ≤ k
          · exact hf.ge j h1 z
          · have : j = k + 1 := by omega
            subst this
            show lev ls (a.fs + 1) ≤ _
            rw [hl]; simp [ch]; simp at hlv; omega
        · show lev ls k = lev ls (a.fs + 1)
          simp at hlv; exact hlv.symm
      · cases e
  | en =>
    cases st with
    | nil => cases e
    | cons a r =>
      simp only [stp] at e
      split at e
      · cases e
      · cases e
        exact J0 hc _ 1 0 h.2 (by simp [ch]) (by simp)
theorem Qeh {ls : List Cd} {k : Nat} {a : En} {r st' : List En} (hc : ls[k]? = some .en) (h : Qcn ls k 0 (a :: r)) (e : stp k .en (a :: r) = some st') : Mat ls k a := by
  simp only [stp] at e
  split at e
  · cases e
  · rename_i ha
    refine ⟨h.1, hc, ?_⟩
    rcases h.1.kd with z | z | z
    · exact absurd z ha
    · exact .inl z
    · exact .inr z
structure Beh (ls : List Cd) (k : Nat) (c : Cd) (j : Nat) : Prop where
  lt : k < j
  at_ : ls[j]? = some c
  lv : lev ls j = lev ls (k + 1)
  no : ∀ i, k < i → i < j → lev ls i = lev ls (k + 1) → ls[i]? ≠ some c
  ge : ∀ i, k < i → i ≤ j → lev ls (k + 1) ≤ lev ls i
structure Ahd (ls : List Cd) (k j : Nat) : Prop where
  lt : j < k
  lv : lev ls k = lev ls j + 1
  no : ∀ i, j < i → i < k → lev ls k ≠ lev ls i + 1
  ge : ∀ i, j < i → i ≤ k → lev ls k ≤ lev ls i
theorem QcR {ls : List Cd} {k : Nat} {e : En} (m : Mat ls k e) : Beh ls e.fs .en k := by
  have h := m.fit
  refine ⟨h.lt, m.en, by have := h.lv; simp at this; omega, fun i h1 h2 h3 q => ?_, h.ge⟩
  have := ZS q
  have g := h.ge (i + 1) (by omega) (by omega)
  simp [ch] at this
  omega
theorem Qbl {ls : List Cd} {k : Nat} {e : En} (m : Mat ls k e) : Ahd ls k e.fs := by
  have h := m.fit
  have hlv := h.lv
  have e1 : lev ls (e.fs + 1) = lev ls e.fs + 1 := by
    rcases h.at_ with q | q <;> exact ZS q
  refine ⟨h.lt, by simp at hlv; omega, fun i h1 h2 h3 => ?_, fun i h1 h2 => by have g := h.ge i h1 h2; simp at hlv; omega⟩
  have g := h.ge i h1 (by omega)
  simp at hlv
  omega
theorem QeE {ls : List Cd} {k : Nat} {e : En} (m : Mat ls k e) (ho : e.kd = .oo) : Beh ls e.fs .oo e.md := by
  obtain ⟨a, b, c, d, f⟩ := m.fit.oo ho
  exact ⟨a, c, d, f, fun i h1 h2 => m.fit.ge i h1 (by omega)⟩
theorem QaK {ls : List Cd} {k : Nat} {e : En} (m : Mat ls k e) (ho : e.kd = .oo) : Beh ls e.md .en k := by
  obtain ⟨a, b, c, d, f⟩ := m.fit.oo ho
  have h := m.fit
  have hlv := h.lv
  have e1 := ZS c
  simp [ch] at e1
  simp at hlv
  refine ⟨b, m.en, by omega, fun i h1 h2 h3 q => ?_, fun i h1 h2 => by have g := h.ge i (by omega) h2; omega⟩
  have e2 := ZS q
  have g := h.ge (i + 1) (by omega) (by omega)
  simp [ch] at e2
  omega
end My3

namespace My4
open My3
noncomputable def pil (ls : List Cd) : Nat → Option (List En)
  | 0 => some []
  | k + 1 => (pil ls k).bind fun st => match ls[k]? with | some c => stp k c st | none => none
structure Bk where
  trs : List (Nat × Nat × Nat)
  st : List Nat
  rws : List (Option Nat)
noncomputable def top (b : Bk) (f : Nat × Nat × Nat → Nat × Nat × Nat) : List (Nat × Nat × Nat) := match b.st with
  | t :: _ => b.trs.modify t f
  | [] => b.trs
noncomputable def bst (k : Nat) (c : Cd) (b : Bk) : Bk := match c with
  | .ei => ⟨b.trs ++ [(k, k, k)], b.trs.length :: b.st, b.rws ++ [some b.trs.length]⟩
  | .ag => ⟨b.trs ++ [(k, k, k)], b.trs.length :: b.st, b.rws ++ [some b.trs.length]⟩
  | .oo => ⟨top b fun x => (x.1, k, x.2.2), b.st, b.rws ++ [b.st.head?]⟩
  | .en => ⟨top b fun x => (x.1, x.2.1, k), b.st.tail, b.rws ++ [b.st.head?]⟩
  | .ot => ⟨b.trs, b.st, b.rws ++ [b.st.head?]⟩
noncomputable def bks (ls : List Cd) : Nat → Bk
  | 0 => ⟨[], [], []⟩
  | k + 1 => match ls[k]? with | some c => bst k c (bks ls k) | none => bks ls k
noncomputable def Kd (ls : List Cd) (e : En) : Prop := (e.kd = .ag ∧ ls[e.fs]? = some .ag) ∨ ((e.kd = .ei ∨ e.kd = .oo) ∧ ls[e.fs]? = some .ei)
inductive Op (ls : List Cd) (trs : List (Nat × Nat × Nat)) : List Nat → List En → Prop where
  | nil : Op ls trs [] []
  | cons {t : Nat} {e : En} {st : List Nat} {p : List En} (x : ∃ md en, trs[t]? = some (e.fs, md, en) ∧ (e.kd = .oo → md = e.md)) (k : Kd ls e) (n : t ∉ st) (r : Op ls trs st p) : Op ls trs (t :: st) (e :: p)
structure Cl (ls : List Cd) (fs md en : Nat) (e : En) : Prop where
  m : Mat ls en e
  f : e.fs = fs
  d : e.kd = .oo → e.md = md
  k : Kd ls e
structure BI (ls : List Cd) (k : Nat) (b : Bk) (p : List En) : Prop where
  len : b.rws.length = k
  op : Op ls b.trs b.st p
  cl : ∀ t x, b.trs[t]? = some x → t ∉ b.st → ∃ e, Cl ls x.1 x.2.1 x.2.2 e
  ei : ∀ j, j < k → (ls[j]? = some .ei ∨ ls[j]? = some .ag) → ∃ t md en, b.rws[j]? = some (some t) ∧ b.trs[t]? = some (j, md, en)
  oo : ∀ j, j < k → ls[j]? = some .oo → ∃ t fs en, b.rws[j]? = some (some t) ∧ b.trs[t]? = some (fs, j, en) ∧ ls[fs]? = some .ei ∧ ∀ i : Nat, b.st[i]? = some t → ∃ e : En, p[i]? = some e ∧ e.kd = .oo
  en : ∀ j, j < k → ls[j]? = some .en → ∃ t fs md, b.rws[j]? = some (some t) ∧ b.trs[t]? = some (fs, md, j) ∧ t ∉ b.st
theorem Op.lt {ls : List Cd} {trs : List (Nat × Nat × Nat)} {st : List Nat} {p : List En} (h : Op ls trs st p) : ∀ t ∈ st, t < trs.length := by
  induction h with
  | nil => intro t ht; simp at ht
  | cons x k n r ih =>
    intro t ht
    rcases List.mem_cons.mp ht with rfl | ht
    · obtain ⟨md, en, e, _⟩ := x
      exact (List.getElem?_eq_some_iff.mp e).1
    · exact ih t ht
theorem Op.imp {ls : List Cd} {trs trs' : List (Nat × Nat × Nat)} {st : List Nat} {p : List En} (h : Op ls trs st p) (q : ∀ t ∈ st, trs'[t]? = trs[t]?) : Op ls trs' st p := by
  induction h with
  | nil => exact .nil
  | cons x k n r ih => exact .cons (by rw [q _ List.mem_cons_self]; exact x) k n (ih fun t ht => q t (List.mem_cons_of_mem _ ht))
theorem Uc {α : Type} {l : List α} {x : α} {t : Nat} (h : t < l.length) : (l ++ [x])[t]? = l[t]? := List.getElem?_append_left h
theorem Xl {α : Type} {l : List α} {t : Nat} {x : α} (h : l[t]? = some x) : t < l.length := (List.getElem?_eq_some_iff.mp h).1
theorem ZN {α : Type} {l : List α} {x y : α} {j k : Nat} (hl : l.length = k) (hj : j < k) (h : l[j]? = some y) : (l ++ [x])[j]? = some y := by rw [Uc (by omega)]; exact h
theorem W1 {α : Type} {l : List α} {x : α} {k : Nat} (hl : l.length = k) : (l ++ [x])[k]? = some x := by subst hl; simp
theorem Qcl {l : List (Nat × Nat × Nat)} {t s : Nat} {f : Nat × Nat × Nat → Nat × Nat × Nat} (h : t ≠ s) : (l.modify t f)[s]? = l[s]? := by
  rw [List.getElem?_modify]; simp [h]
theorem Qcf {l : List (Nat × Nat × Nat)} {t : Nat} {f : Nat × Nat × Nat → Nat × Nat × Nat} {x : Nat × Nat × Nat} (h : l[t]? = some x) : (l.modify t f)[t]? = some (f x) := by
  rw [List.getElem?_modify, h]; simp
theorem QdQ {ls : List Cd} {k : Nat} {b : Bk} {p p' : List En} {c : Cd} (h : BI ls k b p) (hf : Qcn ls k 0 p) (hc : ls[k]? = some c) (e : stp k c p = some p') : BI ls (k + 1) (bst k c b) p' := by
  have old : ∀ j, j < k + 1 → j ≠ k → j < k := fun j a b => by omega
  have opn : (c = .ei ∨ c = .ag) → p' = ⟨c, k, 0⟩ :: p → BI ls (k + 1) ⟨b.trs ++ [(k, k, k)], b.trs.length :: b.st, b.rws ++ [some b.trs.length]⟩ p' := fun hk hp => by
    subst hp
    have hn : b.trs.length ∉ b.st := fun z => Nat.lt_irrefl _ (h.op.lt _ z)
    have keep : ∀ t x, b.trs[t]? = some x → (b.trs ++ [(k, k, k)])[t]? = some x := fun t x z => by rw [Uc (Xl z)]; exact z
    refine ⟨by simp [h.len], .cons ⟨k, k, by simp, fun z => ?_⟩ ?_ hn (h.op.imp fun t ht => Uc (h.op.lt t ht)), fun t x hx hm => ?_, fun j hj hl => ?_, fun j hj hl => ?_, fun j hj hl => ?_⟩
    · rcases hk with z' | z' <;> rw [z'] at z <;> cases z
    · unfold Kd
      rcases hk with z' | z'
      · exact .inr ⟨.inl z', by rw [hc, z']⟩
      · exact .inl ⟨z', by rw [hc, z']⟩
    · have ht : t ≠ b.trs.length := fun z => hm (by rw [z]; exact List.mem_cons_self)
      have ht' : t < b.trs.length := by have := Xl hx; simp at this; omega
      rw [Uc ht'] at hx
      exact h.cl t x hx fun z => hm (List.mem_cons_of_mem _ z)
    · by_cases z : j = k
      · subst z
        exact ⟨b.trs.length, j, j, W1 h.len, by simp⟩
      · obtain ⟨t, md, en, h1, h2⟩ := h.ei j (old j hj z) hl
        exact ⟨t, md, en, ZN h.len (old j hj z) h1, keep _ _ h2⟩
    · by_cases z : j = k
      · subst z; rw [hc] at hl; rcases hk with z' | z' <;> rw [z'] at hl <;> cases hl
      · obtain ⟨t, fs, en, h1, h2, h3, h4⟩ := h.oo j (old j hj z) hl
        refine ⟨t, fs, en, ZN h.len (old j hj z) h1, keep _ _ h2, h3, fun i hi => ?_⟩
        cases i with
        | zero => simp at hi; have := Xl h2; omega
        | succ i => simp at hi; obtain ⟨e, h5, h6⟩ := h4 i hi; exact ⟨e, by simpa using h5, h6⟩
    · by_cases z : j = k
      · subst z; rw [hc] at hl; rcases hk with z' | z' <;> rw [z'] at hl <;> cases hl
      · obtain ⟨t, fs, md, h1, h2, h3⟩ := h.en j (old j hj z) hl
        refine ⟨t, fs, md, ZN h.len (old j hj z) h1, keep _ _ h2, fun q => ?_⟩
        rcases List.mem_cons.mp q with q | q
        · have := Xl h2; omega
        · exact h3 q
  cases c with
  | ei => exact opn (.inl rfl) (by cases e; rfl)
  | ag => exact opn (.inr rfl) (by cases e; rfl)
  | ot =>
    cases e
    refine ⟨by simp [bst, h.len], h.op, h.cl, fun j hj hl => ?_, fun j hj hl => ?_, fun j hj hl => ?_⟩
    · by_cases z : j = k
      · subst z; rw [hc] at hl; rcases hl with hl | hl <;> cases hl
      · obtain ⟨t, md, en, h1, h2⟩ := h.ei j (old j hj z) hl
        exact ⟨t, md, en, ZN h.len (old j hj z) h1, h2⟩
    · by_cases z : j = k
      · subst z; rw [hc] at hl; cases hl
      · obtain ⟨t, fs, en, h1, h2, h3⟩ := h.oo j (old j hj z) hl
        exact ⟨t, fs, en, ZN h.len (old j hj z) h1, h2, h3⟩
    · by_cases z : j = k
      · subst z; rw [hc] at hl; cases hl
      · obtain ⟨t, fs, md, h1, h2, h3⟩ := h.en j (old j hj z) hl
        exact ⟨t, fs, md, ZN h.len (old j hj z) h1, h2, h3⟩
  | oo =>
    cases p with
    | nil => cases e
    | cons a r =>
      simp only [stp] at e
      split at e
      · rename_i ha
        cases e
        obtain ⟨trs, st, rws⟩ := b
        have hop := h.op
        cases hop with
        | @cons t _ st _ x kk n q =>
          obtain ⟨md, en, ht, hmd⟩ := x
          simp only at ht hmd
          have hls : ls[a.fs]? = some .ei := by
            rcases kk with z | z
            · rw [ha] at z; cases z.1
            · exact z.2
          have hmod : ∀ s, s ≠ t → (trs.modify t fun x => (x.1, k, x.2.2))[s]? = trs[s]? := fun s hs => Qcl (Ne.symm hs)
          have hmt : (trs.modify t fun x => (x.1, k, x.2.2))[t]? = some (a.fs, k, en) := Qcf ht
          refine ⟨by simp [bst, h.len], ?_, fun s x hx hm => ?_, fun j hj hl => ?_, fun j hj hl => ?_, fun j hj hl => ?_⟩
          · exact .cons ⟨k, en, hmt, fun _ => rfl⟩ (.inr ⟨.inr rfl, hls⟩) n (q.imp fun s hs => hmod s fun z => n (z ▸ hs))
          · have hst : s ≠ t := fun z => hm (by rw [z]; exact List.mem_cons_self)
            have hx' : trs[s]? = some x := by rw [← hmod s hst]; exact hx
            exact h.cl s x hx' hm
          · by_cases z : j = k
            · subst z; rw [hc] at hl; rcases hl with hl | hl <;> cases hl
            · obtain ⟨s, md', en', h1, h2⟩ := h.ei j (old j hj z) hl
              by_cases hs : s = t
              · subst hs
                rw [ht] at h2; cases h2
                exact ⟨s, k, en, ZN h.len (old _ hj z) h1, hmt⟩
              · exact ⟨s, md', en', ZN h.len (old j hj z) h1, (hmod s hs).trans h2⟩
          · by_cases z : j = k
            · rw [z]
              refine ⟨t, a.fs, en, W1 h.len, hmt, hls, fun i hi => ?_⟩
              cases i with
              | zero => exact ⟨_, rfl, rfl⟩
              | succ i => simp [bst] at hi; exact absurd (List.mem_iff_getElem?.mpr ⟨i, hi⟩) n
            · obtain ⟨s, fs, en', h1, h2, h3, h4⟩ := h.oo j (old j hj z) hl
              by_cases hs : s = t
              · subst hs
                obtain ⟨e0, h5, h6⟩ := h4 0 (by simp)
                simp at h5; subst h5
                rw [ha] at h6; cases h6
              · refine ⟨s, fs, en', ZN h.len (old j hj z) h1, (hmod s hs).trans h2, h3, fun i hi => ?_⟩
                obtain ⟨e0, h5, h6⟩ := h4 i hi
                cases i with
                | zero => simp [bst] at hi; exact absurd hi.symm hs
                | succ i => exact ⟨e0, by simpa using h5, h6⟩
          · by_cases z : j = k
            · subst z; rw [hc] at hl; cases hl
            · obtain ⟨s, fs, md', h1, h2, h3⟩ := h.en j (old j hj z) hl
              have hs : s ≠ t := fun z => h3 (by rw [z]; exact List.mem_cons_self)
              exact ⟨s, fs, md', ZN h.len (old j hj z) h1, (hmod s hs).trans h2, h3⟩
      · cases e
  | en =>
    cases p with
    | nil => cases e
    | cons a r =>
      have hm0 := Qeh hc hf e
      simp only [stp] at e
      split at e
      · cases e
      · rename_i ha
        cases e
        obtain ⟨trs, st, rws⟩ := b
        have hop := h.op
        cases hop with
        | @cons t _ st _ x kk n q =>
          obtain ⟨md, en, ht, hmd⟩ := x
          simp only at ht hmd
          have hmod : ∀ s, s ≠ t → (trs.modify t fun x => (x.1, x.2.1, k))[s]? = trs[s]? := fun s hs => Qcl (Ne.symm hs)
          have hmt : (trs.modify t fun x => (x.1, x.2.1, k))[t]? = some (a.fs, md, k) := Qcf ht
          refine ⟨by simp [bst, h.len], ?_, fun s x hx hm => ?_, fun j hj hl => ?_, fun j hj hl => ?_, fun j hj hl => ?_⟩
          · exact q.imp fun s hs => hmod s fun z => n (z ▸ hs)
          · by_cases hs : s = t
            · subst hs
              have hx' : (trs.modify s fun x => (x.1, x.2.1, k))[s]? = some x := hx
              rw [hmt] at hx'
              cases hx'
              exact ⟨a, hm0, rfl, fun z => (hmd z).symm, kk⟩
            · have hx' : trs[s]? = some x := by rw [← hmod s hs]; exact hx
              exact h.cl s x hx' fun z => by
                rcases List.mem_cons.mp z with z | z
                · exact hs z
                · exact hm z
          · by_cases z : j = k
            · subst z; rw [hc] at hl; rcases hl with hl | hl <;> cases hl
            · obtain ⟨s, md', en', h1, h2⟩ := h.ei j (old j hj z) hl
              by_cases hs : s = t
              · subst hs
                rw [ht] at h2; cases h2
                exact ⟨s, md, k, ZN h.len (old _ hj z) h1, hmt⟩
              · exact ⟨s, md', en', ZN h.len (old j hj z) h1, (hmod s hs).trans h2⟩
          · by_cases z : j = k
            · subst z; rw [hc] at hl; cases hl
            · obtain ⟨s, fs, en', h1, h2, h3, h4⟩ := h.oo j (old j hj z) hl
              by_cases hs : s = t
              · subst hs
                rw [ht] at h2; cases h2
                exact ⟨s, a.fs, k, ZN h.len (old _ hj z) h1, hmt, h3, fun i hi => absurd (List.mem_iff_getElem?.mpr ⟨i, hi⟩) n⟩
              · refine ⟨s, fs, en', ZN h.len (old j hj z) h1, (hmod s hs).trans h2, h3, fun i hi => ?_⟩
                obtain ⟨e0, h5, h6⟩ := h4 (i + 1) (by simpa [bst] using hi)
                exact ⟨e0, by simpa using h5, h6⟩
          · by_cases z : j = k
            · rw [z]
              exact ⟨t, a.fs, md, W1 h.len, hmt, n⟩
            · obtain ⟨s, fs, md', h1, h2, h3⟩ := h.en j (old j hj z) hl
              have hs : s ≠ t := fun z => h3 (by rw [z]; exact List.mem_cons_self)
              exact ⟨s, fs, md', ZN h.len (old j hj z) h1, (hmod s hs).trans h2, fun z => h3 (List.mem_cons_of_mem _ z)⟩
theorem Uj {ls : List Cd} : ∀ {k : Nat} {p : List En}, pil ls k = some p → Qcn ls k 0 p ∧ BI ls k (bks ls k) p
  | 0, p, e => by
    cases e
    exact ⟨True.intro, ⟨rfl, .nil, fun t x h => by simp [bks] at h, fun j h => by omega, fun j h => by omega, fun j h => by omega⟩⟩
  | k + 1, p, e => by
    obtain ⟨q, h1, h2⟩ := Option.bind_eq_some_iff.mp e
    obtain ⟨f, b⟩ := Uj h1
    cases hc : ls[k]? with
    | none => rw [hc] at h2; cases h2
    | some c =>
      rw [hc] at h2
      refine ⟨QbC hc f h2, ?_⟩
      have : bks ls (k + 1) = bst k c (bks ls k) := by simp only [bks, hc]
      rw [this]
      exact QdQ b f hc h2
noncomputable def Bal (ls : List Cd) : Prop := pil ls ls.length = some []
structure Found (ls : List Cd) (b : Bk) : Prop where
  len : b.rws.length = ls.length
  ei : ∀ j, ls[j]? = some .ei → ∃ t md en, b.rws[j]? = some (some t) ∧ b.trs[t]? = some (j, md, en) ∧ Beh ls j .oo md
  ag : ∀ j, ls[j]? = some .ag → ∃ t md en, b.rws[j]? = some (some t) ∧ b.trs[t]? = some (j, md, en) ∧ Beh ls j .en en
  oo : ∀ j, ls[j]? = some .oo → ∃ t fs en, b.rws[j]? = some (some t) ∧ b.trs[t]? = some (fs, j, en) ∧ Beh ls j .en en
  en : ∀ j, ls[j]? = some .en → ∃ t fs md, b.rws[j]? = some (some t) ∧ b.trs[t]? = some (fs, md, j) ∧ Ahd ls j fs ∧ (ls[fs]? = some .ei ∨ ls[fs]? = some .ag)
theorem YT {ls : List Cd} (h : Bal ls) : Found ls (bks ls ls.length) := by
  obtain ⟨_, b⟩ := Uj h
  have hs : (bks ls ls.length).st = [] := by
    have := b.op
    generalize (bks ls ls.length).st = s at this
    cases this
    rfl
  have nm : ∀ t, t ∉ (bks ls ls.length).st := fun t => by rw [hs]; simp
  refine ⟨b.len, fun j hj => ?_, fun j hj => ?_, fun j hj => ?_, fun j hj => ?_⟩
  · obtain ⟨t, md, en, h1, h2⟩ := b.ei j (Xl hj) (.inl hj)
    obtain ⟨e, m, f, d, kk⟩ := b.cl t _ h2 (nm t)
    simp only at m f d
    have ho : e.kd = .oo := by
      rcases kk with z | z
      · rw [f, hj] at z; cases z.2
      · rcases m.kd with q | q
        · rcases z.1 with z | z <;> rw [q] at z <;> cases z
        · exact q
    refine ⟨t, md, en, h1, h2, ?_⟩
    have := QeE m ho
    rw [f, d ho] at this; exact this
  · obtain ⟨t, md, en, h1, h2⟩ := b.ei j (Xl hj) (.inr hj)
    obtain ⟨e, m, f, d, kk⟩ := b.cl t _ h2 (nm t)
    simp only at m f d
    refine ⟨t, md, en, h1, h2, ?_⟩
    have := QcR m
    rw [f] at this; exact this
  · obtain ⟨t, fs, en, h1, h2, h3, _⟩ := b.oo j (Xl hj) hj
    obtain ⟨e, m, f, d, kk⟩ := b.cl t _ h2 (nm t)
    simp only at m f d
    have ho : e.kd = .oo := by
      rcases kk with z | z
      · rw [f, h3] at z; cases z.2
      · rcases m.kd with q | q
        · rcases z.1 with z | z <;> rw [q] at z <;> cases z
        · exact q
    refine ⟨t, fs, en, h1, h2, ?_⟩
    have := QaK m ho
    rw [d ho] at this; exact this
  · obtain ⟨t, fs, md, h1, h2, _⟩ := b.en j (Xl hj) hj
    obtain ⟨e, m, f, d, kk⟩ := b.cl t _ h2 (nm t)
    simp only at m f d
    refine ⟨t, fs, md, h1, h2, ?_, ?_⟩
    · have := Qbl m
      rw [f] at this; exact this
    · have := m.fit.at_
      rw [f] at this; exact this
end My4

namespace My4
open My3
noncomputable def kst : Cd → List Cd → Option (List Cd)
  | .ei, s => some (.ei :: s)
  | .ag, s => some (.ag :: s)
  | .oo, s => match s with
    | e :: r => if e = .ei then some (.oo :: r) else none
    | [] => none
  | .en, s => match s with
    | e :: r => if e = .ei then none else some r
    | [] => none
  | .ot, s => some s
noncomputable def J1 : List Cd → List Cd → Option (List Cd)
  | [], s => some s
  | c :: ls, s => (kst c s).bind (J1 ls)
theorem JJ : ∀ (ls ms : List Cd) (s : List Cd), J1 (ls ++ ms) s = (J1 ls s).bind (J1 ms)
  | [], ms, s => rfl
  | c :: ls, ms, s => by
    show (kst c s).bind (J1 (ls ++ ms)) = ((kst c s).bind (J1 ls)).bind (J1 ms)
    cases kst c s with
    | none => rfl
    | some t => exact JJ ls ms t
theorem ZM {ls : List Cd} {c : Cd} {s t u : List Cd} (h : J1 ls s = some t) (k : kst c t = some u) : J1 (ls ++ [c]) s = some u := by
  rw [JJ, h]
  show (kst c t).bind _ = _
  rw [k]; rfl
theorem QdX {k : Nat} {c : Cd} {st : List En} : (stp k c st).map (List.map En.kd) = kst c (st.map En.kd) := by
  cases c with
  | ei => rfl
  | ag => rfl
  | ot => rfl
  | oo =>
    cases st with
    | nil => rfl
    | cons e r =>
      simp only [stp, kst, List.map_cons]
      by_cases h : e.kd = .ei <;> simp [h]
  | en =>
    cases st with
    | nil => rfl
    | cons e r =>
      simp only [stp, kst, List.map_cons]
      by_cases h : e.kd = .ei <;> simp [h]
theorem Uk {ls : List Cd} : ∀ {k : Nat}, k ≤ ls.length → (pil ls k).map (List.map En.kd) = J1 (ls.take k) []
  | 0, _ => rfl
  | k + 1, hk => by
    have hlt : k < ls.length := by omega
    have ih := Uk (ls := ls) (k := k) (by omega)
    have ht : ls.take (k + 1) = ls.take k ++ [ls[k]] := by rw [List.take_succ_eq_append_getElem hlt]
    rw [ht, JJ, ← ih]
    simp only [pil]
    rw [List.getElem?_eq_getElem hlt]
    cases pil ls k with
    | none => rfl
    | some p =>
      show (stp k ls[k] p).map _ = (kst ls[k] (p.map En.kd)).bind (J1 [])
      rw [← QdX]
      cases stp k ls[k] p <;> rfl
theorem bal_iff {ls : List Cd} : Bal ls ↔ J1 ls [] = some [] := by
  have := Uk (ls := ls) (k := ls.length) (Nat.le_refl _)
  rw [List.take_length] at this
  rw [← this]
  unfold Bal
  cases pil ls ls.length with
  | none => simp
  | some p => simp
end My4

namespace My
open PySem PySem.Spec PyProof.Rows L2 Mi
noncomputable def top (i : Nat) : Stmt := PySem.Challenge.pw_doneroom_k17_whole_spots_and_gaps.main.body.getD i (.Pass ⟨0, 0, 0, 0⟩)
section
variable {P : Program} {w : World} {K : PySem.W.Frag} {mg : Str → Option Value} {base : Heap}
noncomputable abbrev Jh : Stmt := top 23
theorem sc__law_take : FnScope ["feed", "many", "found"] ["feed", "many"] (Qm Jh) := ⟨rfl, rfl, rfl, by decide +kernel, rfl, by decide +kernel, by decide +kernel⟩
noncomputable def Js : FM := Zf 1
    (QQ (Vg (QD (Qo wGt (Qo wIx (Qh 0) (mC (.int 0))) (mC (.int 0)))) (QQ (ZF 2 (Qo GZ (Qo wIx (Qh 0) (mC (.int 0))) (Qh 1)))
    (QQ (Qex (Qh 0) (mC (.int 0)) (Qo Qd0 (Qo wIx (Qh 0) (mC (.int 0))) (Qh 1)))
    (Jp (Qh 2)))) ZP)
    (QQ (Qex (Qh 0) (mC (.int 1)) (Qo GZ (Qo Vy (Qo VU (Qo wIx (Qh 0) (mC (.int 1))) (mC (.int 69621))) (mC (.int 12345))) (mC (.int 2147483647))))
    (Jp (Qo GZ (Qo Qd0 (Qo wIx (Qh 0) (mC (.int 1))) (mC (.int 8191))) (Qh 1)))))
set_option maxHeartbeats 4000000 in
theorem Yn (d : DefAt K mg "_law_take" Jh ["feed", "many"]) : Cal P w K mg base 1 "_law_take" ["feed", "many"] Js := by
  refine Q6 (k := 0) (more := 1) d sc__law_take rfl fun f cdv A outer s H E hr => ?_
  have hu := hr.units
  refine Qf ?_ ?_
  refine QV ?_ ?_ ?_
  refine Qs XY Qk ?_ ?_
  refine Qp ?_ ?_
  exact Qb 0
  exact Qe
  exact Qe
  refine Qf ?_ ?_
  refine Qn ?_ ?_ ?_ ?_ ?_ ?_
  exact sc__law_take.nd
  exact rfl
  exact (Or.inl rfl)
  refine Q1 Xd Qk ?_ ?_
  refine Qp ?_ ?_
  exact Qb 0
  exact Qe
  exact Qb 1
  exact rfl
  first | exact .inl rfl | exact .inr rfl
  refine Qf ?_ ?_
  refine WI ?_ ?_ ?_ ?_ ?_ ?_
  exact Qb 0
  exact Qe
  refine Q1 G1 Qk ?_ ?_
  refine Qp ?_ ?_
  exact Qb 0
  exact Qe
  exact Qb 1
  exact fun _ => rfl
  exact rfl
  exact rfl
  refine Qj ?_
  refine Qt ?_
  exact Qb 2
  exact QP
  refine Qf ?_ ?_
  refine WI ?_ ?_ ?_ ?_ ?_ ?_
  exact Qb 0
  exact Qe
  refine Q1 Xd Qk ?_ ?_
  refine Q1 QZ Qk ?_ ?_
  refine Q1 Vv Qk ?_ ?_
  refine Qp ?_ ?_
  exact Qb 0
  exact Qe
  exact Qe
  exact Qe
  exact Qe
  exact fun _ => rfl
  exact rfl
  exact rfl
  refine Qj ?_
  refine Qt ?_
  refine Q1 Xd Qk ?_ ?_
  refine Q1 G1 Qk ?_ ?_
  refine Qp ?_ ?_
  exact Qb 0
  exact Qe
  exact Qe
  exact Qb 1
noncomputable def Qg : FM := box frN Js
theorem Yw (d : DefAt K mg "_law_take" Jh ["feed", "many"]) : Cal P w K mg base 1 "_law_take" ["feed", "many"] Qg := (Yn d).box frN
noncomputable abbrev Zh : Stmt := top 24
theorem sc__law_names : FnScope ["feed", "many", "letters", "filler", "first", "step", "size", "place", "back"] ["feed", "many"] (Qm Zh) := ⟨rfl, rfl, rfl, by decide +kernel, rfl, by decide +kernel, by decide +kernel⟩
noncomputable def Ja : FM := Zf 7
    (QQ (ZF 2 (mC (.str "abcdefghijklmnopqrstuvwxyz")))
    (QQ (ZF 3 (Qo wIx (Qh 2) (Qr 2 Qg (Qc (Qh 0) (Qc (mC (.int 26)) Ql)))))
    (QQ (Vg (QD (Qo wEq (Qr 2 Qg (Qc (Qh 0) (Qc (mC (.int 3)) Ql))) (mC (.int 0)))) (Jp (JU Kx (Yu (Qc (Qh 1) Ql)) [none, some 3] (J5 0) WJ (Qo VU (Qh 1) (Qo Vy (Qh 0) (mC (.int 1)))))) ZP)
    (QQ (ZF 4 (Qr 2 Qg (Qc (Qh 0) (Qc (mC (.int 26)) Ql))))
    (QQ (ZF 5 (Qo wIx (mFn Ki (Qc (mC (.int 1)) (Qc (mC (.int 3)) (Qc (mC (.int 5)) (Qc (mC (.int 7)) (Qc (mC (.int 9)) (Qc (mC (.int 11)) Ql))))))) (Qr 2 Qg (Qc (Qh 0) (Qc (mC (.int 6)) Ql)))))
    (QQ (ZF 6 (Qo wIx (mFn Ki (Qc (mC (.int 1)) (Qc (mC (.int 3)) (Qc (mC (.int 4)) (Qc (mC (.int 5)) (Qc (mC (.int 6)) (Qc (mC (.int 7)) (Qc (mC (.int 8)) (Qc (mC (.int 1)) Ql))))))))) (Qr 2 Qg (Qc (Qh 0) (Qc (mC (.int 8)) Ql)))))
    (QQ (ZF 7 (Qr 2 Qg (Qc (Qh 0) (Qc (Qh 6) Ql))))
    (QQ (ZF 8 (Qo VU (Qh 3) (Qo Gj (Qo Gj (Qh 6) (mC (.int 1))) (Qh 7))))
    (Jp (JU Kx (Yu (Qc (Qh 1) Ql)) [none, some 8, some 3, some 7, some 2, some 4, some 5] (J5 0) WJ (Qo Vy (Qo Vy (Qo VU (Qh 2) (Qh 3)) (Qo wIx (Qh 4) (Qo GZ (Qo Vy (Qh 5) (Qo VU (Qh 6) (Qh 0))) (mC (.int 26))))) (Qh 1))))))))))))
set_option maxHeartbeats 4000000 in
theorem Kq (d : DefAt K mg "_law_names" Zh ["feed", "many"]) (b_range : mg "range" = none) (c__law_take : Cal P w K mg base 1 "_law_take" ["feed", "many"] Qg) : Cal P w K mg base 2 "_law_names" ["feed", "many"] Ja := by
  refine Q6 (k := 1) (more := 7) d sc__law_names rfl fun f cdv A outer s H E hr => ?_
  have hu := hr.units
  refine Qf ?_ ?_
  refine Qn ?_ ?_ ?_ ?_ ?_ ?_
  exact sc__law_names.nd
  exact rfl
  exact (Or.inr rfl)
  exact QR
  exact rfl
  first | exact .inl rfl | exact .inr rfl
  refine Qf ?_ ?_
  refine Qn ?_ ?_ ?_ ?_ ?_ ?_
  exact sc__law_names.nd
  exact rfl
  exact (Or.inr rfl)
  refine Qp ?_ ?_
  exact Qb 2
  refine Qi (k := 1) (ps := ["feed", "many"]) ?_ ?_ ?_ ?_ ?_ ?_ ?_ ?_
  exact c__law_take
  exact hr.mono (by decide)
  exact rfl
  refine Qa ?_ ?_
  exact Qb 0
  refine Qa ?_ ?_
  exact Qe
  exact Qd
  exact rfl
  decide
  exact rfl
  exact rfl
  exact rfl
  first | exact .inl rfl | exact .inr rfl
  refine Qf ?_ ?_
  refine QV ?_ ?_ ?_
  refine Qs (Q9 ?_) Qk ?_ ?_
  exact hu
  refine Qi (k := 1) (ps := ["feed", "many"]) ?_ ?_ ?_ ?_ ?_ ?_ ?_ ?_
  exact c__law_take
  exact hr.mono (by decide)
  exact rfl
  refine Qa ?_ ?_
  exact Qb 0
  refine Qa ?_ ?_
  exact Qe
  exact Qd
  exact rfl
  decide
  exact rfl
  exact rfl
  exact Qe
  refine Qj ?_
  refine Qt ?_
  refine VR VL ?_ (YQ (ks := ["filler"]) (Nb := ["k", "filler"]) (cp := [none, some 3]) (N := ["feed", "many", "letters", "filler", "first", "step", "size", "place", "back"]) (xs := (Qm Zh)) rfl rfl (by decide +kernel) rfl (by decide +kernel) (by intro p hp; simp only [List.mem_cons, List.not_mem_nil, or_false] at hp; rcases hp with rfl <;> rfl) rfl rfl rfl (by decide +kernel)) ?_ (fun _ _ _ _ _ => ?_) (fun _ _ _ _ _ => ?_)
  exact rfl
  refine Xi ?_ ?_ ?_ ?_
  exact rfl
  exact b_range
  refine Qa ?_ ?_
  exact Qb 1
  exact Qd
  exact rfl
  exact Q4 (i := 0) (x := "k") (show List.Nodup (["k", "filler"] : List Str) from by decide +kernel) rfl (Or.inl rfl)
  refine Q1 Vv Qk ?_ ?_
  exact Qb 1
  refine Q1 QZ Qk ?_ ?_
  exact Qb 0
  exact Qe
  exact QP
  refine Qf ?_ ?_
  refine Qn ?_ ?_ ?_ ?_ ?_ ?_
  exact sc__law_names.nd
  exact rfl
  exact (Or.inr rfl)
  refine Qi (k := 1) (ps := ["feed", "many"]) ?_ ?_ ?_ ?_ ?_ ?_ ?_ ?_
  exact c__law_take
  exact hr.mono (by decide)
  exact rfl
  refine Qa ?_ ?_
  exact Qb 0
  refine Qa ?_ ?_
  exact Qe
  exact Qd
  exact rfl
  decide
  exact rfl
  exact rfl
  exact rfl
  first | exact .inl rfl | exact .inr rfl
  refine Qf ?_ ?_
  refine Qn ?_ ?_ ?_ ?_ ?_ ?_
  exact sc__law_names.nd
  exact rfl
  exact (Or.inr rfl)
  refine Qp ?_ ?_
  refine Z0 ?_
  refine Qa ?_ ?_
  exact Qe
  refine Qa ?_ ?_
  exact Qe
  refine Qa ?_ ?_
  exact Qe
  refine Qa ?_ ?_
  exact Qe
  refine Qa ?_ ?_
  exact Qe
  refine Qa ?_ ?_
  exact Qe
  exact Qd
  refine Qi (k := 1) (ps := ["feed", "many"]) ?_ ?_ ?_ ?_ ?_ ?_ ?_ ?_
  exact c__law_take
  exact hr.mono (by decide)
  exact rfl
  refine Qa ?_ ?_
  exact Qb 0
  refine Qa ?_ ?_
  exact Qe
  exact Qd
  exact rfl
  decide
  exact rfl
  exact rfl
  exact rfl
  first | exact .inl rfl | exact .inr rfl
  refine Qf ?_ ?_
  refine Qn ?_ ?_ ?_ ?_ ?_ ?_
  exact sc__law_names.nd
  exact rfl
  exact (Or.inl rfl)
  refine Qp ?_ ?_
  refine Z0 ?_
  refine Qa ?_ ?_
  exact Qe
  refine Qa ?_ ?_
  exact Qe
  refine Qa ?_ ?_
  exact Qe
  refine Qa ?_ ?_
  exact Qe
  refine Qa ?_ ?_
  exact Qe
  refine Qa ?_ ?_
  exact Qe
  refine Qa ?_ ?_
  exact Qe
  refine Qa ?_ ?_
  exact Qe
  exact Qd
  refine Qi (k := 1) (ps := ["feed", "many"]) ?_ ?_ ?_ ?_ ?_ ?_ ?_ ?_
  exact c__law_take
  exact hr.mono (by decide)
  exact rfl
  refine Qa ?_ ?_
  exact Qb 0
  refine Qa ?_ ?_
  exact Qe
  exact Qd
  exact rfl
  decide
  exact rfl
  exact rfl
  exact rfl
  first | exact .inl rfl | exact .inr rfl
  refine Qf ?_ ?_
  refine Qn ?_ ?_ ?_ ?_ ?_ ?_
  exact sc__law_names.nd
  exact rfl
  exact (Or.inr rfl)
  refine Qi (k := 1) (ps := ["feed", "many"]) ?_ ?_ ?_ ?_ ?_ ?_ ?_ ?_
  exact c__law_take
  exact hr.mono (by decide)
  exact rfl
  refine Qa ?_ ?_
  exact Qb 0
  refine Qa ?_ ?_
  exact Qb 6
  exact Qd
  exact rfl
  decide
  exact rfl
  exact rfl
  exact rfl
  first | exact .inl rfl | exact .inr rfl
  refine Qf ?_ ?_
  refine Qn ?_ ?_ ?_ ?_ ?_ ?_
  exact sc__law_names.nd
  exact rfl
  exact (Or.inr rfl)
  refine Q1 Vv Qk ?_ ?_
  exact Qb 3
  refine Q1 Vh Qk ?_ ?_
  refine Q1 Vh Qk ?_ ?_
  exact Qb 6
  exact Qe
  exact Qb 7
  exact rfl
  first | exact .inl rfl | exact .inr rfl
  refine Qj ?_
  refine Qt ?_
  refine VR VL ?_ (YQ (ks := ["step", "place", "letters", "first", "filler", "back"]) (Nb := ["k", "back", "filler", "place", "letters", "first", "step"]) (cp := [none, some 8, some 3, some 7, some 2, some 4, some 5]) (N := ["feed", "many", "letters", "filler", "first", "step", "size", "place", "back"]) (xs := (Qm Zh)) rfl rfl (by decide +kernel) rfl (by decide +kernel) (by intro p hp; simp only [List.mem_cons, List.not_mem_nil, or_false] at hp; rcases hp with rfl | rfl | rfl | rfl | rfl | rfl <;> rfl) rfl rfl rfl (by decide +kernel)) ?_ (fun _ _ _ _ _ => ?_) (fun _ _ _ _ _ => ?_)
  exact rfl
  refine Xi ?_ ?_ ?_ ?_
  exact rfl
  exact b_range
  refine Qa ?_ ?_
  exact Qb 1
  exact Qd
  exact rfl
  exact Q4 (i := 0) (x := "k") (show List.Nodup (["k", "back", "filler", "place", "letters", "first", "step"] : List Str) from by decide +kernel) rfl (Or.inl rfl)
  refine Q1 QZ Qk ?_ ?_
  refine Q1 QZ Qk ?_ ?_
  refine Q1 Vv Qk ?_ ?_
  exact Qb 2
  exact Qb 3
  refine Qp ?_ ?_
  exact Qb 4
  refine Q1 Xd Qk ?_ ?_
  refine Q1 QZ Qk ?_ ?_
  exact Qb 5
  refine Q1 Vv Qk ?_ ?_
  exact Qb 6
  exact Qb 0
  exact Qe
  exact Qb 1
noncomputable def QF : FM := box frN Ja
theorem Km (d : DefAt K mg "_law_names" Zh ["feed", "many"]) (b_range : mg "range" = none) (c__law_take : Cal P w K mg base 1 "_law_take" ["feed", "many"] Qg) : Cal P w K mg base 2 "_law_names" ["feed", "many"] QF := (Kq d b_range c__law_take).box frN
noncomputable abbrev Zq : Stmt := top 26
theorem Ka : FnScope ["lines", "opened"] ["lines", "opened"] (Qm Zq) := ⟨rfl, rfl, rfl, by decide +kernel, rfl, by decide +kernel, by decide +kernel⟩
noncomputable def ZL : FM := Zf 0
    (Vg (QD (Qo wEq (Qo wIx (Qh 1) (mUn KN (mC (.int 1)))) (mC (.str "either")))) (QQ (Z2 (mMt "list" Q5 (Qh 0) (Qc (mFn JF (Qc (mC (.str "or")) Ql)) Ql)))
    (Qex (Qh 1) (mUn KN (mC (.int 1))) (mC (.str "or")))) (QQ (Z2 (mMt "list" Q5 (Qh 0) (Qc (mFn JF (Qc (mC (.str "end")) Ql)) Ql)))
    (Z2 (mMt "list" Qgk (Qh 1) Ql))))
set_option maxHeartbeats 4000000 in
theorem Xn (d : DefAt K mg "_law_step_on" Zq ["lines", "opened"]) : Cal P w K mg base 1 "_law_step_on" ["lines", "opened"] ZL := by
  refine Q6 (k := 0) (more := 0) d Ka rfl fun f cdv A outer s H E hr => ?_
  have hu := hr.units
  refine Qj ?_
  refine QV ?_ ?_ ?_
  refine Qs (Q9 ?_) Qk ?_ ?_
  exact hu
  refine Qp ?_ ?_
  exact Qb 1
  refine JV ?_
  exact Qe
  exact QR
  refine Qf ?_ ?_
  refine QI ?_
  refine Ju PySem.F.plainAttrs_list PySem.F.slot_list_append PySem.F.type_list_append QC ?_ ?_
  exact Qb 0
  refine Qa ?_ ?_
  refine QL ?_
  refine Qa ?_ ?_
  exact QR
  exact Qd
  exact Qd
  refine Qj ?_
  refine WI ?_ ?_ ?_ ?_ ?_ ?_
  exact Qb 1
  refine JV ?_
  exact Qe
  exact QR
  exact fun _ => rfl
  exact rfl
  exact rfl
  refine Qf ?_ ?_
  refine QI ?_
  refine Ju PySem.F.plainAttrs_list PySem.F.slot_list_append PySem.F.type_list_append QC ?_ ?_
  exact Qb 0
  refine Qa ?_ ?_
  refine QL ?_
  refine Qa ?_ ?_
  exact QR
  exact Qd
  exact Qd
  refine Qj ?_
  refine QI ?_
  refine Qfa PySem.F.plainAttrs_list PySem.F.slot_list_pop PySem.F.type_list_pop Qec ?_
  exact Qb 1
noncomputable def Qv : FM := box frN ZL
theorem Xy (d : DefAt K mg "_law_step_on" Zq ["lines", "opened"]) : Cal P w K mg base 1 "_law_step_on" ["lines", "opened"] Qv := (Xn d).box frN
noncomputable abbrev ZW : Stmt := top 25
theorem sc__law_plain : FnScope ["feed", "boxes", "words", "way", "x", "y", "z"] ["feed", "boxes", "words"] (Qm ZW) := ⟨rfl, rfl, rfl, by decide +kernel, rfl, by decide +kernel, by decide +kernel⟩
noncomputable def Jc : FM := Zf 4
    (QQ (ZF 3 (Qr 2 Qg (Qc (Qh 0) (Qc (mC (.int 10)) Ql))))
    (QQ (ZF 4 (Qo wIx (Qh 1) (Qr 2 Qg (Qc (Qh 0) (Qc (mFn JO (Qc (Qh 1) Ql)) Ql)))))
    (QQ (ZF 5 (Qo wIx (Qh 1) (Qr 2 Qg (Qc (Qh 0) (Qc (mFn JO (Qc (Qh 1) Ql)) Ql)))))
    (QQ (Vg (QD (Qo wLt (Qh 3) (mC (.int 4)))) (QQ (ZF 6 (Qo wIx (Qh 1) (Qr 2 Qg (Qc (Qh 0) (Qc (mFn JO (Qc (Qh 1) Ql)) Ql)))))
    (Jp (mFn JF (Qc (mC (.str "pair")) (Qc (Qh 4) (Qc (Qo wIx (Qh 2) (Qr 2 Qg (Qc (Qh 0) (Qc (mFn JO (Qc (Qh 2) Ql)) Ql)))) (Qc (Qh 5) (Qc (Qh 6) Ql)))))))) ZP)
    (Jp (Qo wIx (mFn Ki (Qc (mFn JF (Qc (mC (.str "first")) (Qc (Qh 4) (Qc (Qh 5) Ql)))) (Qc (mFn JF (Qc (mC (.str "second")) (Qc (Qh 4) (Qc (Qh 5) Ql)))) (Qc (mFn JF (Qc (mC (.str "same")) (Qc (Qh 4) (Qc (Qh 5) Ql)))) (Qc (mFn JF (Qc (mC (.str "none")) (Qc (Qh 4) Ql))) (Qc (mFn JF (Qc (mC (.str "tell")) (Qc (Qh 5) Ql))) (Qc (mFn JF (Qc (mC (.str "tell")) (Qc (Qh 4) Ql))) Ql))))))) (Qo Gj (Qh 3) (mC (.int 4)))))))))
set_option maxHeartbeats 4000000 in
theorem Kl (d : DefAt K mg "_law_plain" ZW ["feed", "boxes", "words"]) (b_len : mg "len" = none) (c__law_take : Cal P w K mg base 1 "_law_take" ["feed", "many"] Qg) : Cal P w K mg base 2 "_law_plain" ["feed", "boxes", "words"] Jc := by
  refine Q6 (k := 1) (more := 4) d sc__law_plain rfl fun f cdv A outer s H E hr => ?_
  have hu := hr.units
  refine Qf ?_ ?_
  refine Qn ?_ ?_ ?_ ?_ ?_ ?_
  exact sc__law_plain.nd
  exact rfl
  exact (Or.inl rfl)
  refine Qi (k := 1) (ps := ["feed", "many"]) ?_ ?_ ?_ ?_ ?_ ?_ ?_ ?_
  exact c__law_take
  exact hr.mono (by decide)
  exact rfl
  refine Qa ?_ ?_
  exact Qb 0
  refine Qa ?_ ?_
  exact Qe
  exact Qd
  exact rfl
  decide
  exact rfl
  exact rfl
  exact rfl
  first | exact .inl rfl | exact .inr rfl
  refine Qf ?_ ?_
  refine Qn ?_ ?_ ?_ ?_ ?_ ?_
  exact sc__law_plain.nd
  exact rfl
  exact (Or.inl rfl)
  refine Qp ?_ ?_
  exact Qb 1
  refine Qi (k := 1) (ps := ["feed", "many"]) ?_ ?_ ?_ ?_ ?_ ?_ ?_ ?_
  exact c__law_take
  exact hr.mono (by decide)
  exact rfl
  refine Qa ?_ ?_
  exact Qb 0
  refine Qa ?_ ?_
  refine QH Qz Qu ?_ ?_ PySem.boot_len ?_ ?_ ?_ ?_ ?_
  exact rfl
  exact b_len
  refine Qa ?_ ?_
  exact Qb 1
  exact Qd
  decide
  decide
  exact rfl
  exact rfl
  exact Qd
  exact rfl
  decide
  exact rfl
  exact rfl
  exact rfl
  first | exact .inl rfl | exact .inr rfl
  refine Qf ?_ ?_
  refine Qn ?_ ?_ ?_ ?_ ?_ ?_
  exact sc__law_plain.nd
  exact rfl
  exact (Or.inl rfl)
  refine Qp ?_ ?_
  exact Qb 1
  refine Qi (k := 1) (ps := ["feed", "many"]) ?_ ?_ ?_ ?_ ?_ ?_ ?_ ?_
  exact c__law_take
  exact hr.mono (by decide)
  exact rfl
  refine Qa ?_ ?_
  exact Qb 0
  refine Qa ?_ ?_
  refine QH Qz Qu ?_ ?_ PySem.boot_len ?_ ?_ ?_ ?_ ?_
  exact rfl
  exact b_len
  refine Qa ?_ ?_
  exact Qb 1
  exact Qd
  decide
  decide
  exact rfl
  exact rfl
  exact Qd
  exact rfl
  decide
  exact rfl
  exact rfl
  exact rfl
  first | exact .inl rfl | exact .inr rfl
  refine Qf ?_ ?_
  refine QV ?_ ?_ ?_
  refine Qs KH Qk ?_ ?_
  exact Qb 3
  exact Qe
  refine Qf ?_ ?_
  refine Qn ?_ ?_ ?_ ?_ ?_ ?_
  exact sc__law_plain.nd
  exact rfl
  exact (Or.inl rfl)
  refine Qp ?_ ?_
  exact Qb 1
  refine Qi (k := 1) (ps := ["feed", "many"]) ?_ ?_ ?_ ?_ ?_ ?_ ?_ ?_
  exact c__law_take
  exact hr.mono (by decide)
  exact rfl
  refine Qa ?_ ?_
  exact Qb 0
  refine Qa ?_ ?_
  refine QH Qz Qu ?_ ?_ PySem.boot_len ?_ ?_ ?_ ?_ ?_
  exact rfl
  exact b_len
  refine Qa ?_ ?_
  exact Qb 1
  exact Qd
  decide
  decide
  exact rfl
  exact rfl
  exact Qd
  exact rfl
  decide
  exact rfl
  exact rfl
  exact rfl
  first | exact .inl rfl | exact .inr rfl
  refine Qj ?_
  refine Qt ?_
  refine QL ?_
  refine Qa ?_ ?_
  exact QR
  refine Qa ?_ ?_
  exact Qb 4
  refine Qa ?_ ?_
  refine Qp ?_ ?_
  exact Qb 2
  refine Qi (k := 1) (ps := ["feed", "many"]) ?_ ?_ ?_ ?_ ?_ ?_ ?_ ?_
  exact c__law_take
  exact hr.mono (by decide)
  exact rfl
  refine Qa ?_ ?_
  exact Qb 0
  refine Qa ?_ ?_
  refine QH Qz Qu ?_ ?_ PySem.boot_len ?_ ?_ ?_ ?_ ?_
  exact rfl
  exact b_len
  refine Qa ?_ ?_
  exact Qb 2
  exact Qd
  decide
  decide
  exact rfl
  exact rfl
  exact Qd
  exact rfl
  decide
  exact rfl
  exact rfl
  refine Qa ?_ ?_
  exact Qb 5
  refine Qa ?_ ?_
  exact Qb 6
  exact Qd
  exact QP
  refine Qj ?_
  refine Qt ?_
  refine Qp ?_ ?_
  refine Z0 ?_
  refine Qa ?_ ?_
  refine QL ?_
  refine Qa ?_ ?_
  exact QR
  refine Qa ?_ ?_
  exact Qb 4
  refine Qa ?_ ?_
  exact Qb 5
  exact Qd
  refine Qa ?_ ?_
  refine QL ?_
  refine Qa ?_ ?_
  exact QR
  refine Qa ?_ ?_
  exact Qb 4
  refine Qa ?_ ?_
  exact Qb 5
  exact Qd
  refine Qa ?_ ?_
  refine QL ?_
  refine Qa ?_ ?_
  exact QR
  refine Qa ?_ ?_
  exact Qb 4
  refine Qa ?_ ?_
  exact Qb 5
  exact Qd
  refine Qa ?_ ?_
  refine QL ?_
  refine Qa ?_ ?_
  exact QR
  refine Qa ?_ ?_
  exact Qb 4
  exact Qd
  refine Qa ?_ ?_
  refine QL ?_
  refine Qa ?_ ?_
  exact QR
  refine Qa ?_ ?_
  exact Qb 5
  exact Qd
  refine Qa ?_ ?_
  refine QL ?_
  refine Qa ?_ ?_
  exact QR
  refine Qa ?_ ?_
  exact Qb 4
  exact Qd
  exact Qd
  refine Q1 Vh Qk ?_ ?_
  exact Qb 3
  exact Qe
noncomputable def QE : FM := box frN Jc
theorem Kz (d : DefAt K mg "_law_plain" ZW ["feed", "boxes", "words"]) (b_len : mg "len" = none) (c__law_take : Cal P w K mg base 1 "_law_take" ["feed", "many"] Qg) : Cal P w K mg base 2 "_law_plain" ["feed", "boxes", "words"] QE := (Kl d b_len c__law_take).box frN
noncomputable abbrev Jk : Stmt := top 27
theorem sc__law_part : FnScope ["feed", "size", "menus", "later", "opens", "dos", "lines", "opened", "k", "way"] ["feed", "size", "menus", "later", "opens", "dos"] (Qm Jk) := ⟨rfl, rfl, rfl, by decide +kernel, rfl, by decide +kernel, by decide +kernel⟩
noncomputable abbrev Z9 : SM := (QQ (ZF 9 (Qr 2 Qg (Qc (Qh 0) (Qc (mC (.int 14)) Ql))))
    (Vg (Vf (QD (Qo wLt (Qh 9) (mC (.int 3)))) (QD (Qo wGt (Qh 4) (mC (.int 0))))) (QQ (Z2 (mMt "list" Q5 (Qh 7) (Qc (Qo wIx (mFn Ki (Qc (mC (.str "either")) (Qc (mC (.str "again")) (Qc (mC (.str "either")) Ql)))) (Qh 9)) Ql)))
    (QQ (Z2 (mMt "list" Q5 (Qh 6) (Qc (mFn JF (Qc (Qo wIx (Qh 7) (mUn KN (mC (.int 1)))) Ql)) Ql)))
    (ZF 4 (Qo Gj (Qh 4) (mC (.int 1)))))) (Vg (Vf (QD (Qo wLt (Qh 9) (mC (.int 6)))) (QD (Qo wGt (mFn JO (Qc (Qh 7) Ql)) (mC (.int 0))))) (Z2 (Qr 2 Qv (Qc (Qh 6) (Qc (Qh 7) Ql)))) (Vg (Vf (QD (Qo (wIn false) (Qh 9) (mFn Ki (Qc (mC (.int 6)) (Qc (mC (.int 7)) Ql))))) (Vf (QD (Qo wGt (Qh 5) (mC (.int 0)))) (QD (Qo wGt (mFn JO (Qc (Qh 3) Ql)) (mC (.int 0)))))) (QQ (Z2 (mMt "list" Q5 (Qh 6) (Qc (mFn JF (Qc (mC (.str "do")) (Qc (Qo wIx (Qh 3) (Qr 2 Qg (Qc (Qh 0) (Qc (mFn JO (Qc (Qh 3) Ql)) Ql)))) Ql))) Ql)))
    (ZF 5 (Qo Gj (Qh 5) (mC (.int 1))))) (Z2 (mMt "list" Q5 (Qh 6) (Qc (Qr 3 QE (Qc (Qh 0) (Qc (Qo wIx (Qh 2) (mC (.int 0))) (Qc (Qo wIx (Qh 2) (mC (.int 1))) Ql)))) Ql)))))))
noncomputable abbrev VC : SM := (Z2 (Qr 2 Qv (Qc (Qh 6) (Qc (Qh 7) Ql))))
noncomputable def Va : FM := Zf 4
    (QQ (ZF 6 (mFn WS Ql))
    (QQ (ZF 7 (mFn WS Ql))
    (QQ (VQ (Yu (Qc (Qh 1) Ql)) (J5 8)
    Z9)
    (QQ (Q8 (QD (Qo wGt (mFn JO (Qc (Qh 7) Ql)) (mC (.int 0)))) VC 1000000)
    (Jp (mFn JT (Qc (Qh 6) Ql)))))))
set_option maxHeartbeats 4000000 in
theorem Yx (d : DefAt K mg "_law_part" Jk ["feed", "size", "menus", "later", "opens", "dos"]) (b_len : mg "len" = none) (b_range : mg "range" = none) (b_tuple : mg "tuple" = none) (c__law_plain : Cal P w K mg base 2 "_law_plain" ["feed", "boxes", "words"] QE) (c__law_step_on : Cal P w K mg base 1 "_law_step_on" ["lines", "opened"] Qv) (c__law_take : Cal P w K mg base 1 "_law_take" ["feed", "many"] Qg) : Cal P w K mg base 3 "_law_part" ["feed", "size", "menus", "later", "opens", "dos"] Va := by
  refine Q6 (k := 2) (more := 4) d sc__law_part rfl fun f cdv A outer s H E hr => ?_
  have hu := hr.units
  refine Qf ?_ ?_
  refine Qn ?_ ?_ ?_ ?_ ?_ ?_
  exact sc__law_part.nd
  exact rfl
  exact (Or.inl rfl)
  refine Vc ?_
  exact Qd
  exact rfl
  first | exact .inl rfl | exact .inr rfl
  refine Qf ?_ ?_
  refine Qn ?_ ?_ ?_ ?_ ?_ ?_
  exact sc__law_part.nd
  exact rfl
  exact (Or.inl rfl)
  refine Vc ?_
  exact Qd
  exact rfl
  first | exact .inl rfl | exact .inr rfl
  refine Qf ?_ ?_
  refine Z7 ?_ ?_ ?_ ?_ ?_ ?_
  exact PassesOwn.never
  exact rfl
  refine Xi ?_ ?_ ?_ ?_
  exact rfl
  exact b_range
  refine Qa ?_ ?_
  exact Qb 1
  exact Qd
  exact rfl
  exact Q4 (i := 8) (x := "k") sc__law_part.nd rfl (Or.inl rfl)
  refine Qf ?_ ?_
  refine Qn ?_ ?_ ?_ ?_ ?_ ?_
  exact sc__law_part.nd
  exact rfl
  exact (Or.inl rfl)
  refine Qi (k := 1) (ps := ["feed", "many"]) ?_ ?_ ?_ ?_ ?_ ?_ ?_ ?_
  exact c__law_take
  exact hr.mono (by decide)
  exact rfl
  refine Qa ?_ ?_
  exact Qb 0
  refine Qa ?_ ?_
  exact Qe
  exact Qd
  exact rfl
  decide
  exact rfl
  exact rfl
  exact rfl
  first | exact .inl rfl | exact .inr rfl
  refine Qj ?_
  refine QV ?_ ?_ ?_
  refine PMW.pt ?_
  refine J9 ?_ ?_
  refine Qs KH Qk ?_ ?_
  exact Qb 9
  exact Qe
  refine J4 ?_
  refine Qs XY Qk ?_ ?_
  exact Qb 4
  exact Qe
  refine Qf ?_ ?_
  refine QI ?_
  refine Ju PySem.F.plainAttrs_list PySem.F.slot_list_append PySem.F.type_list_append QC ?_ ?_
  exact Qb 7
  refine Qa ?_ ?_
  refine Qp ?_ ?_
  refine Z0 ?_
  refine Qa ?_ ?_
  exact QR
  refine Qa ?_ ?_
  exact QR
  refine Qa ?_ ?_
  exact QR
  exact Qd
  exact Qb 9
  exact Qd
  refine Qf ?_ ?_
  refine QI ?_
  refine Ju PySem.F.plainAttrs_list PySem.F.slot_list_append PySem.F.type_list_append QC ?_ ?_
  exact Qb 6
  refine Qa ?_ ?_
  refine QL ?_
  refine Qa ?_ ?_
  refine Qp ?_ ?_
  exact Qb 7
  refine JV ?_
  exact Qe
  exact Qd
  exact Qd
  refine Qj ?_
  refine Qn ?_ ?_ ?_ ?_ ?_ ?_
  exact sc__law_part.nd
  exact rfl
  exact (Or.inl rfl)
  refine Q1 Vh Qk ?_ ?_
  exact Qb 4
  exact Qe
  exact rfl
  first | exact .inl rfl | exact .inr rfl
  refine Qj ?_
  refine QV ?_ ?_ ?_
  refine PMW.pt ?_
  refine J9 ?_ ?_
  refine Qs KH Qk ?_ ?_
  exact Qb 9
  exact Qe
  refine J4 ?_
  refine Qs XY Qk ?_ ?_
  refine QH Qz Qu ?_ ?_ PySem.boot_len ?_ ?_ ?_ ?_ ?_
  exact rfl
  exact b_len
  refine Qa ?_ ?_
  exact Qb 7
  exact Qd
  decide
  decide
  exact rfl
  exact rfl
  exact Qe
  refine Qj ?_
  refine QI ?_
  refine Qi (k := 1) (ps := ["lines", "opened"]) ?_ ?_ ?_ ?_ ?_ ?_ ?_ ?_
  exact c__law_step_on
  exact hr.mono (by decide)
  exact rfl
  refine Qa ?_ ?_
  exact Qb 6
  refine Qa ?_ ?_
  exact Qb 7
  exact Qd
  exact rfl
  decide
  exact rfl
  exact rfl
  refine Qj ?_
  refine QV ?_ ?_ ?_
  refine PMW.pt ?_
  refine J9 ?_ ?_
  refine Qs (QeD ?_) Qk ?_ ?_
  exact hu
  exact Qb 9
  refine Z0 ?_
  refine Qa ?_ ?_
  exact Qe
  refine Qa ?_ ?_
  exact Qe
  exact Qd
  refine J9 ?_ ?_
  refine Qs XY Qk ?_ ?_
  exact Qb 5
  exact Qe
  refine J4 ?_
  refine Qs XY Qk ?_ ?_
  refine QH Qz Qu ?_ ?_ PySem.boot_len ?_ ?_ ?_ ?_ ?_
  exact rfl
  exact b_len
  refine Qa ?_ ?_
  exact Qb 3
  exact Qd
  decide
  decide
  exact rfl
  exact rfl
  exact Qe
  refine Qf ?_ ?_
  refine QI ?_
  refine Ju PySem.F.plainAttrs_list PySem.F.slot_list_append PySem.F.type_list_append QC ?_ ?_
  exact Qb 6
  refine Qa ?_ ?_
  refine QL ?_
  refine Qa ?_ ?_
  exact QR
  refine Qa ?_ ?_
  refine Qp ?_ ?_
  exact Qb 3
  refine Qi (k := 1) (ps := ["feed", "many"]) ?_ ?_ ?_ ?_ ?_ ?_ ?_ ?_
  exact c__law_take
  exact hr.mono (by decide)
  exact rfl
  refine Qa ?_ ?_
  exact Qb 0
  refine Qa ?_ ?_
  refine QH Qz Qu ?_ ?_ PySem.boot_len ?_ ?_ ?_ ?_ ?_
  exact rfl
  exact b_len
  refine Qa ?_ ?_
  exact Qb 3
  exact Qd
  decide
  decide
  exact rfl
  exact rfl
  exact Qd
  exact rfl
  decide
  exact rfl
  exact rfl
  exact Qd
  exact Qd
  refine Qj ?_
  refine Qn ?_ ?_ ?_ ?_ ?_ ?_
  exact sc__law_part.nd
  exact rfl
  exact (Or.inl rfl)
  refine Q1 Vh Qk ?_ ?_
  exact Qb 5
  exact Qe
  exact rfl
  first | exact .inl rfl | exact .inr rfl
  refine Qj ?_
  refine QI ?_
  refine Ju PySem.F.plainAttrs_list PySem.F.slot_list_append PySem.F.type_list_append QC ?_ ?_
  exact Qb 6
  refine Qa ?_ ?_
  refine Qi (k := 2) (ps := ["feed", "boxes", "words"]) ?_ ?_ ?_ ?_ ?_ ?_ ?_ ?_
  exact c__law_plain
  exact hr.mono (by decide)
  exact rfl
  refine Qa ?_ ?_
  exact Qb 0
  refine Qa ?_ ?_
  refine Qp ?_ ?_
  exact Qb 2
  exact Qe
  refine Qa ?_ ?_
  refine Qp ?_ ?_
  exact Qb 2
  exact Qe
  exact Qd
  exact rfl
  decide
  exact rfl
  exact rfl
  exact Qd
  exact fun _ => rfl
  refine Qf ?_ ?_
  refine XX 1000000 ?_ ?_ ?_
  exact PassesOwn.never
  refine Qs XY Qk ?_ ?_
  refine QH Qz Qu ?_ ?_ PySem.boot_len ?_ ?_ ?_ ?_ ?_
  exact rfl
  exact b_len
  refine Qa ?_ ?_
  exact Qb 7
  exact Qd
  decide
  decide
  exact rfl
  exact rfl
  exact Qe
  refine Qj ?_
  refine QI ?_
  refine Qi (k := 1) (ps := ["lines", "opened"]) ?_ ?_ ?_ ?_ ?_ ?_ ?_ ?_
  exact c__law_step_on
  exact hr.mono (by decide)
  exact rfl
  refine Qa ?_ ?_
  exact Qb 6
  refine Qa ?_ ?_
  exact Qb 7
  exact Qd
  exact rfl
  decide
  exact rfl
  exact rfl
  refine Qj ?_
  refine Qt ?_
  refine ZZ Zk Qu ?_ ?_ PyProof.Rows.boot_tuple ?_ ?_ ?_ ?_ ?_
  exact rfl
  exact b_tuple
  refine Qa ?_ ?_
  exact Qb 6
  exact Qd
  decide
  decide
  exact rfl
  exact rfl
noncomputable def QT : FM := box frN Va
theorem Ys (d : DefAt K mg "_law_part" Jk ["feed", "size", "menus", "later", "opens", "dos"]) (b_len : mg "len" = none) (b_range : mg "range" = none) (b_tuple : mg "tuple" = none) (c__law_plain : Cal P w K mg base 2 "_law_plain" ["feed", "boxes", "words"] QE) (c__law_step_on : Cal P w K mg base 1 "_law_step_on" ["lines", "opened"] Qv) (c__law_take : Cal P w K mg base 1 "_law_take" ["feed", "many"] Qg) : Cal P w K mg base 3 "_law_part" ["feed", "size", "menus", "later", "opens", "dos"] QT := (Yx d b_len b_range b_tuple c__law_plain c__law_step_on c__law_take).box frN
noncomputable abbrev Zr : Stmt := top 28
theorem sc__law_program : FnScope ["feed", "bounds", "menus", "names", "size", "found", "k"] ["feed", "bounds"] (Qm Zr) := ⟨rfl, rfl, rfl, by decide +kernel, rfl, by decide +kernel, by decide +kernel⟩
noncomputable abbrev JW : SM := (Z2 (mMt "list" Q5 (Qh 5) (Qc (mFn JF (Qc (Qo wIx (Qh 3) (Qh 6)) (Qc (Qr 6 QT (Qc (Qh 0) (Qc (Qr 2 Qg (Qc (Qh 0) (Qc (mC (.int 4)) Ql))) (Qc (Qh 2) (Qc (mSl (Qh 3) (Ku (Qo Vy (Qh 6) (mC (.int 1)))) Ko) (Qc (mC (.int 1)) (Qc (mC (.int 1)) Ql))))))) Ql))) Ql)))
noncomputable def Jm : FM := Zf 5
    (QQ (ZF 2 (mFn JF (Qc (Qr 2 QF (Qc (Qh 0) (Qc (Qo Vy (mC (.int 1)) (Qr 2 Qg (Qc (Qh 0) (Qc (Qo wIx (Qh 1) (mC (.int 0))) Ql)))) Ql))) (Qc (Qr 2 QF (Qc (Qh 0) (Qc (Qo Vy (mC (.int 1)) (Qr 2 Qg (Qc (Qh 0) (Qc (Qo wIx (Qh 1) (mC (.int 1))) Ql)))) Ql))) Ql))))
    (QQ (ZF 3 (Qr 2 QF (Qc (Qh 0) (Qc (Qo Vy (mC (.int 1)) (Qr 2 Qg (Qc (Qh 0) (Qc (Qo wIx (Qh 1) (mC (.int 2))) Ql)))) Ql))))
    (QQ (ZF 4 (Qo Gj (Qo wIx (Qh 1) (mC (.int 3))) (Qr 2 Qg (Qc (Qh 0) (Qc (mC (.int 3)) Ql)))))
    (QQ (Vg (QD (Qo wEq (Qr 2 Qg (Qc (Qh 0) (Qc (mC (.int 4)) Ql))) (mC (.int 0)))) (ZF 4 (Qr 2 Qg (Qc (Qh 0) (Qc (Qo Vy (Qh 4) (mC (.int 1))) Ql)))) ZP)
    (QQ (ZF 5 (mFn WS (Qc (mFn JF (Qc (Qo wIx (Qh 3) (mC (.int 0))) (Qc (Qr 6 QT (Qc (Qh 0) (Qc (Qh 4) (Qc (Qh 2) (Qc (mSl (Qh 3) (Ku (mC (.int 1))) Ko) (Qc (mC (.int 2)) (Qc (mC (.int 2)) Ql))))))) Ql))) Ql)))
    (QQ (VQ (Qb9 (Qc (mC (.int 1)) (Qc (mFn JO (Qc (Qh 3) Ql)) Ql))) (J5 6)
    JW)
    (Jp (mFn JT (Qc (Qh 5) Ql)))))))))
set_option maxHeartbeats 4000000 in
theorem Xp (d : DefAt K mg "_law_program" Zr ["feed", "bounds"]) (b_len : mg "len" = none) (b_range : mg "range" = none) (b_tuple : mg "tuple" = none) (c__law_names : Cal P w K mg base 2 "_law_names" ["feed", "many"] QF) (c__law_part : Cal P w K mg base 3 "_law_part" ["feed", "size", "menus", "later", "opens", "dos"] QT) (c__law_take : Cal P w K mg base 1 "_law_take" ["feed", "many"] Qg) : Cal P w K mg base 4 "_law_program" ["feed", "bounds"] Jm := by
  refine Q6 (k := 3) (more := 5) d sc__law_program rfl fun f cdv A outer s H E hr => ?_
  have hu := hr.units
  refine Qf ?_ ?_
  refine Qn ?_ ?_ ?_ ?_ ?_ ?_
  exact sc__law_program.nd
  exact rfl
  exact (Or.inl rfl)
  refine QL ?_
  refine Qa ?_ ?_
  refine Qi (k := 2) (ps := ["feed", "many"]) ?_ ?_ ?_ ?_ ?_ ?_ ?_ ?_
  exact c__law_names
  exact hr.mono (by decide)
  exact rfl
  refine Qa ?_ ?_
  exact Qb 0
  refine Qa ?_ ?_
  refine Q1 QZ Qk ?_ ?_
  exact Qe
  refine Qi (k := 1) (ps := ["feed", "many"]) ?_ ?_ ?_ ?_ ?_ ?_ ?_ ?_
  exact c__law_take
  exact hr.mono (by decide)
  exact rfl
  refine Qa ?_ ?_
  exact Qb 0
  refine Qa ?_ ?_
  refine Qp ?_ ?_
  exact Qb 1
  exact Qe
  exact Qd
  exact rfl
  decide
  exact rfl
  exact rfl
  exact Qd
  exact rfl
  decide
  exact rfl
  exact rfl
  refine Qa ?_ ?_
  refine Qi (k := 2) (ps := ["feed", "many"]) ?_ ?_ ?_ ?_ ?_ ?_ ?_ ?_
  exact c__law_names
  exact hr.mono (by decide)
  exact rfl
  refine Qa ?_ ?_
  exact Qb 0
  refine Qa ?_ ?_
  refine Q1 QZ Qk ?_ ?_
  exact Qe
  refine Qi (k := 1) (ps := ["feed", "many"]) ?_ ?_ ?_ ?_ ?_ ?_ ?_ ?_
  exact c__law_take
  exact hr.mono (by decide)
  exact rfl
  refine Qa ?_ ?_
  exact Qb 0
  refine Qa ?_ ?_
  refine Qp ?_ ?_
  exact Qb 1
  exact Qe
  exact Qd
  exact rfl
  decide
  exact rfl
  exact rfl
  exact Qd
  exact rfl
  decide
  exact rfl
  exact rfl
  exact Qd
  exact rfl
  first | exact .inl rfl | exact .inr rfl
  refine Qf ?_ ?_
  refine Qn ?_ ?_ ?_ ?_ ?_ ?_
  exact sc__law_program.nd
  exact rfl
  exact (Or.inl rfl)
  refine Qi (k := 2) (ps := ["feed", "many"]) ?_ ?_ ?_ ?_ ?_ ?_ ?_ ?_
  exact c__law_names
  exact hr.mono (by decide)
  exact rfl
  refine Qa ?_ ?_
  exact Qb 0
  refine Qa ?_ ?_
  refine Q1 QZ Qk ?_ ?_
  exact Qe
  refine Qi (k := 1) (ps := ["feed", "many"]) ?_ ?_ ?_ ?_ ?_ ?_ ?_ ?_
  exact c__law_take
  exact hr.mono (by decide)
  exact rfl
  refine Qa ?_ ?_
  exact Qb 0
  refine Qa ?_ ?_
  refine Qp ?_ ?_
  exact Qb 1
  exact Qe
  exact Qd
  exact rfl
  decide
  exact rfl
  exact rfl
  exact Qd
  exact rfl
  decide
  exact rfl
  exact rfl
  exact rfl
  first | exact .inl rfl | exact .inr rfl
  refine Qf ?_ ?_
  refine Qn ?_ ?_ ?_ ?_ ?_ ?_
  exact sc__law_program.nd
  exact rfl
  exact (Or.inl rfl)
  refine Q1 Vh Qk ?_ ?_
  refine Qp ?_ ?_
  exact Qb 1
  exact Qe
  refine Qi (k := 1) (ps := ["feed", "many"]) ?_ ?_ ?_ ?_ ?_ ?_ ?_ ?_
  exact c__law_take
  exact hr.mono (by decide)
  exact rfl
  refine Qa ?_ ?_
  exact Qb 0
  refine Qa ?_ ?_
  exact Qe
  exact Qd
  exact rfl
  decide
  exact rfl
  exact rfl
  exact rfl
  first | exact .inl rfl | exact .inr rfl
  refine Qf ?_ ?_
  refine QV ?_ ?_ ?_
  refine Qs (Q9 ?_) Qk ?_ ?_
  exact hu
  refine Qi (k := 1) (ps := ["feed", "many"]) ?_ ?_ ?_ ?_ ?_ ?_ ?_ ?_
  exact c__law_take
  exact hr.mono (by decide)
  exact rfl
  refine Qa ?_ ?_
  exact Qb 0
  refine Qa ?_ ?_
  exact Qe
  exact Qd
  exact rfl
  decide
  exact rfl
  exact rfl
  exact Qe
  refine Qj ?_
  refine Qn ?_ ?_ ?_ ?_ ?_ ?_
  exact sc__law_program.nd
  exact rfl
  exact (Or.inl rfl)
  refine Qi (k := 1) (ps := ["feed", "many"]) ?_ ?_ ?_ ?_ ?_ ?_ ?_ ?_
  exact c__law_take
  exact hr.mono (by decide)
  exact rfl
  refine Qa ?_ ?_
  exact Qb 0
  refine Qa ?_ ?_
  refine Q1 QZ Qk ?_ ?_
  exact Qb 4
  exact Qe
  exact Qd
  exact rfl
  decide
  exact rfl
  exact rfl
  exact rfl
  first | exact .inl rfl | exact .inr rfl
  exact QP
  refine Qf ?_ ?_
  refine Qn ?_ ?_ ?_ ?_ ?_ ?_
  exact sc__law_program.nd
  exact rfl
  exact (Or.inl rfl)
  refine Vc ?_
  refine Qa ?_ ?_
  refine QL ?_
  refine Qa ?_ ?_
  refine Qp ?_ ?_
  exact Qb 3
  exact Qe
  refine Qa ?_ ?_
  refine Qi (k := 3) (ps := ["feed", "size", "menus", "later", "opens", "dos"]) ?_ ?_ ?_ ?_ ?_ ?_ ?_ ?_
  exact c__law_part
  exact hr.mono (by decide)
  exact rfl
  refine Qa ?_ ?_
  exact Qb 0
  refine Qa ?_ ?_
  exact Qb 4
  refine Qa ?_ ?_
  exact Qb 2
  refine Qa ?_ ?_
  refine V5 ?_ ?_ ?_
  exact Qb 3
  refine VW ?_
  exact Qe
  exact V0
  refine Qa ?_ ?_
  exact Qe
  refine Qa ?_ ?_
  exact Qe
  exact Qd
  exact rfl
  decide
  exact rfl
  exact rfl
  exact Qd
  exact Qd
  exact rfl
  first | exact .inl rfl | exact .inr rfl
  refine Qf ?_ ?_
  refine Z7 ?_ ?_ ?_ ?_ ?_ ?_
  exact PassesOwn.never
  exact rfl
  refine QcL ?_ ?_ ?_ ?_ ?_
  exact rfl
  exact b_range
  refine Qa ?_ ?_
  exact Qe
  refine Qa ?_ ?_
  refine QH Qz Qu ?_ ?_ PySem.boot_len ?_ ?_ ?_ ?_ ?_
  exact rfl
  exact b_len
  refine Qa ?_ ?_
  exact Qb 3
  exact Qd
  decide
  decide
  exact rfl
  exact rfl
  exact Qd
  exact rfl
  exact rfl
  exact Q4 (i := 6) (x := "k") sc__law_program.nd rfl (Or.inl rfl)
  refine Qj ?_
  refine QI ?_
  refine Ju PySem.F.plainAttrs_list PySem.F.slot_list_append PySem.F.type_list_append QC ?_ ?_
  exact Qb 5
  refine Qa ?_ ?_
  refine QL ?_
  refine Qa ?_ ?_
  refine Qp ?_ ?_
  exact Qb 3
  exact Qb 6
  refine Qa ?_ ?_
  refine Qi (k := 3) (ps := ["feed", "size", "menus", "later", "opens", "dos"]) ?_ ?_ ?_ ?_ ?_ ?_ ?_ ?_
  exact c__law_part
  exact hr.mono (by decide)
  exact rfl
  refine Qa ?_ ?_
  exact Qb 0
  refine Qa ?_ ?_
  refine Qi (k := 1) (ps := ["feed", "many"]) ?_ ?_ ?_ ?_ ?_ ?_ ?_ ?_
  exact c__law_take
  exact hr.mono (by decide)
  exact rfl
  refine Qa ?_ ?_
  exact Qb 0
  refine Qa ?_ ?_
  exact Qe
  exact Qd
  exact rfl
  decide
  exact rfl
  exact rfl
  refine Qa ?_ ?_
  exact Qb 2
  refine Qa ?_ ?_
  refine V5 ?_ ?_ ?_
  exact Qb 3
  refine VW ?_
  refine Q1 QZ Qk ?_ ?_
  exact Qb 6
  exact Qe
  exact V0
  refine Qa ?_ ?_
  exact Qe
  refine Qa ?_ ?_
  exact Qe
  exact Qd
  exact rfl
  decide
  exact rfl
  exact rfl
  exact Qd
  exact Qd
  exact fun _ => rfl
  refine Qj ?_
  refine Qt ?_
  refine ZZ Zk Qu ?_ ?_ PyProof.Rows.boot_tuple ?_ ?_ ?_ ?_ ?_
  exact rfl
  exact b_tuple
  refine Qa ?_ ?_
  exact Qb 5
  exact Qd
  decide
  decide
  exact rfl
  exact rfl
noncomputable def Zb : FM := box frN Jm
theorem Xu (d : DefAt K mg "_law_program" Zr ["feed", "bounds"]) (b_len : mg "len" = none) (b_range : mg "range" = none) (b_tuple : mg "tuple" = none) (c__law_names : Cal P w K mg base 2 "_law_names" ["feed", "many"] QF) (c__law_part : Cal P w K mg base 3 "_law_part" ["feed", "size", "menus", "later", "opens", "dos"] QT) (c__law_take : Cal P w K mg base 1 "_law_take" ["feed", "many"] Qg) : Cal P w K mg base 4 "_law_program" ["feed", "bounds"] Zb := (Xp d b_len b_range b_tuple c__law_names c__law_part c__law_take).box frN
noncomputable abbrev Zj : Stmt := top 29
theorem sc__law_great : FnScope ["feed", "menus", "names", "way", "lines", "small", "many", "opened", "k"] ["feed"] (Qm Zj) := ⟨rfl, rfl, rfl, by decide +kernel, rfl, by decide +kernel, by decide +kernel⟩
noncomputable abbrev ZR : SM := (QQ (Z2 (mMt "list" Q5 (Qh 4) (Qc (Qr 3 QE (Qc (Qh 0) (Qc (Qo wIx (Qh 1) (mC (.int 0))) (Qc (Qo wIx (Qh 1) (mC (.int 1))) Ql)))) Ql)))
    (QQ (Z2 (mMt "list" Q5 (Qh 7) (Qc (Qo wIx (mFn Ki (Qc (mC (.str "either")) (Qc (mC (.str "again")) Ql))) (Qr 2 Qg (Qc (Qh 0) (Qc (mC (.int 2)) Ql)))) Ql)))
    (Z2 (mMt "list" Q5 (Qh 4) (Qc (mFn JF (Qc (Qo wIx (Qh 7) (mUn KN (mC (.int 1)))) Ql)) Ql)))))
noncomputable abbrev JD : SM := (QQ (Z2 (mMt "list" Q5 (Qh 4) (Qc (Qr 3 QE (Qc (Qh 0) (Qc (Qo wIx (Qh 1) (mC (.int 0))) (Qc (Qo wIx (Qh 1) (mC (.int 1))) Ql)))) Ql)))
    (Z2 (Qr 2 Qv (Qc (Qh 4) (Qc (Qh 7) Ql)))))
noncomputable def ZX : SM := (QQ (Vg (QD (Qo wEq (Qh 3) (mC (.int 0)))) (QQ (ZF 4 (JU Qgq (Yu (Qc (Qo Vy (mC (.int 40)) (Qr 2 Qg (Qc (Qh 0) (Qc (mC (.int 9)) Ql)))) Ql)) [none, some 0, some 1] (J5 0) WJ (Qr 3 QE (Qc (Qh 1) (Qc (Qo wIx (Qh 2) (mC (.int 0))) (Qc (Qo wIx (Qh 2) (mC (.int 1))) Ql))))))
    (Jp (mFn JF (Qc (mFn JF (Qc (Qo wIx (Qh 2) (mC (.int 0))) (Qc (mFn JT (Qc (Qh 4) Ql)) Ql))) Ql)))) ZP)
    (QQ (Vg (QD (Qo wEq (Qh 3) (mC (.int 1)))) (QQ (ZF 5 (Qr 6 QT (Qc (Qh 0) (Qc (Qr 2 Qg (Qc (Qh 0) (Qc (mC (.int 2)) Ql))) (Qc (Qh 1) (Qc (mFn Ki Ql) (Qc (mC (.int 0)) (Qc (mC (.int 0)) Ql))))))))
    (QQ (ZF 6 (Qo Vy (mC (.int 20)) (Qr 2 Qg (Qc (Qh 0) (Qc (mC (.int 4)) Ql)))))
    (Jp (mFn JF (Qc (mFn JF (Qc (Qo wIx (Qh 2) (mC (.int 0))) (Qc (mFn JT (Qc (JU Kx (Yu (Qc (Qh 6) Ql)) [none, some 2] (J5 0) WJ (mFn JF (Qc (mC (.str "do")) (Qc (Qo wIx (Qh 1) (mC (.int 1))) Ql)))) Ql)) Ql))) (Qc (mFn JF (Qc (Qo wIx (Qh 2) (mC (.int 1))) (Qc (Qh 5) Ql))) Ql)))))) ZP)
    (QQ (ZF 4 (mFn WS Ql))
    (QQ (ZF 7 (mFn WS Ql))
    (QQ (VQ (Yu (Qc (mC (.int 6)) Ql)) (J5 8)
    ZR)
    (QQ (Q8 (QD (Qo wGt (mFn JO (Qc (Qh 7) Ql)) (mC (.int 0)))) JD 1000000)
    (Jp (mFn JT (Qc (Qo Vy (mFn Ki (Qc (mFn JF (Qc (Qo wIx (Qh 2) (mC (.int 0))) (Qc (mFn JT (Qc (Qh 4) Ql)) Ql))) Ql)) (JU Kx (JX (mSl (Qh 2) (Ku (mC (.int 1))) Ko)) [none] (J5 0) WJ (mFn JF (Qc (Qh 0) (Qc (mFn JF Ql) Ql))))) Ql)))))))))
noncomputable def Jb : FM := Zf 8
    (QQ (ZF 1 (mFn JF (Qc (Qr 2 QF (Qc (Qh 0) (Qc (mC (.int 5)) Ql))) (Qc (Qr 2 QF (Qc (Qh 0) (Qc (mC (.int 5)) Ql))) Ql))))
    (QQ (ZF 2 (Qr 2 QF (Qc (Qh 0) (Qc (mC (.int 5)) Ql))))
    (QQ (ZF 3 (Qr 2 Qg (Qc (Qh 0) (Qc (mC (.int 3)) Ql))))
    ZX)))
set_option maxHeartbeats 4000000 in
theorem Kt (d : DefAt K mg "_law_great" Zj ["feed"]) (b_len : mg "len" = none) (b_range : mg "range" = none) (b_tuple : mg "tuple" = none) (c__law_names : Cal P w K mg base 2 "_law_names" ["feed", "many"] QF) (c__law_part : Cal P w K mg base 3 "_law_part" ["feed", "size", "menus", "later", "opens", "dos"] QT) (c__law_plain : Cal P w K mg base 2 "_law_plain" ["feed", "boxes", "words"] QE) (c__law_step_on : Cal P w K mg base 1 "_law_step_on" ["lines", "opened"] Qv) (c__law_take : Cal P w K mg base 1 "_law_take" ["feed", "many"] Qg) : Cal P w K mg base 4 "_law_great" ["feed"] Jb := by
  refine Q6 (k := 3) (more := 8) d sc__law_great rfl fun f cdv A outer s H E hr => ?_
  have hu := hr.units
  refine Qf ?_ ?_
  refine Qn ?_ ?_ ?_ ?_ ?_ ?_
  exact sc__law_great.nd
  exact rfl
  exact (Or.inr rfl)
  refine QL ?_
  refine Qa ?_ ?_
  refine Qi (k := 2) (ps := ["feed", "many"]) ?_ ?_ ?_ ?_ ?_ ?_ ?_ ?_
  exact c__law_names
  exact hr.mono (by decide)
  exact rfl
  refine Qa ?_ ?_
  exact Qb 0
  refine Qa ?_ ?_
  exact Qe
  exact Qd
  exact rfl
  decide
  exact rfl
  exact rfl
  refine Qa ?_ ?_
  refine Qi (k := 2) (ps := ["feed", "many"]) ?_ ?_ ?_ ?_ ?_ ?_ ?_ ?_
  exact c__law_names
  exact hr.mono (by decide)
  exact rfl
  refine Qa ?_ ?_
  exact Qb 0
  refine Qa ?_ ?_
  exact Qe
  exact Qd
  exact rfl
  decide
  exact rfl
  exact rfl
  exact Qd
  exact rfl
  first | exact .inl rfl | exact .inr rfl
  refine Qf ?_ ?_
  refine Qn ?_ ?_ ?_ ?_ ?_ ?_
  exact sc__law_great.nd
  exact rfl
  exact (Or.inr rfl)
  refine Qi (k := 2) (ps := ["feed", "many"]) ?_ ?_ ?_ ?_ ?_ ?_ ?_ ?_
  exact c__law_names
  exact hr.mono (by decide)
  exact rfl
  refine Qa ?_ ?_
  exact Qb 0
  refine Qa ?_ ?_
  exact Qe
  exact Qd
  exact rfl
  decide
  exact rfl
  exact rfl
  exact rfl
  first | exact .inl rfl | exact .inr rfl
  refine Qf ?_ ?_
  refine Qn ?_ ?_ ?_ ?_ ?_ ?_
  exact sc__law_great.nd
  exact rfl
  exact (Or.inl rfl)
  refine Qi (k := 1) (ps := ["feed", "many"]) ?_ ?_ ?_ ?_ ?_ ?_ ?_ ?_
  exact c__law_take
  exact hr.mono (by decide)
  exact rfl
  refine Qa ?_ ?_
  exact Qb 0
  refine Qa ?_ ?_
  exact Qe
  exact Qd
  exact rfl
  decide
  exact rfl
  exact rfl
  exact rfl
  first | exact .inl rfl | exact .inr rfl
  refine Qf ?_ ?_
  refine QV ?_ ?_ ?_
  refine Qs (Q9 ?_) Qk ?_ ?_
  exact hu
  exact Qb 3
  exact Qe
  refine Qf ?_ ?_
  refine Wo sc__law_great.nd rfl (Or.inl rfl) ?_ QdS ?_ (YQ (ks := ["menus", "feed"]) (Nb := ["k", "feed", "menus"]) (cp := [none, some 0, some 1]) (N := ["feed", "menus", "names", "way", "lines", "small", "many", "opened", "k"]) (xs := (Qm Zj)) rfl rfl (by decide +kernel) rfl (by decide +kernel) (by intro p hp; simp only [List.mem_cons, List.not_mem_nil, or_false] at hp; rcases hp with rfl | rfl <;> rfl) rfl rfl rfl (by decide +kernel)) ?_ (fun _ _ _ _ _ => ?_) (fun _ _ _ _ _ => ?_) ?_ ?_
  first | exact .inl rfl | exact .inr rfl
  exact rfl
  refine Xi ?_ ?_ ?_ ?_
  exact rfl
  exact b_range
  refine Qa ?_ ?_
  refine Q1 QZ Qk ?_ ?_
  exact Qe
  refine Qi (k := 1) (ps := ["feed", "many"]) ?_ ?_ ?_ ?_ ?_ ?_ ?_ ?_
  exact c__law_take
  exact hr.mono (by decide)
  exact rfl
  refine Qa ?_ ?_
  exact Qb 0
  refine Qa ?_ ?_
  exact Qe
  exact Qd
  exact rfl
  decide
  exact rfl
  exact rfl
  exact Qd
  exact rfl
  exact Q4 (i := 0) (x := "k") (show List.Nodup (["k", "feed", "menus"] : List Str) from by decide +kernel) rfl (Or.inl rfl)
  refine Qi (k := 2) (ps := ["feed", "boxes", "words"]) ?_ ?_ ?_ ?_ ?_ ?_ ?_ ?_
  exact c__law_plain
  exact hr.mono (by decide)
  exact rfl
  refine Qa ?_ ?_
  exact Qb 1
  refine Qa ?_ ?_
  refine Qp ?_ ?_
  exact Qb 2
  exact Qe
  refine Qa ?_ ?_
  refine Qp ?_ ?_
  exact Qb 2
  exact Qe
  exact Qd
  exact rfl
  decide
  exact rfl
  exact rfl
  exact fun _ => rfl
  exact rfl
  refine Qj ?_
  refine Qt ?_
  refine QL ?_
  refine Qa ?_ ?_
  refine QL ?_
  refine Qa ?_ ?_
  refine Qp ?_ ?_
  exact Qb 2
  exact Qe
  refine Qa ?_ ?_
  refine ZZ Zk Qu ?_ ?_ PyProof.Rows.boot_tuple ?_ ?_ ?_ ?_ ?_
  exact rfl
  exact b_tuple
  refine Qa ?_ ?_
  exact Qb 4
  exact Qd
  decide
  decide
  exact rfl
  exact rfl
  exact Qd
  exact Qd
  exact QP
  refine Qf ?_ ?_
  refine QV ?_ ?_ ?_
  refine Qs (Q9 ?_) Qk ?_ ?_
  exact hu
  exact Qb 3
  exact Qe
  refine Qf ?_ ?_
  refine Qn ?_ ?_ ?_ ?_ ?_ ?_
  exact sc__law_great.nd
  exact rfl
  exact (Or.inl rfl)
  refine Qi (k := 3) (ps := ["feed", "size", "menus", "later", "opens", "dos"]) ?_ ?_ ?_ ?_ ?_ ?_ ?_ ?_
  exact c__law_part
  exact hr.mono (by decide)
  exact rfl
  refine Qa ?_ ?_
  exact Qb 0
  refine Qa ?_ ?_
  refine Qi (k := 1) (ps := ["feed", "many"]) ?_ ?_ ?_ ?_ ?_ ?_ ?_ ?_
  exact c__law_take
  exact hr.mono (by decide)
  exact rfl
  refine Qa ?_ ?_
  exact Qb 0
  refine Qa ?_ ?_
  exact Qe
  exact Qd
  exact rfl
  decide
  exact rfl
  exact rfl
  refine Qa ?_ ?_
  exact Qb 1
  refine Qa ?_ ?_
  refine Z0 ?_
  exact Qd
  refine Qa ?_ ?_
  exact Qe
  refine Qa ?_ ?_
  exact Qe
  exact Qd
  exact rfl
  decide
  exact rfl
  exact rfl
  exact rfl
  first | exact .inl rfl | exact .inr rfl
  refine Qf ?_ ?_
  refine Qn ?_ ?_ ?_ ?_ ?_ ?_
  exact sc__law_great.nd
  exact rfl
  exact (Or.inl rfl)
  refine Q1 QZ Qk ?_ ?_
  exact Qe
  refine Qi (k := 1) (ps := ["feed", "many"]) ?_ ?_ ?_ ?_ ?_ ?_ ?_ ?_
  exact c__law_take
  exact hr.mono (by decide)
  exact rfl
  refine Qa ?_ ?_
  exact Qb 0
  refine Qa ?_ ?_
  exact Qe
  exact Qd
  exact rfl
  decide
  exact rfl
  exact rfl
  exact rfl
  first | exact .inl rfl | exact .inr rfl
  refine Qj ?_
  refine Qt ?_
  refine QL ?_
  refine Qa ?_ ?_
  refine QL ?_
  refine Qa ?_ ?_
  refine Qp ?_ ?_
  exact Qb 2
  exact Qe
  refine Qa ?_ ?_
  refine ZZ Zk Qu ?_ ?_ PyProof.Rows.boot_tuple ?_ ?_ ?_ ?_ ?_
  exact rfl
  exact b_tuple
  refine Qa ?_ ?_
  refine VR VL ?_ (YQ (ks := ["names"]) (Nb := ["k", "names"]) (cp := [none, some 2]) (N := ["feed", "menus", "names", "way", "lines", "small", "many", "opened", "k"]) (xs := (Qm Zj)) rfl rfl (by decide +kernel) rfl (by decide +kernel) (by intro p hp; simp only [List.mem_cons, List.not_mem_nil, or_false] at hp; rcases hp with rfl <;> rfl) rfl rfl rfl (by decide +kernel)) ?_ (fun _ _ _ _ _ => ?_) (fun _ _ _ _ _ => ?_)
  exact rfl
  refine Xi ?_ ?_ ?_ ?_
  exact rfl
  exact b_range
  refine Qa ?_ ?_
  exact Qb 6
  exact Qd
  exact rfl
  exact Q4 (i := 0) (x := "k") (show List.Nodup (["k", "names"] : List Str) from by decide +kernel) rfl (Or.inl rfl)
  refine QL ?_
  refine Qa ?_ ?_
  exact QR
  refine Qa ?_ ?_
  refine Qp ?_ ?_
  exact Qb 1
  exact Qe
  exact Qd
  exact Qd
  decide
  decide
  exact rfl
  exact rfl
  exact Qd
  refine Qa ?_ ?_
  refine QL ?_
  refine Qa ?_ ?_
  refine Qp ?_ ?_
  exact Qb 2
  exact Qe
  refine Qa ?_ ?_
  exact Qb 5
  exact Qd
  exact Qd
  exact QP
  refine Qf ?_ ?_
  refine Qn ?_ ?_ ?_ ?_ ?_ ?_
  exact sc__law_great.nd
  exact rfl
  exact (Or.inl rfl)
  refine Vc ?_
  exact Qd
  exact rfl
  first | exact .inl rfl | exact .inr rfl
  refine Qf ?_ ?_
  refine Qn ?_ ?_ ?_ ?_ ?_ ?_
  exact sc__law_great.nd
  exact rfl
  exact (Or.inl rfl)
  refine Vc ?_
  exact Qd
  exact rfl
  first | exact .inl rfl | exact .inr rfl
  refine Qf ?_ ?_
  refine Z7 ?_ ?_ ?_ ?_ ?_ ?_
  exact PassesOwn.never
  exact rfl
  refine Xi ?_ ?_ ?_ ?_
  exact rfl
  exact b_range
  refine Qa ?_ ?_
  exact Qe
  exact Qd
  exact rfl
  exact Q4 (i := 8) (x := "k") sc__law_great.nd rfl (Or.inl rfl)
  refine Qf ?_ ?_
  refine QI ?_
  refine Ju PySem.F.plainAttrs_list PySem.F.slot_list_append PySem.F.type_list_append QC ?_ ?_
  exact Qb 4
  refine Qa ?_ ?_
  refine Qi (k := 2) (ps := ["feed", "boxes", "words"]) ?_ ?_ ?_ ?_ ?_ ?_ ?_ ?_
  exact c__law_plain
  exact hr.mono (by decide)
  exact rfl
  refine Qa ?_ ?_
  exact Qb 0
  refine Qa ?_ ?_
  refine Qp ?_ ?_
  exact Qb 1
  exact Qe
  refine Qa ?_ ?_
  refine Qp ?_ ?_
  exact Qb 1
  exact Qe
  exact Qd
  exact rfl
  decide
  exact rfl
  exact rfl
  exact Qd
  refine Qf ?_ ?_
  refine QI ?_
  refine Ju PySem.F.plainAttrs_list PySem.F.slot_list_append PySem.F.type_list_append QC ?_ ?_
  exact Qb 7
  refine Qa ?_ ?_
  refine Qp ?_ ?_
  refine Z0 ?_
  refine Qa ?_ ?_
  exact QR
  refine Qa ?_ ?_
  exact QR
  exact Qd
  refine Qi (k := 1) (ps := ["feed", "many"]) ?_ ?_ ?_ ?_ ?_ ?_ ?_ ?_
  exact c__law_take
  exact hr.mono (by decide)
  exact rfl
  refine Qa ?_ ?_
  exact Qb 0
  refine Qa ?_ ?_
  exact Qe
  exact Qd
  exact rfl
  decide
  exact rfl
  exact rfl
  exact Qd
  refine Qj ?_
  refine QI ?_
  refine Ju PySem.F.plainAttrs_list PySem.F.slot_list_append PySem.F.type_list_append QC ?_ ?_
  exact Qb 4
  refine Qa ?_ ?_
  refine QL ?_
  refine Qa ?_ ?_
  refine Qp ?_ ?_
  exact Qb 7
  refine JV ?_
  exact Qe
  exact Qd
  exact Qd
  exact fun _ => rfl
  refine Qf ?_ ?_
  refine XX 1000000 ?_ ?_ ?_
  exact PassesOwn.never
  refine Qs XY Qk ?_ ?_
  refine QH Qz Qu ?_ ?_ PySem.boot_len ?_ ?_ ?_ ?_ ?_
  exact rfl
  exact b_len
  refine Qa ?_ ?_
  exact Qb 7
  exact Qd
  decide
  decide
  exact rfl
  exact rfl
  exact Qe
  refine Qf ?_ ?_
  refine QI ?_
  refine Ju PySem.F.plainAttrs_list PySem.F.slot_list_append PySem.F.type_list_append QC ?_ ?_
  exact Qb 4
  refine Qa ?_ ?_
  refine Qi (k := 2) (ps := ["feed", "boxes", "words"]) ?_ ?_ ?_ ?_ ?_ ?_ ?_ ?_
  exact c__law_plain
  exact hr.mono (by decide)
  exact rfl
  refine Qa ?_ ?_
  exact Qb 0
  refine Qa ?_ ?_
  refine Qp ?_ ?_
  exact Qb 1
  exact Qe
  refine Qa ?_ ?_
  refine Qp ?_ ?_
  exact Qb 1
  exact Qe
  exact Qd
  exact rfl
  decide
  exact rfl
  exact rfl
  exact Qd
  refine Qj ?_
  refine QI ?_
  refine Qi (k := 1) (ps := ["lines", "opened"]) ?_ ?_ ?_ ?_ ?_ ?_ ?_ ?_
  exact c__law_step_on
  exact hr.mono (by decide)
  exact rfl
  refine Qa ?_ ?_
  exact Qb 4
  refine Qa ?_ ?_
  exact Qb 7
  exact Qd
  exact rfl
  decide
  exact rfl
  exact rfl
  refine Qj ?_
  refine Qt ?_
  refine ZZ Zk Qu ?_ ?_ PyProof.Rows.boot_tuple ?_ ?_ ?_ ?_ ?_
  exact rfl
  exact b_tuple
  refine Qa ?_ ?_
  refine Q1 QZ Qk ?_ ?_
  refine Z0 ?_
  refine Qa ?_ ?_
  refine QL ?_
  refine Qa ?_ ?_
  refine Qp ?_ ?_
  exact Qb 2
  exact Qe
  refine Qa ?_ ?_
  refine ZZ Zk Qu ?_ ?_ PyProof.Rows.boot_tuple ?_ ?_ ?_ ?_ ?_
  exact rfl
  exact b_tuple
  refine Qa ?_ ?_
  exact Qb 4
  exact Qd
  decide
  decide
  exact rfl
  exact rfl
  exact Qd
  exact Qd
  refine VR VL ?_ (X9 (Nb := ["name"]) (cp := [none]) rfl (by decide +kernel) (by decide +kernel) rfl rfl) ?_ (fun _ _ _ _ _ => ?_) (fun _ _ _ _ _ => ?_)
  exact rfl
  refine Vi ?_
  refine V5 ?_ ?_ ?_
  exact Qb 2
  refine VW ?_
  exact Qe
  exact V0
  exact Q4 (i := 0) (x := "name") (show List.Nodup (["name"] : List Str) from by decide +kernel) rfl (Or.inl rfl)
  refine QL ?_
  refine Qa ?_ ?_
  exact Qb 0
  refine Qa ?_ ?_
  refine QL ?_
  exact Qd
  exact Qd
  exact Qd
  decide
  decide
  exact rfl
  exact rfl
noncomputable def ZD : FM := box frN Jb
theorem Ky (d : DefAt K mg "_law_great" Zj ["feed"]) (b_len : mg "len" = none) (b_range : mg "range" = none) (b_tuple : mg "tuple" = none) (c__law_names : Cal P w K mg base 2 "_law_names" ["feed", "many"] QF) (c__law_part : Cal P w K mg base 3 "_law_part" ["feed", "size", "menus", "later", "opens", "dos"] QT) (c__law_plain : Cal P w K mg base 2 "_law_plain" ["feed", "boxes", "words"] QE) (c__law_step_on : Cal P w K mg base 1 "_law_step_on" ["lines", "opened"] Qv) (c__law_take : Cal P w K mg base 1 "_law_take" ["feed", "many"] Qg) : Cal P w K mg base 4 "_law_great" ["feed"] ZD := (Kt d b_len b_range b_tuple c__law_names c__law_part c__law_plain c__law_step_on c__law_take).box frN
noncomputable abbrev JB : Stmt := top 31
theorem Wy : FnScope ["feed", "bounds"] ["feed", "bounds"] (Qm JB) := ⟨rfl, rfl, rfl, by decide +kernel, rfl, by decide +kernel, by decide +kernel⟩
noncomputable def JG : FM := Zf 0
    (QQ (Vg (QD (Qo wEq (Qr 2 Qg (Qc (Qh 0) (Qc (mC (.int 8)) Ql))) (mC (.int 5)))) (Jp (Qr 1 ZD (Qc (Qh 0) Ql))) ZP)
    (Jp (Qr 2 Zb (Qc (Qh 0) (Qc (Qh 1) Ql)))))
set_option maxHeartbeats 4000000 in
theorem Y0 (d : DefAt K mg "_law_any" JB ["feed", "bounds"]) (c__law_great : Cal P w K mg base 4 "_law_great" ["feed"] ZD) (c__law_program : Cal P w K mg base 4 "_law_program" ["feed", "bounds"] Zb) (c__law_take : Cal P w K mg base 1 "_law_take" ["feed", "many"] Qg) : Cal P w K mg base 5 "_law_any" ["feed", "bounds"] JG := by
  refine Q6 (k := 4) (more := 0) d Wy rfl fun f cdv A outer s H E hr => ?_
  have hu := hr.units
  refine Qf ?_ ?_
  refine QV ?_ ?_ ?_
  refine Qs (Q9 ?_) Qk ?_ ?_
  exact hu
  refine Qi (k := 1) (ps := ["feed", "many"]) ?_ ?_ ?_ ?_ ?_ ?_ ?_ ?_
  exact c__law_take
  exact hr.mono (by decide)
  exact rfl
  refine Qa ?_ ?_
  exact Qb 0
  refine Qa ?_ ?_
  exact Qe
  exact Qd
  exact rfl
  decide
  exact rfl
  exact rfl
  exact Qe
  refine Qj ?_
  refine Qt ?_
  refine Qi (k := 4) (ps := ["feed"]) ?_ ?_ ?_ ?_ ?_ ?_ ?_ ?_
  exact c__law_great
  exact hr.mono (by decide)
  exact rfl
  refine Qa ?_ ?_
  exact Qb 0
  exact Qd
  exact rfl
  decide
  exact rfl
  exact rfl
  exact QP
  refine Qj ?_
  refine Qt ?_
  refine Qi (k := 4) (ps := ["feed", "bounds"]) ?_ ?_ ?_ ?_ ?_ ?_ ?_ ?_
  exact c__law_program
  exact hr.mono (by decide)
  exact rfl
  refine Qa ?_ ?_
  exact Qb 0
  refine Qa ?_ ?_
  exact Qb 1
  exact Qd
  exact rfl
  decide
  exact rfl
  exact rfl
noncomputable def JC : FM := box frN JG
theorem YV (d : DefAt K mg "_law_any" JB ["feed", "bounds"]) (c__law_great : Cal P w K mg base 4 "_law_great" ["feed"] ZD) (c__law_program : Cal P w K mg base 4 "_law_program" ["feed", "bounds"] Zb) (c__law_take : Cal P w K mg base 1 "_law_take" ["feed", "many"] Qg) : Cal P w K mg base 5 "_law_any" ["feed", "bounds"] JC := (Y0 d c__law_great c__law_program c__law_take).box frN
noncomputable abbrev Jj : Stmt := top 22
theorem sc__law_feed : FnScope ["script", "k", "cell", "digits"] ["script", "k"] (Qm Jj) := ⟨rfl, rfl, rfl, by decide +kernel, rfl, by decide +kernel, by decide +kernel⟩
noncomputable def ZU : FM := Zf 2
    (QQ (ZF 2 (mC (.int 0)))
    (QQ (Vg (QD (Qo wLt (Qh 1) (mFn JO (Qc (Qh 0) Ql)))) (ZF 2 (Qo wIx (Qh 0) (Qh 1))) ZP)
    (QQ (ZF 3 (mC (.int 0)))
    (QQ (Vg (QD (Qo wGe (Qh 2) (Qo Qer (mC (.int 10)) (mC (.int 18))))) (ZF 3 (Qo Gj (Qh 2) (Qo Qer (mC (.int 10)) (mC (.int 18))))) ZP)
    (Jp (mFn WS (Qc (Qh 3) (Qc (Qo Vy (Qo GZ (Qo VU (Qo GZ (Qh 2) (mC (.int 2147483647))) (mC (.int 48271))) (mC (.int 2147483647))) (Qh 1)) Ql))))))))
set_option maxHeartbeats 4000000 in
theorem Yf (d : DefAt K mg "_law_feed" Jj ["script", "k"]) (b_len : mg "len" = none) : Cal P w K mg base 1 "_law_feed" ["script", "k"] ZU := by
  refine Q6 (k := 0) (more := 2) d sc__law_feed rfl fun f cdv A outer s H E hr => ?_
  have hu := hr.units
  refine Qf ?_ ?_
  refine Qn ?_ ?_ ?_ ?_ ?_ ?_
  exact sc__law_feed.nd
  exact rfl
  exact (Or.inl rfl)
  exact Qe
  exact rfl
  first | exact .inl rfl | exact .inr rfl
  refine Qf ?_ ?_
  refine QV ?_ ?_ ?_
  refine Qs KH Qk ?_ ?_
  exact Qb 1
  refine QH Qz Qu ?_ ?_ PySem.boot_len ?_ ?_ ?_ ?_ ?_
  exact rfl
  exact b_len
  refine Qa ?_ ?_
  exact Qb 0
  exact Qd
  decide
  decide
  exact rfl
  exact rfl
  refine Qj ?_
  refine Qn ?_ ?_ ?_ ?_ ?_ ?_
  exact sc__law_feed.nd
  exact rfl
  exact (Or.inl rfl)
  refine Qp ?_ ?_
  exact Qb 0
  exact Qb 1
  exact rfl
  first | exact .inl rfl | exact .inr rfl
  exact QP
  refine Qf ?_ ?_
  refine Qn ?_ ?_ ?_ ?_ ?_ ?_
  exact sc__law_feed.nd
  exact rfl
  exact (Or.inl rfl)
  exact Qe
  exact rfl
  first | exact .inl rfl | exact .inr rfl
  refine Qf ?_ ?_
  refine QV ?_ ?_ ?_
  refine Qs Qe7 Qk ?_ ?_
  exact Qb 2
  refine Q1 GW Qk ?_ ?_
  exact Qe
  exact Qe
  refine Qj ?_
  refine Qn ?_ ?_ ?_ ?_ ?_ ?_
  exact sc__law_feed.nd
  exact rfl
  exact (Or.inl rfl)
  refine Q1 Vh Qk ?_ ?_
  exact Qb 2
  refine Q1 GW Qk ?_ ?_
  exact Qe
  exact Qe
  exact rfl
  first | exact .inl rfl | exact .inr rfl
  exact QP
  refine Qj ?_
  refine Qt ?_
  refine Vc ?_
  refine Qa ?_ ?_
  exact Qb 3
  refine Qa ?_ ?_
  refine Q1 QZ Qk ?_ ?_
  refine Q1 Xd Qk ?_ ?_
  refine Q1 Vv Qk ?_ ?_
  refine Q1 Xd Qk ?_ ?_
  exact Qb 2
  exact Qe
  exact Qe
  exact Qe
  exact Qb 1
  exact Qd
noncomputable def Zd : FM := box frR ZU
theorem Yb (d : DefAt K mg "_law_feed" Jj ["script", "k"]) (b_len : mg "len" = none) : Cal P w K mg base 1 "_law_feed" ["script", "k"] Zd := (Yf d b_len).box frR
noncomputable abbrev Zs : Stmt := top 30
theorem sc__law_dressed : FnScope ["program", "feed", "words", "name", "lines", "parts", "fresh", "line"] ["program", "feed"] (Qm Zs) := ⟨rfl, rfl, rfl, by decide +kernel, rfl, by decide +kernel, by decide +kernel⟩
noncomputable abbrev Z6 : SM := (Z2 (mMt "list" Yj (Qh 2) (Qc (JU Kx (JX (Qh 4)) [none] (J5 0) (QD (Qo wEq (Qo wIx (Qh 0) (mC (.int 0))) (mC (.str "pair")))) (Qo wIx (Qh 0) (mC (.int 2)))) Ql)))
noncomputable abbrev Z8 : SM := (QQ (Vg (QD (Qo wEq (Qr 2 Qg (Qc (Qh 1) (Qc (mC (.int 4)) Ql))) (mC (.int 0)))) (Z2 (mMt "list" Q5 (Qh 6) (Qc (mFn JF (Qc (mC (.str "back")) (Qc (Qo wIx (Qh 2) (Qr 2 Qg (Qc (Qh 1) (Qc (mFn JO (Qc (Qh 2) Ql)) Ql)))) Ql))) Ql))) ZP)
    (Z2 (mMt "list" Q5 (Qh 6) (Qc (Qh 7) Ql))))
noncomputable abbrev ZA : SM := (QQ (ZF 6 (mFn WS Ql))
    (QQ (VQ (JX (Qh 4)) (J5 7)
    Z8)
    (QQ (Vg (QD (Qo wEq (Qr 2 Qg (Qc (Qh 1) (Qc (mC (.int 4)) Ql))) (mC (.int 0)))) (Z2 (mMt "list" Q5 (Qh 6) (Qc (mFn JF (Qc (mC (.str "back")) (Qc (Qo wIx (Qh 2) (mC (.int 0))) Ql))) Ql))) ZP)
    (Z2 (mMt "list" Q5 (Qh 5) (Qc (mFn JF (Qc (Qh 3) (Qc (mFn JT (Qc (Qh 6) Ql)) Ql))) Ql))))))
noncomputable def Zm : FM := Zf 6
    (QQ (ZF 2 (mFn WS Ql))
    (QQ (VQ (JX (Qh 0)) (KT [3, 4])
    Z6)
    (QQ (Vg (QaZ (QD (Qo wEq (mFn JO (Qc (Qh 2) Ql)) (mC (.int 0)))) (QD (Qo wEq (Qr 2 Qg (Qc (Qh 1) (Qc (mC (.int 2)) Ql))) (mC (.int 0))))) (Jp (Qh 0)) ZP)
    (QQ (ZF 5 (mFn WS Ql))
    (QQ (VQ (JX (Qh 0)) (KT [3, 4])
    ZA)
    (Jp (mFn JT (Qc (Qh 5) Ql))))))))
set_option maxHeartbeats 4000000 in
theorem Xr (d : DefAt K mg "_law_dressed" Zs ["program", "feed"]) (b_len : mg "len" = none) (b_tuple : mg "tuple" = none) (c__law_take : Cal P w K mg base 1 "_law_take" ["feed", "many"] Qg) : Cal P w K mg base 2 "_law_dressed" ["program", "feed"] Zm := by
  refine Q6 (k := 1) (more := 6) d sc__law_dressed rfl fun f cdv A outer s H E hr => ?_
  have hu := hr.units
  refine Qf ?_ ?_
  refine Qn ?_ ?_ ?_ ?_ ?_ ?_
  exact sc__law_dressed.nd
  exact rfl
  exact (Or.inl rfl)
  refine Vc ?_
  exact Qd
  exact rfl
  first | exact .inl rfl | exact .inr rfl
  refine Qf ?_ ?_
  refine Z7 ?_ ?_ ?_ ?_ ?_ ?_
  exact PassesOwn.never
  exact rfl
  refine Vi ?_
  exact Qb 0
  refine Yv (is := [3, 4]) ?_ ?_ ?_ ?_
  exact rfl
  refine JS (i := 3) (x := "name") sc__law_dressed.nd rfl (Or.inl rfl) ?_ ?_
  refine JS (i := 4) (x := "lines") sc__law_dressed.nd rfl (Or.inl rfl) ?_ ?_
  exact K0
  first | exact .inl rfl | exact .inr rfl
  first | exact .inl rfl | exact .inr rfl
  exact rfl
  exact rfl
  refine Qj ?_
  refine QI ?_
  refine Ju PySem.F.plainAttrs_list PySem.F.slot_list_extend PySem.F.type_list_extend UR ?_ ?_
  exact Qb 2
  refine Qa ?_ ?_
  refine Qca VL ?_ (X9 (Nb := ["line"]) (cp := [none]) rfl (by decide +kernel) (by decide +kernel) rfl rfl) ?_ (fun _ _ _ _ _ => ?_) (fun _ _ _ _ _ => ?_) (fun _ _ _ _ _ => ?_)
  exact rfl
  refine Vi ?_
  exact Qb 4
  exact Q4 (i := 0) (x := "line") (show List.Nodup (["line"] : List Str) from by decide +kernel) rfl (Or.inl rfl)
  refine Qs (Q9 ?_) Qk ?_ ?_
  exact hu
  refine Qp ?_ ?_
  exact Qb 0
  exact Qe
  exact QR
  refine Qp ?_ ?_
  exact Qb 0
  exact Qe
  exact Qd
  exact fun _ => rfl
  refine Qf ?_ ?_
  refine QV ?_ ?_ ?_
  refine PMW.pt ?_
  refine Wq ?_ ?_
  refine Qs (Q9 ?_) Qk ?_ ?_
  exact hu
  refine QH Qz Qu ?_ ?_ PySem.boot_len ?_ ?_ ?_ ?_ ?_
  exact rfl
  exact b_len
  refine Qa ?_ ?_
  exact Qb 2
  exact Qd
  decide
  decide
  exact rfl
  exact rfl
  exact Qe
  refine X1 ?_
  refine Qs (Q9 ?_) Qk ?_ ?_
  exact hu
  refine Qi (k := 1) (ps := ["feed", "many"]) ?_ ?_ ?_ ?_ ?_ ?_ ?_ ?_
  exact c__law_take
  exact hr.mono (by decide)
  exact rfl
  refine Qa ?_ ?_
  exact Qb 1
  refine Qa ?_ ?_
  exact Qe
  exact Qd
  exact rfl
  decide
  exact rfl
  exact rfl
  exact Qe
  refine Qj ?_
  refine Qt ?_
  exact Qb 0
  exact QP
  refine Qf ?_ ?_
  refine Qn ?_ ?_ ?_ ?_ ?_ ?_
  exact sc__law_dressed.nd
  exact rfl
  exact (Or.inl rfl)
  refine Vc ?_
  exact Qd
  exact rfl
  first | exact .inl rfl | exact .inr rfl
  refine Qf ?_ ?_
  refine Z7 ?_ ?_ ?_ ?_ ?_ ?_
  exact PassesOwn.never
  exact rfl
  refine Vi ?_
  exact Qb 0
  refine Yv (is := [3, 4]) ?_ ?_ ?_ ?_
  exact rfl
  refine JS (i := 3) (x := "name") sc__law_dressed.nd rfl (Or.inl rfl) ?_ ?_
  refine JS (i := 4) (x := "lines") sc__law_dressed.nd rfl (Or.inl rfl) ?_ ?_
  exact K0
  first | exact .inl rfl | exact .inr rfl
  first | exact .inl rfl | exact .inr rfl
  exact rfl
  exact rfl
  refine Qf ?_ ?_
  refine Qn ?_ ?_ ?_ ?_ ?_ ?_
  exact sc__law_dressed.nd
  exact rfl
  exact (Or.inl rfl)
  refine Vc ?_
  exact Qd
  exact rfl
  first | exact .inl rfl | exact .inr rfl
  refine Qf ?_ ?_
  refine Z7 ?_ ?_ ?_ ?_ ?_ ?_
  exact PassesOwn.never
  exact rfl
  refine Vi ?_
  exact Qb 4
  exact Q4 (i := 7) (x := "line") sc__law_dressed.nd rfl (Or.inl rfl)
  refine Qf ?_ ?_
  refine QV ?_ ?_ ?_
  refine Qs (Q9 ?_) Qk ?_ ?_
  exact hu
  refine Qi (k := 1) (ps := ["feed", "many"]) ?_ ?_ ?_ ?_ ?_ ?_ ?_ ?_
  exact c__law_take
  exact hr.mono (by decide)
  exact rfl
  refine Qa ?_ ?_
  exact Qb 1
  refine Qa ?_ ?_
  exact Qe
  exact Qd
  exact rfl
  decide
  exact rfl
  exact rfl
  exact Qe
  refine Qj ?_
  refine QI ?_
  refine Ju PySem.F.plainAttrs_list PySem.F.slot_list_append PySem.F.type_list_append QC ?_ ?_
  exact Qb 6
  refine Qa ?_ ?_
  refine QL ?_
  refine Qa ?_ ?_
  exact QR
  refine Qa ?_ ?_
  refine Qp ?_ ?_
  exact Qb 2
  refine Qi (k := 1) (ps := ["feed", "many"]) ?_ ?_ ?_ ?_ ?_ ?_ ?_ ?_
  exact c__law_take
  exact hr.mono (by decide)
  exact rfl
  refine Qa ?_ ?_
  exact Qb 1
  refine Qa ?_ ?_
  refine QH Qz Qu ?_ ?_ PySem.boot_len ?_ ?_ ?_ ?_ ?_
  exact rfl
  exact b_len
  refine Qa ?_ ?_
  exact Qb 2
  exact Qd
  decide
  decide
  exact rfl
  exact rfl
  exact Qd
  exact rfl
  decide
  exact rfl
  exact rfl
  exact Qd
  exact Qd
  exact QP
  refine Qj ?_
  refine QI ?_
  refine Ju PySem.F.plainAttrs_list PySem.F.slot_list_append PySem.F.type_list_append QC ?_ ?_
  exact Qb 6
  refine Qa ?_ ?_
  exact Qb 7
  exact Qd
  exact fun _ => rfl
  refine Qf ?_ ?_
  refine QV ?_ ?_ ?_
  refine Qs (Q9 ?_) Qk ?_ ?_
  exact hu
  refine Qi (k := 1) (ps := ["feed", "many"]) ?_ ?_ ?_ ?_ ?_ ?_ ?_ ?_
  exact c__law_take
  exact hr.mono (by decide)
  exact rfl
  refine Qa ?_ ?_
  exact Qb 1
  refine Qa ?_ ?_
  exact Qe
  exact Qd
  exact rfl
  decide
  exact rfl
  exact rfl
  exact Qe
  refine Qj ?_
  refine QI ?_
  refine Ju PySem.F.plainAttrs_list PySem.F.slot_list_append PySem.F.type_list_append QC ?_ ?_
  exact Qb 6
  refine Qa ?_ ?_
  refine QL ?_
  refine Qa ?_ ?_
  exact QR
  refine Qa ?_ ?_
  refine Qp ?_ ?_
  exact Qb 2
  exact Qe
  exact Qd
  exact Qd
  exact QP
  refine Qj ?_
  refine QI ?_
  refine Ju PySem.F.plainAttrs_list PySem.F.slot_list_append PySem.F.type_list_append QC ?_ ?_
  exact Qb 5
  refine Qa ?_ ?_
  refine QL ?_
  refine Qa ?_ ?_
  exact Qb 3
  refine Qa ?_ ?_
  refine ZZ Zk Qu ?_ ?_ PyProof.Rows.boot_tuple ?_ ?_ ?_ ?_ ?_
  exact rfl
  exact b_tuple
  refine Qa ?_ ?_
  exact Qb 6
  exact Qd
  decide
  decide
  exact rfl
  exact rfl
  exact Qd
  exact Qd
  exact fun _ => rfl
  refine Qj ?_
  refine Qt ?_
  refine ZZ Zk Qu ?_ ?_ PyProof.Rows.boot_tuple ?_ ?_ ?_ ?_ ?_
  exact rfl
  exact b_tuple
  refine Qa ?_ ?_
  exact Qb 5
  exact Qd
  decide
  decide
  exact rfl
  exact rfl
noncomputable def Zv : FM := box frN Zm
theorem Xs (d : DefAt K mg "_law_dressed" Zs ["program", "feed"]) (b_len : mg "len" = none) (b_tuple : mg "tuple" = none) (c__law_take : Cal P w K mg base 1 "_law_take" ["feed", "many"] Qg) : Cal P w K mg base 2 "_law_dressed" ["program", "feed"] Zv := (Xr d b_len b_tuple c__law_take).box frN
noncomputable abbrev ZG : Stmt := top 7
theorem Ks : FnScope ["program", "name"] ["program", "name"] (Qm ZG) := ⟨rfl, rfl, rfl, by decide +kernel, rfl, by decide +kernel, by decide +kernel⟩
noncomputable def JA : FM := Zf 0
    (Jp (mMt "list" Wp (JU Kx (JX (Qh 0)) [none] (J5 0) WJ (Qo wIx (Qh 0) (mC (.int 0)))) (Qc (Qh 1) Ql)))
set_option maxHeartbeats 4000000 in
theorem X3 (d : DefAt K mg "part_number" ZG ["program", "name"]) : Cal P w K mg base 1 "part_number" ["program", "name"] JA := by
  refine Q6 (k := 0) (more := 0) d Ks rfl fun f cdv A outer s H E hr => ?_
  have hu := hr.units
  refine Qj ?_
  refine Qt ?_
  refine Ju PySem.F.plainAttrs_list PySem.F.slot_list_index PySem.F.type_list_index (Gv ?_) ?_ ?_
  exact hu
  refine VR VL ?_ (X9 (Nb := ["part"]) (cp := [none]) rfl (by decide +kernel) (by decide +kernel) rfl rfl) ?_ (fun _ _ _ _ _ => ?_) (fun _ _ _ _ _ => ?_)
  exact rfl
  refine Vi ?_
  exact Qb 0
  exact Q4 (i := 0) (x := "part") (show List.Nodup (["part"] : List Str) from by decide +kernel) rfl (Or.inl rfl)
  refine Qp ?_ ?_
  exact Qb 0
  exact Qe
  refine Qa ?_ ?_
  exact Qb 1
  exact Qd
noncomputable def QB : FM := box frN JA
theorem Kg (d : DefAt K mg "part_number" ZG ["program", "name"]) : Cal P w K mg base 1 "part_number" ["program", "name"] QB := (X3 d).box frN
noncomputable abbrev ZB : Stmt := top 10
theorem sc_flat_lines : FnScope ["program", "part", "lines", "line"] ["program", "part"] (Qm ZB) := ⟨rfl, rfl, rfl, by decide +kernel, rfl, by decide +kernel, by decide +kernel⟩
noncomputable abbrev Vn (rec_ : FM) : SM := (Vg (QD (Qo wEq (Qo wIx (Qh 3) (mC (.int 0))) (mC (.str "do")))) (Z2 (mMt "list" XE (Qh 2) (Qc (Qr 2 rec_ (Qc (Qh 0) (Qc (Qr 2 QB (Qc (Qh 0) (Qc (Qo wIx (Qh 3) (mC (.int 1))) Ql))) Ql))) Ql))) (Z2 (mMt "list" Q5 (Qh 2) (Qc (Qh 3) Ql))))
noncomputable def JL (rec_ : FM) : FM := Zf 2
    (QQ (ZF 2 (mFn WS Ql))
    (QQ (VQ (JX (Qo wIx (Qo wIx (Qh 0) (Qh 1)) (mC (.int 1)))) (J5 3)
    (Vn rec_))
    (Jp (mFn JT (Qc (Qh 2) Ql)))))
set_option maxHeartbeats 4000000 in
theorem Kp {k : Nat} {rec_ : FM} (hk : 1 ≤ k) (d : DefAt K mg "flat_lines" ZB ["program", "part"]) (b_tuple : mg "tuple" = none) (c_part_number : Cal P w K mg base 1 "part_number" ["program", "name"] QB) (c_rec : Cal P w K mg base k "flat_lines" ["program", "part"] rec_) : Cal P w K mg base (k + 1) "flat_lines" ["program", "part"] (JL rec_) := by
  refine Q6 (k := k) (more := 2) d sc_flat_lines rfl fun f cdv A outer s H E hr => ?_
  have hu := hr.units
  refine Qf ?_ ?_
  refine Qn ?_ ?_ ?_ ?_ ?_ ?_
  exact sc_flat_lines.nd
  exact rfl
  exact (Or.inl rfl)
  refine Vc ?_
  exact Qd
  exact rfl
  first | exact .inl rfl | exact .inr rfl
  refine Qf ?_ ?_
  refine Z7 ?_ ?_ ?_ ?_ ?_ ?_
  exact PassesOwn.never
  exact rfl
  refine Vi ?_
  refine Qp ?_ ?_
  refine Qp ?_ ?_
  exact Qb 0
  exact Qb 1
  exact Qe
  exact Q4 (i := 3) (x := "line") sc_flat_lines.nd rfl (Or.inl rfl)
  refine Qj ?_
  refine QV ?_ ?_ ?_
  refine Qs (Q9 ?_) Qk ?_ ?_
  exact hu
  refine Qp ?_ ?_
  exact Qb 3
  exact Qe
  exact QR
  refine Qj ?_
  refine QI ?_
  refine Ju PySem.F.plainAttrs_list PySem.F.slot_list_extend PySem.F.type_list_extend WP ?_ ?_
  exact Qb 2
  refine Qa ?_ ?_
  refine Qi (k := k) (ps := ["program", "part"]) ?_ ?_ ?_ ?_ ?_ ?_ ?_ ?_
  exact c_rec
  exact hr.mono (by omega)
  exact rfl
  refine Qa ?_ ?_
  exact Qb 0
  refine Qa ?_ ?_
  refine Qi (k := 1) (ps := ["program", "name"]) ?_ ?_ ?_ ?_ ?_ ?_ ?_ ?_
  exact c_part_number
  exact hr.mono (by omega)
  exact rfl
  refine Qa ?_ ?_
  exact Qb 0
  refine Qa ?_ ?_
  refine Qp ?_ ?_
  exact Qb 3
  exact Qe
  exact Qd
  exact rfl
  decide
  exact rfl
  exact rfl
  exact Qd
  exact rfl
  decide
  exact rfl
  exact rfl
  exact Qd
  refine Qj ?_
  refine QI ?_
  refine Ju PySem.F.plainAttrs_list PySem.F.slot_list_append PySem.F.type_list_append QC ?_ ?_
  exact Qb 2
  refine Qa ?_ ?_
  exact Qb 3
  exact Qd
  exact fun _ => rfl
  refine Qj ?_
  refine Qt ?_
  refine ZZ Zk Qu ?_ ?_ PyProof.Rows.boot_tuple ?_ ?_ ?_ ?_ ?_
  exact rfl
  exact b_tuple
  refine Qa ?_ ?_
  exact Qb 2
  exact Qd
  decide
  decide
  exact rfl
  exact rfl
noncomputable def ZH : Nat → FM
  | 0 => Zf 2 fun _ _ => none
  | n + 1 => box frN (JL (ZH n))
theorem VB (d : DefAt K mg "flat_lines" ZB ["program", "part"]) (b_tuple : mg "tuple" = none) (c_part_number : Cal P w K mg base 1 "part_number" ["program", "name"] QB) : ∀ n, Cal P w K mg base (2 + n) "flat_lines" ["program", "part"] (ZH n)
  | 0 => Q6 (k := 1) (more := 2) d sc_flat_lines rfl fun _ _ _ _ _ _ _ _ => Qah
  | n + 1 => (Kp (k := 2 + n) (by omega) d b_tuple c_part_number (VB d b_tuple c_part_number n)).box frN
noncomputable def Zz : FM := ZH 6
theorem Kk (d : DefAt K mg "flat_lines" ZB ["program", "part"]) (b_tuple : mg "tuple" = none) (c_part_number : Cal P w K mg base 1 "part_number" ["program", "name"] QB) : Cal P w K mg base 8 "flat_lines" ["program", "part"] Zz := VB d b_tuple c_part_number 6
noncomputable abbrev X4 : Stmt := top 9
theorem Qdy : FnScope ["program"] ["program"] (Qm X4) := ⟨rfl, rfl, rfl, by decide +kernel, rfl, by decide +kernel, by decide +kernel⟩
noncomputable def Yl : FM := Zf 0
    (Jp (mFn JF (Qc (mFn JF (Qc (Qo wIx (Qo wIx (Qh 0) (mC (.int 0))) (mC (.int 0))) (Qc (Qr 2 Zz (Qc (Qh 0) (Qc (mC (.int 0)) Ql))) Ql))) Ql)))
set_option maxHeartbeats 4000000 in
theorem QbR (d : DefAt K mg "flat" X4 ["program"]) (c_flat_lines : Cal P w K mg base 8 "flat_lines" ["program", "part"] Zz) : Cal P w K mg base 9 "flat" ["program"] Yl := by
  refine Q6 (k := 8) (more := 0) d Qdy rfl fun f cdv A outer s H E hr => ?_
  have hu := hr.units
  refine Qj ?_
  refine Qt ?_
  refine QL ?_
  refine Qa ?_ ?_
  refine QL ?_
  refine Qa ?_ ?_
  refine Qp ?_ ?_
  refine Qp ?_ ?_
  exact Qb 0
  exact Qe
  exact Qe
  refine Qa ?_ ?_
  refine Qi (k := 8) (ps := ["program", "part"]) ?_ ?_ ?_ ?_ ?_ ?_ ?_ ?_
  exact c_flat_lines
  exact hr.mono (by decide)
  exact rfl
  refine Qa ?_ ?_
  exact Qb 0
  refine Qa ?_ ?_
  exact Qe
  exact Qd
  exact rfl
  decide
  exact rfl
  exact rfl
  exact Qd
  exact Qd
noncomputable def X0 : FM := box frN Yl
theorem Qb3 (d : DefAt K mg "flat" X4 ["program"]) (c_flat_lines : Cal P w K mg base 8 "flat_lines" ["program", "part"] Zz) : Cal P w K mg base 9 "flat" ["program"] X0 := (QbR d c_flat_lines).box frN
noncomputable abbrev Jg : Stmt := top 32
theorem sc__law_done : FnScope ["program", "run", "found", "spot", "lines"] ["program", "run"] (Qm Jg) := ⟨rfl, rfl, rfl, by decide +kernel, rfl, by decide +kernel, by decide +kernel⟩
noncomputable abbrev VD : SM := (QQ (ZF 4 (Qo wIx (Qo wIx (Qh 0) (Qo wIx (Qh 3) (mC (.int 1)))) (mC (.int 1))))
    (Vg (Vf (Qal (QcS (Qo wIx (Qh 3) (mC (.int 3))))) (Vf (QD (Qo wLt (Qo wIx (Qh 3) (mC (.int 2))) (mFn JO (Qc (Qh 4) Ql)))) (QD (Qo wNe (Qo wIx (Qo wIx (Qh 4) (Qo wIx (Qh 3) (mC (.int 2)))) (mC (.int 0))) (mC (.str "do")))))) (Z2 (mMt "list" Q5 (Qh 2) (Qc (Qh 3) Ql))) ZP))
noncomputable def Vb : FM := Zf 3
    (QQ (ZF 2 (mFn WS Ql))
    (QQ (VQ (JX (mSl (Qh 1) Ko (Ku (mUn KN (mC (.int 1)))))) (J5 3)
    VD)
    (Jp (Qh 2))))
set_option maxHeartbeats 4000000 in
theorem K5 (d : DefAt K mg "_law_done" Jg ["program", "run"]) (b_len : mg "len" = none) : Cal P w K mg base 1 "_law_done" ["program", "run"] Vb := by
  refine Q6 (k := 0) (more := 3) d sc__law_done rfl fun f cdv A outer s H E hr => ?_
  have hu := hr.units
  refine Qf ?_ ?_
  refine Qn ?_ ?_ ?_ ?_ ?_ ?_
  exact sc__law_done.nd
  exact rfl
  exact (Or.inl rfl)
  refine Vc ?_
  exact Qd
  exact rfl
  first | exact .inl rfl | exact .inr rfl
  refine Qf ?_ ?_
  refine Z7 ?_ ?_ ?_ ?_ ?_ ?_
  exact PassesOwn.never
  exact rfl
  refine Vi ?_
  refine V5 ?_ ?_ ?_
  exact Qb 1
  exact V0
  refine VW ?_
  refine JV ?_
  exact Qe
  exact Q4 (i := 3) (x := "spot") sc__law_done.nd rfl (Or.inl rfl)
  refine Qf ?_ ?_
  refine Qn ?_ ?_ ?_ ?_ ?_ ?_
  exact sc__law_done.nd
  exact rfl
  exact (Or.inl rfl)
  refine Qp ?_ ?_
  refine Qp ?_ ?_
  exact Qb 0
  refine Qp ?_ ?_
  exact Qb 3
  exact Qe
  exact Qe
  exact rfl
  first | exact .inl rfl | exact .inr rfl
  refine Qj ?_
  refine QV ?_ ?_ ?_
  refine PMW.pt ?_
  refine J9 ?_ ?_
  refine QaD ?_
  refine Yd ?_
  refine Qp ?_ ?_
  exact Qb 3
  exact Qe
  refine J9 ?_ ?_
  refine Qs KH Qk ?_ ?_
  refine Qp ?_ ?_
  exact Qb 3
  exact Qe
  refine QH Qz Qu ?_ ?_ PySem.boot_len ?_ ?_ ?_ ?_ ?_
  exact rfl
  exact b_len
  refine Qa ?_ ?_
  exact Qb 4
  exact Qd
  decide
  decide
  exact rfl
  exact rfl
  refine J4 ?_
  refine Qs (Uu ?_) Qk ?_ ?_
  exact hu
  refine Qp ?_ ?_
  refine Qp ?_ ?_
  exact Qb 4
  refine Qp ?_ ?_
  exact Qb 3
  exact Qe
  exact Qe
  exact QR
  refine Qj ?_
  refine QI ?_
  refine Ju PySem.F.plainAttrs_list PySem.F.slot_list_append PySem.F.type_list_append QC ?_ ?_
  exact Qb 2
  refine Qa ?_ ?_
  exact Qb 3
  exact Qd
  exact QP
  exact fun _ => rfl
  refine Qj ?_
  refine Qt ?_
  exact Qb 2
noncomputable def Ze : FM := box frN Vb
theorem K2 (d : DefAt K mg "_law_done" Jg ["program", "run"]) (b_len : mg "len" = none) : Cal P w K mg base 1 "_law_done" ["program", "run"] Ze := (K5 d b_len).box frN
noncomputable abbrev JZ : Stmt := top 13
theorem sc_line_of : FnScope ["program", "spot", "lines"] ["program", "spot"] (Qm JZ) := ⟨rfl, rfl, rfl, by decide +kernel, rfl, by decide +kernel, by decide +kernel⟩
noncomputable def Jz : FM := Zf 1
    (QQ (ZF 2 (Qo wIx (Qo wIx (Qh 0) (Qo wIx (Qh 1) (mC (.int 1)))) (mC (.int 1))))
    (QQ (Vg (QaZ (QcS (Qo wIx (Qh 1) (mC (.int 3)))) (QD (Qo wEq (Qo wIx (Qh 1) (mC (.int 2))) (mFn JO (Qc (Qh 2) Ql))))) (Jp (mC .non)) ZP)
    (Jp (Qo wIx (Qh 2) (Qo wIx (Qh 1) (mC (.int 2)))))))
set_option maxHeartbeats 4000000 in
theorem WK (d : DefAt K mg "line_of" JZ ["program", "spot"]) (b_len : mg "len" = none) : Cal P w K mg base 1 "line_of" ["program", "spot"] Jz := by
  refine Q6 (k := 0) (more := 1) d sc_line_of rfl fun f cdv A outer s H E hr => ?_
  have hu := hr.units
  refine Qf ?_ ?_
  refine Qn ?_ ?_ ?_ ?_ ?_ ?_
  exact sc_line_of.nd
  exact rfl
  exact (Or.inl rfl)
  refine Qp ?_ ?_
  refine Qp ?_ ?_
  exact Qb 0
  refine Qp ?_ ?_
  exact Qb 1
  exact Qe
  exact Qe
  exact rfl
  first | exact .inl rfl | exact .inr rfl
  refine Qf ?_ ?_
  refine QV ?_ ?_ ?_
  refine PMW.pt ?_
  refine Wq ?_ ?_
  refine Yd ?_
  refine Qp ?_ ?_
  exact Qb 1
  exact Qe
  refine X1 ?_
  refine Qs (Q9 ?_) Qk ?_ ?_
  exact hu
  refine Qp ?_ ?_
  exact Qb 1
  exact Qe
  refine QH Qz Qu ?_ ?_ PySem.boot_len ?_ ?_ ?_ ?_ ?_
  exact rfl
  exact b_len
  refine Qa ?_ ?_
  exact Qb 2
  exact Qd
  decide
  decide
  exact rfl
  exact rfl
  refine Qj ?_
  refine Qt ?_
  exact UG
  exact QP
  refine Qj ?_
  refine Qt ?_
  refine Qp ?_ ?_
  exact Qb 2
  refine Qp ?_ ?_
  exact Qb 1
  exact Qe
noncomputable def ZC : FM := box frN Jz
theorem WD (d : DefAt K mg "line_of" JZ ["program", "spot"]) (b_len : mg "len" = none) : Cal P w K mg base 1 "line_of" ["program", "spot"] ZC := (WK d b_len).box frN
noncomputable abbrev Vm : Stmt := top 17
theorem GP : FnScope ["spot", "k"] ["spot", "k"] (Qm Vm) := ⟨rfl, rfl, rfl, by decide +kernel, rfl, by decide +kernel, by decide +kernel⟩
noncomputable def Xe : FM := Zf 0
    (Jp (mFn JF (Qc (Qo wIx (Qh 0) (mC (.int 0))) (Qc (Qo wIx (Qh 0) (mC (.int 1))) (Qc (Qh 1) (Qc (mC (.bl false)) Ql))))))
set_option maxHeartbeats 4000000 in
theorem U9 (d : DefAt K mg "at_gap" Vm ["spot", "k"]) : Cal P w K mg base 1 "at_gap" ["spot", "k"] Xe := by
  refine Q6 (k := 0) (more := 0) d GP rfl fun f cdv A outer s H E hr => ?_
  have hu := hr.units
  refine Qj ?_
  refine Qt ?_
  refine QL ?_
  refine Qa ?_ ?_
  refine Qp ?_ ?_
  exact Qb 0
  exact Qe
  refine Qa ?_ ?_
  refine Qp ?_ ?_
  exact Qb 0
  exact Qe
  refine Qa ?_ ?_
  exact Qb 1
  refine Qa ?_ ?_
  exact Y9
  exact Qd
noncomputable def Zc : FM := box frN Xe
theorem UZ (d : DefAt K mg "at_gap" Vm ["spot", "k"]) : Cal P w K mg base 1 "at_gap" ["spot", "k"] Zc := (U9 d).box frN
noncomputable abbrev JR : Stmt := top 18
theorem UK : FnScope ["spot", "k"] ["spot", "k"] (Qm JR) := ⟨rfl, rfl, rfl, by decide +kernel, rfl, by decide +kernel, by decide +kernel⟩
noncomputable def VJ : FM := Zf 0
    (Jp (mFn JF (Qc (Qo wIx (Qh 0) (mC (.int 0))) (Qc (Qo wIx (Qh 0) (mC (.int 1))) (Qc (Qh 1) (Qc (mC (.bl true)) Ql))))))
set_option maxHeartbeats 4000000 in
theorem WT (d : DefAt K mg "at_head" JR ["spot", "k"]) : Cal P w K mg base 1 "at_head" ["spot", "k"] VJ := by
  refine Q6 (k := 0) (more := 0) d UK rfl fun f cdv A outer s H E hr => ?_
  have hu := hr.units
  refine Qj ?_
  refine Qt ?_
  refine QL ?_
  refine Qa ?_ ?_
  refine Qp ?_ ?_
  exact Qb 0
  exact Qe
  refine Qa ?_ ?_
  refine Qp ?_ ?_
  exact Qb 0
  exact Qe
  refine Qa ?_ ?_
  exact Qb 1
  refine Qa ?_ ?_
  exact Y9
  exact Qd
noncomputable def Z3 : FM := box frN VJ
theorem WE (d : DefAt K mg "at_head" JR ["spot", "k"]) : Cal P w K mg base 1 "at_head" ["spot", "k"] Z3 := (WT d).box frN
noncomputable abbrev Zw : Stmt := top 4
theorem X6 : FnScope ["line"] ["line"] (Qm Zw) := ⟨rfl, rfl, rfl, by decide +kernel, rfl, by decide +kernel, by decide +kernel⟩
noncomputable def QU : FM := Zf 0
    (QQ (Vg (QaZ (QD (Qo wEq (Qo wIx (Qh 0) (mC (.int 0))) (mC (.str "either")))) (QD (Qo wEq (Qo wIx (Qh 0) (mC (.int 0))) (mC (.str "again"))))) (Jp (mC (.int 1))) ZP)
    (Jp (mIf (QD (Qo wEq (Qo wIx (Qh 0) (mC (.int 0))) (mC (.str "end")))) (mUn KN (mC (.int 1))) (mC (.int 0)))))
set_option maxHeartbeats 4000000 in
theorem Xz (d : DefAt K mg "level_change" Zw ["line"]) : Cal P w K mg base 1 "level_change" ["line"] QU := by
  refine Q6 (k := 0) (more := 0) d X6 rfl fun f cdv A outer s H E hr => ?_
  have hu := hr.units
  refine Qf ?_ ?_
  refine QV ?_ ?_ ?_
  refine PMW.pt ?_
  refine Wq ?_ ?_
  refine Qs (Q9 ?_) Qk ?_ ?_
  exact hu
  refine Qp ?_ ?_
  exact Qb 0
  exact Qe
  exact QR
  refine X1 ?_
  refine Qs (Q9 ?_) Qk ?_ ?_
  exact hu
  refine Qp ?_ ?_
  exact Qb 0
  exact Qe
  exact QR
  refine Qj ?_
  refine Qt ?_
  exact Qe
  exact QP
  refine Qj ?_
  refine Qt ?_
  refine QgK ?_ ?_ ?_
  refine Qs (Q9 ?_) Qk ?_ ?_
  exact hu
  refine Qp ?_ ?_
  exact Qb 0
  exact Qe
  exact QR
  refine JV ?_
  exact Qe
  exact Qe
noncomputable def QK : FM := box frN QU
theorem Xw (d : DefAt K mg "level_change" Zw ["line"]) : Cal P w K mg base 1 "level_change" ["line"] QK := (Xz d).box frN
noncomputable abbrev JP : Stmt := top 3
theorem sc_head_of : FnScope ["lines", "k", "level", "j"] ["lines", "k"] (Qm JP) := ⟨rfl, rfl, rfl, by decide +kernel, rfl, by decide +kernel, by decide +kernel⟩
noncomputable abbrev Xg : SM := (QQ (Qc6 2 Gc (Qr 1 QK (Qc (Qo wIx (Qh 0) (Qh 3)) Ql)))
    (Vg (QD (Qo wEq (Qh 2) (mC (.int 1)))) (Jp (Qh 3)) ZP))
noncomputable def VO : FM := Zf 2
    (QQ (ZF 2 (mC (.int 0)))
    (QQ (VQ (Qce (Qc (Qo Gj (Qh 1) (mC (.int 1))) (Qc (mUn KN (mC (.int 1))) (Qc (mUn KN (mC (.int 1))) Ql)))) (J5 3)
    Xg)
    (Jp (mC .non))))
set_option maxHeartbeats 4000000 in
theorem W2 (d : DefAt K mg "head_of" JP ["lines", "k"]) (b_range : mg "range" = none) (c_level_change : Cal P w K mg base 1 "level_change" ["line"] QK) : Cal P w K mg base 2 "head_of" ["lines", "k"] VO := by
  refine Q6 (k := 1) (more := 2) d sc_head_of rfl fun f cdv A outer s H E hr => ?_
  have hu := hr.units
  refine Qf ?_ ?_
  refine Qn ?_ ?_ ?_ ?_ ?_ ?_
  exact sc_head_of.nd
  exact rfl
  exact (Or.inl rfl)
  exact Qe
  exact rfl
  first | exact .inl rfl | exact .inr rfl
  refine Qf ?_ ?_
  refine Z7 ?_ ?_ ?_ ?_ ?_ ?_
  exact PassesOwn.never
  exact rfl
  refine QcC ?_ ?_ ?_ ?_ ?_
  exact rfl
  exact b_range
  refine Qa ?_ ?_
  refine Q1 Vh Qk ?_ ?_
  exact Qb 1
  exact Qe
  refine Qa ?_ ?_
  refine JV ?_
  exact Qe
  refine Qa ?_ ?_
  refine JV ?_
  exact Qe
  exact Qd
  exact rfl
  exact rfl
  exact Q4 (i := 3) (x := "j") sc_head_of.nd rfl (Or.inl rfl)
  refine Qf ?_ ?_
  refine WQ ?_ ?_ ?_ Yz Qk ?_ ?_
  exact sc_head_of.nd
  exact rfl
  exact (Or.inl rfl)
  refine Qi (k := 1) (ps := ["line"]) ?_ ?_ ?_ ?_ ?_ ?_ ?_ ?_
  exact c_level_change
  exact hr.mono (by decide)
  exact rfl
  refine Qa ?_ ?_
  refine Qp ?_ ?_
  exact Qb 0
  exact Qb 3
  exact Qd
  exact rfl
  decide
  exact rfl
  exact rfl
  first | exact .inl rfl | exact .inr rfl
  refine Qj ?_
  refine QV ?_ ?_ ?_
  refine Qs (Q9 ?_) Qk ?_ ?_
  exact hu
  exact Qb 2
  exact Qe
  refine Qj ?_
  refine Qt ?_
  exact Qb 3
  exact QP
  exact fun _ => rfl
  refine Qj ?_
  refine Qt ?_
  exact UG
noncomputable def ZO : FM := box frN VO
theorem WV (d : DefAt K mg "head_of" JP ["lines", "k"]) (b_range : mg "range" = none) (c_level_change : Cal P w K mg base 1 "level_change" ["line"] QK) : Cal P w K mg base 2 "head_of" ["lines", "k"] ZO := (W2 d b_range c_level_change).box frN
noncomputable abbrev Zp : Stmt := top 5
theorem sc_found_behind : FnScope ["lines", "k", "kind", "level", "j"] ["lines", "k", "kind"] (Qm Zp) := ⟨rfl, rfl, rfl, by decide +kernel, rfl, by decide +kernel, by decide +kernel⟩
noncomputable abbrev JQ : SM := (QQ (Vg (Vf (QD (Qo wEq (Qh 3) (mC (.int 0)))) (QD (Qo wEq (Qo wIx (Qo wIx (Qh 0) (Qh 4)) (mC (.int 0))) (Qh 2)))) (Jp (Qh 4)) ZP)
    (Qc6 3 Gc (Qr 1 QK (Qc (Qo wIx (Qh 0) (Qh 4)) Ql))))
noncomputable def Jn : FM := Zf 2
    (QQ (ZF 3 (mC (.int 0)))
    (QQ (VQ (Qb9 (Qc (Qo Vy (Qh 1) (mC (.int 1))) (Qc (mFn JO (Qc (Qh 0) Ql)) Ql))) (J5 4)
    JQ)
    (Jp (mC .non))))
set_option maxHeartbeats 4000000 in
theorem XA (d : DefAt K mg "found_behind" Zp ["lines", "k", "kind"]) (b_len : mg "len" = none) (b_range : mg "range" = none) (c_level_change : Cal P w K mg base 1 "level_change" ["line"] QK) : Cal P w K mg base 2 "found_behind" ["lines", "k", "kind"] Jn := by
  refine Q6 (k := 1) (more := 2) d sc_found_behind rfl fun f cdv A outer s H E hr => ?_
  have hu := hr.units
  refine Qf ?_ ?_
  refine Qn ?_ ?_ ?_ ?_ ?_ ?_
  exact sc_found_behind.nd
  exact rfl
  exact (Or.inl rfl)
  exact Qe
  exact rfl
  first | exact .inl rfl | exact .inr rfl
  refine Qf ?_ ?_
  refine Z7 ?_ ?_ ?_ ?_ ?_ ?_
  exact PassesOwn.never
  exact rfl
  refine QcL ?_ ?_ ?_ ?_ ?_
  exact rfl
  exact b_range
  refine Qa ?_ ?_
  refine Q1 QZ Qk ?_ ?_
  exact Qb 1
  exact Qe
  refine Qa ?_ ?_
  refine QH Qz Qu ?_ ?_ PySem.boot_len ?_ ?_ ?_ ?_ ?_
  exact rfl
  exact b_len
  refine Qa ?_ ?_
  exact Qb 0
  exact Qd
  decide
  decide
  exact rfl
  exact rfl
  exact Qd
  exact rfl
  exact rfl
  exact Q4 (i := 4) (x := "j") sc_found_behind.nd rfl (Or.inl rfl)
  refine Qf ?_ ?_
  refine QV ?_ ?_ ?_
  refine PMW.pt ?_
  refine J9 ?_ ?_
  refine Qs (Q9 ?_) Qk ?_ ?_
  exact hu
  exact Qb 3
  exact Qe
  refine J4 ?_
  refine Qs (Q9 ?_) Qk ?_ ?_
  exact hu
  refine Qp ?_ ?_
  refine Qp ?_ ?_
  exact Qb 0
  exact Qb 4
  exact Qe
  exact Qb 2
  refine Qj ?_
  refine Qt ?_
  exact Qb 4
  exact QP
  refine Qj ?_
  refine WQ ?_ ?_ ?_ Yz Qk ?_ ?_
  exact sc_found_behind.nd
  exact rfl
  exact (Or.inl rfl)
  refine Qi (k := 1) (ps := ["line"]) ?_ ?_ ?_ ?_ ?_ ?_ ?_ ?_
  exact c_level_change
  exact hr.mono (by decide)
  exact rfl
  refine Qa ?_ ?_
  refine Qp ?_ ?_
  exact Qb 0
  exact Qb 4
  exact Qd
  exact rfl
  decide
  exact rfl
  exact rfl
  first | exact .inl rfl | exact .inr rfl
  exact fun _ => rfl
  refine Qj ?_
  refine Qt ?_
  exact UG
noncomputable def QA : FM := box frN Jn
theorem Xo (d : DefAt K mg "found_behind" Zp ["lines", "k", "kind"]) (b_len : mg "len" = none) (b_range : mg "range" = none) (c_level_change : Cal P w K mg base 1 "level_change" ["line"] QK) : Cal P w K mg base 2 "found_behind" ["lines", "k", "kind"] QA := (XA d b_len b_range c_level_change).box frN
noncomputable abbrev V6 : Stmt := top 2
theorem QbN : FnScope ["lines", "k"] ["lines", "k"] (Qm V6) := ⟨rfl, rfl, rfl, by decide +kernel, rfl, by decide +kernel, by decide +kernel⟩
noncomputable def Kf : FM := Zf 0
    (Jp (Qr 3 QA (Qc (Qh 0) (Qc (Qh 1) (Qc (mC (.str "or")) Ql)))))
set_option maxHeartbeats 4000000 in
theorem QaU (d : DefAt K mg "or_of" V6 ["lines", "k"]) (c_found_behind : Cal P w K mg base 2 "found_behind" ["lines", "k", "kind"] QA) : Cal P w K mg base 3 "or_of" ["lines", "k"] Kf := by
  refine Q6 (k := 2) (more := 0) d QbN rfl fun f cdv A outer s H E hr => ?_
  have hu := hr.units
  refine Qj ?_
  refine Qt ?_
  refine Qi (k := 2) (ps := ["lines", "k", "kind"]) ?_ ?_ ?_ ?_ ?_ ?_ ?_ ?_
  exact c_found_behind
  exact hr.mono (by decide)
  exact rfl
  refine Qa ?_ ?_
  exact Qb 0
  refine Qa ?_ ?_
  exact Qb 1
  refine Qa ?_ ?_
  exact QR
  exact Qd
  exact rfl
  decide
  exact rfl
  exact rfl
noncomputable def J7 : FM := box frN Kf
theorem Gp (d : DefAt K mg "or_of" V6 ["lines", "k"]) (c_found_behind : Cal P w K mg base 2 "found_behind" ["lines", "k", "kind"] QA) : Cal P w K mg base 3 "or_of" ["lines", "k"] J7 := (QaU d c_found_behind).box frN
noncomputable abbrev Vl : Stmt := top 1
theorem Qas : FnScope ["lines", "k"] ["lines", "k"] (Qm Vl) := ⟨rfl, rfl, rfl, by decide +kernel, rfl, by decide +kernel, by decide +kernel⟩
noncomputable def Xa : FM := Zf 0
    (Jp (Qr 3 QA (Qc (Qh 0) (Qc (Qh 1) (Qc (mC (.str "end")) Ql)))))
set_option maxHeartbeats 4000000 in
theorem UV (d : DefAt K mg "end_of" Vl ["lines", "k"]) (c_found_behind : Cal P w K mg base 2 "found_behind" ["lines", "k", "kind"] QA) : Cal P w K mg base 3 "end_of" ["lines", "k"] Xa := by
  refine Q6 (k := 2) (more := 0) d Qas rfl fun f cdv A outer s H E hr => ?_
  have hu := hr.units
  refine Qj ?_
  refine Qt ?_
  refine Qi (k := 2) (ps := ["lines", "k", "kind"]) ?_ ?_ ?_ ?_ ?_ ?_ ?_ ?_
  exact c_found_behind
  exact hr.mono (by decide)
  exact rfl
  refine Qa ?_ ?_
  exact Qb 0
  refine Qa ?_ ?_
  exact Qb 1
  refine Qa ?_ ?_
  exact QR
  exact Qd
  exact rfl
  decide
  exact rfl
  exact rfl
noncomputable def Zx : FM := box frN Xa
theorem UT (d : DefAt K mg "end_of" Vl ["lines", "k"]) (c_found_behind : Cal P w K mg base 2 "found_behind" ["lines", "k", "kind"] QA) : Cal P w K mg base 3 "end_of" ["lines", "k"] Zx := (UV d c_found_behind).box frN
noncomputable abbrev Zu : Stmt := top 15
theorem sc_next_in_part : FnScope ["lines", "spot", "k", "kind"] ["lines", "spot"] (Qm Zu) := ⟨rfl, rfl, rfl, by decide +kernel, rfl, by decide +kernel, by decide +kernel⟩
noncomputable def QS : SM := (QQ (Vg (QD (Qo wEq (Qh 3) (mC (.str "either")))) (Jp (mFn Ki (Qc (Qr 2 Zc (Qc (Qh 1) (Qc (Qo Vy (Qh 2) (mC (.int 1))) Ql))) (Qc (Qr 2 Zc (Qc (Qh 1) (Qc (Qo Vy (Qr 2 J7 (Qc (Qh 0) (Qc (Qh 2) Ql))) (mC (.int 1))) Ql))) Ql)))) ZP)
    (QQ (Vg (QD (Qo wEq (Qh 3) (mC (.str "or")))) (Jp (mFn Ki (Qc (Qr 2 Zc (Qc (Qh 1) (Qc (Qo Vy (Qr 2 Zx (Qc (Qh 0) (Qc (Qh 2) Ql))) (mC (.int 1))) Ql))) Ql))) ZP)
    (QQ (Vg (QD (Qo wEq (Qh 3) (mC (.str "again")))) (Jp (mFn Ki (Qc (Qr 2 Z3 (Qc (Qh 1) (Qc (Qh 2) Ql))) Ql))) ZP)
    (QQ (Vg (Vf (QD (Qo wEq (Qh 3) (mC (.str "end")))) (QD (Qo wEq (Qo wIx (Qo wIx (Qh 0) (Qr 2 ZO (Qc (Qh 0) (Qc (Qh 2) Ql)))) (mC (.int 0))) (mC (.str "again"))))) (Jp (mFn Ki (Qc (Qr 2 Z3 (Qc (Qh 1) (Qc (Qr 2 ZO (Qc (Qh 0) (Qc (Qh 2) Ql))) Ql))) Ql))) ZP)
    (Jp (mFn Ki (Qc (Qr 2 Zc (Qc (Qh 1) (Qc (Qo Vy (Qh 2) (mC (.int 1))) Ql))) Ql)))))))
noncomputable def Zl : FM := Zf 2
    (QQ (ZF 2 (Qo wIx (Qh 1) (mC (.int 2))))
    (QQ (ZF 3 (Qo wIx (Qo wIx (Qh 0) (Qh 2)) (mC (.int 0))))
    QS))
set_option maxHeartbeats 4000000 in
theorem Xt (d : DefAt K mg "next_in_part" Zu ["lines", "spot"]) (c_at_gap : Cal P w K mg base 1 "at_gap" ["spot", "k"] Zc) (c_at_head : Cal P w K mg base 1 "at_head" ["spot", "k"] Z3) (c_end_of : Cal P w K mg base 3 "end_of" ["lines", "k"] Zx) (c_head_of : Cal P w K mg base 2 "head_of" ["lines", "k"] ZO) (c_or_of : Cal P w K mg base 3 "or_of" ["lines", "k"] J7) : Cal P w K mg base 4 "next_in_part" ["lines", "spot"] Zl := by
  refine Q6 (k := 3) (more := 2) d sc_next_in_part rfl fun f cdv A outer s H E hr => ?_
  have hu := hr.units
  refine Qf ?_ ?_
  refine Qn ?_ ?_ ?_ ?_ ?_ ?_
  exact sc_next_in_part.nd
  exact rfl
  exact (Or.inl rfl)
  refine Qp ?_ ?_
  exact Qb 1
  exact Qe
  exact rfl
  first | exact .inl rfl | exact .inr rfl
  refine Qf ?_ ?_
  refine Qn ?_ ?_ ?_ ?_ ?_ ?_
  exact sc_next_in_part.nd
  exact rfl
  exact (Or.inl rfl)
  refine Qp ?_ ?_
  refine Qp ?_ ?_
  exact Qb 0
  exact Qb 2
  exact Qe
  exact rfl
  first | exact .inl rfl | exact .inr rfl
  refine Qf ?_ ?_
  refine QV ?_ ?_ ?_
  refine Qs (Q9 ?_) Qk ?_ ?_
  exact hu
  exact Qb 3
  exact QR
  refine Qj ?_
  refine Qt ?_
  refine Z0 ?_
  refine Qa ?_ ?_
  refine Qi (k := 1) (ps := ["spot", "k"]) ?_ ?_ ?_ ?_ ?_ ?_ ?_ ?_
  exact c_at_gap
  exact hr.mono (by decide)
  exact rfl
  refine Qa ?_ ?_
  exact Qb 1
  refine Qa ?_ ?_
  refine Q1 QZ Qk ?_ ?_
  exact Qb 2
  exact Qe
  exact Qd
  exact rfl
  decide
  exact rfl
  exact rfl
  refine Qa ?_ ?_
  refine Qi (k := 1) (ps := ["spot", "k"]) ?_ ?_ ?_ ?_ ?_ ?_ ?_ ?_
  exact c_at_gap
  exact hr.mono (by decide)
  exact rfl
  refine Qa ?_ ?_
  exact Qb 1
  refine Qa ?_ ?_
  refine Q1 QZ Qk ?_ ?_
  refine Qi (k := 3) (ps := ["lines", "k"]) ?_ ?_ ?_ ?_ ?_ ?_ ?_ ?_
  exact c_or_of
  exact hr.mono (by decide)
  exact rfl
  refine Qa ?_ ?_
  exact Qb 0
  refine Qa ?_ ?_
  exact Qb 2
  exact Qd
  exact rfl
  decide
  exact rfl
  exact rfl
  exact Qe
  exact Qd
  exact rfl
  decide
  exact rfl
  exact rfl
  exact Qd
  exact QP
  refine Qf ?_ ?_
  refine QV ?_ ?_ ?_
  refine Qs (Q9 ?_) Qk ?_ ?_
  exact hu
  exact Qb 3
  exact QR
  refine Qj ?_
  refine Qt ?_
  refine Z0 ?_
  refine Qa ?_ ?_
  refine Qi (k := 1) (ps := ["spot", "k"]) ?_ ?_ ?_ ?_ ?_ ?_ ?_ ?_
  exact c_at_gap
  exact hr.mono (by decide)
  exact rfl
  refine Qa ?_ ?_
  exact Qb 1
  refine Qa ?_ ?_
  refine Q1 QZ Qk ?_ ?_
  refine Qi (k := 3) (ps := ["lines", "k"]) ?_ ?_ ?_ ?_ ?_ ?_ ?_ ?_
  exact c_end_of
  exact hr.mono (by decide)
  exact rfl
  refine Qa ?_ ?_
  exact Qb 0
  refine Qa ?_ ?_
  exact Qb 2
  exact Qd
  exact rfl
  decide
  exact rfl
  exact rfl
  exact Qe
  exact Qd
  exact rfl
  decide
  exact rfl
  exact rfl
  exact Qd
  exact QP
  refine Qf ?_ ?_
  refine QV ?_ ?_ ?_
  refine Qs (Q9 ?_) Qk ?_ ?_
  exact hu
  exact Qb 3
  exact QR
  refine Qj ?_
  refine Qt ?_
  refine Z0 ?_
  refine Qa ?_ ?_
  refine Qi (k := 1) (ps := ["spot", "k"]) ?_ ?_ ?_ ?_ ?_ ?_ ?_ ?_
  exact c_at_head
  exact hr.mono (by decide)
  exact rfl
  refine Qa ?_ ?_
  exact Qb 1
  refine Qa ?_ ?_
  exact Qb 2
  exact Qd
  exact rfl
  decide
  exact rfl
  exact rfl
  exact Qd
  exact QP
  refine Qf ?_ ?_
  refine QV ?_ ?_ ?_
  refine PMW.pt ?_
  refine J9 ?_ ?_
  refine Qs (Q9 ?_) Qk ?_ ?_
  exact hu
  exact Qb 3
  exact QR
  refine J4 ?_
  refine Qs (Q9 ?_) Qk ?_ ?_
  exact hu
  refine Qp ?_ ?_
  refine Qp ?_ ?_
  exact Qb 0
  refine Qi (k := 2) (ps := ["lines", "k"]) ?_ ?_ ?_ ?_ ?_ ?_ ?_ ?_
  exact c_head_of
  exact hr.mono (by decide)
  exact rfl
  refine Qa ?_ ?_
  exact Qb 0
  refine Qa ?_ ?_
  exact Qb 2
  exact Qd
  exact rfl
  decide
  exact rfl
  exact rfl
  exact Qe
  exact QR
  refine Qj ?_
  refine Qt ?_
  refine Z0 ?_
  refine Qa ?_ ?_
  refine Qi (k := 1) (ps := ["spot", "k"]) ?_ ?_ ?_ ?_ ?_ ?_ ?_ ?_
  exact c_at_head
  exact hr.mono (by decide)
  exact rfl
  refine Qa ?_ ?_
  exact Qb 1
  refine Qa ?_ ?_
  refine Qi (k := 2) (ps := ["lines", "k"]) ?_ ?_ ?_ ?_ ?_ ?_ ?_ ?_
  exact c_head_of
  exact hr.mono (by decide)
  exact rfl
  refine Qa ?_ ?_
  exact Qb 0
  refine Qa ?_ ?_
  exact Qb 2
  exact Qd
  exact rfl
  decide
  exact rfl
  exact rfl
  exact Qd
  exact rfl
  decide
  exact rfl
  exact rfl
  exact Qd
  exact QP
  refine Qj ?_
  refine Qt ?_
  refine Z0 ?_
  refine Qa ?_ ?_
  refine Qi (k := 1) (ps := ["spot", "k"]) ?_ ?_ ?_ ?_ ?_ ?_ ?_ ?_
  exact c_at_gap
  exact hr.mono (by decide)
  exact rfl
  refine Qa ?_ ?_
  exact Qb 1
  refine Qa ?_ ?_
  refine Q1 QZ Qk ?_ ?_
  exact Qb 2
  exact Qe
  exact Qd
  exact rfl
  decide
  exact rfl
  exact rfl
  exact Qd
noncomputable def Q2 : FM := box frN Zl
theorem Xv (d : DefAt K mg "next_in_part" Zu ["lines", "spot"]) (c_at_gap : Cal P w K mg base 1 "at_gap" ["spot", "k"] Zc) (c_at_head : Cal P w K mg base 1 "at_head" ["spot", "k"] Z3) (c_end_of : Cal P w K mg base 3 "end_of" ["lines", "k"] Zx) (c_head_of : Cal P w K mg base 2 "head_of" ["lines", "k"] ZO) (c_or_of : Cal P w K mg base 3 "or_of" ["lines", "k"] J7) : Cal P w K mg base 4 "next_in_part" ["lines", "spot"] Q2 := (Xt d c_at_gap c_at_head c_end_of c_head_of c_or_of).box frN
noncomputable abbrev Jf : Stmt := top 16
theorem sc_behind_do : FnScope ["spot", "way"] ["spot"] (Qm Jf) := ⟨rfl, rfl, rfl, by decide +kernel, rfl, by decide +kernel, by decide +kernel⟩
noncomputable def Jt : FM := Zf 1
    (QQ (ZF 1 (Qo wIx (Qh 0) (mC (.int 0))))
    (QQ (Vg (Qal (QcS (Qh 1))) (Jp (mFn Ki Ql)) ZP)
    (Jp (mFn Ki (Qc (mFn JF (Qc (mSl (Qh 1) Ko (Ku (mUn KN (mC (.int 1))))) (Qc (Qo wIx (Qo wIx (Qh 1) (mUn KN (mC (.int 1)))) (mC (.int 0))) (Qc (Qo Vy (Qo wIx (Qo wIx (Qh 1) (mUn KN (mC (.int 1)))) (mC (.int 1))) (mC (.int 1))) (Qc (mC (.bl false)) Ql))))) Ql)))))
set_option maxHeartbeats 4000000 in
theorem K3 (d : DefAt K mg "behind_do" Jf ["spot"]) : Cal P w K mg base 1 "behind_do" ["spot"] Jt := by
  refine Q6 (k := 0) (more := 1) d sc_behind_do rfl fun f cdv A outer s H E hr => ?_
  have hu := hr.units
  refine Qf ?_ ?_
  refine Qn ?_ ?_ ?_ ?_ ?_ ?_
  exact sc_behind_do.nd
  exact rfl
  exact (Or.inl rfl)
  refine Qp ?_ ?_
  exact Qb 0
  exact Qe
  exact rfl
  first | exact .inl rfl | exact .inr rfl
  refine Qf ?_ ?_
  refine QV ?_ ?_ ?_
  refine QaD ?_
  refine Yd ?_
  exact Qb 1
  refine Qj ?_
  refine Qt ?_
  refine Z0 ?_
  exact Qd
  exact QP
  refine Qj ?_
  refine Qt ?_
  refine Z0 ?_
  refine Qa ?_ ?_
  refine QL ?_
  refine Qa ?_ ?_
  refine V5 ?_ ?_ ?_
  exact Qb 1
  exact V0
  refine VW ?_
  refine JV ?_
  exact Qe
  refine Qa ?_ ?_
  refine Qp ?_ ?_
  refine Qp ?_ ?_
  exact Qb 1
  refine JV ?_
  exact Qe
  exact Qe
  refine Qa ?_ ?_
  refine Q1 QZ Qk ?_ ?_
  refine Qp ?_ ?_
  refine Qp ?_ ?_
  exact Qb 1
  refine JV ?_
  exact Qe
  exact Qe
  exact Qe
  refine Qa ?_ ?_
  exact Y9
  exact Qd
  exact Qd
noncomputable def Zt : FM := box frN Jt
theorem Yk (d : DefAt K mg "behind_do" Jf ["spot"]) : Cal P w K mg base 1 "behind_do" ["spot"] Zt := (K3 d).box frN
noncomputable abbrev ZQ : Stmt := top 14
theorem sc_next_spots : FnScope ["program", "spot", "lines", "line", "way"] ["program", "spot"] (Qm ZQ) := ⟨rfl, rfl, rfl, by decide +kernel, rfl, by decide +kernel, by decide +kernel⟩
noncomputable def Q0 : FM := Zf 3
    (QQ (ZF 2 (Qo wIx (Qo wIx (Qh 0) (Qo wIx (Qh 1) (mC (.int 1)))) (mC (.int 1))))
    (QQ (Vg (QcS (Qo wIx (Qh 1) (mC (.int 3)))) (Jp (mFn Ki (Qc (Qr 2 Zc (Qc (Qh 1) (Qc (Qo Vy (Qr 2 Zx (Qc (Qh 2) (Qc (Qo wIx (Qh 1) (mC (.int 2))) Ql))) (mC (.int 1))) Ql))) (Qc (Qr 2 Zc (Qc (Qh 1) (Qc (Qo Vy (Qo wIx (Qh 1) (mC (.int 2))) (mC (.int 1))) Ql))) Ql)))) ZP)
    (QQ (ZF 3 (Qr 2 ZC (Qc (Qh 0) (Qc (Qh 1) Ql))))
    (QQ (Vg (QD (Qo wIs (Qh 3) (mC .non))) (Jp (Qr 1 Zt (Qc (Qh 1) Ql))) ZP)
    (QQ (Vg (QD (Qo wEq (Qo wIx (Qh 3) (mC (.int 0))) (mC (.str "do")))) (QQ (ZF 4 (Qo Vy (Qo wIx (Qh 1) (mC (.int 0))) (mFn JF (Qc (mFn JF (Qc (Qo wIx (Qh 1) (mC (.int 1))) (Qc (Qo wIx (Qh 1) (mC (.int 2))) Ql))) Ql))))
    (Jp (mFn Ki (Qc (mFn JF (Qc (Qh 4) (Qc (Qr 2 QB (Qc (Qh 0) (Qc (Qo wIx (Qh 3) (mC (.int 1))) Ql))) (Qc (mC (.int 0)) (Qc (mC (.bl false)) Ql))))) Ql)))) ZP)
    (Jp (Qr 2 Q2 (Qc (Qh 2) (Qc (Qh 1) Ql)))))))))
set_option maxHeartbeats 4000000 in
theorem Kn (d : DefAt K mg "next_spots" ZQ ["program", "spot"]) (c_at_gap : Cal P w K mg base 1 "at_gap" ["spot", "k"] Zc) (c_behind_do : Cal P w K mg base 1 "behind_do" ["spot"] Zt) (c_end_of : Cal P w K mg base 3 "end_of" ["lines", "k"] Zx) (c_line_of : Cal P w K mg base 1 "line_of" ["program", "spot"] ZC) (c_next_in_part : Cal P w K mg base 4 "next_in_part" ["lines", "spot"] Q2) (c_part_number : Cal P w K mg base 1 "part_number" ["program", "name"] QB) : Cal P w K mg base 5 "next_spots" ["program", "spot"] Q0 := by
  refine Q6 (k := 4) (more := 3) d sc_next_spots rfl fun f cdv A outer s H E hr => ?_
  have hu := hr.units
  refine Qf ?_ ?_
  refine Qn ?_ ?_ ?_ ?_ ?_ ?_
  exact sc_next_spots.nd
  exact rfl
  exact (Or.inl rfl)
  refine Qp ?_ ?_
  refine Qp ?_ ?_
  exact Qb 0
  refine Qp ?_ ?_
  exact Qb 1
  exact Qe
  exact Qe
  exact rfl
  first | exact .inl rfl | exact .inr rfl
  refine Qf ?_ ?_
  refine QV ?_ ?_ ?_
  refine Yd ?_
  refine Qp ?_ ?_
  exact Qb 1
  exact Qe
  refine Qj ?_
  refine Qt ?_
  refine Z0 ?_
  refine Qa ?_ ?_
  refine Qi (k := 1) (ps := ["spot", "k"]) ?_ ?_ ?_ ?_ ?_ ?_ ?_ ?_
  exact c_at_gap
  exact hr.mono (by decide)
  exact rfl
  refine Qa ?_ ?_
  exact Qb 1
  refine Qa ?_ ?_
  refine Q1 QZ Qk ?_ ?_
  refine Qi (k := 3) (ps := ["lines", "k"]) ?_ ?_ ?_ ?_ ?_ ?_ ?_ ?_
  exact c_end_of
  exact hr.mono (by decide)
  exact rfl
  refine Qa ?_ ?_
  exact Qb 2
  refine Qa ?_ ?_
  refine Qp ?_ ?_
  exact Qb 1
  exact Qe
  exact Qd
  exact rfl
  decide
  exact rfl
  exact rfl
  exact Qe
  exact Qd
  exact rfl
  decide
  exact rfl
  exact rfl
  refine Qa ?_ ?_
  refine Qi (k := 1) (ps := ["spot", "k"]) ?_ ?_ ?_ ?_ ?_ ?_ ?_ ?_
  exact c_at_gap
  exact hr.mono (by decide)
  exact rfl
  refine Qa ?_ ?_
  exact Qb 1
  refine Qa ?_ ?_
  refine Q1 QZ Qk ?_ ?_
  refine Qp ?_ ?_
  exact Qb 1
  exact Qe
  exact Qe
  exact Qd
  exact rfl
  decide
  exact rfl
  exact rfl
  exact Qd
  exact QP
  refine Qf ?_ ?_
  refine Qn ?_ ?_ ?_ ?_ ?_ ?_
  exact sc_next_spots.nd
  exact rfl
  exact (Or.inl rfl)
  refine Qi (k := 1) (ps := ["program", "spot"]) ?_ ?_ ?_ ?_ ?_ ?_ ?_ ?_
  exact c_line_of
  exact hr.mono (by decide)
  exact rfl
  refine Qa ?_ ?_
  exact Qb 0
  refine Qa ?_ ?_
  exact Qb 1
  exact Qd
  exact rfl
  decide
  exact rfl
  exact rfl
  exact rfl
  first | exact .inl rfl | exact .inr rfl
  refine Qf ?_ ?_
  refine QV ?_ ?_ ?_
  refine Qs Qf1 Qk ?_ ?_
  exact Qb 3
  exact UG
  refine Qj ?_
  refine Qt ?_
  refine Qi (k := 1) (ps := ["spot"]) ?_ ?_ ?_ ?_ ?_ ?_ ?_ ?_
  exact c_behind_do
  exact hr.mono (by decide)
  exact rfl
  refine Qa ?_ ?_
  exact Qb 1
  exact Qd
  exact rfl
  decide
  exact rfl
  exact rfl
  exact QP
  refine Qf ?_ ?_
  refine QV ?_ ?_ ?_
  refine Qs (Q9 ?_) Qk ?_ ?_
  exact hu
  refine Qp ?_ ?_
  exact Qb 3
  exact Qe
  exact QR
  refine Qf ?_ ?_
  refine Qn ?_ ?_ ?_ ?_ ?_ ?_
  exact sc_next_spots.nd
  exact rfl
  exact (Or.inl rfl)
  refine Q1 QZ Qk ?_ ?_
  refine Qp ?_ ?_
  exact Qb 1
  exact Qe
  refine QL ?_
  refine Qa ?_ ?_
  refine QL ?_
  refine Qa ?_ ?_
  refine Qp ?_ ?_
  exact Qb 1
  exact Qe
  refine Qa ?_ ?_
  refine Qp ?_ ?_
  exact Qb 1
  exact Qe
  exact Qd
  exact Qd
  exact rfl
  first | exact .inl rfl | exact .inr rfl
  refine Qj ?_
  refine Qt ?_
  refine Z0 ?_
  refine Qa ?_ ?_
  refine QL ?_
  refine Qa ?_ ?_
  exact Qb 4
  refine Qa ?_ ?_
  refine Qi (k := 1) (ps := ["program", "name"]) ?_ ?_ ?_ ?_ ?_ ?_ ?_ ?_
  exact c_part_number
  exact hr.mono (by decide)
  exact rfl
  refine Qa ?_ ?_
  exact Qb 0
  refine Qa ?_ ?_
  refine Qp ?_ ?_
  exact Qb 3
  exact Qe
  exact Qd
  exact rfl
  decide
  exact rfl
  exact rfl
  refine Qa ?_ ?_
  exact Qe
  refine Qa ?_ ?_
  exact Y9
  exact Qd
  exact Qd
  exact QP
  refine Qj ?_
  refine Qt ?_
  refine Qi (k := 4) (ps := ["lines", "spot"]) ?_ ?_ ?_ ?_ ?_ ?_ ?_ ?_
  exact c_next_in_part
  exact hr.mono (by decide)
  exact rfl
  refine Qa ?_ ?_
  exact Qb 2
  refine Qa ?_ ?_
  exact Qb 1
  exact Qd
  exact rfl
  decide
  exact rfl
  exact rfl
noncomputable def QX : FM := box frN Q0
theorem Kv (d : DefAt K mg "next_spots" ZQ ["program", "spot"]) (c_at_gap : Cal P w K mg base 1 "at_gap" ["spot", "k"] Zc) (c_behind_do : Cal P w K mg base 1 "behind_do" ["spot"] Zt) (c_end_of : Cal P w K mg base 3 "end_of" ["lines", "k"] Zx) (c_line_of : Cal P w K mg base 1 "line_of" ["program", "spot"] ZC) (c_next_in_part : Cal P w K mg base 4 "next_in_part" ["lines", "spot"] Q2) (c_part_number : Cal P w K mg base 1 "part_number" ["program", "name"] QB) : Cal P w K mg base 5 "next_spots" ["program", "spot"] QX := (Kn d c_at_gap c_behind_do c_end_of c_line_of c_next_in_part c_part_number).box frN
noncomputable abbrev ZV : Stmt := top 12
theorem Yy : FnScope [] [] (Qm ZV) := ⟨rfl, rfl, rfl, by decide +kernel, rfl, by decide +kernel, by decide +kernel⟩
noncomputable def JM : FM := Zf 0
    (Jp (mFn JF (Qc (mFn JF Ql) (Qc (mC (.int 0)) (Qc (mC (.int 0)) (Qc (mC (.bl false)) Ql))))))
set_option maxHeartbeats 4000000 in
theorem Kr (d : DefAt K mg "first_spot" ZV []) : Cal P w K mg base 1 "first_spot" [] JM := by
  refine Q6 (k := 0) (more := 0) d Yy rfl fun f cdv A outer s H E hr => ?_
  have hu := hr.units
  refine Qj ?_
  refine Qt ?_
  refine QL ?_
  refine Qa ?_ ?_
  refine QL ?_
  exact Qd
  refine Qa ?_ ?_
  exact Qe
  refine Qa ?_ ?_
  exact Qe
  refine Qa ?_ ?_
  exact Y9
  exact Qd
noncomputable def Zy : FM := box frN JM
theorem Kj (d : DefAt K mg "first_spot" ZV []) : Cal P w K mg base 1 "first_spot" [] Zy := (Kr d).box frN
noncomputable abbrev Vk : Stmt := top 20
theorem sc_run_by : FnScope ["program", "choices", "run", "used", "later"] ["program", "choices"] (Qm Vk) := ⟨rfl, rfl, rfl, by decide +kernel, rfl, by decide +kernel, by decide +kernel⟩
noncomputable abbrev X5 : SM := (QQ (Vg (QD (Qo wEq (mFn JO (Qc (Qh 4) Ql)) (mC (.int 2)))) (QQ (Z2 (mMt "list" Q5 (Qh 2) (Qc (Qo wIx (Qh 4) (Qo wIx (Qh 1) (Qh 3))) Ql)))
    (Qc6 3 Gc (mC (.int 1)))) (Z2 (mMt "list" Q5 (Qh 2) (Qc (Qo wIx (Qh 4) (mC (.int 0))) Ql))))
    (ZF 4 (Qr 2 QX (Qc (Qh 0) (Qc (Qo wIx (Qh 2) (mUn KN (mC (.int 1)))) Ql)))))
noncomputable def Xf : FM := Zf 3
    (QQ (ZF 2 (mFn WS (Qc (Qr 0 Zy Ql) Ql)))
    (QQ (ZF 3 (mC (.int 0)))
    (QQ (ZF 4 (Qr 2 QX (Qc (Qh 0) (Qc (Qo wIx (Qh 2) (mUn KN (mC (.int 1)))) Ql))))
    (QQ (Q8 (QaZ (QD (Qo wEq (mFn JO (Qc (Qh 4) Ql)) (mC (.int 1)))) (Vf (QD (Qo wEq (mFn JO (Qc (Qh 4) Ql)) (mC (.int 2)))) (QD (Qo wLt (Qh 3) (mFn JO (Qc (Qh 1) Ql)))))) X5 20000000)
    (Jp (mFn JF (Qc (Qh 2) (Qc (Qh 3) Ql))))))))
set_option maxHeartbeats 4000000 in
theorem U3 (d : DefAt K mg "run_by" Vk ["program", "choices"]) (b_len : mg "len" = none) (c_first_spot : Cal P w K mg base 1 "first_spot" [] Zy) (c_next_spots : Cal P w K mg base 5 "next_spots" ["program", "spot"] QX) : Cal P w K mg base 6 "run_by" ["program", "choices"] Xf := by
  refine Q6 (k := 5) (more := 3) d sc_run_by rfl fun f cdv A outer s H E hr => ?_
  have hu := hr.units
  refine Qf ?_ ?_
  refine Qn ?_ ?_ ?_ ?_ ?_ ?_
  exact sc_run_by.nd
  exact rfl
  exact (Or.inl rfl)
  refine Vc ?_
  refine Qa ?_ ?_
  exact Qae c_first_spot (hr.mono (by decide)) rfl
  exact Qd
  exact rfl
  first | exact .inl rfl | exact .inr rfl
  refine Qf ?_ ?_
  refine Qn ?_ ?_ ?_ ?_ ?_ ?_
  exact sc_run_by.nd
  exact rfl
  exact (Or.inl rfl)
  exact Qe
  exact rfl
  first | exact .inl rfl | exact .inr rfl
  refine Qf ?_ ?_
  refine Qn ?_ ?_ ?_ ?_ ?_ ?_
  exact sc_run_by.nd
  exact rfl
  exact (Or.inl rfl)
  refine Qi (k := 5) (ps := ["program", "spot"]) ?_ ?_ ?_ ?_ ?_ ?_ ?_ ?_
  exact c_next_spots
  exact hr.mono (by decide)
  exact rfl
  refine Qa ?_ ?_
  exact Qb 0
  refine Qa ?_ ?_
  refine Qp ?_ ?_
  exact Qb 2
  refine JV ?_
  exact Qe
  exact Qd
  exact rfl
  decide
  exact rfl
  exact rfl
  exact rfl
  first | exact .inl rfl | exact .inr rfl
  refine Qf ?_ ?_
  refine XX 20000000 ?_ ?_ ?_
  exact PassesOwn.never
  refine PMW.pt ?_
  refine Wq ?_ ?_
  refine Qs (Q9 ?_) Qk ?_ ?_
  exact hu
  refine QH Qz Qu ?_ ?_ PySem.boot_len ?_ ?_ ?_ ?_ ?_
  exact rfl
  exact b_len
  refine Qa ?_ ?_
  exact Qb 4
  exact Qd
  decide
  decide
  exact rfl
  exact rfl
  exact Qe
  refine X1 ?_
  refine PMW.pt ?_
  refine J9 ?_ ?_
  refine Qs (Q9 ?_) Qk ?_ ?_
  exact hu
  refine QH Qz Qu ?_ ?_ PySem.boot_len ?_ ?_ ?_ ?_ ?_
  exact rfl
  exact b_len
  refine Qa ?_ ?_
  exact Qb 4
  exact Qd
  decide
  decide
  exact rfl
  exact rfl
  exact Qe
  refine J4 ?_
  refine Qs KH Qk ?_ ?_
  exact Qb 3
  refine QH Qz Qu ?_ ?_ PySem.boot_len ?_ ?_ ?_ ?_ ?_
  exact rfl
  exact b_len
  refine Qa ?_ ?_
  exact Qb 1
  exact Qd
  decide
  decide
  exact rfl
  exact rfl
  refine Qf ?_ ?_
  refine QV ?_ ?_ ?_
  refine Qs (Q9 ?_) Qk ?_ ?_
  exact hu
  refine QH Qz Qu ?_ ?_ PySem.boot_len ?_ ?_ ?_ ?_ ?_
  exact rfl
  exact b_len
  refine Qa ?_ ?_
  exact Qb 4
  exact Qd
  decide
  decide
  exact rfl
  exact rfl
  exact Qe
  refine Qf ?_ ?_
  refine QI ?_
  refine Ju PySem.F.plainAttrs_list PySem.F.slot_list_append PySem.F.type_list_append QC ?_ ?_
  exact Qb 2
  refine Qa ?_ ?_
  refine Qp ?_ ?_
  exact Qb 4
  refine Qp ?_ ?_
  exact Qb 1
  exact Qb 3
  exact Qd
  refine Qj ?_
  refine WQ ?_ ?_ ?_ Yz Qk ?_ ?_
  exact sc_run_by.nd
  exact rfl
  exact (Or.inl rfl)
  exact Qe
  first | exact .inl rfl | exact .inr rfl
  refine Qj ?_
  refine QI ?_
  refine Ju PySem.F.plainAttrs_list PySem.F.slot_list_append PySem.F.type_list_append QC ?_ ?_
  exact Qb 2
  refine Qa ?_ ?_
  refine Qp ?_ ?_
  exact Qb 4
  exact Qe
  exact Qd
  refine Qj ?_
  refine Qn ?_ ?_ ?_ ?_ ?_ ?_
  exact sc_run_by.nd
  exact rfl
  exact (Or.inl rfl)
  refine Qi (k := 5) (ps := ["program", "spot"]) ?_ ?_ ?_ ?_ ?_ ?_ ?_ ?_
  exact c_next_spots
  exact hr.mono (by decide)
  exact rfl
  refine Qa ?_ ?_
  exact Qb 0
  refine Qa ?_ ?_
  refine Qp ?_ ?_
  exact Qb 2
  refine JV ?_
  exact Qe
  exact Qd
  exact rfl
  decide
  exact rfl
  exact rfl
  exact rfl
  first | exact .inl rfl | exact .inr rfl
  refine Qj ?_
  refine Qt ?_
  refine QL ?_
  refine Qa ?_ ?_
  exact Qb 2
  refine Qa ?_ ?_
  exact Qb 3
  exact Qd
noncomputable def Je : FM := box frN Xf
theorem UL (d : DefAt K mg "run_by" Vk ["program", "choices"]) (b_len : mg "len" = none) (c_first_spot : Cal P w K mg base 1 "first_spot" [] Zy) (c_next_spots : Cal P w K mg base 5 "next_spots" ["program", "spot"] QX) : Cal P w K mg base 6 "run_by" ["program", "choices"] Je := (U3 d b_len c_first_spot c_next_spots).box frN
noncomputable abbrev KC : Stmt := top 33
theorem sc_law : FnScope ["script", "k", "program", "feed", "plain", "gaps", "ones", "turn", "choices", "mine", "other", "one", "gap"] ["script"] (Qm KC) := ⟨rfl, rfl, rfl, by decide +kernel, rfl, by decide +kernel, by decide +kernel⟩
noncomputable abbrev YF : SM := (Vg (QaZ (QD (Qo wNe (mMt "dict" Qcs (Qh 5) (Qc (Qh 11) (Qc (Qh 12) Ql))) (Qh 12))) (QD (Qo wNe (mMt "dict" Qcs (Qh 6) (Qc (Qh 12) (Qc (Qh 11) Ql))) (Qh 11)))) (Jp (mC (.bl false))) ZP)
noncomputable abbrev Ya : SM := (QQ (ZF 8 (JU Kx (Yu (Qc (Qr 2 Qg (Qc (Qh 3) (Qc (mC (.int 31)) Ql))) Ql)) [none, some 3] (J5 0) WJ (Qr 2 Qg (Qc (Qh 1) (Qc (mC (.int 2)) Ql)))))
    (QQ (ZF 9 (Qr 2 Ze (Qc (Qh 2) (Qc (Qo wIx (Qr 2 Je (Qc (Qh 2) (Qc (Qh 8) Ql))) (mC (.int 0))) Ql))))
    (QQ (ZF 10 (Qr 2 Ze (Qc (Qh 4) (Qc (Qo wIx (Qr 2 Je (Qc (Qh 4) (Qc (Qh 8) Ql))) (mC (.int 0))) Ql))))
    (QQ (Vg (QD (Qo wNe (mFn JO (Qc (Qh 9) Ql)) (mFn JO (Qc (Qh 10) Ql)))) (Jp (mC (.bl false))) ZP)
    (VQ (Qb1 (Qc (Qh 9) (Qc (Qh 10) Ql))) (KT [11, 12])
    YF)))))
noncomputable abbrev KW : SM := (QQ (ZF 2 (Qr 2 JC (Qc (Qr 2 Zd (Qc (Qh 0) (Qc (Qh 1) Ql))) (Qc (mFn Ki (Qc (mC (.int 3)) (Qc (mC (.int 3)) (Qc (mC (.int 5)) (Qc (mC (.int 8)) Ql))))) Ql))))
    (QQ (ZF 3 (Qr 2 Zd (Qc (Qh 0) (Qc (Qo Vy (Qh 1) (mC (.int 1))) Ql))))
    (QQ (ZF 2 (Qr 2 Zv (Qc (Qh 2) (Qc (Qh 3) Ql))))
    (QQ (ZF 4 (Qr 1 X0 (Qc (Qh 2) Ql)))
    (QQ (ZF 5 Qbc)
    (QQ (ZF 6 Qbc)
    (VQ (Yu (Qc (mC (.int 2)) Ql)) (J5 7)
    Ya)))))))
noncomputable def Xc : FM := Zf 12
    (QQ (VQ (Qce (Qc (mC (.int 0)) (Qc (mFn Qf2 (Qc (mC (.int 2)) (Qc (mFn Qfg (Qc (mC (.int 8)) (Qc (mFn JO (Qc (Qh 0) Ql)) Ql))) Ql))) (Qc (mC (.int 2)) Ql)))) (J5 1)
    KW)
    (Jp (mC (.bl true))))
set_option maxHeartbeats 4000000 in
theorem QdG (d : DefAt K mg "law" KC ["script"]) (b_len : mg "len" = none) (b_max : mg "max" = none) (b_min : mg "min" = none) (b_range : mg "range" = none) (b_zip : mg "zip" = none) (c__law_any : Cal P w K mg base 5 "_law_any" ["feed", "bounds"] JC) (c__law_done : Cal P w K mg base 1 "_law_done" ["program", "run"] Ze) (c__law_dressed : Cal P w K mg base 2 "_law_dressed" ["program", "feed"] Zv) (c__law_feed : Cal P w K mg base 1 "_law_feed" ["script", "k"] Zd) (c__law_take : Cal P w K mg base 1 "_law_take" ["feed", "many"] Qg) (c_flat : Cal P w K mg base 9 "flat" ["program"] X0) (c_run_by : Cal P w K mg base 6 "run_by" ["program", "choices"] Je) : Cal P w K mg base 10 "law" ["script"] Xc := by
  refine Q6 (k := 9) (more := 12) d sc_law rfl fun f cdv A outer s H E hr => ?_
  have hu := hr.units
  refine Qf ?_ ?_
  refine Z7 ?_ ?_ ?_ ?_ ?_ ?_
  exact PassesOwn.never
  exact rfl
  refine QcC ?_ ?_ ?_ ?_ ?_
  exact rfl
  exact b_range
  refine Qa ?_ ?_
  exact Qe
  refine Qa ?_ ?_
  refine QH (Qab ?_) Qu ?_ ?_ PyProof.Rows.boot_max ?_ ?_ ?_ ?_ ?_
  exact rfl
  exact rfl
  exact b_max
  refine Qa ?_ ?_
  exact Qe
  refine Qa ?_ ?_
  refine QH (Gz ?_) Qu ?_ ?_ PyProof.Rows.boot_min ?_ ?_ ?_ ?_ ?_
  exact rfl
  exact rfl
  exact b_min
  refine Qa ?_ ?_
  exact Qe
  refine Qa ?_ ?_
  refine QH Qz Qu ?_ ?_ PySem.boot_len ?_ ?_ ?_ ?_ ?_
  exact rfl
  exact b_len
  refine Qa ?_ ?_
  exact Qb 0
  exact Qd
  decide
  decide
  exact rfl
  exact rfl
  exact Qd
  decide
  decide
  exact rfl
  exact rfl
  exact Qd
  decide
  decide
  exact rfl
  exact rfl
  refine Qa ?_ ?_
  exact Qe
  exact Qd
  exact rfl
  exact rfl
  exact Q4 (i := 1) (x := "k") sc_law.nd rfl (Or.inl rfl)
  refine Qf ?_ ?_
  refine Qn ?_ ?_ ?_ ?_ ?_ ?_
  exact sc_law.nd
  exact rfl
  exact (Or.inl rfl)
  refine Qi (k := 5) (ps := ["feed", "bounds"]) ?_ ?_ ?_ ?_ ?_ ?_ ?_ ?_
  exact c__law_any
  exact hr.mono (by decide)
  exact rfl
  refine Qa ?_ ?_
  refine Qi (k := 1) (ps := ["script", "k"]) ?_ ?_ ?_ ?_ ?_ ?_ ?_ ?_
  exact c__law_feed
  exact hr.mono (by decide)
  exact rfl
  refine Qa ?_ ?_
  exact Qb 0
  refine Qa ?_ ?_
  exact Qb 1
  exact Qd
  exact rfl
  decide
  exact rfl
  exact rfl
  refine Qa ?_ ?_
  refine Z0 ?_
  refine Qa ?_ ?_
  exact Qe
  refine Qa ?_ ?_
  exact Qe
  refine Qa ?_ ?_
  exact Qe
  refine Qa ?_ ?_
  exact Qe
  exact Qd
  exact Qd
  exact rfl
  decide
  exact rfl
  exact rfl
  exact rfl
  first | exact .inl rfl | exact .inr rfl
  refine Qf ?_ ?_
  refine Qn ?_ ?_ ?_ ?_ ?_ ?_
  exact sc_law.nd
  exact rfl
  exact (Or.inr rfl)
  refine Qi (k := 1) (ps := ["script", "k"]) ?_ ?_ ?_ ?_ ?_ ?_ ?_ ?_
  exact c__law_feed
  exact hr.mono (by decide)
  exact rfl
  refine Qa ?_ ?_
  exact Qb 0
  refine Qa ?_ ?_
  refine Q1 QZ Qk ?_ ?_
  exact Qb 1
  exact Qe
  exact Qd
  exact rfl
  decide
  exact rfl
  exact rfl
  exact rfl
  first | exact .inl rfl | exact .inr rfl
  refine Qf ?_ ?_
  refine Qn ?_ ?_ ?_ ?_ ?_ ?_
  exact sc_law.nd
  exact rfl
  exact (Or.inl rfl)
  refine Qi (k := 2) (ps := ["program", "feed"]) ?_ ?_ ?_ ?_ ?_ ?_ ?_ ?_
  exact c__law_dressed
  exact hr.mono (by decide)
  exact rfl
  refine Qa ?_ ?_
  exact Qb 2
  refine Qa ?_ ?_
  exact Qb 3
  exact Qd
  exact rfl
  decide
  exact rfl
  exact rfl
  exact rfl
  first | exact .inl rfl | exact .inr rfl
  refine Qf ?_ ?_
  refine Qn ?_ ?_ ?_ ?_ ?_ ?_
  exact sc_law.nd
  exact rfl
  exact (Or.inl rfl)
  refine Qi (k := 9) (ps := ["program"]) ?_ ?_ ?_ ?_ ?_ ?_ ?_ ?_
  exact c_flat
  exact hr.mono (by decide)
  exact rfl
  refine Qa ?_ ?_
  exact Qb 2
  exact Qd
  exact rfl
  decide
  exact rfl
  exact rfl
  exact rfl
  first | exact .inl rfl | exact .inr rfl
  refine Qf ?_ ?_
  refine Qn ?_ ?_ ?_ ?_ ?_ ?_
  exact sc_law.nd
  exact rfl
  exact (Or.inl rfl)
  exact Qaj
  exact rfl
  first | exact .inl rfl | exact .inr rfl
  refine Qf ?_ ?_
  refine Qn ?_ ?_ ?_ ?_ ?_ ?_
  exact sc_law.nd
  exact rfl
  exact (Or.inl rfl)
  exact Qaj
  exact rfl
  first | exact .inl rfl | exact .inr rfl
  refine Qj ?_
  refine Z7 ?_ ?_ ?_ ?_ ?_ ?_
  exact PassesOwn.never
  exact rfl
  refine Xi ?_ ?_ ?_ ?_
  exact rfl
  exact b_range
  refine Qa ?_ ?_
  exact Qe
  exact Qd
  exact rfl
  exact Q4 (i := 7) (x := "turn") sc_law.nd rfl (Or.inl rfl)
  refine Qf ?_ ?_
  refine Wo sc_law.nd rfl (Or.inl rfl) ?_ VL ?_ (YQ (ks := ["feed"]) (Nb := ["one", "feed"]) (cp := [none, some 3]) (N := ["script", "k", "program", "feed", "plain", "gaps", "ones", "turn", "choices", "mine", "other", "one", "gap"]) (xs := (Qm KC)) rfl rfl (by decide +kernel) rfl (by decide +kernel) (by intro p hp; simp only [List.mem_cons, List.not_mem_nil, or_false] at hp; rcases hp with rfl <;> rfl) rfl rfl rfl (by decide +kernel)) ?_ (fun _ _ _ _ _ => ?_) (fun _ _ _ _ _ => ?_) ?_ ?_
  first | exact .inl rfl | exact .inr rfl
  exact rfl
  refine Xi ?_ ?_ ?_ ?_
  exact rfl
  exact b_range
  refine Qa ?_ ?_
  refine Qi (k := 1) (ps := ["feed", "many"]) ?_ ?_ ?_ ?_ ?_ ?_ ?_ ?_
  exact c__law_take
  exact hr.mono (by decide)
  exact rfl
  refine Qa ?_ ?_
  exact Qb 3
  refine Qa ?_ ?_
  exact Qe
  exact Qd
  exact rfl
  decide
  exact rfl
  exact rfl
  exact Qd
  exact rfl
  exact Q4 (i := 0) (x := "one") (show List.Nodup (["one", "feed"] : List Str) from by decide +kernel) rfl (Or.inl rfl)
  refine Qi (k := 1) (ps := ["feed", "many"]) ?_ ?_ ?_ ?_ ?_ ?_ ?_ ?_
  exact c__law_take
  exact hr.mono (by decide)
  exact rfl
  refine Qa ?_ ?_
  exact Qb 1
  refine Qa ?_ ?_
  exact Qe
  exact Qd
  exact rfl
  decide
  exact rfl
  exact rfl
  exact fun _ => rfl
  exact rfl
  refine Qf ?_ ?_
  refine Qn ?_ ?_ ?_ ?_ ?_ ?_
  exact sc_law.nd
  exact rfl
  exact (Or.inl rfl)
  refine Qi (k := 1) (ps := ["program", "run"]) ?_ ?_ ?_ ?_ ?_ ?_ ?_ ?_
  exact c__law_done
  exact hr.mono (by decide)
  exact rfl
  refine Qa ?_ ?_
  exact Qb 2
  refine Qa ?_ ?_
  refine Qp ?_ ?_
  refine Qi (k := 6) (ps := ["program", "choices"]) ?_ ?_ ?_ ?_ ?_ ?_ ?_ ?_
  exact c_run_by
  exact hr.mono (by decide)
  exact rfl
  refine Qa ?_ ?_
  exact Qb 2
  refine Qa ?_ ?_
  exact Qb 8
  exact Qd
  exact rfl
  decide
  exact rfl
  exact rfl
  exact Qe
  exact Qd
  exact rfl
  decide
  exact rfl
  exact rfl
  exact rfl
  first | exact .inl rfl | exact .inr rfl
  refine Qf ?_ ?_
  refine Qn ?_ ?_ ?_ ?_ ?_ ?_
  exact sc_law.nd
  exact rfl
  exact (Or.inl rfl)
  refine Qi (k := 1) (ps := ["program", "run"]) ?_ ?_ ?_ ?_ ?_ ?_ ?_ ?_
  exact c__law_done
  exact hr.mono (by decide)
  exact rfl
  refine Qa ?_ ?_
  exact Qb 4
  refine Qa ?_ ?_
  refine Qp ?_ ?_
  refine Qi (k := 6) (ps := ["program", "choices"]) ?_ ?_ ?_ ?_ ?_ ?_ ?_ ?_
  exact c_run_by
  exact hr.mono (by decide)
  exact rfl
  refine Qa ?_ ?_
  exact Qb 4
  refine Qa ?_ ?_
  exact Qb 8
  exact Qd
  exact rfl
  decide
  exact rfl
  exact rfl
  exact Qe
  exact Qd
  exact rfl
  decide
  exact rfl
  exact rfl
  exact rfl
  first | exact .inl rfl | exact .inr rfl
  refine Qf ?_ ?_
  refine QV ?_ ?_ ?_
  refine Qs (Uu ?_) Qk ?_ ?_
  exact hu
  refine QH Qz Qu ?_ ?_ PySem.boot_len ?_ ?_ ?_ ?_ ?_
  exact rfl
  exact b_len
  refine Qa ?_ ?_
  exact Qb 9
  exact Qd
  decide
  decide
  exact rfl
  exact rfl
  refine QH Qz Qu ?_ ?_ PySem.boot_len ?_ ?_ ?_ ?_ ?_
  exact rfl
  exact b_len
  refine Qa ?_ ?_
  exact Qb 10
  exact Qd
  decide
  decide
  exact rfl
  exact rfl
  refine Qj ?_
  refine Qt ?_
  exact Y9
  exact QP
  refine Qj ?_
  refine Z7 ?_ ?_ ?_ ?_ ?_ ?_
  exact PassesOwn.never
  exact rfl
  refine Qdf ?_ ?_ ?_ ?_ ?_
  exact rfl
  exact b_zip
  refine Qa ?_ ?_
  exact Qb 9
  refine Qa ?_ ?_
  exact Qb 10
  exact Qd
  exact rfl
  exact rfl
  refine Yv (is := [11, 12]) ?_ ?_ ?_ ?_
  exact rfl
  refine JS (i := 11) (x := "one") sc_law.nd rfl (Or.inl rfl) ?_ ?_
  refine JS (i := 12) (x := "gap") sc_law.nd rfl (Or.inl rfl) ?_ ?_
  exact K0
  first | exact .inl rfl | exact .inr rfl
  first | exact .inl rfl | exact .inr rfl
  exact rfl
  exact rfl
  refine Qj ?_
  refine QV ?_ ?_ ?_
  refine PMW.pt ?_
  refine Wq ?_ ?_
  refine Qs (Uu ?_) Qk ?_ ?_
  exact hu
  refine Ju PySem.F.plainAttrs_dict PySem.F.slot_dict_setdefault PySem.F.type_dict_setdefault (QaT ?_) ?_ ?_
  exact hu
  exact Qb 5
  refine Qa ?_ ?_
  exact Qb 11
  refine Qa ?_ ?_
  exact Qb 12
  exact Qd
  exact Qb 12
  refine X1 ?_
  refine Qs (Uu ?_) Qk ?_ ?_
  exact hu
  refine Ju PySem.F.plainAttrs_dict PySem.F.slot_dict_setdefault PySem.F.type_dict_setdefault (QaT ?_) ?_ ?_
  exact hu
  exact Qb 6
  refine Qa ?_ ?_
  exact Qb 12
  refine Qa ?_ ?_
  exact Qb 11
  exact Qd
  exact Qb 11
  refine Qj ?_
  refine Qt ?_
  exact Y9
  exact QP
  exact fun _ => rfl
  exact fun _ => rfl
  exact fun _ => rfl
  refine Qj ?_
  refine Qt ?_
  exact Y9
end

theorem QdM {P : Program} {w : World} {K : PySem.W.Frag} {mg : Str → Option Value} {base : Heap} (d__law_take : DefAt K mg "_law_take" Jh ["feed", "many"]) (d__law_names : DefAt K mg "_law_names" Zh ["feed", "many"]) (d__law_step_on : DefAt K mg "_law_step_on" Zq ["lines", "opened"]) (d__law_plain : DefAt K mg "_law_plain" ZW ["feed", "boxes", "words"]) (d__law_part : DefAt K mg "_law_part" Jk ["feed", "size", "menus", "later", "opens", "dos"]) (d__law_program : DefAt K mg "_law_program" Zr ["feed", "bounds"]) (d__law_great : DefAt K mg "_law_great" Zj ["feed"]) (d__law_any : DefAt K mg "_law_any" JB ["feed", "bounds"]) (d__law_feed : DefAt K mg "_law_feed" Jj ["script", "k"]) (d__law_dressed : DefAt K mg "_law_dressed" Zs ["program", "feed"]) (d_part_number : DefAt K mg "part_number" ZG ["program", "name"]) (d_flat_lines : DefAt K mg "flat_lines" ZB ["program", "part"]) (d_flat : DefAt K mg "flat" X4 ["program"]) (d__law_done : DefAt K mg "_law_done" Jg ["program", "run"]) (d_line_of : DefAt K mg "line_of" JZ ["program", "spot"]) (d_at_gap : DefAt K mg "at_gap" Vm ["spot", "k"]) (d_at_head : DefAt K mg "at_head" JR ["spot", "k"]) (d_level_change : DefAt K mg "level_change" Zw ["line"]) (d_head_of : DefAt K mg "head_of" JP ["lines", "k"]) (d_found_behind : DefAt K mg "found_behind" Zp ["lines", "k", "kind"]) (d_or_of : DefAt K mg "or_of" V6 ["lines", "k"]) (d_end_of : DefAt K mg "end_of" Vl ["lines", "k"]) (d_next_in_part : DefAt K mg "next_in_part" Zu ["lines", "spot"]) (d_behind_do : DefAt K mg "behind_do" Jf ["spot"]) (d_next_spots : DefAt K mg "next_spots" ZQ ["program", "spot"]) (d_first_spot : DefAt K mg "first_spot" ZV []) (d_run_by : DefAt K mg "run_by" Vk ["program", "choices"]) (d_law : DefAt K mg "law" KC ["script"]) (b_len : mg "len" = none) (b_max : mg "max" = none) (b_min : mg "min" = none) (b_range : mg "range" = none) (b_tuple : mg "tuple" = none) (b_zip : mg "zip" = none) : Cal P w K mg base 10 "law" ["script"] Xc := by
  have c__law_take : Cal P w K mg base 1 "_law_take" ["feed", "many"] Qg := Yw d__law_take
  have c__law_names : Cal P w K mg base 2 "_law_names" ["feed", "many"] QF := Km d__law_names b_range c__law_take
  have c__law_step_on : Cal P w K mg base 1 "_law_step_on" ["lines", "opened"] Qv := Xy d__law_step_on
  have c__law_plain : Cal P w K mg base 2 "_law_plain" ["feed", "boxes", "words"] QE := Kz d__law_plain b_len c__law_take
  have c__law_part : Cal P w K mg base 3 "_law_part" ["feed", "size", "menus", "later", "opens", "dos"] QT := Ys d__law_part b_len b_range b_tuple c__law_plain c__law_step_on c__law_take
  have c__law_program : Cal P w K mg base 4 "_law_program" ["feed", "bounds"] Zb := Xu d__law_program b_len b_range b_tuple c__law_names c__law_part c__law_take
  have c__law_great : Cal P w K mg base 4 "_law_great" ["feed"] ZD := Ky d__law_great b_len b_range b_tuple c__law_names c__law_part c__law_plain c__law_step_on c__law_take
  have c__law_any : Cal P w K mg base 5 "_law_any" ["feed", "bounds"] JC := YV d__law_any c__law_great c__law_program c__law_take
  have c__law_feed : Cal P w K mg base 1 "_law_feed" ["script", "k"] Zd := Yb d__law_feed b_len
  have c__law_dressed : Cal P w K mg base 2 "_law_dressed" ["program", "feed"] Zv := Xs d__law_dressed b_len b_tuple c__law_take
  have c_part_number : Cal P w K mg base 1 "part_number" ["program", "name"] QB := Kg d_part_number
  have c_flat_lines : Cal P w K mg base 8 "flat_lines" ["program", "part"] Zz := Kk d_flat_lines b_tuple c_part_number
  have c_flat : Cal P w K mg base 9 "flat" ["program"] X0 := Qb3 d_flat c_flat_lines
  have c__law_done : Cal P w K mg base 1 "_law_done" ["program", "run"] Ze := K2 d__law_done b_len
  have c_line_of : Cal P w K mg base 1 "line_of" ["program", "spot"] ZC := WD d_line_of b_len
  have c_at_gap : Cal P w K mg base 1 "at_gap" ["spot", "k"] Zc := UZ d_at_gap
  have c_at_head : Cal P w K mg base 1 "at_head" ["spot", "k"] Z3 := WE d_at_head
  have c_level_change : Cal P w K mg base 1 "level_change" ["line"] QK := Xw d_level_change
  have c_head_of : Cal P w K mg base 2 "head_of" ["lines", "k"] ZO := WV d_head_of b_range c_level_change
  have c_found_behind : Cal P w K mg base 2 "found_behind" ["lines", "k", "kind"] QA := Xo d_found_behind b_len b_range c_level_change
  have c_or_of : Cal P w K mg base 3 "or_of" ["lines", "k"] J7 := Gp d_or_of c_found_behind
  have c_end_of : Cal P w K mg base 3 "end_of" ["lines", "k"] Zx := UT d_end_of c_found_behind
  have c_next_in_part : Cal P w K mg base 4 "next_in_part" ["lines", "spot"] Q2 := Xv d_next_in_part c_at_gap c_at_head c_end_of c_head_of c_or_of
  have c_behind_do : Cal P w K mg base 1 "behind_do" ["spot"] Zt := Yk d_behind_do
  have c_next_spots : Cal P w K mg base 5 "next_spots" ["program", "spot"] QX := Kv d_next_spots c_at_gap c_behind_do c_end_of c_line_of c_next_in_part c_part_number
  have c_first_spot : Cal P w K mg base 1 "first_spot" [] Zy := Kj d_first_spot
  have c_run_by : Cal P w K mg base 6 "run_by" ["program", "choices"] Je := UL d_run_by b_len c_first_spot c_next_spots
  have c_law : Cal P w K mg base 10 "law" ["script"] Xc := QdG d_law b_len b_max b_min b_range b_zip c__law_any c__law_done c__law_dressed c__law_feed c__law_take c_flat c_run_by
  exact c_law

end My

namespace My
open PySem PySem.Spec PyProof.Rows L2 Mi
noncomputable abbrev Ln := List Str
noncomputable def QG (l : Ln) : W := .tup (l.map .str)
noncomputable def Zo (xs : List Str) : W := .lst (xs.map .str)
noncomputable abbrev Pt := Str × List Ln
noncomputable def JN (p : Pt) : W := .tup [.str p.1, .tup (p.2.map QG)]
noncomputable def ZI (p : List Pt) : W := .tup (p.map JN)
structure Spt where
  way : List (Nat × Nat)
  part : Nat
  k : Nat
  head : Bool
noncomputable def W3 (q : Nat × Nat) : W := .tup [.int q.1, .int q.2]
noncomputable def Qx (s : Spt) : W := .tup [.tup (s.way.map W3), .int s.part, .int s.k, .bl s.head]
theorem Uv : ∀ {ws : List W}, (∀ w ∈ ws, pln w = true) → Kw ws = true
  | [], _ => rfl
  | w :: ws, h => by unfold Kw; rw [h w List.mem_cons_self, Uv fun x hx => h x (List.mem_cons_of_mem _ hx)]; rfl
theorem Uh {n : Nat} : ∀ {ws : List W}, (∀ w ∈ ws, dep w ≤ n) → Ge ws ≤ n
  | [], _ => Nat.zero_le _
  | w :: ws, h => by unfold Ge; exact Nat.max_le.mpr ⟨h w List.mem_cons_self, Uh fun x hx => h x (List.mem_cons_of_mem _ hx)⟩
theorem VV {α : Type} {f : α → W} {xs : List α} (h : ∀ x, pln (f x) = true) : Kw (xs.map f) = true := Uv fun w hw => by obtain ⟨x, _, rfl⟩ := List.mem_map.mp hw; exact h x
theorem Uq {α : Type} {f : α → W} {xs : List α} {n : Nat} (h : ∀ x, dep (f x) ≤ n) : Ge (xs.map f) ≤ n := Uh fun w hw => by obtain ⟨x, _, rfl⟩ := List.mem_map.mp hw; exact h x
@[simp] theorem XD {xs : List Str} : Kw (xs.map .str) = true := VV fun _ => rfl
theorem QbD {xs : List Str} : Ge (xs.map .str) ≤ 1 := Uq fun _ => Nat.le_refl _
@[simp] theorem QfQ {l : Ln} : pln (QG l) = true := by unfold QG pln; exact XD
@[simp] theorem Qbp {xs : List Str} : pln (Zo xs) = true := by unfold Zo pln; exact XD
@[simp] theorem QdN {ls : List Ln} : Kw (ls.map QG) = true := VV fun _ => QfQ
@[simp] theorem Qhn {p : Pt} : pln (JN p) = true := by simp [JN, pln, Kw]
@[simp] theorem G3 {ps : List Pt} : Kw (ps.map JN) = true := VV fun _ => Qhn
@[simp] theorem QgL {ps : List Pt} : pln (ZI ps) = true := by unfold ZI pln; exact G3
@[simp] theorem QhI {q : Nat × Nat} : pln (W3 q) = true := id rfl
theorem QgX {q : Nat × Nat} : dep (W3 q) ≤ 2 := Nat.le_refl _
@[simp] theorem Qef {qs : List (Nat × Nat)} : Kw (qs.map W3) = true := VV fun _ => QhI
theorem Qeb {qs : List (Nat × Nat)} : Ge (qs.map W3) ≤ 2 := Uq fun _ => QgX
@[simp] theorem QbO {s : Spt} : pln (Qx s) = true := by simp [Qx, pln, Kw]
theorem Qe3 {s : Spt} : dep (Qx s) ≤ 4 := by simp [Qx, dep, Ge]; have := Qeb (qs := s.way); omega
@[simp] theorem Qdi {ss : List Spt} : Kw (ss.map Qx) = true := VV fun _ => QbO
@[simp] theorem Qko {l : Ln} : pur (QG l) = true := X8 _ QfQ
@[simp] theorem Qgg {xs : List Str} : pur (Zo xs) = true := X8 _ Qbp
@[simp] theorem Qkb {ps : List Pt} : pur (ZI ps) = true := X8 _ QgL
@[simp] theorem QjZ {s : Spt} : pur (Qx s) = true := X8 _ QbO
@[simp] theorem Qgc {xs : List Str} : Jq (xs.map .str) = true := Jd _ XD
@[simp] theorem QgN {ls : List Ln} : Jq (ls.map QG) = true := Jd _ QdN
@[simp] theorem Qhj {ls : List Pt} : Jq (ls.map JN) = true := Jd _ G3
@[simp] theorem QaJ {ss : List Spt} : Jq (ss.map Qx) = true := Jd _ Qdi
@[simp] theorem Qj2 {i : Int} : pur (.int i) = true := id rfl
@[simp] theorem Qj5 {x : Str} : pur (.str x) = true := id rfl
@[simp] theorem QkD {b : Bool} : pur (.bl b) = true := id rfl
@[simp] theorem Qkm {ws : List W} : pur (.tup ws) = Jq ws := by unfold pur; rfl
@[simp] theorem QjY {ws : List W} : pur (.lst ws) = Jq ws := by unfold pur; rfl
@[simp] theorem Qkf {ws : List W} : pur (.frz ws) = Jq ws := by unfold pur; rfl
@[simp] theorem Qil : Jq [] = true := id rfl
@[simp] theorem QgC {w : W} {ws : List W} : Jq (w :: ws) = (pur w && Jq ws) := by rw [Jq]
@[simp] theorem Qii {ws us : List W} : Jq (ws ++ us) = (Jq ws && Jq us) := by
  induction ws with
  | nil => simp
  | cons w ws ih => simp [ih, Bool.and_assoc]
@[simp] theorem Qfe {ns : List Int} : Jq (ns.map .int) = true := by
  induction ns with
  | nil => rfl
  | cons n ns ih => simp [ih]
@[simp] theorem QiN {ws : List W} : Qda (.lst ws) = Jq ws := id rfl
theorem Xq {n : Nat} (h : n ≤ 1000000) : n ≤ sizeLine := Nat.le_trans h (by decide)
theorem VT {n : Nat} (h : n ≤ 1000000) : n < sizeLine := Nat.lt_of_le_of_lt h (by decide)
@[simp] theorem Qiw : 1 ≤ sizeLine := by decide
@[simp] theorem Qia : 2 ≤ sizeLine := by decide
@[simp] theorem Qh2 : 3 ≤ sizeLine := by decide
@[simp] theorem Qip : 4 ≤ sizeLine := by decide
@[simp] theorem Qi7 : 5 ≤ sizeLine := by decide
@[simp] theorem QiU : 6 ≤ sizeLine := by decide
@[simp] theorem QiR : 8 ≤ sizeLine := by decide
structure Fd where
  a : Int
  b : Int
  hb : 0 ≤ b ∧ b < 1099511627776
noncomputable def Qw (f : Fd) : MO := .lst [.int f.a, .int f.b]
theorem UW {α : Type} {xs : List α} {i : Int} {P : α → Prop} {f : α → W} (h0 : 0 ≤ i) (h1 : i < xs.length) (hp : ∀ x ∈ xs, P x) : ∃ x, x ∈ xs ∧ P x ∧ atI (xs.map f) i = some (f x) := by
  obtain ⟨n, rfl⟩ : ∃ n : Nat, i = n := ⟨i.toNat, by omega⟩
  have hn : n < xs.length := by omega
  exact ⟨xs[n], List.getElem_mem hn, hp _ (List.getElem_mem hn), by rw [ZK, List.getElem?_map, List.getElem?_eq_getElem hn]; rfl⟩
theorem QbB {f g : Fd} (e : Qw f = Qw g) : f = g := by
  obtain ⟨a, b, hb⟩ := f
  obtain ⟨a', b', hb'⟩ := g
  simp [Qw] at e
  obtain ⟨rfl, rfl⟩ := e
  rfl
noncomputable def Qgu (h : MH) (n : Nat) : Prop := ∃ f, h[n]? = some (Qw f)
open Classical in
noncomputable def GT (h : MH) (n : Nat) : Fd := if p : Qgu h n then p.choose else ⟨0, 0, by decide⟩
theorem Uf {h : MH} {n : Nat} {f : Fd} (e : h[n]? = some (Qw f)) : GT h n = f := by
  have p : Qgu h n := ⟨f, e⟩
  unfold GT
  rw [dif_pos p]
  exact (QbB (Option.some.inj (e.symm.trans p.choose_spec))).symm
@[simp] theorem Qij {f : Fd} {h : MH} : Qgu (Qw f :: h) 0 := ⟨f, rfl⟩
@[simp] theorem QgD {f : Fd} {h : MH} : GT (Qw f :: h) 0 = f := Uf rfl
theorem Qhb {neg : Bool} {a : W} {ys : List W} {h : MH} (pa : pln a = true) (py : Kw ys = true) (da : dep a ≤ 40) (dy : Ge ys ≤ 40) : wIn neg a (.lst ys) h = some (.bl (if neg = true then !inW a ys else inW a ys), h) := by
  show ((lsW h (.lst ys)).bind fun ys => (drf h 40 a).bind fun x => (Ji (drf h 40) ys).map fun zs => (W.bl (if neg then !inW x zs else inW x zs), h)) = _
  simp only [lsW, Option.bind_some]
  rw [XZ h a 40 pa da, VS h ys 40 py dy]; rfl
@[simp] theorem Qjp {i : Int} {h : MH} : wIn false (.int i) (.lst [.int 6, .int 7]) h = some (.bl (decide (i = 6 ∨ i = 7)), h) := by
  rw [Qhb (by simp [pln]) (by simp [pln, Kw]) (by simp [dep]) (by simp [dep, Ge])]
  have : inW (.int i) [.int 6, .int 7] = decide (i = 6 ∨ i = 7) := by
    simp only [inW, List.any_cons, List.any_nil, eqW, Bool.or_false]
    rw [Bool.eq_iff_iff]
    simp
    omega
  simp [this]
@[simp] theorem Qg7 {xs : List Str} {h : MH} : JO [Zo xs] h = some (.int xs.length, h) := by unfold Zo; simp
@[simp] theorem QiY {xs : List Str} {i : Int} {h : MH} : wIx (Zo xs) (.int i) h = @om _ _ (fun w => (w, h)) (atI (xs.map .str) i) := by unfold Zo; simp
@[simp] theorem Qky {α : Type} {xs : List α} : atI xs 2 = xs[2]? := ZK (n := 2)
@[simp] theorem QkE {α : Type} {xs : List α} : atI xs 3 = xs[3]? := ZK (n := 3)
theorem V3 {a : Int} {n j : Nat} {w : W} (h : (QO a n)[j]? = some w) : j < n ∧ w = .int (a + j) := by
  have hl := (List.getElem?_eq_some_iff.mp h).1
  simp [QO] at hl
  refine ⟨hl, ?_⟩
  unfold QO at h
  rw [List.getElem?_map, List.getElem?_range hl] at h
  cases h; rfl
theorem XG {α : Type} {l : List α} {x y : α} : (l ++ [x]).set l.length y = l ++ [y] := by simp
theorem QcZ {a b : Char} (h : a.toNat = b.toNat) : a = b := by
  have : a.val = b.val := by
    apply UInt32.toNat_inj.mp
    exact h
  exact Char.ext this
theorem XW : ∀ {a b : List Char}, a.map Char.toNat = b.map Char.toNat → a = b
  | [], [], _ => rfl
  | [], _ :: _, h => by simp at h
  | _ :: _, [], h => by simp at h
  | x :: a, y :: b, h => by
    simp only [List.map_cons, List.cons.injEq] at h
    rw [QcZ h.1, XW h.2]
@[simp] theorem Qhx {a b : String} : (Str.ofString a = Str.ofString b) ↔ a = b := by
  constructor
  · intro h
    rw [Str.ofString_eq_toList, Str.ofString_eq_toList] at h
    have h1 := XW (List.toArray_inj (Str.mk.inj h))
    exact String.toList_inj.mp h1
  · intro h; rw [h]
end My

namespace My5
open My3 My4
theorem XS {A B : List Cd} : ∀ {i : Nat}, i ≤ A.length → lev (A ++ B) i = lev A i
  | 0, _ => rfl
  | i + 1, h => by
    have ih := XS (A := A) (B := B) (i := i) (by omega)
    simp only [lev, ih, List.getElem?_append_left (show i < A.length by omega)]
theorem V2 {A B : List Cd} : ∀ {i : Nat}, lev (A ++ B) (A.length + i) = lev A A.length + lev B i
  | 0 => by rw [Nat.add_zero, XS (Nat.le_refl _)]; simp [lev]
  | i + 1 => by
    have ih := V2 (A := A) (B := B) (i := i)
    rw [← Nat.add_assoc]
    simp only [lev, ih, List.getElem?_append_right (show A.length ≤ A.length + i by omega), Nat.add_sub_cancel_left]
    omega
theorem Yg {ls : List Cd} : ∀ {k j : Nat}, j ≤ k → (∃ p, pil ls k = some p) → ∃ p, pil ls j = some p
  | 0, j, h, e => by rw [show j = 0 by omega]; exact e
  | k + 1, j, h, ⟨p, e⟩ => by
    by_cases z : j = k + 1
    · rw [z]; exact ⟨p, e⟩
    · refine Yg (k := k) (by omega) ?_
      simp only [pil] at e
      cases q : pil ls k with
      | none => rw [q] at e; simp at e
      | some r => exact ⟨r, rfl⟩
theorem Qdc {k : Nat} {c : Cd} {p q : List En} (h : stp k c p = some q) : (q.length : Int) = p.length + ch c := by
  cases c with
  | ei => simp only [stp] at h; cases h; simp [ch]
  | ag => simp only [stp] at h; cases h; simp [ch]
  | ot => simp only [stp] at h; cases h; simp [ch]
  | oo =>
    cases p with
    | nil => simp [stp] at h
    | cons e r =>
      simp only [stp] at h
      split at h
      · cases h; simp [ch]
      · cases h
  | en =>
    cases p with
    | nil => simp [stp] at h
    | cons e r =>
      simp only [stp] at h
      split at h
      · cases h
      · cases h; simp [ch]; omega
theorem YC {ls : List Cd} : ∀ {k : Nat} {p : List En}, pil ls k = some p → lev ls k = p.length
  | 0, p, h => by simp only [pil] at h; cases h; rfl
  | k + 1, p, h => by
    simp only [pil] at h
    obtain ⟨q, h1, h2⟩ := Option.bind_eq_some_iff.mp h
    have ih := YC h1
    cases hc : ls[k]? with
    | none => rw [hc] at h2; cases h2
    | some c =>
      rw [hc] at h2
      rw [ZS hc, ih, Qdc h2]
theorem QgF {ls : List Cd} (h : Bal ls) : lev ls ls.length = 0 := by
  have := YC h
  simpa using this
theorem GJ {ls : List Cd} (h : Bal ls) {i : Nat} (hi : i ≤ ls.length) : 0 ≤ lev ls i := by
  obtain ⟨p, hp⟩ := Yg hi ⟨_, h⟩
  rw [YC hp]; omega
theorem QfS {ls : List Cd} (h : Bal ls) {i : Nat} {c : Cd} (hc : ls[i]? = some c) (h0 : lev ls i = 0) : c ≠ .oo ∧ c ≠ .en := by
  have hl := (List.getElem?_eq_some_iff.mp hc).1
  obtain ⟨p, hp⟩ := Yg (show i ≤ ls.length by omega) ⟨_, h⟩
  obtain ⟨q, hq⟩ := Yg (show i + 1 ≤ ls.length by omega) ⟨_, h⟩
  rw [YC hp] at h0
  have : p = [] := List.length_eq_zero_iff.mp (by omega)
  subst this
  simp only [pil, hp, hc] at hq
  constructor
  · rintro rfl
    simp [stp] at hq
  · rintro rfl
    simp [stp] at hq
section
variable {α : Type} (E : α → List Cd) (b : α → Cd)
noncomputable def Ex (x : α) : Prop := E x = [b x] ∨ (b x = .ot ∧ Bal (E x))
noncomputable def F (xs : List α) : List Cd := xs.flatMap E
noncomputable def off (xs : List α) (k : Nat) : Nat := (F E (xs.take k)).length
variable {E b}
theorem QdA {xs ys : List α} : F E (xs ++ ys) = F E xs ++ F E ys := by simp [F]
theorem YU {x : α} {xs : List α} : F E (x :: xs) = E x ++ F E xs := by simp [F]
theorem QgS {xs : List α} (h : ∀ x ∈ xs, Ex E b x) : lev (F E xs) (F E xs).length = lev (xs.map b) xs.length := by
  induction xs with
  | nil => rfl
  | cons x xs ih =>
    have ih := ih fun y hy => h y (List.mem_cons_of_mem _ hy)
    rw [YU, List.length_append, V2, ih, List.map_cons, show b x :: xs.map b = [b x] ++ xs.map b from rfl]
    have := V2 (A := [b x]) (B := xs.map b) (i := xs.length)
    rw [List.length_cons, Nat.add_comm xs.length 1]
    rw [show ([b x] : List Cd).length = 1 from rfl] at this
    rw [this]
    rcases h x List.mem_cons_self with e | ⟨e, hb⟩
    · rw [e]; rfl
    · rw [QgF hb, e]; rfl
theorem split_at {xs : List α} {m : Nat} {x : α} (hx : xs[m]? = some x) : xs = xs.take m ++ x :: xs.drop (m + 1) := by
  obtain ⟨hm, rfl⟩ := List.getElem?_eq_some_iff.mp hx
  rw [← List.drop_eq_getElem_cons hm, List.take_append_drop]
theorem Qie {xs : List α} {m : Nat} {x : α} (hx : xs[m]? = some x) : F E xs = F E (xs.take m) ++ (E x ++ F E (xs.drop (m + 1))) := by
  conv => lhs; rw [split_at hx]
  rw [QdA, YU]
theorem Qbx {ls : List Cd} {m : Nat} (h : m ≤ ls.length) : lev ls m = lev (ls.take m) (ls.take m).length := by
  have e : (ls.take m).length = m := by rw [List.length_take]; omega
  have := XS (A := ls.take m) (B := ls.drop m) (i := m) (by omega)
  rw [List.take_append_drop] at this
  rw [e]; exact this
theorem Wj {xs : List α} (h : ∀ x ∈ xs, Ex E b x) {m r : Nat} {x : α} (hx : xs[m]? = some x) (hr : r ≤ (E x).length) : lev (F E xs) (off E xs m + r) = lev (xs.map b) m + lev (E x) r := by
  have hm := (List.getElem?_eq_some_iff.mp hx).1
  unfold off
  rw [Qie hx, V2, XS hr, QgS fun y hy => h y (List.mem_of_mem_take hy)]
  rw [Qbx (ls := xs.map b) (m := m) (by simp; omega), ← List.map_take]
  simp
theorem Qe9 {xs : List α} {m r : Nat} {x : α} (hx : xs[m]? = some x) (hr : r < (E x).length) : (F E xs)[off E xs m + r]? = (E x)[r]? := by
  unfold off
  rw [Qie hx, List.getElem?_append_right (by omega), Nat.add_sub_cancel_left, List.getElem?_append_left hr]
theorem off_succ {xs : List α} {m : Nat} {x : α} (hx : xs[m]? = some x) : off E xs (m + 1) = off E xs m + (E x).length := by
  obtain ⟨hm, rfl⟩ := List.getElem?_eq_some_iff.mp hx
  unfold off
  rw [List.take_succ_eq_append_getElem hm, QdA, List.length_append]
  simp [F]
theorem off_mono {xs : List α} {j k : Nat} (h : j ≤ k) : off E xs j ≤ off E xs k := by
  unfold off
  have : xs.take j = (xs.take k).take j := by rw [List.take_take, Nat.min_eq_left h]
  rw [this]
  conv => rhs; rw [← List.take_append_drop j (xs.take k), QdA, List.length_append]
  omega
theorem Qc3 {xs : List α} {i : Nat} (hi : i < (F E xs).length) : ∃ m r x, xs[m]? = some x ∧ r < (E x).length ∧ i = off E xs m + r := by
  induction xs generalizing i with
  | nil => simp [F] at hi
  | cons x xs ih =>
    rw [YU, List.length_append] at hi
    by_cases h : i < (E x).length
    · exact ⟨0, i, x, rfl, h, by simp [off, F]⟩
    · obtain ⟨m, r, y, h1, h2, h3⟩ := ih (i := i - (E x).length) (by omega)
      refine ⟨m + 1, r, y, by simpa using h1, h2, ?_⟩
      have : off E (x :: xs) (m + 1) = (E x).length + off E xs m := by unfold off; rw [List.take_succ_cons, YU, List.length_append]
      omega
theorem WH {xs : List α} {k j i : Nat} {a : α} (hk : xs[k]? = some a) (ha : (E a).length = 1) (h1 : off E xs k < i) (h2 : i < off E xs j) (hl : i < (F E xs).length) : ∃ m r x, xs[m]? = some x ∧ r < (E x).length ∧ i = off E xs m + r ∧ k < m ∧ m < j := by
  obtain ⟨m, r, x, e1, e2, e3⟩ := Qc3 hl
  refine ⟨m, r, x, e1, e2, e3, ?_, ?_⟩
  · apply Classical.byContradiction
    intro hn
    by_cases z : m = k
    · subst z
      rw [hk] at e1
      cases e1
      omega
    · have := off_mono (E := E) (xs := xs) (show m + 1 ≤ k by omega)
      rw [off_succ e1] at this
      omega
  · apply Classical.byContradiction
    intro hn
    have := off_mono (E := E) (xs := xs) (show j ≤ m by omega)
    omega
theorem QeK {xs : List α} (h : ∀ x ∈ xs, Ex E b x) {k : Nat} {a : α} (hk : xs[k]? = some a) (hb : b a ≠ .ot) : E a = [b a] := by
  rcases h a (List.mem_iff_getElem?.mpr ⟨k, hk⟩) with e | e
  · exact e
  · exact absurd e.1 hb
theorem X2 {xs : List α} (h : ∀ x ∈ xs, Ex E b x) {k : Nat} {a : α} (hk : xs[k]? = some a) : lev (F E xs) (off E xs k) = lev (xs.map b) k := by
  have := Wj h hk (Nat.zero_le _)
  simpa [lev] using this
theorem Yr {xs : List α} (h : ∀ x ∈ xs, Ex E b x) {k : Nat} {a : α} (hk : xs[k]? = some a) (ha : E a = [b a]) : lev (F E xs) (off E xs k + 1) = lev (xs.map b) (k + 1) := by
  have := Wj h hk (r := 1) (by rw [ha]; simp)
  have e2 : lev (E a) 1 = ch (b a) := by rw [ha]; simp [lev]
  have e3 := ZS (ls := xs.map b) (k := k) (c := b a) (by rw [List.getElem?_map, hk]; rfl)
  rw [this, e2, e3]
theorem Ut {xs : List α} {k : Nat} {a : α} (hk : xs[k]? = some a) (ha : E a = [b a]) : (F E xs)[off E xs k]? = some (b a) := by
  have := Qe9 (E := E) hk (r := 0) (by rw [ha]; simp)
  rw [Nat.add_zero] at this
  rw [this, ha]; rfl
theorem Qhf {xs : List α} (h : ∀ x ∈ xs, Ex E b x) {k j : Nat} {c : Cd} {a : α} (hk : xs[k]? = some a) (ha : E a = [b a]) (hc : c = .oo ∨ c = .en) (B : Beh (xs.map b) k c j) : Beh (F E xs) (off E xs k) c (off E xs j) := by
  have hj := B.at_
  rw [List.getElem?_map] at hj
  obtain ⟨a', hj, hbj⟩ := Option.map_eq_some_iff.mp hj
  have hb' : b a' ≠ .ot := by rw [hbj]; rcases hc with rfl | rfl <;> simp
  have ha' := QeK h hj hb'
  have o1 := off_succ (E := E) hk
  rw [ha] at o1
  have o2 := off_mono (E := E) (xs := xs) (show k + 1 ≤ j from B.lt)
  have hlj : off E xs j < (F E xs).length := (List.getElem?_eq_some_iff.mp (Ut hj ha')).1
  have hlt := B.lt
  refine ⟨by simp at o1; omega, by rw [Ut hj ha', hbj], ?_, fun i h1 h2 h3 q => ?_, fun i h1 h2 => ?_⟩
  · rw [X2 h hj, Yr h hk ha]; exact B.lv
  · obtain ⟨m, r, x, e1, e2, rfl, e4, e5⟩ := WH hk (by rw [ha]; rfl) h1 h2 (by omega)
    rw [Qe9 e1 e2] at q
    have hx := h x (List.mem_iff_getElem?.mpr ⟨m, e1⟩)
    rw [Wj h e1 (by omega), Yr h hk ha] at h3
    rcases hx with e | ⟨e, hB⟩
    · rw [e] at e2 q h3
      simp at e2
      subst e2
      rw [show lev [b x] 0 = 0 from rfl, Int.add_zero] at h3
      have q' : b x = c := by simpa using q
      exact B.no m e4 e5 h3 (by rw [List.getElem?_map, e1, ← q']; rfl)
    · have g := B.ge m e4 (by omega)
      have g2 := GJ hB (i := r) (by omega)
      have := QfS hB q (by omega)
      rcases hc with rfl | rfl
      · exact this.1 rfl
      · exact this.2 rfl
  · rw [Yr h hk ha]
    by_cases z : i = off E xs j
    · subst z
      rw [X2 h hj]
      exact B.ge j hlt (Nat.le_refl _)
    · obtain ⟨m, r, x, e1, e2, rfl, e4, e5⟩ := WH hk (by rw [ha]; rfl) h1 (show i < off E xs j by omega) (by omega)
      rw [Wj h e1 (by omega)]
      have g := B.ge m e4 (by omega)
      rcases h x (List.mem_iff_getElem?.mpr ⟨m, e1⟩) with e | ⟨e, hB⟩
      · rw [e] at e2 ⊢
        simp at e2
        subst e2
        rw [show lev [b x] 0 = 0 from rfl, Int.add_zero]
        exact g
      · have g2 := GJ hB (i := r) (by omega)
        omega
end
end My5

namespace My5
open My3 My4
theorem YB {ls : List Cd} {k j j' : Nat} {c : Cd} (B : Beh ls k c j) (B' : Beh ls k c j') : j = j' := by
  rcases Nat.lt_trichotomy j j' with h | h | h
  · exact absurd B.at_ (B'.no j B.lt h B.lv)
  · exact h
  · exact absurd B'.at_ (B.no j' B'.lt h B'.lv)
theorem K9 {ls : List Cd} {k j j' : Nat} (A : Ahd ls k j) (A' : Ahd ls k j') : j = j' := by
  rcases Nat.lt_trichotomy j j' with h | h | h
  · exact absurd A'.lv (A.no j' h A'.lt)
  · exact h
  · exact absurd A.lv (A'.no j h A.lt)
theorem Jo {A Y Z : List Cd} {i : Nat} (h : i ≤ Y.length) : lev (A ++ (Y ++ Z)) (A.length + i) = lev A A.length + lev Y i := by rw [V2, XS h]
theorem Qch {A Y Z : List Cd} {i : Nat} (h : i < Y.length) : (A ++ (Y ++ Z))[A.length + i]? = Y[i]? := by
  rw [List.getElem?_append_right (by omega), Nat.add_sub_cancel_left, List.getElem?_append_left h]
theorem QdU {A Y Z : List Cd} {k j : Nat} {c : Cd} (B : Beh Y k c j) : Beh (A ++ (Y ++ Z)) (A.length + k) c (A.length + j) := by
  have hj := (List.getElem?_eq_some_iff.mp B.at_).1
  have hlt := B.lt
  refine ⟨by omega, by rw [Qch hj]; exact B.at_, ?_, fun i h1 h2 h3 => ?_, fun i h1 h2 => ?_⟩
  · rw [Nat.add_assoc, Jo (by omega), Jo (by omega), B.lv]
  · obtain ⟨r, rfl⟩ : ∃ r, i = A.length + r := ⟨i - A.length, by omega⟩
    rw [Nat.add_assoc, Jo (by omega), Jo (by omega)] at h3
    rw [Qch (by omega)]
    exact B.no r (by omega) (by omega) (by omega)
  · obtain ⟨r, rfl⟩ : ∃ r, i = A.length + r := ⟨i - A.length, by omega⟩
    rw [Nat.add_assoc, Jo (by omega), Jo (by omega)]
    have := B.ge r (by omega) (by omega)
    omega
theorem QdE {A Y Z : List Cd} {k j : Nat} (B : Ahd Y k j) (hk : k ≤ Y.length) : Ahd (A ++ (Y ++ Z)) (A.length + k) (A.length + j) := by
  have hlt := B.lt
  refine ⟨by omega, ?_, fun i h1 h2 h3 => ?_, fun i h1 h2 => ?_⟩
  · rw [Jo (by omega), Jo (by omega), B.lv]; omega
  · obtain ⟨r, rfl⟩ : ∃ r, i = A.length + r := ⟨i - A.length, by omega⟩
    rw [Jo (by omega), Jo (by omega)] at h3
    exact B.no r (by omega) (by omega) (by omega)
  · obtain ⟨r, rfl⟩ : ∃ r, i = A.length + r := ⟨i - A.length, by omega⟩
    rw [Jo (by omega), Jo (by omega)]
    have := B.ge r (by omega) (by omega)
    omega
section
variable {α : Type} {E : α → List Cd} {b : α → Cd}
theorem QgP {x : α} (h : Ex E b x) {r : Nat} (hr : r < (E x).length) : 0 ≤ lev (E x) r := by
  rcases h with e | ⟨_, hB⟩
  · rw [e] at hr ⊢
    simp at hr
    subst hr
    exact Int.le_refl _
  · exact GJ hB (by omega)
theorem QhC {xs : List α} (h : ∀ x ∈ xs, Ex E b x) {k j : Nat} {a a' : α} (hk : xs[k]? = some a) (hj : xs[j]? = some a') (ha' : E a' = [b a']) (ha : E a = [b a]) (A : Ahd (xs.map b) k j) : Ahd (F E xs) (off E xs k) (off E xs j) := by
  have o1 := off_succ (E := E) hj
  rw [ha'] at o1
  have o2 := off_mono (E := E) (xs := xs) (show j + 1 ≤ k from A.lt)
  have hlk : off E xs k < (F E xs).length := (List.getElem?_eq_some_iff.mp (Ut hk ha)).1
  have hlt := A.lt
  have key : ∀ i, off E xs j < i → i < off E xs k → lev (F E xs) (off E xs k) ≤ lev (F E xs) i := fun i h1 h2 => by
    obtain ⟨m, r, x, e1, e2, rfl, e4, e5⟩ := WH hj (by rw [ha']; rfl) h1 h2 (by omega)
    rw [Wj h e1 (by omega), X2 h hk]
    have g := A.ge m e4 (by omega)
    have g2 := QgP (h x (List.mem_iff_getElem?.mpr ⟨m, e1⟩)) e2
    omega
  refine ⟨by simp at o1; omega, ?_, fun i h1 h2 h3 => ?_, fun i h1 h2 => ?_⟩
  · rw [X2 h hk, X2 h hj]; exact A.lv
  · have := key i h1 h2; omega
  · by_cases z : i = off E xs k
    · rw [z]; exact Int.le_refl _
    · exact key i h1 (by omega)
theorem Qag {c : Cd} {p q s : List Cd} (h : kst c p = some q) : kst c (p ++ s) = some (q ++ s) := by
  cases c <;> cases p <;> simp only [kst, List.nil_append, List.cons_append] at h ⊢ <;> first | (cases h; rfl) | (split at h <;> first | (cases h; done) | (rename_i z; cases h; simp [z])) | simp_all
theorem KO : ∀ {ls p q s : List Cd}, J1 ls p = some q → J1 ls (p ++ s) = some (q ++ s)
  | [], p, q, s, h => by simp only [J1] at h ⊢; cases h; rfl
  | c :: ls, p, q, s, h => by
    simp only [J1] at h ⊢
    obtain ⟨r, h1, h2⟩ := Option.bind_eq_some_iff.mp h
    rw [Qag h1]
    exact KO h2
theorem Qhr {xs : List α} (h : ∀ x ∈ xs, Ex E b x) : ∀ (s : List Cd), J1 (F E xs) s = J1 (xs.map b) s := by
  induction xs with
  | nil => intro s; rfl
  | cons x xs ih =>
    intro s
    have ih := ih fun y hy => h y (List.mem_cons_of_mem _ hy)
    rw [YU, JJ, List.map_cons, show b x :: xs.map b = [b x] ++ xs.map b from rfl, JJ]
    rcases h x List.mem_cons_self with e | ⟨e, hB⟩
    · rw [e]
      cases J1 [b x] s with
      | none => rfl
      | some r => exact ih r
    · have h1 : J1 (E x) s = some s := by
        have := KO (s := s) (bal_iff.mp hB)
        simpa using this
      have h2 : J1 [b x] s = some s := by rw [e]; rfl
      rw [h1, h2]
      exact ih s
theorem Qg5 {xs : List α} (h : ∀ x ∈ xs, Ex E b x) (hb : Bal (xs.map b)) : Bal (F E xs) := bal_iff.mpr (by rw [Qhr h]; exact bal_iff.mp hb)
end
end My5

namespace My
open PySem PySem.Spec PyProof.Rows L2 Mi My3 My4
theorem Ye (f : Fd) (m : Int) : ∃ p : Int × Fd, (0 < m → 0 ≤ p.1 ∧ p.1 < m) ∧ (0 < m → m < 1000000 → ∀ (h : MH) (n : Nat), h[n]? = some (Qw f) → Qg [.ref n, .int m] h = some (.int p.1, h.set n (Qw p.2))) := by
  obtain ⟨a, b, hb⟩ := f
  by_cases h : 0 < a
  · refine ⟨(a % m, ⟨a / m, b, hb⟩), fun hm => ⟨Int.emod_nonneg _ (by omega), Int.emod_lt_of_pos _ hm⟩, fun hm hm2 g n hn => Z1 (o := Qw ⟨a, b, hb⟩) (g := []) (by simp) hn (by simp [Qw]) ?_ rfl ⟨_, rfl, by simp⟩⟩
    have hm3 : m < 1073741824 := by omega
    simp [Js, Zf, h, hm, hm3, Qw]
  · refine ⟨((b * 69621 + 12345) % 2147483647 / 8191 % m, ⟨a, (b * 69621 + 12345) % 2147483647, Int.emod_nonneg _ (by decide), Int.lt_trans (Int.emod_lt_of_pos _ (by decide)) (by decide)⟩), fun hm => ⟨Int.emod_nonneg _ (by omega), Int.emod_lt_of_pos _ hm⟩, fun hm hm2 g n hn => Z1 (o := Qw ⟨a, b, hb⟩) (g := []) (by simp) hn (by simp [Qw]) ?_ rfl ⟨_, rfl, by simp⟩⟩
    have hm3 : m < 1073741824 := by omega
    simp [Js, Zf, h, hm, hm3, Qw]
noncomputable def tk (f : Fd) (m : Int) : Int := (Classical.choose (Ye f m)).1
noncomputable def tf (f : Fd) (m : Int) : Fd := (Classical.choose (Ye f m)).2
theorem Xm {f : Fd} {m : Int} (hm : 0 < m) : 0 ≤ tk f m ∧ tk f m < m := (Classical.choose_spec (Ye f m)).1 hm
theorem KR {f : Fd} {m : Int} {h : MH} {n : Nat} (hm : 0 < m) (hm2 : m < 1000000) (hn : h[n]? = some (Qw f)) : Qg [.ref n, .int m] h = some (.int (tk f m), h.set n (Qw (tf f m))) := (Classical.choose_spec (Ye f m)).2 hm hm2 h n hn
@[simp] theorem J6 {m : Int} {h : MH} {n : Nat} (hm : 0 < m) (hm2 : m < 1000000) (hn : Qgu h n) : Qg [.ref n, .int m] h = some (.int (tk (GT h n) m), h.set n (Qw (tf (GT h n) m))) := by
  obtain ⟨f, hf⟩ := hn
  rw [Uf hf]
  exact KR hm hm2 hf
noncomputable abbrev abc : Str := "abcdefghijklmnopqrstuvwxyz"
theorem W0 (x : Str) (n : Int) : (rep x n).length = n.toNat * x.length := by unfold rep Str.length; simp
theorem W4 (x y : Str) : (x ++ y).length = x.length + y.length := by show (x.cps ++ y.cps).size = _; simp [Str.length]
theorem Qd6 : abc.length = 26 := by decide +kernel
noncomputable def ltr (i : Int) : Str := ⟨#[97 + i.toNat]⟩
theorem Qd8 : abc.cps.toList = (List.range 26).map (97 + ·) := by decide +kernel
@[simp] theorem Qet {i : Int} : (ltr i).length = 1 := rfl
@[simp] theorem Qh9 {i : Int} {h : MH} (h0 : 0 ≤ i) (h1 : i < 26) : wIx (.str abc) (.int i) h = some (.str (ltr i), h) := by
  obtain ⟨n, rfl⟩ : ∃ n : Nat, i = n := ⟨i.toNat, by omega⟩
  refine Qeo (by rw [Qd6]; decide) ?_
  rw [ZK, Qd8, List.getElem?_map, List.getElem?_range (by omega)]; rfl
theorem Vq {ms : MA} {σ : MSt} {h h' : MH} {j : Nat} (e : ms σ h = some ([.int j], h')) (hj : j < 1000000) : Yu ms σ h = some (QO 0 j, none, h') := by
  unfold Yu
  rw [e, Option.bind_some]
  exact (if_pos ⟨by omega, by omega⟩).trans (by simp)
theorem Q3 {a : Int} {n : Nat} : (QO a n).length = n := by simp [QO]
theorem Y6 {a : Int} {n : Nat} {f : W → W} : (QO a n).map f = (List.range n).map fun (i : Nat) => f (.int (a + i)) := by simp [QO]
theorem QhA {i : Int} (h0 : 0 ≤ i) (h1 : i < 6) : ∃ v : Int, (v = 1 ∨ v = 3 ∨ v = 5 ∨ v = 7 ∨ v = 9 ∨ v = 11) ∧ atI [W.int 1, .int 3, .int 5, .int 7, .int 9, .int 11] i = some (.int v) := by
  obtain ⟨x, _, hx, e⟩ := UW (xs := [(1 : Int), 3, 5, 7, 9, 11]) (f := W.int) (P := fun v => v = 1 ∨ v = 3 ∨ v = 5 ∨ v = 7 ∨ v = 9 ∨ v = 11) h0 h1 (by decide)
  exact ⟨x, hx, e⟩
theorem Qhe {i : Int} (h0 : 0 ≤ i) (h1 : i < 8) : ∃ v : Int, 1 ≤ v ∧ v ≤ 8 ∧ atI [W.int 1, .int 3, .int 4, .int 5, .int 6, .int 7, .int 8, .int 1] i = some (.int v) := by
  obtain ⟨x, _, hx, e⟩ := UW (xs := [(1 : Int), 3, 4, 5, 6, 7, 8, 1]) (f := W.int) (P := fun v => 1 ≤ v ∧ v ≤ 8) h0 h1 (by decide)
  exact ⟨x, hx.1, hx.2, e⟩
theorem Xk {α β : Type} {f : α → β} {l : List α} (h : ∀ a ∈ l, ∀ b ∈ l, f a = f b → a = b) (hl : l.Nodup) : (l.map f).Nodup := by
  unfold List.Nodup
  rw [List.pairwise_map]
  exact List.Pairwise.imp_of_mem (fun ha hb hab e => hab (h _ ha _ hb e)) hl
theorem KU {t st : Int} {a b : Nat} (hs : st = 1 ∨ st = 3 ∨ st = 5 ∨ st = 7 ∨ st = 9 ∨ st = 11) (ha : a < 5) (hb : b < 5) (h : ((t + st * (0 + (a : Int))) % 26).toNat = ((t + st * (0 + (b : Int))) % 26).toNat) : a = b := by
  rw [Int.zero_add, Int.zero_add] at h
  have h1 := Int.emod_nonneg (t + st * a) (show (26 : Int) ≠ 0 by decide)
  have h2 := Int.emod_nonneg (t + st * b) (show (26 : Int) ≠ 0 by decide)
  have h3 : (t + st * a) % 26 = (t + st * b) % 26 := by rw [← Int.toNat_of_nonneg h1, ← Int.toNat_of_nonneg h2, h]
  have h4 := Int.emod_eq_emod_iff_emod_sub_eq_zero.mp h3
  have h5 : t + st * a - (t + st * b) = st * ((a : Int) - b) := by rw [Int.mul_sub]; omega
  rw [h5] at h4
  have key : ∀ a : Fin 5, ∀ b : Fin 5, ∀ st ∈ [(1 : Int), 3, 5, 7, 9, 11], st * ((a.val : Int) - b.val) % 26 = 0 → a = b := by decide
  exact Fin.mk.inj (key ⟨a, ha⟩ ⟨b, hb⟩ st (by simpa using hs) h4)
theorem Qde {a b : Str} {i j : Int} (h : a ++ ltr i ++ b = a ++ ltr j ++ b) : i.toNat = j.toNat := by
  have e : ∀ x y : Str, (x ++ y).cps.toList = x.cps.toList ++ y.cps.toList := fun x y => by show (x.cps ++ y.cps).toList = _; simp
  have h2 := congrArg (fun s : Str => s.cps.toList) h
  simp only [e] at h2
  simp [ltr] at h2
  omega
theorem Vs (f : Fd) (many : Nat) (hm : many ≤ 5) : ∃ (ns : List Str) (f' : Fd), ns.length = many ∧ ns.Nodup ∧ ∀ (h : MH) (n : Nat), h[n]? = some (Qw f) → QF [.ref n, .int many] h = some (Zo ns, h.set n (Qw f')) := by
  obtain ⟨a0, a1⟩ := Xm (f := f) (m := 26) (by decide)
  by_cases h0 : tk (tf f 26) 3 = 0
  · refine ⟨(List.range many).map fun (k : Nat) => rep (ltr (tk f 26)) ((0 : Int) + k + 1), tf (tf f 26) 3, by simp, Xk (fun a _ b _ e => ?_) List.nodup_range, fun h n hn => ?_⟩
    · have := congrArg Str.length e
      rw [W0, W0, Qet] at this
      omega
    · refine Z1 (o := Qw f) (g := []) (by simp) hn (by simp [Qw]) ?_ (by simp) ⟨_, rfl, by simp⟩
      have e := VY (fin := Kx) (mi := Yu (Qc (Qh 1) Ql)) (cp := [none, some 3]) (me := Qo VU (Qh 1) (Qo Vy (Qh 0) (mC (.int 1)))) (σ := [some (.ref 0), some (.int many), some (.str abc), some (.str (ltr (tk f 26))), none, none, none, none, none]) (caps := [some (.str (ltr (tk f 26)))]) (h := [Qw (tf (tf f 26) 3)]) (items := QO 0 many)
        (fun w => match w with | .int k => .str (rep (ltr (tk f 26)) (k + 1)) | w => w) (Vq (by simp) (by omega)) ⟨_, rfl⟩ (fun w hw => by
          obtain ⟨k, hk, rfl⟩ := List.mem_map.mp hw
          simp at hk
          simp
          exact GS ⟨by omega, by omega, by simp⟩) (by rw [Q3]; exact Xq (by omega))
      simp [Ja, Zf, a0, a1, h0, e, Kx, Zo, Y6]
  · generalize hf2 : tf (tf f 26) 3 = f2
    obtain ⟨b0, b1⟩ := Xm (f := f2) (m := 26) (by decide)
    obtain ⟨c0, c1⟩ := Xm (f := tf f2 26) (m := 6) (by decide)
    obtain ⟨d0, d1⟩ := Xm (f := tf (tf f2 26) 6) (m := 8) (by decide)
    obtain ⟨st, hst, es⟩ := QhA c0 c1
    have s0 : 0 ≤ st := by omega
    have s1 : st ≤ 11 := by omega
    obtain ⟨sz, z0, z1, ez⟩ := Qhe d0 d1
    obtain ⟨p0, p1⟩ := Xm (f := tf (tf (tf f2 26) 6) 8) (m := sz) (by omega)
    generalize hpl : tk (tf (tf (tf f2 26) 6) 8) sz = pl at p0 p1
    generalize hfl : ltr (tk f 26) = fl
    have lfl : fl.length = 1 := by rw [← hfl]; rfl
    have lr : ∀ n : Int, (rep fl n).length = n.toNat := fun n => by rw [W0, lfl]; omega
    refine ⟨(List.range many).map fun (k : Nat) => rep fl pl ++ ltr ((tk f2 26 + st * (0 + (k : Int))) % 26) ++ rep fl (sz - 1 - pl), tf (tf (tf (tf f2 26) 6) 8) sz, by simp, Xk (fun a ha b hb e => ?_) List.nodup_range, fun h n hn => ?_⟩
    · have := Qde e
      have ha' := List.mem_range.mp ha
      have hb' := List.mem_range.mp hb
      exact KU hst (by omega) (by omega) this
    · refine Z1 (o := Qw f) (g := []) (by simp) hn (by simp [Qw]) ?_ (by simp) ⟨_, rfl, by simp⟩
      have e1 : VU (.str fl) (.int (sz - 1 - pl)) [Qw (tf (tf (tf (tf f2 26) 6) 8) sz)] = some (.str (rep fl (sz - 1 - pl)), _) := GS ⟨by omega, by omega, by omega⟩
      have hz : (0 : Int) < sz := by omega
      have hz' : sz < 1000000 := by omega
      simp [Ja, Zf, a0, a1, h0, hf2, hfl, b0, b1, es, ez, hz, hz', hpl, e1]
      rw [VY (items := QO 0 many) (caps := [some (.str (rep fl (sz - 1 - pl))), some (.str fl), some (.int pl), some (.str abc), some (.int (tk f2 26)), some (.int st)]) (fun w => match w with | .int k => .str (rep fl pl ++ ltr ((tk f2 26 + st * k) % 26) ++ rep fl (sz - 1 - pl)) | w => w)]
      · simp [Kx, Zo, Y6]
      · exact Vq (by simp) (by omega)
      · exact ⟨_, rfl⟩
      · intro w hw
        obtain ⟨k, hk, rfl⟩ := List.mem_map.mp hw
        simp at hk
        have e2 : VU (.str fl) (.int pl) [Qw (tf (tf (tf (tf f2 26) 6) 8) sz)] = some (.str (rep fl pl), _) := GS ⟨by omega, by omega, by omega⟩
        have q1 : 0 ≤ (tk f2 26 + st * (k : Int)) % 26 := Int.emod_nonneg _ (by decide)
        have q2 : (tk f2 26 + st * (k : Int)) % 26 < 26 := Int.emod_lt_of_pos _ (by decide)
        have q3 : -18446744073709551616 < st := by omega
        have q4 : st < 18446744073709551616 := by omega
        have l1 : pl.toNat + 1 ≤ sizeLine := Xq (by omega)
        have l2 : pl.toNat + 1 + (sz - 1 - pl).toNat ≤ sizeLine := Xq (by omega)
        simp [e2, q1, q2, q3, q4, lr, l1, l2, W4]
      · rw [Q3]; exact Xq (by omega)
inductive PlainL (bs ws : List Str) : Ln → Prop where
  | pair {x w y z : Str} (hx : x ∈ bs) (hw : w ∈ ws) (hy : y ∈ bs) (hz : z ∈ bs) : PlainL bs ws ["pair", x, w, y, z]
  | first {x y : Str} (hx : x ∈ bs) (hy : y ∈ bs) : PlainL bs ws ["first", x, y]
  | second {x y : Str} (hx : x ∈ bs) (hy : y ∈ bs) : PlainL bs ws ["second", x, y]
  | same {x y : Str} (hx : x ∈ bs) (hy : y ∈ bs) : PlainL bs ws ["same", x, y]
  | none {x : Str} (hx : x ∈ bs) : PlainL bs ws ["none", x]
  | tell {x : Str} (hx : x ∈ bs) : PlainL bs ws ["tell", x]
theorem UO {xs : List Str} {i : Int} (h0 : 0 ≤ i) (h1 : i < xs.length) : ∃ x, x ∈ xs ∧ atI (xs.map W.str) i = some (.str x) := by
  obtain ⟨x, hx, _, e⟩ := UW (xs := xs) (f := W.str) (P := fun _ => True) h0 h1 (fun _ _ => True.intro)
  exact ⟨x, hx, e⟩
theorem XF (f : Fd) (bs ws : List Str) (hb : 0 < bs.length) (hb2 : bs.length ≤ 5) (hw : 0 < ws.length) (hw2 : ws.length ≤ 5) : ∃ (l : Ln) (f' : Fd), PlainL bs ws l ∧ ∀ (h : MH) (n : Nat), h[n]? = some (Qw f) → QE [.ref n, Zo bs, Zo ws] h = some (QG l, h.set n (Qw f')) := by
  obtain ⟨a0, a1⟩ := Xm (f := f) (m := 10) (by decide)
  have q1 : (0 : Int) < bs.length := by omega
  have q2 : (bs.length : Int) < 1000000 := by omega
  have q3 : (0 : Int) < ws.length := by omega
  have q4 : (ws.length : Int) < 1000000 := by omega
  have n1 : bs ≠ [] := by intro z; rw [z] at hb; simp at hb
  have n2 : ws ≠ [] := by intro z; rw [z] at hw; simp at hw
  have n3 : bs.length < 1000 := by omega
  have n4 : ws.length < 1000 := by omega
  obtain ⟨b0, b1⟩ := Xm (f := tf f 10) (m := bs.length) q1
  obtain ⟨x, hx, ex⟩ := UO b0 b1
  obtain ⟨c0, c1⟩ := Xm (f := tf (tf f 10) bs.length) (m := bs.length) q1
  obtain ⟨y, hy, ey⟩ := UO c0 c1
  by_cases h4 : tk f 10 < 4
  · obtain ⟨d0, d1⟩ := Xm (f := tf (tf (tf f 10) bs.length) bs.length) (m := bs.length) q1
    obtain ⟨z, hz, ez⟩ := UO d0 d1
    obtain ⟨e0, e1⟩ := Xm (f := tf (tf (tf (tf f 10) bs.length) bs.length) bs.length) (m := ws.length) q3
    obtain ⟨w, hw, ew⟩ := UO e0 e1
    refine ⟨_, tf (tf (tf (tf (tf f 10) bs.length) bs.length) bs.length) ws.length, .pair hx hw hy hz, fun h n hn => ?_⟩
    refine Z1 (o := Qw f) (g := []) (by simp) hn (by simp [Qw]) ?_ (by simp) ⟨_, rfl, by simp⟩
    simp [Jc, Zf, Zo, J6 q1 q2, J6 q3 q4, ex, ey, ez, ew, h4, QG]
  · have a0' : 0 ≤ tk f 10 - 4 := by omega
    obtain ⟨l, _, hl, el⟩ := UW (xs := ([["first", x, y], ["second", x, y], ["same", x, y], ["none", x], ["tell", y], ["tell", x]] : List Ln)) (i := tk f 10 - 4) (f := QG) (P := PlainL bs ws) a0' (by show tk f 10 - 4 < 6; omega) (by
      intro l hl
      simp at hl
      rcases hl with rfl | rfl | rfl | rfl | rfl | rfl
      · exact .first hx hy
      · exact .second hx hy
      · exact .same hx hy
      · exact .none hx
      · exact .tell hy
      · exact .tell hx)
    refine ⟨l, tf (tf (tf f 10) bs.length) bs.length, hl, fun h n hn => ?_⟩
    refine Z1 (o := Qw f) (g := []) (by simp) hn (by simp [Qw]) ?_ (by simp) ⟨_, rfl, by simp⟩
    simp [QG] at el
    simp [Jc, Zf, Zo, J6 q1 q2, ex, ey, h4, el, QG]
end My

namespace My
open PySem PySem.Spec PyProof.Rows L2 Mi My3 My4
noncomputable def cd (x : Str) : Cd := if x = "either" then .ei else if x = "again" then .ag else if x = "or" then .oo else if x = "end" then .en else .ot
noncomputable def cdL : Ln → Cd
  | [] => .ot
  | x :: _ => cd x
inductive LineOk (bs ws later : List Str) : Ln → Prop where
  | plain {l : Ln} (h : PlainL bs ws l) : LineOk bs ws later l
  | do {x : Str} (h : x ∈ later) : LineOk bs ws later ["do", x]
  | blk {x : Str} (h : x = "either" ∨ x = "again" ∨ x = "or" ∨ x = "end") : LineOk bs ws later [x]
  | back {x : Str} (h : x ∈ ws) : LineOk bs ws later ["back", x]
noncomputable abbrev orL : Ln := ["or"]
noncomputable abbrev Qeu : Ln := ["end"]
noncomputable def Vo : Ln → Bool
  | x :: _ => x == "do"
  | [] => false
noncomputable def dcn (ls : List Ln) : Nat := ls.countP Vo
theorem J8 (L : List Ln) (l : Ln) : dcn (L ++ [l]) = dcn L + (if Vo l = true then 1 else 0) := by simp [dcn, List.countP_append, List.countP_cons]
theorem Z5 {L : List Ln} {l : Ln} (h : Vo l = false) : dcn (L ++ [l]) = dcn L := by rw [J8, h]; rfl
theorem V1 {bs ws : List Str} {l : Ln} (h : PlainL bs ws l) : Vo l = false := by cases h <;> (show (_ == _) = false) <;> decide
theorem V8 : cd "again" = .ag := by decide
theorem Qf4 : cd "or" = .oo := by decide
theorem YR : cd "end" = .en := by decide
theorem XJ {bs ws : List Str} {l : Ln} (h : PlainL bs ws l) : cdL l = .ot := by cases h <;> (show cd _ = .ot) <;> decide
@[simp] theorem KE {h : MH} {i j : Nat} {us vs : List W} (hi : h[i]? = some (.lst us)) (hj : h[j]? = some (.lst vs)) (pu : Jq us = true) (pv : Jq vs = true) : Ji (Qbo h) [i, j] = some [.lst us, .lst vs] := by
  simp [Ji, K7 hi pu, K7 hj pv]
theorem Qaq {L : List Ln} {O : List Str} {h : MH} {i j : Nat} (hl : L.length ≤ 100000) (hij : i ≠ j) (hi : h[i]? = some (.lst (L.map QG))) (hj : h[j]? = some (.lst ((O ++ [("either" : Str)]).map .str))) :
    Qv [.ref i, .ref j] h = some (.non, (h.set i (.lst ((L ++ [orL]).map QG))).set j (.lst ((O ++ [("or" : Str)]).map .str))) := by
  refine KS (w := .non) (as := [.ref 0, .ref 1]) (ns := [i, j]) (os := [.lst (L.map QG), .lst ((O ++ [("either" : Str)]).map .str)]) (os' := [.lst ((L ++ [orL]).map QG), .lst ((O ++ [("or" : Str)]).map .str)]) (g := []) rfl (by simp [hij]) (KE hi hj (by simp) (by simp)) ?_ rfl ?_ rfl
  · have h1 : L.length < sizeLine := VT (by omega)
    simp [ZL, Zf, h1, QG]
  · intro o ho
    simp at ho
    rcases ho with rfl | rfl
    · exact ⟨_, rfl, by simp⟩
    · exact ⟨_, rfl, by simp⟩
theorem Gu {L : List Ln} {O : List Str} {x : Str} {h : MH} {i j : Nat} (hx : x ≠ "either") (hl : L.length ≤ 100000) (hij : i ≠ j) (hi : h[i]? = some (.lst (L.map QG))) (hj : h[j]? = some (.lst ((O ++ [x]).map .str))) :
    Qv [.ref i, .ref j] h = some (.non, (h.set i (.lst ((L ++ [Qeu]).map QG))).set j (.lst (O.map .str))) := by
  refine KS (w := .non) (as := [.ref 0, .ref 1]) (ns := [i, j]) (os := [.lst (L.map QG), .lst ((O ++ [x]).map .str)]) (os' := [.lst ((L ++ [Qeu]).map QG), .lst (O.map .str)]) (g := []) rfl (by simp [hij]) (KE hi hj (by simp) (by simp)) ?_ rfl ?_ rfl
  · have h1 : L.length < sizeLine := VT (by omega)
    simp [ZL, Zf, h1, QG, hx]
  · intro o ho
    simp at ho
    rcases ho with rfl | rfl
    · exact ⟨_, rfl, by simp⟩
    · exact ⟨_, rfl, by simp⟩
structure PI (bs ws later : List Str) (size d0 : Int) (n : Nat) (σ : MSt) (h : MH) : Prop where
  ex : ∃ (f : Fd) (L : List Ln) (O : List Str) (op ds : Int) (kk ww : Option W), σ = [some (.ref 0), some (.int size), some (.tup [Zo bs, Zo ws]), some (Zo later), some (.int op), some (.int ds), some (.ref 1), some (.ref 2), kk, ww] ∧ h = [Qw f, .lst (L.map QG), .lst (O.map .str)] ∧
    (∀ l ∈ L, LineOk bs ws later l) ∧ J1 (L.map cdL) [] = some (O.reverse.map cd) ∧ (∀ x ∈ O, x = "either" ∨ x = "again" ∨ x = "or") ∧ L.length = n ∧ O.length ≤ n ∧ (dcn L : Int) + ds = d0 ∧ 0 ≤ ds
theorem Qbq (O : List Str) (h : O ≠ []) : ∃ r x, O = r ++ [x] := ⟨O.dropLast, O.getLast h, (List.dropLast_concat_getLast h).symm⟩
theorem KQ {bs ws later : List Str} : LineOk bs ws later Qeu := .blk (.inr (.inr (.inr rfl)))
theorem WN {bs ws later : List Str} : LineOk bs ws later orL := .blk (.inr (.inr (.inl rfl)))
theorem QY {α : Type} {P : α → Prop} {xs : List α} {x : α} (h : ∀ y ∈ xs, P y) (hx : P x) : ∀ y ∈ xs ++ [x], P y := fun y hy => by
  rcases List.mem_append.mp hy with z | z
  · exact h y z
  · rw [List.mem_singleton.mp z]; exact hx
theorem WG {P : Str → Prop} {xs : List Str} {x y : Str} (h : ∀ z ∈ xs ++ [x], P z) (hy : P y) : ∀ z ∈ xs ++ [y], P z := QY (fun z hz => h z (List.mem_append_left _ hz)) hy
theorem JI (O : List Str) (x : Str) : (O ++ [x]).reverse.map cd = cd x :: O.reverse.map cd := by simp
theorem Za (L : List Ln) (l : Ln) : (L ++ [l]).map cdL = L.map cdL ++ [cdL l] := by simp
theorem opk {x : Str} (h : x = "either" ∨ x = "again" ∨ x = "or") (hn : x ≠ "either") : cd x ≠ .ei := by
  rcases h with rfl | rfl | rfl
  · exact absurd rfl hn
  · decide
  · decide
theorem Gs {x : Str} {s : List Cd} (h : cd x ≠ .ei) : kst .en (cd x :: s) = some s := by simp [kst, h]
noncomputable abbrev pS (bs ws later : List Str) (size op ds : Int) (k : W) (way : Int) : MSt := [some (.ref 0), some (.int size), some (.tup [Zo bs, Zo ws]), some (Zo later), some (.int op), some (.int ds), some (.ref 1), some (.ref 2), some k, some (.int way)]
theorem Qat {bs ws later : List Str} {size d0 : Int} {n : Nat} {σ : MSt} {h : MH} {k : W} (hb : 0 < bs.length) (hb2 : bs.length ≤ 5) (hw : 0 < ws.length) (hw2 : ws.length ≤ 5) (hla : later.length ≤ 5) (hn : n ≤ 1000) (H : PI bs ws later size d0 n σ h) :
    ∃ σ1, J5 8 k σ h = some σ1 ∧ ∃ σ2 h2, (Z9 σ1 h = some (.nx σ2 h2) ∨ Z9 σ1 h = some (.ct σ2 h2)) ∧ PI bs ws later size d0 (n + 1) σ2 h2 := by
  obtain ⟨f, L, O, op, ds, kk, ww, rfl, rfl, hL, hk, hO, hl, hol, hdc, hd0⟩ := H.ex
  refine ⟨_, rfl, ?_⟩
  obtain ⟨a0, a1⟩ := Xm (f := f) (m := 14) (by decide)
  have hsz : L.length < sizeLine := VT (by omega)
  have hoz : O.length < sizeLine := VT (by omega)
  generalize hway : tk f 14 = way at a0 a1
  have t1 : ∀ h, Vf (QD (Qo wLt (Qh 9) (mC (.int 3)))) (QD (Qo wGt (Qh 4) (mC (.int 0)))) (pS bs ws later size op ds k way) h = some (decide (way < 3 ∧ 0 < op), h) := fun h => by by_cases a : way < 3 <;> simp [a]
  have t2 : ∀ f, Vf (QD (Qo wLt (Qh 9) (mC (.int 6)))) (QD (Qo wGt (mFn JO (Qc (Qh 7) Ql)) (mC (.int 0)))) (pS bs ws later size op ds k way) [Qw f, .lst (L.map QG), .lst (O.map .str)] = some (decide (way < 6 ∧ 0 < O.length), [Qw f, .lst (L.map QG), .lst (O.map .str)]) := fun h => by by_cases a : way < 6 <;> simp [a]
  have t3 : ∀ h, Vf (QD (Qo (wIn false) (Qh 9) (mFn Ki (Qc (mC (.int 6)) (Qc (mC (.int 7)) Ql))))) (Vf (QD (Qo wGt (Qh 5) (mC (.int 0)))) (QD (Qo wGt (mFn JO (Qc (Qh 3) Ql)) (mC (.int 0))))) (pS bs ws later size op ds k way) h = some (decide ((way = 6 ∨ way = 7) ∧ 0 < ds ∧ 0 < later.length), h) := fun h => by
    by_cases a : way = 6 ∨ way = 7
    · by_cases b : 0 < ds <;> simp [a, b]
    · simp [a]
  by_cases h1 : way < 3 ∧ 0 < op
  · obtain ⟨x, _, hx, ex⟩ := UW (xs := ([("either" : Str), "again", "either"])) (f := W.str) (P := fun x => x = "either" ∨ x = "again") a0 (by show way < 3; omega) (by simp)
    simp at ex
    refine ⟨pS bs ws later size (op - 1) ds k way, [Qw (tf f 14), .lst ((L ++ [[x]]).map QG), .lst ((O ++ [x]).map .str)], .inl ?_, ⟨_, _, _, _, _, _, _, rfl, rfl, ?_, ?_, ?_, ?_, ?_, ?_, hd0⟩⟩
    · simp [-W8, hway, t1, h1, ex, hoz, hsz, QG]
    · exact QY hL (.blk (by rcases hx with rfl | rfl <;> simp))
    · rw [Za, JI]
      refine ZM hk ?_
      rcases hx with rfl | rfl
      · rfl
      · show kst (cd "again") _ = _
        rw [V8]; rfl
    · exact QY hO (by rcases hx with z | z <;> simp [z])
    · simp [hl]
    · simp; omega
    · rw [Z5 (by rcases hx with rfl | rfl <;> decide)]; exact hdc
  · by_cases h2 : way < 6 ∧ 0 < O.length
    · obtain ⟨r, x, rfl⟩ := Qbq O (by intro z; rw [z] at h2; simp at h2)
      rw [JI] at hk
      have es : ∃ L' O', ((x = "either" ∧ L' = L ++ [orL] ∧ O' = r ++ [("or" : Str)]) ∨ (x ≠ "either" ∧ L' = L ++ [Qeu] ∧ O' = r)) ∧ Qv [.ref 1, .ref 2] [Qw (tf f 14), .lst (L.map QG), .lst ((r ++ [x]).map .str)] = some (.non, [Qw (tf f 14), .lst (L'.map QG), .lst (O'.map .str)]) := by
        by_cases hx : x = "either"
        · subst hx
          exact ⟨_, _, .inl ⟨rfl, rfl, rfl⟩, Qaq (L := L) (O := r) (i := 1) (j := 2) (by omega) (by decide) rfl rfl⟩
        · exact ⟨_, _, .inr ⟨hx, rfl, rfl⟩, Gu (L := L) (O := r) (x := x) (i := 1) (j := 2) hx (by omega) (by decide) rfl rfl⟩
      obtain ⟨L', O', hc, es⟩ := es
      refine ⟨pS bs ws later size op ds k way, [Qw (tf f 14), .lst (L'.map QG), .lst (O'.map .str)], .inl ?_, ⟨_, L', O', _, _, _, _, rfl, rfl, ?_⟩⟩
      · have h2' : way < 6 ∧ 0 < r.length + 1 := ⟨h2.1, by omega⟩
        have t2' := t2 (tf f 14)
        simp only [List.map_append, List.map_cons, List.map_nil] at es t2'
        simp [-W8, hway, t1, h1, t2', h2.1, es]
      · rcases hc with ⟨rfl, rfl, rfl⟩ | ⟨hx, rfl, rfl⟩
        · refine ⟨QY hL WN, ?_, WG hO (by simp), by simp [hl], by simp at hol ⊢; omega, by rw [Z5 (by decide)]; exact hdc, hd0⟩
          rw [Za, JI]
          exact ZM hk rfl
        · refine ⟨QY hL KQ, ?_, fun y hy => hO y (List.mem_append_left _ hy), by simp [hl], by simp at hol ⊢; omega, by rw [Z5 (by decide)]; exact hdc, hd0⟩
          rw [Za]
          refine ZM hk ?_
          show kst (cd "end") _ = _
          rw [YR]
          exact Gs (opk (hO x (by simp)) hx)
    · by_cases h3 : (way = 6 ∨ way = 7) ∧ 0 < ds ∧ 0 < later.length
      · have q1 : (0 : Int) < later.length := by omega
        have q2 : (later.length : Int) < 1000000 := by omega
        obtain ⟨b0, b1⟩ := Xm (f := tf f 14) (m := later.length) q1
        obtain ⟨x, hx, ex⟩ := UO b0 b1
        refine ⟨pS bs ws later size op (ds - 1) k way, [Qw (tf (tf f 14) later.length), .lst ((L ++ [(["do", x] : Ln)]).map QG), .lst (O.map .str)], .inl ?_, ⟨_, _, _, _, _, _, _, rfl, rfl, ?_, ?_, hO, ?_, ?_, ?_, by omega⟩⟩
        · simp [-W8, hway, t1, h1, t2, h2, t3, h3, hsz, QG, J6 q1 q2, ex]
        · exact QY hL (.do hx)
        · rw [Za]
          exact ZM hk (by show kst (cd "do") _ = _; rw [show cd "do" = .ot by decide]; rfl)
        · simp [hl]
        · omega
        · rw [J8, if_pos (by show (_ == _) = true; decide)]; omega
      · obtain ⟨l, f', hp, ep⟩ := XF (tf f 14) bs ws hb hb2 hw hw2
        refine ⟨pS bs ws later size op ds k way, [Qw f', .lst ((L ++ [l]).map QG), .lst (O.map .str)], .inl ?_, ⟨_, _, _, _, _, _, _, rfl, rfl, ?_, ?_, hO, ?_, ?_, ?_, hd0⟩⟩
        · simp [-W8, hway, t1, h1, t2, h2, t3, h3, hsz, ep]
        · exact QY hL (.plain hp)
        · rw [Za]
          exact ZM hk (by rw [XJ hp]; rfl)
        · simp [hl]
        · omega
        · rw [Z5 (V1 hp)]; exact hdc
end My

namespace My
open PySem PySem.Spec PyProof.Rows L2 Mi My3 My4
noncomputable def wt (O : List Str) : Nat := (O.map fun (x : Str) => if x = "either" then 2 else 1).sum
theorem VH (O : List Str) (x : Str) : wt (O ++ [x]) = wt O + (if x = "either" then 2 else 1) := by simp [wt]
theorem QdK (O : List Str) : wt O ≤ 2 * O.length := by
  induction O with
  | nil => simp [wt]
  | cons x O ih => simp only [wt, List.map_cons, List.sum_cons, List.length_cons] at ih ⊢; split <;> omega
theorem Qcw (O : List Str) (h : O ≠ []) : 0 < wt O := by
  obtain ⟨r, x, rfl⟩ := Qbq O h
  rw [VH]; split <;> omega
theorem QaP {bs ws later : List Str} {i j : Nat} {t : MT} {body : SM} {σ : MSt} (g : List Ln → List Str → MH) (bound : Nat) (hij : i ≠ j) (hbd : bound ≤ 90000)
    (gi : ∀ L O, (g L O)[i]? = some (.lst (L.map QG))) (gj : ∀ L O, (g L O)[j]? = some (.lst (O.map .str))) (gs : ∀ L O L' O', ((g L O).set i (.lst (L'.map QG))).set j (.lst (O'.map .str)) = g L' O')
    (ht : ∀ L O, t σ (g L O) = some (decide (0 < O.length), g L O)) (hb : ∀ L O w h, Qv [.ref i, .ref j] (g L O) = some (w, h) → body σ (g L O) = some (.nx σ h))
    (L : List Ln) (O : List Str) (hL : ∀ l ∈ L, LineOk bs ws later l) (hk : J1 (L.map cdL) [] = some (O.reverse.map cd)) (hO : ∀ x ∈ O, x = "either" ∨ x = "again" ∨ x = "or") (hl : L.length + wt O ≤ bound) :
    ∃ L', (∀ l ∈ L', LineOk bs ws later l) ∧ Bal (L'.map cdL) ∧ L'.length ≤ bound ∧ dcn L' = dcn L ∧ Q8 t body 1000000 σ (g L O) = some (.nx σ (g L' [])) := by
  have key := XL (t := t) (body := body) (fun n σ' h => σ' = σ ∧ ∃ L1 O, dcn L1 = dcn L ∧ h = g L1 O ∧ n = wt O ∧ (∀ l ∈ L1, LineOk bs ws later l) ∧ J1 (L1.map cdL) [] = some (O.reverse.map cd) ∧ (∀ x ∈ O, x = "either" ∨ x = "again" ∨ x = "or") ∧ L1.length + wt O ≤ bound) (wt O) 1000000 σ (g L O) (by omega) ⟨rfl, L, O, rfl, rfl, rfl, hL, hk, hO, hl⟩ ?_
  · obtain ⟨σ', h', e, rfl, L', O', hdc, rfl, hw, h1, h2, h3, h4⟩ := key
    have : O' = [] := by
      cases O' with
      | nil => rfl
      | cons x r => have := Qcw (x :: r) (by simp); omega
    subst this
    exact ⟨L', h1, bal_iff.mpr h2, by omega, hdc, e⟩
  · rintro n σ' h ⟨rfl, L1, O, hdc, rfl, rfl, h1, h2, h3, h4⟩
    by_cases hne : O = []
    · subst hne
      exact .inl ⟨by rw [ht]; rfl, rfl⟩
    · refine .inr ⟨by rw [ht, decide_eq_true (List.length_pos_iff.mpr hne)], ?_⟩
      obtain ⟨r, x, rfl⟩ := Qbq O hne
      rw [JI] at h2
      rw [VH] at h4 ⊢
      by_cases hx : x = "either"
      · subst hx
        rw [if_pos rfl] at h4 ⊢
        refine ⟨wt (r ++ [("or" : Str)]), σ', g (L1 ++ [orL]) (r ++ [("or" : Str)]), ?_, .inl ?_, rfl, _, _, (Z5 (by decide)).trans hdc, rfl, rfl, QY h1 WN, ?_, WG h3 (by simp), ?_⟩
        · rw [VH, if_neg (by decide)]; omega
        · refine hb _ _ .non _ ?_
          rw [Qaq (L := L1) (O := r) (by omega) hij (gi _ _) (gj _ _), gs]
        · rw [Za, JI]
          exact ZM h2 rfl
        · rw [VH, if_neg (by decide)]; simp; omega
      · rw [if_neg hx] at h4 ⊢
        refine ⟨wt r, σ', g (L1 ++ [Qeu]) r, by omega, .inl ?_, rfl, _, _, (Z5 (by decide)).trans hdc, rfl, rfl, QY h1 KQ, ?_, fun y hy => h3 y (List.mem_append_left _ hy), ?_⟩
        · refine hb _ _ .non _ ?_
          rw [Gu (L := L1) (O := r) hx (by omega) hij (gi _ _) (gj _ _), gs]
        · rw [Za]
          refine ZM h2 ?_
          show kst (cd "end") _ = _
          rw [YR]
          exact Gs (opk (h3 x (by simp)) hx)
        · simp; omega
theorem Wz (f : Fd) (size : Nat) (bs ws later : List Str) (op ds : Int) (hds : 0 ≤ ds) (hs : size ≤ 100) (hb : 0 < bs.length) (hb2 : bs.length ≤ 5) (hw : 0 < ws.length) (hw2 : ws.length ≤ 5) (hla : later.length ≤ 5) :
    ∃ (ls : List Ln) (f' : Fd), Bal (ls.map cdL) ∧ (∀ l ∈ ls, LineOk bs ws later l) ∧ ls.length ≤ 3 * size ∧ (dcn ls : Int) ≤ ds ∧ ∀ (h : MH) (n : Nat), h[n]? = some (Qw f) → QT [.ref n, .int size, .tup [Zo bs, Zo ws], Zo later, .int op, .int ds] h = some (.tup (ls.map QG), h.set n (Qw f')) := by
  have loop := Jy (items := QO 0 size) (b := J5 8) (body := Z9) (PI bs ws later size ds) (QO 0 size) 0 [some (.ref 0), some (.int size), some (.tup [Zo bs, Zo ws]), some (Zo later), some (.int op), some (.int ds), some (.ref 1), some (.ref 2), none, none] [Qw f, .lst [], .lst []]
    ⟨f, [], [], op, ds, none, none, rfl, rfl, by simp, rfl, by simp, rfl, Nat.le_refl _, by simp [dcn], hds⟩ (fun j w hj σ h H => Qat hb hb2 hw hw2 hla (by have := (List.getElem?_eq_some_iff.mp hj).1; rw [Q3] at this; omega) H)
  obtain ⟨σ', h', e1, H⟩ := loop
  obtain ⟨f1, L, O, op1, ds1, kk, ww, rfl, rfl, hL, hk, hO, hl, hol, hdc, hd0⟩ := H.ex
  rw [Q3, Nat.zero_add] at hl hol
  have cl := QaP (bs := bs) (ws := ws) (later := later) (i := 1) (j := 2) (t := QD (Qo wGt (mFn JO (Qc (Qh 7) Ql)) (mC (.int 0)))) (body := VC) (σ := [some (.ref 0), some (.int size), some (.tup [Zo bs, Zo ws]), some (Zo later), some (.int op1), some (.int ds1), some (.ref 1), some (.ref 2), kk, ww])
    (fun L O => [Qw f1, .lst (L.map QG), .lst (O.map .str)]) (3 * size) (by decide) (by omega) (fun _ _ => rfl) (fun _ _ => rfl) (fun _ _ _ _ => rfl) (fun L O => by simp) (fun L O w h e => by simp [e]) L O hL hk hO (by have := QdK O; omega)
  obtain ⟨L', h1, h2, h3, hd1, e2⟩ := cl
  refine ⟨L', f1, h2, h1, h3, by rw [hd1]; omega, fun h n hn => ?_⟩
  refine Z1 (o := Qw f) (g := [.lst (L'.map QG), .lst []]) (by simp) hn (by simp [Qw]) ?_ (by simp) ⟨_, rfl, by simp⟩
  have er : Yu (Qc (Qh 1) Ql) [some (.ref 0), some (.int size), some (.tup [Zo bs, Zo ws]), some (Zo later), some (.int op), some (.int ds), some (.ref 1), some (.ref 2), none, none] [Qw f, .lst [], .lst []] = some (QO 0 size, none, [Qw f, .lst [], .lst []]) := Vq (by simp) (by omega)
  simp [Va, Zf, VQ, er, e1, e2]
end My

namespace My
open PySem PySem.Spec PyProof.Rows L2 Mi My3 My4
noncomputable abbrev Qcm (i : Nat) : Nat := if i = 0 then 23 else 1
structure GoodP (N : Nat) (bs ws : List Str) (p : List Pt) : Prop where
  ne : p ≠ []
  len : p.length ≤ 5
  bal : ∀ x ∈ p, Bal (x.2.map cdL)
  sz : ∀ x ∈ p, x.2.length ≤ N
  ok : ∀ (i : Nat) (x : Pt), p[i]? = some x → ∀ l ∈ x.2, LineOk bs ws ((p.map (·.1)).drop (i + 1)) l
  nd : (p.map (·.1)).Nodup
  dos : ∀ (i : Nat) (x : Pt), p[i]? = some x → dcn x.2 ≤ Qcm i
theorem Qa2 {α : Type} (xs : List α) (k : Nat) : Gh xs (some (k : Int)) none = xs.drop k := by
  unfold Gh
  rw [HT.sIx_nat, HT.sIx_none]
  by_cases h : k ≤ xs.length
  · rw [Nat.min_eq_left h, List.take_of_length_le (by simp)]
  · rw [Nat.min_eq_right (by omega), List.drop_eq_nil_of_le (Nat.le_refl _), List.drop_eq_nil_of_le (by omega)]; simp
theorem Qco {ns : List Str} {k : Nat} {i : Int} {h : MH} (hk : i = k) : wSl (Zo ns) (some i) none h = some (Zo (ns.drop k), h) := by
  subst hk
  unfold Zo
  simp [Qa2, List.map_drop]
@[simp] theorem Qht {ns : List Str} {h : MH} : wSl (Zo ns) (some 1) none h = some (Zo (ns.drop 1), h) := Qco (k := 1) rfl
theorem QaW {i : Int} (h : 0 ≤ i) : ∃ n : Nat, i = n := ⟨i.toNat, by omega⟩
theorem QbL {ms : MA} {σ : MSt} {h h' : MH} {j : Nat} (e : ms σ h = some ([.int 1, .int j], h')) (hj : j < 100000000) : Qb9 ms σ h = some (QO 1 (j - 1), none, h') := by
  unfold Qb9
  rw [e, Option.bind_some]
  refine (if_pos ⟨by omega, by omega, by omega, by omega⟩).trans ?_
  rw [show ((j : Int) - 1).toNat = j - 1 by omega]
structure PP (N : Nat) (bs ws names : List Str) (k : Nat) (p : List Pt) : Prop where
  nm : p.map (·.1) = names.take k
  bal : ∀ x ∈ p, Bal (x.2.map cdL)
  sz : ∀ x ∈ p, x.2.length ≤ N
  ok : ∀ (i : Nat) (x : Pt), p[i]? = some x → ∀ l ∈ x.2, LineOk bs ws (names.drop (i + 1)) l
  dos : ∀ (i : Nat) (x : Pt), p[i]? = some x → dcn x.2 ≤ Qcm i
theorem PP.snoc {N : Nat} {bs ws names : List Str} {k : Nat} {p : List Pt} {nm : Str} {ls : List Ln} (H : PP N bs ws names k p) (hk : names[k]? = some nm) (hb : Bal (ls.map cdL)) (hs : ls.length ≤ N) (ho : ∀ l ∈ ls, LineOk bs ws (names.drop (k + 1)) l) (hd : dcn ls ≤ Qcm k) : PP N bs ws names (k + 1) (p ++ [(nm, ls)]) := by
  have hlt := (List.getElem?_eq_some_iff.mp hk).1
  have hpl : p.length = k := by have := congrArg List.length H.nm; simp at this; omega
  refine ⟨?_, QY H.bal hb, QY H.sz hs, fun i x hx => ?_, fun i x hx => ?_⟩
  · rw [List.map_append, H.nm, List.take_succ_eq_append_getElem hlt]
    rw [List.getElem?_eq_getElem hlt] at hk
    cases hk; rfl
  · by_cases hi : i < p.length
    · rw [List.getElem?_append_left hi] at hx
      exact H.ok i x hx
    · have : i = p.length := by have := (List.getElem?_eq_some_iff.mp hx).1; simp at this; omega
      subst this
      simp at hx
      subst hx
      rw [hpl]; exact ho
  · by_cases hi : i < p.length
    · rw [List.getElem?_append_left hi] at hx
      exact H.dos i x hx
    · have : i = p.length := by have := (List.getElem?_eq_some_iff.mp hx).1; simp at this; omega
      subst this
      simp at hx
      subst hx
      rw [hpl]; exact hd
theorem PP.good {N : Nat} {bs ws names : List Str} {p : List Pt} (H : PP N bs ws names names.length p) (hn : names ≠ []) (hl : names.length ≤ 5) (hnd : names.Nodup) : GoodP N bs ws p := by
  have hm : p.map (·.1) = names := by rw [H.nm, List.take_length]
  have hpl : p.length = names.length := by rw [← hm]; simp
  refine ⟨fun z => hn (by rw [← hm, z]; rfl), by omega, H.bal, H.sz, ?_, by rw [hm]; exact hnd, H.dos⟩
  rw [hm]; exact H.ok
theorem U8 (f : Fd) (b0 b1 b2 b3 : Nat) (h0 : 1 ≤ b0 ∧ b0 ≤ 5) (h1 : 1 ≤ b1 ∧ b1 ≤ 5) (h2 : 1 ≤ b2 ∧ b2 ≤ 5) (h3 : 3 ≤ b3 ∧ b3 ≤ 48) :
    ∃ (bs ws : List Str) (p : List Pt) (f' : Fd), (0 < bs.length ∧ bs.length ≤ 5) ∧ (0 < ws.length ∧ ws.length ≤ 5) ∧ GoodP 300 bs ws p ∧ ∀ (h : MH) (n : Nat), h[n]? = some (Qw f) → Zb [.ref n, .lst [.int b0, .int b1, .int b2, .int b3]] h = some (ZI p, h.set n (Qw f')) := by
  have q0 : (0 : Int) < b0 := by omega
  have q0' : (b0 : Int) < 1000000 := by omega
  have q1 : (0 : Int) < b1 := by omega
  have q1' : (b1 : Int) < 1000000 := by omega
  have q2 : (0 : Int) < b2 := by omega
  have q2' : (b2 : Int) < 1000000 := by omega
  obtain ⟨a0, a1⟩ := Xm (f := f) q0
  obtain ⟨n0, e0⟩ := QaW a0
  obtain ⟨bs, f1, lb, _, eb⟩ := Vs (tf f b0) (1 + n0) (by omega)
  obtain ⟨c0, c1⟩ := Xm (f := f1) q1
  obtain ⟨n1, e1⟩ := QaW c0
  obtain ⟨ws, f2, lw, _, ew⟩ := Vs (tf f1 b1) (1 + n1) (by omega)
  obtain ⟨d0, d1⟩ := Xm (f := f2) q2
  obtain ⟨n2, e2⟩ := QaW d0
  obtain ⟨names, f3, ln, hnd, en⟩ := Vs (tf f2 b2) (1 + n2) (by omega)
  obtain ⟨g0, g1⟩ := Xm (f := f3) (m := 3) (by decide)
  have hb : 0 < bs.length ∧ bs.length ≤ 5 := by omega
  have hw : 0 < ws.length ∧ ws.length ≤ 5 := by omega
  -- the size
  obtain ⟨size, f4, hs, es⟩ : ∃ (size : Nat) (f4 : Fd), size ≤ 60 ∧ (if tk (tf f3 3) 4 = 0 then @om _ _ (fun p => MF.nx [some (.ref 0), some (.lst [.int b0, .int b1, .int b2, .int b3]), some (.tup [Zo bs, Zo ws]), some (Zo names), some p.fst, none, none] p.snd) (Qg [.ref 0, .int (b3 - tk f3 3 + 1)] [Qw (tf (tf f3 3) 4)])
      else some (MF.nx [some (.ref 0), some (.lst [.int b0, .int b1, .int b2, .int b3]), some (.tup [Zo bs, Zo ws]), some (Zo names), some (.int (b3 - tk f3 3)), none, none] [Qw (tf (tf f3 3) 4)])) = some (.nx [some (.ref 0), some (.lst [.int b0, .int b1, .int b2, .int b3]), some (.tup [Zo bs, Zo ws]), some (Zo names), some (.int size), none, none] [Qw f4]) := by
    by_cases z : tk (tf f3 3) 4 = 0
    · have r1 : (0 : Int) < b3 - tk f3 3 + 1 := by omega
      have r2 : (b3 : Int) - tk f3 3 + 1 < 1000000 := by omega
      obtain ⟨k0, k1⟩ := Xm (f := tf (tf f3 3) 4) r1
      obtain ⟨sz, ez⟩ := QaW k0
      exact ⟨sz, tf (tf (tf f3 3) 4) (b3 - tk f3 3 + 1), by omega, by simp [z, J6 r1 r2, ez]⟩
    · obtain ⟨sz, ez⟩ := QaW (i := b3 - tk f3 3) (by omega)
      exact ⟨sz, tf (tf f3 3) 4, by omega, by simp [z, ez]⟩
  obtain ⟨l0, f5, p1, p2, p3, p4, ep⟩ := Wz f4 size bs ws (names.drop 1) 2 2 (by omega) (by omega) hb.1 hb.2 hw.1 hw.2 (by simp; omega)
  obtain ⟨nm0, hn0⟩ : ∃ x, names[0]? = some x := ⟨names[0]'(by omega), List.getElem?_eq_getElem (by omega)⟩
  have loop := Jy (items := QO 1 (names.length - 1)) (b := J5 6) (body := JW) (fun n σ h => ∃ (f : Fd) (p : List Pt) (kk : Option W), σ = [some (.ref 0), some (.lst [.int b0, .int b1, .int b2, .int b3]), some (.tup [Zo bs, Zo ws]), some (Zo names), some (.int size), some (.ref 1), kk] ∧ h = [Qw f, .lst (p.map JN)] ∧ PP 300 bs ws names (n + 1) p)
    (QO 1 (names.length - 1)) 0 [some (.ref 0), some (.lst [.int b0, .int b1, .int b2, .int b3]), some (.tup [Zo bs, Zo ws]), some (Zo names), some (.int size), some (.ref 1), none] [Qw f5, .lst [JN (nm0, l0)]]
    ⟨f5, [(nm0, l0)], none, rfl, rfl, PP.snoc (p := []) ⟨rfl, by simp, by simp, by simp, by simp⟩ hn0 p1 (by omega) p2 (by show _ ≤ 23; omega)⟩ (by
      rintro j w hj σ h ⟨f, p, kk, rfl, rfl, H⟩
      have hjl := (List.getElem?_eq_some_iff.mp hj).1
      rw [Q3] at hjl
      obtain rfl : w = .int ((j : Int) + 1) := by rw [(V3 hj).2, Int.add_comm]
      refine ⟨_, rfl, ?_⟩
      obtain ⟨t0, t1⟩ := Xm (f := f) (m := 4) (by decide)
      obtain ⟨m, em⟩ := QaW t0
      obtain ⟨ls, f', r1, r2, r3, r4, er⟩ := Wz (tf f 4) m bs ws (names.drop (j + 2)) 1 1 (by omega) (by omega) hb.1 hb.2 hw.1 hw.2 (by simp; omega)
      obtain ⟨nm, hnm⟩ : ∃ x, names[j + 1]? = some x := ⟨names[j + 1]'(by omega), List.getElem?_eq_getElem (by omega)⟩
      refine ⟨[some (.ref 0), some (.lst [.int b0, .int b1, .int b2, .int b3]), some (.tup [Zo bs, Zo ws]), some (Zo names), some (.int size), some (.ref 1), some (.int ((j : Int) + 1))], [Qw f', .lst ((p ++ [(nm, ls)]).map JN)], .inl ?_, f', _, _, rfl, rfl, ?_⟩
      · have ea : atI (names.map W.str) ((j : Int) + 1) = some (.str nm) := by rw [show (j : Int) + 1 = ((j + 1 : Nat) : Int) by omega, ZK, List.getElem?_map, hnm]; rfl
        have esl : ∀ h, wSl (Zo names) (some ((j : Int) + 1 + 1)) none h = some (Zo (names.drop (j + 2)), h) := fun h => Qco (by omega)
        have hpl : p.length < sizeLine := by have := congrArg List.length H.nm; simp at this; exact VT (by omega)
        simp [ea, esl, em, er, hpl, JN]
      · rw [Nat.zero_add] at H ⊢
        exact H.snoc hnm r1 (by omega) r2 (by rw [Qcm, if_neg (by omega)]; omega))
  obtain ⟨σ', h', el, f6, p, kk, rfl, rfl, H⟩ := loop
  rw [Q3, Nat.zero_add, show names.length - 1 + 1 = names.length by omega] at H
  refine ⟨bs, ws, p, f6, hb, hw, H.good (by intro z; rw [z] at ln; simp at ln; omega) (by omega) hnd, fun h n hn => ?_⟩
  refine Z1 (o := Qw f) (g := [.lst (p.map JN)]) (by simp) hn (by simp [Qw]) ?_ (by simp) ⟨_, rfl, by simp⟩
  have er : Qb9 (Qc (mC (.int 1)) (Qc (mFn JO (Qc (Qh 3) Ql)) Ql)) [some (.ref 0), some (.lst [.int b0, .int b1, .int b2, .int b3]), some (.tup [Zo bs, Zo ws]), some (Zo names), some (.int size), some (.ref 1), none] [Qw f5, .lst [JN (nm0, l0)]] = some (QO 1 (names.length - 1), none, [Qw f5, .lst [JN (nm0, l0)]]) := QbL (by simp) (by omega)
  have ea : atI (names.map W.str) 0 = some (.str nm0) := by rw [Qjw, List.getElem?_map, hn0]; rfl
  push_cast at eb ew en
  rw [List.drop_one] at ep
  have en0 : JN (nm0, l0) = .tup [.str nm0, .tup (l0.map QG)] := rfl
  rw [en0] at er el
  simp [Jm, Zf, VQ, J6 q0 q0', J6 q1 q1', J6 q2 q2', e0, e1, e2, eb, ew, en, es, ea, ep, er, el, ZI]
end My

namespace My
open PySem PySem.Spec PyProof.Rows L2 Mi My3 My4
@[simp] theorem Qh0 {xs ys : List W} {h : MH} : Vy (.lst xs) (.lst ys) h = if xs.length + ys.length ≤ sizeLine then some (.lst (xs ++ ys), h) else none := id rfl
theorem GY : ∀ {ls : List Cd} {s : List Cd}, (∀ c ∈ ls, c = .ot) → J1 ls s = some s
  | [], _, _ => rfl
  | c :: ls, s, h => by
    rw [h c List.mem_cons_self]
    show J1 ls s = some s
    exact GY fun c hc => h c (List.mem_cons_of_mem _ hc)
theorem QcE {ls : List Ln} (h : ∀ l ∈ ls, cdL l = .ot) : Bal (ls.map cdL) := bal_iff.mpr (GY fun c hc => by obtain ⟨l, hl, rfl⟩ := List.mem_map.mp hc; exact h l hl)
theorem QjJ : ∀ {ns : List Str}, ns.length = 5 → ∃ a b c d e : Str, ns = [a, b, c, d, e]
  | [a, b, c, d, e], _ => ⟨a, b, c, d, e, rfl⟩
noncomputable abbrev gS (bs ws ns : List Str) (x3 x4 x5 x6 x7 x8 : Option W) : MSt := [some (.ref 0), some (.tup [Zo bs, Zo ws]), some (Zo ns), x3, x4, x5, x6, x7, x8]
theorem Qfh (f : Fd) (bs ws : List Str) (hb : 0 < bs.length ∧ bs.length ≤ 5) (hw : 0 < ws.length ∧ ws.length ≤ 5) (σ : MSt) (hσ : ∃ o, QbG [none, some 0, some 1] σ = [o, some (.ref 0), some (.tup [Zo bs, Zo ws])]) (mi : MI) (m : Nat) (hm : m ≤ 100) (g : Fd) (hmi : mi σ [Qw f] = some (QO 0 m, none, [Qw g])) :
    ∃ (ls : List Ln) (f' : Fd), (∀ l ∈ ls, PlainL bs ws l) ∧ ls.length = m ∧ JU Qgq mi [none, some 0, some 1] (J5 0) WJ (Qr 3 QE (Qc (Qh 1) (Qc (Qo wIx (Qh 2) (mC (.int 0))) (Qc (Qo wIx (Qh 2) (mC (.int 1))) Ql)))) σ [Qw f] = some (.ref 1, [Qw f', .lst (ls.map QG)]) := by
  obtain ⟨o, ho⟩ := hσ
  have key := Yq (items := QO 0 m) (b := J5 0) (me := Qr 3 QE (Qc (Qh 1) (Qc (Qo wIx (Qh 2) (mC (.int 0))) (Qc (Qo wIx (Qh 2) (mC (.int 1))) Ql)))) (fin := Qgq)
    (fun (acc : List Ln) τ h => ∃ f o, τ = [o, some (.ref 0), some (.tup [Zo bs, Zo ws])] ∧ h = [Qw f] ∧ ∀ l ∈ acc, PlainL bs ws l) QG (QO 0 m) [] [o, some (.ref 0), some (.tup [Zo bs, Zo ws])] [Qw g] ⟨g, o, rfl, rfl, by simp⟩ (by simp [Q3]; exact Xq (by omega)) (by
      rintro w hw' acc τ h ⟨f, o, rfl, rfl, ha⟩
      obtain ⟨l, f', hp, ep⟩ := XF f bs ws hb.1 hb.2 hw.1 hw.2
      exact ⟨_, l, [Qw f'], rfl, by simp [ep], f', _, rfl, rfl, QY ha hp⟩)
  obtain ⟨ls, τ', h', e, ⟨f', o', rfl, rfl, hl⟩, hlen⟩ := key
  refine ⟨ls, f', hl, by simpa [Q3] using hlen, ?_⟩
  unfold JU
  rw [hmi, Option.bind_some]
  simp only [ho]
  exact e
structure GI (bs ws ns : List Str) (n : Nat) (σ : MSt) (h : MH) : Prop where
  ex : ∃ (f : Fd) (L : List Ln) (O : List Str) (x3 x5 x6 x8 : Option W), σ = gS bs ws ns x3 (some (.ref 1)) x5 x6 (some (.ref 2)) x8 ∧ h = [Qw f, .lst (L.map QG), .lst (O.map .str)] ∧
    (∀ l ∈ L, LineOk bs ws (ns.drop 1) l) ∧ J1 (L.map cdL) [] = some (O.reverse.map cd) ∧ (∀ x ∈ O, x = "either" ∨ x = "again" ∨ x = "or") ∧ L.length = 2 * n ∧ O.length = n ∧ dcn L = 0
theorem U2 {bs ws ns : List Str} {n : Nat} {σ : MSt} {h : MH} {k : W} (hb : 0 < bs.length ∧ bs.length ≤ 5) (hw : 0 < ws.length ∧ ws.length ≤ 5) (hn : n ≤ 10) (H : GI bs ws ns n σ h) :
    ∃ σ1, J5 8 k σ h = some σ1 ∧ ∃ σ2 h2, (ZR σ1 h = some (.nx σ2 h2) ∨ ZR σ1 h = some (.ct σ2 h2)) ∧ GI bs ws ns (n + 1) σ2 h2 := by
  obtain ⟨f, L, O, x3, x5, x6, x8, rfl, rfl, hL, hk, hO, hl, hol, hdc⟩ := H.ex
  refine ⟨_, rfl, ?_⟩
  obtain ⟨l, f1, hp, ep⟩ := XF f bs ws hb.1 hb.2 hw.1 hw.2
  obtain ⟨a0, a1⟩ := Xm (f := f1) (m := 2) (by decide)
  obtain ⟨x, _, hx, ex⟩ := UW (xs := ([("either" : Str), "again"])) (f := W.str) (P := fun x => x = "either" ∨ x = "again") a0 (by show tk f1 2 < 2; omega) (by simp)
  simp at ex
  have s1 : L.length < sizeLine := VT (by omega)
  have s2 : L.length + 1 < sizeLine := VT (by omega)
  have s3 : O.length < sizeLine := VT (by omega)
  refine ⟨gS bs ws ns x3 (some (.ref 1)) x5 x6 (some (.ref 2)) (some k), [Qw (tf f1 2), .lst ((L ++ [l] ++ [[x]]).map QG), .lst ((O ++ [x]).map .str)], .inl ?_, ⟨_, _, _, _, _, _, _, rfl, rfl, ?_, ?_, ?_, ?_, ?_, ?_⟩⟩
  · simp [ep, ex, s1, s2, s3, QG]
  · exact QY (QY hL (.plain hp)) (.blk (by rcases hx with rfl | rfl <;> simp))
  · rw [Za, Za, JI]
    refine ZM (ZM hk (by rw [XJ hp]; rfl)) ?_
    rcases hx with rfl | rfl
    · rfl
    · show kst (cd "again") _ = _
      rw [V8]; rfl
  · exact QY hO (by rcases hx with z | z <;> simp [z])
  · simp [hl]; omega
  · simp [hol]
  · rw [Z5 (by rcases hx with rfl | rfl <;> decide), Z5 (V1 hp)]; exact hdc
theorem WY {bs ws ns : List Str} {σ : MSt} {h : MH} (hb : 0 < bs.length ∧ bs.length ≤ 5) (hw : 0 < ws.length ∧ ws.length ≤ 5) (H : GI bs ws ns 6 σ h) : ∃ (f : Fd) (L : List Ln) (x3 x5 x6 x8 : Option W), (∀ l ∈ L, LineOk bs ws (ns.drop 1) l) ∧ Bal (L.map cdL) ∧ L.length ≤ 100 ∧ dcn L = 0 ∧
    Q8 (QD (Qo wGt (mFn JO (Qc (Qh 7) Ql)) (mC (.int 0)))) JD 1000000 σ h = some (.nx (gS bs ws ns x3 (some (.ref 1)) x5 x6 (some (.ref 2)) x8) [Qw f, .lst (L.map QG), .lst []]) := by
  obtain ⟨f, L, O, x3, x5, x6, x8, rfl, rfl, hL, hk, hO, hl, hol, hdc⟩ := H.ex
  have key := XL (t := QD (Qo wGt (mFn JO (Qc (Qh 7) Ql)) (mC (.int 0)))) (body := JD) (fun n σ' h => σ' = gS bs ws ns x3 (some (.ref 1)) x5 x6 (some (.ref 2)) x8 ∧ ∃ f L O, dcn L = 0 ∧ h = [Qw f, .lst (L.map QG), .lst (O.map .str)] ∧ n = wt O ∧ (∀ l ∈ L, LineOk bs ws (ns.drop 1) l) ∧ J1 (L.map cdL) [] = some (O.reverse.map cd) ∧ (∀ x ∈ O, x = "either" ∨ x = "again" ∨ x = "or") ∧ L.length + 2 * wt O ≤ 40) (wt O) 1000000 _ _ (by have := QdK O; omega) ⟨rfl, f, L, O, hdc, rfl, rfl, hL, hk, hO, by have := QdK O; omega⟩ ?_
  · obtain ⟨σ', h', e, rfl, f', L', O', hdc', rfl, hw, h1, h2, h3, h4⟩ := key
    have : O' = [] := by
      cases O' with
      | nil => rfl
      | cons x r => have := Qcw (x :: r) (by simp); omega
    subst this
    exact ⟨f', L', x3, x5, x6, x8, h1, bal_iff.mpr h2, by omega, hdc', e⟩
  · rintro n σ' h ⟨rfl, f, L, O, hdc', rfl, rfl, h1, h2, h3, h4⟩
    by_cases hne : O = []
    · subst hne
      exact .inl ⟨by simp, rfl⟩
    · refine .inr ⟨by simp; exact List.length_pos_iff.mpr hne, ?_⟩
      obtain ⟨l, f1, hp, ep⟩ := XF f bs ws hb.1 hb.2 hw.1 hw.2
      obtain ⟨r, x, rfl⟩ := Qbq O hne
      rw [JI] at h2
      rw [VH] at h4 ⊢
      have h2' : J1 ((L ++ [l]).map cdL) [] = some (cd x :: r.reverse.map cd) := by
        rw [Za]
        exact ZM h2 (by rw [XJ hp]; rfl)
      have s1 : L.length < sizeLine := VT (by omega)
      by_cases hx : x = "either"
      · subst hx
        rw [if_pos rfl] at h4 ⊢
        have es := Qaq (L := L ++ [l]) (O := r) (h := [Qw f1, .lst ((L ++ [l]).map QG), .lst ((r ++ [("either" : Str)]).map .str)]) (i := 1) (j := 2) (by simp; omega) (by decide) rfl rfl
        refine ⟨wt (r ++ [("or" : Str)]), _, [Qw f1, .lst ((L ++ [l] ++ [orL]).map QG), .lst ((r ++ [("or" : Str)]).map .str)], ?_, .inl ?_, rfl, _, _, _, ((Z5 (by decide)).trans (Z5 (V1 hp))).trans hdc', rfl, rfl, QY (QY h1 (.plain hp)) WN, ?_, WG h3 (by simp), ?_⟩
        · rw [VH, if_neg (by decide)]; omega
        · simp at es
          simp [ep, s1, es]
        · rw [Za, JI]
          exact ZM h2' rfl
        · rw [VH, if_neg (by decide)]; simp; omega
      · rw [if_neg hx] at h4 ⊢
        have es := Gu (L := L ++ [l]) (O := r) (x := x) (h := [Qw f1, .lst ((L ++ [l]).map QG), .lst ((r ++ [x]).map .str)]) (i := 1) (j := 2) hx (by simp; omega) (by decide) rfl rfl
        refine ⟨wt r, _, [Qw f1, .lst ((L ++ [l] ++ [Qeu]).map QG), .lst (r.map .str)], by omega, .inl ?_, rfl, _, _, _, ((Z5 (by decide)).trans (Z5 (V1 hp))).trans hdc', rfl, rfl, QY (QY h1 (.plain hp)) KQ, ?_, fun y hy => h3 y (List.mem_append_left _ hy), ?_⟩
        · simp at es
          simp [ep, s1, es]
        · rw [Za]
          refine ZM h2' ?_
          show kst (cd "end") _ = _
          rw [YR]
          exact Gs (opk (h3 x (by simp)) hx)
        · simp; omega
theorem Qb8 {bs ws : List Str} {nm : Str} {ls : List Ln} (hb : Bal (ls.map cdL)) (hs : ls.length ≤ 300) (ho : ∀ l ∈ ls, LineOk bs ws [] l) (hd : dcn ls = 0) : GoodP 300 bs ws [(nm, ls)] := by
  refine ⟨by simp, by simp, by simpa using hb, by simpa using hs, fun i x hx => ?_, by simp, fun i x hx => ?_⟩
  · cases i with
    | zero => simp at hx; subst hx; simpa using ho
    | succ i => simp at hx
  · cases i with
    | zero => simp at hx; subst hx; show dcn ls ≤ _; omega
    | succ i => simp at hx
theorem Qbw (f : Fd) : ∃ (bs ws : List Str) (p : List Pt) (f' : Fd), (0 < bs.length ∧ bs.length ≤ 5) ∧ (0 < ws.length ∧ ws.length ≤ 5) ∧ GoodP 300 bs ws p ∧ ∀ (h : MH) (n : Nat), h[n]? = some (Qw f) → ZD [.ref n] h = some (ZI p, h.set n (Qw f')) := by
  obtain ⟨bs, f1, lb, _, eb⟩ := Vs f 5 (by omega)
  obtain ⟨ws, f2, lw, _, ew⟩ := Vs f1 5 (by omega)
  obtain ⟨ns, f3, ln, hnd, en⟩ := Vs f2 5 (by omega)
  obtain ⟨a, b, c, d, e, rfl⟩ := QjJ ln
  have hb : 0 < bs.length ∧ bs.length ≤ 5 := by omega
  have hw : 0 < ws.length ∧ ws.length ≤ 5 := by omega
  simp at eb ew en
  obtain ⟨w0, w1⟩ := Xm (f := f3) (m := 3) (by decide)
  have pg : Jb [.ref 0] [Qw f] = Qew (ZX (gS bs ws [a, b, c, d, e] (some (.int (tk f3 3))) none none none none none) [Qw (tf f3 3)]) := by simp [Jb, Zf, eb, ew, en]
  by_cases hz : tk f3 3 = 0
  · obtain ⟨m0, m1⟩ := Xm (f := tf f3 3) (m := 9) (by decide)
    obtain ⟨m, em⟩ := QaW m0
    obtain ⟨ls, f', hp, hl, ec⟩ := Qfh (tf f3 3) bs ws hb hw (gS bs ws [a, b, c, d, e] (some (.int 0)) none none none none none) ⟨none, rfl⟩ (Yu (Qc (Qo Vy (mC (.int 40)) (Qr 2 Qg (Qc (Qh 0) (Qc (mC (.int 9)) Ql)))) Ql)) (40 + m) (by omega) (tf (tf f3 3) 9) (Vq (j := 40 + m) (by simp [em]) (by omega))
    refine ⟨bs, ws, [(a, ls)], f', hb, hw, Qb8 (QcE fun l hl => XJ (hp l hl)) (by omega) (fun l hl => .plain (hp l hl)) (by unfold dcn; rw [List.countP_eq_zero]; intro l hl; rw [V1 (hp l hl)]; simp), fun h n hn => ?_⟩
    refine Z1 (o := Qw f) (g := [.lst (ls.map QG)]) (by simp) hn (by simp [Qw]) ?_ (by simp) ⟨_, rfl, by simp⟩
    rw [pg]
    simp [ZX, hz, ec, ZI, JN]
  · by_cases ho : tk f3 3 = 1
    · obtain ⟨m0, m1⟩ := Xm (f := tf f3 3) (m := 2) (by decide)
      obtain ⟨m, em⟩ := QaW m0
      obtain ⟨ls, f4, r1, r2, r3, r4, er⟩ := Wz (tf (tf f3 3) 2) m bs ws [] 0 0 (by omega) (by omega) hb.1 hb.2 hw.1 hw.2 (by simp)
      obtain ⟨k0, k1⟩ := Xm (f := f4) (m := 4) (by decide)
      obtain ⟨k, ek⟩ := QaW k0
      refine ⟨bs, ws, [(a, List.replicate (20 + k) (["do", b] : Ln)), (b, ls)], tf f4 4, hb, hw, ⟨by simp, by simp, ?_, ?_, ?_, ?_, ?_⟩, fun h n hn => ?_⟩
      · intro x hx
        simp at hx
        rcases hx with rfl | rfl
        · exact QcE fun l hl => by rw [(List.mem_replicate.mp hl).2]; show cd "do" = .ot; decide
        · exact r1
      · intro x hx
        simp at hx
        rcases hx with rfl | rfl
        · simp; omega
        · show ls.length ≤ 300; omega
      · intro i x hx
        match i, hx with
        | 0, hx =>
          simp at hx; subst hx
          intro l hl
          rw [(List.mem_replicate.mp hl).2]
          exact .do (by simp)
        | 1, hx => simp at hx; subst hx; simpa using r2
      · simp at hnd ⊢
        exact hnd.1.1
      · intro i x hx
        match i, hx with
        | 0, hx =>
          simp at hx; subst hx
          have := List.countP_le_length (p := Vo) (l := List.replicate (20 + k) (["do", b] : Ln))
          rw [List.length_replicate] at this
          show List.countP Vo (List.replicate (20 + k) (["do", b] : Ln)) ≤ 23
          omega
        | 1, hx => simp at hx; subst hx; show dcn ls ≤ 1; omega
      · refine Z1 (o := Qw f) (g := []) (by simp) hn (by simp [Qw]) ?_ (by simp) ⟨_, rfl, by simp⟩
        have ec := VY (fin := Kx) (mi := Yu (Qc (Qh 6) Ql)) (cp := [none, some 2]) (me := mFn JF (Qc (mC (.str "do")) (Qc (Qo wIx (Qh 1) (mC (.int 1))) Ql))) (σ := gS bs ws [a, b, c, d, e] (some (.int 1)) none (some (.tup (ls.map QG))) (some (.int (20 + k))) none none) (caps := [some (Zo [a, b, c, d, e])]) (h := [Qw (tf f4 4)]) (items := QO 0 (20 + k))
          (fun _ => QG ["do", b]) (Vq (j := 20 + k) (by simp) (by omega)) ⟨_, rfl⟩ (fun w hw => by simp [QG]) (by rw [Q3]; exact Xq (by omega))
        have er' : QT [.ref 0, .int m, .tup [Zo bs, Zo ws], .lst [], .int 0, .int 0] [Qw (tf (tf f3 3) 2)] = some (.tup (ls.map QG), [Qw f4]) := er _ 0 rfl
        have hconst : (QO 0 (20 + k)).map (fun _ => QG ["do", b]) = List.replicate (20 + k) (QG ["do", b]) := by rw [List.map_const', Q3]
        rw [hconst] at ec
        simp only [Kx] at ec
        rw [pg]
        simp [ZX, ho, em, er', ek, ec, ZI, JN]
    · have loop := Jy (items := QO 0 6) (b := J5 8) (body := ZR) (GI bs ws [a, b, c, d, e]) (QO 0 6) 0 (gS bs ws [a, b, c, d, e] (some (.int (tk f3 3))) (some (.ref 1)) none none (some (.ref 2)) none) [Qw (tf f3 3), .lst [], .lst []]
        ⟨_, [], [], _, _, _, _, rfl, rfl, by simp, rfl, by simp, rfl, rfl, rfl⟩ (fun j w hj σ h H => U2 hb hw (by have := (V3 hj).1; omega) H)
      obtain ⟨σ', h', e1, H⟩ := loop
      rw [Q3, Nat.zero_add] at H
      obtain ⟨f4, L, x3, x5, x6, x8, c1, c2, c3, c4, e2⟩ := WY hb hw H
      have hx : GoodP 300 bs ws [(a, L), (b, []), (c, []), (d, []), (e, [])] := by
        refine ⟨by simp, by simp, ?_, ?_, ?_, by simpa using hnd, ?_⟩
        · intro x hx
          simp at hx
          rcases hx with rfl | rfl | rfl | rfl | rfl
          · exact c2
          all_goals rfl
        · intro x hx
          simp at hx
          rcases hx with rfl | rfl | rfl | rfl | rfl <;> simp
          omega
        · intro i x hx
          match i, hx with
          | 0, hx => simp at hx; subst hx; simpa using c1
          | 1, hx => simp at hx; subst hx; simp
          | 2, hx => simp at hx; subst hx; simp
          | 3, hx => simp at hx; subst hx; simp
          | 4, hx => simp at hx; subst hx; simp
        · intro i x hx
          match i, hx with
          | 0, hx => simp at hx; subst hx; show dcn L ≤ _; omega
          | 1, hx => simp at hx; subst hx; simp [dcn]
          | 2, hx => simp at hx; subst hx; simp [dcn]
          | 3, hx => simp at hx; subst hx; simp [dcn]
          | 4, hx => simp at hx; subst hx; simp [dcn]
      refine ⟨bs, ws, _, f4, hb, hw, hx, fun h n hn => ?_⟩
      refine Z1 (o := Qw f) (g := [.lst (L.map QG), .lst []]) (by simp) hn (by simp [Qw]) ?_ (by simp) ⟨_, rfl, by simp⟩
      have ec := VY (fin := Kx) (mi := JX (mSl (Qh 2) (Ku (mC (.int 1))) Ko)) (cp := [none]) (me := mFn JF (Qc (Qh 0) (Qc (mFn JF Ql) Ql))) (σ := gS bs ws [a, b, c, d, e] x3 (some (.ref 1)) x5 x6 (some (.ref 2)) x8) (caps := []) (h := [Qw f4, .lst (L.map QG), .lst []]) (items := [.str b, .str c, .str d, .str e])
        (fun w => .tup [w, .tup []]) (by simp [JX]; rfl) ⟨_, rfl⟩ (fun w hw => by simp) (by simp)
      have er : Yu (Qc (mC (.int 6)) Ql) (gS bs ws [a, b, c, d, e] (some (.int (tk f3 3))) (some (.ref 1)) none none (some (.ref 2)) none) [Qw (tf f3 3), .lst [], .lst []] = some (QO 0 6, none, [Qw (tf f3 3), .lst [], .lst []]) := Vq (j := 6) rfl (by decide)
      simp only [Kx] at ec
      rw [pg]
      simp [ZX, VQ, ho, hz, er, e1, e2, ec, ZI, JN]
end My

namespace My
open PySem PySem.Spec PyProof.Rows L2 Mi My3 My4
noncomputable def QgJ (sem : List W → MH → Option (W × MH)) (f : Fd) (args : W → List W) : Prop := ∃ (bs ws : List Str) (p : List Pt) (f' : Fd), (0 < bs.length ∧ bs.length ≤ 5) ∧ (0 < ws.length ∧ ws.length ≤ 5) ∧ GoodP 300 bs ws p ∧ ∀ (h : MH) (n : Nat), h[n]? = some (Qw f) → sem (args (.ref n)) h = some (ZI p, h.set n (Qw f'))
theorem QeN (f : Fd) (b0 b1 b2 b3 : Nat) (h0 : 1 ≤ b0 ∧ b0 ≤ 5) (h1 : 1 ≤ b1 ∧ b1 ≤ 5) (h2 : 1 ≤ b2 ∧ b2 ≤ 5) (h3 : 3 ≤ b3 ∧ b3 ≤ 48) : QgJ JC f fun r => [r, .lst [.int b0, .int b1, .int b2, .int b3]] := by
  by_cases hz : tk f 8 = 5
  · obtain ⟨bs, ws, p, f', hb, hw, hg, e⟩ := Qbw (tf f 8)
    refine ⟨bs, ws, p, f', hb, hw, hg, fun h n hn => ?_⟩
    refine Z1 (o := Qw f) (g := []) (by simp) hn (by simp [Qw]) ?_ (by simp) ⟨_, rfl, by simp⟩
    simp [JG, Zf, hz, e]
  · obtain ⟨bs, ws, p, f', hb, hw, hg, e⟩ := U8 (tf f 8) b0 b1 b2 b3 h0 h1 h2 h3
    refine ⟨bs, ws, p, f', hb, hw, hg, fun h n hn => ?_⟩
    refine Z1 (o := Qw f) (g := []) (by simp) hn (by simp [Qw]) ?_ (by simp) ⟨_, rfl, by simp⟩
    simp [JG, Zf, hz, e]
noncomputable def pW : W → Bool
  | .tup (.str x :: _) => x == "pair"
  | _ => false
noncomputable def fW : W → W
  | .tup (_ :: _ :: z :: _) => z
  | _ => .non
theorem Jw {bs ws la : List Str} {l : Ln} (h : LineOk bs ws la l) : ∃ x r, l = x :: r := by
  cases h with
  | plain h => cases h <;> exact ⟨_, _, rfl⟩
  | «do» h => exact ⟨_, _, rfl⟩
  | blk h => exact ⟨_, _, rfl⟩
  | back h => exact ⟨_, _, rfl⟩
theorem We {bs ws la : List Str} {l : Ln} (h : LineOk bs ws la l) (hp : pW (QG l) = true) : ∃ x w y z : Str, l = (["pair", x, w, y, z] : Ln) ∧ w ∈ ws := by
  cases h with
  | plain h =>
    cases h with
    | pair hx hw hy hz => exact ⟨_, _, _, _, rfl, hw⟩
    | _ => simp [QG, pW] at hp
  | «do» h => simp [QG, pW] at hp
  | blk h => rcases h with rfl | rfl | rfl | rfl <;> simp [QG, pW] at hp
  | back h => simp [QG, pW] at hp
theorem KL {bs ws la : List Str} : ∀ {ls : List Ln}, (∀ l ∈ ls, LineOk bs ws la l) → ∃ W' : List Str, ((ls.map QG).filter pW).map fW = W'.map .str ∧ (∀ x ∈ W', x ∈ ws) ∧ W'.length ≤ ls.length
  | [], _ => ⟨[], rfl, by simp, Nat.le_refl _⟩
  | l :: ls, h => by
    obtain ⟨W', e, hw, hl⟩ := KL (ls := ls) fun x hx => h x (List.mem_cons_of_mem _ hx)
    by_cases hp : pW (QG l) = true
    · obtain ⟨x, w, y, z, rfl, hm⟩ := We (h l List.mem_cons_self) hp
      refine ⟨w :: W', ?_, ?_, by simp; omega⟩
      · rw [List.map_cons, List.filter_cons_of_pos hp, List.map_cons, e]; rfl
      · intro q hq
        rcases List.mem_cons.mp hq with rfl | hq
        · exact hm
        · exact hw q hq
    · refine ⟨W', ?_, hw, by simp; omega⟩
      rw [List.map_cons, List.filter_cons_of_neg hp, e]
theorem Gi {bs ws la : List Str} {p : List Pt} {x : Pt} {f : Fd} {Wd : List Str} {x3 x4 x5 x6 x7 : Option W} (hx : ∀ l ∈ x.2, LineOk bs ws la l) (hs : x.2.length ≤ 300) (hw : Wd.length ≤ 3000) : ∃ W' : List Str, (∀ y ∈ W', y ∈ ws) ∧ W'.length ≤ 300 ∧
    Z6 [some (ZI p), some (.ref 0), some (.ref 1), some (.str x.1), some (.tup (x.2.map QG)), x5, x6, x7] [Qw f, .lst (Wd.map .str)] = some (.nx [some (ZI p), some (.ref 0), some (.ref 1), some (.str x.1), some (.tup (x.2.map QG)), x5, x6, x7] [Qw f, .lst ((Wd ++ W').map .str)]) := by
  obtain ⟨W', e, h1, h2⟩ := KL hx
  refine ⟨W', h1, by omega, ?_⟩
  have ec := QaG (fin := Kx) (mi := JX (Qh 4)) (cp := [none]) (mt := QD (Qo wEq (Qo wIx (Qh 0) (mC (.int 0))) (mC (.str "pair")))) (me := Qo wIx (Qh 0) (mC (.int 2))) (σ := [some (ZI p), some (.ref 0), some (.ref 1), some (.str x.1), some (.tup (x.2.map QG)), x5, x6, x7]) (caps := []) (h := [Qw f, .lst (Wd.map .str)]) (items := x.2.map QG)
    fW pW (by simp [JX]; rfl) ⟨_, rfl⟩ (fun w hw => by
      obtain ⟨l, hl, rfl⟩ := List.mem_map.mp hw
      obtain ⟨y, r, rfl⟩ := Jw (hx l hl)
      simp [QG, pW]) (fun w hw hp => by
      obtain ⟨l, hl, rfl⟩ := List.mem_map.mp hw
      obtain ⟨y, w, u, z, rfl, _⟩ := We (hx l hl) hp
      simp [QG, fW]) (by simp; exact Xq (by omega))
  rw [e] at ec
  simp only [Kx] at ec
  have s1 : Wd.length + W'.length ≤ sizeLine := Xq (by omega)
  simp [ec, s1]
noncomputable abbrev dS (p : List Pt) (x3 x4 x5 x6 x7 : Option W) : MSt := [some (ZI p), some (.ref 0), some (.ref 1), x3, x4, x5, x6, x7]
noncomputable abbrev dH (f : Fd) (Wd : List Str) (ps : List Pt) (gs : MH) (F : List Ln) : MH := Qw f :: .lst (Wd.map .str) :: .lst (ps.map JN) :: (gs ++ [.lst (F.map QG)])
theorem Yt {α : Type} {gs : List α} {x : α} : (gs ++ [x])[gs.length]? = some x := by simp
structure DI (bs ws la : List Str) (ls F : List Ln) (n : Nat) : Prop where
  ok : ∀ l ∈ F, LineOk bs ws la l
  k : J1 (F.map cdL) [] = J1 ((ls.take n).map cdL) []
  sz : F.length ≤ 2 * n
  dc : dcn F = dcn (ls.take n)
theorem Ul {ls : List Cd} {s : List Cd} : J1 (ls ++ [.ot]) s = J1 ls s := by
  rw [JJ]
  cases J1 ls s <;> rfl
theorem YH {a b : List Cd} {c : Cd} (h : J1 a [] = J1 b []) : J1 (a ++ [c]) [] = J1 (b ++ [c]) [] := by rw [JJ, JJ, h]
theorem Qaz (x : Str) : cdL ["back", x] = .ot := by show cd "back" = .ot; decide
theorem UM {bs ws la : List Str} {p ps : List Pt} {nm : Str} {ls F : List Ln} {f : Fd} {Wd : List Str} {gs : MH} {x7 : Option W} {n : Nat} {l : Ln} (hl : ls[n]? = some l) (hok : LineOk bs ws la l) (hW : 0 < Wd.length) (hW2 : Wd.length ≤ 3000) (hWs : ∀ x ∈ Wd, x ∈ ws) (hn : n ≤ 1000) (H : DI bs ws la ls F n) :
    ∃ (f' : Fd) (F' : List Ln), DI bs ws la ls F' (n + 1) ∧ Z8 (dS p (some (.str nm)) (some (.tup (ls.map QG))) (some (.ref 2)) (some (.ref (gs.length + 3))) (some (QG l))) (dH f Wd ps gs F) = some (.nx (dS p (some (.str nm)) (some (.tup (ls.map QG))) (some (.ref 2)) (some (.ref (gs.length + 3))) (some (QG l))) (dH f' Wd ps gs F')) := by
  have hlt := (List.getElem?_eq_some_iff.mp hl).1
  have ht : (ls.take (n + 1)).map cdL = (ls.take n).map cdL ++ [cdL l] := by
    rw [List.take_succ_eq_append_getElem hlt, List.map_append]
    rw [List.getElem?_eq_getElem hlt] at hl
    cases hl; rfl
  have ht2 : ls.take (n + 1) = ls.take n ++ [l] := by
    rw [List.take_succ_eq_append_getElem hlt]
    rw [List.getElem?_eq_getElem hlt] at hl
    cases hl; rfl
  have q1 : (0 : Int) < Wd.length := by omega
  have q2 : (Wd.length : Int) < 1000000 := by omega
  have hsz := H.sz
  have s1 : F.length < sizeLine := VT (by omega)
  have s2 : F.length + 1 < sizeLine := VT (by omega)
  by_cases hz : tk f 4 = 0
  · obtain ⟨b0, b1⟩ := Xm (f := tf f 4) q1
    obtain ⟨x, hx, ex⟩ := UO b0 b1
    refine ⟨tf (tf f 4) Wd.length, F ++ [(["back", x] : Ln)] ++ [l], ⟨QY (QY H.ok (.back (hWs x hx))) hok, ?_, by simp; omega, by rw [ht2, J8, J8, J8, H.dc]; rfl⟩, ?_⟩
    · rw [ht, Za, Za, Qaz]
      refine YH ?_
      rw [Ul]; exact H.k
    · simp [hz, J6 q1 q2, ex, s1, s2, Yt, XG, QG]
  · refine ⟨tf f 4, F ++ [l], ⟨QY H.ok hok, ?_, by simp; omega, by rw [ht2, J8, J8, H.dc]⟩, ?_⟩
    · rw [ht, Za]
      exact YH H.k
    · simp [hz, s1, Yt, XG, QG]
structure DO (bs ws : List Str) (p : List Pt) (Wd : List Str) (n : Nat) (σ : MSt) (h : MH) : Prop where
  ex : ∃ (f : Fd) (ps : List Pt) (gs : MH) (x3 x4 x6 x7 : Option W), σ = dS p x3 x4 (some (.ref 2)) x6 x7 ∧ h = Qw f :: .lst (Wd.map .str) :: .lst (ps.map JN) :: gs ∧ PP 700 bs ws (p.map (·.1)) n ps
theorem WF {bs ws : List Str} {p : List Pt} {Wd : List Str} {n : Nat} {σ : MSt} {h : MH} {x : Pt} (hg : GoodP 300 bs ws p) (hx : p[n]? = some x) (hW : 0 < Wd.length) (hW2 : Wd.length ≤ 3000) (hWs : ∀ x ∈ Wd, x ∈ ws) (H : DO bs ws p Wd n σ h) :
    ∃ σ1, KT [3, 4] (JN x) σ h = some σ1 ∧ ∃ σ2 h2, (ZA σ1 h = some (.nx σ2 h2) ∨ ZA σ1 h = some (.ct σ2 h2)) ∧ DO bs ws p Wd (n + 1) σ2 h2 := by
  obtain ⟨f, ps, gs, x3, x4, x6, x7, rfl, rfl, hp⟩ := H.ex
  obtain ⟨nm, ls⟩ := x
  have hmem : (nm, ls) ∈ p := List.mem_iff_getElem?.mpr ⟨n, hx⟩
  have hsz : ls.length ≤ 300 := hg.sz _ hmem
  have hok := hg.ok n _ hx
  have hbal : J1 (ls.map cdL) [] = some [] := bal_iff.mp (hg.bal _ hmem)
  refine ⟨dS p (some (.str nm)) (some (.tup (ls.map QG))) (some (.ref 2)) x6 x7, rfl, ?_⟩
  obtain ⟨m0, hm0⟩ : ∃ m0, m0 = n := ⟨n, rfl⟩
  rw [← hm0] at hok
  have loop := Jy (items := ls.map QG) (b := J5 7) (body := Z8) (fun n σ h => ∃ (f : Fd) (F : List Ln) (x7 : Option W), σ = dS p (some (.str nm)) (some (.tup (ls.map QG))) (some (.ref 2)) (some (.ref (gs.length + 3))) x7 ∧ h = dH f Wd ps gs F ∧ DI bs ws ((p.map (·.1)).drop (m0 + 1)) ls F n)
    (ls.map QG) 0 (dS p (some (.str nm)) (some (.tup (ls.map QG))) (some (.ref 2)) (some (.ref (gs.length + 3))) x7) (dH f Wd ps gs []) ⟨f, [], x7, rfl, rfl, by simp, rfl, by simp, rfl⟩ (by
      rintro j w hj σ h ⟨f, F, x7, rfl, rfl, HD⟩
      rw [List.getElem?_map] at hj
      obtain ⟨l, hl, rfl⟩ := Option.map_eq_some_iff.mp hj
      rw [Nat.zero_add] at HD ⊢
      obtain ⟨f', F', h1, e1⟩ := UM (p := p) (ps := ps) (nm := nm) (f := f) (gs := gs) (x7 := x7) hl (hok l (List.mem_iff_getElem?.mpr ⟨j, hl⟩)) hW hW2 hWs (by have := (List.getElem?_eq_some_iff.mp hl).1; omega) HD
      exact ⟨_, rfl, _, _, .inl e1, f', F', _, rfl, rfl, h1⟩)
  obtain ⟨σ', h', e1, f1, F, y7, rfl, rfl, HD⟩ := loop
  rw [List.length_map, Nat.zero_add] at HD
  have hk : J1 (F.map cdL) [] = some [] := by rw [HD.k, List.take_length, hbal]
  have hFz := HD.sz
  have hFd : dcn F ≤ Qcm n := by rw [HD.dc, List.take_length]; exact hg.dos n _ hx
  have s1 : F.length < sizeLine := VT (by omega)
  have s2 : ps.length < sizeLine := by
    have := congrArg List.length hp.nm
    simp at this
    have hl := hg.len
    exact VT (by omega)
  have hnm : (p.map (·.1))[n]? = some nm := by rw [List.getElem?_map, hx]; rfl
  have ei : ∀ x6 x7 (h : MH), JX (Qh 4) (dS p (some (.str nm)) (some (.tup (ls.map QG))) (some (.ref 2)) x6 x7) h = some (ls.map QG, none, h) := fun _ _ _ => rfl
  by_cases hz : tk f1 4 = 0
  · obtain ⟨w0, wr, rfl⟩ : ∃ w r, Wd = w :: r := by
      cases Wd with
      | nil => simp at hW
      | cons w r => exact ⟨w, r, rfl⟩
    refine ⟨dS p (some (.str nm)) (some (.tup (ls.map QG))) (some (.ref 2)) (some (.ref (gs.length + 3))) y7, Qw (tf f1 4) :: .lst ((w0 :: wr).map .str) :: .lst ((ps ++ [(nm, F ++ [(["back", w0] : Ln)])]).map JN) :: (gs ++ [.lst ((F ++ [(["back", w0] : Ln)]).map QG)]), .inl ?_, ⟨_, _, _, _, _, _, _, rfl, rfl, ?_⟩⟩
    · simp only [dH, dS, List.map_nil, List.map_cons] at e1
      simp [VQ, ei, Nat.add_assoc, e1, hz, s1, s2, Yt, XG, QG, JN]
    · refine hp.snoc hnm ?_ (by simp; omega) ?_ ?_
      · rw [Za, Qaz]
        exact bal_iff.mpr (by rw [Ul]; exact hk)
      · rw [← hm0]; exact QY HD.ok (.back (hWs w0 (by simp)))
      · rw [Z5 (show Vo ["back", w0] = false by show (("back" : Str) == "do") = false; decide)]; exact hFd
  · refine ⟨dS p (some (.str nm)) (some (.tup (ls.map QG))) (some (.ref 2)) (some (.ref (gs.length + 3))) y7, Qw (tf f1 4) :: .lst (Wd.map .str) :: .lst ((ps ++ [(nm, F)]).map JN) :: (gs ++ [.lst (F.map QG)]), .inl ?_, ⟨_, _, _, _, _, _, _, rfl, rfl, ?_⟩⟩
    · simp only [dH, dS, List.map_nil, List.map_cons] at e1
      simp [VQ, ei, Nat.add_assoc, e1, hz, s2, Yt, XG, JN]
    · exact hp.snoc hnm (bal_iff.mpr hk) (by omega) (by rw [← hm0]; exact HD.ok) hFd
end My

namespace My
open PySem PySem.Spec PyProof.Rows L2 Mi My3 My4
theorem YY {N M : Nat} {bs ws : List Str} {p : List Pt} (h : GoodP N bs ws p) (hm : N ≤ M) : GoodP M bs ws p := ⟨h.ne, h.len, h.bal, fun x hx => Nat.le_trans (h.sz x hx) hm, h.ok, h.nd, h.dos⟩
theorem Qdu {m : FM} {f f' : Fd} {p p' : List Pt} {g : MH} {h : MH} {n : Nat} (hn : h[n]? = some (Qw f)) (e : m [ZI p, .ref 0] [Qw f] = some (ZI p', Qw f' :: g)) : box frN m [ZI p, .ref n] h = some (ZI p', h.set n (Qw f')) := by
  have := KS (m := m) (args := [ZI p, .ref n]) (as := [ZI p, .ref 0]) (ns := [n]) (os := [Qw f]) (os' := [Qw f']) (g := g) (h := h) (w := ZI p') (w' := ZI p') (by simp [ZI, Xj]) (by simp) (by simp [Ji, K7 (us := [.int f.a, .int f.b]) hn (by simp), Qw]) e rfl (fun o ho => by simp at ho; subst ho; exact ⟨_, rfl, by simp⟩) (Wi _ _ (by simp))
  simpa using this
theorem UQ (f : Fd) (bs ws : List Str) (p : List Pt) (hg : GoodP 300 bs ws p) : ∃ (p' : List Pt) (f' : Fd), GoodP 700 bs ws p' ∧ ∀ (h : MH) (n : Nat), h[n]? = some (Qw f) → Zv [ZI p, .ref n] h = some (ZI p', h.set n (Qw f')) := by
  have hlen := hg.len
  have loop := Jy (items := p.map JN) (b := KT [3, 4]) (body := Z6) (fun n σ h => ∃ (Wd : List Str) (x3 x4 : Option W), σ = dS p x3 x4 none none none ∧ h = [Qw f, .lst (Wd.map .str)] ∧ (∀ x ∈ Wd, x ∈ ws) ∧ Wd.length ≤ 300 * n)
    (p.map JN) 0 (dS p none none none none none) [Qw f, .lst []] ⟨[], none, none, rfl, rfl, by simp, by simp⟩ (by
      rintro j w hj σ h ⟨Wd, x3, x4, rfl, rfl, h1, h2⟩
      rw [List.getElem?_map] at hj
      obtain ⟨x, hx, rfl⟩ := Option.map_eq_some_iff.mp hj
      have hjl := (List.getElem?_eq_some_iff.mp hx).1
      obtain ⟨W', h3, h4, e⟩ := Gi (bs := bs) (ws := ws) (la := (p.map (·.1)).drop (j + 1)) (p := p) (x := x) (f := f) (Wd := Wd) (x3 := x3) (x4 := x4) (x5 := none) (x6 := none) (x7 := none) (hg.ok j x hx) (hg.sz x (List.mem_iff_getElem?.mpr ⟨j, hx⟩)) (by omega)
      refine ⟨dS p (some (.str x.1)) (some (.tup (x.2.map QG))) none none none, rfl, _, _, .inl e, Wd ++ W', _, _, rfl, rfl, ?_, by simp; omega⟩
      intro y hy
      rcases List.mem_append.mp hy with z | z
      · exact h1 y z
      · exact h3 y z)
  obtain ⟨σ', h', e1, Wd, x3, x4, rfl, rfl, hW, hWl⟩ := loop
  rw [List.length_map, Nat.zero_add] at hWl
  have ei : ∀ x3 x4 x5 x6 x7 (h : MH), JX (Qh 0) (dS p x3 x4 x5 x6 x7) h = some (p.map JN, none, h) := fun _ _ _ _ _ _ => rfl
  by_cases hz : Wd.length = 0
  · have hz' : Wd = [] := List.length_eq_zero_iff.mp hz
    subst hz'
    refine ⟨p, f, YY hg (by omega), fun h n hn => Qdu (g := [.lst []]) hn ?_⟩
    simp at e1
    simp [Zm, Zf, VQ, ei, e1]
  · have q : Wd ≠ [] := fun z => hz (by rw [z]; rfl)
    by_cases ho : tk f 2 = 0
    · refine ⟨p, tf f 2, YY hg (by omega), fun h n hn => Qdu (g := [.lst (Wd.map .str)]) hn ?_⟩
      simp [Zm, Zf, VQ, ei, e1, q, ho]
    · have loop := Jy (items := p.map JN) (b := KT [3, 4]) (body := ZA) (DO bs ws p Wd) (p.map JN) 0 (dS p x3 x4 (some (.ref 2)) none none) [Qw (tf f 2), .lst (Wd.map .str), .lst []]
        ⟨tf f 2, [], [], x3, x4, none, none, rfl, rfl, ⟨rfl, by simp, by simp, by simp, by simp⟩⟩ (by
          intro j w hj σ h H
          rw [List.getElem?_map] at hj
          obtain ⟨x, hx, rfl⟩ := Option.map_eq_some_iff.mp hj
          rw [Nat.zero_add] at H ⊢
          exact WF hg hx (by omega) (by omega) hW H)
      obtain ⟨σ', h', e2, H⟩ := loop
      obtain ⟨f', ps, gs, y3, y4, y6, y7, rfl, rfl, hp⟩ := H.ex
      rw [List.length_map, Nat.zero_add] at hp
      have hp' : PP 700 bs ws (p.map (·.1)) (p.map (·.1)).length ps := by rw [List.length_map]; exact hp
      refine ⟨ps, f', hp'.good (by simp [hg.ne]) (by simp; omega) hg.nd, fun h n hn => Qdu (g := .lst (Wd.map .str) :: .lst (ps.map JN) :: gs) hn ?_⟩
      rw [show ZI ps = .tup (ps.map JN) from rfl]
      simp [Zm, Zf, VQ, ei, e1, q, ho, e2]
theorem GL (ns : List Int) (k : Nat) (hk : k < 100) : ∃ f : Fd, ∀ h : MH, Zd [.frz (ns.map .int), .int k] h = some (.ref h.length, h ++ [Qw f]) := by
  have fin : ∀ (a b : Int) (hb : 0 ≤ b ∧ b < 1099511627776), ZU [.frz (ns.map .int), .int k] [] = some (.ref 0, [.lst [.int a, .int b]]) → ∀ h : MH, Zd [.frz (ns.map .int), .int k] h = some (.ref h.length, h ++ [Qw ⟨a, b, hb⟩]) := by
    intro a b hb e h
    unfold Zd box
    have hr : Xj 0 [.frz (ns.map .int), .int k] = some ([.frz (ns.map .int), .int k], []) := by simp [Xj]
    rw [hr, Option.bind_some]
    unfold QdV
    rw [if_pos List.nodup_nil]
    simp only [Ji, Option.bind_some, e]
    rw [if_pos ⟨by simp [frR], by simp [frR]⟩]
    simp [frR, th, res, Yh, Ji, thO, ths, QW, Qw]
  -- the cell
  obtain ⟨c, hc⟩ : ∃ c : Int, (if (k : Int) < (ns.length : Nat) then @om _ _ (fun p => MF.nx [some (.frz (ns.map .int)), some (.int k), some p.fst, none] p.snd) (@om _ _ (fun w => (w, ([] : MH))) (atI (ns.map W.int) (k : Int))) else some (MF.nx [some (.frz (ns.map .int)), some (.int k), some (.int 0), none] [])) = some (MF.nx [some (.frz (ns.map .int)), some (.int k), some (.int c), none] []) := by
    by_cases hl : k < ns.length
    · refine ⟨ns[k], ?_⟩
      rw [if_pos (by omega), ZK, List.getElem?_map, List.getElem?_eq_getElem hl]; simp
    · exact ⟨0, by rw [if_neg (by omega)]⟩
  have b1 : 0 ≤ c % 2147483647 * 48271 % 2147483647 := Int.emod_nonneg _ (by decide)
  have b2 : c % 2147483647 * 48271 % 2147483647 < 2147483647 := Int.emod_lt_of_pos _ (by decide)
  by_cases hd : (1000000000000000000 : Int) ≤ c
  · refine ⟨⟨c - 1000000000000000000, c % 2147483647 * 48271 % 2147483647 + k, by omega⟩, fin _ _ _ ?_⟩
    simp at hc
    simp [ZU, Zf, hc, hd]
  · refine ⟨⟨0, c % 2147483647 * 48271 % 2147483647 + k, by omega⟩, fin _ _ _ ?_⟩
    simp at hc
    simp [ZU, Zf, hc, hd]
end My

namespace My
open PySem PySem.Spec PyProof.Rows L2 Mi My3 My4
theorem Jx {x : Str} : (x = "either" ∧ cd x = .ei) ∨ (x = "again" ∧ cd x = .ag) ∨ (x = "or" ∧ cd x = .oo) ∨ (x = "end" ∧ cd x = .en) ∨ ((x ≠ "either" ∧ x ≠ "again" ∧ x ≠ "or" ∧ x ≠ "end") ∧ cd x = .ot) := by
  unfold cd
  by_cases h1 : x = "either"
  · exact .inl ⟨h1, if_pos h1⟩
  rw [if_neg h1]
  by_cases h2 : x = "again"
  · exact .inr (.inl ⟨h2, if_pos h2⟩)
  rw [if_neg h2]
  by_cases h3 : x = "or"
  · exact .inr (.inr (.inl ⟨h3, if_pos h3⟩))
  rw [if_neg h3]
  by_cases h4 : x = "end"
  · exact .inr (.inr (.inr (.inl ⟨h4, if_pos h4⟩)))
  rw [if_neg h4]
  exact .inr (.inr (.inr (.inr ⟨⟨h1, h2, h3, h4⟩, rfl⟩)))
theorem WZ {items : List W} {b : MG} {body : SM} (P : Nat → MSt → MH → Prop) (v : W) (hv : MH) : ∀ (r : List W) (n m : Nat) (σ : MSt) (h : MH), P n σ h → m < r.length →
    (∀ (j : Nat) (w : W), j < m → r[j]? = some w → ∀ σ h, P (n + j) σ h → ∃ σ1, b w σ h = some σ1 ∧ ∃ σ2 h2, body σ1 h = some (.nx σ2 h2) ∧ P (n + j + 1) σ2 h2) →
    (∀ w, r[m]? = some w → ∀ σ h, P (n + m) σ h → ∃ σ1, b w σ h = some σ1 ∧ body σ1 h = some (.rt v hv)) → Ve items none b body r σ h = some (.rt v hv)
  | [], n, m, σ, h, _, hm, _, _ => by simp at hm
  | w :: r, n, 0, σ, h, hp, _, _, he => by
    obtain ⟨σ1, e1, e2⟩ := he w rfl σ h hp
    rw [Ve, if_pos (ZT _ _), e1, Option.bind_some, e2]; rfl
  | w :: r, n, m + 1, σ, h, hp, hm, hs, he => by
    obtain ⟨σ1, e1, σ2, h2, e2, p2⟩ := hs 0 w (by omega) rfl σ h hp
    rw [Ve, if_pos (ZT _ _), e1, Option.bind_some, e2]
    exact WZ (items := items) (b := b) (body := body) P v hv r (n + 1) m σ2 h2 p2 (by simpa using hm) (fun j x hj hx σ h hp => by
      have := hs (j + 1) x (by omega) (by simpa using hx) σ h (by rw [show n + (j + 1) = n + 1 + j by omega]; exact hp)
      rw [show n + (j + 1) + 1 = n + 1 + j + 1 by omega] at this
      exact this) (fun x hx σ h hp => he x (by simpa using hx) σ h (by rw [show n + (m + 1) = n + 1 + m by omega]; exact hp))
@[simp] theorem Qgp {x : Str} {r : List Str} {h : MH} : QK [QG (x :: r)] h = some (.int (ch (cd x)), h) := by
  refine Q7 (g := []) (by simp) ?_ rfl
  have e2 : QG (x :: r) = .tup (.str x :: r.map .str) := rfl
  rcases Jx (x := x) with ⟨rfl, hc⟩ | ⟨rfl, hc⟩ | ⟨rfl, hc⟩ | ⟨rfl, hc⟩ | ⟨⟨n1, n2, n3, n4⟩, hc⟩
  · simp [QU, Zf, e2, hc, ch]
  · simp [QU, Zf, e2, hc, ch]
  · simp [QU, Zf, e2, hc, ch]
  · simp [QU, Zf, e2, hc, ch]
  · simp [QU, Zf, e2, n1, n2, n4, hc, ch]
@[simp] theorem Qif {x : Str} {r : List Str} {h : MH} : wIx (QG (x :: r)) (.int 0) h = some (.str x, h) := by unfold QG; simp
@[simp] theorem Qit {x y : Str} {r : List Str} {h : MH} : wIx (QG (x :: y :: r)) (.int 1) h = some (.str y, h) := by unfold QG; simp
theorem Gy {ms : MA} {σ : MSt} {h h' : MH} {i j : Int} (e : ms σ h = some ([.int i, .int j], h')) (hi : -1000000 ≤ i ∧ i ≤ 1000000) (hj : -1000000 ≤ j ∧ j ≤ 1000000) : Qb9 ms σ h = some (QO i (j - i).toNat, none, h') := by
  unfold Qb9
  rw [e, Option.bind_some]
  exact if_pos ⟨by omega, by omega, by omega, by omega⟩
noncomputable abbrev fS (ls : List Ln) (k : Nat) (y : Str) (lv j : Option W) : MSt := [some (.tup (ls.map QG)), some (.int k), some (.str y), lv, j]
theorem Wn {ls : List Ln} {j : Nat} {l : Ln} (h : ls[j]? = some l) : atI (ls.map QG) (j : Int) = some (QG l) := by rw [ZK, List.getElem?_map, h]; rfl
theorem Wg {ls : List Ln} {k j : Nat} {y : Str} {h : MH} (hne : ∀ l ∈ ls, ∃ x r, l = x :: r) (hl : ls.length ≤ 100000) (hy : ∀ x : Str, cd x = cd y ↔ x = y) (B : Beh (ls.map cdL) k (cd y) j) : QA [.tup (ls.map QG), .int k, .str y] h = some (.int j, h) := by
  refine Q7 (g := []) (by simp) ?_ rfl
  have hjl : j < ls.length := by have := (List.getElem?_eq_some_iff.mp B.at_).1; simpa using this
  have hkj := B.lt
  have er : ∀ x4, Qb9 (Qc (Qo Vy (Qh 1) (mC (.int 1))) (Qc (mFn JO (Qc (Qh 0) Ql)) Ql)) (fS ls k y (some (.int 0)) x4) [] = some (QO ((k : Int) + 1) (ls.length - (k + 1)), none, []) := by
    intro x4
    rw [Gy (h' := []) (i := (k : Int) + 1) (j := ls.length) (by simp) (by omega) (by omega), show ((ls.length : Int) - ((k : Int) + 1)).toNat = ls.length - (k + 1) by omega]
  have lines : ∀ i, k < i → i ≤ j → ∃ x r, ls[i]? = some (x :: r) ∧ (ls.map cdL)[i]? = some (cd x) := fun i _ hi => by
    have hil : i < ls.length := by omega
    obtain ⟨x, r, e⟩ := hne ls[i] (List.getElem_mem hil)
    have e' : ls[i]? = some (x :: r) := by rw [List.getElem?_eq_getElem hil, e]
    exact ⟨x, r, e', by rw [List.getElem?_map, e']; rfl⟩
  have loop := WZ (items := QO ((k : Int) + 1) (ls.length - (k + 1))) (b := J5 4) (body := JQ) (fun n σ h => ∃ x4, σ = fS ls k y (some (.int (lev (ls.map cdL) (k + 1 + n) - lev (ls.map cdL) (k + 1)))) x4 ∧ h = []) (.int j) [] (QO ((k : Int) + 1) (ls.length - (k + 1))) 0 (j - (k + 1)) (fS ls k y (some (.int 0)) none) [] ⟨none, by simp, rfl⟩ (by rw [Q3]; omega) (by
    rintro i w hi hw σ h ⟨x4, rfl, rfl⟩
    obtain ⟨_, rfl⟩ := V3 hw
    obtain ⟨x, r, hx, hc⟩ := lines (k + 1 + i) (by omega) (by omega)
    have ea := Wn hx
    have hv := ZS hc
    rw [Nat.zero_add]
    have ea' : atI (ls.map QG) ((k : Int) + 1 + (i : Int)) = some (QG (x :: r)) := by rw [show ((k : Int) + 1 + (i : Int)) = ((k + 1 + i : Nat) : Int) by omega]; exact ea
    refine ⟨fS ls k y (some (.int (lev (ls.map cdL) (k + 1 + i) - lev (ls.map cdL) (k + 1)))) (some (.int ((k : Int) + 1 + i))), rfl, fS ls k y (some (.int (lev (ls.map cdL) (k + 1 + (i + 1)) - lev (ls.map cdL) (k + 1)))) (some (.int ((k : Int) + 1 + i))), [], ?_, _, rfl, rfl⟩
    have hstep : lev (ls.map cdL) (k + 1 + (i + 1)) - lev (ls.map cdL) (k + 1) = lev (ls.map cdL) (k + 1 + i) - lev (ls.map cdL) (k + 1) + ch (cd x) := by
      rw [show k + 1 + (i + 1) = k + 1 + i + 1 by omega, hv]; omega
    rw [hstep]
    generalize hL : lev (ls.map cdL) (k + 1 + i) - lev (ls.map cdL) (k + 1) = L
    by_cases hz : L = 0
    · have hno := B.no (k + 1 + i) (by omega) (by omega) (by omega)
      have hxy : x ≠ y := fun z => hno (by rw [hc, z])
      subst hz
      simp [hxy, ea']
    · simp [hz, ea']) (by
    rintro w hw σ h ⟨x4, rfl, rfl⟩
    obtain ⟨_, rfl⟩ := V3 hw
    obtain ⟨x, r, hx, hc⟩ := lines j (by omega) (by omega)
    have hcy := B.at_
    rw [hc] at hcy
    have hxy : x = y := (hy x).mp (by simpa using hcy)
    subst hxy
    have ej : (k : Int) + 1 + ((j - (k + 1) : Nat) : Int) = (j : Int) := by omega
    have ea := Wn hx
    rw [ej]
    have hlv : lev (ls.map cdL) (k + 1 + (0 + (j - (k + 1)))) - lev (ls.map cdL) (k + 1) = 0 := by
      rw [show k + 1 + (0 + (j - (k + 1))) = j by omega, B.lv]; omega
    rw [hlv]
    exact ⟨_, rfl, by simp [ea]⟩)
  simp [Jn, Zf, VQ, er, loop]
theorem Vw {lo c : Int} {n j : Nat} {w : W} (h : (ZY lo c n)[j]? = some w) : j < n ∧ w = .int (lo + (j : Int) * c) := by
  have hl := (List.getElem?_eq_some_iff.mp h).1
  simp [ZY] at hl
  refine ⟨hl, ?_⟩
  unfold ZY at h
  rw [List.getElem?_map, List.getElem?_range hl] at h
  cases h; rfl
noncomputable abbrev hS (ls : List Ln) (k : Nat) (lv j : Option W) : MSt := [some (.tup (ls.map QG)), some (.int k), lv, j]
theorem QcW {ls : List Ln} {k j : Nat} {h : MH} (hne : ∀ l ∈ ls, ∃ x r, l = x :: r) (hl : ls.length ≤ 100000) (hk : k ≤ ls.length) (B : Ahd (ls.map cdL) k j) : ZO [.tup (ls.map QG), .int k] h = some (.int j, h) := by
  refine Q7 (g := []) (by simp) ?_ rfl
  have hjk := B.lt
  have er : ∀ x3, Qce (Qc (Qo Gj (Qh 1) (mC (.int 1))) (Qc (mUn KN (mC (.int 1))) (Qc (mUn KN (mC (.int 1))) Ql))) (hS ls k (some (.int 0)) x3) [] = some (ZY ((k : Int) - 1) (-1) k, none, []) := fun x3 => QgT rfl rfl rfl (by omega)
  have lines : ∀ i, i < k → ∃ x r, ls[i]? = some (x :: r) ∧ (ls.map cdL)[i]? = some (cd x) := fun i hi => by
    have hil : i < ls.length := by omega
    obtain ⟨x, r, e⟩ := hne ls[i] (List.getElem_mem hil)
    have e' : ls[i]? = some (x :: r) := by rw [List.getElem?_eq_getElem hil, e]
    exact ⟨x, r, e', by rw [List.getElem?_map, e']; rfl⟩
  have rl : (ZY ((k : Int) - 1) (-1) k).length = k := by simp [ZY]
  have loop := WZ (items := ZY ((k : Int) - 1) (-1) k) (b := J5 3) (body := Xg) (fun n σ h => ∃ x3, σ = hS ls k (some (.int (lev (ls.map cdL) k - lev (ls.map cdL) (k - n)))) x3 ∧ h = []) (.int j) [] (ZY ((k : Int) - 1) (-1) k) 0 (k - 1 - j) (hS ls k (some (.int 0)) none) [] ⟨none, by simp, rfl⟩ (by rw [rl]; omega) (by
    rintro i w hi hw σ h ⟨x3, rfl, rfl⟩
    obtain ⟨_, rfl⟩ := Vw hw
    obtain ⟨x, r, hx, hc⟩ := lines (k - 1 - i) (by omega)
    have ej : (k : Int) - 1 + (i : Int) * -1 = ((k - 1 - i : Nat) : Int) := by omega
    have ea := Wn hx
    have hv := ZS hc
    rw [Nat.zero_add, ej]
    generalize ht : ((k - 1 - i : Nat) : Int) = t at ea
    refine ⟨hS ls k (some (.int (lev (ls.map cdL) k - lev (ls.map cdL) (k - i)))) (some (.int t)), rfl, hS ls k (some (.int (lev (ls.map cdL) k - lev (ls.map cdL) (k - (i + 1))))) (some (.int t)), [], ?_, _, rfl, rfl⟩
    have hstep : lev (ls.map cdL) k - lev (ls.map cdL) (k - (i + 1)) = lev (ls.map cdL) k - lev (ls.map cdL) (k - i) + ch (cd x) := by
      rw [show k - i = k - 1 - i + 1 by omega, hv, show k - (i + 1) = k - 1 - i by omega]; omega
    have hno := B.no (k - 1 - i) (by omega) (by omega)
    have hn1 : lev (ls.map cdL) k - lev (ls.map cdL) (k - i) + ch (cd x) ≠ 1 := by rw [← hstep, show k - (i + 1) = k - 1 - i by omega]; omega
    rw [hstep]
    simp [ea, hn1]) (by
    rintro w hw σ h ⟨x3, rfl, rfl⟩
    obtain ⟨_, rfl⟩ := Vw hw
    obtain ⟨x, r, hx, hc⟩ := lines j (by omega)
    have ej : (k : Int) - 1 + ((k - 1 - j : Nat) : Int) * -1 = (j : Int) := by omega
    have ea := Wn hx
    have hv := ZS hc
    rw [ej]
    have hstep : lev (ls.map cdL) k - lev (ls.map cdL) (k - (0 + (k - 1 - j))) + ch (cd x) = 1 := by
      rw [show k - (0 + (k - 1 - j)) = j + 1 by omega, hv]
      have := B.lv
      omega
    rw [Nat.zero_add] at hstep ⊢
    exact ⟨_, rfl, by simp [ea, hstep]⟩)
  simp [VO, Zf, VQ, er, loop]
theorem Ga (x : Str) : cd x = cd "end" ↔ x = "end" := by
  rcases Jx (x := x) with ⟨rfl, hc⟩ | ⟨rfl, hc⟩ | ⟨rfl, hc⟩ | ⟨rfl, hc⟩ | ⟨⟨n1, n2, n3, n4⟩, hc⟩ <;> simp [hc, YR, *]
theorem G0 (x : Str) : cd x = cd "or" ↔ x = "or" := by
  rcases Jx (x := x) with ⟨rfl, hc⟩ | ⟨rfl, hc⟩ | ⟨rfl, hc⟩ | ⟨rfl, hc⟩ | ⟨⟨n1, n2, n3, n4⟩, hc⟩ <;> simp [hc, Qf4, *]
theorem Qck {ls : List Ln} {k j : Nat} {h : MH} (hne : ∀ l ∈ ls, ∃ x r, l = x :: r) (hl : ls.length ≤ 100000) (B : Beh (ls.map cdL) k .en j) : Zx [.tup (ls.map QG), .int k] h = some (.int j, h) := by
  refine Q7 (g := []) (by simp) ?_ rfl
  have e : ∀ h, QA [.tup (ls.map QG), .int k, .str "end"] h = some (.int j, h) := fun h => Wg hne (by omega) Ga (by rw [YR]; exact B)
  simp [Xa, Zf, e]
theorem QgM {ls : List Ln} {k j : Nat} {h : MH} (hne : ∀ l ∈ ls, ∃ x r, l = x :: r) (hl : ls.length ≤ 100000) (B : Beh (ls.map cdL) k .oo j) : J7 [.tup (ls.map QG), .int k] h = some (.int j, h) := by
  refine Q7 (g := []) (by simp) ?_ rfl
  have e : ∀ h, QA [.tup (ls.map QG), .int k, .str "or"] h = some (.int j, h) := fun h => Wg hne (by omega) G0 (by rw [Qf4]; exact B)
  simp [Kf, Zf, e]
@[simp] theorem Qiy {w p k0 b k : W} {h : MH} (hw : pur w = true) (hp : pur p = true) (hk0 : pur k0 = true) (hb : pur b = true) (hk : pur k = true) : Zc [.tup [w, p, k0, b], k] h = some (.tup [w, p, k, .bl false], h) := by
  refine Q7 (g := []) (by simp [hw, hp, hk0, hb, hk]) ?_ (by simp [hw, hp, hk])
  simp [Xe, Zf]
@[simp] theorem Qjd {w p k0 b k : W} {h : MH} (hw : pur w = true) (hp : pur p = true) (hk0 : pur k0 = true) (hb : pur b = true) (hk : pur k = true) : Z3 [.tup [w, p, k0, b], k] h = some (.tup [w, p, k, .bl true], h) := by
  refine Q7 (g := []) (by simp [hw, hp, hk0, hb, hk]) ?_ (by simp [hw, hp, hk])
  simp [VJ, Zf]
end My

namespace My
open PySem PySem.Spec PyProof.Rows L2 Mi My3 My4
@[simp] theorem Qkp {p : List Pt} {i : Int} {h : MH} : wIx (ZI p) (.int i) h = @om _ _ (fun w => (w, h)) (atI (p.map JN) i) := by unfold ZI; simp
@[simp] theorem QiV {x : Pt} {h : MH} : wIx (JN x) (.int 1) h = some (.tup (x.2.map QG), h) := by unfold JN; simp
@[simp] theorem Qi1 {x : Pt} {h : MH} : wIx (JN x) (.int 0) h = some (.str x.1, h) := by unfold JN; simp
@[simp] theorem QhY {q : Nat × Nat} {h : MH} : wIx (W3 q) (.int 0) h = some (.int q.1, h) := by unfold W3; simp
@[simp] theorem QiL {q : Nat × Nat} {h : MH} : wIx (W3 q) (.int 1) h = some (.int q.2, h) := by unfold W3; simp
structure SV (p : List Pt) (s : Spt) : Prop where
  ex : ∃ x, p[s.part]? = some x ∧ s.k ≤ x.2.length ∧ (s.head = true → ∃ r, x.2[s.k]? = some (("again" : Str) :: r))
  way : ∀ q ∈ s.way, ∃ x, p[q.1]? = some x ∧ q.2 < x.2.length
theorem Vp {p : List Pt} {i : Nat} {x : Pt} (h : p[i]? = some x) : atI (p.map JN) (i : Int) = some (JN x) := by rw [ZK, List.getElem?_map, h]; rfl
theorem Qau {p : List Pt} {s : Spt} {x : Pt} {h : MH} (hx : p[s.part]? = some x) (hn : s.head = true ∨ s.k = x.2.length) : ZC [ZI p, Qx s] h = some (.non, h) := by
  refine Q7 (g := []) (by simp) ?_ rfl
  obtain ⟨way, part, k, head⟩ := s
  have ep := Vp hx
  simp only at ep hn hx
  by_cases hh : head = true
  · simp [Jz, Zf, Qx, ep, hh]
  · have hk : k = x.2.length := by rcases hn with z | z; exact absurd z hh; exact z
    simp [Jz, Zf, Qx, ep, hh, hk]
theorem GV {p : List Pt} {s : Spt} {x : Pt} {l : Ln} {h : MH} (hx : p[s.part]? = some x) (hh : s.head = false) (hl : x.2[s.k]? = some l) : ZC [ZI p, Qx s] h = some (QG l, h) := by
  refine Q7 (g := []) (by simp) ?_ (by simp)
  obtain ⟨way, part, k, head⟩ := s
  have ep := Vp hx
  have el := Wn hl
  have hk := (List.getElem?_eq_some_iff.mp hl).1
  simp only at ep hh hx el hk
  have hne : ¬ (k : Int) = x.2.length := by omega
  have hne' : ¬ k = x.2.length := by omega
  simp [Jz, Zf, Qx, ep, hh, el, hne, hne']
@[simp] theorem Qgm {h : MH} : Zy [] h = some (Qx ⟨[], 0, 0, false⟩, h) := by
  refine Q7 (g := []) (by simp) ?_ (by simp)
  simp [JM, Zf, Qx]
theorem QdW {ns : List Str} {x : Str} : ∀ {j : Nat}, ns.findIdx? (· == x) = some j → (ns.map W.str).findIdx? (fun y => eqW y (.str x)) = some j := by
  intro j h
  rw [List.findIdx?_map]
  rw [← h]
  congr 1
theorem Wb {p : List Pt} {nm : Str} {j : Nat} {h : MH} (hj : (p.map (·.1)).findIdx? (· == nm) = some j) (hl : p.length ≤ 100) : QB [ZI p, .str nm] h = some (.int j, h) := by
  refine Q7 (g := []) (by simp) ?_ rfl
  have ec := VY (fin := Kx) (mi := JX (Qh 0)) (cp := [none]) (me := Qo wIx (Qh 0) (mC (.int 0))) (σ := [some (ZI p), some (.str nm)]) (caps := []) (h := []) (items := p.map JN) (fun w => match w with | .tup (a :: _) => a | w => w) rfl ⟨_, rfl⟩ (fun w hw => by
    obtain ⟨x, _, rfl⟩ := List.mem_map.mp hw
    simp [JN]) (by simp; exact Xq (by omega))
  have hm : (p.map JN).map (fun w => match w with | .tup (a :: _) => a | w => w) = (p.map (·.1)).map W.str := by simp [JN, Function.comp_def]
  rw [hm] at ec
  simp only [Kx] at ec
  have ei : Wp (.lst ((p.map (·.1)).map W.str)) [.str nm] [] = some (.int j, []) := by
    unfold Wp
    simp only [lsW, Option.bind_some]
    rw [XZ [] (.str nm) 40 rfl (by simp [dep]), VS [] _ 40 XD (Nat.le_trans QbD (by decide)), Option.bind_some, Option.bind_some, QdW hj]
    rfl
  rw [List.map_map] at ec ei
  simp [JA, Zf, ec, ei]
end My

namespace My
open PySem PySem.Spec PyProof.Rows L2 Mi My3 My4 My5
noncomputable def Wt : Nat → Nat
  | 0 => 65330
  | i + 1 => (4 - i) * 702
theorem WC {i q : Nat} (h : i + 1 ≤ q) : Wt q ≤ Wt (i + 1) := by
  obtain ⟨r, rfl⟩ : ∃ r, q = r + 1 := ⟨q - 1, by omega⟩
  show (4 - r) * 702 ≤ (4 - i) * 702
  exact Nat.mul_le_mul_right _ (by omega)
theorem QfV {i : Nat} (h : i ≤ 4) : 700 + Qcm i * (Wt (i + 1) + 2) ≤ Wt i := by
  match i, h with
  | 0, _ => decide
  | 1, _ => decide
  | 2, _ => decide
  | 3, _ => decide
  | 4, _ => decide
theorem QaF {i : Nat} : Wt i ≤ 65330 := by
  match i with
  | 0 => exact Nat.le_refl _
  | i + 1 =>
    show (4 - i) * 702 ≤ _
    have : (4 - i) * 702 ≤ 4 * 702 := Nat.mul_le_mul_right _ (by omega)
    omega
noncomputable def cst (i : Nat) (l : Ln) : Nat := if Vo l = true then Wt (i + 1) + 2 else 1
noncomputable def rem (x : Pt) (i k : Nat) : Nat := ((x.2.drop k).map (cst i)).sum
theorem Yp {x : Pt} {i k : Nat} {l : Ln} (h : x.2[k]? = some l) : rem x i k = cst i l + rem x i (k + 1) := by
  obtain ⟨hk, rfl⟩ := List.getElem?_eq_some_iff.mp h
  unfold rem
  rw [List.drop_eq_getElem_cons hk, List.map_cons, List.sum_cons]
theorem GD {x : Pt} {i : Nat} : ∀ {j k : Nat}, k < j → k < x.2.length → rem x i j < rem x i k
  | 0, _, h, _ => by omega
  | j + 1, k, h, hk => by
    have hs := Yp (i := i) (List.getElem?_eq_getElem hk)
    have hc : 1 ≤ cst i x.2[k] := by unfold cst; split <;> omega
    by_cases e : j = k
    · subst e; omega
    · by_cases hj : j < x.2.length
      · have h1 := GD (x := x) (i := i) (j := j) (k := k) (by omega) hk
        have h2 := Yp (i := i) (List.getElem?_eq_getElem hj)
        omega
      · have : rem x i (j + 1) = 0 := by unfold rem; rw [List.drop_eq_nil_of_le (by omega)]; rfl
        omega
theorem Ww {i : Nat} : ∀ (ls : List Ln), (ls.map (cst i)).sum = ls.length + dcn ls * (Wt (i + 1) + 1)
  | [] => by simp [dcn]
  | l :: ls => by
    have ih := Ww (i := i) ls
    unfold dcn at ih ⊢
    rw [List.map_cons, List.sum_cons, ih, List.countP_cons, List.length_cons, cst]
    by_cases h : Vo l = true
    · rw [if_pos h, if_pos h, Nat.add_mul, Nat.one_mul]; omega
    · rw [if_neg h, if_neg h, show List.countP Vo ls + 0 = List.countP Vo ls from rfl]; omega
theorem QfY {x : Pt} {i k : Nat} (hs : x.2.length ≤ 700) (hd : dcn x.2 ≤ Qcm i) (hi : i ≤ 4) : rem x i k ≤ Wt i := by
  have h0 : rem x i 0 ≤ Wt i := by
    unfold rem
    rw [List.drop_zero, Ww]
    have := QfV hi
    have : dcn x.2 * (Wt (i + 1) + 1) ≤ Qcm i * (Wt (i + 1) + 2) := Nat.mul_le_mul hd (by omega)
    omega
  by_cases hk : 0 < k
  · by_cases hl : 0 < x.2.length
    · have := GD (x := x) (i := i) hk hl; omega
    · unfold rem; rw [List.drop_eq_nil_of_le (by omega)]; simp
  · rw [show k = 0 by omega]; exact h0
noncomputable def Qak (p : List Pt) (i k : Nat) : Nat := match p[i]? with
  | some x => rem x i k
  | none => 0
theorem XR {p : List Pt} {i k : Nat} {x : Pt} (h : p[i]? = some x) : Qak p i k = rem x i k := by unfold Qak; rw [h]
noncomputable def RL (p : List Pt) : Prop := ∀ i k, Qak p i k ≤ Wt i
theorem Qcd {p : List Pt} {bs ws : List Str} (hg : GoodP 700 bs ws p) : RL p := by
  intro i k
  unfold Qak
  split
  · rename_i x hx
    have h1 := (List.getElem?_eq_some_iff.mp hx).1
    have h2 := hg.len
    exact QfY (hg.sz x (List.mem_iff_getElem?.mpr ⟨i, hx⟩)) (hg.dos i x hx) (by omega)
  · exact Nat.zero_le _
noncomputable def QcP (p : List Pt) (w : List (Nat × Nat)) : Nat := (w.map fun q => 1 + Qak p q.1 (q.2 + 1)).sum
theorem Wr {p : List Pt} {w : List (Nat × Nat)} {q : Nat × Nat} : QcP p (w ++ [q]) = QcP p w + (1 + Qak p q.1 (q.2 + 1)) := by simp [QcP]
noncomputable def rk (p : List Pt) (s : Spt) : Nat := if s.head = true then 0 else 1 + Qak p s.part s.k + QcP p s.way
theorem Ke {p : List Pt} {way : List (Nat × Nat)} {part k : Nat} : rk p ⟨way, part, k, false⟩ = 1 + Qak p part k + QcP p way := by unfold rk; rw [if_neg (by simp)]
theorem Qei {p : List Pt} {way : List (Nat × Nat)} {part k : Nat} : rk p ⟨way, part, k, true⟩ = 0 := by unfold rk; rw [if_pos rfl]
structure SW (s : Spt) : Prop where
  up : ∀ (j : Nat) (q : Nat × Nat), s.way[j]? = some q → j ≤ q.1
  le : s.way.length ≤ s.part
structure Mono (p : List Pt) (s : Spt) (L : List Spt) : Prop where
  one : ∀ t, L = [t] → rk p t < rk p s
  two : ∀ a b, L = [a, b] → a.k ≠ b.k
theorem Qa8 {p : List Pt} {s : Spt} : Mono p s [] := ⟨fun _ h => by simp at h, fun _ _ h => by simp at h⟩
theorem XI {p : List Pt} {s t : Spt} (h : rk p t < rk p s) : Mono p s [t] := ⟨fun u e => by simp at e; rw [← e]; exact h, fun _ _ e => by simp at e⟩
theorem Ud {p : List Pt} {s a b : Spt} (h : a.k ≠ b.k) : Mono p s [a, b] := ⟨fun u e => by simp at e, fun x y e => by simp at e; rw [← e.1, ← e.2]; exact h⟩
theorem YE {p : List Pt} {way : List (Nat × Nat)} {part k m : Nat} {x : Pt} (hx : p[part]? = some x) (hk : k < x.2.length) (hm : k < m) : Mono p ⟨way, part, k, false⟩ [⟨way, part, m, false⟩] := XI (by
  rw [Ke, Ke, XR hx, XR hx]
  have := GD (x := x) (i := part) hm hk
  omega)
theorem Wl {p : List Pt} {way : List (Nat × Nat)} {part k m : Nat} : Mono p ⟨way, part, k, false⟩ [⟨way, part, m, true⟩] := XI (by rw [Ke, Qei]; omega)
theorem QdB {p : List Pt} (hg : RL p) {way : List (Nat × Nat)} {part k j : Nat} {x : Pt} {l : Ln} (hx : p[part]? = some x) (hl : x.2[k]? = some l) (hd : Vo l = true) (hj : part + 1 ≤ j) : Mono p ⟨way, part, k, false⟩ [⟨way ++ [(part, k)], j, 0, false⟩] := XI (by
  rw [Ke, Ke, Wr, XR (p := p) (i := part) (k := k) hx, Yp hl]
  have h1 := hg (j) (0)
  have h2 := WC hj
  have h3 : cst part l = Wt (part + 1) + 2 := by unfold cst; rw [if_pos hd]
  rw [XR (k := k + 1) hx]
  show 1 + Qak p j 0 + (QcP p way + (1 + rem x part (k + 1))) < _
  omega)
theorem Qad {p : List Pt} {r : List (Nat × Nat)} {q : Nat × Nat} {part k : Nat} : Mono p ⟨r ++ [q], part, k, false⟩ [⟨r, q.1, q.2 + 1, false⟩] := XI (by
  rw [Ke, Ke, Wr]
  omega)
noncomputable def Kh (p : List Pt) (l : Ln) : Option Nat := if Vo l = true then (p.map (·.1)).findIdx? (· == l.getD 1 "") else none
inductive Nx (p : List Pt) : Spt → List Spt → Prop where
  | head {way : List (Nat × Nat)} {part k en : Nat} {x : Pt} {l : Ln} (hx : p[part]? = some x) (hl : x.2[k]? = some l) (hc : cdL l = .ag) (B : Beh (x.2.map cdL) k .en en) : Nx p ⟨way, part, k, true⟩ [⟨way, part, en + 1, false⟩, ⟨way, part, k + 1, false⟩]
  | fin0 {way : List (Nat × Nat)} {part k : Nat} {x : Pt} (hw : way = []) (hx : p[part]? = some x) (hl : x.2[k]? = none) : Nx p ⟨way, part, k, false⟩ []
  | fin {way r : List (Nat × Nat)} {q : Nat × Nat} {part k : Nat} {x : Pt} (hw : way = r ++ [q]) (hx : p[part]? = some x) (hl : x.2[k]? = none) : Nx p ⟨way, part, k, false⟩ [⟨r, q.1, q.2 + 1, false⟩]
  | ei {way : List (Nat × Nat)} {part k md : Nat} {x : Pt} {l : Ln} (hx : p[part]? = some x) (hl : x.2[k]? = some l) (hc : cdL l = .ei) (B : Beh (x.2.map cdL) k .oo md) : Nx p ⟨way, part, k, false⟩ [⟨way, part, k + 1, false⟩, ⟨way, part, md + 1, false⟩]
  | ag {way : List (Nat × Nat)} {part k : Nat} {x : Pt} {l : Ln} (hx : p[part]? = some x) (hl : x.2[k]? = some l) (hc : cdL l = .ag) : Nx p ⟨way, part, k, false⟩ [⟨way, part, k, true⟩]
  | oo {way : List (Nat × Nat)} {part k en : Nat} {x : Pt} {l : Ln} (hx : p[part]? = some x) (hl : x.2[k]? = some l) (hc : cdL l = .oo) (B : Beh (x.2.map cdL) k .en en) : Nx p ⟨way, part, k, false⟩ [⟨way, part, en + 1, false⟩]
  | enA {way : List (Nat × Nat)} {part k fs : Nat} {x : Pt} {l l' : Ln} (hx : p[part]? = some x) (hl : x.2[k]? = some l) (hc : cdL l = .en) (A : Ahd (x.2.map cdL) k fs) (hf : x.2[fs]? = some l') (hf' : cdL l' = .ag) : Nx p ⟨way, part, k, false⟩ [⟨way, part, fs, true⟩]
  | enE {way : List (Nat × Nat)} {part k fs : Nat} {x : Pt} {l l' : Ln} (hx : p[part]? = some x) (hl : x.2[k]? = some l) (hc : cdL l = .en) (A : Ahd (x.2.map cdL) k fs) (hf : x.2[fs]? = some l') (hf' : cdL l' = .ei) : Nx p ⟨way, part, k, false⟩ [⟨way, part, k + 1, false⟩]
  | dd {way : List (Nat × Nat)} {part k j : Nat} {x : Pt} {l : Ln} (hx : p[part]? = some x) (hl : x.2[k]? = some l) (hc : cdL l = .ot) (hd : Vo l = true) (hj : Kh p l = some j) : Nx p ⟨way, part, k, false⟩ [⟨way ++ [(part, k)], j, 0, false⟩]
  | ot {way : List (Nat × Nat)} {part k : Nat} {x : Pt} {l : Ln} (hx : p[part]? = some x) (hl : x.2[k]? = some l) (hc : cdL l = .ot) (hd : Vo l = false) : Nx p ⟨way, part, k, false⟩ [⟨way, part, k + 1, false⟩]
theorem QfA {p : List Pt} {s : Spt} {L L' : List Spt} (h : Nx p s L) (h' : Nx p s L') : L = L' := by
  cases h with
  | head hx hl hc B =>
    cases h' with
    | head hx' hl' hc' B' => rw [hx] at hx'; cases hx'; rw [YB B B']
  | fin0 hw hx hl =>
    cases h' with
    | fin0 => rfl
    | fin hw' => rw [hw] at hw'; simp at hw'
    | _ => simp_all
  | fin hw hx hl =>
    cases h' with
    | fin0 hw' => rw [hw'] at hw; simp at hw
    | fin hw' =>
      rw [hw] at hw'
      have := List.append_inj' hw' rfl
      simp at this
      obtain ⟨rfl, rfl⟩ := this
      rfl
    | _ => simp_all
  | ei hx hl hc B =>
    cases h' with
    | ei hx' hl' hc' B' => rw [hx] at hx'; cases hx'; rw [YB B B']
    | _ => simp_all
  | ag hx hl hc =>
    cases h' with
    | ag => rfl
    | _ => simp_all
  | oo hx hl hc B =>
    cases h' with
    | oo hx' hl' hc' B' => rw [hx] at hx'; cases hx'; rw [YB B B']
    | _ => simp_all
  | enA hx hl hc A hf hf' =>
    cases h' with
    | enA hx' hl' hc' A' => rw [hx] at hx'; cases hx'; rw [K9 A A']
    | enE hx' hl' hc' A' hg hg' =>
      rw [hx] at hx'; cases hx'
      rw [← K9 A A', hf] at hg
      cases hg
      rw [hf'] at hg'; cases hg'
    | _ => simp_all
  | enE hx hl hc A hf hf' =>
    cases h' with
    | enA hx' hl' hc' A' hg hg' =>
      rw [hx] at hx'; cases hx'
      rw [← K9 A A', hf] at hg
      cases hg
      rw [hf'] at hg'; cases hg'
    | enE => rfl
    | _ => simp_all
  | dd hx hl hc hd hj =>
    cases h' with
    | dd hx' hl' hc' hd' hj' => rw [hx] at hx'; cases hx'; rw [hl] at hl'; cases hl'; rw [hj] at hj'; cases hj'; rfl
    | _ => simp_all
  | ot hx hl hc hd =>
    cases h' with
    | ot => rfl
    | _ => simp_all
end My

namespace My
open PySem PySem.Spec PyProof.Rows L2 Mi My3 My4
@[simp] theorem QhQ {qs : List (Nat × Nat)} : Jq (qs.map W3) = true := Jd _ Qef
@[simp] theorem Qfc {α : Type} {a : List α} {x : α} : Gh (a ++ [x]) none (some (-1)) = a := by
  unfold Gh
  have h1 : HT.sIx (a ++ [x]).length 0 none = 0 := HT.sIx_none _ _
  have h2 : HT.sIx (a ++ [x]).length (a ++ [x]).length (some (-1)) = a.length := by
    unfold HT.sIx
    simp
    omega
  rw [h1, h2]
  simp
theorem QhP (w : List (Nat × Nat)) (h : w ≠ []) : ∃ r q, w = r ++ [q] := ⟨w.dropLast, w.getLast h, (List.dropLast_concat_getLast h).symm⟩
noncomputable def KJ (p : List Pt) (s : Spt) (L : List Spt) : Prop := (∀ t ∈ L, SV p t ∧ SW t) ∧ (Mono p s L ∧ Nx p s L) ∧ ∀ h : MH, QX [ZI p, Qx s] h = some (.lst (L.map Qx), h)
theorem QdL {p : List Pt} {way : List (Nat × Nat)} {part k : Nat} {x : Pt} (hw : ∀ q ∈ way, ∃ x, p[q.1]? = some x ∧ q.2 < x.2.length) (hx : p[part]? = some x) (hk : k ≤ x.2.length) {k' : Nat} {b' : Bool} (hs2 : SW ⟨way, part, k', b'⟩) : SV p ⟨way, part, k, false⟩ ∧ SW ⟨way, part, k, false⟩ := ⟨⟨⟨x, hx, hk, by simp⟩, hw⟩, ⟨hs2.up, hs2.le⟩⟩
theorem bP {p : List Pt} {s : Spt} {L : List Spt} {h : MH} (e : Q0 [ZI p, Qx s] [] = some (.lst (L.map Qx), [])) : QX [ZI p, Qx s] h = some (.lst (L.map Qx), h) := Q7 (g := []) (by simp) e (by simp)
theorem bI {ls : List Ln} {s : Spt} {L : List Spt} {h : MH} (e : Zl [.tup (ls.map QG), Qx s] [] = some (.lst (L.map Qx), [])) : Q2 [.tup (ls.map QG), Qx s] h = some (.lst (L.map Qx), h) := Q7 (g := []) (by simp) e (by simp)
theorem QaA {N : Nat} {p : List Pt} {bs ws : List Str} {way : List (Nat × Nat)} {part k : Nat} (hg : GoodP N bs ws p) (hN : N ≤ 100000) (hr : RL p) (hs : SV p ⟨way, part, k, true⟩) (hs2 : SW ⟨way, part, k, true⟩) : ∃ L, L.length ≤ 2 ∧ KJ p ⟨way, part, k, true⟩ L := by
  obtain ⟨x, hx, hk, hh⟩ := hs.ex
  have hw := hs.way
  simp only at hx hk hw
  obtain ⟨r, hr'⟩ := hh rfl
  simp only at hr'
  have hm := List.mem_iff_getElem?.mpr ⟨part, hx⟩
  have hok := hg.ok part x hx
  have hne : ∀ l ∈ x.2, ∃ y r, l = y :: r := fun l hl => Jw (hok l hl)
  have hsz := hg.sz x hm
  have F := YT (hg.bal x hm)
  rw [List.length_map] at F
  obtain ⟨t, md, en, h1, h2, h3⟩ := F.ag k (by rw [List.getElem?_map, hr']; show some (cd "again") = _; rw [V8])
  have hen : en < x.2.length := by have := (List.getElem?_eq_some_iff.mp h3.at_).1; simpa using this
  have hkl := (List.getElem?_eq_some_iff.mp hr').1
  have ee : ∀ h, Zx [.tup (x.2.map QG), .int k] h = some (.int en, h) := fun h => Qck hne (by omega) h3
  have ep := Vp hx
  have hlt : k < en := h3.lt
  refine ⟨[⟨way, part, en + 1, false⟩, ⟨way, part, k + 1, false⟩], by simp, ?_, ⟨Ud (show en + 1 ≠ k + 1 by omega), .head hx hr' V8 h3⟩, fun h => ?_⟩
  · intro u hu
    simp at hu
    rcases hu with rfl | rfl
    · exact QdL hw hx (by omega) hs2
    · exact QdL hw hx (by omega) hs2
  · refine bP ?_
    simp [Q0, Zf, Qx, ep, ee]
theorem Qb5 {N : Nat} {p : List Pt} {bs ws : List Str} {way : List (Nat × Nat)} {part k : Nat} {x : Pt} (hg : GoodP N bs ws p) (hN : N ≤ 100000) (hr : RL p) (hs : SV p ⟨way, part, k, false⟩) (hs2 : SW ⟨way, part, k, false⟩) (hx : p[part]? = some x) (hk : k = x.2.length) : ∃ L, L.length ≤ 2 ∧ KJ p ⟨way, part, k, false⟩ L := by
  have hw := hs.way
  simp only at hw
  have ep := Vp hx
  have en : ∀ h, ZC [ZI p, Qx ⟨way, part, k, false⟩] h = some (.non, h) := fun h => Qau hx (.inr hk)
  simp only [Qx] at en
  by_cases hz : way = []
  · subst hz
    have e1 : ∀ h, Zt [Qx ⟨[], part, k, false⟩] h = some (.lst [], h) := fun h => by
      refine Q7 (g := []) (by simp) ?_ (by simp)
      simp [Jt, Zf, Qx]
    simp only [Qx] at e1
    refine ⟨[], by simp, by simp, ⟨Qa8, .fin0 rfl hx (List.getElem?_eq_none (by omega))⟩, fun h => ?_⟩
    · refine bP ?_
      simp at en e1
      simp [Q0, Zf, Qx, ep, en, e1]
  · obtain ⟨r, q, rfl⟩ := QhP way hz
    obtain ⟨y, hy, hyl⟩ := hw q (by simp)
    have e1 : ∀ h, Zt [Qx ⟨r ++ [q], part, k, false⟩] h = some (.lst [Qx ⟨r, q.1, q.2 + 1, false⟩], h) := fun h => by
      refine Q7 (g := []) (by simp) ?_ (by simp)
      simp [Jt, Zf, Qx]
    simp only [Qx] at e1
    refine ⟨[⟨r, q.1, q.2 + 1, false⟩], by simp, ?_, ⟨Qad, .fin rfl hx (List.getElem?_eq_none (by omega))⟩, fun h => ?_⟩
    · intro u hu
      simp at hu
      subst hu
      exact ⟨⟨⟨y, hy, by show q.2 + 1 ≤ _; omega, by simp⟩, fun z hz => hw z (by simp; exact .inl hz)⟩, ⟨fun j z hz => hs2.up j z (by show (r ++ [q])[j]? = _; rw [List.getElem?_append_left (List.getElem?_eq_some_iff.mp hz).1]; exact hz), hs2.up r.length q (by simp)⟩⟩
    · refine bP ?_
      simp at en e1
      simp [Q0, Zf, Qx, ep, en, e1]
theorem XC {bs ws la : List Str} {x : Str} {r : List Str} (h : LineOk bs ws la (x :: r)) (hd : x = "do") : ∃ nm, r = [nm] ∧ nm ∈ la := by
  subst hd
  generalize hl : (("do" : Str) :: r) = l at h
  cases h with
  | plain h => cases h <;> simp at hl
  | «do» h => simp at hl; exact ⟨_, hl, h⟩
  | blk h => rcases h with rfl | rfl | rfl | rfl <;> simp at hl
  | back h => simp at hl
theorem QhE {x : Str} (h : cd x = .ag) : x = "again" := by
  rcases Jx (x := x) with ⟨rfl, hc⟩ | ⟨rfl, hc⟩ | ⟨rfl, hc⟩ | ⟨rfl, hc⟩ | ⟨_, hc⟩
  · rw [hc] at h; cases h
  · rfl
  · rw [hc] at h; cases h
  · rw [hc] at h; cases h
  · rw [hc] at h; cases h
theorem WB {ns : List Str} {nm : Str} (h : nm ∈ ns) : ∃ j, ns.findIdx? (· == nm) = some j ∧ j < ns.length := by
  cases e : ns.findIdx? (· == nm) with
  | none =>
    rw [List.findIdx?_eq_none_iff] at e
    have := e nm h
    simp at this
  | some j =>
    refine ⟨j, rfl, ?_⟩
    rw [List.findIdx?_eq_some_iff_getElem] at e
    exact e.1
theorem VP {ns : List Str} {nm : Str} {m j : Nat} (hn : ns.Nodup) (h : nm ∈ ns.drop (m + 1)) (hj : ns.findIdx? (· == nm) = some j) : m + 1 ≤ j := by
  obtain ⟨i, hi⟩ := List.mem_iff_getElem?.mp h
  rw [List.getElem?_drop] at hi
  obtain ⟨hil, hie⟩ := List.getElem?_eq_some_iff.mp hi
  rw [List.findIdx?_eq_some_iff_getElem] at hj
  obtain ⟨hjl, hje, _⟩ := hj
  simp at hje
  have hp := List.pairwise_iff_getElem.mp hn
  by_cases hlt : j < m + 1 + i
  · exact absurd (hje.trans hie.symm) (hp j (m + 1 + i) hjl hil hlt)
  · omega
noncomputable abbrev iS (way : List (Nat × Nat)) (part k : Nat) (x : Pt) (y : Str) : MSt := [some (.tup (x.2.map QG)), some (.tup [.tup (way.map W3), .int part, .int k, .bl false]), some (.int k), some (.str y)]
theorem Gx {N : Nat} {p : List Pt} {bs ws : List Str} {way : List (Nat × Nat)} {part k : Nat} {x : Pt} {l : Ln} (hg : GoodP N bs ws p) (hN : N ≤ 100000) (hr : RL p) (hs : SV p ⟨way, part, k, false⟩) (hs2 : SW ⟨way, part, k, false⟩) (hx : p[part]? = some x) (hl : x.2[k]? = some l) : ∃ L, L.length ≤ 2 ∧ KJ p ⟨way, part, k, false⟩ L := by
  have hw := hs.way
  simp only at hw
  have hm := List.mem_iff_getElem?.mpr ⟨part, hx⟩
  have hok := hg.ok part x hx
  have hne : ∀ l ∈ x.2, ∃ y r, l = y :: r := fun l hl => Jw (hok l hl)
  have hsz := hg.sz x hm
  have F := YT (hg.bal x hm)
  rw [List.length_map] at F
  have hkl := (List.getElem?_eq_some_iff.mp hl).1
  obtain ⟨y, r, rfl⟩ := hne l (List.mem_iff_getElem?.mpr ⟨k, hl⟩)
  have hcd : (x.2.map cdL)[k]? = some (cd y) := by rw [List.getElem?_map, hl]; rfl
  have ep := Vp hx
  have el := Wn hl
  have eline : ∀ h, ZC [ZI p, Qx ⟨way, part, k, false⟩] h = some (QG (y :: r), h) := fun h => GV hx rfl hl
  simp only [Qx] at eline
  have nk : ¬ (k : Int) = x.2.length := by omega
  have nk' : ¬ k = x.2.length := by omega
  have nl : YX (QG (y :: r)) = false := rfl
  have gv : ∀ m, m ≤ x.2.length → SV p ⟨way, part, m, false⟩ ∧ SW ⟨way, part, m, false⟩ := fun m hm => QdL hw hx hm hs2
  have one : ∀ (u : Spt), (SV p u ∧ SW u) → ∀ t ∈ [u], SV p t ∧ SW t := fun u hu t ht => by rw [List.mem_singleton.mp ht]; exact hu
  -- what next_in_part tells
  have up : y ≠ "do" → ∀ (L : List Spt), (∀ h, Q2 [.tup (x.2.map QG), .tup [.tup (way.map W3), .int part, .int k, .bl false]] h = some (.lst (L.map Qx), h)) → ∀ h, QX [ZI p, Qx ⟨way, part, k, false⟩] h = some (.lst (L.map Qx), h) := fun hd L e h => by
    refine bP ?_
    simp [Q0, Zf, Qx, ep, eline, nl, hd, e]
  have pn : Zl [.tup (x.2.map QG), Qx ⟨way, part, k, false⟩] [] = Qew (QS (iS way part k x y) []) := by
    simp [Zl, Zf, Qx, el]
  rcases Jx (x := y) with ⟨rfl, hc⟩ | ⟨rfl, hc⟩ | ⟨rfl, hc⟩ | ⟨rfl, hc⟩ | ⟨⟨n1, n2, n3, n4⟩, hc⟩
  · obtain ⟨t, md, en, h1, h2, h3⟩ := F.ei k (by rw [hcd, hc])
    have hmd : md < x.2.length := by have := (List.getElem?_eq_some_iff.mp h3.at_).1; simpa using this
    have eo : ∀ h, J7 [.tup (x.2.map QG), .int k] h = some (.int md, h) := fun h => QgM hne (by omega) h3
    have hlt : k < md := h3.lt
    refine ⟨[⟨way, part, k + 1, false⟩, ⟨way, part, md + 1, false⟩], by simp, ?_, ⟨Ud (show k + 1 ≠ md + 1 by omega), .ei hx hl hc h3⟩, up (by simp) _ fun h => ?_⟩
    · intro u hu
      simp at hu
      rcases hu with rfl | rfl
      · exact gv _ (by omega)
      · exact gv _ (by omega)
    · refine bI (s := ⟨way, part, k, false⟩) ?_
      rw [pn]
      simp [QS, Qx, eo]
  · refine ⟨[⟨way, part, k, true⟩], by simp, one _ ⟨⟨⟨x, hx, by show k ≤ _; omega, fun _ => ⟨r, hl⟩⟩, hw⟩, ⟨hs2.up, hs2.le⟩⟩, ⟨Wl, .ag hx hl hc⟩, up (by simp) _ fun h => ?_⟩
    · refine bI (s := ⟨way, part, k, false⟩) ?_
      rw [pn]
      simp [QS, Qx]
  · obtain ⟨t, fs, en, h1, h2, h3⟩ := F.oo k (by rw [hcd, hc])
    have hen : en < x.2.length := by have := (List.getElem?_eq_some_iff.mp h3.at_).1; simpa using this
    have ee : ∀ h, Zx [.tup (x.2.map QG), .int k] h = some (.int en, h) := fun h => Qck hne (by omega) h3
    have hlt : k < en := h3.lt
    refine ⟨[⟨way, part, en + 1, false⟩], by simp, one _ (gv _ (by omega)), ⟨YE hx hkl (by omega), .oo hx hl hc h3⟩, up (by simp) _ fun h => ?_⟩
    · refine bI (s := ⟨way, part, k, false⟩) ?_
      rw [pn]
      simp [QS, Qx, ee]
  · obtain ⟨t, fs, md, h1, h2, h3, h4⟩ := F.en k (by rw [hcd, hc])
    have eh : ∀ h, ZO [.tup (x.2.map QG), .int k] h = some (.int fs, h) := fun h => QcW hne (by omega) (by omega) h3
    have hfl : fs < x.2.length := by have := h3.lt; omega
    obtain ⟨z, r', hz⟩ := hne x.2[fs] (List.getElem_mem hfl)
    have hz' : x.2[fs]? = some (z :: r') := by rw [List.getElem?_eq_getElem hfl, hz]
    have ef := Wn hz'
    have hcz : (x.2.map cdL)[fs]? = some (cd z) := by rw [List.getElem?_map, hz']; rfl
    by_cases ha : z = "again"
    · subst ha
      refine ⟨[⟨way, part, fs, true⟩], by simp, one _ ⟨⟨⟨x, hx, by show fs ≤ _; omega, fun _ => ⟨r', hz'⟩⟩, hw⟩, ⟨hs2.up, hs2.le⟩⟩, ⟨Wl, .enA hx hl hc h3 hz' V8⟩, up (by simp) _ fun h => ?_⟩
      · refine bI (s := ⟨way, part, k, false⟩) ?_
        rw [pn]
        simp [QS, Qx, eh, ef]
    · refine ⟨[⟨way, part, k + 1, false⟩], by simp, one _ (gv _ (by omega)), ⟨YE hx hkl (by omega), .enE hx hl hc h3 hz' (by rcases h4 with q | q <;> rw [hcz] at q <;> first | exact Option.some.inj q | exact absurd (QhE (Option.some.inj q)) ha)⟩, up (by simp) _ fun h => ?_⟩
      · refine bI (s := ⟨way, part, k, false⟩) ?_
        rw [pn]
        simp [QS, Qx, eh, ef, ha]
  · by_cases hd : y = "do"
    · obtain ⟨nm, rfl, hnm⟩ := XC (hok _ (List.mem_iff_getElem?.mpr ⟨k, hl⟩)) hd
      subst hd
      obtain ⟨j, hj, hjl⟩ := WB (List.mem_of_mem_drop hnm)
      have hpj := VP hg.nd hnm hj
      have hlen := hg.len
      have en : ∀ h, QB [ZI p, .str nm] h = some (.int j, h) := fun h => Wb hj (by omega)
      have hjl' : j < p.length := by simpa using hjl
      have s1 : way.length + 1 ≤ sizeLine := Xq (by have := hs2.le; have := (List.getElem?_eq_some_iff.mp hx).1; simp only at *; omega)
      refine ⟨[⟨way ++ [(part, k)], j, 0, false⟩], by simp, one _ ⟨⟨⟨p[j], List.getElem?_eq_getElem hjl', Nat.zero_le _, by simp⟩, ?_⟩, ?_⟩, ⟨QdB hr hx hl (by show (("do" : Str) == "do") = true; decide) hpj, .dd hx hl hc (by show (("do" : Str) == "do") = true; decide) (by show (if Vo (["do", nm] : Ln) = true then _ else none) = some j; rw [if_pos (by show (("do" : Str) == "do") = true; decide)]; exact hj)⟩, fun h => ?_⟩
      · intro q hq
        simp at hq
        rcases hq with hq | rfl
        · exact hw q hq
        · exact ⟨x, hx, hkl⟩
      · refine ⟨fun i q hq => ?_, by have := hs2.le; simp at this ⊢; omega⟩
        have hil := (List.getElem?_eq_some_iff.mp hq).1
        simp at hil
        have hle := hs2.le
        simp only at hle hq
        by_cases hi : i < way.length
        · rw [List.getElem?_append_left hi] at hq
          exact hs2.up i q hq
        · have : i = way.length := by omega
          subst this
          simp at hq
          subst hq
          exact hle
      · refine bP ?_
        simp [Q0, Zf, Qx, ep, eline, nl, en, s1, W3]
    · refine ⟨[⟨way, part, k + 1, false⟩], by simp, one _ (gv _ (by omega)), ⟨YE hx hkl (by omega), .ot hx hl hc (by show (y == ("do" : Str)) = false; simpa using hd)⟩, up hd _ fun h => ?_⟩
      · refine bI (s := ⟨way, part, k, false⟩) ?_
        rw [pn]
        simp [QS, Qx, n1, n2, n3, n4]
theorem Qc9 {N : Nat} {p : List Pt} {bs ws : List Str} {s : Spt} (hg : GoodP N bs ws p) (hN : N ≤ 100000) (hr : RL p) (hs : SV p s) (hs2 : SW s) : ∃ L, L.length ≤ 2 ∧ KJ p s L := by
  obtain ⟨way, part, k, head⟩ := s
  cases head with
  | true => exact QaA hg hN hr hs hs2
  | false =>
    obtain ⟨x, hx, hk, _⟩ := hs.ex
    simp only at hx hk
    by_cases z : k = x.2.length
    · exact Qb5 hg hN hr hs hs2 hx z
    · exact Gx hg hN hr hs hs2 hx (List.getElem?_eq_getElem (by omega))
end My

namespace My
open PySem PySem.Spec PyProof.Rows L2 Mi My3 My4 My5
open Classical in
noncomputable def nx (p : List Pt) (s : Spt) : List Spt := if h : ∃ L, L.length ≤ 2 ∧ KJ p s L then h.choose else []
theorem VM {p : List Pt} {N : Nat} {bs ws : List Str} {s : Spt} (hg : GoodP N bs ws p) (hN : N ≤ 100000) (hr : RL p) (hs : SV p s) (hs2 : SW s) : (nx p s).length ≤ 2 ∧ KJ p s (nx p s) := by
  have h := Qc9 hg hN hr hs hs2
  unfold nx
  rw [dif_pos h]
  exact h.choose_spec
noncomputable def pk (a b : Spt) (c : Nat) : Spt := if c = 0 then a else b
inductive Go (p : List Pt) : Spt → List Nat → List Spt → List Nat → Prop where
  | stop {s : Spt} {cs : List Nat} (h : nx p s = []) : Go p s cs [] cs
  | one {s t : Spt} {cs cs' : List Nat} {tr : List Spt} (h : nx p s = [t]) (g : Go p t cs tr cs') : Go p s cs (t :: tr) cs'
  | wait {s a b : Spt} (h : nx p s = [a, b]) : Go p s [] [] []
  | two {s a b : Spt} {c : Nat} {cs cs' : List Nat} {tr : List Spt} (h : nx p s = [a, b]) (hc : c ≤ 1) (g : Go p (pk a b c) cs tr cs') : Go p s (c :: cs) (pk a b c :: tr) cs'
theorem Qf5 {L : List Spt} (h : L.length ≤ 2) : L = [] ∨ (∃ t, L = [t]) ∨ ∃ a b, L = [a, b] := by
  match L, h with
  | [], _ => exact .inl rfl
  | [t], _ => exact .inr (.inl ⟨t, rfl⟩)
  | [a, b], _ => exact .inr (.inr ⟨a, b, rfl⟩)
  | _ :: _ :: _ :: _, h => simp at h
theorem sv4 {p : List Pt} {N : Nat} {bs ws : List Str} {s : Spt} (hg : GoodP N bs ws p) (hN : N ≤ 100000) (hr : RL p) (hs : SV p s) (hs2 : SW s) : s.way.length ≤ 4 := by
  obtain ⟨x, hx, _⟩ := hs.ex
  have h1 := (List.getElem?_eq_some_iff.mp hx).1
  have h2 := hg.len
  have h3 := hs2.le
  omega
theorem Gn {p : List Pt} {N : Nat} {bs ws : List Str} {s t : Spt} (hg : GoodP N bs ws p) (hN : N ≤ 100000) (hr : RL p) (hs : SV p s) (hs2 : SW s) (h : t ∈ nx p s) : SV p t ∧ SW t := (VM hg hN hr hs hs2).2.1 t h
theorem XU {a b : Spt} {c : Nat} : pk a b c ∈ [a, b] := by unfold pk; split <;> simp
noncomputable def Kc (cs : List Nat) : List W := cs.map fun (c : Nat) => .int (c : Int)
@[simp] theorem Qgi {cs : List Nat} : (Kc cs).length = cs.length := by simp [Kc]
@[simp] theorem Qis {cs : List Nat} : Jq (Kc cs) = true := by
  induction cs with
  | nil => rfl
  | cons c cs ih => unfold Kc at ih ⊢; simp [ih]
@[simp] theorem QeP {c : Nat} {cs : List Nat} : Kc (c :: cs) = .int (c : Int) :: Kc cs := id rfl
@[simp] theorem Qgt {a b : List Nat} : Kc (a ++ b) = Kc a ++ Kc b := by simp [Kc]
theorem QjM {a b : List Nat} {c : Nat} : atI (Kc a ++ .int (c : Int) :: Kc b) (a.length : Int) = some (.int (c : Int)) := by
  rw [ZK, List.getElem?_append_right (by simp)]
  simp
theorem Qhm {a b : Spt} {c : Nat} (h : c ≤ 1) : atI [Qx a, Qx b] (c : Int) = some (Qx (pk a b c)) := by
  rw [ZK]
  match c, h with
  | 0, _ => rfl
  | 1, _ => rfl
@[simp] theorem Qg3 {α : Type} {xs : List α} {x y : α} : atI (xs ++ [x, y]) (-1) = some y := by rw [show xs ++ [x, y] = (xs ++ [x]) ++ [y] by simp]; exact Mi.K4 _ _
theorem Uz {t : MT} {body : SM} {f : Nat} {σ σ2 : MSt} {h h2 : MH} (e : t σ h = some (true, h)) (e2 : body σ h = some (.nx σ2 h2)) : Q8 t body (f + 1) σ h = Q8 t body f σ2 h2 := by
  rw [Q8, e]
  simp only [Option.bind_some, e2]
theorem Y4 {t : MT} {body : SM} {f : Nat} {σ : MSt} {h : MH} (e : t σ h = some (false, h)) : Q8 t body (f + 1) σ h = some (.nx σ h) := by rw [Q8, e]; rfl
theorem szN {n m : Nat} (h : n + m ≤ 16000000) : n < sizeLine := Nat.lt_of_le_of_lt (show n ≤ 16000000 by omega) (by decide)
noncomputable abbrev tR : MT := QaZ (QD (Qo wEq (mFn JO (Qc (Qh 4) Ql)) (mC (.int 1)))) (Vf (QD (Qo wEq (mFn JO (Qc (Qh 4) Ql)) (mC (.int 2)))) (QD (Qo wLt (Qh 3) (mFn JO (Qc (Qh 1) Ql)))))
noncomputable abbrev rS (p : List Pt) (all : List Nat) (u : Nat) (L : List Spt) : MSt := [some (ZI p), some (.lst (Kc all)), some (.ref 0), some (.int u), some (.lst (L.map Qx))]
noncomputable abbrev rH (R : List Spt) (s : Spt) : MH := [.lst (R.map Qx ++ [Qx s])]
theorem QbF {p : List Pt} {N : Nat} {bs ws : List Str} (hg : GoodP N bs ws p) (hN : N ≤ 100000) (hr : RL p) {s : Spt} {cs cs' : List Nat} {tr : List Spt} (g : Go p s cs tr cs') : ∀ (R : List Spt) (pre : List Nat) (f : Nat), SV p s → SW s → tr.length < f → R.length + 1 + tr.length ≤ 16000000 →
    ∃ (v : Nat) (L : List Spt), v + cs'.length = pre.length + cs.length ∧ Q8 tR X5 f (rS p (pre ++ cs) pre.length (nx p s)) (rH R s) = some (.nx (rS p (pre ++ cs) v L) [.lst ((R ++ s :: tr).map Qx)]) := by
  induction g with
  | @stop s cs h =>
    intro R pre f _ _ hf _
    obtain ⟨f, rfl⟩ : ∃ k, f = k + 1 := ⟨f - 1, by omega⟩
    refine ⟨pre.length, nx p s, rfl, ?_⟩
    rw [Y4 (by rw [h]; simp)]
    simp
  | @wait s a b h =>
    intro R pre f _ _ hf _
    obtain ⟨f, rfl⟩ : ∃ k, f = k + 1 := ⟨f - 1, by omega⟩
    refine ⟨pre.length, nx p s, rfl, ?_⟩
    rw [Y4 (by rw [h]; simp)]
    simp
  | @one s t cs cs' tr h g ih =>
    intro R pre f v1 v2 hf hl
    obtain ⟨f, rfl⟩ : ∃ k, f = k + 1 := ⟨f - 1, by omega⟩
    obtain ⟨w1, w2⟩ := Gn hg hN hr v1 v2 (t := t) (by rw [h]; simp)
    have en := (VM hg hN hr w1 w2).2.2.2
    simp only [List.length_cons] at hf hl
    obtain ⟨v, L, hv, e⟩ := ih (R ++ [s]) pre f w1 w2 (by omega) (by simp; omega)
    refine ⟨v, L, hv, ?_⟩
    have s1 : R.length + 1 < sizeLine := szN (m := tr.length) (by omega)
    rw [Uz (σ2 := rS p (pre ++ cs) pre.length (nx p t)) (h2 := rH (R ++ [s]) t) (by rw [h]; simp) (by rw [h]; simp [en, s1, rS, rH]), e]
    simp
  | @two s a b c cs cs' tr h hc g ih =>
    intro R pre f v1 v2 hf hl
    obtain ⟨f, rfl⟩ : ∃ k, f = k + 1 := ⟨f - 1, by omega⟩
    obtain ⟨w1, w2⟩ := Gn hg hN hr v1 v2 (t := pk a b c) (by rw [h]; exact XU)
    have en := (VM hg hN hr w1 w2).2.2.2
    simp only [List.length_cons] at hf hl
    obtain ⟨v, L, hv, e⟩ := ih (R ++ [s]) (pre ++ [c]) f w1 w2 (by omega) (by simp; omega)
    refine ⟨v, L, by simp at hv ⊢; omega, ?_⟩
    have s1 : R.length + 1 < sizeLine := szN (m := tr.length) (by omega)
    have ea := QjM (a := pre) (b := cs) (c := c)
    have ep := Qhm (a := a) (b := b) hc
    have hlt : (pre.length : Int) < pre.length + (cs.length + 1) := by omega
    rw [List.append_assoc] at e
    rw [Uz (σ2 := rS p (pre ++ c :: cs) (pre ++ [c]).length (nx p (pk a b c))) (h2 := rH (R ++ [s]) (pk a b c)) (by rw [h]; simp; omega) (by rw [h]; simp [en, s1, ea, ep, rS, rH])]
    simp only [List.cons_append, List.nil_append] at e
    rw [e]
    simp
end My

namespace My
open PySem PySem.Spec PyProof.Rows L2 Mi My3 My4 My5
noncomputable def fl (p : List Pt) : Nat → Nat → List Ln
  | 0, _ => []
  | d + 1, i => match p[i]? with
    | some x => x.2.flatMap fun l => match Kh p l with
      | some j => fl p d j
      | none => [l]
    | none => []
noncomputable def X (p : List Pt) (i : Nat) : List Ln := fl p 5 i
noncomputable def ex (p : List Pt) (l : Ln) : List Ln := match Kh p l with
  | some j => X p j
  | none => [l]
section
variable {N : Nat} {bs ws : List Str} {p : List Pt}
theorem Gd (hg : GoodP N bs ws p) {i j : Nat} {x : Pt} {l : Ln} (hx : p[i]? = some x) (hl : l ∈ x.2) (hd : Kh p l = some j) : i + 1 ≤ j ∧ j < p.length ∧ Vo l = true ∧ cdL l = .ot := by
  unfold Kh at hd
  split at hd
  · rename_i hdo
    obtain ⟨y, r, rfl⟩ := Jw (hg.ok i x hx l hl)
    have hy : y = "do" := by simpa [Vo] using hdo
    obtain ⟨nm, rfl, hnm⟩ := XC (hg.ok i x hx _ hl) hy
    have hj := VP hg.nd hnm hd
    rw [List.findIdx?_eq_some_iff_getElem] at hd
    have := hd.1
    simp at this
    exact ⟨hj, this, hdo, by show cd y = .ot; rw [hy]; decide⟩
  · cases hd
theorem QhH (hg : GoodP N bs ws p) {i : Nat} {x : Pt} {l : Ln} (hx : p[i]? = some x) (hl : l ∈ x.2) (hd : Kh p l = none) : Vo l = false := by
  unfold Kh at hd
  split at hd
  · rename_i hdo
    obtain ⟨y, r, rfl⟩ := Jw (hg.ok i x hx l hl)
    have hy : y = "do" := by simpa [Vo] using hdo
    obtain ⟨nm, rfl, hnm⟩ := XC (hg.ok i x hx _ hl) hy
    obtain ⟨j, hj, _⟩ := WB (List.mem_of_mem_drop hnm)
    have : (p.map (·.1)).findIdx? (· == nm) = none := hd
    rw [hj] at this; cases this
  · rename_i h; simpa using h
theorem Yo {α β : Type} {f g : α → List β} : ∀ {xs : List α}, (∀ x ∈ xs, f x = g x) → xs.flatMap f = xs.flatMap g
  | [], _ => rfl
  | x :: xs, h => by rw [List.flatMap_cons, List.flatMap_cons, h x List.mem_cons_self, Yo fun y hy => h y (List.mem_cons_of_mem _ hy)]
theorem Qg4 (hg : GoodP N bs ws p) : ∀ (n i d d' : Nat), 5 - i ≤ n → n ≤ d → n ≤ d' → fl p d i = fl p d' i := by
  have hlen := hg.len
  intro n
  induction n with
  | zero =>
    intro i d d' h _ _
    have e : p[i]? = none := List.getElem?_eq_none (by omega)
    have z : ∀ d, fl p d i = [] := fun d => by cases d <;> simp [fl, e]
    rw [z, z]
  | succ n ih =>
    intro i d d' h h1 h2
    obtain ⟨d, rfl⟩ : ∃ k, d = k + 1 := ⟨d - 1, by omega⟩
    obtain ⟨d', rfl⟩ : ∃ k, d' = k + 1 := ⟨d' - 1, by omega⟩
    unfold fl
    cases hx : p[i]? with
    | none => rfl
    | some x =>
      refine Yo fun l hl => ?_
      cases hd : Kh p l with
      | none => rfl
      | some j =>
        have := Gd hg hx hl hd
        exact ih j d d' (by omega) (by omega) (by omega)
theorem Qc0 (hg : GoodP N bs ws p) {i : Nat} {x : Pt} (hx : p[i]? = some x) : X p i = x.2.flatMap (ex p) := by
  show fl p 5 i = _
  rw [fl, hx]
  refine Yo fun l hl => ?_
  unfold ex
  cases hd : Kh p l with
  | none => rfl
  | some j =>
    have := Gd hg hx hl hd
    exact Qg4 hg 4 j 4 5 (by omega) (by omega) (by omega)
noncomputable abbrev EC (p : List Pt) (l : Ln) : List Cd := (ex p l).map cdL
theorem Qiu (hg : GoodP N bs ws p) {i : Nat} {x : Pt} (hx : p[i]? = some x) : (X p i).map cdL = F (EC p) x.2 := by
  rw [Qc0 hg hx, List.map_flatMap]; rfl
structure XOk (bs ws : List Str) (p : List Pt) (i : Nat) : Prop where
  bal : Bal ((X p i).map cdL)
  ok : ∀ l ∈ X p i, LineOk bs ws [] l ∧ Vo l = false
  len : (X p i).length ≤ Wt i
theorem Qdw {la : List Str} {l : Ln} (h : LineOk bs ws la l) (hd : Vo l = false) : LineOk bs ws [] l := by
  cases h with
  | plain h => exact .plain h
  | «do» h => simp [Vo] at hd
  | blk h => exact .blk h
  | back h => exact .back h
theorem QfZ (hg : GoodP N bs ws p) {i : Nat} {x : Pt} (hx : p[i]? = some x) (ih : ∀ j, i + 1 ≤ j → j < p.length → XOk bs ws p j) : ∀ l ∈ x.2, Ex (EC p) cdL l := fun l hl => by
  unfold Ex EC ex
  cases hd : Kh p l with
  | none => exact .inl rfl
  | some j =>
    obtain ⟨h1, h2, h3, h4⟩ := Gd hg hx hl hd
    exact .inr ⟨h4, (ih j h1 h2).bal⟩
theorem Um {α : Type} {f : α → List Ln} {g : α → Nat} : ∀ {xs : List α}, (∀ x ∈ xs, (f x).length ≤ g x) → (xs.flatMap f).length ≤ (xs.map g).sum
  | [], _ => by simp
  | x :: xs, h => by
    have h1 := h x List.mem_cons_self
    have h2 := Um (xs := xs) fun y hy => h y (List.mem_cons_of_mem _ hy)
    simp only [List.flatMap_cons, List.length_append, List.map_cons, List.sum_cons]
    omega
theorem xok (hg : GoodP N bs ws p) (hr : RL p) : ∀ (n i : Nat), 5 - i ≤ n → i < p.length → XOk bs ws p i := by
  have hlen := hg.len
  intro n
  induction n with
  | zero => intro i h hi; omega
  | succ n ih =>
    intro i h hi
    have hx : p[i]? = some p[i] := List.getElem?_eq_getElem hi
    generalize p[i] = x at hx
    have hm := List.mem_iff_getElem?.mpr ⟨i, hx⟩
    have ih' : ∀ j, i + 1 ≤ j → j < p.length → XOk bs ws p j := fun j h1 h2 => ih j (by omega) h2
    refine ⟨?_, fun l hl => ?_, ?_⟩
    · rw [Qiu hg hx]
      exact Qg5 (QfZ hg hx ih') (hg.bal x hm)
    · rw [Qc0 hg hx] at hl
      obtain ⟨l0, h0, h1⟩ := List.mem_flatMap.mp hl
      unfold ex at h1
      cases hd : Kh p l0 with
      | none =>
        rw [hd] at h1
        rw [List.mem_singleton.mp h1]
        have := QhH hg hx h0 hd
        exact ⟨Qdw (hg.ok i x hx l0 h0) this, this⟩
      | some j =>
        rw [hd] at h1
        obtain ⟨g1, g2, _⟩ := Gd hg hx h0 hd
        exact (ih' j g1 g2).ok l h1
    · have h2 := hr i 0
      rw [XR hx] at h2
      unfold rem at h2
      rw [List.drop_zero] at h2
      rw [Qc0 hg hx]
      refine Nat.le_trans (Um fun l hl => ?_) h2
      unfold ex cst
      cases hd : Kh p l with
      | none =>
        show 1 ≤ (if Vo l = true then Wt (i + 1) + 2 else 1)
        split <;> omega
      | some j =>
        obtain ⟨g1, g2, g3, _⟩ := Gd hg hx hl hd
        rw [if_pos g3]
        have := (ih' j g1 g2).len
        have := WC g1
        show (X p j).length ≤ _
        omega
theorem X7 (hg : GoodP N bs ws p) (hr : RL p) {nm : Str} : GoodP 65330 bs ws [(nm, X p 0)] ∧ RL [(nm, X p 0)] := by
  have h0 := xok hg hr 5 0 (by omega) (List.length_pos_iff.mpr hg.ne)
  have hd : dcn (X p 0) = 0 := by
    unfold dcn
    rw [List.countP_eq_zero]
    intro l hl
    rw [(h0.ok l hl).2]; simp
  have hl : (X p 0).length ≤ 65330 := h0.len
  refine ⟨⟨by simp, by simp, by simpa using h0.bal, by simpa using hl, fun i x hx => ?_, by simp, fun i x hx => ?_⟩, fun i k => ?_⟩
  · cases i with
    | zero => simp at hx; subst hx; intro l hl; exact (h0.ok l hl).1
    | succ i => simp at hx
  · cases i with
    | zero => simp at hx; subst hx; show dcn (X p 0) ≤ _; omega
    | succ i => simp at hx
  · unfold Qak
    cases i with
    | zero =>
      simp only [List.getElem?_cons_zero]
      show rem (nm, X p 0) 0 k ≤ 65330
      unfold rem
      rw [Ww]
      have h1 : dcn ((X p 0).drop k) = 0 := by
        unfold dcn at hd ⊢
        rw [List.countP_eq_zero] at hd ⊢
        exact fun l hl => hd l (List.mem_of_mem_drop hl)
      show ((X p 0).drop k).length + dcn ((X p 0).drop k) * _ ≤ _
      rw [h1, List.length_drop]
      omega
    | succ i => simp
end
end My

namespace My
open PySem PySem.Spec PyProof.Rows L2 Mi My3 My4 My5
noncomputable def ofl (p : List Pt) (x : Pt) (k : Nat) : Nat := ((x.2.take k).flatMap (ex p)).length
theorem Jl {p : List Pt} {x : Pt} {k : Nat} : off (EC p) x.2 k = ofl p x k := by
  unfold off F ofl EC
  rw [← List.map_flatMap, List.length_map]
inductive Ch (p : List Pt) : List (Nat × Nat) → Nat → List Ln → List Ln → Prop where
  | nil : Ch p [] 0 [] []
  | snoc {r : List (Nat × Nat)} {i k j : Nat} {x : Pt} {l : Ln} {A B : List Ln} {way : List (Nat × Nat)} (hw : way = r ++ [(i, k)]) (c : Ch p r i A B) (hx : p[i]? = some x) (hl : x.2[k]? = some l) (hj : Kh p l = some j) : Ch p way j (A ++ (x.2.take k).flatMap (ex p)) ((x.2.drop (k + 1)).flatMap (ex p) ++ B)
section
variable {N : Nat} {bs ws : List Str} {p : List Pt}
theorem Qff (hg : GoodP N bs ws p) {i k : Nat} {x : Pt} {l : Ln} (hx : p[i]? = some x) (hl : x.2[k]? = some l) : X p i = (x.2.take k).flatMap (ex p) ++ (ex p l ++ (x.2.drop (k + 1)).flatMap (ex p)) := by
  rw [Qc0 hg hx]
  conv => lhs; rw [My5.split_at hl]
  rw [List.flatMap_append, List.flatMap_cons]
theorem QgI (hg : GoodP N bs ws p) {way : List (Nat × Nat)} {part : Nat} {A B : List Ln} (c : Ch p way part A B) : X p 0 = A ++ (X p part ++ B) := by
  induction c with
  | nil => simp
  | snoc hw c hx hl hj ih =>
    rw [ih, Qff hg hx hl]
    simp [ex, hj]
structure Sim (p : List Pt) (s t : Spt) : Prop where
  ex : ∃ A B x, Ch p s.way s.part A B ∧ p[s.part]? = some x ∧ s.k ≤ x.2.length ∧ t = ⟨[], 0, A.length + ofl p x s.k, s.head⟩
noncomputable def LnS (p : List Pt) (s : Spt) : List Ln := if s.head = true then [] else match p[s.part]? with
  | some x => match x.2[s.k]? with
    | some l => if Vo l = true then [] else [l]
    | none => []
  | none => []
theorem J2 {x : Pt} {k : Nat} {l : Ln} (hl : x.2[k]? = some l) (hd : Kh p l = none) : ofl p x (k + 1) = ofl p x k + 1 := by
  have := My5.off_succ (E := EC p) hl
  rw [Jl, Jl] at this
  rw [this]
  simp [ex, hd]
theorem KA {l : Ln} (h : Vo l = false) : Kh p l = none := by unfold Kh; rw [if_neg (by simp [h])]
theorem XV {l : Ln} (h : cdL l ≠ .ot) : Vo l = false := by
  cases l with
  | nil => rfl
  | cons y r =>
    by_cases hy : y = "do"
    · subst hy
      exact absurd (show cd "do" = .ot by decide) h
    · simpa [Vo] using hy
structure Here (p : List Pt) (A : List Ln) (x : Pt) : Prop where
  at_ : ∀ (k : Nat) (l : Ln), x.2[k]? = some l → Vo l = false → (X p 0)[A.length + ofl p x k]? = some l
  beh : ∀ (k j : Nat) (c : Cd) (l : Ln), x.2[k]? = some l → Vo l = false → (c = .oo ∨ c = .en) → Beh (x.2.map cdL) k c j → Beh ((X p 0).map cdL) (A.length + ofl p x k) c (A.length + ofl p x j)
  ahd : ∀ (k j : Nat) (l l' : Ln), x.2[k]? = some l → x.2[j]? = some l' → Vo l = false → Vo l' = false → Ahd (x.2.map cdL) k j → Ahd ((X p 0).map cdL) (A.length + ofl p x k) (A.length + ofl p x j)
theorem here (hg : GoodP N bs ws p) (hr : RL p) {way : List (Nat × Nat)} {part : Nat} {A B : List Ln} {x : Pt} (c : Ch p way part A B) (hx : p[part]? = some x) : Here p A x := by
  have e0 := QgI hg c
  have hE : ∀ l ∈ x.2, Ex (EC p) cdL l := QfZ hg hx fun j h1 h2 => xok hg hr 5 j (by omega) h2
  have one : ∀ l : Ln, Vo l = false → EC p l = [cdL l] := fun l h => by simp [EC, ex, KA h]
  have ec : (X p 0).map cdL = A.map cdL ++ (F (EC p) x.2 ++ B.map cdL) := by rw [e0, List.map_append, List.map_append, Qiu hg hx]
  have la : (A.map cdL).length = A.length := List.length_map _
  refine ⟨fun k l hl hd => ?_, fun k j c l hl hd hc B => ?_, fun k j l l' hl hl' hd hd' A' => ?_⟩
  · rw [e0, Qff hg hx hl, List.getElem?_append_right (by omega), Nat.add_sub_cancel_left, List.append_assoc, List.getElem?_append_right (by unfold ofl; omega)]
    unfold ofl
    rw [Nat.sub_self]
    simp [ex, KA hd]
  · rw [ec, ← Jl, ← Jl, ← la]
    exact QdU (Qhf hE hl (one l hd) hc B)
  · rw [ec, ← Jl, ← Jl, ← la]
    have := QhC hE hl hl' (one l' hd') (one l hd) A'
    exact QdE this (by have := (List.getElem?_eq_some_iff.mp (Ut hl (one l hd))).1; omega)
end
end My

namespace My
open PySem PySem.Spec PyProof.Rows L2 Mi My3 My4 My5
inductive Two (p : List Pt) : List Spt → List Spt → Prop where
  | nil : Two p [] []
  | one {a a' : Spt} (h : Sim p a a') : Two p [a] [a']
  | two {a b a' b' : Spt} (h : Sim p a a') (h' : Sim p b b') : Two p [a, b] [a', b']
theorem XH {p : List Pt} {s : Spt} {x : Pt} (hx : p[s.part]? = some x) (hl : x.2[s.k]? = none) : LnS p s = [] := by
  unfold LnS
  rw [hx]
  simp only [hl]
  split <;> rfl
theorem Zi {p : List Pt} {way : List (Nat × Nat)} {part k : Nat} {x : Pt} {l : Ln} (hx : p[part]? = some x) (hl : x.2[k]? = some l) : LnS p ⟨way, part, k, false⟩ = if Vo l = true then [] else [l] := by
  unfold LnS
  simp only [hx, hl]
  rfl
theorem Qdl {p : List Pt} {way : List (Nat × Nat)} {part k : Nat} : LnS p ⟨way, part, k, true⟩ = [] := rfl
section
variable {N : Nat} {bs ws : List Str} {p : List Pt} {nm : Str}
theorem JH (hg : GoodP N bs ws p) (hr : RL p) {s t : Spt} {L : List Spt} (hS : Sim p s t) (hv : SV p s) (hN : Nx p s L) : (∃ s', L = [s'] ∧ LnS p s = [] ∧ Sim p s' t) ∨ ∃ L', Nx [(nm, X p 0)] t L' ∧ LnS [(nm, X p 0)] t = LnS p s ∧ Two p L L' := by
  obtain ⟨A, B, x0, c, hx0, hk0, rfl⟩ := hS.ex
  have H := here hg hr c hx0
  have hq : ([(nm, X p 0)] : List Pt)[0]? = some (nm, X p 0) := rfl
  -- a spot of the same part
  have sm : ∀ {way : List (Nat × Nat)} {part k : Nat} {b : Bool} {n : Nat}, Ch p way part A B → p[part]? = some x0 → k ≤ x0.2.length → n = A.length + ofl p x0 k → Sim p ⟨way, part, k, b⟩ ⟨[], 0, n, b⟩ := fun c hx hk hn => ⟨A, B, x0, c, hx, hk, by rw [hn]⟩
  cases hN with
  | @head way part k en x l hx hl hc Bh =>
    rw [hx0] at hx; cases hx
    have hd := XV (l := l) (by rw [hc]; simp)
    have hj := Bh.at_
    rw [List.getElem?_map] at hj
    obtain ⟨l', hl', hc'⟩ := Option.map_eq_some_iff.mp hj
    have hd' := XV (l := l') (by rw [hc']; simp)
    have hkl := (List.getElem?_eq_some_iff.mp hl).1
    have hjl := (List.getElem?_eq_some_iff.mp hl').1
    refine .inr ⟨_, .head hq (H.at_ k l hl hd) hc (H.beh k en .en l hl hd (.inr rfl) Bh), rfl, .two (sm c hx0 (by omega) ?_) (sm c hx0 (by omega) ?_)⟩
    · rw [J2 hl' (KA hd')]; rfl
    · rw [J2 hl (KA hd)]; rfl
  | @fin0 way part k x hw hx hl =>
    rw [hx0] at hx; cases hx
    subst hw
    have hkl : k = x0.2.length := by have := List.getElem?_eq_none_iff.mp hl; simp only at hk0; omega
    have hA : A = [] ∧ part = 0 := by
      simp only at c
      generalize hw : ([] : List (Nat × Nat)) = w at c
      cases c with
      | nil => exact ⟨rfl, rfl⟩
      | snoc hw' => rw [hw'] at hw; simp at hw
    obtain ⟨rfl, rfl⟩ := hA
    have hn : (X p 0)[0 + ofl p x0 k]? = none := by
      refine List.getElem?_eq_none ?_
      rw [Qc0 hg hx0, hkl]
      unfold ofl
      rw [List.take_length]; omega
    refine .inr ⟨_, .fin0 rfl hq hn, ?_, .nil⟩
    rw [XH (x := (nm, X p 0)) hq hn, XH hx0 hl]
  | @fin way r q part k x hw hx hl =>
    rw [hx0] at hx; cases hx
    have hkl : k = x0.2.length := by have := List.getElem?_eq_none_iff.mp hl; simp only at hk0; omega
    refine .inl ⟨_, rfl, XH hx0 hl, ?_⟩
    cases c with
    | nil => simp at hw
    | @snoc r' i k' _ x l A' B' _ hw' c' hx' hl' hj' =>
      simp only at hw'
      rw [hw] at hw'
      have := List.append_inj' hw' rfl
      simp at this
      obtain ⟨rfl, rfl⟩ := this
      refine ⟨A', B', x, c', hx', (List.getElem?_eq_some_iff.mp hl').1, ?_⟩
      have e1 := My5.off_succ (E := EC p) hl'
      rw [Jl, Jl] at e1
      have e2 : (EC p l).length = ofl p x0 k := by
        have e : ex p l = X p part := by unfold ex; rw [hj']
        show ((ex p l).map cdL).length = _
        rw [e, List.length_map, Qc0 hg hx0, hkl]
        unfold ofl
        rw [List.take_length]
      have e3 : ((x.2.take k').flatMap (ex p)).length = ofl p x k' := rfl
      simp only [List.length_append, e1, e2, e3, Nat.add_assoc]
  | @ei way part k md x l hx hl hc Bh =>
    rw [hx0] at hx; cases hx
    have hd := XV (l := l) (by rw [hc]; simp)
    have hj := Bh.at_
    rw [List.getElem?_map] at hj
    obtain ⟨l', hl', hc'⟩ := Option.map_eq_some_iff.mp hj
    have hd' := XV (l := l') (by rw [hc']; simp)
    have hkl := (List.getElem?_eq_some_iff.mp hl).1
    have hjl := (List.getElem?_eq_some_iff.mp hl').1
    refine .inr ⟨_, .ei hq (H.at_ k l hl hd) hc (H.beh k md .oo l hl hd (.inl rfl) Bh), ?_, .two (sm c hx0 (by omega) ?_) (sm c hx0 (by omega) ?_)⟩
    · rw [Zi hq (H.at_ k l hl hd), Zi hx0 hl]
    · rw [J2 hl (KA hd)]; rfl
    · rw [J2 hl' (KA hd')]; rfl
  | @ag way part k x l hx hl hc =>
    rw [hx0] at hx; cases hx
    have hd := XV (l := l) (by rw [hc]; simp)
    have hkl := (List.getElem?_eq_some_iff.mp hl).1
    refine .inr ⟨_, .ag hq (H.at_ k l hl hd) hc, ?_, .one (sm c hx0 (by omega) rfl)⟩
    rw [Zi hq (H.at_ k l hl hd), Zi hx0 hl]
  | @oo way part k en x l hx hl hc Bh =>
    rw [hx0] at hx; cases hx
    have hd := XV (l := l) (by rw [hc]; simp)
    have hj := Bh.at_
    rw [List.getElem?_map] at hj
    obtain ⟨l', hl', hc'⟩ := Option.map_eq_some_iff.mp hj
    have hd' := XV (l := l') (by rw [hc']; simp)
    have hjl := (List.getElem?_eq_some_iff.mp hl').1
    refine .inr ⟨_, .oo hq (H.at_ k l hl hd) hc (H.beh k en .en l hl hd (.inr rfl) Bh), ?_, .one (sm c hx0 (by omega) ?_)⟩
    · rw [Zi hq (H.at_ k l hl hd), Zi hx0 hl]
    · rw [J2 hl' (KA hd')]; rfl
  | @enA way part k fs x l l' hx hl hc Ah hf hf' =>
    rw [hx0] at hx; cases hx
    have hd := XV (l := l) (by rw [hc]; simp)
    have hd' := XV (l := l') (by rw [hf']; simp)
    have hjl := (List.getElem?_eq_some_iff.mp hf).1
    refine .inr ⟨_, .enA hq (H.at_ k l hl hd) hc (H.ahd k fs l l' hl hf hd hd' Ah) (H.at_ fs l' hf hd') hf', ?_, .one (sm c hx0 (by omega) rfl)⟩
    rw [Zi hq (H.at_ k l hl hd), Zi hx0 hl]
  | @enE way part k fs x l l' hx hl hc Ah hf hf' =>
    rw [hx0] at hx; cases hx
    have hd := XV (l := l) (by rw [hc]; simp)
    have hd' := XV (l := l') (by rw [hf']; simp)
    have hkl := (List.getElem?_eq_some_iff.mp hl).1
    refine .inr ⟨_, .enE hq (H.at_ k l hl hd) hc (H.ahd k fs l l' hl hf hd hd' Ah) (H.at_ fs l' hf hd') hf', ?_, .one (sm c hx0 (by omega) ?_)⟩
    · rw [Zi hq (H.at_ k l hl hd), Zi hx0 hl]
    · rw [J2 hl (KA hd)]; rfl
  | @dd way part k j x l hx hl hc hd hj =>
    rw [hx0] at hx; cases hx
    refine .inl ⟨_, rfl, by rw [Zi hx0 hl, if_pos hd], ?_⟩
    obtain ⟨_, hjl, _⟩ := Gd hg hx0 (List.mem_iff_getElem?.mpr ⟨k, hl⟩) hj
    refine ⟨_, _, p[j], .snoc rfl c hx0 hl hj, List.getElem?_eq_getElem hjl, Nat.zero_le _, ?_⟩
    simp [ofl]
  | @ot way part k x l hx hl hc hd =>
    rw [hx0] at hx; cases hx
    have hkl := (List.getElem?_eq_some_iff.mp hl).1
    refine .inr ⟨_, .ot hq (H.at_ k l hl hd) hc hd, ?_, .one (sm c hx0 (by omega) ?_)⟩
    · rw [Zi hq (H.at_ k l hl hd), Zi hx0 hl]
    · rw [J2 hl (KA hd)]; rfl
end
end My

namespace My
open PySem PySem.Spec PyProof.Rows L2 Mi My3 My4 My5
section
variable {N : Nat} {bs ws : List Str} {p : List Pt} {nm : Str}
theorem Y7 {M : Nat} {q : List Pt} (hg : GoodP M bs ws q) (hN : M ≤ 100000) (hr : RL q) {t : Spt} {L : List Spt} (hs : SV q t) (hs2 : SW t) (h : Nx q t L) : nx q t = L := QfA (VM hg hN hr hs hs2).2.2.1.2 h
theorem V7 {q : List Pt} {s t : Spt} {tr : List Spt} : (s :: t :: tr).dropLast.flatMap (LnS q) = LnS q s ++ (t :: tr).dropLast.flatMap (LnS q) := by simp [List.dropLast]
theorem QcO {a b a' b' : Spt} {c : Nat} (h : Sim p a a') (h' : Sim p b b') : Sim p (pk a b c) (pk a' b' c) := by unfold pk; split <;> assumption
theorem Qft (hg : GoodP N bs ws p) (hN : N ≤ 100000) (hr : RL p) {s : Spt} {cs cs' : List Nat} {tr : List Spt} (g : Go p s cs tr cs') : ∀ {t : Spt} {tr2 : List Spt} {cs2 : List Nat}, SV p s → SW s → SV [(nm, X p 0)] t → SW t → Sim p s t → Go [(nm, X p 0)] t cs tr2 cs2 →
    cs2 = cs' ∧ (t :: tr2).dropLast.flatMap (LnS [(nm, X p 0)]) = (s :: tr).dropLast.flatMap (LnS p) := by
  obtain ⟨hgq, hrq⟩ := X7 (nm := nm) hg hr
  have hNq : 65330 ≤ 100000 := by decide
  have vq : ∀ {t u : Spt}, SV [(nm, X p 0)] t → SW t → u ∈ nx [(nm, X p 0)] t → SV [(nm, X p 0)] u ∧ SW u := fun h h2 hu => Gn hgq hNq hrq h h2 hu
  induction g with
  | @stop s cs h =>
    intro t tr2 cs2 v1 v2 w1 w2 S g2
    have hn := (VM hg hN hr v1 v2).2.2.1.2
    rw [h] at hn
    rcases JH (nm := nm) hg hr S v1 hn with ⟨s', e, _⟩ | ⟨L', h1, _, h3⟩
    · simp at e
    · cases h3
      have hq := Y7 hgq hNq hrq w1 w2 h1
      cases g2 with
      | stop _ => exact ⟨rfl, rfl⟩
      | one h2 _ => rw [hq] at h2; simp at h2
      | wait h2 => rw [hq] at h2; simp at h2
      | two h2 _ _ => rw [hq] at h2; simp at h2
  | @one s t' cs cs' tr h g ih =>
    intro t tr2 cs2 v1 v2 w1 w2 S g2
    have hn := (VM hg hN hr v1 v2).2.2.1.2
    obtain ⟨u1, u2⟩ := Gn hg hN hr v1 v2 (t := t') (by rw [h]; simp)
    rw [h] at hn
    rcases JH (nm := nm) hg hr S v1 hn with ⟨s', e, e2, S'⟩ | ⟨L', h1, h2, h3⟩
    · simp at e
      subst e
      obtain ⟨e3, e4⟩ := ih u1 u2 w1 w2 S' g2
      exact ⟨e3, by rw [V7, e2]; exact e4⟩
    · cases h3 with
      | @one _ a' S' =>
        have hq := Y7 hgq hNq hrq w1 w2 h1
        obtain ⟨z1, z2⟩ := vq w1 w2 (u := a') (by rw [hq]; simp)
        cases g2 with
        | stop h2 => rw [hq] at h2; simp at h2
        | one h2' g2 =>
          rw [hq] at h2'
          simp at h2'
          subst h2'
          obtain ⟨e3, e4⟩ := ih u1 u2 z1 z2 S' g2
          exact ⟨e3, by rw [V7, V7, h2, e4]⟩
        | wait h2 => rw [hq] at h2; simp at h2
        | two h2 _ _ => rw [hq] at h2; simp at h2
  | @wait s a b h =>
    intro t tr2 cs2 v1 v2 w1 w2 S g2
    have hn := (VM hg hN hr v1 v2).2.2.1.2
    rw [h] at hn
    rcases JH (nm := nm) hg hr S v1 hn with ⟨s', e, _⟩ | ⟨L', h1, _, h3⟩
    · simp at e
    · cases h3 with
      | two S1 S2 =>
        have hq := Y7 hgq hNq hrq w1 w2 h1
        cases g2 with
        | stop h2 => rw [hq] at h2; simp at h2
        | one h2 _ => rw [hq] at h2; simp at h2
        | wait h2 => exact ⟨rfl, rfl⟩
  | @two s a b c cs cs' tr h hc g ih =>
    intro t tr2 cs2 v1 v2 w1 w2 S g2
    have hn := (VM hg hN hr v1 v2).2.2.1.2
    obtain ⟨u1, u2⟩ := Gn hg hN hr v1 v2 (t := pk a b c) (by rw [h]; exact XU)
    rw [h] at hn
    rcases JH (nm := nm) hg hr S v1 hn with ⟨s', e, _⟩ | ⟨L', h1, h2, h3⟩
    · simp at e
    · cases h3 with
      | @two _ _ a' b' S1 S2 =>
        have hq := Y7 hgq hNq hrq w1 w2 h1
        obtain ⟨z1, z2⟩ := vq w1 w2 (u := pk a' b' c) (by rw [hq]; exact XU)
        cases g2 with
        | stop h2 => rw [hq] at h2; simp at h2
        | one h2 _ => rw [hq] at h2; simp at h2
        | two h2' _ g2 =>
          rw [hq] at h2'
          simp at h2'
          obtain ⟨rfl, rfl⟩ := h2'
          obtain ⟨e3, e4⟩ := ih u1 u2 z1 z2 (QcO S1 S2) g2
          exact ⟨e3, by rw [V7, V7, h2, e4]⟩
end
end My

namespace My
open PySem PySem.Spec PyProof.Rows L2 Mi My3 My4 My5
noncomputable abbrev sp0 : Spt := ⟨[], 0, 0, false⟩
theorem sv0 {N : Nat} {p : List Pt} {bs ws : List Str} (hg : GoodP N bs ws p) : SV p sp0 ∧ SW sp0 := by
  have h0 : 0 < p.length := List.length_pos_iff.mpr hg.ne
  exact ⟨⟨⟨p[0], List.getElem?_eq_getElem h0, Nat.zero_le _, by simp⟩, by simp⟩, ⟨by simp, Nat.le_refl _⟩⟩
theorem Qbj {m : FM} {ws us : List W} {v : W} {j : Nat} {g h : MH} (hr : Xj 0 ws = some (ws, [])) (e : m ws [] = some (.tup [.ref j, v], g)) (hj : g[j]? = some (.lst us)) (hu : Jq us = true) (hv : pur v = true) : box frN m ws h = some (.tup [.lst us, v], h) := by
  have := KS (m := m) (args := ws) (as := ws) (ns := []) (os := []) (os' := []) (g := g) (h := h) (w := .tup [.ref j, v]) (w' := .tup [.lst us, v]) hr (by simp) rfl e rfl (by simp) (by
    have h1 : th (res (Yh [] [] h.length) ([] ++ g) 3) (.ref j) = some (.lst us) := by
      unfold th res
      simp only [Yh, List.getElem?_nil, List.findIdx?_nil, Option.map_none, List.nil_append, hj]
      rw [Vj _ us hu]; rfl
    unfold th ths
    rw [h1, Option.bind_some]
    unfold ths
    rw [Wi _ v hv, Option.bind_some]
    rfl)
  simpa using this
theorem QfD {p : List Pt} {all : List Nat} : Xj 0 [ZI p, .lst (Kc all)] = some ([ZI p, .lst (Kc all)], []) := by simp [ZI, Xj]
noncomputable def Qks (tr : List Spt) (u : Nat) : W := .tup [.lst ((sp0 :: tr).map Qx), .int u]
@[simp] theorem QhT {α : Type} {y : α} : atI [y] (-1) = some y := Mi.K4 [] y
theorem YM {N : Nat} {p : List Pt} {bs ws : List Str} (hg : GoodP N bs ws p) (hN : N ≤ 100000) (hr : RL p) {all cs' : List Nat} {tr : List Spt} (g : Go p sp0 all tr cs') (hl : tr.length ≤ 14000000) (h : MH) : Je [ZI p, .lst (Kc all)] h = some (Qks tr (all.length - cs'.length), h) := by
  obtain ⟨v1, v2⟩ := sv0 hg
  obtain ⟨v, L, hv, e⟩ := QbF hg hN hr g [] [] 20000000 v1 v2 (by omega) (by simp; omega)
  have en := (VM hg hN hr v1 v2).2.2.2
  simp only [List.length_nil, Nat.zero_add] at hv
  have hv' : all.length - cs'.length = v := by omega
  rw [hv']
  refine Qbj (j := 0) (g := [.lst ((sp0 :: tr).map Qx)]) (us := (sp0 :: tr).map Qx) (v := .int v) QfD ?_ rfl QaJ rfl
  simp [rS, rH] at e
  simp [Xf, Zf, en, e]
theorem GX {N : Nat} {bs ws : List Str} {p : List Pt} (hg : GoodP N bs ws p) (hr : RL p) : ∀ (n i : Nat) (h : MH), i < p.length → 5 - i ≤ n → ZH n [ZI p, .int i] h = some (.tup ((X p i).map QG), h) := by
  have hlen := hg.len
  intro n
  induction n with
  | zero => intro i h hi hn; omega
  | succ n ih =>
    intro i h hi hn
    have hx : p[i]? = some p[i] := List.getElem?_eq_getElem hi
    generalize p[i] = x at hx
    have hw : (X p i).length ≤ 65330 := Nat.le_trans (xok hg hr 5 i (by omega) hi).len QaF
    have ep := Vp hx
    refine Q7 (g := [.lst ((X p i).map QG)]) (by simp) ?_ (by simp)
    have loop := Jy (items := x.2.map QG) (b := J5 3) (body := Vn (ZH n)) (fun j σ h => ∃ o, σ = [some (ZI p), some (.int i), some (.ref 0), o] ∧ h = [.lst (((x.2.take j).flatMap (ex p)).map QG)]) (x.2.map QG) 0 [some (ZI p), some (.int i), some (.ref 0), none] [.lst []] ⟨none, rfl, by simp⟩ (by
      rintro j w hj σ h ⟨o, rfl, rfl⟩
      rw [List.getElem?_map] at hj
      obtain ⟨l, hl, rfl⟩ := Option.map_eq_some_iff.mp hj
      have hlm : l ∈ x.2 := List.mem_iff_getElem?.mpr ⟨j, hl⟩
      have hX := Qff hg hx hl
      have hsz : ((x.2.take j).flatMap (ex p)).length + (ex p l).length ≤ 65330 := by
        have := congrArg List.length hX
        simp only [List.length_append] at this
        omega
      have htk : (x.2.take (j + 1)).flatMap (ex p) = (x.2.take j).flatMap (ex p) ++ ex p l := by
        rw [List.take_add_one, hl, List.flatMap_append]; simp
      obtain ⟨y, r, rfl⟩ := Jw (hg.ok i x hx l hlm)
      refine ⟨[some (ZI p), some (.int i), some (.ref 0), some (QG (y :: r))], rfl, [some (ZI p), some (.int i), some (.ref 0), some (QG (y :: r))], [.lst (((x.2.take (j + 1)).flatMap (ex p)).map QG)], .inl ?_, _, rfl, by rw [Nat.zero_add]⟩
      rw [htk, List.map_append, Nat.zero_add]
      by_cases hd : y = "do"
      · obtain ⟨nm, rfl, hnm⟩ := XC (hg.ok i x hx _ hlm) hd
        subst hd
        obtain ⟨q, hq, hql⟩ := WB (List.mem_of_mem_drop hnm)
        have hpq := VP hg.nd hnm hq
        have en : ∀ h, QB [ZI p, .str nm] h = some (.int q, h) := fun h => Wb hq (by omega)
        have hql' : q < p.length := by simpa using hql
        have er := fun h => ih q h hql' (by omega)
        have hix : Kh p (["do", nm] : Ln) = some q := by show (if Vo (["do", nm] : Ln) = true then _ else none) = some q; rw [if_pos (by show (("do" : Str) == "do") = true; decide)]; exact hq
        have hex : ex p (["do", nm] : Ln) = X p q := by unfold ex; rw [hix]
        rw [hex] at hsz ⊢
        have s1 : ((x.2.take j).flatMap (ex p)).length + (X p q).length ≤ sizeLine := Xq (by omega)
        simp only [← List.length_map (f := QG)] at s1
        simp only [List.length_map] at s1
        simp [-List.length_flatMap, en, er, s1]
      · have hix : Kh p (y :: r) = none := by unfold Kh; rw [if_neg (by show ¬ (y == ("do" : Str)) = true; simpa using hd)]
        have hex : ex p (y :: r) = [y :: r] := by unfold ex; rw [hix]
        rw [hex] at hsz ⊢
        simp only [List.length_cons, List.length_nil] at hsz
        have s1 : ((x.2.take j).flatMap (ex p)).length < sizeLine := VT (by omega)
        simp [-List.length_flatMap, hd, s1])
    obtain ⟨σ', h', el, o, rfl, rfl⟩ := loop
    rw [List.length_map, Nat.zero_add, List.take_length, ← Qc0 hg hx] at el
    have ei : JX (Qo wIx (Qo wIx (Qh 0) (Qh 1)) (mC (.int 1))) [some (ZI p), some (.int i), some (.ref 0), none] [.lst []] = some (x.2.map QG, none, [.lst []]) := by
      have : (Qo wIx (Qo wIx (Qh 0) (Qh 1)) (mC (.int 1))) [some (ZI p), some (.int i), some (.ref 0), none] [.lst []] = some (.tup (x.2.map QG), [.lst []]) := by simp [ep]
      unfold JX; rw [this]; rfl
    simp [JL, Zf, VQ, ei, el]
theorem QdT {N : Nat} {bs ws : List Str} {p : List Pt} (hg : GoodP N bs ws p) (hr : RL p) : ∃ nm, ∀ h : MH, X0 [ZI p] h = some (ZI [(nm, X p 0)], h) := by
  have h0 : 0 < p.length := List.length_pos_iff.mpr hg.ne
  have hx : p[0]? = some p[0] := List.getElem?_eq_getElem h0
  generalize p[0] = x at hx
  refine ⟨x.1, fun h => ?_⟩
  have er : ∀ h, Zz [ZI p, .int 0] h = some (.tup ((X p 0).map QG), h) := fun h => GX hg hr 6 0 h h0 (by omega)
  have ep : atI (p.map JN) 0 = some (JN x) := Vp hx
  refine Q7 (g := []) (by simp) ?_ (by simp)
  show _ = some (W.tup [W.tup [.str x.1, .tup ((X p 0).map QG)]], [])
  simp [Yl, Zf, ep, er]
end My

namespace My
open PySem PySem.Spec PyProof.Rows L2 Mi My3 My4 My5
theorem QaH {p : List Pt} (hg : RL p) {s : Spt} (h2 : SW s) (hw : s.way.length ≤ 4) : rk p s ≤ 140000 := by
  unfold rk
  split
  · omega
  · have hp := hg s.part s.k
    have hp0 := QaF (i := s.part)
    have key : ∀ (j : Nat) (q : Nat × Nat), s.way[j]? = some q → 1 + Qak p q.1 (q.2 + 1) ≤ 1 + Wt j := fun j q e => by
      have h1 := hg q.1 (q.2 + 1)
      have h3 := h2.up j q e
      cases j with
      | zero => have := QaF (i := q.1); show _ ≤ 1 + 65330; omega
      | succ j => have := WC (i := j) (q := q.1) h3; omega
    have hs : QcP p s.way ≤ 71700 := by
      unfold QcP
      generalize s.way = w at key hw
      match w, hw with
      | [], _ => simp
      | [a], _ =>
        have k0 := key 0 a rfl
        simp [Wt] at k0 ⊢; omega
      | [a, b], _ =>
        have k0 := key 0 a rfl
        have k1 := key 1 b rfl
        simp [Wt] at k0 k1 ⊢; omega
      | [a, b, c], _ =>
        have k0 := key 0 a rfl
        have k1 := key 1 b rfl
        have k2 := key 2 c rfl
        simp [Wt] at k0 k1 k2 ⊢; omega
      | [a, b, c, d], _ =>
        have k0 := key 0 a rfl
        have k1 := key 1 b rfl
        have k2 := key 2 c rfl
        have k3 := key 3 d rfl
        simp [Wt] at k0 k1 k2 k3 ⊢; omega
    omega
theorem Qcy {p : List Pt} {N : Nat} {bs ws : List Str} (hg : GoodP N bs ws p) (hN : N ≤ 100000) (hr : RL p) : ∀ (n : Nat) (s : Spt) (cs : List Nat), SV p s → SW s → (∀ c ∈ cs, c ≤ 1) → rk p s + cs.length * 140001 ≤ n → ∃ tr cs', Go p s cs tr cs' ∧ tr.length ≤ n := by
  intro n
  induction n with
  | zero =>
    intro s cs hs hs2 hc hn
    obtain ⟨hl, hk⟩ := VM hg hN hr hs hs2
    rcases Qf5 hl with e | ⟨t, e⟩ | ⟨a, b, e⟩
    · exact ⟨[], cs, .stop e, Nat.le_refl _⟩
    · have := hk.2.1.1.one t e; omega
    · cases cs with
      | nil => exact ⟨[], [], .wait e, Nat.le_refl _⟩
      | cons c cs => rw [List.length_cons, Nat.add_mul] at hn; omega
  | succ n ih =>
    intro s cs hs hs2 hc hn
    obtain ⟨hl, hk⟩ := VM hg hN hr hs hs2
    rcases Qf5 hl with e | ⟨t, e⟩ | ⟨a, b, e⟩
    · exact ⟨[], cs, .stop e, Nat.zero_le _⟩
    · have h1 := hk.2.1.1.one t e
      obtain ⟨v1, v2⟩ := Gn hg hN hr hs hs2 (t := t) (by rw [e]; simp)
      obtain ⟨tr, cs', g, hl⟩ := ih t cs v1 v2 hc (by omega)
      exact ⟨t :: tr, cs', .one e g, by simp; omega⟩
    · cases cs with
      | nil => exact ⟨[], [], .wait e, Nat.zero_le _⟩
      | cons c cs =>
        obtain ⟨v1, v2⟩ := Gn hg hN hr hs hs2 (t := pk a b c) (by rw [e]; exact XU)
        rw [List.length_cons, Nat.add_mul] at hn
        have h1 := QaH hr v2 (sv4 hg hN hr v1 v2)
        obtain ⟨tr, cs', g, hl⟩ := ih (pk a b c) cs v1 v2 (fun x hx => hc x (List.mem_cons_of_mem _ hx)) (by omega)
        exact ⟨pk a b c :: tr, cs', .two e (hc c List.mem_cons_self) g, by simp; omega⟩
section
variable {N : Nat} {bs ws : List Str} {p : List Pt} {nm : Str}
theorem Qfp {way : List (Nat × Nat)} {part : Nat} {A B : List Ln} (c : Ch p way part A B) : ∀ {part' : Nat} {A' B' : List Ln}, Ch p way part' A' B' → A = A' ∧ B = B' ∧ part = part' := by
  induction c with
  | nil =>
    intro part' A' B' c'
    cases c' with
    | nil => exact ⟨rfl, rfl, rfl⟩
    | snoc hw => simp at hw
  | @snoc r i k j x l A B way hw c hx hl hj ih =>
    intro part' A' B' c'
    cases c' with
    | nil => simp at hw
    | @snoc r' i' k' j' x' l' A0 B0 _ hw' c0 hx' hl' hj' =>
      rw [hw] at hw'
      obtain ⟨rfl, e⟩ := List.append_inj' hw' rfl
      cases e
      obtain ⟨rfl, rfl, _⟩ := ih c0
      rw [hx] at hx'; cases hx'
      rw [hl] at hl'; cases hl'
      rw [hj] at hj'; cases hj'
      exact ⟨rfl, rfl, rfl⟩
theorem Qdq {s t t' : Spt} (h : Sim p s t) (h' : Sim p s t') : t = t' := by
  obtain ⟨A, B, x, c, hx, _, rfl⟩ := h.ex
  obtain ⟨A', B', x', c', hx', _, rfl⟩ := h'.ex
  obtain ⟨rfl, _, _⟩ := Qfp c c'
  rw [hx] at hx'; cases hx'
  rfl
theorem Ue {x : Pt} {k : Nat} {l : Ln} (hl : x.2[k]? = some l) : ofl p x (k + 1) = ofl p x k + (ex p l).length := by
  have := My5.off_succ (E := EC p) hl
  rw [Jl, Jl] at this
  rw [this]
  simp [EC]
theorem Ua {x : Pt} {j k : Nat} (h : j ≤ k) : ofl p x j ≤ ofl p x k := by
  have := My5.off_mono (E := EC p) (xs := x.2) h
  rwa [Jl, Jl] at this
inductive At (p : List Pt) : Nat → List (Nat × Nat) → Nat → Nat → Nat → Prop where
  | here {i k : Nat} {x : Pt} {l : Ln} (hx : p[i]? = some x) (hl : x.2[k]? = some l) (hd : Kh p l = none) : At p i [] i k (ofl p x k)
  | down {i k0 j part k pos : Nat} {x : Pt} {l : Ln} {w : List (Nat × Nat)} (hx : p[i]? = some x) (hl : x.2[k0]? = some l) (hj : Kh p l = some j) (a : At p j w part k pos) : At p i ((i, k0) :: w) part k (ofl p x k0 + pos)
theorem Qd7 (hg : GoodP N bs ws p) {i part k pos : Nat} {w : List (Nat × Nat)} (a : At p i w part k pos) : pos < (X p i).length := by
  induction a with
  | here hx hl hd =>
    have := congrArg List.length (Qff hg hx hl)
    simp only [List.length_append, ex, hd, List.length_cons, List.length_nil] at this
    unfold ofl
    omega
  | down hx hl hj a ih =>
    have := congrArg List.length (Qff hg hx hl)
    simp only [List.length_append, ex, hj] at this
    unfold ofl
    omega
theorem QeG (hg : GoodP N bs ws p) {i part k pos : Nat} {w : List (Nat × Nat)} (a : At p i w part k pos) : ∀ {part' k' pos' : Nat} {w' : List (Nat × Nat)}, At p i w' part' k' pos' → pos = pos' → w = w' ∧ part = part' ∧ k = k' := by
  have apart : ∀ {x : Pt} {k0 k1 : Nat} {l0 l1 : Ln} {r0 r1 : Nat}, x.2[k0]? = some l0 → x.2[k1]? = some l1 → r0 < (ex p l0).length → r1 < (ex p l1).length → ofl p x k0 + r0 = ofl p x k1 + r1 → k0 = k1 := by
    intro x k0 k1 l0 l1 r0 r1 h0 h1 b0 b1 e
    rcases Nat.lt_trichotomy k0 k1 with z | z | z
    · have m := Ua (p := p) (x := x) (show k0 + 1 ≤ k1 from z)
      rw [Ue h0] at m
      omega
    · exact z
    · have m := Ua (p := p) (x := x) (show k1 + 1 ≤ k0 from z)
      rw [Ue h1] at m
      omega
  induction a with
  | @here i k x l hx hl hd =>
    intro part' k' pos' w' a' e
    have b0 : 0 < (ex p l).length := by simp [ex, hd]
    cases a' with
    | @here _ _ x' l' hx' hl' hd' =>
      rw [hx] at hx'; cases hx'
      exact ⟨rfl, rfl, apart hl hl' b0 (r1 := 0) (by simp [ex, hd']) e⟩
    | @down _ k1 j _ _ pos1 x' l' w1 hx' hl' hj' a1 =>
      rw [hx] at hx'; cases hx'
      have := apart hl hl' b0 (r1 := pos1) (by simp only [ex, hj']; exact Qd7 hg a1) e
      subst this
      rw [hl] at hl'; cases hl'
      rw [hd] at hj'; cases hj'
  | @down i k0 j part k pos x l w hx hl hj a ih =>
    intro part' k' pos' w' a' e
    have b0 : pos < (ex p l).length := by simp only [ex, hj]; exact Qd7 hg a
    cases a' with
    | @here _ _ x' l' hx' hl' hd' =>
      rw [hx] at hx'; cases hx'
      have := apart hl hl' b0 (r1 := 0) (by simp [ex, hd']) e
      subst this
      rw [hl] at hl'; cases hl'
      rw [hd'] at hj; cases hj
    | @down _ k1 j1 _ _ pos1 x' l' w1 hx' hl' hj' a1 =>
      rw [hx] at hx'; cases hx'
      have := apart hl hl' b0 (r1 := pos1) (by simp only [ex, hj']; exact Qd7 hg a1) e
      subst this
      rw [hl] at hl'; cases hl'
      rw [hj] at hj'; cases hj'
      obtain ⟨rfl, rfl, rfl⟩ := ih a1 (by omega)
      exact ⟨rfl, rfl, rfl⟩
theorem Qe8 {way : List (Nat × Nat)} {i : Nat} {A B : List Ln} (c : Ch p way i A B) : ∀ {w : List (Nat × Nat)} {part k pos : Nat}, At p i w part k pos → At p 0 (way ++ w) part k (A.length + pos) := by
  induction c with
  | nil => intro w part k pos a; simpa using a
  | @snoc r i k0 j x l A B way hw c hx hl hj ih =>
    intro w part k pos a
    have := ih (.down hx hl hj a)
    rw [hw]
    simp only [List.append_assoc, List.cons_append, List.nil_append, List.length_append]
    rw [Nat.add_assoc]
    exact this
theorem QcK {s : Spt} (h : LnS p s ≠ []) : s.head = false ∧ ∃ x l, p[s.part]? = some x ∧ x.2[s.k]? = some l ∧ Kh p l = none := by
  unfold LnS at h
  split at h
  · exact absurd rfl h
  · rename_i hh
    split at h
    · rename_i x hx
      split at h
      · rename_i l hl
        split at h
        · exact absurd rfl h
        · rename_i hd
          exact ⟨by simpa using hh, x, l, hx, hl, KA (by simpa using hd)⟩
      · exact absurd rfl h
    · exact absurd rfl h
theorem Qd9 (hg : GoodP N bs ws p) {s s' t : Spt} (h : Sim p s t) (h' : Sim p s' t) (n : LnS p s ≠ []) (n' : LnS p s' ≠ []) : s = s' := by
  obtain ⟨A, B, x, c, hx, _, e⟩ := h.ex
  obtain ⟨A', B', x', c', hx', _, e'⟩ := h'.ex
  obtain ⟨h1, y, l, hy, hl, hd⟩ := QcK n
  obtain ⟨h1', y', l', hy', hl', hd'⟩ := QcK n'
  rw [hx] at hy; cases hy
  rw [hx'] at hy'; cases hy'
  have a1 := Qe8 c (.here hx hl hd)
  have a2 := Qe8 c' (.here hx' hl' hd')
  rw [e] at e'
  have ek : A.length + ofl p x s.k = A'.length + ofl p x' s'.k := by injection e'
  obtain ⟨e1, e2, e3⟩ := QeG hg a1 a2 ek
  simp only [List.append_nil] at e1
  obtain ⟨w, q, k, b⟩ := s
  obtain ⟨w', q', k', b'⟩ := s'
  simp only at e1 e2 e3 h1 h1'
  subst e1 e2 e3 h1 h1'
  rfl
noncomputable def Xx (q : List Pt) (s : Spt) : Bool := !(LnS q s).isEmpty
theorem XQ {q : List Pt} {s t : Spt} {tr : List Spt} : (s :: t :: tr).dropLast.filter (Xx q) = (if Xx q s = true then [s] else []) ++ (t :: tr).dropLast.filter (Xx q) := by
  simp only [List.dropLast, List.filter_cons]
  split <;> rfl
structure Prs (p : List Pt) (nm : Str) (L L' : List Spt) (prs : List (Spt × Spt)) : Prop where
  l : prs.map (·.1) = L.filter (Xx p)
  r : prs.map (·.2) = L'.filter (Xx [(nm, X p 0)])
  s : ∀ q ∈ prs, Sim p q.1 q.2 ∧ LnS p q.1 ≠ []
theorem Uy {s t a a' : Spt} {tr tr2 : List Spt} {prs : List (Spt × Spt)} (S : Sim p s t) (e : LnS [(nm, X p 0)] t = LnS p s) (P : Prs p nm (a :: tr).dropLast (a' :: tr2).dropLast prs) : ∃ prs', Prs p nm (s :: a :: tr).dropLast (t :: a' :: tr2).dropLast prs' := by
  by_cases z : LnS p s = []
  · refine ⟨prs, ?_, ?_, P.s⟩
    · rw [XQ, if_neg (by simp [Xx, z]), List.nil_append]; exact P.l
    · rw [XQ, if_neg (by simp [Xx, e, z]), List.nil_append]; exact P.r
  · refine ⟨(s, t) :: prs, ?_, ?_, fun q hq => ?_⟩
    · rw [XQ, if_pos (by simp [Xx, z]), List.map_cons, P.l]; rfl
    · rw [XQ, if_pos (by simp [Xx, e, z]), List.map_cons, P.r]; rfl
    · rcases List.mem_cons.mp hq with rfl | hq
      · exact ⟨S, z⟩
      · exact P.s q hq
theorem Qdz (hg : GoodP N bs ws p) (hN : N ≤ 100000) (hr : RL p) {s : Spt} {cs cs' : List Nat} {tr : List Spt} (g : Go p s cs tr cs') : ∀ {t : Spt} {tr2 : List Spt} {cs2 : List Nat}, SV p s → SW s → SV [(nm, X p 0)] t → SW t → Sim p s t → Go [(nm, X p 0)] t cs tr2 cs2 →
    ∃ prs, Prs p nm (s :: tr).dropLast (t :: tr2).dropLast prs := by
  obtain ⟨hgq, hrq⟩ := X7 (nm := nm) hg hr
  have hNq : 65330 ≤ 100000 := by decide
  have vq : ∀ {t u : Spt}, SV [(nm, X p 0)] t → SW t → u ∈ nx [(nm, X p 0)] t → SV [(nm, X p 0)] u ∧ SW u := fun h h2 hu => Gn hgq hNq hrq h h2 hu
  have nil : Prs p nm [] [] [] := ⟨rfl, rfl, fun q hq => nomatch hq⟩
  induction g with
  | @stop s cs h =>
    intro t tr2 cs2 v1 v2 w1 w2 S g2
    have hn := (VM hg hN hr v1 v2).2.2.1.2
    rw [h] at hn
    rcases JH (nm := nm) hg hr S v1 hn with ⟨s', e, _⟩ | ⟨L', h1, _, h3⟩
    · simp at e
    · cases h3
      have hq := Y7 hgq hNq hrq w1 w2 h1
      cases g2 with
      | stop _ => exact ⟨[], nil⟩
      | one h2 _ => rw [hq] at h2; simp at h2
      | wait h2 => rw [hq] at h2; simp at h2
      | two h2 _ _ => rw [hq] at h2; simp at h2
  | @one s t' cs cs' tr h g ih =>
    intro t tr2 cs2 v1 v2 w1 w2 S g2
    have hn := (VM hg hN hr v1 v2).2.2.1.2
    obtain ⟨u1, u2⟩ := Gn hg hN hr v1 v2 (t := t') (by rw [h]; simp)
    rw [h] at hn
    rcases JH (nm := nm) hg hr S v1 hn with ⟨s', e, e2, S'⟩ | ⟨L', h1, h2, h3⟩
    · simp at e
      subst e
      obtain ⟨prs, P⟩ := ih u1 u2 w1 w2 S' g2
      exact ⟨prs, by rw [XQ, if_neg (by simp [Xx, e2]), List.nil_append]; exact P.l, P.r, P.s⟩
    · cases h3 with
      | @one _ a' S' =>
        have hq := Y7 hgq hNq hrq w1 w2 h1
        obtain ⟨z1, z2⟩ := vq w1 w2 (u := a') (by rw [hq]; simp)
        cases g2 with
        | stop h2 => rw [hq] at h2; simp at h2
        | one h2' g2 =>
          rw [hq] at h2'
          simp at h2'
          subst h2'
          obtain ⟨prs, P⟩ := ih u1 u2 z1 z2 S' g2
          exact Uy S h2 P
        | wait h2 => rw [hq] at h2; simp at h2
        | two h2 _ _ => rw [hq] at h2; simp at h2
  | @wait s a b h =>
    intro t tr2 cs2 v1 v2 w1 w2 S g2
    have hn := (VM hg hN hr v1 v2).2.2.1.2
    rw [h] at hn
    rcases JH (nm := nm) hg hr S v1 hn with ⟨s', e, _⟩ | ⟨L', h1, _, h3⟩
    · simp at e
    · cases h3 with
      | two S1 S2 =>
        have hq := Y7 hgq hNq hrq w1 w2 h1
        cases g2 with
        | stop h2 => rw [hq] at h2; simp at h2
        | one h2 _ => rw [hq] at h2; simp at h2
        | wait h2 => exact ⟨[], nil⟩
  | @two s a b c cs cs' tr h hc g ih =>
    intro t tr2 cs2 v1 v2 w1 w2 S g2
    have hn := (VM hg hN hr v1 v2).2.2.1.2
    obtain ⟨u1, u2⟩ := Gn hg hN hr v1 v2 (t := pk a b c) (by rw [h]; exact XU)
    rw [h] at hn
    rcases JH (nm := nm) hg hr S v1 hn with ⟨s', e, _⟩ | ⟨L', h1, h2, h3⟩
    · simp at e
    · cases h3 with
      | @two _ _ a' b' S1 S2 =>
        have hq := Y7 hgq hNq hrq w1 w2 h1
        obtain ⟨z1, z2⟩ := vq w1 w2 (u := pk a' b' c) (by rw [hq]; exact XU)
        cases g2 with
        | stop h2 => rw [hq] at h2; simp at h2
        | one h2 _ => rw [hq] at h2; simp at h2
        | two h2' _ g2 =>
          rw [hq] at h2'
          simp at h2'
          obtain ⟨rfl, rfl⟩ := h2'
          obtain ⟨prs, P⟩ := ih u1 u2 z1 z2 (QcO S1 S2) g2
          exact Uy S h2 P
end
end My

namespace My
open PySem PySem.Spec PyProof.Rows L2 Mi My3 My4 My5
theorem Uo {a : W} {h : MH} (pa : pln a = true) (da : dep a ≤ 40) : wNe a a h = some (.bl false, h) := by rw [Qjc pa pa da da, UC a pa]; rfl
theorem UI {H0 : MH} {o : MO} : (H0 ++ [o])[H0.length]? = some o := by simp
theorem Wh {H0 : MH} {o o' : MO} : (H0 ++ [o]).set H0.length o' = H0 ++ [o'] := by simp
theorem QbI {run : List Spt} (hne : run ≠ []) : Gh (run.map Qx) none (some (-1)) = run.dropLast.map Qx := by
  have : run.map Qx = run.dropLast.map Qx ++ [Qx (run.getLast hne)] := by
    rw [← List.map_singleton, ← List.map_append, List.dropLast_concat_getLast]
  rw [this, Qfc]

noncomputable def trS (s : Spt) : Tr := .t [.t (s.way.map fun q => .t [.i q.1, .i q.2]), .i s.part, .i s.k, .i (if s.head then 1 else 0)]
theorem QcJ : ∀ (qs : List (Nat × Nat)), (qs.map W3).mapM (YG 6) = some (qs.map fun q => Tr.t [.i q.1, .i q.2])
  | [] => rfl
  | q :: qs => by
    rw [List.map_cons, List.mapM_cons, QcJ qs]
    rfl
theorem QfT {s : Spt} : nrm (Qx s) = some (trS s) := by
  show YG 8 (.tup [.tup (s.way.map W3), .int s.part, .int s.k, .bl s.head]) = _
  simp only [YG, List.mapM_cons, List.mapM_nil, QcJ]
  rfl
theorem Qd1 {a b : Spt} (h : trS a = trS b) : a = b := by
  obtain ⟨w, q, k, hd⟩ := a
  obtain ⟨w', q', k', hd'⟩ := b
  unfold trS at h
  simp only [Tr.t.injEq, List.cons.injEq, Tr.i.injEq, and_true] at h
  obtain ⟨h1, h2, h3, h4⟩ := h
  have e1 : w = w' := by
    refine List.map_inj_right (f := fun q : Nat × Nat => Tr.t [.i q.1, .i q.2]) (fun x y e => ?_) |>.mp h1
    simp only [Tr.t.injEq, List.cons.injEq, Tr.i.injEq, and_true] at e
    exact Prod.ext (Int.ofNat.inj e.1) (Int.ofNat.inj e.2)
  have e2 : q = q' := Int.ofNat.inj h2
  have e3 : k = k' := Int.ofNat.inj h3
  have e4 : hd = hd' := by cases hd <;> cases hd' <;> simp at h4 ⊢
  subst e1 e2 e3 e4
  rfl
theorem Qeq {a b : Spt} (h : nrm (Qx a) = some (trS b)) : a = b := by
  rw [QfT] at h
  exact Qd1 (Option.some.inj h)
theorem QbK {h : MH} {n : Nat} {o : MO} (e : h[n]? = some o) : h.set n o = h := by
  apply List.ext_getElem?
  intro j
  rw [List.getElem?_set]
  split
  · rename_i z
    subst z
    rw [if_pos (List.getElem?_eq_some_iff.mp e).1, e]
  · rfl
theorem Qcc {a b v : W} {h : MH} : Qcs a [b, v] h = (Qez h a).bind fun kvs => (nrm b).bind fun k => match Gm kvs k with | some x => some (x, h) | none => (U0 a b v h).map fun h' => (v, h') := rfl
theorem GF {α : Type} {f g : α → Spt} {D : List α} {a : α} {h : MH} {n : Nat} (hn : h[n]? = some (.dct (D.map fun q => (Qx (f q), Qx (g q))))) (hf : ∀ q ∈ D, f q = f a → g q = g a) (hl : D.length < sizeLine) :
    ∃ D' : List α, (∀ q ∈ D', q ∈ D ∨ q = a) ∧ D'.length ≤ D.length + 1 ∧ Qcs (.ref n) [Qx (f a), Qx (g a)] h = some (Qx (g a), h.set n (.dct (D'.map fun q => (Qx (f q), Qx (g q))))) := by
  have e1 : Qez h (.ref n) = some (D.map fun q => (Qx (f q), Qx (g q))) := by simp only [Qez, hn]
  have hk : nrm (Qx (f a)) = some (trS (f a)) := QfT
  cases hv : Gm (D.map fun q => (Qx (f q), Qx (g q))) (trS (f a)) with
  | some x =>
    refine ⟨D, fun q hq => .inl hq, by omega, ?_⟩
    have hx : x = Qx (g a) := by
      unfold Gm at hv
      obtain ⟨⟨k', v'⟩, h1, h2⟩ := Option.map_eq_some_iff.mp hv
      have hm := List.mem_of_find?_eq_some h1
      have hp := List.find?_some h1
      obtain ⟨q, hq, e⟩ := List.mem_map.mp hm
      cases e
      have := Qeq (of_decide_eq_true hp)
      subst h2
      show Qx (g q) = _
      rw [hf q hq this]
    subst hx
    rw [Qcc, e1, Option.bind_some, hk, Option.bind_some, hv, QbK hn]
  | none =>
    refine ⟨D ++ [a], fun q hq => ?_, by simp, ?_⟩
    · rcases List.mem_append.mp hq with h | h
      · exact .inl h
      · exact .inr (List.mem_singleton.mp h)
    · rw [Qcc, e1, Option.bind_some, hk, Option.bind_some, hv]
      have : U0 (.ref n) (Qx (f a)) (Qx (g a)) h = some (h.set n (.dct ((D ++ [a]).map fun q => (Qx (f q), Qx (g q))))) := by
        unfold U0
        simp only [hn]
        rw [hk, Option.bind_some, if_pos (by rw [List.length_map]; exact hl)]
        unfold Qfo
        rw [hv]
        simp
      rw [this]
      rfl
noncomputable abbrev nS (p : List Pt) (run : List Spt) (a b : Option W) : MSt := [some (ZI p), some (.lst (run.map Qx)), some (.ref 0), a, b]
theorem Qam {p : List Pt} {run : List Spt} {h : MH} (hne : run ≠ []) (hv : ∀ s ∈ run, SV p s) (hl : run.length ≤ 15000000) (ho : ∀ x ∈ p, ∀ l ∈ x.2, ∃ y r, l = y :: r) : Ze [ZI p, .lst (run.map Qx)] h = some (.lst ((run.dropLast.filter (Xx p)).map Qx), h) := by
  have key := Jy (items := run.dropLast.map Qx) (b := J5 3) (body := VD) (fun j σ h => ∃ a b, σ = nS p run a b ∧ h = [.lst (((run.dropLast.take j).filter (Xx p)).map Qx)] ∧ ((run.dropLast.take j).filter (Xx p)).length ≤ j) (run.dropLast.map Qx) 0 (nS p run none none) [.lst []] ⟨_, _, rfl, by simp, by simp⟩ (by
    rintro j w hj σ h ⟨a, b, rfl, rfl, hle⟩
    rw [List.getElem?_map] at hj
    obtain ⟨s, hs, rfl⟩ := Option.map_eq_some_iff.mp hj
    have hjl := (List.getElem?_eq_some_iff.mp hs).1
    rw [List.length_dropLast] at hjl
    have hsm : s ∈ run := List.dropLast_subset _ (List.mem_iff_getElem?.mpr ⟨j, hs⟩)
    obtain ⟨⟨x, hx, hk, hh⟩, _⟩ := hv s hsm
    have htk : (run.dropLast.take (j + 1)).filter (Xx p) = (run.dropLast.take j).filter (Xx p) ++ if Xx p s = true then [s] else [] := by
      rw [List.take_add_one, hs, List.filter_append]
      simp only [Option.toList, List.filter_cons, List.filter_nil]
    rw [Nat.zero_add] at hle ⊢
    have ep := Vp hx
    obtain ⟨way, part, k, head⟩ := s
    simp only at ep hk hx hh
    refine ⟨nS p run (some (Qx ⟨way, part, k, head⟩)) b, rfl, nS p run (some (Qx ⟨way, part, k, head⟩)) (some (.tup (x.2.map QG))), [.lst (((run.dropLast.take (j + 1)).filter (Xx p)).map Qx)], .inl ?_, _, _, rfl, rfl, ?_⟩
    · rw [htk, List.map_append]
      cases head with
      | true =>
        rw [if_neg (by simp [Xx, Qdl])]
        simp [ep, Qx]
      | false =>
        by_cases hz : k = x.2.length
        · rw [if_neg (by simp [Xx, XH (s := ⟨way, part, k, false⟩) hx (by rw [hz]; simp)])]
          simp [ep, hz, Qx]
        · have hkl : k < x.2.length := by omega
          have hl' : x.2[k]? = some x.2[k] := List.getElem?_eq_getElem hkl
          generalize x.2[k] = l at hl'
          obtain ⟨y, r, rfl⟩ := ho x (List.mem_iff_getElem?.mpr ⟨part, hx⟩) l (List.mem_iff_getElem?.mpr ⟨k, hl'⟩)
          have el := Wn hl'
          have hkl' : (k : Int) < x.2.length := by omega
          have s1 : ((run.dropLast.take j).filter (Xx p)).length < sizeLine := szN (m := 0) (by omega)
          by_cases hd : y = "do"
          · subst hd
            rw [if_neg (by simp only [Xx, Zi hx hl']; rw [if_pos (by show (("do" : Str) == "do") = true; decide)]; simp)]
            simp [ep, el, hkl', Qx]
          · rw [if_pos (by simp only [Xx, Zi hx hl']; rw [if_neg (by show ¬ (y == ("do" : Str)) = true; simpa using hd)]; simp)]
            simp [ep, el, hkl', hd, s1, Qx]
    · rw [htk, List.length_append]
      have : (if Xx p ⟨way, part, k, head⟩ = true then [(⟨way, part, k, head⟩ : Spt)] else []).length ≤ 1 := by split <;> simp
      omega)
  obtain ⟨σ', h', el, a, b, rfl, rfl, _⟩ := key
  rw [List.length_map, Nat.zero_add, List.take_length] at el
  refine Qb2 (j := 0) (g := [.lst ((run.dropLast.filter (Xx p)).map Qx)]) (by simp) ?_ rfl QaJ
  have ei : JX (mSl (Qh 1) Ko (Ku (mUn KN (mC (.int 1))))) (nS p run none none) [.lst []] = some (run.dropLast.map Qx, none, [.lst []]) := by
    have : mSl (Qh 1) Ko (Ku (mUn KN (mC (.int 1)))) (nS p run none none) [.lst []] = some (.lst (run.dropLast.map Qx), [.lst []]) := by simp [QbI hne]
    unfold JX; rw [this]; rfl
  simp only [nS] at ei el
  rw [List.map_dropLast] at ei el
  simp [Vb, Zf, VQ, ei, el]
theorem QiS {N : Nat} {p : List Pt} {bs ws : List Str} (hg : GoodP N bs ws p) (hN : N ≤ 100000) (hr : RL p) {s : Spt} {cs cs' : List Nat} {tr : List Spt} (g : Go p s cs tr cs') : SV p s → SW s → ∀ t ∈ s :: tr, SV p t ∧ SW t := by
  induction g with
  | stop h => intro v1 v2 t ht; simp at ht; subst ht; exact ⟨v1, v2⟩
  | wait h => intro v1 v2 t ht; simp at ht; subst ht; exact ⟨v1, v2⟩
  | @one s t cs cs' tr h g ih =>
    intro v1 v2 u hu
    obtain ⟨w1, w2⟩ := Gn hg hN hr v1 v2 (t := t) (by rw [h]; simp)
    rcases List.mem_cons.mp hu with rfl | hu
    · exact ⟨v1, v2⟩
    · exact ih w1 w2 u hu
  | @two s a b c cs cs' tr h hc g ih =>
    intro v1 v2 u hu
    obtain ⟨w1, w2⟩ := Gn hg hN hr v1 v2 (t := pk a b c) (by rw [h]; exact XU)
    rcases List.mem_cons.mp hu with rfl | hu
    · exact ⟨v1, v2⟩
    · exact ih w1 w2 u hu
theorem UD {N : Nat} {bs ws : List Str} {p : List Pt} (hg : GoodP N bs ws p) : ∀ x ∈ p, ∀ l ∈ x.2, ∃ y r, l = y :: r := by
  intro x hx
  obtain ⟨i, hi⟩ := List.mem_iff_getElem?.mp hx
  exact fun l hl => Jw (hg.ok i x hi l hl)

theorem QbU {σ : MSt} {h : MH} {n : Nat} {f : Fd} (h3 : σ[3]? = some (some (.ref n))) (hn : h[n]? = some (Qw f)) : ∃ (cs : List Nat) (f' : Fd), cs.length ≤ 30 ∧ (∀ c ∈ cs, c ≤ 1) ∧
    JU Kx (Yu (Qc (Qr 2 Qg (Qc (Qh 3) (Qc (mC (.int 31)) Ql))) Ql)) [none, some 3] (J5 0) WJ (Qr 2 Qg (Qc (Qh 1) (Qc (mC (.int 2)) Ql))) σ h = some (.lst (Kc cs), h.set n (Qw f')) := by
  obtain ⟨a0, a1⟩ := Xm (f := f) (m := 31) (by decide)
  obtain ⟨many, em⟩ := QaW a0
  have hnl := (List.getElem?_eq_some_iff.mp hn).1
  have hv : Qh 3 σ h = some (.ref n, h) := by unfold Qh; rw [h3]
  have e1 := KR (f := f) (m := 31) (h := h) (n := n) (by decide) (by decide) hn
  rw [em] at e1
  have er : Yu (Qc (Qr 2 Qg (Qc (Qh 3) (Qc (mC (.int 31)) Ql))) Ql) σ h = some (QO 0 many, none, h.set n (Qw (tf f 31))) := Vq (by simp [hv, e1]) (by omega)
  have key := Yq (items := QO 0 many) (b := J5 0) (me := Qr 2 Qg (Qc (Qh 1) (Qc (mC (.int 2)) Ql))) (fin := Kx)
    (fun (acc : List Nat) τ h' => ∃ f' o, τ = [o, some (.ref n)] ∧ h' = h.set n (Qw f') ∧ ∀ c ∈ acc, c ≤ 1) (fun (c : Nat) => .int (c : Int)) (QO 0 many) [] [none, some (.ref n)] (h.set n (Qw (tf f 31))) ⟨_, none, rfl, rfl, by simp⟩ (by rw [Q3]; exact Xq (by simp; omega)) (by
      rintro w hw' acc τ h' ⟨f', o, rfl, rfl, ha⟩
      obtain ⟨d0, d1⟩ := Xm (f := f') (m := 2) (by decide)
      obtain ⟨c, ec⟩ := QaW d0
      have hn' : (h.set n (Qw f'))[n]? = some (Qw f') := by rw [List.getElem?_set]; simp [hnl]
      have e2 := KR (f := f') (m := 2) (by decide) (by decide) hn'
      rw [List.set_set, ec] at e2
      exact ⟨_, c, h.set n (Qw (tf f' 2)), rfl, by simp [e2], _, _, rfl, rfl, QY ha (by omega)⟩)
  obtain ⟨cs, τ', h', e, ⟨f', o', rfl, rfl, hl⟩, hlen⟩ := key
  rw [Q3] at hlen
  simp at hlen
  refine ⟨cs, f', by omega, hl, ?_⟩
  have hcap : QbG [none, some 3] σ = [none, some (.ref n)] := by simp [QbG, h3]
  unfold JU
  rw [er, Option.bind_some, hcap]
  exact e
end My

namespace My
open PySem PySem.Spec PyProof.Rows L2 Mi My3 My4 My5
noncomputable abbrev zS (ns : List Int) (j : Nat) (p q : List Pt) (n : Nat) (x7 x8 x9 x10 x11 x12 : Option W) : MSt := [some (.frz (ns.map .int)), some (.int j), some (ZI p), some (.ref (n + 1)), some (ZI q), some (.ref (n + 2)), some (.ref (n + 3)), x7, x8, x9, x10, x11, x12]
noncomputable def E1 (D : List (Spt × Spt)) : MO := .dct (D.map fun q => (Qx q.1, Qx q.2))
noncomputable def E2 (D : List (Spt × Spt)) : MO := .dct (D.map fun q => (Qx q.2, Qx q.1))
noncomputable abbrev H4 (h0 : MH) (a b c d : MO) : MH := h0 ++ [a, b, c, d]
theorem Qi9 {h0 : MH} {a b c d : MO} : (H4 h0 a b c d)[h0.length + 1]? = some b := by simp [H4]
theorem QhZ {h0 : MH} {a b c d : MO} : (H4 h0 a b c d)[h0.length + 2]? = some c := by simp [H4]
theorem Qi2 {h0 : MH} {a b c d : MO} : (H4 h0 a b c d)[h0.length + 3]? = some d := by simp [H4]
theorem Qjy {h0 : MH} {a b c d x : MO} : (H4 h0 a b c d).set (h0.length + 1) x = H4 h0 a x c d := by unfold H4; rw [List.set_append_right _ _ (by omega)]; simp
theorem Qke {h0 : MH} {a b c d x : MO} : (H4 h0 a b c d).set (h0.length + 2) x = H4 h0 a b x d := by unfold H4; rw [List.set_append_right _ _ (by omega)]; simp
theorem QjO {h0 : MH} {a b c d x : MO} : (H4 h0 a b c d).set (h0.length + 3) x = H4 h0 a b c x := by unfold H4; rw [List.set_append_right _ _ (by omega)]; simp
noncomputable def Pq (p : List Pt) (q : Spt × Spt) : Prop := Sim p q.1 q.2 ∧ LnS p q.1 ≠ []
theorem Qcp {h : MH} {n : Nat} {kvs : List (W × W)} (e : h[n]? = some (.dct kvs)) : tyW h "dict" (.ref n) = true := by simp [tyW, e]
section
variable {N : Nat} {bs ws : List Str} {p qf : List Pt} {ns : List Int} {j : Nat} {h0 : MH} {x7 x8 x9 x10 : Option W} {A B : MO}
theorem Qbs (hg : GoodP N bs ws p) {q : Spt × Spt} {D1 D2 : List (Spt × Spt)} (hq : Pq p q) (o1 : ∀ r ∈ D1, Pq p r) (o2 : ∀ r ∈ D2, Pq p r) (l1 : D1.length < sizeLine) (l2 : D2.length < sizeLine) :
    ∃ D1' D2', (∀ r ∈ D1', Pq p r) ∧ (∀ r ∈ D2', Pq p r) ∧ D1'.length ≤ D1.length + 1 ∧ D2'.length ≤ D2.length + 1 ∧
      YF (zS ns j p qf h0.length x7 x8 x9 x10 (some (Qx q.1)) (some (Qx q.2))) (H4 h0 A B (E1 D1) (E2 D2)) = some (.nx (zS ns j p qf h0.length x7 x8 x9 x10 (some (Qx q.1)) (some (Qx q.2))) (H4 h0 A B (E1 D1') (E2 D2'))) := by
  obtain ⟨D1', m1, n1, e1⟩ := GF (f := fun q : Spt × Spt => q.1) (g := fun q : Spt × Spt => q.2) (D := D1) (a := q) (h := H4 h0 A B (E1 D1) (E2 D2)) (n := h0.length + 2) QhZ (fun r hr e => by
    have h1 := (o1 r hr).1
    rw [e] at h1
    exact Qdq h1 hq.1) l1
  rw [Qke] at e1
  obtain ⟨D2', m2, n2, e2⟩ := GF (f := fun q : Spt × Spt => q.2) (g := fun q : Spt × Spt => q.1) (D := D2) (a := q) (h := H4 h0 A B (E1 D1') (E2 D2)) (n := h0.length + 3) Qi2 (fun r hr e => by
    have h1 := (o2 r hr).1
    rw [e] at h1
    exact Qd9 hg h1 hq.1 (o2 r hr).2 hq.2) l2
  rw [QjO] at e2
  refine ⟨D1', D2', fun r hr => ?_, fun r hr => ?_, n1, n2, ?_⟩
  · rcases m1 r hr with z | z
    · exact o1 r z
    · rw [z]; exact hq
  · rcases m2 r hr with z | z
    · exact o2 r z
    · rw [z]; exact hq
  · have t1 : tyW (H4 h0 A B (E1 D1) (E2 D2)) "dict" (.ref (h0.length + 2)) = true := Qcp QhZ
    have t2 : tyW (H4 h0 A B (E1 D1') (E2 D2)) "dict" (.ref (h0.length + 3)) = true := Qcp Qi2
    have e1' : Qcs (.ref (h0.length + 2)) [Qx q.1, Qx q.2] (H4 h0 A B (E1 D1) (E2 D2)) = some (Qx q.2, H4 h0 A B (E1 D1') (E2 D2)) := e1
    have e2' : Qcs (.ref (h0.length + 3)) [Qx q.2, Qx q.1] (H4 h0 A B (E1 D1') (E2 D2)) = some (Qx q.1, H4 h0 A B (E1 D1') (E2 D2')) := e2
    have z1 : ∀ h, wNe (Qx q.1) (Qx q.1) h = some (.bl false, h) := fun h => Uo QbO (Nat.le_trans Qe3 (by decide))
    have z2 : ∀ h, wNe (Qx q.2) (Qx q.2) h = some (.bl false, h) := fun h => Uo QbO (Nat.le_trans Qe3 (by decide))
    generalize H4 h0 A B (E1 D1) (E2 D2) = Ha at *
    generalize H4 h0 A B (E1 D1') (E2 D2) = Hb at *
    generalize H4 h0 A B (E1 D1') (E2 D2') = Hc at *
    simp only [QgU, Qg0, Qfd, Qhq, QjX, QcG, Qfs, zS]
    simp [-QhN, t1, t2, e1', e2', z1, z2]
theorem Ug (hg : GoodP N bs ws p) {items : List W} : ∀ (prs : List (Spt × Spt)) (D1 D2 : List (Spt × Spt)) (x11 x12 : Option W), (∀ q ∈ prs, Pq p q) → (∀ r ∈ D1, Pq p r) → (∀ r ∈ D2, Pq p r) → D1.length + prs.length < sizeLine → D2.length + prs.length < sizeLine →
    ∃ y11 y12 D1' D2', (∀ r ∈ D1', Pq p r) ∧ (∀ r ∈ D2', Pq p r) ∧ D1'.length ≤ D1.length + prs.length ∧ D2'.length ≤ D2.length + prs.length ∧
      Ve items none (KT [11, 12]) YF (prs.map fun q => .tup [Qx q.1, Qx q.2]) (zS ns j p qf h0.length x7 x8 x9 x10 x11 x12) (H4 h0 A B (E1 D1) (E2 D2)) = some (.nx (zS ns j p qf h0.length x7 x8 x9 x10 y11 y12) (H4 h0 A B (E1 D1') (E2 D2')))
  | [], D1, D2, x11, x12, _, o1, o2, _, _ => ⟨x11, x12, D1, D2, o1, o2, by simp, by simp, Uw⟩
  | q :: prs, D1, D2, x11, x12, hp, o1, o2, l1, l2 => by
    rw [List.length_cons] at l1 l2
    obtain ⟨D1', D2', p1, p2, n1, n2, e⟩ := Qbs (ns := ns) (j := j) (qf := qf) (h0 := h0) (x7 := x7) (x8 := x8) (x9 := x9) (x10 := x10) (A := A) (B := B) hg (hp q List.mem_cons_self) o1 o2 (by omega) (by omega)
    obtain ⟨y11, y12, D1'', D2'', q1, q2, m1, m2, e'⟩ := Ug hg (items := items) prs D1' D2' (some (Qx q.1)) (some (Qx q.2)) (fun r hr => hp r (List.mem_cons_of_mem _ hr)) p1 p2 (by omega) (by omega)
    refine ⟨y11, y12, D1'', D2'', q1, q2, by rw [List.length_cons]; omega, by rw [List.length_cons]; omega, ?_⟩
    rw [List.map_cons, QaI (σ1 := zS ns j p qf h0.length x7 x8 x9 x10 (some (Qx q.1)) (some (Qx q.2))) rfl e]
    exact e'
end
structure Told (p q : List Pt) (cs : List Nat) (u : Nat) (R1 R2 : List Spt) (prs : List (Spt × Spt)) : Prop where
  r1 : ∀ h, Je [ZI p, .lst (Kc cs)] h = some (.tup [.lst (R1.map Qx), .int u], h)
  r2 : ∀ h, Je [ZI q, .lst (Kc cs)] h = some (.tup [.lst (R2.map Qx), .int u], h)
  l1 : ∀ h, Ze [ZI p, .lst (R1.map Qx)] h = some (.lst ((prs.map (·.1)).map Qx), h)
  l2 : ∀ h, Ze [ZI q, .lst (R2.map Qx)] h = some (.lst ((prs.map (·.2)).map Qx), h)
  pr : ∀ r ∈ prs, Pq p r
  sz : prs.length ≤ 5000000
theorem Qc4 {p : List Pt} {bs ws : List Str} {nm : Str} (hg : GoodP 700 bs ws p) {cs : List Nat} (hl : cs.length ≤ 30) (hc : ∀ c ∈ cs, c ≤ 1) : ∃ u R1 R2 prs, Told p [(nm, X p 0)] cs u R1 R2 prs := by
  have hr := Qcd hg
  obtain ⟨hg2, hr2⟩ := X7 hg hr (nm := nm)
  obtain ⟨v1, v2⟩ := sv0 hg
  obtain ⟨w1, w2⟩ := sv0 hg2
  have hk := QaH hr (s := sp0) v2 (by simp)
  have hk2 := QaH hr2 (s := sp0) w2 (by simp)
  obtain ⟨tr, cs', g, ht⟩ := Qcy hg (by decide) hr 4500000 sp0 cs v1 v2 hc (by omega)
  obtain ⟨tr2, cs2, g2, ht2⟩ := Qcy hg2 (by decide) hr2 4500000 sp0 cs w1 w2 hc (by omega)
  have h0 := List.length_pos_iff.mpr hg.ne
  have hx : p[0]? = some p[0] := List.getElem?_eq_getElem h0
  have hS : Sim p sp0 sp0 := ⟨⟨[], [], p[0], .nil, hx, Nat.zero_le _, by simp [ofl]⟩⟩
  obtain ⟨e1, _⟩ := Qft hg (by decide) hr g v1 v2 w1 w2 hS g2
  obtain ⟨prs, P⟩ := Qdz hg (by decide) hr g v1 v2 w1 w2 hS g2
  subst e1
  refine ⟨cs.length - cs2.length, sp0 :: tr, sp0 :: tr2, prs, YM hg (by decide) hr g (by omega), YM hg2 (by decide) hr2 g2 (by omega), fun h => ?_, fun h => ?_, P.s, ?_⟩
  · rw [Qam (by simp) (fun s hs => (QiS hg (by decide) hr g v1 v2 s hs).1) (by simp; omega) (UD hg), P.l]
  · rw [Qam (by simp) (fun s hs => (QiS hg2 (by decide) hr2 g2 w1 w2 s hs).1) (by simp; omega) (UD hg2), P.r]
  · have h1 := congrArg List.length P.l
    rw [List.length_map] at h1
    have h2 := List.length_filter_le (Xx p) (sp0 :: tr).dropLast
    rw [List.length_dropLast, List.length_cons] at h2
    omega
theorem Qc1 {prs : List (Spt × Spt)} : Qcx ((prs.map (·.1)).map Qx) ((prs.map (·.2)).map Qx) = prs.map fun q => .tup [Qx q.1, Qx q.2] := by
  induction prs with
  | nil => rfl
  | cons q prs ih =>
    unfold Qcx at ih ⊢
    simp only [List.map_cons, List.zip_cons_cons]
    rw [ih]
theorem Qdo {p : List Pt} {bs ws : List Str} {nm : Str} {ns : List Int} {j : Nat} {h0 : MH} {A : MO} {f : Fd} {D1 D2 : List (Spt × Spt)} {x7 x8 x9 x10 x11 x12 : Option W} (hg : GoodP 700 bs ws p) (o1 : ∀ r ∈ D1, Pq p r) (o2 : ∀ r ∈ D2, Pq p r) (l1 : D1.length ≤ 5000000) (l2 : D2.length ≤ 5000000) :
    ∃ y8 y9 y10 y11 y12 f' D1' D2', (∀ r ∈ D1', Pq p r) ∧ (∀ r ∈ D2', Pq p r) ∧ D1'.length ≤ D1.length + 5000000 ∧ D2'.length ≤ D2.length + 5000000 ∧
      Ya (zS ns j p [(nm, X p 0)] h0.length x7 x8 x9 x10 x11 x12) (H4 h0 A (Qw f) (E1 D1) (E2 D2)) = some (.nx (zS ns j p [(nm, X p 0)] h0.length x7 y8 y9 y10 y11 y12) (H4 h0 A (Qw f') (E1 D1') (E2 D2'))) := by
  obtain ⟨cs, f', hcl, hc1, ec⟩ := QbU (σ := zS ns j p [(nm, X p 0)] h0.length x7 x8 x9 x10 x11 x12) (h := H4 h0 A (Qw f) (E1 D1) (E2 D2)) (n := h0.length + 1) rfl Qi9
  rw [Qjy] at ec
  obtain ⟨u, R1, R2, prs, T⟩ := Qc4 (nm := nm) hg hcl hc1
  have hs := T.sz
  have sL : ∀ {n : Nat}, n ≤ 16000000 → n < sizeLine := fun h => szN (m := 0) (by omega)
  obtain ⟨y11, y12, D1', D2', q1, q2, m1, m2, e⟩ := Ug (ns := ns) (j := j) (qf := [(nm, X p 0)]) (h0 := h0) (x7 := x7) (x8 := some (.lst (Kc cs))) (x9 := some (.lst ((prs.map (·.1)).map Qx))) (x10 := some (.lst ((prs.map (·.2)).map Qx))) (A := A) (B := Qw f') hg (items := prs.map fun q => .tup [Qx q.1, Qx q.2]) prs D1 D2 x11 x12 T.pr o1 o2 (sL (by omega)) (sL (by omega))
  refine ⟨some (.lst (Kc cs)), some (.lst ((prs.map (·.1)).map Qx)), some (.lst ((prs.map (·.2)).map Qx)), y11, y12, f', D1', D2', q1, q2, by omega, by omega, ?_⟩
  generalize H4 h0 A (Qw f) (E1 D1) (E2 D2) = Ha at *
  generalize H4 h0 A (Qw f') (E1 D1) (E2 D2) = Hb at *
  generalize H4 h0 A (Qw f') (E1 D1') (E2 D2') = Hc at *
  have ez : Qb1 (Qc (Qh 9) (Qc (Qh 10) Ql)) (zS ns j p [(nm, X p 0)] h0.length x7 (some (.lst (Kc cs))) (some (.lst ((prs.map (·.1)).map Qx))) (some (.lst ((prs.map (·.2)).map Qx))) x11 x12) Hb = some (prs.map fun q => .tup [Qx q.1, Qx q.2], none, Hb) := by
    have : (Qc (Qh 9) (Qc (Qh 10) Ql)) (zS ns j p [(nm, X p 0)] h0.length x7 (some (.lst (Kc cs))) (some (.lst ((prs.map (·.1)).map Qx))) (some (.lst ((prs.map (·.2)).map Qx))) x11 x12) Hb = some ([.lst ((prs.map (·.1)).map Qx), .lst ((prs.map (·.2)).map Qx)], Hb) := by simp [-List.map_map]
    unfold Qb1
    rw [this, Option.bind_some]
    show some (Qcx _ _, none, Hb) = _
    rw [Qc1]
  have r1 := T.r1
  have r2 := T.r2
  have d1 := T.l1
  have d2 := T.l2
  simp only [zS] at ec ez e
  simp [-List.map_map, ec, r1, r2, d1, d2, VQ, ez, e]
theorem QhO {m : Int} (h0 : 2 ≤ m) (h1 : m ≤ 8) : Builtin.Range.small 0 m 2 = true ∧ ∃ n : Nat, (Builtin.Range.rangeSize 0 m 2).toNat = n ∧ n ≤ 4 := by
  have key : ∀ n : Fin 9, Builtin.Range.small 0 (n.val : Int) 2 = true ∧ (Builtin.Range.rangeSize 0 (n.val : Int) 2).toNat ≤ 4 := by decide
  obtain ⟨n, rfl⟩ := Int.eq_ofNat_of_zero_le (Int.le_trans (by decide) h0)
  have h := key ⟨n, Nat.lt_succ_of_le (Int.ofNat_le.mp h1)⟩
  exact ⟨h.1, _, rfl, h.2⟩
theorem QbQ {ms : MA} {σ : MSt} {h h' : MH} {m : Int} (e : ms σ h = some ([.int 0, .int m, .int 2], h')) (h0 : 2 ≤ m) (h1 : m ≤ 8) : ∃ n : Nat, n ≤ 4 ∧ Qce ms σ h = some (ZY 0 2 n, none, h') := by
  obtain ⟨hs, n, hn, hl⟩ := QhO h0 h1
  refine ⟨n, hl, ?_⟩
  unfold Qce
  rw [e, Option.bind_some]
  refine (if_pos ⟨by decide, by decide, hs⟩).trans ?_
  rw [hn]
theorem Qbk {ns : List Int} {j : Nat} {x2 x3 x4 x5 x6 x7 x8 x9 x10 x11 x12 : Option W} {h : MH} (hj : j < 50) : ∃ y2 y3 y4 y5 y6 y7 y8 y9 y10 y11 y12 h', KW [some (.frz (ns.map .int)), some (.int j), x2, x3, x4, x5, x6, x7, x8, x9, x10, x11, x12] h = some (.nx [some (.frz (ns.map .int)), some (.int j), y2, y3, y4, y5, y6, y7, y8, y9, y10, y11, y12] h') := by
  obtain ⟨f1, ef1⟩ := GL ns j (by omega)
  obtain ⟨bs, ws, p0, f1', hb, hw, hg0, ea⟩ := QeN f1 3 3 5 8 (by decide) (by decide) (by decide) (by decide)
  obtain ⟨f2, ef2⟩ := GL ns (j + 1) (by omega)
  obtain ⟨p, f2', hg, ed⟩ := UQ f2 bs ws p0 hg0
  obtain ⟨nm, ef⟩ := QdT hg (Qcd hg)
  have e1 := ef1 h
  have e2 := ea (h ++ [Qw f1]) h.length UI
  rw [Wh] at e2
  have e3 := ef2 (h ++ [Qw f1'])
  have e4 := ed (h ++ [Qw f1'] ++ [Qw f2]) (h ++ [Qw f1']).length UI
  rw [Wh] at e4
  push_cast at e3 e2
  have loop := Jy (items := QO 0 2) (b := J5 7) (body := Ya) (fun i σ h' => ∃ y7 y8 y9 y10 y11 y12 f' D1 D2, σ = zS ns j p [(nm, X p 0)] h.length y7 y8 y9 y10 y11 y12 ∧ h' = H4 h (Qw f1') (Qw f') (E1 D1) (E2 D2) ∧ (∀ r ∈ D1, Pq p r) ∧ (∀ r ∈ D2, Pq p r) ∧ D1.length ≤ i * 5000000 ∧ D2.length ≤ i * 5000000) (QO 0 2) 0
    (zS ns j p [(nm, X p 0)] h.length x7 x8 x9 x10 x11 x12) (H4 h (Qw f1') (Qw f2') (E1 []) (E2 [])) ⟨_, _, _, _, _, _, _, _, _, rfl, rfl, by simp, by simp, by simp, by simp⟩ (by
    rintro i w hi σ h' ⟨y7, y8, y9, y10, y11, y12, f', D1, D2, rfl, rfl, o1, o2, l1, l2⟩
    have hi2 : i < 2 := by have := (List.getElem?_eq_some_iff.mp hi).1; rwa [Q3] at this
    rw [Nat.zero_add] at l1 l2 ⊢
    obtain ⟨z8, z9, z10, z11, z12, f'', D1', D2', q1, q2, m1, m2, e⟩ := Qdo (nm := nm) (ns := ns) (j := j) (h0 := h) (A := Qw f1') (f := f') (x7 := some w) (x8 := y8) (x9 := y9) (x10 := y10) (x11 := y11) (x12 := y12) hg o1 o2 (by omega) (by omega)
    exact ⟨_, rfl, _, _, .inl e, some w, z8, z9, z10, z11, z12, f'', D1', D2', rfl, rfl, q1, q2, by omega, by omega⟩)
  obtain ⟨σ', h', el, y7, y8, y9, y10, y11, y12, f', D1, D2, rfl, rfl, _⟩ := loop
  refine ⟨some (ZI p), some (.ref (h.length + 1)), some (ZI [(nm, X p 0)]), some (.ref (h.length + 2)), some (.ref (h.length + 3)), y7, y8, y9, y10, y11, y12, H4 h (Qw f1') (Qw f') (E1 D1) (E2 D2), ?_⟩
  have er : ∀ σ h, Yu (Qc (mC (.int 2)) Ql) σ h = some (QO 0 2, none, h) := fun σ h => Vq (j := 2) (by simp) (by decide)
  have n1 : ∀ σ h, Qbc σ h = some (.ref h.length, h ++ [.dct []]) := fun _ _ => rfl
  have hE : h ++ [Qw f1', Qw f2', MO.dct [], MO.dct []] = H4 h (Qw f1') (Qw f2') (E1 []) (E2 []) := rfl
  simp only [List.length_append, List.length_cons, List.length_nil, List.append_assoc, List.cons_append, List.nil_append, Nat.zero_add] at e4 e3 e2 e1 ⊢
  simp only [zS] at el
  simp [e1, e2, e3, e4, ef, n1, VQ, er]
  rw [hE, el]
theorem main (ns : List Int) (_ : ns.length ≤ 63) : ∃ h', Xc [.frz (ns.map W.int)] [] = some (.bl true, h') := by
  obtain ⟨m, hm⟩ : ∃ m : Int, m = (if (if (ns.length : Int) < 8 then (ns.length : Int) else 8) > 2 then (if (ns.length : Int) < 8 then (ns.length : Int) else 8) else 2) := ⟨_, rfl⟩
  have h0 : 2 ≤ m := by rw [hm]; split <;> omega
  have h1 : m ≤ 8 := by rw [hm]; split <;> split <;> omega
  have e0 : (Qc (mC (.int 0)) (Qc (mFn Qf2 (Qc (mC (.int 2)) (Qc (mFn Qfg (Qc (mC (.int 8)) (Qc (mFn JO (Qc (Qh 0) Ql)) Ql))) Ql))) (Qc (mC (.int 2)) Ql))) [some (.frz (ns.map .int)), none, none, none, none, none, none, none, none, none, none, none, none] [] = some ([.int 0, .int m, .int 2], []) := by
    rw [hm]
    simp only [QcG, s_c, Qkq, Qga, Qfs, QdP, Qfn, Qgx, Qgy, List.length_map]
  obtain ⟨n, hn, er⟩ := QbQ e0 h0 h1
  have loop := Jy (items := ZY 0 2 n) (b := J5 1) (body := KW) (fun _ σ _ => ∃ y1 y2 y3 y4 y5 y6 y7 y8 y9 y10 y11 y12, σ = [some (.frz (ns.map .int)), y1, y2, y3, y4, y5, y6, y7, y8, y9, y10, y11, y12]) (ZY 0 2 n) 0 [some (.frz (ns.map .int)), none, none, none, none, none, none, none, none, none, none, none, none] [] ⟨_, _, _, _, _, _, _, _, _, _, _, _, rfl⟩ (by
    rintro i w hi σ h ⟨y1, y2, y3, y4, y5, y6, y7, y8, y9, y10, y11, y12, rfl⟩
    obtain ⟨hil, rfl⟩ := Vw hi
    obtain ⟨z2, z3, z4, z5, z6, z7, z8, z9, z10, z11, z12, h', e⟩ := Qbk (ns := ns) (j := 2 * i) (x2 := y2) (x3 := y3) (x4 := y4) (x5 := y5) (x6 := y6) (x7 := y7) (x8 := y8) (x9 := y9) (x10 := y10) (x11 := y11) (x12 := y12) (h := h) (by omega)
    have ew : (0 : Int) + (i : Int) * 2 = ((2 * i : Nat) : Int) := by omega
    rw [ew]
    exact ⟨_, rfl, _, h', .inl e, _, _, _, _, _, _, _, _, _, _, _, _, rfl⟩)
  obtain ⟨σ', h', el, y1, y2, y3, y4, y5, y6, y7, y8, y9, y10, y11, y12, rfl⟩ := loop
  refine ⟨h', ?_⟩
  simp [Xc, Zf, VQ, er, el]
end My

def PySem.W.Fast.tw17625027218810366201 : Unit := ()
def PySem.W.Fast.tw11009607640771269233 : Unit := ()
def PySem.W.Fast.tw1514168972111755351 : Unit := ()
def PySem.W.Fast.tw5373314735342291294 : Unit := ()
def PySem.W.Fast.tw16768015181095521111 : Unit := ()
def PySem.W.Fast.tw547521571355387053 : Unit := ()
def PySem.W.Fast.tw17750523648339723524 : Unit := ()
def PySem.W.Fast.tw15582021269215694041 : Unit := ()
def PySem.W.Fast.tw3283860482945394337 : Unit := ()
def PySem.W.Fast.tw3126163066835437185 : Unit := ()
def PySem.W.Fast.tw6378198659814253690 : Unit := ()
def PySem.W.Fast.tw15584449675070637175 : Unit := ()
def PySem.W.Fast.tw7904864792102334669 : Unit := ()
def PySem.W.Fast.tw4084020047240487016 : Unit := ()
def PySem.W.Fast.tw14167920096615696563 : Unit := ()
def PySem.W.Fast.tw1019647437949408109 : Unit := ()
def PySem.W.Fast.tw1011000188450556406 : Unit := ()
def PySem.W.Fast.tw4402102946305309244 : Unit := ()
def PySem.W.Fast.tw6038687290632359853 : Unit := ()
def PySem.W.Fast.tw16812926756344342150 : Unit := ()
def PySem.W.Fast.tw15215775395184085172 : Unit := ()
def PySem.W.Fast.tw15469868877689489036 : Unit := ()
def PySem.W.Fast.tw1137279635957275522 : Unit := ()
def PySem.W.Fast.tw15720846809037513487 : Unit := ()
def PySem.W.Fast.tw12176843689529345211 : Unit := ()
def PySem.W.Fast.tw15778179338330590256 : Unit := ()
def PySem.W.Fast.tw8475989200539847528 : Unit := ()
def PySem.W.Fast.tw4333182035380505552 : Unit := ()
def PySem.W.Fast.tw3221300179771925750 : Unit := ()
def PySem.W.Fast.tw8158265991769645962 : Unit := ()
def PySem.W.Fast.tw97678256858718359 : Unit := ()
def PySem.W.Fast.tw16294457454001564263 : Unit := ()
def PySem.W.Fast.tw390565680461040033 : Unit := ()
open PySem PySem.W PyProof.Rows
set_option maxRecDepth 100000 in
set_option maxHeartbeats 0 in
theorem PySem.Challenge.cw_doneroom_k17_whole_spots_and_gaps_holds : PySem.Challenge.rw_doneroom_k17_whole_spots_and_gaps.Holds := by
  w_on; o_law; k_head; (case hw => w_witness2)
  k_fill
  refine Mi.Qho (l := PySem.Challenge.rw_doneroom_k17_whole_spots_and_gaps) (st := My.KC) (sem := My.Xc) (k := 10) rfl rfl ⟨rfl, by decide, by decide⟩ rfl (fun w h Y => PySem.W.kIn_of Y) (fun _ _ _ _ _ _ _ _ => .of_eq rfl) ?F My.main
  case F =>
    intro w mg h KX G
    have d__law_take : Mi.DefAt (L2.KOf KX) mg "_law_take" My.Jh ["feed", "many"] := by
      dsimp only [L2.KOf]
      refine' Mi.Qy KX G ?a ?l ?c ?k ?b
      (case a => k_is); (case l => k_is); (case c => k_is); (case k => k_is)
      (case b => exact fun _ _ _ _ _ _ us hl => match us, hl with | [_, _], _ => rfl)
    have d__law_names : Mi.DefAt (L2.KOf KX) mg "_law_names" My.Zh ["feed", "many"] := by
      dsimp only [L2.KOf]
      refine' Mi.Qy KX G ?a ?l ?c ?k ?b
      (case a => k_is); (case l => k_is); (case c => k_is); (case k => k_is)
      (case b => exact fun _ _ _ _ _ _ us hl => match us, hl with | [_, _], _ => rfl)
    have d__law_step_on : Mi.DefAt (L2.KOf KX) mg "_law_step_on" My.Zq ["lines", "opened"] := by
      dsimp only [L2.KOf]
      refine' Mi.Qy KX G ?a ?l ?c ?k ?b
      (case a => k_is); (case l => k_is); (case c => k_is); (case k => k_is)
      (case b => exact fun _ _ _ _ _ _ us hl => match us, hl with | [_, _], _ => rfl)
    have d__law_plain : Mi.DefAt (L2.KOf KX) mg "_law_plain" My.ZW ["feed", "boxes", "words"] := by
      dsimp only [L2.KOf]
      refine' Mi.Qy KX G ?a ?l ?c ?k ?b
      (case a => k_is); (case l => k_is); (case c => k_is); (case k => k_is)
      (case b => exact fun _ _ _ _ _ _ us hl => match us, hl with | [_, _, _], _ => rfl)
    have d__law_part : Mi.DefAt (L2.KOf KX) mg "_law_part" My.Jk ["feed", "size", "menus", "later", "opens", "dos"] := by
      dsimp only [L2.KOf]
      refine' Mi.Qy KX G ?a ?l ?c ?k ?b
      (case a => k_is); (case l => k_is); (case c => k_is); (case k => k_is)
      (case b => exact fun _ _ _ _ _ _ us hl => match us, hl with | [_, _, _, _, _, _], _ => rfl)
    have d__law_program : Mi.DefAt (L2.KOf KX) mg "_law_program" My.Zr ["feed", "bounds"] := by
      dsimp only [L2.KOf]
      refine' Mi.Qy KX G ?a ?l ?c ?k ?b
      (case a => k_is); (case l => k_is); (case c => k_is); (case k => k_is)
      (case b => exact fun _ _ _ _ _ _ us hl => match us, hl with | [_, _], _ => rfl)
    have d__law_great : Mi.DefAt (L2.KOf KX) mg "_law_great" My.Zj ["feed"] := by
      dsimp only [L2.KOf]
      refine' Mi.Qy KX G ?a ?l ?c ?k ?b
      (case a => k_is); (case l => k_is); (case c => k_is); (case k => k_is)
      (case b => exact fun _ _ _ _ _ _ us hl => match us, hl with | [_], _ => rfl)
    have d__law_any : Mi.DefAt (L2.KOf KX) mg "_law_any" My.JB ["feed", "bounds"] := by
      dsimp only [L2.KOf]
      refine' Mi.Qy KX G ?a ?l ?c ?k ?b
      (case a => k_is); (case l => k_is); (case c => k_is); (case k => k_is)
      (case b => exact fun _ _ _ _ _ _ us hl => match us, hl with | [_, _], _ => rfl)
    have d__law_feed : Mi.DefAt (L2.KOf KX) mg "_law_feed" My.Jj ["script", "k"] := by
      dsimp only [L2.KOf]
      refine' Mi.Qy KX G ?a ?l ?c ?k ?b
      (case a => k_is); (case l => k_is); (case c => k_is); (case k => k_is)
      (case b => exact fun _ _ _ _ _ _ us hl => match us, hl with | [_, _], _ => rfl)
    have d__law_dressed : Mi.DefAt (L2.KOf KX) mg "_law_dressed" My.Zs ["program", "feed"] := by
      dsimp only [L2.KOf]
      refine' Mi.Qy KX G ?a ?l ?c ?k ?b
      (case a => k_is); (case l => k_is); (case c => k_is); (case k => k_is)
      (case b => exact fun _ _ _ _ _ _ us hl => match us, hl with | [_, _], _ => rfl)
    have d_part_number : Mi.DefAt (L2.KOf KX) mg "part_number" My.ZG ["program", "name"] := by
      dsimp only [L2.KOf]
      refine' Mi.Qy KX G ?a ?l ?c ?k ?b
      (case a => k_is); (case l => k_is); (case c => k_is); (case k => k_is)
      (case b => exact fun _ _ _ _ _ _ us hl => match us, hl with | [_, _], _ => rfl)
    have d_flat_lines : Mi.DefAt (L2.KOf KX) mg "flat_lines" My.ZB ["program", "part"] := by
      dsimp only [L2.KOf]
      refine' Mi.Qy KX G ?a ?l ?c ?k ?b
      (case a => k_is); (case l => k_is); (case c => k_is); (case k => k_is)
      (case b => exact fun _ _ _ _ _ _ us hl => match us, hl with | [_, _], _ => rfl)
    have d_flat : Mi.DefAt (L2.KOf KX) mg "flat" My.X4 ["program"] := by
      dsimp only [L2.KOf]
      refine' Mi.Qy KX G ?a ?l ?c ?k ?b
      (case a => k_is); (case l => k_is); (case c => k_is); (case k => k_is)
      (case b => exact fun _ _ _ _ _ _ us hl => match us, hl with | [_], _ => rfl)
    have d__law_done : Mi.DefAt (L2.KOf KX) mg "_law_done" My.Jg ["program", "run"] := by
      dsimp only [L2.KOf]
      refine' Mi.Qy KX G ?a ?l ?c ?k ?b
      (case a => k_is); (case l => k_is); (case c => k_is); (case k => k_is)
      (case b => exact fun _ _ _ _ _ _ us hl => match us, hl with | [_, _], _ => rfl)
    have d_line_of : Mi.DefAt (L2.KOf KX) mg "line_of" My.JZ ["program", "spot"] := by
      dsimp only [L2.KOf]
      refine' Mi.Qy KX G ?a ?l ?c ?k ?b
      (case a => k_is); (case l => k_is); (case c => k_is); (case k => k_is)
      (case b => exact fun _ _ _ _ _ _ us hl => match us, hl with | [_, _], _ => rfl)
    have d_at_gap : Mi.DefAt (L2.KOf KX) mg "at_gap" My.Vm ["spot", "k"] := by
      dsimp only [L2.KOf]
      refine' Mi.Qy KX G ?a ?l ?c ?k ?b
      (case a => k_is); (case l => k_is); (case c => k_is); (case k => k_is)
      (case b => exact fun _ _ _ _ _ _ us hl => match us, hl with | [_, _], _ => rfl)
    have d_at_head : Mi.DefAt (L2.KOf KX) mg "at_head" My.JR ["spot", "k"] := by
      dsimp only [L2.KOf]
      refine' Mi.Qy KX G ?a ?l ?c ?k ?b
      (case a => k_is); (case l => k_is); (case c => k_is); (case k => k_is)
      (case b => exact fun _ _ _ _ _ _ us hl => match us, hl with | [_, _], _ => rfl)
    have d_level_change : Mi.DefAt (L2.KOf KX) mg "level_change" My.Zw ["line"] := by
      dsimp only [L2.KOf]
      refine' Mi.Qy KX G ?a ?l ?c ?k ?b
      (case a => k_is); (case l => k_is); (case c => k_is); (case k => k_is)
      (case b => exact fun _ _ _ _ _ _ us hl => match us, hl with | [_], _ => rfl)
    have d_head_of : Mi.DefAt (L2.KOf KX) mg "head_of" My.JP ["lines", "k"] := by
      dsimp only [L2.KOf]
      refine' Mi.Qy KX G ?a ?l ?c ?k ?b
      (case a => k_is); (case l => k_is); (case c => k_is); (case k => k_is)
      (case b => exact fun _ _ _ _ _ _ us hl => match us, hl with | [_, _], _ => rfl)
    have d_found_behind : Mi.DefAt (L2.KOf KX) mg "found_behind" My.Zp ["lines", "k", "kind"] := by
      dsimp only [L2.KOf]
      refine' Mi.Qy KX G ?a ?l ?c ?k ?b
      (case a => k_is); (case l => k_is); (case c => k_is); (case k => k_is)
      (case b => exact fun _ _ _ _ _ _ us hl => match us, hl with | [_, _, _], _ => rfl)
    have d_or_of : Mi.DefAt (L2.KOf KX) mg "or_of" My.V6 ["lines", "k"] := by
      dsimp only [L2.KOf]
      refine' Mi.Qy KX G ?a ?l ?c ?k ?b
      (case a => k_is); (case l => k_is); (case c => k_is); (case k => k_is)
      (case b => exact fun _ _ _ _ _ _ us hl => match us, hl with | [_, _], _ => rfl)
    have d_end_of : Mi.DefAt (L2.KOf KX) mg "end_of" My.Vl ["lines", "k"] := by
      dsimp only [L2.KOf]
      refine' Mi.Qy KX G ?a ?l ?c ?k ?b
      (case a => k_is); (case l => k_is); (case c => k_is); (case k => k_is)
      (case b => exact fun _ _ _ _ _ _ us hl => match us, hl with | [_, _], _ => rfl)
    have d_next_in_part : Mi.DefAt (L2.KOf KX) mg "next_in_part" My.Zu ["lines", "spot"] := by
      dsimp only [L2.KOf]
      refine' Mi.Qy KX G ?a ?l ?c ?k ?b
      (case a => k_is); (case l => k_is); (case c => k_is); (case k => k_is)
      (case b => exact fun _ _ _ _ _ _ us hl => match us, hl with | [_, _], _ => rfl)
    have d_behind_do : Mi.DefAt (L2.KOf KX) mg "behind_do" My.Jf ["spot"] := by
      dsimp only [L2.KOf]
      refine' Mi.Qy KX G ?a ?l ?c ?k ?b
      (case a => k_is); (case l => k_is); (case c => k_is); (case k => k_is)
      (case b => exact fun _ _ _ _ _ _ us hl => match us, hl with | [_], _ => rfl)
    have d_next_spots : Mi.DefAt (L2.KOf KX) mg "next_spots" My.ZQ ["program", "spot"] := by
      dsimp only [L2.KOf]
      refine' Mi.Qy KX G ?a ?l ?c ?k ?b
      (case a => k_is); (case l => k_is); (case c => k_is); (case k => k_is)
      (case b => exact fun _ _ _ _ _ _ us hl => match us, hl with | [_, _], _ => rfl)
    have d_first_spot : Mi.DefAt (L2.KOf KX) mg "first_spot" My.ZV [] := by
      dsimp only [L2.KOf]
      refine' Mi.Qy KX G ?a ?l ?c ?k ?b
      (case a => k_is); (case l => k_is); (case c => k_is); (case k => k_is)
      (case b => exact fun _ _ _ _ _ _ us hl => match us, hl with | [], _ => rfl)
    have d_run_by : Mi.DefAt (L2.KOf KX) mg "run_by" My.Vk ["program", "choices"] := by
      dsimp only [L2.KOf]
      refine' Mi.Qy KX G ?a ?l ?c ?k ?b
      (case a => k_is); (case l => k_is); (case c => k_is); (case k => k_is)
      (case b => exact fun _ _ _ _ _ _ us hl => match us, hl with | [_, _], _ => rfl)
    have d_law : Mi.DefAt (L2.KOf KX) mg "law" My.KC ["script"] := by
      dsimp only [L2.KOf]
      refine' Mi.Qy KX G ?a ?l ?c ?k ?b
      (case a => k_is); (case l => k_is); (case c => k_is); (case k => k_is)
      (case b => exact fun _ _ _ _ _ _ us hl => match us, hl with | [_], _ => rfl)
    have b_len : mg "len" = none := by
      refine' PySem.W.mg_none_of KX G ?a
      (case a => k_is)
    have b_max : mg "max" = none := by
      refine' PySem.W.mg_none_of KX G ?a
      (case a => k_is)
    have b_min : mg "min" = none := by
      refine' PySem.W.mg_none_of KX G ?a
      (case a => k_is)
    have b_range : mg "range" = none := by
      refine' PySem.W.mg_none_of KX G ?a
      (case a => k_is)
    have b_tuple : mg "tuple" = none := by
      refine' PySem.W.mg_none_of KX G ?a
      (case a => k_is)
    have b_zip : mg "zip" = none := by
      refine' PySem.W.mg_none_of KX G ?a
      (case a => k_is)
    exact ⟨d_law, fun base kb nb => My.QdM d__law_take d__law_names d__law_step_on d__law_plain d__law_part d__law_program d__law_great d__law_any d__law_feed d__law_dressed d_part_number d_flat_lines d_flat d__law_done d_line_of d_at_gap d_at_head d_level_change d_head_of d_found_behind d_or_of d_end_of d_next_in_part d_behind_do d_next_spots d_first_spot d_run_by d_law b_len b_max b_min b_range b_tuple b_zip⟩
